import PyProof.Rows.All
import Wide.All
import OpenK.AllK
import Wide.FinOn
import HandS.Base
import HandS.Call
import HandS.List
import HandS.Exc
import HandS.ExcOwn
import HandS.ExcInit
import HandS.ExcIs
import HandS.ExcField
import HandS.ExcValue
import HandS.IsInst
import HandS.Wide
import HandS.Comp
import HandS.Ends
import HandS.Words
import HandS.Iter
import HandS.Text
import HandS.Lambda
import HandS.Evl
import HandS.AnyAll
import HandS.WideBits
import HandS.Zip
import HandS.TupAny
import HandS.TupMul
import HandS.Gcd
import KE.GoesEnum
import HandS.GenList
import PyProof.GenArm
import HandS.TryMany
import HandS.DeepEq
import KE.DataMinMax
import HandS.MapSum
import HandS.Style
import HandS.Deep
import HandS.EndTab
import KE.KNest
import HandS.TupSets
import HandS.SortInts
import Wide.Txt2
import HandS.SetFor
import HandS.TryOnly
import HandS.CallLocal
import HandS.Star
import HandS.SortOrd
import HandS.SortRule
import HandS.DictTup
import KE.KDictDisplayH
import HandS.Dict
import PySem.Challenge.RW_hardbits_k73_errors_of_maps
section
set_option Elab.async false
set_option linter.all false
set_option maxRecDepth 100000
set_option maxHeartbeats 2000000
/-! Exceptions of own classes as values: made, asked for their class, their fields read. -/
namespace PySem.W
open PySem PySem.Spec PySem.Calls PyProof.Rows
section
variable {prog : Program} {w : World} {A : Around} {E : Value → Shared → Prop} {s : Shared} {K : Frag} {x D : Addr} {ox : Obj} {od : Option Obj}
end
end PySem.W

namespace L2
open PySem PySem.Spec PyProof.Rows
section
variable {X : Cx}
/-- at a: an exception of the class at D: one made plainly, or one with its own dict -/
def IsEx (H : Hp) (a D : Addr) : Prop := H a = some (ExO (.ref D) a) ∨ ∃ d fs, H a = some (exo a D (some d)) ∧ H d = some (exd d fs)
/-- isinstance(e, c), e a tracked exception -/
def rIsX (K : PySem.W.Frag) : List V → Hp → VK → Prop := fun xs H Q => ∃ (a D : Addr) (c : V) (cv : Value) (b : Bool), xs = [.ref a, c] ∧ IsEx H a D ∧ ExcC K D ∧ (∀ u, RelV c u → u = cv) ∧ PySem.W.kitOne K (.ref D) cv = some b ∧ Q (.bl b) H
/-- e.n, e a tracked exception with its own dict -/
def tXv (K : PySem.W.Frag) (f : Str) (te : TE) : TE := fun σ H Q => te σ H fun x H1 => ∃ (a C dd : Addr) (fs : List (Str × V)) (v : V), x = .ref a ∧ XfC K C ∧ PySem.W.findIn K (.ref C) f = some none ∧ H1 a = some (exo a C (some dd)) ∧ H1 dd = some (exd dd fs) ∧ fs.lookup f = some v ∧ Q v H1
/-- B.__init__(self, ..), B an own class above that has no __init__ of its own -/
theorem pe_hinit {x : Str} {B : Addr} {e : Expr} {es : List Expr} {ta : TA} {p1 p2 pos : Pos} {pl : Sem Bool} (hg : Gl X x) (hm : X.mg x = some (.ref B))
    (hr : PySem.W.specialIn X.K (.ref B) "__getattribute__" = some (some (.builtin "type.__getattribute__"))) (rd : PySem.W.readsIn X.K B (.type "type") = true)
    (vV : PySem.W.findCls X.K (.ref B) (.type "type") "__init__" = some (.val (.builtin "ValueError.__init__"))) (ha : PA X (e :: es) ta)
    (hdb : (x == ("__debug__" : Str)) = false := by decide)
    (hc : eval (.Call (.Attribute (.Name x p1) "__init__" p2) (e :: es) [] pos) X.env = (do
      let ov ← eval (.Name x p1) X.env
      standAt p2.atName
      let (f, first) ← holding [ov] (getMethod ov "__init__" pl)
      callWith pos f first (backTo pos (starEach (e :: es) X.env)) (backToKw pos (keywordEach [] X.env))) := by rfl)
    (he : starEach (e :: es) X.env = (false, eval e X.env) :: starEach es X.env := by rfl) (hpl : (backTo pos (starEach es X.env)).any (·.1) = false := by rfl) :
    PE X (.Call (.Attribute (.Name x p1) "__init__" p2) (e :: es) [] pos) (tVeI X.K ta) := by
  refine ⟨fun pins s σ H Q I h => ?_⟩
  refine PySem.W.methodCall_KW (ld_glob I hg hm ?_ hdb) hc
  refine PySem.W.method_cls I.kIn hr ?_
  refine PySem.W.cls_value I.kIn rd vV (by decide +kernel) ?_
  show wpAny _ _ (callWith pos (Value.builtin "ValueError.__init__") [] (backTo pos (starEach (e :: es) X.env)) []) _ _ _
  refine PyProof.Rows.callWith_method1 (thn (ha.run pos pins _ σ H _ (I.tok _) h) fun us s1 ⟨vs, H1, I1, r1, a, C, ws, ev, hl, T, ea, q⟩ => ?_) he hpl
  subst ev
  cases r1 with
  | @cons _ u0 _ ur ra rw' =>
    obtain rfl : u0 = Value.ref a := ra
    have hlen : ur.length ≤ sizeLine := by
      rw [← Paired.length rw', sizeLine_eq]
      omega
    exact oinit_ok T I1 ea hlen fun s' J => ⟨.non, H1, J, rfl, q⟩

/-- C(e, ..), C's own __init__ keeping sp, as a value -/
def tMkV (C : Addr) (sp : Sp) (dvs : List V) (ta : TA) : TE := fun σ H Q => ta σ H fun vs H1 => vs.length ≤ 1000 ∧ ∀ a, H1 a = none → sp (.ref a :: (vs ++ dvs)) (upd H1 a (exo a C none))
  (fun v H2 => v = .non ∧ H2 a ≠ none ∧ Q (.ref a) H2) (fun _ _ _ => False)
end
end L2
end
section
set_option Elab.async false
set_option linter.all false
set_option maxRecDepth 100000
set_option maxHeartbeats 2000000
/-! Defs called where no guard stands (so that repr is told), powers, repr of data. -/
namespace L2
open PySem PySem.Spec PyProof.Rows
def CPowB (i j : Int) : Prop := 0 ≤ j ∧ (PySem.Builtin.Int.intBits i : Int) * j ≤ 2 ^ 27
theorem op_powB {X : Cx} : OpR X (binaryOp .Pow) (rI CPowB fun i j => .int (i ^ j.toNat)) := opI fun _ _ _ _ _ _ _ hc q => pow_int hc.1 hc.2 q

/-- a datum that repr tells: as Dp, an empty dict too -/
inductive Dq (K : PySem.W.Frag) (H : Hp) : V → PyData → Prop
  | of {v : V} {d : PyData} (h : Dp K H v d) : Dq K H v d
  | dict {a : Addr} (h : H a = some (.dK [])) : Dq K H (.ref a) (.dict [])
theorem Dp.noDict {K : PySem.W.Frag} {H : Hp} : ∀ {v : V} {d : PyData}, Dp K H v d → d.hasDict = false := by
  have one : ∀ (d : PyData) (v : V), Dp K H v d → d.hasDict = false := fun d =>
    PyData.rec (motive_1 := fun d => ∀ v, Dp K H v d → d.hasDict = false) (motive_2 := fun ds => ∀ vs, DpAll K H vs ds → PyData.hasDictAll ds = false) (motive_3 := fun _ => True) (motive_4 := fun _ => True)
      (fun _ _ => by simp [PyData.hasDict]) (fun _ _ _ => by simp [PyData.hasDict]) (fun _ _ _ => by simp [PyData.hasDict]) (fun _ _ _ => by simp [PyData.hasDict])
      (fun ds ih v h => by cases h with | lst hs ha => simpa [PyData.hasDict] using ih _ ha)
      (fun ds ih v h => by cases h with | tup hs ha => simpa [PyData.hasDict] using ih _ ha)
      (fun _ _ v h => by cases h)
      (fun _ _ => by simp [PyData.hasDictAll])
      (fun d ds ih ihs vs h => by
        cases h with
        | cons h1 h2 => simp [PyData.hasDictAll, ih _ h1, ihs _ h2])
      trivial (fun _ _ _ _ => trivial) (fun _ _ _ _ => trivial) d
  exact fun {v d} h => one d v h
section
variable {X : Cx}
/-- repr(x) -/
def rRepr (K : PySem.W.Frag) : List V → Hp → VK → Prop := fun xs H Q => ∃ (x : V) (d : PyData), xs = [x] ∧ Dq K H x d ∧ d.showable = true ∧ d.depth ≤ 60 ∧ d.shown.length ≤ sizeLine ∧ Q (.str d.shown) H
theorem call_reprD (hg : X.A.guards = some []) (hu : X.A.units + 64 < cLine) : CallR X (.builtin "repr") (rRepr X.K) := by
  intro pins s σ H xs us Q I r h
  obtain ⟨x, d, rfl, hd, hs, hdp, hz, q⟩ := h
  obtain ⟨u, rfl, ru⟩ := vals1 r
  have fin : ∀ h' t tk, (∀ b o, s.heap.get? b = some o → h'.get? b = some o) → EP X pins σ Q (.str d.shown t) { s with heap := h', toks := tk } := fun h' t tk k =>
    ⟨.str d.shown, H, I.kept k, ⟨_, rfl⟩, q⟩
  have isref : ∀ (a : Addr) (as : List Addr), u = .ref a → Reads s.heap (.ref a) d as → (d.hasDict = true → sysModules ∉ as) → wpAny (model X.prog X.w) X.A (call (.builtin "repr") [u]) (EP X pins σ Q) X.xe s := fun a as e rr hm => by
    subst e
    exact repr_of_reads' rr hs hm hg (by omega) (fun _ _ e => e) fin hz
  cases hd with
  | of hd =>
    obtain ⟨as, rr⟩ := Dp.reads I d x u hd ru
    have nd := hd.noDict
    cases hd with
    | non => cases ru; exact PySem.P.repr_of_none (fin _ _ _ fun _ _ e => e)
    | bl b => cases ru; exact PySem.P.repr_of_bool (by cases b <;> exact fin _ _ _ fun _ _ e => e)
    | int i =>
      obtain ⟨t, rfl⟩ := ru
      exact PySem.P.repr_of_int (by simpa [PyData.showable] using hs) (fin _ _ _ fun _ _ e => e)
    | str z => obtain ⟨t, rfl⟩ := ru; exact PySem.P.repr_of_str (fin _ _ _ fun _ _ e => e) hz
    | lst h1 h2 => exact isref _ as ru (by cases ru; exact rr) (PyData.noDict_hsm nd)
    | tup h1 h2 => exact isref _ as ru (by cases ru; exact rr) (PyData.noDict_hsm nd)
  | @dict a ha =>
    obtain ⟨_, hne, vs, hkv, hdo⟩ := I.hok a _ ha
    cases hkv
    obtain ⟨o, es, ep, ho, hx, hdt, _, hps, _⟩ := hdo
    have hes' : es.toList = [] := List.eq_nil_of_length_eq_zero hps.length
    have rr : Reads s.heap (.ref a) (.dict []) (a :: [] ++ []) := Reads.dict (es := es) (n := ep) (as := []) (bs := []) ho hx.1 hdt (by rw [hes']; exact .nil) (by rw [hes']; exact .nil)
    refine isref a _ ru rr fun _ hm => ?_
    have : sysModules = a := by simpa using hm
    subst this
    simp at hne
end
section
variable {P : Program} {w : World} {K : PySem.W.Frag} {mg : Str → Option Value} {base : Heap}
/-- as FnOk, where no guard stands at the call -/
structure FnG (P : Program) (w : World) (K : PySem.W.Frag) (mg : Str → Option Value) (base : Heap) (CX : CXT) (k : Nat) (f : Addr) (fd : FuncData) (ps : List Str) (sp : Sp) : Prop where
  len : ∀ vs H Q E, sp vs H Q E → vs.length = ps.length
  run : ∀ (A : Around) (outer : List Env) (s : Shared) (H : Hp) (args : Args) (us : List Value) (vs : List V) (Q : VK) (E : XK), A.guards = some [] → Room k A → Env0 P w K mg base A outer s H →
    BindsTo s fd args (ps.zip us) → Vals vs us → sp vs H Q E → codeAny (model P w) A (.call (.ref f) args) (CR CX outer P w H s Q E) s
/-- THE RULE for a def at one call: its body's term and reading at that call's around -/
theorem body_run {CX : CXT} {k : Nat} {f : Addr} {x qual : Str} {st : Stmt} {fd : FuncData} {N ps : List Str} (F : Fun K x qual st f fd) (S : FnScope N ps (defScope st)) {A : Around} {outer : List Env} {s : Shared} {H : Hp} {args : Args} {us : List Value} {vs : List V} {Q : VK} {E : XK}
    (hl : vs.length = ps.length) (hr : Room (k + 1) A) (e0 : Env0 P w K mg base A outer s H) (hb : BindsTo s fd args (ps.zip us)) (r : Vals vs us)
    (hbody : ∀ cdv : Value, Room k (A.deeper (envOfC qual (defScope st) s.heap.objs.size f cdv)) →
      ∃ t, PSs (cxOf CX P w K mg base N qual (defScope st) f cdv A outer s H E) (defBody st) t ∧ t { nx := fun _ H' => Q .non H', rt := Q } (start N vs) H) :
    codeAny (model P w) A (.call (.ref f) args) (CR CX outer P w H s Q E) s := by
  obtain ⟨oc, od, kV, doc, pm, an, cdv, ct, osl, rfl, lk, hcd⟩ := F.ex
  have KX : K.In s.heap := e0.mod.kin.keeps fun b o e => (e0.bs b o e).1
  refine codeAny_call_function hr.depth (KX _ _ lk) rfl S.co S.gen rfl (PySem.W.codeRec_of KX hcd) (hb _ _ _ _ ?_)
  refine wpAny_newFunctionEnv_cells S.kind (fun y hy => ?_) fun env he s1 z => ?_
  · rcases S.par y.1 (List.of_mem_zip hy).1 with q | q
    · exact .inl q
    · exact .inr ⟨q, PySem.W.cellsFrom_some _ _ _ (.inl q)⟩
  subst he
  have lim : s.heap.NoLimit := e0.mod.nolimit.keeps fun b o e => (e0.bs b o e).1
  refine ⟨lim.keeps z.toInCall.keep, codeAny_func ?_⟩
  obtain ⟨t, ht, hq⟩ := hbody cdv (hr.deeper _)
  have I := inv_start (CX := CX) (N := N) (E := E) S hr.hd e0 hl r z
  refine wpAny_mono (ht.run [] s1 (start N vs) H _ I hq) (fun fl s' hs => ?_) fun e s' hs => hs
  cases fl with
  | ret u => obtain ⟨v, _, H', J, rv, q⟩ := hs; exact ⟨v, H', J.os, J.bare, J.base, J.hok, rv, q⟩
  | next => obtain ⟨_, H', J, q⟩ := hs; exact ⟨.non, H', J.os, J.bare, J.base, J.hok, rfl, q⟩
  | brk => obtain ⟨_, _, _, q⟩ := hs; exact q.elim
  | cont => obtain ⟨_, _, _, q⟩ := hs; exact q.elim
theorem Fun.okG {k : Nat} {f : Addr} {x qual : Str} {st : Stmt} {fd : FuncData} {N ps : List Str} {sp : Sp} (F : Fun K x qual st f fd) (S : FnScope N ps (defScope st)) (len : ∀ vs H Q E, sp vs H Q E → vs.length = ps.length)
    (hbody : ∀ (cdv : Value) (A : Around) (outer : List Env) (s : Shared) (H : Hp) (vs : List V) (Q : VK) (E : XK), (A.deeper (envOfC qual (defScope st) s.heap.objs.size f cdv)).guards = some [] → Room k (A.deeper (envOfC qual (defScope st) s.heap.objs.size f cdv)) → sp vs H Q E →
      ∃ t, PSs (cxOf CX0 P w K mg base N qual (defScope st) f cdv A outer s H E).nox (defBody st) t ∧ t { nx := fun _ H' => Q .non H', rt := Q } (start N vs) H) : FnG P w K mg base CX0 (k + 1) f fd ps sp :=
  ⟨len, fun A outer s H args us vs Q E hg hr e0 hb r hsp => body_run F S (len _ _ _ _ hsp) hr e0 hb r fun cdv hr' => by
    obtain ⟨t, h, q⟩ := hbody cdv A outer s H vs Q E hg hr' hsp
    exact ⟨t, h.nox, q⟩⟩
end
end L2
end
section
set_option Elab.async false
set_option linter.all false
set_option maxRecDepth 100000
set_option maxHeartbeats 2000000
/-! Readings that a rewriter can reckon: what stands at an address is told by functions. -/
namespace HbE
open PySem PySem.Spec PyProof.Rows L2

/-- a list or a tuple that stands at an address: which of both, its items -/
def lk (H : Hp) (a : Addr) : Option (Bool × List V) := match H a with
  | some (.lst xs) => some (true, xs)
  | some (.tup xs) => some (false, xs)
  | some (.frz _ (.lst xs)) => some (true, xs)
  | some (.frz _ (.tup xs)) => some (false, xs)
  | _ => none
theorem lk_seq {K : PySem.W.Frag} {H : Hp} {a : Addr} {b : Bool} {xs : List V} (h : lk H a = some (b, xs)) : (b = true ∧ SqL K H a xs) ∨ (b = false ∧ SqT K H a xs) := by
  unfold lk at h
  split at h
  · rename_i e; cases h; exact .inl ⟨rfl, .inl (.inl e)⟩
  · rename_i e; cases h; exact .inr ⟨rfl, .inl (.inl e)⟩
  · rename_i e; cases h; exact .inl ⟨rfl, .inl (.inr ⟨_, e⟩)⟩
  · rename_i e; cases h; exact .inr ⟨rfl, .inl (.inr ⟨_, e⟩)⟩
  · cases h
theorem lk_lst {H : Hp} {a : Addr} {xs : List V} (h : H a = some (.lst xs)) : lk H a = some (true, xs) := by unfold lk; rw [h]
theorem lk_tup {H : Hp} {a : Addr} {xs : List V} (h : H a = some (.tup xs)) : lk H a = some (false, xs) := by unfold lk; rw [h]

/-- the items of the list or tuple at an address -/
def sq (H : Hp) (a : Addr) : Option (List V) := (lk H a).map (·.2)
theorem sq_lk {H : Hp} {a : Addr} {xs : List V} (h : sq H a = some xs) : ∃ b, lk H a = some (b, xs) := by
  obtain ⟨⟨b, ys⟩, h1, h2⟩ := Option.map_eq_some_iff.mp h
  cases h2
  exact ⟨b, h1⟩
theorem sq_of {H : Hp} {a : Addr} {b : Bool} {xs : List V} (h : lk H a = some (b, xs)) : sq H a = some xs := by unfold sq; rw [h]; rfl
theorem sq_lst {H : Hp} {a : Addr} {xs : List V} (h : H a = some (.lst xs)) : sq H a = some xs := sq_of (lk_lst h)
theorem lk_updL {H : Hp} {a : Addr} {xs : List V} : lk (upd H a (.lst xs)) a = some (true, xs) := lk_lst upd_same
theorem lk_updT {H : Hp} {a : Addr} {xs : List V} : lk (upd H a (.tup xs)) a = some (false, xs) := lk_tup upd_same
theorem sq_updL {H : Hp} {a : Addr} {xs : List V} : sq (upd H a (.lst xs)) a = some xs := sq_of lk_updL
theorem sq_updT {H : Hp} {a : Addr} {xs : List V} : sq (upd H a (.tup xs)) a = some xs := sq_of lk_updT
/-- x[i] of a list or tuple -/
def rIxA : R2 := fun x y H Q => ∃ p i xs v, x = .ref p ∧ y = .int i ∧ sq H p = some xs ∧ atI xs i = some v ∧ Q v H
theorem ix_any {X : Cx} : IxR X rIxA := by
  intro value slice pins s σ H x y v u Q I rx ry h hs
  obtain ⟨p, i, xs, z, ex, ey, e, ha, q⟩ := h
  obtain ⟨b, e⟩ := sq_lk e
  rcases lk_seq (K := X.K) e with ⟨_, hl⟩ | ⟨_, ht⟩
  · exact ix_list value slice pins s σ H x y v u Q I rx ry ⟨p, xs, i, z, ex, ey, hl, ha, q⟩ hs
  · exact ix_tup value slice pins s σ H x y v u Q I rx ry ⟨p, xs, i, z, ex, ey, ht, ha, q⟩ hs

/-- x + y: ints, texts, lists (tracked) -/
def rAddA : R2 := fun x y H Q => match x, y with
  | .int i, .int j => Q (.int (i + j)) H
  | .str a, .str b => a.length + b.length ≤ sizeLine ∧ Q (.str (a ++ b)) H
  | .ref l, .ref b => ∃ xs zs, H l = some (.lst xs) ∧ H b = some (.lst zs) ∧ xs.length + zs.length ≤ sizeLine ∧ ∀ p, H p = none → Q (.ref p) (upd H p (.lst (xs ++ zs)))
  | _, _ => False
theorem op_addA {X : Cx} : OpR X (binaryOp .Add) rAddA := by
  intro pins s σ H x y v u Q I rx ry h
  unfold rAddA at h
  split at h
  · exact op_add pins s σ H _ _ v u Q I rx ry ⟨_, _, rfl, rfl, h⟩
  · exact op_add_str pins s σ H _ _ v u Q I rx ry ⟨_, _, rfl, rfl, h.1, h.2⟩
  · obtain ⟨xs, zs, h1, h2, h3, h4⟩ := h
    exact op_cat pins s σ H _ _ v u Q I rx ry ⟨_, _, xs, zs, rfl, rfl, h1, h2, h3, h4⟩
  · exact h.elim

def allO {α β : Type} (f : α → Option β) : List α → Option (List β)
  | [] => some []
  | x :: xs => match f x, allO f xs with
    | some y, some ys => some (y :: ys)
    | _, _ => none
/-- what a value is as a datum, to a depth -/
def datN : Nat → Hp → V → Option PyData
  | _, _, .non => some .none
  | _, _, .bl b => some (.bool b)
  | _, _, .int i => some (.int i)
  | _, _, .str x => some (.str x)
  | 0, _, _ => none
  | n + 1, H, .ref a => match lk H a with
    | some (true, xs) => (allO (datN n H) xs).map .list
    | some (false, xs) => (allO (datN n H) xs).map .tuple
    | none => none
  | _, _, _ => none
/-- == and != -/
def rEqA (neg : Bool) : R2 := fun x y H Q => if scal x y = true then Q (.bl (neg ^^ decide (x = y))) H else
  ∃ d e, datN 8 H x = some d ∧ datN 8 H y = some e ∧ SeqAt.shaped d = true ∧ SeqAt.shaped e = true ∧ Q (.bl (neg ^^ PyData.eqv d e)) H
/-- len -/
def rLenA : List V → Hp → VK → Prop := fun vs H Q => ∃ p xs, vs = [.ref p] ∧ sq H p = some xs ∧ Q (.int xs.length) H
/-- int, of an int or a bool -/
def rIntA : List V → Hp → VK → Prop := fun vs H Q => match vs with
  | [.int i] => Q (.int i) H
  | [.bl k] => Q (.int (if k then 1 else 0)) H
  | _ => False
theorem call_intA {X : Cx} : CallR X (.type "int") rIntA := by
  intro pins s σ H xs us Q I r h
  unfold rIntA at h
  split at h
  · exact call_int1 pins s σ H _ us Q I r (.inl ⟨_, rfl, h⟩)
  · exact call_int1 pins s σ H _ us Q I r (.inr ⟨_, rfl, h⟩)
  · exact h.elim
/-- a value's truth -/
def rTruA : V → Hp → (Bool → Hp → Prop) → Prop := fun x H Q => match x with
  | .non => Q false H
  | .bl b => Q b H
  | .int i => Q (i != 0) H
  | .ref p => ∃ xs, sq H p = some xs ∧ Q (!xs.isEmpty) H
  | _ => False
/-- o[i] = v in a tracked list -/
def rSetA : TSet := fun o i v H Q => ∃ p k xs j, o = .ref p ∧ i = .int k ∧ H p = some (.lst xs) ∧ ixN xs.length k = some j ∧ Q (upd H p (.lst (xs.set j v)))
theorem set_A {X : Cx} : PSet X rSetA := by
  intro pins s σ H o i v ov iv u Q I ro ri rv h
  obtain ⟨p, k, xs, j, e1, e2, e3, e4, q⟩ := h
  exact set_list pins s σ H o i v ov iv u Q I ro ri rv ⟨p, xs, k, j, e1, e2, e3, e4, q⟩
end HbE
end
section
set_option Elab.async false
set_option linter.all false
set_option maxRecDepth 100000
set_option maxHeartbeats 1000000
/-! Readings over data alone: what an expression or a statement does to the data in a def's slots. -/
namespace Dl
open PySem PySem.Spec PyProof.Rows L2 HbE Evl
/-- a drawer: three ints in a list -/
def Hat (o : HO) : Prop := ∃ g s c : Int, o = .lst [.int g, .int s, .int c]
/-- what a slot holds: data; a list that the def alone holds and may change; a drawer -/
inductive WD where
  | dat (d : PyData)
  | own (ds : List PyData)
  | hat
  | fn (n : Str)
/-- an exception: its class, what it keeps and under which name -/
structure Xn where
  cls : String
  arg : Option (String × PyData)
/-- tables: where they stand, and of a lambda's table the name of its code -/
abbrev TbL := List (Addr × Option Str)
abbrev ad (T : TbL) : List Addr := T.map (·.1)
/-- where tables stand; which exceptions may leave, and what they are wanted for -/
structure TX where
  l : TbL
  Ed : Xn → Prop := fun _ => False
  EE : XK := fun _ _ _ => False
instance : Coe TX TbL := ⟨TX.l⟩
abbrev Sd := List (Option WD)
open Classical in
noncomputable def msk (M : Addr → Prop) (H : Hp) : Hp := fun a => if M a then none else H a
section
variable {M M' : Addr → Prop} {H H' H2 : Hp} {a p : Addr} {o : HO} {hs : List Addr} {Ps : TbL} {K : PySem.W.Frag}
theorem msk_some : msk M H a = some o ↔ ¬ M a ∧ H a = some o := by
  unfold msk
  by_cases h : M a
  · simp [h]
  · simp [h]
theorem msk_ex : Ex (msk M H) H := fun a o h => (msk_some.mp h).2
/-- a table of the one or the other kind -/
def TbK (H : Hp) (p : Addr × Option Str) : Prop := match p.2 with
  | none => GxR.TabG H p.1
  | some q => LamX.TabS H p.1 q
theorem TbK.has {p : Addr × Option Str} (h : TbK H p) : ∃ ps, H p.1 = some (.tbl ps) := by
  obtain ⟨P, k⟩ := p
  cases k with
  | none => exact h.elim fun ps h => ⟨ps, h.1⟩
  | some q => exact h.elim fun ps h => ⟨ps, h.1⟩
theorem TbK.keep {p : Addr × Option Str} (h : TbK H p) (e : H' p.1 = H p.1) (k : ∀ c q, H c = some (LamX.CodeO c q) → H' c = some (LamX.CodeO c q)) : TbK H' p := by
  obtain ⟨P, kd⟩ := p
  cases kd with
  | none =>
    obtain ⟨ps, h1, h2⟩ := h
    exact ⟨ps, by rw [e]; exact h1, h2⟩
  | some q =>
    obtain ⟨ps, h1, h2, h3⟩ := h
    exact ⟨ps, by rw [e]; exact h1, h2, fun pos cv hc => (h3 pos cv hc).elim fun c hc => ⟨c, hc.1, k _ _ hc.2⟩⟩
theorem TbK.ex {p : Addr × Option Str} (e : Ex H H') (h : TbK H p) : TbK H' p := h.keep (by
  obtain ⟨ps, h⟩ := h.has
  rw [h, e _ _ h]) fun c q h => e _ _ h
theorem codeO_lst {c : Addr} {q : Str} {xs : List V} : LamX.CodeO c q ≠ .lst xs := fun z => by
  unfold LamX.CodeO at z
  cases z
theorem ad_at {Ps : TbL} (h : a ∈ ad Ps) : ∃ k, (a, k) ∈ Ps := by
  obtain ⟨⟨b, k⟩, h1, h2⟩ := List.mem_map.mp h
  cases h2
  exact ⟨k, h1⟩
theorem ad_of {Ps : TbL} {q : Addr × Option Str} (h : q ∈ Ps) : q.1 ∈ ad Ps := List.mem_map.mpr ⟨q, h, rfl⟩
/-- what may change between: the drawers' content, the tables -/
structure Step (hs : List Addr) (Ps : TbL) (H H' : Hp) : Prop where
  keep : ∀ a o, H a = some o → a ∉ hs → a ∉ ad Ps → H' a = some o
  hat : ∀ p ∈ hs, (∃ o, H p = some o ∧ Hat o) → ∃ o, H' p = some o ∧ Hat o
  tab : ∀ P ∈ Ps, TbK H P → TbK H' P
theorem Step.of_ex (e : Ex H H') : Step hs Ps H H' := ⟨fun a o h _ _ => e a o h, fun p _ ⟨o, h1, h2⟩ => ⟨o, e p o h1, h2⟩, fun P _ h => h.ex e⟩
theorem Step.refl : Step hs Ps H H := Step.of_ex (Ex.refl H)
theorem Step.trans (h : Step hs Ps H H') (k : Step hs Ps H' H2) : Step hs Ps H H2 := ⟨fun a o e n m => k.keep a o (h.keep a o e n m) n m, fun p hp e => k.hat p hp (h.hat p hp e), fun P hP e => k.tab P hP (h.tab P hP e)⟩
/-- a masked heap: what is masked stands, the drawers and the tables are masked -/
structure Wf (Ps : TbL) (M : Addr → Prop) (hs : List Addr) (H : Hp) : Prop where
  al : ∀ a, M a → H a ≠ none
  hat : ∀ p ∈ hs, M p ∧ ∃ o, H p = some o ∧ Hat o
  tab : ∀ P ∈ Ps, M P.1 ∧ TbK H P
  one : ∀ p ∈ Ps, ∀ q ∈ Ps, p.1 = q.1 → p = q
theorem Step.some (h : Step hs Ps H H') (w : Wf Ps M hs H) (e : H a ≠ none) : H' a ≠ none := by
  by_cases h1 : a ∈ hs
  · obtain ⟨o, q, _⟩ := h.hat a h1 (w.hat a h1).2
    rw [q]; simp
  · by_cases h2 : a ∈ ad Ps
    · obtain ⟨kd, h2⟩ := ad_at h2
      obtain ⟨ps, q⟩ := (h.tab _ h2 (w.tab _ h2).2).has
      have q : H' a = _ := q
      rw [q]; simp
    · cases q : H a with
      | none => exact absurd q e
      | some o => rw [h.keep a o q h1 h2]; simp
theorem Wf.step (w : Wf Ps M hs H) (h : Step hs Ps H H') : Wf Ps M hs H' :=
  ⟨fun a m => h.some w (w.al a m), fun p hp => ⟨(w.hat p hp).1, h.hat p hp (w.hat p hp).2⟩, fun P hP => ⟨(w.tab P hP).1, h.tab P hP (w.tab P hP).2⟩, w.one⟩
theorem Wf.ex (w : Wf Ps M hs H) (h : Step hs Ps H H') : Ex (msk M H) (msk M H') := fun a o e => by
  obtain ⟨n, e⟩ := msk_some.mp e
  exact msk_some.mpr ⟨n, h.keep a o e (fun z => n (w.hat a z).1) (fun z => (ad_at z).elim fun _ z => n (w.tab _ z).1)⟩
theorem Wf.tbl (w : Wf Ps M hs H) (h : a ∈ ad Ps) : ∃ ps, H a = some (.tbl ps) := (ad_at h).elim fun _ h => (w.tab _ h).2.has
theorem Wf.fresh (w : Wf Ps M hs H) (h : H p = none) : ¬ M p := fun m => w.al p m h
theorem msk_upd (h : ¬ M p) : msk M (upd H p o) p = some o := msk_some.mpr ⟨h, upd_same⟩
/-- less masked: more to read -/
theorem msk_less (h : ∀ a, M a → M' a) : Ex (msk M' H) (msk M H) := fun a o e => by
  obtain ⟨n, e⟩ := msk_some.mp e
  exact msk_some.mpr ⟨fun m => n (h a m), e⟩
end
/-! data: as L2.Dp, and dicts, of which nothing is told (.dict [] stands for any) -/
mutual
inductive Dp (K : PySem.W.Frag) (H : Hp) : V → PyData → Prop
  | non : Dp K H .non .none
  | bl (b : Bool) : Dp K H (.bl b) (.bool b)
  | int (n : Int) : Dp K H (.int n) (.int n)
  | str (t : Str) : Dp K H (.str t) (.str t)
  | lst {p : Addr} {vs : List V} {es : List PyData} : SqL K H p vs → DpAll K H vs es → Dp K H (.ref p) (.list es)
  | tup {p : Addr} {vs : List V} {es : List PyData} : SqT K H p vs → DpAll K H vs es → Dp K H (.ref p) (.tuple es)
  | dct {p : Addr} {kvs : List (Key × V)} : H p = some (.dK kvs) → Dp K H (.ref p) (.dict [])
  | dctT {p : Addr} {kvs : List (List Key × V)} : H p = some (.dT kvs) → Dp K H (.ref p) (.dict [])
inductive DpAll (K : PySem.W.Frag) (H : Hp) : List V → List PyData → Prop
  | nil : DpAll K H [] []
  | cons {v : V} {vs : List V} {e : PyData} {es : List PyData} : Dp K H v e → DpAll K H vs es → DpAll K H (v :: vs) (e :: es)
end
mutual
theorem dp_mono {K : PySem.W.Frag} {H H' : Hp} (e : Ex H H') : ∀ {v : V} {d : PyData}, Dp K H v d → Dp K H' v d
  | _, _, .non => .non
  | _, _, .bl b => .bl b
  | _, _, .int i => .int i
  | _, _, .str x => .str x
  | _, _, .lst h1 h2 => .lst (ex_l e h1) (dpAll_mono e h2)
  | _, _, .tup h1 h2 => .tup (ex_t e h1) (dpAll_mono e h2)
  | _, _, .dct h => .dct (e _ _ h)
  | _, _, .dctT h => .dctT (e _ _ h)
theorem dpAll_mono {K : PySem.W.Frag} {H H' : Hp} (e : Ex H H') : ∀ {vs : List V} {ds : List PyData}, DpAll K H vs ds → DpAll K H' vs ds
  | _, _, .nil => .nil
  | _, _, .cons h1 h2 => .cons (dp_mono e h1) (dpAll_mono e h2)
end
mutual
theorem Dp.old {K : PySem.W.Frag} {H : Hp} : ∀ {v : V} {d : PyData}, Dp K H v d → d.hasDict = false → L2.Dp K H v d
  | _, _, .non, _ => .non
  | _, _, .bl b, _ => .bl b
  | _, _, .int i, _ => .int i
  | _, _, .str x, _ => .str x
  | _, _, .lst h1 h2, h => .lst h1 (DpAll.old h2 (by simpa [PyData.hasDict] using h))
  | _, _, .tup h1 h2, h => .tup h1 (DpAll.old h2 (by simpa [PyData.hasDict] using h))
theorem DpAll.old {K : PySem.W.Frag} {H : Hp} : ∀ {vs : List V} {ds : List PyData}, DpAll K H vs ds → PyData.hasDictAll ds = false → L2.DpAll K H vs ds
  | _, _, .nil, _ => .nil
  | _, _, .cons h1 h2, h => by
    rw [PyData.hasDictAll, Bool.or_eq_false_iff] at h
    exact .cons (Dp.old h1 h.1) (DpAll.old h2 h.2)
end
mutual
theorem Dp.new {K : PySem.W.Frag} {H : Hp} : ∀ {v : V} {d : PyData}, L2.Dp K H v d → Dp K H v d
  | _, _, .non => .non
  | _, _, .bl b => .bl b
  | _, _, .int i => .int i
  | _, _, .str x => .str x
  | _, _, .lst h1 h2 => .lst h1 (DpAll.new h2)
  | _, _, .tup h1 h2 => .tup h1 (DpAll.new h2)
theorem DpAll.new {K : PySem.W.Frag} {H : Hp} : ∀ {vs : List V} {ds : List PyData}, L2.DpAll K H vs ds → DpAll K H vs ds
  | _, _, .nil => .nil
  | _, _, .cons h1 h2 => .cons (Dp.new h1) (DpAll.new h2)
end
theorem noDict_shaped {d : PyData} (h : SeqAt.shaped d = true) : d.hasDict = false := PyData.hasDict_of_canLay d (SeqAt.canLay_of_shaped h)
section
variable {K : PySem.W.Frag} {H H' : Hp} {vs ws : List V} {ds es : List PyData}
theorem DpAll.len (h : DpAll K H vs ds) : vs.length = ds.length := by
  have : ∀ (ds : List PyData) (vs : List V), DpAll K H vs ds → vs.length = ds.length := by
    intro ds
    induction ds with
    | nil => intro vs h; cases h; rfl
    | cons d ds ih => intro vs h; cases h with | cons _ h2 => simp [ih _ h2]
  exact this ds vs h
theorem DpAll.app (h : DpAll K H vs ds) (k : DpAll K H ws es) : DpAll K H (vs ++ ws) (ds ++ es) := by
  have : ∀ (ds : List PyData) (vs : List V), DpAll K H vs ds → DpAll K H (vs ++ ws) (ds ++ es) := by
    intro ds
    induction ds with
    | nil => intro vs h; cases h; exact k
    | cons d ds ih => intro vs h; cases h with | cons h1 h2 => exact .cons h1 (ih _ h2)
  exact this ds vs h
theorem DpAll.get {i : Nat} {d : PyData} (h : DpAll K H vs ds) (e : ds[i]? = some d) : ∃ v, vs[i]? = some v ∧ Dp K H v d := by
  have : ∀ (ds : List PyData) (vs : List V) (i : Nat), DpAll K H vs ds → ds[i]? = some d → ∃ v, vs[i]? = some v ∧ Dp K H v d := by
    intro ds
    induction ds with
    | nil => intro vs i h e; simp at e
    | cons d2 ds ih =>
      intro vs i h e
      cases h with
      | cons h1 h2 =>
        cases i with
        | zero => simp at e; subst e; exact ⟨_, rfl, h1⟩
        | succ i => simpa using ih _ i h2 (by simpa using e)
  exact this ds vs i h e
theorem DpAll.setAt {i : Nat} {d : PyData} {v : V} (h : DpAll K H vs ds) (hv : Dp K H v d) : DpAll K H (vs.set i v) (ds.set i d) := by
  have : ∀ (ds : List PyData) (vs : List V) (i : Nat), DpAll K H vs ds → DpAll K H (vs.set i v) (ds.set i d) := by
    intro ds
    induction ds with
    | nil => intro vs i h; cases h; exact .nil
    | cons d2 ds ih =>
      intro vs i h
      cases h with
      | cons h1 h2 =>
        cases i with
        | zero => exact .cons hv h2
        | succ i => exact .cons h1 (ih _ i h2)
  exact this ds vs i h
theorem DpAll.take (n : Nat) (h : DpAll K H vs ds) : DpAll K H (vs.take n) (ds.take n) := by
  have : ∀ (ds : List PyData) (vs : List V) (n : Nat), DpAll K H vs ds → DpAll K H (vs.take n) (ds.take n) := by
    intro ds
    induction ds with
    | nil => intro vs n h; cases h; cases n <;> exact .nil
    | cons d2 ds ih =>
      intro vs n h
      cases h with
      | cons h1 h2 =>
        cases n with
        | zero => exact .nil
        | succ n => exact .cons h1 (ih _ n h2)
  exact this ds vs n h
theorem DpAll.drop (n : Nat) (h : DpAll K H vs ds) : DpAll K H (vs.drop n) (ds.drop n) := by
  have : ∀ (ds : List PyData) (vs : List V) (n : Nat), DpAll K H vs ds → DpAll K H (vs.drop n) (ds.drop n) := by
    intro ds
    induction ds with
    | nil => intro vs n h; cases h; cases n <;> exact .nil
    | cons d2 ds ih =>
      intro vs n h
      cases h with
      | cons h1 h2 =>
        cases n with
        | zero => exact .cons h1 h2
        | succ n => exact ih _ n h2
  exact this ds vs n h
theorem DpAll.ints {ns : List Int} : DpAll K H (ns.map V.int) (ns.map PyData.int) := by
  induction ns with
  | nil => exact .nil
  | cons n ns ih => exact .cons (.int n) ih
end
/-! ### the state of a def -/
structure C0 where
  hs0 : List Addr
  M0 : Addr → Prop
  H0 : Hp
  B : Hp
def Mk (c : C0) (hs as : List Addr) : Addr → Prop := fun a => c.M0 a ∨ a ∈ hs ∨ a ∈ as
structure Fr (Ps : TbL) (c : C0) (hs as : List Addr) (H : Hp) : Prop where
  wf0 : Wf Ps c.M0 c.hs0 c.H0
  st : Step c.hs0 Ps c.H0 H
  hat : ∀ p ∈ hs, (∃ o, H p = some o ∧ Hat o) ∧ (p ∈ c.hs0 ∨ c.H0 p = none)
  sub : ∀ p ∈ c.hs0, p ∈ hs
  own : ∀ a ∈ as, c.H0 a = none ∧ H a ≠ none ∧ a ∉ hs ∧ a ∉ ad Ps
  bs : Ex c.B (msk (Mk c hs as) H)
section
variable {K : PySem.W.Frag} {Ps : TbL} {c : C0} {hs as : List Addr} {H H' : Hp} {σ : L2.St} {σd : Sd}
theorem Fr.wf (f : Fr Ps c hs as H) : Wf Ps (Mk c hs as) hs H := by
  have w := f.wf0.step f.st
  refine ⟨fun a m => ?_, fun p hp => ⟨.inr (.inl hp), (f.hat p hp).1⟩, fun P hP => ⟨.inl (w.tab P hP).1, (w.tab P hP).2⟩, w.one⟩
  rcases m with m | m | m
  · exact w.al a m
  · obtain ⟨⟨o, e, _⟩, _⟩ := f.hat a m
    rw [e]; simp
  · exact (f.own a m).2.1
theorem Fr.step (f : Fr Ps c hs as H) (s : Step hs Ps H H') : Fr Ps c hs as H' := by
  have w := f.wf
  refine ⟨f.wf0, ⟨fun a o e n m => s.keep a o (f.st.keep a o e n m) (fun z => ?_) m, fun p hp e => s.hat p (f.sub p hp) (f.hat p (f.sub p hp)).1, fun P hP e => s.tab P hP (w.tab P hP).2⟩,
    fun p hp => ⟨s.hat p hp (f.hat p hp).1, (f.hat p hp).2⟩, f.sub, fun a ha => ⟨(f.own a ha).1, s.some w (f.own a ha).2.1, (f.own a ha).2.2⟩, f.bs.trans (w.ex s)⟩
  rcases (f.hat a z).2 with q | q
  · exact n q
  · rw [e] at q; cases q
/-- an exception in the air -/
def XnAt (K : PySem.W.Frag) (H : Hp) (M : Addr → Prop) (cls : Value) (d : Option Addr) (x : Xn) : Prop :=
  ∃ C, PySem.W.nsIn K mainGlobals x.cls = some (some (.ref C)) ∧ cls = .ref C ∧ ∀ f a, x.arg = some (f, a) → ∃ dd v, d = some dd ∧ H dd = some (.xd [((f : Str), v)]) ∧ Dp K (msk M H) v a
def XOk (K : PySem.W.Frag) (T : TX) (c : C0) : Prop := ∀ x cls d H', T.Ed x → Step c.hs0 T.l c.H0 H' → XnAt K H' c.M0 cls d x → T.EE cls d H'
/-- a value and what a slot holds -/
def VR (K : PySem.W.Frag) (M : Addr → Prop) (hs as : List Addr) (H : Hp) (v : V) : WD → Prop
  | .dat d => Dp K (msk M H) v d
  | .own ds => ∃ a vs, v = .ref a ∧ a ∈ as ∧ H a = some (.lst vs) ∧ DpAll K (msk M H) vs ds
  | .hat => ∃ p, v = .ref p ∧ p ∈ hs
  | .fn n => ∃ f, v = .ref f ∧ PySem.W.nsIn K mainGlobals n = some (some (.ref f))
structure Sts (K : PySem.W.Frag) (Ps : TX) (c : C0) (hs as : List Addr) (σ : L2.St) (H : Hp) (σd : Sd) : Prop where
  fr : Fr Ps c hs as H
  len : σ.length = σd.length
  slot : ∀ (i : Nat) (w : WD), σd[i]? = some (some w) → ∃ v, σ[i]? = some (some v) ∧ VR K (Mk c hs as) hs as H v w
  dis : ∀ (i j : Nat) (ds es : List PyData), i ≠ j → σd[i]? = some (some (.own ds)) → σd[j]? = some (some (.own es)) → σ[i]? ≠ σ[j]?
  xo : XOk K Ps c
theorem VR.step {Ps : TX} {v : V} {w : WD} (f : Fr Ps c hs as H) (s : Step hs Ps H H') (h : VR K (Mk c hs as) hs as H v w) : VR K (Mk c hs as) hs as H' v w := by
  have e := f.wf.ex s
  cases w with
  | dat d => exact dp_mono e h
  | own ds =>
    obtain ⟨a, vs, rfl, ha, h1, h2⟩ := h
    exact ⟨a, vs, rfl, ha, s.keep a _ h1 (f.own a ha).2.2.1 (f.own a ha).2.2.2, dpAll_mono e h2⟩
  | hat => exact h
  | fn n => exact h
theorem Sts.step {Ps : TX} (S : Sts K Ps c hs as σ H σd) (s : Step hs Ps H H') : Sts K Ps c hs as σ H' σd :=
  ⟨S.fr.step s, S.len, fun i w e => by
    obtain ⟨v, h1, h2⟩ := S.slot i w e
    exact ⟨v, h1, h2.step (Ps := Ps) S.fr s⟩, S.dis, S.xo⟩
end
/-! ### expressions -/
abbrev DE := Sd → (PyData → Prop) → Prop
abbrev DQ := Sd → (Bool → List PyData → Prop) → Prop
abbrev DT := Sd → (Bool → Prop) → Prop
abbrev DA := Sd → (List WD → Prop) → Prop
def lift (K : PySem.W.Frag) (Ps : TX) (de : DE) : TE := fun σ H Q => ∃ c hs as σd Qd, Sts K Ps c hs as σ H σd ∧ de σd Qd ∧ ∀ d v H', Qd d → Step hs Ps H H' → Dp K (msk (Mk c hs as) H') v d → Q v H'
def liftT (K : PySem.W.Frag) (Ps : TX) (dt : DT) : TT := fun σ H Q => ∃ c hs as σd Qd, Sts K Ps c hs as σ H σd ∧ dt σd Qd ∧ ∀ b H', Qd b → Step hs Ps H H' → Q b H'
/-- a list (true) or a tuple whose items are data; it may be one that the def changes later -/
def SeqR (K : PySem.W.Frag) (M : Addr → Prop) (as : List Addr) (H : Hp) (v : V) (b : Bool) (ds : List PyData) : Prop :=
  Dp K (msk M H) v (if b then .list ds else .tuple ds) ∨ (b = true ∧ ∃ a vs, v = .ref a ∧ a ∈ as ∧ H a = some (.lst vs) ∧ DpAll K (msk M H) vs ds)
theorem SeqR.step {K : PySem.W.Frag} {Ps : TX} {c : C0} {hs as : List Addr} {H H' : Hp} {v : V} {b : Bool} {ds : List PyData} (f : Fr Ps c hs as H) (s : Step hs Ps H H') (h : SeqR K (Mk c hs as) as H v b ds) : SeqR K (Mk c hs as) as H' v b ds := by
  rcases h with h | ⟨e, a, vs, rfl, ha, h1, h2⟩
  · exact .inl (dp_mono (f.wf.ex s) h)
  · exact .inr ⟨e, a, vs, rfl, ha, s.keep a _ h1 (f.own a ha).2.2.1 (f.own a ha).2.2.2, dpAll_mono (f.wf.ex s) h2⟩
def liftQ (K : PySem.W.Frag) (Ps : TX) (dq : DQ) : TE := fun σ H Q => ∃ c hs as σd Qd, Sts K Ps c hs as σ H σd ∧ dq σd Qd ∧ ∀ b ds v H', Qd b ds → Step hs Ps H H' → SeqR K (Mk c hs as) as H' v b ds → Q v H'
/-- a new list -/
def liftL (K : PySem.W.Frag) (Ps : TX) (dl : Sd → (List PyData → Prop) → Prop) : TE := fun σ H Q => ∃ c hs as σd Qd, Sts K Ps c hs as σ H σd ∧ dl σd Qd ∧
  ∀ ds p vs H', Qd ds → Step hs Ps H H' → H p = none → H' p = some (.lst vs) → DpAll K (msk (Mk c hs as) H') vs ds → Q (.ref p) H'
def liftA (K : PySem.W.Frag) (Ps : TX) (da : DA) : TA := fun σ H Q => ∃ c hs as σd Qd, Sts K Ps c hs as σ H σd ∧ da σd Qd ∧ ∀ ws vs H', Qd ws → Step hs Ps H H' → Paired (VR K (Mk c hs as) hs [] H') vs ws → Q vs H'
theorem pe_weak {X : Cx} {e : PySem.Expr} {te te' : TE} (h : PE X e te) (k : ∀ σ H Q, te' σ H Q → te σ H Q) : PE X e te' := ⟨fun pins s σ H Q I q => h.run pins s σ H Q I (k σ H Q q)⟩
theorem pt_weak {X : Cx} {e : PySem.Expr} {te te' : TT} (h : PT X e te) (k : ∀ σ H Q, te' σ H Q → te σ H Q) : PT X e te' := ⟨fun pins s σ H Q I q => h.run pins s σ H Q I (k σ H Q q)⟩
theorem pa_weak {X : Cx} {es : List PySem.Expr} {te te' : TA} (h : PA X es te) (k : ∀ σ H Q, te' σ H Q → te σ H Q) : PA X es te' := ⟨fun pos pins s σ H Q I q => h.run pos pins s σ H Q I (k σ H Q q)⟩
section
variable {X : Cx} {Ps : TX} {e a b : PySem.Expr} {pos : Pos}
/-! names, constants -/
def dVar (i : Nat) : DE := fun σ Q => match σ[i]? with
  | some (some (.dat d)) => Q d
  | _ => False
def dC (d : PyData) : DE := fun _ Q => Q d
theorem pd_var {i : Nat} (h : PE X e (tVar i)) : PE X e (lift X.K Ps (dVar i)) := pe_weak h fun σ H Q ⟨c, hs, as, σd, Qd, S, hd, k⟩ => by
  unfold dVar at hd
  split at hd
  · rename_i d q
    obtain ⟨v, h1, h2⟩ := S.slot i _ q
    exact ⟨v, h1, k d v H hd Step.refl h2⟩
  · exact hd.elim
theorem pd_c {v : V} {d : PyData} (h : PE X e (tC v)) (hd : ∀ K H, Dp K H v d) : PE X e (lift X.K Ps (dC d)) := pe_weak h fun σ H Q ⟨c, hs, as, σd, Qd, S, hq, k⟩ => k d v H hq Step.refl (hd _ _)
/-- two-place operations -/
def Op2 (K : PySem.W.Frag) (Ps : TX) (r : R2) (f : PyData → PyData → (PyData → Prop) → Prop) : Prop := ∀ (M : Addr → Prop) (hs : List Addr) (H : Hp) (v w : V) (x y : PyData) (Qd : PyData → Prop) (Q : VK), Wf Ps M hs H → Dp K (msk M H) v x → Dp K (msk M H) w y → f x y Qd →
  (∀ d z H', Qd d → Step hs Ps H H' → Dp K (msk M H') z d → Q z H') → r v w H Q
def dOp (f : PyData → PyData → (PyData → Prop) → Prop) (da db : DE) : DE := fun σ Q => da σ fun x => db σ fun y => f x y Q
theorem lift_op {r : R2} {f : PyData → PyData → (PyData → Prop) → Prop} {da db : DE} {σ : L2.St} {H : Hp} {Q : VK} (ho : Op2 X.K Ps r f) (h : lift X.K Ps (dOp f da db) σ H Q) : tOp r (lift X.K Ps da) (lift X.K Ps db) σ H Q := by
  obtain ⟨c, hs, as, σd, Qd, S, hd, k⟩ := h
  refine ⟨c, hs, as, σd, _, S, hd, fun x v H1 h1 s1 r1 => ?_⟩
  refine ⟨c, hs, as, σd, _, S.step s1, h1, fun y w H2 h2 s2 r2 => ?_⟩
  exact ho _ hs H2 v w x y Qd _ ((S.step s1).step s2).fr.wf (dp_mono ((S.step s1).fr.wf.ex s2) r1) r2 h2 fun d z H' h3 s3 r3 => k d z H' h3 ((s1.trans s2).trans s3) r3
theorem pd_op {op : Operator} {r : R2} {f : PyData → PyData → (PyData → Prop) → Prop} {da db : DE} (h : OpR X (binaryOp op) r) (ho : Op2 X.K Ps r f) (ha : PE X a (lift X.K Ps da)) (hb : PE X b (lift X.K Ps db)) : PE X (.BinOp a op b pos) (lift X.K Ps (dOp f da db)) :=
  pe_weak (pe_op h ha hb) fun _ _ _ => lift_op ho
theorem pd_cmp {op : CmpOp} {r : R2} {f : PyData → PyData → (PyData → Prop) → Prop} {da db : DE} (h : OpR X (compareOp op) r) (ho : Op2 X.K Ps r f) (ha : PE X a (lift X.K Ps da)) (hb : PE X b (lift X.K Ps db)) (hm : behindInMarks op b = false) :
    PE X (.Compare a [op] [b] pos) (lift X.K Ps (dOp f da db)) := pe_weak (pe_cmpR h ha hb hm) fun _ _ _ => lift_op ho
/-- a test out of a bool -/
def dTest (de : DE) : DT := fun σ Q => de σ fun x => match x with
  | .bool b => Q b
  | _ => False
theorem lift_test {de : DE} {σ : L2.St} {H : Hp} {Q : Bool → Hp → Prop} (h : liftT X.K Ps (dTest de) σ H Q) : tTest (lift X.K Ps de) σ H Q := by
  obtain ⟨c, hs, as, σd, Qd, S, hd, k⟩ := h
  refine ⟨c, hs, as, σd, _, S, hd, fun x v H1 h1 s1 r1 => ?_⟩
  split at h1
  · rename_i b
    cases r1
    exact ⟨b, rfl, k b H1 h1 s1⟩
  · exact h1.elim
theorem pt_d_cmp {op : CmpOp} {r : R2} {f : PyData → PyData → (PyData → Prop) → Prop} {da db : DE} (h : OpR X (compareOp op) r) (ho : Op2 X.K Ps r f) (ha : PE X a (lift X.K Ps da)) (hb : PE X b (lift X.K Ps db)) (hm : behindInMarks op b = false) :
    PT X (.Compare a [op] [b] pos) (liftT X.K Ps (dTest (dOp f da db))) := pt_weak (pt_cmpR h ha hb hm) fun σ H Q h => by
  have h2 := lift_test h
  unfold tTest at h2 ⊢
  obtain ⟨c, hs, as, σd, Qd, S, hd, k⟩ := h2
  exact lift_op ho ⟨c, hs, as, σd, Qd, S, hd, k⟩
end
/-! ### operations on ints -/
def fI (C : Int → Int → Prop) (g : Int → Int → PyData) : PyData → PyData → (PyData → Prop) → Prop := fun x y Q => match x, y with
  | .int i, .int j => C i j ∧ Q (g i j)
  | _, _ => False
theorem op2_I {K : PySem.W.Frag} {Ps : TX} {C : Int → Int → Prop} {g : Int → Int → V} {gd : Int → Int → PyData} (hg : ∀ i j K H, Dp K H (g i j) (gd i j)) : Op2 K Ps (rI C g) (fI C gd) := by
  intro M hs H v w x y Qd Q wf hx hy h k
  unfold fI at h
  split at h
  · cases hx; cases hy
    exact ⟨_, _, rfl, rfl, h.1, k _ _ H h.2 Step.refl (hg _ _ _ _)⟩
  · exact h.elim
def fI0 (g : Int → Int → PyData) : PyData → PyData → (PyData → Prop) → Prop := fun x y Q => match x, y with
  | .int i, .int j => Q (g i j)
  | _, _ => False
theorem op2_I0 {K : PySem.W.Frag} {Ps : TX} {g : Int → Int → V} {gd : Int → Int → PyData} (hg : ∀ i j K H, Dp K H (g i j) (gd i j)) : Op2 K Ps (rI0 g) (fI0 gd) := by
  intro M hs H v w x y Qd Q wf hx hy h k
  unfold fI0 at h
  split at h
  · cases hx; cases hy
    exact ⟨_, _, rfl, rfl, k _ _ H h Step.refl (hg _ _ _ _)⟩
  · exact h.elim
end Dl
end
section
set_option Elab.async false
set_option linter.all false
set_option maxRecDepth 100000
set_option maxHeartbeats 1000000
namespace Dl
open PySem PySem.Spec PyProof.Rows L2 HbE Evl
section
variable {X : Cx} {Ps : TX} {e a b o : PySem.Expr} {es : List PySem.Expr} {pos : Pos}
/-! ### arguments -/
abbrev DW := Sd → (WD → Prop) → Prop
def liftW (K : PySem.W.Frag) (Ps : TX) (dw : DW) : TE := fun σ H Q => ∃ c hs as σd Qd, Sts K Ps c hs as σ H σd ∧ dw σd Qd ∧ ∀ w v H', Qd w → Step hs Ps H H' → VR K (Mk c hs as) hs [] H' v w → Q v H'
def dD (de : DE) : DW := fun σ Q => de σ fun d => Q (.dat d)
def dHat (i : Nat) : DW := fun σ Q => match σ[i]? with
  | some (some .hat) => Q .hat
  | _ => False
theorem pw_dat {de : DE} (h : PE X e (lift X.K Ps de)) : PE X e (liftW X.K Ps (dD de)) := pe_weak h fun σ H Q ⟨c, hs, as, σd, Qd, S, hd, k⟩ => ⟨c, hs, as, σd, _, S, hd, fun d v H' hq st r => k (.dat d) v H' hq st r⟩
theorem vr0 {K : PySem.W.Frag} {M : Addr → Prop} {hs : List Addr} {H H' : Hp} {v : V} {w : WD} (e : Ex (msk M H) (msk M H')) (h : VR K M hs [] H v w) : VR K M hs [] H' v w := by
  cases w with
  | dat d => exact dp_mono e h
  | own ds => obtain ⟨_, _, _, z, _⟩ := h; cases z
  | hat => exact h
  | fn n => exact h
def dNil : DA := fun _ Q => Q []
def dCons (dw : DW) (da : DA) : DA := fun σ Q => dw σ fun w => da σ fun ws => Q (w :: ws)
theorem pda_nil : PA X [] (liftA X.K Ps dNil) := pa_weak pa_nil fun σ H Q ⟨c, hs, as, σd, Qd, S, hd, k⟩ => k [] [] H hd Step.refl .nil
theorem pda_cons {dw : DW} {da : DA} (ha : PE X e (liftW X.K Ps dw)) (hr : PA X es (liftA X.K Ps da)) (hs : starEach (e :: es) X.env = (false, eval e X.env) :: starEach es X.env := by rfl) : PA X (e :: es) (liftA X.K Ps (dCons dw da)) :=
  pa_weak (pa_cons ha hr hs) fun σ H Q ⟨c, hs, as, σd, Qd, S, hd, k⟩ =>
    ⟨c, hs, as, σd, _, S, hd, fun w v H1 h1 s1 r1 => ⟨c, hs, as, σd, _, S.step s1, h1, fun ws vs H2 h2 s2 r2 => k (w :: ws) (v :: vs) H2 h2 (s1.trans s2) (.cons (vr0 ((S.step s1).fr.wf.ex s2) r1) r2)⟩⟩
def dats : List WD → Option (List PyData)
  | [] => some []
  | .dat d :: ws => match dats ws with
    | some ds => some (d :: ds)
    | none => none
  | _ :: _ => none
theorem dats_dp {K : PySem.W.Frag} {M : Addr → Prop} {hs : List Addr} {H : Hp} : ∀ {vs : List V} {ws : List WD} {ds : List PyData}, Paired (VR K M hs [] H) vs ws → dats ws = some ds → DpAll K (msk M H) vs ds
  | _, _, _, .nil, h => by cases h; exact .nil
  | _, .dat d :: ws, ds, .cons h1 h2, h => by
    unfold dats at h
    split at h
    · rename_i ds' q
      cases h
      exact .cons h1 (dats_dp h2 q)
    · cases h
  | _, .own _ :: _, _, .cons h1 h2, h => by cases h
  | _, .hat :: _, _, .cons h1 h2, h => by cases h
  | _, .fn _ :: _, _, .cons h1 h2, h => by cases h
/-! ### own defs -/
abbrev DSp := List WD → (PyData → Prop) → Prop
def spOf (K : PySem.W.Frag) (Ps : TbL) (SD : DSp) : Sp := fun vs H Q _ => ∃ M hs ws Qd, Wf Ps M hs H ∧ Paired (VR K M hs [] H) vs ws ∧ SD ws Qd ∧ ∀ d v H', Qd d → Step hs Ps H H' → Dp K (msk M H') v d → Q v H'
def dCall (SD : DSp) (da : DA) : DE := fun σ Q => da σ fun ws => SD ws Q
theorem pd_call {x : Str} {f : Addr} {fd : FuncData} {ps : List Str} {SD : DSp} {k : Nat} {da : DA} {p : Pos} (F : FnOk X.prog X.w X.K X.mg X.base CX0 k f fd ps (spOf X.K Ps SD)) (hr : Room k X.A) (hg : Gl X x) (hm : X.mg x = some (.ref f))
    (hk : PySem.W.keepIn X.K (.ref f) = true) (hb : Binds X.K fd ps []) (ha : PA X (e :: es) (liftA X.K Ps da)) (hdb : (x == ("__debug__" : Str)) = false := by decide) (he : starEach (e :: es) X.env = (false, eval e X.env) :: starEach es X.env := by rfl)
    (hpl : (backTo pos (starEach es X.env)).any (·.1) = false := by rfl) : PE X (.Call (.Name x p) (e :: es) [] pos) (lift X.K Ps (dCall SD da)) :=
  pe_weak (pe_call F hr hg hm hk hb .nil pass0 ha hdb he hpl) fun σ H Q ⟨c, hs, as, σd, Qd, S, hd, k⟩ =>
    ⟨c, hs, as, σd, _, S, hd, fun ws vs H1 h1 s1 r1 => ⟨Mk c hs as, hs, ws, Qd, (S.step s1).fr.wf, by rw [List.append_nil]; exact r1, h1, fun d v H' h s r => k d v H' h (s1.trans s) r⟩⟩
/-! ### displays -/
def dDats (da : DA) : Sd → (List PyData → Prop) → Prop := fun σ Q => da σ fun ws => match dats ws with
  | some ds => Q ds
  | none => False
theorem dp_newT {Ps : TbL} {K : PySem.W.Frag} {M : Addr → Prop} {hs : List Addr} {H : Hp} {p : Addr} {vs : List V} {ds : List PyData} (w : Wf Ps M hs H) (hp : H p = none) (h : DpAll K (msk M H) vs ds) : Dp K (msk M (upd H p (.tup vs))) (.ref p) (.tuple ds) :=
  .tup (.inl (.inl (msk_upd (w.fresh hp)))) (dpAll_mono (w.ex (Step.of_ex (Ex.new hp))) h)
theorem dp_newL {Ps : TbL} {K : PySem.W.Frag} {M : Addr → Prop} {hs : List Addr} {H : Hp} {p : Addr} {vs : List V} {ds : List PyData} (w : Wf Ps M hs H) (hp : H p = none) (h : DpAll K (msk M H) vs ds) : Dp K (msk M (upd H p (.lst vs))) (.ref p) (.list ds) :=
  .lst (.inl (.inl (msk_upd (w.fresh hp)))) (dpAll_mono (w.ex (Step.of_ex (Ex.new hp))) h)
def dTup (da : DA) : DE := fun σ Q => dDats da σ fun ds => ds.length ≤ 100000 ∧ Q (.tuple ds)
theorem pd_tup {x1} {da : DA} (h : PA X es (liftA X.K Ps da)) : PE X (.Tuple es x1 pos) (lift X.K Ps (dTup da)) := pe_weak (pe_tup h) fun σ H Q ⟨c, hs, as, σd, Qd, S, hd, k⟩ =>
  ⟨c, hs, as, σd, _, S, hd, fun ws vs H1 h1 s1 r1 => by
    split at h1
    · rename_i ds q
      have r := dats_dp r1 q
      refine ⟨sz_of (by rw [r.len]; exact h1.1), fun p hp => ?_⟩
      exact k _ _ _ h1.2 (s1.trans (Step.of_ex (Ex.new hp))) (dp_newT (S.step s1).fr.wf hp r)
    · exact h1.elim⟩
/-- a new list, as it is (its own) -/
theorem own_new {K : PySem.W.Frag} {c : C0} {hs as : List Addr} {H : Hp} {p : Addr} {vs : List V} {ds : List PyData} (hp : H p = none) (h : DpAll K (msk (Mk c hs as) H) vs ds) : DpAll K (msk (Mk c hs (p :: as)) (upd H p (.lst vs))) vs ds :=
  dpAll_mono (fun a o e => by
    obtain ⟨n, e⟩ := msk_some.mp e
    have na : a ≠ p := fun z => by rw [z, hp] at e; cases e
    refine msk_some.mpr ⟨fun m => ?_, by rw [upd_ne na]; exact e⟩
    rcases m with m | m | m
    · exact n (.inl m)
    · exact n (.inr (.inl m))
    · rcases List.mem_cons.mp m with z | z
      · exact na z
      · exact n (.inr (.inr z))) h
def dLst (da : DA) : Sd → (List PyData → Prop) → Prop := fun σ Q => dDats da σ fun ds => ds.length ≤ 100000 ∧ Q ds
abbrev DL := Sd → (List PyData → Prop) → Prop
/-- a new list, to be changed later -/
def liftN (K : PySem.W.Frag) (Ps : TX) (dl : DL) : TE := fun σ H Q => ∃ c hs as σd Qd, Sts K Ps c hs as σ H σd ∧ dl σd Qd ∧
  ∀ ds p vs H', Qd ds → Step hs Ps H H' → H p = none → H' p = some (.lst vs) → DpAll K (msk (Mk c hs (p :: as)) H') vs ds → Q (.ref p) H'
theorem pn_lst {da : DA} (h : PA X es (liftA X.K Ps da)) : PE X (.List es pos) (liftN X.K Ps (dLst da)) := pe_weak (pe_lst h) fun σ H Q ⟨c, hs, as, σd, Qd, S, hd, k⟩ =>
  ⟨c, hs, as, σd, _, S, hd, fun ws vs H1 h1 s1 r1 => by
    split at h1
    · rename_i ds q
      have r := dats_dp r1 q
      refine ⟨sz_of (by rw [r.len]; exact h1.1), fun p hp => ?_⟩
      refine k _ p vs _ h1.2 (s1.trans (Step.of_ex (Ex.new hp))) ?_ upd_same (own_new hp r)
      cases z : H p with
      | none => rfl
      | some o =>
        exfalso
        exact s1.some S.fr.wf (by rw [z]; simp) hp
    · exact h1.elim⟩
def dL (dl : DL) : DE := fun σ Q => dl σ fun ds => Q (.list ds)
theorem pd_new {dl : DL} (h : PE X e (liftN X.K Ps dl)) : PE X e (lift X.K Ps (dL dl)) := pe_weak h fun σ H Q ⟨c, hs, as, σd, Qd, S, hd, k⟩ =>
  ⟨c, hs, as, σd, _, S, hd, fun ds p vs H' hq st hp h' r => k _ _ _ hq st (by
    have np : ¬ Mk c hs as p := S.fr.wf.fresh hp
    exact .lst (.inl (.inl (msk_some.mpr ⟨np, h'⟩))) (dpAll_mono (msk_less fun a m => by
      rcases m with m | m | m
      · exact .inl m
      · exact .inr (.inl m)
      · exact .inr (.inr (List.mem_cons_of_mem _ m))) r))⟩
/-! ### things that are walked or counted: a list or a tuple -/
def dVarQ (i : Nat) : DQ := fun σ Q => match σ[i]? with
  | some (some (.dat (.list ds))) => Q true ds
  | some (some (.dat (.tuple ds))) => Q false ds
  | some (some (.own ds)) => Q true ds
  | _ => False
theorem SeqR.ex {K : PySem.W.Frag} {M : Addr → Prop} {as : List Addr} {H : Hp} {v : V} {b : Bool} {ds : List PyData} (h : SeqR K M as H v b ds) : ∃ p xs, v = .ref p ∧ (if b then SqL K H p xs else SqT K H p xs) ∧ DpAll K (msk M H) xs ds := by
  rcases h with h | ⟨rfl, a, vs, rfl, _, h1, h2⟩
  · cases b with
    | true =>
      simp only [if_true] at h
      cases h with
      | lst h1 h2 => exact ⟨_, _, rfl, ex_l msk_ex h1, h2⟩
    | false =>
      simp only [Bool.false_eq_true, if_false] at h
      cases h with
      | tup h1 h2 => exact ⟨_, _, rfl, ex_t msk_ex h1, h2⟩
  · exact ⟨a, vs, rfl, sq_of h1, h2⟩
theorem SeqR.ex2 {K : PySem.W.Frag} {M : Addr → Prop} {as : List Addr} {H : Hp} {v : V} {b : Bool} {ds : List PyData} (h : SeqR K M as H v b ds) : ∃ p xs, v = .ref p ∧ (SqL K H p xs ∨ SqT K H p xs) ∧ DpAll K (msk M H) xs ds := by
  obtain ⟨p, xs, e, h1, h2⟩ := h.ex
  refine ⟨p, xs, e, ?_, h2⟩
  cases b with
  | true => exact .inl h1
  | false => exact .inr h1
theorem pq_var {i : Nat} (h : PE X e (tVar i)) : PE X e (liftQ X.K Ps (dVarQ i)) := pe_weak h fun σ H Q ⟨c, hs, as, σd, Qd, S, hd, k⟩ => by
  unfold dVarQ at hd
  split at hd
  · rename_i ds q
    obtain ⟨v, h1, h2⟩ := S.slot i _ q
    exact ⟨v, h1, k true ds v H hd Step.refl (.inl h2)⟩
  · rename_i ds q
    obtain ⟨v, h1, h2⟩ := S.slot i _ q
    exact ⟨v, h1, k false ds v H hd Step.refl (.inl h2)⟩
  · rename_i ds q
    obtain ⟨v, h1, a, vs, rfl, ha, h2, h3⟩ := S.slot i _ q
    exact ⟨_, h1, k true ds _ H hd Step.refl (.inr ⟨rfl, a, vs, rfl, ha, h2, h3⟩)⟩
  · exact hd.elim
def dSeqE (de : DE) : DQ := fun σ Q => de σ fun d => match d with
  | .list ds => Q true ds
  | .tuple ds => Q false ds
  | _ => False
theorem pq_dat {de : DE} (h : PE X e (lift X.K Ps de)) : PE X e (liftQ X.K Ps (dSeqE de)) := pe_weak h fun σ H Q ⟨c, hs, as, σd, Qd, S, hd, k⟩ =>
  ⟨c, hs, as, σd, _, S, hd, fun d v H' hq st r => by
    split at hq
    · exact k true _ v H' hq st (.inl r)
    · exact k false _ v H' hq st (.inl r)
    · exact hq.elim⟩
/-- x[i] -/
def rIxS (K : PySem.W.Frag) : R2 := fun x y H Q => ∃ p i xs v, x = .ref p ∧ y = .int i ∧ (SqL K H p xs ∨ SqT K H p xs) ∧ atI xs i = some v ∧ Q v H
theorem ix_S : IxR X (rIxS X.K) := by
  intro value slice pins s σ H x y v u Q I rx ry h hs
  obtain ⟨p, i, xs, z, ex, ey, e, ha, q⟩ := h
  rcases e with hl | ht
  · exact ix_list value slice pins s σ H x y v u Q I rx ry ⟨p, xs, i, z, ex, ey, hl, ha, q⟩ hs
  · exact ix_tup value slice pins s σ H x y v u Q I rx ry ⟨p, xs, i, z, ex, ey, ht, ha, q⟩ hs
theorem dpAll_atI {K : PySem.W.Frag} {H : Hp} {vs : List V} {ds : List PyData} {i : Int} {d : PyData} (h : DpAll K H vs ds) (e : atI ds i = some d) : ∃ v, atI vs i = some v ∧ Dp K H v d := by
  unfold atI at e ⊢
  rw [h.len]
  obtain ⟨j, e1, e2⟩ := Option.bind_eq_some_iff.mp e
  obtain ⟨v, e3, e4⟩ := h.get e2
  exact ⟨v, Option.bind_eq_some_iff.mpr ⟨j, e1, e3⟩, e4⟩
def dIx (dq : DQ) (di : DE) : DE := fun σ Q => dq σ fun _ ds => di σ fun x => match x with
  | .int i => match atI ds i with
    | some d => Q d
    | none => False
  | _ => False
theorem pd_ix {dq : DQ} {di : DE} (ha : PE X a (liftQ X.K Ps dq)) (hb : PE X b (lift X.K Ps di)) (hs : PlainIx b) : PE X (.Subscript a b pos) (lift X.K Ps (dIx dq di)) := pe_weak (pe_ix ix_S ha hb hs) fun σ H Q ⟨c, hs, as, σd, Qd, S, hd, k⟩ =>
  ⟨c, hs, as, σd, _, S, hd, fun bb ds v H1 h1 s1 r1 => ⟨c, hs, as, σd, _, S.step s1, h1, fun x w H2 h2 s2 r2 => by
    split at h2
    · rename_i i
      split at h2
      · rename_i d q
        cases r2
        obtain ⟨p, xs, rfl, h3, h4⟩ := (r1.step (S.step s1).fr s2).ex2
        obtain ⟨z, h5, h6⟩ := dpAll_atI h4 q
        exact ⟨p, i, xs, z, rfl, rfl, h3, h5, k _ _ _ h2 (s1.trans s2) h6⟩
      · exact h2.elim
    · exact h2.elim⟩⟩
/-! ### built-ins of one list or tuple -/
def OpQ (K : PySem.W.Frag) (Ps : TX) (r : List V → Hp → VK → Prop) (f : Bool → List PyData → (PyData → Prop) → Prop) : Prop := ∀ (M : Addr → Prop) (hs : List Addr) (H : Hp) (p : Addr) (xs : List V) (b : Bool) (ds : List PyData) (Qd : PyData → Prop) (Q : VK),
  Wf Ps M hs H → (if b then SqL K H p xs else SqT K H p xs) → DpAll K (msk M H) xs ds → f b ds Qd → (∀ d z H', Qd d → Step hs Ps H H' → Dp K (msk M H') z d → Q z H') → r [.ref p] H Q
def dOpQ (f : Bool → List PyData → (PyData → Prop) → Prop) (dq : DQ) : DE := fun σ Q => dq σ fun b ds => f b ds Q
theorem lift_opQ {r : List V → Hp → VK → Prop} {f : Bool → List PyData → (PyData → Prop) → Prop} {dq : DQ} {σ : L2.St} {H : Hp} {Q : VK} (ho : OpQ X.K Ps r f) (h : lift X.K Ps (dOpQ f dq) σ H Q) : tCB r (tCons (liftQ X.K Ps dq) tNil) σ H Q := by
  obtain ⟨c, hs, as, σd, Qd, S, hd, k⟩ := h
  refine ⟨c, hs, as, σd, _, S, hd, fun b ds v H1 h1 s1 r1 => ?_⟩
  obtain ⟨p, xs, rfl, h3, h4⟩ := r1.ex
  exact ho _ hs H1 p xs b ds Qd Q (S.step s1).fr.wf h3 h4 h1 fun d z H' h s r => k d z H' h (s1.trans s) r
/-- len -/
def fLen : Bool → List PyData → (PyData → Prop) → Prop := fun _ ds Q => Q (.int ds.length)
theorem opq_len {K : PySem.W.Frag} : OpQ K Ps (fun xs H Q => ∃ p ys, xs = [.ref p] ∧ (SqL K H p ys ∨ SqT K H p ys) ∧ Q (.int ys.length) H) fLen := by
  intro M hs H p xs b ds Qd Q wf h1 h2 h k
  refine ⟨p, xs, rfl, ?_, k _ _ H h Step.refl (by rw [h2.len]; exact .int _)⟩
  cases b with
  | true => exact .inl h1
  | false => exact .inr h1
end
end Dl
end
section
set_option Elab.async false
set_option linter.all false
set_option maxRecDepth 100000
set_option maxHeartbeats 1000000
namespace Dl
open PySem PySem.Spec PyProof.Rows L2 HbE Evl
/-! ### statements -/
structure ED where
  nx : Sd → Prop
  rt : PyData → Prop := fun _ => False
  bk : Sd → Prop := fun _ => False
  ct : Sd → Prop := fun _ => False
abbrev DS := ED → Sd → Prop
structure Rfn (K : PySem.W.Frag) (Ps : TX) (c : C0) (Dd : ED) (D : Ends) : Prop where
  nx : ∀ hs as σ H σd, Sts K Ps c hs as σ H σd → Dd.nx σd → D.nx σ H
  rt : ∀ v H d, Step c.hs0 Ps c.H0 H → Dp K (msk c.M0 H) v d → Dd.rt d → D.rt v H
  bk : ∀ hs as σ H σd, Sts K Ps c hs as σ H σd → Dd.bk σd → D.bk σ H
  ct : ∀ hs as σ H σd, Sts K Ps c hs as σ H σd → Dd.ct σd → D.ct σ H
def liftS (K : PySem.W.Frag) (Ps : TX) (ds : DS) : TS := fun D σ H => ∃ c hs as σd Dd, Sts K Ps c hs as σ H σd ∧ ds Dd σd ∧ Rfn K Ps c Dd D
theorem ps_weak {X : Cx} {e : Stmt} {te te' : TS} (h : PS X e te) (k : ∀ D σ H, te' D σ H → te D σ H) : PS X e te' := ⟨fun pins s σ H D I q => h.run pins s σ H D I (k D σ H q)⟩
theorem pss_weak {X : Cx} {e : List Stmt} {te te' : TS} (h : PSs X e te) (k : ∀ D σ H, te' D σ H → te D σ H) : PSs X e te' := ⟨fun pins s σ H D I q => h.run pins s σ H D I (k D σ H q)⟩
section
variable {K : PySem.W.Frag} {Ps : TX} {c : C0} {hs as : List Addr} {H H' : Hp} {σ : L2.St} {σd : Sd} {i : Nat} {v : V} {p a : Addr}
theorem none_of (f : Fr Ps c hs as H) (s : Step hs Ps H H') (hp : H' p = none) : H p = none := by
  cases z : H p with
  | none => rfl
  | some o => exact absurd hp (s.some f.wf (by rw [z]; simp))
theorem set_get {α : Type} {l : List (Option α)} {i j : Nat} {x w : α} (h : (l.set i (some x))[j]? = some (some w)) : (i = j ∧ x = w) ∨ (i ≠ j ∧ l[j]? = some (some w)) := by
  by_cases e : i = j
  · subst e
    by_cases hl : i < l.length
    · rw [List.getElem?_set_self hl] at h
      cases h
      exact .inl ⟨rfl, rfl⟩
    · rw [List.getElem?_eq_none (by rw [List.length_set]; omega)] at h
      cases h
  · rw [List.getElem?_set_ne e] at h
    exact .inr ⟨e, h⟩
theorem set_has {α : Type} {l : List (Option α)} {m : List (Option WD)} {i : Nat} {x : α} {y w : WD} (hl : l.length = m.length) (h : (m.set i (some y))[i]? = some (some w)) : (l.set i (some x))[i]? = some (some x) := by
  have : i < m.length := by
    by_cases h2 : i < m.length
    · exact h2
    · rw [List.getElem?_eq_none (by rw [List.length_set]; omega)] at h
      cases h
  rw [List.getElem?_set_self (by omega)]
theorem Sts.set (S : Sts K Ps c hs as σ H σd) (w : WD) (hw : ∀ ds, w ≠ .own ds) (h : VR K (Mk c hs as) hs as H v w) : Sts K Ps c hs as (σ.set i (some v)) H (σd.set i (some w)) := by
  refine ⟨S.fr, by simp [S.len], fun j w2 e => ?_, fun j k ds es n e1 e2 => ?_, S.xo⟩
  · rcases set_get e with ⟨rfl, rfl⟩ | ⟨n, e⟩
    · exact ⟨v, set_has S.len ‹_›, h⟩
    · rw [List.getElem?_set_ne n]
      exact S.slot j w2 e
  · rcases set_get e1 with ⟨_, z⟩ | ⟨n1, e1⟩
    · exact absurd z (hw _)
    · rcases set_get e2 with ⟨_, z⟩ | ⟨n2, e2⟩
      · exact absurd z (hw _)
      · rw [List.getElem?_set_ne n1, List.getElem?_set_ne n2]
        exact S.dis j k ds es n e1 e2
theorem ex_own (f : Fr Ps c hs as H) (s : Step hs Ps H H') (hp : H p = none) : Ex (msk (Mk c hs as) H) (msk (Mk c hs (p :: as)) H') := fun b o e => by
  obtain ⟨n, e1⟩ := msk_some.mp (f.wf.ex s b o e)
  have nb : b ≠ p := fun z => by
    have := (msk_some.mp e).2
    rw [z, hp] at this
    cases this
  refine msk_some.mpr ⟨fun m => ?_, e1⟩
  rcases m with m | m | m
  · exact n (.inl m)
  · exact n (.inr (.inl m))
  · rcases List.mem_cons.mp m with z | z
    · exact nb z
    · exact n (.inr (.inr z))
/-- a new list, alone the def's -/
theorem Sts.new {vs : List V} {ds : List PyData} (S : Sts K Ps c hs as σ H σd) (s : Step hs Ps H H') (hp : H p = none) (h' : H' p = some (.lst vs)) (h : DpAll K (msk (Mk c hs (p :: as)) H') vs ds) :
    Sts K Ps c hs (p :: as) (σ.set i (some (.ref p))) H' (σd.set i (some (.own ds))) := by
  have T := S.step s
  have f := S.fr
  have f' : Fr Ps c hs (p :: as) H' := ⟨f.wf0, T.fr.st, T.fr.hat, f.sub, fun b hb => by
    rcases List.mem_cons.mp hb with rfl | hb
    · refine ⟨?_, by rw [h']; simp, fun z => ?_, fun z => ?_⟩
      · cases q : c.H0 b with
        | none => rfl
        | some o => exact absurd hp (f.st.some f.wf0 (by rw [q]; simp))
      · obtain ⟨o, e, _⟩ := (f.hat b z).1
        rw [hp] at e; cases e
      · obtain ⟨ps, e⟩ := f.wf.tbl z
        rw [hp] at e; cases e
    · exact T.fr.own b hb, f.bs.trans (ex_own (p := p) f s hp)⟩
  have e := ex_own (p := p) f s hp
  have old : ∀ (v : V) (w : WD), VR K (Mk c hs as) hs as H v w → VR K (Mk c hs (p :: as)) hs (p :: as) H' v w := fun v w q => by
    cases w with
    | dat d => exact dp_mono e q
    | own es =>
      obtain ⟨a, us, rfl, ha, h1, h2⟩ := q
      exact ⟨a, us, rfl, List.mem_cons_of_mem _ ha, s.keep a _ h1 (f.own a ha).2.2.1 (f.own a ha).2.2.2, dpAll_mono e h2⟩
    | hat => exact q
    | fn _ => exact q
  have notp : ∀ (j : Nat) (es : List PyData), σd[j]? = some (some (.own es)) → σ[j]? ≠ some (some (.ref p)) := fun j es q z => by
    obtain ⟨v, h1, a, us, rfl, ha, h2, _⟩ := S.slot j _ q
    rw [h1] at z
    cases z
    rw [hp] at h2; cases h2
  refine ⟨f', by simp [S.len], fun j w2 e => ?_, fun j k es fs n e1 e2 => ?_, S.xo⟩
  · rcases set_get e with ⟨rfl, rfl⟩ | ⟨n, e⟩
    · exact ⟨_, set_has S.len ‹_›, p, vs, rfl, List.mem_cons_self, h', h⟩
    · rw [List.getElem?_set_ne n]
      obtain ⟨v, h1, h2⟩ := S.slot j w2 e
      exact ⟨v, h1, old v w2 h2⟩
  · rcases set_get e1 with ⟨r1, z⟩ | ⟨n1, e1'⟩
    · rcases set_get e2 with ⟨r2, z⟩ | ⟨n2, e2'⟩
      · exact absurd (r1.symm.trans r2) n
      · subst r1
        rw [set_has (x := V.ref p) S.len e1, List.getElem?_set_ne n2]
        exact fun z => notp k fs e2' z.symm
    · rcases set_get e2 with ⟨r2, z⟩ | ⟨n2, e2'⟩
      · subst r2
        rw [set_has (x := V.ref p) S.len e2, List.getElem?_set_ne n1]
        exact notp j es e1'
      · rw [List.getElem?_set_ne n1, List.getElem?_set_ne n2]
        exact S.dis j k es fs n e1' e2'
/-- the def's own list changes -/
theorem Sts.chg {vs' : List V} {ds ds' : List PyData} (S : Sts K Ps c hs as σ H σd) (hi : σd[i]? = some (some (.own ds))) (ha : σ[i]? = some (some (.ref a))) (h : DpAll K (msk (Mk c hs as) H) vs' ds') :
    Sts K Ps c hs as σ (upd H a (.lst vs')) (σd.set i (some (.own ds'))) := by
  obtain ⟨v, h1, b, vs, rfl, hb, h2, h3⟩ := S.slot i _ hi
  rw [ha] at h1
  cases h1
  have f := S.fr
  obtain ⟨o1, o2, o3, o4⟩ := f.own a hb
  have nh : ∀ p ∈ hs, p ≠ a := fun p hp z => o3 (z ▸ hp)
  have nP : ∀ p ∈ Ps.l, p.1 ≠ a := fun p hp z => o4 (z ▸ ad_of hp)
  have up : ∀ b, b ≠ a → upd H a (.lst vs') b = H b := fun b n => upd_ne n
  have ex : Ex (msk (Mk c hs as) H) (msk (Mk c hs as) (upd H a (.lst vs'))) := fun x o e => by
    obtain ⟨n, e⟩ := msk_some.mp e
    exact msk_some.mpr ⟨n, by rw [up x fun z => n (.inr (.inr (z ▸ hb)))]; exact e⟩
  have f' : Fr Ps c hs as (upd H a (.lst vs')) := ⟨f.wf0, ⟨fun x o e n m => by rw [up x fun z => by rw [z, o1] at e; cases e]; exact f.st.keep x o e n m, fun p hp e => by rw [up p (nh p (f.sub p hp))]; exact (f.hat p (f.sub p hp)).1,
      fun P hP e => by
        exact (f.wf.tab P hP).2.keep (up P.1 (nP P hP)) fun c q z => by rw [up c fun y => codeO_lst (by rw [← y] at h2; exact Option.some.inj (z.symm.trans h2))]; exact z⟩,
    fun p hp => by rw [up p (nh p hp)]; exact f.hat p hp, f.sub, fun x hx => by
      refine ⟨(f.own x hx).1, ?_, (f.own x hx).2.2⟩
      by_cases z : x = a
      · rw [z, upd_same]; simp
      · rw [up x z]; exact (f.own x hx).2.1, f.bs.trans ex⟩
  have il : i < σ.length := by
    have := List.getElem?_eq_some_iff.mp ha
    exact this.1
  refine ⟨f', by simp [S.len], fun j w2 e => ?_, fun j k es fs n e1 e2 => ?_, S.xo⟩
  · rcases set_get e with ⟨rfl, rfl⟩ | ⟨n, e⟩
    · exact ⟨_, ha, a, vs', rfl, hb, upd_same, dpAll_mono ex h⟩
    · obtain ⟨v, q1, q2⟩ := S.slot j w2 e
      refine ⟨v, q1, ?_⟩
      cases w2 with
      | dat d => exact dp_mono ex q2
      | own es =>
        obtain ⟨x, us, rfl, hx, r1, r2⟩ := q2
        have nx : x ≠ a := fun z => S.dis i j ds es n hi e (by rw [ha, q1, z])
        exact ⟨x, us, rfl, hx, by rw [up x nx]; exact r1, dpAll_mono ex r2⟩
      | hat => exact q2
      | fn _ => exact q2
  · rcases set_get e1 with ⟨rfl, z⟩ | ⟨n1, e1'⟩
    · rcases set_get e2 with ⟨rfl, z⟩ | ⟨n2, e2'⟩
      · exact absurd rfl n
      · exact S.dis i k ds fs n hi e2'
    · rcases set_get e2 with ⟨rfl, z⟩ | ⟨n2, e2'⟩
      · exact S.dis j i es ds n e1' hi
      · exact S.dis j k es fs n e1' e2'
end
section
variable {X : Cx} {Ps : TX} {e a b o : PySem.Expr} {es : List PySem.Expr} {pos : Pos} {st : Stmt} {rest : List Stmt} {t u : DS} {de : DE}
def dNext : DS := fun D σ => D.nx σ
def dSeq (t u : DS) : DS := fun D σ => t { D with nx := u D } σ
theorem psd_nil : PSs X [] (liftS X.K Ps dNext) := pss_weak pss_nil fun D σ H ⟨c, hs, as, σd, Dd, S, h, r⟩ => r.nx hs as σ H σd S h
theorem psd_cons (h1 : PS X st (liftS X.K Ps t)) (h2 : PSs X rest (liftS X.K Ps u)) : PSs X (st :: rest) (liftS X.K Ps (dSeq t u)) := pss_weak (pss_cons h1 h2) fun D σ H ⟨c, hs, as, σd, Dd, S, h, r⟩ =>
  ⟨c, hs, as, σd, _, S, h, ⟨fun hs' as' σ' H' σd' S' h' => ⟨c, hs', as', σd', Dd, S', h', r⟩, r.rt, r.bk, r.ct⟩⟩
theorem psd_one (h1 : PS X st (liftS X.K Ps t)) : PSs X [st] (liftS X.K Ps t) := pss_one h1
def dRet (de : DE) : DS := fun D σ => de σ D.rt
theorem Sts.ret {K : PySem.W.Frag} {c : C0} {hs as : List Addr} {σ : L2.St} {H H' : Hp} {σd : Sd} (S : Sts K Ps c hs as σ H σd) (s : Step hs Ps H H') : Step c.hs0 Ps c.H0 H' := (S.step s).fr.st
theorem less_mk {K : PySem.W.Frag} {c : C0} {hs as : List Addr} {H : Hp} {v : V} {d : PyData} (h : Dp K (msk (Mk c hs as) H) v d) : Dp K (msk c.M0 H) v d := dp_mono (msk_less fun _ m => .inl m) h
theorem psd_ret (h : PE X e (lift X.K Ps de)) : PS X (.Return (some e) pos) (liftS X.K Ps (dRet de)) := ps_weak (ps_ret h) fun D σ H ⟨c, hs, as, σd, Dd, S, h, r⟩ =>
  ⟨c, hs, as, σd, _, S, h, fun d v H' hd s q => r.rt v H' d (S.ret s) (less_mk q) hd⟩
/-- return of the def's own list -/
def dRetO (i : Nat) : DS := fun D σ => match σ[i]? with
  | some (some (.own ds)) => D.rt (.list ds)
  | _ => False
theorem psd_retO {i : Nat} (h : PE X e (tVar i)) : PS X (.Return (some e) pos) (liftS X.K Ps (dRetO i)) := ps_weak (ps_ret h) fun D σ H ⟨c, hs, as, σd, Dd, S, h, r⟩ => by
  unfold dRetO at h
  split at h
  · rename_i ds q
    obtain ⟨v, h1, a, vs, rfl, ha, h2, h3⟩ := S.slot i _ q
    refine ⟨_, h1, r.rt _ H _ S.fr.st (.lst (.inl (.inl (msk_some.mpr ⟨fun m => ?_, h2⟩))) (dpAll_mono (msk_less fun _ m => .inl m) h3)) h⟩
    exact S.fr.wf0.al a m (S.fr.own a ha).1
  · exact h.elim
def dIf (c : DT) (t u : DS) : DS := fun D σ => c σ fun b => if b = true then t D σ else u D σ
theorem psd_if {cnd : PySem.Expr} {ab bb : List Stmt} {tc : DT} (hc : PT X cnd (liftT X.K Ps tc)) (ha : PSs X ab (liftS X.K Ps t)) (hb : PSs X bb (liftS X.K Ps u)) : PS X (.If cnd ab bb pos) (liftS X.K Ps (dIf tc t u)) :=
  ps_weak (ps_if hc ha hb) fun D σ H ⟨c, hs, as, σd, Dd, S, h, r⟩ => ⟨c, hs, as, σd, _, S, h, fun bl H1 h1 s1 => by
    cases bl with
    | true => exact ⟨c, hs, as, σd, Dd, S.step s1, h1, r⟩
    | false => exact ⟨c, hs, as, σd, Dd, S.step s1, h1, r⟩⟩
/-- x = e -/
def dSet (i : Nat) (de : DE) : DS := fun D σ => de σ fun d => D.nx (σ.set i (some (.dat d)))
theorem lift_set {i : Nat} {D : Ends} {σ : L2.St} {H : Hp} (h : liftS X.K Ps (dSet i de) D σ H) : tAsg (lift X.K Ps de) (gName i) D σ H := by
  obtain ⟨c, hs, as, σd, Dd, S, h, r⟩ := h
  exact ⟨c, hs, as, σd, _, S, h, fun d v H1 h1 s1 r1 => r.nx hs as _ H1 _ ((S.step s1).set (.dat d) (fun _ z => by cases z) r1) h1⟩
/-- x = a new list that the def changes later -/
def dSetO (i : Nat) (dl : DL) : DS := fun D σ => dl σ fun ds => D.nx (σ.set i (some (.own ds)))
theorem lift_setO {i : Nat} {dl : DL} {D : Ends} {σ : L2.St} {H : Hp} (h : liftS X.K Ps (dSetO i dl) D σ H) : tAsg (liftN X.K Ps dl) (gName i) D σ H := by
  obtain ⟨c, hs, as, σd, Dd, S, h, r⟩ := h
  exact ⟨c, hs, as, σd, _, S, h, fun ds p vs H1 h1 s1 hp h2 h3 => r.nx hs (p :: as) _ H1 _ (S.new s1 hp h2 h3) h1⟩
section
variable {i : Nat} {x : Str} {pos' : Pos}
theorem psd_set (hN : X.N.Nodup) (hi : X.N[i]? = some x) (hx : Loc X.env.scope x) (he : PE X e (lift X.K Ps de)) (hs : swapsWith e (some (.Name x pos')) pos.line X.env = pure false := by rfl) (hf : X.fn x = true ∨ X.env.scope.names.lookup x = some .local := by first | exact .inl rfl | exact .inr rfl | assumption) :
    PS X (.Assign [.Name x pos'] e pos) (liftS X.K Ps (dSet i de)) := ps_weak (ps_set hN hi hx he hs hf) fun _ _ _ => lift_set
theorem psd_setO {dl : DL} (hN : X.N.Nodup) (hi : X.N[i]? = some x) (hx : Loc X.env.scope x) (he : PE X e (liftN X.K Ps dl)) (hs : swapsWith e (some (.Name x pos')) pos.line X.env = pure false := by rfl) (hf : X.fn x = true ∨ X.env.scope.names.lookup x = some .local := by first | exact .inl rfl | exact .inr rfl | assumption) :
    PS X (.Assign [.Name x pos'] e pos) (liftS X.K Ps (dSetO i dl)) := ps_weak (ps_set hN hi hx he hs hf) fun _ _ _ => lift_setO
/-- x op= e, of ints -/
def dAug (i : Nat) (f : Int → Int → Int) (de : DE) : DS := fun D σ => match σ[i]? with
  | some (some (.dat (.int n))) => de σ fun d => match d with
    | .int m => D.nx (σ.set i (some (.dat (.int (f n m)))))
    | _ => False
  | _ => False
end
/-- an expression alone -/
def dDrop (de : DE) : DS := fun D σ => de σ fun _ => D.nx σ
theorem psd_expr (he : PE X e (lift X.K Ps de)) (hs : swapsWith e none pos.line X.env = pure false := by rfl) : PS X (.Expr e pos) (liftS X.K Ps (dDrop de)) := ps_weak (ps_expr he hs) fun D σ H ⟨c, hs, as, σd, Dd, S, h, r⟩ =>
  ⟨c, hs, as, σd, _, S, h, fun d v H1 h1 s1 _ => r.nx hs as _ H1 _ (S.step s1) h1⟩
/-- found.append(e) -/
def dApp (i : Nat) (de : DE) : DS := fun D σ => match σ[i]? with
  | some (some (.own ds)) => de σ fun d => ds.length < 100000 ∧ D.nx (σ.set i (some (.own (ds ++ [d]))))
  | _ => False
theorem lift_app {i : Nat} {D : Ends} {σ : L2.St} {H : Hp} (h : liftS X.K Ps (dApp i de) D σ H) : tDrop (tBM X.K "list" rAppend (tVar i) (tCons (lift X.K Ps de) tNil)) D σ H := by
  obtain ⟨c, hs, as, σd, Dd, S, h, r⟩ := h
  unfold dApp at h
  split at h
  · rename_i ds q
    obtain ⟨v, h1, a, vs, rfl, ha, h2, h3⟩ := S.slot i _ q
    refine ⟨_, h1, .inl ⟨rfl, vs, sq_of h2⟩, c, hs, as, σd, _, S, h, fun d w H1 h4 s1 r1 => ?_⟩
    have T := S.step s1
    have e1 : H1 a = some (.lst vs) := s1.keep a _ h2 (S.fr.own a ha).2.2.1 (S.fr.own a ha).2.2.2
    have e3 := dpAll_mono (S.fr.wf.ex s1) h3
    exact ⟨a, vs, w, rfl, rfl, e1, sz_lt (by rw [h3.len]; exact h4.1), r.nx hs as _ _ _ (T.chg q h1 (e3.app (.cons r1 .nil))) h4.2⟩
  · exact h.elim
/-- counts[k] = e -/
def dPut (i : Nat) (di de : DE) : DS := fun D σ => match σ[i]? with
  | some (some (.own ds)) => de σ fun d => di σ fun x => match x with
    | .int k => match ixN ds.length k with
      | some j => D.nx (σ.set i (some (.own (ds.set j d))))
      | none => False
    | _ => False
  | _ => False
/-- a list that is changed no more -/
def dFrz (i : Nat) (t : DS) : DS := fun D σ => match σ[i]? with
  | some (some (.own ds)) => t D (σ.set i (some (.dat (.list ds))))
  | _ => False
end
section
variable {K : PySem.W.Frag} {Ps : TX} {c : C0} {hs as : List Addr} {H H' : Hp} {σ : L2.St} {σd : Sd} {i : Nat}
theorem Sts.frz {ds : List PyData} (S : Sts K Ps c hs as σ H σd) (hi : σd[i]? = some (some (.own ds))) : ∃ as', Sts K Ps c hs as' σ H (σd.set i (some (.dat (.list ds)))) := by
  obtain ⟨v, h1, a, vs, rfl, ha, h2, h3⟩ := S.slot i _ hi
  have f := S.fr
  have ex : Ex (msk (Mk c hs as) H) (msk (Mk c hs (as.filter (· ≠ a))) H) := msk_less fun x m => by
    rcases m with m | m | m
    · exact .inl m
    · exact .inr (.inl m)
    · exact .inr (.inr ((List.mem_filter.mp m).1))
  have na : ¬ Mk c hs (as.filter (· ≠ a)) a := fun m => by
    rcases m with m | m | m
    · exact f.wf0.al a m (f.own a ha).1
    · exact (f.own a ha).2.2.1 m
    · have := (List.mem_filter.mp m).2
      simp at this
  refine ⟨as.filter (· ≠ a), ⟨f.wf0, f.st, f.hat, f.sub, fun b hb => f.own b ((List.mem_filter.mp hb).1), f.bs.trans ex⟩, by simp [S.len], fun j w e => ?_, fun j k es fs n e1 e2 => ?_, S.xo⟩
  · rcases set_get e with ⟨rfl, rfl⟩ | ⟨n, e⟩
    · exact ⟨_, h1, .lst (.inl (.inl (msk_some.mpr ⟨na, h2⟩))) (dpAll_mono ex h3)⟩
    · obtain ⟨v, q1, q2⟩ := S.slot j w e
      refine ⟨v, q1, ?_⟩
      cases w with
      | dat d => exact dp_mono ex q2
      | own es =>
        obtain ⟨x, us, rfl, hx, r1, r2⟩ := q2
        have nx : x ≠ a := fun z => S.dis i j ds es n hi e (by rw [h1, q1, z])
        exact ⟨x, us, rfl, List.mem_filter.mpr ⟨hx, by simpa using nx⟩, r1, dpAll_mono ex r2⟩
      | hat => exact q2
      | fn _ => exact q2
  · rcases set_get e1 with ⟨_, z⟩ | ⟨n1, e1'⟩
    · cases z
    · rcases set_get e2 with ⟨_, z⟩ | ⟨n2, e2'⟩
      · cases z
      · exact S.dis j k es fs n e1' e2'
end
section
variable {X : Cx} {Ps : TX} {st : Stmt} {rest : List Stmt} {t : DS}
theorem pss_frz {i : Nat} (h : PSs X rest (liftS X.K Ps t)) : PSs X rest (liftS X.K Ps (dFrz i t)) := pss_weak h fun D σ H ⟨c, hs, as, σd, Dd, S, h, r⟩ => by
  unfold dFrz at h
  split at h
  · rename_i ds q
    obtain ⟨as', T⟩ := S.frz q
    exact ⟨c, hs, as', _, Dd, T, h, r⟩
  · exact h.elim
end
/-! ### a def's promise -/
def startD (n : Nat) (ws : List WD) : Sd := ws.map some ++ List.replicate (n - ws.length) none
section
variable {P : Program} {w : World} {K : PySem.W.Frag} {mg : Str → Option Value} {base : Heap} {Ps : TX}
theorem paired_len {α β : Type} {R : α → β → Prop} : ∀ {xs : List α} {ys : List β}, Paired R xs ys → xs.length = ys.length
  | _, _, .nil => rfl
  | _, _, .cons _ h => by simp [paired_len h]
theorem paired_at {α β : Type} {R : α → β → Prop} : ∀ {xs : List α} {ys : List β} {i : Nat} {y : β}, Paired R xs ys → ys[i]? = some y → ∃ x, xs[i]? = some x ∧ R x y
  | _, _, _, _, .nil, e => by simp at e
  | _, _, 0, _, .cons r _, e => by simp at e; subst e; exact ⟨_, rfl, r⟩
  | _, _, i + 1, _, .cons _ h, e => by simpa using paired_at h (by simpa using e)
theorem sts_start {Ps : TX} {M : Addr → Prop} {hs : List Addr} {H : Hp} {vs : List V} {ws : List WD} {n : Nat} (N : List Str) (hN : N.length = n) (wf : Wf Ps M hs H) (p : Paired (VR K M hs [] H) vs ws) (xo : XOk K Ps ⟨hs, M, H, msk M H⟩) : Sts K Ps ⟨hs, M, H, msk M H⟩ hs [] (start N vs) H (startD n ws) := by
  have len := paired_len p
  have em : Mk ⟨hs, M, H, msk M H⟩ hs [] = M := by
    funext a
    apply propext
    constructor
    · intro m
      rcases m with m | m | m
      · exact m
      · exact (wf.hat a m).1
      · cases m
    · exact fun m => .inl m
  refine ⟨⟨wf, Step.refl, fun p hp => ⟨(wf.hat p hp).2, .inl hp⟩, fun p hp => hp, fun a ha => (by cases ha), by rw [em]; exact Ex.refl _⟩, ?_, fun i wd e => ?_, fun i j ds es n e1 e2 => ?_, xo⟩
  · unfold L2.start startD
    simp [len, hN]
  · unfold startD at e
    have hi : i < ws.length := by
      by_cases h : i < ws.length
      · exact h
      · rw [List.getElem?_append_right (by simp; omega)] at e
        by_cases h2 : i - (ws.map some).length < n - ws.length
        · rw [List.getElem?_replicate] at e
          split at e <;> cases e
        · rw [List.getElem?_eq_none (by simp at h2 ⊢; omega)] at e
          cases e
    rw [List.getElem?_append_left (by simpa using hi), List.getElem?_map] at e
    cases q : ws[i]? with
    | none => rw [q] at e; cases e
    | some wd' =>
      rw [q] at e
      cases e
      obtain ⟨v, h1, h2⟩ := paired_at p q
      refine ⟨v, ?_, by rw [em]; exact h2⟩
      unfold L2.start
      rw [List.getElem?_append_left (by simp; omega), List.getElem?_map, h1]
      rfl
  · exfalso
    unfold startD at e1
    have hi : i < ws.length := by
      by_cases h : i < ws.length
      · exact h
      · rw [List.getElem?_append_right (by simp; omega)] at e1
        rw [List.getElem?_replicate] at e1
        split at e1 <;> cases e1
    rw [List.getElem?_append_left (by simpa using hi), List.getElem?_map] at e1
    cases q : ws[i]? with
    | none => rw [q] at e1; cases e1
    | some wd' =>
      rw [q] at e1
      cases e1
      obtain ⟨v, _, h2⟩ := paired_at p q
      obtain ⟨_, _, _, z, _⟩ := h2
      cases z
/-- no exception leaves -/
abbrev tx0 (l : TbL) : TX := ⟨l, fun _ => False, fun _ _ _ => False⟩
end
end Dl
end
section
set_option Elab.async false
set_option linter.all false
set_option maxRecDepth 100000
set_option maxHeartbeats 1000000
namespace Dl
open PySem PySem.Spec PyProof.Rows L2 HbE Evl
/-! ### targets -/
abbrev DG := PyData → Sd → (Sd → Prop) → Prop
abbrev DGs := List PyData → Sd → (Sd → Prop) → Prop
def liftG (K : PySem.W.Frag) (Ps : TX) (ts : List Nat) (dg : DG) : TG := fun v σ H Q => ∃ c hs as σd d Qd, Sts K Ps c hs as σ H σd ∧ Dp K (msk (Mk c hs as) H) v d ∧ dg d σd Qd ∧ ∀ σ' σd', Sts K Ps c hs as σ' H σd' → wipe σ' ts = wipe σ ts → Qd σd' → Q σ' H
def liftGs (K : PySem.W.Frag) (Ps : TX) (ts : List Nat) (dg : DGs) : TGs := fun vs σ H Q => ∃ c hs as σd ds Qd, Sts K Ps c hs as σ H σd ∧ DpAll K (msk (Mk c hs as) H) vs ds ∧ dg ds σd Qd ∧ ∀ σ' σd', Sts K Ps c hs as σ' H σd' → wipe σ' ts = wipe σ ts → Qd σd' → Q σ' H
theorem pg_weak {X : Cx} {e : PySem.Expr} {t t' : TG} (h : PG X e t) (k : ∀ v σ H Q, t' v σ H Q → t v σ H Q) : PG X e t' := ⟨fun pins s σ H v u Q I r q => h.run pins s σ H v u Q I r (k v σ H Q q)⟩
theorem pgs_weak {X : Cx} {e : List PySem.Expr} {t t' : TGs} (h : PGs X e t) (k : ∀ v σ H Q, t' v σ H Q → t v σ H Q) : PGs X e t' := ⟨fun pins s σ H v u Q I r q => h.run pins s σ H v u Q I r (k v σ H Q q)⟩
theorem wipe_get {σ : L2.St} {ts : List Nat} {j : Nat} : (wipe σ ts)[j]? = if j ∈ ts then (σ[j]?).map (fun _ => none) else σ[j]? := by
  induction ts with
  | nil => simp [wipe]
  | cons t ts ih =>
    unfold wipe
    by_cases e : t = j
    · subst e
      by_cases hl : t < (wipe σ ts).length
      · rw [List.getElem?_set_self hl]
        rw [wipe_length] at hl
        simp [hl]
      · rw [List.getElem?_eq_none (by rw [List.length_set]; omega)]
        rw [wipe_length] at hl
        simp [List.getElem?_eq_none (Nat.le_of_not_lt hl)]
    · rw [List.getElem?_set_ne e, ih]
      have : j ≠ t := fun z => e z.symm
      simp [this]
theorem wipe_ext {σ σ' : L2.St} {ts : List Nat} (hl : σ'.length = σ.length) (h : ∀ j, j ∉ ts → σ'[j]? = σ[j]?) : wipe σ' ts = wipe σ ts := by
  apply List.ext_getElem?
  intro j
  rw [wipe_get, wipe_get]
  by_cases hj : j ∈ ts
  · simp only [hj, if_true]
    by_cases h2 : j < σ.length
    · rw [List.getElem?_eq_getElem h2, List.getElem?_eq_getElem (by omega)]
      rfl
    · rw [List.getElem?_eq_none (by omega), List.getElem?_eq_none (by omega)]
  · simp only [hj, if_false]
    exact h j hj
theorem wipe_back {σ σ' : L2.St} {ts : List Nat} (h : wipe σ' ts = wipe σ ts) : σ'.length = σ.length ∧ ∀ j, j ∉ ts → σ'[j]? = σ[j]? := by
  refine ⟨?_, fun j hj => ?_⟩
  · have := congrArg List.length h
    rwa [wipe_length, wipe_length] at this
  · have := congrArg (fun l => l[j]?) h
    simp only [wipe_get, hj, if_false] at this
    exact this
theorem wipe_more {σ σ' : L2.St} {ts us : List Nat} (h : wipe σ' ts = wipe σ ts) (k : ∀ t ∈ ts, t ∈ us) : wipe σ' us = wipe σ us :=
  wipe_ext (wipe_back h).1 fun j hj => (wipe_back h).2 j fun m => hj (k j m)
section
variable {X : Cx} {Ps : TX} {e : PySem.Expr} {es : List PySem.Expr} {pos : Pos} {i : Nat} {x : Str} {ts us : List Nat}
def gSet (i : Nat) : DG := fun d σ Q => Q (σ.set i (some (.dat d)))
theorem pgd_name (h : PG X e (gName i)) : PG X e (liftG X.K Ps [i] (gSet i)) := pg_weak h fun v σ H Q ⟨c, hs, as, σd, d, Qd, S, hd, hg, k⟩ =>
  k _ _ (S.set (.dat d) (fun _ z => by cases z) hd) (wipe_ext (by simp) fun j hj => List.getElem?_set_ne (fun z => hj (by simp [z]))) hg
def gsNil : DGs := fun ds σ Q => match ds with
  | [] => Q σ
  | _ => False
theorem pgsd_nil : PGs X [] (liftGs X.K Ps [] gsNil) := pgs_weak pgs_nil fun v σ H Q ⟨c, hs, as, σd, d, Qd, S, hd, hg, k⟩ => by
  unfold gsNil at hg
  split at hg
  · cases hd
    exact ⟨rfl, k _ _ S rfl hg⟩
  · exact hg.elim
def gsCons (t : DG) (u : DGs) : DGs := fun ds σ Q => match ds with
  | d :: r => t d σ fun σ' => u r σ' Q
  | [] => False
theorem pgsd_cons {t : DG} {u : DGs} (h1 : PG X e (liftG X.K Ps ts t)) (h2 : PGs X es (liftGs X.K Ps us u)) (hs : (assignEach (e :: es) X.env).map (·.2) = assign e X.env :: (assignEach es X.env).map (·.2) := by rfl) :
    PGs X (e :: es) (liftGs X.K Ps (ts ++ us) (gsCons t u)) := pgs_weak (pgs_cons h1 h2 hs) fun vs σ H Q ⟨c, hs, as, σd, ds, Qd, S, hd, hg, k⟩ => by
  cases hd with
  | nil => exact hg.elim
  | cons q1 q2 =>
    refine ⟨_, _, rfl, c, hs, as, σd, _, _, S, q1, hg, fun σ1 σd1 S1 w1 hg1 => ⟨c, hs, as, σd1, _, _, S1, q2, hg1, fun σ2 σd2 S2 w2 hg2 => k σ2 σd2 S2 ?_ hg2⟩⟩
    have a1 := wipe_more (us := ts ++ us) w1 fun t h => List.mem_append_left _ h
    have a2 := wipe_more (us := ts ++ us) w2 fun t h => List.mem_append_right _ h
    exact a2.trans a1
def gTupD (n : Nat) (t : DGs) : DG := fun d σ Q => match d with
  | .tuple ds => ds.length = n ∧ t ds σ Q
  | _ => False
def dAsgG (g : DG) (de : DE) : DS := fun D σ => de σ fun d => g d σ D.nx
theorem lift_asgG {g : DG} {de : DE} {D : Ends} {σ : L2.St} {H : Hp} (h : liftS X.K Ps (dAsgG g de) D σ H) : tAsg (lift X.K Ps de) (liftG X.K Ps ts g) D σ H := by
  obtain ⟨c, hs, as, σd, Dd, S, h, r⟩ := h
  exact ⟨c, hs, as, σd, _, S, h, fun d v H1 h1 s1 r1 => ⟨c, hs, as, σd, d, _, S.step s1, r1, h1, fun σ' σd' S' _ q => r.nx hs as σ' H1 σd' S' q⟩⟩
end
/-! ### iterators -/
def ItD (K : PySem.W.Frag) (Ps : TX) (B : Hp) (J : It) (ds : List PyData) : Prop := ∀ (M : Addr → Prop) (hs : List Addr) (H : Hp), Wf Ps M hs H → Ex B (msk M H) →
  (∀ i d, ds[i]? = some d → J.go i H ∧ ∀ x H', J.yld i H x H' → Step hs Ps H H' ∧ Dp K (msk M H') x d) ∧ J.stop ds.length H
abbrev DI := Sd → (List PyData → Prop) → Prop
def liftI (K : PySem.W.Frag) (Ps : TX) (di : DI) : TI := fun σ H R => ∃ c hs as σd Qd, Sts K Ps c hs as σ H σd ∧ di σd Qd ∧ ∀ ds J H', Qd ds → Step hs Ps H H' → ItD K Ps (msk (Mk c hs as) H') J ds → R J H'
theorem pi_weak {X : Cx} {tg e : PySem.Expr} {t t' : TI} (h : PI X tg e t) (k : ∀ σ H Q, t' σ H Q → t σ H Q) : PI X tg e t' := ⟨fun pins s σ H R I q => h.run pins s σ H R I (k σ H R q)⟩
theorem itd_list {K : PySem.W.Frag} {Ps : TX} {B : Hp} {a : Addr} {xs : List V} {ds : List PyData} (h : SqL K B a xs) (hd : DpAll K B xs ds) : ItD K Ps B (Itl K a) ds := fun M hs H wf e =>
  ⟨fun i d hi => by
    obtain ⟨v, h1, h2⟩ := hd.get hi
    have hl := ex_l msk_ex (ex_l e h)
    refine ⟨⟨xs, v, hl, h1⟩, fun x H' y => ?_⟩
    obtain ⟨rfl, f⟩ := y
    have := f xs hl
    rw [h1] at this
    cases this
    exact ⟨Step.refl, dp_mono e h2⟩, ⟨xs, ex_l msk_ex (ex_l e h), by rw [hd.len]; exact Nat.le_refl _⟩⟩
theorem itd_tup {K : PySem.W.Frag} {Ps : TX} {B : Hp} {a : Addr} {xs : List V} {ds : List PyData} (h : SqT K B a xs) (hd : DpAll K B xs ds) : ItD K Ps B (Itt K a) ds := fun M hs H wf e =>
  ⟨fun i d hi => by
    obtain ⟨v, h1, h2⟩ := hd.get hi
    have hl := ex_t msk_ex (ex_t e h)
    refine ⟨⟨xs, v, hl, h1⟩, fun x H' y => ?_⟩
    obtain ⟨rfl, f⟩ := y
    have := f xs hl
    rw [h1] at this
    cases this
    exact ⟨Step.refl, dp_mono e h2⟩, ⟨xs, ex_t msk_ex (ex_t e h), by rw [hd.len]; exact Nat.le_refl _⟩⟩
theorem itd_range {K : PySem.W.Frag} {Ps : TX} {B : Hp} {lo : Int} {n : Nat} : ItD K Ps B (Itr lo n) ((List.range n).map fun i : Nat => PyData.int (lo + i)) := fun M hs H wf e =>
  ⟨fun i d hi => by
    have hn : i < n := by
      have := (List.getElem?_eq_some_iff.mp hi).1
      simpa using this
    rw [List.getElem?_map, List.getElem?_range hn] at hi
    cases hi
    refine ⟨hn, fun x H' y => ?_⟩
    obtain ⟨rfl, rfl⟩ := y
    exact ⟨Step.refl, .int _⟩, by show n ≤ _; simp⟩
section
variable {X : Cx} {Ps : TX} {tg e a b : PySem.Expr} {es : List PySem.Expr} {pos p : Pos}
/-- a list or a tuple -/
def iSeq (K : PySem.W.Frag) (tl : TE) : TI := fun σ H R => tl σ H fun x H1 => ∃ a, x = .ref a ∧ (((∃ xs, SqL K H1 a xs) ∧ R (Itl K a) H1) ∨ ((∃ xs, SqT K H1 a xs) ∧ R (Itt K a) H1))
theorem pi_seq {tl : TE} (hl : PE X e tl) : PI X tg e (iSeq X.K tl) := by
  refine ⟨fun pins s σ H R inv h => thn (hl.run pins s σ H _ inv h) fun v s1 ⟨x, H1, inv1, rel, a, ex, hx⟩ => ?_⟩
  subst ex
  cases rel
  have fin : ∀ b ∈ [s1.heap.objs.size], FpOk X pins H1 b := fun b hb => by
    rw [List.mem_singleton.mp hb]
    exact inv1.fpOk (Nat.le_refl _) (inv1.hok.fresh (Nat.le_refl _))
  rcases hx with ⟨⟨xs, hq⟩, q⟩ | ⟨⟨xs, hq⟩, q⟩
  · obtain ⟨its, rv, pl, _⟩ := inv1.list hq
    exact wpAny_pyIter_list pl.isList ⟨s1.heap.objs.size, [s1.heap.objs.size], _, _, H1, rfl, inv1.kept (t' := s1.toks) fun b o eo => Heap.get?_push_of_some _ eo, turn_list a _, ⟨_, Heap.get?_push_size _ rfl, rfl, rfl⟩, fin, q⟩
  · obtain ⟨its, rv, pl, _⟩ := inv1.tuple hq
    exact wpAny_pyIter_tuple (show s1.heap.IsTuple a its.toArray from pl) ⟨s1.heap.objs.size, [s1.heap.objs.size], _, _, H1, rfl, inv1.kept (t' := s1.toks) fun b o eo => Heap.get?_push_of_some _ eo, turn_tuple a _, ⟨_, Heap.get?_push_size _ rfl, rfl, rfl⟩, fin, q⟩
def dItS (de : DE) : DI := fun σ Q => de σ fun d => match d with
  | .list ds => Q ds
  | .tuple ds => Q ds
  | _ => False
theorem pid_seq {de : DE} (h : PE X e (lift X.K Ps de)) : PI X tg e (liftI X.K Ps (dItS de)) := pi_weak (pi_seq h) fun σ H R ⟨c, hs, as, σd, Qd, S, hd, k⟩ =>
  ⟨c, hs, as, σd, _, S, hd, fun d v H1 h1 s1 r1 => by
    split at h1
    · cases r1 with
      | lst h2 h3 => exact ⟨_, rfl, .inl ⟨⟨_, ex_l msk_ex h2⟩, k _ _ H1 h1 s1 (itd_list h2 h3)⟩⟩
    · cases r1 with
      | tup h2 h3 => exact ⟨_, rfl, .inr ⟨⟨_, ex_t msk_ex h2⟩, k _ _ H1 h1 s1 (itd_tup h2 h3)⟩⟩
    · exact h1.elim⟩
def dRange1 (da : DA) : DI := fun σ Q => da σ fun ws => match ws with
  | [.dat (.int n)] => n < 4611686018427387904 ∧ -4611686018427387904 ≤ n ∧ Q ((List.range n.toNat).map fun i : Nat => PyData.int i)
  | _ => False
theorem pid_range1 {da : DA} (hg : Gl X "range") (hm : X.mg "range" = none) (ha : PA X [a] (liftA X.K Ps da)) (hs : starEach [a] X.env = [(false, eval a X.env)] := by rfl) : PI X tg (.Call (.Name "range" p) [a] [] pos) (liftI X.K Ps (dRange1 da)) :=
  pi_weak (pi_range1 hg hm ha hs) fun σ H R ⟨c, hs, as, σd, Qd, S, hd, k⟩ => ⟨c, hs, as, σd, _, S, hd, fun ws vs H1 h1 s1 r1 => by
    split at h1
    · cases r1 with
      | cons q1 q2 =>
        cases q2
        cases q1
        refine ⟨_, rfl, h1.2.1, h1.1, k _ _ H1 h1.2.2 s1 ?_⟩
        have z := itd_range (K := X.K) (Ps := Ps) (B := msk (Mk c hs as) H1) (lo := 0) (n := (‹Int›).toNat)
        simpa using z
    · exact h1.elim⟩
def dRange2 (da : DA) : DI := fun σ Q => da σ fun ws => match ws with
  | [.dat (.int m), .dat (.int n)] => (n < 4611686018427387904 ∧ -4611686018427387904 ≤ n ∧ m < 4611686018427387904 ∧ -4611686018427387904 ≤ m) ∧ Q ((List.range (n - m).toNat).map fun i : Nat => PyData.int (m + i))
  | _ => False
theorem pid_range2 {da : DA} (hg : Gl X "range") (hm : X.mg "range" = none) (ha : PA X [a, b] (liftA X.K Ps da)) (hs : starEach [a, b] X.env = [(false, eval a X.env), (false, eval b X.env)] := by rfl) (hs2 : starEach [b] X.env = [(false, eval b X.env)] := by rfl) :
    PI X tg (.Call (.Name "range" p) [a, b] [] pos) (liftI X.K Ps (dRange2 da)) :=
  pi_weak (pi_range2 hg hm ha hs hs2) fun σ H R ⟨c, hs, as, σd, Qd, S, hd, k⟩ => ⟨c, hs, as, σd, _, S, hd, fun ws vs H1 h1 s1 r1 => by
    split at h1
    · cases r1 with
      | cons q1 q2 =>
        cases q2 with
        | cons q2 q3 =>
          cases q3
          cases q1
          cases q2
          obtain ⟨⟨b1, b2, b3, b4⟩, hq⟩ := h1
          exact ⟨_, _, rfl, ⟨b4, b3, b2, b1⟩, k _ _ H1 hq s1 itd_range⟩
    · exact h1.elim⟩
end
/-! ### loops -/
def forD (g : DG) (tb : DS) (D : ED) : List PyData → Sd → Prop
  | [], σ => D.nx σ
  | d :: ds, σ => g d σ fun σ2 => tb { D with nx := forD g tb D ds, ct := forD g tb D ds, bk := D.nx } σ2
def dFor (di : DI) (g : DG) (tb : DS) : DS := fun D σ => di σ fun ds => forD g tb D ds σ
theorem Sts.base {K : PySem.W.Frag} {Ps : TX} {c : C0} {hs as : List Addr} {σ : L2.St} {H B : Hp} {σd : Sd} (S : Sts K Ps c hs as σ H σd) (e : Ex B (msk (Mk c hs as) H)) : Sts K Ps { c with B := B } hs as σ H σd :=
  ⟨⟨S.fr.wf0, S.fr.st, S.fr.hat, S.fr.sub, S.fr.own, e⟩, S.len, S.slot, S.dis, S.xo⟩
theorem lift_for {K : PySem.W.Frag} {Ps : TX} {di : DI} {g : DG} {tb : DS} {ts : List Nat} {D : Ends} {σ : L2.St} {H : Hp} (h : liftS K Ps (dFor di g tb) D σ H) : tFor (liftI K Ps di) (liftG K Ps ts g) (liftS K Ps tb) D σ H := by
  obtain ⟨c, hs, as, σd, Dd, S, h, r⟩ := h
  refine ⟨c, hs, as, σd, _, S, h, fun ds J H1 h1 s1 it => ?_⟩
  generalize hB : msk (Mk c hs as) H1 = B at it
  have toc : ∀ {hs' as' σ' H' σd'}, Sts K Ps { c with B := B } hs' as' σ' H' σd' → Sts K Ps c hs' as' σ' H' σd' := fun {hs' as' σ' H' σd'} T =>
    T.base (B := c.B) ((S.step s1).fr.bs.trans (by rw [hB]; exact T.fr.bs))
  refine ⟨fun i m σ' H' => ∃ hs' as' σd', Sts K Ps { c with B := B } hs' as' σ' H' σd' ∧ i + m = ds.length ∧ forD g tb Dd (ds.drop i) σd', ⟨ds.length, hs, as, σd, (S.step s1).base (by rw [hB]; exact Ex.refl _), by omega, h1⟩, ?_⟩
  rintro i m σ' H' ⟨hs', as', σd', T, em, hf⟩
  obtain ⟨hgo, hst⟩ := it _ _ _ T.fr.wf T.fr.bs
  by_cases hi : i < ds.length
  · rw [List.drop_eq_getElem_cons hi] at hf
    obtain ⟨g1, g2⟩ := hgo i ds[i] (List.getElem?_eq_getElem hi)
    refine .inr ⟨g1, fun σ2 H2 => ∃ hs2 as2 σd2, Sts K Ps { c with B := B } hs2 as2 σ2 H2 σd2 ∧ forD g tb Dd (ds.drop (i + 1)) σd2, fun σ2 H2 ⟨hs2, as2, σd2, T2, q⟩ => ⟨m - 1, by omega, hs2, as2, σd2, T2, by omega, q⟩, fun x H2 y => ?_⟩
    obtain ⟨s2, rx⟩ := g2 x H2 y
    refine ⟨{ c with B := B }, hs', as', σd', ds[i], _, T.step s2, rx, hf, fun σ3 σd3 T3 _ q => ?_⟩
    exact ⟨{ c with B := B }, hs', as', σd3, _, T3, q, ⟨fun hs4 as4 σ4 H4 σd4 T4 q => ⟨hs4, as4, σd4, T4, q⟩, fun v H4 d s q1 q2 => r.rt v H4 d s q1 q2, fun hs4 as4 σ4 H4 σd4 T4 q => r.nx hs4 as4 σ4 H4 σd4 (toc T4) q, fun hs4 as4 σ4 H4 σd4 T4 q => ⟨hs4, as4, σd4, T4, q⟩⟩⟩
  · rw [List.drop_eq_nil_of_le (Nat.le_of_not_lt hi)] at hf
    exact .inl ⟨(show i = ds.length by omega) ▸ hst, r.nx hs' as' σ' H' σd' (toc T) hf⟩
def dWhile (c : DT) (tb : DS) : DS := fun D σ => ∃ W : Nat → Sd → Prop, (∃ m, W m σ) ∧ ∀ m σ, W m σ → c σ fun b => if b = true then tb { D with nx := fun σ' => ∃ m', m' < m ∧ W m' σ', ct := fun σ' => ∃ m', m' < m ∧ W m' σ', bk := D.nx } σ else D.nx σ
theorem lift_while {K : PySem.W.Frag} {Ps : TX} {tc : DT} {tb : DS} {D : Ends} {σ : L2.St} {H : Hp} (h : liftS K Ps (dWhile tc tb) D σ H) : tWhile (liftT K Ps tc) (liftS K Ps tb) D σ H := by
  obtain ⟨c, hs, as, σd, Dd, S, ⟨W, ⟨m0, w0⟩, turn⟩, r⟩ := h
  refine ⟨fun m σ' H' => ∃ hs' as' σd', Sts K Ps c hs' as' σ' H' σd' ∧ W m σd', ⟨m0, hs, as, σd, S, w0⟩, ?_⟩
  rintro m σ' H' ⟨hs', as', σd', T, w⟩
  refine ⟨c, hs', as', σd', _, T, turn m σd' w, fun b H1 h1 s1 => ?_⟩
  cases b with
  | true =>
    rw [if_pos rfl] at h1 ⊢
    refine ⟨fun σ2 H2 => ∃ hs2 as2 σd2, Sts K Ps c hs2 as2 σ2 H2 σd2 ∧ ∃ m', m' < m ∧ W m' σd2, fun σ2 H2 ⟨hs2, as2, σd2, T2, m', hm, w'⟩ => ⟨m', hm, hs2, as2, σd2, T2, w'⟩, ?_⟩
    exact ⟨c, hs', as', σd', _, T.step s1, h1, ⟨fun hs4 as4 σ4 H4 σd4 T4 q => ⟨hs4, as4, σd4, T4, q⟩, r.rt, fun hs4 as4 σ4 H4 σd4 T4 q => r.nx hs4 as4 σ4 H4 σd4 T4 q, fun hs4 as4 σ4 H4 σd4 T4 q => ⟨hs4, as4, σd4, T4, q⟩⟩⟩
  | false =>
    rw [if_neg (by simp)] at h1 ⊢
    exact r.nx hs' as' σ' H1 σd' (T.step s1) h1
section
variable {X : Cx} {Ps : TX} {tg it cnd : PySem.Expr} {bd : List Stmt} {pos : Pos} {ts : List Nat}
theorem psd_for {di : DI} {g : DG} {tb : DS} (hp : PassesOwn (model X.prog X.w) X.A X.env X.xe) (hc : X.calm = true) (hi : PI X tg it (liftI X.K Ps di)) (hg : PG X tg (liftG X.K Ps ts g)) (hb : PSs X bd (liftS X.K Ps tb))
    (hs : ∀ x, foldedSetIterable it X.env x = pure x := by intro _; rfl) : PS X (.For tg it bd [] pos) (liftS X.K Ps (dFor di g tb)) := ps_weak (ps_for hp hc hi hg hb hs) fun _ _ _ => lift_for
theorem psd_while {tc : DT} {tb : DS} (hp : PassesOwn (model X.prog X.w) X.A X.env X.xe) (hc : PT X cnd (liftT X.K Ps tc)) (hb : PSs X bd (liftS X.K Ps tb)) : PS X (.While cnd bd [] pos) (liftS X.K Ps (dWhile tc tb)) := ps_weak (ps_while hp hc hb) fun _ _ _ => lift_while
end
end Dl
end
section
set_option Elab.async false
set_option linter.all false
set_option maxRecDepth 100000
set_option maxHeartbeats 1000000
namespace Dl
open PySem PySem.Spec PyProof.Rows L2 HbE Evl
/-! ### comprehensions -/
def wipeD (σ : Sd) : List Nat → Sd
  | [] => σ
  | v :: vs => (wipeD σ vs).set v none
theorem wipeD_length (σ : Sd) : ∀ vs : List Nat, (wipeD σ vs).length = σ.length
  | [] => rfl
  | v :: vs => by unfold wipeD; rw [List.length_set, wipeD_length σ vs]
theorem wipeD_some {σ : Sd} {i : Nat} {x : WD} : ∀ {vs : List Nat}, (wipeD σ vs)[i]? = some (some x) → σ[i]? = some (some x) ∧ i ∉ vs
  | [], h => ⟨h, by simp⟩
  | v :: vs, h => by
    unfold wipeD at h
    by_cases e : v = i
    · subst e
      exfalso
      by_cases hl : v < (wipeD σ vs).length
      · rw [List.getElem?_set_self hl] at h; cases h
      · rw [List.getElem?_eq_none (by rw [List.length_set]; omega)] at h; cases h
    · rw [List.getElem?_set_ne e] at h
      obtain ⟨h1, h2⟩ := wipeD_some h
      exact ⟨h1, fun m => (List.mem_cons.mp m).elim (fun z => e z.symm) h2⟩
theorem Sts.wipe {K : PySem.W.Frag} {Ps : TX} {c : C0} {hs as : List Addr} {σ : L2.St} {H : Hp} {σd : Sd} (S : Sts K Ps c hs as σ H σd) (vs : List Nat) : Sts K Ps c hs as (wipe σ vs) H (wipeD σd vs) := by
  refine ⟨S.fr, by rw [wipe_length, wipeD_length, S.len], fun i w e => ?_, fun i j ds es n e1 e2 => ?_, S.xo⟩
  · obtain ⟨h1, h2⟩ := wipeD_some e
    rw [wipe_out h2]
    exact S.slot i w h1
  · obtain ⟨h1, h2⟩ := wipeD_some e1
    obtain ⟨h3, h4⟩ := wipeD_some e2
    rw [wipe_out h2, wipe_out h4]
    exact S.dis i j ds es n h1 h3
def lcD (g : DG) (tt : DT) (te : DE) (σ0 : Sd) (Q : List PyData → Prop) : List PyData → List PyData → Prop
  | [], acc => Q acc
  | d :: ds, acc => g d σ0 fun σ2 => tt σ2 fun b => if b = true then te σ2 fun y => lcD g tt te σ0 Q ds (acc ++ [y]) else lcD g tt te σ0 Q ds acc
def dLc (di : DI) (g : DG) (tt : DT) (te : DE) (vs : List Nat) : DL := fun σ Q => di σ fun ds => ds.length ≤ 100000 ∧ lcD g tt te (wipeD σ vs) Q ds []
/-- a list that is held beside the def's -/
theorem Sts.beside {K : PySem.W.Frag} {Ps : TX} {c : C0} {hs as : List Addr} {σ : L2.St} {H H' : Hp} {σd : Sd} {p : Addr} {vs : List V} (S : Sts K Ps c hs as σ H σd) (s : Step hs Ps H H') (hp : H p = none) (h' : H' p = some (.lst vs)) : Sts K Ps c hs (p :: as) σ H' σd := by
  have T := S.step s
  have f := S.fr
  have e := ex_own (p := p) f s hp
  refine ⟨⟨f.wf0, T.fr.st, T.fr.hat, f.sub, fun b hb => ?_, f.bs.trans e⟩, S.len, fun j w q => ?_, S.dis, S.xo⟩
  · rcases List.mem_cons.mp hb with rfl | hb
    · refine ⟨?_, by rw [h']; simp, fun z => ?_, fun z => ?_⟩
      · cases q : c.H0 b with
        | none => rfl
        | some o => exact absurd hp (f.st.some f.wf0 (by rw [q]; simp))
      · obtain ⟨o, e, _⟩ := (f.hat b z).1
        rw [hp] at e; cases e
      · obtain ⟨ps, e⟩ := f.wf.tbl z
        rw [hp] at e; cases e
    · exact T.fr.own b hb
  · obtain ⟨v, h1, h2⟩ := S.slot j w q
    refine ⟨v, h1, ?_⟩
    cases w with
    | dat d => exact dp_mono e h2
    | own es =>
      obtain ⟨a, us, rfl, ha, r1, r2⟩ := h2
      exact ⟨a, us, rfl, List.mem_cons_of_mem _ ha, s.keep a _ r1 (f.own a ha).2.2.1 (f.own a ha).2.2.2, dpAll_mono e r2⟩
    | hat => exact h2
    | fn _ => exact h2
/-- the list beside changes -/
theorem Sts.beside_upd {K : PySem.W.Frag} {Ps : TX} {c : C0} {hs as : List Addr} {σ : L2.St} {H : Hp} {σd : Sd} {p : Addr} {vs us : List V} (S : Sts K Ps c hs (p :: as) σ H σd) (hl : H p = some (.lst us)) (np : ∀ (i : Nat) (ds : List PyData), σd[i]? = some (some (.own ds)) → σ[i]? ≠ some (some (.ref p))) :
    Sts K Ps c hs (p :: as) σ (upd H p (.lst vs)) σd ∧ Ex (msk (Mk c hs (p :: as)) H) (msk (Mk c hs (p :: as)) (upd H p (.lst vs))) := by
  have f := S.fr
  obtain ⟨o1, o2, o3, o4⟩ := f.own p List.mem_cons_self
  have up : ∀ b, b ≠ p → upd H p (.lst vs) b = H b := fun b n => upd_ne n
  have ex : Ex (msk (Mk c hs (p :: as)) H) (msk (Mk c hs (p :: as)) (upd H p (.lst vs))) := fun x o e => by
    obtain ⟨n, e⟩ := msk_some.mp e
    exact msk_some.mpr ⟨n, by rw [up x fun z => n (.inr (.inr (z ▸ List.mem_cons_self)))]; exact e⟩
  refine ⟨⟨⟨f.wf0, ⟨fun x o e n m => ?_, fun q hq e => ?_, fun P hP e => ?_⟩, fun q hq => ?_, f.sub, fun x hx => ⟨(f.own x hx).1, ?_, (f.own x hx).2.2⟩, f.bs.trans ex⟩, S.len, fun j w e => ?_, S.dis, S.xo⟩, ex⟩
  · rw [up x fun z => by rw [z, o1] at e; cases e]; exact f.st.keep x o e n m
  · rw [up q fun z => o3 (z ▸ f.sub q hq)]; exact (f.hat q (f.sub q hq)).1
  · exact (f.wf.tab P hP).2.keep (up P.1 fun z => o4 (z ▸ ad_of hP)) fun c q z => by rw [up c fun y => codeO_lst (by rw [← y] at hl; exact Option.some.inj (z.symm.trans hl))]; exact z
  · rw [up q fun z => o3 (z ▸ hq)]; exact f.hat q hq
  · by_cases z : x = p
    · rw [z, upd_same]; simp
    · rw [up x z]; exact (f.own x hx).2.1
  · obtain ⟨v, h1, h2⟩ := S.slot j w e
    refine ⟨v, h1, ?_⟩
    cases w with
    | dat d => exact dp_mono ex h2
    | own es =>
      obtain ⟨a, us, rfl, ha, r1, r2⟩ := h2
      have na : a ≠ p := fun z => np j es e (by rw [h1, z])
      exact ⟨a, us, rfl, ha, by rw [up a na]; exact r1, dpAll_mono ex r2⟩
    | hat => exact h2
    | fn _ => exact h2
theorem lift_lc {K : PySem.W.Frag} {Ps : TX} {di : DI} {g : DG} {tt : DT} {te : DE} {ts vs : List Nat} {σ : L2.St} {H : Hp} {Q : VK} (hts : ∀ t ∈ ts, t ∈ vs) (h : liftN K Ps (dLc di g tt te vs) σ H Q) :
    tLc (liftI K Ps di) (liftG K Ps ts g) (liftT K Ps tt) (lift K Ps te) vs σ H Q := by
  obtain ⟨c, hs, as, σd, Qd, S, h, k⟩ := h
  refine ⟨c, hs, as, σd, _, S, h, fun ds J H1 h1 s1 it D hD => ?_⟩
  obtain ⟨hlen, h1⟩ := h1
  have T := S.step s1
  have s2 : Step hs Ps H1 (upd H1 D (.lst [])) := Step.of_ex (Ex.new hD)
  have U := (T.beside s2 hD upd_same).wipe vs
  have exB : Ex (msk (Mk c hs as) H1) (msk (Mk c hs (D :: as)) (upd H1 D (.lst []))) := ex_own T.fr s2 hD
  have npD : ∀ (i : Nat) (es : List PyData), σd[i]? = some (some (.own es)) → σ[i]? ≠ some (some (.ref D)) := fun j es q z => by
    obtain ⟨v, q1, a, us, rfl, ha, q2, _⟩ := T.slot j _ q
    rw [q1] at z
    cases z
    rw [hD] at q2; cases q2
  refine ⟨fun i m H' => i + m = ds.length ∧ ∃ acc accd, Sts K Ps c hs (D :: as) (wipe σ vs) H' (wipeD σd vs) ∧ Ex (msk (Mk c hs as) H1) (msk (Mk c hs (D :: as)) H') ∧ Step hs Ps H H' ∧ H' D = some (.lst acc) ∧ DpAll K (msk (Mk c hs (D :: as)) H') acc accd ∧ accd.length ≤ i ∧ lcD g tt te (wipeD σd vs) Qd (ds.drop i) accd,
    ⟨ds.length, by omega, [], [], U, exB, s1.trans s2, upd_same, .nil, by simp, h1⟩, ?_⟩
  rintro i m H' ⟨em, acc, accd, V, eB, sH, hDl, hA, hAl, hl⟩
  obtain ⟨hgo, hst⟩ := it _ _ _ V.fr.wf eB
  by_cases hi : i < ds.length
  · rw [List.drop_eq_getElem_cons hi] at hl
    obtain ⟨g1, g2⟩ := hgo i ds[i] (List.getElem?_eq_getElem hi)
    have oD : ∀ {H3 H4 : Hp}, Step hs Ps H3 H4 → H3 D = some (.lst acc) → H4 D = some (.lst acc) := fun s e => s.keep D _ e (V.fr.own D List.mem_cons_self).2.2.1 (V.fr.own D List.mem_cons_self).2.2.2
    refine .inr ⟨g1, fun H2 => i + 1 + (m - 1) = ds.length ∧ ∃ acc accd, Sts K Ps c hs (D :: as) (wipe σ vs) H2 (wipeD σd vs) ∧ Ex (msk (Mk c hs as) H1) (msk (Mk c hs (D :: as)) H2) ∧ Step hs Ps H H2 ∧ H2 D = some (.lst acc) ∧ DpAll K (msk (Mk c hs (D :: as)) H2) acc accd ∧ accd.length ≤ i + 1 ∧ lcD g tt te (wipeD σd vs) Qd (ds.drop (i + 1)) accd,
      fun H2 q => ⟨m - 1, by omega, q⟩, fun x H2 y => ?_⟩
    obtain ⟨s3, rx⟩ := g2 x H2 y
    have hD2 := oD s3 hDl
    have e23 := V.fr.wf.ex s3
    refine ⟨c, hs, D :: as, _, ds[i], _, V.step s3, rx, hl, fun σ3 σd3 T3 w3 q3 => ⟨?_, ?_⟩⟩
    · have a := wipe_more (us := vs) w3 hts
      have b : wipe (wipe σ vs) vs = wipe σ vs := wipe_ext (by rw [wipe_length]) fun j hj => wipe_out hj
      rw [a]
      exact b
    · refine ⟨c, hs, D :: as, σd3, _, T3, q3, fun b H3 hb s4 => ?_⟩
      have s34 := s3.trans s4
      have e4 := T3.fr.wf.ex s4
      cases b with
      | true =>
        rw [if_pos rfl] at hb
        dsimp only
        rw [if_pos rfl]
        refine ⟨c, hs, D :: as, σd3, _, T3.step s4, hb, fun d z H4 h4 s5 r5 => ⟨acc, oD s5 (oD s4 hD2), sz_lt (by rw [hA.len]; omega), by omega, acc ++ [z], accd ++ [d], ?_⟩⟩
        have e5 := (T3.step s4).fr.wf.ex s5
        have W4 : Sts K Ps c hs (D :: as) (wipe σ vs) H4 (wipeD σd vs) := ((V.step s3).step s4).step s5
        obtain ⟨W5, e6⟩ := W4.beside_upd (vs := acc ++ [z]) (oD s5 (oD s4 hD2)) fun j es q1 q2 => by
          obtain ⟨q3, q4⟩ := wipeD_some q1
          rw [wipe_out q4] at q2
          exact npD j es q3 q2
        have all := ((e23.trans e4).trans e5).trans e6
        refine ⟨W5, eB.trans all, ?_, upd_same, (dpAll_mono all hA).app (.cons (dp_mono e6 r5) .nil), by simp; omega, h4⟩
        have sH4 := sH.trans ((s3.trans s4).trans s5)
        refine ⟨fun a o q n1 n2 => ?_, fun p hp q => ?_, fun P hP q => ?_⟩
        · have na : a ≠ D := fun z => by
            have : H D ≠ none := by rw [← z, q]; simp
            exact absurd hD (s1.some S.fr.wf this)
          rw [upd_ne na]
          exact sH4.keep a o q n1 n2
        · have na : p ≠ D := fun z => (V.fr.own D List.mem_cons_self).2.2.1 (z ▸ hp)
          rw [upd_ne na]
          exact sH4.hat p hp q
        · have na : P.1 ≠ D := fun z => (V.fr.own D List.mem_cons_self).2.2.2 (z ▸ ad_of hP)
          exact (sH4.tab P hP q).keep (upd_ne na) fun c q z => by rw [upd_ne fun y => codeO_lst (by rw [y] at z; exact Option.some.inj (z.symm.trans (oD s5 (oD s4 hD2))))]; exact z
      | false =>
        rw [if_neg (by simp)] at hb
        dsimp only
        rw [if_neg (by simp)]
        exact ⟨by omega, acc, accd, (V.step s3).step s4, eB.trans (e23.trans e4), sH.trans s34, oD s4 hD2, dpAll_mono (e23.trans e4) hA, by omega, hb⟩
  · rw [List.drop_eq_nil_of_le (Nat.le_of_not_lt hi)] at hl
    refine .inl ⟨(show i = ds.length by omega) ▸ hst, k accd D acc H' hl sH ?_ hDl hA⟩
    exact none_of S.fr s1 hD
def dYes : DT := fun _ Q => Q true
theorem ptsd_nil {X : Cx} {Ps : TX} : PTs X [] (liftT X.K Ps dYes) := ⟨fun pins s σ H Q I h => by
  obtain ⟨c, hs, as, σd, Qd, S, h, k⟩ := h
  exact pts_nil.run pins s σ H Q I (k true H h Step.refl)⟩
theorem pn_lc {X : Cx} {Ps : TX} {elt tg iter : PySem.Expr} {ifs : List PySem.Expr} {scope : Scope} {own : List (Str × Nat)} {pos : Pos} {di : DI} {g : DG} {tt : DT} {te : DE} {ts : List Nat} (hc : X.calm = true) (hN : X.N.Nodup) (hi : PI X tg iter (liftI X.K Ps di)) (ok : BlkOk X.N X.env.scope scope own)
    (hg : ∀ (s : Shared) (H : Hp) (C : Addr) (cl : List (Str × Addr)) (fp : List Addr), PG (X.blk s H scope (compEnvC scope cl C X.env) fp) tg (liftG X.K Ps ts g))
    (ht : ∀ (s : Shared) (H : Hp) (C : Addr) (cl : List (Str × Addr)) (fp : List Addr), PTs (X.blk s H scope (compEnvC scope cl C X.env) fp) ifs (liftT X.K Ps tt))
    (he : ∀ (s : Shared) (H : Hp) (C : Addr) (cl : List (Str × Addr)) (fp : List Addr), PE (X.blk s H scope (compEnvC scope cl C X.env) fp) elt (lift X.K Ps te))
    (hs : ∀ x, foldedSetIterable iter X.env x = pure x := by intro _; rfl) (hts : ∀ t ∈ ts, t ∈ own.map (·.2) := by decide) :
    PE X (.ListComp elt [⟨tg, iter, ifs, 0⟩] scope pos) (liftN X.K Ps (dLc di g tt te (own.map (·.2)))) := pe_weak (pe_lc hc hN hi ok hg ht he hs) fun _ _ _ => lift_lc hts
end Dl
end
section
set_option Elab.async false
set_option linter.all false
set_option maxRecDepth 100000
set_option maxHeartbeats 1000000
namespace Dl
open PySem PySem.Spec PyProof.Rows L2 HbE Evl
section
variable {X : Cx} {Ps : TX} {e a b c0 : PySem.Expr} {es : List PySem.Expr} {pos : Pos} {de da db dc : DE} {ta tb : DT}
/-! ### tests -/
def dNot (t : DT) : DT := fun σ Q => t σ fun b => Q (!b)
theorem ptd_not (h : PT X e (liftT X.K Ps ta)) : PT X (.UnaryOp .Not e pos) (liftT X.K Ps (dNot ta)) := pt_weak (pt_not h) fun σ H Q ⟨c, hs, as, σd, Qd, S, hd, k⟩ => ⟨c, hs, as, σd, _, S, hd, fun b H' q s => k _ H' q s⟩
theorem pw_weak {t t' : TT} (h : PW X e t) (k : ∀ σ H Q, t' σ H Q → t σ H Q) : PW X e t' := ⟨fun wh pins s σ H Q I q => h.run wh pins s σ H Q I (k σ H Q q)⟩
def dAnd (t u : DT) : DT := fun σ Q => t σ fun b => if b = true then u σ Q else Q false
def dOr (t u : DT) : DT := fun σ Q => t σ fun b => if b = true then Q true else u σ Q
theorem pwd_or1 (h : PT X a (liftT X.K Ps ta)) : PW X (.BoolOp .Or [a] pos) (liftT X.K Ps ta) := pw_or1 h
theorem pwd_or {rest : List PySem.Expr} (ha : PT X a (liftT X.K Ps ta)) (hb : PW X (.BoolOp .Or (b :: rest) pos) (liftT X.K Ps tb)) : PW X (.BoolOp .Or (a :: b :: rest) pos) (liftT X.K Ps (dOr ta tb)) := pw_weak (pw_or ha hb) fun σ H Q ⟨c, hs, as, σd, Qd, S, hd, k⟩ =>
  ⟨c, hs, as, σd, _, S, hd, fun d H1 h1 s1 => by
    cases d with
    | false => exact ⟨c, hs, as, σd, Qd, S.step s1, h1, fun d H' q s => k d H' q (s1.trans s)⟩
    | true => exact k _ H1 h1 s1⟩
/-! ### .. as values -/
def dAndV (da db : DE) : DE := fun σ Q => da σ fun x => match x with
  | .bool b => if b = true then db σ Q else Q (.bool false)
  | _ => False
def dOrV (da db : DE) : DE := fun σ Q => da σ fun x => match x with
  | .bool b => if b = true then Q (.bool true) else db σ Q
  | _ => False
theorem pd_and {rest : List PySem.Expr} (ha : PE X a (lift X.K Ps da)) (hb : PE X (.BoolOp .And (b :: rest) pos) (lift X.K Ps db)) : PE X (.BoolOp .And (a :: b :: rest) pos) (lift X.K Ps (dAndV da db)) := pe_weak (pe_and ha hb) fun σ H Q ⟨c, hs, as, σd, Qd, S, hd, k⟩ =>
  ⟨c, hs, as, σd, _, S, hd, fun d v H1 h1 s1 r1 => by
    split at h1
    · rename_i d
      cases r1
      refine ⟨d, rfl, ?_⟩
      cases d with
      | true => exact ⟨c, hs, as, σd, Qd, S.step s1, h1, fun d v H' q s r => k d v H' q (s1.trans s) r⟩
      | false => exact k _ _ H1 h1 s1 (.bl false)
    · exact h1.elim⟩
def dNotV (da : DE) : DE := fun σ Q => da σ fun x => match x with
  | .bool b => Q (.bool (!b))
  | _ => False
theorem pd_not (ha : PE X a (lift X.K Ps da)) : PE X (.UnaryOp .Not a pos) (lift X.K Ps (dNotV da)) := pe_weak (pe_not ha) fun σ H Q ⟨c, hs, as, σd, Qd, S, hd, k⟩ =>
  ⟨c, hs, as, σd, _, S, hd, fun d v H1 h1 s1 r1 => by
    split at h1
    · cases r1
      exact ⟨_, rfl, k _ _ H1 h1 s1 (.bl _)⟩
    · exact h1.elim⟩
def dIfE (t : DT) (da db : DE) : DE := fun σ Q => t σ fun b => if b = true then da σ Q else db σ Q
/-- one-place operations -/
def dNeg (da : DE) : DE := fun σ Q => da σ fun x => match x with
  | .int i => Q (.int (-i))
  | _ => False
theorem pd_neg (ha : PE X a (lift X.K Ps da)) : PE X (.UnaryOp .USub a pos) (lift X.K Ps (dNeg da)) := pe_weak (pe_un un_neg ha) fun σ H Q ⟨c, hs, as, σd, Qd, S, hd, k⟩ =>
  ⟨c, hs, as, σd, _, S, hd, fun d v H1 h1 s1 r1 => by
    split at h1
    · cases r1
      exact ⟨_, rfl, k _ _ H1 h1 s1 (.int _)⟩
    · exact h1.elim⟩
/-- a < b < c -/
def dChain (f g : PyData → PyData → (PyData → Prop) → Prop) (da db dc : DE) : DE := fun σ Q => da σ fun x => db σ fun y => f x y fun z => match z with
  | .bool k => if k = true then dc σ fun w => g y w Q else Q (.bool false)
  | _ => False
theorem lift_chain {r r' : R2} {f g : PyData → PyData → (PyData → Prop) → Prop} {σ : L2.St} {H : Hp} {Q : VK} (ho : Op2 X.K Ps r f) (ho' : Op2 X.K Ps r' g) (h : lift X.K Ps (dChain f g da db dc) σ H Q) : tChain r r' (lift X.K Ps da) (lift X.K Ps db) (lift X.K Ps dc) σ H Q := by
  obtain ⟨c, hs, as, σd, Qd, S, hd, k⟩ := h
  refine ⟨c, hs, as, σd, _, S, hd, fun x v H1 h1 s1 r1 => ⟨c, hs, as, σd, _, S.step s1, h1, fun y w H2 h2 s2 r2 => ?_⟩⟩
  refine ho _ hs H2 v w x y _ _ ((S.step s1).step s2).fr.wf (dp_mono ((S.step s1).fr.wf.ex s2) r1) r2 h2 fun d z H3 h3 s3 r3 => ?_
  have s13 := (s1.trans s2).trans s3
  split at h3
  · rename_i kk
    cases r3
    refine ⟨kk, rfl, ?_⟩
    cases kk with
    | true =>
      refine ⟨c, hs, as, σd, _, S.step s13, h3, fun y' w' H4 h4 s4 r4 => ?_⟩
      have e3 := ((S.step s1).step s2).fr.wf.ex s3
      have e4 := (S.step s13).fr.wf.ex s4
      exact ho' _ hs H4 w w' y y' Qd _ ((S.step s13).step s4).fr.wf (dp_mono (e3.trans e4) r2) r4 h4 fun d z H5 h5 s5 r5 => k d z H5 h5 ((s13.trans s4).trans s5) r5
    | false => exact k _ _ H3 h3 s13 (.bl false)
  · exact h3.elim
theorem pd_chain {op op' : CmpOp} {r r' : R2} {f g : PyData → PyData → (PyData → Prop) → Prop} (h : OpR X (compareOp op) r) (h' : OpR X (compareOp op') r') (ho : Op2 X.K Ps r f) (ho' : Op2 X.K Ps r' g) (ha : PE X a (lift X.K Ps da)) (hb : PE X b (lift X.K Ps db)) (hc : PE X c0 (lift X.K Ps dc))
    (hm : lastMarks [op, op'] [b, c0] = false := by with_unfolding_all rfl) : PE X (.Compare a [op, op'] [b, c0] pos) (lift X.K Ps (dChain f g da db dc)) := pe_weak (pe_chain h h' ha hb hc hm) fun _ _ _ => lift_chain ho ho'
theorem ptd_chain {op op' : CmpOp} {r r' : R2} {f g : PyData → PyData → (PyData → Prop) → Prop} (h : OpR X (compareOp op) r) (h' : OpR X (compareOp op') r') (ho : Op2 X.K Ps r f) (ho' : Op2 X.K Ps r' g) (ha : PE X a (lift X.K Ps da)) (hb : PE X b (lift X.K Ps db)) (hc : PE X c0 (lift X.K Ps dc))
    (hm : lastMarks [op, op'] [b, c0] = false := by with_unfolding_all rfl) : PT X (.Compare a [op, op'] [b, c0] pos) (liftT X.K Ps (dTest (dChain f g da db dc))) := pt_weak (pt_chain h h' ha hb hc hm) fun σ H Q h => by
  have h2 := lift_test h
  unfold tTest at h2 ⊢
  obtain ⟨c, hs, as, σd, Qd, S, hd, k⟩ := h2
  exact lift_chain ho ho' ⟨c, hs, as, σd, Qd, S, hd, k⟩
end
/-! ### operations -/
section
variable {K : PySem.W.Frag} {Ps : TX}
def fEq (neg : Bool) : PyData → PyData → (PyData → Prop) → Prop := fun x y Q => SeqAt.shaped x = true ∧ SeqAt.shaped y = true ∧ Q (.bool (if neg then !PyData.eqv x y else PyData.eqv x y))
theorem op2_eq : Op2 K Ps (rEqD K) (fEq false) := fun M hs H v w x y Qd Q wf hx hy h k => ⟨x, y, (dp_mono msk_ex hx).old (noDict_shaped h.1), (dp_mono msk_ex hy).old (noDict_shaped h.2.1), h.1, h.2.1, k _ _ H h.2.2 Step.refl (.bl _)⟩
/-- + of tuples -/
def fCatT : PyData → PyData → (PyData → Prop) → Prop := fun x y Q => match x, y with
  | .tuple xs, .tuple ys => xs.length + ys.length ≤ 100000 ∧ Q (.tuple (xs ++ ys))
  | _, _ => False
end
end Dl
end
section
set_option Elab.async false
set_option linter.all false
set_option maxRecDepth 100000
set_option maxHeartbeats 1000000
namespace Dl
open PySem PySem.Spec PyProof.Rows L2 HbE Evl
/-! ### built-ins of values -/
def OpN (K : PySem.W.Frag) (Ps : TX) (r : List V → Hp → VK → Prop) (f : List PyData → (PyData → Prop) → Prop) : Prop := ∀ (M : Addr → Prop) (hs : List Addr) (H : Hp) (vs : List V) (ds : List PyData) (Qd : PyData → Prop) (Q : VK),
  Wf Ps M hs H → DpAll K (msk M H) vs ds → f ds Qd → (∀ d z H', Qd d → Step hs Ps H H' → Dp K (msk M H') z d → Q z H') → r vs H Q
def dOpN (f : List PyData → (PyData → Prop) → Prop) (da : DA) : DE := fun σ Q => dDats da σ fun ds => f ds Q
theorem lift_opN {K : PySem.W.Frag} {Ps : TX} {r : List V → Hp → VK → Prop} {f : List PyData → (PyData → Prop) → Prop} {da : DA} {σ : L2.St} {H : Hp} {Q : VK} (ho : OpN K Ps r f) (h : lift K Ps (dOpN f da) σ H Q) : tCB r (liftA K Ps da) σ H Q := by
  obtain ⟨c, hs, as, σd, Qd, S, hd, k⟩ := h
  refine ⟨c, hs, as, σd, _, S, hd, fun ws vs H1 h1 s1 r1 => ?_⟩
  split at h1
  · rename_i ds q
    exact ho _ hs H1 vs ds Qd Q (S.step s1).fr.wf (dats_dp r1 q) h1 fun d z H' h s r => k d z H' h (s1.trans s) r
  · exact h1.elim
section
variable {K : PySem.W.Frag} {Ps : TX}
def fAbs : List PyData → (PyData → Prop) → Prop := fun ds Q => match ds with
  | [.int i] => Q (.int (if i < 0 then -i else i))
  | _ => False
theorem opn_abs : OpN K Ps (fun xs H Q => ∃ i, xs = [.int i] ∧ Q (.int (if i < 0 then -i else i)) H) fAbs := by
  intro M hs H vs ds Qd Q wf h f k
  unfold fAbs at f
  split at f
  · cases h with | cons h1 h2 => cases h2; cases h1; exact ⟨_, rfl, k _ _ H f Step.refl (.int _)⟩
  · exact f.elim
def fInt : List PyData → (PyData → Prop) → Prop := fun ds Q => match ds with
  | [.int i] => Q (.int i)
  | [.bool b] => Q (.int (if b then 1 else 0))
  | _ => False
def fMax2 : List PyData → (PyData → Prop) → Prop := fun ds Q => match ds with
  | [.int i, .int j] => Q (.int (if j > i then j else i))
  | _ => False
theorem opn_max2 : OpN K Ps (fun xs H Q => ∃ i j, xs = [.int i, .int j] ∧ Q (.int (if j > i then j else i)) H) fMax2 := by
  intro M hs H vs ds Qd Q wf h f k
  unfold fMax2 at f
  split at f
  · cases h with | cons h1 h2 => cases h2 with | cons h2 h3 => cases h3; cases h1; cases h2; exact ⟨_, _, rfl, k _ _ H f Step.refl (.int _)⟩
  · exact f.elim
def fMin2 : List PyData → (PyData → Prop) → Prop := fun ds Q => match ds with
  | [.int i, .int j] => Q (.int (if j < i then j else i))
  | _ => False
theorem opn_min2 : OpN K Ps (fun xs H Q => ∃ i j, xs = [.int i, .int j] ∧ Q (.int (if j < i then j else i)) H) fMin2 := by
  intro M hs H vs ds Qd Q wf h f k
  unfold fMin2 at f
  split at f
  · cases h with | cons h1 h2 => cases h2 with | cons h2 h3 => cases h3; cases h1; cases h2; exact ⟨_, _, rfl, k _ _ H f Step.refl (.int _)⟩
  · exact f.elim
def fGcd : List PyData → (PyData → Prop) → Prop := fun ds Q => match ds with
  | [.int i, .int j] => Q (.int ((Nat.gcd i.natAbs j.natAbs : Nat) : Int))
  | _ => False
theorem opn_gcd : OpN K Ps rGcd fGcd := by
  intro M hs H vs ds Qd Q wf h f k
  unfold fGcd at f
  split at f
  · cases h with | cons h1 h2 => cases h2 with | cons h2 h3 => cases h3; cases h1; cases h2; exact ⟨_, _, rfl, k _ _ H f Step.refl (.int _)⟩
  · exact f.elim
/-! isinstance with a built-in type -/
def tyD : PyData → String
  | .none => "NoneType"
  | .bool _ => "bool"
  | .int _ => "int"
  | .str _ => "str"
  | .list _ => "list"
  | .tuple _ => "tuple"
  | .dict _ => "dict"
theorem ty_of {H : Hp} {v : V} {d : PyData} (h : Dp K H v d) : TyX K H v (.type (tyD d)) := by
  cases h with
  | non => exact .base .non
  | bl b => exact .base (.bl b)
  | int i => exact .base (.int i)
  | str x => exact .base (.str x)
  | lst h1 _ =>
    rcases h1 with (h | ⟨o, h⟩) | ⟨o, _, _, h, hc, _⟩
    · exact .base (.lst h)
    · exact .base (.frz h)
    · exact .kList h hc
  | tup h1 _ =>
    rcases h1 with (h | ⟨o, h⟩) | ⟨o, _, _, h, hc, _⟩
    · exact .base (.tup h)
    · exact .fTuple h
    · exact .kTuple h hc
  | dct h => exact .base (.dK h)
  | dctT h => exact .base (.dT h)
/-- what isinstance of such a type and class says -/
def isB (a b : String) : Bool := (kitB a b).getD false
def dIsi (T : String) (de : DE) : DE := fun σ Q => de σ fun d => Q (.bool (isB (tyD d) T))
def isOk (T : String) : Bool := ["NoneType", "bool", "int", "str", "list", "tuple", "dict"].all fun a => (kitB a T).isSome
theorem isOk_at {T : String} (h : isOk T = true) (d : PyData) : kitB (tyD d) T = some (isB (tyD d) T) := by
  have : (kitB (tyD d) T).isSome = true := by
    unfold isOk at h
    exact List.all_eq_true.mp h (tyD d) (by cases d <;> simp [tyD])
  unfold isB
  obtain ⟨b, e⟩ := Option.isSome_iff_exists.mp this
  rw [e]
  rfl
end
section
variable {X : Cx} {Ps : TX} {e a b c0 : PySem.Expr} {es : List PySem.Expr} {pos p p2 : Pos} {de : DE}
theorem pd_isi {T : String} (hT : isOk T = true) (he : PE X e (lift X.K Ps de)) (hg : Gl X "isinstance") (hm : X.mg "isinstance" = none) (hx : PE X c0 (tC (.ty T)))
    (h1 : starEach [e, c0] X.env = (false, eval e X.env) :: starEach [c0] X.env := by rfl) (h2 : starEach [c0] X.env = (false, eval c0 X.env) :: starEach [] X.env := by rfl) (hpl : (backTo pos (starEach [c0] X.env)).any (·.1) = false := by rfl) :
    PE X (.Call (.Name "isinstance" p) [e, c0] [] pos) (lift X.K Ps (dIsi T de)) :=
  pe_weak (pe_callB call_isi hg hm boot_isinstance (pa_cons he (pa_cons hx pa_nil h2) h1) (by decide) (by decide) h1 hpl) fun σ H Q ⟨c, hs, as, σd, Qd, S, hd, k⟩ =>
    ⟨c, hs, as, σd, _, S, hd, fun d v H1 h1 s1 r1 => ⟨v, .ty T, .type (tyD d), .type T, _, rfl, .ty T, ty_of (dp_mono msk_ex r1), kit_ty (isOk_at hT d), k _ _ H1 h1 s1 (.bl _)⟩⟩
theorem pd_callN {id : String} {x : Str} {r : List V → Hp → VK → Prop} {f : List PyData → (PyData → Prop) → Prop} {da : DA} (hc : CallR X (.builtin id) r) (ho : OpN X.K Ps r f) (hg : Gl X x) (hm : X.mg x = none) (hv : bootBuiltins x = some (.builtin id)) (ha : PA X (e :: es) (liftA X.K Ps da)) (hn : x ≠ "__name__" := by decide) (hdb : (x == ("__debug__" : Str)) = false := by decide)
    (he : starEach (e :: es) X.env = (false, eval e X.env) :: starEach es X.env := by rfl) (hpl : (backTo pos (starEach es X.env)).any (·.1) = false := by rfl) : PE X (.Call (.Name x p) (e :: es) [] pos) (lift X.K Ps (dOpN f da)) :=
  pe_weak (pe_callB hc hg hm hv ha hn hdb he hpl) fun _ _ _ => lift_opN ho
/-- built-in functions that the program imports -/
theorem pd_callF {id : String} {x : Str} {r : List V → Hp → VK → Prop} {f : List PyData → (PyData → Prop) → Prop} {da : DA} (hc : CallR X (.builtin id) r) (ho : OpN X.K Ps r f) (hg : Gl X x) (hm : X.mg x = some (.builtin id)) (ha : PA X (e :: es) (liftA X.K Ps da)) (hdb : (x == ("__debug__" : Str)) = false := by decide)
    (he : starEach (e :: es) X.env = (false, eval e X.env) :: starEach es X.env := by rfl) (hpl : (backTo pos (starEach es X.env)).any (·.1) = false := by rfl) : PE X (.Call (.Name x p) (e :: es) [] pos) (lift X.K Ps (dOpN f da)) :=
  pe_weak (pe_callBfun hc hg hm ha hdb he hpl) fun _ _ _ => lift_opN ho
/-! of one list or tuple -/
theorem pd_callQ {id : String} {x : Str} {r : List V → Hp → VK → Prop} {f : Bool → List PyData → (PyData → Prop) → Prop} {dq : DQ} (hc : CallR X (.builtin id) r) (ho : OpQ X.K Ps r f) (hg : Gl X x) (hm : X.mg x = none) (hv : bootBuiltins x = some (.builtin id)) (ha : PE X e (liftQ X.K Ps dq)) (hn : x ≠ "__name__" := by decide) (hdb : (x == ("__debug__" : Str)) = false := by decide)
    (he : starEach [e] X.env = (false, eval e X.env) :: starEach [] X.env := by rfl) : PE X (.Call (.Name x p) [e] [] pos) (lift X.K Ps (dOpQ f dq)) :=
  pe_weak (pe_callB hc hg hm hv (pa_cons ha pa_nil he) hn hdb he (by rfl)) fun _ _ _ => lift_opQ ho
theorem pd_len {dq : DQ} (hg : Gl X "len") (hm : X.mg "len" = none) (ha : PE X e (liftQ X.K Ps dq)) (he : starEach [e] X.env = (false, eval e X.env) :: starEach [] X.env := by rfl) : PE X (.Call (.Name "len" p) [e] [] pos) (lift X.K Ps (dOpQ fLen dq)) :=
  pd_callQ call_len_seq opq_len hg hm boot_len ha (by decide) (by decide) he
def fTuple : Bool → List PyData → (PyData → Prop) → Prop := fun _ ds Q => Q (.tuple ds)
theorem lift_tuple {dq : DQ} {σ : L2.St} {H : Hp} {Q : VK} (h : lift X.K Ps (dOpQ fTuple dq) σ H Q) : tCB (fun xs H Q => ∃ p ys, xs = [V.ref p] ∧ ((SqL X.K H p ys ∧ ∀ l, H l = none → Q (.ref l) (upd H l (.tup ys))) ∨ (SqT X.K H p ys ∧ Q (.ref p) H))) (tCons (liftQ X.K Ps dq) tNil) σ H Q := by
  obtain ⟨c, hs, as, σd, Qd, S, hd, k⟩ := h
  refine ⟨c, hs, as, σd, _, S, hd, fun b ds v H1 h1 s1 r1 => ?_⟩
  cases b with
  | true =>
    obtain ⟨p, xs, rfl, h3, h4⟩ := r1.ex
    exact ⟨p, xs, rfl, .inl ⟨h3, fun l hl => k _ _ _ h1 (s1.trans (Step.of_ex (Ex.new hl))) (dp_newT (S.step s1).fr.wf hl h4)⟩⟩
  | false =>
    rcases r1 with r | ⟨z, _⟩
    · have r' : Dp X.K (msk (Mk c hs as) H1) v (.tuple ds) := r
      have r0 := r'
      cases r' with
      | tup h3 h4 => exact ⟨_, _, rfl, .inr ⟨ex_t msk_ex h3, k _ _ H1 h1 s1 r0⟩⟩
    · cases z
theorem pd_tuple {dq : DQ} (hg : Gl X "tuple") (hm : X.mg "tuple" = none) (hv : bootBuiltins "tuple" = some (.type "tuple")) (ha : PE X e (liftQ X.K Ps dq)) (he : starEach [e] X.env = (false, eval e X.env) :: starEach [] X.env := by rfl) : PE X (.Call (.Name "tuple" p) [e] [] pos) (lift X.K Ps (dOpQ fTuple dq)) :=
  pe_weak (pe_callTy call_tuple_of hg hm hv (pa_cons ha pa_nil he) (by decide) (by decide) he (by rfl)) fun _ _ _ => lift_tuple
/-- a list of ints -/
def intsD : List PyData → Option (List Int)
  | [] => some []
  | .int i :: r => match intsD r with
    | some is => some (i :: is)
    | none => none
  | _ :: _ => none
theorem intsD_dp {K : PySem.W.Frag} {H : Hp} : ∀ {ds : List PyData} {vs : List V} {ns : List Int}, DpAll K H vs ds → intsD ds = some ns → vs = ns.map V.int
  | [], _, _, .nil, h => by cases h; rfl
  | .int i :: r, _, ns, .cons h1 h2, h => by
    unfold intsD at h
    split at h
    · rename_i is q
      cases h
      cases h1
      rw [List.map_cons, intsD_dp h2 q]
    · cases h
theorem intsD_map (ns : List Int) : intsD (ns.map PyData.int) = some ns := by
  induction ns with
  | nil => rfl
  | cons n ns ih => simp [intsD, ih]
def fSum : Bool → List PyData → (PyData → Prop) → Prop := fun b ds Q => b = true ∧ match intsD ds with
  | some ns => Q (.int ns.sum)
  | none => False
end
end Dl
end
section
set_option Elab.async false
set_option linter.all false
set_option maxRecDepth 100000
set_option maxHeartbeats 1000000
namespace Dl
open PySem PySem.Spec PyProof.Rows L2 HbE Evl
theorem b_int : bootBuiltins "int" = some (.type "int") := by decide +kernel
theorem b_abs : bootBuiltins "abs" = some (.builtin "abs") := by decide +kernel
theorem b_max : bootBuiltins "max" = some (.builtin "max") := by decide +kernel
theorem b_min : bootBuiltins "min" = some (.builtin "min") := by decide +kernel
theorem b_sum : bootBuiltins "sum" = some (.builtin "sum") := by decide +kernel
theorem b_tuple : bootBuiltins "tuple" = some (.type "tuple") := by decide +kernel
section
variable {X : Cx} {Ps : TX} {e o ix tg : PySem.Expr} {pos apos cpos tpos : Pos} {de di : DE} {i : Nat}
theorem psd_app (ho : PE X o (tVar i)) (he : PE X e (lift X.K Ps de)) (hbase : attributeBase o "append" X.env (eval o X.env) = eval o X.env := by rfl)
    (hfew : ((backTo cpos (starEach [e] X.env)).all (fun x => !x.1) && (backToKw cpos (keywordEach [] X.env)).all (fun x => x.1.isSome) && decide (([e] : List PySem.Expr).length + ([] : List Keyword).length + (if ([] : List Keyword).isEmpty then 0 else 1) < 30)) = true := by rfl)
    (hline : (apos.endLine == cpos.line) = true := by rfl) (hs : starEach [e] X.env = (false, eval e X.env) :: starEach [] X.env := by rfl) (hplain : (backTo cpos (starEach [] X.env)).any (·.1) = false := by rfl)
    (hw : swapsWith (.Call (.Attribute o "append" apos) [e] [] cpos) none pos.line X.env = pure false := by rfl) :
    PS X (.Expr (.Call (.Attribute o "append" apos) [e] [] cpos) pos) (liftS X.K Ps (dApp i de)) :=
  ps_weak (ps_expr (pe_bm PySem.F.plainAttrs_list PySem.F.slot_list_append PySem.F.type_list_append mt_append ho (pa_cons he pa_nil hs) hbase hfew hline hs hplain) hw) fun _ _ _ => lift_app
theorem psd_asgG {g : DG} {ts : List Nat} (he : PE X e (lift X.K Ps de)) (hg : PG X tg (liftG X.K Ps ts g)) (hs : swapsWithSole [tg] e pos.line X.env = pure false := by rfl) (hw : swappedStores [tg] e X.env = pure none := by rfl)
    (h1 : (assignEach [tg] X.env).map (·.2) = [assign tg X.env] := by rfl) : PS X (.Assign [tg] e pos) (liftS X.K Ps (dAsgG g de)) := ps_weak (ps_asg he hg hs hw h1) fun _ _ _ => lift_asgG
/-- x, y = e, f -/
def dPar (i j : Nat) (da : DA) : DS := fun D σ => da σ fun ws => match ws with
  | [.dat d, .dat d'] => D.nx ((σ.set i (some (.dat d))).set j (some (.dat d')))
  | _ => False
theorem lift_par {j : Nat} {da : DA} {D : Ends} {σ : L2.St} {H : Hp} (h : liftS X.K Ps (dPar i j da) D σ H) : tPar i j (liftA X.K Ps da) D σ H := by
  obtain ⟨c, hs, as, σd, Dd, S, h, r⟩ := h
  refine ⟨c, hs, as, σd, _, S, h, fun ws vs H1 h1 s1 r1 => ?_⟩
  split at h1
  · cases r1 with
    | cons q1 q2 =>
      cases q2 with
      | cons q2 q3 =>
        cases q3
        exact ⟨_, _, rfl, r.nx hs as _ H1 _ (((S.step s1).set (.dat _) (fun _ z => by cases z) q1).set (.dat _) (fun _ z => by cases z) q2) h1⟩
  · exact h1.elim
theorem psd_par {j : Nat} {x y : Str} {a b : PySem.Expr} {da : DA} {px py pt : Pos} {kt k2 pt2} (hc : X.calm = true) (hN : X.N.Nodup) (hi : X.N[i]? = some x) (hj : X.N[j]? = some y) (hij : i ≠ j)
    (hx : X.env.scope.names.lookup x = some .local) (hy : X.env.scope.names.lookup y = some .local) (ha : PA X [a, b] (liftA X.K Ps da))
    (hw : swappedStores [.Tuple [.Name x px, .Name y py] kt pt] (.Tuple [a, b] k2 pt2) X.env = pure (some [x, y]))
    (hs : swapsWithSole [.Tuple [.Name x px, .Name y py] kt pt] (.Tuple [a, b] k2 pt2) pos.line X.env = pure false := by rfl) :
    PS X (.Assign [.Tuple [.Name x px, .Name y py] kt pt] (.Tuple [a, b] k2 pt2) pos) (liftS X.K Ps (dPar i j da)) := ps_weak (ps_par hc hN hi hj hij hx hy ha hw hs) fun _ _ _ => lift_par
theorem lift_new {dl : DL} {σ : L2.St} {H : Hp} {Q : VK} (h : lift X.K Ps (dL dl) σ H Q) : liftN X.K Ps dl σ H Q := by
  obtain ⟨c, hs, as, σd, Qd, S, hd, k⟩ := h
  exact ⟨c, hs, as, σd, _, S, hd, fun ds p vs H' hq st hp h' r => k _ _ _ hq st (by
    have np : ¬ Mk c hs as p := S.fr.wf.fresh hp
    exact .lst (.inl (.inl (msk_some.mpr ⟨np, h'⟩))) (dpAll_mono (msk_less fun a m => by
      rcases m with m | m | m
      · exact .inl m
      · exact .inr (.inl m)
      · exact .inr (.inr (List.mem_cons_of_mem _ m))) r))⟩
section
variable {y : Str} {py spos : Pos} {elt iter : PySem.Expr} {ifs : List PySem.Expr} {scope : Scope} {own : List (Str × Nat)} {dit : DI} {g : DG} {tt : DT} {te : DE} {ts : List Nat}
end
/-- a way that is not gone -/
def dRaise : DS := fun _ _ => False
end
end Dl
end
section
set_option Elab.async false
set_option linter.all false
set_option maxRecDepth 100000
set_option maxHeartbeats 1000000
namespace Dl
open PySem PySem.Spec PyProof.Rows L2 HbE Evl RZ
section
variable {K : PySem.W.Frag} {Ps : TX} {H : Hp} {hs as : List Addr} {c : C0}
theorem DpAll_rep {K : PySem.W.Frag} {H : Hp} {vs : List V} {ds : List PyData} (h : DpAll K H vs ds) : ∀ n : Nat, DpAll K H (List.replicate n vs).flatten (List.replicate n ds).flatten
  | 0 => .nil
  | n + 1 => by
    rw [List.replicate_succ, List.replicate_succ, List.flatten_cons, List.flatten_cons]
    exact h.app (DpAll_rep h n)
theorem fresh_off {σ : L2.St} {σd : Sd} {p : Addr} (S : Sts K Ps c hs as σ H σd) (hp : H p = none) : p ∉ hs ∧ p ∉ ad Ps.l := by
  refine ⟨fun z => ?_, fun z => ?_⟩
  · obtain ⟨⟨o, e, _⟩, _⟩ := S.fr.hat p z
    rw [hp] at e; cases e
  · obtain ⟨ps, e⟩ := S.fr.wf.tbl z
    rw [hp] at e; cases e
end
section
variable {X : Cx} {Ps : TX} {e a b c0 : PySem.Expr} {es : List PySem.Expr} {pos p p2 : Pos} {de : DE} {dl : DL}
/-- [..] * n -/
def dRep (dl : DL) (de : DE) : DL := fun σ Q => dl σ fun ds => de σ fun d => match d with
  | .int k => -1000000000 ≤ k ∧ k ≤ 1000000 ∧ ds.length * k.toNat ≤ 100000 ∧ Q (List.replicate k.toNat ds).flatten
  | _ => False
theorem pn_rep (ha : PE X a (liftN X.K Ps dl)) (hb : PE X b (lift X.K Ps de)) : PE X (.BinOp a .Mult b pos) (liftN X.K Ps (dRep dl de)) := pe_weak (pe_op op_rep ha hb) fun σ H Q ⟨c, hs, as, σd, Qd, S, hd, k⟩ =>
  ⟨c, hs, as, σd, _, S, hd, fun ds q vs H1 h1 s1 hq hq1 r1 => ⟨c, hs, as, σd, _, S.step s1, h1, fun d w H2 h2 s2 r2 => by
    split at h2
    · rename_i n
      cases r2
      obtain ⟨b1, b2, b3, h2⟩ := h2
      obtain ⟨n1, n2⟩ := fresh_off S hq
      have T := S.new (i := σd.length) s1 hq hq1 r1
      have e2 : DpAll X.K (msk (Mk c hs as) H2) vs ds := dpAll_mono (msk_less fun x m => by
        rcases m with m | m | m
        · exact .inl m
        · exact .inr (.inl m)
        · exact .inr (.inr (List.mem_cons_of_mem _ m))) (dpAll_mono (T.fr.wf.ex s2) r1)
      refine ⟨q, n, vs, rfl, rfl, s2.keep q _ hq1 n1 n2, by omega, by omega, sz_of (by rw [e2.len]; exact b3), fun l hl => ?_⟩
      have s12 := s1.trans s2
      exact k _ l _ _ h2 (s12.trans (Step.of_ex (Ex.new hl))) (none_of S.fr s12 hl) upd_same (own_new hl (DpAll_rep e2 n.toNat))
    · exact h2.elim⟩⟩
/-! ### slices -/
abbrev DO := Sd → (Option Int → Prop) → Prop
def liftO (K : PySem.W.Frag) (Ps : TX) (dO : DO) : TO := fun σ H Q => ∃ c hs as σd Qd, Sts K Ps c hs as σ H σd ∧ dO σd Qd ∧ ∀ o H', Qd o → Step hs Ps H H' → Q o H'
def oNone : DO := fun _ Q => Q none
def oSome (de : DE) : DO := fun σ Q => de σ fun d => match d with
  | .int i => Q (some i)
  | _ => False
def cutD (ds : List PyData) (lo hi : Option Int) : List PyData := (ds.drop (HT.sIx ds.length 0 lo)).take (HT.sIx ds.length ds.length hi - HT.sIx ds.length 0 lo)
def dSl (dq : DQ) (l h : DO) : DE := fun σ Q => dq σ fun b ds => l σ fun lo => h σ fun hi => Q (if b then .list (cutD ds lo hi) else .tuple (cutD ds lo hi))
/-! ### zip of two lists, of two tuples -/
def dZip (da : DA) : DI := fun σ Q => da σ fun ws => match ws with
  | [.dat (.list ds), .dat (.list es)] => Q (List.zipWith (fun x y => PyData.tuple [x, y]) ds es)
  | [.dat (.tuple ds), .dat (.tuple es)] => Q (List.zipWith (fun x y => PyData.tuple [x, y]) ds es)
  | _ => False
/-! ### enumerate of a list -/
end
end Dl
end
section
set_option Elab.async false
set_option linter.all false
set_option maxRecDepth 100000
set_option maxHeartbeats 2000000
/-! enumerate of a tuple. -/
namespace PySem
open Sem (wp)
end PySem
namespace Dl
open PySem PySem.Spec PyProof.Rows L2 HbE Evl RZ
/-- the tuple at a, each item in a new pair -/
def IteT (K : PySem.W.Frag) (a : Addr) : It :=
  ⟨fun i H => ∃ (xs : List V) (x : V), SqT K H a xs ∧ xs[i]? = some x, fun i H v H' => ∃ T x, v = .ref T ∧ H T = none ∧ H' = upd H T (.tup [.int (i : Nat), x]) ∧ (∀ xs, SqT K H a xs → xs[i]? = some x), fun i H => ∃ xs : List V, SqT K H a xs ∧ xs.length = i⟩
def iEnumS (K : PySem.W.Frag) (ta : TA) : TI := fun σ H R => ta σ H fun vs H1 => ∃ a xs, vs = [.ref a] ∧ ((SqL K H1 a xs ∧ R (Ite K a) H1) ∨ (SqT K H1 a xs ∧ R (IteT K a) H1))
section
variable {Ps : TX}
def dEnum (da : DA) : DI := fun σ Q => da σ fun ws => match ws with
  | [.dat (.list ds)] => Q (ds.mapIdx fun i x => PyData.tuple [.int (i : Nat), x])
  | [.dat (.tuple ds)] => Q (ds.mapIdx fun i x => PyData.tuple [.int (i : Nat), x])
  | _ => False
end
end Dl
end
section
set_option Elab.async false
set_option linter.all false
set_option maxRecDepth 100000
set_option maxHeartbeats 1000000
namespace Dl
open PySem PySem.Spec PyProof.Rows L2 HbE Evl RZ
section
variable {K : PySem.W.Frag} {Ps : TX}
/-- (..) * n -/
def fRepT : PyData → PyData → (PyData → Prop) → Prop := fun x y Q => match x, y with
  | .tuple ds, .int k => ds ≠ [] ∧ 2 ≤ k ∧ k ≤ 1000 ∧ ds.length ≤ 1000 ∧ Q (.tuple (List.replicate k.toNat ds).flatten)
  | _, _ => False
theorem op2_repT : Op2 K Ps (rRepT K) fRepT := by
  intro M hs H v w x y Qd Q wf hx hy h k
  unfold fRepT at h
  split at h
  · obtain ⟨h1, h2, h3, h4, hq⟩ := h
    cases hy
    cases hx with
    | tup x1 x2 =>
      refine ⟨_, _, _, rfl, rfl, ex_t msk_ex x1, fun z => ?_, h2, h3, by rw [x2.len]; exact h4, fun p hp => k _ _ _ hq (Step.of_ex (Ex.new hp)) (dp_newT wf hp (DpAll_rep x2 _))⟩
      subst z
      cases x2
      exact h1 rfl
  · exact h.elim
end
/-! ### counts[i] += e -/
section
variable {X : Cx} {Ps : TX} {e o ix : PySem.Expr} {pos tpos : Pos} {de di : DE} {i : Nat}
def dAugIx (i : Nat) (di de : DE) : DS := fun D σ => match σ[i]? with
  | some (some (.own ds)) => di σ fun x => match x with
    | .int k => match ixN ds.length k with
      | some j => match ds[j]? with
        | some (.int n) => de σ fun d => match d with
          | .int m => D.nx (σ.set i (some (.own (ds.set j (.int (n + m))))))
          | _ => False
        | _ => False
      | none => False
    | _ => False
  | _ => False
/-- an item of an own list, by its place -/
def rGetO : V → V → Hp → VK → Prop := fun o i H Q => ∃ p k xs v, o = .ref p ∧ i = .int k ∧ H p = some (.lst xs) ∧ atI xs k = some v ∧ Q v H
theorem get_O : PGet X rGetO := by
  intro pins s σ H o i ov iv Q inv ro ri h
  obtain ⟨p, k, xs, z, rfl, rfl, hp, hz, q⟩ := h
  cases ro
  obtain ⟨t, rfl⟩ := ri
  obtain ⟨its, rel, pl, hsz⟩ := inv.list (sq_of (K := X.K) hp)
  obtain ⟨j, h1, h2, h3, h4, h5⟩ := atI_get hz
  obtain ⟨u, eu, ru⟩ := rel.get h2
  have hl := rel.length
  have hn := line63
  have fin : EP X pins σ Q u s := ⟨z, H, inv, ru, q⟩
  by_cases h0 : 0 ≤ k
  · have hj : k.toNat = j := by
      rw [seqIndex_of h0 h5] at h1
      exact Option.some.inj h1
    exact wpAny_getItem_list pl.isList h0 (by omega) (by rw [hj]; simpa using eu) fin
  · have hj : (k + (its.toArray.size : Int)).toNat = j := by
      have es : its.toArray.size = xs.length := by rw [List.size_toArray, hl]
      rw [seqIndex_neg (by omega) h4] at h1
      rw [es]
      exact Option.some.inj h1
    exact wpAny_getItem_list_neg pl.isList (by omega) (by rw [List.size_toArray] <;> omega) (by omega) (by rw [hj]; simpa using eu) fin
theorem lift_augIx {D : Ends} {σ : L2.St} {H : Hp} (h : liftS X.K Ps (dAugIx i di de) D σ H) : tAugS (tVar i) (lift X.K Ps di) (lift X.K Ps de) rGetO (ipI fun i j => i + j) rSetA D σ H := by
  obtain ⟨c, hs, as, σd, Dd, S, h, r⟩ := h
  unfold dAugIx at h
  split at h
  · rename_i ds q
    obtain ⟨v, h1, a, vs, rfl, ha, h2, h3⟩ := S.slot i _ q
    refine ⟨_, h1, c, hs, as, σd, _, S, h, fun x y H1 h4 s1 r1 => ?_⟩
    have T1 := S.step s1
    have e1 : H1 a = some (.lst vs) := s1.keep a _ h2 (S.fr.own a ha).2.2.1 (S.fr.own a ha).2.2.2
    have e3 := dpAll_mono (S.fr.wf.ex s1) h3
    split at h4
    · rename_i k
      cases r1
      split at h4
      · rename_i j qj
        split at h4
        · rename_i n qn
          obtain ⟨z, z1, z2⟩ := e3.get qn
          cases z2
          have at1 : atI vs k = some (.int n) := by
            unfold atI
            rw [h3.len, qj]
            exact z1
          refine ⟨a, k, vs, _, rfl, rfl, e1, at1, c, hs, as, σd, _, T1, h4, fun d w H2 h5 s2 r2 => ?_⟩
          split at h5
          · cases r2
            have T2 := T1.step s2
            have f1 := T1.fr
            have e4 : H2 a = some (.lst vs) := s2.keep a _ e1 (f1.own a ha).2.2.1 (f1.own a ha).2.2.2
            exact ⟨_, _, rfl, rfl, a, k, vs, j, rfl, rfl, e4, by rw [h3.len]; exact qj, r.nx hs as _ _ _ (T2.chg q h1 ((dpAll_mono (f1.wf.ex s2) e3).setAt (.int _))) h5⟩
          · exact h5.elim
        · exact h4.elim
      · exact h4.elim
    · exact h4.elim
  · exact h.elim
theorem psd_augIx (ho : PE X o (tVar i)) (hi : PE X ix (lift X.K Ps di)) (he : PE X e (lift X.K Ps de))
    (ha : ∀ ov iv new, augStore ix ov iv new = (do holding [new, ov, iv] (setItem ov iv new); release [new, ov, iv] []; pure .next) := by intros; rfl) :
    PS X (.AugAssign (.Subscript o ix tpos) .Add e pos) (liftS X.K Ps (dAugIx i di de)) := ps_weak (ps_augS ho hi get_O he ip_add set_A ha) fun _ _ _ => lift_augIx
end
end Dl
end
section
set_option Elab.async false
set_option linter.all false
set_option maxRecDepth 100000
set_option maxHeartbeats 2000000
/-! A generator expression's own context. -/
namespace Gx
open PySem PySem.Spec PyProof.Rows L2 GenW
/-- the context of a generator expression's body that begins at s, woken within B; its iterator's objects at fp, its own object in pn -/
abbrev gex (X : Cx) (s : Shared) (H : Hp) (cenv : Env) (B : Around) (fp : List Addr) (pn : List (Addr × Obj)) : Cx :=
  { X with A := B, s_0 := s, H_0 := H, env := cenv, outer := X.stack, stack := cenv :: X.stack, ex := fp, fn := fun _ => false, calm := true, pn := pn, xe := fun _ _ => False }
section
variable {X : Cx} {pins : List (Addr × Obj)} {σ : L2.St} {H : Hp} {s : Shared}
theorem inv_same {s' : Shared} (I : Inv X pins σ H s) (e1 : s'.heap = s.heap) (e2 : s'.os = s.os) (e3 : AllBare s'.gens) : Inv X pins σ H s' :=
  ⟨I.ok, e2.trans I.os, e3, by rw [e1]; exact I.base, by rw [e1]; exact I.loc, by rw [e1]; exact I.cell, I.free, I.freeC, by rw [e1]; exact I.pin, by rw [e1]; exact I.hok, I.len⟩
theorem gex_start {scope : Scope} {own : List (Str × Nat)} {fp : List Addr} {B : Around} {code : Value} {hh : Heap} {it : Value} {go : Obj} {G : Array GenState} {tk : Nat} {fr : Obj}
    (I : Inv X pins σ H s) (ok : BlkOk X.N X.env.scope scope own) (hN : X.N.Nodup) (nc : ∀ y ∈ scope.names, y.2 ≠ .cell) (hfp : ∀ b ∈ fp, FpOk X pins H b ∧ b < s.heap.objs.size)
    (hB : B.handled = none) (hBf : B.frames = some (genEnv scope (cloFrom X.env.cells scope.names []) s.heap.objs.size code builtinsNs X.env :: X.stack)) (hn : hh.Ns s.heap.objs.size (fun y => if y = ".0" then some it else none))
    (hs : Heap.SameBut s.heap.objs.size (s.heap.push fr) hh) (hG : AllBare G) (hgo : ∀ v, go.data ≠ .cell v) (hgf : go.isFreed = false) :
    Inv (gex X s H (genEnv scope (cloFrom X.env.cells scope.names []) s.heap.objs.size code builtinsNs X.env) B fp [(hh.objs.size, go)]) [] (wipe σ (own.map (·.2))) H { s with heap := hh.push go, gens := G, toks := tk } := by
  have sz : hh.objs.size = s.heap.objs.size + 1 := by rw [hs.1, Heap.size_push]
  have kp : ∀ b o, s.heap.get? b = some o → (hh.push go).get? b = some o := fun b o e => Heap.get?_push_of_some _ (hs.extBut b o (Nat.ne_of_lt (Heap.lt_size e)) (Heap.get?_push_of_some _ e))
  have clo : ∀ {y c}, (cloFrom X.env.cells scope.names []).lookup y = some c → scope.names.lookup y = some .free ∧ X.env.cells.lookup y = some c ∧ c < s.heap.objs.size := fun {y c} e => by
    rcases cloFrom_mem (PySem.mem_of_lookup e) with hm | ⟨h1, rfl⟩
    · cases hm
    · have hl := ok.uniq _ h1
      obtain ⟨c, hc⟩ : ∃ c, X.env.cells.lookup y = some c := by
        rcases ok.free _ h1 rfl with k | k
        · exact I.ok.has _ (.inl k)
        · exact I.ok.has _ (.inr k)
      rw [hc]
      obtain ⟨w, z⟩ := I.cell _ _ hc
      exact ⟨hl, rfl, z.lt⟩
  have has : ∀ {y}, scope.names.lookup y = some .free → ∃ c, (cloFrom X.env.cells scope.names []).lookup y = some c := fun {y} hl => mem_lookup (cloFrom_has (cells := X.env.cells) (acc := []) (PySem.mem_of_lookup hl))
  have okG : (gex X s H (genEnv scope (cloFrom X.env.cells scope.names []) s.heap.objs.size code builtinsNs X.env) B fp [(hh.objs.size, go)]).Ok := by
    refine ⟨I.ok.mod, ok.kind, I.ok.glob, rfl, Nat.le_refl _, fun y z c e1 e2 => I.ok.inj y z c (clo e1).2.1 (clo e2).2.1, fun y hy => ?_, fun y c z _ => (by cases z), fun _ => hB, hBf, .inr ⟨rfl, rfl⟩, fun b hb => ⟨Nat.ne_of_lt (hfp b hb).2, fun y c e z => ?_⟩,
      I.bs, Nat.le_trans I.ok.bsz I.sz, fun b o e hb => ?_, fun b hb z => ?_, I.stack, I.stkFree⟩
    · rcases hy with hy | hy
      · exact absurd rfl (nc _ (PySem.mem_of_lookup (show scope.names.lookup y = some .cell from hy)))
      · exact has hy
    · exact (hfp b hb).1.2.2.2.2.1 y c (clo e).2.1 z
    · rcases (hfp b hb).1.2.2.2.1 with z | z
      · exact I.ok.noex b o e z
      · exact absurd (Nat.lt_of_lt_of_le (Heap.lt_size e) (Nat.le_trans I.ok.bsz z)) (Nat.lt_irrefl _)
    · rcases List.mem_cons.mp (I.stkSub b z) with z | z
      · exact (hfp b hb).1.2.1 z
      · exact (hfp b hb).1.2.2.1 z
  refine ⟨okG, rfl, hG, Un.kept kp, ⟨_, hn.push _, fun i y av e1 e2 e3 => ?_⟩, fun y c e => ?_, I.hok.fresh (Nat.le_refl _), fun y c e => I.freeC y c (clo e).2.1, fun p hp => ?_, I.hok.kept kp, by rw [wipe_length]; exact I.len⟩
  · obtain ⟨e2, hne⟩ := wipe_some e2
    have no : ∀ k, scope.names.lookup y = some k → ¬ (k = .local ∨ k = .cell) := fun k hk q => by
      rcases ok.own _ (PySem.mem_of_lookup hk) q with e' | e'
      · obtain ⟨p, hp, hpy⟩ := List.mem_map.mp e'
        have e3 := ok.ix p hp
        rw [show p.1 = y from hpy] at e3
        exact hne (List.mem_map.mpr ⟨p, hp, nodup_ix hN e3 e1⟩)
      · exact e' (List.mem_of_getElem? e1)
    have fre : scope.names.lookup y = some .free := by
      rcases (show Vis scope y from e3) with e3 | e3 | e3
      · exact absurd (.inl rfl) (no _ e3)
      · exact absurd (.inr rfl) (no _ e3)
      · exact e3
    obtain ⟨m, hm, hl⟩ := I.loc
    have par := ok.free _ (PySem.mem_of_lookup fre) rfl
    obtain ⟨u, r, q⟩ := hl i y av e1 e2 (par.elim (fun k => .inr (.inl k)) fun k => .inr (.inr k))
    refine ⟨u, r, .inr ⟨.inr fre, ?_⟩⟩
    obtain ⟨c, hc⟩ := has fre
    refine ⟨c, hc, ?_⟩
    rcases q with ⟨k, _⟩ | ⟨_, c', e', z⟩
    · have k : X.env.scope.names.lookup y = some .local := k
      rcases par with k' | k' <;> rw [k'] at k <;> cases k
    · rw [(clo hc).2.1] at e'
      cases e'
      exact z.keeps kp
  · obtain ⟨w, z⟩ := I.cell y c (clo e).2.1
    exact ⟨w, z.keeps kp⟩
  · have hp : p ∈ [(hh.objs.size, go)] := by simpa using hp
    rw [List.mem_singleton.mp hp]
    refine ⟨Heap.get?_push_size _ hgf, I.hok.fresh (by rw [sz]; exact Nat.le_succ _), ?_, fun z => ?_, hgo⟩
    · show hh.objs.size ≠ s.heap.objs.size
      rw [sz]; exact Nat.succ_ne_self _
    · obtain ⟨_, o, ho, _⟩ := I.stack.mem (show hh.objs.size ∈ frs X.stack from z)
      have := Heap.lt_size ho
      rw [sz] at this
      exact absurd (Nat.lt_of_succ_lt this) (Nat.lt_irrefl _)
abbrev gLoop (elt tg iter : PySem.Expr) (ifs : List PySem.Expr) (scope : Scope) (pos : Pos) (it : Addr) (cenv : Env) : Code := .compLoop (.GeneratorExp elt [⟨tg, iter, ifs, 0⟩] scope pos) 0 (.ref it) .none cenv
/-- what holds of the state wherever the consumer has the turn: s₀, H₀ the entry -/
def Mid (X : Cx) (H₀ : Hp) (s₀ : Shared) (fp : List Addr) (H' : Hp) (s' : Shared) : Prop := s'.os = s₀.os ∧ AllBare s'.gens ∧ Un (frs X.stack) fp H₀ H' s₀.heap s'.heap ∧ HOk X.prog X.w H' s'.heap
/-- a test's result is handed out; at True the consumer comes back with nothing changed but the generators -/
def GxY (X : Cx) (H₀ : Hp) (s₀ : Shared) (fp : List Addr) (a : Addr) (g : Nat) (F : Hp → Prop) : Protocol := fun _ _ v s kap => ∃ b : Bool, v = .bool b ∧ s.heap.NoLimit ∧ s.heap.IsGen a g ∧ AllBare s.gens ∧
  (b = false → ∃ H', Mid X H₀ s₀ fp H' s ∧ F H') ∧ (b = true → ∀ s', s'.heap = s.heap → s'.os = s.os → AllBare s'.gens → kap (.send .none) s')
def GxR (X : Cx) (H₀ : Hp) (s₀ : Shared) (fp : List Addr) (T : Hp → Prop) : GenEnd := fun _ _ r s => ((r = .ok (.ret .none) ∨ r = .ok .next) ∧ ∃ H', Mid X H₀ s₀ fp H' s ∧ T H') ∨ ∃ e : Value, r = .error e ∧ False
end
section
variable {X : Cx} {elt tg iter : PySem.Expr} {ifs : List PySem.Expr} {scope : Scope} {pos : Pos} {cenv : Env} {B : Around} {fp : List Addr} {pn : List (Addr × Obj)} {s₀ : Shared} {H₀ : Hp} {it a : Addr} {g : Nat}
  {tn : Nat → Heap → Prop} {J : It} {gg : TG} {tt : TT} {te : TE} {vs : List Nat} {σ : L2.St} {TT' FF : Hp → Prop} {W : Nat → Nat → Hp → Prop}
theorem gx_loop (T : Turn X.prog X.w X.K tg J fp it tn) (hco : cenv.scope.isCoroutine = false)
    (pg : PG (gex X s₀ H₀ cenv (B.over (gLoop elt tg iter ifs scope pos it cenv) []) fp pn) tg gg)
    (pt : PTs (gex X s₀ H₀ cenv (B.over (gLoop elt tg iter ifs scope pos it cenv) []) fp pn) ifs tt)
    (pe : PE (gex X s₀ H₀ cenv (B.over (gLoop elt tg iter ifs scope pos it cenv) []) fp pn) elt te)
    (gen : ∀ h : Heap, (∀ p ∈ pn, h.get? p.1 = some p.2) → h.IsGen a g) (npn : ∀ b ∈ fp, ∀ p ∈ pn, p.1 ≠ b)
    (turn : ∀ i m H, W i m H → (J.stop i H ∧ TT' H) ∨ (J.go i H ∧ ∃ Nx : Hp → Prop, (∀ H', Nx H' → ∃ m', m' < m ∧ W (i + 1) m' H') ∧ ∀ x H', J.yld i H x H' → gg x (wipe σ vs) H' fun σ2 H2 => wipe σ2 vs = wipe σ vs ∧ tt σ2 H2 fun b H3 =>
      if b = true then te σ2 H3 fun y H4 => ∃ c, y = .bl c ∧ if c = true then Nx H4 else FF H4 else Nx H3)) :
    ∀ (m n i : Nat) (s₁ s : Shared) (H : Hp), m + 1 ≤ n → Inv (gex X s₀ H₀ cenv (B.over (gLoop elt tg iter ifs scope pos it cenv) []) fp pn) [] (wipe σ vs) H s → tn i s.heap → (∀ b ∈ fp, H b = none) → W i m H →
      Seg (model X.prog X.w) B (GxR X H₀ s₀ fp TT') (GxY X H₀ s₀ fp a g FF) n s₁ (gLoop elt tg iter ifs scope pos it cenv)
        ((model X.prog X.w).den (gLoop elt tg iter ifs scope pos it cenv)) [] s := by
  intro m
  induction m using Nat.strongRecOn with
  | ind m ih =>
    intro n i s₁ s H hmn I st nf w
    have stat : ∀ {σ' : L2.St} {H' : Hp} {s' : Shared}, Inv (gex X s₀ H₀ cenv (B.over (gLoop elt tg iter ifs scope pos it cenv) []) fp pn) [] σ' H' s' → (∀ b ∈ fp, H' b = none) → ∀ b ∈ fp, FpOk (gex X s₀ H₀ cenv (B.over (gLoop elt tg iter ifs scope pos it cenv) []) fp pn) [] H' b := fun {σ' H' s'} I' hn b hb =>
      ⟨hn b hb, (I'.ok.exf b hb).1, I'.ok.exfs b hb, .inl hb, fun x c e => (I'.ok.exf b hb).2 x c e, fun p hp => npn b hb p (by simpa using hp)⟩
    show Seg _ B _ _ _ s₁ _ ((compTurn (.GeneratorExp elt [⟨tg, iter, ifs, 0⟩] scope pos) 0 (.ref it) .none cenv).onRaise (leaving cenv)) [] s
    rw [compTurn_gen, Sem.onRaise_eq_wrap]
    refine seg_bind_wrap (wpAny_standAt ?_)
    rcases turn i m H w with ⟨stop, qq⟩ | ⟨go, Nx, hNx, step⟩
    · have td := T.done (gex X s₀ H₀ cenv (B.over (gLoop elt tg iter ifs scope pos it cenv) []) fp pn) rfl rfl rfl rfl i [] s _ H (fun _ _ => False) I (stat I nf) st stop
      refine seg_bind_wrap (thnF td fun r s6 ⟨hr, I6⟩ => ?_)
      subst hr
      exact seg_end (.ok .next) (.inl ⟨.inr rfl, H, ⟨I6.os, I6.bare, I6.base, I6.hok⟩, qq⟩)
    · have ti := T.item (gex X s₀ H₀ cenv (B.over (gLoop elt tg iter ifs scope pos it cenv) []) fp pn) rfl rfl rfl rfl i [] s _ H (fun _ _ => False) I (stat I nf) st go
      refine seg_bind_wrap (thnF ti fun r s6 ⟨u, hr, h6⟩ => ?_)
      subst hr
      refine seg_bind_wrap (thnF h6 fun _ s7 ⟨x, H7, I7, r7, y7, st7, n7⟩ => ?_)
      have I7' := I7.pinned (stat I7 n7) (T.obj _ _ st7)
      refine seg_bind_wrap (thnF (pg.run _ s7 _ H7 x u _ I7' r7 (step x H7 y7)) fun _ s8 ⟨σ8, H8, I8, hw8, q8⟩ => ?_)
      refine seg_bind_wrap (thnF (pt.run _ s8 σ8 H8 _ I8 q8) fun b s9 ⟨H9, I9, q9⟩ => ?_)
      -- the turn's end
      have fin : ∀ {s' : Shared} {H' : Hp}, Inv (gex X s₀ H₀ cenv (B.over (gLoop elt tg iter ifs scope pos it cenv) []) fp pn) ([] ++ pinsAt fp s7.heap) σ8 H' s' → Inv (gex X s₀ H₀ cenv (B.over (gLoop elt tg iter ifs scope pos it cenv) []) fp pn) [] (wipe σ vs) H' s' ∧ tn (i + 1) s'.heap ∧ ∀ b ∈ fp, H' b = none := fun {s' H'} I' => by
        have pin' : ∀ b ∈ fp, ∀ o, s7.heap.get? b = some o → s'.heap.get? b = some o ∧ H' b = none := fun b hb o e =>
          let z := I'.pin (b, o) (List.mem_append_right _ (List.mem_append_right _ (mem_pinsAt hb e)))
          ⟨z.1, z.2.1⟩
        have hl : (wipe σ vs).length = σ8.length := by rw [← hw8, wipe_length]
        refine ⟨(I'.unpinned (pins := [])).weak hl (fun j v e => ?_), T.keep _ _ _ st7 fun b hb o e => (pin' b hb o e).1, fun b hb => ?_⟩
        · rw [← hw8] at e
          exact (wipe_some e).1
        · obtain ⟨o, e, _⟩ := T.obj _ _ st7 b hb
          exact (pin' b hb o e).2
      cases b with
      | false =>
        simp only [Bool.false_eq_true, if_false] at q9 ⊢
        obtain ⟨I10, st10, n10⟩ := fin I9
        obtain ⟨m', hm, w'⟩ := hNx H9 q9
        exact seg_again rfl (ih m' hm n (i + 1) s₁ s9 H9 (by omega) I10 st10 n10 w')
      | true =>
        simp only [if_true] at q9 ⊢
        have hy : ∀ v, yieldOut cenv v = yieldValue v := fun v => by simp only [yieldOut, hco, Bool.false_eq_true, if_false]
        simp only [hy]
        rw [Sem.bind_eq_wrap', Sem.bind_eq_wrap', Sem.wrap_wrap, Sem.wrap_wrap]
        refine seg_wrap (thnF (pe.run _ s9 σ8 H9 _ I9 q9) fun z s10 ⟨yv, H10, I10, r10, c, ey, nx⟩ => ?_)
        subst ey
        obtain rfl : z = Value.bool c := r10
        obtain ⟨I11, st11, n11⟩ := fin I10
        obtain ⟨n', rfl⟩ : ∃ n', n = n' + 1 := ⟨n - 1, by omega⟩
        refine seg_at (seg_yield rfl rfl rfl ⟨c, rfl, I11.nolimit, gen _ fun p hp => (I11.pin p (by simpa using hp)).1, I11.bare, fun hc => ⟨H10, ⟨I11.os, I11.bare, I11.base, I11.hok⟩, ?_⟩, fun hc s' e1 e2 e3 => ?_⟩)
        · subst hc
          simpa using nx
        · subst hc
          simp only [if_true] at nx
          obtain ⟨m', hm, w'⟩ := hNx H10 nx
          exact seg_again rfl (ih m' hm n' (i + 1) s' s' H10 (by omega) (inv_same I11 e1 e2 e3) (by rw [e1]; exact st11) n11 w')
theorem gx_begin (T : Turn X.prog X.w X.K tg J fp it tn) {n : Nat} {s₁ s : Shared} (st : tn 0 s.heap)
    (loop : Seg (model X.prog X.w) B (GxR X H₀ s₀ fp TT') (GxY X H₀ s₀ fp a g FF) n s₁ (gLoop elt tg iter ifs scope pos it cenv) ((model X.prog X.w).den (gLoop elt tg iter ifs scope pos it cenv)) [] s) :
    Seg (model X.prog X.w) B (GxR X H₀ s₀ fp TT') (GxY X H₀ s₀ fp a g FF) n s₁ (.compStart (.GeneratorExp elt [⟨tg, iter, ifs, 0⟩] scope pos) 0 (.ref it) .none cenv)
      ((model X.prog X.w).den (.compStart (.GeneratorExp elt [⟨tg, iter, ifs, 0⟩] scope pos) 0 (.ref it) .none cenv)) [] s := by
  show Seg _ B _ _ _ s₁ _ ((compStart (.GeneratorExp elt [⟨tg, iter, ifs, 0⟩] scope pos) 0 (.ref it) .none cenv).onRaise (leaving cenv)) [] s
  unfold compStart
  rw [Sem.onRaise_eq_wrap]
  show Seg _ B _ _ _ s₁ _ ((ask >>= _).wrap _ _ _ _) [] s
  refine seg_bind_wrap (wpAny_askSetting ?_)
  split
  · exact seg_again rfl loop
  · first
      | exact seg_bind_wrap (wpAny_rule (seg_bind_wrap (wpAny_standAt (seg_bind_wrap (T.self _ 0 s _ _ st (seg_again rfl loop))))))
      | (refine seg_bind_wrap (wpAny_rule ?_); show Seg _ B _ _ _ s₁ _ ((standAt iter.pos >>= _).wrap _ _ _ _) [] s; exact seg_bind_wrap (wpAny_standAt (seg_bind_wrap (T.self _ 0 s _ _ st (seg_again rfl loop)))))
end
section
variable {X : Cx} {s₀ : Shared} {H₀ : Hp} {fp : List Addr} {a : Addr} {g : Nat} {TT' FF : Hp → Prop} {A : Around} {R : Result → Shared → Prop}
theorem all_drain (hh : A.handled = none) (hd : A.depth < recursionLimit) (hF : ∀ s' H', Mid X H₀ s₀ fp H' s' → FF H' → R (.ok (.ret (.bool false))) s') (hT : ∀ s' H', Mid X H₀ s₀ fp H' s' → TT' H' → R (.ok (.ret (.bool true))) s') :
    ∀ (n : Nat) (s : Shared), s.heap.IsGen a g → s.heap.NoLimit → (∃ gs, s.gens[g]? = some gs ∧ gs.Goes (model X.prog X.w) A.in1.in1 (GxR X H₀ s₀ fp TT') (GxY X H₀ s₀ fp a g FF) n (.send .none) (s.setGen g .running)) →
      codeAny (model X.prog X.w) A (.builtin "all.loop" ⟨[.ref a], []⟩) R s := by
  have goes : ∀ {gs : GenState} {B : Around} {n : Nat} {r : Resume} {s : Shared}, gs.Goes (model X.prog X.w) B (GxR X H₀ s₀ fp TT') (GxY X H₀ s₀ fp a g FF) n r s →
      gs.Goes (model X.prog X.w) B (fun n s₁ r s => ((r = .ok (.ret .none) ∨ r = .ok .next) ∧ (fun (_ : Nat) (_ s : Shared) => ∃ H', Mid X H₀ s₀ fp H' s ∧ TT' H') n s₁ s) ∨ ∃ e, r = .error e ∧ (fun (_ : Value) (_ : Shared) => False) e s) (GxY X H₀ s₀ fp a g FF) n r s := fun h => h
  intro n
  induction n with
  | zero =>
    intro s hg hl ⟨gs, hgs, hgo⟩
    refine codeAny_builtin F.entry_all_loop ?_
    rw [Around.under_plainId F.plain_all_loop _]
    show wpAny _ A.in1 (pyNext (.ref a) >>= _) _ _ s
    refine wpAny_bind (next_genG (A := A.in1) hh hl hd hg hgs (goes hgo) (fun v s₁ gs' hbare hv => ?_) (fun s₁ hp h' hk => ?_) fun e s₁ he => he.elim)
    · obtain ⟨b, rfl, hl1, hg1, hb1, hf, ht⟩ := hv
      refine wpAny_bind (wpAny_holding (wpAny_truthy_bool ?_))
      refine wpAny_bind (wpAny_letGo ?_)
      cases b with
      | true => exact False.elim (ht rfl s₁ rfl rfl hb1)
      | false =>
        simp only [Bool.false_eq_true, if_false]
        obtain ⟨H', hm, hq⟩ := hf rfl
        refine wpAny_bind (wpAny_rule (wpAny_pure (hF _ H' ⟨hm.1, allBare_setGen hb1 hbare, hm.2.2.1, hm.2.2.2⟩ hq)))
    · obtain ⟨H', hm, hq⟩ := hp
      refine wpAny_bind (wpAny_rule (wpAny_pure (hT _ H' ⟨hm.1, allBare_setGen hm.2.1 rfl, hm.2.2.1.trans (Un.kept hk), hm.2.2.2.kept hk⟩ hq)))
  | succ n ih =>
    intro s hg hl ⟨gs, hgs, hgo⟩
    have hgl : g < s.gens.size := (Array.getElem?_eq_some_iff.mp hgs).1
    refine codeAny_builtin F.entry_all_loop ?_
    rw [Around.under_plainId F.plain_all_loop _]
    show wpAny _ A.in1 (pyNext (.ref a) >>= _) _ _ s
    refine wpAny_bind (wpAny_gsz (n := g + 1) hgl (next_genG (A := A.in1) hh hl hd hg hgs (goes hgo) (fun v s₁ gs' hbare hv => ?_) (fun s₁ hp h' hk => ?_) fun e s₁ he => he.elim))
    · intro hsz
      obtain ⟨b, rfl, hl1, hg1, hb1, hf, ht⟩ := hv
      have hsz1 : g < s₁.gens.size := by
        have q : (s₁.setGen g gs').gens.size = s₁.gens.size := setGen_size _ _ _
        have hsz' : g + 1 ≤ (s₁.setGen g gs').gens.size := hsz
        omega
      refine wpAny_bind (wpAny_holding (wpAny_truthy_bool ?_))
      refine wpAny_bind (wpAny_letGo ?_)
      cases b with
      | true =>
        simp only [if_true]
        refine wpAny_pure ⟨plainId_quiet F.plain_all_loop _, ih (s₁.setGen g gs') hg1 hl1 ⟨gs', setGen_at hsz1, ?_⟩⟩
        exact ht rfl _ rfl rfl (allBare_setGen (s := s₁.setGen g gs') (allBare_setGen hb1 hbare) rfl)
      | false =>
        simp only [Bool.false_eq_true, if_false]
        obtain ⟨H', hm, hq⟩ := hf rfl
        refine wpAny_bind (wpAny_rule (wpAny_pure (hF _ H' ⟨hm.1, allBare_setGen hb1 hbare, hm.2.2.1, hm.2.2.2⟩ hq)))
    · intro hsz
      obtain ⟨H', hm, hq⟩ := hp
      refine wpAny_bind (wpAny_rule (wpAny_pure (hT _ H' ⟨hm.1, allBare_setGen hm.2.1 rfl, hm.2.2.1.trans (Un.kept hk), hm.2.2.2.kept hk⟩ hq)))
end
end Gx
end
section
set_option Elab.async false
set_option linter.all false
set_option maxRecDepth 100000
set_option maxHeartbeats 4000000
/-! all(test for .. in .. if ..), the test any expression. -/
namespace Gx
open PySem PySem.Spec PyProof.Rows L2 GenW GxR
section
variable {X : Cx} {elt tg iter : PySem.Expr} {ifs : List PySem.Expr} {scope : Scope} {gpos : Pos} {gg : TG} {tt : TT} {te : TE} {wi : TI} {own : List (Str × Nat)} {c P : Addr} {k : Nat}
/-- one turn after the other: T what the end wants, F what a False wants -/
def TurnG (gg : TG) (tt : TT) (te : TE) (vs : List Nat) (σ : L2.St) (J : It) (W : Nat → Nat → Hp → Prop) (T F : Hp → Prop) : Prop := ∀ i m H, W i m H → (J.stop i H ∧ T H) ∨ (J.go i H ∧ ∃ Nx : Hp → Prop, (∀ H', Nx H' → ∃ m', m' < m ∧ W (i + 1) m' H') ∧
  ∀ x H', J.yld i H x H' → gg x (wipe σ vs) H' fun σ2 H2 => wipe σ2 vs = wipe σ vs ∧ tt σ2 H2 fun b H3 => if b = true then te σ2 H3 fun y H4 => ∃ c, y = .bl c ∧ if c = true then Nx H4 else F H4 else Nx H3)
def tAllG (P : Addr) (wi : TI) (gg : TG) (tt : TT) (te : TE) (vs : List Nat) : TE := fun σ H Q => wi σ H fun J H1 => TabG H1 P ∧ ∀ H2, Tabbed P H1 H2 → ∃ W : Nat → Nat → Hp → Prop, (∃ m, W 0 m H2) ∧ TurnG gg tt te vs σ J W (fun H => Q (.bl true) H) fun H => Q (.bl false) H
abbrev gEnv (X : Cx) (scope : Scope) (C : Addr) (code : Value) : Env := genEnv scope (cloFrom X.env.cells scope.names []) C code builtinsNs X.env
/-- a generator that has not begun -/
def GMd (X : Cx) (k : Nat) (pins : List (Addr × Obj)) (σ : L2.St) (T F : Hp → Prop) (u : Value) (s5 : Shared) : Prop := ∃ (a : Addr) (g : Nat) (c0 : Code) (s4 : Shared) (H2 : Hp) (fp : List Addr), u = .ref a ∧ Inv X pins σ H2 s4 ∧ (∀ b ∈ fp, FpOk X pins H2 b) ∧ s5.heap.IsGen a g ∧ s5.heap.NoLimit ∧
      AllBare s5.gens ∧ s5.gens[g]? = some (.fresh c0) ∧ ∃ n, ∀ (B : Around) (s6 : Shared), Room (k + 1) B → B.frames = some X.stack → s6.heap = s5.heap → s6.os = s5.os → AllBare s6.gens →
        Seg (model X.prog X.w) B (GxR X H2 s4 fp T) (GxY X H2 s4 fp a g F) n s6 c0 ((model X.prog X.w).den c0) [] s6
theorem room_gen {B : Around} {cenv : Env} {it : Addr} {pos : Pos} (hr : Room (k + 1) B) : Room k (B.over (gLoop elt tg iter ifs scope pos it cenv) []) :=
  ⟨hr.hd, by have := hr.dp; show B.depth + 0 + 1 + 3 * k + 5 < _; omega, by have := hr.un; show B.units + 0 + 3 + 16 * k + 200 < _; omega⟩
theorem frames_gen {B : Around} {cenv : Env} {it : Addr} {pos : Pos} {l : List Env} (h : B.frames = some l) : (B.over (gLoop elt tg iter ifs scope pos it cenv) []).frames = some (cenv :: l) := by
  simp only [Around.over]
  rw [h]
  rfl
theorem gx_make {pins : List (Addr × Obj)} {σ : L2.St} {H : Hp} {s : Shared} {T F : Hp → Prop} (hhd : X.A.handled = none) (hdp : X.A.depth < recursionLimit) (TB : TabB X.base X.mg c P) (hcode : X.env.code = .ref c) (hN : X.N.Nodup) (hco : scope.isCoroutine = false)
    (nc : ∀ y ∈ scope.names, y.2 ≠ .cell) (h0 : scope.names.lookup (".0" : Str) = some NameKind.local) (ok : BlkOk X.N X.env.scope scope own) (hi : PI X tg iter wi)
    (hg : ∀ (s : Shared) (H : Hp) (C : Addr) (code : Value) (B : Around) (fp : List Addr) (pn : List (Addr × Obj)), Room k B → PG (gex X s H (gEnv X scope C code) B fp pn) tg gg)
    (ht : ∀ (s : Shared) (H : Hp) (C : Addr) (code : Value) (B : Around) (fp : List Addr) (pn : List (Addr × Obj)), Room k B → PTs (gex X s H (gEnv X scope C code) B fp pn) ifs tt)
    (he : ∀ (s : Shared) (H : Hp) (C : Addr) (code : Value) (B : Around) (fp : List Addr) (pn : List (Addr × Obj)), Room k B → PE (gex X s H (gEnv X scope C code) B fp pn) elt te)
    (hs : ∀ v, genFold iter X.env v = pure v) (I : Inv X pins σ H s)
    (h : wi σ H fun J H1 => TabG H1 P ∧ ∀ H2, Tabbed P H1 H2 → ∃ W : Nat → Nat → Hp → Prop, (∃ m, W 0 m H2) ∧ TurnG gg tt te (own.map (·.2)) σ J W T F) :
    wpAny (model X.prog X.w) X.A (eval (.GeneratorExp elt [⟨tg, iter, ifs, 0⟩] scope gpos) X.env) (GMd X k pins σ T F) X.xe s := by
  have hclos : closureFor scope X.env = pure (cloFrom X.env.cells scope.names []) := closure_ok fun y hy e => by
    rcases ok.free y hy e with q | q
    · exact I.ok.has _ (.inl q)
    · exact I.ok.has _ (.inr q)
  refine wpAny_GeneratorExp_make hco hclos nc h0 ok.kind hdp ?_ hs
  refine thn (hi.run pins s σ H _ I h) fun xv s1 h1 => thn h1 fun itv s2 ⟨it, fp, tn, J, H1, eit, I1, T1, st1, f1, ⟨ps, hP, htr⟩, q1⟩ => ?_
  subst eit
  have hPs : s2.heap.get? P = some { cls := .none, data := .fields ps } := I1.hok P _ hP
  have cd : PySem.W.CodeHd s2.heap c P := TB.code.keeps fun b u e => I1.bk b u e
  refine ⟨I1.nolimit, ?_⟩
  have hcP : cStatics ≠ P := fun e => by
    obtain ⟨_, hns, _⟩ := I1.nolimit
    obtain ⟨o', es, ep, ho, hd, _⟩ := hns
    rw [e, hPs] at ho
    cases ho
    cases hd
  have cont : ∀ (code : Value) (h3 : Heap) (tk : Nat) (more : Array Value), Heap.ExtBut P s2.heap h3 → h3.get? P = some { cls := .none, data := .fields (ps ++ more) } → TriplesOk (ps ++ more).toList →
      wpAny (model X.prog X.w) X.A (builtinsFor X.env.globals X.env.builtins) (fun bi s₄ => ∀ h', h'.Ns s₄.heap.objs.size (fun y => if y = ".0" then some (.ref it) else none) → Heap.SameBut s₄.heap.objs.size (s₄.heap.push { cls := .type "frame", data := .dict #[] }) h' →
        GMd X k pins σ T F (.ref h'.objs.size) { s₄ with
            gens := s₄.gens.push (.fresh (.compStart (.GeneratorExp elt [⟨tg, iter, ifs, 0⟩] scope gpos) 0 (.ref it) .none (genEnv scope (cloFrom X.env.cells scope.names []) s₄.heap.objs.size code bi X.env))),
            toks := s₄.toks + 1 + 1 + 1,
            heap := h'.push { cls := .type "generator", data := .fields #[.int s₄.gens.size 0, .str "<genexpr>" (s₄.toks + 1), .str (X.env.qual ++ "<genexpr>") (s₄.toks + 1 + 1)] } }) X.xe { s2 with heap := h3, toks := tk } := by
    intro code h3 tk more hx hP3 ht3
    obtain ⟨bm, ob, e1, e2, e3, e4, e5, e6, e7, e8⟩ := TB.bm
    have keep3 : ∀ b u, b ≠ P → s2.heap.get? b = some u → h3.get? b = some u := fun b u hb e => hx b u hb e
    have I3 : Inv X pins σ (upd H1 P (.tbl (ps ++ more))) { s2 with heap := h3, toks := tk } := inv_tab (g' := s2.gens) (d' := s2.drawn) I1 hP keep3 hP3 I1.bare
    refine wpAny_builtinsFor (m := X.mg) (by rw [I1.ok.glob]; exact (I1.mod.glob.keeps I1.bk).extBut hx TB.gP) e1 e2 (keep3 _ _ e4 (I1.bk _ _ e5)) e6 e7 e8 ?_
    intro h' hn' hs'
    obtain ⟨W, ⟨m0, w0⟩, turn⟩ := q1 (upd H1 P (.tbl (ps ++ more))) ⟨⟨ps ++ more, upd_same, ht3⟩, fun b hb => upd_ne hb⟩
    have nP : ∀ b, H1 b = none → b ≠ P := fun b e z => by rw [z, hP] at e; cases e
    have sz : ∀ b ∈ fp, b < s2.heap.objs.size := fun b hb => by
      obtain ⟨o, e, _⟩ := T1.obj _ _ st1 b hb
      exact Heap.lt_size e
    have st3 : tn 0 h3 := T1.keep _ _ _ st1 fun b hb o e => keep3 b o (nP b (f1 b hb).1) e
    have f3 : ∀ b ∈ fp, FpOk X pins (upd H1 P (.tbl (ps ++ more))) b := fun b hb => ⟨by rw [upd_ne (nP b (f1 b hb).1)]; exact (f1 b hb).1, (f1 b hb).2⟩
    have lt3 : ∀ b ∈ fp, b < h3.objs.size := fun b hb => by
      obtain ⟨o, e, _⟩ := T1.obj _ _ st3 b hb
      exact Heap.lt_size e
    have hsz : h'.objs.size = h3.objs.size + 1 := by rw [hs'.1, Heap.size_push]
    have keep' : ∀ b o, h3.get? b = some o → h'.get? b = some o := fun b o e => hs'.extBut b o (Nat.ne_of_lt (Heap.lt_size e)) (Heap.get?_push_of_some _ e)
    have bare5 : AllBare (s2.gens.push (.fresh (.compStart (.GeneratorExp elt [⟨tg, iter, ifs, 0⟩] scope gpos) 0 (.ref it) .none (gEnv X scope h3.objs.size code)))) := AllBare.push I1.bare rfl
    refine ⟨h'.objs.size, s2.gens.size, _, { s2 with heap := h3, toks := tk }, upd H1 P (.tbl (ps ++ more)), fp, rfl, I3, f3, ⟨_, _, _, Heap.get?_push_size _ rfl, rfl, rfl, rfl⟩, I3.nolimit.keeps fun b o e => Heap.get?_push_of_some _ (keep' b o e), bare5, Array.getElem?_push_size .., m0 + 1, ?_⟩
    intro B s6 hB hBf eh eo eb
    have st6 : tn 0 s6.heap := T1.keep _ _ _ st3 fun b hb o e => by rw [eh]; exact Heap.get?_push_of_some _ (keep' b o e)
    refine gx_begin T1 st6 ?_
    refine gx_loop (X := X) (σ := σ) (vs := List.map (fun x : Str × Nat => x.2) own) (W := W) (J := J) (TT' := T) (FF := F) (gg := gg) (tt := tt) (te := te) T1 hco (hg _ _ _ _ _ _ _ (room_gen hB)) (ht _ _ _ _ _ _ _ (room_gen hB)) (he _ _ _ _ _ _ _ (room_gen hB)) (pn := [(h'.objs.size, { cls := .type "generator", data := .fields #[.int s2.gens.size 0, .str "<genexpr>" (tk + 1), .str (X.env.qual ++ "<genexpr>") (tk + 1 + 1)] })])
      (fun hh hp => ⟨_, _, _, hp _ (List.mem_singleton.mpr rfl), rfl, rfl, rfl⟩) (fun b hb p hp => ?_) turn m0 (m0 + 1) 0 s6 s6 _ (Nat.le_refl _) ?_ st6 (fun b hb => (f3 b hb).1) w0
    · rw [List.mem_singleton.mp hp]
      have := lt3 b hb
      show h'.objs.size ≠ b
      rw [hsz]
      exact Nat.ne_of_gt (Nat.lt_succ_of_lt this)
    · have Z := gex_start (fp := fp) (B := B.over (gLoop elt tg iter ifs scope gpos it (gEnv X scope h3.objs.size code)) []) (code := code) (it := .ref it) (go := { cls := .type "generator", data := .fields #[.int s2.gens.size 0, .str "<genexpr>" (tk + 1), .str (X.env.qual ++ "<genexpr>") (tk + 1 + 1)] }) (G := s6.gens) (tk := s6.toks)
        I3 ok hN nc (fun b hb => ⟨f3 b hb, lt3 b hb⟩) hB.hd (frames_gen hBf) hn' hs' eb (fun v q => by cases q) rfl
      exact inv_same Z (by rw [eh]) eo eb
  cases hf : codeAmong gpos ps.toList with
  | none =>
    refine wpAny_genexprCodeX hcode (cd.code hPs htr) (cd.tab hPs) hf fun c' h' tk hx hge hlt hco' _ htab' _ => ?_
    obtain ⟨o1, vs1, f1', tf, fl, tg', inF, tx, tt', op, _, _, _, _, _, _, _, _, _, htr', _⟩ := hco'
    exact cont _ h' tk _ hx htab'.2 htr'
  | some cv =>
    refine wpAny_genexprCode_hit hcode (cd.code hPs htr) hf ?_
    exact cont cv s2.heap s2.toks #[] (Heap.ExtBut.refl _ _) (by rw [Array.append_empty]; exact hPs) (by rw [Array.append_empty]; exact htr)
theorem pe_allG {p pos : Pos} (hr : Room (k + 2) X.A) (hgl : Gl X "all") (hm : X.mg "all" = none) (hb : bootBuiltins "all" = some (.builtin "all")) (TB : TabB X.base X.mg c P) (hcode : X.env.code = .ref c) (hN : X.N.Nodup) (hco : scope.isCoroutine = false)
    (nc : ∀ y ∈ scope.names, y.2 ≠ .cell) (h0 : scope.names.lookup (".0" : Str) = some NameKind.local) (ok : BlkOk X.N X.env.scope scope own) (hi : PI X tg iter wi)
    (hg : ∀ (s : Shared) (H : Hp) (C : Addr) (code : Value) (B : Around) (fp : List Addr) (pn : List (Addr × Obj)), Room k B → PG (gex X s H (gEnv X scope C code) B fp pn) tg gg)
    (ht : ∀ (s : Shared) (H : Hp) (C : Addr) (code : Value) (B : Around) (fp : List Addr) (pn : List (Addr × Obj)), Room k B → PTs (gex X s H (gEnv X scope C code) B fp pn) ifs tt)
    (he : ∀ (s : Shared) (H : Hp) (C : Addr) (code : Value) (B : Around) (fp : List Addr) (pn : List (Addr × Obj)), Room k B → PE (gex X s H (gEnv X scope C code) B fp pn) elt te)
    (hs : ∀ v, genFold iter X.env v = pure v)
    (hst : starEach [.GeneratorExp elt [⟨tg, iter, ifs, 0⟩] scope gpos] X.env = (false, eval (.GeneratorExp elt [⟨tg, iter, ifs, 0⟩] scope gpos) X.env) :: starEach [] X.env := by rfl) :
    PE X (.Call (.Name "all" p) [.GeneratorExp elt [⟨tg, iter, ifs, 0⟩] scope gpos] [] pos) (tAllG P wi gg tt te (own.map (·.2))) := by
  refine ⟨fun pins s σ H Q I h => ?_⟩
  refine wpAny_Call_Name_kw (ld_blt I hgl hm hb ?_)
  refine PyProof.Rows.callWith_builtin1 ?_ hst (by rfl)
  rw [hst]
  show wpAny _ _ (spliced ((false, eval (.GeneratorExp elt [⟨tg, iter, ifs, 0⟩] scope gpos) X.env) :: backTo pos (starEach [] X.env))) _ _ s
  refine Calls.spliced_cons (thn (gx_make hr.hd (by have := hr.dp; omega) TB hcode hN hco nc h0 ok hi hg ht he hs I h) fun u s5 ⟨a, g, c0, s4, H2, fp, eu, I4, f4, isg, nl, bare, hgs, n, wake⟩ => ?_)
  subst eu
  refine Calls.spliced_nil ?_
  refine call_function_tree F.kind_all F.plain_all F.entry_all (F.args_all1 _) ?_
  unfold Builtin.«all»
  refine wpAny_bind (m := oneArg "all" _) (wpAny_pure ?_)
  refine wpAny_bind (wpAny_pyIter_gen isg ?_)
  have back : ∀ s' H', Mid X H2 s4 fp H' s' → Inv X pins σ H' s' := fun s' H' m => I4.call' (ch := fp) m.1 m.2.2.1 m.2.2.2 m.2.1 fun b hb => ⟨(f4 b hb).2.2.2.1, (f4 b hb).2.1, (f4 b hb).2.2.2.2.1, (f4 b hb).2.2.2.2.2⟩
  refine wpAny_pure ⟨plainId_quiet F.plain_all_loop _, all_drain (X := X) (s₀ := s4) (H₀ := H2) (fp := fp) (a := a) (g := g) (TT' := fun H => Q (.bl true) H) (FF := fun H => Q (.bl false) H) hr.hd (by have := hr.dp; omega)
    (fun s' H' m q => ⟨.bl false, H', back s' H' m, rfl, q⟩) (fun s' H' m q => ⟨.bl true, H', back s' H' m, rfl, q⟩) n s5 isg nl ⟨_, hgs, rfl, ?_⟩⟩
  refine wake _ _ ⟨hr.hd, ?_, ?_⟩ I.ok.frames rfl rfl (allBare_setGen bare rfl)
  · have := hr.dp
    show X.A.depth + 3 * (k + 1) + 5 < _
    omega
  · have := hr.un
    show X.A.units + 1 + 1 + 16 * (k + 1) + 200 < _
    omega
end
end Gx
end
section
set_option Elab.async false
set_option linter.all false
set_option maxRecDepth 100000
set_option maxHeartbeats 1000000
namespace Dl
open PySem PySem.Spec PyProof.Rows L2 HbE Evl RZ Gx
/-! ### all(test for x in xs if ..) -/
def allD (g : DG) (tt : DT) (te : DE) (σ0 : Sd) (Q : Bool → Prop) : List PyData → Prop
  | [] => Q true
  | d :: ds => g d σ0 fun σ2 => tt σ2 fun b => if b = true then te σ2 fun y => match y with
      | .bool c => if c = true then allD g tt te σ0 Q ds else Q false
      | _ => False
    else allD g tt te σ0 Q ds
def dAll (di : DI) (g : DG) (tt : DT) (te : DE) (vs : List Nat) : DE := fun σ Q => di σ fun ds => allD g tt te (wipeD σ vs) (fun b => Q (.bool b)) ds
theorem step_tab {hs : List Addr} {Ps : TbL} {P : Addr} {H H2 : Hp} {M : Addr → Prop} (w : Wf Ps M hs H) (hP : (P, none) ∈ Ps) (h : GxR.Tabbed P H H2) : Step hs Ps H H2 := by
  have hA : P ∈ ad Ps := ad_of hP
  obtain ⟨ps, e⟩ := w.tbl hA
  refine ⟨fun a o q _ n => by rw [h.2 a fun z => n (z ▸ hA)]; exact q, fun p hp q => ?_, fun P' hP' q => ?_⟩
  · obtain ⟨o, q1, q2⟩ := q
    refine ⟨o, ?_, q2⟩
    rw [h.2 p fun z => ?_]
    · exact q1
    · rw [z, e] at q1
      cases q1
      obtain ⟨_, _, _, q3⟩ := q2
      cases q3
  · have kc : ∀ c q, H c = some (LamX.CodeO c q) → H2 c = some (LamX.CodeO c q) := fun c q z => by
      rw [h.2 c fun y => LamX.codeO_ne (c := c) (q := q) ps (Option.some.inj (z.symm.trans (y ▸ e)))]
      exact z
    obtain ⟨P1, kd⟩ := P'
    by_cases z : P1 = P
    · subst z
      cases kd with
      | none => exact h.1
      | some q0 =>
        have := w.one _ hP' _ hP rfl
        cases this
    · exact q.keep (h.2 P1 z) kc
theorem lift_all {K : PySem.W.Frag} {Ps : TX} {P : Addr} {di : DI} {g : DG} {tt : DT} {te : DE} {ts vs : List Nat} {σ : L2.St} {H : Hp} {Q : VK} (hP : (P, none) ∈ Ps.l) (hts : ∀ t ∈ ts, t ∈ vs) (h : lift K Ps (dAll di g tt te vs) σ H Q) :
    tAllG P (liftI K Ps di) (liftG K Ps ts g) (liftT K Ps tt) (lift K Ps te) vs σ H Q := by
  obtain ⟨c, hs, as, σd, Qd, S, h, k⟩ := h
  refine ⟨c, hs, as, σd, _, S, h, fun ds J H1 h1 s1 it => ⟨((S.step s1).fr.wf.tab _ hP).2, fun H2 ht2 => ?_⟩⟩
  have T := S.step s1
  have s12 := step_tab T.fr.wf hP ht2
  refine ⟨fun i m H' => i + m = ds.length ∧ Step hs Ps H1 H' ∧ allD g tt te (wipeD σd vs) (fun b => Qd (.bool b)) (ds.drop i), ⟨ds.length, by omega, s12, h1⟩, ?_⟩
  rintro i m H' ⟨em, s3, hl⟩
  have U := (T.step s3).wipe vs
  obtain ⟨hgo, hst⟩ := it _ _ _ U.fr.wf (T.fr.wf.ex s3)
  by_cases hi : i < ds.length
  · rw [List.drop_eq_getElem_cons hi] at hl
    obtain ⟨g1, g2⟩ := hgo i ds[i] (List.getElem?_eq_getElem hi)
    refine .inr ⟨g1, fun H4 => Step hs Ps H1 H4 ∧ allD g tt te (wipeD σd vs) (fun b => Qd (.bool b)) (ds.drop (i + 1)), fun H4 ⟨q1, q2⟩ => ⟨m - 1, by omega, by omega, q1, q2⟩, fun x H4 y => ?_⟩
    obtain ⟨s4, rx⟩ := g2 x H4 y
    refine ⟨c, hs, as, _, ds[i], _, U.step s4, rx, hl, fun σ3 σd3 T3 w3 q3 => ⟨?_, c, hs, as, σd3, _, T3, q3, fun b H5 hb s5 => ?_⟩⟩
    · have a := wipe_more (us := vs) w3 hts
      have b : wipe (wipe σ vs) vs = wipe σ vs := wipe_ext (by rw [wipe_length]) fun j hj => wipe_out hj
      rw [a]
      exact b
    · have s15 := s3.trans (s4.trans s5)
      cases b with
      | true =>
        rw [if_pos rfl] at hb
        dsimp only
        rw [if_pos rfl]
        refine ⟨c, hs, as, σd3, _, T3.step s5, hb, fun d z H6 h6 s6 r6 => ?_⟩
        split at h6
        · rename_i cc
          cases r6
          refine ⟨cc, rfl, ?_⟩
          cases cc with
          | true =>
            rw [if_pos rfl] at h6 ⊢
            exact ⟨s15.trans s6, h6⟩
          | false =>
            rw [if_neg (by simp)] at h6 ⊢
            exact k _ _ H6 h6 (s1.trans (s15.trans s6)) (.bl false)
        · exact h6.elim
      | false =>
        rw [if_neg (by simp)] at hb
        dsimp only
        rw [if_neg (by simp)]
        exact ⟨s15, hb⟩
  · rw [List.drop_eq_nil_of_le (Nat.le_of_not_lt hi)] at hl
    exact .inl ⟨(show i = ds.length by omega) ▸ hst, k _ _ H' hl (s1.trans s3) (.bl true)⟩
theorem b_all : bootBuiltins "all" = some (.builtin "all") := by decide +kernel
section
variable {X : Cx} {Ps : TX} {elt tg iter : PySem.Expr} {ifs : List PySem.Expr} {scope : Scope} {gpos p pos : Pos} {own : List (Str × Nat)} {c P : Addr} {k : Nat} {di : DI} {g : DG} {tt : DT} {te : DE} {ts : List Nat}
theorem pd_all (hr : Room (k + 2) X.A) (hgl : Gl X "all") (hm : X.mg "all" = none) (TB : GxR.TabB X.base X.mg c P) (hP : (P, none) ∈ Ps.l) (hcode : X.env.code = .ref c) (hN : X.N.Nodup) (hco : scope.isCoroutine = false)
    (nc : (scope.names.all fun y => decide (y.2 ≠ .cell)) = true) (h0 : scope.names.lookup (".0" : Str) = some NameKind.local) (ok : BlkOk X.N X.env.scope scope own) (hi : PI X tg iter (liftI X.K Ps di))
    (hg : ∀ (s : Shared) (H : Hp) (C : Addr) (code : Value) (B : Around) (fp : List Addr) (pn : List (Addr × Obj)), Room k B → PG (gex X s H (gEnv X scope C code) B fp pn) tg (liftG X.K Ps ts g))
    (ht : ∀ (s : Shared) (H : Hp) (C : Addr) (code : Value) (B : Around) (fp : List Addr) (pn : List (Addr × Obj)), Room k B → PTs (gex X s H (gEnv X scope C code) B fp pn) ifs (liftT X.K Ps tt))
    (he : ∀ (s : Shared) (H : Hp) (C : Addr) (code : Value) (B : Around) (fp : List Addr) (pn : List (Addr × Obj)), Room k B → PE (gex X s H (gEnv X scope C code) B fp pn) elt (lift X.K Ps te))
    (hs : ∀ v, genFold iter X.env v = pure v := by intro _; rfl) (hts : ∀ t ∈ ts, t ∈ own.map (·.2) := by decide)
    (hst : starEach [.GeneratorExp elt [⟨tg, iter, ifs, 0⟩] scope gpos] X.env = (false, eval (.GeneratorExp elt [⟨tg, iter, ifs, 0⟩] scope gpos) X.env) :: starEach [] X.env := by rfl) :
    PE X (.Call (.Name "all" p) [.GeneratorExp elt [⟨tg, iter, ifs, 0⟩] scope gpos] [] pos) (lift X.K Ps (dAll di g tt te (own.map (·.2)))) :=
  pe_weak (pe_allG hr hgl hm b_all TB hcode hN hco (fun y hy => of_decide_eq_true (List.all_eq_true.mp nc y hy)) h0 ok hi hg ht he hs hst) fun _ _ _ => lift_all hP hts
end
end Dl
end
section
set_option Elab.async false
set_option linter.all false
set_option maxRecDepth 100000
set_option maxHeartbeats 1000000
namespace Dl
open PySem PySem.Spec PyProof.Rows L2 HbE Evl RZ Gx
/-- a def whose code object stands at c -/
structure FunC (K : PySem.W.Frag) (x qual : Str) (st : Stmt) (c f : Addr) (fd : FuncData) : Prop where
  ex : ∃ (oc : Value) (od : Option Addr) (kV doc pm : Value) (an : Option Addr) (ct : Value) (osl : Array (Option Value)), fd = PySem.W.fnOf x qual (defArgs st) (defBody st) (defScope st) .none kV doc pm an (.ref c) ct ∧
    K.lookup f = some ⟨oc, od, .func (PySem.W.fnOf x qual (defArgs st) (defBody st) (defScope st) .none kV doc pm an (.ref c) ct), osl⟩ ∧ PySem.W.codeIn K (.ref c) qual = true
  kp : PySem.W.keepIn K (.ref f) = true
section
variable {P : Program} {w : World} {K : PySem.W.Frag} {mg : Str → Option Value} {base : Heap} {Ps : TbL}
end
end Dl
end
section
set_option Elab.async false
set_option linter.all false
set_option maxRecDepth 100000
set_option maxHeartbeats 2000000
/-! A try whose clauses are mixed: with and without a name. -/
namespace Dl
open PySem PySem.Spec PyProof.Rows L2
/-- a clause: its class, its name's slot, its suite -/
abbrev Cls3 := Value × Option Nat × (Addr → Value → Option Addr → TS)
/-- the name of a clause is gone behind it -/
def clr (i : Nat) (D : Ends) : Ends := { nx := fun τ G => D.nx (τ.set i none) G, rt := D.rt, bk := fun τ G => D.bk (τ.set i none) G, ct := fun τ G => D.ct (τ.set i none) G }
def into (D : Ends) (a : Addr) (cls : Value) (d : Option Addr) (τ : L2.St) (G : Hp) : Cls3 → Prop
  | (_, none, ts) => ts a cls d D τ G
  | (_, some i, ts) => ts a cls d (clr i D) (τ.set i (some (.ref a))) G
def wMix (K : PySem.W.Frag) (Wout : WX) (D : Ends) : List Cls3 → WX
  | [] => Wout
  | q :: r => fun cls d τ G => ∃ b, PySem.W.exmOne K cls q.1 = some b ∧ (b = true → ∀ a, G a = none → into D a cls d τ G q) ∧ (b = false → wMix K Wout D r cls d τ G)
inductive MixOk (X : Cx) : List ExceptHandler → List Cls3 → Prop
  | nil : MixOk X [] []
  | bare {x : Str} {c : Value} {ts : Addr → Value → Option Addr → TS} {st : Stmt} {sts : List Stmt} {p1 p2 : Pos} {hds : List ExceptHandler} {l : List Cls3} (hc : Names X x c)
      (hsu : ∀ (a : Addr) (oe : Obj) (cls : Value) (d : Option Addr) (pn : List (Addr × Obj)), Zc cls d oe → (∃ vs, oe.data = .fields vs) → PSs (X.suite a ((a, oe) :: pn)) (st :: sts) (ts a cls d)) (r : MixOk X hds l) :
      MixOk X (.ExceptHandler (some (.Name x p1)) none (st :: sts) p2 :: hds) ((c, none, ts) :: l)
  | named {x n : Str} {i : Nat} {c : Value} {ts : Addr → Value → Option Addr → TS} {st : Stmt} {sts : List Stmt} {p1 p2 : Pos} {hds : List ExceptHandler} {l : List Cls3} (hc : Names X x c)
      (hN : X.N.Nodup) (hi : X.N[i]? = some n) (hl : X.env.kindOf n = some .local)
      (hsu : ∀ (a : Addr) (oe : Obj) (cls : Value) (d : Option Addr) (pn : List (Addr × Obj)), Zc cls d oe → (∃ vs, oe.data = .fields vs) → PSs (X.suite a ((a, oe) :: pn)) (st :: sts) (ts a cls d)) (r : MixOk X hds l) :
      MixOk X (.ExceptHandler (some (.Name x p1)) (some n) (st :: sts) p2 :: hds) ((c, some i, ts) :: l)
section
variable {X : Cx} {body : List Stmt} {hd1 : ExceptHandler} {hds : List ExceptHandler} {l : List Cls3} {pos : Pos} {tb : WX → TS} {Wout : WX}
/-- the exception's object is none of the frames -/
theorem not_frame {B g : Heap} {fs : List Env} {a : Addr} {o : Obj} {vs : Array Value} (ff : g.FunFrames B fs) (e : g.get? a = some o) (d : o.data = .fields vs) : a ∉ frs fs := fun m => by
  obtain ⟨_, o2, e2, q⟩ := ff.mem m
  cases e.symm.trans e2
  exact q _ d
/-- a state of ours on which the exception at a lies, caught by this frame -/
structure Caught (X : Cx) (pins : List (Addr × Obj)) (τ : L2.St) (G : Hp) (B : Heap) (a : Addr) (cls : Value) (d : Option Addr) (sI s0 : Shared) (g : Heap) : Prop where
  I : Inv X pins τ G sI
  nb : ∀ b o, sI.heap.get? b = some o → b ∉ frs X.stack → B.get? b = some o
  up : sI.heap.UpToSlots g
  fl : HandSPX.FlyingZ B (X.env :: X.outer) a (Zc cls d) g
  na : G a = none
  os : s0.os = sI.os
  ag : AllBare s0.gens
section
variable {pins : List (Addr × Obj)} {τ : L2.St} {G : Hp} {B : Heap} {a : Addr} {cls : Value} {d : Option Addr} {sI s0 : Shared} {g : Heap}
theorem Caught.inv (C : Caught X pins τ G B a cls d sI s0 g) : Inv X pins τ G { s0 with heap := g } := C.I.landed C.nb C.fl.1 C.up C.os C.ag
theorem Caught.suite (C : Caught X pins τ G B a cls d sI s0 g) (hs : X.stack = X.env :: X.outer) (hf : X.env.frame = some X.env.locals) :
    ∃ oe vs, g.get? a = some oe ∧ Zc cls d oe ∧ oe.data = .fields vs ∧ Inv (X.suite a ((a, oe) :: (X.pn ++ pins))) [] τ G { s0 with heap := g } := by
  obtain ⟨oe, vs, e1, e2, e3⟩ := C.fl.there
  have nf := not_frame C.fl.2.2.1 e1 e3
  refine ⟨oe, vs, e1, e2, e3, C.inv.suite (s := { s0 with heap := g }) e1 e3 C.na (fun z => nf ?_) fun m => ?_⟩
  · exact List.mem_filterMap.mpr ⟨X.env, List.mem_cons_self, by rw [hf, z]⟩
  · obtain ⟨v, m1, m2⟩ := List.mem_filterMap.mp m
    exact nf (List.mem_filterMap.mpr ⟨v, List.mem_cons_of_mem _ m1, m2⟩)
theorem Caught.again (C : Caught X pins τ G B a cls d sI s0 g) {g2 : Heap} (fl : HandSPX.FlyingZ B (X.env :: X.outer) a (Zc cls d) g2) (u : g.UpToSlots g2) : Caught X pins τ G B a cls d sI s0 g2 := ⟨C.I, C.nb, C.up.trans u, fl, C.na, C.os, C.ag⟩
/-- the clauses, one behind the other -/
theorem clauses {D : Ends} (hs : X.stack = X.env :: X.outer) (hf : X.env.frame = some X.env.locals) (tk : Takes X Wout) (C : Caught X pins τ G B a cls d sI s0 g) : ∀ {hds : List ExceptHandler} {l : List Cls3}, MixOk X hds l → wMix X.K Wout D l cls d τ G →
    wpAny (model X.prog X.w) X.A (handleBy (.ref a) X.env hds) (SP X pins D) X.xe { s0 with heap := g } := by
  have okX := C.I.ok
  intro hds l hk
  have LT : ∀ {g' : Heap} {oe : Obj}, g'.get? a = some oe → Zc cls d oe → PySem.W.Looks (model X.prog X.w) g' (typeOf (.ref a)) cls := fun e z A Q E s k q => wpAny_typeOf_ref (k _ _ e) (by rw [z.1]; exact q)
  have name : ∀ {x : Str} {c : Value} {p1 : Pos} {Q : Value → Shared → Prop} {E : Value → Shared → Prop}, Names X x c → Q c { s0 with heap := g } → wpAny (model X.prog X.w) (X.A.mark (some (.ref a))) (eval (.Name x p1) X.env) Q E { s0 with heap := g } := fun {x c p1 Q E} hc q => by
    obtain ⟨oe, vs, _, _, _, S⟩ := C.suite hs hf
    obtain ⟨n1, n2, n3⟩ := hc
    rcases n3 with n3 | ⟨n3, n4, n5⟩
    · exact ld_glob (X := X.suite a ((a, oe) :: (X.pn ++ pins))) S n1 n3 q n2
    · exact ld_blt (X := X.suite a ((a, oe) :: (X.pn ++ pins))) S n1 n3 n4 q n5 n2
  induction hk with
  | nil =>
    intro w
    refine wpAny_handleBy_nil ?_
    obtain ⟨_, _, _, o1, _, T, _, _, f1, _, f2, f3, _⟩ := id C.fl
    unfold PySem.passOn
    refine wpAny_bind (wpAny_field f1 f2 f3 ?_)
    rw [if_neg (show ¬ ((Value.ref T == Value.none) = true) from by simp)]
    have out : wpAny (model X.prog X.w) X.A (setFlight (.ref a) X.env.frame) (fun _ m => wpAny (model X.prog X.w) X.A (throw (.ref a) : Sem Flow) (SP X pins D) X.xe m) X.xe { s0 with heap := g } := by
      rw [hf]
      refine HandSPX.setFlight_upZ C.fl fun g4 held u4 => wpAny_throw (tk _ _ ⟨a, B, sI, pins, τ, G, cls, d, rfl, C.I, C.nb, C.up.trans u4, ?_, C.na, C.os, C.ag, w⟩)
      exact .inr (.inr (by rw [hs]; exact held))
    first
      | exact wpAny_bind (wpAny_pure (wpAny_bind out))
      | exact wpAny_bind out
  | @bare x c ts st sts p1 p2 hds l hc hsu r ih =>
    rintro ⟨b, wb, yes, no⟩
    obtain ⟨oe, vs, e1, e2, e3, S⟩ := C.suite hs hf
    refine wpAny_handleBy_cons (codeAny_handlers_test (name hc ((PySem.W.exm_one (M := model X.prog X.w) C.inv.kIn (LT e1 e2) wb).here ?_))) (by intro q; cases q)
    cases b with
    | false => exact ih (no rfl)
    | true =>
      refine codeAny_handlers_suite (HandSPX.lands_againZ C.fl fun g4 fl4 u4 => ?_)
      obtain ⟨oe', vs', e1', e2', e3', S'⟩ := (C.again fl4 u4).suite hs hf
      refine wpAny_mono ((hsu a oe' cls d (X.pn ++ pins) e2' ⟨_, e3'⟩).run [] _ _ _ _ S' (yes rfl a C.na)) (fun f m sp => ?_) fun _ _ z => z.elim
      cases f with
      | ret u => obtain ⟨v6, σ6, H6, S6, r6, q6⟩ := sp; exact ⟨_, _, _, S6.unsuite okX, r6, q6⟩
      | next => obtain ⟨σ6, H6, S6, q6⟩ := sp; exact ⟨_, _, S6.unsuite okX, q6⟩
      | brk => obtain ⟨σ6, H6, S6, q6⟩ := sp; exact ⟨_, _, S6.unsuite okX, q6⟩
      | cont => obtain ⟨σ6, H6, S6, q6⟩ := sp; exact ⟨_, _, S6.unsuite okX, q6⟩
  | @named x n i c ts st sts p1 p2 hds l hc hN hi hl hsu r ih =>
    rintro ⟨b, wb, yes, no⟩
    obtain ⟨oe, vs, e1, e2, e3, S⟩ := C.suite hs hf
    refine wpAny_handleBy_cons (codeAny_handlers_test (name hc ((PySem.W.exm_one (M := model X.prog X.w) C.inv.kIn (LT e1 e2) wb).here ?_))) (by intro q; cases q)
    cases b with
    | false => exact ih (no rfl)
    | true =>
      refine codeAny_handlers_suite_as (HandSPX.lands_againZ C.fl fun g4 fl4 u4 => ?_)
      obtain ⟨oe', vs', e1', e2', e3', S'⟩ := (C.again fl4 u4).suite hs hf
      refine store_ok (X := X.suite a ((a, oe') :: (X.pn ++ pins))) (v := .ref a) S' hN hi (.inl hl) rfl (fun s5 S5 => ?_) (.inr hl)
      refine wpAny_mono ((hsu a oe' cls d (X.pn ++ pins) e2' ⟨_, e3'⟩).run [] s5 _ _ _ S5 (yes rfl a C.na)) (fun f m sp => ?_) fun _ _ z => z.elim
      have gone : ∀ {σ6 : L2.St} {H6 : Hp} {Q : Shared → Prop}, Inv (X.suite a ((a, oe') :: (X.pn ++ pins))) [] σ6 H6 m → (∀ m2, Inv X pins (σ6.set i none) H6 m2 → Q m2) →
          wpAny (model X.prog X.w) X.A (do bindName X.env n .none; unbindBehindTheSuite X.env n p2) (fun _ m2 => Q m2) X.xe m := fun S6 q => gone_ok (S6.unsuite okX) hN hi hl q
      cases f with
      | ret u => obtain ⟨v6, σ6, H6, S6, r6, q6⟩ := sp; exact gone S6 fun m2 J => ⟨_, _, _, J, r6, q6⟩
      | next => obtain ⟨σ6, H6, S6, q6⟩ := sp; exact gone S6 fun m2 J => ⟨_, _, J, q6⟩
      | brk => obtain ⟨σ6, H6, S6, q6⟩ := sp; exact gone S6 fun m2 J => ⟨_, _, J, q6⟩
      | cont => obtain ⟨σ6, H6, S6, q6⟩ := sp; exact gone S6 fun m2 J => ⟨_, _, J, q6⟩
end
theorem ps_try_mix (hs : X.stack = X.env :: X.outer) (hf : X.env.frame = some X.env.locals) (tk : Takes X Wout)
    (hb : ∀ (W : WX) (pn : List (Addr × Obj)) (xe : Value → Shared → Prop), Takes (X.tr pn xe) W → PassesOwn (model X.prog X.w) X.A X.env xe → PSs (X.tr pn xe) body (tb W))
    (hh : MixOk X (hd1 :: hds) l) : PS X (.Try body (hd1 :: hds) [] [] pos) (fun D τ G => tb (wMix X.K Wout D l) D τ G) := ⟨fun pins s0 τ0 G0 D I0 w0 => by
  have okX := I0.ok
  have hfr : X.A.frames = some (X.env :: X.outer) := okX.frames.trans (congrArg some hs)
  have go := hb (wMix X.K Wout D l) (X.pn ++ pins) (fun e m1 => wpAny (model X.prog X.w) X.A (noteFrame e X.env) (fun _ m2 => wpAny (model X.prog X.w) X.A (setFlight e none) (fun _ m3 =>
    wpAny (model X.prog X.w) X.A (handleBy e X.env (hd1 :: hds)) (SP X pins D) X.xe m3) X.xe m2) X.xe m1) (fun u m xx => by
      obtain ⟨a, B, sI, pi, τ, G, cls, d, rfl, J, nb, up, sky, na, os, ag, w⟩ := xx
      have sky2 : Sky B (X.env :: X.outer) a (Zc cls d) X.env.locals m.heap := hs ▸ sky
      refine Sky.land Zc.steady hfr hf sky2 fun g fl u2 => ?_
      exact clauses hs hf tk (⟨J.ofTry okX, nb, up.trans u2, fl, na, os, ag⟩ : Caught X pins τ G B a cls d sI m g) hh w) PassesOwn.looking
  refine wpAny_Try_except (wpAny_mono (go.run [] s0 τ0 G0 D (I0.toTry _) w0) (fun f m sp => ?_) fun _ _ z => z)
  cases f with
  | ret u => obtain ⟨v, σ', H', J, r, q⟩ := sp; exact ⟨v, σ', H', J.ofTry okX, r, q⟩
  | next => obtain ⟨σ', H', J, q⟩ := sp; exact wpAny_execs_nil ⟨σ', H', J.ofTry okX, q⟩
  | brk => obtain ⟨σ', H', J, q⟩ := sp; exact ⟨σ', H', J.ofTry okX, q⟩
  | cont => obtain ⟨σ', H', J, q⟩ := sp; exact ⟨σ', H', J.ofTry okX, q⟩⟩
end
end Dl
end
section
set_option Elab.async false
set_option linter.all false
set_option maxRecDepth 100000
set_option maxHeartbeats 400000
namespace HbX
open PySem PySem.Spec PyProof.Rows L2 HbE Evl
def ExB (K : PySem.W.Frag) (D : Addr) : Bool :=
  decide (PySem.W.findIn K (.ref D) "__getattribute__" = some (some (.builtin "BaseException.__getattribute__"))) && decide (PySem.W.findIn K (.ref D) "__getattr__" = some none) &&
  decide (PySem.W.subIn K (.ref D) (.type "BaseException") = some true) && PySem.W.hasDictIn K D && decide (PySem.W.findIn K (.ref D) "__class__" = some (some (.builtin "object.__class__"))) &&
  decide (PySem.W.specialIn K (.builtin "object.__class__") "__get__" = some (some (.builtin "getset_descriptor.__get__"))) && decide (PySem.W.takesIn K (.builtin "object.__class__") = some true) &&
  decide (PySem.W.mroIn K D (.type "object") = some true)
theorem ExB.ok {K : PySem.W.Frag} {D : Addr} (h : ExB K D = true) : ExcC K D := by
  simp only [ExB, Bool.and_eq_true, decide_eq_true_eq] at h
  obtain ⟨⟨⟨⟨⟨⟨⟨h1, h2⟩, h3⟩, h4⟩, h5⟩, h6⟩, h7⟩, h8⟩ := h
  exact ⟨h1, h2, h3, h4, h5, h6, h7, h8⟩
/-- the classes tell one another apart, and stand below cH and ValueError -/
def kitAll (K : PySem.W.Frag) (cs : List Addr) (cH : Addr) : Bool :=
  ExB K cH && (List.range 18).all fun i => ExB K (cs.getD i 0) && decide (PySem.W.kitOne K (.ref (cs.getD i 0)) (.ref cH) = some true) && decide (PySem.W.kitOne K (.ref (cs.getD i 0)) (.type "ValueError") = some true) &&
    decide (PySem.W.kitOne K (.ref cH) (.ref (cs.getD i 0)) = some false) && (List.range 18).all fun j => decide (PySem.W.kitOne K (.ref (cs.getD i 0)) (.ref (cs.getD j 0)) = some (decide (i = j)))
structure Kit (K : PySem.W.Frag) (c : Nat → Addr) (cH : Addr) : Prop where
  exH : ExcC K cH
  ex : ∀ i, i < 18 → ExcC K (c i)
  up : ∀ i, i < 18 → PySem.W.kitOne K (.ref (c i)) (.ref cH) = some true
  ve : ∀ i, i < 18 → PySem.W.kitOne K (.ref (c i)) (.type "ValueError") = some true
  hh : ∀ i, i < 18 → PySem.W.kitOne K (.ref cH) (.ref (c i)) = some false
  ij : ∀ i j, i < 18 → j < 18 → PySem.W.kitOne K (.ref (c i)) (.ref (c j)) = some (decide (i = j))
section
variable {K : PySem.W.Frag} {σ : L2.St} {H : Hp} {ta tb te : TE}
/-- a value of which something is known that lasts -/
def EvX (te : TE) (σ : L2.St) (H : Hp) (P : V → Hp → Prop) : Prop := ∀ H1, Ex H H1 → ∀ Q : VK, (∀ v H2, Ex H1 H2 → P v H2 → Q v H2) → te σ H1 Q
def EvAX (ta : TA) (σ : L2.St) (H : Hp) (P : List V → Hp → Prop) : Prop := ∀ H1, Ex H H1 → ∀ Q : List V → Hp → Prop, (∀ vs H2, Ex H1 H2 → P vs H2 → Q vs H2) → ta σ H1 Q
def EvLX (te : TE) (σ : L2.St) (H : Hp) (P : List V → Hp → Prop) : Prop := ∀ H1, Ex H H1 → ∀ Q : VK, (∀ p vs H2, H1 p = none → Ex H1 H2 → H2 p = some (.lst vs) → P vs H2 → Q (.ref p) H2) → te σ H1 Q
/-- exceptions of these classes -/
def Exs (Ds : List Addr) (vs : List V) (H : Hp) : Prop := Paired (fun v D => ∃ a, v = V.ref a ∧ IsEx H a D) vs Ds
/-- what an exception's __init__(self, x) that keeps x as f promises -/
def spInit (K : PySem.W.Frag) (C : Addr) (f : Str) : Sp := fun vs H Q _ => ∃ (a : Addr) (v : V), vs = [.ref a, v] ∧ H a = some (exo a C none) ∧
  ∀ d, H d = none → Q .non (upd (upd H d (exd d [(f, v)])) a (exo a C (some d)))
theorem made {C : Addr} {f : Str} {v : V} {D : List V} (ha : Ev ta σ H v) : EvX (tMkV C (spInit K C f) [] (tCons ta tNil)) σ H (fun x H' => ∃ a d, x = V.ref a ∧ H' a = some (exo a C (some d)) ∧ H' d = some (exd d [(f, v)])) := fun H1 e Q q =>
  ha H1 e _ fun H2 e2 => ⟨by simp, fun a hn => ⟨a, v, rfl, upd_same, fun d hd => by
    have nda : d ≠ a := fun z => by rw [z, upd_same] at hd; cases hd
    have hd2 : H2 d = none := by rw [upd_ne nda] at hd; exact hd
    have E1 : Ex H2 (upd (upd (upd H2 a (exo a C none)) d (exd d [(f, v)])) a (exo a C (some d))) := fun b o hb => by
      rw [upd_ne (ne_of_none hb hn), upd_ne (ne_of_none hb hd2), upd_ne (ne_of_none hb hn)]
      exact hb
    refine ⟨rfl, by rw [upd_same]; simp, q _ _ (e2.trans E1) ⟨a, d, rfl, upd_same, ?_⟩⟩
    rw [upd_ne nda, upd_same]⟩⟩
variable {D : Ends}
end
end HbX
end
section
set_option Elab.async false
set_option linter.all false
set_option maxRecDepth 100000
set_option maxHeartbeats 1000000
namespace Dl
open PySem PySem.Spec PyProof.Rows L2 HbE Evl RZ Gx PySem.W 
section
variable {X : Cx} {Ps : TX}
def valI : V → Int
  | .int i => i
  | _ => 0
theorem map_valI (ns : List Int) : (ns.map V.int).map valI = ns := by
  induction ns with
  | nil => rfl
  | cons n ns ih => rw [List.map_cons, List.map_cons, ih]; rfl
def rSumS (K : PySem.W.Frag) : List V → Hp → VK → Prop := fun vs H Q => ∃ (a : Addr) (ns : List Int), vs = [V.ref a] ∧ (SqL K H a (ns.map V.int) ∨ SqT K H a (ns.map V.int)) ∧ Q (.int ns.sum) H
theorem cr_sumS (hc : X.calm = true) : CallR X (.builtin "sum") (rSumS X.K) := by
  intro pins s σ H vs us Q I r h
  obtain ⟨a, ns, rfl, hs, q⟩ := h
  rcases hs with hs | hs
  · exact cr_sum hc pins s σ H _ us Q I r ⟨a, ns, rfl, hs, q⟩
  · obtain ⟨its, rv, hl, _⟩ := I.tuple hs
    rw [Vals.ref1 r]
    refine call_sum_walkAnyS (iter_tupleW (A := X.A.in1) (I.ok.hd hc) (show s.heap.IsTuple a its.toArray from hl) fun s₂ e W st hfp hw hk => ?_)
    have at_ : ∀ (i : Nat) (v : Value), its.toArray[i]? = some v → ∃ n t, ns[i]? = some n ∧ v = .int n t := fun i v hv => by
      have hv' : its[i]? = some v := by simpa using hv
      have hi : i < (ns.map V.int).length := by rw [rv.length]; exact (List.getElem?_eq_some_iff.mp hv').1
      obtain ⟨u, hu, ru⟩ := rv.get (List.getElem?_eq_getElem hi)
      rw [hv'] at hu
      cases hu
      have hi' : i < ns.length := by simpa using hi
      rw [List.getElem_map] at ru
      obtain ⟨t, ht⟩ := ru
      exact ⟨ns[i], t, List.getElem?_eq_getElem hi', ht⟩
    refine ⟨_, _, _, _, _, _, _, fun i => ns.getD i 0, rfl, W, st, hfp, fun i v hv => ?_, fun s' t' m => ?_⟩
    · obtain ⟨n, t, h1, h2⟩ := at_ i v hv
      exact ⟨t, by rw [h2]; simp [List.getD_eq_getElem?_getD, h1]⟩
    · obtain ⟨h', tk, rfl, hk'⟩ := moved_old e rfl m
      have e1 : preSum (fun i => ns.getD i 0) its.toArray.size = ns.sum := by
        have z := preSum_list (h := valI) (ns.map V.int) (fun i => ns.getD i 0) (fun i x hx => by
          rw [List.getElem?_map] at hx
          cases e2 : ns[i]? with
          | none => rw [e2] at hx; cases hx
          | some n => rw [e2] at hx; cases hx; simp [List.getD_eq_getElem?_getD, e2, valI]) its.toArray.size (by rw [List.size_toArray, ← rv.length]; exact Nat.le_refl _)
        rw [z, List.take_of_length_le (by rw [List.size_toArray, ← rv.length]; exact Nat.le_refl _), map_valI]
      exact ⟨.int _, H, I.kept (t' := tk) hk', ⟨t', by rw [e1]⟩, q⟩
def fSumS : Bool → List PyData → (PyData → Prop) → Prop := fun _ ds Q => match intsD ds with
  | some ns => Q (.int ns.sum)
  | none => False
theorem opq_sumS {K : PySem.W.Frag} : OpQ K Ps (rSumS K) fSumS := by
  intro M hs H p xs b ds Qd Q wf h1 h2 h k
  unfold fSumS at h
  split at h
  · rename_i ns q
    rw [intsD_dp h2 q] at h1
    refine ⟨p, ns, rfl, ?_, k _ _ H h Step.refl (.int _)⟩
    cases b with
    | true => exact .inl h1
    | false => exact .inr h1
  · exact h.elim
end
/-! ### products of which one side is small, or both not too long -/
def CMulE (i j : Int) : Prop := CMul i j ∨ CMulX i j
theorem op_mulE {X : Cx} : OpR X (binaryOp .Mult) (rI CMulE fun i j => .int (i * j)) := opI fun _ _ _ _ _ _ _ hc q => mul_int q (hc.elim CMul.ok CMulX.ok)
theorem mulL {a b : Int} (h : a.natAbs < 2 ^ 64) : CMulE a b := .inl (.inl ⟨by omega, by omega⟩)
theorem mulR {a b : Int} (h : b.natAbs < 2 ^ 64) : CMulE a b := .inl (.inr ⟨by omega, by omega⟩)
theorem modL (x : Int) {m : Int} (h0 : 0 < m) (h : m ≤ 2 ^ 63) : (x % m).natAbs < 2 ^ 64 := by
  have := Int.emod_lt_of_pos x h0
  have := Int.emod_nonneg x (show m ≠ 0 by omega)
  omega
end Dl
end
section
set_option Elab.async false
set_option linter.all false
set_option maxRecDepth 100000
set_option maxHeartbeats 1000000
/-! Loops over data by an invariant; comprehensions by a function. -/
namespace Dl
open PySem PySem.Spec PyProof.Rows L2 HbE Evl RZ Gx
theorem forD_inv {g : DG} {tb : DS} {D : ED} {σ : Sd} {ds : List PyData} (I : Nat → Sd → Prop) (h0 : I 0 σ) (hs : ∀ (i : Nat) (d : PyData) (σ : Sd) (N : Sd → Prop), ds[i]? = some d → I i σ → (∀ σ', I (i + 1) σ' → N σ') → g d σ fun σ2 => tb { D with nx := N, ct := N, bk := D.nx } σ2)
    (hd : ∀ σ, I ds.length σ → D.nx σ) : forD g tb D ds σ := by
  have main : ∀ (es : List PyData) (k : Nat) (σ : Sd), ds.drop k = es → k ≤ ds.length → I k σ → forD g tb D es σ := by
    intro es
    induction es with
    | nil =>
      intro k σ e hk hI
      have : k = ds.length := by
        have := congrArg List.length e
        simp at this
        omega
      subst this
      exact hd σ hI
    | cons d es ih =>
      intro k σ e hk hI
      have hk2 : k < ds.length := by
        have := congrArg List.length e
        simp at this
        omega
      rw [List.drop_eq_getElem_cons hk2] at e
      cases e
      exact hs k _ σ _ (List.getElem?_eq_getElem hk2) hI fun σ' hI' => ih (k + 1) σ' rfl hk2 hI'
  exact main ds 0 σ rfl (Nat.zero_le _) h0
end Dl
end
section
set_option Elab.async false
set_option linter.all false
set_option maxRecDepth 100000
set_option maxHeartbeats 1000000
namespace Dl
open PySem PySem.Spec PyProof.Rows L2 HbE Evl RZ Gx PySem.W
theorem fmin_spec : ∀ (ns : List Int) (n : Int), (ns.foldl min n) ∈ n :: ns ∧ ∀ y ∈ n :: ns, ns.foldl min n ≤ y
  | [], n => by simp
  | k :: ns, n => by
    obtain ⟨h1, h2⟩ := fmin_spec ns (min n k)
    rw [List.foldl_cons]
    refine ⟨?_, fun y hy => ?_⟩
    · rcases List.mem_cons.mp h1 with e | e
      · rw [e]
        rcases Int.le_total n k with q | q
        · rw [Int.min_eq_left q]; exact List.mem_cons_self
        · rw [Int.min_eq_right q]; exact List.mem_cons_of_mem _ List.mem_cons_self
      · exact List.mem_cons_of_mem _ (List.mem_cons_of_mem _ e)
    · have h0 := h2 (min n k) List.mem_cons_self
      rcases List.mem_cons.mp hy with rfl | hy
      · exact Int.le_trans h0 (Int.min_le_left _ _)
      · rcases List.mem_cons.mp hy with rfl | hy
        · exact Int.le_trans h0 (Int.min_le_right _ _)
        · exact h2 y (List.mem_cons_of_mem _ hy)
def rMinS (K : PySem.W.Frag) : List V → Hp → VK → Prop := fun vs H Q => ∃ (a : Addr) (n : Int) (ns : List Int), vs = [V.ref a] ∧ (SqL K H a ((n :: ns).map V.int) ∨ SqT K H a ((n :: ns).map V.int)) ∧ Q (.int (ns.foldl min n)) H
section
variable {X : Cx} {Ps : TX}
theorem reads_ints {h : Heap} : ∀ {ns : List Int} {us : List Value}, Vals (ns.map V.int) us → ∃ as, ReadsAll h us (ns.map PyData.int) as
  | [], _, r => by cases r; exact ⟨_, .nil⟩
  | n :: ns, _, r => by
    cases r with
    | cons r1 r2 =>
      obtain ⟨t, rfl⟩ := r1
      obtain ⟨as, q⟩ := reads_ints r2
      exact ⟨_, .cons (.int n t) q⟩
theorem cr_minS (hc : X.calm = true) (hu : X.A.units + 64 < cLine) : CallR X (.builtin "min") (rMinS X.K) := by
  intro pins s σ H vs us Q I r h
  obtain ⟨a, n, ns, rfl, hs, q⟩ := h
  obtain ⟨m1, m2⟩ := fmin_spec ns n
  rcases hs with hs | hs
  · refine cr_min hc pins s σ H _ us Q I r ⟨a, n :: ns, rfl, hs, by simp, fun m h1 h2 => ?_⟩
    have e : m = ns.foldl min n := Int.le_antisymm (h2 _ m1) (m2 _ h1)
    rw [e]; exact q
  · obtain ⟨its, rv, hl, _⟩ := I.tuple hs
    rw [Vals.ref1 r]
    obtain ⟨as, hr⟩ := reads_ints (h := s.heap) (ns := n :: ns) rv
    have dz : PyData.depthAll ((n :: ns).map PyData.int) = 0 := by
      have : ∀ l : List Int, PyData.depthAll (l.map PyData.int) = 0 := fun l => by
        induction l with
        | nil => simp [PyData.depthAll]
        | cons k l ih => simp [PyData.depthAll, PyData.depth, ih]
      exact this _
    refine min_tuple_data (x := .int n) (xs := ns.map PyData.int) (I.ok.hd hc) (show s.heap.IsTuple a its.toArray from hl) (by simpa using hr) ⟨fun x hx y hy => ?_, fun x hx => ?_⟩ (by rw [List.map_cons] at dz; rw [dz]; omega) fun i v h' tk bs _ rr hk => ?_
    · rw [← List.map_cons] at hx hy
      obtain ⟨i, _, rfl⟩ := List.mem_map.mp hx
      obtain ⟨j, _, rfl⟩ := List.mem_map.mp hy
      rfl
    · rw [← List.map_cons] at hx
      obtain ⟨i, _, rfl⟩ := List.mem_map.mp hx
      exact fun z => by cases z
    · rw [minD_ints] at rr
      cases rr with
      | int j t => exact ⟨.int _, H, I.kept (t' := tk) hk, ⟨t, rfl⟩, q⟩
def fMinS : Bool → List PyData → (PyData → Prop) → Prop := fun _ ds Q => match intsD ds with
  | some (n :: ns) => Q (.int (ns.foldl min n))
  | _ => False
theorem opq_minS {K : PySem.W.Frag} : OpQ K Ps (rMinS K) fMinS := by
  intro M hs H p xs b ds Qd Q wf h1 h2 h k
  unfold fMinS at h
  split at h
  · rename_i n ns q
    rw [intsD_dp h2 q] at h1
    refine ⟨p, n, ns, rfl, ?_, k _ _ H h Step.refl (.int _)⟩
    cases b with
    | true => exact .inl h1
    | false => exact .inr h1
  · exact h.elim
def rMaxS (K : PySem.W.Frag) : List V → Hp → VK → Prop := fun vs H Q => ∃ (a : Addr) (n : Int) (ns : List Int), vs = [V.ref a] ∧ (SqL K H a ((n :: ns).map V.int) ∨ SqT K H a ((n :: ns).map V.int)) ∧ Q (.int (ns.foldl max n)) H
def fMaxS : Bool → List PyData → (PyData → Prop) → Prop := fun _ ds Q => match intsD ds with
  | some (n :: ns) => Q (.int (ns.foldl max n))
  | _ => False
end
end Dl
end
section
set_option Elab.async false
set_option linter.all false
set_option maxRecDepth 100000
set_option maxHeartbeats 1000000
namespace Dl
open PySem PySem.Spec PyProof.Rows L2 HbE Evl HT
/-! ### t[::-1] -/
section
variable {prog : Program} {w : World} {A : Around} {E : Value → Shared → Prop} {s : Shared}
end
section
variable {X : Cx} {Ps : TX} {e a b c0 : PySem.Expr} {es : List PySem.Expr} {pos p p2 : Pos} {de : DE} {dl : DL}
/-- t[::-1], a list or a tuple -/
def tBack (K : PySem.W.Frag) (te : TE) : TE := fun σ H Q => te σ H fun x H1 => ∃ a xs, x = .ref a ∧ ((SqL K H1 a xs ∧ ∀ p, H1 p = none → Q (.ref p) (upd H1 p (.lst xs.reverse))) ∨ (SqT K H1 a xs ∧ ∀ p, H1 p = none → Q (.ref p) (upd H1 p (.tup xs.reverse))))
def dBack (dq : DQ) : DE := fun σ Q => dq σ fun b ds => Q (if b then .list ds.reverse else .tuple ds.reverse)
/-! ### list(..) of a list or a tuple -/
def dListOf (dq : DQ) : DL := fun σ Q => dq σ fun _ ds => Q ds
/-! ### bool(..) -/
def fBool : List PyData → (PyData → Prop) → Prop := fun ds Q => match ds with
  | [.int i] => Q (.bool (i != 0))
  | [.bool b] => Q (.bool b)
  | _ => False
/-! ### list + list -/
def rCatL (K : PySem.W.Frag) : R2 := fun x y H Q => ∃ l b xs zs, x = .ref l ∧ y = .ref b ∧ SqL K H l xs ∧ SqL K H b zs ∧ xs.length + zs.length ≤ sizeLine ∧ ∀ p, H p = none → Q (.ref p) (upd H p (.lst (xs ++ zs)))
theorem op_catL : OpR X (binaryOp .Add) (rCatL X.K) := by
  intro pins s σ H x y v u Q I rx ry h
  obtain ⟨l, b, xs, zs, rfl, rfl, hH, hB, hz, q⟩ := h
  cases rx
  cases ry
  obtain ⟨its, r, hl, z⟩ := I.list hH
  obtain ⟨its2, r2, hl2, z2⟩ := I.list hB
  have n1 := r.length
  have n2 := r2.length
  obtain ⟨⟨cls, dd, data, sl⟩, ho, hc, n, hd⟩ := id hl.isList
  obtain ⟨⟨cls2, dd2, data2, sl2⟩, ho2, hc2, m2, hd2⟩ := id hl2.isList
  simp only at hc hd hc2 hd2
  subst hc hd hc2 hd2
  have e : its.toArray ++ its2.toArray = (its ++ its2).toArray := by simp
  refine concat_meets ⟨_, ho, rfl⟩ ⟨_, ho2, rfl⟩ noFill_list_add seq_list_add PySem.F.slot_list_add PySem.F.entry_list_add (PySem.F.args_list_add_2 _ _) (list_addW l b its.toArray its2.toArray n m2 dd dd2 sl sl2 (by simp only [List.size_toArray]; omega)) ⟨ho, ho2, ?_⟩
  rw [e]
  exact ⟨.ref _, _, I.lnew (t' := s.toks) (r.append r2) (by rw [List.length_append]; omega), rfl, q _ I.fresh⟩
def dCatL (da db : DQ) : DL := fun σ Q => da σ fun k ds => db σ fun l es => k = true ∧ l = true ∧ ds.length + es.length ≤ 100000 ∧ Q (ds ++ es)
theorem pn_cat {da db : DQ} (ha : PE X a (liftQ X.K Ps da)) (hb : PE X b (liftQ X.K Ps db)) : PE X (.BinOp a .Add b pos) (liftN X.K Ps (dCatL da db)) := pe_weak (pe_op op_catL ha hb) fun σ H Q ⟨c, hs, as, σd, Qd, S, hd, k⟩ =>
  ⟨c, hs, as, σd, _, S, hd, fun k1 ds v H1 h1 s1 r1 => ⟨c, hs, as, σd, _, S.step s1, h1, fun k2 es w H2 h2 s2 r2 => by
    obtain ⟨rfl, rfl, hz, h2⟩ := h2
    obtain ⟨p, xs, rfl, h3, h4⟩ := (r1.step (S.step s1).fr s2).ex
    obtain ⟨q, ys, rfl, h5, h6⟩ := r2.ex
    refine ⟨p, q, xs, ys, rfl, rfl, h3, h5, sz_of (by rw [h4.len, h6.len]; exact hz), fun l hl => ?_⟩
    have s12 := s1.trans s2
    exact k _ l _ _ h2 (s12.trans (Step.of_ex (Ex.new hl))) (none_of S.fr s12 hl) upd_same (own_new hl (h4.app h6))⟩⟩
/-! ### x in xs -/
def flatD : PyData → Bool
  | .none => true
  | .bool _ => true
  | .int _ => true
  | .str _ => true
  | _ => false
theorem flat_eq {K : PySem.W.Frag} {H : Hp} {v w : V} {x y : PyData} (hx : Dp K H v x) (hy : Dp K H w y) (fx : flatD x = true) (fy : flatD y = true) : flatV v = true ∧ eqV v w = PyData.eqv x y := by
  cases hx <;> cases hy <;> first | (cases fx; done) | (cases fy; done) | exact ⟨rfl, rfl⟩ | exact ⟨rfl, by simp [eqV, PyData.eqv]⟩
theorem flat_of {K : PySem.W.Frag} {H : Hp} {v : V} {x : PyData} (hx : Dp K H v x) (fx : flatD x = true) : flatV v = true := by
  cases hx <;> first | (cases fx; done) | rfl
theorem flat_all {K : PySem.W.Frag} {H : Hp} {v : V} {x : PyData} (hx : Dp K H v x) (fx : flatD x = true) : ∀ {vs : List V} {ds : List PyData}, DpAll K H vs ds → ds.all flatD = true → vs.all flatV = true ∧ inV v vs = ds.any fun z => PyData.eqv z x
  | _, _, .nil, _ => ⟨rfl, rfl⟩
  | _, _, .cons h1 h2, f => by
    rw [List.all_cons, Bool.and_eq_true] at f
    obtain ⟨i1, i2⟩ := flat_all hx fx h2 f.2
    obtain ⟨j1, j2⟩ := flat_eq h1 hx f.1 fx
    refine ⟨by rw [List.all_cons, j1, i1]; rfl, ?_⟩
    unfold inV at i2 ⊢
    rw [List.any_cons, List.any_cons, j2, i2]
def rInA (K : PySem.W.Frag) (neg : Bool) : R2 := fun x y H Q => rIn K neg x y H Q ∨ (if neg then rNotInD K x y H Q else rInD K x y H Q)
theorem op_notInA (hu : X.A.units + 65 < cLine) : OpR X (compareOp .NotIn) (rInA X.K true) := by
  intro pins s σ H x y v u Q I rx ry h
  rcases h with h | h
  · exact op_notIn_seq pins s σ H x y v u Q I rx ry h
  · exact op_notInD hu pins s σ H x y v u Q I rx ry h
def inD (neg : Bool) (x : PyData) (ds : List PyData) : Bool := if neg then !(ds.any fun z => PyData.eqv z x) else ds.any fun z => PyData.eqv z x
def dIn (neg : Bool) (de : DE) (dq : DQ) : DE := fun σ Q => de σ fun x => dq σ fun b ds => ((flatD x = true ∧ ds.all flatD = true) ∨ (b = true ∧ SeqAt.shaped x = true ∧ SeqAt.shaped (.list ds) = true)) ∧ Q (.bool (inD neg x ds))
theorem lift_in {neg : Bool} {dq : DQ} {σ : L2.St} {H : Hp} {Q : VK} (h : lift X.K Ps (dIn neg de dq) σ H Q) : tOp (rInA X.K neg) (lift X.K Ps de) (liftQ X.K Ps dq) σ H Q := by
  obtain ⟨c, hs, as, σd, Qd, S, hd, k⟩ := h
  refine ⟨c, hs, as, σd, _, S, hd, fun x v H1 h1 s1 r1 => ⟨c, hs, as, σd, _, S.step s1, h1, fun b ds w H2 h2 s2 r2 => ?_⟩⟩
  obtain ⟨hc, h2⟩ := h2
  obtain ⟨p, xs, rfl, h3, h4⟩ := r2.ex2
  have rx := dp_mono ((S.step s1).fr.wf.ex s2) r1
  have fin := k _ (.bl (inD neg x ds)) H2 h2 (s1.trans s2) (.bl _)
  rcases hc with ⟨f1, f2⟩ | ⟨rfl, g1, g2⟩
  · obtain ⟨i1, i2⟩ := flat_all rx f1 h4 f2
    refine .inl ⟨p, xs, rfl, h3, flat_of rx f1, i1, ?_⟩
    rw [i2]
    exact fin
  · obtain ⟨p', xs', e, h5, h6⟩ := r2.ex
    cases e
    simp only [if_true] at h5
    have hy : Dp X.K H2 (.ref p) (.list ds) := .lst h5 (dpAll_mono msk_ex h6)
    cases neg with
    | true => exact .inr ⟨x, ds, (dp_mono msk_ex rx).old (noDict_shaped g1), hy.old (noDict_shaped g2), g1, g2, fin⟩
    | false => exact .inr ⟨x, ds, (dp_mono msk_ex rx).old (noDict_shaped g1), hy.old (noDict_shaped g2), g1, g2, fin⟩
theorem ptd_notIn {dq : DQ} (hu : X.A.units + 65 < cLine) (ha : PE X a (lift X.K Ps de)) (hb : PE X b (liftQ X.K Ps dq)) (hm : behindInMarks .NotIn b = false) : PT X (.Compare a [.NotIn] [b] pos) (liftT X.K Ps (dTest (dIn true de dq))) := pt_weak (pt_cmpR (op_notInA hu) ha hb hm) fun σ H Q h => by
  have h2 := lift_test h
  unfold tTest at h2 ⊢
  exact lift_in h2

/-! ### x, y, z = a, b, c; the last one may be a new list -/
def dPar3 (i j l : Nat) (da : DA) : DS := fun D σ => da σ fun ws => match ws with
  | [.dat d, .dat d', .dat d''] => D.nx (((σ.set i (some (.dat d))).set j (some (.dat d'))).set l (some (.dat d'')))
  | _ => False
def dPar3N (i j l : Nat) (da db : DE) (dl : DL) : DS := fun D σ => da σ fun x => db σ fun y => dl σ fun ds => D.nx (((σ.set i (some (.dat x))).set j (some (.dat y))).set l (some (.own ds)))
def dParN (i j : Nat) (da : DE) (dl : DL) : DS := fun D σ => da σ fun x => dl σ fun ds => D.nx ((σ.set i (some (.dat x))).set j (some (.own ds)))
theorem room65 {k : Nat} {A : Around} (r : Room k A) : A.units + 65 < cLine := by have := r.un; omega
end
end Dl
end
section
set_option Elab.async false
set_option linter.all false
set_option maxRecDepth 100000
set_option maxHeartbeats 4000000
/-! tuple * int, also tuple * 1 -/
namespace Dl
open PySem PySem.Spec PyProof.Rows L2 HbE Evl
theorem tuple_mul1 (l : Addr) (items : Array Value) (n : Nat) (dd : Option Addr) (sl : Array (Option Value)) (u : Tok) :
    Meets (Builtin.«tuple.__mul__» ⟨[.ref l, .int 1 u], []⟩) (fun _ R s => s.heap.get? l = some { cls := .type "tuple", dict := dd, data := .seq items n, slots := sl } ∧ R (.ok (.ret (Value.ref l))) s) :=
  .of_wp fun prog w A R s h => by
    obtain ⟨hp, g, d, tk, os⟩ := s
    obtain ⟨hl, h⟩ := h
    have f1 := AutoSeq1.idx_int
    have c0 : (decide ((1 : Int) < -(2 ^ 63)) || decide ((1 : Int) ≥ 2 ^ 63)) = false := by decide
    have c1 : (items.isEmpty || (1 : Int) == 1) = true := by simp
    wp_walk using wpAny_loadPart' hl
    repeat (first
      | (refine wpAny_ite_false (decide_eq_false (by rw [c0]; exact Bool.false_ne_true)) ?_; wp_walk using wpAny_loadPart' hl)
      | (refine wpAny_ite_true (decide_eq_true c1) ?_; wp_walk using wpAny_loadPart' hl))
    exact ⟨_, rfl, h⟩

def rRepA (K : PySem.W.Frag) : R2 := fun x y H Q => rRepT K x y H Q ∨ ∃ l xs, x = .ref l ∧ y = .int 1 ∧ SqT K H l xs ∧ Q (.ref l) H
section
variable {X : Cx}
theorem op_repA : OpR X (binaryOp .Mult) (rRepA X.K) := by
  intro pins s σ H x y v u Q I rx ry h
  rcases h with h | ⟨l, xs, rfl, rfl, hT, q⟩
  · exact op_repT pins s σ H x y v u Q I rx ry h
  cases rx
  obtain ⟨t, rfl⟩ := ry
  obtain ⟨its, r, ⟨⟨cls, dd, data, sl⟩, ho, hc, n, hd⟩, hs⟩ := I.tuple hT
  simp only at hc hd
  subst hc hd
  refine wpAny_binaryOp_repeat_ref (T := "tuple") (U := "int") (by decide) ⟨_, ho, rfl⟩ (fun s' => typeIs_int s' 1 t) noFill_tuple_mul F.fills_int_mul F.slot_int_rmul repeat_tuple F.slot_int_index.lookup
    (call_meets F.slot_int_rmul (typeIs_int s 1 t) F.entry_int_rmul (F.args_int_rmul_2 _ _) (int_rmul_tuple 1 t l its.toArray n dd sl)
      ⟨ho, rfl, ⟨_, ho, rfl⟩, call_meets F.slot_tuple_mul ⟨_, ho, rfl⟩ F.entry_tuple_mul (F.args_tuple_mul_2 _ _) (tuple_mul1 l its.toArray n dd sl t) ⟨ho, ?_⟩⟩)
  exact ⟨.ref l, _, I, rfl, q⟩
end
section
variable {K : PySem.W.Frag} {Ps : TX}
def fRepA : PyData → PyData → (PyData → Prop) → Prop := fun x y Q => match x, y with
  | .tuple ds, .int k => ds ≠ [] ∧ 1 ≤ k ∧ k ≤ 1000 ∧ ds.length ≤ 1000 ∧ Q (.tuple (List.replicate k.toNat ds).flatten)
  | _, _ => False
theorem op2_repA : Op2 K Ps (rRepA K) fRepA := by
  intro M hs H v w x y Qd Q wf hx hy h k
  unfold fRepA at h
  split at h
  · rename_i ds i
    obtain ⟨h1, h2, h3, h4, hq⟩ := h
    by_cases e : i = 1
    · subst e
      cases hy
      have e1 : (List.replicate (1 : Int).toNat ds).flatten = ds := by simp
      rw [e1] at hq
      have hx0 := hx
      cases hx with
      | tup x1 x2 => exact .inr ⟨_, _, rfl, rfl, ex_t msk_ex x1, k _ _ _ hq Step.refl hx0⟩
    · exact .inl (op2_repT M hs H v w _ _ Qd Q wf hx hy ⟨h1, by omega, h3, h4, hq⟩ k)
  · exact h.elim
end
end Dl
end
section
set_option Elab.async false
set_option linter.all false
set_option maxRecDepth 100000
set_option maxHeartbeats 1000000
/-! Defs over data as functions: a result, an exception, or nothing known. -/
namespace Dl
open PySem PySem.Spec PyProof.Rows L2 HbE Evl RZ Gx
inductive Rs (α : Type) where
  | ok (a : α)
  | ex (x : Xn)
  | no
namespace Rs
def bind {α β : Type} (r : Rs α) (f : α → Rs β) : Rs β := match r with
  | .ok a => f a
  | .ex x => .ex x
  | .no => .no
def ofO {α : Type} : Option α → Rs α
  | some a => .ok a
  | none => .no
end Rs
@[simp] theorem bind_ok {α β : Type} (a : α) (f : α → Rs β) : Rs.bind (.ok a) f = f a := rfl
@[simp] theorem bind_ex {α β : Type} (x : Xn) (f : α → Rs β) : Rs.bind (.ex x) f = .ex x := rfl
@[simp] theorem bind_no {α β : Type} (f : α → Rs β) : Rs.bind .no f = .no := rfl
@[simp] theorem ofO_some {α : Type} (a : α) : Rs.ofO (some a) = .ok a := rfl
@[simp] theorem ofO_none {α : Type} : Rs.ofO (none : Option α) = .no := rfl
/-- what holds of a result, E of an exception -/
def Rs.Sat {α : Type} (E : Xn → Prop) (r : Rs α) (Q : α → Prop) : Prop := match r with
  | .ok a => Q a
  | .ex x => E x
  | .no => False
section
variable {α β : Type} {E : Xn → Prop}
theorem Sat.bind {r : Rs α} {f : α → Rs β} {Q : β → Prop} (h : (r.bind f).Sat E Q) : r.Sat E fun a => (f a).Sat E Q := by
  cases r <;> exact h
theorem Sat.mono {r : Rs α} {Q Q' : α → Prop} (h : r.Sat E Q) (k : ∀ a, Q a → Q' a) : r.Sat E Q' := by
  cases r with
  | ok a => exact k a h
  | ex x => exact h
  | no => exact h
theorem Sat.ofO {o : Option α} {Q : α → Prop} (h : (Rs.ofO o).Sat E Q) : ∃ a, o = some a ∧ Q a := by
  cases o with
  | some a => exact ⟨a, rfl, h⟩
  | none => exact h.elim
end
abbrev FE := Sd → Rs PyData
abbrev FT := Sd → Rs Bool
abbrev FA := Sd → Rs (List PyData)
abbrev FQ := Sd → Rs (Bool × List PyData)
abbrev FO := Sd → Rs (Option Int)
abbrev FG := PyData → Sd → Rs Sd
abbrev FGs := List PyData → Sd → Rs Sd
inductive Fw where
  | nx (σ : Sd)
  | rt (d : PyData)
  | bk (σ : Sd)
  | ct (σ : Sd)
abbrev FS := Sd → Rs Fw
abbrev FF := List PyData → Rs PyData
def ofE (E : Xn → Prop) (f : FE) : DE := fun σ Q => (f σ).Sat E Q
def ofT (E : Xn → Prop) (f : FT) : DT := fun σ Q => (f σ).Sat E Q
def ofA (E : Xn → Prop) (f : FA) : DA := fun σ Q => (f σ).Sat E fun ds => Q (ds.map WD.dat)
def ofQ (E : Xn → Prop) (f : FQ) : DQ := fun σ Q => (f σ).Sat E fun p => Q p.1 p.2
def ofL (E : Xn → Prop) (f : FA) : DL := fun σ Q => (f σ).Sat E Q
def ofI (E : Xn → Prop) (f : FA) : DI := fun σ Q => (f σ).Sat E Q
def ofO (E : Xn → Prop) (f : FO) : DO := fun σ Q => (f σ).Sat E Q
def ofG (E : Xn → Prop) (f : FG) : DG := fun d σ Q => (f d σ).Sat E Q
def ofGs (E : Xn → Prop) (f : FGs) : DGs := fun d σ Q => (f d σ).Sat E Q
def ED.go (D : ED) : Fw → Prop
  | .nx σ => D.nx σ
  | .rt d => D.rt d
  | .bk σ => D.bk σ
  | .ct σ => D.ct σ
def ofS (E : Xn → Prop) (f : FS) : DS := fun D σ => (f σ).Sat E D.go
def ofF (E : Xn → Prop) (f : FF) : DSp := fun ws Q => ∃ ds, ws = ds.map WD.dat ∧ (f ds).Sat E Q
def LeE (a b : DE) : Prop := ∀ σ Q, a σ Q → b σ Q
def LeT (a b : DT) : Prop := ∀ σ Q, a σ Q → b σ Q
def LeA (a b : DA) : Prop := ∀ σ Q, a σ Q → b σ Q
def LeQ (a b : DQ) : Prop := ∀ σ Q, a σ Q → b σ Q
def LeL (a b : DL) : Prop := ∀ σ Q, a σ Q → b σ Q
def LeI (a b : DI) : Prop := ∀ σ Q, a σ Q → b σ Q
def LeO (a b : DO) : Prop := ∀ σ Q, a σ Q → b σ Q
def LeG (a b : DG) : Prop := ∀ d σ Q, a d σ Q → b d σ Q
def LeGs (a b : DGs) : Prop := ∀ d σ Q, a d σ Q → b d σ Q
def LeS (a b : DS) : Prop := ∀ D σ, a D σ → b D σ
section
variable {E : Xn → Prop} {fa fb fc : FE} {da db dc : DE} {ft fu : FT} {dt du : DT} {aa : FA} {la ll : FA} {ad : DA} {fq : FQ} {dq : DQ} {dl : DL} {di : DI} {fo fo' : FO} {dO dO' : DO} {fg : FG} {dg : DG} {s u : FS} {ds du' : DS}
/-! ### expressions -/
@[simp] def fVar (i : Nat) : FE := fun σ => match σ[i]? with
  | some (some (.dat d)) => .ok d
  | _ => .no
theorem le_var {i : Nat} : LeE (ofE E (fVar i)) (dVar i) := fun σ Q h => by
  unfold ofE fVar at h
  unfold dVar
  split at h
  · rename_i q; (try rw [q]); exact h
  · exact h.elim
@[simp] def fC (d : PyData) : FE := fun _ => .ok d
theorem le_c {d : PyData} : LeE (ofE E (fC d)) (dC d) := fun σ Q h => h
@[simp] def fOp (g : PyData → PyData → Option PyData) (fa fb : FE) : FE := fun σ => (fa σ).bind fun x => (fb σ).bind fun y => Rs.ofO (g x y)
def LeOp (g : PyData → PyData → Option PyData) (F : PyData → PyData → (PyData → Prop) → Prop) : Prop := ∀ x y d (Q : PyData → Prop), g x y = some d → Q d → F x y Q
theorem le_op {g : PyData → PyData → Option PyData} {F : PyData → PyData → (PyData → Prop) → Prop} (hg : LeOp g F) (ha : LeE (ofE E fa) da) (hb : LeE (ofE E fb) db) : LeE (ofE E (fOp g fa fb)) (dOp F da db) := fun σ Q h =>
  ha σ _ (Sat.mono (Sat.bind h) fun x h => hb σ _ (Sat.mono (Sat.bind h) fun y h => by
    obtain ⟨d, e, q⟩ := Sat.ofO h
    exact hg x y d Q e q))
def gI0 (k : Int → Int → PyData) : PyData → PyData → Option PyData := fun x y => match x, y with
  | .int i, .int j => some (k i j)
  | _, _ => none
@[simp] theorem gI0_int (k : Int → Int → PyData) (i j : Int) : gI0 k (.int i) (.int j) = some (k i j) := rfl
def gI (c : Int → Int → Bool) (k : Int → Int → PyData) : PyData → PyData → Option PyData := fun x y => match x, y with
  | .int i, .int j => if c i j = true then some (k i j) else none
  | _, _ => none
@[simp] theorem gI_int (c : Int → Int → Bool) (k : Int → Int → PyData) (i j : Int) : gI c k (.int i) (.int j) = if c i j = true then some (k i j) else none := rfl
theorem leop_I0 {k : Int → Int → PyData} : LeOp (gI0 k) (fI0 k) := fun x y d Q e q => by
  unfold gI0 at e
  split at e
  · cases e; exact q
  · cases e
theorem leop_I {C : Int → Int → Prop} {c : Int → Int → Bool} {k : Int → Int → PyData} (hc : ∀ i j, c i j = true → C i j) : LeOp (gI c k) (fI C k) := fun x y d Q e q => by
  unfold gI at e
  split at e
  · split at e
    · rename_i h; cases e; exact ⟨hc _ _ h, q⟩
    · cases e
  · cases e
def cPos : Int → Int → Bool := fun _ j => decide (0 < j)
def cNn : Int → Int → Bool := fun _ j => decide (0 ≤ j)
/-! Bounds are told by Nat.ble, the letters first: so the kernel never counts down a bound. -/
def cMul : Int → Int → Bool := fun i j => Nat.ble (i.natAbs.log2 + j.natAbs.log2) 99999999
def cDiv : Int → Int → Bool := fun _ j => decide (0 < j) && Nat.ble j.natAbs.log2 8999
def cShl : Int → Int → Bool := fun i j => decide (0 ≤ j) && Nat.ble (i.natAbs.log2 + j.toNat) 99999999
def cPow : Int → Int → Bool := fun i j => decide (0 ≤ j) && Nat.ble ((i.natAbs.log2 + 1) * j.toNat) 100000000
theorem bits_le (x : Int) : Builtin.Int.intBits x ≤ x.natAbs.log2 + 1 := by
  unfold Builtin.Int.intBits
  split <;> omega
theorem cMul_ok (i j : Int) (h : cMul i j = true) : CMulE i j := by
  have h : i.natAbs.log2 + j.natAbs.log2 ≤ 99999999 := Nat.le_of_ble_eq_true h
  have h1 := bits_le i
  have h2 := bits_le j
  refine .inr ?_
  unfold CMulX
  omega
theorem cDiv_ok (i j : Int) (h : cDiv i j = true) : CDivW i j := by
  unfold cDiv at h
  rw [Bool.and_eq_true] at h
  have h2 := Nat.le_of_ble_eq_true h.2
  exact ⟨of_decide_eq_true h.1, by omega⟩
theorem cShl_ok (i j : Int) (h : cShl i j = true) : CShl i j := by
  unfold cShl at h
  rw [Bool.and_eq_true] at h
  have h2 := Nat.le_of_ble_eq_true h.2
  have h1 := bits_le i
  have h0 : 0 ≤ j := of_decide_eq_true h.1
  refine ⟨h0, ?_⟩
  have : (2 : Int) ^ 27 = 134217728 := by decide
  omega
theorem cPow_ok (i j : Int) (h : cPow i j = true) : CPowB i j := by
  unfold cPow at h
  rw [Bool.and_eq_true] at h
  have h3 := Nat.le_of_ble_eq_true h.2
  have h1 := bits_le i
  have h0 : 0 ≤ j := of_decide_eq_true h.1
  refine ⟨h0, ?_⟩
  have e : (2 : Int) ^ 27 = 134217728 := by decide
  have e2 : ((j.toNat : Nat) : Int) = j := Int.toNat_of_nonneg h0
  have h4 : Builtin.Int.intBits i * j.toNat ≤ (i.natAbs.log2 + 1) * j.toNat := Nat.mul_le_mul_right _ h1
  have h5 : ((Builtin.Int.intBits i * j.toNat : Nat) : Int) = (Builtin.Int.intBits i : Int) * j := by rw [Int.natCast_mul, e2]
  omega
theorem cPos_ok (i j : Int) (h : cPos i j = true) : 0 < j := of_decide_eq_true h
theorem cNn_ok (i j : Int) (h : cNn i j = true) : 0 ≤ j := of_decide_eq_true h
def gEq (neg : Bool) : PyData → PyData → Option PyData := fun x y => if (SeqAt.shaped x && SeqAt.shaped y) = true then some (.bool (if neg then !PyData.eqv x y else PyData.eqv x y)) else none
theorem leop_eq {neg : Bool} : LeOp (gEq neg) (fEq neg) := fun x y d Q e q => by
  unfold gEq at e
  split at e
  · rename_i h
    cases e
    rw [Bool.and_eq_true] at h
    exact ⟨h.1, h.2, q⟩
  · cases e
def gCatT : PyData → PyData → Option PyData := fun x y => match x, y with
  | .tuple xs, .tuple ys => if Nat.ble (xs.length + ys.length) 100000 = true then some (.tuple (xs ++ ys)) else none
  | _, _ => none
@[simp] theorem gCatT_t (xs ys : List PyData) : gCatT (.tuple xs) (.tuple ys) = if Nat.ble (xs.length + ys.length) 100000 = true then some (.tuple (xs ++ ys)) else none := rfl
def gRepT : PyData → PyData → Option PyData := fun x y => match x, y with
  | .tuple ds, .int k => if (!ds.isEmpty && decide (2 ≤ k) && Nat.ble k.toNat 1000 && Nat.ble ds.length 1000) = true then some (.tuple (List.replicate k.toNat ds).flatten) else none
  | _, _ => none
@[simp] theorem gRepT_t (ds : List PyData) (k : Int) : gRepT (.tuple ds) (.int k) = if (!ds.isEmpty && decide (2 ≤ k) && Nat.ble k.toNat 1000 && Nat.ble ds.length 1000) = true then some (.tuple (List.replicate k.toNat ds).flatten) else none := rfl
/-- tests -/
def asB : PyData → Rs Bool
  | .bool b => .ok b
  | _ => .no
@[simp] theorem asB_bool (b : Bool) : asB (.bool b) = .ok b := rfl
@[simp] theorem asB_int (b : Int) : asB (.int b) = .no := rfl
@[simp] theorem asB_none : asB .none = .no := rfl
theorem Sat.asB {d : PyData} {Q : Bool → Prop} (h : (asB d).Sat E Q) : ∃ b, d = .bool b ∧ Q b := by
  unfold Dl.asB at h
  split at h
  · exact ⟨_, rfl, h⟩
  · exact h.elim
@[simp] def fTest (fa : FE) : FT := fun σ => (fa σ).bind asB
theorem le_test (ha : LeE (ofE E fa) da) : LeT (ofT E (fTest fa)) (dTest da) := fun σ Q h => ha σ _ (Sat.mono (Sat.bind h) fun d k => by
  obtain ⟨b, rfl, q⟩ := Sat.asB k
  exact q)
@[simp] def fNot (ft : FT) : FT := fun σ => (ft σ).bind fun b => .ok (!b)
theorem le_notT (h : LeT (ofT E ft) dt) : LeT (ofT E (fNot ft)) (dNot dt) := fun σ Q k => h σ _ (Sat.mono (Sat.bind k) fun b k => k)
@[simp] def fAnd (ft fu : FT) : FT := fun σ => (ft σ).bind fun b => if b = true then fu σ else .ok false
@[simp] def fOr (ft fu : FT) : FT := fun σ => (ft σ).bind fun b => if b = true then .ok true else fu σ
theorem le_orT (h : LeT (ofT E ft) dt) (h' : LeT (ofT E fu) du) : LeT (ofT E (fOr ft fu)) (dOr dt du) := fun σ Q k => h σ _ (Sat.mono (Sat.bind k) fun b k => by
  cases b with
  | true => exact k
  | false => exact h' σ Q k)
@[simp] def fYes : FT := fun _ => .ok true
theorem le_yes : LeT (ofT E fYes) dYes := fun σ Q k => k
@[simp] def fAndV (fa fb : FE) : FE := fun σ => (fa σ).bind fun x => (asB x).bind fun b => if b = true then fb σ else .ok (.bool false)
@[simp] def fOrV (fa fb : FE) : FE := fun σ => (fa σ).bind fun x => (asB x).bind fun b => if b = true then .ok (.bool true) else fb σ
theorem le_andV (ha : LeE (ofE E fa) da) (hb : LeE (ofE E fb) db) : LeE (ofE E (fAndV fa fb)) (dAndV da db) := fun σ Q h => ha σ _ (Sat.mono (Sat.bind h) fun x k => by
  obtain ⟨b, rfl, q⟩ := Sat.asB (Sat.bind k)
  cases b with
  | true => exact hb σ Q q
  | false => exact q)
@[simp] def fNotV (fa : FE) : FE := fun σ => (fa σ).bind fun x => (asB x).bind fun b => .ok (.bool (!b))
theorem le_notV (ha : LeE (ofE E fa) da) : LeE (ofE E (fNotV fa)) (dNotV da) := fun σ Q h => ha σ _ (Sat.mono (Sat.bind h) fun x k => by
  obtain ⟨b, rfl, q⟩ := Sat.asB (Sat.bind k)
  exact q)
@[simp] def fIfE (ft : FT) (fa fb : FE) : FE := fun σ => (ft σ).bind fun b => if b = true then fa σ else fb σ
def asI : PyData → Rs Int
  | .int i => .ok i
  | _ => .no
@[simp] theorem asI_int (b : Int) : asI (.int b) = .ok b := rfl
theorem Sat.asI {d : PyData} {Q : Int → Prop} (h : (asI d).Sat E Q) : ∃ i, d = .int i ∧ Q i := by
  unfold Dl.asI at h
  split at h
  · exact ⟨_, rfl, h⟩
  · exact h.elim
@[simp] def fNeg (fa : FE) : FE := fun σ => (fa σ).bind fun x => (asI x).bind fun i => .ok (.int (-i))
theorem le_neg (ha : LeE (ofE E fa) da) : LeE (ofE E (fNeg fa)) (dNeg da) := fun σ Q h => ha σ _ (Sat.mono (Sat.bind h) fun x h => by
  obtain ⟨i, rfl, h⟩ := Sat.asI (Sat.bind h)
  exact h)
@[simp] def fChain (g g' : PyData → PyData → Option PyData) (fa fb fc : FE) : FE := fun σ => (fa σ).bind fun x => (fb σ).bind fun y => (Rs.ofO (g x y)).bind fun z => (asB z).bind fun k => if k = true then (fc σ).bind fun w => Rs.ofO (g' y w) else .ok (.bool false)
theorem le_chain {g g' : PyData → PyData → Option PyData} {F F' : PyData → PyData → (PyData → Prop) → Prop} (hg : LeOp g F) (hg' : LeOp g' F') (ha : LeE (ofE E fa) da) (hb : LeE (ofE E fb) db) (hc : LeE (ofE E fc) dc) :
    LeE (ofE E (fChain g g' fa fb fc)) (dChain F F' da db dc) := fun σ Q h => ha σ _ (Sat.mono (Sat.bind h) fun x h => hb σ _ (Sat.mono (Sat.bind h) fun y h2 => by
  obtain ⟨z, e, h3⟩ := Sat.ofO (Sat.bind h2)
  refine hg x y z _ e ?_
  obtain ⟨k, rfl, q⟩ := Sat.asB (Sat.bind h3)
  cases k with
  | true => exact hc σ _ (Sat.mono (Sat.bind q) fun w h => by
      obtain ⟨d, e, q⟩ := Sat.ofO h
      exact hg' y w d Q e q)
  | false => exact q))
/-! ### sequences -/
@[simp] def fVarQ (i : Nat) : FQ := fun σ => match σ[i]? with
  | some (some (.dat (.list ds))) => .ok (true, ds)
  | some (some (.dat (.tuple ds))) => .ok (false, ds)
  | some (some (.own ds)) => .ok (true, ds)
  | _ => .no
theorem le_varQ {i : Nat} : LeQ (ofQ E (fVarQ i)) (dVarQ i) := fun σ Q h => by
  unfold ofQ fVarQ at h
  unfold dVarQ
  split at h
  · rename_i q; (try rw [q]); exact h
  · rename_i q; (try rw [q]); exact h
  · rename_i q; (try rw [q]); exact h
  · exact h.elim
def asQ : PyData → Rs (Bool × List PyData)
  | .list ds => .ok (true, ds)
  | .tuple ds => .ok (false, ds)
  | _ => .no
@[simp] theorem asQ_list (ds : List PyData) : asQ (.list ds) = .ok (true, ds) := rfl
@[simp] theorem asQ_tuple (ds : List PyData) : asQ (.tuple ds) = .ok (false, ds) := rfl
@[simp] def fSeqE (fa : FE) : FQ := fun σ => (fa σ).bind asQ
theorem le_seqE (ha : LeE (ofE E fa) da) : LeQ (ofQ E (fSeqE fa)) (dSeqE da) := fun σ Q h => ha σ _ (Sat.mono (Sat.bind h) fun d h => by
  unfold asQ at h
  split at h
  · exact h
  · exact h
  · exact h.elim)
@[simp] def fIx (fq : FQ) (fi : FE) : FE := fun σ => (fq σ).bind fun p => (fi σ).bind fun x => (asI x).bind fun i => Rs.ofO (atI p.2 i)
theorem le_ix (h : LeQ (ofQ E fq) dq) (hi : LeE (ofE E fa) da) : LeE (ofE E (fIx fq fa)) (dIx dq da) := fun σ Q k => h σ _ (Sat.mono (Sat.bind k) fun p k => hi σ _ (Sat.mono (Sat.bind k) fun x k => by
  obtain ⟨i, rfl, k⟩ := Sat.asI (Sat.bind k)
  obtain ⟨d, e, q⟩ := Sat.ofO k
  show match atI p.2 i with
    | some d => Q d
    | none => False
  rw [e]
  exact q))
@[simp] def fOpQ (g : Bool → List PyData → Option PyData) (fq : FQ) : FE := fun σ => (fq σ).bind fun p => Rs.ofO (g p.1 p.2)
def LeOpQ (g : Bool → List PyData → Option PyData) (F : Bool → List PyData → (PyData → Prop) → Prop) : Prop := ∀ b ds d (Q : PyData → Prop), g b ds = some d → Q d → F b ds Q
theorem le_opQ {g : Bool → List PyData → Option PyData} {F : Bool → List PyData → (PyData → Prop) → Prop} (hg : LeOpQ g F) (h : LeQ (ofQ E fq) dq) : LeE (ofE E (fOpQ g fq)) (dOpQ F dq) := fun σ Q k => h σ _ (Sat.mono (Sat.bind k) fun p k => by
  obtain ⟨d, e, q⟩ := Sat.ofO k
  exact hg _ _ d Q e q)
@[simp] def gLen : Bool → List PyData → Option PyData := fun _ ds => some (.int ds.length)
theorem leq_len : LeOpQ gLen fLen := fun b ds d Q e q => by cases e; exact q
@[simp] def gTuple : Bool → List PyData → Option PyData := fun _ ds => some (.tuple ds)
theorem leq_tuple : LeOpQ gTuple fTuple := fun b ds d Q e q => by cases e; exact q
@[simp] def gSum : Bool → List PyData → Option PyData := fun _ ds => (intsD ds).map fun ns => .int ns.sum
theorem leq_sum : LeOpQ gSum fSumS := fun b ds d Q e q => by
  unfold gSum at e
  unfold fSumS
  cases h : intsD ds with
  | none => rw [h] at e; cases e
  | some ns => rw [h] at e; cases e; exact q
def gMin : Bool → List PyData → Option PyData := fun _ ds => match intsD ds with
  | some (n :: ns) => some (.int (ns.foldl min n))
  | _ => none
theorem leq_min : LeOpQ gMin fMinS := fun b ds d Q e q => by
  unfold gMin at e
  unfold fMinS
  split at e
  · rename_i h; (try rw [h]); cases e; exact q
  · cases e
def gMax : Bool → List PyData → Option PyData := fun _ ds => match intsD ds with
  | some (n :: ns) => some (.int (ns.foldl max n))
  | _ => none
/-! ### arguments, displays -/
@[simp] def fNil : FA := fun _ => .ok []
@[simp] def fCons (fa : FE) (aa : FA) : FA := fun σ => (fa σ).bind fun d => (aa σ).bind fun ds => .ok (d :: ds)
theorem le_nil : LeA (ofA E fNil) dNil := fun σ Q h => h
theorem le_cons (ha : LeE (ofE E fa) da) (hr : LeA (ofA E aa) ad) : LeA (ofA E (fCons fa aa)) (dCons (dD da) ad) := fun σ Q h => ha σ _ (Sat.mono (Sat.bind h) fun d h => hr σ _ (Sat.mono (Sat.bind h) fun ds h => h))
@[simp] def fCall (F : FF) (aa : FA) : FE := fun σ => (aa σ).bind F
theorem le_call {F : FF} (ha : LeA (ofA E aa) ad) : LeE (ofE E (fCall F aa)) (dCall (ofF E F) ad) := fun σ Q h => ha σ _ (Sat.mono (Sat.bind h) fun ds h => ⟨ds, rfl, h⟩)
theorem dats_map (ds : List PyData) : dats (ds.map WD.dat) = some ds := by
  induction ds with
  | nil => rfl
  | cons d ds ih => simp [dats, ih]
theorem Sat.dats {r : Rs (List PyData)} {Q : List PyData → Prop} (h : r.Sat E Q) : r.Sat E fun ds => match dats (ds.map WD.dat) with
  | some ds => Q ds
  | none => False := Sat.mono h fun ds q => by rw [dats_map]; exact q
def lim (n : Nat) : Bool := Nat.ble n 100000
@[simp] def fTup (aa : FA) : FE := fun σ => (aa σ).bind fun ds => if lim ds.length = true then .ok (.tuple ds) else .no
theorem le_tup (ha : LeA (ofA E aa) ad) : LeE (ofE E (fTup aa)) (dTup ad) := fun σ Q h => ha σ _ (Sat.mono (Sat.dats (Q := fun ds => ds.length ≤ 100000 ∧ Q (.tuple ds)) (Sat.mono (Sat.bind h) fun ds h => by
  by_cases e : lim ds.length = true
  · rw [if_pos e] at h
    exact ⟨Nat.le_of_ble_eq_true e, h⟩
  · rw [if_neg e] at h
    exact h.elim)) fun ds q => q)
@[simp] def fLst (aa : FA) : FA := fun σ => (aa σ).bind fun ds => if lim ds.length = true then .ok ds else .no
theorem le_lst (ha : LeA (ofA E aa) ad) : LeL (ofL E (fLst aa)) (dLst ad) := fun σ Q h => ha σ _ (Sat.mono (Sat.dats (Q := fun ds => ds.length ≤ 100000 ∧ Q ds) (Sat.mono (Sat.bind h) fun ds h => by
  by_cases e : lim ds.length = true
  · rw [if_pos e] at h
    exact ⟨Nat.le_of_ble_eq_true e, h⟩
  · rw [if_neg e] at h
    exact h.elim)) fun ds q => q)
@[simp] def fL (la : FA) : FE := fun σ => (la σ).bind fun ds => .ok (.list ds)
theorem le_L (h : LeL (ofL E la) dl) : LeE (ofE E (fL la)) (dL dl) := fun σ Q k => h σ _ (Sat.mono (Sat.bind k) fun ds k => k)
@[simp] def fOpN (g : List PyData → Option PyData) (aa : FA) : FE := fun σ => (aa σ).bind fun ds => Rs.ofO (g ds)
def LeOpN (g : List PyData → Option PyData) (F : List PyData → (PyData → Prop) → Prop) : Prop := ∀ ds d (Q : PyData → Prop), g ds = some d → Q d → F ds Q
theorem le_opN {g : List PyData → Option PyData} {F : List PyData → (PyData → Prop) → Prop} (hg : LeOpN g F) (ha : LeA (ofA E aa) ad) : LeE (ofE E (fOpN g aa)) (dOpN F ad) := fun σ Q h =>
  ha σ _ (Sat.mono (Sat.dats (Q := fun ds => F ds Q) (Sat.mono (Sat.bind h) fun ds h => by
    obtain ⟨d, e, q⟩ := Sat.ofO h
    exact hg ds d Q e q)) fun ds q => q)
def gAbs : List PyData → Option PyData
  | [.int i] => some (.int (if i < 0 then -i else i))
  | _ => none
@[simp] theorem gAbs_int (i : Int) : gAbs [.int i] = some (.int (if i < 0 then -i else i)) := rfl
theorem len_abs : LeOpN gAbs fAbs := fun ds d Q e q => by
  unfold gAbs at e
  split at e
  · cases e; exact q
  · cases e
def gInt : List PyData → Option PyData
  | [.int i] => some (.int i)
  | [.bool b] => some (.int (if b then 1 else 0))
  | _ => none
@[simp] theorem gInt_int (i : Int) : gInt [.int i] = some (.int i) := rfl
@[simp] theorem gInt_bool (b : Bool) : gInt [.bool b] = some (.int (if b then 1 else 0)) := rfl
def gMax2 : List PyData → Option PyData
  | [.int i, .int j] => some (.int (if j > i then j else i))
  | _ => none
@[simp] theorem gMax2_int (i j : Int) : gMax2 [.int i, .int j] = some (.int (if j > i then j else i)) := rfl
def gMin2 : List PyData → Option PyData
  | [.int i, .int j] => some (.int (if j < i then j else i))
  | _ => none
@[simp] theorem gMin2_int (i j : Int) : gMin2 [.int i, .int j] = some (.int (if j < i then j else i)) := rfl
def gGcd : List PyData → Option PyData
  | [.int i, .int j] => some (.int ((Nat.gcd i.natAbs j.natAbs : Nat) : Int))
  | _ => none
@[simp] theorem gGcd_int (i j : Int) : gGcd [.int i, .int j] = some (.int ((Nat.gcd i.natAbs j.natAbs : Nat) : Int)) := rfl
theorem len_gcd : LeOpN gGcd fGcd := fun ds d Q e q => by
  unfold gGcd at e
  split at e
  · cases e; exact q
  · cases e
@[simp] def fIsi (T : String) (fa : FE) : FE := fun σ => (fa σ).bind fun d => .ok (.bool (isB (tyD d) T))
theorem le_isi {T : String} (ha : LeE (ofE E fa) da) : LeE (ofE E (fIsi T fa)) (dIsi T da) := fun σ Q h => ha σ _ (Sat.mono (Sat.bind h) fun d h => h)
@[simp] def fRep (la : FA) (fa : FE) : FA := fun σ => (la σ).bind fun ds => (fa σ).bind fun x => (asI x).bind fun k => if (Nat.ble k.natAbs 1000000 && lim (ds.length * k.toNat)) = true then .ok (List.replicate k.toNat ds).flatten else .no
theorem le_rep (h : LeL (ofL E la) dl) (ha : LeE (ofE E fa) da) : LeL (ofL E (fRep la fa)) (dRep dl da) := fun σ Q k => h σ _ (Sat.mono (Sat.bind k) fun ds k => ha σ _ (Sat.mono (Sat.bind k) fun x k2 => by
  obtain ⟨n, rfl, k⟩ := Sat.asI (Sat.bind k2)
  clear k2
  by_cases e : (Nat.ble n.natAbs 1000000 && lim (ds.length * n.toNat)) = true
  · rw [if_pos e] at k
    rw [Bool.and_eq_true] at e
    have b1 := Nat.le_of_ble_eq_true e.1
    exact ⟨by omega, by omega, Nat.le_of_ble_eq_true e.2, k⟩
  · rw [if_neg e] at k
    exact k.elim))
@[simp] def foNone : FO := fun _ => .ok none
@[simp] def foSome (fa : FE) : FO := fun σ => (fa σ).bind fun x => (asI x).bind fun i => .ok (some i)
@[simp] def fSl (fq : FQ) (l h : FO) : FE := fun σ => (fq σ).bind fun p => (l σ).bind fun lo => (h σ).bind fun hi => .ok (if p.1 then .list (cutD p.2 lo hi) else .tuple (cutD p.2 lo hi))
/-! ### what is walked -/
@[simp] def fItS (fa : FE) : FA := fun σ => (fa σ).bind fun d => (asQ d).bind fun p => .ok p.2
theorem le_itS (ha : LeE (ofE E fa) da) : LeI (ofI E (fItS fa)) (dItS da) := fun σ Q h => ha σ _ (Sat.mono (Sat.bind h) fun d h => by
  unfold asQ at h
  split at h
  · exact h
  · exact h
  · exact h.elim)
def cRng (n : Int) : Bool := Nat.ble n.natAbs 4611686018427387903
def gRange1 : List PyData → Rs (List PyData)
  | [.int n] => if cRng n = true then .ok ((List.range n.toNat).map fun i : Nat => PyData.int i) else .no
  | _ => .no
@[simp] theorem gRange1_int (n : Int) : gRange1 [.int n] = if cRng n = true then .ok ((List.range n.toNat).map fun i : Nat => PyData.int i) else .no := rfl
@[simp] def fRange1 (aa : FA) : FA := fun σ => (aa σ).bind gRange1
theorem cRng_ok {n : Int} (h : cRng n = true) : n < 4611686018427387904 ∧ -4611686018427387904 ≤ n := by
  have h := Nat.le_of_ble_eq_true h
  omega
theorem le_range1 (ha : LeA (ofA E aa) ad) : LeI (ofI E (fRange1 aa)) (dRange1 ad) := fun σ Q h => ha σ _ (Sat.mono (Sat.bind h) fun ds h => by
  unfold gRange1 at h
  split at h
  · rename_i n
    by_cases e : cRng n = true
    · rw [if_pos e] at h
      exact ⟨(cRng_ok e).1, (cRng_ok e).2, h⟩
    · rw [if_neg e] at h
      exact h.elim
  · exact h.elim)
def gRange2 : List PyData → Rs (List PyData)
  | [.int m, .int n] => if (cRng n && cRng m) = true then .ok ((List.range (n - m).toNat).map fun i : Nat => PyData.int (m + i)) else .no
  | _ => .no
@[simp] theorem gRange2_int (m n : Int) : gRange2 [.int m, .int n] = if (cRng n && cRng m) = true then .ok ((List.range (n - m).toNat).map fun i : Nat => PyData.int (m + i)) else .no := rfl
@[simp] def fRange2 (aa : FA) : FA := fun σ => (aa σ).bind gRange2
def gZip : List PyData → Rs (List PyData)
  | [.list ds, .list es] => .ok (List.zipWith (fun x y => PyData.tuple [x, y]) ds es)
  | [.tuple ds, .tuple es] => .ok (List.zipWith (fun x y => PyData.tuple [x, y]) ds es)
  | _ => .no
@[simp] theorem gZip_l (ds es : List PyData) : gZip [.list ds, .list es] = .ok (List.zipWith (fun x y => PyData.tuple [x, y]) ds es) := rfl
@[simp] theorem gZip_t (ds es : List PyData) : gZip [.tuple ds, .tuple es] = .ok (List.zipWith (fun x y => PyData.tuple [x, y]) ds es) := rfl
@[simp] def fZip (aa : FA) : FA := fun σ => (aa σ).bind gZip
def gEnum : List PyData → Rs (List PyData)
  | [.list ds] => .ok (ds.mapIdx fun i x => PyData.tuple [.int (i : Nat), x])
  | [.tuple ds] => .ok (ds.mapIdx fun i x => PyData.tuple [.int (i : Nat), x])
  | _ => .no
@[simp] theorem gEnum_l (ds : List PyData) : gEnum [.list ds] = .ok (ds.mapIdx fun i x => PyData.tuple [.int (i : Nat), x]) := rfl
@[simp] theorem gEnum_t (ds : List PyData) : gEnum [.tuple ds] = .ok (ds.mapIdx fun i x => PyData.tuple [.int (i : Nat), x]) := rfl
@[simp] def fEnum (aa : FA) : FA := fun σ => (aa σ).bind gEnum
end
end Dl
end
section
set_option Elab.async false
set_option linter.all false
set_option maxRecDepth 100000
set_option maxHeartbeats 1000000
namespace Dl
open PySem PySem.Spec PyProof.Rows L2 HbE Evl RZ Gx
section
variable {E : Xn → Prop} {fa fb fc : FE} {da db dc : DE} {ft fu : FT} {dt du : DT} {aa : FA} {la ll : FA} {ad : DA} {fq : FQ} {dq : DQ} {dl : DL} {di : DI} {fi : FA} {fg : FG} {dg : DG} {gs : FGs} {dgs : DGs} {s u : FS} {ds du' : DS}
/-! ### targets -/
@[simp] def fgSet (i : Nat) : FG := fun d σ => .ok (σ.set i (some (.dat d)))
theorem le_gSet {i : Nat} : LeG (ofG E (fgSet i)) (gSet i) := fun d σ Q h => h
@[simp] def fgsNil : FGs := fun ds σ => match ds with
  | [] => .ok σ
  | _ => .no
@[simp] def fgsCons (g : FG) (gs : FGs) : FGs := fun ds σ => match ds with
  | d :: r => (g d σ).bind fun σ' => gs r σ'
  | [] => .no
theorem le_gsNil : LeGs (ofGs E fgsNil) gsNil := fun d σ Q h => by
  cases d with
  | nil => exact h
  | cons => exact h.elim
theorem le_gsCons (h1 : LeG (ofG E fg) dg) (h2 : LeGs (ofGs E gs) dgs) : LeGs (ofGs E (fgsCons fg gs)) (gsCons dg dgs) := fun d σ Q h => by
  cases d with
  | nil => exact h.elim
  | cons d r => exact h1 d σ _ (Sat.mono (Sat.bind h) fun σ' h => h2 r σ' Q h)
@[simp] def fgTup (n : Nat) (gs : FGs) : FG := fun d σ => match d with
  | .tuple ds => if ds.length = n then gs ds σ else .no
  | _ => .no
/-! ### comprehensions -/
def lcF (g : FG) (t : FT) (e : FE) (σ0 : Sd) : List PyData → Rs (List PyData)
  | [] => .ok []
  | d :: ds => (g d σ0).bind fun σ2 => (t σ2).bind fun b => if b = true then (e σ2).bind fun y => (lcF g t e σ0 ds).bind fun ys => .ok (y :: ys) else lcF g t e σ0 ds
@[simp] def fLc (fi : FA) (g : FG) (t : FT) (e : FE) (vs : List Nat) : FA := fun σ => (fi σ).bind fun ds => if lim ds.length = true then lcF g t e (wipeD σ vs) ds else .no
theorem lcF_le (hg : LeG (ofG E fg) dg) (ht : LeT (ofT E ft) dt) (he : LeE (ofE E fa) da) {σ0 : Sd} : ∀ {ds acc : List PyData} {Q : List PyData → Prop}, (lcF fg ft fa σ0 ds).Sat E (fun ys => Q (acc ++ ys)) → lcD dg dt da σ0 Q ds acc
  | [], acc, Q, h => by
    have h : Q (acc ++ []) := h
    rw [List.append_nil] at h
    exact h
  | d :: ds, acc, Q, h => hg d σ0 _ (Sat.mono (Sat.bind h) fun σ2 h => ht σ2 _ (Sat.mono (Sat.bind h) fun b h => by
    cases b with
    | true => exact he σ2 _ (Sat.mono (Sat.bind h) fun y h => lcF_le hg ht he (Sat.mono (Sat.bind h) fun ys h => by
        have h : Q (acc ++ y :: ys) := h
        rw [List.append_assoc]
        exact h))
    | false => exact lcF_le hg ht he h))
theorem le_lc {vs : List Nat} (hi : LeI (ofI E fi) di) (hg : LeG (ofG E fg) dg) (ht : LeT (ofT E ft) dt) (he : LeE (ofE E fa) da) : LeL (ofL E (fLc fi fg ft fa vs)) (dLc di dg dt da vs) := fun σ Q h => hi σ _ (Sat.mono (Sat.bind h) fun ds h => by
  by_cases e : lim ds.length = true
  · rw [if_pos e] at h
    exact ⟨Nat.le_of_ble_eq_true e, lcF_le hg ht he (Sat.mono h fun ys h => h)⟩
  · rw [if_neg e] at h
    exact h.elim)
def allF (g : FG) (t : FT) (e : FE) (σ0 : Sd) : List PyData → Rs Bool
  | [] => .ok true
  | d :: ds => (g d σ0).bind fun σ2 => (t σ2).bind fun b => if b = true then (e σ2).bind fun y => (asB y).bind fun c => if c = true then allF g t e σ0 ds else .ok false else allF g t e σ0 ds
@[simp] def fAll (fi : FA) (g : FG) (t : FT) (e : FE) (vs : List Nat) : FE := fun σ => (fi σ).bind fun ds => (allF g t e (wipeD σ vs) ds).bind fun b => .ok (.bool b)
theorem allF_le (hg : LeG (ofG E fg) dg) (ht : LeT (ofT E ft) dt) (he : LeE (ofE E fa) da) {σ0 : Sd} : ∀ {ds : List PyData} {Q : Bool → Prop}, (allF fg ft fa σ0 ds).Sat E Q → allD dg dt da σ0 Q ds
  | [], Q, h => h
  | d :: ds, Q, h => hg d σ0 _ (Sat.mono (Sat.bind h) fun σ2 h => ht σ2 _ (Sat.mono (Sat.bind h) fun b h => by
    cases b with
    | true => exact he σ2 _ (Sat.mono (Sat.bind h) fun y h => by
        obtain ⟨c, rfl, q⟩ := Sat.asB (Sat.bind h)
        cases c with
        | true => exact allF_le hg ht he q
        | false => exact q)
    | false => exact allF_le hg ht he h))
theorem le_all {vs : List Nat} (hi : LeI (ofI E fi) di) (hg : LeG (ofG E fg) dg) (ht : LeT (ofT E ft) dt) (he : LeE (ofE E fa) da) : LeE (ofE E (fAll fi fg ft fa vs)) (dAll di dg dt da vs) := fun σ Q h => hi σ _ (Sat.mono (Sat.bind h) fun ds h =>
  allF_le hg ht he (Sat.mono (Sat.bind h) fun b h => h))
/-! ### statements -/
@[simp] def fNext : FS := fun σ => .ok (.nx σ)
theorem les_next : LeS (ofS E fNext) dNext := fun D σ h => h
@[simp] def fSeq (s u : FS) : FS := fun σ => (s σ).bind fun w => match w with
  | .nx σ' => u σ'
  | .rt d => .ok (.rt d)
  | .bk σ' => .ok (.bk σ')
  | .ct σ' => .ok (.ct σ')
theorem les_seq (h1 : LeS (ofS E s) ds) (h2 : LeS (ofS E u) du') : LeS (ofS E (fSeq s u)) (dSeq ds du') := fun D σ h => h1 _ σ (Sat.mono (Sat.bind h) fun w h => by
  cases w with
  | nx σ' => exact h2 D σ' h
  | rt d => exact h
  | bk σ' => exact h
  | ct σ' => exact h)
@[simp] def fRet (fa : FE) : FS := fun σ => (fa σ).bind fun d => .ok (.rt d)
theorem les_ret (h : LeE (ofE E fa) da) : LeS (ofS E (fRet fa)) (dRet da) := fun D σ k => h σ _ (Sat.mono (Sat.bind k) fun d k => k)
@[simp] def fRetO (i : Nat) : FS := fun σ => match σ[i]? with
  | some (some (.own ds)) => .ok (.rt (.list ds))
  | _ => .no
theorem les_retO {i : Nat} : LeS (ofS E (fRetO i)) (dRetO i) := fun D σ h => by
  unfold ofS fRetO at h
  unfold dRetO
  split at h
  · rename_i q; (try rw [q]); exact h
  · exact h.elim
@[simp] def fIf (ft : FT) (s u : FS) : FS := fun σ => (ft σ).bind fun b => if b = true then s σ else u σ
theorem les_if (h : LeT (ofT E ft) dt) (h1 : LeS (ofS E s) ds) (h2 : LeS (ofS E u) du') : LeS (ofS E (fIf ft s u)) (dIf dt ds du') := fun D σ k => h σ _ (Sat.mono (Sat.bind k) fun b k => by
  cases b with
  | true => exact h1 D σ k
  | false => exact h2 D σ k)
@[simp] def fSet (i : Nat) (fa : FE) : FS := fun σ => (fa σ).bind fun d => .ok (.nx (σ.set i (some (.dat d))))
theorem les_set {i : Nat} (h : LeE (ofE E fa) da) : LeS (ofS E (fSet i fa)) (dSet i da) := fun D σ k => h σ _ (Sat.mono (Sat.bind k) fun d k => k)
@[simp] def fSetO (i : Nat) (la : FA) : FS := fun σ => (la σ).bind fun ds => .ok (.nx (σ.set i (some (.own ds))))
theorem les_setO {i : Nat} (h : LeL (ofL E la) dl) : LeS (ofS E (fSetO i la)) (dSetO i dl) := fun D σ k => h σ _ (Sat.mono (Sat.bind k) fun d k => k)
@[simp] def fAug (i : Nat) (f : Int → Int → Int) (fa : FE) : FS := fun σ => match σ[i]? with
  | some (some (.dat (.int n))) => (fa σ).bind fun d => (asI d).bind fun m => .ok (.nx (σ.set i (some (.dat (.int (f n m))))))
  | _ => .no
@[simp] def fDrop (fa : FE) : FS := fun σ => (fa σ).bind fun _ => .ok (.nx σ)
theorem les_drop (h : LeE (ofE E fa) da) : LeS (ofS E (fDrop fa)) (dDrop da) := fun D σ k => h σ _ (Sat.mono (Sat.bind k) fun d k => k)
@[simp] def fApp (i : Nat) (fa : FE) : FS := fun σ => match σ[i]? with
  | some (some (.own ds)) => (fa σ).bind fun d => if Nat.ble ds.length 99999 = true then .ok (.nx (σ.set i (some (.own (ds ++ [d]))))) else .no
  | _ => .no
theorem les_app {i : Nat} (h : LeE (ofE E fa) da) : LeS (ofS E (fApp i fa)) (dApp i da) := fun D σ k => by
  unfold ofS fApp at k
  unfold dApp
  split at k
  · rename_i es q
    (try rw [q])
    refine h σ _ (Sat.mono (Sat.bind k) fun d k2 => ?_)
    by_cases e : Nat.ble es.length 99999 = true
    · rw [if_pos e] at k2
      exact ⟨Nat.lt_succ_of_le (Nat.le_of_ble_eq_true e), k2⟩
    · rw [if_neg e] at k2
      exact k2.elim
  · exact k.elim
@[simp] def fPut (i : Nat) (fi fa : FE) : FS := fun σ => match σ[i]? with
  | some (some (.own ds)) => (fa σ).bind fun d => (fi σ).bind fun x => (asI x).bind fun k => (Rs.ofO (ixN ds.length k)).bind fun j => .ok (.nx (σ.set i (some (.own (ds.set j d)))))
  | _ => .no
@[simp] def fAugIx (i : Nat) (fi fa : FE) : FS := fun σ => match σ[i]? with
  | some (some (.own ds)) => (fi σ).bind fun x => (asI x).bind fun k => (Rs.ofO (ixN ds.length k)).bind fun j => (Rs.ofO ds[j]?).bind fun y => (asI y).bind fun n => (fa σ).bind fun d => (asI d).bind fun m => .ok (.nx (σ.set i (some (.own (ds.set j (.int (n + m)))))))
  | _ => .no
theorem les_augIx {i : Nat} (hb : LeE (ofE E fb) db) (h : LeE (ofE E fa) da) : LeS (ofS E (fAugIx i fb fa)) (dAugIx i db da) := fun D σ k => by
  unfold ofS fAugIx at k
  unfold dAugIx
  split at k
  · rename_i es q
    (try rw [q])
    refine hb σ _ (Sat.mono (Sat.bind k) fun x k2 => ?_)
    obtain ⟨n, rfl, k3⟩ := Sat.asI (Sat.bind k2)
    obtain ⟨j, e, k4⟩ := Sat.ofO (Sat.bind k3)
    obtain ⟨y, e2, k5⟩ := Sat.ofO (Sat.bind k4)
    obtain ⟨m, rfl, k6⟩ := Sat.asI (Sat.bind k5)
    dsimp only
    rw [e]
    dsimp only
    rw [e2]
    refine h σ _ (Sat.mono (Sat.bind k6) fun d k7 => ?_)
    obtain ⟨m2, rfl, k8⟩ := Sat.asI (Sat.bind k7)
    exact k8
  · exact k.elim
@[simp] def fPar (i j : Nat) (aa : FA) : FS := fun σ => (aa σ).bind fun ds => match ds with
  | [d, d'] => .ok (.nx ((σ.set i (some (.dat d))).set j (some (.dat d'))))
  | _ => .no
theorem les_par {i j : Nat} (h : LeA (ofA E aa) ad) : LeS (ofS E (fPar i j aa)) (dPar i j ad) := fun D σ k => h σ _ (Sat.mono (Sat.bind k) fun ds k => by
  split at k
  · exact k
  · exact k.elim)
@[simp] def fAsgG (g : FG) (fa : FE) : FS := fun σ => (fa σ).bind fun d => (g d σ).bind fun σ' => .ok (.nx σ')
theorem les_asgG (hg : LeG (ofG E fg) dg) (h : LeE (ofE E fa) da) : LeS (ofS E (fAsgG fg fa)) (dAsgG dg da) := fun D σ k => h σ _ (Sat.mono (Sat.bind k) fun d k => hg d σ _ (Sat.mono (Sat.bind k) fun σ' k => k))
def forF (g : FG) (b : FS) : List PyData → FS
  | [], σ => .ok (.nx σ)
  | d :: ds, σ => (g d σ).bind fun σ2 => (b σ2).bind fun w => match w with
    | .nx σ' => forF g b ds σ'
    | .ct σ' => forF g b ds σ'
    | .bk σ' => .ok (.nx σ')
    | .rt d => .ok (.rt d)
@[simp] def fFor (fi : FA) (g : FG) (b : FS) : FS := fun σ => (fi σ).bind fun ds => forF g b ds σ
theorem forF_le (hg : LeG (ofG E fg) dg) (hb : LeS (ofS E s) ds) {D : ED} : ∀ {xs : List PyData} {σ : Sd}, (forF fg s xs σ).Sat E D.go → forD dg ds D xs σ
  | [], σ, h => h
  | d :: xs, σ, h => hg d σ _ (Sat.mono (Sat.bind h) fun σ2 h => hb _ σ2 (Sat.mono (Sat.bind h) fun w h => by
    cases w with
    | nx σ' => exact forF_le hg hb h
    | ct σ' => exact forF_le hg hb h
    | bk σ' => exact h
    | rt d => exact h))
theorem les_for (hi : LeI (ofI E fi) di) (hg : LeG (ofG E fg) dg) (hb : LeS (ofS E s) ds) : LeS (ofS E (fFor fi fg s)) (dFor di dg ds) := fun D σ k => hi σ _ (Sat.mono (Sat.bind k) fun xs k => forF_le hg hb k)
def whileF (t : FT) (b : FS) : Nat → FS
  | 0, _ => .no
  | n + 1, σ => (t σ).bind fun c => if c = true then (b σ).bind fun w => match w with
    | .nx σ' => whileF t b n σ'
    | .ct σ' => whileF t b n σ'
    | .bk σ' => .ok (.nx σ')
    | .rt d => .ok (.rt d)
    else .ok (.nx σ)
@[simp] def fWhile (n : Nat) (t : FT) (b : FS) : FS := whileF t b n
theorem les_while {n : Nat} (ht : LeT (ofT E ft) dt) (hb : LeS (ofS E s) ds) : LeS (ofS E (fWhile n ft s)) (dWhile dt ds) := fun D σ k => by
  refine ⟨fun m σ => (whileF ft s m σ).Sat E D.go, ⟨n, k⟩, fun m σ h => ?_⟩
  cases m with
  | zero => exact h.elim
  | succ m =>
    refine ht σ _ (Sat.mono (Sat.bind h) fun c h => ?_)
    cases c with
    | true =>
      exact hb _ σ (Sat.mono (Sat.bind h) fun w h => by
        cases w with
        | nx σ' => exact ⟨m, Nat.lt_succ_self m, h⟩
        | ct σ' => exact ⟨m, Nat.lt_succ_self m, h⟩
        | bk σ' => exact h
        | rt d => exact h)
    | false => exact h
@[simp] def fRaise (x : Xn) : FS := fun _ => .ex x
def E0 : Xn → Prop := fun _ => False
@[simp] def fFrz (i : Nat) (s : FS) : FS := fun σ => match σ[i]? with
  | some (some (.own ds)) => s (σ.set i (some (.dat (.list ds))))
  | _ => .no
theorem les_frz {i : Nat} (h : LeS (ofS E s) ds) : LeS (ofS E (fFrz i s)) (dFrz i ds) := fun D σ k => by
  unfold ofS fFrz at k
  unfold dFrz
  split at k
  · rename_i q
    (try rw [q])
    exact h D _ k
  · exact k.elim
end
/-! ### defs -/
@[simp] def Fw.out : Fw → Rs PyData
  | .nx _ => .ok .none
  | .rt d => .ok d
  | _ => .no
@[simp] def mkF (n N : Nat) (fs : FS) : FF := fun ds => if ds.length = n then (fs (startD N (ds.map WD.dat))).bind Fw.out else .no
theorem mkF_len {n N : Nat} {fs : FS} {ws : List WD} {Q : PyData → Prop} (h : ofF E0 (mkF n N fs) ws Q) : ws.length = n := by
  obtain ⟨ds, rfl, h⟩ := h
  unfold mkF at h
  split at h
  · simpa using ‹ds.length = n›
  · exact h.elim
theorem mkF_pu {n N : Nat} {fs : FS} {ds : DS} (h : LeS (ofS E0 fs) ds) {ws : List WD} {Q : PyData → Prop} (k : ofF E0 (mkF n N fs) ws Q) : ds { nx := fun _ => Q .none, rt := Q } (startD N ws) := by
  obtain ⟨es, rfl, k⟩ := k
  unfold mkF at k
  split at k
  · refine h _ _ (Sat.mono (Sat.bind k) fun w k => ?_)
    cases w with
    | nx σ' => exact k
    | rt d => exact k
    | bk σ' => exact k.elim
    | ct σ' => exact k.elim
  · exact k.elim
section
variable {P : Program} {w : World} {K : PySem.W.Frag} {mg : Str → Option Value} {base : Heap} {Ps : TbL}
end
end Dl
end
section
set_option Elab.async false
set_option linter.all false
set_option maxRecDepth 100000
set_option maxHeartbeats 1000000
/-! Running functions over data: bounds; loops; comprehensions. -/
namespace Dl
open PySem PySem.Spec PyProof.Rows L2 HbE Evl RZ Gx
@[simp] theorem startD_eq {n : Nat} {ws : List WD} : startD n ws = ws.map some ++ List.replicate (n - ws.length) none := rfl
@[simp] theorem lim_0 : lim 0 = true := rfl
@[simp] theorem lim_1 : lim 1 = true := rfl
@[simp] theorem lim_2 : lim 2 = true := rfl
@[simp] theorem lim_3 : lim 3 = true := rfl
@[simp] theorem lim_4 : lim 4 = true := rfl
@[simp] theorem lim_5 : lim 5 = true := rfl
@[simp] theorem lim_6 : lim 6 = true := rfl
@[simp] theorem lim_7 : lim 7 = true := rfl
@[simp] theorem lim_8 : lim 8 = true := rfl
@[simp] theorem lim_9 : lim 9 = true := rfl
@[simp] theorem lim_10 : lim 10 = true := rfl
@[simp] theorem lim_11 : lim 11 = true := rfl
@[simp] theorem lim_12 : lim 12 = true := rfl
@[simp] theorem lim_13 : lim 13 = true := rfl
@[simp] theorem lim_14 : lim 14 = true := rfl
@[simp] theorem lim_15 : lim 15 = true := rfl
@[simp] theorem lim_16 : lim 16 = true := rfl
@[simp] theorem lim_17 : lim 17 = true := rfl
@[simp] theorem lim_18 : lim 18 = true := rfl
@[simp] theorem lim_19 : lim 19 = true := rfl
@[simp] theorem lim_20 : lim 20 = true := rfl
@[simp] theorem lim_21 : lim 21 = true := rfl
@[simp] theorem lim_22 : lim 22 = true := rfl
@[simp] theorem lim_23 : lim 23 = true := rfl
@[simp] theorem lim_24 : lim 24 = true := rfl
@[simp] theorem bind_assoc {α β γ : Type} (r : Rs α) (f : α → Rs β) (g : β → Rs γ) : (r.bind f).bind g = r.bind fun a => (f a).bind g := by
  cases r <;> rfl
section
variable {g : FG} {t : FT} {e : FE} {σ0 : Sd} {ds : List PyData}
theorem lcF_ok {f : PyData → PyData} (h : ∀ d ∈ ds, ((g d σ0).bind fun σ2 => e σ2) = .ok (f d)) : lcF g fYes e σ0 ds = .ok (ds.map f) := by
  induction ds with
  | nil => rfl
  | cons d ds ih =>
    have h1 := h d List.mem_cons_self
    have h2 := ih fun x hx => h x (List.mem_cons_of_mem _ hx)
    unfold lcF
    cases q : g d σ0 with
    | ok σ2 =>
      rw [q] at h1
      simp only [bind_ok, fYes, if_true] at h1 ⊢
      rw [h1]
      simp only [bind_ok]
      rw [h2]
      rfl
    | ex x => rw [q] at h1; cases h1
    | no => rw [q] at h1; cases h1
end
@[simp] theorem tyD_int (i : Int) : tyD (.int i) = "int" := rfl
@[simp] theorem tyD_bool (i : Bool) : tyD (.bool i) = "bool" := rfl
@[simp] theorem tyD_tuple (i : List PyData) : tyD (.tuple i) = "tuple" := rfl
@[simp] theorem tyD_list (i : List PyData) : tyD (.list i) = "list" := rfl
@[simp] theorem isB_ii : isB "int" "int" = true := by decide +kernel
@[simp] theorem isB_ib : isB "int" "bool" = false := by decide +kernel
@[simp] theorem isB_tt : isB "tuple" "tuple" = true := by decide +kernel
@[simp] theorem isB_bi : isB "bool" "int" = true := by decide +kernel
@[simp] theorem isB_bb : isB "bool" "bool" = true := by decide +kernel
@[simp] theorem isB_it : isB "int" "tuple" = false := by decide +kernel
@[simp] theorem isB_lt : isB "list" "tuple" = false := by decide +kernel
@[simp] theorem isB_ti : isB "tuple" "int" = false := by decide +kernel
end Dl
namespace Dl
open PySem PySem.Spec PyProof.Rows L2 HbE Evl RZ Gx
@[simp] theorem gEq_int (neg : Bool) (i j : Int) : gEq neg (.int i) (.int j) = some (.bool (if neg then !(i == j) else i == j)) := rfl
/-- a list (true) or a tuple of ints -/
def sI (l : Bool) (ns : List Int) : PyData := if l then .list (ns.map .int) else .tuple (ns.map .int)
@[simp] theorem asQ_sI (l : Bool) (ns : List Int) : asQ (sI l ns) = .ok (l, ns.map .int) := by cases l <;> rfl
@[simp] theorem gMin_c (b : Bool) (n : Int) (ns : List Int) : gMin b (.int n :: ns.map .int) = some (.int (ns.foldl min n)) := by
  have e := intsD_map (n :: ns)
  unfold gMin
  rw [List.map_cons] at e
  rw [e]
@[simp] theorem gMax_c (b : Bool) (n : Int) (ns : List Int) : gMax b (.int n :: ns.map .int) = some (.int (ns.foldl max n)) := by
  have e := intsD_map (n :: ns)
  unfold gMax
  rw [List.map_cons] at e
  rw [e]
abbrev tI (ns : List Int) : PyData := .tuple (ns.map .int)
abbrev eF (p : Int × Int) : PyData := .tuple [.int p.1, .int p.2]
abbrev eR (b : Int) (ns : List Int) : PyData := .tuple [.int b, tI ns]
@[simp] theorem atI_zero {α : Type} (x : α) (l : List α) : atI (x :: l) 0 = some x := by simp [atI, ixN]
@[simp] theorem atI_one {α : Type} (x y : α) (l : List α) : atI (x :: y :: l) 1 = some y := by
  unfold atI ixN
  rw [if_pos (by decide), if_pos (by simp only [List.length_cons]; omega)]
  rfl
@[simp] theorem atI_two {α : Type} (x y z : α) (l : List α) : atI (x :: y :: z :: l) 2 = some z := by
  unfold atI ixN
  rw [if_pos (by decide), if_pos (by simp only [List.length_cons]; omega)]
  rfl
theorem atI_at {α : Type} {l : List α} {i : Nat} {x : α} (h : l[i]? = some x) : atI l (i : Int) = some x := by
  have hl : i < l.length := (List.getElem?_eq_some_iff.mp h).1
  unfold atI ixN
  rw [if_pos (by omega), if_pos (by omega)]
  simpa using h
@[simp] theorem intsD_m (ns : List Int) : intsD (ns.map PyData.int) = some ns := intsD_map ns
/-- of nesting up to n -/
def Shp (n : Nat) (d : PyData) : Prop := d.canLay0 = true ∧ d.depth ≤ n
def ShpAll (n : Nat) (ds : List PyData) : Prop := ∀ d ∈ ds, Shp n d
theorem Shp.mono {n m : Nat} {d : PyData} (h : Shp n d) (k : n ≤ m) : Shp m d := ⟨h.1, Nat.le_trans h.2 k⟩
theorem shaped_of {n : Nat} {d : PyData} (h : Shp n d) (k : n ≤ 64 := by omega) : SeqAt.shaped d = true := by
  unfold SeqAt.shaped
  rw [h.1]
  exact decide_eq_true (Nat.le_trans h.2 k)
mutual
theorem eqv_self : ∀ d : PyData, d.canLay0 = true → PyData.eqv d d = true
  | .none, _ => by rw [PyData.eqv]
  | .bool b, _ => by rw [PyData.eqv]; simp
  | .int i, _ => by rw [PyData.eqv]; simp
  | .str x, _ => by rw [PyData.eqv]; simp
  | .list xs, h => by
    rw [PyData.eqv]
    rw [PyData.canLay0] at h
    exact eqvAll_self xs h
  | .tuple xs, h => by
    rw [PyData.eqv]
    rw [PyData.canLay0] at h
    exact eqvAll_self xs h
  | .dict _, h => by rw [PyData.canLay0] at h; cases h
theorem eqvAll_self : ∀ ds : List PyData, PyData.canLayAll0 ds = true → PyData.eqvAll ds ds = true
  | [], _ => by rw [PyData.eqvAll]
  | d :: ds, h => by
    rw [PyData.canLayAll0, Bool.and_eq_true] at h
    rw [PyData.eqvAll, eqv_self d h.1, eqvAll_self ds h.2]
    rfl
end
theorem gEq_self {n : Nat} {neg : Bool} {d : PyData} (h : Shp n d) (k : n ≤ 64 := by omega) : gEq neg d d = some (.bool (!neg)) := by
  unfold gEq
  rw [shaped_of h k, eqv_self d h.1]
  cases neg <;> rfl
end Dl
end
section
set_option Elab.async false
set_option linter.all false
set_option maxRecDepth 100000
set_option maxHeartbeats 1000000
/-! A new drawer, in a slot. -/
namespace Dl
open PySem PySem.Spec PyProof.Rows L2 HbE Evl RZ Gx
/-- what makes a drawer promises: from a list of ints and a small place -/
def spHatD (K : PySem.W.Frag) : Sp := fun vs H Q _ => ∃ (a : Addr) (ns : List Int) (i : Nat), vs = [.ref a, .int i] ∧ SqL K H a (ns.map V.int) ∧ i ≤ 3 ∧
  ∀ p o, H p = none → Hat o → Q (.ref p) (upd H p o)
section
variable {K : PySem.W.Frag} {Ps : TX} {c : C0} {hs as : List Addr} {H H' : Hp} {σ : L2.St} {σd : Sd} {i : Nat} {p : Addr} {o : HO}
end
section
variable {X : Cx} {Ps : TX} {e a b : PySem.Expr} {es : List PySem.Expr} {pos pos' : Pos} {i : Nat} {x : Str}
def asInts : PyData → Option (List Int)
  | .list ds => intsD ds
  | _ => none
/-- x = hat(script, spot) -/
def dSetHat (i : Nat) (da : DA) : DS := fun D σ => da σ fun ws => match ws with
  | [.dat (.list ds), .dat (.int k)] => (intsD ds).isSome = true ∧ (0 ≤ k ∧ k ≤ 3) ∧ D.nx (σ.set i (some .hat))
  | _ => False
end
end Dl
end
section
set_option Elab.async false
set_option linter.all false
set_option maxRecDepth 100000
set_option maxHeartbeats 1000000
/-! Functions for what DlR reads: t[::-1], list(..), bool(..), list + list, in. -/
namespace Dl
open PySem PySem.Spec PyProof.Rows L2 HbE Evl RZ Gx
section
variable {E : Xn → Prop} {fa fb : FE} {da db : DE} {fq fr : FQ} {dq dr : DQ}
@[simp] def fBack (fq : FQ) : FE := fun σ => (fq σ).bind fun p => .ok (if p.1 then .list p.2.reverse else .tuple p.2.reverse)
@[simp] def fListOf (fq : FQ) : FA := fun σ => (fq σ).bind fun p => .ok p.2
def gBool : List PyData → Option PyData
  | [.int i] => some (.bool (i != 0))
  | [.bool b] => some (.bool b)
  | _ => none
@[simp] theorem gBool_int (i : Int) : gBool [.int i] = some (.bool (i != 0)) := rfl
@[simp] theorem gBool_bool (b : Bool) : gBool [.bool b] = some (.bool b) := rfl
@[simp] def fCatL (fq fr : FQ) : FA := fun σ => (fq σ).bind fun p => (fr σ).bind fun q => if (p.1 && q.1 && lim (p.2.length + q.2.length)) = true then .ok (p.2 ++ q.2) else .no
theorem le_catL (h : LeQ (ofQ E fq) dq) (h' : LeQ (ofQ E fr) dr) : LeL (ofL E (fCatL fq fr)) (dCatL dq dr) := fun σ Q k => h σ _ (Sat.mono (Sat.bind k) fun p k => h' σ _ (Sat.mono (Sat.bind k) fun q k2 => by
  by_cases e : (p.1 && q.1 && lim (p.2.length + q.2.length)) = true
  · rw [if_pos e] at k2
    rw [Bool.and_eq_true, Bool.and_eq_true] at e
    exact ⟨e.1.1, e.1.2, Nat.le_of_ble_eq_true e.2, k2⟩
  · rw [if_neg e] at k2
    exact k2.elim))
@[simp] def fIn (neg : Bool) (fa : FE) (fq : FQ) : FE := fun σ => (fa σ).bind fun x => (fq σ).bind fun p => if ((flatD x && p.2.all flatD) || (p.1 && (SeqAt.shaped x && SeqAt.shaped (.list p.2)))) = true then .ok (.bool (inD neg x p.2)) else .no
theorem le_in {neg : Bool} (ha : LeE (ofE E fa) da) (h : LeQ (ofQ E fq) dq) : LeE (ofE E (fIn neg fa fq)) (dIn neg da dq) := fun σ Q k => ha σ _ (Sat.mono (Sat.bind k) fun x k => h σ _ (Sat.mono (Sat.bind k) fun p k2 => by
  by_cases e : ((flatD x && p.2.all flatD) || (p.1 && (SeqAt.shaped x && SeqAt.shaped (.list p.2)))) = true
  · rw [if_pos e] at k2
    rw [Bool.or_eq_true, Bool.and_eq_true, Bool.and_eq_true, Bool.and_eq_true] at e
    rcases e with e | e
    · exact ⟨.inl e, k2⟩
    · exact ⟨.inr e, k2⟩
  · rw [if_neg e] at k2
    exact k2.elim))

section
variable {i j l : Nat} {aa : FA} {ad : DA} {la : FA} {dl : DL}
@[simp] def fPar3 (i j l : Nat) (aa : FA) : FS := fun σ => (aa σ).bind fun ds => match ds with
  | [d, d', d''] => .ok (.nx (((σ.set i (some (.dat d))).set j (some (.dat d'))).set l (some (.dat d''))))
  | _ => .no
@[simp] def fPar3N (i j l : Nat) (fa fb : FE) (la : FA) : FS := fun σ => (fa σ).bind fun x => (fb σ).bind fun y => (la σ).bind fun ds => .ok (.nx (((σ.set i (some (.dat x))).set j (some (.dat y))).set l (some (.own ds))))
@[simp] def fParN (i j : Nat) (fa : FE) (la : FA) : FS := fun σ => (fa σ).bind fun x => (la σ).bind fun ds => .ok (.nx ((σ.set i (some (.dat x))).set j (some (.own ds))))
end
end
def gRepA : PyData → PyData → Option PyData := fun x y => match x, y with
  | .tuple ds, .int k => if (!ds.isEmpty && decide (1 ≤ k) && Nat.ble k.toNat 1000 && Nat.ble ds.length 1000) = true then some (.tuple (List.replicate k.toNat ds).flatten) else none
  | _, _ => none
@[simp] theorem gRepA_t (ds : List PyData) (k : Int) : gRepA (.tuple ds) (.int k) = if (!ds.isEmpty && decide (1 ≤ k) && Nat.ble k.toNat 1000 && Nat.ble ds.length 1000) = true then some (.tuple (List.replicate k.toNat ds).flatten) else none := rfl
theorem leop_repA : LeOp gRepA fRepA := fun x y d Q e q => by
  unfold gRepA at e
  split at e
  · split at e
    · rename_i h
      cases e
      simp only [Bool.and_eq_true, Bool.not_eq_true', decide_eq_true_eq] at h
      have b1 := Nat.le_of_ble_eq_true h.1.2
      have b2 := Nat.le_of_ble_eq_true h.2
      refine ⟨fun z => ?_, h.1.1.2, by omega, b2, q⟩
      rw [z] at h
      simp at h
    · cases e
  · cases e
end Dl
end
section
set_option Elab.async false
set_option linter.all false
set_option maxRecDepth 100000
set_option maxHeartbeats 1000000
/-! is None, is not None; bit_length -/
namespace Dl
open PySem PySem.Spec PyProof.Rows L2 HbE Evl RZ Gx
section
variable {K : PySem.W.Frag} {Ps : TX}
def isN : PyData → Bool
  | .none => true
  | _ => false
def fIs (neg : Bool) : PyData → PyData → (PyData → Prop) → Prop := fun x y Q => match y with
  | .none => Q (.bool (if neg then !isN x else isN x))
  | _ => False
def gIs (neg : Bool) : PyData → PyData → Option PyData := fun x y => match y with
  | .none => some (.bool (if neg then !isN x else isN x))
  | _ => none
@[simp] theorem gIs_none (neg : Bool) (x : PyData) : gIs neg x .none = some (.bool (if neg then !isN x else isN x)) := rfl
end
section
variable {X : Cx} {Ps : TX} {e : PySem.Expr} {pos apos : Pos} {de : DE} {E : Xn → Prop} {fa : FE}
/-- e.bit_length() -/
def dBits (de : DE) : DE := fun σ Q => de σ fun x => match x with
  | .int i => Q (.int (Builtin.Int.intBits i : Nat))
  | _ => False
@[simp] def fBits (fa : FE) : FE := fun σ => (fa σ).bind fun x => (asI x).bind fun i => .ok (.int (Builtin.Int.intBits i : Nat))
end
end Dl
end
section
set_option Elab.async false
set_option linter.all false
set_option maxRecDepth 100000
set_option maxHeartbeats 1000000
/-! Exceptions that leave a def, over data. -/
namespace Dl
open PySem PySem.Spec PyProof.Rows L2 HbE Evl RZ Gx HbX
/-- a def's promise, of which the exceptions that it may let out are part -/
def spX (K : PySem.W.Frag) (Ps : TbL) (SD : (Xn → Prop) → DSp) : Sp := fun vs H Q E => ∃ M hs ws Qd Ed, Wf Ps M hs H ∧ Paired (VR K M hs [] H) vs ws ∧ SD Ed ws Qd ∧ (∀ d v H', Qd d → Step hs Ps H H' → Dp K (msk M H') v d → Q v H') ∧
  ∀ x cls d H', Ed x → Step hs Ps H H' → XnAt K H' M cls d x → E cls d H'
section
variable {K : PySem.W.Frag} {Ps : TX} {c : C0} {hs as : List Addr} {H H' : Hp} {σ : L2.St} {σd : Sd} {cls : Value} {d : Option Addr} {x : Xn}
theorem xn_less (h : XnAt K H (Mk c hs as) cls d x) : XnAt K H c.M0 cls d x := by
  obtain ⟨C, h1, h2, h3⟩ := h
  refine ⟨C, h1, h2, fun f a e => ?_⟩
  obtain ⟨dd, v, e1, e2, e3⟩ := h3 f a e
  exact ⟨dd, v, e1, e2, less_mk e3⟩
theorem Sts.raise (S : Sts K Ps c hs as σ H σd) (s : Step hs Ps H H') (hx : Ps.Ed x) (hX : XnAt K H' (Mk c hs as) cls d x) : Ps.EE cls d H' := S.xo x cls d H' hx (S.ret s) (xn_less hX)
end
section
variable {X : Cx} {Ps : TX} {e : PySem.Expr} {es : List PySem.Expr} {pos : Pos}
theorem pd_callX {x : Str} {f : Addr} {fd : FuncData} {ps : List Str} {SD : (Xn → Prop) → DSp} {k : Nat} {da : DA} {p : Pos} (F : FnOk X.prog X.w X.K X.mg X.base (L2.CX X.prog X.w) k f fd ps (spX X.K Ps SD)) (tk : Takes X (fun cls d _ H => Ps.EE cls d H)) (hr : Room k X.A) (hg : Gl X x) (hm : X.mg x = some (.ref f))
    (hk : PySem.W.keepIn X.K (.ref f) = true) (hb : Binds X.K fd ps []) (ha : PA X (e :: es) (liftA X.K Ps da)) (hdb : (x == ("__debug__" : Str)) = false := by decide) (he : starEach (e :: es) X.env = (false, eval e X.env) :: starEach es X.env := by rfl)
    (hpl : (backTo pos (starEach es X.env)).any (·.1) = false := by rfl) : PE X (.Call (.Name x p) (e :: es) [] pos) (lift X.K Ps (dCall (SD Ps.Ed) da)) :=
  pe_weak (pe_call F hr hg hm hk hb .nil (E := Ps.EE) (passes_call tk fun _ _ _ _ h => h) ha hdb he hpl) fun σ H Q ⟨c, hs, as, σd, Qd, S, hd, k⟩ =>
    ⟨c, hs, as, σd, _, S, hd, fun ws vs H1 h1 s1 r1 => ⟨Mk c hs as, hs, ws, Qd, Ps.Ed, (S.step s1).fr.wf, by rw [List.append_nil]; exact r1, h1, fun d v H' h s r => k d v H' h (s1.trans s) r,
      fun x cls d H' h s r => S.raise (s1.trans s) h r⟩⟩
/-! ### raise -/
/-- an own error class without own __init__ -/
structure ClsP (K : PySem.W.Frag) (mg : Str → Option Value) (x : Str) (C : Addr) : Prop where
  g : mg x = some (.ref C)
  n : PySem.W.nsIn K mainGlobals x = some (some (.ref C))
  kC : PySem.W.keepIn K (.ref C) = true
  q : PySem.W.excIn K C [.type "ValueError", .type "Exception", .type "BaseException", .type "object"] "ValueError.__new__" = true
  exC : PySem.W.subIn K (.ref C) (.type "BaseException") = some true
  tyC : PySem.W.typeIn K (.ref C) = some (.type "type")
def dRaiseX (Ed : Xn → Prop) (x : Xn) : DS := fun _ _ => Ed x
theorem psd_raiseP {x : String} {m : Str} {C : Addr} {j : Nat} {p p2 pos rpos : Pos} (T : ClsP X.K X.mg x C) (tk : Takes X (fun cls d _ H => Ps.EE cls d H)) (hc : X.calm = true) (hg : Gl X x)
    (hdb : ((x : Str) == ("__debug__" : Str)) = false := by decide) : PS X (.Raise (some (.Call (.Name x p) [.Constant (.str m) j p2] [] pos)) none rpos) (liftS X.K Ps (dRaiseX Ps.Ed ⟨x, none⟩)) :=
  ps_weak (ps_raise hc tk (pmk_own F.excBase_ValueError T.q T.g T.kC (raises_own T.exC T.tyC) hg hdb)) fun D σ H ⟨c, hs, as, σd, Dd, S, h, r⟩ =>
    S.raise Step.refl h ⟨C, T.n, rfl, fun _ _ z => by cases z⟩
/-- an own error class whose __init__ keeps its argument -/
structure ClsI (P : Program) (w : World) (K : PySem.W.Frag) (mg : Str → Option Value) (base : Heap) (x : Str) (C : Addr) (f : Str) : Prop where
  g : mg x = some (.ref C)
  n : PySem.W.nsIn K mainGlobals x = some (some (.ref C))
  T : OexC K C
  ini : ∃ (fI : Addr) (fd : FuncData), PySem.W.findIn K (.ref C) "__init__" = some (some (.ref fI)) ∧ PySem.W.typeIn K (.ref fI) = some (.type "function") ∧ FnOk P w K mg base L2.CX0 1 fI fd ["self", f] (spInit K C f) ∧ Binds K fd ["self", f] []
def dRaiseI (Ed : Xn → Prop) (x f : String) (de : DE) : DS := fun _ σ => de σ fun a => Ed ⟨x, some (f, a)⟩
theorem psd_raiseI {x f : String} {C : Addr} {de : DE} {k : Nat} {p pos rpos : Pos} (T : ClsI X.prog X.w X.K X.mg X.base x C f) (tk : Takes X (fun cls d _ H => Ps.EE cls d H)) (hr : Room k X.A) (hk : 2 ≤ k) (hc : X.calm = true) (hg : Gl X x) (ha : PE X e (lift X.K Ps de))
    (hdb : ((x : Str) == ("__debug__" : Str)) = false := by decide) (he : starEach [e] X.env = (false, eval e X.env) :: starEach [] X.env := by rfl) :
    PS X (.Raise (some (.Call (.Name x p) [e] [] pos)) none rpos) (liftS X.K Ps (dRaiseI Ps.Ed x f de)) := by
  obtain ⟨fI, fd, iC, tI, F1, hb⟩ := T.ini
  refine ps_weak (ps_raise hc tk (pmk_oex T.T iC tI F1 (hr.mono hk) hb .nil (fun _ _ _ _ _ _ _ h => h.elim) hg T.g (pa_cons ha pa_nil he) hdb he (by rfl))) fun D σ H ⟨c, hs, as, σd, Dd, S, h, r⟩ => ?_
  refine ⟨c, hs, as, σd, _, S, h, fun a v H1 h1 s1 r1 => ⟨by simp, fun q hq => ⟨q, v, rfl, upd_same, fun dd hd => ?_⟩⟩⟩
  have ndq : dd ≠ q := fun z => by rw [z, upd_same] at hd; cases hd
  have hd1 : H1 dd = none := by rw [upd_ne ndq] at hd; exact hd
  refine ⟨rfl, dd, _, upd_same, by rw [upd_ne ndq, upd_same], hd1, ?_⟩
  have eH : upd (L2.del (upd (upd (upd H1 q (exo q C none)) dd (exd dd [((f : Str), v)])) q (exo q C (some dd))) q) dd (.xd [((f : Str), v)]) = upd H1 dd (.xd [((f : Str), v)]) := by
    funext b
    by_cases b1 : b = dd
    · rw [b1, upd_same, upd_same]
    · rw [upd_ne b1, upd_ne b1]
      by_cases b2 : b = q
      · rw [b2, del_same, hq]
      · rw [del_ne b2, upd_ne b2, upd_ne b1, upd_ne b2]
  rw [eH]
  have s2 : Step hs Ps H1 (upd H1 dd (.xd [((f : Str), v)])) := Step.of_ex (Ex.new hd1)
  refine S.raise (s1.trans s2) h1 ⟨C, T.n, rfl, fun f' a' z => ?_⟩
  cases z
  exact ⟨dd, v, rfl, upd_same, dp_mono ((S.step s1).fr.wf.ex s2) r1⟩
end
/-! ### a def's promise -/
section
variable {P : Program} {w : World} {K : PySem.W.Frag} {mg : Str → Option Value} {base : Heap} {Ps : TbL}
theorem okX {x qual : Str} {st : Stmt} {f : Addr} {fd : FuncData} {N ps : List Str} {k : Nat} {SD : (Xn → Prop) → DSp} (F : L2.Fun K x qual st f fd) (S : FnScope N ps (L2.defScope st)) (len : ∀ Ed ws Q, SD Ed ws Q → ws.length = ps.length)
    (body : ∀ (cdv : Value) (A : Around) (outer : List Env) (s : Shared) (H : Hp) (E : XK) (Ed : Xn → Prop), Room k (A.deeper (envOfC qual (L2.defScope st) s.heap.objs.size f cdv)) → Takes (cxOf (L2.CX P w) P w K mg base N qual (L2.defScope st) f cdv A outer s H E) (fun cls d _ H => E cls d H) →
      PassesOwn (model P w) (cxOf (L2.CX P w) P w K mg base N qual (L2.defScope st) f cdv A outer s H E).A (cxOf (L2.CX P w) P w K mg base N qual (L2.defScope st) f cdv A outer s H E).env (cxOf (L2.CX P w) P w K mg base N qual (L2.defScope st) f cdv A outer s H E).xe →
      ∃ db, PSs (cxOf (L2.CX P w) P w K mg base N qual (L2.defScope st) f cdv A outer s H E) (L2.defBody st) (liftS K ⟨Ps, Ed, E⟩ db) ∧ ∀ ws Qd, SD Ed ws Qd → db { nx := fun _ => Qd .none, rt := Qd } (startD N.length ws)) :
    FnOk P w K mg base (L2.CX P w) (k + 1) f fd ps (spX K Ps SD) := by
  obtain ⟨oc, od, kV, doc, pm, an, cdv, ct, osl, rfl, lk, hcd⟩ := F.ex
  refine fn_of lk hcd S (fun vs H Q E h => ?_) fun A outer s H vs Q E hr h => ?_
  · obtain ⟨M, hs, ws, Qd, Ed, wf, p, sd, _⟩ := h
    rw [paired_len p]
    exact len Ed ws Qd sd
  · obtain ⟨M, hs, ws, Qd, Ed, wf, p, sd, k1, k2⟩ := h
    obtain ⟨db, h1, h2⟩ := body cdv A outer s H E Ed hr (takes_of rfl rfl rfl rfl) (passes_of rfl)
    refine ⟨_, h1, ⟨hs, M, H, msk M H⟩, hs, [], _, _, sts_start N rfl wf p (fun x cls d H' a b c => k2 x cls d H' a b c), h2 ws Qd sd, fun hs' as' σ' H' σd' T h => ?_, fun v H' d s q h => k1 d v H' h s q, fun _ _ _ _ _ _ h => h.elim, fun _ _ _ _ _ _ h => h.elim⟩
    exact k1 .none .non H' h T.fr.st .non
theorem okXC {x qual : Str} {st : Stmt} {c f : Addr} {fd : FuncData} {N ps : List Str} {k : Nat} {SD : (Xn → Prop) → DSp} (F : FunC K x qual st c f fd) (S : FnScope N ps (L2.defScope st)) (len : ∀ Ed ws Q, SD Ed ws Q → ws.length = ps.length)
    (body : ∀ (A : Around) (outer : List Env) (s : Shared) (H : Hp) (E : XK) (Ed : Xn → Prop), Room k (A.deeper (envOfC qual (L2.defScope st) s.heap.objs.size f (.ref c))) → Takes (cxOf (L2.CX P w) P w K mg base N qual (L2.defScope st) f (.ref c) A outer s H E) (fun cls d _ H => E cls d H) →
      PassesOwn (model P w) (cxOf (L2.CX P w) P w K mg base N qual (L2.defScope st) f (.ref c) A outer s H E).A (cxOf (L2.CX P w) P w K mg base N qual (L2.defScope st) f (.ref c) A outer s H E).env (cxOf (L2.CX P w) P w K mg base N qual (L2.defScope st) f (.ref c) A outer s H E).xe →
      ∃ db, PSs (cxOf (L2.CX P w) P w K mg base N qual (L2.defScope st) f (.ref c) A outer s H E) (L2.defBody st) (liftS K ⟨Ps, Ed, E⟩ db) ∧ ∀ ws Qd, SD Ed ws Qd → db { nx := fun _ => Qd .none, rt := Qd } (startD N.length ws)) :
    FnOk P w K mg base (L2.CX P w) (k + 1) f fd ps (spX K Ps SD) := by
  obtain ⟨oc, od, kV, doc, pm, an, ct, osl, rfl, lk, hcd⟩ := F.ex
  refine fn_of lk hcd S (fun vs H Q E h => ?_) fun A outer s H vs Q E hr h => ?_
  · obtain ⟨M, hs, ws, Qd, Ed, wf, p, sd, _⟩ := h
    rw [paired_len p]
    exact len Ed ws Qd sd
  · obtain ⟨M, hs, ws, Qd, Ed, wf, p, sd, k1, k2⟩ := h
    obtain ⟨db, h1, h2⟩ := body A outer s H E Ed hr (takes_of rfl rfl rfl rfl) (passes_of rfl)
    refine ⟨_, h1, ⟨hs, M, H, msk M H⟩, hs, [], _, _, sts_start N rfl wf p (fun x cls d H' a b c => k2 x cls d H' a b c), h2 ws Qd sd, fun hs' as' σ' H' σd' T h => ?_, fun v H' d s q h => k1 d v H' h s q, fun _ _ _ _ _ _ h => h.elim, fun _ _ _ _ _ _ h => h.elim⟩
    exact k1 .none .non H' h T.fr.st .non
/-- where it raises nothing -/
theorem fnX0 {f : Addr} {fd : FuncData} {ps : List Str} {k : Nat} {SD : (Xn → Prop) → DSp} (F : FnOk P w K mg base (L2.CX P w) k f fd ps (spX K Ps SD)) : FnOk P w K mg base L2.CX0 k f fd ps (spOf K Ps (SD fun _ => False)) := by
  have up : ∀ {vs H Q} {E : XK}, spOf K Ps (SD fun _ => False) vs H Q E → spX K Ps SD vs H Q fun _ _ _ => False := fun ⟨M, hs, ws, Qd, wf, p, sd, k⟩ => ⟨M, hs, ws, Qd, _, wf, p, sd, k, fun _ _ _ _ z => z.elim⟩
  refine ⟨fun vs H Q E h => F.len _ _ _ _ (up h), fun A outer s H args us vs Q E hr e0 hb r h => codeAny_mono (F.run A outer s H args us vs Q _ hr e0 hb r (up h)) fun r s' q => ?_⟩
  cases r with
  | error e =>
    obtain ⟨_, _, _, _, _, _, _, _, _, _, _, _, z⟩ := (show L2.CX P w outer H s _ e s' from q)
    exact z.elim
  | ok fl => cases fl <;> exact q
end
end Dl
end
section
set_option Elab.async false
set_option linter.all false
set_option maxRecDepth 100000
set_option maxHeartbeats 2000000
/-! A lambda without parameters, made over a table and handed to a def that calls it. -/
namespace Dl
open PySem PySem.Spec PyProof.Rows L2 HbE Evl RZ Gx HbX LamX
section
variable {X : Cx} {pins : List (Addr × Obj)} {σ : L2.St} {H : Hp} {s : Shared}
theorem fresh_frame (I : Inv X pins σ H s) {f : Addr} (h : s.heap.objs.size ≤ f) : f ∉ frs X.stack := fun m => by
  rcases List.mem_cons.mp (I.stkSub _ m) with e | e
  · exact absurd (Nat.lt_of_lt_of_le I.lt (e ▸ h)) (Nat.lt_irrefl _)
  · exact I.nofs h e
/-- all but the table at P is kept -/
def Kept1 (P : Addr) (H H' : Hp) : Prop := ∀ b o, H b = some o → b ≠ P → H' b = some o
theorem lam_mk {c P : Addr} {params : Arguments} {body : PySem.Expr} {scope : Scope} {pos : Pos} {E : Value → Shared → Prop} {Q : Value → Shared → Prop} (I : Inv X pins σ H s) (TB : LamX.TabB X.base X.mg c P) (hcode : X.env.code = .ref c) (hT : LamX.TabS H P (X.env.qual ++ "<lambda>")) (hdef : defaultsOf params X.env = ([], []))
    (free : ∀ y ∈ scope.names, y.2 = .free → ∃ c, X.env.cells.lookup y.1 = some c)
    (h : ∀ (f c' : Addr) (pm ctv : Value) (H1 : Hp) (s1 : Shared), Inv X pins σ H1 s1 → Kept1 P H H1 → LamX.TabS H1 P (X.env.qual ++ "<lambda>") → s1.heap.get? f = some (PySem.W.kla_obj "<lambda>" (X.env.qual ++ "<lambda>") params body scope (cloFrom X.env.cells scope.names []) pm c' ctv) → H1 f = none → f ∉ frs X.stack →
      H1 c' = some (LamX.CodeO c' (X.env.qual ++ "<lambda>")) → Q (.ref f) s1) : wpAny (model X.prog X.w) X.A (eval (.Lambda params body scope pos) X.env) Q E s := by
  obtain ⟨ps, tP, tr, found⟩ := hT
  have oP : s.heap.get? P = some { cls := .none, data := .fields ps } := I.hok P _ tP
  refine PySem.W.kla_eval hdef ?_
  rcases hc : codeAmong pos ps.toList with _ | cv
  · refine PySem.W.kla_makeFunction (mg := X.mg) (c := c) (P := P) (ps := ps) (closure_ok free) I.ok.glob (I.mod.glob.keeps I.bk) hcode (TB.code.keeps I.bk) oP tr hc TB.gP (TB.bm.keeps I.bk) fun k ctv g tk ext lo hi rec tab => ?_
    obtain ⟨k2, oc, vs, t, ek, r1, r2, r3⟩ := rec
    cases ek
    have nk : H k = none := I.hok.fresh lo
    have J := inv_table (t' := tk) (more := #[rawInt pos.line, rawInt pos.col, .ref k]) (h' := g.push (PySem.W.kla_obj "<lambda>" (X.env.qual ++ "<lambda>") params body scope (cloFrom X.env.cells scope.names []) ((X.mg "__name__").getD .none) k ctv)) I tP
      (fun b o nb e => Heap.get?_push_of_some _ (ext b o nb e)) (Heap.get?_push_of_some _ tab) lo ⟨oc, vs, t, Heap.get?_push_of_some _ r1, r2, r3⟩
    have big : s.heap.objs.size ≤ g.objs.size := Nat.le_of_lt (Nat.lt_of_le_of_lt lo hi)
    have kk : Kept1 P H (upd (upd H P (.tbl (ps ++ #[rawInt pos.line, rawInt pos.col, .ref k]))) k (LamX.CodeO k (X.env.qual ++ "<lambda>"))) := fun b o e nb => by rw [upd_ne (ne_of_none e nk), upd_ne nb]; exact e
    have kc : ∀ d q, H d = some (LamX.CodeO d q) → upd (upd H P (.tbl (ps ++ #[rawInt pos.line, rawInt pos.col, .ref k]))) k (LamX.CodeO k (X.env.qual ++ "<lambda>")) d = some (LamX.CodeO d q) := fun d q e => kk d _ e fun z => LamX.codeO_ne ps (Option.some.inj ((z ▸ e).symm.trans tP))
    refine h g.objs.size k ((X.mg "__name__").getD .none) ctv _ _ J kk ⟨_, by rw [upd_ne (ne_of_none tP nk), upd_same], ?_, fun p2 cv hcv => ?_⟩ (Heap.get?_push_size _ rfl) ?_ (fresh_frame I big) upd_same
    · have eL : (ps ++ #[rawInt pos.line, rawInt pos.col, .ref k]).toList = ps.toList ++ [rawInt pos.line, rawInt pos.col, .ref k] := by simp
      rw [eL]
      exact PySem.TriplesOk_snoc _ _ _ _ tr
    · have eL : (ps ++ #[rawInt pos.line, rawInt pos.col, .ref k]).toList = ps.toList ++ [rawInt pos.line, rawInt pos.col, .ref k] := by simp
      rw [eL] at hcv
      rcases among_app _ tr hcv with z | z
      · obtain ⟨d, d1, d2⟩ := found p2 cv z
        exact ⟨d, d1, kc _ _ d2⟩
      · exact ⟨k, z, upd_same⟩
    · rw [upd_ne (Nat.ne_of_gt hi), upd_ne (Nat.ne_of_gt (Nat.lt_of_lt_of_le (Heap.lt_size oP) big))]
      exact I.hok.fresh big
  · obtain ⟨k, rfl, ko⟩ := found pos cv hc
    refine PySem.W.kla_makeFunctionHit (mg := X.mg) (c := c) (P := P) (ps := ps) (closure_ok free) I.ok.glob (I.mod.glob.keeps I.bk) hcode (TB.code.keeps I.bk) oP tr hc (TB.bm.keeps I.bk) fun ctv g tk keep big => ?_
    have J : Inv X pins σ H { s with heap := g.push (PySem.W.kla_obj "<lambda>" (X.env.qual ++ "<lambda>") params body scope (cloFrom X.env.cells scope.names []) ((X.mg "__name__").getD .none) k ctv), toks := tk } := I.kept fun b o e => Heap.get?_push_of_some _ (keep b o e)
    exact h g.objs.size k ((X.mg "__name__").getD .none) ctv H _ J (fun _ _ e _ => e) ⟨ps, tP, tr, found⟩ (Heap.get?_push_size _ rfl) (I.hok.fresh big) (fresh_frame I big) ko
end
/-- the caller's step, when a lambda has been made -/
theorem step_lam {hs : List Addr} {Ps : TbL} {P : Addr} {q : Str} {H H1 : Hp} {M : Addr → Prop} (w : Wf Ps M hs H) (hP : (P, some q) ∈ Ps) (k : Kept1 P H H1) (t : LamX.TabS H1 P q) : Step hs Ps H H1 := by
  obtain ⟨ps, tP⟩ := w.tbl (ad_of hP)
  have tP : H P = some (.tbl ps) := tP
  refine ⟨fun a o e _ n => k a o e fun z => n (z ▸ ad_of hP), fun p hp ⟨o, e1, e2⟩ => ⟨o, k p o e1 fun z => ?_, e2⟩, fun p hp t0 => ?_⟩
  · obtain ⟨_, _, _, rfl⟩ := e2
    rw [z, tP] at e1
    cases e1
  · by_cases z : p.1 = P
    · cases w.one _ hp _ hP z
      exact t
    · obtain ⟨ps2, t2⟩ := t0.has
      exact t0.keep ((k _ _ t2 z).trans t2.symm) fun d q e => k d _ e fun y => LamX.codeO_ne ps (Option.some.inj ((y ▸ e).symm.trans tP))
end Dl
end
section
set_option Elab.async false
set_option linter.all false
set_option maxRecDepth 100000
set_option maxHeartbeats 1000000
/-! A def that tells which error a lambda meets. -/
namespace Dl
open PySem PySem.Spec PyProof.Rows L2 HbE Evl RZ Gx HbX LamX
/-- what a clause returns: a word, alone or in a pair, of what the exception keeps or not -/
structure Hout where
  wrap : Option String
  pre : String
  fld : Option (String × Nat)
def Hout.val (o : Hout) (s : Str) : PyData := match o.wrap with
  | none => .str s
  | some m => .tuple [.str m, .str s]
def shows (d : PyData) : Bool := !d.hasDict && d.showable && Nat.ble d.depth 60 && Nat.ble d.shown.length 100000
def Hout.out (o : Hout) (a : Option (String × PyData)) : Option PyData := match o.fld with
  | none => some (o.val o.pre)
  | some (f, _) => match a with
    | some (f', d) => if (f == f' && shows d) = true then some (o.val ((o.pre : Str) ++ d.shown)) else none
    | none => none
abbrev Hds := List (String × Hout)
def Wm : Hds → Xn → Option PyData
  | [], _ => none
  | (n, o) :: r, x => if n = x.cls then o.out x.arg else Wm r x
/-- where a class stands -/
def caK (K : PySem.W.Frag) (n : Str) : Addr := match PySem.W.nsIn K mainGlobals n with
  | some (some (.ref C)) => C
  | _ => 0
theorem caK_of {K : PySem.W.Frag} {n : Str} {C : Addr} (h : PySem.W.nsIn K mainGlobals n = some (some (.ref C))) : caK K n = C := by
  unfold caK
  rw [h]
/-- the suites' readings -/
def tsWord (w : Option String) (s : Str) : TS := fun D _ H => match w with
  | none => D.rt (.str s) H
  | some m => ∀ p, H p = none → D.rt (.ref p) (upd H p (.tup [.str m, .str s]))
def tsFld (K : PySem.W.Frag) (w : Option String) (pre : Str) (f : Str) (i : Nat) (C : Addr) (a : Addr) (cls : Value) (d : Option Addr) : TS := fun D σ H => σ[i]? = some (some (.ref a)) ∧ cls = .ref C ∧
  ∃ (dd : Addr) (v : V) (e : PyData), d = some dd ∧ H dd = some (.xd [(f, v)]) ∧ L2.Dp K H v e ∧ e.showable = true ∧ e.depth ≤ 60 ∧ e.shown.length ≤ 100000 ∧ tsWord w (pre ++ e.shown) D σ H
def mkC (K : PySem.W.Frag) (h : String × Hout) : Cls3 := match h.2.fld with
  | none => (.ref (caK K h.1), none, fun _ _ _ => tsWord h.2.wrap h.2.pre)
  | some (f, i) => (.ref (caK K h.1), some i, tsFld K h.2.wrap h.2.pre f i (caK K h.1))
section
variable {X : Cx} {a : Addr} {oe : Obj} {cls : Value} {d : Option Addr} {pn : List (Addr × Obj)}
theorem su_word {s : Str} {j : Nat} {p1 p2 : Pos} : PSs X [.Return (some (.Constant (.str s) j p1)) p2] (tsWord none s) := pss_weak (pss_one (ps_ret pe_str)) fun _ _ _ h => h
variable {n f : Str} {i : Nat} {C : Addr} {pre : Str} {j : Nat} {p1 p2 p3 p4 p5 p6 p7 p8 p9 : Pos}
/-- pre + repr(error.f) -/
theorem pe_fld (T : XfC X.K C) (hno : PySem.W.findIn X.K (.ref C) f = some none) (hz : Zc cls d oe) (hf : ∃ vs, oe.data = .fields vs) (hg : Gl (X.suite a ((a, oe) :: pn)) "repr") (hm : X.mg "repr" = none) (hv : PE (X.suite a ((a, oe) :: pn)) (.Name n p3) (tVar i)) (gd : X.A.guards = some []) (hu : X.A.units + 64 < cLine)
    (hb : attributeBase (.Name n p3) f (X.suite a ((a, oe) :: pn)).env (eval (.Name n p3) (X.suite a ((a, oe) :: pn)).env) = eval (.Name n p3) (X.suite a ((a, oe) :: pn)).env := by rfl) (hpre : pre.length ≤ 1000) :
    PE (X.suite a ((a, oe) :: pn)) (.BinOp (.Constant (.str pre) j p1) .Add (.Call (.Name "repr" p2) [.Attribute (.Name n p3) f p4] [] p5) p6)
      (fun σ H Q => σ[i]? = some (some (.ref a)) ∧ cls = .ref C ∧ ∃ (dd : Addr) (v : V) (e : PyData), d = some dd ∧ H dd = some (.xd [(f, v)]) ∧ L2.Dp X.K H v e ∧ e.showable = true ∧ e.depth ≤ 60 ∧ e.shown.length ≤ 100000 ∧ Q (.str (pre ++ e.shown)) H) :=
  pe_weak (pe_op op_addA pe_str (pe_callB (call_reprD gd hu) hg hm (by decide +kernel) (pa_cons (pe_xf T hno hz hf hv hb) pa_nil))) fun σ H Q ⟨h1, h2, dd, v, e, h3, h4, h5, h6, h7, h8, q⟩ => by
    refine ⟨_, h1, rfl, h2, dd, _, v, h3, h4, by simp [List.lookup], v, e, rfl, .of h5, h6, h7, Nat.le_trans h8 (by decide), ?_⟩
    exact ⟨by rw [sizeLine_eq]; omega, q⟩
theorem su_fld (h : PE (X.suite a ((a, oe) :: pn)) (.BinOp (.Constant (.str pre) j p1) .Add (.Call (.Name "repr" p2) [.Attribute (.Name n p3) f p4] [] p5) p6)
      (fun σ H Q => σ[i]? = some (some (.ref a)) ∧ cls = .ref C ∧ ∃ (dd : Addr) (v : V) (e : PyData), d = some dd ∧ H dd = some (.xd [(f, v)]) ∧ L2.Dp X.K H v e ∧ e.showable = true ∧ e.depth ≤ 60 ∧ e.shown.length ≤ 100000 ∧ Q (.str (pre ++ e.shown)) H)) :
    PSs (X.suite a ((a, oe) :: pn)) [.Return (some (.BinOp (.Constant (.str pre) j p1) .Add (.Call (.Name "repr" p2) [.Attribute (.Name n p3) f p4] [] p5) p6)) p7] (tsFld X.K none pre f i C a cls d) :=
  pss_weak (pss_one (ps_ret h)) fun _ _ _ h => h
end
end Dl
namespace Dl
open PySem PySem.Spec PyProof.Rows L2 HbE Evl RZ Gx HbX LamX
/-- what is returned may be any value of this datum -/
def RetOk (K : PySem.W.Frag) (Ps : TbL) (M : Addr → Prop) (hs : List Addr) (H : Hp) (Q : VK) (d : PyData) : Prop := ∀ v H', Step hs Ps H H' → Dp K (msk M H') v d → Q v H'
theorem word_ok {K : PySem.W.Frag} {Ps : TbL} {M : Addr → Prop} {hs : List Addr} {H : Hp} {D : Ends} {σ : L2.St} {o : Hout} {s : Str} (wf : Wf Ps M hs H) (r : RetOk K Ps M hs H D.rt (o.val s)) : tsWord o.wrap s D σ H := by
  obtain ⟨w, pre, fld⟩ := o
  cases w with
  | none => exact r _ H Step.refl (.str _)
  | some m => exact fun p hp => r _ _ (Step.of_ex (Ex.new hp)) (dp_newT wf hp (.cons (.str _) (.cons (.str _) .nil)))
theorem mix_of {K : PySem.W.Frag} {Ps : TbL} {M : Addr → Prop} {hs : List Addr} {H : Hp} {D : Ends} {W : WX} {σ : L2.St} {cls : Value} {d : Option Addr} {x : Xn} {dd : PyData} (wf : Wf Ps M hs H) (hX : XnAt K H M cls d x) (r : RetOk K Ps M hs H D.rt dd) : ∀ (hl : Hds),
    (∀ h ∈ hl, PySem.W.exmOne K (.ref (caK K x.cls)) (.ref (caK K h.1)) = some (decide (x.cls = h.1))) → (∀ h ∈ hl, ∀ f i, h.2.fld = some (f, i) → i < σ.length) → Wm hl x = some dd → wMix K W D (hl.map (mkC K)) cls d σ H
  | [], _, _, h => by cases h
  | (n, o) :: hl, he, hf, h => by
    obtain ⟨C, n1, rfl, n3⟩ := id hX
    have eC : caK K x.cls = C := caK_of n1
    have e1 := he _ List.mem_cons_self
    have f1 := hf _ List.mem_cons_self
    have q1 : (mkC K (n, o)).1 = .ref (caK K n) := by unfold mkC; split <;> rfl
    refine ⟨decide (x.cls = n), by rw [q1, ← eC]; exact e1, fun hb a na => ?_, fun hb => mix_of wf hX r hl (fun h m => he h (List.mem_cons_of_mem _ m)) (fun h m => hf h (List.mem_cons_of_mem _ m)) ?_⟩
    · have hn : n = x.cls := (of_decide_eq_true hb).symm
      unfold Wm at h
      rw [if_pos hn] at h
      obtain ⟨w, pre, fld⟩ := o
      cases fld with
      | none =>
        cases h
        exact word_ok (σ := σ) (o := ⟨w, pre, none⟩) wf r
      | some fi =>
        obtain ⟨f, i⟩ := fi
        have hi := f1 f i rfl
        unfold Hout.out at h
        dsimp only at h
        split at h
        · rename_i f' e ea
          split at h
          · rename_i hc
            cases h
            rw [Bool.and_eq_true] at hc
            obtain ⟨hc1, hc2⟩ := hc
            have ef : f = f' := eq_of_beq hc1
            subst ef
            obtain ⟨d0, v, e2, e3, e4⟩ := n3 f e ea
            unfold shows at hc2
            simp only [Bool.and_eq_true, Bool.not_eq_true'] at hc2
            refine ⟨?_, by rw [hn, eC], d0, v, e, e2, e3, (dp_mono msk_ex e4).old hc2.1.1.1, hc2.1.1.2, Nat.le_of_ble_eq_true hc2.1.2, Nat.le_of_ble_eq_true hc2.2, ?_⟩
            · rw [List.getElem?_set_self hi]
            · exact word_ok (o := ⟨w, pre, some (f, i)⟩) (D := clr i D) wf r
          · cases h
        · cases h
    · have hn : ¬ n = x.cls := fun z => (of_decide_eq_false hb) z.symm
      unfold Wm at h
      rwa [if_neg hn] at h
theorem takes_len {X : Cx} {W : WX} (t : Takes X W) : Takes X (fun c d σ H => σ.length = X.N.length → W c d σ H) := fun u s' ⟨a, B, sI, pins, σ, H, cls, d, e, I, nb, up, sky, na, os, ag, w⟩ =>
  t u s' ⟨a, B, sI, pins, σ, H, cls, d, e, I, nb, up, sky, na, os, ag, w I.len⟩
/-- what a def that tells the error of a lambda promises -/
def MetG (P : Program) (w : World) (K : PySem.W.Frag) (mg : Str → Option Value) (base : Heap) (Ng : List Str) (x : Str) (sg : Scope) (g : Addr) (cdg : Value) (bg : List Stmt) (a : Str) (hl : Hds) (fine : PyData) : Prop :=
  ∀ (A : Around) (stack : List Env) (f c' : Addr) (q : Str) (s : Shared) (H : Hp) (Q : VK) (tl : XK → Hp → VK → Prop) (k : Nat), (A.deeper (envOfC x sg s.heap.objs.size g cdg)).guards = some [] → Room k (A.deeper (envOfC x sg s.heap.objs.size g cdg)) →
    (∀ (W : WX) (pn : List (Addr × Obj)) (xe : Value → Shared → Prop) (E : XK) (p1 p2 : Pos), Takes ((cxOf L2.CX0 P w K mg base Ng x sg g cdg A stack s H L2.E0).tr pn xe) W → (∀ cls d σ' H', E cls d H' → W cls d σ' H') →
      PE ((cxOf L2.CX0 P w K mg base Ng x sg g cdg A stack s H L2.E0).tr pn xe) (.Call (.Name a p1) [] [] p2) (fun σZ HZ Q => σZ[0]? = some (some (.ref f)) ∧ HZ c' = some (LamX.CodeO c' q) ∧ tl E HZ Q)) →
    H c' = some (LamX.CodeO c' q) →
    (∃ (Ps : TbL) (M : Addr → Prop) (hs : List Addr), ∀ (Ech : XK) (Qf : VK), (∀ v H', Wf Ps M hs H' → RetOk K Ps M hs H' Q fine → Qf v H') → (∀ cls d H' x dd, Wf Ps M hs H' → XnAt K H' M cls d x → Wm hl x = some dd → RetOk K Ps M hs H' Q dd → Ech cls d H') → tl Ech H Qf) →
    ∃ t, PSs (cxOf L2.CX0 P w K mg base Ng x sg g cdg A stack s H L2.E0).nox bg t ∧ t { nx := fun _ H' => Q .non H', rt := Q } (L2.start Ng [.ref f]) H
/-- the clauses' classes tell one another apart -/
def exB (K : PySem.W.Frag) (hl : Hds) : Bool := hl.all fun m => hl.all fun h => PySem.W.exmOne K (.ref (caK K m.1)) (.ref (caK K h.1)) == some (decide (m.1 = h.1))
theorem wm_mem : ∀ {hl : Hds} {x : Xn} {d : PyData}, Wm hl x = some d → ∃ m ∈ hl, m.1 = x.cls
  | [], _, _, h => by cases h
  | (n, o) :: r, x, d, h => by
    by_cases e : n = x.cls
    · exact ⟨_, List.mem_cons_self, e⟩
    · unfold Wm at h
      rw [if_neg e] at h
      obtain ⟨m, h1, h2⟩ := wm_mem h
      exact ⟨m, List.mem_cons_of_mem _ h1, h2⟩
theorem met_mk {P : Program} {w : World} {K : PySem.W.Frag} {mg : Str → Option Value} {base : Heap} {Ng : List Str} {x : Str} {sg : Scope} {g : Addr} {cdg : Value} {a : Str} {hl : Hds} {wr : Option String} {fine : String} {h1 : ExceptHandler} {hds : List ExceptHandler} {p1 p2 p3 p4 p5 : Pos} {fe : PySem.Expr}
    (hx : exB K hl = true) (hlen : ∀ h ∈ hl, ∀ f i, h.2.fld = some (f, i) → i < Ng.length) (hn0 : 0 < Ng.length)
    (hh : ∀ (A : Around) (stack : List Env) (s : Shared) (H : Hp) (k : Nat), (A.deeper (envOfC x sg s.heap.objs.size g cdg)).guards = some [] → Room k (A.deeper (envOfC x sg s.heap.objs.size g cdg)) → MixOk (cxOf L2.CX0 P w K mg base Ng x sg g cdg A stack s H L2.E0).nox (h1 :: hds) (hl.map (mkC K)))
    (hf : ∀ (A : Around) (stack : List Env) (s : Shared) (H : Hp), PSs (cxOf L2.CX0 P w K mg base Ng x sg g cdg A stack s H L2.E0).nox [.Return (some fe) p5] (tsWord wr fine))
    (hsw : ∀ (A : Around) (stack : List Env) (s : Shared) (H : Hp), swapsWith (.Call (.Name a p1) [] [] p2) none p3.line (cxOf L2.CX0 P w K mg base Ng x sg g cdg A stack s H L2.E0).env = pure false := by intros; rfl) :
    MetG P w K mg base Ng x sg g cdg [.Try [.Expr (.Call (.Name a p1) [] [] p2) p3] (h1 :: hds) [] [] p4, .Return (some fe) p5] a hl ((⟨wr, fine, none⟩ : Hout).val fine) := by
  intro A stack f c' q s H Q tl k hgd hr act hc ⟨Ps, M, hs, ht⟩
  refine ⟨_, pss_cons (ps_try_mix (X := (cxOf L2.CX0 P w K mg base Ng x sg g cdg A stack s H L2.E0).nox) (l := hl.map (mkC K)) (Wout := fun _ _ _ _ => False)
      (tb := fun W D σ H => ∃ E : XK, (∀ cls d σ' H', E cls d H' → σ'.length = Ng.length → W cls d σ' H') ∧ σ[0]? = some (some (.ref f)) ∧ H c' = some (LamX.CodeO c' q) ∧ tl E H fun _ H' => D.nx σ H')
      rfl rfl takes0 (fun W pn xe tk _ => ?_) (hh A stack s H k hgd hr)) (hf A stack s H), ?_⟩
  · refine ⟨fun pins s' σ H' D I ⟨E, hW, e1, e2, e3⟩ => ?_⟩
    exact (pss_one (ps_expr (pos := p3) (act _ pn xe E p1 p2 (takes_len tk) hW) (hsw A stack s H))).run pins s' σ H' D I ⟨e1, e2, e3⟩
  · refine ⟨fun cls d H' => ∃ x dd, Wf Ps M hs H' ∧ XnAt K H' M cls d x ∧ Wm hl x = some dd ∧ RetOk K Ps M hs H' Q dd, fun cls d σ' H' ⟨x, dd, wf, hX, hw, r⟩ hl' => ?_, ?_, hc, ht _ _ (fun v H' wf r => ?_) fun cls d H' x dd wf hX hw r => ⟨x, dd, wf, hX, hw, r⟩⟩
    · refine mix_of wf hX r hl (fun h hm => ?_) (fun h hm f i e => by rw [hl']; exact hlen h hm f i e) hw
      obtain ⟨m, hm1, hm2⟩ := wm_mem hw
      have := List.all_eq_true.mp (List.all_eq_true.mp hx m hm1) h hm
      rw [← hm2]
      exact eq_of_beq this
    · unfold L2.start
      rfl
    · exact word_ok (σ := []) (o := ⟨wr, fine, none⟩) wf r
end Dl
end
section
set_option Elab.async false
set_option linter.all false
set_option maxRecDepth 100000
set_option maxHeartbeats 1000000
/-! told(lambda: call), over data. -/
namespace Dl
open PySem PySem.Spec PyProof.Rows L2 HbE Evl RZ Gx HbX LamX
/-- what a lambda may read: data and functions -/
def datW : Option WD → Option WD
  | some (.dat d) => some (.dat d)
  | some (.fn n) => some (.fn n)
  | _ => none
def datOnly (σ : Sd) : Sd := σ.map datW
theorem datOnly_at {σ : Sd} {i : Nat} {w : WD} (h : (datOnly σ)[i]? = some (some w)) : σ[i]? = some (some w) ∧ ((∃ d, w = .dat d) ∨ ∃ n, w = .fn n) := by
  unfold datOnly at h
  rw [List.getElem?_map] at h
  cases q : σ[i]? with
  | none => rw [q] at h; cases h
  | some o =>
    rw [q] at h
    cases o with
    | none => cases h
    | some w' =>
      cases w' with
      | dat d => cases h; exact ⟨rfl, .inl ⟨d, rfl⟩⟩
      | fn n => cases h; exact ⟨rfl, .inr ⟨n, rfl⟩⟩
      | own ds => cases h
      | hat => cases h
theorem Sts.anew {K : PySem.W.Frag} {Ps : TX} {c : C0} {hs as : List Addr} {σ : L2.St} {H : Hp} {σd : Sd} (S : Sts K Ps c hs as σ H σd) {Ed : Xn → Prop} {EE : XK} (xo : XOk K ⟨Ps.l, Ed, EE⟩ ⟨hs, Mk c hs as, H, msk (Mk c hs as) H⟩) :
    Sts K ⟨Ps.l, Ed, EE⟩ ⟨hs, Mk c hs as, H, msk (Mk c hs as) H⟩ hs [] σ H (datOnly σd) := by
  have w := S.fr.wf
  have em : Mk ⟨hs, Mk c hs as, H, msk (Mk c hs as) H⟩ hs [] = Mk c hs as := by
    funext a
    apply propext
    constructor
    · intro m
      rcases m with m | m | m
      · exact m
      · exact .inr (.inl m)
      · cases m
    · exact fun m => .inl m
  refine ⟨⟨w, Step.refl, fun p hp => ⟨(w.hat p hp).2, .inl hp⟩, fun p hp => hp, fun a ha => (by cases ha), by rw [em]; exact Ex.refl _⟩, by rw [S.len]; unfold datOnly; simp, fun i wd e => ?_, fun i j ds es n e1 e2 => ?_, xo⟩
  · obtain ⟨h1, h2⟩ := datOnly_at e
    obtain ⟨v, h3, h4⟩ := S.slot i _ h1
    refine ⟨v, h3, ?_⟩
    rw [em]
    rcases h2 with ⟨d, rfl⟩ | ⟨n, rfl⟩
    · exact h4
    · exact h4
  · rcases (datOnly_at e1).2 with ⟨_, z⟩ | ⟨_, z⟩ <;> cases z
def dMet (hl : Hds) (fine : PyData) (de : (Xn → Prop) → DE) : DE := fun σ Q => de (fun x => ∃ d, Wm hl x = some d ∧ Q d) (datOnly σ) (fun _ => Q fine)
theorem pe_ex {α : Sort _} {X : Cx} {e : PySem.Expr} {t : α → TE} (h : ∀ a, PE X e (t a)) : PE X e (fun σ H Q => ∃ a, t a σ H Q) := ⟨fun pins s σ H Q I ⟨a, q⟩ => (h a).run pins s σ H Q I q⟩
theorem lam_takes {X : Cx} {A : Around} {outer : List Env} {s : Shared} {H : Hp} {E : XK} {scope : Scope} {f c' : Addr} : Takes (lamCx X A outer s H E scope f c') (fun cls d _ H => E cls d H) := takes_of rfl rfl rfl rfl
section
variable {X : Cx} {Ps : TX} {p pos lpos : Pos}
theorem pd_met {x a : Str} {g c P : Addr} {k : Nat} {st : Stmt} {fd : FuncData} {Ng : List Str} {hl : Hds} {fine : PyData} {params : Arguments} {body : PySem.Expr} {scope : Scope} {de : (Xn → Prop) → DE}
    (hr : Room (k + 2) X.A) (hgd : X.A.guards = some []) (hg : Gl X x) (hm : X.mg x = some (.ref g)) (F : L2.Fun X.K x x st g fd) (hb : L2.Binds X.K fd [a] []) (Sg : FnScope Ng [a] (L2.defScope st)) (hNg : Ng[0]? = some a) (hva : Vis (L2.defScope st) a)
    (MG : ∀ cdg : Value, MetG X.prog X.w X.K X.mg X.base Ng x (L2.defScope st) g cdg (L2.defBody st) a hl fine)
    (TB : LamX.TabB X.base X.mg c P) (hcode : X.env.code = .ref c) (hP : (P, some (X.env.qual ++ "<lambda>")) ∈ Ps.l) (L : LamS X.env.scope scope) (hdef : defaultsOf params X.env = ([], []))
    (hbind : ∀ (q : Str) (cl : List (Str × Addr)) (pm cv ctv : Value), bindArgs (PySem.W.kla_fn "<lambda>" q params body scope cl pm cv ctv) ⟨[], []⟩ = pure [])
    (hbody : ∀ (A : Around) (outer : List Env) (s : Shared) (H : Hp) (E : XK) (Ed : Xn → Prop) (f c' : Addr), Room k (A.deeper (lamEnv X scope s.heap.objs.size f c')) → Takes (lamCx X A outer s H E scope f c') (fun cls d _ H => E cls d H) → PE (lamCx X A outer s H E scope f c') body (lift X.K ⟨Ps.l, Ed, E⟩ (de Ed)))
    (hdb : (x == ("__debug__" : Str)) = false := by decide) (hd1 : (a == ("__debug__" : Str)) = false := by decide) (hcd : (a == ("__classdict__" : Str)) = false := by decide) :
    PE X (.Call (.Name x p) [.Lambda params body scope lpos] [] pos) (lift X.K Ps (dMet hl fine de)) := by
  refine ⟨fun pins s σ H Q I ⟨c0, hs, as, σd, Qd, S, hd, kk⟩ => ?_⟩
  obtain ⟨oc, od, kV, doc, pm0, an, cdv, ct, osl, rfl, lk, hcg⟩ := F.ex
  refine wpAny_Call_Name_kw (ld_glob I hg hm ?_ hdb)
  refine PySem.W.callWith_K (h₀ := X.base) I.ok.mod.kin F.kp ?_ (by rfl) (by rfl)
  show wpAny _ _ (spliced ((false, eval (.Lambda params body scope lpos) X.env) :: backTo pos (starEach [] X.env))) _ _ s
  have tS : LamX.TabS H P (X.env.qual ++ "<lambda>") := (S.fr.wf.tab _ hP).2
  refine Calls.spliced_cons (lam_mk I TB hcode tS hdef (L.has I.ok) fun f c' pm ctv H1 s1 I1 K1 T1 hf hfn hfr hco => ?_)
  refine Calls.spliced_nil ⟨I1.kIn, ?_⟩
  have s01 := step_lam S.fr.wf hP K1 T1
  have S1 := S.step s01
  have rc : codeAny (model X.prog X.w) X.A (.call (.ref g) ⟨[.ref f], []⟩) (CR L2.CX0 X.stack X.prog X.w H1 s1 Q L2.E0) s1 := by
    refine run_ofS (N := Ng) (ps := [a]) (us := [.ref f]) (vs := [.ref f]) lk hcg Sg hr I1.env0 (hb s1 [.ref f] I1.kIn rfl) (.cons rfl .nil) rfl fun hr' => ?_
    refine (fun ⟨t1, t2, t3⟩ => ⟨t1, t2.nox, t3⟩ : _ → _) (MG cdv X.A X.stack f c' _ s1 H1 Q (fun E H' Q' => ∃ Ed : Xn → Prop, lift X.K ⟨Ps.l, Ed, E⟩ (de Ed) σ H' Q') (k + 1) hgd hr' (fun W pn xe E p1 p2 tk hW => pe_act (i := 0) I1 L hf hfn hfr (hbind _ _ _ _ _) tk hW hr' (fun A outer s H hr2 => pe_ex fun Ed => hbody A outer s H E Ed f c' hr2 lam_takes) hNg hva hd1 hcd) hco ⟨Ps.l, Mk c0 hs as, hs, fun Ech Qf q1 q2 => ?_⟩)
    refine ⟨fun x => ∃ d, Wm hl x = some d ∧ Qd d, _, hs, [], _, _, S1.anew fun x cls d H' ⟨dd, w1, w2⟩ st hX => ?_, hd, fun d v H' hq st _ => ?_⟩
    · exact q2 cls d H' x dd (S1.fr.wf.step st) hX w1 fun v H2 st2 r => kk dd v H2 w2 ((s01.trans st).trans st2) r
    · exact q1 v H' (S1.fr.wf.step st) fun v H2 st2 r => kk fine v H2 hq ((s01.trans st).trans st2) r
  refine wpAny_call (codeAny_mono rc fun r s2 hq => ?_)
  cases r with
  | error e => exact (show False from hq).elim
  | ok fl =>
    cases fl with
    | ret u => exact I1.after hq
    | next => exact False.elim hq
    | brk => exact False.elim hq
    | cont => exact False.elim hq
end
end Dl
end
section
set_option Elab.async false
set_option linter.all false
set_option maxRecDepth 100000
set_option maxHeartbeats 1000000
/-! The end of a law whose defs hold generator expressions: their tables by the top. -/
namespace Dl
open PySem PySem.Spec PyProof.Rows L2 HbE Evl RZ Gx
theorem funC_mk {K : PySem.W.Frag} {x qual : Str} {st : Stmt} {c f : Addr} {oc : Value} {od an : Option Addr} {kV doc pm ct : Value} {osl : Array (Option Value)}
    (lk : K.lookup f = some ⟨oc, od, .func (PySem.W.fnOf x qual (defArgs st) (defBody st) (defScope st) .none kV doc pm an (.ref c) ct), osl⟩) (hc : PySem.W.codeIn K (.ref c) qual = true) (kp : PySem.W.keepIn K (.ref f) = true) :
    FunC K x qual st c f (PySem.W.fnOf x qual (defArgs st) (defBody st) (defScope st) .none kV doc pm an (.ref c) ct) := ⟨⟨oc, od, kV, doc, pm, an, ct, osl, rfl, lk, hc⟩, kp⟩
theorem tabB_of {base : Heap} {mg : Str → Option Value} {c P : Addr} (h : LamX.TabB base mg c P) : GxR.TabB base mg c P := ⟨h.code, h.bm, h.gP⟩
end Dl
namespace Dl
open PySem PySem.Spec PyProof.Rows L2 HbE Evl RZ Gx
theorem law_sp {K : PySem.W.Frag} {Ps : TbL} {SD : DSp} {H : Hp} {a : Addr} {ns : List Int} {E : XK} (one : ∀ p ∈ Ps, ∀ q ∈ Ps, p.1 = q.1 → p = q) (hT : ∀ p ∈ Ps, H p.1 = some (.tbl #[])) (hS : SqL K H a (ns.map V.int)) (hD : SD [.dat (.list (ns.map .int))] (fun d => d = .bool true)) :
    spOf K Ps SD [.ref a] H (fun v _ => v = .bl true) E := by
  refine ⟨fun b => b ∈ ad Ps, [], _, _, ⟨fun b hb => (ad_at hb).elim fun _ hb => (by have := hT _ hb; have this : H b = _ := this; rw [this]; simp), fun p hp => (by cases hp), fun P hP => ⟨ad_of hP, ?_⟩, one⟩, .cons ?_ .nil, hD, fun d v H' hd _ hv => ?_⟩
  · obtain ⟨P, k⟩ := P
    cases k with
    | none => exact ⟨#[], hT _ hP, True.intro⟩
    | some q => exact LamX.TabS.nil (hT _ hP)
  · refine Dp.lst (vs := ns.map V.int) ?_ DpAll.ints
    have ex : ∀ o, H a = some o → (∀ ps, o ≠ .tbl ps) → msk (fun b => b ∈ ad Ps) H a = some o := fun o e n => msk_some.mpr ⟨fun m => by
      obtain ⟨_, m⟩ := ad_at m
      have := hT _ m
      have this : H a = _ := this
      rw [e] at this
      cases this
      exact n _ rfl, e⟩
    rcases hS with hS | hS
    · rcases hS with hS | ⟨o, hS⟩
      · exact .inl (.inl (ex _ hS (fun ps z => by cases z)))
      · exact .inl (.inr ⟨o, ex _ hS (fun ps z => by cases z)⟩)
    · exact .inr hS
  · subst hd
    cases hv
    rfl
end Dl
namespace Dl
open PySem
/-- no address twice, or twice alike -/
def oneB (Ps : TbL) : Bool := Ps.all fun p => Ps.all fun q => p.1 != q.1 || p == q
theorem oneB_ok {Ps : TbL} (h : oneB Ps = true) : ∀ p ∈ Ps, ∀ q ∈ Ps, p.1 = q.1 → p = q := fun p hp q hq e => by
  have := List.all_eq_true.mp (List.all_eq_true.mp h p hp) q hq
  rw [Bool.or_eq_true] at this
  rcases this with h | h
  · rw [e] at h; simp at h
  · exact eq_of_beq h
theorem allC {α : Type} {P : α → Prop} {a : α} {l : List α} (h : P a) (k : ∀ p ∈ l, P p) : ∀ p ∈ a :: l, P p := fun p hp => (List.mem_cons.mp hp).elim (fun e => e ▸ h) (k p)
theorem allN {α : Type} {P : α → Prop} : ∀ p ∈ ([] : List α), P p := fun _ h => nomatch h
end Dl
namespace Dl
open PySem
/-- where the table of a def's code stands -/
def tabP (K : PySem.W.Frag) (x : Str) : Addr := match PySem.W.tabIn K x with
  | some p => p.2
  | none => 0
end Dl
end
section
set_option Elab.async false
set_option linter.all false
set_option maxRecDepth 100000
set_option maxHeartbeats 1000000
/-! Defs called where no guard stands, over data; the end of a law whose defs are such. -/
namespace Dl
open PySem PySem.Spec PyProof.Rows L2 HbE Evl RZ Gx HbX LamX
section
variable {P : Program} {w : World} {K : PySem.W.Frag} {mg : Str → Option Value} {base : Heap} {Ps : TbL}
theorem FnG.of {CX : CXT} {k : Nat} {f : Addr} {fd : FuncData} {ps : List Str} {sp : Sp} (F : FnOk P w K mg base CX k f fd ps sp) : FnG P w K mg base CX k f fd ps sp := ⟨F.len, fun A o s H args us vs Q E _ => F.run A o s H args us vs Q E⟩
theorem FnG.mono {CX : CXT} {j k : Nat} {f : Addr} {fd : FuncData} {ps : List Str} {sp : Sp} (F : FnG P w K mg base CX j f fd ps sp) (h : j ≤ k) : FnG P w K mg base CX k f fd ps sp := ⟨F.len, fun A o s H args us vs Q E hg hr => F.run A o s H args us vs Q E hg (hr.mono h)⟩
theorem okDG {x qual : Str} {st : Stmt} {c f : Addr} {fd : FuncData} {N ps : List Str} {k : Nat} {SD : DSp} (F : FunC K x qual st c f fd) (S : FnScope N ps (L2.defScope st)) (len : ∀ ws Q, SD ws Q → ws.length = ps.length)
    (body : ∀ (A : Around) (outer : List Env) (s : Shared) (H : Hp) (E : XK), (A.deeper (envOfC qual (L2.defScope st) s.heap.objs.size f (.ref c))).guards = some [] → Room k (A.deeper (envOfC qual (L2.defScope st) s.heap.objs.size f (.ref c))) →
      ∃ db, PSs (cxOf L2.CX0 P w K mg base N qual (L2.defScope st) f (.ref c) A outer s H E).nox (L2.defBody st) (liftS K (tx0 Ps) db) ∧ ∀ ws Qd, SD ws Qd → db { nx := fun _ => Qd .none, rt := Qd } (startD N.length ws)) :
    FnG P w K mg base L2.CX0 (k + 1) f fd ps (spOf K Ps SD) := by
  obtain ⟨oc, od, kV, doc, pm, an, ct, osl, rfl, lk, hcd⟩ := F.ex
  refine ⟨fun vs H Q E h => ?_, fun A outer s H args us vs Q E hg hr e0 hb r h => ?_⟩
  · obtain ⟨M, hs, ws, Qd, wf, p, s, _⟩ := h
    rw [paired_len p]
    exact len ws Qd s
  · obtain ⟨M, hs, ws, Qd, wf, p, sd, kk⟩ := h
    have hl : vs.length = ps.length := by rw [paired_len p]; exact len ws Qd sd
    refine run_ofS (N := N) (E := E) lk hcd S hr e0 hb r hl fun hr' => ?_
    obtain ⟨db, h1, h2⟩ := body A outer s H E hg hr'
    refine ⟨_, h1.nox, ⟨hs, M, H, msk M H⟩, hs, [], _, _, sts_start N rfl wf p (fun _ _ _ _ h => h.elim), h2 ws Qd sd, fun hs' as' σ' H' σd' T h => ?_, fun v H' d s q h => kk d v H' h s q, fun _ _ _ _ _ _ h => h.elim, fun _ _ _ _ _ _ h => h.elim⟩
    exact kk .none .non H' h T.fr.st .non
end
section
variable {X : Cx} {Ps : TX} {e : PySem.Expr} {es : List PySem.Expr} {pos p : Pos}
/-- a call where no guard stands -/
theorem pd_callG {x : Str} {f : Addr} {fd : FuncData} {ps : List Str} {SD : DSp} {k : Nat} {da : DA} (F : FnG X.prog X.w X.K X.mg X.base L2.CX0 k f fd ps (spOf X.K Ps SD)) (gd : X.A.guards = some []) (hr : Room k X.A) (hg : Gl X x) (hm : X.mg x = some (.ref f))
    (hk : PySem.W.keepIn X.K (.ref f) = true) (hb : L2.Binds X.K fd ps []) (ha : PA X (e :: es) (liftA X.K Ps da)) (hdb : (x == ("__debug__" : Str)) = false := by decide) (he : starEach (e :: es) X.env = (false, eval e X.env) :: starEach es X.env := by rfl)
    (hpl : (backTo pos (starEach es X.env)).any (·.1) = false := by rfl) : PE X (.Call (.Name x p) (e :: es) [] pos) (lift X.K Ps (dCall SD da)) := by
  refine ⟨fun pins s σ H Q I ⟨c, hs, as, σd, Qd, S, hd, kk⟩ => ?_⟩
  refine wpAny_Call_Name_kw (ld_glob I hg hm ?_ hdb)
  refine PySem.W.callWith_K (h₀ := X.base) I.ok.mod.kin hk (thn (ha.run pos pins s σ H (fun vs H1 => spOf X.K Ps SD vs H1 Q L2.E0) I ⟨c, hs, as, σd, _, S, hd, fun ws vs H1 h1 s1 r1 =>
    ⟨Mk c hs as, hs, ws, Qd, (S.step s1).fr.wf, r1, h1, fun d v H' h s r => kk d v H' h (s1.trans s) r⟩⟩) fun us s1 ⟨vs, H1, I1, r, q⟩ => ⟨I1.kIn, ?_⟩) he hpl
  have hl : us.length = ps.length := by rw [← Paired.length r]; exact F.len _ _ _ _ q
  have hbt := hb s1 us I1.kIn (by simpa using hl)
  rw [List.append_nil] at hbt
  refine wpAny_call (codeAny_mono (F.run X.A X.stack s1 H1 ⟨us, []⟩ us vs Q L2.E0 gd hr I1.env0 hbt r q) fun r s2 z => ?_)
  rcases r with e | fl
  · exact z.elim
  · cases fl with
    | ret u => exact I1.after z
    | next => exact z.elim
    | brk => exact z.elim
    | cont => exact z.elim
end
end Dl
end
section
set_option Elab.async false
set_option linter.all false
set_option maxRecDepth 100000
set_option maxHeartbeats 1000000
/-! The end of a law: its promise where no guard stands, with tables. -/
namespace Dl
open PySem PySem.Spec PyProof.Rows L2 HbE Evl RZ Gx HbX LamX
abbrev TruEnd (s₁ : Shared) : Result → Shared → Prop := fun r s' => r = .ok (.ret (.bool true)) ∧ OldK s₁.heap s'.heap ∧ s'.os = s₁.os ∧ AllBare s'.gens
theorem law_callTG {P : Program} {w : World} {K : PySem.W.Frag} {mg mb : Str → Option Value} {k : Nat} {fa a : Addr} {cs : List (Addr × Addr)} {fd : FuncData} {x : Str} {sp : Sp} {s₁ : Shared} {vs : List Value} {ns : List Int}
    (KX : K.In s₁.heap) (hns : s₁.heap.Ns mainGlobals mg) (hb : s₁.heap.Ns builtinsNs mb) (hbb : ∀ x : Str, x ≠ "__name__" → mb x = bootBuiltins x) (hlim : s₁.heap.NoLimit) (hg : s₁.gens = #[])
    (tT : ∀ p ∈ cs, s₁.heap.get? p.2 = some { cls := .none, data := .fields #[] }) (tK : ∀ p ∈ cs, K.lookup p.2 = none) (tC : ∀ p ∈ cs, PySem.W.CodeHd s₁.heap p.1 p.2)
    (hbm : ∃ (bm : Addr) (ob : Obj), mg "__builtins__" = some (.ref bm) ∧ bm ≠ builtinsNs ∧ s₁.heap.get? bm = some ob ∧ ob.cls = .type "module" ∧ ob.dict = some builtinsNs ∧ ob.data = .plain)
    (ha : s₁.heap.get? a = some { cls := .type "list", data := .seq vs.toArray }) (hi : IntsAre vs ns) (hl : ns.length ≤ sizeLine) (hr : Room k callerA)
    (F : ∀ base : Heap, K.In base → base.Ns mainGlobals mg → (∀ p ∈ cs, LamX.TabB base mg p.1 p.2) → FnG P w K mg base L2.CX0 k fa fd [x] sp) (hbind : ∀ (s : Shared) (u : Value), BindsTo s fd ⟨[u], []⟩ [(x, u)])
    (hsp : ∀ H : Hp, (∀ p ∈ cs, H p.2 = some (.tbl #[])) → SqL K H a (ns.map V.int) → sp [.ref a] H (fun v _ => v = .bl true) fun _ _ _ => False) :
    codeAny (model P w) callerA (.call (.ref fa) ⟨[.ref a], []⟩) (TruEnd s₁) s₁ := by
  have rv : Vals (ns.map V.int) vs := vals_ints hi
  have tb : ∀ {b : Addr}, b ∈ cs.map (·.2) → s₁.heap.get? b = some { cls := .none, data := .fields #[] } ∧ K.lookup b = none := fun m => by
    obtain ⟨p, hp, rfl⟩ := List.mem_map.mp m
    exact ⟨tT p hp, tK p hp⟩
  have ta : a ∉ cs.map (·.2) := fun m => by
    have z := ha.symm.trans (tb m).1
    cases z
  have core : ∀ H : Hp, (∀ p ∈ cs, H p.2 = some (.tbl #[])) → SqL K H a (ns.map V.int) → (∀ b u, H b = some u → (b ∈ cs.map (·.2) ∧ u = .tbl #[]) ∨ (b = a ∧ K.lookup a = none ∧ u = .frz { cls := .type "list", data := .seq vs.toArray } (.lst (ns.map V.int)))) →
      codeAny (model P w) callerA (.call (.ref fa) ⟨[.ref a], []⟩) (TruEnd s₁) s₁ := by
    intro H hH hS hO
    -- what is no list and no empty record is not told
    have off : ∀ {b : Addr} {o : Obj}, s₁.heap.get? b = some o → (∀ items n, o.data ≠ .seq items n) → o.data ≠ .fields #[] → H b = none := fun {b o} e d1 d2 => by
      cases q : H b with
      | none => rfl
      | some u =>
        exfalso
        rcases hO b u q with ⟨m, _⟩ | ⟨rfl, _, _⟩
        · cases e.symm.trans (tb m).1
          exact d2 rfl
        · cases e.symm.trans ha
          exact d1 _ _ rfl
    have kp : ∀ {b : Addr} {o : Obj}, s₁.heap.get? b = some o → (∀ items n, o.data ≠ .seq items n) → o.data ≠ .fields #[] → (hidT s₁.heap H).get? b = some o := fun e d1 d2 => hidT_get e (off e d1 d2)
    have kns : ∀ {b : Addr} {m : Str → Option Value}, s₁.heap.Ns b m → (hidT s₁.heap H).Ns b m := fun ⟨o, es, ep, e, d, r⟩ => ⟨o, es, ep, kp e (fun _ _ z => by rw [d] at z; cases z) (fun z => by rw [d] at z; cases z), d, r⟩
    have inK : K.In (hidT s₁.heap H) := fun b o e => hidT_get (KX b o e) (by
      cases q : H b with
      | none => rfl
      | some u =>
        rcases hO b u q with ⟨m, _⟩ | ⟨rfl, z, _⟩
        · rw [(tb m).2] at e; cases e
        · rw [z] at e; cases e)
    have hMod : L2.Mod K mg (hidT s₁.heap H) := ⟨inK, kns hns, ⟨mb, kns hb, hbb⟩, hlim.elim fun mc h => ⟨mc, kns h.1, h.2⟩⟩
    have tab : ∀ p ∈ cs, LamX.TabB (hidT s₁.heap H) mg p.1 p.2 := fun p hp => by
      obtain ⟨og, eg, epg, g1, g2, _⟩ := id hns
      have gP : mainGlobals ≠ p.2 := fun z => by
        rw [z, tT p hp] at g1
        cases g1
        cases g2
      refine ⟨?_, ?_, gP⟩
      · obtain ⟨o, us, v1, v2, v3, v4, v5, v6, v7, c1, c2, c3, c4, rest⟩ := tC p hp
        refine ⟨o, us, v1, v2, v3, v4, v5, v6, v7, kp c1 (fun _ _ z => ?_) (fun z => ?_), c2, c3, c4, rest⟩
        · cases c3.symm.trans z
        · cases c3.symm.trans z
          simp at c4
      · obtain ⟨bm, ob, b1, b2, b3, b4, b5, b6⟩ := hbm
        refine ⟨bm, ob, b1, b2, fun z => ?_, fun z => ?_, kp b3 (fun _ _ z => ?_) (fun z => ?_), b4, b5, b6⟩
        · rw [z, g1] at b3
          cases b3
          cases g2.symm.trans b6
        · rw [z, tT p hp] at b3
          cases b3
          cases b6
        · cases b6.symm.trans z
        · cases b6.symm.trans z
    have hok : HOk P w H s₁.heap := fun b u e => by
      rcases hO b u e with ⟨m, rfl⟩ | ⟨rfl, _, rfl⟩
      · exact (tb m).1
      · exact ⟨ha, by rw [List.length_map]; exact hl, vs, _, rv, ha⟩
    have e0 : Env0 P w K mg (hidT s₁.heap H) callerA [] s₁ H := ⟨rfl, hMod, fun b o e => of_hidT e, Nat.le_of_eq (hidT_size _ _), trivial, (fun b z => nomatch z), hok, .of_eq hg⟩
    refine codeAny_mono ((F _ inK (kns hns) tab).run callerA [] s₁ H ⟨[.ref a], []⟩ [.ref a] [.ref a] _ _ rfl hr e0 (hbind s₁ (.ref a)) (.cons rfl .nil) (hsp H hH hS)) fun r s' h => ?_
    rcases r with e | fl
    · exact h.elim
    · cases fl with
      | next => exact h.elim
      | brk => exact h.elim
      | cont => exact h.elim
      | ret u =>
        obtain ⟨v, H', os, bare, un, hok', rv', ev⟩ := h
        have ev : v = .bl true := ev
        subst ev
        obtain rfl : u = Value.bool true := rv'
        have grown : ∀ {b : Addr}, b ∈ cs.map (·.2) → ∃ more : Array Value, s'.heap.get? b = some { cls := .none, data := .fields more } := fun m => by
          obtain ⟨p, hp, rfl⟩ := List.mem_map.mp m
          obtain ⟨more, z⟩ := un.tbls p.2 #[] (hH p hp)
          exact ⟨_, hok' p.2 _ z⟩
        have same : ∀ {b : Addr} {o : Obj}, b ∉ cs.map (·.2) → s₁.heap.get? b = some o → s'.heap.get? b = some o := fun {b o} nm e => by
          cases q : H b with
          | none => exact un.keep b o e q (fun z => nomatch z) (fun z => nomatch z)
          | some u =>
            rcases hO b u q with ⟨m, _⟩ | ⟨rfl, _, rfl⟩
            · exact absurd m nm
            · have e2 := (hok' _ _ (un.frzs _ _ _ q)).1
              rw [ha] at e
              exact e2.trans e
        refine ⟨rfl, ⟨fun b o e => ?_, fun b o e => ?_⟩, os, bare⟩
        · by_cases m : b ∈ cs.map (·.2)
          · obtain ⟨more, hm⟩ := grown m
            obtain ⟨p, hp, rfl⟩ := List.mem_map.mp m
            cases e.symm.trans (tT p hp)
            exact .inr (.inl ⟨((tC p hp).tab (tT p hp)).isCodeTable, rfl, #[], more, rfl, by rw [Array.empty_append]; exact hm⟩)
          · exact .inl (same m e)
        · by_cases m : b ∈ cs.map (·.2)
          · obtain ⟨more, hm⟩ := grown m
            exact ⟨_, hm⟩
          · exact ⟨o, same m e⟩
  cases hk : K.lookup a with
  | some o =>
    have e := KX a o hk
    cases e.symm.trans ha
    refine core (fun b => if b ∈ cs.map (·.2) then some (.tbl #[]) else none) (fun p hp => if_pos (List.mem_map.mpr ⟨p, hp, rfl⟩)) (.inr ⟨_, vs.toArray, _, hk, rfl, rfl, rfl, by rw [List.size_toArray, hi.length]; exact hl, by simpa using rv⟩) fun b u z => ?_
    by_cases m : b ∈ cs.map (·.2)
    · exact .inl ⟨m, (Option.some.inj ((if_pos m).symm.trans z)).symm⟩
    · cases (if_neg m).symm.trans z
  | none =>
    refine core (upd (fun b => if b ∈ cs.map (·.2) then some (.tbl #[]) else none) a (.frz { cls := .type "list", data := .seq vs.toArray } (.lst (ns.map V.int)))) (fun p hp => ?_) (.inl (.inr ⟨_, upd_same⟩)) fun b u z => ?_
    · have mp : p.2 ∈ cs.map (·.2) := List.mem_map.mpr ⟨p, hp, rfl⟩
      have na : p.2 ≠ a := fun z => ta (by rw [← z]; exact mp)
      rw [upd_ne na]
      exact if_pos mp
    · by_cases e : b = a
      · rw [e, upd_same] at z
        cases z
        exact .inr ⟨e, hk, rfl⟩
      · rw [upd_ne e] at z
        by_cases m : b ∈ cs.map (·.2)
        · exact .inl ⟨m, (Option.some.inj ((if_pos m).symm.trans z)).symm⟩
        · cases (if_neg m).symm.trans z
/-- the law's promise at the head's heap -/
def LawAtG (l : PySem.W.OpenLaw) (w : World) (K : PySem.W.Frag) (k n : Nat) (x : Str) (mg : Str → Option Value) (fa : Addr) (h : Heap) : Prop :=
  ∃ (fd : FuncData) (cs : List (Addr × Addr)) (sp : Sp), (∀ p ∈ cs, h.get? p.2 = some { cls := .none, data := .fields #[] }) ∧ (∀ p ∈ cs, K.lookup p.2 = none) ∧ (∀ p ∈ cs, PySem.W.CodeHd h p.1 p.2) ∧ (∀ (s : Shared) (u : Value), BindsTo s fd ⟨[u], []⟩ [(x, u)]) ∧
    (∀ (H : Hp) (a : Addr) (ns : List Int), ns.length ≤ n → (∀ z ∈ ns, Builtin.Int.intBits z ≤ 1048576) → (∀ p ∈ cs, H p.2 = some (.tbl #[])) → SqL K H a (ns.map V.int) → sp [.ref a] H (fun v _ => v = .bl true) fun _ _ _ => False) ∧
    ∀ base : Heap, K.In base → base.Ns mainGlobals mg → (∀ p ∈ cs, LamX.TabB base mg p.1 p.2) → FnG l.prog w K mg base L2.CX0 k fa fd [x] sp
theorem walk_tabG {l : PySem.W.OpenLaw} {n k : Nat} {q : Program} {loose : List Str} {XP : (Str → Option Value) → Heap → Prop} {YP : World → Heap → Prop} {d : DefRec} {K : Params → PySem.W.Frag} {x : Str}
    (h1 : l.most = some n) (h2 : n ≤ sizeLine) (h3 : d.params.defaults = []) (h4 : Room k callerA) (inK : ∀ (w : World) (g : Heap), YP w g → (K w.params).In g)
    (F : ∀ (w : World) (mg : Str → Option Value) (fa : Addr) (g : Heap), (K w.params).In g → g.Ns mainGlobals mg → mg d.name = some (.ref fa) →
      (∀ (y : Str) (c P : Addr), ((recsOf q).find? fun e => e.name == y).isSome = true → PySem.W.tabIn (K w.params) y = some (c, P) → PySem.W.CodeHd g c P ∧ g.get? P = some { cls := .none, data := .fields #[] }) →
      LawAtG l w (K w.params) k n x mg fa g) : PySem.W.WalkO q loose XP YP l.row.toRowW d [] (fun f vs => PySem.call f vs) := by
  refine Att.attach_callB h1 h3 fun w s₀ s₁ mg mb fa o pm cd doc a vs ns G Y _ _ _ hm hobj hints hlen hb hg => ?_
  have KX := inK w _ Y
  have tabs := fun (y : Str) (c P : Addr) (hs : ((recsOf q).find? fun e => e.name == y).isSome = true) (ht : PySem.W.tabIn (K w.params) y = some (c, P)) =>
    (Option.isSome_iff_exists.mp hs).elim fun d2 hd2 => PySem.W.tab_of G.T KX hd2 ht
  obtain ⟨fd, cs, sp, a1, a2, a3, a4, a5, a6⟩ := F w mg fa _ KX G.T.g hm tabs
  exact law_callTG KX G.T.g G.T.b G.T.builtins G.T.nolimit hg a1 a2 a3 G.T.bmain hobj hints (Nat.le_trans hlen h2) h4 a6 a4 fun H hH hS => a5 H a ns hlen hb hH hS
end Dl
end
section
set_option Elab.async false
set_option linter.all false
set_option maxRecDepth 100000
set_option maxHeartbeats 1000000
/-! Functions for defs that raise, and for what tells of it. -/
namespace Dl
open PySem PySem.Spec PyProof.Rows L2 HbE Evl RZ Gx
section
variable {E : Xn → Prop} {fa : FE} {da : DE} {aa : FA} {ad : DA}
/-- a call that raises nothing -/
@[simp] def fCall0 (F : FF) (aa : FA) : FE := fun σ => (aa σ).bind fun ds => match F ds with
  | .ok d => .ok d
  | _ => .no
theorem le_call0 {F : FF} (ha : LeA (ofA E aa) ad) : LeE (ofE E (fCall0 F aa)) (dCall (ofF Dl.E0 F) ad) := fun σ Q h => ha σ _ (Sat.mono (Sat.bind h) fun ds h => ⟨ds, rfl, by
  cases q : F ds with
  | ok d => rw [q] at h; exact h
  | ex x => rw [q] at h; exact h.elim
  | no => rw [q] at h; exact h.elim⟩)
theorem les_raiseX {x : Xn} : LeS (ofS E (fRaise x)) (dRaiseX E x) := fun D σ k => k
@[simp] def fRaiseI (x f : String) (fa : FE) : FS := fun σ => (fa σ).bind fun d => .ex ⟨x, some (f, d)⟩
theorem les_raiseI {x f : String} (ha : LeE (ofE E fa) da) : LeS (ofS E (fRaiseI x f fa)) (dRaiseI E x f da) := fun D σ k => ha σ _ (Sat.mono (Sat.bind k) fun d k => k)
/-- a way that is not gone -/
@[simp] def fStuck : FS := fun _ => .no
theorem les_stuck : LeS (ofS E fStuck) dRaise := fun D σ k => k
@[simp] def fMet (hl : Hds) (fine : PyData) (fa : FE) : FE := fun σ => match fa (datOnly σ) with
  | .ok _ => .ok fine
  | .ex x => Rs.ofO (Wm hl x)
  | .no => .no
theorem le_met {hl : Hds} {fine : PyData} {de : (Xn → Prop) → DE} (h : ∀ Ed, LeE (ofE Ed fa) (de Ed)) : LeE (ofE E (fMet hl fine fa)) (dMet hl fine de) := fun σ Q k => h _ _ _ (by
  have k : (fMet hl fine fa σ).Sat E Q := k
  show (fa (datOnly σ)).Sat _ _
  unfold fMet at k
  cases q : fa (datOnly σ) with
  | ok d => rw [q] at k; exact k
  | ex x =>
    rw [q] at k
    obtain ⟨d, e1, e2⟩ := Sat.ofO k
    exact ⟨d, e1, e2⟩
  | no => rw [q] at k; exact k.elim)
/-- {} -/
def dDict0 : DE := fun _ Q => Q (.dict [])
@[simp] def fDict0 : FE := fun _ => .ok (.dict [])
theorem pss_stuck {X : Cx} {Ps : TX} {sts : List Stmt} : PSs X sts (liftS X.K Ps dRaise) := ⟨fun pins s σ H D I h => by
  obtain ⟨c, hs, as, σd, Dd, S, h, r⟩ := h
  exact h.elim⟩
end
theorem mkF_lenE {E : Xn → Prop} {n N : Nat} {fs : FS} {ws : List WD} {Q : PyData → Prop} (h : ofF E (mkF n N fs) ws Q) : ws.length = n := by
  obtain ⟨ds, rfl, h⟩ := h
  unfold mkF at h
  split at h
  · simpa using ‹ds.length = n›
  · exact h.elim
theorem mkF_puE {E : Xn → Prop} {n N : Nat} {fs : FS} {ds : DS} (h : LeS (ofS E fs) ds) {ws : List WD} {Q : PyData → Prop} (k : ofF E (mkF n N fs) ws Q) : ds { nx := fun _ => Q .none, rt := Q } (startD N ws) := by
  obtain ⟨es, rfl, k⟩ := k
  unfold mkF at k
  split at k
  · refine h _ _ (Sat.mono (Sat.bind k) fun w k => ?_)
    cases w with
    | nx σ' => exact k
    | rt d => exact k
    | bk σ' => exact k.elim
    | ct σ' => exact k.elim
  · exact k.elim
section
variable {P : Program} {w : World} {K : PySem.W.Frag} {mg : Str → Option Value} {base : Heap} {Ps : TbL}
theorem okFX {x qual : Str} {st : Stmt} {f : Addr} {fd : FuncData} {N ps : List Str} {k n : Nat} {fs : FS} (F : L2.Fun K x qual st f fd) (S : FnScope N ps (L2.defScope st)) (hn : ps.length = n)
    (body : ∀ (cdv : Value) (A : Around) (outer : List Env) (s : Shared) (H : Hp) (E : XK) (Ed : Xn → Prop), Room k (A.deeper (envOfC qual (L2.defScope st) s.heap.objs.size f cdv)) → Takes (cxOf (L2.CX P w) P w K mg base N qual (L2.defScope st) f cdv A outer s H E) (fun cls d _ H => E cls d H) →
      PassesOwn (model P w) (cxOf (L2.CX P w) P w K mg base N qual (L2.defScope st) f cdv A outer s H E).A (cxOf (L2.CX P w) P w K mg base N qual (L2.defScope st) f cdv A outer s H E).env (cxOf (L2.CX P w) P w K mg base N qual (L2.defScope st) f cdv A outer s H E).xe →
      ∃ db, PSs (cxOf (L2.CX P w) P w K mg base N qual (L2.defScope st) f cdv A outer s H E) (L2.defBody st) (liftS K ⟨Ps, Ed, E⟩ db) ∧ LeS (ofS Ed fs) db) :
    FnOk P w K mg base (L2.CX P w) (k + 1) f fd ps (spX K Ps fun E => ofF E (mkF n N.length fs)) :=
  okX F S (fun Ed ws Q h => by rw [hn]; exact mkF_lenE h) fun cdv A outer s H E Ed hr tk po => by
    obtain ⟨db, h1, h2⟩ := body cdv A outer s H E Ed hr tk po
    exact ⟨db, h1, fun ws Qd h => mkF_puE h2 h⟩
theorem okFXC {x qual : Str} {st : Stmt} {c f : Addr} {fd : FuncData} {N ps : List Str} {k n : Nat} {fs : FS} (F : FunC K x qual st c f fd) (S : FnScope N ps (L2.defScope st)) (hn : ps.length = n)
    (body : ∀ (A : Around) (outer : List Env) (s : Shared) (H : Hp) (E : XK) (Ed : Xn → Prop), Room k (A.deeper (envOfC qual (L2.defScope st) s.heap.objs.size f (.ref c))) → Takes (cxOf (L2.CX P w) P w K mg base N qual (L2.defScope st) f (.ref c) A outer s H E) (fun cls d _ H => E cls d H) →
      PassesOwn (model P w) (cxOf (L2.CX P w) P w K mg base N qual (L2.defScope st) f (.ref c) A outer s H E).A (cxOf (L2.CX P w) P w K mg base N qual (L2.defScope st) f (.ref c) A outer s H E).env (cxOf (L2.CX P w) P w K mg base N qual (L2.defScope st) f (.ref c) A outer s H E).xe →
      ∃ db, PSs (cxOf (L2.CX P w) P w K mg base N qual (L2.defScope st) f (.ref c) A outer s H E) (L2.defBody st) (liftS K ⟨Ps, Ed, E⟩ db) ∧ LeS (ofS Ed fs) db) :
    FnOk P w K mg base (L2.CX P w) (k + 1) f fd ps (spX K Ps fun E => ofF E (mkF n N.length fs)) :=
  okXC F S (fun Ed ws Q h => by rw [hn]; exact mkF_lenE h) fun A outer s H E Ed hr tk po => by
    obtain ⟨db, h1, h2⟩ := body A outer s H E Ed hr tk po
    exact ⟨db, h1, fun ws Qd h => mkF_puE h2 h⟩
theorem okFG {x qual : Str} {st : Stmt} {c f : Addr} {fd : FuncData} {N ps : List Str} {k n : Nat} {fs : FS} (F : FunC K x qual st c f fd) (S : FnScope N ps (L2.defScope st)) (hn : ps.length = n)
    (body : ∀ (A : Around) (outer : List Env) (s : Shared) (H : Hp) (E : XK), (A.deeper (envOfC qual (L2.defScope st) s.heap.objs.size f (.ref c))).guards = some [] → Room k (A.deeper (envOfC qual (L2.defScope st) s.heap.objs.size f (.ref c))) →
      ∃ db, PSs (cxOf L2.CX0 P w K mg base N qual (L2.defScope st) f (.ref c) A outer s H E).nox (L2.defBody st) (liftS K (tx0 Ps) db) ∧ LeS (ofS Dl.E0 fs) db) :
    FnG P w K mg base L2.CX0 (k + 1) f fd ps (spOf K Ps (ofF Dl.E0 (mkF n N.length fs))) :=
  okDG F S (fun ws Q h => by rw [hn]; exact mkF_len h) fun A outer s H E hg hr => by
    obtain ⟨db, h1, h2⟩ := body A outer s H E hg hr
    exact ⟨db, h1, fun ws Qd h => mkF_pu h2 h⟩
end
end Dl
end
section
set_option Elab.async false
set_option linter.all false
set_option maxRecDepth 100000
set_option maxHeartbeats 1000000
/-! More constructs over data: truth of values, x op= y, sorted. -/
namespace Dl
open PySem PySem.Spec PyProof.Rows L2 HbE Evl RZ Gx
/-! ### truth -/
def truD : PyData → Option Bool
  | .none => some false
  | .bool b => some b
  | .int i => some (i != 0)
  | .list ds => some (!ds.isEmpty)
  | .tuple ds => some (!ds.isEmpty)
  | _ => none
def dTru (de : DE) : DT := fun σ Q => de σ fun x => match truD x with
  | some b => Q b
  | none => False
theorem ptd_tru {X : Cx} {Ps : TX} {e : PySem.Expr} {de : DE} (h : PE X e (lift X.K Ps de)) (he : ∀ whole, isTrue e X.env whole = (do let v ← whole; standAt e.pos; holding [v] (truthy v)) := by intro _; rfl) : PT X e (liftT X.K Ps (dTru de)) :=
  pt_weak (pt_truth h he) fun σ H Q ⟨c, hs, as, σd, Qd, S, hd, k⟩ => ⟨c, hs, as, σd, _, S, hd, fun x v H1 h1 s1 r1 => by
    split at h1
    · rename_i b q
      have fin := k b H1 h1 s1
      have r2 := dp_mono msk_ex r1
      refine ⟨b, ?_, fin⟩
      cases r2 with
      | non => cases q; exact rfl
      | bl b => cases q; exact rfl
      | int i => cases q; exact rfl
      | str t => cases q
      | dct _ => cases q
      | dctT _ => cases q
      | lst h2 h3 =>
        cases q
        refine .inl ⟨_, h2, ?_⟩
        cases h3 <;> rfl
      | tup h2 h3 =>
        cases q
        refine .inr (.inl ⟨_, h2, ?_⟩)
        cases h3 <;> rfl
    · exact h1.elim⟩
def dTruQ (dq : DQ) : DT := fun σ Q => dq σ fun _ ds => Q (!ds.isEmpty)
/-! ### x op= y -/
def ipC (C : Int → Int → Prop) (f : Int → Int → Int) : TIp := fun x y H Q => ∃ i j, x = .int i ∧ y = .int j ∧ C i j ∧ Q (.int (f i j)) H
section
variable {X : Cx}
theorem ip_of {op : Operator} {C : Int → Int → Prop} {f : Int → Int → Int} (h : ∀ {prog : Program} {w : World} {A : Around} {E : Value → Shared → Prop} {s : Shared} {a b : Int} {t u : Tok} {Q : Value → Shared → Prop}, C a b → Q (.int (f a b) s.toks) { s with toks := s.toks + 1 } → wpAny (model prog w) A (inplaceOp op (.int a t) (.int b u)) Q E s) : PIp X op (ipC C f) := by
  intro pins s σ H x y v u Q I r1 r2 ⟨i, j, e1, e2, hc, q⟩
  subst e1; subst e2
  obtain ⟨t, rfl⟩ := r1
  obtain ⟨t', rfl⟩ := r2
  exact h hc ⟨.int _, H, I.tok _, ⟨_, rfl⟩, q⟩
theorem ipx_xor : PIp X .BitXor (ipC (fun _ _ => True) fun i j => Builtin.bitXor i j) := ip_of fun _ q => ixor_int q
theorem ipx_shr : PIp X .RShift (ipC (fun _ j => 0 ≤ j) fun i j => i / 2 ^ j.toNat) := ip_of fun hc q => irshift_int hc (by rw [Int.fdiv_eq_ediv_of_nonneg _ (two_pow_nn _)]; exact q)
end
section
variable {X : Cx} {Ps : TX} {e : PySem.Expr} {de : DE} {i : Nat} {x : Str} {pos pos' : Pos}
def dAugC (i : Nat) (C : Int → Int → Prop) (f : Int → Int → Int) (de : DE) : DS := fun D σ => match σ[i]? with
  | some (some (.dat (.int n))) => de σ fun d => match d with
    | .int m => C n m ∧ D.nx (σ.set i (some (.dat (.int (f n m)))))
    | _ => False
  | _ => False
theorem psd_augC {op : Operator} {C : Int → Int → Prop} {f : Int → Int → Int} (hN : X.N.Nodup) (hi : X.N[i]? = some x) (hx : Loc X.env.scope x) (he : PE X e (lift X.K Ps de)) (ho : PIp X op (ipC C f)) (hf : X.fn x = true ∨ X.env.scope.names.lookup x = some .local := by first | exact .inl rfl | exact .inr rfl | assumption) :
    PS X (.AugAssign (.Name x pos') op e pos) (liftS X.K Ps (dAugC i C f de)) := ps_weak (ps_aug hN hi hx he ho hf) fun D σ H ⟨c, hs, as, σd, Dd, S, h, r⟩ => by
  unfold dAugC at h
  split at h
  · rename_i n q
    obtain ⟨v, h1, h2⟩ := S.slot i _ q
    cases h2
    refine ⟨_, h1, c, hs, as, σd, _, S, h, fun d w H1 h3 s1 r1 => ?_⟩
    split at h3
    · cases r1
      exact ⟨_, _, rfl, rfl, h3.1, r.nx hs as _ H1 _ ((S.step s1).set (.dat _) (fun _ z => by cases z) (.int _)) h3.2⟩
    · exact h3.elim
  · exact h.elim
end
section
variable {E : Xn → Prop} {fa : FE} {da : DE} {fq : FQ} {dq : DQ}
def asT (d : PyData) : Rs Bool := Rs.ofO (truD d)
@[simp] theorem asT_bool (b : Bool) : asT (.bool b) = .ok b := rfl
@[simp] theorem asT_int (i : Int) : asT (.int i) = .ok (i != 0) := rfl
@[simp] theorem asT_none : asT .none = .ok false := rfl
@[simp] theorem asT_list (ds : List PyData) : asT (.list ds) = .ok (!ds.isEmpty) := rfl
@[simp] theorem asT_tuple (ds : List PyData) : asT (.tuple ds) = .ok (!ds.isEmpty) := rfl
@[simp] def fTru (fa : FE) : FT := fun σ => (fa σ).bind asT
theorem le_tru (ha : LeE (ofE E fa) da) : LeT (ofT E (fTru fa)) (dTru da) := fun σ Q h => ha σ _ (Sat.mono (Sat.bind h) fun d k => by
  obtain ⟨b, e, q⟩ := Sat.ofO k
  show match truD d with
    | some b => Q b
    | none => False
  rw [e]
  exact q)
@[simp] def fTruQ (fq : FQ) : FT := fun σ => (fq σ).bind fun p => .ok (!p.2.isEmpty)
@[simp] def fAugC (i : Nat) (c : Int → Int → Bool) (f : Int → Int → Int) (fa : FE) : FS := fun σ => match σ[i]? with
  | some (some (.dat (.int n))) => (fa σ).bind fun d => (asI d).bind fun m => if c n m = true then .ok (.nx (σ.set i (some (.dat (.int (f n m)))))) else .no
  | _ => .no
theorem les_augC {i : Nat} {C : Int → Int → Prop} {c : Int → Int → Bool} {f : Int → Int → Int} (hc : ∀ i j, c i j = true → C i j) (h : LeE (ofE E fa) da) : LeS (ofS E (fAugC i c f fa)) (dAugC i C f da) := fun D σ k => by
  unfold ofS fAugC at k
  unfold dAugC
  split at k
  · rename_i q
    (try rw [q])
    refine h σ _ (Sat.mono (Sat.bind k) fun d k2 => ?_)
    obtain ⟨m, rfl, k3⟩ := Sat.asI (Sat.bind k2)
    split at k3
    · exact ⟨hc _ _ ‹_›, k3⟩
    · exact k3.elim
  · exact k.elim
def cYes : Int → Int → Bool := fun _ _ => true
theorem cYes_ok (i j : Int) (_ : cYes i j = true) : True := trivial
end
end Dl
end
section
set_option Elab.async false
set_option linter.all false
set_option maxRecDepth 100000
set_option maxHeartbeats 1000000
/-! sorted(list) of ints, and of tuples of ints. -/
namespace Dl
open PySem PySem.Spec PyProof.Rows L2 HbE Evl RZ Gx
theorem dpAll_perm {K : PySem.W.Frag} {H : Hp} {xs ys : List V} (h : ys.Perm xs) : ∀ {ds : List PyData}, DpAll K H xs ds → ∃ es, es.Perm ds ∧ DpAll K H ys es := by
  have : ∀ {xs ys : List V}, xs.Perm ys → ∀ {ds : List PyData}, DpAll K H xs ds → ∃ es, es.Perm ds ∧ DpAll K H ys es := by
    intro xs ys h
    induction h with
    | nil => intro ds h; cases h; exact ⟨[], .refl _, .nil⟩
    | cons x _ ih =>
      intro ds h
      cases h with
      | cons h1 h2 =>
        obtain ⟨es, p, q⟩ := ih h2
        exact ⟨_ :: es, p.cons _, .cons h1 q⟩
    | swap x y l =>
      intro ds h
      cases h with
      | cons h1 h2 =>
        cases h2 with
        | cons h2 h3 => exact ⟨_, .swap _ _ _, .cons h2 (.cons h1 h3)⟩
    | trans _ _ ih1 ih2 =>
      intro ds h
      obtain ⟨es, p, q⟩ := ih1 h
      obtain ⟨fs, p2, q2⟩ := ih2 q
      exact ⟨fs, p2.trans p, q2⟩
  exact fun {ds} q => this h.symm q
def insB (B : Int) (x : List Int) : List (List Int) → List (List Int)
  | [] => [x]
  | y :: r => if decide (TS.code B x ≤ TS.code B y) = true then x :: y :: r else y :: insB B x r
def srtB (B : Int) (l : List (List Int)) : List (List Int) := l.foldr (insB B) []
def tupD : PyData → Option (List Int)
  | .tuple ds => intsD ds
  | _ => none
def tupsD : List PyData → Option (List (List Int))
  | [] => some []
  | d :: r => match tupD d, tupsD r with
    | some a, some b => some (a :: b)
    | _, _ => none
abbrev tupI (ns : List Int) : PyData := .tuple (ns.map .int)
def bdB (B : Int) (d : Nat) (nss : List (List Int)) : Bool := nss.all fun ns => ns.length == d && ns.all fun m => decide (0 ≤ m) && decide (m < B)
def topB (nss : List (List Int)) : Int := nss.foldl (fun a ns => ns.foldl max a) 0 + 1
def gSorted : Bool → List PyData → Option PyData := fun b ds => if b = true then
    match intsD ds with
    | some ns => some (.list ((PySem.W.sortI ns).map .int))
    | none => match tupsD ds with
      | some nss => if (Nat.ble nss.length 63 && (Nat.ble 1 (nss.headD []).length && bdB (topB nss) (nss.headD []).length nss)) = true then some (.list ((srtB (topB nss) nss).map tupI)) else none
      | none => none
  else none
def fSorted : Bool → List PyData → (PyData → Prop) → Prop := fun b ds Q => ∃ d, gSorted b ds = some d ∧ Q d
theorem intsD_eq : ∀ {ds : List PyData} {ns : List Int}, intsD ds = some ns → ds = ns.map .int
  | [], _, h => by cases h; rfl
  | .int i :: r, ns, h => by
    unfold intsD at h
    split at h
    · rename_i is q
      cases h
      rw [List.map_cons, intsD_eq q]
    · cases h
theorem tupsD_eq : ∀ {ds : List PyData} {nss : List (List Int)}, tupsD ds = some nss → ds = nss.map tupI
  | [], _, h => by cases h; rfl
  | d :: r, nss, h => by
    unfold tupsD at h
    split at h
    · rename_i a b q1 q2
      cases h
      unfold tupD at q1
      split at q1
      · rw [List.map_cons, tupsD_eq q2, intsD_eq q1]
      · cases q1
    · cases h
def rSortAny (K : PySem.W.Frag) : List V → Hp → VK → Prop := fun vs H Q => rSortedI K vs H Q ∨ ∃ d B, 1 ≤ d ∧ rSortU K d B vs H Q
theorem tupI_of {K : PySem.W.Frag} {H : Hp} {x : V} {ns : List Int} (h : Dp K H x (tupI ns)) : TupI K H x ns := by
  cases h with
  | tup h1 h2 => exact ⟨_, rfl, intsD_dp h2 (intsD_map ns) ▸ h1⟩
theorem dpAll_mem {K : PySem.W.Frag} {H : Hp} {vs : List V} {ds : List PyData} (h : DpAll K H vs ds) : ∀ {v : V}, v ∈ vs → ∃ d ∈ ds, Dp K H v d := by
  induction ds generalizing vs with
  | nil => cases h; intro v hv; cases hv
  | cons d ds ih =>
    cases h with
    | cons h1 h2 =>
      intro v hv
      rcases List.mem_cons.mp hv with rfl | hv
      · exact ⟨d, List.mem_cons_self, h1⟩
      · obtain ⟨e, h3, h4⟩ := ih h2 hv
        exact ⟨e, List.mem_cons_of_mem _ h3, h4⟩
theorem b_sorted : bootBuiltins "sorted" = some (.builtin "sorted") := by decide +kernel
end Dl
end
section
set_option Elab.async false
set_option linter.all false
set_option maxRecDepth 100000
set_option maxHeartbeats 1000000
namespace Dl
open PySem PySem.Spec PyProof.Rows L2 HbE Evl RZ Gx HbX LamX
def fldB (n : Nat) (hl : Hds) : Bool := hl.all fun h => match h.2.fld with | some (_, i) => decide (i < n) | none => true
theorem fld_of {n : Nat} {hl : Hds} (h : fldB n hl = true) : ∀ h ∈ hl, ∀ f i, h.2.fld = some (f, i) → i < n := fun x hx f i e => by
  have q := List.all_eq_true.mp h x hx
  simp only [e, decide_eq_true_eq] at q
  exact q
theorem qual_cx {P : Program} {w : World} {K : PySem.W.Frag} {mg : Str → Option Value} {base : Heap} {N : List Str} {q : Str} {sc : Scope} {f : Addr} {cd : Value} {A : Around} {outer : List Env} {s : Shared} {H : Hp} {E : XK} {CC : List Env → Hp → Shared → XK → Value → Shared → Prop} :
    (cxOf CC P w K mg base N q sc f cd A outer s H E).nox.env.qual = q ++ ".<locals>." := rfl
section
variable {X : Cx} {Ps : TX} {p pos lpos : Pos}
theorem pd_met2 {x a q : Str} {g c P : Addr} {k : Nat} {st : Stmt} {fd : FuncData} {Ng : List Str} {hl : Hds} {fine : PyData} {params : Arguments} {body : PySem.Expr} {scope sc : Scope} {de : (Xn → Prop) → DE}
    (hr : Room (k + 2) X.A) (hgd : X.A.guards = some []) (hg : Gl X x) (hm : X.mg x = some (.ref g)) (F : L2.Fun X.K x x st g fd) (hb : L2.Binds X.K fd [a] []) (Sg : FnScope Ng [a] (L2.defScope st)) (hNg : Ng[0]? = some a) (hva : Vis (L2.defScope st) a)
    (MG : ∀ cdg : Value, MetG X.prog X.w X.K X.mg X.base Ng x (L2.defScope st) g cdg (L2.defBody st) a hl fine)
    (TB : LamX.TabB X.base X.mg c P) (hcode : X.env.code = .ref c) (hq : X.env.qual = q) (hP : (P, some (q ++ "<lambda>")) ∈ Ps.l) (hs : X.env.scope = sc) (L : lamSB sc scope = true) (hdef : defaultsOf params X.env = ([], []))
    (hbind : ∀ (q : Str) (cl : List (Str × Addr)) (pm cv ctv : Value), bindArgs (PySem.W.kla_fn "<lambda>" q params body scope cl pm cv ctv) ⟨[], []⟩ = pure [])
    (hbody : ∀ (A : Around) (outer : List Env) (s : Shared) (H : Hp) (E : XK) (Ed : Xn → Prop) (f c' : Addr), Room k (A.deeper (lamEnv X scope s.heap.objs.size f c')) → Takes (lamCx X A outer s H E scope f c') (fun cls d _ H => E cls d H) → PE (lamCx X A outer s H E scope f c') body (lift X.K ⟨Ps.l, Ed, E⟩ (de Ed)))
    (hdb : (x == ("__debug__" : Str)) = false := by decide) (hd1 : (a == ("__debug__" : Str)) = false := by decide) (hcd : (a == ("__classdict__" : Str)) = false := by decide) :
    PE X (.Call (.Name x p) [.Lambda params body scope lpos] [] pos) (lift X.K Ps (dMet hl fine de)) := by
  subst hq hs
  exact pd_met hr hgd hg hm F hb Sg hNg hva MG TB hcode hP (lamS_by L) hdef hbind hbody hdb hd1 hcd
end
end Dl
end
section
set_option Elab.async false
set_option linter.all false
set_option maxRecDepth 100000
set_option maxHeartbeats 2000000
/-! Drawn values, and tails of statements over them. -/
namespace Dl
open PySem PySem.Spec PyProof.Rows L2 HbE Evl RZ Gx
theorem dSeq_gen {t u : DS} {D : ED} {σ : Sd} (P : Sd → Prop) (h1 : ∀ N : Sd → Prop, (∀ σ', P σ' → N σ') → t { D with nx := N } σ) (h2 : ∀ σ', P σ' → u D σ') : dSeq t u D σ := h1 (u D) h2
theorem of_tail {ft : FS} {dt : DS} (hl : LeS (ofS Dl.E0 ft) dt) {D : ED} {σ : Sd} {d : PyData} (h : ft σ = .ok (.rt d)) (q : D.rt d) : dt D σ := hl D σ (by
  show (ft σ).Sat Dl.E0 D.go
  rw [h]
  exact q)
/-- out of the drawer, one of the items -/
def SD_of : DSp := fun ws Q => ∃ ds, ws = [.hat, .dat (.list ds)] ∧ ds ≠ [] ∧ ds.length ≤ 100000 ∧ ∀ d ∈ ds, Q d
theorem fseq_nx {s u : FS} {σ σ' : Sd} {r : Rs Fw} (h : s σ = .ok (.nx σ')) (k : u σ' = r) : fSeq s u σ = r := by
  show (s σ).bind _ = r
  rw [h]
  exact k
theorem rangeE_at {n i : Nat} {d : PyData} (h : ((List.range n).map fun i : Nat => PyData.int i)[i]? = some d) : i < n ∧ d = .int i := by
  rw [List.getElem?_map] at h
  by_cases z : i < n
  · rw [List.getElem?_range z] at h
    exact ⟨z, (Option.some.inj h).symm⟩
  · rw [List.getElem?_eq_none (by simpa using z)] at h
    cases h
def AllT (P : PyData → Prop) : List PyData → Prop
  | [] => True
  | d :: ds => P d ∧ AllT P ds
theorem anN {P : PyData → Prop} : AllT P [] := True.intro
theorem anC {P : PyData → Prop} {d : PyData} {ds : List PyData} (h : P d) (k : AllT P ds) : AllT P (d :: ds) := ⟨h, k⟩
theorem anH {P : PyData → Prop} : ∀ {ds : List PyData} {d : PyData}, d ∈ ds → AllT P ds → P d
  | e :: ds, d, h, k => by
    rcases List.mem_cons.mp h with rfl | h
    · exact k.1
    · exact anH h k.2
theorem anF {P : PyData → Prop} {ds : List PyData} (k : AllT P ds) : ∀ d, d ∈ ds → P d := fun _ h => anH h k
/-- the own head of all errors -/
structure HardC (K : PySem.W.Frag) (mg : Str → Option Value) (cH : Addr) : Prop where
  g : mg "HardError" = some (.ref cH)
  s : PySem.W.specialIn K (.ref cH) "__getattribute__" = some (some (.builtin "type.__getattribute__"))
  r : PySem.W.readsIn K cH (.type "type") = true
  f : PySem.W.findCls K (.ref cH) (.type "type") "__init__" = some (.val (.builtin "ValueError.__init__"))
theorem mg_caK {K : PySem.W.Frag} {mg : Str → Option Value} {n : Str} {C : Addr} (h : PySem.W.nsIn K mainGlobals n = some (some (.ref C))) (m : mg n = some (.ref C)) : mg n = some (.ref (caK K n)) := by
  rw [caK_of h]
  exact m
end Dl
end
section
set_option Elab.async false
set_option linter.all false
set_option maxRecDepth 100000
set_option maxHeartbeats 1000000
/-! repr, strings put together, a new list ahead in x, y = .., how many unlike numbers a tuple has. -/
namespace Dl
open PySem PySem.Spec PyProof.Rows L2 HbE Evl RZ Gx HbX LamX
section
variable {K : PySem.W.Frag} {Ps : TX}
def fRepr : List PyData → (PyData → Prop) → Prop := fun ds Q => match ds with
  | [d] => shows d = true ∧ Q (.str d.shown)
  | _ => False
theorem shows_ok {d : PyData} (h : shows d = true) : d.hasDict = false ∧ d.showable = true ∧ d.depth ≤ 60 ∧ d.shown.length ≤ 100000 := by
  unfold shows at h
  rw [Bool.and_eq_true, Bool.and_eq_true, Bool.and_eq_true] at h
  obtain ⟨⟨⟨h1, h2⟩, h3⟩, h4⟩ := h
  exact ⟨by simpa using h1, h2, Nat.le_of_ble_eq_true h3, Nat.le_of_ble_eq_true h4⟩
theorem opn_repr : OpN K Ps (rRepr K) fRepr := by
  intro M hs H vs ds Qd Q wf h f k
  unfold fRepr at f
  split at f
  · rename_i d
    obtain ⟨f1, f2⟩ := f
    obtain ⟨s0, s1, s2, s3⟩ := shows_ok f1
    cases h with
    | cons h1 h2 =>
      cases h2
      exact ⟨_, d, rfl, .of ((dp_mono msk_ex h1).old s0), s1, s2, Nat.le_trans s3 (by decide), k _ _ H f2 Step.refl (.str _)⟩
  · exact f.elim
def gRepr : List PyData → Option PyData
  | [d] => if shows d = true then some (.str d.shown) else none
  | _ => none
theorem len_repr : LeOpN gRepr fRepr := fun ds d Q e q => by
  unfold gRepr at e
  split at e
  · split at e
    · rename_i h; cases e; exact ⟨h, q⟩
    · cases e
  · cases e
def fCatS : PyData → PyData → (PyData → Prop) → Prop := fun x y Q => match x, y with
  | .str a, .str b => a.length + b.length ≤ 200000 ∧ Q (.str (a ++ b))
  | _, _ => False
theorem op2_catS : Op2 K Ps rAddA fCatS := by
  intro M hs H v w x y Qd Q wf hx hy h k
  unfold fCatS at h
  split at h
  · cases hx; cases hy
    exact ⟨by rw [sizeLine_eq]; omega, k _ _ H h.2 Step.refl (.str _)⟩
  · exact h.elim
def gCatS : PyData → PyData → Option PyData := fun x y => match x, y with
  | .str a, .str b => if Nat.ble (a.length + b.length) 200000 = true then some (.str (a ++ b)) else none
  | _, _ => none
theorem leop_catS : LeOp gCatS fCatS := fun x y d Q e q => by
  unfold gCatS at e
  split at e
  · split at e
    · rename_i h; cases e; exact ⟨Nat.le_of_ble_eq_true h, q⟩
    · cases e
  · cases e
end
/-! ### a new list ahead -/
section
variable {K : PySem.W.Frag} {Ps : TX} {c : C0} {hs as : List Addr} {H H' : Hp} {σ : L2.St} {σd : Sd} {p : Addr} {i : Nat}
end
section
variable {X : Cx} {Ps : TX} {pos : Pos} {dl : DL}
def dParF (i j : Nat) (dl : DL) (da : DE) : DS := fun D σ => dl σ fun ds => da σ fun x => D.nx ((σ.set i (some (.own ds))).set j (some (.dat x)))
@[simp] def fParF (i j : Nat) (la : FA) (fa : FE) : FS := fun σ => (la σ).bind fun ds => (fa σ).bind fun x => .ok (.nx ((σ.set i (some (.own ds))).set j (some (.dat x))))
end
/-! ### len(set(t)) -/
section
def dst : List Int → List Int
  | [] => []
  | x :: r => if (dst r).elem x = true then dst r else x :: dst r
variable {X : Cx} {Ps : TX}
def tLenSetT (K : PySem.W.Frag) (ta : TE) : TE := fun σ H Q => ta σ H fun x H1 => ∃ (l : Addr) (ns : List Int), x = V.ref l ∧ SqT K H1 l (ns.map V.int) ∧ ns.length ≤ 4000 ∧ Q (.int ((dst ns).length : Nat)) H1
def dLenSet (de : DE) : DE := fun σ Q => de σ fun d => ∃ ns : List Int, d = .tuple (ns.map .int) ∧ ns.length ≤ 4000 ∧ Q (.int ((dst ns).length : Nat))
@[simp] def fLenSet (fa : FE) : FE := fun σ => (fa σ).bind fun d => match d with
  | .tuple ds => match intsD ds with
    | some ns => if Nat.ble ns.length 4000 = true then .ok (.int ((dst ns).length : Nat)) else .no
    | none => .no
  | _ => .no
end
theorem ffrz_nx {i : Nat} {u : FS} {σ σ' : Sd} {r : Rs Fw} (h : fFrz i fNext σ = .ok (.nx σ')) (k : u σ' = r) : fFrz i u σ = r := by
  unfold fFrz at h ⊢
  split at h
  · rename_i q
    simp only [fNext] at h
    injection h with h
    injection h with h
    rw [h]
    exact k
  · cases h
end Dl
end
section
set_option Elab.async false
set_option linter.all false
set_option maxRecDepth 100000
set_option maxHeartbeats 1000000
/-! any and all of a list of truths, the first place of a number. -/
namespace Dl
open PySem PySem.Spec PyProof.Rows L2 HbE Evl RZ Gx HbX LamX
section
variable {K : PySem.W.Frag} {Ps : TX}
def blsD : List PyData → Option (List Bool)
  | [] => some []
  | .bool b :: r => match blsD r with
    | some bs => some (b :: bs)
    | none => none
  | _ => none
def gAnyL : Bool → List PyData → Option PyData := fun b ds => if b = true then (blsD ds).map fun bs => .bool (bs.any id) else none
def fAnyL : Bool → List PyData → (PyData → Prop) → Prop := fun b ds Q => ∃ d, gAnyL b ds = some d ∧ Q d
def gAllL : Bool → List PyData → Option PyData := fun b ds => if b = true then (blsD ds).map fun bs => .bool (bs.all id) else none
def fAllL : Bool → List PyData → (PyData → Prop) → Prop := fun b ds Q => ∃ d, gAllL b ds = some d ∧ Q d
end
section
def idx : List Int → Int → Option Nat
  | [], _ => none
  | x :: r, i => if x = i then some 0 else (idx r i).map (· + 1)
variable {X : Cx} {Ps : TX} {apos cpos : Pos} {o e : PySem.Expr}
def dIndex (do1 de : DE) : DE := fun σ Q => do1 σ fun x => (∃ ns : List Int, x = .list (ns.map .int)) ∧ de σ fun y => ∃ (ns : List Int) (i : Int) (j : Nat), x = .list (ns.map .int) ∧ y = .int i ∧ idx ns i = some j ∧ Q (.int (j : Nat))
def asNL (x : PyData) : Rs (List Int) := match x with
  | .list ds => match intsD ds with
    | some ns => .ok ns
    | none => .no
  | _ => .no
def asPl (ns : List Int) (y : PyData) : Rs PyData := match y with
  | .int i => match idx ns i with
    | some j => .ok (.int (j : Nat))
    | none => .no
  | _ => .no
@[simp] def fIndex (fo fe : FE) : FE := fun σ => (fo σ).bind fun x => (asNL x).bind fun ns => (fe σ).bind fun y => asPl ns y
end
theorem blkOk_k {N : List Str} {sc scope : Scope} {own : List (Str × Nat)} (h : blkC N sc scope own = true) : BlkOk N sc scope own := blkOk_by h
/-- a number below the total, out of a drawer -/
def spUpR : Sp := fun vs H Q _ => ∃ (a : Addr) (o : HO) (t : Int), vs = [.ref a, .int t] ∧ H a = some o ∧ Dl.Hat o ∧ 0 < t ∧ t.natAbs.log2 < 9000 ∧
  ∀ (r : Int) o', 0 ≤ r → r < t → Dl.Hat o' → Q (.int r) (upd H a o')
theorem upd_upd2 {H : Hp} {a : Addr} {o o' : HO} : upd (upd H a o) a o' = upd H a o' := by
  funext b
  unfold upd
  split <;> rfl
section
variable {X : Cx} {Ps : TX} {pos p p1 p2 pos1 : Pos} {e : PySem.Expr} {es : List PySem.Expr}
/-- up(hat(script, spot), t) -/
def dUpHat (da : DA) (t : Int) : DE := fun σ Q => da σ fun ws => match ws with
  | [.dat (.list ds), .dat (.int k)] => (intsD ds).isSome = true ∧ (0 ≤ k ∧ k ≤ 3) ∧ ∀ r : Int, 0 ≤ r → r < t → Q (.int r)
  | _ => False
theorem pd_upHat {f g : Addr} {fd gd : FuncData} {ps qs : List Str} {k l : Nat} {da : DA} {x y : Str} {t : Int} {j : Nat}
    (G : FnOk X.prog X.w X.K X.mg X.base CX0 l g gd qs spUpR) (hr2 : Room l X.A) (hg2 : Gl X x) (hm2 : X.mg x = some (.ref g)) (hk2 : PySem.W.keepIn X.K (.ref g) = true) (hb2 : Binds X.K gd qs [])
    (F : FnOk X.prog X.w X.K X.mg X.base CX0 k f fd ps (spHatD X.K)) (hr : Room k X.A) (hg : Gl X y) (hm : X.mg y = some (.ref f)) (hk : PySem.W.keepIn X.K (.ref f) = true) (hb : Binds X.K fd ps []) (ha : PA X (e :: es) (liftA X.K Ps da))
    (t0 : 0 < t) (t1 : t.natAbs.log2 < 9000)
    (hdb2 : (x == ("__debug__" : Str)) = false := by decide) (hdb : (y == ("__debug__" : Str)) = false := by decide) (he : starEach (e :: es) X.env = (false, eval e X.env) :: starEach es X.env := by rfl) (hpl : (backTo pos1 (starEach es X.env)).any (·.1) = false := by rfl)
    (he2 : starEach [.Call (.Name y p1) (e :: es) [] pos1, .Constant (.int t) j p2] X.env = (false, eval (.Call (.Name y p1) (e :: es) [] pos1) X.env) :: starEach [.Constant (.int t) j p2] X.env := by rfl)
    (he3 : starEach [.Constant (.int t) j p2] X.env = (false, eval (.Constant (.int t) j p2) X.env) :: starEach [] X.env := by rfl) (hpl2 : (backTo pos (starEach [.Constant (.int t) j p2] X.env)).any (·.1) = false := by rfl) :
    PE X (.Call (.Name x p) [.Call (.Name y p1) (e :: es) [] pos1, .Constant (.int t) j p2] [] pos) (lift X.K Ps (dUpHat da t)) :=
  pe_weak (pe_call G hr2 hg2 hm2 hk2 hb2 .nil (E := L2.E0) pass0 (pa_cons (pe_call F hr hg hm hk hb .nil (E := L2.E0) pass0 ha hdb he hpl) (pa_cons pe_int pa_nil he3) he2) hdb2 he2 hpl2) fun σ H Q ⟨c, hs, as, σd, Qd, S, h, kk⟩ => by
    refine ⟨c, hs, as, σd, _, S, h, fun ws vs H1 h1 s1 r1 => ?_⟩
    split at h1
    · rename_i ds n
      obtain ⟨h2, h3, h4⟩ := h1
      cases r1 with
      | cons q1 q2 =>
        cases q2 with
        | cons q2 q3 =>
          cases q3
          cases q2
          cases q1 with
          | lst l1 l2 =>
            obtain ⟨ns, hns⟩ := Option.isSome_iff_exists.mp h2
            have ev := intsD_dp l2 hns
            subst ev
            obtain ⟨m, rfl⟩ : ∃ m : Nat, n = m := ⟨n.toNat, by omega⟩
            refine ⟨_, ns, m, rfl, ex_l msk_ex l1, by omega, fun q o hq ho => ⟨q, o, t, rfl, upd_same, ho, t0, t1, fun r o' r0 r1 hat' => ?_⟩⟩
            rw [upd_upd2]
            exact kk _ _ _ (h4 r r0 r1) (s1.trans (Step.of_ex (Ex.new hq))) (.int r)
    · exact h1.elim
end
end Dl
end
section
set_option Elab.async false
set_option linter.all false
set_option maxRecDepth 100000
set_option maxHeartbeats 1000000
/-! zip of two sequences of any two kinds. -/
namespace ZpM
open PySem PySem.Spec PyProof.Rows L2
open PySem.Sem (wp)
/-- a sequence of a kind, and where its iterator stands -/
def Sc (c : String) (g : Heap) (l : Addr) (us : Array Value) : Prop := ∃ o, g.get? l = some o ∧ o.cls = .type c ∧ ∃ n, o.data = .seq us n
def Ic (c : String) (g : Heap) (i l : Addr) (k : Nat) : Prop := ∃ o, g.get? i = some o ∧ o.cls = .type c ∧ o.data = .fields #[.ref l, .int k 0]
theorem Sc.mv {c : String} {g g' : Heap} {l b : Addr} {us : Array Value} (x : Sc c g l us) (e : Heap.ExtBut b g g') (n : l ≠ b) : Sc c g' l us := x.elim fun o q => ⟨o, e l o n q.1, q.2⟩
theorem Ic.mv {c : String} {g g' : Heap} {i l b : Addr} {k : Nat} (x : Ic c g i l k) (e : Heap.ExtBut b g g') (n : i ≠ b) : Ic c g' i l k := x.elim fun o q => ⟨o, e i o n q.1, q.2⟩
theorem Ic.up {c : String} {g g' : Heap} {i l : Addr} {k : Nat} (x : Ic c g i l k) (e : ∀ o, g.get? i = some o → g'.get? i = some o) : Ic c g' i l k := x.elim fun o q => ⟨o, e o q.1, q.2⟩
theorem Ic.lt {c : String} {g : Heap} {i l : Addr} {k : Nat} (x : Ic c g i l k) : i < g.objs.size := x.elim fun o q => Heap.lt_size q.1
/-- what the iterator of a kind gives -/
structure Nx (ci c : String) : Prop where
  item : ∀ {P : Program} {w : World} {A : Around} {E : Value → Shared → Prop} {s : Shared} {i l : Addr} {k : Nat} {us : Array Value} {u : Value} {Q : Value → Shared → Prop}, Ic ci s.heap i l k → Sc c s.heap l us → us[k]? = some u →
    (∀ g, Ic ci g i l (k + 1) → Heap.SameBut i s.heap g → Q u { s with heap := g }) → wpAny (model P w) A (Builtin.SmallTypes.nextOf (.ref i)) Q E s
  stop : ∀ {P : Program} {w : World} {A : Around} {E : Value → Shared → Prop} {s : Shared} {i l : Addr} {k : Nat} {us : Array Value} {Q : Value → Shared → Prop}, A.handled = none → Ic ci s.heap i l k → Sc c s.heap l us → us[k]? = none →
    (∀ g e, Heap.ExtBut i s.heap g → (∃ o, g.get? e = some o ∧ o.cls = .type "StopIteration") → E (.ref e) { s with heap := g }) → wpAny (model P w) A (Builtin.SmallTypes.nextOf (.ref i)) Q E s
theorem nx_list : Nx "list_iterator" "list" := ⟨fun a b c d => wpAny_nextOf_list_item a b c d, fun a b c d e => wpAny_nextOf_list_end a b c d e⟩
theorem nx_tuple : Nx "tuple_iterator" "tuple" := ⟨fun a b c d => RZ.nextOf_tuple_item a b c d, fun a b c d e => RZ.nextOf_tuple_end a b c d e⟩
section
variable {P : Program} {w : World} {A : Around} {E : Value → Shared → Prop} {s : Shared}
variable {ci1 c1 ci2 c2 : String} {z I O j1 j2 m1 m2 : Addr} {n1 n2 : Nat} {us ws : Array Value} {p q : Value}
variable {u v : Value}
theorem next_both {Q : Value → Shared → Prop} (N1 : Nx ci1 c1) (N2 : Nx ci2 c2) (D : ZipApart z I O j1 j2 m1 m2) (hz : IsZip s.heap z I O .none) (hI : IsPair s.heap I (.ref j1) (.ref j2)) (hO : IsPair s.heap O p q)
    (a1 : Ic ci1 s.heap j1 m1 n1) (a2 : Ic ci2 s.heap j2 m2 n2) (b1 : Sc c1 s.heap m1 us) (b2 : Sc c2 s.heap m2 ws) (e1 : us[n1]? = some u) (e2 : ws[n2]? = some v)
    (hQ : ∀ g, IsZip g z I O (rawInt s.heap.objs.size) → IsPair g O u v → Ic ci1 g j1 m1 (n1 + 1) → Ic ci2 g j2 m2 (n2 + 1) → IsPair g s.heap.objs.size u v → g.objs.size = s.heap.objs.size + 1 →
      (∀ c o, c ≠ z → c ≠ O → c ≠ j1 → c ≠ j2 → s.heap.get? c = some o → g.get? c = some o) → Q (.ref s.heap.objs.size) { s with heap := g }) :
    wpAny (model P w) A (Builtin.«zip.__next__» ⟨[.ref z], []⟩) (fun fin t => ∃ r, fin = .done (.ret r) ∧ Q r t) E s := by
  show wpAny _ _ (field (.ref z) 2 >>= _) _ _ s; refine wpAny_bind (wpAny_field hz rfl (x := .bool false) rfl ?_)
  show wpAny _ _ (field (.ref z) 3 >>= _) _ _ s; refine wpAny_bind (wpAny_field hz rfl (x := .ref I) rfl ?_); refine wpAny_bind (wpAny_seqItems hI rfl ?_)
  show wpAny _ _ (Builtin.SmallTypes.ownedTupleIsFree (.ref z) >>= _) _ _ s; refine wpAny_bind ?_; unfold Builtin.SmallTypes.ownedTupleIsFree
  refine wpAny_bind (wpAny_field hz rfl (x := .none) rfl (wpAny_pure ?_)); simp only [if_true]; refine wpAny_bind (wpAny_rule ?_)
  refine wpAny_bind (wpAny_field hz rfl (x := .ref O) rfl ?_); refine wpAny_bind (wpAny_setField_rec hz (by simp) fun ga za sa => ?_)
  replace za : IsZip ga z I O .ellipsis := za
  refine wpAny_bind ?_; simp only [List.zipIdx_cons, List.zipIdx_nil, List.forIn_cons, List.forIn_nil]
  refine wpAny_bind (wpAny_bind (wpAny_onRaise ?_)); show wpAny _ _ (Builtin.SmallTypes.nextOf (.ref j1) >>= _) _ _ _
  refine wpAny_bind (N1.item (a1.mv sa.extBut D.i1z) (b1.mv sa.extBut D.l1z) e1 fun gb ib sb => wpAny_pure ?_)
  have ob : IsPair gb O p q := sb.extBut _ _ D.TOi1 (sa.extBut _ _ D.TOz hO)
  refine wpAny_bind (wpAny_seqItems ob rfl ?_); refine wpAny_bind (wpAny_updateSeq_pair ob fun gc oc sc => ?_)
  replace oc : IsPair gc O u q := oc
  refine wpAny_bind (wpAny_letGo (wpAny_pure ?_)); refine wpAny_bind (wpAny_bind (wpAny_onRaise ?_)); show wpAny _ _ (Builtin.SmallTypes.nextOf (.ref j2) >>= _) _ _ _
  refine wpAny_bind (N2.item (((a2.mv sa.extBut D.i2z).mv sb.extBut D.i12.symm).mv sc.extBut D.TOi2.symm) (((b2.mv sa.extBut D.l2z).mv sb.extBut D.l2i1).mv sc.extBut D.l2TO) e2 fun gd id sd => wpAny_pure ?_)
  have od : IsPair gd O u q := sd.extBut _ _ D.TOi2 oc
  refine wpAny_bind (wpAny_seqItems od rfl ?_); refine wpAny_bind (wpAny_updateSeq_pair od fun ge oe se => ?_)
  replace oe : IsPair ge O u v := oe
  refine wpAny_bind (wpAny_letGo (wpAny_pure (wpAny_pure ?_))); refine wpAny_bind (wpAny_seqItems oe rfl ?_); refine wpAny_bind (wpAny_newTuple ?_)
  have size : ge.objs.size = s.heap.objs.size := by rw [se.1, sd.1, sc.1, sb.1, sa.1]
  have ze : IsZip ge z I O .ellipsis := se.extBut _ _ D.TOz.symm (sd.extBut _ _ D.i2z.symm (sc.extBut _ _ D.TOz.symm (sb.extBut _ _ D.i1z.symm za)))
  have old : ∀ c o, c ≠ z → c ≠ O → c ≠ j1 → c ≠ j2 → s.heap.get? c = some o → ge.get? c = some o := fun c o w1 w2 w3 w4 e =>
    se.extBut _ _ w2 (sd.extBut _ _ w4 (sc.extBut _ _ w2 (sb.extBut _ _ w3 (sa.extBut _ _ w1 e))))
  have i1e : Ic ci1 ge j1 m1 (n1 + 1) := ((ib.mv sc.extBut D.TOi1.symm).mv sd.extBut D.i12).mv se.extBut D.TOi1.symm
  have i2e : Ic ci2 ge j2 m2 (n2 + 1) := id.mv se.extBut D.TOi2.symm
  have zlt : z < ge.objs.size := Heap.lt_size ze
  show wpAny _ _ (Builtin.SmallTypes.ownedTupleHandOut (.ref z) (.ref ge.objs.size) >>= _) _ _ _; refine wpAny_bind ?_; unfold Builtin.SmallTypes.ownedTupleHandOut
  have zf : IsZip (ge.push { cls := .type "tuple", data := .seq #[u, v] }) z I O .ellipsis := Heap.get?_push_of_some _ ze
  refine wpAny_bind (wpAny_setField_rec zf (by simp) fun gg zg sg => ?_)
  replace zg : IsZip gg z I O (rawInt ge.objs.size) := zg
  refine wpAny_setField_rec zg (by simp) fun gh zh sh => ?_
  replace zh : IsZip gh z I O (rawInt ge.objs.size) := zh
  have up : ∀ c o, c ≠ z → ge.get? c = some o → gh.get? c = some o := fun c o n e => sh.extBut _ _ n (sg.extBut _ _ n (Heap.get?_push_of_some _ e))
  have new : IsPair gh ge.objs.size u v := sh.extBut _ _ (Nat.ne_of_gt zlt) (sg.extBut _ _ (Nat.ne_of_gt zlt) (Heap.get?_push_size _ rfl))
  have many : gh.objs.size = ge.objs.size + 1 := by rw [sh.1, sg.1, Heap.size_push]
  rw [size] at zh new many
  refine wpAny_pure ⟨_, rfl, ?_⟩; show Q (.ref ge.objs.size) _; rw [size]
  exact hQ gh zh (up _ _ D.TOz oe) (i1e.up fun o e => up _ o D.i1z e) (i2e.up fun o e => up _ o D.i2z e) new many fun c o w1 w2 w3 w4 e => up c o w1 (old c o w1 w2 w3 w4 e)
theorem next_none {Q : Fin → Shared → Prop} (hh : A.handled = none) (N1 : Nx ci1 c1) (N2 : Nx ci2 c2) (D : ZipApart z I O j1 j2 m1 m2) (hz : IsZip s.heap z I O .none) (hI : IsPair s.heap I (.ref j1) (.ref j2)) (hO : IsPair s.heap O p q)
    (a1 : Ic ci1 s.heap j1 m1 n1) (a2 : Ic ci2 s.heap j2 m2 n2) (b1 : Sc c1 s.heap m1 us) (b2 : Sc c2 s.heap m2 ws) (e : us[n1]? = none ∨ ws[n2]? = none)
    (hE : ∀ g x, (∀ c o, c ≠ z → c ≠ O → c ≠ j1 → c ≠ j2 → s.heap.get? c = some o → g.get? c = some o) → (∃ o, g.get? x = some o ∧ o.cls = .type "StopIteration") → E (.ref x) { s with heap := g }) :
    wpAny (model P w) A (Builtin.«zip.__next__» ⟨[.ref z], []⟩) Q E s := by
  show wpAny _ _ (field (.ref z) 2 >>= _) _ _ s; refine wpAny_bind (wpAny_field hz rfl (x := .bool false) rfl ?_)
  show wpAny _ _ (field (.ref z) 3 >>= _) _ _ s; refine wpAny_bind (wpAny_field hz rfl (x := .ref I) rfl ?_); refine wpAny_bind (wpAny_seqItems hI rfl ?_)
  show wpAny _ _ (Builtin.SmallTypes.ownedTupleIsFree (.ref z) >>= _) _ _ s; refine wpAny_bind ?_; unfold Builtin.SmallTypes.ownedTupleIsFree
  refine wpAny_bind (wpAny_field hz rfl (x := .none) rfl (wpAny_pure ?_)); simp only [if_true]; refine wpAny_bind (wpAny_rule ?_)
  refine wpAny_bind (wpAny_field hz rfl (x := .ref O) rfl ?_); refine wpAny_bind (wpAny_setField_rec hz (by simp) fun ga za sa => ?_)
  replace za : IsZip ga z I O .ellipsis := za
  refine wpAny_bind ?_; simp only [List.zipIdx_cons, List.zipIdx_nil, List.forIn_cons, List.forIn_nil]
  refine wpAny_bind (wpAny_bind (wpAny_onRaise ?_)); show wpAny _ _ (Builtin.SmallTypes.nextOf (.ref j1) >>= _) _ _ _
  cases e1 : us[n1]? with
  | none =>
    refine wpAny_bind (N1.stop hh (a1.mv sa.extBut D.i1z) (b1.mv sa.extBut D.l1z) e1 fun gb x sb hx => ?_)
    obtain ⟨ox, x1, x2⟩ := hx
    have zb : IsZip gb z I O .ellipsis := sb _ _ D.i1z.symm za
    have xz : x ≠ z := fun t => by subst t; rw [zb] at x1; cases x1; simp at x2
    refine wpAny_setField_rec zb (by simp) fun gc _ sc => hE gc x (fun c o w1 _ w3 _ t => sc.extBut _ _ w1 (sb _ _ w3 (sa.extBut _ _ w1 t))) ⟨ox, sc.extBut _ _ xz x1, x2⟩
  | some u =>
    have e2 : ws[n2]? = none := e.elim (fun t => by rw [e1] at t; cases t) fun t => t
    refine wpAny_bind (N1.item (a1.mv sa.extBut D.i1z) (b1.mv sa.extBut D.l1z) e1 fun gb ib sb => wpAny_pure ?_)
    have ob : IsPair gb O p q := sb.extBut _ _ D.TOi1 (sa.extBut _ _ D.TOz hO)
    refine wpAny_bind (wpAny_seqItems ob rfl ?_); refine wpAny_bind (wpAny_updateSeq_pair ob fun gc oc sc => ?_)
    refine wpAny_bind (wpAny_letGo (wpAny_pure ?_)); refine wpAny_bind (wpAny_bind (wpAny_onRaise ?_)); show wpAny _ _ (Builtin.SmallTypes.nextOf (.ref j2) >>= _) _ _ _
    refine wpAny_bind (N2.stop hh (((a2.mv sa.extBut D.i2z).mv sb.extBut D.i12.symm).mv sc.extBut D.TOi2.symm) (((b2.mv sa.extBut D.l2z).mv sb.extBut D.l2i1).mv sc.extBut D.l2TO) e2 fun gd x sd hx => ?_)
    obtain ⟨ox, x1, x2⟩ := hx
    have zd : IsZip gd z I O .ellipsis := sd _ _ D.i2z.symm (sc.extBut _ _ D.TOz.symm (sb.extBut _ _ D.i1z.symm za))
    have xz : x ≠ z := fun t => by subst t; rw [zd] at x1; cases x1; simp at x2
    refine wpAny_setField_rec zd (by simp) fun ge _ se => hE ge x (fun c o w1 w2 w3 w4 t => se.extBut _ _ w1 (sd _ _ w4 (sc.extBut _ _ w2 (sb.extBut _ _ w3 (sa.extBut _ _ w1 t))))) ⟨ox, se.extBut _ _ xz x1, x2⟩
theorem py_both {Q : Option Value → Shared → Prop} (N1 : Nx ci1 c1) (N2 : Nx ci2 c2) (D : ZipApart z I O j1 j2 m1 m2) (hz : IsZip s.heap z I O .none) (hI : IsPair s.heap I (.ref j1) (.ref j2)) (hO : IsPair s.heap O p q)
    (a1 : Ic ci1 s.heap j1 m1 n1) (a2 : Ic ci2 s.heap j2 m2 n2) (b1 : Sc c1 s.heap m1 us) (b2 : Sc c2 s.heap m2 ws) (e1 : us[n1]? = some u) (e2 : ws[n2]? = some v)
    (hQ : ∀ g, IsZip g z I O (rawInt s.heap.objs.size) → IsPair g O u v → Ic ci1 g j1 m1 (n1 + 1) → Ic ci2 g j2 m2 (n2 + 1) → IsPair g s.heap.objs.size u v → g.objs.size = s.heap.objs.size + 1 →
      (∀ c o, c ≠ z → c ≠ O → c ≠ j1 → c ≠ j2 → s.heap.get? c = some o → g.get? c = some o) → Q (some (.ref s.heap.objs.size)) { s with heap := g }) : wpAny (model P w) A (pyNext (.ref z)) Q E s := by
  have T : s.TypeIs (.ref z) "zip" := ⟨_, hz, rfl⟩
  unfold pyNext
  refine wpAny_bind (wpAny_attempt (wpAny_callSpecial?_slot (name := Str.ofString "__next__") T F.slot_zip_next (wpAny_call_entry F.slot_zip_next T F.entry_zip_next ?_ (F.args_zip_next_1 _))))
  exact next_both N1 N2 D hz hI hO a1 a2 b1 b2 e1 e2 fun g r1 r2 r3 r4 r5 r6 r7 => wpAny_pure (hQ g r1 r2 r3 r4 r5 r6 r7)
theorem py_none {Q : Option Value → Shared → Prop} (hh : A.handled = none) (N1 : Nx ci1 c1) (N2 : Nx ci2 c2) (D : ZipApart z I O j1 j2 m1 m2) (hz : IsZip s.heap z I O .none) (hI : IsPair s.heap I (.ref j1) (.ref j2)) (hO : IsPair s.heap O p q)
    (a1 : Ic ci1 s.heap j1 m1 n1) (a2 : Ic ci2 s.heap j2 m2 n2) (b1 : Sc c1 s.heap m1 us) (b2 : Sc c2 s.heap m2 ws) (e : us[n1]? = none ∨ ws[n2]? = none)
    (hQ : ∀ g, (∀ c o, c ≠ z → c ≠ O → c ≠ j1 → c ≠ j2 → s.heap.get? c = some o → g.get? c = some o) → Q none { s with heap := g }) : wpAny (model P w) A (pyNext (.ref z)) Q E s := by
  have T : s.TypeIs (.ref z) "zip" := ⟨_, hz, rfl⟩
  unfold pyNext
  refine wpAny_bind (wpAny_attempt (wpAny_callSpecial?_slot (name := Str.ofString "__next__") T F.slot_zip_next (wpAny_call_entry F.slot_zip_next T F.entry_zip_next (next_none hh N1 N2 D hz hI hO a1 a2 b1 b2 e fun g x k hx => ?_) (F.args_zip_next_1 _))))
  obtain ⟨o, x1, x2⟩ := hx
  exact wpAny_bind (wpAny_isInstance (T := "StopIteration") (b := true) ⟨o, x1, x2⟩ isSubtype_stop (wpAny_pure (hQ _ k)))
end
/-! ### zip(a, b) -/
abbrev itO (ci : String) (l : Addr) : Obj := { cls := .type ci, data := .fields #[.ref l, .int 0 0] }
abbrev g1 (ci : String) (g : Heap) (l : Addr) : Heap := g.push (itO ci l)
abbrev g2 (ci cj : String) (g : Heap) (l m : Addr) : Heap := (g1 ci g l).push (itO cj m)
abbrev g3 (ci cj : String) (g : Heap) (l m : Addr) : Heap := (g2 ci cj g l m).push { cls := .type "tuple", data := .seq #[.ref g.objs.size, .ref (g1 ci g l).objs.size] }
abbrev g4 (ci cj : String) (g : Heap) (l m : Addr) : Heap := (g3 ci cj g l m).push { cls := .type "tuple", data := .seq #[.none, .none] }
abbrev g5 (ci cj : String) (g : Heap) (l m : Addr) : Heap := (g4 ci cj g l m).push { cls := .type "zip", data := .fields #[.none, .bool false, .bool false, .ref (g2 ci cj g l m).objs.size, .ref (g3 ci cj g l m).objs.size] }
/-- zip makes its five objects -/
def Made (ci c cj d : String) : Prop := ∀ (l m : Addr) (us ws : Array Value), Meets (Builtin.«zip.__new__» ⟨[.type "zip", .ref l, .ref m], []⟩) (fun _ R s => Sc c s.heap l us ∧ Sc d s.heap m ws ∧
  R (.ok (.ret (.ref (g4 ci cj s.heap l m).objs.size))) { s with heap := g5 ci cj s.heap l m })
theorem made_lt : Made "list_iterator" "list" "tuple_iterator" "tuple" := fun l m us ws => .of_wp fun prog w A R s h => by
  obtain ⟨hp, g, d, tk, os⟩ := s
  obtain ⟨k1, k2, h⟩ := h
  have hsub := sub_zip
  have q1 : Heap.IsList (Shared.heap ⟨hp, g, d, tk, os⟩) l us := k1
  have q2 : Heap.IsTuple (Shared.heap ⟨hp.push (itO "list_iterator" l), g, d, tk, os⟩) m ws := Heap.IsTuple.push k2 _
  wp_walk using wpAny_pyIter_list q1, wpAny_pyIter_tuple q2
  exact ⟨_, rfl, h⟩
theorem made_tl : Made "tuple_iterator" "tuple" "list_iterator" "list" := fun l m us ws => .of_wp fun prog w A R s h => by
  obtain ⟨hp, g, d, tk, os⟩ := s
  obtain ⟨k1, k2, h⟩ := h
  have hsub := sub_zip
  have q1 : Heap.IsTuple (Shared.heap ⟨hp, g, d, tk, os⟩) l us := k1
  have q2 : Heap.IsList (Shared.heap ⟨hp.push (itO "tuple_iterator" l), g, d, tk, os⟩) m ws := Heap.IsList.push k2 _
  wp_walk using wpAny_pyIter_tuple q1, wpAny_pyIter_list q2
  exact ⟨_, rfl, h⟩
section
variable {P : Program} {w : World} {A : Around} {E : Value → Shared → Prop} {s : Shared} {ci c cj d : String} {l m : Addr} {us ws : Array Value}
theorem call_both {Q : Value → Shared → Prop} (M : Made ci c cj d) (k1 : Sc c s.heap l us) (k2 : Sc d s.heap m ws)
    (h : ∀ g, IsZip g (s.heap.objs.size + 4) (s.heap.objs.size + 2) (s.heap.objs.size + 3) .none → IsPair g (s.heap.objs.size + 2) (.ref s.heap.objs.size) (.ref (s.heap.objs.size + 1)) → IsPair g (s.heap.objs.size + 3) .none .none →
      Ic ci g s.heap.objs.size l 0 → Ic cj g (s.heap.objs.size + 1) m 0 → g.objs.size = s.heap.objs.size + 5 → (∀ b o, s.heap.get? b = some o → g.get? b = some o) → Q (.ref (s.heap.objs.size + 4)) { s with heap := g }) :
    wpAny (model P w) A (call (.type "zip") [.ref l, .ref m]) Q E s := by
  refine callType_new F.called_zip (by decide) (F.typeCall_zip_2 _ _) (F.newCall_zip_2 _ _) (fun obj => F.args_object_init_3 obj _ _) F.entry_zip_new (M l m us ws) ⟨k1, k2, ?_⟩
  have s1 : (g1 ci s.heap l).objs.size = s.heap.objs.size + 1 := Heap.size_push ..
  have s2 : (g2 ci cj s.heap l m).objs.size = s.heap.objs.size + 2 := by rw [Heap.size_push, s1]
  have s3 : (g3 ci cj s.heap l m).objs.size = s.heap.objs.size + 3 := by rw [Heap.size_push, s2]
  have s4 : (g4 ci cj s.heap l m).objs.size = s.heap.objs.size + 4 := by rw [Heap.size_push, s3]
  have s5 : (g5 ci cj s.heap l m).objs.size = s.heap.objs.size + 5 := by rw [Heap.size_push, s4]
  have o5 : (g5 ci cj s.heap l m).get? (g4 ci cj s.heap l m).objs.size = some _ := Heap.get?_push_size _ rfl
  have o4 : (g5 ci cj s.heap l m).get? (g3 ci cj s.heap l m).objs.size = some _ := Heap.get?_push_of_some _ (Heap.get?_push_size _ rfl)
  have o3 : (g5 ci cj s.heap l m).get? (g2 ci cj s.heap l m).objs.size = some _ := Heap.get?_push_of_some _ (Heap.get?_push_of_some _ (Heap.get?_push_size _ rfl))
  have o2 : (g5 ci cj s.heap l m).get? (g1 ci s.heap l).objs.size = some _ := Heap.get?_push_of_some _ (Heap.get?_push_of_some _ (Heap.get?_push_of_some _ (Heap.get?_push_size _ rfl)))
  have o1 : (g5 ci cj s.heap l m).get? s.heap.objs.size = some _ := Heap.get?_push_of_some _ (Heap.get?_push_of_some _ (Heap.get?_push_of_some _ (Heap.get?_push_of_some _ (Heap.get?_push_size _ rfl))))
  show _ ∧ _
  rw [s2, s3, s4] at o5
  rw [s1, s2] at o3
  rw [s3] at o4
  rw [s1] at o2
  rw [s4]
  exact ⟨⟨_, o5, rfl⟩, h _ o5 o3 o4 ⟨_, o1, rfl, rfl⟩ ⟨_, o2, rfl, rfl⟩ s5 fun b o x => Heap.get?_push_of_some _ (Heap.get?_push_of_some _ (Heap.get?_push_of_some _ (Heap.get?_push_of_some _ (Heap.get?_push_of_some _ x))))⟩
end
/-! ### for x, y in zip(a, b) -/
abbrev SQ := Hp → Addr → List V → Prop
/-- a sequence as it is told, of a kind -/
structure Get (K : PySem.W.Frag) (c : String) (S : SQ) : Prop where
  get : ∀ {X : Cx} {pins : List (Addr × Obj)} {σ : L2.St} {H : Hp} {s : Shared} {a : Addr} {xs : List V}, X.K = K → Inv X pins σ H s → S H a xs → ∃ its : List Value, Vals xs its ∧ Sc c s.heap a its.toArray
  one : ∀ {X : Cx} {pins : List (Addr × Obj)} {σ : L2.St} {H : Hp} {s : Shared} {a : Addr} {xs ys : List V}, X.K = K → Inv X pins σ H s → S H a xs → S H a ys → xs = ys
theorem get_list {K : PySem.W.Frag} : Get K "list" (SqL K) := ⟨fun e I h => by
  subst e
  obtain ⟨its, r, k, _⟩ := I.list h
  exact ⟨its, r, k.isList⟩, fun e I h k => by subst e; exact I.list_inj h k⟩
theorem get_tuple {K : PySem.W.Frag} : Get K "tuple" (SqT K) := ⟨fun e I h => by
  subst e
  obtain ⟨its, r, k, _⟩ := I.tuple h
  exact ⟨its, r, k⟩, fun e I h k => by subst e; exact I.tuple_inj h k⟩
def ItM (S T : SQ) (a b : Addr) : It :=
  ⟨fun i H => ∃ (xs ys : List V) (x y : V), S H a xs ∧ T H b ys ∧ xs[i]? = some x ∧ ys[i]? = some y,
    fun i H v H' => ∃ p x y, v = .ref p ∧ H p = none ∧ H' = upd H p (.tup [x, y]) ∧ (∀ xs, S H a xs → xs[i]? = some x) ∧ ∀ ys, T H b ys → ys[i]? = some y,
    fun i H => ∃ xs ys : List V, S H a xs ∧ T H b ys ∧ (xs.length ≤ i ∨ ys.length ≤ i)⟩
theorem five {c a b d e f : Addr} (h : c ∈ [a, b, d, e, f]) : c = a ∨ c = b ∨ c = d ∨ c = e ∨ c = f := by simpa using h
theorem turn_both {P : Program} {w : World} {K : PySem.W.Frag} {elts : List PySem.Expr} {kk : Nat} {tpos : Pos} {ci c cj d : String} {S T : SQ} {a b z I O j1 j2 : Addr} (N1 : Nx ci c) (N2 : Nx cj d) (G1 : Get K c S) (G2 : Get K d T) (D : ZipApart z I O j1 j2 a b) :
    Turn P w K (.Tuple elts kk tpos) (ItM S T a b) [z, I, O, j1, j2] z (fun i h => IsZip h z I O .none ∧ IsPair h I (.ref j1) (.ref j2) ∧ (∃ x y, IsPair h O x y) ∧ Ic ci h j1 a i ∧ Ic cj h j2 b i) where
  mem := List.mem_cons_self
  obj := fun i h st e he => by
    obtain ⟨q1, q2, ⟨x, y, q3⟩, ⟨o1, r1, _, d1⟩, ⟨o2, r2, _, d2⟩⟩ := st
    rcases five he with q | q | q | q | q <;> rw [q]
    · exact ⟨_, q1, fun v t => nomatch t⟩
    · exact ⟨_, q2, fun v t => nomatch t⟩
    · exact ⟨_, q3, fun v t => nomatch t⟩
    · exact ⟨o1, r1, fun v t => by rw [d1] at t; cases t⟩
    · exact ⟨o2, r2, fun v t => by rw [d2] at t; cases t⟩
  keep := fun i h h' st k => by
    obtain ⟨q1, q2, ⟨x, y, q3⟩, q4, q5⟩ := st
    exact ⟨k z (by simp) _ q1, k I (by simp) _ q2, ⟨x, y, k O (by simp) _ q3⟩, q4.up fun o t => k j1 (by simp) o t, q5.up fun o t => k j2 (by simp) o t⟩
  item := by
    intro X hP hw hK hc i pins s σ H E I1 hf st hg
    subst hP hw
    obtain ⟨q1, q2, ⟨x0, y0, q3⟩, q4, q5⟩ := st
    obtain ⟨xs, ys, x, y, sx, sy, hx, hy⟩ := hg
    obtain ⟨us, rv, k1⟩ := G1.get hK I1 sx
    obtain ⟨ws, rw2, k2⟩ := G2.get hK I1 sy
    obtain ⟨u, eu, ru⟩ := rv.get hx
    obtain ⟨v, ev, rw3⟩ := rw2.get hy
    have zl : z < s.heap.objs.size := Heap.lt_size q1
    refine py_both N1 N2 D q1 q2 q3 q4 q5 k1 k2 (u := u) (v := v) (by simpa using eu) (by simpa using ev) fun g t1 t2 t3 t4 t5 t6 t7 => ?_
    refine ⟨_, rfl, wpAny_letOwnedTupleGo_zip (s := { s with heap := g }) t1 fun g' z' sb => ?_⟩
    have mine : g'.get? s.heap.objs.size = some { cls := .type "tuple", data := .seq #[u, v] } := (sb.2 _ (Nat.ne_of_gt zl)).trans t5
    have okO : ObjOk X.prog X.w (upd H s.heap.objs.size (.tup [x, y])) g' s.heap.objs.size (.tup [x, y]) := ⟨by show 2 ≤ sizeLine; decide, [u, v], .cons ru (.cons rw3 .nil), ⟨_, mine, rfl, _, rfl⟩⟩
    have I2 : Inv X pins σ (upd H s.heap.objs.size (.tup [x, y])) { s with heap := g' } := I1.turnedNew (t' := s.toks) (ch := [z, I, O, j1, j2])
      (fun e o hb q => (sb.2 e (fun t => hb (by simp [t]))).trans (t7 e o (fun t => hb (by simp [t])) (fun t => hb (by simp [t])) (fun t => hb (by simp [t])) (fun t => hb (by simp [t])) q)) hf (Nat.le_refl _) okO
    refine ⟨.ref s.heap.objs.size, _, I2, rfl, ⟨_, x, y, rfl, I1.hok.fresh (Nat.le_refl _), rfl, fun l hl => by rw [G1.one hK I1 hl sx]; exact hx, fun l hl => by rw [G2.one hK I1 hl sy]; exact hy⟩, ⟨z', ?_, ⟨u, v, ?_⟩, ?_, ?_⟩, fun e he => ?_⟩
    · exact (sb.2 _ D.TIz).trans (t7 _ _ D.TIz D.TITO D.TIi1 D.TIi2 q2)
    · exact (sb.2 _ D.TOz).trans t2
    · exact t3.up fun o t => (sb.2 _ D.i1z).trans t
    · exact t4.up fun o t => (sb.2 _ D.i2z).trans t
    · have lt : e < s.heap.objs.size := by
        rcases five he with q | q | q | q | q <;> rw [q]
        · exact zl
        · exact Heap.lt_size q2
        · exact Heap.lt_size q3
        · exact q4.lt
        · exact q5.lt
      rw [upd_ne (Nat.ne_of_lt lt)]
      exact (hf e he).1
  done := by
    intro X hP hw hK hc i pins s σ H E I1 hf st hg
    subst hP hw
    obtain ⟨q1, q2, ⟨x0, y0, q3⟩, q4, q5⟩ := st
    obtain ⟨xs, ys, sx, sy, hend⟩ := hg
    obtain ⟨us, rv, k1⟩ := G1.get hK I1 sx
    obtain ⟨ws, rw2, k2⟩ := G2.get hK I1 sy
    have n1 := rv.length
    have n2 := rw2.length
    have off : us.toArray[i]? = none ∨ ws.toArray[i]? = none := hend.elim (fun t => .inl (by simp; omega)) fun t => .inr (by simp; omega)
    exact py_none (I1.ok.hd hc) N1 N2 D q1 q2 q3 q4 q5 k1 k2 off fun g k => ⟨rfl, I1.turnedL (t' := s.toks) (ch := [z, I, O, j1, j2]) (fun e o hb q =>
      k e o (fun t => hb (by simp [t])) (fun t => hb (by simp [t])) (fun t => hb (by simp [t])) (fun t => hb (by simp [t])) q) hf⟩
  self := fun A i s Q E st h => wpAny_pyIter_zip st.1 h
/-- zip of two sequences, of any kinds -/
def iZip4 (K : PySem.W.Frag) (ta : TA) : TI := fun σ H R => ta σ H fun vs H1 => ∃ a b xs ys, vs = [.ref a, .ref b] ∧ ((SqL K H1 a xs ∧ SqL K H1 b ys ∧ R (ItM (SqL K) (SqL K) a b) H1) ∨ (SqT K H1 a xs ∧ SqT K H1 b ys ∧ R (ItM (SqT K) (SqT K) a b) H1) ∨
  (SqL K H1 a xs ∧ SqT K H1 b ys ∧ R (ItM (SqL K) (SqT K) a b) H1) ∨ (SqT K H1 a xs ∧ SqL K H1 b ys ∧ R (ItM (SqT K) (SqL K) a b) H1))
theorem made_ll : Made "list_iterator" "list" "list_iterator" "list" := fun l m us ws => meets_zip_new l m us ws
theorem made_tt : Made "tuple_iterator" "tuple" "tuple_iterator" "tuple" := fun l m us ws => RZ.meets_zipT_new l m us ws
section
variable {X : Cx} {e e2 : PySem.Expr} {ta : TA} {p pos tpos : Pos} {elts : List PySem.Expr} {kk : Nat}
theorem Sc.lt {c : String} {g : Heap} {l : Addr} {us : Array Value} (x : Sc c g l us) : l < g.objs.size := x.elim fun o q => Heap.lt_size q.1
theorem zip_run {pins : List (Addr × Obj)} {σ : L2.St} {H : Hp} {s : Shared} {R : It → Hp → Prop} {ci c cj d : String} {S T : SQ} {a b : Addr} {xs ys : List V} (N1 : Nx ci c) (N2 : Nx cj d) (G1 : Get X.K c S) (G2 : Get X.K d T) (M : Made ci c cj d) (I : Inv X pins σ H s) (sx : S H a xs) (sy : T H b ys) (q : R (ItM S T a b) H) :
    wpAny (model X.prog X.w) X.A (call (.type "zip") [.ref a, .ref b]) (fun v s1 => wpAny (model X.prog X.w) X.A (pyIter v) (PIE X pins σ (.Tuple elts kk tpos) R) X.xe s1) X.xe s := by
  obtain ⟨us, rv, k1⟩ := G1.get rfl I sx
  obtain ⟨ws, rw2, k2⟩ := G2.get rfl I sy
  refine call_both M k1 k2 fun g t1 t2 t3 t4 t5 t6 t7 => wpAny_pyIter_zip t1 ?_
  have I2 : Inv X pins σ H { s with heap := g } := I.kept (t' := s.toks) t7
  refine ⟨s.heap.objs.size + 4, [s.heap.objs.size + 4, s.heap.objs.size + 2, s.heap.objs.size + 3, s.heap.objs.size, s.heap.objs.size + 1], _, _, H, rfl, I2, turn_both N1 N2 G1 G2 (PySem.W.ktu_apart s.heap.objs.size a b k1.lt k2.lt), ⟨t1, t2, ⟨_, _, t3⟩, t4, t5⟩, fun b' hb => ?_, q⟩
  have le : s.heap.objs.size ≤ b' := by
    rcases five hb with t | t | t | t | t <;> rw [t] <;> omega
  exact I.fpOk le (I.hok.fresh le)
theorem pi_zip4 (hg : Gl X "zip") (hm : X.mg "zip" = none) (ha : PA X [e, e2] ta) (hs : starEach [e, e2] X.env = (false, eval e X.env) :: starEach [e2] X.env := by rfl) (hpl : (backTo pos (starEach [e2] X.env)).any (·.1) = false := by rfl) :
    PI X (.Tuple elts kk tpos) (.Call (.Name "zip" p) [e, e2] [] pos) (iZip4 X.K ta) := by
  refine ⟨fun pins s σ H R I h => Call_ (ld_blt I hg hm PyProof.Rows.boot_zip (PyProof.Rows.callWith_type1 (thn (ha.run pos pins s σ H _ I h) fun us s1 ⟨vs, H1, I1, r1, q1⟩ => ?_) hs hpl))⟩
  obtain ⟨a, b, xs, ys, ex, q1⟩ := q1
  subst ex
  have eu : us = [.ref a, .ref b] := by
    cases r1 with
    | cons r r2 =>
      cases r2 with
      | cons r' r2 =>
        cases r2
        cases r
        cases r'
        rfl
  subst eu
  rcases q1 with ⟨x1, y1, q⟩ | ⟨x1, y1, q⟩ | ⟨x1, y1, q⟩ | ⟨x1, y1, q⟩
  · exact zip_run nx_list nx_list get_list get_list made_ll I1 x1 y1 q
  · exact zip_run nx_tuple nx_tuple get_tuple get_tuple made_tt I1 x1 y1 q
  · exact zip_run nx_list nx_tuple get_list get_tuple made_lt I1 x1 y1 q
  · exact zip_run nx_tuple nx_list get_tuple get_list made_tl I1 x1 y1 q
end
end ZpM
namespace Dl
open PySem PySem.Spec PyProof.Rows L2 HbE Evl RZ Gx ZpM
section
variable {X : Cx} {Ps : TX} {a b : PySem.Expr} {p pos : Pos} {K : PySem.W.Frag}
theorem itd_both {l : TX} {B : Hp} {S T : SQ} {p q : Addr} {xs ys : List V} {ds es : List PyData} (mS : ∀ {H H' : Hp} {a : Addr} {zs : List V}, Ex H H' → S H a zs → S H' a zs) (mT : ∀ {H H' : Hp} {a : Addr} {zs : List V}, Ex H H' → T H a zs → T H' a zs) (h1 : S B p xs) (h2 : T B q ys) (d1 : DpAll K B xs ds) (d2 : DpAll K B ys es) :
    ItD K l B (ItM S T p q) (List.zipWith (fun x y => PyData.tuple [x, y]) ds es) := fun M hs H wf e => by
  have l1 := mS msk_ex (mS e h1)
  have l2 := mT msk_ex (mT e h2)
  refine ⟨fun i d hi => ?_, xs, ys, l1, l2, ?_⟩
  · rw [List.getElem?_zipWith] at hi
    cases qx : ds[i]? with
    | none => rw [qx] at hi; simp at hi
    | some x =>
      cases qy : es[i]? with
      | none => rw [qx, qy] at hi; simp at hi
      | some y =>
        rw [qx, qy] at hi
        cases hi
        obtain ⟨v, a1, a2⟩ := d1.get qx
        obtain ⟨w, b1, b2⟩ := d2.get qy
        refine ⟨⟨xs, ys, v, w, l1, l2, a1, b1⟩, fun z H' t => ?_⟩
        obtain ⟨r, x', y', rfl, nr, rfl, f1, f2⟩ := t
        have k1 := f1 xs l1
        have k2 := f2 ys l2
        rw [a1] at k1
        rw [b1] at k2
        cases k1
        cases k2
        exact ⟨Step.of_ex (Ex.new nr), dp_newT wf nr (.cons (dp_mono e a2) (.cons (dp_mono e b2) .nil))⟩
  · have n1 := d1.len
    have n2 := d2.len
    rw [List.length_zipWith]
    omega
def dZip4 (da : DA) : DI := fun σ Q => da σ fun ws => match ws with
  | [.dat (.list ds), .dat (.list es)] => Q (List.zipWith (fun x y => PyData.tuple [x, y]) ds es)
  | [.dat (.tuple ds), .dat (.tuple es)] => Q (List.zipWith (fun x y => PyData.tuple [x, y]) ds es)
  | [.dat (.list ds), .dat (.tuple es)] => Q (List.zipWith (fun x y => PyData.tuple [x, y]) ds es)
  | [.dat (.tuple ds), .dat (.list es)] => Q (List.zipWith (fun x y => PyData.tuple [x, y]) ds es)
  | _ => False
theorem pid_zip4 {tpos : Pos} {elts : List PySem.Expr} {kk : Nat} {da : DA} (hg : Gl X "zip") (hm : X.mg "zip" = none) (ha : PA X [a, b] (liftA X.K Ps da)) (hs : starEach [a, b] X.env = (false, eval a X.env) :: starEach [b] X.env := by rfl) (hpl : (backTo pos (starEach [b] X.env)).any (·.1) = false := by rfl) :
    PI X (.Tuple elts kk tpos) (.Call (.Name "zip" p) [a, b] [] pos) (liftI X.K Ps (dZip4 da)) :=
  pi_weak (pi_zip4 hg hm ha hs hpl) fun σ H R ⟨c, hs, as, σd, Qd, S, hd, k⟩ => ⟨c, hs, as, σd, _, S, hd, fun ws vs H1 h1 s1 r1 => by
    split at h1
    · cases r1 with | cons q1 q2 => cases q2 with | cons q2 q3 => cases q3; cases q1 with | lst x1 x2 => cases q2 with | lst y1 y2 => exact ⟨_, _, _, _, rfl, .inl ⟨ex_l msk_ex x1, ex_l msk_ex y1, k _ _ H1 h1 s1 (itd_both ex_l ex_l x1 y1 x2 y2)⟩⟩
    · cases r1 with | cons q1 q2 => cases q2 with | cons q2 q3 => cases q3; cases q1 with | tup x1 x2 => cases q2 with | tup y1 y2 => exact ⟨_, _, _, _, rfl, .inr (.inl ⟨ex_t msk_ex x1, ex_t msk_ex y1, k _ _ H1 h1 s1 (itd_both ex_t ex_t x1 y1 x2 y2)⟩)⟩
    · cases r1 with | cons q1 q2 => cases q2 with | cons q2 q3 => cases q3; cases q1 with | lst x1 x2 => cases q2 with | tup y1 y2 => exact ⟨_, _, _, _, rfl, .inr (.inr (.inl ⟨ex_l msk_ex x1, ex_t msk_ex y1, k _ _ H1 h1 s1 (itd_both ex_l ex_t x1 y1 x2 y2)⟩))⟩
    · cases r1 with | cons q1 q2 => cases q2 with | cons q2 q3 => cases q3; cases q1 with | tup x1 x2 => cases q2 with | lst y1 y2 => exact ⟨_, _, _, _, rfl, .inr (.inr (.inr ⟨ex_t msk_ex x1, ex_l msk_ex y1, k _ _ H1 h1 s1 (itd_both ex_t ex_l x1 y1 x2 y2)⟩))⟩
    · exact h1.elim⟩
def gZip4 : List PyData → Rs (List PyData)
  | [.list ds, .list es] => .ok (List.zipWith (fun x y => PyData.tuple [x, y]) ds es)
  | [.tuple ds, .tuple es] => .ok (List.zipWith (fun x y => PyData.tuple [x, y]) ds es)
  | [.list ds, .tuple es] => .ok (List.zipWith (fun x y => PyData.tuple [x, y]) ds es)
  | [.tuple ds, .list es] => .ok (List.zipWith (fun x y => PyData.tuple [x, y]) ds es)
  | _ => .no
@[simp] def fZip4 (aa : FA) : FA := fun σ => (aa σ).bind gZip4
theorem le_zip4 {E : Xn → Prop} {aa : FA} {ad : DA} (ha : LeA (ofA E aa) ad) : LeI (ofI E (fZip4 aa)) (dZip4 ad) := fun σ Q h => ha σ _ (Sat.mono (Sat.bind h) fun ds h => by
  unfold gZip4 at h
  split at h
  · exact h
  · exact h
  · exact h
  · exact h
  · exact h.elim)
end
end Dl
end
section
set_option Elab.async false
set_option linter.all false
set_option maxRecDepth 100000
/-! the difference of two truths -/
namespace Dl
open PySem PySem.Spec PyProof.Rows L2 HbE Evl RZ Gx
def rSubA : R2 := fun x y H Q => match x, y with
  | .int i, .int j => Q (.int (i - j)) H
  | .bl a, .bl b => Q (.int (b2i a - b2i b)) H
  | _, _ => False
variable {K : PySem.W.Frag} {Ps : TX}
def fSubA : PyData → PyData → (PyData → Prop) → Prop := fun x y Q => match x, y with
  | .int i, .int j => Q (.int (i - j))
  | .bool a, .bool b => Q (.int (b2i a - b2i b))
  | _, _ => False
def gSubA : PyData → PyData → Option PyData := fun x y => match x, y with
  | .int i, .int j => some (.int (i - j))
  | .bool a, .bool b => some (.int (b2i a - b2i b))
  | _, _ => none
@[simp] theorem gSubA_int (i j : Int) : gSubA (.int i) (.int j) = some (.int (i - j)) := rfl
/-! ### a, b, .. = a sequence -/
section
variable {X : Cx} {Ps : TX} {es : List PySem.Expr} {ts : List Nat} {pos : Pos}
theorem pg_or {e : PySem.Expr} {t u : TG} (h : PG X e t) (k : PG X e u) : PG X e (fun v σ H Q => t v σ H Q ∨ u v σ H Q) := ⟨fun pins s σ H v a Q I r q => q.elim (h.run pins s σ H v a Q I r) (k.run pins s σ H v a Q I r)⟩
def gSeqD (n : Nat) (t : DGs) : DG := fun d σ Q => match d with
  | .tuple ds => ds.length = n ∧ t ds σ Q
  | .list ds => ds.length = n ∧ t ds σ Q
  | _ => False
theorem pgd_seq {k0 n : Nat} {t : DGs} (hc : X.calm = true) (h : PGs X es (liftGs X.K Ps ts t)) (hn : (assignEach es X.env).length = n := by rfl) (hst : (assignEach es X.env).findIdx? (·.1) = none := by rfl) : PG X (.Tuple es k0 pos) (liftG X.K Ps ts (gSeqD n t)) :=
  pg_weak (pg_or (pg_tup hc h hn hst) (L2.pg_lst hc h hn hst)) fun v σ H Q ⟨c, hs, as, σd, d, Qd, S, hd, hg, k⟩ => by
    unfold gSeqD at hg
    split at hg
    · cases hd with
      | tup h1 h2 => exact .inl ⟨_, _, rfl, ex_t msk_ex h1, by rw [h2.len]; exact hg.1, c, hs, as, σd, _, _, S, h2, hg.2, k⟩
    · cases hd with
      | lst h1 h2 => exact .inr ⟨_, _, rfl, ex_l msk_ex h1, by rw [h2.len]; exact hg.1, c, hs, as, σd, _, _, S, h2, hg.2, k⟩
    · exact hg.elim
@[simp] def fgSeq (n : Nat) (gs : FGs) : FG := fun d σ => match d with
  | .tuple ds => if ds.length = n then gs ds σ else .no
  | .list ds => if ds.length = n then gs ds σ else .no
  | _ => .no
theorem le_gSeq {E : Xn → Prop} {n : Nat} {gs : FGs} {dgs : DGs} (h : LeGs (ofGs E gs) dgs) : LeG (ofG E (fgSeq n gs)) (gSeqD n dgs) := fun d σ Q k => by
  unfold ofG fgSeq at k
  split at k
  · split at k
    · exact ⟨‹_›, h _ _ _ k⟩
    · exact k.elim
  · split at k
    · exact ⟨‹_›, h _ _ _ k⟩
    · exact k.elim
  · exact k.elim
end
end Dl
end
section
set_option maxRecDepth 100000
set_option maxHeartbeats 1000000
set_option Elab.async false
set_option linter.all false
/-! some[turn % len(some)], for some in several lists. -/
namespace Dl
open PySem PySem.Spec PyProof.Rows L2 HbE Evl RZ Gx
def pick (t : Nat) : PyData → PyData
  | .list ds => ds.getD (t % ds.length) .none
  | d => d
theorem pick_list {t : Nat} {ds : List PyData} (h : 0 < ds.length) : pick t (.list ds) = ds[t % ds.length]'(Nat.mod_lt _ h) := by
  show ds.getD (t % ds.length) PyData.none = _
  rw [List.getD_eq_getElem?_getD, List.getElem?_eq_getElem (Nat.mod_lt _ h)]
  rfl
theorem pick_step {σ0 : Sd} {t i : Nat} (h0 : σ0[0]? = some (some (.dat (.int t)))) (hi : i < σ0.length) (h1 : 0 < i) {ds : List PyData} (h : 0 < ds.length) (hl : ds.length ≤ 100000) :
    ((fgSet i (.list ds) σ0).bind fun σ2 => fIx (fVarQ i) (fOp (gI cPos fun a b => .int (a % b)) (fVar 0) (fOpQ gLen (fVarQ i))) σ2) = .ok (pick t (.list ds)) := by
  have e1 : (σ0.set i (some (.dat (.list ds))))[i]? = some (some (.dat (.list ds))) := by rw [List.getElem?_set_self hi]
  have e2 : (σ0.set i (some (.dat (.list ds))))[0]? = some (some (.dat (.int t))) := by rw [List.getElem?_set_ne (by omega)]; exact h0
  have lt : t % ds.length < ds.length := Nat.mod_lt _ h
  have z : ((t : Int) % (ds.length : Int)) = ((t % ds.length : Nat) : Int) := by omega
  have p : (0 : Int) < (ds.length : Int) := by omega
  simp only [fgSet, Rs.bind, fIx, fVarQ, fOp, fVar, fOpQ, gLen, gI, e1, e2, Rs.ofO, cPos, p, decide_true, if_true]
  rw [z, asI_int]
  show Rs.ofO (atI ds _) = _
  rw [atI_at (List.getElem?_eq_getElem lt)]
  rw [pick_list h]
  rfl
def okL : PyData → Bool
  | .list ds => decide (0 < ds.length) && Nat.ble ds.length 100000
  | _ => false
theorem pick_all {it : FA} {σ : Sd} {t i : Nat} {ds : List PyData} (e : it σ = .ok ds) (hl : lim ds.length = true) (h0 : (wipeD σ [i])[0]? = some (some (.dat (.int t)))) (hi : i < (wipeD σ [i]).length) (h1 : 0 < i) (h : ds.all okL = true) :
    fLc it (fgSet i) fYes (fIx (fVarQ i) (fOp (gI cPos fun a b => .int (a % b)) (fVar 0) (fOpQ gLen (fVarQ i)))) [i] σ = .ok (ds.map (pick t)) := by
  have q := lcF_ok (g := fgSet i) (e := fIx (fVarQ i) (fOp (gI cPos fun a b => .int (a % b)) (fVar 0) (fOpQ gLen (fVarQ i)))) (σ0 := wipeD σ [i]) (ds := ds) (f := pick t) fun d hd => by
    have o := List.all_eq_true.mp h d hd
    cases d with
    | list l =>
      simp only [okL, Bool.and_eq_true, decide_eq_true_eq] at o
      exact pick_step h0 hi h1 o.1 (Nat.le_of_ble_eq_true o.2)
    | _ => simp [okL] at o
  simp only [fLc, e, Rs.bind, hl, q, if_true]
theorem pick_mem {t : Nat} {ds : List PyData} (h : 0 < ds.length) : pick t (.list ds) ∈ ds := by
  rw [pick_list h]
  exact List.getElem_mem _
theorem call0_at {F : FF} {aa : FA} {σ : Sd} {ds : List PyData} {d : PyData} (h : aa σ = .ok ds) (k : F ds = .ok d) : fCall0 F aa σ = .ok d := by
  simp only [fCall0, h, Rs.bind, k]
theorem asg_at {g : FG} {fa : FE} {σ σ' : Sd} {d : PyData} (h : fa σ = .ok d) (k : g d σ = .ok σ') : fAsgG g fa σ = .ok (.nx σ') := by
  simp only [fAsgG, h, Rs.bind, k]
theorem cons_at {fa : FE} {aa : FA} {σ : Sd} {d : PyData} {ds : List PyData} (h : fa σ = .ok d) (k : aa σ = .ok ds) : fCons fa aa σ = .ok (d :: ds) := by
  simp only [fCons, h, k, Rs.bind]
end Dl
end
section
set_option Elab.async false
set_option linter.all false
set_option maxRecDepth 100000
set_option maxHeartbeats 1000000
/-! A loop over functions of the module, and a call of the loop's name; calls without arguments. -/
namespace Dl
open PySem PySem.Spec PyProof.Rows L2 HbE Evl RZ Gx HbX LamX
/-- functions of the module, by name -/
inductive FnsAt (K : PySem.W.Frag) : List V → List Str → Prop
  | nil : FnsAt K [] []
  | cons {f : Addr} {n : Str} {vs : List V} {ns : List Str} : PySem.W.nsIn K mainGlobals n = some (some (.ref f)) → FnsAt K vs ns → FnsAt K (.ref f :: vs) (n :: ns)
theorem FnsAt.get {K : PySem.W.Frag} : ∀ {vs : List V} {ns : List Str} {i : Nat} {n : Str}, FnsAt K vs ns → ns[i]? = some n → ∃ f, vs[i]? = some (.ref f) ∧ PySem.W.nsIn K mainGlobals n = some (some (.ref f))
  | _, _, 0, _, .cons h _, e => by cases e; exact ⟨_, rfl, h⟩
  | _, _, i + 1, _, .cons _ h, e => by
    obtain ⟨f, e1, e2⟩ := h.get (i := i) (by simpa using e)
    exact ⟨f, by simpa using e1, e2⟩
theorem FnsAt.len {K : PySem.W.Frag} {vs : List V} {ns : List Str} (h : FnsAt K vs ns) : vs.length = ns.length := by
  induction h with
  | nil => rfl
  | cons _ _ ih => simp [ih]
def tVs (vs : List V) : TA := fun _ H Q => Q vs H
section
variable {X : Cx} {es : List PySem.Expr} {p pos : Pos}
end
def ItN (K : PySem.W.Frag) (Ps : TX) (B : Hp) (J : It) (ns : List Str) : Prop := ∀ (M : Addr → Prop) (hs : List Addr) (H : Hp), Wf Ps M hs H → Ex B (msk M H) →
  (∀ i n, ns[i]? = some n → J.go i H ∧ ∀ x H', J.yld i H x H' → H' = H ∧ ∃ f, x = .ref f ∧ PySem.W.nsIn K mainGlobals n = some (some (.ref f))) ∧ J.stop ns.length H
def forN (i : Nat) (tb : DS) (D : ED) : List Str → Sd → Prop
  | [], σ => D.nx σ
  | n :: ns, σ => tb { D with nx := forN i tb D ns, ct := forN i tb D ns, bk := D.nx } (σ.set i (some (.fn n)))
def dForN (i : Nat) (ns : List Str) (tb : DS) : DS := fun D σ => forN i tb D ns σ
section
variable {X : Cx} {Ps : TX} {tg : PySem.Expr} {bd : List Stmt} {es : List PySem.Expr} {p pos : Pos} {k0 i : Nat} {ns : List Str} {vs : List V}
end
/-! ### a call of a name that holds one of several functions -/
structure Held1 (P : Program) (w : World) (K : PySem.W.Frag) (mg : Str → Option Value) (base : Heap) (Ps : TbL) (k : Nat) (n : Str) (F : FF) : Prop where
  ex : ∃ (f : Addr) (fd : FuncData) (ps : List Str) (l : Nat), FnOk P w K mg base (L2.CX P w) l f fd ps (spX K Ps fun E => ofF E F) ∧ l ≤ k ∧ PySem.W.nsIn K mainGlobals n = some (some (.ref f)) ∧ PySem.W.keepIn K (.ref f) = true ∧ Binds K fd ps []
def HeldN (P : Program) (w : World) (K : PySem.W.Frag) (mg : Str → Option Value) (base : Heap) (Ps : TbL) (k : Nat) (tab : List (Str × FF)) : Prop := ∀ n F, tab.lookup n = some F → Held1 P w K mg base Ps k n F
section
variable {P : Program} {w : World} {K : PySem.W.Frag} {mg : Str → Option Value} {base : Heap} {Ps : TbL} {k : Nat}
end
def dCallV (Ed : Xn → Prop) (i : Nat) (tab : List (Str × FF)) (da : DA) : DE := fun σ Q => ∃ n F, σ[i]? = some (some (.fn n)) ∧ tab.lookup n = some F ∧ da σ fun ws => ofF Ed F ws Q
section
variable {X : Cx} {Ps : TX} {e : PySem.Expr} {es : List PySem.Expr} {p pos : Pos}
end
/-! ### as functions -/
section
variable {E : Xn → Prop}
def forNF (i : Nat) (b : FS) : List Str → FS
  | [], σ => .ok (.nx σ)
  | n :: ns, σ => (b (σ.set i (some (.fn n)))).bind fun w => match w with
    | .nx σ' => forNF i b ns σ'
    | .ct σ' => forNF i b ns σ'
    | .bk σ' => .ok (.nx σ')
    | .rt d => .ok (.rt d)
@[simp] def fForN (i : Nat) (ns : List Str) (b : FS) : FS := fun σ => forNF i b ns σ
@[simp] def fCallV (i : Nat) (tab : List (Str × FF)) (aa : FA) : FE := fun σ => match σ[i]? with
  | some (some (.fn n)) => match tab.lookup n with
    | some F => (aa σ).bind F
    | none => .no
  | _ => .no
end
/-! ### a, b, c = x, [..], y -/
section
variable {X : Cx} {Ps : TX} {pos : Pos} {dl : DL}
def dPar3M (i j l : Nat) (da : DE) (dl : DL) (db : DE) : DS := fun D σ => da σ fun x => dl σ fun ds => db σ fun y => D.nx (((σ.set i (some (.dat x))).set j (some (.own ds))).set l (some (.dat y)))
@[simp] def fPar3M (i j l : Nat) (fa : FE) (la : FA) (fb : FE) : FS := fun σ => (fa σ).bind fun x => (la σ).bind fun ds => (fb σ).bind fun y => .ok (.nx (((σ.set i (some (.dat x))).set j (some (.own ds))).set l (some (.dat y))))
end
end Dl
end
section
set_option Elab.async false
set_option linter.all false
set_option maxRecDepth 100000
set_option maxHeartbeats 1000000
/-! Steps of tails: a pick by a turn, a loop over a known list. -/
namespace Dl
open PySem PySem.Spec PyProof.Rows L2 HbE Evl RZ Gx
theorem set_at {i : Nat} {fa : FE} {σ σ' : Sd} {d : PyData} (h : fa σ = .ok d) (k : σ.set i (some (.dat d)) = σ') : fSet i fa σ = .ok (.nx σ') := by
  rw [← k]
  simp only [fSet, h, Rs.bind]
/-! ### tuples of names and cells, a new list among the values -/
section
variable {X : Cx} {Ps : TX} {pos : Pos} {dl : DL}
end
end Dl
end
section
set_option Elab.async false
set_option linter.all false
set_option maxRecDepth 100000
set_option maxHeartbeats 1000000
/-! Comprehensions with two for. -/
namespace Dl
open PySem PySem.Spec PyProof.Rows L2 HbE Evl RZ Gx
def OwnIn (σ2 σ : Sd) : Prop := ∀ (i : Nat) (es : List PyData), σ2[i]? = some (some (.own es)) → σ[i]? = some (some (.own es))
/-- a target that makes no list of the def's own -/
def OwnG (g : DG) : Prop := ∀ d σ Q, g d σ Q → g d σ fun σ2 => Q σ2 ∧ OwnIn σ2 σ
def OwnGs (g : DGs) : Prop := ∀ ds σ Q, g ds σ Q → g ds σ fun σ2 => Q σ2 ∧ OwnIn σ2 σ
theorem own_set {i : Nat} : OwnG (gSet i) := fun d σ Q q => ⟨q, fun j es e => by
  rcases set_get e with ⟨_, z⟩ | ⟨_, e⟩
  · cases z
  · exact e⟩
def MonG (g : DG) : Prop := ∀ d σ Q Q', g d σ Q → (∀ s, Q s → Q' s) → g d σ Q'
def MonGs (g : DGs) : Prop := ∀ d σ Q Q', g d σ Q → (∀ s, Q s → Q' s) → g d σ Q'
def lc2D (g : DG) (tt : DT) (di1 : DI) (g1 : DG) (tt1 : DT) (te : DE) (vs1 : List Nat) (σ0 : Sd) (Q : List PyData → Prop) : List PyData → List PyData → Prop
  | [], acc => Q acc
  | d :: ds, acc => g d σ0 fun σ2 => tt σ2 fun b => if b = true then di1 σ2 fun es => acc.length + es.length ≤ 100000 ∧ lcD g1 tt1 te (wipeD σ2 vs1) (fun acc2 => lc2D g tt di1 g1 tt1 te vs1 σ0 Q ds acc2) es acc
    else lc2D g tt di1 g1 tt1 te vs1 σ0 Q ds acc
def dLc2 (di : DI) (g : DG) (tt : DT) (di1 : DI) (g1 : DG) (tt1 : DT) (te : DE) (vs vs1 : List Nat) : DL := fun σ Q => di σ fun ds => lc2D g tt di1 g1 tt1 te vs1 (wipeD σ vs) Q ds []
theorem wipe_wipe {σ : L2.St} {vs : List Nat} : wipe (wipe σ vs) vs = wipe σ vs := wipe_ext (by rw [wipe_length]) fun j hj => wipe_out hj
theorem lift_lc2 {K : PySem.W.Frag} {Ps : TX} {di di1 : DI} {g g1 : DG} {tt tt1 : DT} {te : DE} {ts ts1 vs vs1 : List Nat} {σ : L2.St} {H : Hp} {Q : VK} (og : OwnG g) (hts : ∀ t ∈ ts, t ∈ vs) (hts1 : ∀ t ∈ ts1, t ∈ vs1) (h : liftN K Ps (dLc2 di g tt di1 g1 tt1 te vs vs1) σ H Q) :
    tLc2 (liftI K Ps di) (liftG K Ps ts g) (liftT K Ps tt) (liftI K Ps di1) (liftG K Ps ts1 g1) (liftT K Ps tt1) (lift K Ps te) vs vs1 σ H Q := by
  obtain ⟨c, hs, as, σd, Qd, S, h, k⟩ := h
  refine ⟨c, hs, as, σd, _, S, h, fun ds J H1 h1 s1 it D hD => ?_⟩
  have T := S.step s1
  have s2 : Step hs Ps H1 (upd H1 D (.lst [])) := Step.of_ex (Ex.new hD)
  have U := (T.beside s2 hD upd_same).wipe vs
  have exB : Ex (msk (Mk c hs as) H1) (msk (Mk c hs (D :: as)) (upd H1 D (.lst []))) := ex_own T.fr s2 hD
  have npD : ∀ (i : Nat) (es : List PyData), σd[i]? = some (some (.own es)) → σ[i]? ≠ some (some (.ref D)) := fun j es q z => by
    obtain ⟨v, q1, a, us, rfl, ha, q2, _⟩ := T.slot j _ q
    rw [q1] at z
    cases z
    rw [hD] at q2; cases q2
  have npW : ∀ (i : Nat) (es : List PyData), (wipeD σd vs)[i]? = some (some (.own es)) → (wipe σ vs)[i]? ≠ some (some (.ref D)) := fun j es q1 q2 => by
    obtain ⟨q3, q4⟩ := wipeD_some q1
    rw [wipe_out q4] at q2
    exact npD j es q3 q2
  -- a heap that keeps all but D keeps what stood ahead of the comprehension
  have upS : ∀ {H4 : Hp} {acc acc2 : List V}, Step hs Ps H H4 → H4 D = some (.lst acc) → (D ∉ hs) → (D ∉ ad Ps.l) → Step hs Ps H (upd H4 D (.lst acc2)) := fun {H4 acc acc2} sH4 hl dh dp => by
    refine ⟨fun a o q n1 n2 => ?_, fun p hp q => ?_, fun P hP q => ?_⟩
    · have na : a ≠ D := fun z => by
        have : H D ≠ none := by rw [← z, q]; simp
        exact absurd hD (s1.some S.fr.wf this)
      rw [upd_ne na]
      exact sH4.keep a o q n1 n2
    · have na : p ≠ D := fun z => dh (z ▸ hp)
      rw [upd_ne na]
      exact sH4.hat p hp q
    · have na : P.1 ≠ D := fun z => dp (z ▸ ad_of hP)
      exact (sH4.tab P hP q).keep (upd_ne na) fun c q z => by rw [upd_ne fun y => codeO_lst (by rw [y] at z; exact Option.some.inj (z.symm.trans hl))]; exact z
  refine ⟨fun i m H' => i + m = ds.length ∧ ∃ acc accd, Sts K Ps c hs (D :: as) (wipe σ vs) H' (wipeD σd vs) ∧ Ex (msk (Mk c hs as) H1) (msk (Mk c hs (D :: as)) H') ∧ Step hs Ps H H' ∧ H' D = some (.lst acc) ∧ DpAll K (msk (Mk c hs (D :: as)) H') acc accd ∧ lc2D g tt di1 g1 tt1 te vs1 (wipeD σd vs) Qd (ds.drop i) accd,
    ⟨ds.length, by omega, [], [], U, exB, s1.trans s2, upd_same, .nil, h1⟩, ?_⟩
  rintro i m H' ⟨em, acc, accd, V, eB, sH, hDl, hA, hl⟩
  obtain ⟨hgo, hst⟩ := it _ _ _ V.fr.wf eB
  have oD : ∀ {H3 H4 : Hp} {acc : List _}, Step hs Ps H3 H4 → H3 D = some (.lst acc) → H4 D = some (.lst acc) := fun s e => s.keep D _ e (V.fr.own D List.mem_cons_self).2.2.1 (V.fr.own D List.mem_cons_self).2.2.2
  by_cases hi : i < ds.length
  · rw [List.drop_eq_getElem_cons hi] at hl
    obtain ⟨g1', g2⟩ := hgo i ds[i] (List.getElem?_eq_getElem hi)
    refine .inr ⟨g1', fun H2 => i + 1 + (m - 1) = ds.length ∧ ∃ acc accd, Sts K Ps c hs (D :: as) (wipe σ vs) H2 (wipeD σd vs) ∧ Ex (msk (Mk c hs as) H1) (msk (Mk c hs (D :: as)) H2) ∧ Step hs Ps H H2 ∧ H2 D = some (.lst acc) ∧ DpAll K (msk (Mk c hs (D :: as)) H2) acc accd ∧ lc2D g tt di1 g1 tt1 te vs1 (wipeD σd vs) Qd (ds.drop (i + 1)) accd,
      fun H2 q => ⟨m - 1, by omega, q⟩, fun x H2 y => ?_⟩
    obtain ⟨s3, rx⟩ := g2 x H2 y
    have hD2 := oD s3 hDl
    have e23 := V.fr.wf.ex s3
    refine ⟨c, hs, D :: as, _, ds[i], _, V.step s3, rx, og _ _ _ hl, fun σ3 σd3 T3 w3 ⟨q3, o3⟩ => ⟨?_, ?_⟩⟩
    · have a := wipe_more (us := vs) w3 hts
      rw [a]
      exact wipe_wipe
    · have w3' := wipe_more (us := vs) w3 hts
      have np3 : ∀ (i : Nat) (es : List PyData), σd3[i]? = some (some (.own es)) → σ3[i]? ≠ some (some (.ref D)) := fun j es q1 q2 => by
        obtain ⟨q3, q4⟩ := wipeD_some (o3 j es q1)
        have q5 : (wipe σ3 vs)[j]? = (wipe (wipe σ vs) vs)[j]? := by rw [w3']
        rw [wipe_out q4, wipe_out q4, wipe_out q4] at q5
        rw [q5] at q2
        exact npD j es q3 q2
      refine ⟨c, hs, D :: as, σd3, _, T3, q3, fun b H3 hb s4 => ?_⟩
      have s34 := s3.trans s4
      have e4 := T3.fr.wf.ex s4
      cases b with
      | true =>
        rw [if_pos rfl] at hb
        dsimp only
        rw [if_pos rfl]
        refine ⟨c, hs, D :: as, σd3, _, T3.step s4, hb, fun es J1 H4 h4 s5 it1 => ?_⟩
        obtain ⟨hlen, h4⟩ := h4
        have e5 := (T3.step s4).fr.wf.ex s5
        refine ⟨fun j k H'' => j + k = es.length ∧ ∃ acc2 accd2, Sts K Ps c hs (D :: as) (wipe σ vs) H'' (wipeD σd vs) ∧ Sts K Ps c hs (D :: as) σ3 H'' σd3 ∧ Ex (msk (Mk c hs (D :: as)) H4) (msk (Mk c hs (D :: as)) H'') ∧ Ex (msk (Mk c hs as) H1) (msk (Mk c hs (D :: as)) H'') ∧ Step hs Ps H H'' ∧ H'' D = some (.lst acc2) ∧
            DpAll K (msk (Mk c hs (D :: as)) H'') acc2 accd2 ∧ accd2.length ≤ accd.length + j ∧ lcD g1 tt1 te (wipeD σd3 vs1) (fun acc2 => lc2D g tt di1 g1 tt1 te vs1 (wipeD σd vs) Qd (ds.drop (i + 1)) acc2) (es.drop j) accd2,
          ⟨es.length, by omega, acc, accd, ((V.step s3).step s4).step s5, (T3.step s4).step s5, Ex.refl _, eB.trans ((e23.trans e4).trans e5), sH.trans (s34.trans s5), oD s5 (oD s4 hD2), dpAll_mono ((e23.trans e4).trans e5) hA, by omega, h4⟩, ?_⟩
        rintro j k' H'' ⟨ej, acc2, accd2, V2, T5, e45, eB2, sH2, hDl2, hA2, hAl2, hl2⟩
        obtain ⟨hgo1, hst1⟩ := it1 _ _ _ T5.fr.wf e45
        by_cases hj : j < es.length
        · rw [List.drop_eq_getElem_cons hj] at hl2
          obtain ⟨g3, g4⟩ := hgo1 j es[j] (List.getElem?_eq_getElem hj)
          refine .inr ⟨g3, fun H2 => j + 1 + (k' - 1) = es.length ∧ ∃ acc2 accd2, Sts K Ps c hs (D :: as) (wipe σ vs) H2 (wipeD σd vs) ∧ Sts K Ps c hs (D :: as) σ3 H2 σd3 ∧ Ex (msk (Mk c hs (D :: as)) H4) (msk (Mk c hs (D :: as)) H2) ∧ Ex (msk (Mk c hs as) H1) (msk (Mk c hs (D :: as)) H2) ∧ Step hs Ps H H2 ∧ H2 D = some (.lst acc2) ∧
            DpAll K (msk (Mk c hs (D :: as)) H2) acc2 accd2 ∧ accd2.length ≤ accd.length + (j + 1) ∧ lcD g1 tt1 te (wipeD σd3 vs1) (fun acc2 => lc2D g tt di1 g1 tt1 te vs1 (wipeD σd vs) Qd (ds.drop (i + 1)) acc2) (es.drop (j + 1)) accd2,
            fun H2 q => ⟨k' - 1, by omega, q⟩, fun x1 H6 y1 => ?_⟩
          obtain ⟨s6, rx1⟩ := g4 x1 H6 y1
          have e6 := T5.fr.wf.ex s6
          refine ⟨c, hs, D :: as, _, es[j], _, (T5.step s6).wipe vs1, rx1, hl2, fun σ7 σd7 T7 w7 q7 => ⟨?_, ?_⟩⟩
          · have a := wipe_more (us := vs1) w7 hts1
            rw [a]
            exact wipe_wipe
          · refine ⟨c, hs, D :: as, σd7, _, T7, q7, fun b1 H7 hb1 s7 => ?_⟩
            have e7 := T7.fr.wf.ex s7
            cases b1 with
            | true =>
              rw [if_pos rfl] at hb1
              dsimp only
              rw [if_pos rfl]
              refine ⟨c, hs, D :: as, σd7, _, T7.step s7, hb1, fun d z H8 h8 s8 r8 => ⟨acc2, oD s8 (oD s7 (oD s6 hDl2)), sz_lt (by rw [hA2.len]; omega), by omega, acc2 ++ [z], accd2 ++ [d], ?_⟩⟩
              have e8 := (T7.step s7).fr.wf.ex s8
              have hD8 := oD s8 (oD s7 (oD s6 hDl2))
              have V4 : Sts K Ps c hs (D :: as) (wipe σ vs) H8 (wipeD σd vs) := ((V2.step s6).step s7).step s8
              have T8 : Sts K Ps c hs (D :: as) σ3 H8 σd3 := ((T5.step s6).step s7).step s8
              obtain ⟨V5, e9⟩ := V4.beside_upd (vs := acc2 ++ [z]) hD8 npW
              obtain ⟨T9, _⟩ := T8.beside_upd (vs := acc2 ++ [z]) hD8 np3
              have all := ((e6.trans e7).trans e8).trans e9
              exact ⟨V5, T9, e45.trans all, eB2.trans all, upS (sH2.trans ((s6.trans s7).trans s8)) hD8 (V.fr.own D List.mem_cons_self).2.2.1 (V.fr.own D List.mem_cons_self).2.2.2, upd_same, (dpAll_mono all hA2).app (.cons (dp_mono e9 r8) .nil), by simp; omega, h8⟩
            | false =>
              rw [if_neg (by simp)] at hb1
              dsimp only
              rw [if_neg (by simp)]
              exact ⟨by omega, acc2, accd2, (V2.step s6).step s7, (T5.step s6).step s7, e45.trans (e6.trans e7), eB2.trans (e6.trans e7), sH2.trans (s6.trans s7), oD s7 (oD s6 hDl2), dpAll_mono (e6.trans e7) hA2, by omega, hb1⟩
        · rw [List.drop_eq_nil_of_le (Nat.le_of_not_lt hj)] at hl2
          exact .inl ⟨(show j = es.length by omega) ▸ hst1, by omega, acc2, accd2, V2, eB2, sH2, hDl2, hA2, hl2⟩
      | false =>
        rw [if_neg (by simp)] at hb
        dsimp only
        rw [if_neg (by simp)]
        exact ⟨by omega, acc, accd, (V.step s3).step s4, eB.trans (e23.trans e4), sH.trans s34, oD s4 hD2, dpAll_mono (e23.trans e4) hA, hb⟩
  · rw [List.drop_eq_nil_of_le (Nat.le_of_not_lt hi)] at hl
    refine .inl ⟨(show i = ds.length by omega) ▸ hst, k accd D acc H' hl sH ?_ hDl hA⟩
    exact none_of S.fr s1 hD
theorem pn_lc2 {X : Cx} {Ps : TX} {elt tg iter tg1 iter1 : PySem.Expr} {ifs ifs1 : List PySem.Expr} {scope : Scope} {own : List (Str × Nat)} {vs1 : List Nat} {pos : Pos} {di di1 : DI} {g g1 : DG} {tt tt1 : DT} {te : DE} {ts ts1 : List Nat} (hc : X.calm = true) (hN : X.N.Nodup) (og : OwnG g) (hi : PI X tg iter (liftI X.K Ps di)) (ok : BlkOk X.N X.env.scope scope own)
    (hg : ∀ (s : Shared) (H : Hp) (C : Addr) (cl : List (Str × Addr)) (fp : List Addr), PG (X.blk s H scope (compEnvC scope cl C X.env) fp) tg (liftG X.K Ps ts g))
    (ht : ∀ (s : Shared) (H : Hp) (C : Addr) (cl : List (Str × Addr)) (fp : List Addr), PTs (X.blk s H scope (compEnvC scope cl C X.env) fp) ifs (liftT X.K Ps tt))
    (hi1 : ∀ (s : Shared) (H : Hp) (C : Addr) (cl : List (Str × Addr)) (fp : List Addr), PI (X.blk s H scope (compEnvC scope cl C X.env) fp) tg1 iter1 (liftI X.K Ps di1))
    (hg1 : ∀ (s : Shared) (H : Hp) (C : Addr) (cl : List (Str × Addr)) (fp : List Addr), PG (X.blk s H scope (compEnvC scope cl C X.env) fp) tg1 (liftG X.K Ps ts1 g1))
    (ht1 : ∀ (s : Shared) (H : Hp) (C : Addr) (cl : List (Str × Addr)) (fp : List Addr), PTs (X.blk s H scope (compEnvC scope cl C X.env) fp) ifs1 (liftT X.K Ps tt1))
    (he : ∀ (s : Shared) (H : Hp) (C : Addr) (cl : List (Str × Addr)) (fp : List Addr), PE (X.blk s H scope (compEnvC scope cl C X.env) fp) elt (lift X.K Ps te))
    (hs : ∀ x, foldedSetIterable iter X.env x = pure x := by intro _; rfl) (hs1 : ∀ env x, foldedSetIterable iter1 env x = pure x := by intro _ _; rfl) (hts : ∀ t ∈ ts, t ∈ own.map (·.2) := by decide) (hts1 : ∀ t ∈ ts1, t ∈ vs1 := by decide) (hv : ∀ t ∈ vs1, t ∈ own.map (·.2) := by decide) :
    PE X (.ListComp elt [⟨tg, iter, ifs, 0⟩, ⟨tg1, iter1, ifs1, 0⟩] scope pos) (liftN X.K Ps (dLc2 di g tt di1 g1 tt1 te (own.map (·.2)) vs1)) := pe_weak (pe_lc2 hc hN hi ok hv hg ht hi1 hg1 ht1 he hs hs1) fun _ _ _ => lift_lc2 og hts hts1
/-! ### as functions -/
section
variable {E : Xn → Prop} {fi fi1 : FA} {fg fg1 : FG} {ft ft1 : FT} {fa : FE} {di di1 : DI} {dg dg1 : DG} {dt dt1 : DT} {da : DE}
def lc2F (g : FG) (t : FT) (i1 : FA) (g1 : FG) (t1 : FT) (e : FE) (vs1 : List Nat) (σ0 : Sd) : List PyData → Nat → Rs (List PyData)
  | [], _ => .ok []
  | d :: ds, n => (g d σ0).bind fun σ2 => (t σ2).bind fun b => if b = true then (i1 σ2).bind fun es => if lim (n + es.length) = true then (lcF g1 t1 e (wipeD σ2 vs1) es).bind fun ys => (lc2F g t i1 g1 t1 e vs1 σ0 ds (n + ys.length)).bind fun zs => .ok (ys ++ zs) else .no
    else lc2F g t i1 g1 t1 e vs1 σ0 ds n
@[simp] def fLc2 (fi : FA) (g : FG) (t : FT) (i1 : FA) (g1 : FG) (t1 : FT) (e : FE) (vs vs1 : List Nat) : FA := fun σ => (fi σ).bind fun ds => lc2F g t i1 g1 t1 e vs1 (wipeD σ vs) ds 0
theorem lc2F_le {vs1 : List Nat} (hg : LeG (ofG E fg) dg) (ht : LeT (ofT E ft) dt) (hi1 : LeI (ofI E fi1) di1) (hg1 : LeG (ofG E fg1) dg1) (ht1 : LeT (ofT E ft1) dt1) (he : LeE (ofE E fa) da) {σ0 : Sd} : ∀ {ds acc : List PyData} {Q : List PyData → Prop}, (lc2F fg ft fi1 fg1 ft1 fa vs1 σ0 ds acc.length).Sat E (fun ys => Q (acc ++ ys)) → lc2D dg dt di1 dg1 dt1 da vs1 σ0 Q ds acc
  | [], acc, Q, h => by
    have h : Q (acc ++ []) := h
    rw [List.append_nil] at h
    exact h
  | d :: ds, acc, Q, h => hg d σ0 _ (Sat.mono (Sat.bind h) fun σ2 h => ht σ2 _ (Sat.mono (Sat.bind h) fun b h => by
    cases b with
    | true =>
      rw [if_pos rfl] at h ⊢
      refine hi1 σ2 _ (Sat.mono (Sat.bind h) fun es h => ?_)
      by_cases e : lim (acc.length + es.length) = true
      · rw [if_pos e] at h
        refine ⟨Nat.le_of_ble_eq_true e, lcF_le hg1 ht1 he (Sat.mono (Sat.bind h) fun ys h => lc2F_le hg ht hi1 hg1 ht1 he ?_)⟩
        rw [List.length_append]
        refine Sat.mono (Sat.bind h) fun zs h => ?_
        have h : Q (acc ++ (ys ++ zs)) := h
        rw [List.append_assoc]
        exact h
      · rw [if_neg e] at h
        exact h.elim
    | false =>
      rw [if_neg (by simp)] at h ⊢
      exact lc2F_le hg ht hi1 hg1 ht1 he h))
theorem le_lc2 {vs vs1 : List Nat} (hi : LeI (ofI E fi) di) (hg : LeG (ofG E fg) dg) (ht : LeT (ofT E ft) dt) (hi1 : LeI (ofI E fi1) di1) (hg1 : LeG (ofG E fg1) dg1) (ht1 : LeT (ofT E ft1) dt1) (he : LeE (ofE E fa) da) : LeL (ofL E (fLc2 fi fg ft fi1 fg1 ft1 fa vs vs1)) (dLc2 di dg dt di1 dg1 dt1 da vs vs1) := fun σ Q h =>
  hi σ _ (Sat.mono (Sat.bind h) fun ds h => lc2F_le (acc := []) hg ht hi1 hg1 ht1 he (Sat.mono h fun ys h => h))
end
end Dl
end
section
set_option maxRecDepth 100000
namespace ZnS
open PySem PySem.Spec PyProof.Rows L2 ZpM
theorem nc (a : Value) (l : List Value) : checkBuiltinCall "zip.__new__" ⟨.type "zip" :: a :: l, []⟩ = pure () := by kernel_rfl
def zo (b n : Nat) (f0 : Value) (f1 : Bool) : Obj := { cls := .type "zip", data := .fields #[f0, .bool f1, .bool false, .ref (b + n), .ref (b + n + 1)] }
def tup (us : List Value) : Obj := { cls := .type "tuple", data := .seq us.toArray }
def jsL (b n : Nat) : List Value := (List.range n).map fun k => Value.ref (b + k)
section
variable {P : Program} {w : World} {A : Around} {E : Value → Shared → Prop} {s : Shared} {b n : Nat} {f0 : Value} {f1 : Bool}
structure St (h : Heap) (b n : Nat) (as : List Addr) (i : Nat) : Prop where
  zip : ∃ (f0 : Value) (f1 : Bool), (f0 = .none ∨ ∃ a : Int, f0 = rawInt a) ∧ h.get? (b + n + 2) = some (zo b n f0 f1)
  ti : h.get? (b + n) = some (tup (jsL b n))
  out : ∃ os : List Value, os.length = n ∧ h.get? (b + n + 1) = some (tup os)
  it : ∀ (k : Nat) (a : Addr), as[k]? = some a → Ic "tuple_iterator" h (b + k) a i
/-- amid the making of a tuple in the iterator's own: k of the items are there -/
structure Fr (h g : Heap) (b n : Nat) (as : List Addr) (i : Nat) (us os : List Value) (f1 : Bool) (k : Nat) : Prop where
  zip : g.get? (b + n + 2) = some (zo b n .ellipsis f1)
  ti : g.get? (b + n) = some (tup (jsL b n))
  out : g.get? (b + n + 1) = some (tup (us.take k ++ os.drop k))
  it : ∀ (k' : Nat) (a : Addr), as[k']? = some a → Ic "tuple_iterator" g (b + k') a (if k' < k then i + 1 else i)
  size : g.objs.size = h.objs.size
  old : ∀ (c : Nat) (o : Obj), (c < b ∨ b + n + 2 < c) → h.get? c = some o → g.get? c = some o
/-- amid the making of a new tuple -/
structure Fg (h g : Heap) (b n : Nat) (as : List Addr) (i : Nat) (f0 : Value) (k : Nat) : Prop where
  zip : g.get? (b + n + 2) = some (zo b n f0 true)
  ti : g.get? (b + n) = some (tup (jsL b n))
  out : ∃ os : List Value, os.length = n ∧ g.get? (b + n + 1) = some (tup os)
  it : ∀ (k' : Nat) (a : Addr), as[k']? = some a → Ic "tuple_iterator" g (b + k') a (if k' < k then i + 1 else i)
  size : g.objs.size = h.objs.size
  old : ∀ (c : Nat) (o : Obj), (c < b ∨ b + n + 2 < c) → h.get? c = some o → g.get? c = some o
/-- amid the making of the iterators -/
structure Fn (h g : Heap) (as : List Addr) (k : Nat) : Prop where
  it : ∀ (j : Nat) (a : Addr), as[j]? = some a → j < k → Ic "tuple_iterator" g (h.objs.size + j) a 0
  size : g.objs.size = h.objs.size + k
  old : ∀ (c : Nat) (o : Obj), h.get? c = some o → g.get? c = some o
section
variable {P : Program} {w : World} {A : Around} {E : Value → Shared → Prop} {s : Shared}
end
end
def colAt {α : Type} (i : Nat) : List (List α) → Option (List α)
  | [] => some []
  | xs :: r => match xs[i]?, colAt i r with
    | some x, some ys => some (x :: ys)
    | _, _ => none
abbrev TupsAt (K : PySem.W.Frag) (H : Hp) : List Addr → List (List V) → Prop := Paired fun a xs => SqT K H a xs
section
variable {X : Cx} {pins : List (Addr × Obj)} {σ : L2.St} {H : Hp} {s : Shared}
end
def ItZ (K : PySem.W.Frag) (as : List Addr) : It :=
  ⟨fun i H => ∃ xss xs, TupsAt K H as xss ∧ colAt i xss = some xs,
    fun i H v H' => ∃ p xs, v = .ref p ∧ H p = none ∧ H' = upd H p (.tup xs) ∧ ∀ xss, TupsAt K H as xss → colAt i xss = some xs,
    fun i H => ∃ a xs, as[0]? = some a ∧ SqT K H a xs ∧ xs.length ≤ i⟩
def fpL (b n : Nat) : List Addr := (List.range (n + 3)).map fun k => b + k
theorem St.none {h g : Heap} {b n i : Nat} {as : List Addr} {f1 : Bool} (st : St h b n as i) (hl : as.length = n) (z : g.get? (b + n + 2) = some (zo b n .none f1)) (sb : Heap.SameBut (b + n + 2) h g) : St g b n as i :=
  ⟨⟨.none, f1, .inl rfl, z⟩, sb.extBut _ _ (fun (h : (_ : Nat) = _) => by omega) st.ti, st.out.elim fun os q => ⟨os, q.1, sb.extBut _ _ (fun (h : (_ : Nat) = _) => by omega) q.2⟩, fun k a e => by
    have lt := (List.getElem?_eq_some_iff.mp e).1
    exact (st.it k a e).mv sb.extBut (fun (h : (_ : Nat) = _) => by omega)⟩
/-- zip(*e), e a list or a tuple of tuples -/
def iZipS (K : PySem.W.Frag) (te : TE) : TI := fun σ H R => te σ H fun v H1 => ∃ a as a0 xss, v = .ref a ∧ (SqT K H1 a (as.map .ref) ∨ SqL K H1 a (as.map .ref)) ∧ TupsAt K H1 as xss ∧ as[0]? = some a0 ∧ as.length ≤ 1000 ∧ R (ItZ K as) H1
section
variable {X : Cx} {tg e : PySem.Expr} {te : TE} {p p2 pos : Pos}
end
end ZnS
namespace Dl
open PySem PySem.Spec PyProof.Rows L2 HbE Evl RZ Gx ZnS
def rowsT : List PyData → Option (List (List PyData))
  | [] => some []
  | .tuple ds :: r => match rowsT r with
    | some x => some (ds :: x)
    | none => none
  | _ => none
def colsF (dss : List (List PyData)) : Nat → Nat → Option (List PyData)
  | _, 0 => some []
  | i, k + 1 => match colAt i dss, colsF dss (i + 1) k with
    | some c, some r => some (.tuple c :: r)
    | _, _ => none
def zipR (rows : List PyData) : Option (List PyData) := match rowsT rows with
  | some dss => if Nat.ble dss.length 1000 = true then match dss with
      | r :: _ => colsF dss 0 r.length
      | [] => none
    else none
  | none => none
def zipO : PyData → Option (List PyData)
  | .list rows => zipR rows
  | .tuple rows => zipR rows
  | _ => none
section
variable {K : PySem.W.Frag} {H H' : Hp}
end
def dZipS (de : DE) : DI := fun σ Q => de σ fun d => ∃ cols, zipO d = some cols ∧ Q cols
section
variable {X : Cx} {Ps : TX} {tg e : PySem.Expr} {p p2 pos : Pos}
@[simp] def fZipS (fe : FE) : FA := fun σ => (fe σ).bind fun d => Rs.ofO (zipO d)
end
end Dl
end
section
set_option Elab.async false
set_option linter.all false
set_option maxRecDepth 100000
set_option maxHeartbeats 1000000
/-! math.comb; tuples of ints of the module. -/
namespace PySem.W
open PySem PySem.Calls
def combV (a b : Int) : Int := Builtin.Math.fallingProduct a (min b (a - b)).toNat / Builtin.Math.fallingProduct (min b (a - b)) (min b (a - b)).toNat
end PySem.W
namespace L2
open PySem PySem.Spec PyProof.Rows PySem.Calls
def combOk (a b : Int) : Bool := decide (0 ≤ b) && decide (b ≤ a) && decide (a ≤ 9000) && Nat.ble (PySem.W.combV a b).natAbs.log2 100000
def rComb : List V → Hp → VK → Prop := fun vs H Q => ∃ a b : Int, vs = [.int a, .int b] ∧ combOk a b = true ∧ Q (.int (PySem.W.combV a b)) H
end L2
namespace Dl
open PySem PySem.Spec PyProof.Rows L2 HbE Evl RZ Gx HbX
def fComb : List PyData → (PyData → Prop) → Prop := fun ds Q => match ds with
  | [.int i, .int j] => combOk i j = true ∧ Q (.int (PySem.W.combV i j))
  | _ => False
def gComb : List PyData → Option PyData
  | [.int i, .int j] => if combOk i j = true then some (.int (PySem.W.combV i j)) else none
  | _ => none
/-! ### tuples of ints of the module -/
def TupK (K : PySem.W.Frag) (a : Addr) (ns : List Int) : Prop := ∃ (o : Obj) (its : Array Value) (n : Nat), K.lookup a = some o ∧ o.cls = .type "tuple" ∧ o.data = .seq its n ∧ its.size ≤ sizeLine ∧ Vals (ns.map V.int) its.toList
def intsB : List Int → List Value → Bool
  | [], [] => true
  | n :: ns, .int i _ :: vs => decide (n = i) && intsB ns vs
  | _, _ => false
def tupKB (K : PySem.W.Frag) (a : Addr) (ns : List Int) : Bool := match K.lookup a with
  | some o => match o.cls, o.data with
    | .type c, .seq its _ => (c == "tuple") && Nat.ble its.size 1000 && intsB ns its.toList
    | _, _ => false
  | none => false
theorem intsB_ok : ∀ {ns : List Int} {vs : List Value}, intsB ns vs = true → Vals (ns.map V.int) vs
  | [], [], _ => .nil
  | [], _ :: _, h => by cases h
  | n :: ns, [], h => by cases h
  | n :: ns, v :: vs, h => by
    cases v with
    | int i t =>
      unfold intsB at h
      rw [Bool.and_eq_true, decide_eq_true_eq] at h
      obtain ⟨rfl, h⟩ := h
      exact .cons ⟨t, rfl⟩ (intsB_ok h)
    | _ => cases h
theorem tupKB_ok {K : PySem.W.Frag} {a : Addr} {ns : List Int} (h : tupKB K a ns = true) : TupK K a ns := by
  unfold tupKB at h
  split at h
  · rename_i o e
    split at h
    · rename_i c its n e1 e2
      rw [Bool.and_eq_true, Bool.and_eq_true] at h
      obtain ⟨⟨h1, h2⟩, h3⟩ := h
      have h1 : c = "tuple" := eq_of_beq h1
      subst h1
      exact ⟨o, its, n, e, e1, e2, by rw [sizeLine_eq]; have := Nat.le_of_ble_eq_true h2; omega, intsB_ok h3⟩
    · cases h
  · cases h
theorem dp_ints {K : PySem.W.Frag} {H : Hp} : ∀ ns : List Int, DpAll K H (ns.map V.int) (ns.map PyData.int)
  | [] => .nil
  | n :: ns => .cons (.int n) (dp_ints ns)
section
variable {X : Cx} {Ps : TX} {p : Pos}
theorem pd_tupC {x : Str} {a : Addr} {ns : List Int} (hg : Gl X x) (hm : X.mg x = some (.ref a)) (T : TupK X.K a ns) (hd : (x == ("__debug__" : Str)) = false := by decide) : PE X (.Name x p) (lift X.K Ps (dC (.tuple (ns.map PyData.int)))) :=
  pe_weak (pe_glob (v := .ref a) hg hm rfl hd) fun σ H Q ⟨c, hs, as, σd, Qd, S, hq, k⟩ => k _ _ H hq Step.refl (.tup (.inr T) (dp_ints ns))
end
section
variable {X : Cx} {Ps : TX} {i : Nat} {y : Str} {py spos pos : Pos} {elt tg iter tg1 iter1 : PySem.Expr} {ifs ifs1 : List PySem.Expr} {scope : Scope} {own : List (Str × Nat)} {vs1 : List Nat} {di di1 : DI} {g g1 : DG} {tt tt1 : DT} {te : DE} {ts ts1 : List Nat}
theorem psd_setLc2 (hc : X.calm = true) (hN : X.N.Nodup) (hy : X.N[i]? = some y) (hyl : X.env.scope.names.lookup y = some .local)
    (hsw : swapsWith (.ListComp elt [⟨tg, iter, ifs, 0⟩, ⟨tg1, iter1, ifs1, 0⟩] scope pos) (some (.Name y py)) spos.line X.env = pure true) (og : OwnG g) (hi : PI X tg iter (liftI X.K Ps di)) (ok : BlkOk X.N X.env.scope scope own)
    (hg : ∀ (s : Shared) (H : Hp) (C : Addr) (cl : List (Str × Addr)) (fp : List Addr), PG (X.blk s H scope (compEnvC scope cl C X.env) fp) tg (liftG X.K Ps ts g))
    (ht : ∀ (s : Shared) (H : Hp) (C : Addr) (cl : List (Str × Addr)) (fp : List Addr), PTs (X.blk s H scope (compEnvC scope cl C X.env) fp) ifs (liftT X.K Ps tt))
    (hi1 : ∀ (s : Shared) (H : Hp) (C : Addr) (cl : List (Str × Addr)) (fp : List Addr), PI (X.blk s H scope (compEnvC scope cl C X.env) fp) tg1 iter1 (liftI X.K Ps di1))
    (hg1 : ∀ (s : Shared) (H : Hp) (C : Addr) (cl : List (Str × Addr)) (fp : List Addr), PG (X.blk s H scope (compEnvC scope cl C X.env) fp) tg1 (liftG X.K Ps ts1 g1))
    (ht1 : ∀ (s : Shared) (H : Hp) (C : Addr) (cl : List (Str × Addr)) (fp : List Addr), PTs (X.blk s H scope (compEnvC scope cl C X.env) fp) ifs1 (liftT X.K Ps tt1))
    (he : ∀ (s : Shared) (H : Hp) (C : Addr) (cl : List (Str × Addr)) (fp : List Addr), PE (X.blk s H scope (compEnvC scope cl C X.env) fp) elt (lift X.K Ps te))
    (hs : ∀ x, foldedSetIterable iter X.env x = pure x := by intro _; rfl) (hs1 : ∀ env x, foldedSetIterable iter1 env x = pure x := by intro _ _; rfl) (hts : ∀ t ∈ ts, t ∈ own.map (·.2) := by decide) (hts1 : ∀ t ∈ ts1, t ∈ vs1 := by decide) (hv : ∀ t ∈ vs1, t ∈ own.map (·.2) := by decide) :
    PS X (.Assign [.Name y py] (.ListComp elt [⟨tg, iter, ifs, 0⟩, ⟨tg1, iter1, ifs1, 0⟩] scope pos) spos) (liftS X.K Ps (dSet i (dL (dLc2 di g tt di1 g1 tt1 te (own.map (·.2)) vs1)))) :=
  ps_weak (ps_setLc2 hc hN hy hyl hsw hi ok hv hg ht hi1 hg1 ht1 he hs hs1) fun D σ H h => lift_lc2 og hts hts1 (lift_new (lift_set h))
end
end Dl
end
section
set_option Elab.async false
set_option linter.all false
set_option maxRecDepth 100000
set_option maxHeartbeats 1000000
/-! sorted(list) of tuples of ints of one length: any ints, any number of tuples. -/
namespace SrB
open PySem PySem.Spec PyProof.Rows
open PySem PyProof.Rows Srt
def lexL : List Int → List Int → Bool
  | [], [] => false
  | [], _ :: _ => true
  | _ :: _, [] => false
  | x :: a, y :: b => if x = y then lexL a b else decide (x < y)
theorem lexL_asym : ∀ {a b : List Int}, lexL a b = true → lexL b a = false
  | [], [], h => by cases h
  | [], _ :: _, _ => rfl
  | _ :: _, [], h => by cases h
  | x :: a, y :: b, h => by
    unfold lexL at h ⊢
    by_cases e : x = y
    · rw [if_pos e] at h
      rw [if_pos e.symm]
      exact lexL_asym h
    · rw [if_neg e, decide_eq_true_eq] at h
      rw [if_neg (fun z => e z.symm), decide_eq_false_iff_not]
      omega
theorem lexL_tr : ∀ {a b c : List Int}, lexL b a = false → lexL c b = false → lexL c a = false
  | [], _, [], _, _ => rfl
  | _ :: _, [], _, h, _ => by cases h
  | [], [], _ :: _, _, _ => rfl
  | _, _ :: _, [], _, h => by cases h
  | [], _ :: _, _ :: _, h, _ => rfl
  | x :: a, y :: b, z :: c, h1, h2 => by
    unfold lexL at h1 h2 ⊢
    by_cases e1 : y = x
    · by_cases e2 : z = y
      · rw [if_pos e1] at h1
        rw [if_pos e2] at h2
        rw [if_pos (e2.trans e1)]
        exact lexL_tr h1 h2
      · rw [if_neg e2, decide_eq_false_iff_not] at h2
        rw [if_neg (by omega), decide_eq_false_iff_not]
        omega
    · rw [if_neg e1, decide_eq_false_iff_not] at h1
      by_cases e2 : z = y
      · rw [if_neg (by omega), decide_eq_false_iff_not]
        omega
      · rw [if_neg e2, decide_eq_false_iff_not] at h2
        rw [if_neg (by omega), decide_eq_false_iff_not]
        omega
theorem lexL_anti : ∀ {a b : List Int}, lexL a b = false → lexL b a = false → a = b
  | [], [], _, _ => rfl
  | [], _ :: _, h, _ => by cases h
  | _ :: _, [], _, h => by cases h
  | x :: a, y :: b, h1, h2 => by
    unfold lexL at h1 h2
    by_cases e : x = y
    · rw [if_pos e] at h1
      rw [if_pos e.symm] at h2
      rw [e, lexL_anti h1 h2]
    · rw [if_neg e, decide_eq_false_iff_not] at h1
      rw [if_neg (fun z => e z.symm), decide_eq_false_iff_not] at h2
      omega
theorem swo_lexL {α : Type} (k : α → List Int) : SrtO.Swo (fun v u => lexL (k v) (k u)) := ⟨fun _ _ h => lexL_asym h, fun _ _ _ h1 h2 => lexL_tr h1 h2⟩
section
variable {prog : Program} {w : World} {A : Around} {s : Shared}
theorem lexq_ints {b : Bool} {xs ys : List Value} {ns ms : List Int} {Q : Bool → Shared → Prop} (i : Nat) (hx : IntsAre xs ns) (hy : IntsAre ys ms) (hl : ns.length = ms.length) (h : Q (lexL ns ms) s) : PySem.W.KatLex prog w A b false Q (xs.zip ys) i s := by
  induction hx generalizing ys ms i with
  | nil =>
    cases hy with
    | nil => exact PySem.W.kat_nil h
    | cons q u hy => simp at hl
  | @cons p t xs ns hx ih =>
    cases hy with
    | nil => simp at hl
    | @cons q u ys ms hy =>
      have hl' : ns.length = ms.length := by simpa using hl
      show PySem.W.KatLex prog w A b false Q ((Value.int p t, Value.int q u) :: xs.zip ys) i s
      refine PySem.W.kat_cons (wpAny_eqBool_int ?_)
      unfold lexL at h
      by_cases e : p = q
      · subst e
        rw [beq_self_eq_true]
        rw [if_pos rfl] at h
        exact PySem.W.kat_yes (ih (i + 1) hy hl' h)
      · rw [show (p == q) = false from beq_eq_false_iff_ne.mpr e]
        rw [if_neg e] at h
        exact PySem.W.kat_no (TS.oneLt_ints _ h)
def TupsL (h : Heap) (d : Nat) (vs : List Value) : Prop := ∀ v ∈ vs, ∃ ns, TS.TupInts h v ns ∧ ns.length = d
theorem firsts_ofL {h : Heap} {d : Nat} (hd : 1 ≤ d) : ∀ vs : List Value, TupsL h d vs → ∃ fs, PySem.W.KatTups h vs fs ∧ fs.length = vs.length ∧ ∀ f, f ∈ fs → ∃ n t, f = Value.int n t
  | [], _ => ⟨[], PySem.W.KatTups.nil, rfl, fun f hf => by simp at hf⟩
  | v :: vs, x => by
    obtain ⟨fs, k, hl, hi⟩ := firsts_ofL hd vs fun u hu => x u (List.mem_cons_of_mem _ hu)
    obtain ⟨ns, ⟨a, xs, rfl, ⟨o, ho, hc, n, hdt⟩, i⟩, hn⟩ := x v (List.mem_cons_self ..)
    obtain ⟨y, ys, e⟩ : ∃ y ys, xs.toList = y :: ys := by
      cases q : xs.toList with
      | nil =>
        rw [q] at i
        have l := i.length
        rw [List.length_nil, hn] at l
        omega
      | cons y ys => exact ⟨y, ys, rfl⟩
    obtain ⟨m, t, hy⟩ := i.all y (by rw [e]; exact List.mem_cons_self ..)
    refine ⟨y :: fs, PySem.W.KatTups.cons ho hc hdt ?_ k, by simp [hl], ?_⟩
    · have z := congrArg (fun l : List Value => l[0]?) e
      simpa using z
    · intro f hf
      rcases List.mem_cons.mp hf with rfl | hf
      · exact ⟨m, t, hy⟩
      · exact hi f hf
theorem tups_sortableL {a : Addr} {vs : List Value} {d : Nat} (hd : 1 ≤ d) (h2 : 2 ≤ vs.length) (k : Value → List Int) (hk : ∀ v ∈ vs, TS.TupInts s.heap v (k v) ∧ (k v).length = d) (ha : ∀ o, s.heap.get? a = some o → o.cls ≠ .type "tuple") :
    SrtO.SortableO prog w A s a vs fun v u => lexL (k v) (k u) := by
  intro h' keep
  have hk' : ∀ v ∈ vs, TS.TupInts h' v (k v) ∧ (k v).length = d := fun v hm => ⟨(hk v hm).1.keeps fun b o e c => keep b o (fun z => by subst z; exact ha o e c) e, (hk v hm).2⟩
  obtain ⟨fs, h1, h3, h4⟩ := firsts_ofL (h := h') hd vs fun v hv => ⟨_, hk' v hv⟩
  refine ⟨tuples' true, fun Q E hq => ?_, fun p q hm hm' => ?_⟩
  · refine PySem.W.kat_kind (T := .type "int") h1 (by omega) (fun f hm => ?_) (by rfl) ?_
    · obtain ⟨x, t, rfl⟩ := h4 f hm
      exact PySem.W.Looks.now
    · have e : (Value.type "int" != Value.type "tuple") = true := by first | decide +kernel | rfl | decide
      rw [e]
      exact hq
  · obtain ⟨tp, lp⟩ := hk' _ hm
    obtain ⟨tq, lq⟩ := hk' _ hm'
    show wpAny (model prog w) A (keyLt' (tuples' true) p.1 q.1) (fun r s' => s' = { s with heap := h' } ∧ r = lexL (k p.1) (k q.1)) (fun _ _ => False) { s with heap := h' }
    obtain ⟨x, xs, e1, ⟨o, ho, hc, n, hdt⟩, i⟩ := tp
    obtain ⟨y, ys, e2, ⟨o', ho', hc', n', hdt'⟩, i'⟩ := tq
    have l1 := i.length
    have l2 := i'.length
    rw [Array.length_toList] at l1 l2
    generalize k p.1 = ns at *
    generalize k q.1 = ms at *
    rw [e1, e2]
    refine PySem.W.kat_lt ho hdt ho' hdt' ?_
    have sz : decide (xs.size < ys.size) = false := decide_eq_false (by omega)
    rw [sz]
    exact lexq_ints 0 i i' (by omega) ⟨rfl, rfl⟩
end
end SrB

namespace L2
open PySem PySem.Spec PyProof.Rows SrB
def rSortL (K : PySem.W.Frag) (d : Nat) : List V → Hp → VK → Prop := fun vs H Q => ∃ (a : Addr) (xs : List V), vs = [V.ref a] ∧ SqL K H a xs ∧ (∀ x ∈ xs, ∃ ns, TupI K H x ns ∧ ns.length = d) ∧
  ∀ (ys : List V) (p : Addr), ys.Perm xs → ys.Pairwise (fun x y => ∀ n m, TupI K H x n → TupI K H y m → lexL m n = false) → H p = none → Q (.ref p) (upd H p (.lst ys))
theorem cr_sortL {X : Cx} {d : Nat} (hd : 1 ≤ d) : CallR X (.builtin "sorted") (rSortL X.K d) := by
  intro pins s σ H vs us Q I r h
  obtain ⟨a, xs, rfl, hs, hx, q⟩ := h
  obtain ⟨its, rv, hl, hz⟩ := I.list hs
  rw [Vals.ref1 r]
  obtain ⟨e1, e2⟩ := bkV_refs rv fun x m => by
    obtain ⟨ns, ⟨t, e, _⟩, _⟩ := hx x m
    exact ⟨t, e⟩
  have hk : ∀ v ∈ its, TS.TupInts s.heap v (TS.intsOf s.heap v) ∧ (TS.intsOf s.heap v).length = d := fun v hv => by
    obtain ⟨t, rfl⟩ := e2 v hv
    have hm : V.ref t ∈ xs := by
      rw [e1]
      exact List.mem_map.mpr ⟨_, hv, rfl⟩
    obtain ⟨ns, ⟨t', e, ht⟩, hn⟩ := hx _ hm
    cases e
    have z := tupI_raw I ht
    rw [z.ints]
    exact ⟨z, hn⟩
  refine SrtO.sorted_ord (swo_lexL (TS.intsOf s.heap)) hl.isList (by rw [← rv.length]; exact hz) (fun h2 h₁ a' ha' kk => ?_) fun out h1 h2 => ?_
  · refine tups_sortableL (s := { s with heap := h₁ }) hd h2 (TS.intsOf s.heap) (fun v hv => ⟨(hk v hv).1.keeps fun b o e _ => (kk b o e).2, (hk v hv).2⟩) fun o e => ?_
    have e' : some o = some (seqObj "list" its.toArray 0) := e.symm.trans ha'
    cases e'
    intro c
    exact absurd (Value.type.inj c) (by decide)
  · obtain ⟨ep, he'⟩ := PyProof.Rows.sortedAll_at s.heap its out.toArray
    have h3 : ∀ u ∈ out, ∃ a, u = Value.ref a := fun u hu => e2 u (h2.perm.mem_iff.mp hu)
    have hp : (out.map bkV).Perm xs := by
      rw [e1]
      exact h2.perm.map bkV
    have hlen : (out.map bkV).length ≤ sizeLine := by
      rw [hp.length_eq]
      exact hz
    refine ⟨.ref _, upd H (s.heap.objs.size + 1) (.lst (out.map bkV)), I.laid (t' := s.toks) (fun _ _ => PyProof.Rows.sortedAll_old) (Nat.le_succ _) ⟨hlen, out, ep, bkV_vals h3, he'⟩, rfl, q _ _ hp ?_ (I.hok.fresh (Nat.le_succ _))⟩
    rw [List.pairwise_map]
    refine List.Pairwise.imp (fun {u v} huv n m hn hm => ?_) h1
    obtain ⟨t, et, ht⟩ := hn
    obtain ⟨t', et', ht'⟩ := hm
    have eu := bkV_ref et
    have ev := bkV_ref et'
    have i1 : TS.intsOf s.heap u = n := by
      rw [eu]
      exact (tupI_raw I ht).ints
    have i2 : TS.intsOf s.heap v = m := by
      rw [ev]
      exact (tupI_raw I ht').ints
    rw [← i1, ← i2]
    exact huv
end L2
namespace Dl
open PySem PySem.Spec PyProof.Rows L2 HbE Evl RZ Gx SrB
def insL (x : List Int) : List (List Int) → List (List Int)
  | [] => [x]
  | y :: r => if lexL y x = true then y :: insL x r else x :: y :: r
def srtL (l : List (List Int)) : List (List Int) := l.foldr insL []
theorem insL_perm (x : List Int) : ∀ l, (insL x l).Perm (x :: l)
  | [] => .refl _
  | y :: r => by
    unfold insL
    split
    · exact ((insL_perm x r).cons y).trans (.swap _ _ _)
    · exact .refl _
theorem srtL_perm : ∀ l, (srtL l).Perm l
  | [] => .refl _
  | x :: r => (insL_perm x _).trans ((srtL_perm r).cons x)
theorem insL_rises (x : List Int) : ∀ l, l.Pairwise (fun a b => lexL b a = false) → (insL x l).Pairwise (fun a b => lexL b a = false)
  | [], _ => List.pairwise_singleton _ _
  | y :: r, h => by
    unfold insL
    obtain ⟨h1, h2⟩ := List.pairwise_cons.mp h
    split
    · rename_i hc
      exact List.pairwise_cons.mpr ⟨fun z hz => by
        rcases List.mem_cons.mp ((insL_perm x r).subset hz) with rfl | hz
        · exact lexL_asym hc
        · exact h1 z hz, insL_rises x r h2⟩
    · rename_i hc
      have hc : lexL y x = false := by
        cases q : lexL y x with
        | true => exact absurd q hc
        | false => rfl
      exact List.pairwise_cons.mpr ⟨fun z hz => by
        rcases List.mem_cons.mp hz with rfl | hz
        · exact hc
        · exact lexL_tr hc (h1 z hz), h⟩
theorem srtL_rises : ∀ l, (srtL l).Pairwise (fun a b => lexL b a = false)
  | [] => .nil
  | x :: r => insL_rises x _ (srtL_rises r)
def gSortL : Bool → List PyData → Option PyData := fun b ds => if b = true then
    match intsD ds with
    | some ns => some (.list ((PySem.W.sortI ns).map .int))
    | none => match tupsD ds with
      | some nss => if (Nat.ble nss.length 100000 && (Nat.ble 1 (nss.headD []).length && nss.all fun ns => ns.length == (nss.headD []).length)) = true then some (.list ((srtL nss).map tupI)) else none
      | none => none
  else none
def fSortL : Bool → List PyData → (PyData → Prop) → Prop := fun b ds Q => ∃ d, gSortL b ds = some d ∧ Q d
theorem leq_sortL : LeOpQ gSortL fSortL := fun b ds d Q e q => ⟨d, e, q⟩
def rSortAny2 (K : PySem.W.Frag) : List V → Hp → VK → Prop := fun vs H Q => rSortedI K vs H Q ∨ ∃ d, 1 ≤ d ∧ rSortL K d vs H Q
theorem cr_sortAny2 {X : Cx} : CallR X (.builtin "sorted") (rSortAny2 X.K) := by
  intro pins s σ H xs us Q I r h
  rcases h with h | ⟨d, hd, h⟩
  · exact cr_sortedI pins s σ H xs us Q I r h
  · exact cr_sortL hd pins s σ H xs us Q I r h
theorem pw_dpL {K : PySem.W.Frag} {H : Hp} : ∀ {ys : List V} {mss : List (List Int)}, DpAll K H ys (mss.map tupI) → ys.Pairwise (fun x y => ∀ n m, TupI K H x n → TupI K H y m → lexL m n = false) → mss.Pairwise (fun a b => lexL b a = false)
  | _, [], _, _ => .nil
  | [], _ :: _, h, _ => by cases h
  | y :: ys, m :: mss, h, hp => by
    cases h with
    | cons h1 h2 =>
      obtain ⟨p1, p2⟩ := List.pairwise_cons.mp hp
      refine List.pairwise_cons.mpr ⟨fun b hb => ?_, pw_dpL h2 p2⟩
      obtain ⟨i, hi, rfl⟩ := List.mem_iff_getElem.mp hb
      obtain ⟨v, e1, e2⟩ := h2.get (i := i) (d := tupI mss[i]) (by rw [List.getElem?_map, List.getElem?_eq_getElem hi]; rfl)
      exact p1 v (List.mem_of_getElem? e1) _ _ (tupI_of h1) (tupI_of e2)
theorem opq_sortL {K : PySem.W.Frag} {Ps : TX} : OpQ K Ps (rSortAny2 K) fSortL := by
  intro M hs H p xs b ds Qd Q wf h1 h2 ⟨d, e, q⟩ k
  unfold gSortL at e
  split at e
  · rename_i hb
    subst hb
    have h1 : SqL K H p xs := h1
    split at e
    · rename_i ns qn
      cases e
      have ex := intsD_dp h2 qn
      subst ex
      refine .inl ⟨p, ns, rfl, h1, fun ns' l hp hs hl => ?_⟩
      rw [PySem.W.eq_sortI hp hs]
      exact k _ _ _ q (Step.of_ex (Ex.new hl)) (dp_newL wf hl DpAll.ints)
    · split at e
      · rename_i nss qn
        split at e
        · rename_i hc
          cases e
          simp only [Bool.and_eq_true] at hc
          obtain ⟨c1, c2, c3⟩ := hc
          have ed := tupsD_eq qn
          subst ed
          have bd : ∀ ns ∈ nss, ns.length = (nss.headD []).length := fun ns hn => eq_of_beq (List.all_eq_true.mp c3 ns hn)
          refine .inr ⟨(nss.headD []).length, Nat.le_of_ble_eq_true c2, p, xs, rfl, h1, fun x hx => ?_, fun ys l hp hs hl => ?_⟩
          · obtain ⟨d, hd1, hd2⟩ := dpAll_mem h2 hx
            obtain ⟨ns, hn, rfl⟩ := List.mem_map.mp hd1
            exact ⟨ns, tupI_of (dp_mono msk_ex hd2), bd ns hn⟩
          · obtain ⟨es, pe, qe⟩ := dpAll_perm hp h2
            obtain ⟨mss, rfl, pm⟩ : ∃ mss : List (List Int), es = mss.map tupI ∧ mss.Perm nss := by
              have hes : ∀ e ∈ es, ∃ m, e = tupI m := fun e he => by
                obtain ⟨m, _, rfl⟩ := List.mem_map.mp (pe.subset he)
                exact ⟨m, rfl⟩
              have : ∃ mss : List (List Int), es = mss.map tupI := by
                clear pe qe
                induction es with
                | nil => exact ⟨[], rfl⟩
                | cons e es ih =>
                  obtain ⟨m, rfl⟩ := hes e List.mem_cons_self
                  obtain ⟨mss, rfl⟩ := ih fun e he => hes e (List.mem_cons_of_mem _ he)
                  exact ⟨m :: mss, rfl⟩
              obtain ⟨mss, rfl⟩ := this
              refine ⟨mss, rfl, ?_⟩
              have hm := pe.map tupD
              simp only [List.map_map] at hm
              have ef : (tupD ∘ tupI) = (some : List Int → Option (List Int)) := by
                funext ns
                exact intsD_map ns
              rw [ef] at hm
              have h3 := hm.filterMap id
              simpa [List.filterMap_map] using h3
            have e2 : mss = srtL nss := by
              refine List.Perm.eq_of_pairwise (fun a b ha hb h1 h2 => lexL_anti h2 h1) (pw_dpL (dpAll_mono msk_ex qe) hs) (srtL_rises _) (pm.trans (srtL_perm _).symm)
            subst e2
            exact k _ _ _ q (Step.of_ex (Ex.new hl)) (dp_newL wf hl qe)
        · cases e
      · cases e
  · cases e
end Dl
end
section
set_option Elab.async false
set_option linter.all false
set_option maxRecDepth 100000
set_option maxHeartbeats 1000000
/-! a dict != a tuple. -/
namespace PySem.SeqAt
open PySem PySem.Spec
end PySem.SeqAt

namespace L2
open PySem PySem.Spec PyProof.Rows
def rNe2 (K : PySem.W.Frag) : R2 := fun x y H Q => rNeD K x y H Q ∨ ∃ a b xs, x = .ref a ∧ y = .ref b ∧ ((∃ kvs, H a = some (.dK kvs)) ∨ ∃ kvs, H a = some (.dT kvs)) ∧ SqT K H b xs ∧ Q (.bl true) H
end L2
namespace Dl
open PySem PySem.Spec PyProof.Rows L2 HbE Evl RZ Gx
def fNe2 : PyData → PyData → (PyData → Prop) → Prop := fun x y Q => (∃ ks ts, x = .dict ks ∧ y = .tuple ts ∧ Q (.bool true)) ∨ fEq true x y Q
def gNe2 : PyData → PyData → Option PyData := fun x y => match x, y with
  | .dict _, .tuple _ => some (.bool true)
  | _, _ => gEq true x y
end Dl
end
section
set_option Elab.async false
set_option linter.all false
set_option maxRecDepth 100000
set_option maxHeartbeats 1000000
/-! list(zip(*e)). -/
namespace ZnS
open PySem PySem.Spec PyProof.Rows L2 ZpM
structure MadeZ (cols : List (List Value)) (lo : Addr) (h : Heap) (ps : List Addr) : Prop where
  rise : ps.Pairwise (· < ·)
  above : ∀ a ∈ ps, lo < a
  tups : ∀ (j : Nat) (a : Addr), ps[j]? = some a → ∃ us, cols[j]? = some us ∧ h.get? a = some (tup us)
theorem MadeZ.there {cols : List (List Value)} {lo : Addr} {h : Heap} {ps : List Addr} (g : MadeZ cols lo h ps) {a : Addr} (ha : a ∈ ps) : a < h.objs.size := by
  obtain ⟨j, hj⟩ := List.mem_iff_getElem?.mp ha
  obtain ⟨_, _, e⟩ := g.tups j a hj
  exact Heap.lt_size e
/-- what stands of the sequences -/
structure Src (h : Heap) (b : Nat) (as : List Addr) (cols : List (List Value)) : Prop where
  lo : ∀ a ∈ as, a < b
  item : ∀ (j : Nat) (us : List Value), cols[j]? = some us → us.length = as.length ∧ ∀ (k : Nat) (a : Addr), as[k]? = some a → ∃ vs : Array Value, Sc "tuple" h a vs ∧ vs[j]? = us[k]?
  fin : ∃ a vs, as[0]? = some a ∧ Sc "tuple" h a vs ∧ vs[cols.length]? = none
theorem Src.mv {h g : Heap} {b : Nat} {as : List Addr} {cols : List (List Value)} (x : Src h b as cols) (k : ∀ (c : Nat) (o : Obj), c < b → h.get? c = some o → g.get? c = some o) : Src g b as cols := by
  have up : ∀ {a : Addr} {vs : Array Value}, a ∈ as → Sc "tuple" h a vs → Sc "tuple" g a vs := fun {a vs} m s => s.elim fun o q => ⟨o, k a o (x.lo a m) q.1, q.2⟩
  refine ⟨x.lo, fun j us e => ⟨(x.item j us e).1, fun k' a ea => ?_⟩, ?_⟩
  · obtain ⟨vs, s, q⟩ := (x.item j us e).2 k' a ea
    exact ⟨vs, up (List.mem_of_getElem? ea) s, q⟩
  · obtain ⟨a, vs, ea, s, q⟩ := x.fin
    exact ⟨a, vs, ea, up (List.mem_of_getElem? ea) s, q⟩
section
variable {prog : Program} {w : World} {A : Around} {s : Shared} {R : Result → Shared → Prop} {b n : Nat} {as : List Addr} {cols : List (List Value)}
end
section
variable {prog : Program} {w : World} {A : Around} {E : Value → Shared → Prop} {s : Shared} {b n : Nat} {as : List Addr} {cols : List (List Value)}
end
end ZnS
namespace Dl
open PySem PySem.Spec PyProof.Rows L2 HbE Evl RZ Gx ZnS ZpM
def dListZip (de : DE) : DL := fun σ Q => de σ fun d => ∃ cols, zipO d = some cols ∧ cols.length ≤ 100000 ∧ Q cols
section
variable {X : Cx} {Ps : TX} {e : PySem.Expr} {p p2 p3 pos pos2 : Pos}
@[simp] def fListZip (fe : FE) : FA := fun σ => (fe σ).bind fun d => (Rs.ofO (zipO d)).bind fun cols => if lim cols.length = true then .ok cols else .no
end
end Dl
end
section
set_option Elab.async false
set_option linter.all false
set_option maxRecDepth 100000
set_option maxHeartbeats 4000000
/-! (..) * n for an n up to 100,000, where the product is at most 1,000,000 -/
namespace L2
open PySem PySem.Spec PyProof.Rows
def rRepB (K : PySem.W.Frag) : R2 := fun x y H Q => ∃ l k xs, x = .ref l ∧ y = .int k ∧ SqT K H l xs ∧ xs ≠ [] ∧ 2 ≤ k ∧ k ≤ 100000 ∧ k.toNat * xs.length ≤ 1000000 ∧ ∀ p, H p = none → Q (.ref p) (upd H p (.tup (List.replicate k.toNat xs).flatten))
section
variable {X : Cx}
end
end L2
namespace Dl
open PySem PySem.Spec PyProof.Rows L2 HbE Evl RZ
section
variable {K : PySem.W.Frag} {Ps : TX}
def fRepB : PyData → PyData → (PyData → Prop) → Prop := fun x y Q => match x, y with
  | .tuple ds, .int k => ds ≠ [] ∧ 2 ≤ k ∧ k ≤ 100000 ∧ k.toNat * ds.length ≤ 1000000 ∧ Q (.tuple (List.replicate k.toNat ds).flatten)
  | _, _ => False
end
def gRepB : PyData → PyData → Option PyData := fun x y => match x, y with
  | .tuple ds, .int k => if (!ds.isEmpty && decide (2 ≤ k) && Nat.ble k.toNat 100000 && Nat.ble (k.toNat * ds.length) 1000000) = true then some (.tuple (List.replicate k.toNat ds).flatten) else none
  | _, _ => none
@[simp] theorem gRepB_t (ds : List PyData) (k : Int) : gRepB (.tuple ds) (.int k) = if (!ds.isEmpty && decide (2 ≤ k) && Nat.ble k.toNat 100000 && Nat.ble (k.toNat * ds.length) 1000000) = true then some (.tuple (List.replicate k.toNat ds).flatten) else none := rfl
end Dl
end
section
set_option Elab.async false
set_option linter.all false
set_option maxRecDepth 100000
set_option maxHeartbeats 1000000
/-! {key: value} with one pair, the key a tuple. -/
namespace L2
open PySem PySem.Spec PyProof.Rows
def tDispT1 (tk tv : TE) : TE := fun σ H Q => ∀ p, H p = none → tk σ (upd H p (.dT [])) fun x H1 => tv σ H1 fun y H2 => H2 p = some (.dT []) ∧ ∃ b ks, x = .ref b ∧ H2 b = some (.tup (ks.map kV)) ∧ Q (.ref p) (upd H2 p (.dT (putK [] ks y)))
end L2
namespace Dl
open PySem PySem.Spec PyProof.Rows L2 HbE Evl RZ
end Dl
end
section
set_option Elab.async false
set_option linter.all false
set_option maxRecDepth 100000
set_option maxHeartbeats 1000000
namespace Q
open PySem PySem.Spec PyProof.Rows L2 HbE Evl Dl RZ Gx HbX
def topS (i : Nat) : Stmt := PySem.Challenge.pw_hardbits_k73_errors_of_maps.main.body.getD i (.Pass ⟨0, 0, 0, 0⟩)
section
variable {P : Program} {w : World} {K : PySem.W.Frag} {mg : Str → Option Value} {base : Heap} {Ps : TbL}
abbrev s_is_integer : Stmt := topS 3
abbrev N_is_integer : List PySem.Str := ["value"]
theorem sc_is_integer : FnScope N_is_integer ["value"] (defScope s_is_integer) := ⟨rfl, rfl, rfl, by decide +kernel, rfl, by decide +kernel, by decide +kernel⟩
def fs_is_integer : FS :=
  fRet (fAndV (fIsi "int" (fVar 0)) (fNotV (fIsi "bool" (fVar 0))))
def F_is_integer : FF := mkF 1 N_is_integer.length fs_is_integer
theorem ok_is_integer {f : Addr} {fd : FuncData} {k : Nat} (F : L2.Fun K "is_integer" "is_integer" s_is_integer f fd)
    (z_isinstance : mg "isinstance" = none)
    (z_int : mg "int" = none)
    (z_bool : mg "bool" = none) : FnOk P w K mg base (L2.CX P w) (k + 1) f fd ["value"] (spX K Ps fun E => ofF E F_is_integer) :=
  okFX (N := N_is_integer) (n := 1) (fs := fs_is_integer) F sc_is_integer rfl fun cdv A outer s H E Ed hr tk po => ⟨_, (have nd := sc_is_integer.nd
    psd_one (psd_ret (pd_and (pd_isi (by decide +kernel) (pd_var (pv 0)) (by rfl) z_isinstance (pe_bltn (by rfl) z_int PyProof.Rows.Boot.«int» rfl)) (pe_one (pd_not (pd_isi (by decide +kernel) (pd_var (pv 0)) (by rfl) z_isinstance (pe_bltn (by rfl) z_bool PyProof.Rows.Boot.«bool» rfl))))))),
    (les_ret (le_andV (le_isi (le_var)) (le_notV (le_isi (le_var)))))⟩
abbrev s_is_between : Stmt := topS 4
abbrev N_is_between : List PySem.Str := ["value", "low", "high"]
theorem sc_is_between : FnScope N_is_between ["value", "low", "high"] (defScope s_is_between) := ⟨rfl, rfl, rfl, by decide +kernel, rfl, by decide +kernel, by decide +kernel⟩
def fs_is_between : FS :=
  fRet (fAndV (fCall F_is_integer (fCons (fVar 0) (fNil))) (fChain (gI0 fun i j => .bool (decide (i ≤ j))) (gI0 fun i j => .bool (decide (i ≤ j))) (fVar 1) (fVar 0) (fVar 2)))
def F_is_between : FF := mkF 3 N_is_between.length fs_is_between
theorem ok_is_between {f : Addr} {fd : FuncData} {k : Nat} (F : L2.Fun K "is_between" "is_between" s_is_between f fd)
    {f_is_integer : Addr} {d_is_integer : FuncData} {l_is_integer : Nat} (h_is_integer : l_is_integer ≤ k) (G_is_integer : FnOk P w K mg base (L2.CX P w) l_is_integer f_is_integer d_is_integer ["value"] (spX K Ps fun E => ofF E F_is_integer)) (g_is_integer : mg "is_integer" = some (.ref f_is_integer)) (k_is_integer : PySem.W.keepIn K (.ref f_is_integer) = true) (b_is_integer : Binds K d_is_integer ["value"] []) : FnOk P w K mg base (L2.CX P w) (k + 1) f fd ["value", "low", "high"] (spX K Ps fun E => ofF E F_is_between) :=
  okFX (N := N_is_between) (n := 3) (fs := fs_is_between) F sc_is_between rfl fun cdv A outer s H E Ed hr tk po => ⟨_, (have nd := sc_is_between.nd
    psd_one (psd_ret (pd_and (pd_callX G_is_integer tk (hr.mono (by omega)) (by rfl) g_is_integer k_is_integer b_is_integer (pda_cons (pw_dat (pd_var (pv 0))) (pda_nil))) (pe_one (pd_chain op_le op_le (op2_I0 fun _ _ _ _ => .bl _) (op2_I0 fun _ _ _ _ => .bl _) (pd_var (pv 1)) (pd_var (pv 0)) (pd_var (pv 2))))))),
    (les_ret (le_andV (le_call (le_cons (le_var) (le_nil))) (le_chain (leop_I0) (leop_I0) (le_var) (le_var) (le_var))))⟩
abbrev s_is_index : Stmt := topS 5
abbrev N_is_index : List PySem.Str := ["value", "limit"]
theorem sc_is_index : FnScope N_is_index ["value", "limit"] (defScope s_is_index) := ⟨rfl, rfl, rfl, by decide +kernel, rfl, by decide +kernel, by decide +kernel⟩
def fs_is_index : FS :=
  fRet (fCall F_is_between (fCons (fVar 0) (fCons (fC (.int 0)) (fCons (fOp (gI0 fun i j => .int (i - j)) (fVar 1) (fC (.int 1))) (fNil)))))
def F_is_index : FF := mkF 2 N_is_index.length fs_is_index
theorem ok_is_index {f : Addr} {fd : FuncData} {k : Nat} (F : L2.Fun K "is_index" "is_index" s_is_index f fd)
    {f_is_between : Addr} {d_is_between : FuncData} {l_is_between : Nat} (h_is_between : l_is_between ≤ k) (G_is_between : FnOk P w K mg base (L2.CX P w) l_is_between f_is_between d_is_between ["value", "low", "high"] (spX K Ps fun E => ofF E F_is_between)) (g_is_between : mg "is_between" = some (.ref f_is_between)) (k_is_between : PySem.W.keepIn K (.ref f_is_between) = true) (b_is_between : Binds K d_is_between ["value", "low", "high"] []) : FnOk P w K mg base (L2.CX P w) (k + 1) f fd ["value", "limit"] (spX K Ps fun E => ofF E F_is_index) :=
  okFX (N := N_is_index) (n := 2) (fs := fs_is_index) F sc_is_index rfl fun cdv A outer s H E Ed hr tk po => ⟨_, (have nd := sc_is_index.nd
    psd_one (psd_ret (pd_callX G_is_between tk (hr.mono (by omega)) (by rfl) g_is_between k_is_between b_is_between (pda_cons (pw_dat (pd_var (pv 0))) (pda_cons (pw_dat (pd_c pe_int (fun _ _ => .int _))) (pda_cons (pw_dat (pd_op op_sub (op2_I0 fun _ _ _ _ => .int _) (pd_var (pv 1)) (pd_c pe_int (fun _ _ => .int _)))) (pda_nil))))))),
    (les_ret (le_call (le_cons (le_var) (le_cons (le_c) (le_cons (le_op (leop_I0) (le_var) (le_c)) (le_nil))))))⟩
abbrev s_is_tuple_of : Stmt := topS 6
abbrev N_is_tuple_of : List PySem.Str := ["value", "length"]
theorem sc_is_tuple_of : FnScope N_is_tuple_of ["value", "length"] (defScope s_is_tuple_of) := ⟨rfl, rfl, rfl, by decide +kernel, rfl, by decide +kernel, by decide +kernel⟩
def fs_is_tuple_of : FS :=
  fRet (fAndV (fIsi "tuple" (fVar 0)) (fOp (gEq false) (fOpQ gLen (fVarQ 0)) (fVar 1)))
def F_is_tuple_of : FF := mkF 2 N_is_tuple_of.length fs_is_tuple_of
theorem ok_is_tuple_of {f : Addr} {fd : FuncData} {k : Nat} (F : L2.Fun K "is_tuple_of" "is_tuple_of" s_is_tuple_of f fd)
    (z_isinstance : mg "isinstance" = none)
    (z_tuple : mg "tuple" = none)
    (z_len : mg "len" = none) : FnOk P w K mg base (L2.CX P w) (k + 1) f fd ["value", "length"] (spX K Ps fun E => ofF E F_is_tuple_of) :=
  okFX (N := N_is_tuple_of) (n := 2) (fs := fs_is_tuple_of) F sc_is_tuple_of rfl fun cdv A outer s H E Ed hr tk po => ⟨_, (have nd := sc_is_tuple_of.nd
    psd_one (psd_ret (pd_and (pd_isi (by decide +kernel) (pd_var (pv 0)) (by rfl) z_isinstance (pe_bltn (by rfl) z_tuple PyProof.Rows.Boot.«tuple» rfl)) (pe_one (pd_cmp (op_eqD hr.units) (op2_eq) (pd_len (by rfl) z_len (pq_var (pv 0))) (pd_var (pv 1)) (nomark _)))))),
    (les_ret (le_andV (le_isi (le_var)) (le_op (leop_eq) (le_opQ leq_len (le_varQ)) (le_var))))⟩
abbrev s_is_answer : Stmt := topS 7
abbrev N_is_answer : List PySem.Str := ["value", "word", "length"]
theorem sc_is_answer : FnScope N_is_answer ["value", "word", "length"] (defScope s_is_answer) := ⟨rfl, rfl, rfl, by decide +kernel, rfl, by decide +kernel, by decide +kernel⟩
def fs_is_answer : FS :=
  fRet (fAndV (fCall F_is_tuple_of (fCons (fVar 0) (fCons (fVar 2) (fNil)))) (fOp (gEq false) (fIx (fVarQ 0) (fC (.int 0))) (fVar 1)))
def F_is_answer : FF := mkF 3 N_is_answer.length fs_is_answer
theorem ok_is_answer {f : Addr} {fd : FuncData} {k : Nat} (F : L2.Fun K "is_answer" "is_answer" s_is_answer f fd)
    {f_is_tuple_of : Addr} {d_is_tuple_of : FuncData} {l_is_tuple_of : Nat} (h_is_tuple_of : l_is_tuple_of ≤ k) (G_is_tuple_of : FnOk P w K mg base (L2.CX P w) l_is_tuple_of f_is_tuple_of d_is_tuple_of ["value", "length"] (spX K Ps fun E => ofF E F_is_tuple_of)) (g_is_tuple_of : mg "is_tuple_of" = some (.ref f_is_tuple_of)) (k_is_tuple_of : PySem.W.keepIn K (.ref f_is_tuple_of) = true) (b_is_tuple_of : Binds K d_is_tuple_of ["value", "length"] []) : FnOk P w K mg base (L2.CX P w) (k + 1) f fd ["value", "word", "length"] (spX K Ps fun E => ofF E F_is_answer) :=
  okFX (N := N_is_answer) (n := 3) (fs := fs_is_answer) F sc_is_answer rfl fun cdv A outer s H E Ed hr tk po => ⟨_, (have nd := sc_is_answer.nd
    psd_one (psd_ret (pd_and (pd_callX G_is_tuple_of tk (hr.mono (by omega)) (by rfl) g_is_tuple_of k_is_tuple_of b_is_tuple_of (pda_cons (pw_dat (pd_var (pv 0))) (pda_cons (pw_dat (pd_var (pv 2))) (pda_nil)))) (pe_one (pd_cmp (op_eqD hr.units) (op2_eq) (pd_ix (pq_var (pv 0)) (pd_c pe_int (fun _ _ => .int _)) (fun _ _ => rfl)) (pd_var (pv 1)) (nomark _)))))),
    (les_ret (le_andV (le_call (le_cons (le_var) (le_cons (le_var) (le_nil)))) (le_op (leop_eq) (le_ix (le_varQ) (le_c)) (le_var))))⟩
abbrev s_is_indices : Stmt := topS 8
abbrev N_is_indices : List PySem.Str := ["value", "limit", "place"]
theorem sc_is_indices : FnScope N_is_indices ["value", "limit"] (defScope s_is_indices) := ⟨rfl, rfl, rfl, by decide +kernel, rfl, by decide +kernel, by decide +kernel⟩
def fs_is_indices : FS :=
  fRet (fAndV (fIsi "tuple" (fVar 0)) (fAll (fItS (fVar 0)) (fgSet 2) (fYes) (fCall0 F_is_index (fCons (fVar 2) (fCons (fVar 1) (fNil)))) [2]))
def F_is_indices : FF := mkF 2 N_is_indices.length fs_is_indices
theorem ok_is_indices {f cc PP : Addr} {fd : FuncData} {k : Nat} (F : FunC K "is_indices" "is_indices" s_is_indices cc f fd)
    (z_isinstance : mg "isinstance" = none)
    (z_tuple : mg "tuple" = none)
    (z_all : mg "all" = none)
    (h2 : 2 ≤ k) (TB : GxR.TabB base mg cc PP) (hPP : (PP, none) ∈ Ps)
    {f_is_index : Addr} {d_is_index : FuncData} {l_is_index : Nat} (h_is_index : l_is_index + 2 ≤ k) (G_is_index : FnOk P w K mg base (L2.CX P w) l_is_index f_is_index d_is_index ["value", "limit"] (spX K Ps fun E => ofF E F_is_index)) (g_is_index : mg "is_index" = some (.ref f_is_index)) (k_is_index : PySem.W.keepIn K (.ref f_is_index) = true) (b_is_index : Binds K d_is_index ["value", "limit"] []) : FnOk P w K mg base (L2.CX P w) (k + 1) f fd ["value", "limit"] (spX K Ps fun E => ofF E F_is_indices) :=
  okFXC (N := N_is_indices) (n := 2) (fs := fs_is_indices) F sc_is_indices rfl fun A outer s H E Ed hr tk po => ⟨_, (have nd := sc_is_indices.nd
    psd_one (psd_ret (pd_and (pd_isi (by decide +kernel) (pd_var (pv 0)) (by rfl) z_isinstance (pe_bltn (by rfl) z_tuple PyProof.Rows.Boot.«tuple» rfl)) (pe_one (pd_all (k := k - 2) (own := [("place", 2)]) (hr.mono (by omega)) (by rfl) z_all TB hPP rfl nd rfl (by decide +kernel) rfl (blkOk_by (N := N_is_indices) (sc := defScope s_is_indices) (by decide +kernel)) (pid_seq (pd_var (pv 0))) (fun _ _ _ _ _ _ _ hr => pgd_name (pg_name (i := 2) nd rfl (by first | exact Or.inl rfl | exact Or.inr rfl))) (fun _ _ _ _ _ _ _ hr => ptsd_nil) (fun _ _ _ _ _ _ _ hr => pd_call (fnX0 G_is_index) (hr.mono (by omega)) (by rfl) g_is_index k_is_index b_is_index (pda_cons (pw_dat (pd_var (pv 2))) (pda_cons (pw_dat (pd_var (pv 1))) (pda_nil))))))))),
    (les_ret (le_andV (le_isi (le_var)) (le_all (le_itS (le_var)) (le_gSet) (le_yes) (le_call0 (le_cons (le_var) (le_cons (le_var) (le_nil)))))))⟩
abbrev s_is_row_within : Stmt := topS 9
abbrev N_is_row_within : List PySem.Str := ["value", "least", "most", "bottom", "numbers", "number"]
theorem sc_is_row_within : FnScope N_is_row_within ["value", "least", "most"] (defScope s_is_row_within) := ⟨rfl, rfl, rfl, by decide +kernel, rfl, by decide +kernel, by decide +kernel⟩
def fs_is_row_within : FS :=
  fSeq (fIf (fNot (fTru (fCall F_is_tuple_of (fCons (fVar 0) (fCons (fC (.int 2)) (fNil)))))) (fRet (fC (.bool false))) (fNext))
    (fSeq (fAsgG (fgSeq 2 (fgsCons (fgSet 3) (fgsCons (fgSet 4) (fgsNil)))) (fVar 0))
    (fSeq (fIf (fOr (fNot (fTru (fCall F_is_integer (fCons (fVar 3) (fNil))))) (fOr (fTest (fOp (gI0 fun i j => .bool (decide (i < j))) (fVar 3) (fC (.int 1)))) (fNot (fTru (fIsi "tuple" (fVar 4)))))) (fRet (fC (.bool false))) (fNext))
    (fRet (fAndV (fChain (gI0 fun i j => .bool (decide (i ≤ j))) (gI0 fun i j => .bool (decide (i ≤ j))) (fVar 1) (fOpQ gLen (fVarQ 4)) (fVar 2)) (fAll (fItS (fVar 4)) (fgSet 5) (fYes) (fCall0 F_is_integer (fCons (fVar 5) (fNil))) [5])))))
def F_is_row_within : FF := mkF 3 N_is_row_within.length fs_is_row_within
theorem ok_is_row_within {f cc PP : Addr} {fd : FuncData} {k : Nat} (F : FunC K "is_row_within" "is_row_within" s_is_row_within cc f fd)
    (z_isinstance : mg "isinstance" = none)
    (z_tuple : mg "tuple" = none)
    (z_len : mg "len" = none)
    (z_all : mg "all" = none)
    (h2 : 2 ≤ k) (TB : GxR.TabB base mg cc PP) (hPP : (PP, none) ∈ Ps)
    {f_is_tuple_of : Addr} {d_is_tuple_of : FuncData} {l_is_tuple_of : Nat} (h_is_tuple_of : l_is_tuple_of + 2 ≤ k) (G_is_tuple_of : FnOk P w K mg base (L2.CX P w) l_is_tuple_of f_is_tuple_of d_is_tuple_of ["value", "length"] (spX K Ps fun E => ofF E F_is_tuple_of)) (g_is_tuple_of : mg "is_tuple_of" = some (.ref f_is_tuple_of)) (k_is_tuple_of : PySem.W.keepIn K (.ref f_is_tuple_of) = true) (b_is_tuple_of : Binds K d_is_tuple_of ["value", "length"] [])
    {f_is_integer : Addr} {d_is_integer : FuncData} {l_is_integer : Nat} (h_is_integer : l_is_integer + 2 ≤ k) (G_is_integer : FnOk P w K mg base (L2.CX P w) l_is_integer f_is_integer d_is_integer ["value"] (spX K Ps fun E => ofF E F_is_integer)) (g_is_integer : mg "is_integer" = some (.ref f_is_integer)) (k_is_integer : PySem.W.keepIn K (.ref f_is_integer) = true) (b_is_integer : Binds K d_is_integer ["value"] []) : FnOk P w K mg base (L2.CX P w) (k + 1) f fd ["value", "least", "most"] (spX K Ps fun E => ofF E F_is_row_within) :=
  okFXC (N := N_is_row_within) (n := 3) (fs := fs_is_row_within) F sc_is_row_within rfl fun A outer s H E Ed hr tk po => ⟨_, (have nd := sc_is_row_within.nd
    psd_cons (psd_if (ptd_not (ptd_tru (pd_callX G_is_tuple_of tk (hr.mono (by omega)) (by rfl) g_is_tuple_of k_is_tuple_of b_is_tuple_of (pda_cons (pw_dat (pd_var (pv 0))) (pda_cons (pw_dat (pd_c pe_int (fun _ _ => .int _))) (pda_nil)))))) (psd_one (psd_ret (pd_c pe_bl (fun _ _ => .bl _)))) (psd_nil))
    (psd_cons (psd_asgG (pd_var (pv 0)) (pgd_seq rfl (pgsd_cons (pgd_name (pg_name (i := 3) nd rfl (by first | exact Or.inl rfl | exact Or.inr rfl))) (pgsd_cons (pgd_name (pg_name (i := 4) nd rfl (by first | exact Or.inl rfl | exact Or.inr rfl))) (pgsd_nil)))))
    (psd_cons (psd_if (PW.pt (pwd_or (ptd_not (ptd_tru (pd_callX G_is_integer tk (hr.mono (by omega)) (by rfl) g_is_integer k_is_integer b_is_integer (pda_cons (pw_dat (pd_var (pv 3))) (pda_nil))))) (pwd_or (pt_d_cmp op_lt (op2_I0 fun _ _ _ _ => .bl _) (pd_var (pv 3)) (pd_c pe_int (fun _ _ => .int _)) (nomark _)) (pwd_or1 (ptd_not (ptd_tru (pd_isi (by decide +kernel) (pd_var (pv 4)) (by rfl) z_isinstance (pe_bltn (by rfl) z_tuple PyProof.Rows.Boot.«tuple» rfl)))))))) (psd_one (psd_ret (pd_c pe_bl (fun _ _ => .bl _)))) (psd_nil))
    (psd_one (psd_ret (pd_and (pd_chain op_le op_le (op2_I0 fun _ _ _ _ => .bl _) (op2_I0 fun _ _ _ _ => .bl _) (pd_var (pv 1)) (pd_len (by rfl) z_len (pq_var (pv 4))) (pd_var (pv 2))) (pe_one (pd_all (k := k - 2) (own := [("number", 5)]) (hr.mono (by omega)) (by rfl) z_all TB hPP rfl nd rfl (by decide +kernel) rfl (blkOk_by (N := N_is_row_within) (sc := defScope s_is_row_within) (by decide +kernel)) (pid_seq (pd_var (pv 4))) (fun _ _ _ _ _ _ _ hr => pgd_name (pg_name (i := 5) nd rfl (by first | exact Or.inl rfl | exact Or.inr rfl))) (fun _ _ _ _ _ _ _ hr => ptsd_nil) (fun _ _ _ _ _ _ _ hr => pd_call (fnX0 G_is_integer) (hr.mono (by omega)) (by rfl) g_is_integer k_is_integer b_is_integer (pda_cons (pw_dat (pd_var (pv 5))) (pda_nil))))))))))),
    (les_seq (les_if (le_notT (le_tru (le_call (le_cons (le_var) (le_cons (le_c) (le_nil)))))) (les_ret (le_c)) (les_next))
    (les_seq (les_asgG (le_gSeq (le_gsCons (le_gSet) (le_gsCons (le_gSet) (le_gsNil)))) (le_var))
    (les_seq (les_if (le_orT (le_notT (le_tru (le_call (le_cons (le_var) (le_nil))))) (le_orT (le_test (le_op (leop_I0) (le_var) (le_c))) (le_notT (le_tru (le_isi (le_var)))))) (les_ret (le_c)) (les_next))
    (les_ret (le_andV (le_chain (leop_I0) (leop_I0) (le_var) (le_opQ leq_len (le_varQ)) (le_var)) (le_all (le_itS (le_var)) (le_gSet) (le_yes) (le_call0 (le_cons (le_var) (le_nil)))))))))⟩
abbrev s_is_weights : Stmt := topS 10
abbrev N_is_weights : List PySem.Str := ["value", "count"]
theorem sc_is_weights : FnScope N_is_weights ["value", "count"] (defScope s_is_weights) := ⟨rfl, rfl, rfl, by decide +kernel, rfl, by decide +kernel, by decide +kernel⟩
def fs_is_weights : FS :=
  fRet (fAndV (fCall F_is_row_within (fCons (fVar 0) (fCons (fVar 1) (fCons (fVar 1) (fNil))))) (fOp (gI0 fun i j => .bool (decide (j ≤ i))) (fOpQ gMin (fSeqE (fIx (fVarQ 0) (fC (.int 1))))) (fC (.int 0))))
def F_is_weights : FF := mkF 2 N_is_weights.length fs_is_weights
theorem ok_is_weights {f : Addr} {fd : FuncData} {k : Nat} (F : L2.Fun K "is_weights" "is_weights" s_is_weights f fd)
    (z_min : mg "min" = none)
    {f_is_row_within : Addr} {d_is_row_within : FuncData} {l_is_row_within : Nat} (h_is_row_within : l_is_row_within ≤ k) (G_is_row_within : FnOk P w K mg base (L2.CX P w) l_is_row_within f_is_row_within d_is_row_within ["value", "least", "most"] (spX K Ps fun E => ofF E F_is_row_within)) (g_is_row_within : mg "is_row_within" = some (.ref f_is_row_within)) (k_is_row_within : PySem.W.keepIn K (.ref f_is_row_within) = true) (b_is_row_within : Binds K d_is_row_within ["value", "least", "most"] []) : FnOk P w K mg base (L2.CX P w) (k + 1) f fd ["value", "count"] (spX K Ps fun E => ofF E F_is_weights) :=
  okFX (N := N_is_weights) (n := 2) (fs := fs_is_weights) F sc_is_weights rfl fun cdv A outer s H E Ed hr tk po => ⟨_, (have nd := sc_is_weights.nd
    psd_one (psd_ret (pd_and (pd_callX G_is_row_within tk (hr.mono (by omega)) (by rfl) g_is_row_within k_is_row_within b_is_row_within (pda_cons (pw_dat (pd_var (pv 0))) (pda_cons (pw_dat (pd_var (pv 1))) (pda_cons (pw_dat (pd_var (pv 1))) (pda_nil))))) (pe_one (pd_cmp op_ge (op2_I0 fun _ _ _ _ => .bl _) (pd_callQ (cr_minS rfl hr.units) opq_minS (by rfl) z_min Dl.b_min (pq_dat (pd_ix (pq_var (pv 0)) (pd_c pe_int (fun _ _ => .int _)) (fun _ _ => rfl)))) (pd_c pe_int (fun _ _ => .int _)) (nomark _)))))),
    (les_ret (le_andV (le_call (le_cons (le_var) (le_cons (le_var) (le_cons (le_var) (le_nil))))) (le_op (leop_I0) (le_opQ leq_min (le_seqE (le_ix (le_varQ) (le_c)))) (le_c))))⟩
abbrev s_is_mix : Stmt := topS 11
abbrev N_is_mix : List PySem.Str := ["value", "count"]
theorem sc_is_mix : FnScope N_is_mix ["value", "count"] (defScope s_is_mix) := ⟨rfl, rfl, rfl, by decide +kernel, rfl, by decide +kernel, by decide +kernel⟩
def fs_is_mix : FS :=
  fRet (fAndV (fCall F_is_weights (fCons (fVar 0) (fCons (fVar 1) (fNil)))) (fOp (gEq false) (fOpQ gSum (fSeqE (fIx (fVarQ 0) (fC (.int 1))))) (fIx (fVarQ 0) (fC (.int 0)))))
def F_is_mix : FF := mkF 2 N_is_mix.length fs_is_mix
theorem ok_is_mix {f : Addr} {fd : FuncData} {k : Nat} (F : L2.Fun K "is_mix" "is_mix" s_is_mix f fd)
    (z_sum : mg "sum" = none)
    {f_is_weights : Addr} {d_is_weights : FuncData} {l_is_weights : Nat} (h_is_weights : l_is_weights ≤ k) (G_is_weights : FnOk P w K mg base (L2.CX P w) l_is_weights f_is_weights d_is_weights ["value", "count"] (spX K Ps fun E => ofF E F_is_weights)) (g_is_weights : mg "is_weights" = some (.ref f_is_weights)) (k_is_weights : PySem.W.keepIn K (.ref f_is_weights) = true) (b_is_weights : Binds K d_is_weights ["value", "count"] []) : FnOk P w K mg base (L2.CX P w) (k + 1) f fd ["value", "count"] (spX K Ps fun E => ofF E F_is_mix) :=
  okFX (N := N_is_mix) (n := 2) (fs := fs_is_mix) F sc_is_mix rfl fun cdv A outer s H E Ed hr tk po => ⟨_, (have nd := sc_is_mix.nd
    psd_one (psd_ret (pd_and (pd_callX G_is_weights tk (hr.mono (by omega)) (by rfl) g_is_weights k_is_weights b_is_weights (pda_cons (pw_dat (pd_var (pv 0))) (pda_cons (pw_dat (pd_var (pv 1))) (pda_nil)))) (pe_one (pd_cmp (op_eqD hr.units) (op2_eq) (pd_callQ (cr_sumS rfl) opq_sumS (by rfl) z_sum Dl.b_sum (pq_dat (pd_ix (pq_var (pv 0)) (pd_c pe_int (fun _ _ => .int _)) (fun _ _ => rfl)))) (pd_ix (pq_var (pv 0)) (pd_c pe_int (fun _ _ => .int _)) (fun _ _ => rfl)) (nomark _)))))),
    (les_ret (le_andV (le_call (le_cons (le_var) (le_cons (le_var) (le_nil)))) (le_op (leop_eq) (le_opQ leq_sum (le_seqE (le_ix (le_varQ) (le_c)))) (le_ix (le_varQ) (le_c)))))⟩
abbrev s_need_number : Stmt := topS 20
abbrev N_need_number : List PySem.Str := ["value", "low", "high"]
theorem sc_need_number : FnScope N_need_number ["value", "low", "high"] (defScope s_need_number) := ⟨rfl, rfl, rfl, by decide +kernel, rfl, by decide +kernel, by decide +kernel⟩
def fs_need_number : FS :=
  fIf (fNot (fTru (fCall F_is_between (fCons (fVar 0) (fCons (fVar 1) (fCons (fVar 2) (fNil))))))) (fRaiseI "InvalidNumber" "given" (fVar 0)) (fNext)
def F_need_number : FF := mkF 3 N_need_number.length fs_need_number
theorem ok_need_number {f : Addr} {fd : FuncData} {k : Nat} (F : L2.Fun K "need_number" "need_number" s_need_number f fd)
    {c_InvalidNumber : Addr} (e_InvalidNumber : ClsI P w K mg base "InvalidNumber" c_InvalidNumber "given")
    (h2 : 2 ≤ k)
    {f_is_between : Addr} {d_is_between : FuncData} {l_is_between : Nat} (h_is_between : l_is_between ≤ k) (G_is_between : FnOk P w K mg base (L2.CX P w) l_is_between f_is_between d_is_between ["value", "low", "high"] (spX K Ps fun E => ofF E F_is_between)) (g_is_between : mg "is_between" = some (.ref f_is_between)) (k_is_between : PySem.W.keepIn K (.ref f_is_between) = true) (b_is_between : Binds K d_is_between ["value", "low", "high"] []) : FnOk P w K mg base (L2.CX P w) (k + 1) f fd ["value", "low", "high"] (spX K Ps fun E => ofF E F_need_number) :=
  okFX (N := N_need_number) (n := 3) (fs := fs_need_number) F sc_need_number rfl fun cdv A outer s H E Ed hr tk po => ⟨_, (have nd := sc_need_number.nd
    psd_one (psd_if (ptd_not (ptd_tru (pd_callX G_is_between tk (hr.mono (by omega)) (by rfl) g_is_between k_is_between b_is_between (pda_cons (pw_dat (pd_var (pv 0))) (pda_cons (pw_dat (pd_var (pv 1))) (pda_cons (pw_dat (pd_var (pv 2))) (pda_nil))))))) (psd_one (psd_raiseI e_InvalidNumber tk hr (by omega) rfl (by rfl) (pd_var (pv 0)))) (psd_nil))),
    (les_if (le_notT (le_tru (le_call (le_cons (le_var) (le_cons (le_var) (le_cons (le_var) (le_nil))))))) (les_raiseI (le_var)) (les_next))⟩
abbrev s_need_small_prime : Stmt := topS 21
abbrev N_need_small_prime : List PySem.Str := ["value"]
theorem sc_need_small_prime : FnScope N_need_small_prime ["value"] (defScope s_need_small_prime) := ⟨rfl, rfl, rfl, by decide +kernel, rfl, by decide +kernel, by decide +kernel⟩
def fs_need_small_prime : FS :=
  fIf (fOr (fNot (fTru (fCall F_is_integer (fCons (fVar 0) (fNil))))) (fTest (fIn true (fVar 0) (fSeqE (fC (.tuple (([2, 3, 5, 7] : List Int).map PyData.int))))))) (fRaiseI "InvalidNumber" "given" (fVar 0)) (fNext)
def F_need_small_prime : FF := mkF 1 N_need_small_prime.length fs_need_small_prime
theorem ok_need_small_prime {f : Addr} {fd : FuncData} {k : Nat} (F : L2.Fun K "need_small_prime" "need_small_prime" s_need_small_prime f fd)
    {a__SMALL_PRIMES : Addr} (c__SMALL_PRIMES : mg "_SMALL_PRIMES" = some (.ref a__SMALL_PRIMES)) (T__SMALL_PRIMES : TupK K a__SMALL_PRIMES [2, 3, 5, 7])
    {c_InvalidNumber : Addr} (e_InvalidNumber : ClsI P w K mg base "InvalidNumber" c_InvalidNumber "given")
    (h2 : 2 ≤ k)
    {f_is_integer : Addr} {d_is_integer : FuncData} {l_is_integer : Nat} (h_is_integer : l_is_integer ≤ k) (G_is_integer : FnOk P w K mg base (L2.CX P w) l_is_integer f_is_integer d_is_integer ["value"] (spX K Ps fun E => ofF E F_is_integer)) (g_is_integer : mg "is_integer" = some (.ref f_is_integer)) (k_is_integer : PySem.W.keepIn K (.ref f_is_integer) = true) (b_is_integer : Binds K d_is_integer ["value"] []) : FnOk P w K mg base (L2.CX P w) (k + 1) f fd ["value"] (spX K Ps fun E => ofF E F_need_small_prime) :=
  okFX (N := N_need_small_prime) (n := 1) (fs := fs_need_small_prime) F sc_need_small_prime rfl fun cdv A outer s H E Ed hr tk po => ⟨_, (have nd := sc_need_small_prime.nd
    psd_one (psd_if (PW.pt (pwd_or (ptd_not (ptd_tru (pd_callX G_is_integer tk (hr.mono (by omega)) (by rfl) g_is_integer k_is_integer b_is_integer (pda_cons (pw_dat (pd_var (pv 0))) (pda_nil))))) (pwd_or1 (ptd_notIn (Dl.room65 hr) (pd_var (pv 0)) (pq_dat (pd_tupC (ns := [2, 3, 5, 7]) (by rfl) c__SMALL_PRIMES T__SMALL_PRIMES)) (by rfl))))) (psd_one (psd_raiseI e_InvalidNumber tk hr (by omega) rfl (by rfl) (pd_var (pv 0)))) (psd_nil))),
    (les_if (le_orT (le_notT (le_tru (le_call (le_cons (le_var) (le_nil))))) (le_test (le_in (le_var) (le_seqE (le_c))))) (les_raiseI (le_var)) (les_next))⟩
abbrev s_need_draw : Stmt := topS 22
abbrev N_need_draw : List PySem.Str := ["value", "count"]
theorem sc_need_draw : FnScope N_need_draw ["value", "count"] (defScope s_need_draw) := ⟨rfl, rfl, rfl, by decide +kernel, rfl, by decide +kernel, by decide +kernel⟩
def fs_need_draw : FS :=
  fIf (fNot (fTru (fCall F_is_mix (fCons (fVar 0) (fCons (fVar 1) (fNil)))))) (fRaise ⟨"InvalidDraw", none⟩) (fNext)
def F_need_draw : FF := mkF 2 N_need_draw.length fs_need_draw
theorem ok_need_draw {f : Addr} {fd : FuncData} {k : Nat} (F : L2.Fun K "need_draw" "need_draw" s_need_draw f fd)
    {c_InvalidDraw : Addr} (e_InvalidDraw : ClsP K mg "InvalidDraw" c_InvalidDraw)
    {f_is_mix : Addr} {d_is_mix : FuncData} {l_is_mix : Nat} (h_is_mix : l_is_mix ≤ k) (G_is_mix : FnOk P w K mg base (L2.CX P w) l_is_mix f_is_mix d_is_mix ["value", "count"] (spX K Ps fun E => ofF E F_is_mix)) (g_is_mix : mg "is_mix" = some (.ref f_is_mix)) (k_is_mix : PySem.W.keepIn K (.ref f_is_mix) = true) (b_is_mix : Binds K d_is_mix ["value", "count"] []) : FnOk P w K mg base (L2.CX P w) (k + 1) f fd ["value", "count"] (spX K Ps fun E => ofF E F_need_draw) :=
  okFX (N := N_need_draw) (n := 2) (fs := fs_need_draw) F sc_need_draw rfl fun cdv A outer s H E Ed hr tk po => ⟨_, (have nd := sc_need_draw.nd
    psd_one (psd_if (ptd_not (ptd_tru (pd_callX G_is_mix tk (hr.mono (by omega)) (by rfl) g_is_mix k_is_mix b_is_mix (pda_cons (pw_dat (pd_var (pv 0))) (pda_cons (pw_dat (pd_var (pv 1))) (pda_nil)))))) (psd_one (psd_raiseP e_InvalidDraw tk rfl (by rfl))) (psd_nil))),
    (les_if (le_notT (le_tru (le_call (le_cons (le_var) (le_cons (le_var) (le_nil)))))) (les_raiseX) (les_next))⟩
abbrev s_parity : Stmt := topS 24
abbrev N_parity : List PySem.Str := ["number", "odd"]
theorem sc_parity : FnScope N_parity ["number"] (defScope s_parity) := ⟨rfl, rfl, rfl, by decide +kernel, rfl, by decide +kernel, by decide +kernel⟩
def fs_parity : FS :=
  fSeq (fSet 1 (fC (.int 0)))
    (fSeq (fWhile 1000000000 (fTru (fVar 0)) (fSeq (fAugC 1 cYes (fun i j => Builtin.bitXor i j) (fOp (gI0 fun i j => .int (Builtin.bitAnd i j)) (fVar 0) (fC (.int 1))))
    (fAugC 0 cNn (fun i j => i / 2 ^ j.toNat) (fC (.int 1)))))
    (fRet (fVar 1)))
def F_parity : FF := mkF 1 N_parity.length fs_parity
theorem ok_parity {f : Addr} {fd : FuncData} {k : Nat} (F : L2.Fun K "parity" "parity" s_parity f fd)
     : FnOk P w K mg base (L2.CX P w) (k + 1) f fd ["number"] (spX K Ps fun E => ofF E F_parity) :=
  okFX (N := N_parity) (n := 1) (fs := fs_parity) F sc_parity rfl fun cdv A outer s H E Ed hr tk po => ⟨_, (have nd := sc_parity.nd
    psd_cons (psd_set (i := 1) nd rfl (by first | exact Or.inl rfl | exact Or.inr rfl) (pd_c pe_int (fun _ _ => .int _)))
    (psd_cons (psd_while po (ptd_tru (pd_var (pv 0))) (psd_cons (psd_augC (i := 1) nd rfl (by first | exact Or.inl rfl | exact Or.inr rfl) (pd_op op_and (op2_I0 fun _ _ _ _ => .int _) (pd_var (pv 0)) (pd_c pe_int (fun _ _ => .int _))) ipx_xor)
    (psd_one (psd_augC (i := 0) nd rfl (by first | exact Or.inl rfl | exact Or.inr rfl) (pd_c pe_int (fun _ _ => .int _)) ipx_shr))))
    (psd_one (psd_ret (pd_var (pv 1)))))),
    (les_seq (les_set (le_c))
    (les_seq (les_while (le_tru (le_var)) (les_seq (les_augC cYes_ok (le_op (leop_I0) (le_var) (le_c)))
    (les_augC cNn_ok (le_c))))
    (les_ret (le_var))))⟩
abbrev s_reduced : Stmt := topS 26
abbrev N_reduced : List PySem.Str := ["top", "bottom", "shared"]
theorem sc_reduced : FnScope N_reduced ["top", "bottom"] (defScope s_reduced) := ⟨rfl, rfl, rfl, by decide +kernel, rfl, by decide +kernel, by decide +kernel⟩
def fs_reduced : FS :=
  fSeq (fSet 2 (fOpN gGcd (fCons (fVar 0) (fCons (fVar 1) (fNil)))))
    (fSeq (fIf (fTest (fOp (gI0 fun i j => .bool (decide (i < j))) (fVar 1) (fC (.int 0)))) (fSet 2 (fNeg (fVar 2))) (fNext))
    (fRet (fTup (fCons (fOp (gI cDiv fun i j => .int (i / j)) (fVar 0) (fVar 2)) (fCons (fOp (gI cDiv fun i j => .int (i / j)) (fVar 1) (fVar 2)) (fNil))))))
def F_reduced : FF := mkF 2 N_reduced.length fs_reduced
theorem ok_reduced {f : Addr} {fd : FuncData} {k : Nat} (F : L2.Fun K "reduced" "reduced" s_reduced f fd)
    (i_gcd : mg "gcd" = some (.builtin "math.gcd")) : FnOk P w K mg base (L2.CX P w) (k + 1) f fd ["top", "bottom"] (spX K Ps fun E => ofF E F_reduced) :=
  okFX (N := N_reduced) (n := 2) (fs := fs_reduced) F sc_reduced rfl fun cdv A outer s H E Ed hr tk po => ⟨_, (have nd := sc_reduced.nd
    psd_cons (psd_set (i := 2) nd rfl (by first | exact Or.inl rfl | exact Or.inr rfl) (pd_callF cr_gcd opn_gcd (by rfl) i_gcd (pda_cons (pw_dat (pd_var (pv 0))) (pda_cons (pw_dat (pd_var (pv 1))) (pda_nil)))))
    (psd_cons (psd_if (pt_d_cmp op_lt (op2_I0 fun _ _ _ _ => .bl _) (pd_var (pv 1)) (pd_c pe_int (fun _ _ => .int _)) (nomark _)) (psd_one (psd_set (i := 2) nd rfl (by first | exact Or.inl rfl | exact Or.inr rfl) (pd_neg (pd_var (pv 2))))) (psd_nil))
    (psd_one (psd_ret (pd_tup (pda_cons (pw_dat (pd_op op_fdivW (op2_I fun _ _ _ _ => .int _) (pd_var (pv 0)) (pd_var (pv 2)))) (pda_cons (pw_dat (pd_op op_fdivW (op2_I fun _ _ _ _ => .int _) (pd_var (pv 1)) (pd_var (pv 2)))) (pda_nil)))))))),
    (les_seq (les_set (le_opN len_gcd (le_cons (le_var) (le_cons (le_var) (le_nil)))))
    (les_seq (les_if (le_test (le_op (leop_I0) (le_var) (le_c))) (les_set (le_neg (le_var))) (les_next))
    (les_ret (le_tup (le_cons (le_op (leop_I cDiv_ok) (le_var) (le_var)) (le_cons (le_op (leop_I cDiv_ok) (le_var) (le_var)) (le_nil)))))))⟩
abbrev s_lowest_row : Stmt := topS 27
abbrev N_lowest_row : List PySem.Str := ["bottom", "numbers", "shared", "number"]
theorem sc_lowest_row : FnScope N_lowest_row ["bottom", "numbers"] (defScope s_lowest_row) := ⟨rfl, rfl, rfl, by decide +kernel, rfl, by decide +kernel, by decide +kernel⟩
def fs_lowest_row : FS :=
  fSeq (fSet 2 (fVar 0))
    (fSeq (fFor (fItS (fVar 1)) (fgSet 3) (fSet 2 (fOpN gGcd (fCons (fVar 2) (fCons (fVar 3) (fNil))))))
    (fRet (fTup (fCons (fOp (gI cDiv fun i j => .int (i / j)) (fVar 0) (fVar 2)) (fCons (fOpQ gTuple (fSeqE (fL (fLc (fItS (fVar 1)) (fgSet 3) (fYes) (fOp (gI cDiv fun i j => .int (i / j)) (fVar 3) (fVar 2)) [3])))) (fNil))))))
def F_lowest_row : FF := mkF 2 N_lowest_row.length fs_lowest_row
theorem ok_lowest_row {f : Addr} {fd : FuncData} {k : Nat} (F : L2.Fun K "lowest_row" "lowest_row" s_lowest_row f fd)
    (i_gcd : mg "gcd" = some (.builtin "math.gcd"))
    (z_tuple : mg "tuple" = none) : FnOk P w K mg base (L2.CX P w) (k + 1) f fd ["bottom", "numbers"] (spX K Ps fun E => ofF E F_lowest_row) :=
  okFX (N := N_lowest_row) (n := 2) (fs := fs_lowest_row) F sc_lowest_row rfl fun cdv A outer s H E Ed hr tk po => ⟨_, (have nd := sc_lowest_row.nd
    psd_cons (psd_set (i := 2) nd rfl (by first | exact Or.inl rfl | exact Or.inr rfl) (pd_var (pv 0)))
    (psd_cons (psd_for po rfl (pid_seq (pd_var (pv 1))) (pgd_name (pg_name (i := 3) nd rfl (by first | exact Or.inl rfl | exact Or.inr rfl))) (psd_one (psd_set (i := 2) nd rfl (by first | exact Or.inl rfl | exact Or.inr rfl) (pd_callF cr_gcd opn_gcd (by rfl) i_gcd (pda_cons (pw_dat (pd_var (pv 2))) (pda_cons (pw_dat (pd_var (pv 3))) (pda_nil)))))))
    (psd_one (psd_ret (pd_tup (pda_cons (pw_dat (pd_op op_fdivW (op2_I fun _ _ _ _ => .int _) (pd_var (pv 0)) (pd_var (pv 2)))) (pda_cons (pw_dat (pd_tuple (by rfl) z_tuple Dl.b_tuple (pq_dat (pd_new (pn_lc (own := [("number", 3)]) rfl nd (pid_seq (pd_var (pv 1))) (blkOk_by (N := N_lowest_row) (sc := defScope s_lowest_row) (by decide +kernel)) (fun _ _ _ _ _ => pgd_name (pg_name (i := 3) nd rfl (by first | exact Or.inl rfl | exact Or.inr rfl))) (fun _ _ _ _ _ => ptsd_nil) (fun _ _ _ _ _ => pd_op op_fdivW (op2_I fun _ _ _ _ => .int _) (pd_var (pv 3)) (pd_var (pv 2)))))))) (pda_nil)))))))),
    (les_seq (les_set (le_var))
    (les_seq (les_for (le_itS (le_var)) (le_gSet) (les_set (le_opN len_gcd (le_cons (le_var) (le_cons (le_var) (le_nil))))))
    (les_ret (le_tup (le_cons (le_op (leop_I cDiv_ok) (le_var) (le_var)) (le_cons (le_opQ leq_tuple (le_seqE (le_L (le_lc (le_itS (le_var)) (le_gSet) (le_yes) (le_op (leop_I cDiv_ok) (le_var) (le_var)))))) (le_nil)))))))⟩
abbrev s__is_map : Stmt := topS 35
abbrev N__is_map : List PySem.Str := ["value", "M"]
theorem sc__is_map : FnScope N__is_map ["value", "M"] (defScope s__is_map) := ⟨rfl, rfl, rfl, by decide +kernel, rfl, by decide +kernel, by decide +kernel⟩
def fs__is_map : FS :=
  fSeq (fIf (fOr (fNot (fTru (fIsi "tuple" (fVar 0)))) (fNot (fTest (fChain (gI0 fun i j => .bool (decide (i ≤ j))) (gI0 fun i j => .bool (decide (i ≤ j))) (fC (.int 2)) (fOpQ gLen (fVarQ 0)) (fC (.int 32)))))) (fRet (fC (.bool false))) (fNext))
    (fRet (fCall F_is_indices (fCons (fVar 0) (fCons (fVar 1) (fNil)))))
def F__is_map : FF := mkF 2 N__is_map.length fs__is_map
theorem ok__is_map {f : Addr} {fd : FuncData} {k : Nat} (F : L2.Fun K "_is_map" "_is_map" s__is_map f fd)
    (z_isinstance : mg "isinstance" = none)
    (z_tuple : mg "tuple" = none)
    {tk__LEAST_POINTS : Tok} (c__LEAST_POINTS : mg "_LEAST_POINTS" = some (.int 2 tk__LEAST_POINTS))
    (z_len : mg "len" = none)
    {tk__MOST_POINTS : Tok} (c__MOST_POINTS : mg "_MOST_POINTS" = some (.int 32 tk__MOST_POINTS))
    {f_is_indices : Addr} {d_is_indices : FuncData} {l_is_indices : Nat} (h_is_indices : l_is_indices ≤ k) (G_is_indices : FnOk P w K mg base (L2.CX P w) l_is_indices f_is_indices d_is_indices ["value", "limit"] (spX K Ps fun E => ofF E F_is_indices)) (g_is_indices : mg "is_indices" = some (.ref f_is_indices)) (k_is_indices : PySem.W.keepIn K (.ref f_is_indices) = true) (b_is_indices : Binds K d_is_indices ["value", "limit"] []) : FnOk P w K mg base (L2.CX P w) (k + 1) f fd ["value", "M"] (spX K Ps fun E => ofF E F__is_map) :=
  okFX (N := N__is_map) (n := 2) (fs := fs__is_map) F sc__is_map rfl fun cdv A outer s H E Ed hr tk po => ⟨_, (have nd := sc__is_map.nd
    psd_cons (psd_if (PW.pt (pwd_or (ptd_not (ptd_tru (pd_isi (by decide +kernel) (pd_var (pv 0)) (by rfl) z_isinstance (pe_bltn (by rfl) z_tuple PyProof.Rows.Boot.«tuple» rfl)))) (pwd_or1 (ptd_not (ptd_chain op_le op_le (op2_I0 fun _ _ _ _ => .bl _) (op2_I0 fun _ _ _ _ => .bl _) (pd_c (pe_glob (v := V.int 2) (by rfl) c__LEAST_POINTS ⟨_, rfl⟩) (fun _ _ => .int _)) (pd_len (by rfl) z_len (pq_var (pv 0))) (pd_c (pe_glob (v := V.int 32) (by rfl) c__MOST_POINTS ⟨_, rfl⟩) (fun _ _ => .int _))))))) (psd_one (psd_ret (pd_c pe_bl (fun _ _ => .bl _)))) (psd_nil))
    (psd_one (psd_ret (pd_callX G_is_indices tk (hr.mono (by omega)) (by rfl) g_is_indices k_is_indices b_is_indices (pda_cons (pw_dat (pd_var (pv 0))) (pda_cons (pw_dat (pd_var (pv 1))) (pda_nil))))))),
    (les_seq (les_if (le_orT (le_notT (le_tru (le_isi (le_var)))) (le_notT (le_test (le_chain (leop_I0) (leop_I0) (le_c) (le_opQ leq_len (le_varQ)) (le_c))))) (les_ret (le_c)) (les_next))
    (les_ret (le_call (le_cons (le_var) (le_cons (le_var) (le_nil))))))⟩
abbrev s__need_maps : Stmt := topS 36
abbrev N__need_maps : List PySem.Str := ["M", "maps", "one"]
theorem sc__need_maps : FnScope N__need_maps ["M", "maps"] (defScope s__need_maps) := ⟨rfl, rfl, rfl, by decide +kernel, rfl, by decide +kernel, by decide +kernel⟩
def fs__need_maps : FS :=
  fSeq (fDrop (fCall F_need_number (fCons (fVar 0) (fCons (fC (.int 1)) (fCons (fC (.int 16)) (fNil))))))
    (fSeq (fIf (fOr (fNot (fTru (fIsi "tuple" (fVar 1)))) (fOr (fNot (fTest (fChain (gI0 fun i j => .bool (decide (i ≤ j))) (gI0 fun i j => .bool (decide (i ≤ j))) (fC (.int 1)) (fOpQ gLen (fVarQ 1)) (fC (.int 64))))) (fNot (fTru (fAll (fItS (fVar 1)) (fgSet 2) (fYes) (fCall0 F__is_map (fCons (fVar 2) (fCons (fVar 0) (fNil)))) [2]))))) (fRaise ⟨"InvalidMaps", none⟩) (fNext))
    (fIf (fNot (fTru (fAll (fItS (fVar 1)) (fgSet 2) (fYes) (fOp (gEq false) (fOpQ gLen (fVarQ 2)) (fOpQ gLen (fSeqE (fIx (fVarQ 1) (fC (.int 0)))))) [2]))) (fRaise ⟨"InvalidMaps", none⟩) (fNext)))
def F__need_maps : FF := mkF 2 N__need_maps.length fs__need_maps
theorem ok__need_maps {f cc PP : Addr} {fd : FuncData} {k : Nat} (F : FunC K "_need_maps" "_need_maps" s__need_maps cc f fd)
    {tk__MOST_VALUES : Tok} (c__MOST_VALUES : mg "_MOST_VALUES" = some (.int 16 tk__MOST_VALUES))
    (z_isinstance : mg "isinstance" = none)
    (z_tuple : mg "tuple" = none)
    (z_len : mg "len" = none)
    {tk__MOST_MAPS : Tok} (c__MOST_MAPS : mg "_MOST_MAPS" = some (.int 64 tk__MOST_MAPS))
    (z_all : mg "all" = none)
    {c_InvalidMaps : Addr} (e_InvalidMaps : ClsP K mg "InvalidMaps" c_InvalidMaps)
    (h2 : 2 ≤ k) (TB : GxR.TabB base mg cc PP) (hPP : (PP, none) ∈ Ps)
    {f_need_number : Addr} {d_need_number : FuncData} {l_need_number : Nat} (h_need_number : l_need_number + 2 ≤ k) (G_need_number : FnOk P w K mg base (L2.CX P w) l_need_number f_need_number d_need_number ["value", "low", "high"] (spX K Ps fun E => ofF E F_need_number)) (g_need_number : mg "need_number" = some (.ref f_need_number)) (k_need_number : PySem.W.keepIn K (.ref f_need_number) = true) (b_need_number : Binds K d_need_number ["value", "low", "high"] [])
    {f__is_map : Addr} {d__is_map : FuncData} {l__is_map : Nat} (h__is_map : l__is_map + 2 ≤ k) (G__is_map : FnOk P w K mg base (L2.CX P w) l__is_map f__is_map d__is_map ["value", "M"] (spX K Ps fun E => ofF E F__is_map)) (g__is_map : mg "_is_map" = some (.ref f__is_map)) (k__is_map : PySem.W.keepIn K (.ref f__is_map) = true) (b__is_map : Binds K d__is_map ["value", "M"] []) : FnOk P w K mg base (L2.CX P w) (k + 1) f fd ["M", "maps"] (spX K Ps fun E => ofF E F__need_maps) :=
  okFXC (N := N__need_maps) (n := 2) (fs := fs__need_maps) F sc__need_maps rfl fun A outer s H E Ed hr tk po => ⟨_, (have nd := sc__need_maps.nd
    psd_cons (psd_expr (pd_callX G_need_number tk (hr.mono (by omega)) (by rfl) g_need_number k_need_number b_need_number (pda_cons (pw_dat (pd_var (pv 0))) (pda_cons (pw_dat (pd_c pe_int (fun _ _ => .int _))) (pda_cons (pw_dat (pd_c (pe_glob (v := V.int 16) (by rfl) c__MOST_VALUES ⟨_, rfl⟩) (fun _ _ => .int _))) (pda_nil))))))
    (psd_cons (psd_if (PW.pt (pwd_or (ptd_not (ptd_tru (pd_isi (by decide +kernel) (pd_var (pv 1)) (by rfl) z_isinstance (pe_bltn (by rfl) z_tuple PyProof.Rows.Boot.«tuple» rfl)))) (pwd_or (ptd_not (ptd_chain op_le op_le (op2_I0 fun _ _ _ _ => .bl _) (op2_I0 fun _ _ _ _ => .bl _) (pd_c pe_int (fun _ _ => .int _)) (pd_len (by rfl) z_len (pq_var (pv 1))) (pd_c (pe_glob (v := V.int 64) (by rfl) c__MOST_MAPS ⟨_, rfl⟩) (fun _ _ => .int _)))) (pwd_or1 (ptd_not (ptd_tru (pd_all (k := k - 2) (own := [("one", 2)]) (hr.mono (by omega)) (by rfl) z_all TB hPP rfl nd rfl (by decide +kernel) rfl (blkOk_by (N := N__need_maps) (sc := defScope s__need_maps) (by decide +kernel)) (pid_seq (pd_var (pv 1))) (fun _ _ _ _ _ _ _ hr => pgd_name (pg_name (i := 2) nd rfl (by first | exact Or.inl rfl | exact Or.inr rfl))) (fun _ _ _ _ _ _ _ hr => ptsd_nil) (fun _ _ _ _ _ _ _ hr => pd_call (fnX0 G__is_map) (hr.mono (by omega)) (by rfl) g__is_map k__is_map b__is_map (pda_cons (pw_dat (pd_var (pv 2))) (pda_cons (pw_dat (pd_var (pv 0))) (pda_nil))))))))))) (psd_one (psd_raiseP e_InvalidMaps tk rfl (by rfl))) (psd_nil))
    (psd_one (psd_if (ptd_not (ptd_tru (pd_all (k := k - 2) (own := [("one", 2)]) (hr.mono (by omega)) (by rfl) z_all TB hPP rfl nd rfl (by decide +kernel) rfl (blkOk_by (N := N__need_maps) (sc := defScope s__need_maps) (by decide +kernel)) (pid_seq (pd_var (pv 1))) (fun _ _ _ _ _ _ _ hr => pgd_name (pg_name (i := 2) nd rfl (by first | exact Or.inl rfl | exact Or.inr rfl))) (fun _ _ _ _ _ _ _ hr => ptsd_nil) (fun _ _ _ _ _ _ _ hr => pd_cmp (op_eqD hr.units) (op2_eq) (pd_len (by rfl) z_len (pq_var (pv 2))) (pd_len (by rfl) z_len (pq_dat (pd_ix (pq_var (pv 1)) (pd_c pe_int (fun _ _ => .int _)) (fun _ _ => rfl)))) (nomark _))))) (psd_one (psd_raiseP e_InvalidMaps tk rfl (by rfl))) (psd_nil))))),
    (les_seq (les_drop (le_call (le_cons (le_var) (le_cons (le_c) (le_cons (le_c) (le_nil))))))
    (les_seq (les_if (le_orT (le_notT (le_tru (le_isi (le_var)))) (le_orT (le_notT (le_test (le_chain (leop_I0) (leop_I0) (le_c) (le_opQ leq_len (le_varQ)) (le_c)))) (le_notT (le_tru (le_all (le_itS (le_var)) (le_gSet) (le_yes) (le_call0 (le_cons (le_var) (le_cons (le_var) (le_nil))))))))) (les_raiseX) (les_next))
    (les_if (le_notT (le_tru (le_all (le_itS (le_var)) (le_gSet) (le_yes) (le_op (leop_eq) (le_opQ leq_len (le_varQ)) (le_opQ leq_len (le_seqE (le_ix (le_varQ) (le_c)))))))) (les_raiseX) (les_next))))⟩
abbrev s__meeting : Stmt := topS 37
abbrev N__meeting : List PySem.Str := ["maps", "one", "other", "values"]
theorem sc__meeting : FnScope N__meeting ["maps", "one", "other"] (defScope s__meeting) := ⟨rfl, rfl, rfl, by decide +kernel, rfl, by decide +kernel, by decide +kernel⟩
def fs__meeting : FS :=
  fRet (fOpQ gLen (fSeqE (fL (fLc (fItS (fVar 0)) (fgSet 3) (fTest (fOp (gEq false) (fIx (fVarQ 3) (fVar 1)) (fIx (fVarQ 3) (fVar 2)))) (fVar 3) [3]))))
def F__meeting : FF := mkF 3 N__meeting.length fs__meeting
theorem ok__meeting {f : Addr} {fd : FuncData} {k : Nat} (F : L2.Fun K "_meeting" "_meeting" s__meeting f fd)
    (z_len : mg "len" = none) : FnOk P w K mg base (L2.CX P w) (k + 1) f fd ["maps", "one", "other"] (spX K Ps fun E => ofF E F__meeting) :=
  okFX (N := N__meeting) (n := 3) (fs := fs__meeting) F sc__meeting rfl fun cdv A outer s H E Ed hr tk po => ⟨_, (have nd := sc__meeting.nd
    psd_one (psd_ret (pd_len (by rfl) z_len (pq_dat (pd_new (pn_lc (own := [("values", 3)]) rfl nd (pid_seq (pd_var (pv 0))) (blkOk_by (N := N__meeting) (sc := defScope s__meeting) (by decide +kernel)) (fun _ _ _ _ _ => pgd_name (pg_name (i := 3) nd rfl (by first | exact Or.inl rfl | exact Or.inr rfl))) (fun _ _ _ _ _ => pts_one (pt_d_cmp (op_eqD hr.units) (op2_eq) (pd_ix (pq_var (pv 3)) (pd_var (pv 1)) (fun _ _ => rfl)) (pd_ix (pq_var (pv 3)) (pd_var (pv 2)) (fun _ _ => rfl)) (nomark _))) (fun _ _ _ _ _ => pd_var (pv 3)))))))),
    (les_ret (le_opQ leq_len (le_seqE (le_L (le_lc (le_itS (le_var)) (le_gSet) (le_test (le_op (leop_eq) (le_ix (le_varQ) (le_var)) (le_ix (le_varQ) (le_var)))) (le_var))))))⟩
abbrev s_chance_of_meeting : Stmt := topS 38
abbrev N_chance_of_meeting : List PySem.Str := ["M", "maps", "one", "other"]
theorem sc_chance_of_meeting : FnScope N_chance_of_meeting ["M", "maps", "one", "other"] (defScope s_chance_of_meeting) := ⟨rfl, rfl, rfl, by decide +kernel, rfl, by decide +kernel, by decide +kernel⟩
def fs_chance_of_meeting : FS :=
  fSeq (fDrop (fCall F__need_maps (fCons (fVar 0) (fCons (fVar 1) (fNil)))))
    (fSeq (fDrop (fCall F_need_number (fCons (fVar 2) (fCons (fC (.int 0)) (fCons (fOp (gI0 fun i j => .int (i - j)) (fOpQ gLen (fSeqE (fIx (fVarQ 1) (fC (.int 0))))) (fC (.int 1))) (fNil))))))
    (fSeq (fDrop (fCall F_need_number (fCons (fVar 3) (fCons (fC (.int 0)) (fCons (fOp (gI0 fun i j => .int (i - j)) (fOpQ gLen (fSeqE (fIx (fVarQ 1) (fC (.int 0))))) (fC (.int 1))) (fNil))))))
    (fRet (fCall F_reduced (fCons (fCall F__meeting (fCons (fVar 1) (fCons (fVar 2) (fCons (fVar 3) (fNil))))) (fCons (fOpQ gLen (fVarQ 1)) (fNil)))))))
def F_chance_of_meeting : FF := mkF 4 N_chance_of_meeting.length fs_chance_of_meeting
theorem ok_chance_of_meeting {f : Addr} {fd : FuncData} {k : Nat} (F : L2.Fun K "chance_of_meeting" "chance_of_meeting" s_chance_of_meeting f fd)
    (z_len : mg "len" = none)
    {f__need_maps : Addr} {d__need_maps : FuncData} {l__need_maps : Nat} (h__need_maps : l__need_maps ≤ k) (G__need_maps : FnOk P w K mg base (L2.CX P w) l__need_maps f__need_maps d__need_maps ["M", "maps"] (spX K Ps fun E => ofF E F__need_maps)) (g__need_maps : mg "_need_maps" = some (.ref f__need_maps)) (k__need_maps : PySem.W.keepIn K (.ref f__need_maps) = true) (b__need_maps : Binds K d__need_maps ["M", "maps"] [])
    {f_need_number : Addr} {d_need_number : FuncData} {l_need_number : Nat} (h_need_number : l_need_number ≤ k) (G_need_number : FnOk P w K mg base (L2.CX P w) l_need_number f_need_number d_need_number ["value", "low", "high"] (spX K Ps fun E => ofF E F_need_number)) (g_need_number : mg "need_number" = some (.ref f_need_number)) (k_need_number : PySem.W.keepIn K (.ref f_need_number) = true) (b_need_number : Binds K d_need_number ["value", "low", "high"] [])
    {f__meeting : Addr} {d__meeting : FuncData} {l__meeting : Nat} (h__meeting : l__meeting ≤ k) (G__meeting : FnOk P w K mg base (L2.CX P w) l__meeting f__meeting d__meeting ["maps", "one", "other"] (spX K Ps fun E => ofF E F__meeting)) (g__meeting : mg "_meeting" = some (.ref f__meeting)) (k__meeting : PySem.W.keepIn K (.ref f__meeting) = true) (b__meeting : Binds K d__meeting ["maps", "one", "other"] [])
    {f_reduced : Addr} {d_reduced : FuncData} {l_reduced : Nat} (h_reduced : l_reduced ≤ k) (G_reduced : FnOk P w K mg base (L2.CX P w) l_reduced f_reduced d_reduced ["top", "bottom"] (spX K Ps fun E => ofF E F_reduced)) (g_reduced : mg "reduced" = some (.ref f_reduced)) (k_reduced : PySem.W.keepIn K (.ref f_reduced) = true) (b_reduced : Binds K d_reduced ["top", "bottom"] []) : FnOk P w K mg base (L2.CX P w) (k + 1) f fd ["M", "maps", "one", "other"] (spX K Ps fun E => ofF E F_chance_of_meeting) :=
  okFX (N := N_chance_of_meeting) (n := 4) (fs := fs_chance_of_meeting) F sc_chance_of_meeting rfl fun cdv A outer s H E Ed hr tk po => ⟨_, (have nd := sc_chance_of_meeting.nd
    psd_cons (psd_expr (pd_callX G__need_maps tk (hr.mono (by omega)) (by rfl) g__need_maps k__need_maps b__need_maps (pda_cons (pw_dat (pd_var (pv 0))) (pda_cons (pw_dat (pd_var (pv 1))) (pda_nil)))))
    (psd_cons (psd_expr (pd_callX G_need_number tk (hr.mono (by omega)) (by rfl) g_need_number k_need_number b_need_number (pda_cons (pw_dat (pd_var (pv 2))) (pda_cons (pw_dat (pd_c pe_int (fun _ _ => .int _))) (pda_cons (pw_dat (pd_op op_sub (op2_I0 fun _ _ _ _ => .int _) (pd_len (by rfl) z_len (pq_dat (pd_ix (pq_var (pv 1)) (pd_c pe_int (fun _ _ => .int _)) (fun _ _ => rfl)))) (pd_c pe_int (fun _ _ => .int _)))) (pda_nil))))))
    (psd_cons (psd_expr (pd_callX G_need_number tk (hr.mono (by omega)) (by rfl) g_need_number k_need_number b_need_number (pda_cons (pw_dat (pd_var (pv 3))) (pda_cons (pw_dat (pd_c pe_int (fun _ _ => .int _))) (pda_cons (pw_dat (pd_op op_sub (op2_I0 fun _ _ _ _ => .int _) (pd_len (by rfl) z_len (pq_dat (pd_ix (pq_var (pv 1)) (pd_c pe_int (fun _ _ => .int _)) (fun _ _ => rfl)))) (pd_c pe_int (fun _ _ => .int _)))) (pda_nil))))))
    (psd_one (psd_ret (pd_callX G_reduced tk (hr.mono (by omega)) (by rfl) g_reduced k_reduced b_reduced (pda_cons (pw_dat (pd_callX G__meeting tk (hr.mono (by omega)) (by rfl) g__meeting k__meeting b__meeting (pda_cons (pw_dat (pd_var (pv 1))) (pda_cons (pw_dat (pd_var (pv 2))) (pda_cons (pw_dat (pd_var (pv 3))) (pda_nil)))))) (pda_cons (pw_dat (pd_len (by rfl) z_len (pq_var (pv 1)))) (pda_nil))))))))),
    (les_seq (les_drop (le_call (le_cons (le_var) (le_cons (le_var) (le_nil)))))
    (les_seq (les_drop (le_call (le_cons (le_var) (le_cons (le_c) (le_cons (le_op (leop_I0) (le_opQ leq_len (le_seqE (le_ix (le_varQ) (le_c)))) (le_c)) (le_nil))))))
    (les_seq (les_drop (le_call (le_cons (le_var) (le_cons (le_c) (le_cons (le_op (leop_I0) (le_opQ leq_len (le_seqE (le_ix (le_varQ) (le_c)))) (le_c)) (le_nil))))))
    (les_ret (le_call (le_cons (le_call (le_cons (le_var) (le_cons (le_var) (le_cons (le_var) (le_nil))))) (le_cons (le_opQ leq_len (le_varQ)) (le_nil))))))))⟩
abbrev s_mean_meeting : Stmt := topS 39
abbrev N_mean_meeting : List PySem.Str := ["M", "maps", "points", "met", "one", "other"]
theorem sc_mean_meeting : FnScope N_mean_meeting ["M", "maps"] (defScope s_mean_meeting) := ⟨rfl, rfl, rfl, by decide +kernel, rfl, by decide +kernel, by decide +kernel⟩
def fs_mean_meeting : FS :=
  fSeq (fDrop (fCall F__need_maps (fCons (fVar 0) (fCons (fVar 1) (fNil)))))
    (fSeq (fSet 2 (fOpQ gLen (fSeqE (fIx (fVarQ 1) (fC (.int 0))))))
    (fStuck))
def F_mean_meeting : FF := mkF 2 N_mean_meeting.length fs_mean_meeting
theorem ok_mean_meeting {f : Addr} {fd : FuncData} {k : Nat} (F : L2.Fun K "mean_meeting" "mean_meeting" s_mean_meeting f fd)
    (z_len : mg "len" = none)
    {f__need_maps : Addr} {d__need_maps : FuncData} {l__need_maps : Nat} (h__need_maps : l__need_maps ≤ k) (G__need_maps : FnOk P w K mg base (L2.CX P w) l__need_maps f__need_maps d__need_maps ["M", "maps"] (spX K Ps fun E => ofF E F__need_maps)) (g__need_maps : mg "_need_maps" = some (.ref f__need_maps)) (k__need_maps : PySem.W.keepIn K (.ref f__need_maps) = true) (b__need_maps : Binds K d__need_maps ["M", "maps"] []) : FnOk P w K mg base (L2.CX P w) (k + 1) f fd ["M", "maps"] (spX K Ps fun E => ofF E F_mean_meeting) :=
  okFX (N := N_mean_meeting) (n := 2) (fs := fs_mean_meeting) F sc_mean_meeting rfl fun cdv A outer s H E Ed hr tk po => ⟨_, (have nd := sc_mean_meeting.nd
    psd_cons (psd_expr (pd_callX G__need_maps tk (hr.mono (by omega)) (by rfl) g__need_maps k__need_maps b__need_maps (pda_cons (pw_dat (pd_var (pv 0))) (pda_cons (pw_dat (pd_var (pv 1))) (pda_nil)))))
    (psd_cons (psd_set (i := 2) nd rfl (by first | exact Or.inl rfl | exact Or.inr rfl) (pd_len (by rfl) z_len (pq_dat (pd_ix (pq_var (pv 1)) (pd_c pe_int (fun _ _ => .int _)) (fun _ _ => rfl)))))
    (pss_stuck))),
    (les_seq (les_drop (le_call (le_cons (le_var) (le_cons (le_var) (le_nil)))))
    (les_seq (les_set (le_opQ leq_len (le_seqE (le_ix (le_varQ) (le_c)))))
    (les_stuck)))⟩
abbrev s__are_often : Stmt := topS 40
abbrev N__are_often : List PySem.Str := ["M", "maps", "one", "other"]
theorem sc__are_often : FnScope N__are_often ["M", "maps", "one", "other"] (defScope s__are_often) := ⟨rfl, rfl, rfl, by decide +kernel, rfl, by decide +kernel, by decide +kernel⟩
def fs__are_often : FS :=
  fRet (fOp (gI0 fun i j => .bool (decide (j < i))) (fOp (gI cMul fun i j => .int (i * j)) (fCall F__meeting (fCons (fVar 1) (fCons (fVar 2) (fCons (fVar 3) (fNil))))) (fVar 0)) (fOpQ gLen (fVarQ 1)))
def F__are_often : FF := mkF 4 N__are_often.length fs__are_often
theorem ok__are_often {f : Addr} {fd : FuncData} {k : Nat} (F : L2.Fun K "_are_often" "_are_often" s__are_often f fd)
    (z_len : mg "len" = none)
    {f__meeting : Addr} {d__meeting : FuncData} {l__meeting : Nat} (h__meeting : l__meeting ≤ k) (G__meeting : FnOk P w K mg base (L2.CX P w) l__meeting f__meeting d__meeting ["maps", "one", "other"] (spX K Ps fun E => ofF E F__meeting)) (g__meeting : mg "_meeting" = some (.ref f__meeting)) (k__meeting : PySem.W.keepIn K (.ref f__meeting) = true) (b__meeting : Binds K d__meeting ["maps", "one", "other"] []) : FnOk P w K mg base (L2.CX P w) (k + 1) f fd ["M", "maps", "one", "other"] (spX K Ps fun E => ofF E F__are_often) :=
  okFX (N := N__are_often) (n := 4) (fs := fs__are_often) F sc__are_often rfl fun cdv A outer s H E Ed hr tk po => ⟨_, (have nd := sc__are_often.nd
    psd_one (psd_ret (pd_cmp op_gt (op2_I0 fun _ _ _ _ => .bl _) (pd_op op_mulE (op2_I fun _ _ _ _ => .int _) (pd_callX G__meeting tk (hr.mono (by omega)) (by rfl) g__meeting k__meeting b__meeting (pda_cons (pw_dat (pd_var (pv 1))) (pda_cons (pw_dat (pd_var (pv 2))) (pda_cons (pw_dat (pd_var (pv 3))) (pda_nil))))) (pd_var (pv 0))) (pd_len (by rfl) z_len (pq_var (pv 1))) (nomark _)))),
    (les_ret (le_op (leop_I0) (le_op (leop_I cMul_ok) (le_call (le_cons (le_var) (le_cons (le_var) (le_cons (le_var) (le_nil))))) (le_var)) (le_opQ leq_len (le_varQ))))⟩
abbrev s__often_pairs : Stmt := topS 41
abbrev N__often_pairs : List PySem.Str := ["M", "maps", "pair"]
theorem sc__often_pairs : FnScope N__often_pairs ["M", "maps"] (defScope s__often_pairs) := ⟨rfl, rfl, rfl, by decide +kernel, rfl, by decide +kernel, by decide +kernel⟩
def fs__often_pairs : FS :=
  fStuck
def F__often_pairs : FF := mkF 2 N__often_pairs.length fs__often_pairs
theorem ok__often_pairs {f : Addr} {fd : FuncData} {k : Nat} (F : L2.Fun K "_often_pairs" "_often_pairs" s__often_pairs f fd)
     : FnOk P w K mg base (L2.CX P w) (k + 1) f fd ["M", "maps"] (spX K Ps fun E => ofF E F__often_pairs) :=
  okFX (N := N__often_pairs) (n := 2) (fs := fs__often_pairs) F sc__often_pairs rfl fun cdv A outer s H E Ed hr tk po => ⟨_, (have nd := sc__often_pairs.nd
    pss_stuck),
    (les_stuck)⟩
abbrev s_meets_answer : Stmt := topS 42
abbrev N_meets_answer : List PySem.Str := ["M", "maps", "pairs", "one", "other"]
theorem sc_meets_answer : FnScope N_meets_answer ["M", "maps"] (defScope s_meets_answer) := ⟨rfl, rfl, rfl, by decide +kernel, rfl, by decide +kernel, by decide +kernel⟩
def fs_meets_answer : FS :=
  fSeq (fDrop (fCall F__need_maps (fCons (fVar 0) (fCons (fVar 1) (fNil)))))
    (fSeq (fSet 2 (fCall F__often_pairs (fCons (fVar 0) (fCons (fVar 1) (fNil)))))
    (fSeq (fIf (fNot (fTru (fVar 2))) (fRet (fTup (fCons (fC (.str (PySem.Str.ofString "seldom"))) (fNil)))) (fNext))
    (fSeq (fAsgG (fgSeq 2 (fgsCons (fgSet 3) (fgsCons (fgSet 4) (fgsNil)))) (fIx (fVarQ 2) (fC (.int 0))))
    (fRet (fTup (fCons (fC (.str (PySem.Str.ofString "pair"))) (fCons (fVar 3) (fCons (fVar 4) (fNil)))))))))
def F_meets_answer : FF := mkF 2 N_meets_answer.length fs_meets_answer
theorem ok_meets_answer {f : Addr} {fd : FuncData} {k : Nat} (F : L2.Fun K "meets_answer" "meets_answer" s_meets_answer f fd)
    {f__need_maps : Addr} {d__need_maps : FuncData} {l__need_maps : Nat} (h__need_maps : l__need_maps ≤ k) (G__need_maps : FnOk P w K mg base (L2.CX P w) l__need_maps f__need_maps d__need_maps ["M", "maps"] (spX K Ps fun E => ofF E F__need_maps)) (g__need_maps : mg "_need_maps" = some (.ref f__need_maps)) (k__need_maps : PySem.W.keepIn K (.ref f__need_maps) = true) (b__need_maps : Binds K d__need_maps ["M", "maps"] [])
    {f__often_pairs : Addr} {d__often_pairs : FuncData} {l__often_pairs : Nat} (h__often_pairs : l__often_pairs ≤ k) (G__often_pairs : FnOk P w K mg base (L2.CX P w) l__often_pairs f__often_pairs d__often_pairs ["M", "maps"] (spX K Ps fun E => ofF E F__often_pairs)) (g__often_pairs : mg "_often_pairs" = some (.ref f__often_pairs)) (k__often_pairs : PySem.W.keepIn K (.ref f__often_pairs) = true) (b__often_pairs : Binds K d__often_pairs ["M", "maps"] []) : FnOk P w K mg base (L2.CX P w) (k + 1) f fd ["M", "maps"] (spX K Ps fun E => ofF E F_meets_answer) :=
  okFX (N := N_meets_answer) (n := 2) (fs := fs_meets_answer) F sc_meets_answer rfl fun cdv A outer s H E Ed hr tk po => ⟨_, (have nd := sc_meets_answer.nd
    psd_cons (psd_expr (pd_callX G__need_maps tk (hr.mono (by omega)) (by rfl) g__need_maps k__need_maps b__need_maps (pda_cons (pw_dat (pd_var (pv 0))) (pda_cons (pw_dat (pd_var (pv 1))) (pda_nil)))))
    (psd_cons (psd_set (i := 2) nd rfl (by first | exact Or.inl rfl | exact Or.inr rfl) (pd_callX G__often_pairs tk (hr.mono (by omega)) (by rfl) g__often_pairs k__often_pairs b__often_pairs (pda_cons (pw_dat (pd_var (pv 0))) (pda_cons (pw_dat (pd_var (pv 1))) (pda_nil)))))
    (psd_cons (psd_if (ptd_not (ptd_tru (pd_var (pv 2)))) (psd_one (psd_ret (pd_tup (pda_cons (pw_dat (pd_c pe_str (fun _ _ => .str _))) (pda_nil))))) (psd_nil))
    (psd_cons (psd_asgG (pd_ix (pq_var (pv 2)) (pd_c pe_int (fun _ _ => .int _)) (fun _ _ => rfl)) (pgd_seq rfl (pgsd_cons (pgd_name (pg_name (i := 3) nd rfl (by first | exact Or.inl rfl | exact Or.inr rfl))) (pgsd_cons (pgd_name (pg_name (i := 4) nd rfl (by first | exact Or.inl rfl | exact Or.inr rfl))) (pgsd_nil)))))
    (psd_one (psd_ret (pd_tup (pda_cons (pw_dat (pd_c pe_str (fun _ _ => .str _))) (pda_cons (pw_dat (pd_var (pv 3))) (pda_cons (pw_dat (pd_var (pv 4))) (pda_nil))))))))))),
    (les_seq (les_drop (le_call (le_cons (le_var) (le_cons (le_var) (le_nil)))))
    (les_seq (les_set (le_call (le_cons (le_var) (le_cons (le_var) (le_nil)))))
    (les_seq (les_if (le_notT (le_tru (le_var))) (les_ret (le_tup (le_cons (le_c) (le_nil)))) (les_next))
    (les_seq (les_asgG (le_gSeq (le_gsCons (le_gSet) (le_gsCons (le_gSet) (le_gsNil)))) (le_ix (le_varQ) (le_c)))
    (les_ret (le_tup (le_cons (le_c) (le_cons (le_var) (le_cons (le_var) (le_nil))))))))))⟩
abbrev s_is_meets_answer : Stmt := topS 43
abbrev N_is_meets_answer : List PySem.Str := ["M", "maps", "value", "_", "one", "other"]
theorem sc_is_meets_answer : FnScope N_is_meets_answer ["M", "maps", "value"] (defScope s_is_meets_answer) := ⟨rfl, rfl, rfl, by decide +kernel, rfl, by decide +kernel, by decide +kernel⟩
def fs_is_meets_answer : FS :=
  fSeq (fDrop (fCall F__need_maps (fCons (fVar 0) (fCons (fVar 1) (fNil)))))
    (fSeq (fIf (fTru (fCall F_is_answer (fCons (fVar 2) (fCons (fC (.str (PySem.Str.ofString "seldom"))) (fCons (fC (.int 1)) (fNil)))))) (fRet (fNotV (fCall F__often_pairs (fCons (fVar 0) (fCons (fVar 1) (fNil)))))) (fNext))
    (fSeq (fIf (fNot (fTru (fCall F_is_answer (fCons (fVar 2) (fCons (fC (.str (PySem.Str.ofString "pair"))) (fCons (fC (.int 3)) (fNil))))))) (fRet (fC (.bool false))) (fNext))
    (fSeq (fAsgG (fgSeq 3 (fgsCons (fgSet 3) (fgsCons (fgSet 4) (fgsCons (fgSet 5) (fgsNil))))) (fVar 2))
    (fSeq (fIf (fOr (fNot (fTru (fCall F_is_index (fCons (fVar 4) (fCons (fOpQ gLen (fSeqE (fIx (fVarQ 1) (fC (.int 0))))) (fNil)))))) (fOr (fNot (fTru (fCall F_is_index (fCons (fVar 5) (fCons (fOpQ gLen (fSeqE (fIx (fVarQ 1) (fC (.int 0))))) (fNil)))))) (fTest (fOp (gI0 fun i j => .bool (decide (j ≤ i))) (fVar 4) (fVar 5))))) (fRet (fC (.bool false))) (fNext))
    (fRet (fCall F__are_often (fCons (fVar 0) (fCons (fVar 1) (fCons (fVar 4) (fCons (fVar 5) (fNil)))))))))))
def F_is_meets_answer : FF := mkF 3 N_is_meets_answer.length fs_is_meets_answer
theorem ok_is_meets_answer {f : Addr} {fd : FuncData} {k : Nat} (F : L2.Fun K "is_meets_answer" "is_meets_answer" s_is_meets_answer f fd)
    (z_len : mg "len" = none)
    {f__need_maps : Addr} {d__need_maps : FuncData} {l__need_maps : Nat} (h__need_maps : l__need_maps ≤ k) (G__need_maps : FnOk P w K mg base (L2.CX P w) l__need_maps f__need_maps d__need_maps ["M", "maps"] (spX K Ps fun E => ofF E F__need_maps)) (g__need_maps : mg "_need_maps" = some (.ref f__need_maps)) (k__need_maps : PySem.W.keepIn K (.ref f__need_maps) = true) (b__need_maps : Binds K d__need_maps ["M", "maps"] [])
    {f_is_answer : Addr} {d_is_answer : FuncData} {l_is_answer : Nat} (h_is_answer : l_is_answer ≤ k) (G_is_answer : FnOk P w K mg base (L2.CX P w) l_is_answer f_is_answer d_is_answer ["value", "word", "length"] (spX K Ps fun E => ofF E F_is_answer)) (g_is_answer : mg "is_answer" = some (.ref f_is_answer)) (k_is_answer : PySem.W.keepIn K (.ref f_is_answer) = true) (b_is_answer : Binds K d_is_answer ["value", "word", "length"] [])
    {f__often_pairs : Addr} {d__often_pairs : FuncData} {l__often_pairs : Nat} (h__often_pairs : l__often_pairs ≤ k) (G__often_pairs : FnOk P w K mg base (L2.CX P w) l__often_pairs f__often_pairs d__often_pairs ["M", "maps"] (spX K Ps fun E => ofF E F__often_pairs)) (g__often_pairs : mg "_often_pairs" = some (.ref f__often_pairs)) (k__often_pairs : PySem.W.keepIn K (.ref f__often_pairs) = true) (b__often_pairs : Binds K d__often_pairs ["M", "maps"] [])
    {f_is_index : Addr} {d_is_index : FuncData} {l_is_index : Nat} (h_is_index : l_is_index ≤ k) (G_is_index : FnOk P w K mg base (L2.CX P w) l_is_index f_is_index d_is_index ["value", "limit"] (spX K Ps fun E => ofF E F_is_index)) (g_is_index : mg "is_index" = some (.ref f_is_index)) (k_is_index : PySem.W.keepIn K (.ref f_is_index) = true) (b_is_index : Binds K d_is_index ["value", "limit"] [])
    {f__are_often : Addr} {d__are_often : FuncData} {l__are_often : Nat} (h__are_often : l__are_often ≤ k) (G__are_often : FnOk P w K mg base (L2.CX P w) l__are_often f__are_often d__are_often ["M", "maps", "one", "other"] (spX K Ps fun E => ofF E F__are_often)) (g__are_often : mg "_are_often" = some (.ref f__are_often)) (k__are_often : PySem.W.keepIn K (.ref f__are_often) = true) (b__are_often : Binds K d__are_often ["M", "maps", "one", "other"] []) : FnOk P w K mg base (L2.CX P w) (k + 1) f fd ["M", "maps", "value"] (spX K Ps fun E => ofF E F_is_meets_answer) :=
  okFX (N := N_is_meets_answer) (n := 3) (fs := fs_is_meets_answer) F sc_is_meets_answer rfl fun cdv A outer s H E Ed hr tk po => ⟨_, (have nd := sc_is_meets_answer.nd
    psd_cons (psd_expr (pd_callX G__need_maps tk (hr.mono (by omega)) (by rfl) g__need_maps k__need_maps b__need_maps (pda_cons (pw_dat (pd_var (pv 0))) (pda_cons (pw_dat (pd_var (pv 1))) (pda_nil)))))
    (psd_cons (psd_if (ptd_tru (pd_callX G_is_answer tk (hr.mono (by omega)) (by rfl) g_is_answer k_is_answer b_is_answer (pda_cons (pw_dat (pd_var (pv 2))) (pda_cons (pw_dat (pd_c pe_str (fun _ _ => .str _))) (pda_cons (pw_dat (pd_c pe_int (fun _ _ => .int _))) (pda_nil)))))) (psd_one (psd_ret (pd_not (pd_callX G__often_pairs tk (hr.mono (by omega)) (by rfl) g__often_pairs k__often_pairs b__often_pairs (pda_cons (pw_dat (pd_var (pv 0))) (pda_cons (pw_dat (pd_var (pv 1))) (pda_nil))))))) (psd_nil))
    (psd_cons (psd_if (ptd_not (ptd_tru (pd_callX G_is_answer tk (hr.mono (by omega)) (by rfl) g_is_answer k_is_answer b_is_answer (pda_cons (pw_dat (pd_var (pv 2))) (pda_cons (pw_dat (pd_c pe_str (fun _ _ => .str _))) (pda_cons (pw_dat (pd_c pe_int (fun _ _ => .int _))) (pda_nil))))))) (psd_one (psd_ret (pd_c pe_bl (fun _ _ => .bl _)))) (psd_nil))
    (psd_cons (psd_asgG (pd_var (pv 2)) (pgd_seq rfl (pgsd_cons (pgd_name (pg_name (i := 3) nd rfl (by first | exact Or.inl rfl | exact Or.inr rfl))) (pgsd_cons (pgd_name (pg_name (i := 4) nd rfl (by first | exact Or.inl rfl | exact Or.inr rfl))) (pgsd_cons (pgd_name (pg_name (i := 5) nd rfl (by first | exact Or.inl rfl | exact Or.inr rfl))) (pgsd_nil))))))
    (psd_cons (psd_if (PW.pt (pwd_or (ptd_not (ptd_tru (pd_callX G_is_index tk (hr.mono (by omega)) (by rfl) g_is_index k_is_index b_is_index (pda_cons (pw_dat (pd_var (pv 4))) (pda_cons (pw_dat (pd_len (by rfl) z_len (pq_dat (pd_ix (pq_var (pv 1)) (pd_c pe_int (fun _ _ => .int _)) (fun _ _ => rfl))))) (pda_nil)))))) (pwd_or (ptd_not (ptd_tru (pd_callX G_is_index tk (hr.mono (by omega)) (by rfl) g_is_index k_is_index b_is_index (pda_cons (pw_dat (pd_var (pv 5))) (pda_cons (pw_dat (pd_len (by rfl) z_len (pq_dat (pd_ix (pq_var (pv 1)) (pd_c pe_int (fun _ _ => .int _)) (fun _ _ => rfl))))) (pda_nil)))))) (pwd_or1 (pt_d_cmp op_ge (op2_I0 fun _ _ _ _ => .bl _) (pd_var (pv 4)) (pd_var (pv 5)) (nomark _)))))) (psd_one (psd_ret (pd_c pe_bl (fun _ _ => .bl _)))) (psd_nil))
    (psd_one (psd_ret (pd_callX G__are_often tk (hr.mono (by omega)) (by rfl) g__are_often k__are_often b__are_often (pda_cons (pw_dat (pd_var (pv 0))) (pda_cons (pw_dat (pd_var (pv 1))) (pda_cons (pw_dat (pd_var (pv 4))) (pda_cons (pw_dat (pd_var (pv 5))) (pda_nil))))))))))))),
    (les_seq (les_drop (le_call (le_cons (le_var) (le_cons (le_var) (le_nil)))))
    (les_seq (les_if (le_tru (le_call (le_cons (le_var) (le_cons (le_c) (le_cons (le_c) (le_nil)))))) (les_ret (le_notV (le_call (le_cons (le_var) (le_cons (le_var) (le_nil)))))) (les_next))
    (les_seq (les_if (le_notT (le_tru (le_call (le_cons (le_var) (le_cons (le_c) (le_cons (le_c) (le_nil))))))) (les_ret (le_c)) (les_next))
    (les_seq (les_asgG (le_gSeq (le_gsCons (le_gSet) (le_gsCons (le_gSet) (le_gsCons (le_gSet) (le_gsNil))))) (le_var))
    (les_seq (les_if (le_orT (le_notT (le_tru (le_call (le_cons (le_var) (le_cons (le_opQ leq_len (le_seqE (le_ix (le_varQ) (le_c)))) (le_nil)))))) (le_orT (le_notT (le_tru (le_call (le_cons (le_var) (le_cons (le_opQ leq_len (le_seqE (le_ix (le_varQ) (le_c)))) (le_nil)))))) (le_test (le_op (leop_I0) (le_var) (le_var))))) (les_ret (le_c)) (les_next))
    (les_ret (le_call (le_cons (le_var) (le_cons (le_var) (le_cons (le_var) (le_cons (le_var) (le_nil))))))))))))⟩
abbrev s_are_even : Stmt := topS 45
abbrev N_are_even : List PySem.Str := ["M", "maps", "one", "other"]
theorem sc_are_even : FnScope N_are_even ["M", "maps"] (defScope s_are_even) := ⟨rfl, rfl, rfl, by decide +kernel, rfl, by decide +kernel, by decide +kernel⟩
def fs_are_even : FS :=
  fSeq (fDrop (fCall F__need_maps (fCons (fVar 0) (fCons (fVar 1) (fNil)))))
    (fStuck)
def F_are_even : FF := mkF 2 N_are_even.length fs_are_even
theorem ok_are_even {f : Addr} {fd : FuncData} {k : Nat} (F : L2.Fun K "are_even" "are_even" s_are_even f fd)
    {f__need_maps : Addr} {d__need_maps : FuncData} {l__need_maps : Nat} (h__need_maps : l__need_maps ≤ k) (G__need_maps : FnOk P w K mg base (L2.CX P w) l__need_maps f__need_maps d__need_maps ["M", "maps"] (spX K Ps fun E => ofF E F__need_maps)) (g__need_maps : mg "_need_maps" = some (.ref f__need_maps)) (k__need_maps : PySem.W.keepIn K (.ref f__need_maps) = true) (b__need_maps : Binds K d__need_maps ["M", "maps"] []) : FnOk P w K mg base (L2.CX P w) (k + 1) f fd ["M", "maps"] (spX K Ps fun E => ofF E F_are_even) :=
  okFX (N := N_are_even) (n := 2) (fs := fs_are_even) F sc_are_even rfl fun cdv A outer s H E Ed hr tk po => ⟨_, (have nd := sc_are_even.nd
    psd_cons (psd_expr (pd_callX G__need_maps tk (hr.mono (by omega)) (by rfl) g__need_maps k__need_maps b__need_maps (pda_cons (pw_dat (pd_var (pv 0))) (pda_cons (pw_dat (pd_var (pv 1))) (pda_nil)))))
    (pss_stuck)),
    (les_seq (les_drop (le_call (le_cons (le_var) (le_cons (le_var) (le_nil)))))
    (les_stuck))⟩
abbrev s__spread_numbers : Stmt := topS 46
abbrev N__spread_numbers : List PySem.Str := ["M", "values", "numbers", "sums", "goal", "number"]
theorem sc__spread_numbers : FnScope N__spread_numbers ["M", "values", "numbers"] (defScope s__spread_numbers) := ⟨rfl, rfl, rfl, by decide +kernel, rfl, by decide +kernel, by decide +kernel⟩
def fs__spread_numbers : FS :=
  fSeq (fSetO 3 (fRep (fLst (fCons (fC (.int 0)) (fNil))) (fVar 0)))
    (fSeq (fFor (fZip4 (fCons (fVar 1) (fCons (fVar 2) (fNil)))) (fgSeq 2 (fgsCons (fgSet 4) (fgsCons (fgSet 5) (fgsNil)))) (fAugIx 3 (fVar 4) (fVar 5)))
    (fRetO 3))
def F__spread_numbers : FF := mkF 3 N__spread_numbers.length fs__spread_numbers
theorem ok__spread_numbers {f : Addr} {fd : FuncData} {k : Nat} (F : L2.Fun K "_spread_numbers" "_spread_numbers" s__spread_numbers f fd)
    (z_zip : mg "zip" = none) : FnOk P w K mg base (L2.CX P w) (k + 1) f fd ["M", "values", "numbers"] (spX K Ps fun E => ofF E F__spread_numbers) :=
  okFX (N := N__spread_numbers) (n := 3) (fs := fs__spread_numbers) F sc__spread_numbers rfl fun cdv A outer s H E Ed hr tk po => ⟨_, (have nd := sc__spread_numbers.nd
    psd_cons (psd_setO (i := 3) nd rfl (by first | exact Or.inl rfl | exact Or.inr rfl) (pn_rep (pn_lst (pda_cons (pw_dat (pd_c pe_int (fun _ _ => .int _))) (pda_nil))) (pd_var (pv 0))))
    (psd_cons (psd_for po rfl (pid_zip4 (by rfl) z_zip (pda_cons (pw_dat (pd_var (pv 1))) (pda_cons (pw_dat (pd_var (pv 2))) (pda_nil)))) (pgd_seq rfl (pgsd_cons (pgd_name (pg_name (i := 4) nd rfl (by first | exact Or.inl rfl | exact Or.inr rfl))) (pgsd_cons (pgd_name (pg_name (i := 5) nd rfl (by first | exact Or.inl rfl | exact Or.inr rfl))) (pgsd_nil)))) (psd_one (psd_augIx (pv 3) (pd_var (pv 4)) (pd_var (pv 5)))))
    (psd_one (psd_retO (pv 3))))),
    (les_seq (les_setO (le_rep (le_lst (le_cons (le_c) (le_nil))) (le_var)))
    (les_seq (les_for (le_zip4 (le_cons (le_var) (le_cons (le_var) (le_nil)))) (le_gSeq (le_gsCons (le_gSet) (le_gsCons (le_gSet) (le_gsNil)))) (les_augIx (le_var) (le_var)))
    (les_retO)))⟩
abbrev s_spread : Stmt := topS 47
abbrev N_spread : List PySem.Str := ["M", "values", "p"]
theorem sc_spread : FnScope N_spread ["M", "values", "p"] (defScope s_spread) := ⟨rfl, rfl, rfl, by decide +kernel, rfl, by decide +kernel, by decide +kernel⟩
def fs_spread : FS :=
  fSeq (fDrop (fCall F_need_number (fCons (fVar 0) (fCons (fC (.int 1)) (fCons (fC (.int 16)) (fNil))))))
    (fSeq (fIf (fNot (fTru (fCall F__is_map (fCons (fVar 1) (fCons (fVar 0) (fNil)))))) (fRaise ⟨"InvalidMaps", none⟩) (fNext))
    (fSeq (fDrop (fCall F_need_draw (fCons (fVar 2) (fCons (fOpQ gLen (fVarQ 1)) (fNil)))))
    (fRet (fCall F_lowest_row (fCons (fIx (fVarQ 2) (fC (.int 0))) (fCons (fCall F__spread_numbers (fCons (fVar 0) (fCons (fVar 1) (fCons (fIx (fVarQ 2) (fC (.int 1))) (fNil))))) (fNil)))))))
def F_spread : FF := mkF 3 N_spread.length fs_spread
theorem ok_spread {f : Addr} {fd : FuncData} {k : Nat} (F : L2.Fun K "spread" "spread" s_spread f fd)
    {tk__MOST_VALUES : Tok} (c__MOST_VALUES : mg "_MOST_VALUES" = some (.int 16 tk__MOST_VALUES))
    (z_len : mg "len" = none)
    {c_InvalidMaps : Addr} (e_InvalidMaps : ClsP K mg "InvalidMaps" c_InvalidMaps)
    {f_need_number : Addr} {d_need_number : FuncData} {l_need_number : Nat} (h_need_number : l_need_number ≤ k) (G_need_number : FnOk P w K mg base (L2.CX P w) l_need_number f_need_number d_need_number ["value", "low", "high"] (spX K Ps fun E => ofF E F_need_number)) (g_need_number : mg "need_number" = some (.ref f_need_number)) (k_need_number : PySem.W.keepIn K (.ref f_need_number) = true) (b_need_number : Binds K d_need_number ["value", "low", "high"] [])
    {f__is_map : Addr} {d__is_map : FuncData} {l__is_map : Nat} (h__is_map : l__is_map ≤ k) (G__is_map : FnOk P w K mg base (L2.CX P w) l__is_map f__is_map d__is_map ["value", "M"] (spX K Ps fun E => ofF E F__is_map)) (g__is_map : mg "_is_map" = some (.ref f__is_map)) (k__is_map : PySem.W.keepIn K (.ref f__is_map) = true) (b__is_map : Binds K d__is_map ["value", "M"] [])
    {f_need_draw : Addr} {d_need_draw : FuncData} {l_need_draw : Nat} (h_need_draw : l_need_draw ≤ k) (G_need_draw : FnOk P w K mg base (L2.CX P w) l_need_draw f_need_draw d_need_draw ["value", "count"] (spX K Ps fun E => ofF E F_need_draw)) (g_need_draw : mg "need_draw" = some (.ref f_need_draw)) (k_need_draw : PySem.W.keepIn K (.ref f_need_draw) = true) (b_need_draw : Binds K d_need_draw ["value", "count"] [])
    {f__spread_numbers : Addr} {d__spread_numbers : FuncData} {l__spread_numbers : Nat} (h__spread_numbers : l__spread_numbers ≤ k) (G__spread_numbers : FnOk P w K mg base (L2.CX P w) l__spread_numbers f__spread_numbers d__spread_numbers ["M", "values", "numbers"] (spX K Ps fun E => ofF E F__spread_numbers)) (g__spread_numbers : mg "_spread_numbers" = some (.ref f__spread_numbers)) (k__spread_numbers : PySem.W.keepIn K (.ref f__spread_numbers) = true) (b__spread_numbers : Binds K d__spread_numbers ["M", "values", "numbers"] [])
    {f_lowest_row : Addr} {d_lowest_row : FuncData} {l_lowest_row : Nat} (h_lowest_row : l_lowest_row ≤ k) (G_lowest_row : FnOk P w K mg base (L2.CX P w) l_lowest_row f_lowest_row d_lowest_row ["bottom", "numbers"] (spX K Ps fun E => ofF E F_lowest_row)) (g_lowest_row : mg "lowest_row" = some (.ref f_lowest_row)) (k_lowest_row : PySem.W.keepIn K (.ref f_lowest_row) = true) (b_lowest_row : Binds K d_lowest_row ["bottom", "numbers"] []) : FnOk P w K mg base (L2.CX P w) (k + 1) f fd ["M", "values", "p"] (spX K Ps fun E => ofF E F_spread) :=
  okFX (N := N_spread) (n := 3) (fs := fs_spread) F sc_spread rfl fun cdv A outer s H E Ed hr tk po => ⟨_, (have nd := sc_spread.nd
    psd_cons (psd_expr (pd_callX G_need_number tk (hr.mono (by omega)) (by rfl) g_need_number k_need_number b_need_number (pda_cons (pw_dat (pd_var (pv 0))) (pda_cons (pw_dat (pd_c pe_int (fun _ _ => .int _))) (pda_cons (pw_dat (pd_c (pe_glob (v := V.int 16) (by rfl) c__MOST_VALUES ⟨_, rfl⟩) (fun _ _ => .int _))) (pda_nil))))))
    (psd_cons (psd_if (ptd_not (ptd_tru (pd_callX G__is_map tk (hr.mono (by omega)) (by rfl) g__is_map k__is_map b__is_map (pda_cons (pw_dat (pd_var (pv 1))) (pda_cons (pw_dat (pd_var (pv 0))) (pda_nil)))))) (psd_one (psd_raiseP e_InvalidMaps tk rfl (by rfl))) (psd_nil))
    (psd_cons (psd_expr (pd_callX G_need_draw tk (hr.mono (by omega)) (by rfl) g_need_draw k_need_draw b_need_draw (pda_cons (pw_dat (pd_var (pv 2))) (pda_cons (pw_dat (pd_len (by rfl) z_len (pq_var (pv 1)))) (pda_nil)))))
    (psd_one (psd_ret (pd_callX G_lowest_row tk (hr.mono (by omega)) (by rfl) g_lowest_row k_lowest_row b_lowest_row (pda_cons (pw_dat (pd_ix (pq_var (pv 2)) (pd_c pe_int (fun _ _ => .int _)) (fun _ _ => rfl))) (pda_cons (pw_dat (pd_callX G__spread_numbers tk (hr.mono (by omega)) (by rfl) g__spread_numbers k__spread_numbers b__spread_numbers (pda_cons (pw_dat (pd_var (pv 0))) (pda_cons (pw_dat (pd_var (pv 1))) (pda_cons (pw_dat (pd_ix (pq_var (pv 2)) (pd_c pe_int (fun _ _ => .int _)) (fun _ _ => rfl))) (pda_nil)))))) (pda_nil))))))))),
    (les_seq (les_drop (le_call (le_cons (le_var) (le_cons (le_c) (le_cons (le_c) (le_nil))))))
    (les_seq (les_if (le_notT (le_tru (le_call (le_cons (le_var) (le_cons (le_var) (le_nil)))))) (les_raiseX) (les_next))
    (les_seq (les_drop (le_call (le_cons (le_var) (le_cons (le_opQ leq_len (le_varQ)) (le_nil)))))
    (les_ret (le_call (le_cons (le_ix (le_varQ) (le_c)) (le_cons (le_call (le_cons (le_var) (le_cons (le_var) (le_cons (le_ix (le_varQ) (le_c)) (le_nil))))) (le_nil))))))))⟩
abbrev s__need_maps_and_draw : Stmt := topS 48
abbrev N__need_maps_and_draw : List PySem.Str := ["M", "maps", "p"]
theorem sc__need_maps_and_draw : FnScope N__need_maps_and_draw ["M", "maps", "p"] (defScope s__need_maps_and_draw) := ⟨rfl, rfl, rfl, by decide +kernel, rfl, by decide +kernel, by decide +kernel⟩
def fs__need_maps_and_draw : FS :=
  fSeq (fDrop (fCall F__need_maps (fCons (fVar 0) (fCons (fVar 1) (fNil)))))
    (fDrop (fCall F_need_draw (fCons (fVar 2) (fCons (fOpQ gLen (fSeqE (fIx (fVarQ 1) (fC (.int 0))))) (fNil)))))
def F__need_maps_and_draw : FF := mkF 3 N__need_maps_and_draw.length fs__need_maps_and_draw
theorem ok__need_maps_and_draw {f : Addr} {fd : FuncData} {k : Nat} (F : L2.Fun K "_need_maps_and_draw" "_need_maps_and_draw" s__need_maps_and_draw f fd)
    (z_len : mg "len" = none)
    {f__need_maps : Addr} {d__need_maps : FuncData} {l__need_maps : Nat} (h__need_maps : l__need_maps ≤ k) (G__need_maps : FnOk P w K mg base (L2.CX P w) l__need_maps f__need_maps d__need_maps ["M", "maps"] (spX K Ps fun E => ofF E F__need_maps)) (g__need_maps : mg "_need_maps" = some (.ref f__need_maps)) (k__need_maps : PySem.W.keepIn K (.ref f__need_maps) = true) (b__need_maps : Binds K d__need_maps ["M", "maps"] [])
    {f_need_draw : Addr} {d_need_draw : FuncData} {l_need_draw : Nat} (h_need_draw : l_need_draw ≤ k) (G_need_draw : FnOk P w K mg base (L2.CX P w) l_need_draw f_need_draw d_need_draw ["value", "count"] (spX K Ps fun E => ofF E F_need_draw)) (g_need_draw : mg "need_draw" = some (.ref f_need_draw)) (k_need_draw : PySem.W.keepIn K (.ref f_need_draw) = true) (b_need_draw : Binds K d_need_draw ["value", "count"] []) : FnOk P w K mg base (L2.CX P w) (k + 1) f fd ["M", "maps", "p"] (spX K Ps fun E => ofF E F__need_maps_and_draw) :=
  okFX (N := N__need_maps_and_draw) (n := 3) (fs := fs__need_maps_and_draw) F sc__need_maps_and_draw rfl fun cdv A outer s H E Ed hr tk po => ⟨_, (have nd := sc__need_maps_and_draw.nd
    psd_cons (psd_expr (pd_callX G__need_maps tk (hr.mono (by omega)) (by rfl) g__need_maps k__need_maps b__need_maps (pda_cons (pw_dat (pd_var (pv 0))) (pda_cons (pw_dat (pd_var (pv 1))) (pda_nil)))))
    (psd_one (psd_expr (pd_callX G_need_draw tk (hr.mono (by omega)) (by rfl) g_need_draw k_need_draw b_need_draw (pda_cons (pw_dat (pd_var (pv 2))) (pda_cons (pw_dat (pd_len (by rfl) z_len (pq_dat (pd_ix (pq_var (pv 1)) (pd_c pe_int (fun _ _ => .int _)) (fun _ _ => rfl))))) (pda_nil))))))),
    (les_seq (les_drop (le_call (le_cons (le_var) (le_cons (le_var) (le_nil)))))
    (les_drop (le_call (le_cons (le_var) (le_cons (le_opQ leq_len (le_seqE (le_ix (le_varQ) (le_c)))) (le_nil))))))⟩
abbrev s__gaps : Stmt := topS 49
abbrev N__gaps : List PySem.Str := ["M", "values", "p", "number"]
theorem sc__gaps : FnScope N__gaps ["M", "values", "p"] (defScope s__gaps) := ⟨rfl, rfl, rfl, by decide +kernel, rfl, by decide +kernel, by decide +kernel⟩
def fs__gaps : FS :=
  fRet (fL (fLc (fItS (fCall F__spread_numbers (fCons (fVar 0) (fCons (fVar 1) (fCons (fIx (fVarQ 2) (fC (.int 1))) (fNil)))))) (fgSet 3) (fYes) (fOp (gI0 fun i j => .int (i - j)) (fOp (gI cMul fun i j => .int (i * j)) (fVar 3) (fVar 0)) (fIx (fVarQ 2) (fC (.int 0)))) [3]))
def F__gaps : FF := mkF 3 N__gaps.length fs__gaps
theorem ok__gaps {f : Addr} {fd : FuncData} {k : Nat} (F : L2.Fun K "_gaps" "_gaps" s__gaps f fd)
    {f__spread_numbers : Addr} {d__spread_numbers : FuncData} {l__spread_numbers : Nat} (h__spread_numbers : l__spread_numbers ≤ k) (G__spread_numbers : FnOk P w K mg base (L2.CX P w) l__spread_numbers f__spread_numbers d__spread_numbers ["M", "values", "numbers"] (spX K Ps fun E => ofF E F__spread_numbers)) (g__spread_numbers : mg "_spread_numbers" = some (.ref f__spread_numbers)) (k__spread_numbers : PySem.W.keepIn K (.ref f__spread_numbers) = true) (b__spread_numbers : Binds K d__spread_numbers ["M", "values", "numbers"] []) : FnOk P w K mg base (L2.CX P w) (k + 1) f fd ["M", "values", "p"] (spX K Ps fun E => ofF E F__gaps) :=
  okFX (N := N__gaps) (n := 3) (fs := fs__gaps) F sc__gaps rfl fun cdv A outer s H E Ed hr tk po => ⟨_, (have nd := sc__gaps.nd
    psd_one (psd_ret (pd_new (pn_lc (own := [("number", 3)]) rfl nd (pid_seq (pd_callX G__spread_numbers tk (hr.mono (by omega)) (by rfl) g__spread_numbers k__spread_numbers b__spread_numbers (pda_cons (pw_dat (pd_var (pv 0))) (pda_cons (pw_dat (pd_var (pv 1))) (pda_cons (pw_dat (pd_ix (pq_var (pv 2)) (pd_c pe_int (fun _ _ => .int _)) (fun _ _ => rfl))) (pda_nil)))))) (blkOk_by (N := N__gaps) (sc := defScope s__gaps) (by decide +kernel)) (fun _ _ _ _ _ => pgd_name (pg_name (i := 3) nd rfl (by first | exact Or.inl rfl | exact Or.inr rfl))) (fun _ _ _ _ _ => ptsd_nil) (fun _ _ _ _ _ => pd_op op_sub (op2_I0 fun _ _ _ _ => .int _) (pd_op op_mulE (op2_I fun _ _ _ _ => .int _) (pd_var (pv 3)) (pd_var (pv 0))) (pd_ix (pq_var (pv 2)) (pd_c pe_int (fun _ _ => .int _)) (fun _ _ => rfl))))))),
    (les_ret (le_L (le_lc (le_itS (le_call (le_cons (le_var) (le_cons (le_var) (le_cons (le_ix (le_varQ) (le_c)) (le_nil)))))) (le_gSet) (le_yes) (le_op (leop_I0) (le_op (leop_I cMul_ok) (le_var) (le_var)) (le_ix (le_varQ) (le_c))))))⟩
abbrev s_leftover : Stmt := topS 50
abbrev N_leftover : List PySem.Str := ["M", "maps", "p", "squares", "values", "gap"]
theorem sc_leftover : FnScope N_leftover ["M", "maps", "p"] (defScope s_leftover) := ⟨rfl, rfl, rfl, by decide +kernel, rfl, by decide +kernel, by decide +kernel⟩
def fs_leftover : FS :=
  fSeq (fDrop (fCall F__need_maps_and_draw (fCons (fVar 0) (fCons (fVar 1) (fCons (fVar 2) (fNil))))))
    (fSeq (fSet 3 (fOpQ gSum (fSeqE (fL (fLc (fItS (fVar 1)) (fgSet 4) (fYes) (fOpQ gSum (fSeqE (fL (fLc (fItS (fCall0 F__gaps (fCons (fVar 0) (fCons (fVar 4) (fCons (fVar 2) (fNil)))))) (fgSet 5) (fYes) (fOp (gI cMul fun i j => .int (i * j)) (fVar 5) (fVar 5)) [5])))) [4])))))
    (fRet (fCall F_reduced (fCons (fVar 3) (fCons (fOp (gI cMul fun i j => .int (i * j)) (fOp (gI cMul fun i j => .int (i * j)) (fOp (gI cMul fun i j => .int (i * j)) (fOp (gI cMul fun i j => .int (i * j)) (fOpQ gLen (fVarQ 1)) (fVar 0)) (fVar 0)) (fIx (fVarQ 2) (fC (.int 0)))) (fIx (fVarQ 2) (fC (.int 0)))) (fNil))))))
def F_leftover : FF := mkF 3 N_leftover.length fs_leftover
theorem ok_leftover {f : Addr} {fd : FuncData} {k : Nat} (F : L2.Fun K "leftover" "leftover" s_leftover f fd)
    (z_sum : mg "sum" = none)
    (z_len : mg "len" = none)
    {f__need_maps_and_draw : Addr} {d__need_maps_and_draw : FuncData} {l__need_maps_and_draw : Nat} (h__need_maps_and_draw : l__need_maps_and_draw ≤ k) (G__need_maps_and_draw : FnOk P w K mg base (L2.CX P w) l__need_maps_and_draw f__need_maps_and_draw d__need_maps_and_draw ["M", "maps", "p"] (spX K Ps fun E => ofF E F__need_maps_and_draw)) (g__need_maps_and_draw : mg "_need_maps_and_draw" = some (.ref f__need_maps_and_draw)) (k__need_maps_and_draw : PySem.W.keepIn K (.ref f__need_maps_and_draw) = true) (b__need_maps_and_draw : Binds K d__need_maps_and_draw ["M", "maps", "p"] [])
    {f__gaps : Addr} {d__gaps : FuncData} {l__gaps : Nat} (h__gaps : l__gaps ≤ k) (G__gaps : FnOk P w K mg base (L2.CX P w) l__gaps f__gaps d__gaps ["M", "values", "p"] (spX K Ps fun E => ofF E F__gaps)) (g__gaps : mg "_gaps" = some (.ref f__gaps)) (k__gaps : PySem.W.keepIn K (.ref f__gaps) = true) (b__gaps : Binds K d__gaps ["M", "values", "p"] [])
    {f_reduced : Addr} {d_reduced : FuncData} {l_reduced : Nat} (h_reduced : l_reduced ≤ k) (G_reduced : FnOk P w K mg base (L2.CX P w) l_reduced f_reduced d_reduced ["top", "bottom"] (spX K Ps fun E => ofF E F_reduced)) (g_reduced : mg "reduced" = some (.ref f_reduced)) (k_reduced : PySem.W.keepIn K (.ref f_reduced) = true) (b_reduced : Binds K d_reduced ["top", "bottom"] []) : FnOk P w K mg base (L2.CX P w) (k + 1) f fd ["M", "maps", "p"] (spX K Ps fun E => ofF E F_leftover) :=
  okFX (N := N_leftover) (n := 3) (fs := fs_leftover) F sc_leftover rfl fun cdv A outer s H E Ed hr tk po => ⟨_, (have nd := sc_leftover.nd
    psd_cons (psd_expr (pd_callX G__need_maps_and_draw tk (hr.mono (by omega)) (by rfl) g__need_maps_and_draw k__need_maps_and_draw b__need_maps_and_draw (pda_cons (pw_dat (pd_var (pv 0))) (pda_cons (pw_dat (pd_var (pv 1))) (pda_cons (pw_dat (pd_var (pv 2))) (pda_nil))))))
    (psd_cons (psd_set (i := 3) nd rfl (by first | exact Or.inl rfl | exact Or.inr rfl) (pd_callQ (cr_sumS rfl) opq_sumS (by rfl) z_sum Dl.b_sum (pq_dat (pd_new (pn_lc (own := [("values", 4)]) rfl nd (pid_seq (pd_var (pv 1))) (blkOk_by (N := N_leftover) (sc := defScope s_leftover) (by decide +kernel)) (fun _ _ _ _ _ => pgd_name (pg_name (i := 4) nd rfl (by first | exact Or.inl rfl | exact Or.inr rfl))) (fun _ _ _ _ _ => ptsd_nil) (fun _ _ _ _ _ => pd_callQ (cr_sumS rfl) opq_sumS (by rfl) z_sum Dl.b_sum (pq_dat (pd_new (pn_lc (own := [("gap", 5)]) rfl nd (pid_seq (pd_call (fnX0 G__gaps) (hr.mono (by omega)) (by rfl) g__gaps k__gaps b__gaps (pda_cons (pw_dat (pd_var (pv 0))) (pda_cons (pw_dat (pd_var (pv 4))) (pda_cons (pw_dat (pd_var (pv 2))) (pda_nil)))))) (blkOk_k (by kernel_rfl)) (fun _ _ _ _ _ => pgd_name (pg_name (i := 5) nd rfl (by first | exact Or.inl rfl | exact Or.inr rfl))) (fun _ _ _ _ _ => ptsd_nil) (fun _ _ _ _ _ => pd_op op_mulE (op2_I fun _ _ _ _ => .int _) (pd_var (pv 5)) (pd_var (pv 5))))))))))))
    (psd_one (psd_ret (pd_callX G_reduced tk (hr.mono (by omega)) (by rfl) g_reduced k_reduced b_reduced (pda_cons (pw_dat (pd_var (pv 3))) (pda_cons (pw_dat (pd_op op_mulE (op2_I fun _ _ _ _ => .int _) (pd_op op_mulE (op2_I fun _ _ _ _ => .int _) (pd_op op_mulE (op2_I fun _ _ _ _ => .int _) (pd_op op_mulE (op2_I fun _ _ _ _ => .int _) (pd_len (by rfl) z_len (pq_var (pv 1))) (pd_var (pv 0))) (pd_var (pv 0))) (pd_ix (pq_var (pv 2)) (pd_c pe_int (fun _ _ => .int _)) (fun _ _ => rfl))) (pd_ix (pq_var (pv 2)) (pd_c pe_int (fun _ _ => .int _)) (fun _ _ => rfl)))) (pda_nil)))))))),
    (les_seq (les_drop (le_call (le_cons (le_var) (le_cons (le_var) (le_cons (le_var) (le_nil))))))
    (les_seq (les_set (le_opQ leq_sum (le_seqE (le_L (le_lc (le_itS (le_var)) (le_gSet) (le_yes) (le_opQ leq_sum (le_seqE (le_L (le_lc (le_itS (le_call0 (le_cons (le_var) (le_cons (le_var) (le_cons (le_var) (le_nil)))))) (le_gSet) (le_yes) (le_op (leop_I cMul_ok) (le_var) (le_var)))))))))))
    (les_ret (le_call (le_cons (le_var) (le_cons (le_op (leop_I cMul_ok) (le_op (leop_I cMul_ok) (le_op (leop_I cMul_ok) (le_op (leop_I cMul_ok) (le_opQ leq_len (le_varQ)) (le_var)) (le_var)) (le_ix (le_varQ) (le_c))) (le_ix (le_varQ) (le_c))) (le_nil)))))))⟩
abbrev s_leftover_parts : Stmt := topS 51
abbrev N_leftover_parts : List PySem.Str := ["M", "maps", "p", "squares", "pairs", "bottom", "numbers", "number", "one", "other"]
theorem sc_leftover_parts : FnScope N_leftover_parts ["M", "maps", "p"] (defScope s_leftover_parts) := ⟨rfl, rfl, rfl, by decide +kernel, rfl, by decide +kernel, by decide +kernel⟩
def fs_leftover_parts : FS :=
  fSeq (fDrop (fCall F__need_maps_and_draw (fCons (fVar 0) (fCons (fVar 1) (fCons (fVar 2) (fNil))))))
    (fSeq (fAsgG (fgSeq 2 (fgsCons (fgSet 5) (fgsCons (fgSet 6) (fgsNil)))) (fVar 2))
    (fSeq (fSet 3 (fOpQ gSum (fSeqE (fL (fLc (fItS (fVar 6)) (fgSet 7) (fYes) (fOp (gI cMul fun i j => .int (i * j)) (fVar 7) (fVar 7)) [7])))))
    (fStuck)))
def F_leftover_parts : FF := mkF 3 N_leftover_parts.length fs_leftover_parts
theorem ok_leftover_parts {f : Addr} {fd : FuncData} {k : Nat} (F : L2.Fun K "leftover_parts" "leftover_parts" s_leftover_parts f fd)
    (z_sum : mg "sum" = none)
    {f__need_maps_and_draw : Addr} {d__need_maps_and_draw : FuncData} {l__need_maps_and_draw : Nat} (h__need_maps_and_draw : l__need_maps_and_draw ≤ k) (G__need_maps_and_draw : FnOk P w K mg base (L2.CX P w) l__need_maps_and_draw f__need_maps_and_draw d__need_maps_and_draw ["M", "maps", "p"] (spX K Ps fun E => ofF E F__need_maps_and_draw)) (g__need_maps_and_draw : mg "_need_maps_and_draw" = some (.ref f__need_maps_and_draw)) (k__need_maps_and_draw : PySem.W.keepIn K (.ref f__need_maps_and_draw) = true) (b__need_maps_and_draw : Binds K d__need_maps_and_draw ["M", "maps", "p"] []) : FnOk P w K mg base (L2.CX P w) (k + 1) f fd ["M", "maps", "p"] (spX K Ps fun E => ofF E F_leftover_parts) :=
  okFX (N := N_leftover_parts) (n := 3) (fs := fs_leftover_parts) F sc_leftover_parts rfl fun cdv A outer s H E Ed hr tk po => ⟨_, (have nd := sc_leftover_parts.nd
    psd_cons (psd_expr (pd_callX G__need_maps_and_draw tk (hr.mono (by omega)) (by rfl) g__need_maps_and_draw k__need_maps_and_draw b__need_maps_and_draw (pda_cons (pw_dat (pd_var (pv 0))) (pda_cons (pw_dat (pd_var (pv 1))) (pda_cons (pw_dat (pd_var (pv 2))) (pda_nil))))))
    (psd_cons (psd_asgG (pd_var (pv 2)) (pgd_seq rfl (pgsd_cons (pgd_name (pg_name (i := 5) nd rfl (by first | exact Or.inl rfl | exact Or.inr rfl))) (pgsd_cons (pgd_name (pg_name (i := 6) nd rfl (by first | exact Or.inl rfl | exact Or.inr rfl))) (pgsd_nil)))))
    (psd_cons (psd_set (i := 3) nd rfl (by first | exact Or.inl rfl | exact Or.inr rfl) (pd_callQ (cr_sumS rfl) opq_sumS (by rfl) z_sum Dl.b_sum (pq_dat (pd_new (pn_lc (own := [("number", 7)]) rfl nd (pid_seq (pd_var (pv 6))) (blkOk_by (N := N_leftover_parts) (sc := defScope s_leftover_parts) (by decide +kernel)) (fun _ _ _ _ _ => pgd_name (pg_name (i := 7) nd rfl (by first | exact Or.inl rfl | exact Or.inr rfl))) (fun _ _ _ _ _ => ptsd_nil) (fun _ _ _ _ _ => pd_op op_mulE (op2_I fun _ _ _ _ => .int _) (pd_var (pv 7)) (pd_var (pv 7))))))))
    (pss_stuck)))),
    (les_seq (les_drop (le_call (le_cons (le_var) (le_cons (le_var) (le_cons (le_var) (le_nil))))))
    (les_seq (les_asgG (le_gSeq (le_gsCons (le_gSet) (le_gsCons (le_gSet) (le_gsNil)))) (le_var))
    (les_seq (les_set (le_opQ leq_sum (le_seqE (le_L (le_lc (le_itS (le_var)) (le_gSet) (le_yes) (le_op (leop_I cMul_ok) (le_var) (le_var)))))))
    (les_stuck))))⟩
abbrev s_mean_distance : Stmt := topS 52
abbrev N_mean_distance : List PySem.Str := ["M", "maps", "p", "amounts", "values", "gap"]
theorem sc_mean_distance : FnScope N_mean_distance ["M", "maps", "p"] (defScope s_mean_distance) := ⟨rfl, rfl, rfl, by decide +kernel, rfl, by decide +kernel, by decide +kernel⟩
def fs_mean_distance : FS :=
  fSeq (fDrop (fCall F__need_maps_and_draw (fCons (fVar 0) (fCons (fVar 1) (fCons (fVar 2) (fNil))))))
    (fSeq (fSet 3 (fOpQ gSum (fSeqE (fL (fLc (fItS (fVar 1)) (fgSet 4) (fYes) (fOpQ gSum (fSeqE (fL (fLc (fItS (fCall0 F__gaps (fCons (fVar 0) (fCons (fVar 4) (fCons (fVar 2) (fNil)))))) (fgSet 5) (fYes) (fOpN gAbs (fCons (fVar 5) (fNil))) [5])))) [4])))))
    (fRet (fCall F_reduced (fCons (fVar 3) (fCons (fOp (gI cMul fun i j => .int (i * j)) (fOp (gI cMul fun i j => .int (i * j)) (fOp (gI cMul fun i j => .int (i * j)) (fC (.int 2)) (fOpQ gLen (fVarQ 1))) (fVar 0)) (fIx (fVarQ 2) (fC (.int 0)))) (fNil))))))
def F_mean_distance : FF := mkF 3 N_mean_distance.length fs_mean_distance
theorem ok_mean_distance {f : Addr} {fd : FuncData} {k : Nat} (F : L2.Fun K "mean_distance" "mean_distance" s_mean_distance f fd)
    (z_abs : mg "abs" = none)
    (z_sum : mg "sum" = none)
    (z_len : mg "len" = none)
    {f__need_maps_and_draw : Addr} {d__need_maps_and_draw : FuncData} {l__need_maps_and_draw : Nat} (h__need_maps_and_draw : l__need_maps_and_draw ≤ k) (G__need_maps_and_draw : FnOk P w K mg base (L2.CX P w) l__need_maps_and_draw f__need_maps_and_draw d__need_maps_and_draw ["M", "maps", "p"] (spX K Ps fun E => ofF E F__need_maps_and_draw)) (g__need_maps_and_draw : mg "_need_maps_and_draw" = some (.ref f__need_maps_and_draw)) (k__need_maps_and_draw : PySem.W.keepIn K (.ref f__need_maps_and_draw) = true) (b__need_maps_and_draw : Binds K d__need_maps_and_draw ["M", "maps", "p"] [])
    {f__gaps : Addr} {d__gaps : FuncData} {l__gaps : Nat} (h__gaps : l__gaps ≤ k) (G__gaps : FnOk P w K mg base (L2.CX P w) l__gaps f__gaps d__gaps ["M", "values", "p"] (spX K Ps fun E => ofF E F__gaps)) (g__gaps : mg "_gaps" = some (.ref f__gaps)) (k__gaps : PySem.W.keepIn K (.ref f__gaps) = true) (b__gaps : Binds K d__gaps ["M", "values", "p"] [])
    {f_reduced : Addr} {d_reduced : FuncData} {l_reduced : Nat} (h_reduced : l_reduced ≤ k) (G_reduced : FnOk P w K mg base (L2.CX P w) l_reduced f_reduced d_reduced ["top", "bottom"] (spX K Ps fun E => ofF E F_reduced)) (g_reduced : mg "reduced" = some (.ref f_reduced)) (k_reduced : PySem.W.keepIn K (.ref f_reduced) = true) (b_reduced : Binds K d_reduced ["top", "bottom"] []) : FnOk P w K mg base (L2.CX P w) (k + 1) f fd ["M", "maps", "p"] (spX K Ps fun E => ofF E F_mean_distance) :=
  okFX (N := N_mean_distance) (n := 3) (fs := fs_mean_distance) F sc_mean_distance rfl fun cdv A outer s H E Ed hr tk po => ⟨_, (have nd := sc_mean_distance.nd
    psd_cons (psd_expr (pd_callX G__need_maps_and_draw tk (hr.mono (by omega)) (by rfl) g__need_maps_and_draw k__need_maps_and_draw b__need_maps_and_draw (pda_cons (pw_dat (pd_var (pv 0))) (pda_cons (pw_dat (pd_var (pv 1))) (pda_cons (pw_dat (pd_var (pv 2))) (pda_nil))))))
    (psd_cons (psd_set (i := 3) nd rfl (by first | exact Or.inl rfl | exact Or.inr rfl) (pd_callQ (cr_sumS rfl) opq_sumS (by rfl) z_sum Dl.b_sum (pq_dat (pd_new (pn_lc (own := [("values", 4)]) rfl nd (pid_seq (pd_var (pv 1))) (blkOk_by (N := N_mean_distance) (sc := defScope s_mean_distance) (by decide +kernel)) (fun _ _ _ _ _ => pgd_name (pg_name (i := 4) nd rfl (by first | exact Or.inl rfl | exact Or.inr rfl))) (fun _ _ _ _ _ => ptsd_nil) (fun _ _ _ _ _ => pd_callQ (cr_sumS rfl) opq_sumS (by rfl) z_sum Dl.b_sum (pq_dat (pd_new (pn_lc (own := [("gap", 5)]) rfl nd (pid_seq (pd_call (fnX0 G__gaps) (hr.mono (by omega)) (by rfl) g__gaps k__gaps b__gaps (pda_cons (pw_dat (pd_var (pv 0))) (pda_cons (pw_dat (pd_var (pv 4))) (pda_cons (pw_dat (pd_var (pv 2))) (pda_nil)))))) (blkOk_k (by kernel_rfl)) (fun _ _ _ _ _ => pgd_name (pg_name (i := 5) nd rfl (by first | exact Or.inl rfl | exact Or.inr rfl))) (fun _ _ _ _ _ => ptsd_nil) (fun _ _ _ _ _ => pd_callN call_abs opn_abs (by rfl) z_abs Dl.b_abs (pda_cons (pw_dat (pd_var (pv 5))) (pda_nil))))))))))))
    (psd_one (psd_ret (pd_callX G_reduced tk (hr.mono (by omega)) (by rfl) g_reduced k_reduced b_reduced (pda_cons (pw_dat (pd_var (pv 3))) (pda_cons (pw_dat (pd_op op_mulE (op2_I fun _ _ _ _ => .int _) (pd_op op_mulE (op2_I fun _ _ _ _ => .int _) (pd_op op_mulE (op2_I fun _ _ _ _ => .int _) (pd_c pe_int (fun _ _ => .int _)) (pd_len (by rfl) z_len (pq_var (pv 1)))) (pd_var (pv 0))) (pd_ix (pq_var (pv 2)) (pd_c pe_int (fun _ _ => .int _)) (fun _ _ => rfl)))) (pda_nil)))))))),
    (les_seq (les_drop (le_call (le_cons (le_var) (le_cons (le_var) (le_cons (le_var) (le_nil))))))
    (les_seq (les_set (le_opQ leq_sum (le_seqE (le_L (le_lc (le_itS (le_var)) (le_gSet) (le_yes) (le_opQ leq_sum (le_seqE (le_L (le_lc (le_itS (le_call0 (le_cons (le_var) (le_cons (le_var) (le_cons (le_var) (le_nil)))))) (le_gSet) (le_yes) (le_opN len_abs (le_cons (le_var) (le_nil))))))))))))
    (les_ret (le_call (le_cons (le_var) (le_cons (le_op (leop_I cMul_ok) (le_op (leop_I cMul_ok) (le_op (leop_I cMul_ok) (le_c) (le_opQ leq_len (le_varQ))) (le_var)) (le_ix (le_varQ) (le_c))) (le_nil)))))))⟩
abbrev s_least_meeting : Stmt := topS 53
abbrev N_least_meeting : List PySem.Str := ["points", "M", "often", "more"]
theorem sc_least_meeting : FnScope N_least_meeting ["points", "M"] (defScope s_least_meeting) := ⟨rfl, rfl, rfl, by decide +kernel, rfl, by decide +kernel, by decide +kernel⟩
def fs_least_meeting : FS :=
  fSeq (fDrop (fCall F_need_number (fCons (fVar 0) (fCons (fC (.int 2)) (fCons (fC (.int 32)) (fNil))))))
    (fSeq (fDrop (fCall F_need_number (fCons (fVar 1) (fCons (fC (.int 1)) (fCons (fC (.int 16)) (fNil))))))
    (fStuck))
def F_least_meeting : FF := mkF 2 N_least_meeting.length fs_least_meeting
theorem ok_least_meeting {f : Addr} {fd : FuncData} {k : Nat} (F : L2.Fun K "least_meeting" "least_meeting" s_least_meeting f fd)
    {tk__MOST_POINTS : Tok} (c__MOST_POINTS : mg "_MOST_POINTS" = some (.int 32 tk__MOST_POINTS))
    {tk__LEAST_POINTS : Tok} (c__LEAST_POINTS : mg "_LEAST_POINTS" = some (.int 2 tk__LEAST_POINTS))
    {tk__MOST_VALUES : Tok} (c__MOST_VALUES : mg "_MOST_VALUES" = some (.int 16 tk__MOST_VALUES))
    {f_need_number : Addr} {d_need_number : FuncData} {l_need_number : Nat} (h_need_number : l_need_number ≤ k) (G_need_number : FnOk P w K mg base (L2.CX P w) l_need_number f_need_number d_need_number ["value", "low", "high"] (spX K Ps fun E => ofF E F_need_number)) (g_need_number : mg "need_number" = some (.ref f_need_number)) (k_need_number : PySem.W.keepIn K (.ref f_need_number) = true) (b_need_number : Binds K d_need_number ["value", "low", "high"] []) : FnOk P w K mg base (L2.CX P w) (k + 1) f fd ["points", "M"] (spX K Ps fun E => ofF E F_least_meeting) :=
  okFX (N := N_least_meeting) (n := 2) (fs := fs_least_meeting) F sc_least_meeting rfl fun cdv A outer s H E Ed hr tk po => ⟨_, (have nd := sc_least_meeting.nd
    psd_cons (psd_expr (pd_callX G_need_number tk (hr.mono (by omega)) (by rfl) g_need_number k_need_number b_need_number (pda_cons (pw_dat (pd_var (pv 0))) (pda_cons (pw_dat (pd_c (pe_glob (v := V.int 2) (by rfl) c__LEAST_POINTS ⟨_, rfl⟩) (fun _ _ => .int _))) (pda_cons (pw_dat (pd_c (pe_glob (v := V.int 32) (by rfl) c__MOST_POINTS ⟨_, rfl⟩) (fun _ _ => .int _))) (pda_nil))))))
    (psd_cons (psd_expr (pd_callX G_need_number tk (hr.mono (by omega)) (by rfl) g_need_number k_need_number b_need_number (pda_cons (pw_dat (pd_var (pv 1))) (pda_cons (pw_dat (pd_c pe_int (fun _ _ => .int _))) (pda_cons (pw_dat (pd_c (pe_glob (v := V.int 16) (by rfl) c__MOST_VALUES ⟨_, rfl⟩) (fun _ _ => .int _))) (pda_nil))))))
    (pss_stuck))),
    (les_seq (les_drop (le_call (le_cons (le_var) (le_cons (le_c) (le_cons (le_c) (le_nil))))))
    (les_seq (les_drop (le_call (le_cons (le_var) (le_cons (le_c) (le_cons (le_c) (le_nil))))))
    (les_stuck)))⟩
abbrev s__need_bits : Stmt := topS 54
abbrev N__need_bits : List PySem.Str := ["n", "m"]
theorem sc__need_bits : FnScope N__need_bits ["n", "m"] (defScope s__need_bits) := ⟨rfl, rfl, rfl, by decide +kernel, rfl, by decide +kernel, by decide +kernel⟩
def fs__need_bits : FS :=
  fSeq (fDrop (fCall F_need_number (fCons (fVar 0) (fCons (fC (.int 1)) (fCons (fC (.int 5)) (fNil))))))
    (fDrop (fCall F_need_number (fCons (fVar 1) (fCons (fC (.int 1)) (fCons (fC (.int 4)) (fNil))))))
def F__need_bits : FF := mkF 2 N__need_bits.length fs__need_bits
theorem ok__need_bits {f : Addr} {fd : FuncData} {k : Nat} (F : L2.Fun K "_need_bits" "_need_bits" s__need_bits f fd)
    {tk__MOST_BITS : Tok} (c__MOST_BITS : mg "_MOST_BITS" = some (.int 5 tk__MOST_BITS))
    {tk__MOST_BITS_OF_VALUES : Tok} (c__MOST_BITS_OF_VALUES : mg "_MOST_BITS_OF_VALUES" = some (.int 4 tk__MOST_BITS_OF_VALUES))
    {f_need_number : Addr} {d_need_number : FuncData} {l_need_number : Nat} (h_need_number : l_need_number ≤ k) (G_need_number : FnOk P w K mg base (L2.CX P w) l_need_number f_need_number d_need_number ["value", "low", "high"] (spX K Ps fun E => ofF E F_need_number)) (g_need_number : mg "need_number" = some (.ref f_need_number)) (k_need_number : PySem.W.keepIn K (.ref f_need_number) = true) (b_need_number : Binds K d_need_number ["value", "low", "high"] []) : FnOk P w K mg base (L2.CX P w) (k + 1) f fd ["n", "m"] (spX K Ps fun E => ofF E F__need_bits) :=
  okFX (N := N__need_bits) (n := 2) (fs := fs__need_bits) F sc__need_bits rfl fun cdv A outer s H E Ed hr tk po => ⟨_, (have nd := sc__need_bits.nd
    psd_cons (psd_expr (pd_callX G_need_number tk (hr.mono (by omega)) (by rfl) g_need_number k_need_number b_need_number (pda_cons (pw_dat (pd_var (pv 0))) (pda_cons (pw_dat (pd_c pe_int (fun _ _ => .int _))) (pda_cons (pw_dat (pd_c (pe_glob (v := V.int 5) (by rfl) c__MOST_BITS ⟨_, rfl⟩) (fun _ _ => .int _))) (pda_nil))))))
    (psd_one (psd_expr (pd_callX G_need_number tk (hr.mono (by omega)) (by rfl) g_need_number k_need_number b_need_number (pda_cons (pw_dat (pd_var (pv 1))) (pda_cons (pw_dat (pd_c pe_int (fun _ _ => .int _))) (pda_cons (pw_dat (pd_c (pe_glob (v := V.int 4) (by rfl) c__MOST_BITS_OF_VALUES ⟨_, rfl⟩) (fun _ _ => .int _))) (pda_nil)))))))),
    (les_seq (les_drop (le_call (le_cons (le_var) (le_cons (le_c) (le_cons (le_c) (le_nil))))))
    (les_drop (le_call (le_cons (le_var) (le_cons (le_c) (le_cons (le_c) (le_nil)))))))⟩
abbrev s__need_few : Stmt := topS 55
abbrev N__need_few : List PySem.Str := ["bits"]
theorem sc__need_few : FnScope N__need_few ["bits"] (defScope s__need_few) := ⟨rfl, rfl, rfl, by decide +kernel, rfl, by decide +kernel, by decide +kernel⟩
def fs__need_few : FS :=
  fIf (fTest (fOp (gI0 fun i j => .bool (decide (j < i))) (fOp (gI cShl fun i j => .int (i * 2 ^ j.toNat)) (fC (.int 1)) (fVar 0)) (fC (.int 64)))) (fRaiseI "TooMany" "most" (fC (.int 64))) (fNext)
def F__need_few : FF := mkF 1 N__need_few.length fs__need_few
theorem ok__need_few {f : Addr} {fd : FuncData} {k : Nat} (F : L2.Fun K "_need_few" "_need_few" s__need_few f fd)
    {tk__MOST_MAPS : Tok} (c__MOST_MAPS : mg "_MOST_MAPS" = some (.int 64 tk__MOST_MAPS))
    {c_TooMany : Addr} (e_TooMany : ClsI P w K mg base "TooMany" c_TooMany "most")
    (h2 : 2 ≤ k) : FnOk P w K mg base (L2.CX P w) (k + 1) f fd ["bits"] (spX K Ps fun E => ofF E F__need_few) :=
  okFX (N := N__need_few) (n := 1) (fs := fs__need_few) F sc__need_few rfl fun cdv A outer s H E Ed hr tk po => ⟨_, (have nd := sc__need_few.nd
    psd_one (psd_if (pt_d_cmp op_gt (op2_I0 fun _ _ _ _ => .bl _) (pd_op op_shlW (op2_I fun _ _ _ _ => .int _) (pd_c pe_int (fun _ _ => .int _)) (pd_var (pv 0))) (pd_c (pe_glob (v := V.int 64) (by rfl) c__MOST_MAPS ⟨_, rfl⟩) (fun _ _ => .int _)) (nomark _)) (psd_one (psd_raiseI e_TooMany tk hr (by omega) rfl (by rfl) (pd_c (pe_glob (v := V.int 64) (by rfl) c__MOST_MAPS ⟨_, rfl⟩) (fun _ _ => .int _)))) (psd_nil))),
    (les_if (le_test (le_op (leop_I0) (le_op (leop_I cShl_ok) (le_c) (le_var)) (le_c))) (les_raiseI (le_c)) (les_next))⟩
abbrev s__linear : Stmt := topS 56
abbrev N__linear : List PySem.Str := ["n", "m", "size", "found", "i", "lines", "row", "values", "line", "x", "number", "bit"]
theorem sc__linear : FnScope N__linear ["n", "m"] (defScope s__linear) := ⟨rfl, rfl, rfl, by decide +kernel, rfl, by decide +kernel, by decide +kernel⟩
def fs__linear : FS :=
  fSeq (fSet 2 (fOp (gI cShl fun i j => .int (i * 2 ^ j.toNat)) (fC (.int 1)) (fVar 0)))
    (fSeq (fSet 3 (fL (fLst (fCons (fOp (gRepA) (fTup (fCons (fC (.int 0)) (fNil))) (fVar 2)) (fNil)))))
    (fSeq (fFor (fRange1 (fCons (fVar 1) (fNil))) (fgSet 4) (fSeq (fSet 5 (fL (fLc (fRange1 (fCons (fVar 2) (fNil))) (fgSet 6) (fYes) (fL (fLc (fRange1 (fCons (fVar 2) (fNil))) (fgSet 9) (fYes) (fOp (gI cShl fun i j => .int (i * 2 ^ j.toNat)) (fCall0 F_parity (fCons (fOp (gI0 fun i j => .int (Builtin.bitAnd i j)) (fVar 9) (fVar 6)) (fNil))) (fVar 4)) [9])) [6])))
    (fSet 3 (fL (fLc2 (fItS (fVar 3)) (fgSet 7) (fYes) (fItS (fVar 5)) (fgSet 8) (fYes) (fOpQ gTuple (fSeqE (fL (fLc (fZip4 (fCons (fVar 7) (fCons (fVar 8) (fNil)))) (fgSeq 2 (fgsCons (fgSet 10) (fgsCons (fgSet 11) (fgsNil)))) (fYes) (fOp (gI0 fun i j => .int (i + j)) (fVar 10) (fVar 11)) [10, 11])))) [7, 8] [8])))))
    (fRet (fVar 3))))
def F__linear : FF := mkF 2 N__linear.length fs__linear
theorem ok__linear {f : Addr} {fd : FuncData} {k : Nat} (F : L2.Fun K "_linear" "_linear" s__linear f fd)
    (z_range : mg "range" = none)
    (z_zip : mg "zip" = none)
    (z_tuple : mg "tuple" = none)
    {f_parity : Addr} {d_parity : FuncData} {l_parity : Nat} (h_parity : l_parity ≤ k) (G_parity : FnOk P w K mg base (L2.CX P w) l_parity f_parity d_parity ["number"] (spX K Ps fun E => ofF E F_parity)) (g_parity : mg "parity" = some (.ref f_parity)) (k_parity : PySem.W.keepIn K (.ref f_parity) = true) (b_parity : Binds K d_parity ["number"] []) : FnOk P w K mg base (L2.CX P w) (k + 1) f fd ["n", "m"] (spX K Ps fun E => ofF E F__linear) :=
  okFX (N := N__linear) (n := 2) (fs := fs__linear) F sc__linear rfl fun cdv A outer s H E Ed hr tk po => ⟨_, (have nd := sc__linear.nd
    psd_cons (psd_set (i := 2) nd rfl (by first | exact Or.inl rfl | exact Or.inr rfl) (pd_op op_shlW (op2_I fun _ _ _ _ => .int _) (pd_c pe_int (fun _ _ => .int _)) (pd_var (pv 0))))
    (psd_cons (psd_set (i := 3) nd rfl (by first | exact Or.inl rfl | exact Or.inr rfl) (pd_new (pn_lst (pda_cons (pw_dat (pd_op op_repA (op2_repA) (pd_tup (pda_cons (pw_dat (pd_c pe_int (fun _ _ => .int _))) (pda_nil))) (pd_var (pv 2)))) (pda_nil)))))
    (psd_cons (psd_for po rfl (pid_range1 (by rfl) z_range (pda_cons (pw_dat (pd_var (pv 1))) (pda_nil))) (pgd_name (pg_name (i := 4) nd rfl (by first | exact Or.inl rfl | exact Or.inr rfl))) (psd_cons (psd_set (i := 5) nd rfl (by first | exact Or.inl rfl | exact Or.inr rfl) (pd_new (pn_lc (own := [("row", 6)]) rfl nd (pid_range1 (by rfl) z_range (pda_cons (pw_dat (pd_var (pv 2))) (pda_nil))) (blkOk_by (N := N__linear) (sc := defScope s__linear) (by decide +kernel)) (fun _ _ _ _ _ => pgd_name (pg_name (i := 6) nd rfl (by first | exact Or.inl rfl | exact Or.inr rfl))) (fun _ _ _ _ _ => ptsd_nil) (fun _ _ _ _ _ => pd_new (pn_lc (own := [("x", 9)]) rfl nd (pid_range1 (by rfl) z_range (pda_cons (pw_dat (pd_var (pv 2))) (pda_nil))) (blkOk_k (by kernel_rfl)) (fun _ _ _ _ _ => pgd_name (pg_name (i := 9) nd rfl (by first | exact Or.inl rfl | exact Or.inr rfl))) (fun _ _ _ _ _ => ptsd_nil) (fun _ _ _ _ _ => pd_op op_shlW (op2_I fun _ _ _ _ => .int _) (pd_call (fnX0 G_parity) (hr.mono (by omega)) (by rfl) g_parity k_parity b_parity (pda_cons (pw_dat (pd_op op_and (op2_I0 fun _ _ _ _ => .int _) (pd_var (pv 9)) (pd_var (pv 6)))) (pda_nil))) (pd_var (pv 4))))))))
    (psd_one (psd_setLc2 (i := 3) (own := [("values", 7), ("line", 8)]) (vs1 := [8]) rfl nd rfl rfl (sw_true rfl rfl rfl (by decide +kernel)) (own_set) (pid_seq (pd_var (pv 3))) (blkOk_by (N := N__linear) (sc := defScope s__linear) (by decide +kernel)) (fun _ _ _ _ _ => pgd_name (pg_name (i := 7) nd rfl (by first | exact Or.inl rfl | exact Or.inr rfl))) (fun _ _ _ _ _ => ptsd_nil) (fun _ _ _ _ _ => pid_seq (pd_var (pv 5))) (fun _ _ _ _ _ => pgd_name (pg_name (i := 8) nd rfl (by first | exact Or.inl rfl | exact Or.inr rfl))) (fun _ _ _ _ _ => ptsd_nil) (fun _ _ _ _ _ => pd_tuple (by rfl) z_tuple Dl.b_tuple (pq_dat (pd_new (pn_lc (own := [("number", 10), ("bit", 11)]) rfl nd (pid_zip4 (by rfl) z_zip (pda_cons (pw_dat (pd_var (pv 7))) (pda_cons (pw_dat (pd_var (pv 8))) (pda_nil)))) (blkOk_k (by kernel_rfl)) (fun _ _ _ _ _ => pgd_seq rfl (pgsd_cons (pgd_name (pg_name (i := 10) nd rfl (by first | exact Or.inl rfl | exact Or.inr rfl))) (pgsd_cons (pgd_name (pg_name (i := 11) nd rfl (by first | exact Or.inl rfl | exact Or.inr rfl))) (pgsd_nil)))) (fun _ _ _ _ _ => ptsd_nil) (fun _ _ _ _ _ => pd_op op_add (op2_I0 fun _ _ _ _ => .int _) (pd_var (pv 10)) (pd_var (pv 11)))))))))))
    (psd_one (psd_ret (pd_var (pv 3))))))),
    (les_seq (les_set (le_op (leop_I cShl_ok) (le_c) (le_var)))
    (les_seq (les_set (le_L (le_lst (le_cons (le_op (leop_repA) (le_tup (le_cons (le_c) (le_nil))) (le_var)) (le_nil)))))
    (les_seq (les_for (le_range1 (le_cons (le_var) (le_nil))) (le_gSet) (les_seq (les_set (le_L (le_lc (le_range1 (le_cons (le_var) (le_nil))) (le_gSet) (le_yes) (le_L (le_lc (le_range1 (le_cons (le_var) (le_nil))) (le_gSet) (le_yes) (le_op (leop_I cShl_ok) (le_call0 (le_cons (le_op (leop_I0) (le_var) (le_var)) (le_nil))) (le_var)))))))
    (les_set (le_L (le_lc2 (le_itS (le_var)) (le_gSet) (le_yes) (le_itS (le_var)) (le_gSet) (le_yes) (le_opQ leq_tuple (le_seqE (le_L (le_lc (le_zip4 (le_cons (le_var) (le_cons (le_var) (le_nil)))) (le_gSeq (le_gsCons (le_gSet) (le_gsCons (le_gSet) (le_gsNil)))) (le_yes) (le_op (leop_I0) (le_var) (le_var)))))))))))
    (les_ret (le_var)))))⟩
abbrev s_linear_maps : Stmt := topS 57
abbrev N_linear_maps : List PySem.Str := ["n", "m"]
theorem sc_linear_maps : FnScope N_linear_maps ["n", "m"] (defScope s_linear_maps) := ⟨rfl, rfl, rfl, by decide +kernel, rfl, by decide +kernel, by decide +kernel⟩
def fs_linear_maps : FS :=
  fSeq (fDrop (fCall F__need_bits (fCons (fVar 0) (fCons (fVar 1) (fNil)))))
    (fSeq (fDrop (fCall F__need_few (fCons (fOp (gI cMul fun i j => .int (i * j)) (fVar 0) (fVar 1)) (fNil))))
    (fRet (fOpQ gTuple (fSeqE (fOpQ gSortL (fSeqE (fCall F__linear (fCons (fVar 0) (fCons (fVar 1) (fNil))))))))))
def F_linear_maps : FF := mkF 2 N_linear_maps.length fs_linear_maps
theorem ok_linear_maps {f : Addr} {fd : FuncData} {k : Nat} (F : L2.Fun K "linear_maps" "linear_maps" s_linear_maps f fd)
    (z_sorted : mg "sorted" = none)
    (z_tuple : mg "tuple" = none)
    {f__need_bits : Addr} {d__need_bits : FuncData} {l__need_bits : Nat} (h__need_bits : l__need_bits ≤ k) (G__need_bits : FnOk P w K mg base (L2.CX P w) l__need_bits f__need_bits d__need_bits ["n", "m"] (spX K Ps fun E => ofF E F__need_bits)) (g__need_bits : mg "_need_bits" = some (.ref f__need_bits)) (k__need_bits : PySem.W.keepIn K (.ref f__need_bits) = true) (b__need_bits : Binds K d__need_bits ["n", "m"] [])
    {f__need_few : Addr} {d__need_few : FuncData} {l__need_few : Nat} (h__need_few : l__need_few ≤ k) (G__need_few : FnOk P w K mg base (L2.CX P w) l__need_few f__need_few d__need_few ["bits"] (spX K Ps fun E => ofF E F__need_few)) (g__need_few : mg "_need_few" = some (.ref f__need_few)) (k__need_few : PySem.W.keepIn K (.ref f__need_few) = true) (b__need_few : Binds K d__need_few ["bits"] [])
    {f__linear : Addr} {d__linear : FuncData} {l__linear : Nat} (h__linear : l__linear ≤ k) (G__linear : FnOk P w K mg base (L2.CX P w) l__linear f__linear d__linear ["n", "m"] (spX K Ps fun E => ofF E F__linear)) (g__linear : mg "_linear" = some (.ref f__linear)) (k__linear : PySem.W.keepIn K (.ref f__linear) = true) (b__linear : Binds K d__linear ["n", "m"] []) : FnOk P w K mg base (L2.CX P w) (k + 1) f fd ["n", "m"] (spX K Ps fun E => ofF E F_linear_maps) :=
  okFX (N := N_linear_maps) (n := 2) (fs := fs_linear_maps) F sc_linear_maps rfl fun cdv A outer s H E Ed hr tk po => ⟨_, (have nd := sc_linear_maps.nd
    psd_cons (psd_expr (pd_callX G__need_bits tk (hr.mono (by omega)) (by rfl) g__need_bits k__need_bits b__need_bits (pda_cons (pw_dat (pd_var (pv 0))) (pda_cons (pw_dat (pd_var (pv 1))) (pda_nil)))))
    (psd_cons (psd_expr (pd_callX G__need_few tk (hr.mono (by omega)) (by rfl) g__need_few k__need_few b__need_few (pda_cons (pw_dat (pd_op op_mulE (op2_I fun _ _ _ _ => .int _) (pd_var (pv 0)) (pd_var (pv 1)))) (pda_nil))))
    (psd_one (psd_ret (pd_tuple (by rfl) z_tuple Dl.b_tuple (pq_dat (pd_callQ cr_sortAny2 opq_sortL (by rfl) z_sorted Dl.b_sorted (pq_dat (pd_callX G__linear tk (hr.mono (by omega)) (by rfl) g__linear k__linear b__linear (pda_cons (pw_dat (pd_var (pv 0))) (pda_cons (pw_dat (pd_var (pv 1))) (pda_nil)))))))))))),
    (les_seq (les_drop (le_call (le_cons (le_var) (le_cons (le_var) (le_nil)))))
    (les_seq (les_drop (le_call (le_cons (le_op (leop_I cMul_ok) (le_var) (le_var)) (le_nil))))
    (les_ret (le_opQ leq_tuple (le_seqE (le_opQ leq_sortL (le_seqE (le_call (le_cons (le_var) (le_cons (le_var) (le_nil)))))))))))⟩
abbrev s_affine_maps : Stmt := topS 58
abbrev N_affine_maps : List PySem.Str := ["n", "m", "turned", "values", "added", "number"]
theorem sc_affine_maps : FnScope N_affine_maps ["n", "m"] (defScope s_affine_maps) := ⟨rfl, rfl, rfl, by decide +kernel, rfl, by decide +kernel, by decide +kernel⟩
def fs_affine_maps : FS :=
  fSeq (fDrop (fCall F__need_bits (fCons (fVar 0) (fCons (fVar 1) (fNil)))))
    (fSeq (fDrop (fCall F__need_few (fCons (fOp (gI0 fun i j => .int (i + j)) (fOp (gI cMul fun i j => .int (i * j)) (fVar 0) (fVar 1)) (fVar 1)) (fNil))))
    (fSeq (fSet 2 (fL (fLc2 (fItS (fCall F__linear (fCons (fVar 0) (fCons (fVar 1) (fNil))))) (fgSet 3) (fYes) (fRange1 (fCons (fOp (gI cShl fun i j => .int (i * 2 ^ j.toNat)) (fC (.int 1)) (fVar 1)) (fNil))) (fgSet 4) (fYes) (fOpQ gTuple (fSeqE (fL (fLc (fItS (fVar 3)) (fgSet 5) (fYes) (fOp (gI0 fun i j => .int (Builtin.bitXor i j)) (fVar 5) (fVar 4)) [5])))) [3, 4] [4])))
    (fRet (fOpQ gTuple (fSeqE (fOpQ gSortL (fVarQ 2)))))))
def F_affine_maps : FF := mkF 2 N_affine_maps.length fs_affine_maps
theorem ok_affine_maps {f : Addr} {fd : FuncData} {k : Nat} (F : L2.Fun K "affine_maps" "affine_maps" s_affine_maps f fd)
    (z_range : mg "range" = none)
    (z_tuple : mg "tuple" = none)
    (z_sorted : mg "sorted" = none)
    {f__need_bits : Addr} {d__need_bits : FuncData} {l__need_bits : Nat} (h__need_bits : l__need_bits ≤ k) (G__need_bits : FnOk P w K mg base (L2.CX P w) l__need_bits f__need_bits d__need_bits ["n", "m"] (spX K Ps fun E => ofF E F__need_bits)) (g__need_bits : mg "_need_bits" = some (.ref f__need_bits)) (k__need_bits : PySem.W.keepIn K (.ref f__need_bits) = true) (b__need_bits : Binds K d__need_bits ["n", "m"] [])
    {f__need_few : Addr} {d__need_few : FuncData} {l__need_few : Nat} (h__need_few : l__need_few ≤ k) (G__need_few : FnOk P w K mg base (L2.CX P w) l__need_few f__need_few d__need_few ["bits"] (spX K Ps fun E => ofF E F__need_few)) (g__need_few : mg "_need_few" = some (.ref f__need_few)) (k__need_few : PySem.W.keepIn K (.ref f__need_few) = true) (b__need_few : Binds K d__need_few ["bits"] [])
    {f__linear : Addr} {d__linear : FuncData} {l__linear : Nat} (h__linear : l__linear ≤ k) (G__linear : FnOk P w K mg base (L2.CX P w) l__linear f__linear d__linear ["n", "m"] (spX K Ps fun E => ofF E F__linear)) (g__linear : mg "_linear" = some (.ref f__linear)) (k__linear : PySem.W.keepIn K (.ref f__linear) = true) (b__linear : Binds K d__linear ["n", "m"] []) : FnOk P w K mg base (L2.CX P w) (k + 1) f fd ["n", "m"] (spX K Ps fun E => ofF E F_affine_maps) :=
  okFX (N := N_affine_maps) (n := 2) (fs := fs_affine_maps) F sc_affine_maps rfl fun cdv A outer s H E Ed hr tk po => ⟨_, (have nd := sc_affine_maps.nd
    psd_cons (psd_expr (pd_callX G__need_bits tk (hr.mono (by omega)) (by rfl) g__need_bits k__need_bits b__need_bits (pda_cons (pw_dat (pd_var (pv 0))) (pda_cons (pw_dat (pd_var (pv 1))) (pda_nil)))))
    (psd_cons (psd_expr (pd_callX G__need_few tk (hr.mono (by omega)) (by rfl) g__need_few k__need_few b__need_few (pda_cons (pw_dat (pd_op op_add (op2_I0 fun _ _ _ _ => .int _) (pd_op op_mulE (op2_I fun _ _ _ _ => .int _) (pd_var (pv 0)) (pd_var (pv 1))) (pd_var (pv 1)))) (pda_nil))))
    (psd_cons (psd_setLc2 (i := 2) (own := [("values", 3), ("added", 4)]) (vs1 := [4]) rfl nd rfl rfl (sw_true rfl rfl rfl (by decide +kernel)) (own_set) (pid_seq (pd_callX G__linear tk (hr.mono (by omega)) (by rfl) g__linear k__linear b__linear (pda_cons (pw_dat (pd_var (pv 0))) (pda_cons (pw_dat (pd_var (pv 1))) (pda_nil))))) (blkOk_by (N := N_affine_maps) (sc := defScope s_affine_maps) (by decide +kernel)) (fun _ _ _ _ _ => pgd_name (pg_name (i := 3) nd rfl (by first | exact Or.inl rfl | exact Or.inr rfl))) (fun _ _ _ _ _ => ptsd_nil) (fun _ _ _ _ _ => pid_range1 (by rfl) z_range (pda_cons (pw_dat (pd_op op_shlW (op2_I fun _ _ _ _ => .int _) (pd_c pe_int (fun _ _ => .int _)) (pd_var (pv 1)))) (pda_nil))) (fun _ _ _ _ _ => pgd_name (pg_name (i := 4) nd rfl (by first | exact Or.inl rfl | exact Or.inr rfl))) (fun _ _ _ _ _ => ptsd_nil) (fun _ _ _ _ _ => pd_tuple (by rfl) z_tuple Dl.b_tuple (pq_dat (pd_new (pn_lc (own := [("number", 5)]) rfl nd (pid_seq (pd_var (pv 3))) (blkOk_k (by kernel_rfl)) (fun _ _ _ _ _ => pgd_name (pg_name (i := 5) nd rfl (by first | exact Or.inl rfl | exact Or.inr rfl))) (fun _ _ _ _ _ => ptsd_nil) (fun _ _ _ _ _ => pd_op op_xor (op2_I0 fun _ _ _ _ => .int _) (pd_var (pv 5)) (pd_var (pv 4))))))))
    (psd_one (psd_ret (pd_tuple (by rfl) z_tuple Dl.b_tuple (pq_dat (pd_callQ cr_sortAny2 opq_sortL (by rfl) z_sorted Dl.b_sorted (pq_var (pv 2)))))))))),
    (les_seq (les_drop (le_call (le_cons (le_var) (le_cons (le_var) (le_nil)))))
    (les_seq (les_drop (le_call (le_cons (le_op (leop_I0) (le_op (leop_I cMul_ok) (le_var) (le_var)) (le_var)) (le_nil))))
    (les_seq (les_set (le_L (le_lc2 (le_itS (le_call (le_cons (le_var) (le_cons (le_var) (le_nil))))) (le_gSet) (le_yes) (le_range1 (le_cons (le_op (leop_I cShl_ok) (le_c) (le_var)) (le_nil))) (le_gSet) (le_yes) (le_opQ leq_tuple (le_seqE (le_L (le_lc (le_itS (le_var)) (le_gSet) (le_yes) (le_op (leop_I0) (le_var) (le_var)))))))))
    (les_ret (le_opQ leq_tuple (le_seqE (le_opQ leq_sortL (le_varQ))))))))⟩
abbrev s_field_maps : Stmt := topS 59
abbrev N_field_maps : List PySem.Str := ["q", "a", "b", "x"]
theorem sc_field_maps : FnScope N_field_maps ["q"] (defScope s_field_maps) := ⟨rfl, rfl, rfl, by decide +kernel, rfl, by decide +kernel, by decide +kernel⟩
def fs_field_maps : FS :=
  fSeq (fDrop (fCall F_need_small_prime (fCons (fVar 0) (fNil))))
    (fRet (fOpQ gTuple (fSeqE (fOpQ gSortL (fSeqE (fL (fLc2 (fRange1 (fCons (fVar 0) (fNil))) (fgSet 1) (fYes) (fRange1 (fCons (fVar 0) (fNil))) (fgSet 2) (fYes) (fOpQ gTuple (fSeqE (fL (fLc (fRange1 (fCons (fVar 0) (fNil))) (fgSet 3) (fYes) (fOp (gI cPos fun i j => .int (i % j)) (fOp (gI0 fun i j => .int (i + j)) (fOp (gI cMul fun i j => .int (i * j)) (fVar 1) (fVar 3)) (fVar 2)) (fVar 0)) [3])))) [1, 2] [2])))))))
def F_field_maps : FF := mkF 1 N_field_maps.length fs_field_maps
theorem ok_field_maps {f : Addr} {fd : FuncData} {k : Nat} (F : L2.Fun K "field_maps" "field_maps" s_field_maps f fd)
    (z_range : mg "range" = none)
    (z_tuple : mg "tuple" = none)
    (z_sorted : mg "sorted" = none)
    {f_need_small_prime : Addr} {d_need_small_prime : FuncData} {l_need_small_prime : Nat} (h_need_small_prime : l_need_small_prime ≤ k) (G_need_small_prime : FnOk P w K mg base (L2.CX P w) l_need_small_prime f_need_small_prime d_need_small_prime ["value"] (spX K Ps fun E => ofF E F_need_small_prime)) (g_need_small_prime : mg "need_small_prime" = some (.ref f_need_small_prime)) (k_need_small_prime : PySem.W.keepIn K (.ref f_need_small_prime) = true) (b_need_small_prime : Binds K d_need_small_prime ["value"] []) : FnOk P w K mg base (L2.CX P w) (k + 1) f fd ["q"] (spX K Ps fun E => ofF E F_field_maps) :=
  okFX (N := N_field_maps) (n := 1) (fs := fs_field_maps) F sc_field_maps rfl fun cdv A outer s H E Ed hr tk po => ⟨_, (have nd := sc_field_maps.nd
    psd_cons (psd_expr (pd_callX G_need_small_prime tk (hr.mono (by omega)) (by rfl) g_need_small_prime k_need_small_prime b_need_small_prime (pda_cons (pw_dat (pd_var (pv 0))) (pda_nil))))
    (psd_one (psd_ret (pd_tuple (by rfl) z_tuple Dl.b_tuple (pq_dat (pd_callQ cr_sortAny2 opq_sortL (by rfl) z_sorted Dl.b_sorted (pq_dat (pd_new (pn_lc2 (own := [("a", 1), ("b", 2)]) (vs1 := [2]) rfl nd (own_set) (pid_range1 (by rfl) z_range (pda_cons (pw_dat (pd_var (pv 0))) (pda_nil))) (blkOk_by (N := N_field_maps) (sc := defScope s_field_maps) (by decide +kernel)) (fun _ _ _ _ _ => pgd_name (pg_name (i := 1) nd rfl (by first | exact Or.inl rfl | exact Or.inr rfl))) (fun _ _ _ _ _ => ptsd_nil) (fun _ _ _ _ _ => pid_range1 (by rfl) z_range (pda_cons (pw_dat (pd_var (pv 0))) (pda_nil))) (fun _ _ _ _ _ => pgd_name (pg_name (i := 2) nd rfl (by first | exact Or.inl rfl | exact Or.inr rfl))) (fun _ _ _ _ _ => ptsd_nil) (fun _ _ _ _ _ => pd_tuple (by rfl) z_tuple Dl.b_tuple (pq_dat (pd_new (pn_lc (own := [("x", 3)]) rfl nd (pid_range1 (by rfl) z_range (pda_cons (pw_dat (pd_var (pv 0))) (pda_nil))) (blkOk_k (by kernel_rfl)) (fun _ _ _ _ _ => pgd_name (pg_name (i := 3) nd rfl (by first | exact Or.inl rfl | exact Or.inr rfl))) (fun _ _ _ _ _ => ptsd_nil) (fun _ _ _ _ _ => pd_op op_mod (op2_I fun _ _ _ _ => .int _) (pd_op op_add (op2_I0 fun _ _ _ _ => .int _) (pd_op op_mulE (op2_I fun _ _ _ _ => .int _) (pd_var (pv 1)) (pd_var (pv 3))) (pd_var (pv 2))) (pd_var (pv 0)))))))))))))))),
    (les_seq (les_drop (le_call (le_cons (le_var) (le_nil))))
    (les_ret (le_opQ leq_tuple (le_seqE (le_opQ leq_sortL (le_seqE (le_L (le_lc2 (le_range1 (le_cons (le_var) (le_nil))) (le_gSet) (le_yes) (le_range1 (le_cons (le_var) (le_nil))) (le_gSet) (le_yes) (le_opQ leq_tuple (le_seqE (le_L (le_lc (le_range1 (le_cons (le_var) (le_nil))) (le_gSet) (le_yes) (le_op (leop_I cPos_ok) (le_op (leop_I0) (le_op (leop_I cMul_ok) (le_var) (le_var)) (le_var)) (le_var))))))))))))))⟩
abbrev s__law_vx_hat : Stmt := topS 61
abbrev N__law_vx_hat : List PySem.Str := ["script", "spot", "cell", "great", "seed"]
theorem sc__law_vx_hat : FnScope N__law_vx_hat ["script", "spot"] (defScope s__law_vx_hat) := ⟨rfl, rfl, rfl, by decide +kernel, rfl, by decide +kernel, by decide +kernel⟩
abbrev s__law_vx_up : Stmt := topS 62
abbrev N__law_vx_up : List PySem.Str := ["hat", "total", "one", "two", "found"]
theorem sc__law_vx_up : FnScope N__law_vx_up ["hat", "total"] (defScope s__law_vx_up) := ⟨rfl, rfl, rfl, by decide +kernel, rfl, by decide +kernel, by decide +kernel⟩
abbrev s__law_met : Stmt := topS 63
abbrev N__law_met : List PySem.Str := ["call", "error"]
theorem sc__law_met : FnScope N__law_met ["call"] (defScope s__law_met) := ⟨rfl, rfl, rfl, by decide +kernel, rfl, by decide +kernel, by decide +kernel⟩
def hl__law_met : Hds := [("InvalidNumber", ⟨none, "number ", some ("given", 1)⟩), ("InvalidMaps", ⟨none, "maps", none⟩), ("InvalidDraw", ⟨none, "draw", none⟩), ("TooMany", ⟨none, "many ", some ("most", 1)⟩)]
def fine__law_met : PyData := (⟨none, "fine", none⟩ : Hout).val "fine"
theorem met__law_met {g : Addr} (hx : exB K hl__law_met = true) (m_InvalidNumber : mg "InvalidNumber" = some (.ref (caK K "InvalidNumber"))) (x_InvalidNumber : XfC K (caK K "InvalidNumber")) (n_InvalidNumber : PySem.W.findIn K (.ref (caK K "InvalidNumber")) "given" = some none) (m_InvalidMaps : mg "InvalidMaps" = some (.ref (caK K "InvalidMaps"))) (m_InvalidDraw : mg "InvalidDraw" = some (.ref (caK K "InvalidDraw"))) (m_TooMany : mg "TooMany" = some (.ref (caK K "TooMany"))) (x_TooMany : XfC K (caK K "TooMany")) (n_TooMany : PySem.W.findIn K (.ref (caK K "TooMany")) "most" = some none) (z_repr : mg "repr" = none) (cdg : Value) : MetG P w K mg base N__law_met "_law_met" (defScope s__law_met) g cdg (defBody s__law_met) "call" hl__law_met fine__law_met :=
  met_mk (x := "_law_met") (wr := none) (fine := "fine") hx (fld_of (by decide +kernel)) (by decide) (fun A stack s H k hgd hr => .named (i := 1) ⟨by rfl, by decide, .inl m_InvalidNumber⟩ sc__law_met.nd rfl rfl (fun a oe cls d pn hz hf => su_fld (pe_fld (i := 1) x_InvalidNumber n_InvalidNumber hz hf (by rfl) z_repr (pv 1) hgd hr.units (by rfl) (by decide))) (.bare ⟨by rfl, by decide, .inl m_InvalidMaps⟩ (fun _ _ _ _ _ _ _ => su_word) (.bare ⟨by rfl, by decide, .inl m_InvalidDraw⟩ (fun _ _ _ _ _ _ _ => su_word) (.named (i := 1) ⟨by rfl, by decide, .inl m_TooMany⟩ sc__law_met.nd rfl rfl (fun a oe cls d pn hz hf => su_fld (pe_fld (i := 1) x_TooMany n_TooMany hz hf (by rfl) z_repr (pv 1) hgd hr.units (by rfl) (by decide))) (.nil))))) (fun _ _ _ _ => su_word)
abbrev s__law_wrong : Stmt := topS 64
abbrev N__law_wrong : List PySem.Str := ["turn", "numbers", "maps", "draws", "points", "some"]
theorem sc__law_wrong : FnScope N__law_wrong ["turn"] (defScope s__law_wrong) := ⟨rfl, rfl, rfl, by decide +kernel, rfl, by decide +kernel, by decide +kernel⟩
def fs__law_wrong : FS :=
  fSeq (fSet 1 (fL (fLst (fCons (fC .none) (fCons (fC (.int 0)) (fCons (fC (.int 17)) (fCons (fNeg (fC (.int 1))) (fCons (fC (.bool true)) (fCons (fC (.str (PySem.Str.ofString "2"))) (fCons (fTup (fCons (fC (.int 2)) (fNil))) (fCons (fOp (gI cPow fun i j => .int (i ^ j.toNat)) (fC (.int 10)) (fC (.int 60))) (fCons (fL (fLst (fNil))) (fCons (fC (.bool false)) (fNil))))))))))))))
    (fSeq (fSet 2 (fL (fLst (fCons (fC .none) (fCons (fTup (fNil)) (fCons (fTup (fCons (fTup (fCons (fC (.int 0)) (fNil))) (fNil))) (fCons (fTup (fCons (fTup (fCons (fC (.int 0)) (fCons (fC (.int 1)) (fCons (fC (.int 2)) (fNil))))) (fNil))) (fCons (fTup (fCons (fTup (fCons (fC (.int 0)) (fCons (fC (.int 1)) (fNil)))) (fCons (fTup (fCons (fC (.int 0)) (fCons (fC (.int 1)) (fCons (fC (.int 1)) (fNil))))) (fNil)))) (fCons (fTup (fCons (fTup (fCons (fC (.int 0)) (fCons (fC (.bool true)) (fNil)))) (fNil))) (fCons (fL (fLst (fCons (fTup (fCons (fC (.int 0)) (fCons (fC (.int 1)) (fNil)))) (fNil)))) (fCons (fTup (fCons (fTup (fCons (fC (.int 0)) (fCons (fNeg (fC (.int 1))) (fNil)))) (fNil))) (fNil))))))))))))
    (fSeq (fSet 2 (fL (fCatL (fVarQ 2) (fSeqE (fL (fLst (fCons (fTup (fCons (fC (.int 0)) (fCons (fC (.int 1)) (fNil)))) (fCons (fOp (gRepA) (fTup (fCons (fTup (fCons (fC (.int 0)) (fCons (fC (.int 1)) (fNil)))) (fNil))) (fC (.int 65))) (fCons (fTup (fCons (fOp (gRepA) (fTup (fCons (fC (.int 0)) (fNil))) (fC (.int 33))) (fNil))) (fCons (fC (.int 1)) (fNil)))))))))))
    (fSeq (fSet 3 (fL (fLst (fCons (fC .none) (fCons (fTup (fCons (fC (.int 2)) (fCons (fTup (fCons (fC (.int 1)) (fCons (fC (.int 1)) (fNil)))) (fNil)))) (fCons (fTup (fCons (fC (.int 1)) (fCons (fTup (fCons (fC (.int 0)) (fCons (fC (.int 0)) (fCons (fC (.int 0)) (fNil))))) (fNil)))) (fCons (fTup (fCons (fC (.int 2)) (fCons (fTup (fCons (fC (.int 1)) (fCons (fC (.int 1)) (fCons (fC (.int 1)) (fNil))))) (fNil)))) (fCons (fTup (fCons (fC (.int 1)) (fCons (fTup (fCons (fC (.int 2)) (fCons (fNeg (fC (.int 1))) (fCons (fC (.int 0)) (fNil))))) (fNil)))) (fCons (fTup (fCons (fC (.int 0)) (fCons (fTup (fCons (fC (.int 0)) (fCons (fC (.int 0)) (fCons (fC (.int 0)) (fNil))))) (fNil)))) (fNil))))))))))
    (fSeq (fSet 3 (fL (fCatL (fVarQ 3) (fSeqE (fL (fLst (fCons (fTup (fCons (fC (.int 1)) (fCons (fTup (fCons (fC (.bool true)) (fCons (fC (.int 0)) (fCons (fC (.int 0)) (fNil))))) (fNil)))) (fCons (fTup (fCons (fC (.int 1)) (fCons (fL (fLst (fCons (fC (.int 1)) (fCons (fC (.int 0)) (fCons (fC (.int 0)) (fNil)))))) (fNil)))) (fCons (fTup (fNil)) (fNil))))))))))
    (fSeq (fSet 4 (fL (fLst (fCons (fC .none) (fCons (fC (.int 3)) (fCons (fNeg (fC (.int 1))) (fCons (fC (.bool true)) (fCons (fC (.str (PySem.Str.ofString "0"))) (fCons (fTup (fCons (fC (.int 0)) (fNil))) (fCons (fOp (gI cPow fun i j => .int (i ^ j.toNat)) (fC (.int 10)) (fC (.int 60))) (fCons (fL (fLst (fCons (fC (.int 0)) (fNil)))) (fNil))))))))))))
    (fRet (fL (fLc (fItS (fTup (fCons (fVar 1) (fCons (fVar 2) (fCons (fVar 3) (fCons (fVar 4) (fNil))))))) (fgSet 5) (fYes) (fIx (fVarQ 5) (fOp (gI cPos fun i j => .int (i % j)) (fVar 0) (fOpQ gLen (fVarQ 5)))) [5]))))))))
def F__law_wrong : FF := mkF 1 N__law_wrong.length fs__law_wrong
theorem ok__law_wrong {f : Addr} {fd : FuncData} {k : Nat} (F : L2.Fun K "_law_wrong" "_law_wrong" s__law_wrong f fd)
    (z_len : mg "len" = none) : FnOk P w K mg base (L2.CX P w) (k + 1) f fd ["turn"] (spX K Ps fun E => ofF E F__law_wrong) :=
  okFX (N := N__law_wrong) (n := 1) (fs := fs__law_wrong) F sc__law_wrong rfl fun cdv A outer s H E Ed hr tk po => ⟨_, (have nd := sc__law_wrong.nd
    psd_cons (psd_set (i := 1) nd rfl (by first | exact Or.inl rfl | exact Or.inr rfl) (pd_new (pn_lst (pda_cons (pw_dat (pd_c pe_non (fun _ _ => .non))) (pda_cons (pw_dat (pd_c pe_int (fun _ _ => .int _))) (pda_cons (pw_dat (pd_c pe_int (fun _ _ => .int _))) (pda_cons (pw_dat (pd_neg (pd_c pe_int (fun _ _ => .int _)))) (pda_cons (pw_dat (pd_c pe_bl (fun _ _ => .bl _))) (pda_cons (pw_dat (pd_c pe_str (fun _ _ => .str _))) (pda_cons (pw_dat (pd_tup (pda_cons (pw_dat (pd_c pe_int (fun _ _ => .int _))) (pda_nil)))) (pda_cons (pw_dat (pd_op op_powB (op2_I fun _ _ _ _ => .int _) (pd_c pe_int (fun _ _ => .int _)) (pd_c pe_int (fun _ _ => .int _)))) (pda_cons (pw_dat (pd_new (pn_lst (pda_nil)))) (pda_cons (pw_dat (pd_c pe_bl (fun _ _ => .bl _))) (pda_nil))))))))))))))
    (psd_cons (psd_set (i := 2) nd rfl (by first | exact Or.inl rfl | exact Or.inr rfl) (pd_new (pn_lst (pda_cons (pw_dat (pd_c pe_non (fun _ _ => .non))) (pda_cons (pw_dat (pd_tup (pda_nil))) (pda_cons (pw_dat (pd_tup (pda_cons (pw_dat (pd_tup (pda_cons (pw_dat (pd_c pe_int (fun _ _ => .int _))) (pda_nil)))) (pda_nil)))) (pda_cons (pw_dat (pd_tup (pda_cons (pw_dat (pd_tup (pda_cons (pw_dat (pd_c pe_int (fun _ _ => .int _))) (pda_cons (pw_dat (pd_c pe_int (fun _ _ => .int _))) (pda_cons (pw_dat (pd_c pe_int (fun _ _ => .int _))) (pda_nil)))))) (pda_nil)))) (pda_cons (pw_dat (pd_tup (pda_cons (pw_dat (pd_tup (pda_cons (pw_dat (pd_c pe_int (fun _ _ => .int _))) (pda_cons (pw_dat (pd_c pe_int (fun _ _ => .int _))) (pda_nil))))) (pda_cons (pw_dat (pd_tup (pda_cons (pw_dat (pd_c pe_int (fun _ _ => .int _))) (pda_cons (pw_dat (pd_c pe_int (fun _ _ => .int _))) (pda_cons (pw_dat (pd_c pe_int (fun _ _ => .int _))) (pda_nil)))))) (pda_nil))))) (pda_cons (pw_dat (pd_tup (pda_cons (pw_dat (pd_tup (pda_cons (pw_dat (pd_c pe_int (fun _ _ => .int _))) (pda_cons (pw_dat (pd_c pe_bl (fun _ _ => .bl _))) (pda_nil))))) (pda_nil)))) (pda_cons (pw_dat (pd_new (pn_lst (pda_cons (pw_dat (pd_tup (pda_cons (pw_dat (pd_c pe_int (fun _ _ => .int _))) (pda_cons (pw_dat (pd_c pe_int (fun _ _ => .int _))) (pda_nil))))) (pda_nil))))) (pda_cons (pw_dat (pd_tup (pda_cons (pw_dat (pd_tup (pda_cons (pw_dat (pd_c pe_int (fun _ _ => .int _))) (pda_cons (pw_dat (pd_neg (pd_c pe_int (fun _ _ => .int _)))) (pda_nil))))) (pda_nil)))) (pda_nil))))))))))))
    (psd_cons (psd_set (i := 2) nd rfl (by first | exact Or.inl rfl | exact Or.inr rfl) (pd_new (pn_cat (pq_var (pv 2)) (pq_dat (pd_new (pn_lst (pda_cons (pw_dat (pd_tup (pda_cons (pw_dat (pd_c pe_int (fun _ _ => .int _))) (pda_cons (pw_dat (pd_c pe_int (fun _ _ => .int _))) (pda_nil))))) (pda_cons (pw_dat (pd_op op_repA (op2_repA) (pd_tup (pda_cons (pw_dat (pd_tup (pda_cons (pw_dat (pd_c pe_int (fun _ _ => .int _))) (pda_cons (pw_dat (pd_c pe_int (fun _ _ => .int _))) (pda_nil))))) (pda_nil))) (pd_c pe_int (fun _ _ => .int _)))) (pda_cons (pw_dat (pd_tup (pda_cons (pw_dat (pd_op op_repA (op2_repA) (pd_tup (pda_cons (pw_dat (pd_c pe_int (fun _ _ => .int _))) (pda_nil))) (pd_c pe_int (fun _ _ => .int _)))) (pda_nil)))) (pda_cons (pw_dat (pd_c pe_int (fun _ _ => .int _))) (pda_nil)))))))))))
    (psd_cons (psd_set (i := 3) nd rfl (by first | exact Or.inl rfl | exact Or.inr rfl) (pd_new (pn_lst (pda_cons (pw_dat (pd_c pe_non (fun _ _ => .non))) (pda_cons (pw_dat (pd_tup (pda_cons (pw_dat (pd_c pe_int (fun _ _ => .int _))) (pda_cons (pw_dat (pd_tup (pda_cons (pw_dat (pd_c pe_int (fun _ _ => .int _))) (pda_cons (pw_dat (pd_c pe_int (fun _ _ => .int _))) (pda_nil))))) (pda_nil))))) (pda_cons (pw_dat (pd_tup (pda_cons (pw_dat (pd_c pe_int (fun _ _ => .int _))) (pda_cons (pw_dat (pd_tup (pda_cons (pw_dat (pd_c pe_int (fun _ _ => .int _))) (pda_cons (pw_dat (pd_c pe_int (fun _ _ => .int _))) (pda_cons (pw_dat (pd_c pe_int (fun _ _ => .int _))) (pda_nil)))))) (pda_nil))))) (pda_cons (pw_dat (pd_tup (pda_cons (pw_dat (pd_c pe_int (fun _ _ => .int _))) (pda_cons (pw_dat (pd_tup (pda_cons (pw_dat (pd_c pe_int (fun _ _ => .int _))) (pda_cons (pw_dat (pd_c pe_int (fun _ _ => .int _))) (pda_cons (pw_dat (pd_c pe_int (fun _ _ => .int _))) (pda_nil)))))) (pda_nil))))) (pda_cons (pw_dat (pd_tup (pda_cons (pw_dat (pd_c pe_int (fun _ _ => .int _))) (pda_cons (pw_dat (pd_tup (pda_cons (pw_dat (pd_c pe_int (fun _ _ => .int _))) (pda_cons (pw_dat (pd_neg (pd_c pe_int (fun _ _ => .int _)))) (pda_cons (pw_dat (pd_c pe_int (fun _ _ => .int _))) (pda_nil)))))) (pda_nil))))) (pda_cons (pw_dat (pd_tup (pda_cons (pw_dat (pd_c pe_int (fun _ _ => .int _))) (pda_cons (pw_dat (pd_tup (pda_cons (pw_dat (pd_c pe_int (fun _ _ => .int _))) (pda_cons (pw_dat (pd_c pe_int (fun _ _ => .int _))) (pda_cons (pw_dat (pd_c pe_int (fun _ _ => .int _))) (pda_nil)))))) (pda_nil))))) (pda_nil))))))))))
    (psd_cons (psd_set (i := 3) nd rfl (by first | exact Or.inl rfl | exact Or.inr rfl) (pd_new (pn_cat (pq_var (pv 3)) (pq_dat (pd_new (pn_lst (pda_cons (pw_dat (pd_tup (pda_cons (pw_dat (pd_c pe_int (fun _ _ => .int _))) (pda_cons (pw_dat (pd_tup (pda_cons (pw_dat (pd_c pe_bl (fun _ _ => .bl _))) (pda_cons (pw_dat (pd_c pe_int (fun _ _ => .int _))) (pda_cons (pw_dat (pd_c pe_int (fun _ _ => .int _))) (pda_nil)))))) (pda_nil))))) (pda_cons (pw_dat (pd_tup (pda_cons (pw_dat (pd_c pe_int (fun _ _ => .int _))) (pda_cons (pw_dat (pd_new (pn_lst (pda_cons (pw_dat (pd_c pe_int (fun _ _ => .int _))) (pda_cons (pw_dat (pd_c pe_int (fun _ _ => .int _))) (pda_cons (pw_dat (pd_c pe_int (fun _ _ => .int _))) (pda_nil))))))) (pda_nil))))) (pda_cons (pw_dat (pd_tup (pda_nil))) (pda_nil))))))))))
    (psd_cons (psd_set (i := 4) nd rfl (by first | exact Or.inl rfl | exact Or.inr rfl) (pd_new (pn_lst (pda_cons (pw_dat (pd_c pe_non (fun _ _ => .non))) (pda_cons (pw_dat (pd_c pe_int (fun _ _ => .int _))) (pda_cons (pw_dat (pd_neg (pd_c pe_int (fun _ _ => .int _)))) (pda_cons (pw_dat (pd_c pe_bl (fun _ _ => .bl _))) (pda_cons (pw_dat (pd_c pe_str (fun _ _ => .str _))) (pda_cons (pw_dat (pd_tup (pda_cons (pw_dat (pd_c pe_int (fun _ _ => .int _))) (pda_nil)))) (pda_cons (pw_dat (pd_op op_powB (op2_I fun _ _ _ _ => .int _) (pd_c pe_int (fun _ _ => .int _)) (pd_c pe_int (fun _ _ => .int _)))) (pda_cons (pw_dat (pd_new (pn_lst (pda_cons (pw_dat (pd_c pe_int (fun _ _ => .int _))) (pda_nil))))) (pda_nil))))))))))))
    (psd_one (psd_ret (pd_new (pn_lc (own := [("some", 5)]) rfl nd (pid_seq (pd_tup (pda_cons (pw_dat (pd_var (pv 1))) (pda_cons (pw_dat (pd_var (pv 2))) (pda_cons (pw_dat (pd_var (pv 3))) (pda_cons (pw_dat (pd_var (pv 4))) (pda_nil))))))) (blkOk_by (N := N__law_wrong) (sc := defScope s__law_wrong) (by decide +kernel)) (fun _ _ _ _ _ => pgd_name (pg_name (i := 5) nd rfl (by first | exact Or.inl rfl | exact Or.inr rfl))) (fun _ _ _ _ _ => ptsd_nil) (fun _ _ _ _ _ => pd_ix (pq_var (pv 5)) (pd_op op_mod (op2_I fun _ _ _ _ => .int _) (pd_var (pv 0)) (pd_len (by rfl) z_len (pq_var (pv 5)))) (fun _ _ => rfl)))))))))))),
    (les_seq (les_set (le_L (le_lst (le_cons (le_c) (le_cons (le_c) (le_cons (le_c) (le_cons (le_neg (le_c)) (le_cons (le_c) (le_cons (le_c) (le_cons (le_tup (le_cons (le_c) (le_nil))) (le_cons (le_op (leop_I cPow_ok) (le_c) (le_c)) (le_cons (le_L (le_lst (le_nil))) (le_cons (le_c) (le_nil))))))))))))))
    (les_seq (les_set (le_L (le_lst (le_cons (le_c) (le_cons (le_tup (le_nil)) (le_cons (le_tup (le_cons (le_tup (le_cons (le_c) (le_nil))) (le_nil))) (le_cons (le_tup (le_cons (le_tup (le_cons (le_c) (le_cons (le_c) (le_cons (le_c) (le_nil))))) (le_nil))) (le_cons (le_tup (le_cons (le_tup (le_cons (le_c) (le_cons (le_c) (le_nil)))) (le_cons (le_tup (le_cons (le_c) (le_cons (le_c) (le_cons (le_c) (le_nil))))) (le_nil)))) (le_cons (le_tup (le_cons (le_tup (le_cons (le_c) (le_cons (le_c) (le_nil)))) (le_nil))) (le_cons (le_L (le_lst (le_cons (le_tup (le_cons (le_c) (le_cons (le_c) (le_nil)))) (le_nil)))) (le_cons (le_tup (le_cons (le_tup (le_cons (le_c) (le_cons (le_neg (le_c)) (le_nil)))) (le_nil))) (le_nil))))))))))))
    (les_seq (les_set (le_L (le_catL (le_varQ) (le_seqE (le_L (le_lst (le_cons (le_tup (le_cons (le_c) (le_cons (le_c) (le_nil)))) (le_cons (le_op (leop_repA) (le_tup (le_cons (le_tup (le_cons (le_c) (le_cons (le_c) (le_nil)))) (le_nil))) (le_c)) (le_cons (le_tup (le_cons (le_op (leop_repA) (le_tup (le_cons (le_c) (le_nil))) (le_c)) (le_nil))) (le_cons (le_c) (le_nil)))))))))))
    (les_seq (les_set (le_L (le_lst (le_cons (le_c) (le_cons (le_tup (le_cons (le_c) (le_cons (le_tup (le_cons (le_c) (le_cons (le_c) (le_nil)))) (le_nil)))) (le_cons (le_tup (le_cons (le_c) (le_cons (le_tup (le_cons (le_c) (le_cons (le_c) (le_cons (le_c) (le_nil))))) (le_nil)))) (le_cons (le_tup (le_cons (le_c) (le_cons (le_tup (le_cons (le_c) (le_cons (le_c) (le_cons (le_c) (le_nil))))) (le_nil)))) (le_cons (le_tup (le_cons (le_c) (le_cons (le_tup (le_cons (le_c) (le_cons (le_neg (le_c)) (le_cons (le_c) (le_nil))))) (le_nil)))) (le_cons (le_tup (le_cons (le_c) (le_cons (le_tup (le_cons (le_c) (le_cons (le_c) (le_cons (le_c) (le_nil))))) (le_nil)))) (le_nil))))))))))
    (les_seq (les_set (le_L (le_catL (le_varQ) (le_seqE (le_L (le_lst (le_cons (le_tup (le_cons (le_c) (le_cons (le_tup (le_cons (le_c) (le_cons (le_c) (le_cons (le_c) (le_nil))))) (le_nil)))) (le_cons (le_tup (le_cons (le_c) (le_cons (le_L (le_lst (le_cons (le_c) (le_cons (le_c) (le_cons (le_c) (le_nil)))))) (le_nil)))) (le_cons (le_tup (le_nil)) (le_nil))))))))))
    (les_seq (les_set (le_L (le_lst (le_cons (le_c) (le_cons (le_c) (le_cons (le_neg (le_c)) (le_cons (le_c) (le_cons (le_c) (le_cons (le_tup (le_cons (le_c) (le_nil))) (le_cons (le_op (leop_I cPow_ok) (le_c) (le_c)) (le_cons (le_L (le_lst (le_cons (le_c) (le_nil)))) (le_nil))))))))))))
    (les_ret (le_L (le_lc (le_itS (le_tup (le_cons (le_var) (le_cons (le_var) (le_cons (le_var) (le_cons (le_var) (le_nil))))))) (le_gSet) (le_yes) (le_ix (le_varQ) (le_op (leop_I cPos_ok) (le_var) (le_opQ leq_len (le_varQ)))))))))))))⟩
abbrev s__law_meetings_right : Stmt := topS 65
abbrev N__law_meetings_right : List PySem.Str := ["turn", "told", "due", "maps", "no", "off", "M", "bad", "p", "one"]
theorem sc__law_meetings_right : FnScope N__law_meetings_right ["turn"] (defScope s__law_meetings_right) := ⟨rfl, rfl, rfl, by decide +kernel, rfl, by decide +kernel, by decide +kernel⟩
def fs__law_meetings_right : FS :=
  fSeq (fAsgG (fgSeq 2 (fgsCons (fgSet 3) (fgsCons (fgSeq 4 (fgsCons (fgSet 6) (fgsCons (fgSet 7) (fgsCons (fgSet 8) (fgsCons (fgSet 9) (fgsNil)))))) (fgsNil)))) (fTup (fCons (fTup (fCons (fTup (fCons (fC (.int 0)) (fCons (fC (.int 1)) (fCons (fC (.int 1)) (fNil))))) (fCons (fTup (fCons (fC (.int 1)) (fCons (fC (.int 1)) (fCons (fC (.int 0)) (fNil))))) (fNil)))) (fCons (fCall0 F__law_wrong (fCons (fVar 0) (fNil))) (fNil)))))
    (fSeq (fSetO 1 (fLst (fCons (fMet hl__law_met fine__law_met (fCall F_chance_of_meeting (fCons (fVar 6) (fCons (fVar 7) (fCons (fVar 9) (fCons (fVar 9) (fNil))))))) (fNil))))
    (fSeq (fApp 1 (fMet hl__law_met fine__law_met (fCall F_chance_of_meeting (fCons (fC (.int 2)) (fCons (fVar 7) (fCons (fVar 9) (fCons (fVar 9) (fNil))))))))
    (fSeq (fApp 1 (fMet hl__law_met fine__law_met (fCall F_chance_of_meeting (fCons (fC (.int 2)) (fCons (fVar 3) (fCons (fVar 9) (fCons (fC .none) (fNil))))))))
    (fSeq (fApp 1 (fMet hl__law_met fine__law_met (fCall F_chance_of_meeting (fCons (fC (.int 2)) (fCons (fVar 3) (fCons (fC (.int 2)) (fCons (fVar 9) (fNil))))))))
    (fSeq (fApp 1 (fMet hl__law_met fine__law_met (fCall F_chance_of_meeting (fCons (fC (.int 2)) (fCons (fVar 3) (fCons (fC (.int 2)) (fCons (fC (.int 2)) (fNil))))))))
    (fSeq (fApp 1 (fMet hl__law_met fine__law_met (fCall F_chance_of_meeting (fCons (fC (.int 1)) (fCons (fVar 3) (fCons (fC (.int 0)) (fCons (fC (.int 0)) (fNil))))))))
    (fSeq (fApp 1 (fMet hl__law_met fine__law_met (fCall F_mean_meeting (fCons (fVar 6) (fCons (fVar 3) (fNil))))))
    (fSeq (fApp 1 (fMet hl__law_met fine__law_met (fCall F_mean_meeting (fCons (fC (.int 2)) (fCons (fVar 7) (fNil))))))
    (fSeq (fApp 1 (fMet hl__law_met fine__law_met (fCall F_meets_answer (fCons (fVar 6) (fCons (fVar 7) (fNil))))))
    (fSeq (fApp 1 (fMet hl__law_met fine__law_met (fCall F_meets_answer (fCons (fC (.int 2)) (fCons (fVar 7) (fNil))))))
    (fSeq (fApp 1 (fMet hl__law_met fine__law_met (fCall F_is_meets_answer (fCons (fVar 6) (fCons (fVar 3) (fCons (fC .none) (fNil)))))))
    (fSeq (fApp 1 (fMet hl__law_met fine__law_met (fCall F_is_meets_answer (fCons (fC (.int 2)) (fCons (fVar 7) (fCons (fC .none) (fNil)))))))
    (fSeq (fApp 1 (fMet hl__law_met fine__law_met (fCall F_is_meets_answer (fCons (fC (.int 2)) (fCons (fVar 3) (fCons (fVar 8) (fNil)))))))
    (fSeq (fApp 1 (fMet hl__law_met fine__law_met (fCall F_are_even (fCons (fVar 6) (fCons (fVar 3) (fNil))))))
    (fSeq (fApp 1 (fMet hl__law_met fine__law_met (fCall F_are_even (fCons (fC (.int 2)) (fCons (fVar 7) (fNil))))))
    (fSeq (fPar 4 5 (fCons (fOp (gCatS) (fC (.str (PySem.Str.ofString "number "))) (fOpN gRepr (fCons (fVar 6) (fNil)))) (fCons (fOp (gCatS) (fC (.str (PySem.Str.ofString "number "))) (fOpN gRepr (fCons (fVar 9) (fNil)))) (fNil))))
    (fSeq (fSet 2 (fL (fLst (fCons (fVar 4) (fCons (fC (.str (PySem.Str.ofString "maps"))) (fCons (fVar 5) (fCons (fVar 5) (fCons (fC (.str (PySem.Str.ofString "fine"))) (fCons (fC (.str (PySem.Str.ofString "maps"))) (fCons (fVar 4) (fCons (fC (.str (PySem.Str.ofString "maps"))) (fCons (fVar 4) (fCons (fC (.str (PySem.Str.ofString "maps"))) (fCons (fVar 4) (fCons (fC (.str (PySem.Str.ofString "maps"))) (fCons (fC (.str (PySem.Str.ofString "fine"))) (fCons (fVar 4) (fCons (fC (.str (PySem.Str.ofString "maps"))) (fNil)))))))))))))))))))
    (fFrz 1 (fRet (fOp (gEq false) (fVar 1) (fVar 2)))))))))))))))))))))
def F__law_meetings_right : FF := mkF 1 N__law_meetings_right.length fs__law_meetings_right
theorem ok__law_meetings_right {f cc PP : Addr} {fd : FuncData} {k : Nat} (F : FunC K "_law_meetings_right" "_law_meetings_right" s__law_meetings_right cc f fd)
    (z_repr : mg "repr" = none)
    (h2 : 2 ≤ k) (TBL : LamX.TabB base mg cc PP) (hPP : (PP, some (("_law_meetings_right" : Str) ++ ".<locals>." ++ "<lambda>")) ∈ Ps)
    {f__law_met : Addr} {d__law_met : FuncData} (W__law_met : L2.Fun K "_law_met" "_law_met" s__law_met f__law_met d__law_met) (g__law_met : mg "_law_met" = some (.ref f__law_met)) (b__law_met : Binds K d__law_met ["call"] []) (MG__law_met : ∀ cdg : Value, MetG P w K mg base N__law_met "_law_met" (defScope s__law_met) f__law_met cdg (defBody s__law_met) "call" hl__law_met fine__law_met)
    {f__law_wrong : Addr} {d__law_wrong : FuncData} {l__law_wrong : Nat} (h__law_wrong : l__law_wrong + 2 ≤ k) (G__law_wrong : FnOk P w K mg base (L2.CX P w) l__law_wrong f__law_wrong d__law_wrong ["turn"] (spX K Ps fun E => ofF E F__law_wrong)) (g__law_wrong : mg "_law_wrong" = some (.ref f__law_wrong)) (k__law_wrong : PySem.W.keepIn K (.ref f__law_wrong) = true) (b__law_wrong : Binds K d__law_wrong ["turn"] [])
    {f_chance_of_meeting : Addr} {d_chance_of_meeting : FuncData} {l_chance_of_meeting : Nat} (h_chance_of_meeting : l_chance_of_meeting + 2 ≤ k) (G_chance_of_meeting : FnOk P w K mg base (L2.CX P w) l_chance_of_meeting f_chance_of_meeting d_chance_of_meeting ["M", "maps", "one", "other"] (spX K Ps fun E => ofF E F_chance_of_meeting)) (g_chance_of_meeting : mg "chance_of_meeting" = some (.ref f_chance_of_meeting)) (k_chance_of_meeting : PySem.W.keepIn K (.ref f_chance_of_meeting) = true) (b_chance_of_meeting : Binds K d_chance_of_meeting ["M", "maps", "one", "other"] [])
    {f_mean_meeting : Addr} {d_mean_meeting : FuncData} {l_mean_meeting : Nat} (h_mean_meeting : l_mean_meeting + 2 ≤ k) (G_mean_meeting : FnOk P w K mg base (L2.CX P w) l_mean_meeting f_mean_meeting d_mean_meeting ["M", "maps"] (spX K Ps fun E => ofF E F_mean_meeting)) (g_mean_meeting : mg "mean_meeting" = some (.ref f_mean_meeting)) (k_mean_meeting : PySem.W.keepIn K (.ref f_mean_meeting) = true) (b_mean_meeting : Binds K d_mean_meeting ["M", "maps"] [])
    {f_meets_answer : Addr} {d_meets_answer : FuncData} {l_meets_answer : Nat} (h_meets_answer : l_meets_answer + 2 ≤ k) (G_meets_answer : FnOk P w K mg base (L2.CX P w) l_meets_answer f_meets_answer d_meets_answer ["M", "maps"] (spX K Ps fun E => ofF E F_meets_answer)) (g_meets_answer : mg "meets_answer" = some (.ref f_meets_answer)) (k_meets_answer : PySem.W.keepIn K (.ref f_meets_answer) = true) (b_meets_answer : Binds K d_meets_answer ["M", "maps"] [])
    {f_is_meets_answer : Addr} {d_is_meets_answer : FuncData} {l_is_meets_answer : Nat} (h_is_meets_answer : l_is_meets_answer + 2 ≤ k) (G_is_meets_answer : FnOk P w K mg base (L2.CX P w) l_is_meets_answer f_is_meets_answer d_is_meets_answer ["M", "maps", "value"] (spX K Ps fun E => ofF E F_is_meets_answer)) (g_is_meets_answer : mg "is_meets_answer" = some (.ref f_is_meets_answer)) (k_is_meets_answer : PySem.W.keepIn K (.ref f_is_meets_answer) = true) (b_is_meets_answer : Binds K d_is_meets_answer ["M", "maps", "value"] [])
    {f_are_even : Addr} {d_are_even : FuncData} {l_are_even : Nat} (h_are_even : l_are_even + 2 ≤ k) (G_are_even : FnOk P w K mg base (L2.CX P w) l_are_even f_are_even d_are_even ["M", "maps"] (spX K Ps fun E => ofF E F_are_even)) (g_are_even : mg "are_even" = some (.ref f_are_even)) (k_are_even : PySem.W.keepIn K (.ref f_are_even) = true) (b_are_even : Binds K d_are_even ["M", "maps"] []) : FnG P w K mg base CX0 (k + 1) f fd ["turn"] (spOf K Ps (ofF Dl.E0 F__law_meetings_right)) :=
  okFG (N := N__law_meetings_right) (n := 1) (fs := fs__law_meetings_right) F sc__law_meetings_right rfl fun A outer s H E hgd hr => ⟨_, (have nd := sc__law_meetings_right.nd
    psd_cons (psd_asgG (pd_tup (pda_cons (pw_dat (pd_tup (pda_cons (pw_dat (pd_tup (pda_cons (pw_dat (pd_c pe_int (fun _ _ => .int _))) (pda_cons (pw_dat (pd_c pe_int (fun _ _ => .int _))) (pda_cons (pw_dat (pd_c pe_int (fun _ _ => .int _))) (pda_nil)))))) (pda_cons (pw_dat (pd_tup (pda_cons (pw_dat (pd_c pe_int (fun _ _ => .int _))) (pda_cons (pw_dat (pd_c pe_int (fun _ _ => .int _))) (pda_cons (pw_dat (pd_c pe_int (fun _ _ => .int _))) (pda_nil)))))) (pda_nil))))) (pda_cons (pw_dat (pd_call (fnX0 G__law_wrong) (hr.mono (by omega)) (by rfl) g__law_wrong k__law_wrong b__law_wrong (pda_cons (pw_dat (pd_var (pv 0))) (pda_nil)))) (pda_nil)))) (pgd_seq rfl (pgsd_cons (pgd_name (pg_name (i := 3) nd rfl (by first | exact Or.inl rfl | exact Or.inr rfl))) (pgsd_cons (pgd_seq rfl (pgsd_cons (pgd_name (pg_name (i := 6) nd rfl (by first | exact Or.inl rfl | exact Or.inr rfl))) (pgsd_cons (pgd_name (pg_name (i := 7) nd rfl (by first | exact Or.inl rfl | exact Or.inr rfl))) (pgsd_cons (pgd_name (pg_name (i := 8) nd rfl (by first | exact Or.inl rfl | exact Or.inr rfl))) (pgsd_cons (pgd_name (pg_name (i := 9) nd rfl (by first | exact Or.inl rfl | exact Or.inr rfl))) (pgsd_nil)))))) (pgsd_nil)))))
    (psd_cons (psd_setO (i := 1) nd rfl (by first | exact Or.inl rfl | exact Or.inr rfl) (pn_lst (pda_cons (pw_dat (pd_met2 (k := k - 2) (de := fun Ed => dCall (ofF Ed F_chance_of_meeting) (dCons (dD (dVar 6)) (dCons (dD (dVar 7)) (dCons (dD (dVar 9)) (dCons (dD (dVar 9)) (dNil)))))) (hr.mono (by omega)) hgd (by rfl) g__law_met W__law_met b__law_met sc__law_met rfl (.inl rfl) MG__law_met TBL rfl qual_cx hPP (sc := defScope s__law_meetings_right) rfl (by decide +kernel) (by rfl) (by intros; rfl) (fun _ _ _ _ _ Ed _ _ hr tk => by exact pd_callX (SD := fun E => ofF E F_chance_of_meeting) G_chance_of_meeting tk (hr.mono (by omega)) (by rfl) g_chance_of_meeting k_chance_of_meeting b_chance_of_meeting (pda_cons (pw_dat (pd_var (pv 6))) (pda_cons (pw_dat (pd_var (pv 7))) (pda_cons (pw_dat (pd_var (pv 9))) (pda_cons (pw_dat (pd_var (pv 9))) (pda_nil)))))))) (pda_nil))))
    (psd_cons (psd_app (pv 1) (pd_met2 (k := k - 2) (de := fun Ed => dCall (ofF Ed F_chance_of_meeting) (dCons (dD (dC (.int 2))) (dCons (dD (dVar 7)) (dCons (dD (dVar 9)) (dCons (dD (dVar 9)) (dNil)))))) (hr.mono (by omega)) hgd (by rfl) g__law_met W__law_met b__law_met sc__law_met rfl (.inl rfl) MG__law_met TBL rfl qual_cx hPP (sc := defScope s__law_meetings_right) rfl (by decide +kernel) (by rfl) (by intros; rfl) (fun _ _ _ _ _ Ed _ _ hr tk => by exact pd_callX (SD := fun E => ofF E F_chance_of_meeting) G_chance_of_meeting tk (hr.mono (by omega)) (by rfl) g_chance_of_meeting k_chance_of_meeting b_chance_of_meeting (pda_cons (pw_dat (pd_c pe_int (fun _ _ => .int _))) (pda_cons (pw_dat (pd_var (pv 7))) (pda_cons (pw_dat (pd_var (pv 9))) (pda_cons (pw_dat (pd_var (pv 9))) (pda_nil))))))))
    (psd_cons (psd_app (pv 1) (pd_met2 (k := k - 2) (de := fun Ed => dCall (ofF Ed F_chance_of_meeting) (dCons (dD (dC (.int 2))) (dCons (dD (dVar 3)) (dCons (dD (dVar 9)) (dCons (dD (dC .none)) (dNil)))))) (hr.mono (by omega)) hgd (by rfl) g__law_met W__law_met b__law_met sc__law_met rfl (.inl rfl) MG__law_met TBL rfl qual_cx hPP (sc := defScope s__law_meetings_right) rfl (by decide +kernel) (by rfl) (by intros; rfl) (fun _ _ _ _ _ Ed _ _ hr tk => by exact pd_callX (SD := fun E => ofF E F_chance_of_meeting) G_chance_of_meeting tk (hr.mono (by omega)) (by rfl) g_chance_of_meeting k_chance_of_meeting b_chance_of_meeting (pda_cons (pw_dat (pd_c pe_int (fun _ _ => .int _))) (pda_cons (pw_dat (pd_var (pv 3))) (pda_cons (pw_dat (pd_var (pv 9))) (pda_cons (pw_dat (pd_c pe_non (fun _ _ => .non))) (pda_nil))))))))
    (psd_cons (psd_app (pv 1) (pd_met2 (k := k - 2) (de := fun Ed => dCall (ofF Ed F_chance_of_meeting) (dCons (dD (dC (.int 2))) (dCons (dD (dVar 3)) (dCons (dD (dC (.int 2))) (dCons (dD (dVar 9)) (dNil)))))) (hr.mono (by omega)) hgd (by rfl) g__law_met W__law_met b__law_met sc__law_met rfl (.inl rfl) MG__law_met TBL rfl qual_cx hPP (sc := defScope s__law_meetings_right) rfl (by decide +kernel) (by rfl) (by intros; rfl) (fun _ _ _ _ _ Ed _ _ hr tk => by exact pd_callX (SD := fun E => ofF E F_chance_of_meeting) G_chance_of_meeting tk (hr.mono (by omega)) (by rfl) g_chance_of_meeting k_chance_of_meeting b_chance_of_meeting (pda_cons (pw_dat (pd_c pe_int (fun _ _ => .int _))) (pda_cons (pw_dat (pd_var (pv 3))) (pda_cons (pw_dat (pd_c pe_int (fun _ _ => .int _))) (pda_cons (pw_dat (pd_var (pv 9))) (pda_nil))))))))
    (psd_cons (psd_app (pv 1) (pd_met2 (k := k - 2) (de := fun Ed => dCall (ofF Ed F_chance_of_meeting) (dCons (dD (dC (.int 2))) (dCons (dD (dVar 3)) (dCons (dD (dC (.int 2))) (dCons (dD (dC (.int 2))) (dNil)))))) (hr.mono (by omega)) hgd (by rfl) g__law_met W__law_met b__law_met sc__law_met rfl (.inl rfl) MG__law_met TBL rfl qual_cx hPP (sc := defScope s__law_meetings_right) rfl (by decide +kernel) (by rfl) (by intros; rfl) (fun _ _ _ _ _ Ed _ _ hr tk => by exact pd_callX (SD := fun E => ofF E F_chance_of_meeting) G_chance_of_meeting tk (hr.mono (by omega)) (by rfl) g_chance_of_meeting k_chance_of_meeting b_chance_of_meeting (pda_cons (pw_dat (pd_c pe_int (fun _ _ => .int _))) (pda_cons (pw_dat (pd_var (pv 3))) (pda_cons (pw_dat (pd_c pe_int (fun _ _ => .int _))) (pda_cons (pw_dat (pd_c pe_int (fun _ _ => .int _))) (pda_nil))))))))
    (psd_cons (psd_app (pv 1) (pd_met2 (k := k - 2) (de := fun Ed => dCall (ofF Ed F_chance_of_meeting) (dCons (dD (dC (.int 1))) (dCons (dD (dVar 3)) (dCons (dD (dC (.int 0))) (dCons (dD (dC (.int 0))) (dNil)))))) (hr.mono (by omega)) hgd (by rfl) g__law_met W__law_met b__law_met sc__law_met rfl (.inl rfl) MG__law_met TBL rfl qual_cx hPP (sc := defScope s__law_meetings_right) rfl (by decide +kernel) (by rfl) (by intros; rfl) (fun _ _ _ _ _ Ed _ _ hr tk => by exact pd_callX (SD := fun E => ofF E F_chance_of_meeting) G_chance_of_meeting tk (hr.mono (by omega)) (by rfl) g_chance_of_meeting k_chance_of_meeting b_chance_of_meeting (pda_cons (pw_dat (pd_c pe_int (fun _ _ => .int _))) (pda_cons (pw_dat (pd_var (pv 3))) (pda_cons (pw_dat (pd_c pe_int (fun _ _ => .int _))) (pda_cons (pw_dat (pd_c pe_int (fun _ _ => .int _))) (pda_nil))))))))
    (psd_cons (psd_app (pv 1) (pd_met2 (k := k - 2) (de := fun Ed => dCall (ofF Ed F_mean_meeting) (dCons (dD (dVar 6)) (dCons (dD (dVar 3)) (dNil)))) (hr.mono (by omega)) hgd (by rfl) g__law_met W__law_met b__law_met sc__law_met rfl (.inl rfl) MG__law_met TBL rfl qual_cx hPP (sc := defScope s__law_meetings_right) rfl (by decide +kernel) (by rfl) (by intros; rfl) (fun _ _ _ _ _ Ed _ _ hr tk => by exact pd_callX (SD := fun E => ofF E F_mean_meeting) G_mean_meeting tk (hr.mono (by omega)) (by rfl) g_mean_meeting k_mean_meeting b_mean_meeting (pda_cons (pw_dat (pd_var (pv 6))) (pda_cons (pw_dat (pd_var (pv 3))) (pda_nil))))))
    (psd_cons (psd_app (pv 1) (pd_met2 (k := k - 2) (de := fun Ed => dCall (ofF Ed F_mean_meeting) (dCons (dD (dC (.int 2))) (dCons (dD (dVar 7)) (dNil)))) (hr.mono (by omega)) hgd (by rfl) g__law_met W__law_met b__law_met sc__law_met rfl (.inl rfl) MG__law_met TBL rfl qual_cx hPP (sc := defScope s__law_meetings_right) rfl (by decide +kernel) (by rfl) (by intros; rfl) (fun _ _ _ _ _ Ed _ _ hr tk => by exact pd_callX (SD := fun E => ofF E F_mean_meeting) G_mean_meeting tk (hr.mono (by omega)) (by rfl) g_mean_meeting k_mean_meeting b_mean_meeting (pda_cons (pw_dat (pd_c pe_int (fun _ _ => .int _))) (pda_cons (pw_dat (pd_var (pv 7))) (pda_nil))))))
    (psd_cons (psd_app (pv 1) (pd_met2 (k := k - 2) (de := fun Ed => dCall (ofF Ed F_meets_answer) (dCons (dD (dVar 6)) (dCons (dD (dVar 7)) (dNil)))) (hr.mono (by omega)) hgd (by rfl) g__law_met W__law_met b__law_met sc__law_met rfl (.inl rfl) MG__law_met TBL rfl qual_cx hPP (sc := defScope s__law_meetings_right) rfl (by decide +kernel) (by rfl) (by intros; rfl) (fun _ _ _ _ _ Ed _ _ hr tk => by exact pd_callX (SD := fun E => ofF E F_meets_answer) G_meets_answer tk (hr.mono (by omega)) (by rfl) g_meets_answer k_meets_answer b_meets_answer (pda_cons (pw_dat (pd_var (pv 6))) (pda_cons (pw_dat (pd_var (pv 7))) (pda_nil))))))
    (psd_cons (psd_app (pv 1) (pd_met2 (k := k - 2) (de := fun Ed => dCall (ofF Ed F_meets_answer) (dCons (dD (dC (.int 2))) (dCons (dD (dVar 7)) (dNil)))) (hr.mono (by omega)) hgd (by rfl) g__law_met W__law_met b__law_met sc__law_met rfl (.inl rfl) MG__law_met TBL rfl qual_cx hPP (sc := defScope s__law_meetings_right) rfl (by decide +kernel) (by rfl) (by intros; rfl) (fun _ _ _ _ _ Ed _ _ hr tk => by exact pd_callX (SD := fun E => ofF E F_meets_answer) G_meets_answer tk (hr.mono (by omega)) (by rfl) g_meets_answer k_meets_answer b_meets_answer (pda_cons (pw_dat (pd_c pe_int (fun _ _ => .int _))) (pda_cons (pw_dat (pd_var (pv 7))) (pda_nil))))))
    (psd_cons (psd_app (pv 1) (pd_met2 (k := k - 2) (de := fun Ed => dCall (ofF Ed F_is_meets_answer) (dCons (dD (dVar 6)) (dCons (dD (dVar 3)) (dCons (dD (dC .none)) (dNil))))) (hr.mono (by omega)) hgd (by rfl) g__law_met W__law_met b__law_met sc__law_met rfl (.inl rfl) MG__law_met TBL rfl qual_cx hPP (sc := defScope s__law_meetings_right) rfl (by decide +kernel) (by rfl) (by intros; rfl) (fun _ _ _ _ _ Ed _ _ hr tk => by exact pd_callX (SD := fun E => ofF E F_is_meets_answer) G_is_meets_answer tk (hr.mono (by omega)) (by rfl) g_is_meets_answer k_is_meets_answer b_is_meets_answer (pda_cons (pw_dat (pd_var (pv 6))) (pda_cons (pw_dat (pd_var (pv 3))) (pda_cons (pw_dat (pd_c pe_non (fun _ _ => .non))) (pda_nil)))))))
    (psd_cons (psd_app (pv 1) (pd_met2 (k := k - 2) (de := fun Ed => dCall (ofF Ed F_is_meets_answer) (dCons (dD (dC (.int 2))) (dCons (dD (dVar 7)) (dCons (dD (dC .none)) (dNil))))) (hr.mono (by omega)) hgd (by rfl) g__law_met W__law_met b__law_met sc__law_met rfl (.inl rfl) MG__law_met TBL rfl qual_cx hPP (sc := defScope s__law_meetings_right) rfl (by decide +kernel) (by rfl) (by intros; rfl) (fun _ _ _ _ _ Ed _ _ hr tk => by exact pd_callX (SD := fun E => ofF E F_is_meets_answer) G_is_meets_answer tk (hr.mono (by omega)) (by rfl) g_is_meets_answer k_is_meets_answer b_is_meets_answer (pda_cons (pw_dat (pd_c pe_int (fun _ _ => .int _))) (pda_cons (pw_dat (pd_var (pv 7))) (pda_cons (pw_dat (pd_c pe_non (fun _ _ => .non))) (pda_nil)))))))
    (psd_cons (psd_app (pv 1) (pd_met2 (k := k - 2) (de := fun Ed => dCall (ofF Ed F_is_meets_answer) (dCons (dD (dC (.int 2))) (dCons (dD (dVar 3)) (dCons (dD (dVar 8)) (dNil))))) (hr.mono (by omega)) hgd (by rfl) g__law_met W__law_met b__law_met sc__law_met rfl (.inl rfl) MG__law_met TBL rfl qual_cx hPP (sc := defScope s__law_meetings_right) rfl (by decide +kernel) (by rfl) (by intros; rfl) (fun _ _ _ _ _ Ed _ _ hr tk => by exact pd_callX (SD := fun E => ofF E F_is_meets_answer) G_is_meets_answer tk (hr.mono (by omega)) (by rfl) g_is_meets_answer k_is_meets_answer b_is_meets_answer (pda_cons (pw_dat (pd_c pe_int (fun _ _ => .int _))) (pda_cons (pw_dat (pd_var (pv 3))) (pda_cons (pw_dat (pd_var (pv 8))) (pda_nil)))))))
    (psd_cons (psd_app (pv 1) (pd_met2 (k := k - 2) (de := fun Ed => dCall (ofF Ed F_are_even) (dCons (dD (dVar 6)) (dCons (dD (dVar 3)) (dNil)))) (hr.mono (by omega)) hgd (by rfl) g__law_met W__law_met b__law_met sc__law_met rfl (.inl rfl) MG__law_met TBL rfl qual_cx hPP (sc := defScope s__law_meetings_right) rfl (by decide +kernel) (by rfl) (by intros; rfl) (fun _ _ _ _ _ Ed _ _ hr tk => by exact pd_callX (SD := fun E => ofF E F_are_even) G_are_even tk (hr.mono (by omega)) (by rfl) g_are_even k_are_even b_are_even (pda_cons (pw_dat (pd_var (pv 6))) (pda_cons (pw_dat (pd_var (pv 3))) (pda_nil))))))
    (psd_cons (psd_app (pv 1) (pd_met2 (k := k - 2) (de := fun Ed => dCall (ofF Ed F_are_even) (dCons (dD (dC (.int 2))) (dCons (dD (dVar 7)) (dNil)))) (hr.mono (by omega)) hgd (by rfl) g__law_met W__law_met b__law_met sc__law_met rfl (.inl rfl) MG__law_met TBL rfl qual_cx hPP (sc := defScope s__law_meetings_right) rfl (by decide +kernel) (by rfl) (by intros; rfl) (fun _ _ _ _ _ Ed _ _ hr tk => by exact pd_callX (SD := fun E => ofF E F_are_even) G_are_even tk (hr.mono (by omega)) (by rfl) g_are_even k_are_even b_are_even (pda_cons (pw_dat (pd_c pe_int (fun _ _ => .int _))) (pda_cons (pw_dat (pd_var (pv 7))) (pda_nil))))))
    (psd_cons (psd_par (i := 4) (j := 5) rfl nd rfl rfl (by decide) rfl rfl (pda_cons (pw_dat (pd_op op_addA (op2_catS) (pd_c pe_str (fun _ _ => .str _)) (pd_callN (call_reprD hgd hr.units) opn_repr (by rfl) z_repr (by decide +kernel) (pda_cons (pw_dat (pd_var (pv 6))) (pda_nil))))) (pda_cons (pw_dat (pd_op op_addA (op2_catS) (pd_c pe_str (fun _ _ => .str _)) (pd_callN (call_reprD hgd hr.units) opn_repr (by rfl) z_repr (by decide +kernel) (pda_cons (pw_dat (pd_var (pv 9))) (pda_nil))))) (pda_nil))) (by rfl))
    (psd_cons (psd_set (i := 2) nd rfl (by first | exact Or.inl rfl | exact Or.inr rfl) (pd_new (pn_lst (pda_cons (pw_dat (pd_var (pv 4))) (pda_cons (pw_dat (pd_c pe_str (fun _ _ => .str _))) (pda_cons (pw_dat (pd_var (pv 5))) (pda_cons (pw_dat (pd_var (pv 5))) (pda_cons (pw_dat (pd_c pe_str (fun _ _ => .str _))) (pda_cons (pw_dat (pd_c pe_str (fun _ _ => .str _))) (pda_cons (pw_dat (pd_var (pv 4))) (pda_cons (pw_dat (pd_c pe_str (fun _ _ => .str _))) (pda_cons (pw_dat (pd_var (pv 4))) (pda_cons (pw_dat (pd_c pe_str (fun _ _ => .str _))) (pda_cons (pw_dat (pd_var (pv 4))) (pda_cons (pw_dat (pd_c pe_str (fun _ _ => .str _))) (pda_cons (pw_dat (pd_c pe_str (fun _ _ => .str _))) (pda_cons (pw_dat (pd_var (pv 4))) (pda_cons (pw_dat (pd_c pe_str (fun _ _ => .str _))) (pda_nil)))))))))))))))))))
    (pss_frz (psd_one (psd_ret (pd_cmp (op_eqD hr.units) (op2_eq) (pd_var (pv 1)) (pd_var (pv 2)) (nomark _))))))))))))))))))))))),
    (les_seq (les_asgG (le_gSeq (le_gsCons (le_gSet) (le_gsCons (le_gSeq (le_gsCons (le_gSet) (le_gsCons (le_gSet) (le_gsCons (le_gSet) (le_gsCons (le_gSet) (le_gsNil)))))) (le_gsNil)))) (le_tup (le_cons (le_tup (le_cons (le_tup (le_cons (le_c) (le_cons (le_c) (le_cons (le_c) (le_nil))))) (le_cons (le_tup (le_cons (le_c) (le_cons (le_c) (le_cons (le_c) (le_nil))))) (le_nil)))) (le_cons (le_call0 (le_cons (le_var) (le_nil))) (le_nil)))))
    (les_seq (les_setO (le_lst (le_cons (le_met (fun _ => le_call (le_cons (le_var) (le_cons (le_var) (le_cons (le_var) (le_cons (le_var) (le_nil))))))) (le_nil))))
    (les_seq (les_app (le_met (fun _ => le_call (le_cons (le_c) (le_cons (le_var) (le_cons (le_var) (le_cons (le_var) (le_nil))))))))
    (les_seq (les_app (le_met (fun _ => le_call (le_cons (le_c) (le_cons (le_var) (le_cons (le_var) (le_cons (le_c) (le_nil))))))))
    (les_seq (les_app (le_met (fun _ => le_call (le_cons (le_c) (le_cons (le_var) (le_cons (le_c) (le_cons (le_var) (le_nil))))))))
    (les_seq (les_app (le_met (fun _ => le_call (le_cons (le_c) (le_cons (le_var) (le_cons (le_c) (le_cons (le_c) (le_nil))))))))
    (les_seq (les_app (le_met (fun _ => le_call (le_cons (le_c) (le_cons (le_var) (le_cons (le_c) (le_cons (le_c) (le_nil))))))))
    (les_seq (les_app (le_met (fun _ => le_call (le_cons (le_var) (le_cons (le_var) (le_nil))))))
    (les_seq (les_app (le_met (fun _ => le_call (le_cons (le_c) (le_cons (le_var) (le_nil))))))
    (les_seq (les_app (le_met (fun _ => le_call (le_cons (le_var) (le_cons (le_var) (le_nil))))))
    (les_seq (les_app (le_met (fun _ => le_call (le_cons (le_c) (le_cons (le_var) (le_nil))))))
    (les_seq (les_app (le_met (fun _ => le_call (le_cons (le_var) (le_cons (le_var) (le_cons (le_c) (le_nil)))))))
    (les_seq (les_app (le_met (fun _ => le_call (le_cons (le_c) (le_cons (le_var) (le_cons (le_c) (le_nil)))))))
    (les_seq (les_app (le_met (fun _ => le_call (le_cons (le_c) (le_cons (le_var) (le_cons (le_var) (le_nil)))))))
    (les_seq (les_app (le_met (fun _ => le_call (le_cons (le_var) (le_cons (le_var) (le_nil))))))
    (les_seq (les_app (le_met (fun _ => le_call (le_cons (le_c) (le_cons (le_var) (le_nil))))))
    (les_seq (les_par (le_cons (le_op (leop_catS) (le_c) (le_opN len_repr (le_cons (le_var) (le_nil)))) (le_cons (le_op (leop_catS) (le_c) (le_opN len_repr (le_cons (le_var) (le_nil)))) (le_nil))))
    (les_seq (les_set (le_L (le_lst (le_cons (le_var) (le_cons (le_c) (le_cons (le_var) (le_cons (le_var) (le_cons (le_c) (le_cons (le_c) (le_cons (le_var) (le_cons (le_c) (le_cons (le_var) (le_cons (le_c) (le_cons (le_var) (le_cons (le_c) (le_cons (le_c) (le_cons (le_var) (le_cons (le_c) (le_nil)))))))))))))))))))
    (les_frz (les_ret (le_op (leop_eq) (le_var) (le_var))))))))))))))))))))))⟩
abbrev s__law_spreads_right : Stmt := topS 66
abbrev N__law_spreads_right : List PySem.Str := ["turn", "told", "no", "due", "maps", "even", "M", "bad", "p", "one"]
theorem sc__law_spreads_right : FnScope N__law_spreads_right ["turn"] (defScope s__law_spreads_right) := ⟨rfl, rfl, rfl, by decide +kernel, rfl, by decide +kernel, by decide +kernel⟩
def fs__law_spreads_right : FS :=
  fSeq (fAsgG (fgSeq 3 (fgsCons (fgSet 4) (fgsCons (fgSeq 4 (fgsCons (fgSet 6) (fgsCons (fgSet 7) (fgsCons (fgSet 8) (fgsCons (fgSet 9) (fgsNil)))))) (fgsCons (fgSet 5) (fgsNil))))) (fTup (fCons (fTup (fCons (fTup (fCons (fC (.int 0)) (fCons (fC (.int 1)) (fCons (fC (.int 1)) (fNil))))) (fCons (fTup (fCons (fC (.int 1)) (fCons (fC (.int 1)) (fCons (fC (.int 0)) (fNil))))) (fNil)))) (fCons (fCall0 F__law_wrong (fCons (fVar 0) (fNil))) (fCons (fTup (fCons (fOp (gI cPow fun i j => .int (i ^ j.toNat)) (fC (.int 10)) (fC (.int 20))) (fCons (fTup (fCons (fOp (gI cPow fun i j => .int (i ^ j.toNat)) (fC (.int 10)) (fC (.int 20))) (fCons (fC (.int 0)) (fCons (fC (.int 0)) (fNil))))) (fNil)))) (fNil))))))
    (fSeq (fSetO 1 (fLst (fCons (fMet hl__law_met fine__law_met (fCall F_spread (fCons (fVar 6) (fCons (fIx (fVarQ 4) (fC (.int 0))) (fCons (fVar 8) (fNil)))))) (fNil))))
    (fSeq (fApp 1 (fMet hl__law_met fine__law_met (fCall F_spread (fCons (fC (.int 2)) (fCons (fVar 4) (fCons (fVar 8) (fNil)))))))
    (fSeq (fApp 1 (fMet hl__law_met fine__law_met (fCall F_spread (fCons (fC (.int 2)) (fCons (fIx (fVarQ 4) (fC (.int 0))) (fCons (fVar 8) (fNil)))))))
    (fSeq (fApp 1 (fMet hl__law_met fine__law_met (fCall F_spread (fCons (fC (.int 2)) (fCons (fIx (fVarQ 4) (fC (.int 0))) (fCons (fVar 5) (fNil)))))))
    (fSeq (fApp 1 (fMet hl__law_met fine__law_met (fCall F_spread (fCons (fC (.int 2)) (fCons (fTup (fCons (fC (.int 0)) (fCons (fC (.int 2)) (fCons (fC (.int 1)) (fNil))))) (fCons (fVar 5) (fNil)))))))
    (fSeq (fApp 1 (fMet hl__law_met fine__law_met (fCall F_leftover (fCons (fVar 6) (fCons (fVar 7) (fCons (fVar 8) (fNil)))))))
    (fSeq (fApp 1 (fMet hl__law_met fine__law_met (fCall F_leftover (fCons (fC (.int 2)) (fCons (fVar 7) (fCons (fVar 8) (fNil)))))))
    (fSeq (fApp 1 (fMet hl__law_met fine__law_met (fCall F_leftover (fCons (fC (.int 2)) (fCons (fVar 4) (fCons (fVar 8) (fNil)))))))
    (fSeq (fApp 1 (fMet hl__law_met fine__law_met (fCall F_leftover_parts (fCons (fC (.int 2)) (fCons (fVar 7) (fCons (fVar 8) (fNil)))))))
    (fSeq (fApp 1 (fMet hl__law_met fine__law_met (fCall F_leftover_parts (fCons (fC (.int 2)) (fCons (fVar 4) (fCons (fVar 8) (fNil)))))))
    (fSeq (fApp 1 (fMet hl__law_met fine__law_met (fCall F_mean_distance (fCons (fVar 6) (fCons (fVar 4) (fCons (fVar 8) (fNil)))))))
    (fSeq (fApp 1 (fMet hl__law_met fine__law_met (fCall F_mean_distance (fCons (fC (.int 2)) (fCons (fVar 4) (fCons (fVar 8) (fNil)))))))
    (fSeq (fApp 1 (fMet hl__law_met fine__law_met (fCall F_mean_distance (fCons (fC (.int 2)) (fCons (fVar 4) (fCons (fVar 5) (fNil)))))))
    (fSeq (fSet 2 (fOp (gCatS) (fC (.str (PySem.Str.ofString "number "))) (fOpN gRepr (fCons (fVar 6) (fNil)))))
    (fSeq (fSet 3 (fL (fLst (fCons (fVar 2) (fCons (fC (.str (PySem.Str.ofString "maps"))) (fCons (fC (.str (PySem.Str.ofString "draw"))) (fCons (fC (.str (PySem.Str.ofString "fine"))) (fCons (fC (.str (PySem.Str.ofString "maps"))) (fCons (fVar 2) (fCons (fC (.str (PySem.Str.ofString "maps"))) (fCons (fC (.str (PySem.Str.ofString "draw"))) (fCons (fC (.str (PySem.Str.ofString "maps"))) (fCons (fC (.str (PySem.Str.ofString "draw"))) (fCons (fVar 2) (fCons (fC (.str (PySem.Str.ofString "draw"))) (fCons (fC (.str (PySem.Str.ofString "fine"))) (fNil)))))))))))))))))
    (fFrz 1 (fRet (fOp (gEq false) (fVar 1) (fVar 3)))))))))))))))))))
def F__law_spreads_right : FF := mkF 1 N__law_spreads_right.length fs__law_spreads_right
theorem ok__law_spreads_right {f cc PP : Addr} {fd : FuncData} {k : Nat} (F : FunC K "_law_spreads_right" "_law_spreads_right" s__law_spreads_right cc f fd)
    (z_repr : mg "repr" = none)
    (h2 : 2 ≤ k) (TBL : LamX.TabB base mg cc PP) (hPP : (PP, some (("_law_spreads_right" : Str) ++ ".<locals>." ++ "<lambda>")) ∈ Ps)
    {f__law_met : Addr} {d__law_met : FuncData} (W__law_met : L2.Fun K "_law_met" "_law_met" s__law_met f__law_met d__law_met) (g__law_met : mg "_law_met" = some (.ref f__law_met)) (b__law_met : Binds K d__law_met ["call"] []) (MG__law_met : ∀ cdg : Value, MetG P w K mg base N__law_met "_law_met" (defScope s__law_met) f__law_met cdg (defBody s__law_met) "call" hl__law_met fine__law_met)
    {f__law_wrong : Addr} {d__law_wrong : FuncData} {l__law_wrong : Nat} (h__law_wrong : l__law_wrong + 2 ≤ k) (G__law_wrong : FnOk P w K mg base (L2.CX P w) l__law_wrong f__law_wrong d__law_wrong ["turn"] (spX K Ps fun E => ofF E F__law_wrong)) (g__law_wrong : mg "_law_wrong" = some (.ref f__law_wrong)) (k__law_wrong : PySem.W.keepIn K (.ref f__law_wrong) = true) (b__law_wrong : Binds K d__law_wrong ["turn"] [])
    {f_spread : Addr} {d_spread : FuncData} {l_spread : Nat} (h_spread : l_spread + 2 ≤ k) (G_spread : FnOk P w K mg base (L2.CX P w) l_spread f_spread d_spread ["M", "values", "p"] (spX K Ps fun E => ofF E F_spread)) (g_spread : mg "spread" = some (.ref f_spread)) (k_spread : PySem.W.keepIn K (.ref f_spread) = true) (b_spread : Binds K d_spread ["M", "values", "p"] [])
    {f_leftover : Addr} {d_leftover : FuncData} {l_leftover : Nat} (h_leftover : l_leftover + 2 ≤ k) (G_leftover : FnOk P w K mg base (L2.CX P w) l_leftover f_leftover d_leftover ["M", "maps", "p"] (spX K Ps fun E => ofF E F_leftover)) (g_leftover : mg "leftover" = some (.ref f_leftover)) (k_leftover : PySem.W.keepIn K (.ref f_leftover) = true) (b_leftover : Binds K d_leftover ["M", "maps", "p"] [])
    {f_leftover_parts : Addr} {d_leftover_parts : FuncData} {l_leftover_parts : Nat} (h_leftover_parts : l_leftover_parts + 2 ≤ k) (G_leftover_parts : FnOk P w K mg base (L2.CX P w) l_leftover_parts f_leftover_parts d_leftover_parts ["M", "maps", "p"] (spX K Ps fun E => ofF E F_leftover_parts)) (g_leftover_parts : mg "leftover_parts" = some (.ref f_leftover_parts)) (k_leftover_parts : PySem.W.keepIn K (.ref f_leftover_parts) = true) (b_leftover_parts : Binds K d_leftover_parts ["M", "maps", "p"] [])
    {f_mean_distance : Addr} {d_mean_distance : FuncData} {l_mean_distance : Nat} (h_mean_distance : l_mean_distance + 2 ≤ k) (G_mean_distance : FnOk P w K mg base (L2.CX P w) l_mean_distance f_mean_distance d_mean_distance ["M", "maps", "p"] (spX K Ps fun E => ofF E F_mean_distance)) (g_mean_distance : mg "mean_distance" = some (.ref f_mean_distance)) (k_mean_distance : PySem.W.keepIn K (.ref f_mean_distance) = true) (b_mean_distance : Binds K d_mean_distance ["M", "maps", "p"] []) : FnG P w K mg base CX0 (k + 1) f fd ["turn"] (spOf K Ps (ofF Dl.E0 F__law_spreads_right)) :=
  okFG (N := N__law_spreads_right) (n := 1) (fs := fs__law_spreads_right) F sc__law_spreads_right rfl fun A outer s H E hgd hr => ⟨_, (have nd := sc__law_spreads_right.nd
    psd_cons (psd_asgG (pd_tup (pda_cons (pw_dat (pd_tup (pda_cons (pw_dat (pd_tup (pda_cons (pw_dat (pd_c pe_int (fun _ _ => .int _))) (pda_cons (pw_dat (pd_c pe_int (fun _ _ => .int _))) (pda_cons (pw_dat (pd_c pe_int (fun _ _ => .int _))) (pda_nil)))))) (pda_cons (pw_dat (pd_tup (pda_cons (pw_dat (pd_c pe_int (fun _ _ => .int _))) (pda_cons (pw_dat (pd_c pe_int (fun _ _ => .int _))) (pda_cons (pw_dat (pd_c pe_int (fun _ _ => .int _))) (pda_nil)))))) (pda_nil))))) (pda_cons (pw_dat (pd_call (fnX0 G__law_wrong) (hr.mono (by omega)) (by rfl) g__law_wrong k__law_wrong b__law_wrong (pda_cons (pw_dat (pd_var (pv 0))) (pda_nil)))) (pda_cons (pw_dat (pd_tup (pda_cons (pw_dat (pd_op op_powB (op2_I fun _ _ _ _ => .int _) (pd_c pe_int (fun _ _ => .int _)) (pd_c pe_int (fun _ _ => .int _)))) (pda_cons (pw_dat (pd_tup (pda_cons (pw_dat (pd_op op_powB (op2_I fun _ _ _ _ => .int _) (pd_c pe_int (fun _ _ => .int _)) (pd_c pe_int (fun _ _ => .int _)))) (pda_cons (pw_dat (pd_c pe_int (fun _ _ => .int _))) (pda_cons (pw_dat (pd_c pe_int (fun _ _ => .int _))) (pda_nil)))))) (pda_nil))))) (pda_nil))))) (pgd_seq rfl (pgsd_cons (pgd_name (pg_name (i := 4) nd rfl (by first | exact Or.inl rfl | exact Or.inr rfl))) (pgsd_cons (pgd_seq rfl (pgsd_cons (pgd_name (pg_name (i := 6) nd rfl (by first | exact Or.inl rfl | exact Or.inr rfl))) (pgsd_cons (pgd_name (pg_name (i := 7) nd rfl (by first | exact Or.inl rfl | exact Or.inr rfl))) (pgsd_cons (pgd_name (pg_name (i := 8) nd rfl (by first | exact Or.inl rfl | exact Or.inr rfl))) (pgsd_cons (pgd_name (pg_name (i := 9) nd rfl (by first | exact Or.inl rfl | exact Or.inr rfl))) (pgsd_nil)))))) (pgsd_cons (pgd_name (pg_name (i := 5) nd rfl (by first | exact Or.inl rfl | exact Or.inr rfl))) (pgsd_nil))))))
    (psd_cons (psd_setO (i := 1) nd rfl (by first | exact Or.inl rfl | exact Or.inr rfl) (pn_lst (pda_cons (pw_dat (pd_met2 (k := k - 2) (de := fun Ed => dCall (ofF Ed F_spread) (dCons (dD (dVar 6)) (dCons (dD (dIx (dVarQ 4) (dC (.int 0)))) (dCons (dD (dVar 8)) (dNil))))) (hr.mono (by omega)) hgd (by rfl) g__law_met W__law_met b__law_met sc__law_met rfl (.inl rfl) MG__law_met TBL rfl qual_cx hPP (sc := defScope s__law_spreads_right) rfl (by decide +kernel) (by rfl) (by intros; rfl) (fun _ _ _ _ _ Ed _ _ hr tk => by exact pd_callX (SD := fun E => ofF E F_spread) G_spread tk (hr.mono (by omega)) (by rfl) g_spread k_spread b_spread (pda_cons (pw_dat (pd_var (pv 6))) (pda_cons (pw_dat (pd_ix (pq_var (pv 4)) (pd_c pe_int (fun _ _ => .int _)) (fun _ _ => rfl))) (pda_cons (pw_dat (pd_var (pv 8))) (pda_nil))))))) (pda_nil))))
    (psd_cons (psd_app (pv 1) (pd_met2 (k := k - 2) (de := fun Ed => dCall (ofF Ed F_spread) (dCons (dD (dC (.int 2))) (dCons (dD (dVar 4)) (dCons (dD (dVar 8)) (dNil))))) (hr.mono (by omega)) hgd (by rfl) g__law_met W__law_met b__law_met sc__law_met rfl (.inl rfl) MG__law_met TBL rfl qual_cx hPP (sc := defScope s__law_spreads_right) rfl (by decide +kernel) (by rfl) (by intros; rfl) (fun _ _ _ _ _ Ed _ _ hr tk => by exact pd_callX (SD := fun E => ofF E F_spread) G_spread tk (hr.mono (by omega)) (by rfl) g_spread k_spread b_spread (pda_cons (pw_dat (pd_c pe_int (fun _ _ => .int _))) (pda_cons (pw_dat (pd_var (pv 4))) (pda_cons (pw_dat (pd_var (pv 8))) (pda_nil)))))))
    (psd_cons (psd_app (pv 1) (pd_met2 (k := k - 2) (de := fun Ed => dCall (ofF Ed F_spread) (dCons (dD (dC (.int 2))) (dCons (dD (dIx (dVarQ 4) (dC (.int 0)))) (dCons (dD (dVar 8)) (dNil))))) (hr.mono (by omega)) hgd (by rfl) g__law_met W__law_met b__law_met sc__law_met rfl (.inl rfl) MG__law_met TBL rfl qual_cx hPP (sc := defScope s__law_spreads_right) rfl (by decide +kernel) (by rfl) (by intros; rfl) (fun _ _ _ _ _ Ed _ _ hr tk => by exact pd_callX (SD := fun E => ofF E F_spread) G_spread tk (hr.mono (by omega)) (by rfl) g_spread k_spread b_spread (pda_cons (pw_dat (pd_c pe_int (fun _ _ => .int _))) (pda_cons (pw_dat (pd_ix (pq_var (pv 4)) (pd_c pe_int (fun _ _ => .int _)) (fun _ _ => rfl))) (pda_cons (pw_dat (pd_var (pv 8))) (pda_nil)))))))
    (psd_cons (psd_app (pv 1) (pd_met2 (k := k - 2) (de := fun Ed => dCall (ofF Ed F_spread) (dCons (dD (dC (.int 2))) (dCons (dD (dIx (dVarQ 4) (dC (.int 0)))) (dCons (dD (dVar 5)) (dNil))))) (hr.mono (by omega)) hgd (by rfl) g__law_met W__law_met b__law_met sc__law_met rfl (.inl rfl) MG__law_met TBL rfl qual_cx hPP (sc := defScope s__law_spreads_right) rfl (by decide +kernel) (by rfl) (by intros; rfl) (fun _ _ _ _ _ Ed _ _ hr tk => by exact pd_callX (SD := fun E => ofF E F_spread) G_spread tk (hr.mono (by omega)) (by rfl) g_spread k_spread b_spread (pda_cons (pw_dat (pd_c pe_int (fun _ _ => .int _))) (pda_cons (pw_dat (pd_ix (pq_var (pv 4)) (pd_c pe_int (fun _ _ => .int _)) (fun _ _ => rfl))) (pda_cons (pw_dat (pd_var (pv 5))) (pda_nil)))))))
    (psd_cons (psd_app (pv 1) (pd_met2 (k := k - 2) (de := fun Ed => dCall (ofF Ed F_spread) (dCons (dD (dC (.int 2))) (dCons (dD (dTup (dCons (dD (dC (.int 0))) (dCons (dD (dC (.int 2))) (dCons (dD (dC (.int 1))) (dNil)))))) (dCons (dD (dVar 5)) (dNil))))) (hr.mono (by omega)) hgd (by rfl) g__law_met W__law_met b__law_met sc__law_met rfl (.inl rfl) MG__law_met TBL rfl qual_cx hPP (sc := defScope s__law_spreads_right) rfl (by decide +kernel) (by rfl) (by intros; rfl) (fun _ _ _ _ _ Ed _ _ hr tk => by exact pd_callX (SD := fun E => ofF E F_spread) G_spread tk (hr.mono (by omega)) (by rfl) g_spread k_spread b_spread (pda_cons (pw_dat (pd_c pe_int (fun _ _ => .int _))) (pda_cons (pw_dat (pd_tup (pda_cons (pw_dat (pd_c pe_int (fun _ _ => .int _))) (pda_cons (pw_dat (pd_c pe_int (fun _ _ => .int _))) (pda_cons (pw_dat (pd_c pe_int (fun _ _ => .int _))) (pda_nil)))))) (pda_cons (pw_dat (pd_var (pv 5))) (pda_nil)))))))
    (psd_cons (psd_app (pv 1) (pd_met2 (k := k - 2) (de := fun Ed => dCall (ofF Ed F_leftover) (dCons (dD (dVar 6)) (dCons (dD (dVar 7)) (dCons (dD (dVar 8)) (dNil))))) (hr.mono (by omega)) hgd (by rfl) g__law_met W__law_met b__law_met sc__law_met rfl (.inl rfl) MG__law_met TBL rfl qual_cx hPP (sc := defScope s__law_spreads_right) rfl (by decide +kernel) (by rfl) (by intros; rfl) (fun _ _ _ _ _ Ed _ _ hr tk => by exact pd_callX (SD := fun E => ofF E F_leftover) G_leftover tk (hr.mono (by omega)) (by rfl) g_leftover k_leftover b_leftover (pda_cons (pw_dat (pd_var (pv 6))) (pda_cons (pw_dat (pd_var (pv 7))) (pda_cons (pw_dat (pd_var (pv 8))) (pda_nil)))))))
    (psd_cons (psd_app (pv 1) (pd_met2 (k := k - 2) (de := fun Ed => dCall (ofF Ed F_leftover) (dCons (dD (dC (.int 2))) (dCons (dD (dVar 7)) (dCons (dD (dVar 8)) (dNil))))) (hr.mono (by omega)) hgd (by rfl) g__law_met W__law_met b__law_met sc__law_met rfl (.inl rfl) MG__law_met TBL rfl qual_cx hPP (sc := defScope s__law_spreads_right) rfl (by decide +kernel) (by rfl) (by intros; rfl) (fun _ _ _ _ _ Ed _ _ hr tk => by exact pd_callX (SD := fun E => ofF E F_leftover) G_leftover tk (hr.mono (by omega)) (by rfl) g_leftover k_leftover b_leftover (pda_cons (pw_dat (pd_c pe_int (fun _ _ => .int _))) (pda_cons (pw_dat (pd_var (pv 7))) (pda_cons (pw_dat (pd_var (pv 8))) (pda_nil)))))))
    (psd_cons (psd_app (pv 1) (pd_met2 (k := k - 2) (de := fun Ed => dCall (ofF Ed F_leftover) (dCons (dD (dC (.int 2))) (dCons (dD (dVar 4)) (dCons (dD (dVar 8)) (dNil))))) (hr.mono (by omega)) hgd (by rfl) g__law_met W__law_met b__law_met sc__law_met rfl (.inl rfl) MG__law_met TBL rfl qual_cx hPP (sc := defScope s__law_spreads_right) rfl (by decide +kernel) (by rfl) (by intros; rfl) (fun _ _ _ _ _ Ed _ _ hr tk => by exact pd_callX (SD := fun E => ofF E F_leftover) G_leftover tk (hr.mono (by omega)) (by rfl) g_leftover k_leftover b_leftover (pda_cons (pw_dat (pd_c pe_int (fun _ _ => .int _))) (pda_cons (pw_dat (pd_var (pv 4))) (pda_cons (pw_dat (pd_var (pv 8))) (pda_nil)))))))
    (psd_cons (psd_app (pv 1) (pd_met2 (k := k - 2) (de := fun Ed => dCall (ofF Ed F_leftover_parts) (dCons (dD (dC (.int 2))) (dCons (dD (dVar 7)) (dCons (dD (dVar 8)) (dNil))))) (hr.mono (by omega)) hgd (by rfl) g__law_met W__law_met b__law_met sc__law_met rfl (.inl rfl) MG__law_met TBL rfl qual_cx hPP (sc := defScope s__law_spreads_right) rfl (by decide +kernel) (by rfl) (by intros; rfl) (fun _ _ _ _ _ Ed _ _ hr tk => by exact pd_callX (SD := fun E => ofF E F_leftover_parts) G_leftover_parts tk (hr.mono (by omega)) (by rfl) g_leftover_parts k_leftover_parts b_leftover_parts (pda_cons (pw_dat (pd_c pe_int (fun _ _ => .int _))) (pda_cons (pw_dat (pd_var (pv 7))) (pda_cons (pw_dat (pd_var (pv 8))) (pda_nil)))))))
    (psd_cons (psd_app (pv 1) (pd_met2 (k := k - 2) (de := fun Ed => dCall (ofF Ed F_leftover_parts) (dCons (dD (dC (.int 2))) (dCons (dD (dVar 4)) (dCons (dD (dVar 8)) (dNil))))) (hr.mono (by omega)) hgd (by rfl) g__law_met W__law_met b__law_met sc__law_met rfl (.inl rfl) MG__law_met TBL rfl qual_cx hPP (sc := defScope s__law_spreads_right) rfl (by decide +kernel) (by rfl) (by intros; rfl) (fun _ _ _ _ _ Ed _ _ hr tk => by exact pd_callX (SD := fun E => ofF E F_leftover_parts) G_leftover_parts tk (hr.mono (by omega)) (by rfl) g_leftover_parts k_leftover_parts b_leftover_parts (pda_cons (pw_dat (pd_c pe_int (fun _ _ => .int _))) (pda_cons (pw_dat (pd_var (pv 4))) (pda_cons (pw_dat (pd_var (pv 8))) (pda_nil)))))))
    (psd_cons (psd_app (pv 1) (pd_met2 (k := k - 2) (de := fun Ed => dCall (ofF Ed F_mean_distance) (dCons (dD (dVar 6)) (dCons (dD (dVar 4)) (dCons (dD (dVar 8)) (dNil))))) (hr.mono (by omega)) hgd (by rfl) g__law_met W__law_met b__law_met sc__law_met rfl (.inl rfl) MG__law_met TBL rfl qual_cx hPP (sc := defScope s__law_spreads_right) rfl (by decide +kernel) (by rfl) (by intros; rfl) (fun _ _ _ _ _ Ed _ _ hr tk => by exact pd_callX (SD := fun E => ofF E F_mean_distance) G_mean_distance tk (hr.mono (by omega)) (by rfl) g_mean_distance k_mean_distance b_mean_distance (pda_cons (pw_dat (pd_var (pv 6))) (pda_cons (pw_dat (pd_var (pv 4))) (pda_cons (pw_dat (pd_var (pv 8))) (pda_nil)))))))
    (psd_cons (psd_app (pv 1) (pd_met2 (k := k - 2) (de := fun Ed => dCall (ofF Ed F_mean_distance) (dCons (dD (dC (.int 2))) (dCons (dD (dVar 4)) (dCons (dD (dVar 8)) (dNil))))) (hr.mono (by omega)) hgd (by rfl) g__law_met W__law_met b__law_met sc__law_met rfl (.inl rfl) MG__law_met TBL rfl qual_cx hPP (sc := defScope s__law_spreads_right) rfl (by decide +kernel) (by rfl) (by intros; rfl) (fun _ _ _ _ _ Ed _ _ hr tk => by exact pd_callX (SD := fun E => ofF E F_mean_distance) G_mean_distance tk (hr.mono (by omega)) (by rfl) g_mean_distance k_mean_distance b_mean_distance (pda_cons (pw_dat (pd_c pe_int (fun _ _ => .int _))) (pda_cons (pw_dat (pd_var (pv 4))) (pda_cons (pw_dat (pd_var (pv 8))) (pda_nil)))))))
    (psd_cons (psd_app (pv 1) (pd_met2 (k := k - 2) (de := fun Ed => dCall (ofF Ed F_mean_distance) (dCons (dD (dC (.int 2))) (dCons (dD (dVar 4)) (dCons (dD (dVar 5)) (dNil))))) (hr.mono (by omega)) hgd (by rfl) g__law_met W__law_met b__law_met sc__law_met rfl (.inl rfl) MG__law_met TBL rfl qual_cx hPP (sc := defScope s__law_spreads_right) rfl (by decide +kernel) (by rfl) (by intros; rfl) (fun _ _ _ _ _ Ed _ _ hr tk => by exact pd_callX (SD := fun E => ofF E F_mean_distance) G_mean_distance tk (hr.mono (by omega)) (by rfl) g_mean_distance k_mean_distance b_mean_distance (pda_cons (pw_dat (pd_c pe_int (fun _ _ => .int _))) (pda_cons (pw_dat (pd_var (pv 4))) (pda_cons (pw_dat (pd_var (pv 5))) (pda_nil)))))))
    (psd_cons (psd_set (i := 2) nd rfl (by first | exact Or.inl rfl | exact Or.inr rfl) (pd_op op_addA (op2_catS) (pd_c pe_str (fun _ _ => .str _)) (pd_callN (call_reprD hgd hr.units) opn_repr (by rfl) z_repr (by decide +kernel) (pda_cons (pw_dat (pd_var (pv 6))) (pda_nil)))))
    (psd_cons (psd_set (i := 3) nd rfl (by first | exact Or.inl rfl | exact Or.inr rfl) (pd_new (pn_lst (pda_cons (pw_dat (pd_var (pv 2))) (pda_cons (pw_dat (pd_c pe_str (fun _ _ => .str _))) (pda_cons (pw_dat (pd_c pe_str (fun _ _ => .str _))) (pda_cons (pw_dat (pd_c pe_str (fun _ _ => .str _))) (pda_cons (pw_dat (pd_c pe_str (fun _ _ => .str _))) (pda_cons (pw_dat (pd_var (pv 2))) (pda_cons (pw_dat (pd_c pe_str (fun _ _ => .str _))) (pda_cons (pw_dat (pd_c pe_str (fun _ _ => .str _))) (pda_cons (pw_dat (pd_c pe_str (fun _ _ => .str _))) (pda_cons (pw_dat (pd_c pe_str (fun _ _ => .str _))) (pda_cons (pw_dat (pd_var (pv 2))) (pda_cons (pw_dat (pd_c pe_str (fun _ _ => .str _))) (pda_cons (pw_dat (pd_c pe_str (fun _ _ => .str _))) (pda_nil)))))))))))))))))
    (pss_frz (psd_one (psd_ret (pd_cmp (op_eqD hr.units) (op2_eq) (pd_var (pv 1)) (pd_var (pv 3)) (nomark _))))))))))))))))))))),
    (les_seq (les_asgG (le_gSeq (le_gsCons (le_gSet) (le_gsCons (le_gSeq (le_gsCons (le_gSet) (le_gsCons (le_gSet) (le_gsCons (le_gSet) (le_gsCons (le_gSet) (le_gsNil)))))) (le_gsCons (le_gSet) (le_gsNil))))) (le_tup (le_cons (le_tup (le_cons (le_tup (le_cons (le_c) (le_cons (le_c) (le_cons (le_c) (le_nil))))) (le_cons (le_tup (le_cons (le_c) (le_cons (le_c) (le_cons (le_c) (le_nil))))) (le_nil)))) (le_cons (le_call0 (le_cons (le_var) (le_nil))) (le_cons (le_tup (le_cons (le_op (leop_I cPow_ok) (le_c) (le_c)) (le_cons (le_tup (le_cons (le_op (leop_I cPow_ok) (le_c) (le_c)) (le_cons (le_c) (le_cons (le_c) (le_nil))))) (le_nil)))) (le_nil))))))
    (les_seq (les_setO (le_lst (le_cons (le_met (fun _ => le_call (le_cons (le_var) (le_cons (le_ix (le_varQ) (le_c)) (le_cons (le_var) (le_nil)))))) (le_nil))))
    (les_seq (les_app (le_met (fun _ => le_call (le_cons (le_c) (le_cons (le_var) (le_cons (le_var) (le_nil)))))))
    (les_seq (les_app (le_met (fun _ => le_call (le_cons (le_c) (le_cons (le_ix (le_varQ) (le_c)) (le_cons (le_var) (le_nil)))))))
    (les_seq (les_app (le_met (fun _ => le_call (le_cons (le_c) (le_cons (le_ix (le_varQ) (le_c)) (le_cons (le_var) (le_nil)))))))
    (les_seq (les_app (le_met (fun _ => le_call (le_cons (le_c) (le_cons (le_tup (le_cons (le_c) (le_cons (le_c) (le_cons (le_c) (le_nil))))) (le_cons (le_var) (le_nil)))))))
    (les_seq (les_app (le_met (fun _ => le_call (le_cons (le_var) (le_cons (le_var) (le_cons (le_var) (le_nil)))))))
    (les_seq (les_app (le_met (fun _ => le_call (le_cons (le_c) (le_cons (le_var) (le_cons (le_var) (le_nil)))))))
    (les_seq (les_app (le_met (fun _ => le_call (le_cons (le_c) (le_cons (le_var) (le_cons (le_var) (le_nil)))))))
    (les_seq (les_app (le_met (fun _ => le_call (le_cons (le_c) (le_cons (le_var) (le_cons (le_var) (le_nil)))))))
    (les_seq (les_app (le_met (fun _ => le_call (le_cons (le_c) (le_cons (le_var) (le_cons (le_var) (le_nil)))))))
    (les_seq (les_app (le_met (fun _ => le_call (le_cons (le_var) (le_cons (le_var) (le_cons (le_var) (le_nil)))))))
    (les_seq (les_app (le_met (fun _ => le_call (le_cons (le_c) (le_cons (le_var) (le_cons (le_var) (le_nil)))))))
    (les_seq (les_app (le_met (fun _ => le_call (le_cons (le_c) (le_cons (le_var) (le_cons (le_var) (le_nil)))))))
    (les_seq (les_set (le_op (leop_catS) (le_c) (le_opN len_repr (le_cons (le_var) (le_nil)))))
    (les_seq (les_set (le_L (le_lst (le_cons (le_var) (le_cons (le_c) (le_cons (le_c) (le_cons (le_c) (le_cons (le_c) (le_cons (le_var) (le_cons (le_c) (le_cons (le_c) (le_cons (le_c) (le_cons (le_c) (le_cons (le_var) (le_cons (le_c) (le_cons (le_c) (le_nil)))))))))))))))))
    (les_frz (les_ret (le_op (leop_eq) (le_var) (le_var))))))))))))))))))))⟩
abbrev s__law_made_right : Stmt := topS 67
abbrev N__law_made_right : List PySem.Str := ["turn", "few", "told", "due", "odd", "far", "wide", "prime"]
theorem sc__law_made_right : FnScope N__law_made_right ["turn"] (defScope s__law_made_right) := ⟨rfl, rfl, rfl, by decide +kernel, rfl, by decide +kernel, by decide +kernel⟩
def fs__law_made_right : FS :=
  fSeq (fAsgG (fgSeq 2 (fgsCons (fgSet 4) (fgsCons (fgSet 5) (fgsNil)))) (fTup (fCons (fIx (fSeqE (fCall0 F__law_wrong (fCons (fVar 0) (fNil)))) (fC (.int 0))) (fCons (fIx (fSeqE (fL (fLst (fCons (fC .none) (fCons (fC (.int 0)) (fCons (fC (.int 6)) (fCons (fNeg (fC (.int 1))) (fCons (fC (.bool true)) (fCons (fC (.str (PySem.Str.ofString "1"))) (fCons (fOp (gI cPow fun i j => .int (i ^ j.toNat)) (fC (.int 10)) (fC (.int 60))) (fNil))))))))))) (fOp (gI cPos fun i j => .int (i % j)) (fVar 0) (fC (.int 7)))) (fNil)))))
    (fSeq (fAsgG (fgSeq 2 (fgsCons (fgSet 6) (fgsCons (fgSet 7) (fgsNil)))) (fTup (fCons (fIx (fSeqE (fL (fLst (fCons (fC .none) (fCons (fC (.int 0)) (fCons (fC (.int 5)) (fCons (fC (.bool true)) (fCons (fNeg (fC (.int 1))) (fNil))))))))) (fOp (gI cPos fun i j => .int (i % j)) (fVar 0) (fC (.int 5)))) (fCons (fIx (fSeqE (fL (fLst (fCons (fC .none) (fCons (fC (.int 1)) (fCons (fC (.int 4)) (fCons (fC (.int 11)) (fCons (fC (.int 0)) (fCons (fC (.bool true)) (fCons (fC (.str (PySem.Str.ofString "3"))) (fCons (fNeg (fC (.int 2))) (fCons (fC (.int 9)) (fCons (fOp (gI cPow fun i j => .int (i ^ j.toNat)) (fC (.int 10)) (fC (.int 60))) (fNil)))))))))))))) (fOp (gI cPos fun i j => .int (i % j)) (fVar 0) (fC (.int 10)))) (fNil)))))
    (fSeq (fSet 1 (fIx (fSeqE (fL (fLst (fCons (fC .none) (fCons (fC (.int 1)) (fCons (fC (.int 33)) (fCons (fC (.bool true)) (fCons (fNeg (fC (.int 2))) (fCons (fC (.str (PySem.Str.ofString "4"))) (fNil)))))))))) (fOp (gI cPos fun i j => .int (i % j)) (fVar 0) (fC (.int 6)))))
    (fSeq (fSetO 2 (fLst (fCons (fMet hl__law_met fine__law_met (fCall F_linear_maps (fCons (fVar 5) (fCons (fVar 6) (fNil))))) (fNil))))
    (fSeq (fApp 2 (fMet hl__law_met fine__law_met (fCall F_linear_maps (fCons (fC (.int 5)) (fCons (fVar 6) (fNil))))))
    (fSeq (fApp 2 (fMet hl__law_met fine__law_met (fCall F_linear_maps (fCons (fC (.int 5)) (fCons (fC (.int 2)) (fNil))))))
    (fSeq (fApp 2 (fMet hl__law_met fine__law_met (fCall F_linear_maps (fCons (fC (.int 3)) (fCons (fC (.int 2)) (fNil))))))
    (fSeq (fApp 2 (fMet hl__law_met fine__law_met (fCall F_affine_maps (fCons (fVar 5) (fCons (fC (.int 4)) (fNil))))))
    (fSeq (fApp 2 (fMet hl__law_met fine__law_met (fCall F_affine_maps (fCons (fC (.int 2)) (fCons (fVar 6) (fNil))))))
    (fSeq (fApp 2 (fMet hl__law_met fine__law_met (fCall F_affine_maps (fCons (fC (.int 3)) (fCons (fC (.int 2)) (fNil))))))
    (fSeq (fApp 2 (fMet hl__law_met fine__law_met (fCall F_affine_maps (fCons (fC (.int 5)) (fCons (fC (.int 1)) (fNil))))))
    (fSeq (fApp 2 (fMet hl__law_met fine__law_met (fCall F_field_maps (fCons (fVar 7) (fNil)))))
    (fSeq (fApp 2 (fMet hl__law_met fine__law_met (fCall F_least_meeting (fCons (fVar 1) (fCons (fVar 4) (fNil))))))
    (fSeq (fApp 2 (fMet hl__law_met fine__law_met (fCall F_least_meeting (fCons (fC (.int 2)) (fCons (fVar 4) (fNil))))))
    (fSeq (fSet 3 (fL (fLst (fCons (fOp (gCatS) (fC (.str (PySem.Str.ofString "number "))) (fOpN gRepr (fCons (fVar 5) (fNil)))) (fCons (fOp (gCatS) (fC (.str (PySem.Str.ofString "number "))) (fOpN gRepr (fCons (fVar 6) (fNil)))) (fCons (fC (.str (PySem.Str.ofString "many 64"))) (fCons (fC (.str (PySem.Str.ofString "fine"))) (fCons (fOp (gCatS) (fC (.str (PySem.Str.ofString "number "))) (fOpN gRepr (fCons (fVar 5) (fNil)))) (fNil)))))))))
    (fSeq (fSet 3 (fL (fCatL (fVarQ 3) (fSeqE (fL (fLst (fCons (fOp (gCatS) (fC (.str (PySem.Str.ofString "number "))) (fOpN gRepr (fCons (fVar 6) (fNil)))) (fNil))))))))
    (fFrz 2 (fRet (fOp (gEq false) (fVar 2) (fL (fCatL (fVarQ 3) (fSeqE (fL (fLst (fCons (fC (.str (PySem.Str.ofString "many 64"))) (fCons (fC (.str (PySem.Str.ofString "fine"))) (fCons (fOp (gCatS) (fC (.str (PySem.Str.ofString "number "))) (fOpN gRepr (fCons (fVar 7) (fNil)))) (fCons (fOp (gCatS) (fC (.str (PySem.Str.ofString "number "))) (fOpN gRepr (fCons (fVar 1) (fNil)))) (fCons (fOp (gCatS) (fC (.str (PySem.Str.ofString "number "))) (fOpN gRepr (fCons (fVar 4) (fNil)))) (fNil)))))))))))))))))))))))))))))
def F__law_made_right : FF := mkF 1 N__law_made_right.length fs__law_made_right
theorem ok__law_made_right {f cc PP : Addr} {fd : FuncData} {k : Nat} (F : FunC K "_law_made_right" "_law_made_right" s__law_made_right cc f fd)
    (z_repr : mg "repr" = none)
    (h2 : 2 ≤ k) (TBL : LamX.TabB base mg cc PP) (hPP : (PP, some (("_law_made_right" : Str) ++ ".<locals>." ++ "<lambda>")) ∈ Ps)
    {f__law_met : Addr} {d__law_met : FuncData} (W__law_met : L2.Fun K "_law_met" "_law_met" s__law_met f__law_met d__law_met) (g__law_met : mg "_law_met" = some (.ref f__law_met)) (b__law_met : Binds K d__law_met ["call"] []) (MG__law_met : ∀ cdg : Value, MetG P w K mg base N__law_met "_law_met" (defScope s__law_met) f__law_met cdg (defBody s__law_met) "call" hl__law_met fine__law_met)
    {f__law_wrong : Addr} {d__law_wrong : FuncData} {l__law_wrong : Nat} (h__law_wrong : l__law_wrong + 2 ≤ k) (G__law_wrong : FnOk P w K mg base (L2.CX P w) l__law_wrong f__law_wrong d__law_wrong ["turn"] (spX K Ps fun E => ofF E F__law_wrong)) (g__law_wrong : mg "_law_wrong" = some (.ref f__law_wrong)) (k__law_wrong : PySem.W.keepIn K (.ref f__law_wrong) = true) (b__law_wrong : Binds K d__law_wrong ["turn"] [])
    {f_linear_maps : Addr} {d_linear_maps : FuncData} {l_linear_maps : Nat} (h_linear_maps : l_linear_maps + 2 ≤ k) (G_linear_maps : FnOk P w K mg base (L2.CX P w) l_linear_maps f_linear_maps d_linear_maps ["n", "m"] (spX K Ps fun E => ofF E F_linear_maps)) (g_linear_maps : mg "linear_maps" = some (.ref f_linear_maps)) (k_linear_maps : PySem.W.keepIn K (.ref f_linear_maps) = true) (b_linear_maps : Binds K d_linear_maps ["n", "m"] [])
    {f_affine_maps : Addr} {d_affine_maps : FuncData} {l_affine_maps : Nat} (h_affine_maps : l_affine_maps + 2 ≤ k) (G_affine_maps : FnOk P w K mg base (L2.CX P w) l_affine_maps f_affine_maps d_affine_maps ["n", "m"] (spX K Ps fun E => ofF E F_affine_maps)) (g_affine_maps : mg "affine_maps" = some (.ref f_affine_maps)) (k_affine_maps : PySem.W.keepIn K (.ref f_affine_maps) = true) (b_affine_maps : Binds K d_affine_maps ["n", "m"] [])
    {f_field_maps : Addr} {d_field_maps : FuncData} {l_field_maps : Nat} (h_field_maps : l_field_maps + 2 ≤ k) (G_field_maps : FnOk P w K mg base (L2.CX P w) l_field_maps f_field_maps d_field_maps ["q"] (spX K Ps fun E => ofF E F_field_maps)) (g_field_maps : mg "field_maps" = some (.ref f_field_maps)) (k_field_maps : PySem.W.keepIn K (.ref f_field_maps) = true) (b_field_maps : Binds K d_field_maps ["q"] [])
    {f_least_meeting : Addr} {d_least_meeting : FuncData} {l_least_meeting : Nat} (h_least_meeting : l_least_meeting + 2 ≤ k) (G_least_meeting : FnOk P w K mg base (L2.CX P w) l_least_meeting f_least_meeting d_least_meeting ["points", "M"] (spX K Ps fun E => ofF E F_least_meeting)) (g_least_meeting : mg "least_meeting" = some (.ref f_least_meeting)) (k_least_meeting : PySem.W.keepIn K (.ref f_least_meeting) = true) (b_least_meeting : Binds K d_least_meeting ["points", "M"] []) : FnG P w K mg base CX0 (k + 1) f fd ["turn"] (spOf K Ps (ofF Dl.E0 F__law_made_right)) :=
  okFG (N := N__law_made_right) (n := 1) (fs := fs__law_made_right) F sc__law_made_right rfl fun A outer s H E hgd hr => ⟨_, (have nd := sc__law_made_right.nd
    psd_cons (psd_asgG (pd_tup (pda_cons (pw_dat (pd_ix (pq_dat (pd_call (fnX0 G__law_wrong) (hr.mono (by omega)) (by rfl) g__law_wrong k__law_wrong b__law_wrong (pda_cons (pw_dat (pd_var (pv 0))) (pda_nil)))) (pd_c pe_int (fun _ _ => .int _)) (fun _ _ => rfl))) (pda_cons (pw_dat (pd_ix (pq_dat (pd_new (pn_lst (pda_cons (pw_dat (pd_c pe_non (fun _ _ => .non))) (pda_cons (pw_dat (pd_c pe_int (fun _ _ => .int _))) (pda_cons (pw_dat (pd_c pe_int (fun _ _ => .int _))) (pda_cons (pw_dat (pd_neg (pd_c pe_int (fun _ _ => .int _)))) (pda_cons (pw_dat (pd_c pe_bl (fun _ _ => .bl _))) (pda_cons (pw_dat (pd_c pe_str (fun _ _ => .str _))) (pda_cons (pw_dat (pd_op op_powB (op2_I fun _ _ _ _ => .int _) (pd_c pe_int (fun _ _ => .int _)) (pd_c pe_int (fun _ _ => .int _)))) (pda_nil))))))))))) (pd_op op_mod (op2_I fun _ _ _ _ => .int _) (pd_var (pv 0)) (pd_c pe_int (fun _ _ => .int _))) (fun _ _ => rfl))) (pda_nil)))) (pgd_seq rfl (pgsd_cons (pgd_name (pg_name (i := 4) nd rfl (by first | exact Or.inl rfl | exact Or.inr rfl))) (pgsd_cons (pgd_name (pg_name (i := 5) nd rfl (by first | exact Or.inl rfl | exact Or.inr rfl))) (pgsd_nil)))))
    (psd_cons (psd_asgG (pd_tup (pda_cons (pw_dat (pd_ix (pq_dat (pd_new (pn_lst (pda_cons (pw_dat (pd_c pe_non (fun _ _ => .non))) (pda_cons (pw_dat (pd_c pe_int (fun _ _ => .int _))) (pda_cons (pw_dat (pd_c pe_int (fun _ _ => .int _))) (pda_cons (pw_dat (pd_c pe_bl (fun _ _ => .bl _))) (pda_cons (pw_dat (pd_neg (pd_c pe_int (fun _ _ => .int _)))) (pda_nil))))))))) (pd_op op_mod (op2_I fun _ _ _ _ => .int _) (pd_var (pv 0)) (pd_c pe_int (fun _ _ => .int _))) (fun _ _ => rfl))) (pda_cons (pw_dat (pd_ix (pq_dat (pd_new (pn_lst (pda_cons (pw_dat (pd_c pe_non (fun _ _ => .non))) (pda_cons (pw_dat (pd_c pe_int (fun _ _ => .int _))) (pda_cons (pw_dat (pd_c pe_int (fun _ _ => .int _))) (pda_cons (pw_dat (pd_c pe_int (fun _ _ => .int _))) (pda_cons (pw_dat (pd_c pe_int (fun _ _ => .int _))) (pda_cons (pw_dat (pd_c pe_bl (fun _ _ => .bl _))) (pda_cons (pw_dat (pd_c pe_str (fun _ _ => .str _))) (pda_cons (pw_dat (pd_neg (pd_c pe_int (fun _ _ => .int _)))) (pda_cons (pw_dat (pd_c pe_int (fun _ _ => .int _))) (pda_cons (pw_dat (pd_op op_powB (op2_I fun _ _ _ _ => .int _) (pd_c pe_int (fun _ _ => .int _)) (pd_c pe_int (fun _ _ => .int _)))) (pda_nil)))))))))))))) (pd_op op_mod (op2_I fun _ _ _ _ => .int _) (pd_var (pv 0)) (pd_c pe_int (fun _ _ => .int _))) (fun _ _ => rfl))) (pda_nil)))) (pgd_seq rfl (pgsd_cons (pgd_name (pg_name (i := 6) nd rfl (by first | exact Or.inl rfl | exact Or.inr rfl))) (pgsd_cons (pgd_name (pg_name (i := 7) nd rfl (by first | exact Or.inl rfl | exact Or.inr rfl))) (pgsd_nil)))))
    (psd_cons (psd_set (i := 1) nd rfl (by first | exact Or.inl rfl | exact Or.inr rfl) (pd_ix (pq_dat (pd_new (pn_lst (pda_cons (pw_dat (pd_c pe_non (fun _ _ => .non))) (pda_cons (pw_dat (pd_c pe_int (fun _ _ => .int _))) (pda_cons (pw_dat (pd_c pe_int (fun _ _ => .int _))) (pda_cons (pw_dat (pd_c pe_bl (fun _ _ => .bl _))) (pda_cons (pw_dat (pd_neg (pd_c pe_int (fun _ _ => .int _)))) (pda_cons (pw_dat (pd_c pe_str (fun _ _ => .str _))) (pda_nil)))))))))) (pd_op op_mod (op2_I fun _ _ _ _ => .int _) (pd_var (pv 0)) (pd_c pe_int (fun _ _ => .int _))) (fun _ _ => rfl)))
    (psd_cons (psd_setO (i := 2) nd rfl (by first | exact Or.inl rfl | exact Or.inr rfl) (pn_lst (pda_cons (pw_dat (pd_met2 (k := k - 2) (de := fun Ed => dCall (ofF Ed F_linear_maps) (dCons (dD (dVar 5)) (dCons (dD (dVar 6)) (dNil)))) (hr.mono (by omega)) hgd (by rfl) g__law_met W__law_met b__law_met sc__law_met rfl (.inl rfl) MG__law_met TBL rfl qual_cx hPP (sc := defScope s__law_made_right) rfl (by decide +kernel) (by rfl) (by intros; rfl) (fun _ _ _ _ _ Ed _ _ hr tk => by exact pd_callX (SD := fun E => ofF E F_linear_maps) G_linear_maps tk (hr.mono (by omega)) (by rfl) g_linear_maps k_linear_maps b_linear_maps (pda_cons (pw_dat (pd_var (pv 5))) (pda_cons (pw_dat (pd_var (pv 6))) (pda_nil)))))) (pda_nil))))
    (psd_cons (psd_app (pv 2) (pd_met2 (k := k - 2) (de := fun Ed => dCall (ofF Ed F_linear_maps) (dCons (dD (dC (.int 5))) (dCons (dD (dVar 6)) (dNil)))) (hr.mono (by omega)) hgd (by rfl) g__law_met W__law_met b__law_met sc__law_met rfl (.inl rfl) MG__law_met TBL rfl qual_cx hPP (sc := defScope s__law_made_right) rfl (by decide +kernel) (by rfl) (by intros; rfl) (fun _ _ _ _ _ Ed _ _ hr tk => by exact pd_callX (SD := fun E => ofF E F_linear_maps) G_linear_maps tk (hr.mono (by omega)) (by rfl) g_linear_maps k_linear_maps b_linear_maps (pda_cons (pw_dat (pd_c pe_int (fun _ _ => .int _))) (pda_cons (pw_dat (pd_var (pv 6))) (pda_nil))))))
    (psd_cons (psd_app (pv 2) (pd_met2 (k := k - 2) (de := fun Ed => dCall (ofF Ed F_linear_maps) (dCons (dD (dC (.int 5))) (dCons (dD (dC (.int 2))) (dNil)))) (hr.mono (by omega)) hgd (by rfl) g__law_met W__law_met b__law_met sc__law_met rfl (.inl rfl) MG__law_met TBL rfl qual_cx hPP (sc := defScope s__law_made_right) rfl (by decide +kernel) (by rfl) (by intros; rfl) (fun _ _ _ _ _ Ed _ _ hr tk => by exact pd_callX (SD := fun E => ofF E F_linear_maps) G_linear_maps tk (hr.mono (by omega)) (by rfl) g_linear_maps k_linear_maps b_linear_maps (pda_cons (pw_dat (pd_c pe_int (fun _ _ => .int _))) (pda_cons (pw_dat (pd_c pe_int (fun _ _ => .int _))) (pda_nil))))))
    (psd_cons (psd_app (pv 2) (pd_met2 (k := k - 2) (de := fun Ed => dCall (ofF Ed F_linear_maps) (dCons (dD (dC (.int 3))) (dCons (dD (dC (.int 2))) (dNil)))) (hr.mono (by omega)) hgd (by rfl) g__law_met W__law_met b__law_met sc__law_met rfl (.inl rfl) MG__law_met TBL rfl qual_cx hPP (sc := defScope s__law_made_right) rfl (by decide +kernel) (by rfl) (by intros; rfl) (fun _ _ _ _ _ Ed _ _ hr tk => by exact pd_callX (SD := fun E => ofF E F_linear_maps) G_linear_maps tk (hr.mono (by omega)) (by rfl) g_linear_maps k_linear_maps b_linear_maps (pda_cons (pw_dat (pd_c pe_int (fun _ _ => .int _))) (pda_cons (pw_dat (pd_c pe_int (fun _ _ => .int _))) (pda_nil))))))
    (psd_cons (psd_app (pv 2) (pd_met2 (k := k - 2) (de := fun Ed => dCall (ofF Ed F_affine_maps) (dCons (dD (dVar 5)) (dCons (dD (dC (.int 4))) (dNil)))) (hr.mono (by omega)) hgd (by rfl) g__law_met W__law_met b__law_met sc__law_met rfl (.inl rfl) MG__law_met TBL rfl qual_cx hPP (sc := defScope s__law_made_right) rfl (by decide +kernel) (by rfl) (by intros; rfl) (fun _ _ _ _ _ Ed _ _ hr tk => by exact pd_callX (SD := fun E => ofF E F_affine_maps) G_affine_maps tk (hr.mono (by omega)) (by rfl) g_affine_maps k_affine_maps b_affine_maps (pda_cons (pw_dat (pd_var (pv 5))) (pda_cons (pw_dat (pd_c pe_int (fun _ _ => .int _))) (pda_nil))))))
    (psd_cons (psd_app (pv 2) (pd_met2 (k := k - 2) (de := fun Ed => dCall (ofF Ed F_affine_maps) (dCons (dD (dC (.int 2))) (dCons (dD (dVar 6)) (dNil)))) (hr.mono (by omega)) hgd (by rfl) g__law_met W__law_met b__law_met sc__law_met rfl (.inl rfl) MG__law_met TBL rfl qual_cx hPP (sc := defScope s__law_made_right) rfl (by decide +kernel) (by rfl) (by intros; rfl) (fun _ _ _ _ _ Ed _ _ hr tk => by exact pd_callX (SD := fun E => ofF E F_affine_maps) G_affine_maps tk (hr.mono (by omega)) (by rfl) g_affine_maps k_affine_maps b_affine_maps (pda_cons (pw_dat (pd_c pe_int (fun _ _ => .int _))) (pda_cons (pw_dat (pd_var (pv 6))) (pda_nil))))))
    (psd_cons (psd_app (pv 2) (pd_met2 (k := k - 2) (de := fun Ed => dCall (ofF Ed F_affine_maps) (dCons (dD (dC (.int 3))) (dCons (dD (dC (.int 2))) (dNil)))) (hr.mono (by omega)) hgd (by rfl) g__law_met W__law_met b__law_met sc__law_met rfl (.inl rfl) MG__law_met TBL rfl qual_cx hPP (sc := defScope s__law_made_right) rfl (by decide +kernel) (by rfl) (by intros; rfl) (fun _ _ _ _ _ Ed _ _ hr tk => by exact pd_callX (SD := fun E => ofF E F_affine_maps) G_affine_maps tk (hr.mono (by omega)) (by rfl) g_affine_maps k_affine_maps b_affine_maps (pda_cons (pw_dat (pd_c pe_int (fun _ _ => .int _))) (pda_cons (pw_dat (pd_c pe_int (fun _ _ => .int _))) (pda_nil))))))
    (psd_cons (psd_app (pv 2) (pd_met2 (k := k - 2) (de := fun Ed => dCall (ofF Ed F_affine_maps) (dCons (dD (dC (.int 5))) (dCons (dD (dC (.int 1))) (dNil)))) (hr.mono (by omega)) hgd (by rfl) g__law_met W__law_met b__law_met sc__law_met rfl (.inl rfl) MG__law_met TBL rfl qual_cx hPP (sc := defScope s__law_made_right) rfl (by decide +kernel) (by rfl) (by intros; rfl) (fun _ _ _ _ _ Ed _ _ hr tk => by exact pd_callX (SD := fun E => ofF E F_affine_maps) G_affine_maps tk (hr.mono (by omega)) (by rfl) g_affine_maps k_affine_maps b_affine_maps (pda_cons (pw_dat (pd_c pe_int (fun _ _ => .int _))) (pda_cons (pw_dat (pd_c pe_int (fun _ _ => .int _))) (pda_nil))))))
    (psd_cons (psd_app (pv 2) (pd_met2 (k := k - 2) (de := fun Ed => dCall (ofF Ed F_field_maps) (dCons (dD (dVar 7)) (dNil))) (hr.mono (by omega)) hgd (by rfl) g__law_met W__law_met b__law_met sc__law_met rfl (.inl rfl) MG__law_met TBL rfl qual_cx hPP (sc := defScope s__law_made_right) rfl (by decide +kernel) (by rfl) (by intros; rfl) (fun _ _ _ _ _ Ed _ _ hr tk => by exact pd_callX (SD := fun E => ofF E F_field_maps) G_field_maps tk (hr.mono (by omega)) (by rfl) g_field_maps k_field_maps b_field_maps (pda_cons (pw_dat (pd_var (pv 7))) (pda_nil)))))
    (psd_cons (psd_app (pv 2) (pd_met2 (k := k - 2) (de := fun Ed => dCall (ofF Ed F_least_meeting) (dCons (dD (dVar 1)) (dCons (dD (dVar 4)) (dNil)))) (hr.mono (by omega)) hgd (by rfl) g__law_met W__law_met b__law_met sc__law_met rfl (.inl rfl) MG__law_met TBL rfl qual_cx hPP (sc := defScope s__law_made_right) rfl (by decide +kernel) (by rfl) (by intros; rfl) (fun _ _ _ _ _ Ed _ _ hr tk => by exact pd_callX (SD := fun E => ofF E F_least_meeting) G_least_meeting tk (hr.mono (by omega)) (by rfl) g_least_meeting k_least_meeting b_least_meeting (pda_cons (pw_dat (pd_var (pv 1))) (pda_cons (pw_dat (pd_var (pv 4))) (pda_nil))))))
    (psd_cons (psd_app (pv 2) (pd_met2 (k := k - 2) (de := fun Ed => dCall (ofF Ed F_least_meeting) (dCons (dD (dC (.int 2))) (dCons (dD (dVar 4)) (dNil)))) (hr.mono (by omega)) hgd (by rfl) g__law_met W__law_met b__law_met sc__law_met rfl (.inl rfl) MG__law_met TBL rfl qual_cx hPP (sc := defScope s__law_made_right) rfl (by decide +kernel) (by rfl) (by intros; rfl) (fun _ _ _ _ _ Ed _ _ hr tk => by exact pd_callX (SD := fun E => ofF E F_least_meeting) G_least_meeting tk (hr.mono (by omega)) (by rfl) g_least_meeting k_least_meeting b_least_meeting (pda_cons (pw_dat (pd_c pe_int (fun _ _ => .int _))) (pda_cons (pw_dat (pd_var (pv 4))) (pda_nil))))))
    (psd_cons (psd_set (i := 3) nd rfl (by first | exact Or.inl rfl | exact Or.inr rfl) (pd_new (pn_lst (pda_cons (pw_dat (pd_op op_addA (op2_catS) (pd_c pe_str (fun _ _ => .str _)) (pd_callN (call_reprD hgd hr.units) opn_repr (by rfl) z_repr (by decide +kernel) (pda_cons (pw_dat (pd_var (pv 5))) (pda_nil))))) (pda_cons (pw_dat (pd_op op_addA (op2_catS) (pd_c pe_str (fun _ _ => .str _)) (pd_callN (call_reprD hgd hr.units) opn_repr (by rfl) z_repr (by decide +kernel) (pda_cons (pw_dat (pd_var (pv 6))) (pda_nil))))) (pda_cons (pw_dat (pd_c pe_str (fun _ _ => .str _))) (pda_cons (pw_dat (pd_c pe_str (fun _ _ => .str _))) (pda_cons (pw_dat (pd_op op_addA (op2_catS) (pd_c pe_str (fun _ _ => .str _)) (pd_callN (call_reprD hgd hr.units) opn_repr (by rfl) z_repr (by decide +kernel) (pda_cons (pw_dat (pd_var (pv 5))) (pda_nil))))) (pda_nil)))))))))
    (psd_cons (psd_set (i := 3) nd rfl (by first | exact Or.inl rfl | exact Or.inr rfl) (pd_new (pn_cat (pq_var (pv 3)) (pq_dat (pd_new (pn_lst (pda_cons (pw_dat (pd_op op_addA (op2_catS) (pd_c pe_str (fun _ _ => .str _)) (pd_callN (call_reprD hgd hr.units) opn_repr (by rfl) z_repr (by decide +kernel) (pda_cons (pw_dat (pd_var (pv 6))) (pda_nil))))) (pda_nil))))))))
    (pss_frz (psd_one (psd_ret (pd_cmp (op_eqD hr.units) (op2_eq) (pd_var (pv 2)) (pd_new (pn_cat (pq_var (pv 3)) (pq_dat (pd_new (pn_lst (pda_cons (pw_dat (pd_c pe_str (fun _ _ => .str _))) (pda_cons (pw_dat (pd_c pe_str (fun _ _ => .str _))) (pda_cons (pw_dat (pd_op op_addA (op2_catS) (pd_c pe_str (fun _ _ => .str _)) (pd_callN (call_reprD hgd hr.units) opn_repr (by rfl) z_repr (by decide +kernel) (pda_cons (pw_dat (pd_var (pv 7))) (pda_nil))))) (pda_cons (pw_dat (pd_op op_addA (op2_catS) (pd_c pe_str (fun _ _ => .str _)) (pd_callN (call_reprD hgd hr.units) opn_repr (by rfl) z_repr (by decide +kernel) (pda_cons (pw_dat (pd_var (pv 1))) (pda_nil))))) (pda_cons (pw_dat (pd_op op_addA (op2_catS) (pd_c pe_str (fun _ _ => .str _)) (pd_callN (call_reprD hgd hr.units) opn_repr (by rfl) z_repr (by decide +kernel) (pda_cons (pw_dat (pd_var (pv 4))) (pda_nil))))) (pda_nil))))))))))) (nomark _))))))))))))))))))))),
    (les_seq (les_asgG (le_gSeq (le_gsCons (le_gSet) (le_gsCons (le_gSet) (le_gsNil)))) (le_tup (le_cons (le_ix (le_seqE (le_call0 (le_cons (le_var) (le_nil)))) (le_c)) (le_cons (le_ix (le_seqE (le_L (le_lst (le_cons (le_c) (le_cons (le_c) (le_cons (le_c) (le_cons (le_neg (le_c)) (le_cons (le_c) (le_cons (le_c) (le_cons (le_op (leop_I cPow_ok) (le_c) (le_c)) (le_nil))))))))))) (le_op (leop_I cPos_ok) (le_var) (le_c))) (le_nil)))))
    (les_seq (les_asgG (le_gSeq (le_gsCons (le_gSet) (le_gsCons (le_gSet) (le_gsNil)))) (le_tup (le_cons (le_ix (le_seqE (le_L (le_lst (le_cons (le_c) (le_cons (le_c) (le_cons (le_c) (le_cons (le_c) (le_cons (le_neg (le_c)) (le_nil))))))))) (le_op (leop_I cPos_ok) (le_var) (le_c))) (le_cons (le_ix (le_seqE (le_L (le_lst (le_cons (le_c) (le_cons (le_c) (le_cons (le_c) (le_cons (le_c) (le_cons (le_c) (le_cons (le_c) (le_cons (le_c) (le_cons (le_neg (le_c)) (le_cons (le_c) (le_cons (le_op (leop_I cPow_ok) (le_c) (le_c)) (le_nil)))))))))))))) (le_op (leop_I cPos_ok) (le_var) (le_c))) (le_nil)))))
    (les_seq (les_set (le_ix (le_seqE (le_L (le_lst (le_cons (le_c) (le_cons (le_c) (le_cons (le_c) (le_cons (le_c) (le_cons (le_neg (le_c)) (le_cons (le_c) (le_nil)))))))))) (le_op (leop_I cPos_ok) (le_var) (le_c))))
    (les_seq (les_setO (le_lst (le_cons (le_met (fun _ => le_call (le_cons (le_var) (le_cons (le_var) (le_nil))))) (le_nil))))
    (les_seq (les_app (le_met (fun _ => le_call (le_cons (le_c) (le_cons (le_var) (le_nil))))))
    (les_seq (les_app (le_met (fun _ => le_call (le_cons (le_c) (le_cons (le_c) (le_nil))))))
    (les_seq (les_app (le_met (fun _ => le_call (le_cons (le_c) (le_cons (le_c) (le_nil))))))
    (les_seq (les_app (le_met (fun _ => le_call (le_cons (le_var) (le_cons (le_c) (le_nil))))))
    (les_seq (les_app (le_met (fun _ => le_call (le_cons (le_c) (le_cons (le_var) (le_nil))))))
    (les_seq (les_app (le_met (fun _ => le_call (le_cons (le_c) (le_cons (le_c) (le_nil))))))
    (les_seq (les_app (le_met (fun _ => le_call (le_cons (le_c) (le_cons (le_c) (le_nil))))))
    (les_seq (les_app (le_met (fun _ => le_call (le_cons (le_var) (le_nil)))))
    (les_seq (les_app (le_met (fun _ => le_call (le_cons (le_var) (le_cons (le_var) (le_nil))))))
    (les_seq (les_app (le_met (fun _ => le_call (le_cons (le_c) (le_cons (le_var) (le_nil))))))
    (les_seq (les_set (le_L (le_lst (le_cons (le_op (leop_catS) (le_c) (le_opN len_repr (le_cons (le_var) (le_nil)))) (le_cons (le_op (leop_catS) (le_c) (le_opN len_repr (le_cons (le_var) (le_nil)))) (le_cons (le_c) (le_cons (le_c) (le_cons (le_op (leop_catS) (le_c) (le_opN len_repr (le_cons (le_var) (le_nil)))) (le_nil)))))))))
    (les_seq (les_set (le_L (le_catL (le_varQ) (le_seqE (le_L (le_lst (le_cons (le_op (leop_catS) (le_c) (le_opN len_repr (le_cons (le_var) (le_nil)))) (le_nil))))))))
    (les_frz (les_ret (le_op (leop_eq) (le_var) (le_L (le_catL (le_varQ) (le_seqE (le_L (le_lst (le_cons (le_c) (le_cons (le_c) (le_cons (le_op (leop_catS) (le_c) (le_opN len_repr (le_cons (le_var) (le_nil)))) (le_cons (le_op (leop_catS) (le_c) (le_opN len_repr (le_cons (le_var) (le_nil)))) (le_cons (le_op (leop_catS) (le_c) (le_opN len_repr (le_cons (le_var) (le_nil)))) (le_nil))))))))))))))))))))))))))))))⟩
abbrev s_law : Stmt := topS 68
abbrev N_law : List PySem.Str := ["script", "spot", "begin", "turn"]
theorem sc_law : FnScope N_law ["script"] (defScope s_law) := ⟨rfl, rfl, rfl, by decide +kernel, rfl, by decide +kernel, by decide +kernel⟩
def dt_law : DS :=
  dRet (dC (.bool true))
def ft_law : FS :=
  fRet (fC (.bool true))
theorem lt_law : LeS (ofS Dl.E0 ft_law) dt_law := les_ret (le_c)
def db_law : DS :=
  dSeq (dFor (dRange1 (dCons (dD (dOpN fMax2 (dCons (dD (dC (.int 1))) (dCons (dD (dOpN fMin2 (dCons (dD (dC (.int 2))) (dCons (dD (dOpQ fLen (dVarQ 0))) (dNil))))) (dNil))))) (dNil))) (gSet 1) (dSeq (dSet 2 (dUpHat (dCons (dD (dVar 0)) (dCons (dD (dVar 1)) (dNil))) 1000))
    (dFor (dRange2 (dCons (dD (dVar 2)) (dCons (dD (dOp (fI0 fun i j => .int (i + j)) (dVar 2) (dC (.int 48)))) (dNil)))) (gSet 3) (dIf (dOr (dNot (dTru (dCall (ofF Dl.E0 F__law_meetings_right) (dCons (dD (dVar 3)) (dNil))))) (dOr (dNot (dTru (dCall (ofF Dl.E0 F__law_spreads_right) (dCons (dD (dVar 3)) (dNil))))) (dNot (dTru (dCall (ofF Dl.E0 F__law_made_right) (dCons (dD (dVar 3)) (dNil))))))) (dRet (dC (.bool false))) (dNext)))))
    (dt_law)
theorem ok_law {f cc PP : Addr} {fd : FuncData} {k : Nat} {SD : DSp} (F : FunC K "law" "law" s_law cc f fd) (len : ∀ ws Q, SD ws Q → ws.length = 1)
    (z_len : mg "len" = none)
    (z_min : mg "min" = none)
    (z_max : mg "max" = none)
    (z_range : mg "range" = none)
    {f__law_vx_up : Addr} {d__law_vx_up : FuncData} {l__law_vx_up : Nat} (h__law_vx_up : l__law_vx_up ≤ k) (G__law_vx_up : FnOk P w K mg base CX0 l__law_vx_up f__law_vx_up d__law_vx_up ["hat", "total"] spUpR) (g__law_vx_up : mg "_law_vx_up" = some (.ref f__law_vx_up)) (k__law_vx_up : PySem.W.keepIn K (.ref f__law_vx_up) = true) (b__law_vx_up : Binds K d__law_vx_up ["hat", "total"] [])
    {f__law_vx_hat : Addr} {d__law_vx_hat : FuncData} {l__law_vx_hat : Nat} (h__law_vx_hat : l__law_vx_hat ≤ k) (G__law_vx_hat : FnOk P w K mg base CX0 l__law_vx_hat f__law_vx_hat d__law_vx_hat ["script", "spot"] (spHatD K)) (g__law_vx_hat : mg "_law_vx_hat" = some (.ref f__law_vx_hat)) (k__law_vx_hat : PySem.W.keepIn K (.ref f__law_vx_hat) = true) (b__law_vx_hat : Binds K d__law_vx_hat ["script", "spot"] [])
    {f__law_meetings_right : Addr} {d__law_meetings_right : FuncData} {l__law_meetings_right : Nat} (h__law_meetings_right : l__law_meetings_right ≤ k) (G__law_meetings_right : FnG P w K mg base CX0 l__law_meetings_right f__law_meetings_right d__law_meetings_right ["turn"] (spOf K Ps (ofF Dl.E0 F__law_meetings_right))) (g__law_meetings_right : mg "_law_meetings_right" = some (.ref f__law_meetings_right)) (k__law_meetings_right : PySem.W.keepIn K (.ref f__law_meetings_right) = true) (b__law_meetings_right : Binds K d__law_meetings_right ["turn"] [])
    {f__law_spreads_right : Addr} {d__law_spreads_right : FuncData} {l__law_spreads_right : Nat} (h__law_spreads_right : l__law_spreads_right ≤ k) (G__law_spreads_right : FnG P w K mg base CX0 l__law_spreads_right f__law_spreads_right d__law_spreads_right ["turn"] (spOf K Ps (ofF Dl.E0 F__law_spreads_right))) (g__law_spreads_right : mg "_law_spreads_right" = some (.ref f__law_spreads_right)) (k__law_spreads_right : PySem.W.keepIn K (.ref f__law_spreads_right) = true) (b__law_spreads_right : Binds K d__law_spreads_right ["turn"] [])
    {f__law_made_right : Addr} {d__law_made_right : FuncData} {l__law_made_right : Nat} (h__law_made_right : l__law_made_right ≤ k) (G__law_made_right : FnG P w K mg base CX0 l__law_made_right f__law_made_right d__law_made_right ["turn"] (spOf K Ps (ofF Dl.E0 F__law_made_right))) (g__law_made_right : mg "_law_made_right" = some (.ref f__law_made_right)) (k__law_made_right : PySem.W.keepIn K (.ref f__law_made_right) = true) (b__law_made_right : Binds K d__law_made_right ["turn"] [])
    (pu : ∀ ws Qd, SD ws Qd → db_law  { nx := fun _ => Qd .none, rt := Qd } (startD N_law.length ws)) : FnG P w K mg base CX0 (k + 1) f fd ["script"] (spOf K Ps SD) :=
  okDG (N := N_law) F sc_law len fun A outer s H E hgd hr => ⟨_, (have nd := sc_law.nd
    psd_cons (psd_for PassesOwn.never rfl (pid_range1 (by rfl) z_range (pda_cons (pw_dat (pd_callN (call_max2 rfl) opn_max2 (by rfl) z_max Dl.b_max (pda_cons (pw_dat (pd_c pe_int (fun _ _ => .int _))) (pda_cons (pw_dat (pd_callN (call_min2 rfl) opn_min2 (by rfl) z_min Dl.b_min (pda_cons (pw_dat (pd_c pe_int (fun _ _ => .int _))) (pda_cons (pw_dat (pd_len (by rfl) z_len (pq_var (pv 0)))) (pda_nil))))) (pda_nil))))) (pda_nil))) (pgd_name (pg_name (i := 1) nd rfl (by first | exact Or.inl rfl | exact Or.inr rfl))) (psd_cons (psd_set (i := 2) nd rfl (by first | exact Or.inl rfl | exact Or.inr rfl) (pd_upHat G__law_vx_up (hr.mono (by omega)) (by rfl) g__law_vx_up k__law_vx_up b__law_vx_up G__law_vx_hat (hr.mono (by omega)) (by rfl) g__law_vx_hat k__law_vx_hat b__law_vx_hat (pda_cons (pw_dat (pd_var (pv 0))) (pda_cons (pw_dat (pd_var (pv 1))) (pda_nil))) (by decide) (by decide +kernel)))
    (psd_one (psd_for PassesOwn.never rfl (pid_range2 (by rfl) z_range (pda_cons (pw_dat (pd_var (pv 2))) (pda_cons (pw_dat (pd_op op_add (op2_I0 fun _ _ _ _ => .int _) (pd_var (pv 2)) (pd_c pe_int (fun _ _ => .int _)))) (pda_nil)))) (pgd_name (pg_name (i := 3) nd rfl (by first | exact Or.inl rfl | exact Or.inr rfl))) (psd_one (psd_if (PW.pt (pwd_or (ptd_not (ptd_tru (pd_callG G__law_meetings_right hgd (hr.mono (by omega)) (by rfl) g__law_meetings_right k__law_meetings_right b__law_meetings_right (pda_cons (pw_dat (pd_var (pv 3))) (pda_nil))))) (pwd_or (ptd_not (ptd_tru (pd_callG G__law_spreads_right hgd (hr.mono (by omega)) (by rfl) g__law_spreads_right k__law_spreads_right b__law_spreads_right (pda_cons (pw_dat (pd_var (pv 3))) (pda_nil))))) (pwd_or1 (ptd_not (ptd_tru (pd_callG G__law_made_right hgd (hr.mono (by omega)) (by rfl) g__law_made_right k__law_made_right b__law_made_right (pda_cons (pw_dat (pd_var (pv 3))) (pda_nil))))))))) (psd_one (psd_ret (pd_c pe_bl (fun _ _ => .bl _)))) (psd_nil)))))))
    (psd_one (psd_ret (pd_c pe_bl (fun _ _ => .bl _))))), pu⟩
abbrev sI_InvalidNumber : Stmt := inClass (topS 16) 0
theorem scI_InvalidNumber : FnScope ["self", "given"] ["self", "given"] (defScope sI_InvalidNumber) := ⟨rfl, rfl, rfl, by decide +kernel, rfl, by decide +kernel, by decide +kernel⟩
theorem ok_ini_InvalidNumber {f cH : Addr} {fd : FuncData} {C : Addr} (F : L2.Fun K "__init__" "InvalidNumber.__init__" sI_InvalidNumber f fd) (B : HardC K mg cH) (T : OexC K C) (n : PySem.W.findIn K (.ref C) "given" = some none) : FnOk P w K mg base CX0 1 f fd ["self", "given"] (spInit K C "given") := by
  refine F.ok scI_InvalidNumber (fun vs H Q E h => ?_) (fun cdv A outer s H vs Q E hr h => ?_)
  · obtain ⟨a, v, rfl, _⟩ := h
    rfl
  · obtain ⟨a, v, rfl, ha, q⟩ := h
    refine ⟨_, pss_cons (ps_expr (pe_hinit (by rfl) B.g B.s B.r B.f (pa_cons (pv 0) (pa_cons pe_str pa_nil)))) (pss_one (ps_ost (pv 0) (pv 1))), ?_⟩
    exact ⟨_, rfl, a, C, _, rfl, by simp, T, ha, _, rfl, _, rfl, a, C, rfl, T, n, .inl ⟨ha, fun d hd _ => q d hd⟩⟩
abbrev sI_TooMany : Stmt := inClass (topS 17) 0
theorem scI_TooMany : FnScope ["self", "most"] ["self", "most"] (defScope sI_TooMany) := ⟨rfl, rfl, rfl, by decide +kernel, rfl, by decide +kernel, by decide +kernel⟩
theorem ok_ini_TooMany {f cH : Addr} {fd : FuncData} {C : Addr} (F : L2.Fun K "__init__" "TooMany.__init__" sI_TooMany f fd) (B : HardC K mg cH) (T : OexC K C) (n : PySem.W.findIn K (.ref C) "most" = some none) : FnOk P w K mg base CX0 1 f fd ["self", "most"] (spInit K C "most") := by
  refine F.ok scI_TooMany (fun vs H Q E h => ?_) (fun cdv A outer s H vs Q E hr h => ?_)
  · obtain ⟨a, v, rfl, _⟩ := h
    rfl
  · obtain ⟨a, v, rfl, ha, q⟩ := h
    refine ⟨_, pss_cons (ps_expr (pe_hinit (by rfl) B.g B.s B.r B.f (pa_cons (pv 0) (pa_cons pe_str pa_nil)))) (pss_one (ps_ost (pv 0) (pv 1))), ?_⟩
    exact ⟨_, rfl, a, C, _, rfl, by simp, T, ha, _, rfl, _, rfl, a, C, rfl, T, n, .inl ⟨ha, fun d hd _ => q d hd⟩⟩
end
end Q
end
section
set_option Elab.async false
set_option linter.all false
set_option maxRecDepth 100000
set_option maxHeartbeats 1000000
namespace HbH
open PySem PySem.Spec PyProof.Rows L2 HbE
/-- a number below the total, out of the drawer -/
abbrev spUp : Sp := Dl.spUpR
end HbH
open PySem PySem.Spec PyProof.Rows L2 HbE HbH Dl
local macro_rules | `(tactic| lcg_sub) => `(tactic| first
  | ((with_reducible show PE _ (.Constant _ _ _) _); first | exact pe_int | exact pe_str | exact pe_non | exact pe_bl)
  | ((with_reducible show PE _ (.Name _ _) _); first | exact pv 0 | exact pv 1 | exact pv 2 | exact pv 3 | exact pv 4 | exact pv 5 | exact pv 6 | exact pv 7 | exact pv 8)
  | ((with_reducible show PE _ (.BinOp _ .Add _ _) _); first | exact pe_op op_add (by lcg_sub) (by lcg_sub))
  | ((with_reducible show PE _ (.BinOp _ .Sub _ _) _); first | exact pe_op op_sub (by lcg_sub) (by lcg_sub))
  | ((with_reducible show PE _ (.BinOp _ .Mult _ _) _); first | exact pe_op op_mulE (by lcg_sub) (by lcg_sub))
  | ((with_reducible show PE _ (.BinOp _ .Mod _ _) _); first | exact pe_op op_mod (by lcg_sub) (by lcg_sub))
  | ((with_reducible show PE _ (.BinOp _ .FloorDiv _ _) _); first | exact pe_op op_fdivW (by lcg_sub) (by lcg_sub))
  | ((with_reducible show PE _ (.BinOp _ .Pow _ _) _); first | exact pe_op op_powB (by lcg_sub) (by lcg_sub))
  | ((with_reducible show PE _ (.Subscript (.Name "script" _) _ _) _); exact pe_ix ix_list (by lcg_sub) (by lcg_sub) (fun _ _ => rfl))
  | ((with_reducible show PE _ (.Subscript _ _ _) _); first | exact pe_ix ix_any (by lcg_sub) (by lcg_sub) (fun _ _ => rfl))
  | ((with_reducible show PE _ (.UnaryOp .USub _ _) _); first | exact pe_un un_neg (by lcg_sub))
  | ((with_reducible show PE _ (.List _ _) _); first | exact pe_lst (by keq_rows))
  | ((with_reducible show PE _ (.IfExp _ _ _ _) _); first | exact pe_ifExp (by lcg_off) (by lcg_sub) (by lcg_sub))
  | ((with_reducible show PE _ (.Compare _ [.Lt] _ _) _); first | exact pe_cmpR op_lt (by lcg_sub) (by lcg_sub) (nomark _))
  | ((with_reducible show PE _ (.Call (.Name "len" _) _ _ _) _); first | exact pe_callB call_len_seq (by rfl) (by assumption) PySem.boot_len (by keq_rows))
  | ((with_reducible show PE _ (.Call (.Name "int" _) _ _ _) _); first | exact pe_callTy call_intA (by rfl) (by assumption) Dl.b_int (by keq_rows))
  | ((with_reducible show PE _ (.Call (.Name "abs" _) _ _ _) _); first | exact pe_callB call_abs (by rfl) (by assumption) Dl.b_abs (by keq_rows))
  | ((with_reducible show PE _ (.Call (.Name "max" _) _ _ _) _); first | exact pe_callB (call_max2 rfl) (by rfl) (by assumption) Dl.b_max (by keq_rows)))
local macro_rules | `(tactic| keq_rows) => `(tactic| first | ((with_reducible show PA _ [] _); exact pa_nil) | ((with_reducible show PA _ (_ :: _) _); exact pa_cons (by lcg_sub) (by keq_rows)))
local macro_rules | `(tactic| lcg_off) => `(tactic| first
  | ((with_reducible show PT _ (.Compare _ [.Gt] _ _) _); exact pt_cmpR op_gt (by lcg_sub) (by lcg_sub) (nomark _))
  | ((with_reducible show PT _ (.Compare _ [.Lt] _ _) _); exact pt_cmpR op_lt (by lcg_sub) (by lcg_sub) (nomark _)))
local macro_rules | `(tactic| keq_hits) => `(tactic| first
  | ((with_reducible show PS _ (.Return (some _) _) _); exact ps_ret (by lcg_sub))
  | ((with_reducible show PS _ (.If _ _ _ _) _); exact ps_if (by lcg_off) (by lcg_src) (by lcg_src))
  | ((with_reducible show PS _ (.Assign [.Name _ _] _ _) _); first
    | exact ps_set (i := 2) (by assumption) rfl (.inl rfl) (by lcg_sub)
    | exact ps_set (i := 3) (by assumption) rfl (.inl rfl) (by lcg_sub)
    | exact ps_set (i := 4) (by assumption) rfl (.inl rfl) (by lcg_sub)
    | exact ps_set (i := 5) (by assumption) rfl (.inl rfl) (by lcg_sub))
  | ((with_reducible show PS _ (.Assign [.Subscript _ _ _] _ _) _); exact ps_asg (by lcg_sub) (pg_sub (by lcg_sub) (by lcg_sub) set_A)))
local macro_rules | `(tactic| lcg_src) => `(tactic| first
  | ((with_reducible show PSs _ [] _); exact pss_nil)
  | ((with_reducible show PSs _ [_] _); exact pss_one (by keq_hits))
  | ((with_reducible show PSs _ (_ :: _) _); exact pss_cons (by keq_hits) (by lcg_src)))
namespace Q
section
variable {P : Program} {w : World} {K : PySem.W.Frag} {mg : Str → Option Value} {base : Heap} {Ps : TbL}
theorem ok_up {f : Addr} {fd : FuncData} {k : Nat} (F : Fun K "_law_vx_up" "_law_vx_up" s__law_vx_up f fd) (bi : mg "int" = none) : FnOk P w K mg base CX0 (k + 1) f fd ["hat", "total"] spUp := by
  refine F.ok sc__law_vx_up (fun vs H Q E h => ?_) (fun cdv A outer s H vs Q E hr h => ?_)
  · obtain ⟨a, o, t, rfl, _⟩ := h
    rfl
  · obtain ⟨a, o, t, rfl, ha, ⟨g, s0, c, rfl⟩, h0, h1, q⟩ := h
    have nd := sc__law_vx_up.nd
    refine ⟨_, pss_cons (by keq_hits) (by lcg_src), ?_⟩
    have l0 : sq H a = some [.int g, .int s0, .int c] := sq_lst ha
    simp [tSeq, tIfS, tTest, tOp, tUn, rU, tVar, tC, tCB, tCons, tNil, rI0, rI, tAsg, gName, gSub, tRet, L2.start, tNext, tLst, tTup, tIf, rIxA, rIntA, rSetA, sq_updL, sq_updT, upd_same, upd_upd2, atI, ixN, l0, ha]
    split
    · exact ⟨h0, ⟨h0, h1⟩, q _ _ (Int.emod_nonneg _ (by omega)) (Int.emod_lt_of_pos _ h0) ⟨_, _, _, rfl⟩⟩
    · repeat (first | exact ⟨h0, q _ _ (Int.emod_nonneg _ (by omega)) (Int.emod_lt_of_pos _ h0) ⟨_, _, _, rfl⟩⟩ | refine And.intro (by first | exact mulL (by decide) | exact mulR (by decide) | exact mulL (modL _ (by decide) (by decide)) | exact mulR (modL _ (by decide) (by decide)) | exact ⟨by decide, by decide +kernel⟩) ?_)
theorem ok_hat {f : Addr} {fd : FuncData} {k : Nat} (F : Fun K "_law_vx_hat" "_law_vx_hat" s__law_vx_hat f fd) (bi : mg "int" = none) (bl : mg "len" = none) (ba : mg "abs" = none) (bm : mg "max" = none) : FnOk P w K mg base CX0 (k + 1) f fd ["script", "spot"] (spHatD K) := by
  refine F.ok sc__law_vx_hat (fun vs H Q E h => ?_) (fun cdv A outer s H vs Q E hr h => ?_)
  · obtain ⟨a, ns, i, rfl, _⟩ := h
    rfl
  · obtain ⟨a, ns, i, rfl, ha, hi, q⟩ := h
    have nd := sc__law_vx_hat.nd
    refine ⟨_, pss_cons (by keq_hits) (by lcg_src), ?_⟩
    simp [tSeq, tIfS, tTest, tOp, tUn, rU, tVar, tC, tCB, tCons, tNil, rI0, rI, tAsg, gName, gSub, tRet, L2.start, tNext, tLst, tTup, tIf, rIxA, rIntA, rSetA, sq_updL, sq_updT, upd_same, upd_upd2, atI, ixN]
    refine ⟨ns.map V.int, .inl ha, ?_⟩
    simp only [List.length_map]
    split
    · rename_i hlt
      refine ⟨a, ns.map V.int, i, .int ns[i], rfl, rfl, ha, atI_nat (by simp [hlt]), ?_⟩
      repeat (first | refine And.intro (by first | exact ⟨by decide, by decide +kernel⟩ | exact mulL (by decide) | exact mulR (by decide) | exact Or.inr (show (_ : Int) ≤ _ by decide +kernel) | exact (by decide : 3 ≤ sizeLine)) ?_ | refine ⟨_, _, ⟨rfl, rfl⟩, ?_⟩)
      exact fun p hp => q _ _ hp ⟨_, _, _, rfl⟩
    · repeat (first | refine And.intro (by first | exact ⟨by decide, by decide +kernel⟩ | exact mulL (by decide) | exact mulR (by decide) | exact Or.inr (show (_ : Int) ≤ _ by decide +kernel) | exact (by decide : 3 ≤ sizeLine)) ?_ | refine ⟨_, _, ⟨rfl, rfl⟩, ?_⟩)
      exact fun p hp => q _ _ hp ⟨_, _, _, rfl⟩
/-- .. over data -/
def SD_up : DSp := fun ws Q => ∃ t : Int, ws = [.hat, .dat (.int t)] ∧ 0 < t ∧ t.natAbs.log2 < 9000 ∧ ∀ r : Int, 0 ≤ r → r < t → Q (.int r)
theorem up_data {vs : List V} {H : Hp} {Q : VK} {E : XK} (h : spOf K Ps SD_up vs H Q E) : spUp vs H Q E := by
  obtain ⟨M, hs, ws, Qd, wf, p, ⟨t, rfl, h0, h1, q⟩, k⟩ := h
  cases p with
  | cons p1 p2 =>
    cases p2 with
    | cons p2 p3 =>
      cases p3
      obtain ⟨a, rfl, ha⟩ := p1
      cases p2
      obtain ⟨mA, o, ho, hat⟩ := wf.hat a ha
      refine ⟨a, o, t, rfl, ho, hat, h0, h1, fun r o' r0 r1 hat' => k _ _ _ (q r r0 r1) ?_ (.int r)⟩
      refine ⟨fun b u e n1 n2 => by rw [upd_ne (show b ≠ a from fun z => n1 (by rw [z]; exact ha))]; exact e, fun b hb e => ?_, fun b hb e => ?_⟩
      · by_cases z : b = a
        · rw [z, upd_same]; exact ⟨_, rfl, hat'⟩
        · rw [upd_ne z]; exact e
      · obtain ⟨_, _, _, e2⟩ := hat
        obtain ⟨ps, e1⟩ := e.has
        have n1 : b.1 ≠ a := fun z => by rw [z, ho, e2] at e1; cases e1
        exact e.keep (upd_ne n1) fun c q h => by
          have : c ≠ a := fun z => by rw [z, ho, e2] at h; exact codeO_lst (Option.some.inj h).symm
          rw [upd_ne this]; exact h
end
end Q
end
section
set_option Elab.async false
set_option linter.all false
set_option maxRecDepth 100000
set_option maxHeartbeats 4000000
set_option exponentiation.threshold 20000
namespace Q
open PySem PySem.Spec PyProof.Rows L2 HbE Evl Dl RZ Gx
theorem op_at {g : PyData → PyData → Option PyData} {fa fb : FE} {σ : Sd} {x y z : PyData} (h1 : fa σ = .ok x) (h2 : fb σ = .ok y) (k : g x y = some z) : fOp g fa fb σ = .ok z := by
  simp only [fOp, h1, h2, Rs.bind, k, Rs.ofO]
theorem tup_at {aa : FA} {σ : Sd} {ds : List PyData} (h : aa σ = .ok ds) (hl : lim ds.length = true) : fTup aa σ = .ok (.tuple ds) := by
  simp only [fTup, h, Rs.bind, hl, if_true]
theorem ret_at {fe : FE} {σ : Sd} {d : PyData} (h : fe σ = .ok d) : fRet fe σ = .ok (.rt d) := by
  simp only [fRet, h, Rs.bind]
theorem ixq_at {fe fi : FE} {σ : Sd} {d : PyData} {r : Rs PyData} (h : fe σ = .ok d) (k : fIx (fSeqE (fC d)) fi σ = r) : fIx (fSeqE fe) fi σ = r := by
  rw [← k]
  simp only [fIx, fSeqE, fC, h]
theorem fn_at {n N : Nat} {fs : FS} {ds : List PyData} {d : PyData} (h : Nat.beq ds.length n = true) (k : fs (startD N (ds.map WD.dat)) = .ok (.rt d)) : mkF n N fs ds = .ok d := by
  have e : ds.length = n := Nat.eq_of_beq_eq_true h
  simp only [mkF, e, if_true, k, Rs.bind]
  rfl
theorem pick_const {σ : Sd} {t m : Nat} {fl : FE} {ds : List PyData} (h0 : σ[0]? = some (some (.dat (.int (t : Nat))))) (hl : fl σ = .ok (.list ds)) (hm : ds.length = m) (h : 0 < m) :
    fIx (fSeqE fl) (fOp (gI cPos fun i j => .int (i % j)) (fVar 0) (fC (.int (m : Nat)))) σ = .ok (pick t (.list ds)) := by
  subst hm
  have lt : t % ds.length < ds.length := Nat.mod_lt _ h
  have z : ((t : Int) % (ds.length : Int)) = ((t % ds.length : Nat) : Int) := by omega
  have p : (0 : Int) < (ds.length : Int) := by omega
  simp only [Rs.bind, fIx, fSeqE, fOp, fVar, fC, gI, h0, hl, asQ_list, Rs.ofO, cPos, p, decide_true, if_true]
  rw [z, asI_int]
  show Rs.ofO (atI ds _) = _
  rw [atI_at (List.getElem?_eq_getElem lt)]
  rw [pick_list h]
  rfl
theorem catL_at {fq fr : FQ} {σ : Sd} {xs ys : List PyData} (h1 : fq σ = .ok (true, xs)) (h2 : fr σ = .ok (true, ys)) (hl : lim (xs.length + ys.length) = true) : fCatL fq fr σ = .ok (xs ++ ys) := by
  simp only [fCatL, h1, h2, Rs.bind, hl, Bool.and_self, if_true]
theorem seqL_at {la : FA} {σ : Sd} {ds : List PyData} (h : la σ = .ok ds) : fSeqE (fL la) σ = .ok (true, ds) := by
  simp only [fSeqE, fL, h, Rs.bind, asQ_list]
theorem lst_at {aa : FA} {σ : Sd} {ds : List PyData} (h : aa σ = .ok ds) (hl : lim ds.length = true) : fLst aa σ = .ok ds := by
  simp only [fLst, h, Rs.bind, hl, if_true]
theorem fL_at {la : FA} {σ : Sd} {ds : List PyData} (h : la σ = .ok ds) : fL la σ = .ok (.list ds) := by
  simp only [fL, h, Rs.bind]
theorem gEq_self {d : PyData} (h : SeqAt.shaped d = true) : gEq false d d = some (.bool true) := by
  simp only [gEq, h, Bool.and_self, if_true, SeqAt.eqv_refl d (SeqAt.canLay_of_shaped h)]
  rfl
def W_numbers : List PyData := [.none, .int 0, .int 17, .int (-1), .bool true, .str (PySem.Str.ofString "2"), .tuple [.int 2], .int 1000000000000000000000000000000000000000000000000000000000000, .list [], .bool false]
def W_maps : List PyData := [.none, .tuple [], .tuple [.tuple [.int 0]], .tuple [.tuple [.int 0, .int 1, .int 2]], .tuple [.tuple [.int 0, .int 1], .tuple [.int 0, .int 1, .int 1]], .tuple [.tuple [.int 0, .bool true]], .list [.tuple [.int 0, .int 1]], .tuple [.tuple [.int 0, .int (-1)]], .tuple [.int 0, .int 1], .tuple (List.replicate 65 (.tuple [.int 0, .int 1])), .tuple [.tuple (List.replicate 33 (.int 0))], .int 1]
def W_draws : List PyData := [.none, .tuple [.int 2, .tuple [.int 1, .int 1]], .tuple [.int 1, .tuple [.int 0, .int 0, .int 0]], .tuple [.int 2, .tuple [.int 1, .int 1, .int 1]], .tuple [.int 1, .tuple [.int 2, .int (-1), .int 0]], .tuple [.int 0, .tuple [.int 0, .int 0, .int 0]], .tuple [.int 1, .tuple [.bool true, .int 0, .int 0]], .tuple [.int 1, .list [.int 1, .int 0, .int 0]], .tuple []]
def W_points : List PyData := [.none, .int 3, .int (-1), .bool true, .str (PySem.Str.ofString "0"), .tuple [.int 0], .int 1000000000000000000000000000000000000000000000000000000000000, .list [.int 0]]
theorem wrong_run (t : Nat) : fs__law_wrong [some (.dat (.int (t : Nat))), none, none, none, none, none] = .ok (.rt (.list [pick t (.list W_numbers), pick t (.list W_maps), pick t (.list W_draws), pick t (.list W_points)])) := by
  unfold fs__law_wrong
  refine fseq_nx (σ' := [some (.dat (.int (t : Nat))), some (.dat (.list [.none, .int 0, .int 17, .int (-1), .bool true, .str (PySem.Str.ofString "2"), .tuple [.int 2], .int 1000000000000000000000000000000000000000000000000000000000000, .list [], .bool false])), none, none, none, none]) (by kernel_rfl) ?_
  refine fseq_nx (σ' := [some (.dat (.int (t : Nat))), some (.dat (.list [.none, .int 0, .int 17, .int (-1), .bool true, .str (PySem.Str.ofString "2"), .tuple [.int 2], .int 1000000000000000000000000000000000000000000000000000000000000, .list [], .bool false])), some (.dat (.list [.none, .tuple [], .tuple [.tuple [.int 0]], .tuple [.tuple [.int 0, .int 1, .int 2]], .tuple [.tuple [.int 0, .int 1], .tuple [.int 0, .int 1, .int 1]], .tuple [.tuple [.int 0, .bool true]], .list [.tuple [.int 0, .int 1]], .tuple [.tuple [.int 0, .int (-1)]]])), none, none, none]) (by kernel_rfl) ?_
  refine fseq_nx (σ' := [some (.dat (.int (t : Nat))), some (.dat (.list [.none, .int 0, .int 17, .int (-1), .bool true, .str (PySem.Str.ofString "2"), .tuple [.int 2], .int 1000000000000000000000000000000000000000000000000000000000000, .list [], .bool false])), some (.dat (.list [.none, .tuple [], .tuple [.tuple [.int 0]], .tuple [.tuple [.int 0, .int 1, .int 2]], .tuple [.tuple [.int 0, .int 1], .tuple [.int 0, .int 1, .int 1]], .tuple [.tuple [.int 0, .bool true]], .list [.tuple [.int 0, .int 1]], .tuple [.tuple [.int 0, .int (-1)]], .tuple [.int 0, .int 1], .tuple (List.replicate 65 (.tuple [.int 0, .int 1])), .tuple [.tuple (List.replicate 33 (.int 0))], .int 1])), none, none, none]) (by kernel_rfl) ?_
  refine fseq_nx (σ' := [some (.dat (.int (t : Nat))), some (.dat (.list [.none, .int 0, .int 17, .int (-1), .bool true, .str (PySem.Str.ofString "2"), .tuple [.int 2], .int 1000000000000000000000000000000000000000000000000000000000000, .list [], .bool false])), some (.dat (.list [.none, .tuple [], .tuple [.tuple [.int 0]], .tuple [.tuple [.int 0, .int 1, .int 2]], .tuple [.tuple [.int 0, .int 1], .tuple [.int 0, .int 1, .int 1]], .tuple [.tuple [.int 0, .bool true]], .list [.tuple [.int 0, .int 1]], .tuple [.tuple [.int 0, .int (-1)]], .tuple [.int 0, .int 1], .tuple (List.replicate 65 (.tuple [.int 0, .int 1])), .tuple [.tuple (List.replicate 33 (.int 0))], .int 1])), some (.dat (.list [.none, .tuple [.int 2, .tuple [.int 1, .int 1]], .tuple [.int 1, .tuple [.int 0, .int 0, .int 0]], .tuple [.int 2, .tuple [.int 1, .int 1, .int 1]], .tuple [.int 1, .tuple [.int 2, .int (-1), .int 0]], .tuple [.int 0, .tuple [.int 0, .int 0, .int 0]]])), none, none]) (by kernel_rfl) ?_
  refine fseq_nx (σ' := [some (.dat (.int (t : Nat))), some (.dat (.list [.none, .int 0, .int 17, .int (-1), .bool true, .str (PySem.Str.ofString "2"), .tuple [.int 2], .int 1000000000000000000000000000000000000000000000000000000000000, .list [], .bool false])), some (.dat (.list [.none, .tuple [], .tuple [.tuple [.int 0]], .tuple [.tuple [.int 0, .int 1, .int 2]], .tuple [.tuple [.int 0, .int 1], .tuple [.int 0, .int 1, .int 1]], .tuple [.tuple [.int 0, .bool true]], .list [.tuple [.int 0, .int 1]], .tuple [.tuple [.int 0, .int (-1)]], .tuple [.int 0, .int 1], .tuple (List.replicate 65 (.tuple [.int 0, .int 1])), .tuple [.tuple (List.replicate 33 (.int 0))], .int 1])), some (.dat (.list [.none, .tuple [.int 2, .tuple [.int 1, .int 1]], .tuple [.int 1, .tuple [.int 0, .int 0, .int 0]], .tuple [.int 2, .tuple [.int 1, .int 1, .int 1]], .tuple [.int 1, .tuple [.int 2, .int (-1), .int 0]], .tuple [.int 0, .tuple [.int 0, .int 0, .int 0]], .tuple [.int 1, .tuple [.bool true, .int 0, .int 0]], .tuple [.int 1, .list [.int 1, .int 0, .int 0]], .tuple []])), none, none]) (by kernel_rfl) ?_
  refine fseq_nx (σ' := [some (.dat (.int (t : Nat))), some (.dat (.list [.none, .int 0, .int 17, .int (-1), .bool true, .str (PySem.Str.ofString "2"), .tuple [.int 2], .int 1000000000000000000000000000000000000000000000000000000000000, .list [], .bool false])), some (.dat (.list [.none, .tuple [], .tuple [.tuple [.int 0]], .tuple [.tuple [.int 0, .int 1, .int 2]], .tuple [.tuple [.int 0, .int 1], .tuple [.int 0, .int 1, .int 1]], .tuple [.tuple [.int 0, .bool true]], .list [.tuple [.int 0, .int 1]], .tuple [.tuple [.int 0, .int (-1)]], .tuple [.int 0, .int 1], .tuple (List.replicate 65 (.tuple [.int 0, .int 1])), .tuple [.tuple (List.replicate 33 (.int 0))], .int 1])), some (.dat (.list [.none, .tuple [.int 2, .tuple [.int 1, .int 1]], .tuple [.int 1, .tuple [.int 0, .int 0, .int 0]], .tuple [.int 2, .tuple [.int 1, .int 1, .int 1]], .tuple [.int 1, .tuple [.int 2, .int (-1), .int 0]], .tuple [.int 0, .tuple [.int 0, .int 0, .int 0]], .tuple [.int 1, .tuple [.bool true, .int 0, .int 0]], .tuple [.int 1, .list [.int 1, .int 0, .int 0]], .tuple []])), some (.dat (.list [.none, .int 3, .int (-1), .bool true, .str (PySem.Str.ofString "0"), .tuple [.int 0], .int 1000000000000000000000000000000000000000000000000000000000000, .list [.int 0]])), none]) (by kernel_rfl) ?_
  have q := pick_all (t := t) (i := 5) (it := fItS (fTup (fCons (fVar 1) (fCons (fVar 2) (fCons (fVar 3) (fCons (fVar 4) (fNil))))))) (σ := [some (.dat (.int (t : Nat))), some (.dat (.list [.none, .int 0, .int 17, .int (-1), .bool true, .str (PySem.Str.ofString "2"), .tuple [.int 2], .int 1000000000000000000000000000000000000000000000000000000000000, .list [], .bool false])), some (.dat (.list [.none, .tuple [], .tuple [.tuple [.int 0]], .tuple [.tuple [.int 0, .int 1, .int 2]], .tuple [.tuple [.int 0, .int 1], .tuple [.int 0, .int 1, .int 1]], .tuple [.tuple [.int 0, .bool true]], .list [.tuple [.int 0, .int 1]], .tuple [.tuple [.int 0, .int (-1)]], .tuple [.int 0, .int 1], .tuple (List.replicate 65 (.tuple [.int 0, .int 1])), .tuple [.tuple (List.replicate 33 (.int 0))], .int 1])), some (.dat (.list [.none, .tuple [.int 2, .tuple [.int 1, .int 1]], .tuple [.int 1, .tuple [.int 0, .int 0, .int 0]], .tuple [.int 2, .tuple [.int 1, .int 1, .int 1]], .tuple [.int 1, .tuple [.int 2, .int (-1), .int 0]], .tuple [.int 0, .tuple [.int 0, .int 0, .int 0]], .tuple [.int 1, .tuple [.bool true, .int 0, .int 0]], .tuple [.int 1, .list [.int 1, .int 0, .int 0]], .tuple []])), some (.dat (.list [.none, .int 3, .int (-1), .bool true, .str (PySem.Str.ofString "0"), .tuple [.int 0], .int 1000000000000000000000000000000000000000000000000000000000000, .list [.int 0]])), none]) (ds := [.list W_numbers, .list W_maps, .list W_draws, .list W_points]) (by kernel_rfl) (by kernel_rfl) rfl (by show 5 < _; simp [wipeD]) (by decide) (by kernel_rfl)
  show (Rs.bind (Rs.bind (fLc _ _ _ _ _ _) _) _) = _
  rw [q]
  rfl
theorem wrong_at (t : Nat) : F__law_wrong [.int (t : Nat)] = .ok (.list [pick t (.list W_numbers), pick t (.list W_maps), pick t (.list W_draws), pick t (.list W_points)]) := fn_at rfl (wrong_run t)
end Q
end
section
set_option Elab.async false
set_option linter.all false
set_option maxRecDepth 100000
set_option maxHeartbeats 4000000
set_option exponentiation.threshold 20000
namespace Q
open PySem PySem.Spec PyProof.Rows L2 HbE Evl Dl RZ Gx
theorem tail_law_meetings_right (t : Nat) : fs__law_meetings_right [some (.dat (.int (t : Nat))), none, none, none, none, none, none, none, none, none] = .ok (.rt (.bool true)) := by
  unfold fs__law_meetings_right
  refine fseq_nx (σ' := [some (.dat (.int (t : Nat))), none, none, some (.dat (.tuple [.tuple [.int 0, .int 1, .int 1], .tuple [.int 1, .int 1, .int 0]])), none, none, some (.dat (pick t (.list W_numbers))), some (.dat (pick t (.list W_maps))), some (.dat (pick t (.list W_draws))), some (.dat (pick t (.list W_points)))]) (asg_at (d := .tuple [.tuple [.tuple [.int 0, .int 1, .int 1], .tuple [.int 1, .int 1, .int 0]], .list [pick t (.list W_numbers), pick t (.list W_maps), pick t (.list W_draws), pick t (.list W_points)]]) (tup_at (cons_at (by kernel_rfl) (cons_at (call0_at (ds := [.int (t : Nat)]) (by kernel_rfl) (wrong_at t)) rfl)) rfl) (by kernel_rfl)) ?_
  have h_M := pick_mem (t := t) (ds := W_numbers) (by decide)
  generalize pick t (.list W_numbers) = v_M at h_M ⊢
  have h_bad := pick_mem (t := t) (ds := W_maps) (by decide)
  generalize pick t (.list W_maps) = v_bad at h_bad ⊢
  have h_p := pick_mem (t := t) (ds := W_draws) (by decide)
  generalize pick t (.list W_draws) = v_p at h_p ⊢
  have h_one := pick_mem (t := t) (ds := W_points) (by decide)
  generalize pick t (.list W_points) = v_one at h_one ⊢
  refine fseq_nx (σ' := [some (.dat (.int (t : Nat))), some (.own [.str ((PySem.Str.ofString "number ") ++ PyData.shown (v_M))]), none, some (.dat (.tuple [.tuple [.int 0, .int 1, .int 1], .tuple [.int 1, .int 1, .int 0]])), none, none, some (.dat (v_M)), some (.dat (v_bad)), some (.dat (v_p)), some (.dat (v_one))]) ?_ ?_
  · exact (by
    revert v_M
    exact (anF (anC (by kernel_rfl) (anC (by kernel_rfl) (anC (by kernel_rfl) (anC (by kernel_rfl) (anC (by kernel_rfl) (anC (by kernel_rfl) (anC (by kernel_rfl) (anC (by kernel_rfl) (anC (by kernel_rfl) (anC (by kernel_rfl) (anN)))))))))))))
  refine fseq_nx (σ' := [some (.dat (.int (t : Nat))), some (.own [.str ((PySem.Str.ofString "number ") ++ PyData.shown (v_M)), .str (PySem.Str.ofString "maps")]), none, some (.dat (.tuple [.tuple [.int 0, .int 1, .int 1], .tuple [.int 1, .int 1, .int 0]])), none, none, some (.dat (v_M)), some (.dat (v_bad)), some (.dat (v_p)), some (.dat (v_one))]) ?_ ?_
  · exact (by
    revert v_bad
    exact (anF (anC (by kernel_rfl) (anC (by kernel_rfl) (anC (by kernel_rfl) (anC (by kernel_rfl) (anC (by kernel_rfl) (anC (by kernel_rfl) (anC (by kernel_rfl) (anC (by kernel_rfl) (anC (by kernel_rfl) (anC (by kernel_rfl) (anC (by kernel_rfl) (anC (by kernel_rfl) (anN)))))))))))))))
  refine fseq_nx (σ' := [some (.dat (.int (t : Nat))), some (.own [.str ((PySem.Str.ofString "number ") ++ PyData.shown (v_M)), .str (PySem.Str.ofString "maps"), .str ((PySem.Str.ofString "number ") ++ PyData.shown (v_one))]), none, some (.dat (.tuple [.tuple [.int 0, .int 1, .int 1], .tuple [.int 1, .int 1, .int 0]])), none, none, some (.dat (v_M)), some (.dat (v_bad)), some (.dat (v_p)), some (.dat (v_one))]) ?_ ?_
  · exact (by
    revert v_one
    exact (anF (anC (by kernel_rfl) (anC (by kernel_rfl) (anC (by kernel_rfl) (anC (by kernel_rfl) (anC (by kernel_rfl) (anC (by kernel_rfl) (anC (by kernel_rfl) (anC (by kernel_rfl) (anN)))))))))))
  refine fseq_nx (σ' := [some (.dat (.int (t : Nat))), some (.own [.str ((PySem.Str.ofString "number ") ++ PyData.shown (v_M)), .str (PySem.Str.ofString "maps"), .str ((PySem.Str.ofString "number ") ++ PyData.shown (v_one)), .str ((PySem.Str.ofString "number ") ++ PyData.shown (v_one))]), none, some (.dat (.tuple [.tuple [.int 0, .int 1, .int 1], .tuple [.int 1, .int 1, .int 0]])), none, none, some (.dat (v_M)), some (.dat (v_bad)), some (.dat (v_p)), some (.dat (v_one))]) ?_ ?_
  · exact (by
    revert v_one
    exact (anF (anC (by kernel_rfl) (anC (by kernel_rfl) (anC (by kernel_rfl) (anC (by kernel_rfl) (anC (by kernel_rfl) (anC (by kernel_rfl) (anC (by kernel_rfl) (anC (by kernel_rfl) (anN)))))))))))
  refine fseq_nx (σ' := [some (.dat (.int (t : Nat))), some (.own [.str ((PySem.Str.ofString "number ") ++ PyData.shown (v_M)), .str (PySem.Str.ofString "maps"), .str ((PySem.Str.ofString "number ") ++ PyData.shown (v_one)), .str ((PySem.Str.ofString "number ") ++ PyData.shown (v_one)), .str (PySem.Str.ofString "fine")]), none, some (.dat (.tuple [.tuple [.int 0, .int 1, .int 1], .tuple [.int 1, .int 1, .int 0]])), none, none, some (.dat (v_M)), some (.dat (v_bad)), some (.dat (v_p)), some (.dat (v_one))]) ?_ ?_
  · exact (by kernel_rfl)
  refine fseq_nx (σ' := [some (.dat (.int (t : Nat))), some (.own [.str ((PySem.Str.ofString "number ") ++ PyData.shown (v_M)), .str (PySem.Str.ofString "maps"), .str ((PySem.Str.ofString "number ") ++ PyData.shown (v_one)), .str ((PySem.Str.ofString "number ") ++ PyData.shown (v_one)), .str (PySem.Str.ofString "fine"), .str (PySem.Str.ofString "maps")]), none, some (.dat (.tuple [.tuple [.int 0, .int 1, .int 1], .tuple [.int 1, .int 1, .int 0]])), none, none, some (.dat (v_M)), some (.dat (v_bad)), some (.dat (v_p)), some (.dat (v_one))]) ?_ ?_
  · exact (by kernel_rfl)
  refine fseq_nx (σ' := [some (.dat (.int (t : Nat))), some (.own [.str ((PySem.Str.ofString "number ") ++ PyData.shown (v_M)), .str (PySem.Str.ofString "maps"), .str ((PySem.Str.ofString "number ") ++ PyData.shown (v_one)), .str ((PySem.Str.ofString "number ") ++ PyData.shown (v_one)), .str (PySem.Str.ofString "fine"), .str (PySem.Str.ofString "maps"), .str ((PySem.Str.ofString "number ") ++ PyData.shown (v_M))]), none, some (.dat (.tuple [.tuple [.int 0, .int 1, .int 1], .tuple [.int 1, .int 1, .int 0]])), none, none, some (.dat (v_M)), some (.dat (v_bad)), some (.dat (v_p)), some (.dat (v_one))]) ?_ ?_
  · exact (by
    revert v_M
    exact (anF (anC (by kernel_rfl) (anC (by kernel_rfl) (anC (by kernel_rfl) (anC (by kernel_rfl) (anC (by kernel_rfl) (anC (by kernel_rfl) (anC (by kernel_rfl) (anC (by kernel_rfl) (anC (by kernel_rfl) (anC (by kernel_rfl) (anN)))))))))))))
  refine fseq_nx (σ' := [some (.dat (.int (t : Nat))), some (.own [.str ((PySem.Str.ofString "number ") ++ PyData.shown (v_M)), .str (PySem.Str.ofString "maps"), .str ((PySem.Str.ofString "number ") ++ PyData.shown (v_one)), .str ((PySem.Str.ofString "number ") ++ PyData.shown (v_one)), .str (PySem.Str.ofString "fine"), .str (PySem.Str.ofString "maps"), .str ((PySem.Str.ofString "number ") ++ PyData.shown (v_M)), .str (PySem.Str.ofString "maps")]), none, some (.dat (.tuple [.tuple [.int 0, .int 1, .int 1], .tuple [.int 1, .int 1, .int 0]])), none, none, some (.dat (v_M)), some (.dat (v_bad)), some (.dat (v_p)), some (.dat (v_one))]) ?_ ?_
  · exact (by
    revert v_bad
    exact (anF (anC (by kernel_rfl) (anC (by kernel_rfl) (anC (by kernel_rfl) (anC (by kernel_rfl) (anC (by kernel_rfl) (anC (by kernel_rfl) (anC (by kernel_rfl) (anC (by kernel_rfl) (anC (by kernel_rfl) (anC (by kernel_rfl) (anC (by kernel_rfl) (anC (by kernel_rfl) (anN)))))))))))))))
  refine fseq_nx (σ' := [some (.dat (.int (t : Nat))), some (.own [.str ((PySem.Str.ofString "number ") ++ PyData.shown (v_M)), .str (PySem.Str.ofString "maps"), .str ((PySem.Str.ofString "number ") ++ PyData.shown (v_one)), .str ((PySem.Str.ofString "number ") ++ PyData.shown (v_one)), .str (PySem.Str.ofString "fine"), .str (PySem.Str.ofString "maps"), .str ((PySem.Str.ofString "number ") ++ PyData.shown (v_M)), .str (PySem.Str.ofString "maps"), .str ((PySem.Str.ofString "number ") ++ PyData.shown (v_M))]), none, some (.dat (.tuple [.tuple [.int 0, .int 1, .int 1], .tuple [.int 1, .int 1, .int 0]])), none, none, some (.dat (v_M)), some (.dat (v_bad)), some (.dat (v_p)), some (.dat (v_one))]) ?_ ?_
  · exact (by
    revert v_M
    exact (anF (anC (by kernel_rfl) (anC (by kernel_rfl) (anC (by kernel_rfl) (anC (by kernel_rfl) (anC (by kernel_rfl) (anC (by kernel_rfl) (anC (by kernel_rfl) (anC (by kernel_rfl) (anC (by kernel_rfl) (anC (by kernel_rfl) (anN)))))))))))))
  refine fseq_nx (σ' := [some (.dat (.int (t : Nat))), some (.own [.str ((PySem.Str.ofString "number ") ++ PyData.shown (v_M)), .str (PySem.Str.ofString "maps"), .str ((PySem.Str.ofString "number ") ++ PyData.shown (v_one)), .str ((PySem.Str.ofString "number ") ++ PyData.shown (v_one)), .str (PySem.Str.ofString "fine"), .str (PySem.Str.ofString "maps"), .str ((PySem.Str.ofString "number ") ++ PyData.shown (v_M)), .str (PySem.Str.ofString "maps"), .str ((PySem.Str.ofString "number ") ++ PyData.shown (v_M)), .str (PySem.Str.ofString "maps")]), none, some (.dat (.tuple [.tuple [.int 0, .int 1, .int 1], .tuple [.int 1, .int 1, .int 0]])), none, none, some (.dat (v_M)), some (.dat (v_bad)), some (.dat (v_p)), some (.dat (v_one))]) ?_ ?_
  · exact (by
    revert v_bad
    exact (anF (anC (by kernel_rfl) (anC (by kernel_rfl) (anC (by kernel_rfl) (anC (by kernel_rfl) (anC (by kernel_rfl) (anC (by kernel_rfl) (anC (by kernel_rfl) (anC (by kernel_rfl) (anC (by kernel_rfl) (anC (by kernel_rfl) (anC (by kernel_rfl) (anC (by kernel_rfl) (anN)))))))))))))))
  refine fseq_nx (σ' := [some (.dat (.int (t : Nat))), some (.own [.str ((PySem.Str.ofString "number ") ++ PyData.shown (v_M)), .str (PySem.Str.ofString "maps"), .str ((PySem.Str.ofString "number ") ++ PyData.shown (v_one)), .str ((PySem.Str.ofString "number ") ++ PyData.shown (v_one)), .str (PySem.Str.ofString "fine"), .str (PySem.Str.ofString "maps"), .str ((PySem.Str.ofString "number ") ++ PyData.shown (v_M)), .str (PySem.Str.ofString "maps"), .str ((PySem.Str.ofString "number ") ++ PyData.shown (v_M)), .str (PySem.Str.ofString "maps"), .str ((PySem.Str.ofString "number ") ++ PyData.shown (v_M))]), none, some (.dat (.tuple [.tuple [.int 0, .int 1, .int 1], .tuple [.int 1, .int 1, .int 0]])), none, none, some (.dat (v_M)), some (.dat (v_bad)), some (.dat (v_p)), some (.dat (v_one))]) ?_ ?_
  · exact (by
    revert v_M
    exact (anF (anC (by kernel_rfl) (anC (by kernel_rfl) (anC (by kernel_rfl) (anC (by kernel_rfl) (anC (by kernel_rfl) (anC (by kernel_rfl) (anC (by kernel_rfl) (anC (by kernel_rfl) (anC (by kernel_rfl) (anC (by kernel_rfl) (anN)))))))))))))
  refine fseq_nx (σ' := [some (.dat (.int (t : Nat))), some (.own [.str ((PySem.Str.ofString "number ") ++ PyData.shown (v_M)), .str (PySem.Str.ofString "maps"), .str ((PySem.Str.ofString "number ") ++ PyData.shown (v_one)), .str ((PySem.Str.ofString "number ") ++ PyData.shown (v_one)), .str (PySem.Str.ofString "fine"), .str (PySem.Str.ofString "maps"), .str ((PySem.Str.ofString "number ") ++ PyData.shown (v_M)), .str (PySem.Str.ofString "maps"), .str ((PySem.Str.ofString "number ") ++ PyData.shown (v_M)), .str (PySem.Str.ofString "maps"), .str ((PySem.Str.ofString "number ") ++ PyData.shown (v_M)), .str (PySem.Str.ofString "maps")]), none, some (.dat (.tuple [.tuple [.int 0, .int 1, .int 1], .tuple [.int 1, .int 1, .int 0]])), none, none, some (.dat (v_M)), some (.dat (v_bad)), some (.dat (v_p)), some (.dat (v_one))]) ?_ ?_
  · exact (by
    revert v_bad
    exact (anF (anC (by kernel_rfl) (anC (by kernel_rfl) (anC (by kernel_rfl) (anC (by kernel_rfl) (anC (by kernel_rfl) (anC (by kernel_rfl) (anC (by kernel_rfl) (anC (by kernel_rfl) (anC (by kernel_rfl) (anC (by kernel_rfl) (anC (by kernel_rfl) (anC (by kernel_rfl) (anN)))))))))))))))
  refine fseq_nx (σ' := [some (.dat (.int (t : Nat))), some (.own [.str ((PySem.Str.ofString "number ") ++ PyData.shown (v_M)), .str (PySem.Str.ofString "maps"), .str ((PySem.Str.ofString "number ") ++ PyData.shown (v_one)), .str ((PySem.Str.ofString "number ") ++ PyData.shown (v_one)), .str (PySem.Str.ofString "fine"), .str (PySem.Str.ofString "maps"), .str ((PySem.Str.ofString "number ") ++ PyData.shown (v_M)), .str (PySem.Str.ofString "maps"), .str ((PySem.Str.ofString "number ") ++ PyData.shown (v_M)), .str (PySem.Str.ofString "maps"), .str ((PySem.Str.ofString "number ") ++ PyData.shown (v_M)), .str (PySem.Str.ofString "maps"), .str (PySem.Str.ofString "fine")]), none, some (.dat (.tuple [.tuple [.int 0, .int 1, .int 1], .tuple [.int 1, .int 1, .int 0]])), none, none, some (.dat (v_M)), some (.dat (v_bad)), some (.dat (v_p)), some (.dat (v_one))]) ?_ ?_
  · exact (by
    revert v_p
    exact (anF (anC (by kernel_rfl) (anC (by kernel_rfl) (anC (by kernel_rfl) (anC (by kernel_rfl) (anC (by kernel_rfl) (anC (by kernel_rfl) (anC (by kernel_rfl) (anC (by kernel_rfl) (anC (by kernel_rfl) (anN))))))))))))
  refine fseq_nx (σ' := [some (.dat (.int (t : Nat))), some (.own [.str ((PySem.Str.ofString "number ") ++ PyData.shown (v_M)), .str (PySem.Str.ofString "maps"), .str ((PySem.Str.ofString "number ") ++ PyData.shown (v_one)), .str ((PySem.Str.ofString "number ") ++ PyData.shown (v_one)), .str (PySem.Str.ofString "fine"), .str (PySem.Str.ofString "maps"), .str ((PySem.Str.ofString "number ") ++ PyData.shown (v_M)), .str (PySem.Str.ofString "maps"), .str ((PySem.Str.ofString "number ") ++ PyData.shown (v_M)), .str (PySem.Str.ofString "maps"), .str ((PySem.Str.ofString "number ") ++ PyData.shown (v_M)), .str (PySem.Str.ofString "maps"), .str (PySem.Str.ofString "fine"), .str ((PySem.Str.ofString "number ") ++ PyData.shown (v_M))]), none, some (.dat (.tuple [.tuple [.int 0, .int 1, .int 1], .tuple [.int 1, .int 1, .int 0]])), none, none, some (.dat (v_M)), some (.dat (v_bad)), some (.dat (v_p)), some (.dat (v_one))]) ?_ ?_
  · exact (by
    revert v_M
    exact (anF (anC (by kernel_rfl) (anC (by kernel_rfl) (anC (by kernel_rfl) (anC (by kernel_rfl) (anC (by kernel_rfl) (anC (by kernel_rfl) (anC (by kernel_rfl) (anC (by kernel_rfl) (anC (by kernel_rfl) (anC (by kernel_rfl) (anN)))))))))))))
  refine fseq_nx (σ' := [some (.dat (.int (t : Nat))), some (.own [.str ((PySem.Str.ofString "number ") ++ PyData.shown (v_M)), .str (PySem.Str.ofString "maps"), .str ((PySem.Str.ofString "number ") ++ PyData.shown (v_one)), .str ((PySem.Str.ofString "number ") ++ PyData.shown (v_one)), .str (PySem.Str.ofString "fine"), .str (PySem.Str.ofString "maps"), .str ((PySem.Str.ofString "number ") ++ PyData.shown (v_M)), .str (PySem.Str.ofString "maps"), .str ((PySem.Str.ofString "number ") ++ PyData.shown (v_M)), .str (PySem.Str.ofString "maps"), .str ((PySem.Str.ofString "number ") ++ PyData.shown (v_M)), .str (PySem.Str.ofString "maps"), .str (PySem.Str.ofString "fine"), .str ((PySem.Str.ofString "number ") ++ PyData.shown (v_M)), .str (PySem.Str.ofString "maps")]), none, some (.dat (.tuple [.tuple [.int 0, .int 1, .int 1], .tuple [.int 1, .int 1, .int 0]])), none, none, some (.dat (v_M)), some (.dat (v_bad)), some (.dat (v_p)), some (.dat (v_one))]) ?_ ?_
  · exact (by
    revert v_bad
    exact (anF (anC (by kernel_rfl) (anC (by kernel_rfl) (anC (by kernel_rfl) (anC (by kernel_rfl) (anC (by kernel_rfl) (anC (by kernel_rfl) (anC (by kernel_rfl) (anC (by kernel_rfl) (anC (by kernel_rfl) (anC (by kernel_rfl) (anC (by kernel_rfl) (anC (by kernel_rfl) (anN)))))))))))))))
  refine fseq_nx (σ' := [some (.dat (.int (t : Nat))), some (.own [.str ((PySem.Str.ofString "number ") ++ PyData.shown (v_M)), .str (PySem.Str.ofString "maps"), .str ((PySem.Str.ofString "number ") ++ PyData.shown (v_one)), .str ((PySem.Str.ofString "number ") ++ PyData.shown (v_one)), .str (PySem.Str.ofString "fine"), .str (PySem.Str.ofString "maps"), .str ((PySem.Str.ofString "number ") ++ PyData.shown (v_M)), .str (PySem.Str.ofString "maps"), .str ((PySem.Str.ofString "number ") ++ PyData.shown (v_M)), .str (PySem.Str.ofString "maps"), .str ((PySem.Str.ofString "number ") ++ PyData.shown (v_M)), .str (PySem.Str.ofString "maps"), .str (PySem.Str.ofString "fine"), .str ((PySem.Str.ofString "number ") ++ PyData.shown (v_M)), .str (PySem.Str.ofString "maps")]), none, some (.dat (.tuple [.tuple [.int 0, .int 1, .int 1], .tuple [.int 1, .int 1, .int 0]])), some (.dat (.str ((PySem.Str.ofString "number ") ++ PyData.shown (v_M)))), some (.dat (.str ((PySem.Str.ofString "number ") ++ PyData.shown (v_one)))), some (.dat (v_M)), some (.dat (v_bad)), some (.dat (v_p)), some (.dat (v_one))]) ?_ ?_
  · exact (by
    revert v_M v_one
    exact (anF (anC (anF (anC (by kernel_rfl) (anC (by kernel_rfl) (anC (by kernel_rfl) (anC (by kernel_rfl) (anC (by kernel_rfl) (anC (by kernel_rfl) (anC (by kernel_rfl) (anC (by kernel_rfl) (anN)))))))))) (anC (anF (anC (by kernel_rfl) (anC (by kernel_rfl) (anC (by kernel_rfl) (anC (by kernel_rfl) (anC (by kernel_rfl) (anC (by kernel_rfl) (anC (by kernel_rfl) (anC (by kernel_rfl) (anN)))))))))) (anC (anF (anC (by kernel_rfl) (anC (by kernel_rfl) (anC (by kernel_rfl) (anC (by kernel_rfl) (anC (by kernel_rfl) (anC (by kernel_rfl) (anC (by kernel_rfl) (anC (by kernel_rfl) (anN)))))))))) (anC (anF (anC (by kernel_rfl) (anC (by kernel_rfl) (anC (by kernel_rfl) (anC (by kernel_rfl) (anC (by kernel_rfl) (anC (by kernel_rfl) (anC (by kernel_rfl) (anC (by kernel_rfl) (anN)))))))))) (anC (anF (anC (by kernel_rfl) (anC (by kernel_rfl) (anC (by kernel_rfl) (anC (by kernel_rfl) (anC (by kernel_rfl) (anC (by kernel_rfl) (anC (by kernel_rfl) (anC (by kernel_rfl) (anN)))))))))) (anC (anF (anC (by kernel_rfl) (anC (by kernel_rfl) (anC (by kernel_rfl) (anC (by kernel_rfl) (anC (by kernel_rfl) (anC (by kernel_rfl) (anC (by kernel_rfl) (anC (by kernel_rfl) (anN)))))))))) (anC (anF (anC (by kernel_rfl) (anC (by kernel_rfl) (anC (by kernel_rfl) (anC (by kernel_rfl) (anC (by kernel_rfl) (anC (by kernel_rfl) (anC (by kernel_rfl) (anC (by kernel_rfl) (anN)))))))))) (anC (anF (anC (by kernel_rfl) (anC (by kernel_rfl) (anC (by kernel_rfl) (anC (by kernel_rfl) (anC (by kernel_rfl) (anC (by kernel_rfl) (anC (by kernel_rfl) (anC (by kernel_rfl) (anN)))))))))) (anC (anF (anC (by kernel_rfl) (anC (by kernel_rfl) (anC (by kernel_rfl) (anC (by kernel_rfl) (anC (by kernel_rfl) (anC (by kernel_rfl) (anC (by kernel_rfl) (anC (by kernel_rfl) (anN)))))))))) (anC (anF (anC (by kernel_rfl) (anC (by kernel_rfl) (anC (by kernel_rfl) (anC (by kernel_rfl) (anC (by kernel_rfl) (anC (by kernel_rfl) (anC (by kernel_rfl) (anC (by kernel_rfl) (anN)))))))))) (anN)))))))))))))
  refine fseq_nx (σ' := [some (.dat (.int (t : Nat))), some (.own [.str ((PySem.Str.ofString "number ") ++ PyData.shown (v_M)), .str (PySem.Str.ofString "maps"), .str ((PySem.Str.ofString "number ") ++ PyData.shown (v_one)), .str ((PySem.Str.ofString "number ") ++ PyData.shown (v_one)), .str (PySem.Str.ofString "fine"), .str (PySem.Str.ofString "maps"), .str ((PySem.Str.ofString "number ") ++ PyData.shown (v_M)), .str (PySem.Str.ofString "maps"), .str ((PySem.Str.ofString "number ") ++ PyData.shown (v_M)), .str (PySem.Str.ofString "maps"), .str ((PySem.Str.ofString "number ") ++ PyData.shown (v_M)), .str (PySem.Str.ofString "maps"), .str (PySem.Str.ofString "fine"), .str ((PySem.Str.ofString "number ") ++ PyData.shown (v_M)), .str (PySem.Str.ofString "maps")]), some (.dat (.list [.str ((PySem.Str.ofString "number ") ++ PyData.shown (v_M)), .str (PySem.Str.ofString "maps"), .str ((PySem.Str.ofString "number ") ++ PyData.shown (v_one)), .str ((PySem.Str.ofString "number ") ++ PyData.shown (v_one)), .str (PySem.Str.ofString "fine"), .str (PySem.Str.ofString "maps"), .str ((PySem.Str.ofString "number ") ++ PyData.shown (v_M)), .str (PySem.Str.ofString "maps"), .str ((PySem.Str.ofString "number ") ++ PyData.shown (v_M)), .str (PySem.Str.ofString "maps"), .str ((PySem.Str.ofString "number ") ++ PyData.shown (v_M)), .str (PySem.Str.ofString "maps"), .str (PySem.Str.ofString "fine"), .str ((PySem.Str.ofString "number ") ++ PyData.shown (v_M)), .str (PySem.Str.ofString "maps")])), some (.dat (.tuple [.tuple [.int 0, .int 1, .int 1], .tuple [.int 1, .int 1, .int 0]])), some (.dat (.str ((PySem.Str.ofString "number ") ++ PyData.shown (v_M)))), some (.dat (.str ((PySem.Str.ofString "number ") ++ PyData.shown (v_one)))), some (.dat (v_M)), some (.dat (v_bad)), some (.dat (v_p)), some (.dat (v_one))]) ?_ ?_
  · exact (by kernel_rfl)
  refine ffrz_nx (σ' := [some (.dat (.int (t : Nat))), some (.dat (.list [.str ((PySem.Str.ofString "number ") ++ PyData.shown (v_M)), .str (PySem.Str.ofString "maps"), .str ((PySem.Str.ofString "number ") ++ PyData.shown (v_one)), .str ((PySem.Str.ofString "number ") ++ PyData.shown (v_one)), .str (PySem.Str.ofString "fine"), .str (PySem.Str.ofString "maps"), .str ((PySem.Str.ofString "number ") ++ PyData.shown (v_M)), .str (PySem.Str.ofString "maps"), .str ((PySem.Str.ofString "number ") ++ PyData.shown (v_M)), .str (PySem.Str.ofString "maps"), .str ((PySem.Str.ofString "number ") ++ PyData.shown (v_M)), .str (PySem.Str.ofString "maps"), .str (PySem.Str.ofString "fine"), .str ((PySem.Str.ofString "number ") ++ PyData.shown (v_M)), .str (PySem.Str.ofString "maps")])), some (.dat (.list [.str ((PySem.Str.ofString "number ") ++ PyData.shown (v_M)), .str (PySem.Str.ofString "maps"), .str ((PySem.Str.ofString "number ") ++ PyData.shown (v_one)), .str ((PySem.Str.ofString "number ") ++ PyData.shown (v_one)), .str (PySem.Str.ofString "fine"), .str (PySem.Str.ofString "maps"), .str ((PySem.Str.ofString "number ") ++ PyData.shown (v_M)), .str (PySem.Str.ofString "maps"), .str ((PySem.Str.ofString "number ") ++ PyData.shown (v_M)), .str (PySem.Str.ofString "maps"), .str ((PySem.Str.ofString "number ") ++ PyData.shown (v_M)), .str (PySem.Str.ofString "maps"), .str (PySem.Str.ofString "fine"), .str ((PySem.Str.ofString "number ") ++ PyData.shown (v_M)), .str (PySem.Str.ofString "maps")])), some (.dat (.tuple [.tuple [.int 0, .int 1, .int 1], .tuple [.int 1, .int 1, .int 0]])), some (.dat (.str ((PySem.Str.ofString "number ") ++ PyData.shown (v_M)))), some (.dat (.str ((PySem.Str.ofString "number ") ++ PyData.shown (v_one)))), some (.dat (v_M)), some (.dat (v_bad)), some (.dat (v_p)), some (.dat (v_one))]) (by kernel_rfl) ?_
  exact (by
    revert v_M v_one
    exact (anF (anC (anF (anC (by kernel_rfl) (anC (by kernel_rfl) (anC (by kernel_rfl) (anC (by kernel_rfl) (anC (by kernel_rfl) (anC (by kernel_rfl) (anC (by kernel_rfl) (anC (by kernel_rfl) (anN)))))))))) (anC (anF (anC (by kernel_rfl) (anC (by kernel_rfl) (anC (by kernel_rfl) (anC (by kernel_rfl) (anC (by kernel_rfl) (anC (by kernel_rfl) (anC (by kernel_rfl) (anC (by kernel_rfl) (anN)))))))))) (anC (anF (anC (by kernel_rfl) (anC (by kernel_rfl) (anC (by kernel_rfl) (anC (by kernel_rfl) (anC (by kernel_rfl) (anC (by kernel_rfl) (anC (by kernel_rfl) (anC (by kernel_rfl) (anN)))))))))) (anC (anF (anC (by kernel_rfl) (anC (by kernel_rfl) (anC (by kernel_rfl) (anC (by kernel_rfl) (anC (by kernel_rfl) (anC (by kernel_rfl) (anC (by kernel_rfl) (anC (by kernel_rfl) (anN)))))))))) (anC (anF (anC (by kernel_rfl) (anC (by kernel_rfl) (anC (by kernel_rfl) (anC (by kernel_rfl) (anC (by kernel_rfl) (anC (by kernel_rfl) (anC (by kernel_rfl) (anC (by kernel_rfl) (anN)))))))))) (anC (anF (anC (by kernel_rfl) (anC (by kernel_rfl) (anC (by kernel_rfl) (anC (by kernel_rfl) (anC (by kernel_rfl) (anC (by kernel_rfl) (anC (by kernel_rfl) (anC (by kernel_rfl) (anN)))))))))) (anC (anF (anC (by kernel_rfl) (anC (by kernel_rfl) (anC (by kernel_rfl) (anC (by kernel_rfl) (anC (by kernel_rfl) (anC (by kernel_rfl) (anC (by kernel_rfl) (anC (by kernel_rfl) (anN)))))))))) (anC (anF (anC (by kernel_rfl) (anC (by kernel_rfl) (anC (by kernel_rfl) (anC (by kernel_rfl) (anC (by kernel_rfl) (anC (by kernel_rfl) (anC (by kernel_rfl) (anC (by kernel_rfl) (anN)))))))))) (anC (anF (anC (by kernel_rfl) (anC (by kernel_rfl) (anC (by kernel_rfl) (anC (by kernel_rfl) (anC (by kernel_rfl) (anC (by kernel_rfl) (anC (by kernel_rfl) (anC (by kernel_rfl) (anN)))))))))) (anC (anF (anC (by kernel_rfl) (anC (by kernel_rfl) (anC (by kernel_rfl) (anC (by kernel_rfl) (anC (by kernel_rfl) (anC (by kernel_rfl) (anC (by kernel_rfl) (anC (by kernel_rfl) (anN)))))))))) (anN)))))))))))))
end Q
end
section
set_option Elab.async false
set_option linter.all false
set_option maxRecDepth 100000
set_option maxHeartbeats 4000000
set_option exponentiation.threshold 20000
namespace Q
open PySem PySem.Spec PyProof.Rows L2 HbE Evl Dl RZ Gx
theorem tail_law_spreads_right (t : Nat) : fs__law_spreads_right [some (.dat (.int (t : Nat))), none, none, none, none, none, none, none, none, none] = .ok (.rt (.bool true)) := by
  unfold fs__law_spreads_right
  refine fseq_nx (σ' := [some (.dat (.int (t : Nat))), none, none, none, some (.dat (.tuple [.tuple [.int 0, .int 1, .int 1], .tuple [.int 1, .int 1, .int 0]])), some (.dat (.tuple [.int 100000000000000000000, .tuple [.int 100000000000000000000, .int 0, .int 0]])), some (.dat (pick t (.list W_numbers))), some (.dat (pick t (.list W_maps))), some (.dat (pick t (.list W_draws))), some (.dat (pick t (.list W_points)))]) (asg_at (d := .tuple [.tuple [.tuple [.int 0, .int 1, .int 1], .tuple [.int 1, .int 1, .int 0]], .list [pick t (.list W_numbers), pick t (.list W_maps), pick t (.list W_draws), pick t (.list W_points)], .tuple [.int 100000000000000000000, .tuple [.int 100000000000000000000, .int 0, .int 0]]]) (tup_at (cons_at (by kernel_rfl) (cons_at (call0_at (ds := [.int (t : Nat)]) (by kernel_rfl) (wrong_at t)) (cons_at (by kernel_rfl) rfl))) rfl) (by kernel_rfl)) ?_
  have h_M := pick_mem (t := t) (ds := W_numbers) (by decide)
  generalize pick t (.list W_numbers) = v_M at h_M ⊢
  have h_bad := pick_mem (t := t) (ds := W_maps) (by decide)
  generalize pick t (.list W_maps) = v_bad at h_bad ⊢
  have h_p := pick_mem (t := t) (ds := W_draws) (by decide)
  generalize pick t (.list W_draws) = v_p at h_p ⊢
  have h_one := pick_mem (t := t) (ds := W_points) (by decide)
  generalize pick t (.list W_points) = v_one at h_one ⊢
  refine fseq_nx (σ' := [some (.dat (.int (t : Nat))), some (.own [.str ((PySem.Str.ofString "number ") ++ PyData.shown (v_M))]), none, none, some (.dat (.tuple [.tuple [.int 0, .int 1, .int 1], .tuple [.int 1, .int 1, .int 0]])), some (.dat (.tuple [.int 100000000000000000000, .tuple [.int 100000000000000000000, .int 0, .int 0]])), some (.dat (v_M)), some (.dat (v_bad)), some (.dat (v_p)), some (.dat (v_one))]) ?_ ?_
  · exact (by
    revert v_M
    exact (anF (anC (by kernel_rfl) (anC (by kernel_rfl) (anC (by kernel_rfl) (anC (by kernel_rfl) (anC (by kernel_rfl) (anC (by kernel_rfl) (anC (by kernel_rfl) (anC (by kernel_rfl) (anC (by kernel_rfl) (anC (by kernel_rfl) (anN)))))))))))))
  refine fseq_nx (σ' := [some (.dat (.int (t : Nat))), some (.own [.str ((PySem.Str.ofString "number ") ++ PyData.shown (v_M)), .str (PySem.Str.ofString "maps")]), none, none, some (.dat (.tuple [.tuple [.int 0, .int 1, .int 1], .tuple [.int 1, .int 1, .int 0]])), some (.dat (.tuple [.int 100000000000000000000, .tuple [.int 100000000000000000000, .int 0, .int 0]])), some (.dat (v_M)), some (.dat (v_bad)), some (.dat (v_p)), some (.dat (v_one))]) ?_ ?_
  · exact (by
    revert v_p
    exact (anF (anC (by kernel_rfl) (anC (by kernel_rfl) (anC (by kernel_rfl) (anC (by kernel_rfl) (anC (by kernel_rfl) (anC (by kernel_rfl) (anC (by kernel_rfl) (anC (by kernel_rfl) (anC (by kernel_rfl) (anN))))))))))))
  refine fseq_nx (σ' := [some (.dat (.int (t : Nat))), some (.own [.str ((PySem.Str.ofString "number ") ++ PyData.shown (v_M)), .str (PySem.Str.ofString "maps"), .str (PySem.Str.ofString "draw")]), none, none, some (.dat (.tuple [.tuple [.int 0, .int 1, .int 1], .tuple [.int 1, .int 1, .int 0]])), some (.dat (.tuple [.int 100000000000000000000, .tuple [.int 100000000000000000000, .int 0, .int 0]])), some (.dat (v_M)), some (.dat (v_bad)), some (.dat (v_p)), some (.dat (v_one))]) ?_ ?_
  · exact (by
    revert v_p
    exact (anF (anC (by kernel_rfl) (anC (by kernel_rfl) (anC (by kernel_rfl) (anC (by kernel_rfl) (anC (by kernel_rfl) (anC (by kernel_rfl) (anC (by kernel_rfl) (anC (by kernel_rfl) (anC (by kernel_rfl) (anN))))))))))))
  refine fseq_nx (σ' := [some (.dat (.int (t : Nat))), some (.own [.str ((PySem.Str.ofString "number ") ++ PyData.shown (v_M)), .str (PySem.Str.ofString "maps"), .str (PySem.Str.ofString "draw"), .str (PySem.Str.ofString "fine")]), none, none, some (.dat (.tuple [.tuple [.int 0, .int 1, .int 1], .tuple [.int 1, .int 1, .int 0]])), some (.dat (.tuple [.int 100000000000000000000, .tuple [.int 100000000000000000000, .int 0, .int 0]])), some (.dat (v_M)), some (.dat (v_bad)), some (.dat (v_p)), some (.dat (v_one))]) ?_ ?_
  · exact (by kernel_rfl)
  refine fseq_nx (σ' := [some (.dat (.int (t : Nat))), some (.own [.str ((PySem.Str.ofString "number ") ++ PyData.shown (v_M)), .str (PySem.Str.ofString "maps"), .str (PySem.Str.ofString "draw"), .str (PySem.Str.ofString "fine"), .str (PySem.Str.ofString "maps")]), none, none, some (.dat (.tuple [.tuple [.int 0, .int 1, .int 1], .tuple [.int 1, .int 1, .int 0]])), some (.dat (.tuple [.int 100000000000000000000, .tuple [.int 100000000000000000000, .int 0, .int 0]])), some (.dat (v_M)), some (.dat (v_bad)), some (.dat (v_p)), some (.dat (v_one))]) ?_ ?_
  · exact (by kernel_rfl)
  refine fseq_nx (σ' := [some (.dat (.int (t : Nat))), some (.own [.str ((PySem.Str.ofString "number ") ++ PyData.shown (v_M)), .str (PySem.Str.ofString "maps"), .str (PySem.Str.ofString "draw"), .str (PySem.Str.ofString "fine"), .str (PySem.Str.ofString "maps"), .str ((PySem.Str.ofString "number ") ++ PyData.shown (v_M))]), none, none, some (.dat (.tuple [.tuple [.int 0, .int 1, .int 1], .tuple [.int 1, .int 1, .int 0]])), some (.dat (.tuple [.int 100000000000000000000, .tuple [.int 100000000000000000000, .int 0, .int 0]])), some (.dat (v_M)), some (.dat (v_bad)), some (.dat (v_p)), some (.dat (v_one))]) ?_ ?_
  · exact (by
    revert v_M
    exact (anF (anC (by kernel_rfl) (anC (by kernel_rfl) (anC (by kernel_rfl) (anC (by kernel_rfl) (anC (by kernel_rfl) (anC (by kernel_rfl) (anC (by kernel_rfl) (anC (by kernel_rfl) (anC (by kernel_rfl) (anC (by kernel_rfl) (anN)))))))))))))
  refine fseq_nx (σ' := [some (.dat (.int (t : Nat))), some (.own [.str ((PySem.Str.ofString "number ") ++ PyData.shown (v_M)), .str (PySem.Str.ofString "maps"), .str (PySem.Str.ofString "draw"), .str (PySem.Str.ofString "fine"), .str (PySem.Str.ofString "maps"), .str ((PySem.Str.ofString "number ") ++ PyData.shown (v_M)), .str (PySem.Str.ofString "maps")]), none, none, some (.dat (.tuple [.tuple [.int 0, .int 1, .int 1], .tuple [.int 1, .int 1, .int 0]])), some (.dat (.tuple [.int 100000000000000000000, .tuple [.int 100000000000000000000, .int 0, .int 0]])), some (.dat (v_M)), some (.dat (v_bad)), some (.dat (v_p)), some (.dat (v_one))]) ?_ ?_
  · exact (by
    revert v_bad
    exact (anF (anC (by kernel_rfl) (anC (by kernel_rfl) (anC (by kernel_rfl) (anC (by kernel_rfl) (anC (by kernel_rfl) (anC (by kernel_rfl) (anC (by kernel_rfl) (anC (by kernel_rfl) (anC (by kernel_rfl) (anC (by kernel_rfl) (anC (by kernel_rfl) (anC (by kernel_rfl) (anN)))))))))))))))
  refine fseq_nx (σ' := [some (.dat (.int (t : Nat))), some (.own [.str ((PySem.Str.ofString "number ") ++ PyData.shown (v_M)), .str (PySem.Str.ofString "maps"), .str (PySem.Str.ofString "draw"), .str (PySem.Str.ofString "fine"), .str (PySem.Str.ofString "maps"), .str ((PySem.Str.ofString "number ") ++ PyData.shown (v_M)), .str (PySem.Str.ofString "maps"), .str (PySem.Str.ofString "draw")]), none, none, some (.dat (.tuple [.tuple [.int 0, .int 1, .int 1], .tuple [.int 1, .int 1, .int 0]])), some (.dat (.tuple [.int 100000000000000000000, .tuple [.int 100000000000000000000, .int 0, .int 0]])), some (.dat (v_M)), some (.dat (v_bad)), some (.dat (v_p)), some (.dat (v_one))]) ?_ ?_
  · exact (by
    revert v_p
    exact (anF (anC (by kernel_rfl) (anC (by kernel_rfl) (anC (by kernel_rfl) (anC (by kernel_rfl) (anC (by kernel_rfl) (anC (by kernel_rfl) (anC (by kernel_rfl) (anC (by kernel_rfl) (anC (by kernel_rfl) (anN))))))))))))
  refine fseq_nx (σ' := [some (.dat (.int (t : Nat))), some (.own [.str ((PySem.Str.ofString "number ") ++ PyData.shown (v_M)), .str (PySem.Str.ofString "maps"), .str (PySem.Str.ofString "draw"), .str (PySem.Str.ofString "fine"), .str (PySem.Str.ofString "maps"), .str ((PySem.Str.ofString "number ") ++ PyData.shown (v_M)), .str (PySem.Str.ofString "maps"), .str (PySem.Str.ofString "draw"), .str (PySem.Str.ofString "maps")]), none, none, some (.dat (.tuple [.tuple [.int 0, .int 1, .int 1], .tuple [.int 1, .int 1, .int 0]])), some (.dat (.tuple [.int 100000000000000000000, .tuple [.int 100000000000000000000, .int 0, .int 0]])), some (.dat (v_M)), some (.dat (v_bad)), some (.dat (v_p)), some (.dat (v_one))]) ?_ ?_
  · exact (by
    revert v_bad
    exact (anF (anC (by kernel_rfl) (anC (by kernel_rfl) (anC (by kernel_rfl) (anC (by kernel_rfl) (anC (by kernel_rfl) (anC (by kernel_rfl) (anC (by kernel_rfl) (anC (by kernel_rfl) (anC (by kernel_rfl) (anC (by kernel_rfl) (anC (by kernel_rfl) (anC (by kernel_rfl) (anN)))))))))))))))
  refine fseq_nx (σ' := [some (.dat (.int (t : Nat))), some (.own [.str ((PySem.Str.ofString "number ") ++ PyData.shown (v_M)), .str (PySem.Str.ofString "maps"), .str (PySem.Str.ofString "draw"), .str (PySem.Str.ofString "fine"), .str (PySem.Str.ofString "maps"), .str ((PySem.Str.ofString "number ") ++ PyData.shown (v_M)), .str (PySem.Str.ofString "maps"), .str (PySem.Str.ofString "draw"), .str (PySem.Str.ofString "maps"), .str (PySem.Str.ofString "draw")]), none, none, some (.dat (.tuple [.tuple [.int 0, .int 1, .int 1], .tuple [.int 1, .int 1, .int 0]])), some (.dat (.tuple [.int 100000000000000000000, .tuple [.int 100000000000000000000, .int 0, .int 0]])), some (.dat (v_M)), some (.dat (v_bad)), some (.dat (v_p)), some (.dat (v_one))]) ?_ ?_
  · exact (by
    revert v_p
    exact (anF (anC (by kernel_rfl) (anC (by kernel_rfl) (anC (by kernel_rfl) (anC (by kernel_rfl) (anC (by kernel_rfl) (anC (by kernel_rfl) (anC (by kernel_rfl) (anC (by kernel_rfl) (anC (by kernel_rfl) (anN))))))))))))
  refine fseq_nx (σ' := [some (.dat (.int (t : Nat))), some (.own [.str ((PySem.Str.ofString "number ") ++ PyData.shown (v_M)), .str (PySem.Str.ofString "maps"), .str (PySem.Str.ofString "draw"), .str (PySem.Str.ofString "fine"), .str (PySem.Str.ofString "maps"), .str ((PySem.Str.ofString "number ") ++ PyData.shown (v_M)), .str (PySem.Str.ofString "maps"), .str (PySem.Str.ofString "draw"), .str (PySem.Str.ofString "maps"), .str (PySem.Str.ofString "draw"), .str ((PySem.Str.ofString "number ") ++ PyData.shown (v_M))]), none, none, some (.dat (.tuple [.tuple [.int 0, .int 1, .int 1], .tuple [.int 1, .int 1, .int 0]])), some (.dat (.tuple [.int 100000000000000000000, .tuple [.int 100000000000000000000, .int 0, .int 0]])), some (.dat (v_M)), some (.dat (v_bad)), some (.dat (v_p)), some (.dat (v_one))]) ?_ ?_
  · exact (by
    revert v_M
    exact (anF (anC (by kernel_rfl) (anC (by kernel_rfl) (anC (by kernel_rfl) (anC (by kernel_rfl) (anC (by kernel_rfl) (anC (by kernel_rfl) (anC (by kernel_rfl) (anC (by kernel_rfl) (anC (by kernel_rfl) (anC (by kernel_rfl) (anN)))))))))))))
  refine fseq_nx (σ' := [some (.dat (.int (t : Nat))), some (.own [.str ((PySem.Str.ofString "number ") ++ PyData.shown (v_M)), .str (PySem.Str.ofString "maps"), .str (PySem.Str.ofString "draw"), .str (PySem.Str.ofString "fine"), .str (PySem.Str.ofString "maps"), .str ((PySem.Str.ofString "number ") ++ PyData.shown (v_M)), .str (PySem.Str.ofString "maps"), .str (PySem.Str.ofString "draw"), .str (PySem.Str.ofString "maps"), .str (PySem.Str.ofString "draw"), .str ((PySem.Str.ofString "number ") ++ PyData.shown (v_M)), .str (PySem.Str.ofString "draw")]), none, none, some (.dat (.tuple [.tuple [.int 0, .int 1, .int 1], .tuple [.int 1, .int 1, .int 0]])), some (.dat (.tuple [.int 100000000000000000000, .tuple [.int 100000000000000000000, .int 0, .int 0]])), some (.dat (v_M)), some (.dat (v_bad)), some (.dat (v_p)), some (.dat (v_one))]) ?_ ?_
  · exact (by
    revert v_p
    exact (anF (anC (by kernel_rfl) (anC (by kernel_rfl) (anC (by kernel_rfl) (anC (by kernel_rfl) (anC (by kernel_rfl) (anC (by kernel_rfl) (anC (by kernel_rfl) (anC (by kernel_rfl) (anC (by kernel_rfl) (anN))))))))))))
  refine fseq_nx (σ' := [some (.dat (.int (t : Nat))), some (.own [.str ((PySem.Str.ofString "number ") ++ PyData.shown (v_M)), .str (PySem.Str.ofString "maps"), .str (PySem.Str.ofString "draw"), .str (PySem.Str.ofString "fine"), .str (PySem.Str.ofString "maps"), .str ((PySem.Str.ofString "number ") ++ PyData.shown (v_M)), .str (PySem.Str.ofString "maps"), .str (PySem.Str.ofString "draw"), .str (PySem.Str.ofString "maps"), .str (PySem.Str.ofString "draw"), .str ((PySem.Str.ofString "number ") ++ PyData.shown (v_M)), .str (PySem.Str.ofString "draw"), .str (PySem.Str.ofString "fine")]), none, none, some (.dat (.tuple [.tuple [.int 0, .int 1, .int 1], .tuple [.int 1, .int 1, .int 0]])), some (.dat (.tuple [.int 100000000000000000000, .tuple [.int 100000000000000000000, .int 0, .int 0]])), some (.dat (v_M)), some (.dat (v_bad)), some (.dat (v_p)), some (.dat (v_one))]) ?_ ?_
  · exact (by kernel_rfl)
  refine fseq_nx (σ' := [some (.dat (.int (t : Nat))), some (.own [.str ((PySem.Str.ofString "number ") ++ PyData.shown (v_M)), .str (PySem.Str.ofString "maps"), .str (PySem.Str.ofString "draw"), .str (PySem.Str.ofString "fine"), .str (PySem.Str.ofString "maps"), .str ((PySem.Str.ofString "number ") ++ PyData.shown (v_M)), .str (PySem.Str.ofString "maps"), .str (PySem.Str.ofString "draw"), .str (PySem.Str.ofString "maps"), .str (PySem.Str.ofString "draw"), .str ((PySem.Str.ofString "number ") ++ PyData.shown (v_M)), .str (PySem.Str.ofString "draw"), .str (PySem.Str.ofString "fine")]), some (.dat (.str ((PySem.Str.ofString "number ") ++ PyData.shown (v_M)))), none, some (.dat (.tuple [.tuple [.int 0, .int 1, .int 1], .tuple [.int 1, .int 1, .int 0]])), some (.dat (.tuple [.int 100000000000000000000, .tuple [.int 100000000000000000000, .int 0, .int 0]])), some (.dat (v_M)), some (.dat (v_bad)), some (.dat (v_p)), some (.dat (v_one))]) ?_ ?_
  · exact (by
    revert v_M
    exact (anF (anC (by kernel_rfl) (anC (by kernel_rfl) (anC (by kernel_rfl) (anC (by kernel_rfl) (anC (by kernel_rfl) (anC (by kernel_rfl) (anC (by kernel_rfl) (anC (by kernel_rfl) (anC (by kernel_rfl) (anC (by kernel_rfl) (anN)))))))))))))
  refine fseq_nx (σ' := [some (.dat (.int (t : Nat))), some (.own [.str ((PySem.Str.ofString "number ") ++ PyData.shown (v_M)), .str (PySem.Str.ofString "maps"), .str (PySem.Str.ofString "draw"), .str (PySem.Str.ofString "fine"), .str (PySem.Str.ofString "maps"), .str ((PySem.Str.ofString "number ") ++ PyData.shown (v_M)), .str (PySem.Str.ofString "maps"), .str (PySem.Str.ofString "draw"), .str (PySem.Str.ofString "maps"), .str (PySem.Str.ofString "draw"), .str ((PySem.Str.ofString "number ") ++ PyData.shown (v_M)), .str (PySem.Str.ofString "draw"), .str (PySem.Str.ofString "fine")]), some (.dat (.str ((PySem.Str.ofString "number ") ++ PyData.shown (v_M)))), some (.dat (.list [.str ((PySem.Str.ofString "number ") ++ PyData.shown (v_M)), .str (PySem.Str.ofString "maps"), .str (PySem.Str.ofString "draw"), .str (PySem.Str.ofString "fine"), .str (PySem.Str.ofString "maps"), .str ((PySem.Str.ofString "number ") ++ PyData.shown (v_M)), .str (PySem.Str.ofString "maps"), .str (PySem.Str.ofString "draw"), .str (PySem.Str.ofString "maps"), .str (PySem.Str.ofString "draw"), .str ((PySem.Str.ofString "number ") ++ PyData.shown (v_M)), .str (PySem.Str.ofString "draw"), .str (PySem.Str.ofString "fine")])), some (.dat (.tuple [.tuple [.int 0, .int 1, .int 1], .tuple [.int 1, .int 1, .int 0]])), some (.dat (.tuple [.int 100000000000000000000, .tuple [.int 100000000000000000000, .int 0, .int 0]])), some (.dat (v_M)), some (.dat (v_bad)), some (.dat (v_p)), some (.dat (v_one))]) ?_ ?_
  · exact (by kernel_rfl)
  refine ffrz_nx (σ' := [some (.dat (.int (t : Nat))), some (.dat (.list [.str ((PySem.Str.ofString "number ") ++ PyData.shown (v_M)), .str (PySem.Str.ofString "maps"), .str (PySem.Str.ofString "draw"), .str (PySem.Str.ofString "fine"), .str (PySem.Str.ofString "maps"), .str ((PySem.Str.ofString "number ") ++ PyData.shown (v_M)), .str (PySem.Str.ofString "maps"), .str (PySem.Str.ofString "draw"), .str (PySem.Str.ofString "maps"), .str (PySem.Str.ofString "draw"), .str ((PySem.Str.ofString "number ") ++ PyData.shown (v_M)), .str (PySem.Str.ofString "draw"), .str (PySem.Str.ofString "fine")])), some (.dat (.str ((PySem.Str.ofString "number ") ++ PyData.shown (v_M)))), some (.dat (.list [.str ((PySem.Str.ofString "number ") ++ PyData.shown (v_M)), .str (PySem.Str.ofString "maps"), .str (PySem.Str.ofString "draw"), .str (PySem.Str.ofString "fine"), .str (PySem.Str.ofString "maps"), .str ((PySem.Str.ofString "number ") ++ PyData.shown (v_M)), .str (PySem.Str.ofString "maps"), .str (PySem.Str.ofString "draw"), .str (PySem.Str.ofString "maps"), .str (PySem.Str.ofString "draw"), .str ((PySem.Str.ofString "number ") ++ PyData.shown (v_M)), .str (PySem.Str.ofString "draw"), .str (PySem.Str.ofString "fine")])), some (.dat (.tuple [.tuple [.int 0, .int 1, .int 1], .tuple [.int 1, .int 1, .int 0]])), some (.dat (.tuple [.int 100000000000000000000, .tuple [.int 100000000000000000000, .int 0, .int 0]])), some (.dat (v_M)), some (.dat (v_bad)), some (.dat (v_p)), some (.dat (v_one))]) (by kernel_rfl) ?_
  exact (by
    revert v_M
    exact (anF (anC (by kernel_rfl) (anC (by kernel_rfl) (anC (by kernel_rfl) (anC (by kernel_rfl) (anC (by kernel_rfl) (anC (by kernel_rfl) (anC (by kernel_rfl) (anC (by kernel_rfl) (anC (by kernel_rfl) (anC (by kernel_rfl) (anN)))))))))))))
end Q
end
section
set_option Elab.async false
set_option linter.all false
set_option maxRecDepth 100000
set_option maxHeartbeats 4000000
set_option exponentiation.threshold 20000
namespace Q
open PySem PySem.Spec PyProof.Rows L2 HbE Evl Dl RZ Gx
def L_far : List PyData := [.none, .int 0, .int 6, .int (-1), .bool true, .str (PySem.Str.ofString "1"), .int 1000000000000000000000000000000000000000000000000000000000000]
def L_wide : List PyData := [.none, .int 0, .int 5, .bool true, .int (-1)]
def L_prime : List PyData := [.none, .int 1, .int 4, .int 11, .int 0, .bool true, .str (PySem.Str.ofString "3"), .int (-2), .int 9, .int 1000000000000000000000000000000000000000000000000000000000000]
def L_few : List PyData := [.none, .int 1, .int 33, .bool true, .int (-2), .str (PySem.Str.ofString "4")]
theorem tail_law_made_right (t : Nat) : fs__law_made_right [some (.dat (.int (t : Nat))), none, none, none, none, none, none, none] = .ok (.rt (.bool true)) := by
  unfold fs__law_made_right
  refine fseq_nx (σ' := [some (.dat (.int (t : Nat))), none, none, none, some (.dat (pick t (.list W_numbers))), some (.dat (pick t (.list L_far))), none, none]) (asg_at (d := .tuple [pick t (.list W_numbers), pick t (.list L_far)]) (tup_at (cons_at (ixq_at (call0_at (ds := [.int (t : Nat)]) (by kernel_rfl) (wrong_at t)) (by kernel_rfl)) (cons_at (pick_const (m := 7) rfl (by kernel_rfl) rfl (by decide)) rfl)) rfl) (by kernel_rfl)) ?_
  refine fseq_nx (σ' := [some (.dat (.int (t : Nat))), none, none, none, some (.dat (pick t (.list W_numbers))), some (.dat (pick t (.list L_far))), some (.dat (pick t (.list L_wide))), some (.dat (pick t (.list L_prime)))]) (asg_at (d := .tuple [pick t (.list L_wide), pick t (.list L_prime)]) (tup_at (cons_at (pick_const (m := 5) rfl (by kernel_rfl) rfl (by decide)) (cons_at (pick_const (m := 10) rfl (by kernel_rfl) rfl (by decide)) rfl)) rfl) (by kernel_rfl)) ?_
  refine fseq_nx (σ' := [some (.dat (.int (t : Nat))), some (.dat (pick t (.list L_few))), none, none, some (.dat (pick t (.list W_numbers))), some (.dat (pick t (.list L_far))), some (.dat (pick t (.list L_wide))), some (.dat (pick t (.list L_prime)))]) (set_at (d := pick t (.list L_few)) (pick_const (m := 6) rfl (by kernel_rfl) rfl (by decide)) (by kernel_rfl)) ?_
  have h_odd := pick_mem (t := t) (ds := W_numbers) (by decide)
  generalize pick t (.list W_numbers) = v_odd at h_odd ⊢
  have h_far := pick_mem (t := t) (ds := L_far) (by decide)
  generalize pick t (.list L_far) = v_far at h_far ⊢
  have h_wide := pick_mem (t := t) (ds := L_wide) (by decide)
  generalize pick t (.list L_wide) = v_wide at h_wide ⊢
  have h_prime := pick_mem (t := t) (ds := L_prime) (by decide)
  generalize pick t (.list L_prime) = v_prime at h_prime ⊢
  have h_few := pick_mem (t := t) (ds := L_few) (by decide)
  generalize pick t (.list L_few) = v_few at h_few ⊢
  refine fseq_nx (σ' := [some (.dat (.int (t : Nat))), some (.dat (v_few)), some (.own [.str ((PySem.Str.ofString "number ") ++ PyData.shown (v_far))]), none, some (.dat (v_odd)), some (.dat (v_far)), some (.dat (v_wide)), some (.dat (v_prime))]) ?_ ?_
  · exact (by
    revert v_far
    exact (anF (anC (by kernel_rfl) (anC (by kernel_rfl) (anC (by kernel_rfl) (anC (by kernel_rfl) (anC (by kernel_rfl) (anC (by kernel_rfl) (anC (by kernel_rfl) (anN))))))))))
  refine fseq_nx (σ' := [some (.dat (.int (t : Nat))), some (.dat (v_few)), some (.own [.str ((PySem.Str.ofString "number ") ++ PyData.shown (v_far)), .str ((PySem.Str.ofString "number ") ++ PyData.shown (v_wide))]), none, some (.dat (v_odd)), some (.dat (v_far)), some (.dat (v_wide)), some (.dat (v_prime))]) ?_ ?_
  · exact (by
    revert v_wide
    exact (anF (anC (by kernel_rfl) (anC (by kernel_rfl) (anC (by kernel_rfl) (anC (by kernel_rfl) (anC (by kernel_rfl) (anN))))))))
  refine fseq_nx (σ' := [some (.dat (.int (t : Nat))), some (.dat (v_few)), some (.own [.str ((PySem.Str.ofString "number ") ++ PyData.shown (v_far)), .str ((PySem.Str.ofString "number ") ++ PyData.shown (v_wide)), .str (PySem.Str.ofString "many 64")]), none, some (.dat (v_odd)), some (.dat (v_far)), some (.dat (v_wide)), some (.dat (v_prime))]) ?_ ?_
  · exact (by kernel_rfl)
  refine fseq_nx (σ' := [some (.dat (.int (t : Nat))), some (.dat (v_few)), some (.own [.str ((PySem.Str.ofString "number ") ++ PyData.shown (v_far)), .str ((PySem.Str.ofString "number ") ++ PyData.shown (v_wide)), .str (PySem.Str.ofString "many 64"), .str (PySem.Str.ofString "fine")]), none, some (.dat (v_odd)), some (.dat (v_far)), some (.dat (v_wide)), some (.dat (v_prime))]) ?_ ?_
  · exact (by kernel_rfl)
  refine fseq_nx (σ' := [some (.dat (.int (t : Nat))), some (.dat (v_few)), some (.own [.str ((PySem.Str.ofString "number ") ++ PyData.shown (v_far)), .str ((PySem.Str.ofString "number ") ++ PyData.shown (v_wide)), .str (PySem.Str.ofString "many 64"), .str (PySem.Str.ofString "fine"), .str ((PySem.Str.ofString "number ") ++ PyData.shown (v_far))]), none, some (.dat (v_odd)), some (.dat (v_far)), some (.dat (v_wide)), some (.dat (v_prime))]) ?_ ?_
  · exact (by
    revert v_far
    exact (anF (anC (by kernel_rfl) (anC (by kernel_rfl) (anC (by kernel_rfl) (anC (by kernel_rfl) (anC (by kernel_rfl) (anC (by kernel_rfl) (anC (by kernel_rfl) (anN))))))))))
  refine fseq_nx (σ' := [some (.dat (.int (t : Nat))), some (.dat (v_few)), some (.own [.str ((PySem.Str.ofString "number ") ++ PyData.shown (v_far)), .str ((PySem.Str.ofString "number ") ++ PyData.shown (v_wide)), .str (PySem.Str.ofString "many 64"), .str (PySem.Str.ofString "fine"), .str ((PySem.Str.ofString "number ") ++ PyData.shown (v_far)), .str ((PySem.Str.ofString "number ") ++ PyData.shown (v_wide))]), none, some (.dat (v_odd)), some (.dat (v_far)), some (.dat (v_wide)), some (.dat (v_prime))]) ?_ ?_
  · exact (by
    revert v_wide
    exact (anF (anC (by kernel_rfl) (anC (by kernel_rfl) (anC (by kernel_rfl) (anC (by kernel_rfl) (anC (by kernel_rfl) (anN))))))))
  refine fseq_nx (σ' := [some (.dat (.int (t : Nat))), some (.dat (v_few)), some (.own [.str ((PySem.Str.ofString "number ") ++ PyData.shown (v_far)), .str ((PySem.Str.ofString "number ") ++ PyData.shown (v_wide)), .str (PySem.Str.ofString "many 64"), .str (PySem.Str.ofString "fine"), .str ((PySem.Str.ofString "number ") ++ PyData.shown (v_far)), .str ((PySem.Str.ofString "number ") ++ PyData.shown (v_wide)), .str (PySem.Str.ofString "many 64")]), none, some (.dat (v_odd)), some (.dat (v_far)), some (.dat (v_wide)), some (.dat (v_prime))]) ?_ ?_
  · exact (by kernel_rfl)
  refine fseq_nx (σ' := [some (.dat (.int (t : Nat))), some (.dat (v_few)), some (.own [.str ((PySem.Str.ofString "number ") ++ PyData.shown (v_far)), .str ((PySem.Str.ofString "number ") ++ PyData.shown (v_wide)), .str (PySem.Str.ofString "many 64"), .str (PySem.Str.ofString "fine"), .str ((PySem.Str.ofString "number ") ++ PyData.shown (v_far)), .str ((PySem.Str.ofString "number ") ++ PyData.shown (v_wide)), .str (PySem.Str.ofString "many 64"), .str (PySem.Str.ofString "fine")]), none, some (.dat (v_odd)), some (.dat (v_far)), some (.dat (v_wide)), some (.dat (v_prime))]) ?_ ?_
  · exact (by kernel_rfl)
  refine fseq_nx (σ' := [some (.dat (.int (t : Nat))), some (.dat (v_few)), some (.own [.str ((PySem.Str.ofString "number ") ++ PyData.shown (v_far)), .str ((PySem.Str.ofString "number ") ++ PyData.shown (v_wide)), .str (PySem.Str.ofString "many 64"), .str (PySem.Str.ofString "fine"), .str ((PySem.Str.ofString "number ") ++ PyData.shown (v_far)), .str ((PySem.Str.ofString "number ") ++ PyData.shown (v_wide)), .str (PySem.Str.ofString "many 64"), .str (PySem.Str.ofString "fine"), .str ((PySem.Str.ofString "number ") ++ PyData.shown (v_prime))]), none, some (.dat (v_odd)), some (.dat (v_far)), some (.dat (v_wide)), some (.dat (v_prime))]) ?_ ?_
  · exact (by
    revert v_prime
    exact (anF (anC (by kernel_rfl) (anC (by kernel_rfl) (anC (by kernel_rfl) (anC (by kernel_rfl) (anC (by kernel_rfl) (anC (by kernel_rfl) (anC (by kernel_rfl) (anC (by kernel_rfl) (anC (by kernel_rfl) (anC (by kernel_rfl) (anN)))))))))))))
  refine fseq_nx (σ' := [some (.dat (.int (t : Nat))), some (.dat (v_few)), some (.own [.str ((PySem.Str.ofString "number ") ++ PyData.shown (v_far)), .str ((PySem.Str.ofString "number ") ++ PyData.shown (v_wide)), .str (PySem.Str.ofString "many 64"), .str (PySem.Str.ofString "fine"), .str ((PySem.Str.ofString "number ") ++ PyData.shown (v_far)), .str ((PySem.Str.ofString "number ") ++ PyData.shown (v_wide)), .str (PySem.Str.ofString "many 64"), .str (PySem.Str.ofString "fine"), .str ((PySem.Str.ofString "number ") ++ PyData.shown (v_prime)), .str ((PySem.Str.ofString "number ") ++ PyData.shown (v_few))]), none, some (.dat (v_odd)), some (.dat (v_far)), some (.dat (v_wide)), some (.dat (v_prime))]) ?_ ?_
  · exact (by
    revert v_few
    exact (anF (anC (by kernel_rfl) (anC (by kernel_rfl) (anC (by kernel_rfl) (anC (by kernel_rfl) (anC (by kernel_rfl) (anC (by kernel_rfl) (anN)))))))))
  refine fseq_nx (σ' := [some (.dat (.int (t : Nat))), some (.dat (v_few)), some (.own [.str ((PySem.Str.ofString "number ") ++ PyData.shown (v_far)), .str ((PySem.Str.ofString "number ") ++ PyData.shown (v_wide)), .str (PySem.Str.ofString "many 64"), .str (PySem.Str.ofString "fine"), .str ((PySem.Str.ofString "number ") ++ PyData.shown (v_far)), .str ((PySem.Str.ofString "number ") ++ PyData.shown (v_wide)), .str (PySem.Str.ofString "many 64"), .str (PySem.Str.ofString "fine"), .str ((PySem.Str.ofString "number ") ++ PyData.shown (v_prime)), .str ((PySem.Str.ofString "number ") ++ PyData.shown (v_few)), .str ((PySem.Str.ofString "number ") ++ PyData.shown (v_odd))]), none, some (.dat (v_odd)), some (.dat (v_far)), some (.dat (v_wide)), some (.dat (v_prime))]) ?_ ?_
  · exact (by
    revert v_odd
    exact (anF (anC (by kernel_rfl) (anC (by kernel_rfl) (anC (by kernel_rfl) (anC (by kernel_rfl) (anC (by kernel_rfl) (anC (by kernel_rfl) (anC (by kernel_rfl) (anC (by kernel_rfl) (anC (by kernel_rfl) (anC (by kernel_rfl) (anN)))))))))))))
  refine fseq_nx (σ' := [some (.dat (.int (t : Nat))), some (.dat (v_few)), some (.own [.str ((PySem.Str.ofString "number ") ++ PyData.shown (v_far)), .str ((PySem.Str.ofString "number ") ++ PyData.shown (v_wide)), .str (PySem.Str.ofString "many 64"), .str (PySem.Str.ofString "fine"), .str ((PySem.Str.ofString "number ") ++ PyData.shown (v_far)), .str ((PySem.Str.ofString "number ") ++ PyData.shown (v_wide)), .str (PySem.Str.ofString "many 64"), .str (PySem.Str.ofString "fine"), .str ((PySem.Str.ofString "number ") ++ PyData.shown (v_prime)), .str ((PySem.Str.ofString "number ") ++ PyData.shown (v_few)), .str ((PySem.Str.ofString "number ") ++ PyData.shown (v_odd))]), some (.dat (.list [.str ((PySem.Str.ofString "number ") ++ PyData.shown (v_far)), .str ((PySem.Str.ofString "number ") ++ PyData.shown (v_wide)), .str (PySem.Str.ofString "many 64"), .str (PySem.Str.ofString "fine"), .str ((PySem.Str.ofString "number ") ++ PyData.shown (v_far))])), some (.dat (v_odd)), some (.dat (v_far)), some (.dat (v_wide)), some (.dat (v_prime))]) ?_ ?_
  · exact (by
    revert v_far v_wide
    exact (anF (anC (anF (anC (by kernel_rfl) (anC (by kernel_rfl) (anC (by kernel_rfl) (anC (by kernel_rfl) (anC (by kernel_rfl) (anN))))))) (anC (anF (anC (by kernel_rfl) (anC (by kernel_rfl) (anC (by kernel_rfl) (anC (by kernel_rfl) (anC (by kernel_rfl) (anN))))))) (anC (anF (anC (by kernel_rfl) (anC (by kernel_rfl) (anC (by kernel_rfl) (anC (by kernel_rfl) (anC (by kernel_rfl) (anN))))))) (anC (anF (anC (by kernel_rfl) (anC (by kernel_rfl) (anC (by kernel_rfl) (anC (by kernel_rfl) (anC (by kernel_rfl) (anN))))))) (anC (anF (anC (by kernel_rfl) (anC (by kernel_rfl) (anC (by kernel_rfl) (anC (by kernel_rfl) (anC (by kernel_rfl) (anN))))))) (anC (anF (anC (by kernel_rfl) (anC (by kernel_rfl) (anC (by kernel_rfl) (anC (by kernel_rfl) (anC (by kernel_rfl) (anN))))))) (anC (anF (anC (by kernel_rfl) (anC (by kernel_rfl) (anC (by kernel_rfl) (anC (by kernel_rfl) (anC (by kernel_rfl) (anN))))))) (anN))))))))))
  refine fseq_nx (σ' := [some (.dat (.int (t : Nat))), some (.dat (v_few)), some (.own [.str ((PySem.Str.ofString "number ") ++ PyData.shown (v_far)), .str ((PySem.Str.ofString "number ") ++ PyData.shown (v_wide)), .str (PySem.Str.ofString "many 64"), .str (PySem.Str.ofString "fine"), .str ((PySem.Str.ofString "number ") ++ PyData.shown (v_far)), .str ((PySem.Str.ofString "number ") ++ PyData.shown (v_wide)), .str (PySem.Str.ofString "many 64"), .str (PySem.Str.ofString "fine"), .str ((PySem.Str.ofString "number ") ++ PyData.shown (v_prime)), .str ((PySem.Str.ofString "number ") ++ PyData.shown (v_few)), .str ((PySem.Str.ofString "number ") ++ PyData.shown (v_odd))]), some (.dat (.list [.str ((PySem.Str.ofString "number ") ++ PyData.shown (v_far)), .str ((PySem.Str.ofString "number ") ++ PyData.shown (v_wide)), .str (PySem.Str.ofString "many 64"), .str (PySem.Str.ofString "fine"), .str ((PySem.Str.ofString "number ") ++ PyData.shown (v_far)), .str ((PySem.Str.ofString "number ") ++ PyData.shown (v_wide))])), some (.dat (v_odd)), some (.dat (v_far)), some (.dat (v_wide)), some (.dat (v_prime))]) ?_ ?_
  · exact (by
    revert v_wide
    exact (anF (anC (by kernel_rfl) (anC (by kernel_rfl) (anC (by kernel_rfl) (anC (by kernel_rfl) (anC (by kernel_rfl) (anN))))))))
  refine ffrz_nx (σ' := [some (.dat (.int (t : Nat))), some (.dat (v_few)), some (.dat (.list [.str ((PySem.Str.ofString "number ") ++ PyData.shown (v_far)), .str ((PySem.Str.ofString "number ") ++ PyData.shown (v_wide)), .str (PySem.Str.ofString "many 64"), .str (PySem.Str.ofString "fine"), .str ((PySem.Str.ofString "number ") ++ PyData.shown (v_far)), .str ((PySem.Str.ofString "number ") ++ PyData.shown (v_wide)), .str (PySem.Str.ofString "many 64"), .str (PySem.Str.ofString "fine"), .str ((PySem.Str.ofString "number ") ++ PyData.shown (v_prime)), .str ((PySem.Str.ofString "number ") ++ PyData.shown (v_few)), .str ((PySem.Str.ofString "number ") ++ PyData.shown (v_odd))])), some (.dat (.list [.str ((PySem.Str.ofString "number ") ++ PyData.shown (v_far)), .str ((PySem.Str.ofString "number ") ++ PyData.shown (v_wide)), .str (PySem.Str.ofString "many 64"), .str (PySem.Str.ofString "fine"), .str ((PySem.Str.ofString "number ") ++ PyData.shown (v_far)), .str ((PySem.Str.ofString "number ") ++ PyData.shown (v_wide))])), some (.dat (v_odd)), some (.dat (v_far)), some (.dat (v_wide)), some (.dat (v_prime))]) (by kernel_rfl) ?_
  have k_odd : PyData.strOk ((PySem.Str.ofString "number ") ++ PyData.shown (v_odd)) = true := (by
    revert v_odd
    exact (anF (anC (by kernel_rfl) (anC (by kernel_rfl) (anC (by kernel_rfl) (anC (by kernel_rfl) (anC (by kernel_rfl) (anC (by kernel_rfl) (anC (by kernel_rfl) (anC (by kernel_rfl) (anC (by kernel_rfl) (anC (by kernel_rfl) (anN)))))))))))))
  have k_far : PyData.strOk ((PySem.Str.ofString "number ") ++ PyData.shown (v_far)) = true := (by
    revert v_far
    exact (anF (anC (by kernel_rfl) (anC (by kernel_rfl) (anC (by kernel_rfl) (anC (by kernel_rfl) (anC (by kernel_rfl) (anC (by kernel_rfl) (anC (by kernel_rfl) (anN))))))))))
  have k_wide : PyData.strOk ((PySem.Str.ofString "number ") ++ PyData.shown (v_wide)) = true := (by
    revert v_wide
    exact (anF (anC (by kernel_rfl) (anC (by kernel_rfl) (anC (by kernel_rfl) (anC (by kernel_rfl) (anC (by kernel_rfl) (anN))))))))
  have k_prime : PyData.strOk ((PySem.Str.ofString "number ") ++ PyData.shown (v_prime)) = true := (by
    revert v_prime
    exact (anF (anC (by kernel_rfl) (anC (by kernel_rfl) (anC (by kernel_rfl) (anC (by kernel_rfl) (anC (by kernel_rfl) (anC (by kernel_rfl) (anC (by kernel_rfl) (anC (by kernel_rfl) (anC (by kernel_rfl) (anC (by kernel_rfl) (anN)))))))))))))
  have k_few : PyData.strOk ((PySem.Str.ofString "number ") ++ PyData.shown (v_few)) = true := (by
    revert v_few
    exact (anF (anC (by kernel_rfl) (anC (by kernel_rfl) (anC (by kernel_rfl) (anC (by kernel_rfl) (anC (by kernel_rfl) (anC (by kernel_rfl) (anN)))))))))
  refine ret_at (op_at (x := .list [.str ((PySem.Str.ofString "number ") ++ PyData.shown (v_far)), .str ((PySem.Str.ofString "number ") ++ PyData.shown (v_wide)), .str (PySem.Str.ofString "many 64"), .str (PySem.Str.ofString "fine"), .str ((PySem.Str.ofString "number ") ++ PyData.shown (v_far)), .str ((PySem.Str.ofString "number ") ++ PyData.shown (v_wide)), .str (PySem.Str.ofString "many 64"), .str (PySem.Str.ofString "fine"), .str ((PySem.Str.ofString "number ") ++ PyData.shown (v_prime)), .str ((PySem.Str.ofString "number ") ++ PyData.shown (v_few)), .str ((PySem.Str.ofString "number ") ++ PyData.shown (v_odd))]) (y := .list [.str ((PySem.Str.ofString "number ") ++ PyData.shown (v_far)), .str ((PySem.Str.ofString "number ") ++ PyData.shown (v_wide)), .str (PySem.Str.ofString "many 64"), .str (PySem.Str.ofString "fine"), .str ((PySem.Str.ofString "number ") ++ PyData.shown (v_far)), .str ((PySem.Str.ofString "number ") ++ PyData.shown (v_wide)), .str (PySem.Str.ofString "many 64"), .str (PySem.Str.ofString "fine"), .str ((PySem.Str.ofString "number ") ++ PyData.shown (v_prime)), .str ((PySem.Str.ofString "number ") ++ PyData.shown (v_few)), .str ((PySem.Str.ofString "number ") ++ PyData.shown (v_odd))]) (by kernel_rfl) (fL_at (catL_at (xs := [.str ((PySem.Str.ofString "number ") ++ PyData.shown (v_far)), .str ((PySem.Str.ofString "number ") ++ PyData.shown (v_wide)), .str (PySem.Str.ofString "many 64"), .str (PySem.Str.ofString "fine"), .str ((PySem.Str.ofString "number ") ++ PyData.shown (v_far)), .str ((PySem.Str.ofString "number ") ++ PyData.shown (v_wide))]) (ys := [.str (PySem.Str.ofString "many 64"), .str (PySem.Str.ofString "fine"), .str ((PySem.Str.ofString "number ") ++ PyData.shown (v_prime)), .str ((PySem.Str.ofString "number ") ++ PyData.shown (v_few)), .str ((PySem.Str.ofString "number ") ++ PyData.shown (v_odd))]) (by kernel_rfl) (seqL_at (lst_at (cons_at (by kernel_rfl) (cons_at (by kernel_rfl) (cons_at (by
    clear k_prime
    revert v_prime
    exact (anF (anC (by kernel_rfl) (anC (by kernel_rfl) (anC (by kernel_rfl) (anC (by kernel_rfl) (anC (by kernel_rfl) (anC (by kernel_rfl) (anC (by kernel_rfl) (anC (by kernel_rfl) (anC (by kernel_rfl) (anC (by kernel_rfl) (anN))))))))))))) (cons_at (by
    clear k_few
    revert v_few
    exact (anF (anC (by kernel_rfl) (anC (by kernel_rfl) (anC (by kernel_rfl) (anC (by kernel_rfl) (anC (by kernel_rfl) (anC (by kernel_rfl) (anN))))))))) (cons_at (by
    clear k_odd
    revert v_odd
    exact (anF (anC (by kernel_rfl) (anC (by kernel_rfl) (anC (by kernel_rfl) (anC (by kernel_rfl) (anC (by kernel_rfl) (anC (by kernel_rfl) (anC (by kernel_rfl) (anC (by kernel_rfl) (anC (by kernel_rfl) (anC (by kernel_rfl) (anN))))))))))))) rfl))))) (by kernel_rfl))) (by kernel_rfl))) (gEq_self (Bool.and_eq_true_iff.mpr ⟨?_, by kernel_rfl⟩)))
  simp only [PyData.canLay0, PyData.canLayAll0, k_odd, k_far, k_wide, k_prime, k_few, Bool.true_and, Bool.and_true] <;> kernel_rfl
end Q
end
section
set_option Elab.async false
set_option linter.all false
set_option maxRecDepth 100000
set_option maxHeartbeats 4000000
set_option exponentiation.threshold 20000
namespace Q
open PySem PySem.Spec PyProof.Rows L2 HbE Evl Dl RZ Gx
def isTw : Rs Fw → Bool
  | .ok (.rt (.bool true)) => true
  | _ => false
theorem of_isTw {r : Rs Fw} (h : isTw r = true) : r = .ok (.rt (.bool true)) := by
  unfold isTw at h
  split at h
  · rfl
  · cases h
def SD_law : DSp := fun ws Q => ∃ ds, ws = [.dat (.list ds)] ∧ (intsD ds).isSome = true ∧ ds.length ≤ 63 ∧ Q (.bool true)
theorem len_law {ws : List WD} {Q : PyData → Prop} (h : SD_law ws Q) : ws.length = 1 := by
  obtain ⟨_, rfl, _⟩ := h
  rfl

theorem meetings_at (t : Nat) : F__law_meetings_right [.int (t : Nat)] = .ok (.bool true) := fn_at rfl (tail_law_meetings_right t)
theorem spreads_at (t : Nat) : F__law_spreads_right [.int (t : Nat)] = .ok (.bool true) := fn_at rfl (tail_law_spreads_right t)
theorem made_at (t : Nat) : F__law_made_right [.int (t : Nat)] = .ok (.bool true) := fn_at rfl (tail_law_made_right t)
theorem of_at {F : FF} {t : Nat} (h : F [.int (t : Nat)] = .ok (.bool true)) {Q : PyData → Prop} (q : Q (.bool true)) : ofF Dl.E0 F [.dat (.int (t : Nat))] Q := ⟨[.int (t : Nat)], rfl, by rw [h]; exact q⟩
theorem law_tail (w0 w1 w2 w3 : Option WD) : ft_law [w0, w1, w2, w3] = .ok (.rt (.bool true)) := of_isTw (by kernel_rfl)
theorem pu_law (ws : List WD) (Qd : PyData → Prop) (h : SD_law ws Qd) : db_law { nx := fun _ => Qd .none, rt := Qd } (startD N_law.length ws) := by
  obtain ⟨ds, rfl, h0, h1, q⟩ := h
  unfold db_law
  have start : startD N_law.length [WD.dat (.list ds)] = [some (.dat (.list ds)), none, none, none] := rfl
  rw [start]
  refine dSeq_gen (fun σ => ∃ w1 w2 w3, σ = [some (.dat (.list ds)), w1, w2, w3]) (fun N hN => ?_) (fun σ ⟨w1, w2, w3, e⟩ => ?_)
  · simp only [dFor, dRange1, dCons, dD, dOpN, dDats, fMax2, fMin2, dOpQ, fLen, dVarQ, dC, dNil, dats, List.getElem?_cons_zero]
    refine ⟨by split <;> (try split) <;> omega, by split <;> (try split) <;> omega, ?_⟩
    refine forD_inv (fun i σ => ∃ w1 w2 w3, σ = [some (.dat (.list ds)), w1, w2, w3]) ⟨none, none, none, rfl⟩ (fun i d σ M hd ⟨w1, w2, w3, e⟩ hM => ?_) (fun σ hI => hN σ hI)
    have hi := rangeE_at hd
    have i3 : i < 2 := by
      have := hi.1
      split at this <;> (try split at this) <;> omega
    obtain ⟨_, rfl⟩ := hi
    subst e
    simp only [gSet, dSeq, dSet, dUpHat, dCons, dD, dVar, dNil, List.set_cons_succ, List.set_cons_zero, List.getElem?_cons_succ, List.getElem?_cons_zero]
    refine ⟨h0, ⟨by omega, by omega⟩, fun r r0 r1 => ?_⟩
    obtain ⟨b, rfl⟩ : ∃ b : Nat, r = b := ⟨r.toNat, by omega⟩
    simp only [dFor, dRange2, dCons, dD, dOp, fI0, dC, dVar, dNil, List.getElem?_cons_succ, List.getElem?_cons_zero]
    refine ⟨⟨by omega, by omega, by omega, by omega⟩, ?_⟩
    refine forD_inv (fun j σ => ∃ w3, σ = [some (.dat (.list ds)), some (.dat (.int i)), some (.dat (.int b)), w3]) ⟨w3, rfl⟩ (fun j d σ M2 hd2 ⟨w3, e⟩ hM2 => ?_) (fun σ ⟨w3, e⟩ => hM σ ⟨_, _, _, e⟩)
    subst e
    obtain ⟨t, rfl⟩ : ∃ t : Nat, d = .int (t : Nat) := by
      rw [List.getElem?_map] at hd2
      cases z : (List.range ((b : Int) + 48 - b).toNat)[j]? with
      | none => rw [z] at hd2; cases hd2
      | some k =>
        rw [z] at hd2
        cases hd2
        exact ⟨b + k, by simp⟩
    simp only [gSet, dIf, dOr, dNot, dTru, dCall, dCons, dD, dVar, dNil, dNext, List.set_cons_succ, List.set_cons_zero, List.getElem?_cons_succ, List.getElem?_cons_zero]
    refine of_at (meetings_at t) ?_
    simp only [truD]
    refine of_at (spreads_at t) ?_
    simp only [truD]
    refine of_at (made_at t) ?_
    simp only [truD]
    exact hM2 _ ⟨_, rfl⟩
  subst e
  exact of_tail lt_law (law_tail _ _ _ _) q
end Q
end
section
set_option Elab.async false
set_option linter.all false
set_option maxRecDepth 100000
set_option maxHeartbeats 4000000
namespace Q
open PySem PySem.Spec PyProof.Rows L2 HbE Evl Dl RZ Gx HbX
theorem all_mk {l : PySem.W.OpenLaw} {w : World} {K : PySem.W.Frag} {h : Heap} {mg : Str → Option Value} {fa : Addr} {q : Program} (X : K.In h) (G : h.Ns mainGlobals mg) (hfa : mg "law" = some (.ref fa))
    (tabs : ∀ (y : Str) (c P : Addr), ((recsOf q).find? fun e => e.name == y).isSome = true → PySem.W.tabIn K y = some (c, P) → PySem.W.CodeHd h c P ∧ h.get? P = some { cls := .none, data := .fields #[] })
    {a_InvalidNumber : Addr}
    {a_InvalidDraw : Addr}
    {a_InvalidMaps : Addr}
    {a_TooMany : Addr}
    {aH : Addr}
    {nm_InvalidNumber qn_InvalidNumber : Str} {N_InvalidNumber : Addr} {bs_InvalidNumber : List Value} {sn_InvalidNumber : List Str} {sub_InvalidNumber : List Value} {ab_InvalidNumber : Bool} {col_InvalidNumber : Option Bool} {dd_InvalidNumber : Option Addr} {m0_InvalidNumber m1_InvalidNumber m2_InvalidNumber m3_InvalidNumber m5_InvalidNumber : Option Value} {fi_InvalidNumber : Addr} {ocI_InvalidNumber : Value} {odI_InvalidNumber anI_InvalidNumber : Option Addr} {slI_InvalidNumber : Array (Option Value)} {kVI_InvalidNumber dcI_InvalidNumber pmI_InvalidNumber cdI_InvalidNumber ctI_InvalidNumber : Value}
    {nm_TooMany qn_TooMany : Str} {N_TooMany : Addr} {bs_TooMany : List Value} {sn_TooMany : List Str} {sub_TooMany : List Value} {ab_TooMany : Bool} {col_TooMany : Option Bool} {dd_TooMany : Option Addr} {m0_TooMany m1_TooMany m2_TooMany m3_TooMany m5_TooMany : Option Value} {fi_TooMany : Addr} {ocI_TooMany : Value} {odI_TooMany anI_TooMany : Option Addr} {slI_TooMany : Array (Option Value)} {kVI_TooMany dcI_TooMany pmI_TooMany cdI_TooMany ctI_TooMany : Value}
    {f_is_integer : Addr} {oc_is_integer : Value} {od_is_integer an_is_integer : Option Addr} {sl_is_integer : Array (Option Value)} {kV_is_integer dc_is_integer pm_is_integer ct_is_integer : Value} {cd_is_integer : Value}
    {f_is_between : Addr} {oc_is_between : Value} {od_is_between an_is_between : Option Addr} {sl_is_between : Array (Option Value)} {kV_is_between dc_is_between pm_is_between ct_is_between : Value} {cd_is_between : Value}
    {f_is_index : Addr} {oc_is_index : Value} {od_is_index an_is_index : Option Addr} {sl_is_index : Array (Option Value)} {kV_is_index dc_is_index pm_is_index ct_is_index : Value} {cd_is_index : Value}
    {f_is_tuple_of : Addr} {oc_is_tuple_of : Value} {od_is_tuple_of an_is_tuple_of : Option Addr} {sl_is_tuple_of : Array (Option Value)} {kV_is_tuple_of dc_is_tuple_of pm_is_tuple_of ct_is_tuple_of : Value} {cd_is_tuple_of : Value}
    {f_is_answer : Addr} {oc_is_answer : Value} {od_is_answer an_is_answer : Option Addr} {sl_is_answer : Array (Option Value)} {kV_is_answer dc_is_answer pm_is_answer ct_is_answer : Value} {cd_is_answer : Value}
    {f_is_indices : Addr} {oc_is_indices : Value} {od_is_indices an_is_indices : Option Addr} {sl_is_indices : Array (Option Value)} {kV_is_indices dc_is_indices pm_is_indices ct_is_indices : Value} {cc_is_indices : Addr}
    {f_is_row_within : Addr} {oc_is_row_within : Value} {od_is_row_within an_is_row_within : Option Addr} {sl_is_row_within : Array (Option Value)} {kV_is_row_within dc_is_row_within pm_is_row_within ct_is_row_within : Value} {cc_is_row_within : Addr}
    {f_is_weights : Addr} {oc_is_weights : Value} {od_is_weights an_is_weights : Option Addr} {sl_is_weights : Array (Option Value)} {kV_is_weights dc_is_weights pm_is_weights ct_is_weights : Value} {cd_is_weights : Value}
    {f_is_mix : Addr} {oc_is_mix : Value} {od_is_mix an_is_mix : Option Addr} {sl_is_mix : Array (Option Value)} {kV_is_mix dc_is_mix pm_is_mix ct_is_mix : Value} {cd_is_mix : Value}
    {f_need_number : Addr} {oc_need_number : Value} {od_need_number an_need_number : Option Addr} {sl_need_number : Array (Option Value)} {kV_need_number dc_need_number pm_need_number ct_need_number : Value} {cd_need_number : Value}
    {f_need_small_prime : Addr} {oc_need_small_prime : Value} {od_need_small_prime an_need_small_prime : Option Addr} {sl_need_small_prime : Array (Option Value)} {kV_need_small_prime dc_need_small_prime pm_need_small_prime ct_need_small_prime : Value} {cd_need_small_prime : Value}
    {f_need_draw : Addr} {oc_need_draw : Value} {od_need_draw an_need_draw : Option Addr} {sl_need_draw : Array (Option Value)} {kV_need_draw dc_need_draw pm_need_draw ct_need_draw : Value} {cd_need_draw : Value}
    {f_parity : Addr} {oc_parity : Value} {od_parity an_parity : Option Addr} {sl_parity : Array (Option Value)} {kV_parity dc_parity pm_parity ct_parity : Value} {cd_parity : Value}
    {f_reduced : Addr} {oc_reduced : Value} {od_reduced an_reduced : Option Addr} {sl_reduced : Array (Option Value)} {kV_reduced dc_reduced pm_reduced ct_reduced : Value} {cd_reduced : Value}
    {f_lowest_row : Addr} {oc_lowest_row : Value} {od_lowest_row an_lowest_row : Option Addr} {sl_lowest_row : Array (Option Value)} {kV_lowest_row dc_lowest_row pm_lowest_row ct_lowest_row : Value} {cd_lowest_row : Value}
    {f__is_map : Addr} {oc__is_map : Value} {od__is_map an__is_map : Option Addr} {sl__is_map : Array (Option Value)} {kV__is_map dc__is_map pm__is_map ct__is_map : Value} {cd__is_map : Value}
    {f__need_maps : Addr} {oc__need_maps : Value} {od__need_maps an__need_maps : Option Addr} {sl__need_maps : Array (Option Value)} {kV__need_maps dc__need_maps pm__need_maps ct__need_maps : Value} {cc__need_maps : Addr}
    {f__meeting : Addr} {oc__meeting : Value} {od__meeting an__meeting : Option Addr} {sl__meeting : Array (Option Value)} {kV__meeting dc__meeting pm__meeting ct__meeting : Value} {cd__meeting : Value}
    {f_chance_of_meeting : Addr} {oc_chance_of_meeting : Value} {od_chance_of_meeting an_chance_of_meeting : Option Addr} {sl_chance_of_meeting : Array (Option Value)} {kV_chance_of_meeting dc_chance_of_meeting pm_chance_of_meeting ct_chance_of_meeting : Value} {cd_chance_of_meeting : Value}
    {f_mean_meeting : Addr} {oc_mean_meeting : Value} {od_mean_meeting an_mean_meeting : Option Addr} {sl_mean_meeting : Array (Option Value)} {kV_mean_meeting dc_mean_meeting pm_mean_meeting ct_mean_meeting : Value} {cd_mean_meeting : Value}
    {f__are_often : Addr} {oc__are_often : Value} {od__are_often an__are_often : Option Addr} {sl__are_often : Array (Option Value)} {kV__are_often dc__are_often pm__are_often ct__are_often : Value} {cd__are_often : Value}
    {f__often_pairs : Addr} {oc__often_pairs : Value} {od__often_pairs an__often_pairs : Option Addr} {sl__often_pairs : Array (Option Value)} {kV__often_pairs dc__often_pairs pm__often_pairs ct__often_pairs : Value} {cd__often_pairs : Value}
    {f_meets_answer : Addr} {oc_meets_answer : Value} {od_meets_answer an_meets_answer : Option Addr} {sl_meets_answer : Array (Option Value)} {kV_meets_answer dc_meets_answer pm_meets_answer ct_meets_answer : Value} {cd_meets_answer : Value}
    {f_is_meets_answer : Addr} {oc_is_meets_answer : Value} {od_is_meets_answer an_is_meets_answer : Option Addr} {sl_is_meets_answer : Array (Option Value)} {kV_is_meets_answer dc_is_meets_answer pm_is_meets_answer ct_is_meets_answer : Value} {cd_is_meets_answer : Value}
    {f_are_even : Addr} {oc_are_even : Value} {od_are_even an_are_even : Option Addr} {sl_are_even : Array (Option Value)} {kV_are_even dc_are_even pm_are_even ct_are_even : Value} {cd_are_even : Value}
    {f__spread_numbers : Addr} {oc__spread_numbers : Value} {od__spread_numbers an__spread_numbers : Option Addr} {sl__spread_numbers : Array (Option Value)} {kV__spread_numbers dc__spread_numbers pm__spread_numbers ct__spread_numbers : Value} {cd__spread_numbers : Value}
    {f_spread : Addr} {oc_spread : Value} {od_spread an_spread : Option Addr} {sl_spread : Array (Option Value)} {kV_spread dc_spread pm_spread ct_spread : Value} {cd_spread : Value}
    {f__need_maps_and_draw : Addr} {oc__need_maps_and_draw : Value} {od__need_maps_and_draw an__need_maps_and_draw : Option Addr} {sl__need_maps_and_draw : Array (Option Value)} {kV__need_maps_and_draw dc__need_maps_and_draw pm__need_maps_and_draw ct__need_maps_and_draw : Value} {cd__need_maps_and_draw : Value}
    {f__gaps : Addr} {oc__gaps : Value} {od__gaps an__gaps : Option Addr} {sl__gaps : Array (Option Value)} {kV__gaps dc__gaps pm__gaps ct__gaps : Value} {cd__gaps : Value}
    {f_leftover : Addr} {oc_leftover : Value} {od_leftover an_leftover : Option Addr} {sl_leftover : Array (Option Value)} {kV_leftover dc_leftover pm_leftover ct_leftover : Value} {cd_leftover : Value}
    {f_leftover_parts : Addr} {oc_leftover_parts : Value} {od_leftover_parts an_leftover_parts : Option Addr} {sl_leftover_parts : Array (Option Value)} {kV_leftover_parts dc_leftover_parts pm_leftover_parts ct_leftover_parts : Value} {cd_leftover_parts : Value}
    {f_mean_distance : Addr} {oc_mean_distance : Value} {od_mean_distance an_mean_distance : Option Addr} {sl_mean_distance : Array (Option Value)} {kV_mean_distance dc_mean_distance pm_mean_distance ct_mean_distance : Value} {cd_mean_distance : Value}
    {f_least_meeting : Addr} {oc_least_meeting : Value} {od_least_meeting an_least_meeting : Option Addr} {sl_least_meeting : Array (Option Value)} {kV_least_meeting dc_least_meeting pm_least_meeting ct_least_meeting : Value} {cd_least_meeting : Value}
    {f__need_bits : Addr} {oc__need_bits : Value} {od__need_bits an__need_bits : Option Addr} {sl__need_bits : Array (Option Value)} {kV__need_bits dc__need_bits pm__need_bits ct__need_bits : Value} {cd__need_bits : Value}
    {f__need_few : Addr} {oc__need_few : Value} {od__need_few an__need_few : Option Addr} {sl__need_few : Array (Option Value)} {kV__need_few dc__need_few pm__need_few ct__need_few : Value} {cd__need_few : Value}
    {f__linear : Addr} {oc__linear : Value} {od__linear an__linear : Option Addr} {sl__linear : Array (Option Value)} {kV__linear dc__linear pm__linear ct__linear : Value} {cd__linear : Value}
    {f_linear_maps : Addr} {oc_linear_maps : Value} {od_linear_maps an_linear_maps : Option Addr} {sl_linear_maps : Array (Option Value)} {kV_linear_maps dc_linear_maps pm_linear_maps ct_linear_maps : Value} {cd_linear_maps : Value}
    {f_affine_maps : Addr} {oc_affine_maps : Value} {od_affine_maps an_affine_maps : Option Addr} {sl_affine_maps : Array (Option Value)} {kV_affine_maps dc_affine_maps pm_affine_maps ct_affine_maps : Value} {cd_affine_maps : Value}
    {f_field_maps : Addr} {oc_field_maps : Value} {od_field_maps an_field_maps : Option Addr} {sl_field_maps : Array (Option Value)} {kV_field_maps dc_field_maps pm_field_maps ct_field_maps : Value} {cd_field_maps : Value}
    {f__law_vx_hat : Addr} {oc__law_vx_hat : Value} {od__law_vx_hat an__law_vx_hat : Option Addr} {sl__law_vx_hat : Array (Option Value)} {kV__law_vx_hat dc__law_vx_hat pm__law_vx_hat ct__law_vx_hat : Value} {cd__law_vx_hat : Value}
    {f__law_vx_up : Addr} {oc__law_vx_up : Value} {od__law_vx_up an__law_vx_up : Option Addr} {sl__law_vx_up : Array (Option Value)} {kV__law_vx_up dc__law_vx_up pm__law_vx_up ct__law_vx_up : Value} {cd__law_vx_up : Value}
    {f__law_met : Addr} {oc__law_met : Value} {od__law_met an__law_met : Option Addr} {sl__law_met : Array (Option Value)} {kV__law_met dc__law_met pm__law_met ct__law_met : Value} {cd__law_met : Value}
    {f__law_wrong : Addr} {oc__law_wrong : Value} {od__law_wrong an__law_wrong : Option Addr} {sl__law_wrong : Array (Option Value)} {kV__law_wrong dc__law_wrong pm__law_wrong ct__law_wrong : Value} {cd__law_wrong : Value}
    {f__law_meetings_right : Addr} {oc__law_meetings_right : Value} {od__law_meetings_right an__law_meetings_right : Option Addr} {sl__law_meetings_right : Array (Option Value)} {kV__law_meetings_right dc__law_meetings_right pm__law_meetings_right ct__law_meetings_right : Value} {cc__law_meetings_right : Addr}
    {f__law_spreads_right : Addr} {oc__law_spreads_right : Value} {od__law_spreads_right an__law_spreads_right : Option Addr} {sl__law_spreads_right : Array (Option Value)} {kV__law_spreads_right dc__law_spreads_right pm__law_spreads_right ct__law_spreads_right : Value} {cc__law_spreads_right : Addr}
    {f__law_made_right : Addr} {oc__law_made_right : Value} {od__law_made_right an__law_made_right : Option Addr} {sl__law_made_right : Array (Option Value)} {kV__law_made_right dc__law_made_right pm__law_made_right ct__law_made_right : Value} {cc__law_made_right : Addr}
    {f_law : Addr} {oc_law : Value} {od_law an_law : Option Addr} {sl_law : Array (Option Value)} {kV_law dc_law pm_law ct_law : Value} {cc_law : Addr}
    {tk__LEAST_POINTS : Tok}
    {tk__MOST_POINTS : Tok}
    {tk__MOST_VALUES : Tok}
    {tk__MOST_MAPS : Tok}
    {tk__MOST_BITS : Tok}
    {tk__MOST_BITS_OF_VALUES : Tok}
    {at__SMALL_PRIMES : Addr}
    (gc_InvalidNumber : PySem.W.nsIn K mainGlobals "InvalidNumber" = some (some (.ref a_InvalidNumber)))
    (gc_InvalidDraw : PySem.W.nsIn K mainGlobals "InvalidDraw" = some (some (.ref a_InvalidDraw)))
    (gc_InvalidMaps : PySem.W.nsIn K mainGlobals "InvalidMaps" = some (some (.ref a_InvalidMaps)))
    (gc_TooMany : PySem.W.nsIn K mainGlobals "TooMany" = some (some (.ref a_TooMany)))
    (kc_InvalidDraw : PySem.W.keepIn K (.ref a_InvalidDraw) = true)
    (qc_InvalidDraw : PySem.W.excIn K a_InvalidDraw [.type "ValueError", .type "Exception", .type "BaseException", .type "object"] "ValueError.__new__" = true)
    (ec_InvalidDraw : PySem.W.subIn K (.ref a_InvalidDraw) (.type "BaseException") = some true)
    (tc_InvalidDraw : PySem.W.typeIn K (.ref a_InvalidDraw) = some (.type "type"))
    (kc_InvalidMaps : PySem.W.keepIn K (.ref a_InvalidMaps) = true)
    (qc_InvalidMaps : PySem.W.excIn K a_InvalidMaps [.type "ValueError", .type "Exception", .type "BaseException", .type "object"] "ValueError.__new__" = true)
    (ec_InvalidMaps : PySem.W.subIn K (.ref a_InvalidMaps) (.type "BaseException") = some true)
    (tc_InvalidMaps : PySem.W.typeIn K (.ref a_InvalidMaps) = some (.type "type"))
    (gH : PySem.W.nsIn K mainGlobals "HardError" = some (some (.ref aH)))
    (hs : PySem.W.specialIn K (.ref aH) "__getattribute__" = some (some (.builtin "type.__getattribute__")))
    (hr : PySem.W.readsIn K aH (.type "type") = true)
    (hf : PySem.W.findCls K (.ref aH) (.type "type") "__init__" = some (.val (.builtin "ValueError.__init__")))
    (xc_InvalidNumber : K.lookup a_InvalidNumber = some (excClassObj nm_InvalidNumber qn_InvalidNumber a_InvalidNumber N_InvalidNumber bs_InvalidNumber [.ref aH, .type "ValueError", .type "Exception", .type "BaseException", .type "object"] true sn_InvalidNumber sub_InvalidNumber ab_InvalidNumber col_InvalidNumber dd_InvalidNumber m0_InvalidNumber m1_InvalidNumber m2_InvalidNumber m3_InvalidNumber m5_InvalidNumber "ValueError.__new__"))
    (sa_InvalidNumber : PySem.W.findIn K (.ref a_InvalidNumber) "__setattr__" = some (some (.builtin "object.__setattr__")))
    (ec_InvalidNumber : PySem.W.subIn K (.ref a_InvalidNumber) (.type "BaseException") = some true)
    (tc_InvalidNumber : PySem.W.typeIn K (.ref a_InvalidNumber) = some (.type "type"))
    (kc_InvalidNumber : PySem.W.keepIn K (.ref a_InvalidNumber) = true)
    (nc_InvalidNumber : PySem.W.findIn K (.ref a_InvalidNumber) "given" = some none)
    (ic_InvalidNumber : PySem.W.findIn K (.ref a_InvalidNumber) "__init__" = some (some (.ref fi_InvalidNumber)))
    (ti_InvalidNumber : PySem.W.typeIn K (.ref fi_InvalidNumber) = some (.type "function"))
    (li_InvalidNumber : K.lookup fi_InvalidNumber = some ⟨ocI_InvalidNumber, odI_InvalidNumber, .func (PySem.W.fnOf "__init__" "InvalidNumber.__init__" (defArgs sI_InvalidNumber) (defBody sI_InvalidNumber) (defScope sI_InvalidNumber) .none kVI_InvalidNumber dcI_InvalidNumber pmI_InvalidNumber anI_InvalidNumber cdI_InvalidNumber ctI_InvalidNumber), slI_InvalidNumber⟩)
    (ci_InvalidNumber : PySem.W.codeIn K cdI_InvalidNumber "InvalidNumber.__init__" = true)
    (ki_InvalidNumber : PySem.W.keepIn K (.ref fi_InvalidNumber) = true)
    (xc_TooMany : K.lookup a_TooMany = some (excClassObj nm_TooMany qn_TooMany a_TooMany N_TooMany bs_TooMany [.ref aH, .type "ValueError", .type "Exception", .type "BaseException", .type "object"] true sn_TooMany sub_TooMany ab_TooMany col_TooMany dd_TooMany m0_TooMany m1_TooMany m2_TooMany m3_TooMany m5_TooMany "ValueError.__new__"))
    (sa_TooMany : PySem.W.findIn K (.ref a_TooMany) "__setattr__" = some (some (.builtin "object.__setattr__")))
    (ec_TooMany : PySem.W.subIn K (.ref a_TooMany) (.type "BaseException") = some true)
    (tc_TooMany : PySem.W.typeIn K (.ref a_TooMany) = some (.type "type"))
    (kc_TooMany : PySem.W.keepIn K (.ref a_TooMany) = true)
    (nc_TooMany : PySem.W.findIn K (.ref a_TooMany) "most" = some none)
    (ic_TooMany : PySem.W.findIn K (.ref a_TooMany) "__init__" = some (some (.ref fi_TooMany)))
    (ti_TooMany : PySem.W.typeIn K (.ref fi_TooMany) = some (.type "function"))
    (li_TooMany : K.lookup fi_TooMany = some ⟨ocI_TooMany, odI_TooMany, .func (PySem.W.fnOf "__init__" "TooMany.__init__" (defArgs sI_TooMany) (defBody sI_TooMany) (defScope sI_TooMany) .none kVI_TooMany dcI_TooMany pmI_TooMany anI_TooMany cdI_TooMany ctI_TooMany), slI_TooMany⟩)
    (ci_TooMany : PySem.W.codeIn K cdI_TooMany "TooMany.__init__" = true)
    (ki_TooMany : PySem.W.keepIn K (.ref fi_TooMany) = true)
    (xf_InvalidNumber : xfB K (caK K "InvalidNumber") = true)
    (nf_InvalidNumber : PySem.W.findIn K (.ref (caK K "InvalidNumber")) "given" = some none)
    (xf_TooMany : xfB K (caK K "TooMany") = true)
    (nf_TooMany : PySem.W.findIn K (.ref (caK K "TooMany")) "most" = some none)
    (hx__law_met : exB K hl__law_met = true)
    (g_is_integer : PySem.W.nsIn K mainGlobals "is_integer" = some (some (.ref f_is_integer)))
    (l_is_integer : K.lookup f_is_integer = some ⟨oc_is_integer, od_is_integer, .func (PySem.W.fnOf "is_integer" "is_integer" (defArgs s_is_integer) (defBody s_is_integer) (defScope s_is_integer) .none kV_is_integer dc_is_integer pm_is_integer an_is_integer cd_is_integer ct_is_integer), sl_is_integer⟩)
    (c_is_integer : PySem.W.codeIn K cd_is_integer "is_integer" = true)
    (kf_is_integer : PySem.W.keepIn K (.ref f_is_integer) = true)
    (g_is_between : PySem.W.nsIn K mainGlobals "is_between" = some (some (.ref f_is_between)))
    (l_is_between : K.lookup f_is_between = some ⟨oc_is_between, od_is_between, .func (PySem.W.fnOf "is_between" "is_between" (defArgs s_is_between) (defBody s_is_between) (defScope s_is_between) .none kV_is_between dc_is_between pm_is_between an_is_between cd_is_between ct_is_between), sl_is_between⟩)
    (c_is_between : PySem.W.codeIn K cd_is_between "is_between" = true)
    (kf_is_between : PySem.W.keepIn K (.ref f_is_between) = true)
    (g_is_index : PySem.W.nsIn K mainGlobals "is_index" = some (some (.ref f_is_index)))
    (l_is_index : K.lookup f_is_index = some ⟨oc_is_index, od_is_index, .func (PySem.W.fnOf "is_index" "is_index" (defArgs s_is_index) (defBody s_is_index) (defScope s_is_index) .none kV_is_index dc_is_index pm_is_index an_is_index cd_is_index ct_is_index), sl_is_index⟩)
    (c_is_index : PySem.W.codeIn K cd_is_index "is_index" = true)
    (kf_is_index : PySem.W.keepIn K (.ref f_is_index) = true)
    (g_is_tuple_of : PySem.W.nsIn K mainGlobals "is_tuple_of" = some (some (.ref f_is_tuple_of)))
    (l_is_tuple_of : K.lookup f_is_tuple_of = some ⟨oc_is_tuple_of, od_is_tuple_of, .func (PySem.W.fnOf "is_tuple_of" "is_tuple_of" (defArgs s_is_tuple_of) (defBody s_is_tuple_of) (defScope s_is_tuple_of) .none kV_is_tuple_of dc_is_tuple_of pm_is_tuple_of an_is_tuple_of cd_is_tuple_of ct_is_tuple_of), sl_is_tuple_of⟩)
    (c_is_tuple_of : PySem.W.codeIn K cd_is_tuple_of "is_tuple_of" = true)
    (kf_is_tuple_of : PySem.W.keepIn K (.ref f_is_tuple_of) = true)
    (g_is_answer : PySem.W.nsIn K mainGlobals "is_answer" = some (some (.ref f_is_answer)))
    (l_is_answer : K.lookup f_is_answer = some ⟨oc_is_answer, od_is_answer, .func (PySem.W.fnOf "is_answer" "is_answer" (defArgs s_is_answer) (defBody s_is_answer) (defScope s_is_answer) .none kV_is_answer dc_is_answer pm_is_answer an_is_answer cd_is_answer ct_is_answer), sl_is_answer⟩)
    (c_is_answer : PySem.W.codeIn K cd_is_answer "is_answer" = true)
    (kf_is_answer : PySem.W.keepIn K (.ref f_is_answer) = true)
    (g_is_indices : PySem.W.nsIn K mainGlobals "is_indices" = some (some (.ref f_is_indices)))
    (l_is_indices : K.lookup f_is_indices = some ⟨oc_is_indices, od_is_indices, .func (PySem.W.fnOf "is_indices" "is_indices" (defArgs s_is_indices) (defBody s_is_indices) (defScope s_is_indices) .none kV_is_indices dc_is_indices pm_is_indices an_is_indices (.ref cc_is_indices) ct_is_indices), sl_is_indices⟩)
    (c_is_indices : PySem.W.codeIn K (.ref cc_is_indices) "is_indices" = true)
    (kf_is_indices : PySem.W.keepIn K (.ref f_is_indices) = true)
    (t_is_indices : PySem.W.tabIn K "is_indices" = some (cc_is_indices, tabP K "is_indices"))
    (r_is_indices : ((recsOf q).find? fun e => e.name == ("is_indices" : Str)).isSome = true)
    (p_is_indices : K.lookup (tabP K "is_indices") = none)
    (g_is_row_within : PySem.W.nsIn K mainGlobals "is_row_within" = some (some (.ref f_is_row_within)))
    (l_is_row_within : K.lookup f_is_row_within = some ⟨oc_is_row_within, od_is_row_within, .func (PySem.W.fnOf "is_row_within" "is_row_within" (defArgs s_is_row_within) (defBody s_is_row_within) (defScope s_is_row_within) .none kV_is_row_within dc_is_row_within pm_is_row_within an_is_row_within (.ref cc_is_row_within) ct_is_row_within), sl_is_row_within⟩)
    (c_is_row_within : PySem.W.codeIn K (.ref cc_is_row_within) "is_row_within" = true)
    (kf_is_row_within : PySem.W.keepIn K (.ref f_is_row_within) = true)
    (t_is_row_within : PySem.W.tabIn K "is_row_within" = some (cc_is_row_within, tabP K "is_row_within"))
    (r_is_row_within : ((recsOf q).find? fun e => e.name == ("is_row_within" : Str)).isSome = true)
    (p_is_row_within : K.lookup (tabP K "is_row_within") = none)
    (g_is_weights : PySem.W.nsIn K mainGlobals "is_weights" = some (some (.ref f_is_weights)))
    (l_is_weights : K.lookup f_is_weights = some ⟨oc_is_weights, od_is_weights, .func (PySem.W.fnOf "is_weights" "is_weights" (defArgs s_is_weights) (defBody s_is_weights) (defScope s_is_weights) .none kV_is_weights dc_is_weights pm_is_weights an_is_weights cd_is_weights ct_is_weights), sl_is_weights⟩)
    (c_is_weights : PySem.W.codeIn K cd_is_weights "is_weights" = true)
    (kf_is_weights : PySem.W.keepIn K (.ref f_is_weights) = true)
    (g_is_mix : PySem.W.nsIn K mainGlobals "is_mix" = some (some (.ref f_is_mix)))
    (l_is_mix : K.lookup f_is_mix = some ⟨oc_is_mix, od_is_mix, .func (PySem.W.fnOf "is_mix" "is_mix" (defArgs s_is_mix) (defBody s_is_mix) (defScope s_is_mix) .none kV_is_mix dc_is_mix pm_is_mix an_is_mix cd_is_mix ct_is_mix), sl_is_mix⟩)
    (c_is_mix : PySem.W.codeIn K cd_is_mix "is_mix" = true)
    (kf_is_mix : PySem.W.keepIn K (.ref f_is_mix) = true)
    (g_need_number : PySem.W.nsIn K mainGlobals "need_number" = some (some (.ref f_need_number)))
    (l_need_number : K.lookup f_need_number = some ⟨oc_need_number, od_need_number, .func (PySem.W.fnOf "need_number" "need_number" (defArgs s_need_number) (defBody s_need_number) (defScope s_need_number) .none kV_need_number dc_need_number pm_need_number an_need_number cd_need_number ct_need_number), sl_need_number⟩)
    (c_need_number : PySem.W.codeIn K cd_need_number "need_number" = true)
    (kf_need_number : PySem.W.keepIn K (.ref f_need_number) = true)
    (g_need_small_prime : PySem.W.nsIn K mainGlobals "need_small_prime" = some (some (.ref f_need_small_prime)))
    (l_need_small_prime : K.lookup f_need_small_prime = some ⟨oc_need_small_prime, od_need_small_prime, .func (PySem.W.fnOf "need_small_prime" "need_small_prime" (defArgs s_need_small_prime) (defBody s_need_small_prime) (defScope s_need_small_prime) .none kV_need_small_prime dc_need_small_prime pm_need_small_prime an_need_small_prime cd_need_small_prime ct_need_small_prime), sl_need_small_prime⟩)
    (c_need_small_prime : PySem.W.codeIn K cd_need_small_prime "need_small_prime" = true)
    (kf_need_small_prime : PySem.W.keepIn K (.ref f_need_small_prime) = true)
    (g_need_draw : PySem.W.nsIn K mainGlobals "need_draw" = some (some (.ref f_need_draw)))
    (l_need_draw : K.lookup f_need_draw = some ⟨oc_need_draw, od_need_draw, .func (PySem.W.fnOf "need_draw" "need_draw" (defArgs s_need_draw) (defBody s_need_draw) (defScope s_need_draw) .none kV_need_draw dc_need_draw pm_need_draw an_need_draw cd_need_draw ct_need_draw), sl_need_draw⟩)
    (c_need_draw : PySem.W.codeIn K cd_need_draw "need_draw" = true)
    (kf_need_draw : PySem.W.keepIn K (.ref f_need_draw) = true)
    (g_parity : PySem.W.nsIn K mainGlobals "parity" = some (some (.ref f_parity)))
    (l_parity : K.lookup f_parity = some ⟨oc_parity, od_parity, .func (PySem.W.fnOf "parity" "parity" (defArgs s_parity) (defBody s_parity) (defScope s_parity) .none kV_parity dc_parity pm_parity an_parity cd_parity ct_parity), sl_parity⟩)
    (c_parity : PySem.W.codeIn K cd_parity "parity" = true)
    (kf_parity : PySem.W.keepIn K (.ref f_parity) = true)
    (g_reduced : PySem.W.nsIn K mainGlobals "reduced" = some (some (.ref f_reduced)))
    (l_reduced : K.lookup f_reduced = some ⟨oc_reduced, od_reduced, .func (PySem.W.fnOf "reduced" "reduced" (defArgs s_reduced) (defBody s_reduced) (defScope s_reduced) .none kV_reduced dc_reduced pm_reduced an_reduced cd_reduced ct_reduced), sl_reduced⟩)
    (c_reduced : PySem.W.codeIn K cd_reduced "reduced" = true)
    (kf_reduced : PySem.W.keepIn K (.ref f_reduced) = true)
    (g_lowest_row : PySem.W.nsIn K mainGlobals "lowest_row" = some (some (.ref f_lowest_row)))
    (l_lowest_row : K.lookup f_lowest_row = some ⟨oc_lowest_row, od_lowest_row, .func (PySem.W.fnOf "lowest_row" "lowest_row" (defArgs s_lowest_row) (defBody s_lowest_row) (defScope s_lowest_row) .none kV_lowest_row dc_lowest_row pm_lowest_row an_lowest_row cd_lowest_row ct_lowest_row), sl_lowest_row⟩)
    (c_lowest_row : PySem.W.codeIn K cd_lowest_row "lowest_row" = true)
    (kf_lowest_row : PySem.W.keepIn K (.ref f_lowest_row) = true)
    (g__is_map : PySem.W.nsIn K mainGlobals "_is_map" = some (some (.ref f__is_map)))
    (l__is_map : K.lookup f__is_map = some ⟨oc__is_map, od__is_map, .func (PySem.W.fnOf "_is_map" "_is_map" (defArgs s__is_map) (defBody s__is_map) (defScope s__is_map) .none kV__is_map dc__is_map pm__is_map an__is_map cd__is_map ct__is_map), sl__is_map⟩)
    (c__is_map : PySem.W.codeIn K cd__is_map "_is_map" = true)
    (kf__is_map : PySem.W.keepIn K (.ref f__is_map) = true)
    (g__need_maps : PySem.W.nsIn K mainGlobals "_need_maps" = some (some (.ref f__need_maps)))
    (l__need_maps : K.lookup f__need_maps = some ⟨oc__need_maps, od__need_maps, .func (PySem.W.fnOf "_need_maps" "_need_maps" (defArgs s__need_maps) (defBody s__need_maps) (defScope s__need_maps) .none kV__need_maps dc__need_maps pm__need_maps an__need_maps (.ref cc__need_maps) ct__need_maps), sl__need_maps⟩)
    (c__need_maps : PySem.W.codeIn K (.ref cc__need_maps) "_need_maps" = true)
    (kf__need_maps : PySem.W.keepIn K (.ref f__need_maps) = true)
    (t__need_maps : PySem.W.tabIn K "_need_maps" = some (cc__need_maps, tabP K "_need_maps"))
    (r__need_maps : ((recsOf q).find? fun e => e.name == ("_need_maps" : Str)).isSome = true)
    (p__need_maps : K.lookup (tabP K "_need_maps") = none)
    (g__meeting : PySem.W.nsIn K mainGlobals "_meeting" = some (some (.ref f__meeting)))
    (l__meeting : K.lookup f__meeting = some ⟨oc__meeting, od__meeting, .func (PySem.W.fnOf "_meeting" "_meeting" (defArgs s__meeting) (defBody s__meeting) (defScope s__meeting) .none kV__meeting dc__meeting pm__meeting an__meeting cd__meeting ct__meeting), sl__meeting⟩)
    (c__meeting : PySem.W.codeIn K cd__meeting "_meeting" = true)
    (kf__meeting : PySem.W.keepIn K (.ref f__meeting) = true)
    (g_chance_of_meeting : PySem.W.nsIn K mainGlobals "chance_of_meeting" = some (some (.ref f_chance_of_meeting)))
    (l_chance_of_meeting : K.lookup f_chance_of_meeting = some ⟨oc_chance_of_meeting, od_chance_of_meeting, .func (PySem.W.fnOf "chance_of_meeting" "chance_of_meeting" (defArgs s_chance_of_meeting) (defBody s_chance_of_meeting) (defScope s_chance_of_meeting) .none kV_chance_of_meeting dc_chance_of_meeting pm_chance_of_meeting an_chance_of_meeting cd_chance_of_meeting ct_chance_of_meeting), sl_chance_of_meeting⟩)
    (c_chance_of_meeting : PySem.W.codeIn K cd_chance_of_meeting "chance_of_meeting" = true)
    (kf_chance_of_meeting : PySem.W.keepIn K (.ref f_chance_of_meeting) = true)
    (g_mean_meeting : PySem.W.nsIn K mainGlobals "mean_meeting" = some (some (.ref f_mean_meeting)))
    (l_mean_meeting : K.lookup f_mean_meeting = some ⟨oc_mean_meeting, od_mean_meeting, .func (PySem.W.fnOf "mean_meeting" "mean_meeting" (defArgs s_mean_meeting) (defBody s_mean_meeting) (defScope s_mean_meeting) .none kV_mean_meeting dc_mean_meeting pm_mean_meeting an_mean_meeting cd_mean_meeting ct_mean_meeting), sl_mean_meeting⟩)
    (c_mean_meeting : PySem.W.codeIn K cd_mean_meeting "mean_meeting" = true)
    (kf_mean_meeting : PySem.W.keepIn K (.ref f_mean_meeting) = true)
    (g__are_often : PySem.W.nsIn K mainGlobals "_are_often" = some (some (.ref f__are_often)))
    (l__are_often : K.lookup f__are_often = some ⟨oc__are_often, od__are_often, .func (PySem.W.fnOf "_are_often" "_are_often" (defArgs s__are_often) (defBody s__are_often) (defScope s__are_often) .none kV__are_often dc__are_often pm__are_often an__are_often cd__are_often ct__are_often), sl__are_often⟩)
    (c__are_often : PySem.W.codeIn K cd__are_often "_are_often" = true)
    (kf__are_often : PySem.W.keepIn K (.ref f__are_often) = true)
    (g__often_pairs : PySem.W.nsIn K mainGlobals "_often_pairs" = some (some (.ref f__often_pairs)))
    (l__often_pairs : K.lookup f__often_pairs = some ⟨oc__often_pairs, od__often_pairs, .func (PySem.W.fnOf "_often_pairs" "_often_pairs" (defArgs s__often_pairs) (defBody s__often_pairs) (defScope s__often_pairs) .none kV__often_pairs dc__often_pairs pm__often_pairs an__often_pairs cd__often_pairs ct__often_pairs), sl__often_pairs⟩)
    (c__often_pairs : PySem.W.codeIn K cd__often_pairs "_often_pairs" = true)
    (kf__often_pairs : PySem.W.keepIn K (.ref f__often_pairs) = true)
    (g_meets_answer : PySem.W.nsIn K mainGlobals "meets_answer" = some (some (.ref f_meets_answer)))
    (l_meets_answer : K.lookup f_meets_answer = some ⟨oc_meets_answer, od_meets_answer, .func (PySem.W.fnOf "meets_answer" "meets_answer" (defArgs s_meets_answer) (defBody s_meets_answer) (defScope s_meets_answer) .none kV_meets_answer dc_meets_answer pm_meets_answer an_meets_answer cd_meets_answer ct_meets_answer), sl_meets_answer⟩)
    (c_meets_answer : PySem.W.codeIn K cd_meets_answer "meets_answer" = true)
    (kf_meets_answer : PySem.W.keepIn K (.ref f_meets_answer) = true)
    (g_is_meets_answer : PySem.W.nsIn K mainGlobals "is_meets_answer" = some (some (.ref f_is_meets_answer)))
    (l_is_meets_answer : K.lookup f_is_meets_answer = some ⟨oc_is_meets_answer, od_is_meets_answer, .func (PySem.W.fnOf "is_meets_answer" "is_meets_answer" (defArgs s_is_meets_answer) (defBody s_is_meets_answer) (defScope s_is_meets_answer) .none kV_is_meets_answer dc_is_meets_answer pm_is_meets_answer an_is_meets_answer cd_is_meets_answer ct_is_meets_answer), sl_is_meets_answer⟩)
    (c_is_meets_answer : PySem.W.codeIn K cd_is_meets_answer "is_meets_answer" = true)
    (kf_is_meets_answer : PySem.W.keepIn K (.ref f_is_meets_answer) = true)
    (g_are_even : PySem.W.nsIn K mainGlobals "are_even" = some (some (.ref f_are_even)))
    (l_are_even : K.lookup f_are_even = some ⟨oc_are_even, od_are_even, .func (PySem.W.fnOf "are_even" "are_even" (defArgs s_are_even) (defBody s_are_even) (defScope s_are_even) .none kV_are_even dc_are_even pm_are_even an_are_even cd_are_even ct_are_even), sl_are_even⟩)
    (c_are_even : PySem.W.codeIn K cd_are_even "are_even" = true)
    (kf_are_even : PySem.W.keepIn K (.ref f_are_even) = true)
    (g__spread_numbers : PySem.W.nsIn K mainGlobals "_spread_numbers" = some (some (.ref f__spread_numbers)))
    (l__spread_numbers : K.lookup f__spread_numbers = some ⟨oc__spread_numbers, od__spread_numbers, .func (PySem.W.fnOf "_spread_numbers" "_spread_numbers" (defArgs s__spread_numbers) (defBody s__spread_numbers) (defScope s__spread_numbers) .none kV__spread_numbers dc__spread_numbers pm__spread_numbers an__spread_numbers cd__spread_numbers ct__spread_numbers), sl__spread_numbers⟩)
    (c__spread_numbers : PySem.W.codeIn K cd__spread_numbers "_spread_numbers" = true)
    (kf__spread_numbers : PySem.W.keepIn K (.ref f__spread_numbers) = true)
    (g_spread : PySem.W.nsIn K mainGlobals "spread" = some (some (.ref f_spread)))
    (l_spread : K.lookup f_spread = some ⟨oc_spread, od_spread, .func (PySem.W.fnOf "spread" "spread" (defArgs s_spread) (defBody s_spread) (defScope s_spread) .none kV_spread dc_spread pm_spread an_spread cd_spread ct_spread), sl_spread⟩)
    (c_spread : PySem.W.codeIn K cd_spread "spread" = true)
    (kf_spread : PySem.W.keepIn K (.ref f_spread) = true)
    (g__need_maps_and_draw : PySem.W.nsIn K mainGlobals "_need_maps_and_draw" = some (some (.ref f__need_maps_and_draw)))
    (l__need_maps_and_draw : K.lookup f__need_maps_and_draw = some ⟨oc__need_maps_and_draw, od__need_maps_and_draw, .func (PySem.W.fnOf "_need_maps_and_draw" "_need_maps_and_draw" (defArgs s__need_maps_and_draw) (defBody s__need_maps_and_draw) (defScope s__need_maps_and_draw) .none kV__need_maps_and_draw dc__need_maps_and_draw pm__need_maps_and_draw an__need_maps_and_draw cd__need_maps_and_draw ct__need_maps_and_draw), sl__need_maps_and_draw⟩)
    (c__need_maps_and_draw : PySem.W.codeIn K cd__need_maps_and_draw "_need_maps_and_draw" = true)
    (kf__need_maps_and_draw : PySem.W.keepIn K (.ref f__need_maps_and_draw) = true)
    (g__gaps : PySem.W.nsIn K mainGlobals "_gaps" = some (some (.ref f__gaps)))
    (l__gaps : K.lookup f__gaps = some ⟨oc__gaps, od__gaps, .func (PySem.W.fnOf "_gaps" "_gaps" (defArgs s__gaps) (defBody s__gaps) (defScope s__gaps) .none kV__gaps dc__gaps pm__gaps an__gaps cd__gaps ct__gaps), sl__gaps⟩)
    (c__gaps : PySem.W.codeIn K cd__gaps "_gaps" = true)
    (kf__gaps : PySem.W.keepIn K (.ref f__gaps) = true)
    (g_leftover : PySem.W.nsIn K mainGlobals "leftover" = some (some (.ref f_leftover)))
    (l_leftover : K.lookup f_leftover = some ⟨oc_leftover, od_leftover, .func (PySem.W.fnOf "leftover" "leftover" (defArgs s_leftover) (defBody s_leftover) (defScope s_leftover) .none kV_leftover dc_leftover pm_leftover an_leftover cd_leftover ct_leftover), sl_leftover⟩)
    (c_leftover : PySem.W.codeIn K cd_leftover "leftover" = true)
    (kf_leftover : PySem.W.keepIn K (.ref f_leftover) = true)
    (g_leftover_parts : PySem.W.nsIn K mainGlobals "leftover_parts" = some (some (.ref f_leftover_parts)))
    (l_leftover_parts : K.lookup f_leftover_parts = some ⟨oc_leftover_parts, od_leftover_parts, .func (PySem.W.fnOf "leftover_parts" "leftover_parts" (defArgs s_leftover_parts) (defBody s_leftover_parts) (defScope s_leftover_parts) .none kV_leftover_parts dc_leftover_parts pm_leftover_parts an_leftover_parts cd_leftover_parts ct_leftover_parts), sl_leftover_parts⟩)
    (c_leftover_parts : PySem.W.codeIn K cd_leftover_parts "leftover_parts" = true)
    (kf_leftover_parts : PySem.W.keepIn K (.ref f_leftover_parts) = true)
    (g_mean_distance : PySem.W.nsIn K mainGlobals "mean_distance" = some (some (.ref f_mean_distance)))
    (l_mean_distance : K.lookup f_mean_distance = some ⟨oc_mean_distance, od_mean_distance, .func (PySem.W.fnOf "mean_distance" "mean_distance" (defArgs s_mean_distance) (defBody s_mean_distance) (defScope s_mean_distance) .none kV_mean_distance dc_mean_distance pm_mean_distance an_mean_distance cd_mean_distance ct_mean_distance), sl_mean_distance⟩)
    (c_mean_distance : PySem.W.codeIn K cd_mean_distance "mean_distance" = true)
    (kf_mean_distance : PySem.W.keepIn K (.ref f_mean_distance) = true)
    (g_least_meeting : PySem.W.nsIn K mainGlobals "least_meeting" = some (some (.ref f_least_meeting)))
    (l_least_meeting : K.lookup f_least_meeting = some ⟨oc_least_meeting, od_least_meeting, .func (PySem.W.fnOf "least_meeting" "least_meeting" (defArgs s_least_meeting) (defBody s_least_meeting) (defScope s_least_meeting) .none kV_least_meeting dc_least_meeting pm_least_meeting an_least_meeting cd_least_meeting ct_least_meeting), sl_least_meeting⟩)
    (c_least_meeting : PySem.W.codeIn K cd_least_meeting "least_meeting" = true)
    (kf_least_meeting : PySem.W.keepIn K (.ref f_least_meeting) = true)
    (g__need_bits : PySem.W.nsIn K mainGlobals "_need_bits" = some (some (.ref f__need_bits)))
    (l__need_bits : K.lookup f__need_bits = some ⟨oc__need_bits, od__need_bits, .func (PySem.W.fnOf "_need_bits" "_need_bits" (defArgs s__need_bits) (defBody s__need_bits) (defScope s__need_bits) .none kV__need_bits dc__need_bits pm__need_bits an__need_bits cd__need_bits ct__need_bits), sl__need_bits⟩)
    (c__need_bits : PySem.W.codeIn K cd__need_bits "_need_bits" = true)
    (kf__need_bits : PySem.W.keepIn K (.ref f__need_bits) = true)
    (g__need_few : PySem.W.nsIn K mainGlobals "_need_few" = some (some (.ref f__need_few)))
    (l__need_few : K.lookup f__need_few = some ⟨oc__need_few, od__need_few, .func (PySem.W.fnOf "_need_few" "_need_few" (defArgs s__need_few) (defBody s__need_few) (defScope s__need_few) .none kV__need_few dc__need_few pm__need_few an__need_few cd__need_few ct__need_few), sl__need_few⟩)
    (c__need_few : PySem.W.codeIn K cd__need_few "_need_few" = true)
    (kf__need_few : PySem.W.keepIn K (.ref f__need_few) = true)
    (g__linear : PySem.W.nsIn K mainGlobals "_linear" = some (some (.ref f__linear)))
    (l__linear : K.lookup f__linear = some ⟨oc__linear, od__linear, .func (PySem.W.fnOf "_linear" "_linear" (defArgs s__linear) (defBody s__linear) (defScope s__linear) .none kV__linear dc__linear pm__linear an__linear cd__linear ct__linear), sl__linear⟩)
    (c__linear : PySem.W.codeIn K cd__linear "_linear" = true)
    (kf__linear : PySem.W.keepIn K (.ref f__linear) = true)
    (g_linear_maps : PySem.W.nsIn K mainGlobals "linear_maps" = some (some (.ref f_linear_maps)))
    (l_linear_maps : K.lookup f_linear_maps = some ⟨oc_linear_maps, od_linear_maps, .func (PySem.W.fnOf "linear_maps" "linear_maps" (defArgs s_linear_maps) (defBody s_linear_maps) (defScope s_linear_maps) .none kV_linear_maps dc_linear_maps pm_linear_maps an_linear_maps cd_linear_maps ct_linear_maps), sl_linear_maps⟩)
    (c_linear_maps : PySem.W.codeIn K cd_linear_maps "linear_maps" = true)
    (kf_linear_maps : PySem.W.keepIn K (.ref f_linear_maps) = true)
    (g_affine_maps : PySem.W.nsIn K mainGlobals "affine_maps" = some (some (.ref f_affine_maps)))
    (l_affine_maps : K.lookup f_affine_maps = some ⟨oc_affine_maps, od_affine_maps, .func (PySem.W.fnOf "affine_maps" "affine_maps" (defArgs s_affine_maps) (defBody s_affine_maps) (defScope s_affine_maps) .none kV_affine_maps dc_affine_maps pm_affine_maps an_affine_maps cd_affine_maps ct_affine_maps), sl_affine_maps⟩)
    (c_affine_maps : PySem.W.codeIn K cd_affine_maps "affine_maps" = true)
    (kf_affine_maps : PySem.W.keepIn K (.ref f_affine_maps) = true)
    (g_field_maps : PySem.W.nsIn K mainGlobals "field_maps" = some (some (.ref f_field_maps)))
    (l_field_maps : K.lookup f_field_maps = some ⟨oc_field_maps, od_field_maps, .func (PySem.W.fnOf "field_maps" "field_maps" (defArgs s_field_maps) (defBody s_field_maps) (defScope s_field_maps) .none kV_field_maps dc_field_maps pm_field_maps an_field_maps cd_field_maps ct_field_maps), sl_field_maps⟩)
    (c_field_maps : PySem.W.codeIn K cd_field_maps "field_maps" = true)
    (kf_field_maps : PySem.W.keepIn K (.ref f_field_maps) = true)
    (g__law_vx_hat : PySem.W.nsIn K mainGlobals "_law_vx_hat" = some (some (.ref f__law_vx_hat)))
    (l__law_vx_hat : K.lookup f__law_vx_hat = some ⟨oc__law_vx_hat, od__law_vx_hat, .func (PySem.W.fnOf "_law_vx_hat" "_law_vx_hat" (defArgs s__law_vx_hat) (defBody s__law_vx_hat) (defScope s__law_vx_hat) .none kV__law_vx_hat dc__law_vx_hat pm__law_vx_hat an__law_vx_hat cd__law_vx_hat ct__law_vx_hat), sl__law_vx_hat⟩)
    (c__law_vx_hat : PySem.W.codeIn K cd__law_vx_hat "_law_vx_hat" = true)
    (kf__law_vx_hat : PySem.W.keepIn K (.ref f__law_vx_hat) = true)
    (g__law_vx_up : PySem.W.nsIn K mainGlobals "_law_vx_up" = some (some (.ref f__law_vx_up)))
    (l__law_vx_up : K.lookup f__law_vx_up = some ⟨oc__law_vx_up, od__law_vx_up, .func (PySem.W.fnOf "_law_vx_up" "_law_vx_up" (defArgs s__law_vx_up) (defBody s__law_vx_up) (defScope s__law_vx_up) .none kV__law_vx_up dc__law_vx_up pm__law_vx_up an__law_vx_up cd__law_vx_up ct__law_vx_up), sl__law_vx_up⟩)
    (c__law_vx_up : PySem.W.codeIn K cd__law_vx_up "_law_vx_up" = true)
    (kf__law_vx_up : PySem.W.keepIn K (.ref f__law_vx_up) = true)
    (g__law_met : PySem.W.nsIn K mainGlobals "_law_met" = some (some (.ref f__law_met)))
    (l__law_met : K.lookup f__law_met = some ⟨oc__law_met, od__law_met, .func (PySem.W.fnOf "_law_met" "_law_met" (defArgs s__law_met) (defBody s__law_met) (defScope s__law_met) .none kV__law_met dc__law_met pm__law_met an__law_met cd__law_met ct__law_met), sl__law_met⟩)
    (c__law_met : PySem.W.codeIn K cd__law_met "_law_met" = true)
    (kf__law_met : PySem.W.keepIn K (.ref f__law_met) = true)
    (g__law_wrong : PySem.W.nsIn K mainGlobals "_law_wrong" = some (some (.ref f__law_wrong)))
    (l__law_wrong : K.lookup f__law_wrong = some ⟨oc__law_wrong, od__law_wrong, .func (PySem.W.fnOf "_law_wrong" "_law_wrong" (defArgs s__law_wrong) (defBody s__law_wrong) (defScope s__law_wrong) .none kV__law_wrong dc__law_wrong pm__law_wrong an__law_wrong cd__law_wrong ct__law_wrong), sl__law_wrong⟩)
    (c__law_wrong : PySem.W.codeIn K cd__law_wrong "_law_wrong" = true)
    (kf__law_wrong : PySem.W.keepIn K (.ref f__law_wrong) = true)
    (g__law_meetings_right : PySem.W.nsIn K mainGlobals "_law_meetings_right" = some (some (.ref f__law_meetings_right)))
    (l__law_meetings_right : K.lookup f__law_meetings_right = some ⟨oc__law_meetings_right, od__law_meetings_right, .func (PySem.W.fnOf "_law_meetings_right" "_law_meetings_right" (defArgs s__law_meetings_right) (defBody s__law_meetings_right) (defScope s__law_meetings_right) .none kV__law_meetings_right dc__law_meetings_right pm__law_meetings_right an__law_meetings_right (.ref cc__law_meetings_right) ct__law_meetings_right), sl__law_meetings_right⟩)
    (c__law_meetings_right : PySem.W.codeIn K (.ref cc__law_meetings_right) "_law_meetings_right" = true)
    (kf__law_meetings_right : PySem.W.keepIn K (.ref f__law_meetings_right) = true)
    (t__law_meetings_right : PySem.W.tabIn K "_law_meetings_right" = some (cc__law_meetings_right, tabP K "_law_meetings_right"))
    (r__law_meetings_right : ((recsOf q).find? fun e => e.name == ("_law_meetings_right" : Str)).isSome = true)
    (p__law_meetings_right : K.lookup (tabP K "_law_meetings_right") = none)
    (g__law_spreads_right : PySem.W.nsIn K mainGlobals "_law_spreads_right" = some (some (.ref f__law_spreads_right)))
    (l__law_spreads_right : K.lookup f__law_spreads_right = some ⟨oc__law_spreads_right, od__law_spreads_right, .func (PySem.W.fnOf "_law_spreads_right" "_law_spreads_right" (defArgs s__law_spreads_right) (defBody s__law_spreads_right) (defScope s__law_spreads_right) .none kV__law_spreads_right dc__law_spreads_right pm__law_spreads_right an__law_spreads_right (.ref cc__law_spreads_right) ct__law_spreads_right), sl__law_spreads_right⟩)
    (c__law_spreads_right : PySem.W.codeIn K (.ref cc__law_spreads_right) "_law_spreads_right" = true)
    (kf__law_spreads_right : PySem.W.keepIn K (.ref f__law_spreads_right) = true)
    (t__law_spreads_right : PySem.W.tabIn K "_law_spreads_right" = some (cc__law_spreads_right, tabP K "_law_spreads_right"))
    (r__law_spreads_right : ((recsOf q).find? fun e => e.name == ("_law_spreads_right" : Str)).isSome = true)
    (p__law_spreads_right : K.lookup (tabP K "_law_spreads_right") = none)
    (g__law_made_right : PySem.W.nsIn K mainGlobals "_law_made_right" = some (some (.ref f__law_made_right)))
    (l__law_made_right : K.lookup f__law_made_right = some ⟨oc__law_made_right, od__law_made_right, .func (PySem.W.fnOf "_law_made_right" "_law_made_right" (defArgs s__law_made_right) (defBody s__law_made_right) (defScope s__law_made_right) .none kV__law_made_right dc__law_made_right pm__law_made_right an__law_made_right (.ref cc__law_made_right) ct__law_made_right), sl__law_made_right⟩)
    (c__law_made_right : PySem.W.codeIn K (.ref cc__law_made_right) "_law_made_right" = true)
    (kf__law_made_right : PySem.W.keepIn K (.ref f__law_made_right) = true)
    (t__law_made_right : PySem.W.tabIn K "_law_made_right" = some (cc__law_made_right, tabP K "_law_made_right"))
    (r__law_made_right : ((recsOf q).find? fun e => e.name == ("_law_made_right" : Str)).isSome = true)
    (p__law_made_right : K.lookup (tabP K "_law_made_right") = none)
    (g_law : PySem.W.nsIn K mainGlobals "law" = some (some (.ref f_law)))
    (l_law : K.lookup f_law = some ⟨oc_law, od_law, .func (PySem.W.fnOf "law" "law" (defArgs s_law) (defBody s_law) (defScope s_law) .none kV_law dc_law pm_law an_law (.ref cc_law) ct_law), sl_law⟩)
    (c_law : PySem.W.codeIn K (.ref cc_law) "law" = true)
    (kf_law : PySem.W.keepIn K (.ref f_law) = true)
    (z_isinstance : PySem.W.nsIn K mainGlobals "isinstance" = some none)
    (z_int : PySem.W.nsIn K mainGlobals "int" = some none)
    (z_bool : PySem.W.nsIn K mainGlobals "bool" = some none)
    (z_tuple : PySem.W.nsIn K mainGlobals "tuple" = some none)
    (z_len : PySem.W.nsIn K mainGlobals "len" = some none)
    (z_all : PySem.W.nsIn K mainGlobals "all" = some none)
    (z_min : PySem.W.nsIn K mainGlobals "min" = some none)
    (z_sum : PySem.W.nsIn K mainGlobals "sum" = some none)
    (z_zip : PySem.W.nsIn K mainGlobals "zip" = some none)
    (z_abs : PySem.W.nsIn K mainGlobals "abs" = some none)
    (z_range : PySem.W.nsIn K mainGlobals "range" = some none)
    (z_sorted : PySem.W.nsIn K mainGlobals "sorted" = some none)
    (z_repr : PySem.W.nsIn K mainGlobals "repr" = some none)
    (z_max : PySem.W.nsIn K mainGlobals "max" = some none)
    (cn__LEAST_POINTS : PySem.W.nsIn K mainGlobals "_LEAST_POINTS" = some (some (.int 2 tk__LEAST_POINTS)))
    (cn__MOST_POINTS : PySem.W.nsIn K mainGlobals "_MOST_POINTS" = some (some (.int 32 tk__MOST_POINTS)))
    (cn__MOST_VALUES : PySem.W.nsIn K mainGlobals "_MOST_VALUES" = some (some (.int 16 tk__MOST_VALUES)))
    (cn__MOST_MAPS : PySem.W.nsIn K mainGlobals "_MOST_MAPS" = some (some (.int 64 tk__MOST_MAPS)))
    (cn__MOST_BITS : PySem.W.nsIn K mainGlobals "_MOST_BITS" = some (some (.int 5 tk__MOST_BITS)))
    (cn__MOST_BITS_OF_VALUES : PySem.W.nsIn K mainGlobals "_MOST_BITS_OF_VALUES" = some (some (.int 4 tk__MOST_BITS_OF_VALUES)))
    (gt__SMALL_PRIMES : PySem.W.nsIn K mainGlobals "_SMALL_PRIMES" = some (some (.ref at__SMALL_PRIMES)))
    (tk__SMALL_PRIMES : tupKB K (caK K "_SMALL_PRIMES") [2, 3, 5, 7] = true)
    (i_gcd : PySem.W.nsIn K mainGlobals "gcd" = some (some (.builtin "math.gcd")))
    (one : oneB [(tabP K "is_indices", none), (tabP K "is_row_within", none), (tabP K "_need_maps", none), (tabP K "_law_meetings_right", some (("_law_meetings_right" : Str) ++ ".<locals>." ++ "<lambda>")), (tabP K "_law_spreads_right", some (("_law_spreads_right" : Str) ++ ".<locals>." ++ "<lambda>")), (tabP K "_law_made_right", some (("_law_made_right" : Str) ++ ".<locals>." ++ "<lambda>"))] = true) :
    LawAtG l w K 16 63 "script" mg fa h := by
  have e := hfa.symm.trans (PySem.W.mg_of X G g_law)
  cases e
  have F_is_integer := fun_mk (st := s_is_integer) l_is_integer c_is_integer kf_is_integer
  have F_is_between := fun_mk (st := s_is_between) l_is_between c_is_between kf_is_between
  have F_is_index := fun_mk (st := s_is_index) l_is_index c_is_index kf_is_index
  have F_is_tuple_of := fun_mk (st := s_is_tuple_of) l_is_tuple_of c_is_tuple_of kf_is_tuple_of
  have F_is_answer := fun_mk (st := s_is_answer) l_is_answer c_is_answer kf_is_answer
  have F_is_indices := funC_mk (st := s_is_indices) l_is_indices c_is_indices kf_is_indices
  have F_is_row_within := funC_mk (st := s_is_row_within) l_is_row_within c_is_row_within kf_is_row_within
  have F_is_weights := fun_mk (st := s_is_weights) l_is_weights c_is_weights kf_is_weights
  have F_is_mix := fun_mk (st := s_is_mix) l_is_mix c_is_mix kf_is_mix
  have F_need_number := fun_mk (st := s_need_number) l_need_number c_need_number kf_need_number
  have F_need_small_prime := fun_mk (st := s_need_small_prime) l_need_small_prime c_need_small_prime kf_need_small_prime
  have F_need_draw := fun_mk (st := s_need_draw) l_need_draw c_need_draw kf_need_draw
  have F_parity := fun_mk (st := s_parity) l_parity c_parity kf_parity
  have F_reduced := fun_mk (st := s_reduced) l_reduced c_reduced kf_reduced
  have F_lowest_row := fun_mk (st := s_lowest_row) l_lowest_row c_lowest_row kf_lowest_row
  have F__is_map := fun_mk (st := s__is_map) l__is_map c__is_map kf__is_map
  have F__need_maps := funC_mk (st := s__need_maps) l__need_maps c__need_maps kf__need_maps
  have F__meeting := fun_mk (st := s__meeting) l__meeting c__meeting kf__meeting
  have F_chance_of_meeting := fun_mk (st := s_chance_of_meeting) l_chance_of_meeting c_chance_of_meeting kf_chance_of_meeting
  have F_mean_meeting := fun_mk (st := s_mean_meeting) l_mean_meeting c_mean_meeting kf_mean_meeting
  have F__are_often := fun_mk (st := s__are_often) l__are_often c__are_often kf__are_often
  have F__often_pairs := fun_mk (st := s__often_pairs) l__often_pairs c__often_pairs kf__often_pairs
  have F_meets_answer := fun_mk (st := s_meets_answer) l_meets_answer c_meets_answer kf_meets_answer
  have F_is_meets_answer := fun_mk (st := s_is_meets_answer) l_is_meets_answer c_is_meets_answer kf_is_meets_answer
  have F_are_even := fun_mk (st := s_are_even) l_are_even c_are_even kf_are_even
  have F__spread_numbers := fun_mk (st := s__spread_numbers) l__spread_numbers c__spread_numbers kf__spread_numbers
  have F_spread := fun_mk (st := s_spread) l_spread c_spread kf_spread
  have F__need_maps_and_draw := fun_mk (st := s__need_maps_and_draw) l__need_maps_and_draw c__need_maps_and_draw kf__need_maps_and_draw
  have F__gaps := fun_mk (st := s__gaps) l__gaps c__gaps kf__gaps
  have F_leftover := fun_mk (st := s_leftover) l_leftover c_leftover kf_leftover
  have F_leftover_parts := fun_mk (st := s_leftover_parts) l_leftover_parts c_leftover_parts kf_leftover_parts
  have F_mean_distance := fun_mk (st := s_mean_distance) l_mean_distance c_mean_distance kf_mean_distance
  have F_least_meeting := fun_mk (st := s_least_meeting) l_least_meeting c_least_meeting kf_least_meeting
  have F__need_bits := fun_mk (st := s__need_bits) l__need_bits c__need_bits kf__need_bits
  have F__need_few := fun_mk (st := s__need_few) l__need_few c__need_few kf__need_few
  have F__linear := fun_mk (st := s__linear) l__linear c__linear kf__linear
  have F_linear_maps := fun_mk (st := s_linear_maps) l_linear_maps c_linear_maps kf_linear_maps
  have F_affine_maps := fun_mk (st := s_affine_maps) l_affine_maps c_affine_maps kf_affine_maps
  have F_field_maps := fun_mk (st := s_field_maps) l_field_maps c_field_maps kf_field_maps
  have F__law_vx_hat := fun_mk (st := s__law_vx_hat) l__law_vx_hat c__law_vx_hat kf__law_vx_hat
  have F__law_vx_up := fun_mk (st := s__law_vx_up) l__law_vx_up c__law_vx_up kf__law_vx_up
  have F__law_met := fun_mk (st := s__law_met) l__law_met c__law_met kf__law_met
  have F__law_wrong := fun_mk (st := s__law_wrong) l__law_wrong c__law_wrong kf__law_wrong
  have F__law_meetings_right := funC_mk (st := s__law_meetings_right) l__law_meetings_right c__law_meetings_right kf__law_meetings_right
  have F__law_spreads_right := funC_mk (st := s__law_spreads_right) l__law_spreads_right c__law_spreads_right kf__law_spreads_right
  have F__law_made_right := funC_mk (st := s__law_made_right) l__law_made_right c__law_made_right kf__law_made_right
  have F_law := funC_mk (st := s_law) l_law c_law kf_law
  refine ⟨PySem.W.fnOf "law" "law" (defArgs s_law) (defBody s_law) (defScope s_law) .none kV_law dc_law pm_law an_law (.ref cc_law) ct_law, [(cc_is_indices, tabP K "is_indices"), (cc_is_row_within, tabP K "is_row_within"), (cc__need_maps, tabP K "_need_maps"), (cc__law_meetings_right, tabP K "_law_meetings_right"), (cc__law_spreads_right, tabP K "_law_spreads_right"), (cc__law_made_right, tabP K "_law_made_right")], spOf K [(tabP K "is_indices", none), (tabP K "is_row_within", none), (tabP K "_need_maps", none), (tabP K "_law_meetings_right", some (("_law_meetings_right" : Str) ++ ".<locals>." ++ "<lambda>")), (tabP K "_law_spreads_right", some (("_law_spreads_right" : Str) ++ ".<locals>." ++ "<lambda>")), (tabP K "_law_made_right", some (("_law_made_right" : Str) ++ ".<locals>." ++ "<lambda>"))] SD_law,
    (allC ((tabs _ _ _ r_is_indices t_is_indices).2) (allC ((tabs _ _ _ r_is_row_within t_is_row_within).2) (allC ((tabs _ _ _ r__need_maps t__need_maps).2) (allC ((tabs _ _ _ r__law_meetings_right t__law_meetings_right).2) (allC ((tabs _ _ _ r__law_spreads_right t__law_spreads_right).2) (allC ((tabs _ _ _ r__law_made_right t__law_made_right).2) (allN))))))),
    (allC (p_is_indices) (allC (p_is_row_within) (allC (p__need_maps) (allC (p__law_meetings_right) (allC (p__law_spreads_right) (allC (p__law_made_right) (allN))))))),
    (allC ((tabs _ _ _ r_is_indices t_is_indices).1) (allC ((tabs _ _ _ r_is_row_within t_is_row_within).1) (allC ((tabs _ _ _ r__need_maps t__need_maps).1) (allC ((tabs _ _ _ r__law_meetings_right t__law_meetings_right).1) (allC ((tabs _ _ _ r__law_spreads_right t__law_spreads_right).1) (allC ((tabs _ _ _ r__law_made_right t__law_made_right).1) (allN))))))),
    fun s v => .of_eq rfl, fun H a ns hn _ hT hS => law_sp (oneB_ok one) (allC (hT _ (List.mem_cons_self)) (allC (hT _ (List.mem_cons_of_mem _ (List.mem_cons_self))) (allC (hT _ (List.mem_cons_of_mem _ (List.mem_cons_of_mem _ (List.mem_cons_self)))) (allC (hT _ (List.mem_cons_of_mem _ (List.mem_cons_of_mem _ (List.mem_cons_of_mem _ (List.mem_cons_self))))) (allC (hT _ (List.mem_cons_of_mem _ (List.mem_cons_of_mem _ (List.mem_cons_of_mem _ (List.mem_cons_of_mem _ (List.mem_cons_self)))))) (allC (hT _ (List.mem_cons_of_mem _ (List.mem_cons_of_mem _ (List.mem_cons_of_mem _ (List.mem_cons_of_mem _ (List.mem_cons_of_mem _ (List.mem_cons_self))))))) (allN))))))) hS ⟨_, rfl, by rw [intsD_map]; rfl, by rw [List.length_map]; exact hn, rfl⟩, fun base _ _ TB => ?_⟩
  have B_is_indices := tabB_of (TB _ (List.mem_cons_self))
  have B_is_row_within := tabB_of (TB _ (List.mem_cons_of_mem _ (List.mem_cons_self)))
  have B__need_maps := tabB_of (TB _ (List.mem_cons_of_mem _ (List.mem_cons_of_mem _ (List.mem_cons_self))))
  have B__law_meetings_right := TB _ (List.mem_cons_of_mem _ (List.mem_cons_of_mem _ (List.mem_cons_of_mem _ (List.mem_cons_self))))
  have B__law_spreads_right := TB _ (List.mem_cons_of_mem _ (List.mem_cons_of_mem _ (List.mem_cons_of_mem _ (List.mem_cons_of_mem _ (List.mem_cons_self)))))
  have B__law_made_right := TB _ (List.mem_cons_of_mem _ (List.mem_cons_of_mem _ (List.mem_cons_of_mem _ (List.mem_cons_of_mem _ (List.mem_cons_of_mem _ (List.mem_cons_self))))))
  have b_is_integer := F_is_integer.binds (ps := ["value"]) fun _ _ _ _ _ _ us hl => match us, hl with | [_], _ => rfl
  have m_is_integer := PySem.W.mg_of X G g_is_integer
  have b_is_between := F_is_between.binds (ps := ["value", "low", "high"]) fun _ _ _ _ _ _ us hl => match us, hl with | [_, _, _], _ => rfl
  have m_is_between := PySem.W.mg_of X G g_is_between
  have b_is_index := F_is_index.binds (ps := ["value", "limit"]) fun _ _ _ _ _ _ us hl => match us, hl with | [_, _], _ => rfl
  have m_is_index := PySem.W.mg_of X G g_is_index
  have b_is_tuple_of := F_is_tuple_of.binds (ps := ["value", "length"]) fun _ _ _ _ _ _ us hl => match us, hl with | [_, _], _ => rfl
  have m_is_tuple_of := PySem.W.mg_of X G g_is_tuple_of
  have b_is_answer := F_is_answer.binds (ps := ["value", "word", "length"]) fun _ _ _ _ _ _ us hl => match us, hl with | [_, _, _], _ => rfl
  have m_is_answer := PySem.W.mg_of X G g_is_answer
  have b_is_indices : Binds K (PySem.W.fnOf "is_indices" "is_indices" (defArgs s_is_indices) (defBody s_is_indices) (defScope s_is_indices) .none kV_is_indices dc_is_indices pm_is_indices an_is_indices (.ref cc_is_indices) ct_is_indices) ["value", "limit"] [] := .all fun us hl => match us, hl with | [_, _], _ => rfl
  have m_is_indices := PySem.W.mg_of X G g_is_indices
  have b_is_row_within : Binds K (PySem.W.fnOf "is_row_within" "is_row_within" (defArgs s_is_row_within) (defBody s_is_row_within) (defScope s_is_row_within) .none kV_is_row_within dc_is_row_within pm_is_row_within an_is_row_within (.ref cc_is_row_within) ct_is_row_within) ["value", "least", "most"] [] := .all fun us hl => match us, hl with | [_, _, _], _ => rfl
  have m_is_row_within := PySem.W.mg_of X G g_is_row_within
  have b_is_weights := F_is_weights.binds (ps := ["value", "count"]) fun _ _ _ _ _ _ us hl => match us, hl with | [_, _], _ => rfl
  have m_is_weights := PySem.W.mg_of X G g_is_weights
  have b_is_mix := F_is_mix.binds (ps := ["value", "count"]) fun _ _ _ _ _ _ us hl => match us, hl with | [_, _], _ => rfl
  have m_is_mix := PySem.W.mg_of X G g_is_mix
  have b_need_number := F_need_number.binds (ps := ["value", "low", "high"]) fun _ _ _ _ _ _ us hl => match us, hl with | [_, _, _], _ => rfl
  have m_need_number := PySem.W.mg_of X G g_need_number
  have b_need_small_prime := F_need_small_prime.binds (ps := ["value"]) fun _ _ _ _ _ _ us hl => match us, hl with | [_], _ => rfl
  have m_need_small_prime := PySem.W.mg_of X G g_need_small_prime
  have b_need_draw := F_need_draw.binds (ps := ["value", "count"]) fun _ _ _ _ _ _ us hl => match us, hl with | [_, _], _ => rfl
  have m_need_draw := PySem.W.mg_of X G g_need_draw
  have b_parity := F_parity.binds (ps := ["number"]) fun _ _ _ _ _ _ us hl => match us, hl with | [_], _ => rfl
  have m_parity := PySem.W.mg_of X G g_parity
  have b_reduced := F_reduced.binds (ps := ["top", "bottom"]) fun _ _ _ _ _ _ us hl => match us, hl with | [_, _], _ => rfl
  have m_reduced := PySem.W.mg_of X G g_reduced
  have b_lowest_row := F_lowest_row.binds (ps := ["bottom", "numbers"]) fun _ _ _ _ _ _ us hl => match us, hl with | [_, _], _ => rfl
  have m_lowest_row := PySem.W.mg_of X G g_lowest_row
  have b__is_map := F__is_map.binds (ps := ["value", "M"]) fun _ _ _ _ _ _ us hl => match us, hl with | [_, _], _ => rfl
  have m__is_map := PySem.W.mg_of X G g__is_map
  have b__need_maps : Binds K (PySem.W.fnOf "_need_maps" "_need_maps" (defArgs s__need_maps) (defBody s__need_maps) (defScope s__need_maps) .none kV__need_maps dc__need_maps pm__need_maps an__need_maps (.ref cc__need_maps) ct__need_maps) ["M", "maps"] [] := .all fun us hl => match us, hl with | [_, _], _ => rfl
  have m__need_maps := PySem.W.mg_of X G g__need_maps
  have b__meeting := F__meeting.binds (ps := ["maps", "one", "other"]) fun _ _ _ _ _ _ us hl => match us, hl with | [_, _, _], _ => rfl
  have m__meeting := PySem.W.mg_of X G g__meeting
  have b_chance_of_meeting := F_chance_of_meeting.binds (ps := ["M", "maps", "one", "other"]) fun _ _ _ _ _ _ us hl => match us, hl with | [_, _, _, _], _ => rfl
  have m_chance_of_meeting := PySem.W.mg_of X G g_chance_of_meeting
  have b_mean_meeting := F_mean_meeting.binds (ps := ["M", "maps"]) fun _ _ _ _ _ _ us hl => match us, hl with | [_, _], _ => rfl
  have m_mean_meeting := PySem.W.mg_of X G g_mean_meeting
  have b__are_often := F__are_often.binds (ps := ["M", "maps", "one", "other"]) fun _ _ _ _ _ _ us hl => match us, hl with | [_, _, _, _], _ => rfl
  have m__are_often := PySem.W.mg_of X G g__are_often
  have b__often_pairs := F__often_pairs.binds (ps := ["M", "maps"]) fun _ _ _ _ _ _ us hl => match us, hl with | [_, _], _ => rfl
  have m__often_pairs := PySem.W.mg_of X G g__often_pairs
  have b_meets_answer := F_meets_answer.binds (ps := ["M", "maps"]) fun _ _ _ _ _ _ us hl => match us, hl with | [_, _], _ => rfl
  have m_meets_answer := PySem.W.mg_of X G g_meets_answer
  have b_is_meets_answer := F_is_meets_answer.binds (ps := ["M", "maps", "value"]) fun _ _ _ _ _ _ us hl => match us, hl with | [_, _, _], _ => rfl
  have m_is_meets_answer := PySem.W.mg_of X G g_is_meets_answer
  have b_are_even := F_are_even.binds (ps := ["M", "maps"]) fun _ _ _ _ _ _ us hl => match us, hl with | [_, _], _ => rfl
  have m_are_even := PySem.W.mg_of X G g_are_even
  have b__spread_numbers := F__spread_numbers.binds (ps := ["M", "values", "numbers"]) fun _ _ _ _ _ _ us hl => match us, hl with | [_, _, _], _ => rfl
  have m__spread_numbers := PySem.W.mg_of X G g__spread_numbers
  have b_spread := F_spread.binds (ps := ["M", "values", "p"]) fun _ _ _ _ _ _ us hl => match us, hl with | [_, _, _], _ => rfl
  have m_spread := PySem.W.mg_of X G g_spread
  have b__need_maps_and_draw := F__need_maps_and_draw.binds (ps := ["M", "maps", "p"]) fun _ _ _ _ _ _ us hl => match us, hl with | [_, _, _], _ => rfl
  have m__need_maps_and_draw := PySem.W.mg_of X G g__need_maps_and_draw
  have b__gaps := F__gaps.binds (ps := ["M", "values", "p"]) fun _ _ _ _ _ _ us hl => match us, hl with | [_, _, _], _ => rfl
  have m__gaps := PySem.W.mg_of X G g__gaps
  have b_leftover := F_leftover.binds (ps := ["M", "maps", "p"]) fun _ _ _ _ _ _ us hl => match us, hl with | [_, _, _], _ => rfl
  have m_leftover := PySem.W.mg_of X G g_leftover
  have b_leftover_parts := F_leftover_parts.binds (ps := ["M", "maps", "p"]) fun _ _ _ _ _ _ us hl => match us, hl with | [_, _, _], _ => rfl
  have m_leftover_parts := PySem.W.mg_of X G g_leftover_parts
  have b_mean_distance := F_mean_distance.binds (ps := ["M", "maps", "p"]) fun _ _ _ _ _ _ us hl => match us, hl with | [_, _, _], _ => rfl
  have m_mean_distance := PySem.W.mg_of X G g_mean_distance
  have b_least_meeting := F_least_meeting.binds (ps := ["points", "M"]) fun _ _ _ _ _ _ us hl => match us, hl with | [_, _], _ => rfl
  have m_least_meeting := PySem.W.mg_of X G g_least_meeting
  have b__need_bits := F__need_bits.binds (ps := ["n", "m"]) fun _ _ _ _ _ _ us hl => match us, hl with | [_, _], _ => rfl
  have m__need_bits := PySem.W.mg_of X G g__need_bits
  have b__need_few := F__need_few.binds (ps := ["bits"]) fun _ _ _ _ _ _ us hl => match us, hl with | [_], _ => rfl
  have m__need_few := PySem.W.mg_of X G g__need_few
  have b__linear := F__linear.binds (ps := ["n", "m"]) fun _ _ _ _ _ _ us hl => match us, hl with | [_, _], _ => rfl
  have m__linear := PySem.W.mg_of X G g__linear
  have b_linear_maps := F_linear_maps.binds (ps := ["n", "m"]) fun _ _ _ _ _ _ us hl => match us, hl with | [_, _], _ => rfl
  have m_linear_maps := PySem.W.mg_of X G g_linear_maps
  have b_affine_maps := F_affine_maps.binds (ps := ["n", "m"]) fun _ _ _ _ _ _ us hl => match us, hl with | [_, _], _ => rfl
  have m_affine_maps := PySem.W.mg_of X G g_affine_maps
  have b_field_maps := F_field_maps.binds (ps := ["q"]) fun _ _ _ _ _ _ us hl => match us, hl with | [_], _ => rfl
  have m_field_maps := PySem.W.mg_of X G g_field_maps
  have b__law_vx_hat := F__law_vx_hat.binds (ps := ["script", "spot"]) fun _ _ _ _ _ _ us hl => match us, hl with | [_, _], _ => rfl
  have m__law_vx_hat := PySem.W.mg_of X G g__law_vx_hat
  have b__law_vx_up := F__law_vx_up.binds (ps := ["hat", "total"]) fun _ _ _ _ _ _ us hl => match us, hl with | [_, _], _ => rfl
  have m__law_vx_up := PySem.W.mg_of X G g__law_vx_up
  have b__law_met := F__law_met.binds (ps := ["call"]) fun _ _ _ _ _ _ us hl => match us, hl with | [_], _ => rfl
  have m__law_met := PySem.W.mg_of X G g__law_met
  have b__law_wrong := F__law_wrong.binds (ps := ["turn"]) fun _ _ _ _ _ _ us hl => match us, hl with | [_], _ => rfl
  have m__law_wrong := PySem.W.mg_of X G g__law_wrong
  have b__law_meetings_right : Binds K (PySem.W.fnOf "_law_meetings_right" "_law_meetings_right" (defArgs s__law_meetings_right) (defBody s__law_meetings_right) (defScope s__law_meetings_right) .none kV__law_meetings_right dc__law_meetings_right pm__law_meetings_right an__law_meetings_right (.ref cc__law_meetings_right) ct__law_meetings_right) ["turn"] [] := .all fun us hl => match us, hl with | [_], _ => rfl
  have m__law_meetings_right := PySem.W.mg_of X G g__law_meetings_right
  have b__law_spreads_right : Binds K (PySem.W.fnOf "_law_spreads_right" "_law_spreads_right" (defArgs s__law_spreads_right) (defBody s__law_spreads_right) (defScope s__law_spreads_right) .none kV__law_spreads_right dc__law_spreads_right pm__law_spreads_right an__law_spreads_right (.ref cc__law_spreads_right) ct__law_spreads_right) ["turn"] [] := .all fun us hl => match us, hl with | [_], _ => rfl
  have m__law_spreads_right := PySem.W.mg_of X G g__law_spreads_right
  have b__law_made_right : Binds K (PySem.W.fnOf "_law_made_right" "_law_made_right" (defArgs s__law_made_right) (defBody s__law_made_right) (defScope s__law_made_right) .none kV__law_made_right dc__law_made_right pm__law_made_right an__law_made_right (.ref cc__law_made_right) ct__law_made_right) ["turn"] [] := .all fun us hl => match us, hl with | [_], _ => rfl
  have m__law_made_right := PySem.W.mg_of X G g__law_made_right
  have y_isinstance := PySem.W.mg_none_of X G z_isinstance
  have y_int := PySem.W.mg_none_of X G z_int
  have y_bool := PySem.W.mg_none_of X G z_bool
  have y_tuple := PySem.W.mg_none_of X G z_tuple
  have y_len := PySem.W.mg_none_of X G z_len
  have y_all := PySem.W.mg_none_of X G z_all
  have y_min := PySem.W.mg_none_of X G z_min
  have y_sum := PySem.W.mg_none_of X G z_sum
  have y_zip := PySem.W.mg_none_of X G z_zip
  have y_abs := PySem.W.mg_none_of X G z_abs
  have y_range := PySem.W.mg_none_of X G z_range
  have y_sorted := PySem.W.mg_none_of X G z_sorted
  have y_repr := PySem.W.mg_none_of X G z_repr
  have y_max := PySem.W.mg_none_of X G z_max
  have y__LEAST_POINTS := PySem.W.mg_of X G cn__LEAST_POINTS
  have y__MOST_POINTS := PySem.W.mg_of X G cn__MOST_POINTS
  have y__MOST_VALUES := PySem.W.mg_of X G cn__MOST_VALUES
  have y__MOST_MAPS := PySem.W.mg_of X G cn__MOST_MAPS
  have y__MOST_BITS := PySem.W.mg_of X G cn__MOST_BITS
  have y__MOST_BITS_OF_VALUES := PySem.W.mg_of X G cn__MOST_BITS_OF_VALUES
  have y_gcd := PySem.W.mg_of X G i_gcd
  have y__SMALL_PRIMES := PySem.W.mg_of X G gt__SMALL_PRIMES
  have T__SMALL_PRIMES : TupK K at__SMALL_PRIMES [2, 3, 5, 7] := by
    have z := tupKB_ok tk__SMALL_PRIMES
    rwa [caK_of gt__SMALL_PRIMES] at z
  have E_InvalidDraw : ClsP K mg "InvalidDraw" a_InvalidDraw := ⟨PySem.W.mg_of X G gc_InvalidDraw, gc_InvalidDraw, kc_InvalidDraw, qc_InvalidDraw, ec_InvalidDraw, tc_InvalidDraw⟩
  have E_InvalidMaps : ClsP K mg "InvalidMaps" a_InvalidMaps := ⟨PySem.W.mg_of X G gc_InvalidMaps, gc_InvalidMaps, kc_InvalidMaps, qc_InvalidMaps, ec_InvalidMaps, tc_InvalidMaps⟩
  have HC : HardC K mg aH := ⟨PySem.W.mg_of X G gH, hs, hr, hf⟩
  have FI_InvalidNumber := fun_mk (st := sI_InvalidNumber) li_InvalidNumber ci_InvalidNumber ki_InvalidNumber
  have bI_InvalidNumber := FI_InvalidNumber.binds (ps := ["self", "given"]) fun _ _ _ _ _ _ us hl => match us, hl with | [_, _], _ => rfl
  have O_InvalidNumber : OexC K a_InvalidNumber := ⟨⟨_, _, _, _, _, _, _, _, _, _, _, _, _, _, _, xc_InvalidNumber, by rfl⟩, sa_InvalidNumber, ec_InvalidNumber, tc_InvalidNumber, kc_InvalidNumber⟩
  have E_InvalidNumber : ClsI l.prog w K mg base "InvalidNumber" a_InvalidNumber "given" := ⟨PySem.W.mg_of X G gc_InvalidNumber, gc_InvalidNumber, O_InvalidNumber, _, _, ic_InvalidNumber, ti_InvalidNumber, ok_ini_InvalidNumber FI_InvalidNumber HC O_InvalidNumber nc_InvalidNumber, bI_InvalidNumber⟩
  have FI_TooMany := fun_mk (st := sI_TooMany) li_TooMany ci_TooMany ki_TooMany
  have bI_TooMany := FI_TooMany.binds (ps := ["self", "most"]) fun _ _ _ _ _ _ us hl => match us, hl with | [_, _], _ => rfl
  have O_TooMany : OexC K a_TooMany := ⟨⟨_, _, _, _, _, _, _, _, _, _, _, _, _, _, _, xc_TooMany, by rfl⟩, sa_TooMany, ec_TooMany, tc_TooMany, kc_TooMany⟩
  have E_TooMany : ClsI l.prog w K mg base "TooMany" a_TooMany "most" := ⟨PySem.W.mg_of X G gc_TooMany, gc_TooMany, O_TooMany, _, _, ic_TooMany, ti_TooMany, ok_ini_TooMany FI_TooMany HC O_TooMany nc_TooMany, bI_TooMany⟩
  have mc_InvalidNumber := mg_caK gc_InvalidNumber (PySem.W.mg_of X G gc_InvalidNumber)
  have mc_InvalidMaps := mg_caK gc_InvalidMaps (PySem.W.mg_of X G gc_InvalidMaps)
  have mc_InvalidDraw := mg_caK gc_InvalidDraw (PySem.W.mg_of X G gc_InvalidDraw)
  have mc_TooMany := mg_caK gc_TooMany (PySem.W.mg_of X G gc_TooMany)
  have MG__law_met := fun cdg : Value => met__law_met (P := l.prog) (w := w) (mg := mg) (base := base) (g := f__law_met) hx__law_met mc_InvalidNumber (xfB_ok xf_InvalidNumber) nf_InvalidNumber mc_InvalidMaps mc_InvalidDraw mc_TooMany (xfB_ok xf_TooMany) nf_TooMany y_repr cdg
  have G_is_integer := ok_is_integer (P := l.prog) (w := w) (mg := mg) (base := base) (Ps := [(tabP K "is_indices", none), (tabP K "is_row_within", none), (tabP K "_need_maps", none), (tabP K "_law_meetings_right", some (("_law_meetings_right" : Str) ++ ".<locals>." ++ "<lambda>")), (tabP K "_law_spreads_right", some (("_law_spreads_right" : Str) ++ ".<locals>." ++ "<lambda>")), (tabP K "_law_made_right", some (("_law_made_right" : Str) ++ ".<locals>." ++ "<lambda>"))]) (k := 0) F_is_integer y_isinstance y_int y_bool
  have G_is_between := ok_is_between (P := l.prog) (w := w) (mg := mg) (base := base) (Ps := [(tabP K "is_indices", none), (tabP K "is_row_within", none), (tabP K "_need_maps", none), (tabP K "_law_meetings_right", some (("_law_meetings_right" : Str) ++ ".<locals>." ++ "<lambda>")), (tabP K "_law_spreads_right", some (("_law_spreads_right" : Str) ++ ".<locals>." ++ "<lambda>")), (tabP K "_law_made_right", some (("_law_made_right" : Str) ++ ".<locals>." ++ "<lambda>"))]) (k := 1) F_is_between (by decide) G_is_integer m_is_integer kf_is_integer b_is_integer
  have G_is_index := ok_is_index (P := l.prog) (w := w) (mg := mg) (base := base) (Ps := [(tabP K "is_indices", none), (tabP K "is_row_within", none), (tabP K "_need_maps", none), (tabP K "_law_meetings_right", some (("_law_meetings_right" : Str) ++ ".<locals>." ++ "<lambda>")), (tabP K "_law_spreads_right", some (("_law_spreads_right" : Str) ++ ".<locals>." ++ "<lambda>")), (tabP K "_law_made_right", some (("_law_made_right" : Str) ++ ".<locals>." ++ "<lambda>"))]) (k := 2) F_is_index (by decide) G_is_between m_is_between kf_is_between b_is_between
  have G_is_tuple_of := ok_is_tuple_of (P := l.prog) (w := w) (mg := mg) (base := base) (Ps := [(tabP K "is_indices", none), (tabP K "is_row_within", none), (tabP K "_need_maps", none), (tabP K "_law_meetings_right", some (("_law_meetings_right" : Str) ++ ".<locals>." ++ "<lambda>")), (tabP K "_law_spreads_right", some (("_law_spreads_right" : Str) ++ ".<locals>." ++ "<lambda>")), (tabP K "_law_made_right", some (("_law_made_right" : Str) ++ ".<locals>." ++ "<lambda>"))]) (k := 0) F_is_tuple_of y_isinstance y_tuple y_len
  have G_is_answer := ok_is_answer (P := l.prog) (w := w) (mg := mg) (base := base) (Ps := [(tabP K "is_indices", none), (tabP K "is_row_within", none), (tabP K "_need_maps", none), (tabP K "_law_meetings_right", some (("_law_meetings_right" : Str) ++ ".<locals>." ++ "<lambda>")), (tabP K "_law_spreads_right", some (("_law_spreads_right" : Str) ++ ".<locals>." ++ "<lambda>")), (tabP K "_law_made_right", some (("_law_made_right" : Str) ++ ".<locals>." ++ "<lambda>"))]) (k := 1) F_is_answer (by decide) G_is_tuple_of m_is_tuple_of kf_is_tuple_of b_is_tuple_of
  have G_is_indices := ok_is_indices (P := l.prog) (w := w) (mg := mg) (base := base) (Ps := [(tabP K "is_indices", none), (tabP K "is_row_within", none), (tabP K "_need_maps", none), (tabP K "_law_meetings_right", some (("_law_meetings_right" : Str) ++ ".<locals>." ++ "<lambda>")), (tabP K "_law_spreads_right", some (("_law_spreads_right" : Str) ++ ".<locals>." ++ "<lambda>")), (tabP K "_law_made_right", some (("_law_made_right" : Str) ++ ".<locals>." ++ "<lambda>"))]) (k := 5) F_is_indices y_isinstance y_tuple y_all (by decide) B_is_indices (List.mem_cons_self) (by decide) G_is_index m_is_index kf_is_index b_is_index
  have G_is_row_within := ok_is_row_within (P := l.prog) (w := w) (mg := mg) (base := base) (Ps := [(tabP K "is_indices", none), (tabP K "is_row_within", none), (tabP K "_need_maps", none), (tabP K "_law_meetings_right", some (("_law_meetings_right" : Str) ++ ".<locals>." ++ "<lambda>")), (tabP K "_law_spreads_right", some (("_law_spreads_right" : Str) ++ ".<locals>." ++ "<lambda>")), (tabP K "_law_made_right", some (("_law_made_right" : Str) ++ ".<locals>." ++ "<lambda>"))]) (k := 3) F_is_row_within y_isinstance y_tuple y_len y_all (by decide) B_is_row_within (List.mem_cons_of_mem _ (List.mem_cons_self)) (by decide) G_is_tuple_of m_is_tuple_of kf_is_tuple_of b_is_tuple_of (by decide) G_is_integer m_is_integer kf_is_integer b_is_integer
  have G_is_weights := ok_is_weights (P := l.prog) (w := w) (mg := mg) (base := base) (Ps := [(tabP K "is_indices", none), (tabP K "is_row_within", none), (tabP K "_need_maps", none), (tabP K "_law_meetings_right", some (("_law_meetings_right" : Str) ++ ".<locals>." ++ "<lambda>")), (tabP K "_law_spreads_right", some (("_law_spreads_right" : Str) ++ ".<locals>." ++ "<lambda>")), (tabP K "_law_made_right", some (("_law_made_right" : Str) ++ ".<locals>." ++ "<lambda>"))]) (k := 4) F_is_weights y_min (by decide) G_is_row_within m_is_row_within kf_is_row_within b_is_row_within
  have G_is_mix := ok_is_mix (P := l.prog) (w := w) (mg := mg) (base := base) (Ps := [(tabP K "is_indices", none), (tabP K "is_row_within", none), (tabP K "_need_maps", none), (tabP K "_law_meetings_right", some (("_law_meetings_right" : Str) ++ ".<locals>." ++ "<lambda>")), (tabP K "_law_spreads_right", some (("_law_spreads_right" : Str) ++ ".<locals>." ++ "<lambda>")), (tabP K "_law_made_right", some (("_law_made_right" : Str) ++ ".<locals>." ++ "<lambda>"))]) (k := 5) F_is_mix y_sum (by decide) G_is_weights m_is_weights kf_is_weights b_is_weights
  have G_need_number := ok_need_number (P := l.prog) (w := w) (mg := mg) (base := base) (Ps := [(tabP K "is_indices", none), (tabP K "is_row_within", none), (tabP K "_need_maps", none), (tabP K "_law_meetings_right", some (("_law_meetings_right" : Str) ++ ".<locals>." ++ "<lambda>")), (tabP K "_law_spreads_right", some (("_law_spreads_right" : Str) ++ ".<locals>." ++ "<lambda>")), (tabP K "_law_made_right", some (("_law_made_right" : Str) ++ ".<locals>." ++ "<lambda>"))]) (k := 2) F_need_number E_InvalidNumber (by decide) (by decide) G_is_between m_is_between kf_is_between b_is_between
  have G_need_small_prime := ok_need_small_prime (P := l.prog) (w := w) (mg := mg) (base := base) (Ps := [(tabP K "is_indices", none), (tabP K "is_row_within", none), (tabP K "_need_maps", none), (tabP K "_law_meetings_right", some (("_law_meetings_right" : Str) ++ ".<locals>." ++ "<lambda>")), (tabP K "_law_spreads_right", some (("_law_spreads_right" : Str) ++ ".<locals>." ++ "<lambda>")), (tabP K "_law_made_right", some (("_law_made_right" : Str) ++ ".<locals>." ++ "<lambda>"))]) (k := 2) F_need_small_prime y__SMALL_PRIMES T__SMALL_PRIMES E_InvalidNumber (by decide) (by decide) G_is_integer m_is_integer kf_is_integer b_is_integer
  have G_need_draw := ok_need_draw (P := l.prog) (w := w) (mg := mg) (base := base) (Ps := [(tabP K "is_indices", none), (tabP K "is_row_within", none), (tabP K "_need_maps", none), (tabP K "_law_meetings_right", some (("_law_meetings_right" : Str) ++ ".<locals>." ++ "<lambda>")), (tabP K "_law_spreads_right", some (("_law_spreads_right" : Str) ++ ".<locals>." ++ "<lambda>")), (tabP K "_law_made_right", some (("_law_made_right" : Str) ++ ".<locals>." ++ "<lambda>"))]) (k := 6) F_need_draw E_InvalidDraw (by decide) G_is_mix m_is_mix kf_is_mix b_is_mix
  have G_parity := ok_parity (P := l.prog) (w := w) (mg := mg) (base := base) (Ps := [(tabP K "is_indices", none), (tabP K "is_row_within", none), (tabP K "_need_maps", none), (tabP K "_law_meetings_right", some (("_law_meetings_right" : Str) ++ ".<locals>." ++ "<lambda>")), (tabP K "_law_spreads_right", some (("_law_spreads_right" : Str) ++ ".<locals>." ++ "<lambda>")), (tabP K "_law_made_right", some (("_law_made_right" : Str) ++ ".<locals>." ++ "<lambda>"))]) (k := 0) F_parity 
  have G_reduced := ok_reduced (P := l.prog) (w := w) (mg := mg) (base := base) (Ps := [(tabP K "is_indices", none), (tabP K "is_row_within", none), (tabP K "_need_maps", none), (tabP K "_law_meetings_right", some (("_law_meetings_right" : Str) ++ ".<locals>." ++ "<lambda>")), (tabP K "_law_spreads_right", some (("_law_spreads_right" : Str) ++ ".<locals>." ++ "<lambda>")), (tabP K "_law_made_right", some (("_law_made_right" : Str) ++ ".<locals>." ++ "<lambda>"))]) (k := 0) F_reduced y_gcd
  have G_lowest_row := ok_lowest_row (P := l.prog) (w := w) (mg := mg) (base := base) (Ps := [(tabP K "is_indices", none), (tabP K "is_row_within", none), (tabP K "_need_maps", none), (tabP K "_law_meetings_right", some (("_law_meetings_right" : Str) ++ ".<locals>." ++ "<lambda>")), (tabP K "_law_spreads_right", some (("_law_spreads_right" : Str) ++ ".<locals>." ++ "<lambda>")), (tabP K "_law_made_right", some (("_law_made_right" : Str) ++ ".<locals>." ++ "<lambda>"))]) (k := 0) F_lowest_row y_gcd y_tuple
  have G__is_map := ok__is_map (P := l.prog) (w := w) (mg := mg) (base := base) (Ps := [(tabP K "is_indices", none), (tabP K "is_row_within", none), (tabP K "_need_maps", none), (tabP K "_law_meetings_right", some (("_law_meetings_right" : Str) ++ ".<locals>." ++ "<lambda>")), (tabP K "_law_spreads_right", some (("_law_spreads_right" : Str) ++ ".<locals>." ++ "<lambda>")), (tabP K "_law_made_right", some (("_law_made_right" : Str) ++ ".<locals>." ++ "<lambda>"))]) (k := 6) F__is_map y_isinstance y_tuple y__LEAST_POINTS y_len y__MOST_POINTS (by decide) G_is_indices m_is_indices kf_is_indices b_is_indices
  have G__need_maps := ok__need_maps (P := l.prog) (w := w) (mg := mg) (base := base) (Ps := [(tabP K "is_indices", none), (tabP K "is_row_within", none), (tabP K "_need_maps", none), (tabP K "_law_meetings_right", some (("_law_meetings_right" : Str) ++ ".<locals>." ++ "<lambda>")), (tabP K "_law_spreads_right", some (("_law_spreads_right" : Str) ++ ".<locals>." ++ "<lambda>")), (tabP K "_law_made_right", some (("_law_made_right" : Str) ++ ".<locals>." ++ "<lambda>"))]) (k := 9) F__need_maps y__MOST_VALUES y_isinstance y_tuple y_len y__MOST_MAPS y_all E_InvalidMaps (by decide) B__need_maps (List.mem_cons_of_mem _ (List.mem_cons_of_mem _ (List.mem_cons_self))) (by decide) G_need_number m_need_number kf_need_number b_need_number (by decide) G__is_map m__is_map kf__is_map b__is_map
  have G__meeting := ok__meeting (P := l.prog) (w := w) (mg := mg) (base := base) (Ps := [(tabP K "is_indices", none), (tabP K "is_row_within", none), (tabP K "_need_maps", none), (tabP K "_law_meetings_right", some (("_law_meetings_right" : Str) ++ ".<locals>." ++ "<lambda>")), (tabP K "_law_spreads_right", some (("_law_spreads_right" : Str) ++ ".<locals>." ++ "<lambda>")), (tabP K "_law_made_right", some (("_law_made_right" : Str) ++ ".<locals>." ++ "<lambda>"))]) (k := 0) F__meeting y_len
  have G_chance_of_meeting := ok_chance_of_meeting (P := l.prog) (w := w) (mg := mg) (base := base) (Ps := [(tabP K "is_indices", none), (tabP K "is_row_within", none), (tabP K "_need_maps", none), (tabP K "_law_meetings_right", some (("_law_meetings_right" : Str) ++ ".<locals>." ++ "<lambda>")), (tabP K "_law_spreads_right", some (("_law_spreads_right" : Str) ++ ".<locals>." ++ "<lambda>")), (tabP K "_law_made_right", some (("_law_made_right" : Str) ++ ".<locals>." ++ "<lambda>"))]) (k := 10) F_chance_of_meeting y_len (by decide) G__need_maps m__need_maps kf__need_maps b__need_maps (by decide) G_need_number m_need_number kf_need_number b_need_number (by decide) G__meeting m__meeting kf__meeting b__meeting (by decide) G_reduced m_reduced kf_reduced b_reduced
  have G_mean_meeting := ok_mean_meeting (P := l.prog) (w := w) (mg := mg) (base := base) (Ps := [(tabP K "is_indices", none), (tabP K "is_row_within", none), (tabP K "_need_maps", none), (tabP K "_law_meetings_right", some (("_law_meetings_right" : Str) ++ ".<locals>." ++ "<lambda>")), (tabP K "_law_spreads_right", some (("_law_spreads_right" : Str) ++ ".<locals>." ++ "<lambda>")), (tabP K "_law_made_right", some (("_law_made_right" : Str) ++ ".<locals>." ++ "<lambda>"))]) (k := 10) F_mean_meeting y_len (by decide) G__need_maps m__need_maps kf__need_maps b__need_maps
  have G__are_often := ok__are_often (P := l.prog) (w := w) (mg := mg) (base := base) (Ps := [(tabP K "is_indices", none), (tabP K "is_row_within", none), (tabP K "_need_maps", none), (tabP K "_law_meetings_right", some (("_law_meetings_right" : Str) ++ ".<locals>." ++ "<lambda>")), (tabP K "_law_spreads_right", some (("_law_spreads_right" : Str) ++ ".<locals>." ++ "<lambda>")), (tabP K "_law_made_right", some (("_law_made_right" : Str) ++ ".<locals>." ++ "<lambda>"))]) (k := 1) F__are_often y_len (by decide) G__meeting m__meeting kf__meeting b__meeting
  have G__often_pairs := ok__often_pairs (P := l.prog) (w := w) (mg := mg) (base := base) (Ps := [(tabP K "is_indices", none), (tabP K "is_row_within", none), (tabP K "_need_maps", none), (tabP K "_law_meetings_right", some (("_law_meetings_right" : Str) ++ ".<locals>." ++ "<lambda>")), (tabP K "_law_spreads_right", some (("_law_spreads_right" : Str) ++ ".<locals>." ++ "<lambda>")), (tabP K "_law_made_right", some (("_law_made_right" : Str) ++ ".<locals>." ++ "<lambda>"))]) (k := 0) F__often_pairs 
  have G_meets_answer := ok_meets_answer (P := l.prog) (w := w) (mg := mg) (base := base) (Ps := [(tabP K "is_indices", none), (tabP K "is_row_within", none), (tabP K "_need_maps", none), (tabP K "_law_meetings_right", some (("_law_meetings_right" : Str) ++ ".<locals>." ++ "<lambda>")), (tabP K "_law_spreads_right", some (("_law_spreads_right" : Str) ++ ".<locals>." ++ "<lambda>")), (tabP K "_law_made_right", some (("_law_made_right" : Str) ++ ".<locals>." ++ "<lambda>"))]) (k := 10) F_meets_answer (by decide) G__need_maps m__need_maps kf__need_maps b__need_maps (by decide) G__often_pairs m__often_pairs kf__often_pairs b__often_pairs
  have G_is_meets_answer := ok_is_meets_answer (P := l.prog) (w := w) (mg := mg) (base := base) (Ps := [(tabP K "is_indices", none), (tabP K "is_row_within", none), (tabP K "_need_maps", none), (tabP K "_law_meetings_right", some (("_law_meetings_right" : Str) ++ ".<locals>." ++ "<lambda>")), (tabP K "_law_spreads_right", some (("_law_spreads_right" : Str) ++ ".<locals>." ++ "<lambda>")), (tabP K "_law_made_right", some (("_law_made_right" : Str) ++ ".<locals>." ++ "<lambda>"))]) (k := 10) F_is_meets_answer y_len (by decide) G__need_maps m__need_maps kf__need_maps b__need_maps (by decide) G_is_answer m_is_answer kf_is_answer b_is_answer (by decide) G__often_pairs m__often_pairs kf__often_pairs b__often_pairs (by decide) G_is_index m_is_index kf_is_index b_is_index (by decide) G__are_often m__are_often kf__are_often b__are_often
  have G_are_even := ok_are_even (P := l.prog) (w := w) (mg := mg) (base := base) (Ps := [(tabP K "is_indices", none), (tabP K "is_row_within", none), (tabP K "_need_maps", none), (tabP K "_law_meetings_right", some (("_law_meetings_right" : Str) ++ ".<locals>." ++ "<lambda>")), (tabP K "_law_spreads_right", some (("_law_spreads_right" : Str) ++ ".<locals>." ++ "<lambda>")), (tabP K "_law_made_right", some (("_law_made_right" : Str) ++ ".<locals>." ++ "<lambda>"))]) (k := 10) F_are_even (by decide) G__need_maps m__need_maps kf__need_maps b__need_maps
  have G__spread_numbers := ok__spread_numbers (P := l.prog) (w := w) (mg := mg) (base := base) (Ps := [(tabP K "is_indices", none), (tabP K "is_row_within", none), (tabP K "_need_maps", none), (tabP K "_law_meetings_right", some (("_law_meetings_right" : Str) ++ ".<locals>." ++ "<lambda>")), (tabP K "_law_spreads_right", some (("_law_spreads_right" : Str) ++ ".<locals>." ++ "<lambda>")), (tabP K "_law_made_right", some (("_law_made_right" : Str) ++ ".<locals>." ++ "<lambda>"))]) (k := 0) F__spread_numbers y_zip
  have G_spread := ok_spread (P := l.prog) (w := w) (mg := mg) (base := base) (Ps := [(tabP K "is_indices", none), (tabP K "is_row_within", none), (tabP K "_need_maps", none), (tabP K "_law_meetings_right", some (("_law_meetings_right" : Str) ++ ".<locals>." ++ "<lambda>")), (tabP K "_law_spreads_right", some (("_law_spreads_right" : Str) ++ ".<locals>." ++ "<lambda>")), (tabP K "_law_made_right", some (("_law_made_right" : Str) ++ ".<locals>." ++ "<lambda>"))]) (k := 7) F_spread y__MOST_VALUES y_len E_InvalidMaps (by decide) G_need_number m_need_number kf_need_number b_need_number (by decide) G__is_map m__is_map kf__is_map b__is_map (by decide) G_need_draw m_need_draw kf_need_draw b_need_draw (by decide) G__spread_numbers m__spread_numbers kf__spread_numbers b__spread_numbers (by decide) G_lowest_row m_lowest_row kf_lowest_row b_lowest_row
  have G__need_maps_and_draw := ok__need_maps_and_draw (P := l.prog) (w := w) (mg := mg) (base := base) (Ps := [(tabP K "is_indices", none), (tabP K "is_row_within", none), (tabP K "_need_maps", none), (tabP K "_law_meetings_right", some (("_law_meetings_right" : Str) ++ ".<locals>." ++ "<lambda>")), (tabP K "_law_spreads_right", some (("_law_spreads_right" : Str) ++ ".<locals>." ++ "<lambda>")), (tabP K "_law_made_right", some (("_law_made_right" : Str) ++ ".<locals>." ++ "<lambda>"))]) (k := 10) F__need_maps_and_draw y_len (by decide) G__need_maps m__need_maps kf__need_maps b__need_maps (by decide) G_need_draw m_need_draw kf_need_draw b_need_draw
  have G__gaps := ok__gaps (P := l.prog) (w := w) (mg := mg) (base := base) (Ps := [(tabP K "is_indices", none), (tabP K "is_row_within", none), (tabP K "_need_maps", none), (tabP K "_law_meetings_right", some (("_law_meetings_right" : Str) ++ ".<locals>." ++ "<lambda>")), (tabP K "_law_spreads_right", some (("_law_spreads_right" : Str) ++ ".<locals>." ++ "<lambda>")), (tabP K "_law_made_right", some (("_law_made_right" : Str) ++ ".<locals>." ++ "<lambda>"))]) (k := 1) F__gaps (by decide) G__spread_numbers m__spread_numbers kf__spread_numbers b__spread_numbers
  have G_leftover := ok_leftover (P := l.prog) (w := w) (mg := mg) (base := base) (Ps := [(tabP K "is_indices", none), (tabP K "is_row_within", none), (tabP K "_need_maps", none), (tabP K "_law_meetings_right", some (("_law_meetings_right" : Str) ++ ".<locals>." ++ "<lambda>")), (tabP K "_law_spreads_right", some (("_law_spreads_right" : Str) ++ ".<locals>." ++ "<lambda>")), (tabP K "_law_made_right", some (("_law_made_right" : Str) ++ ".<locals>." ++ "<lambda>"))]) (k := 11) F_leftover y_sum y_len (by decide) G__need_maps_and_draw m__need_maps_and_draw kf__need_maps_and_draw b__need_maps_and_draw (by decide) G__gaps m__gaps kf__gaps b__gaps (by decide) G_reduced m_reduced kf_reduced b_reduced
  have G_leftover_parts := ok_leftover_parts (P := l.prog) (w := w) (mg := mg) (base := base) (Ps := [(tabP K "is_indices", none), (tabP K "is_row_within", none), (tabP K "_need_maps", none), (tabP K "_law_meetings_right", some (("_law_meetings_right" : Str) ++ ".<locals>." ++ "<lambda>")), (tabP K "_law_spreads_right", some (("_law_spreads_right" : Str) ++ ".<locals>." ++ "<lambda>")), (tabP K "_law_made_right", some (("_law_made_right" : Str) ++ ".<locals>." ++ "<lambda>"))]) (k := 11) F_leftover_parts y_sum (by decide) G__need_maps_and_draw m__need_maps_and_draw kf__need_maps_and_draw b__need_maps_and_draw
  have G_mean_distance := ok_mean_distance (P := l.prog) (w := w) (mg := mg) (base := base) (Ps := [(tabP K "is_indices", none), (tabP K "is_row_within", none), (tabP K "_need_maps", none), (tabP K "_law_meetings_right", some (("_law_meetings_right" : Str) ++ ".<locals>." ++ "<lambda>")), (tabP K "_law_spreads_right", some (("_law_spreads_right" : Str) ++ ".<locals>." ++ "<lambda>")), (tabP K "_law_made_right", some (("_law_made_right" : Str) ++ ".<locals>." ++ "<lambda>"))]) (k := 11) F_mean_distance y_abs y_sum y_len (by decide) G__need_maps_and_draw m__need_maps_and_draw kf__need_maps_and_draw b__need_maps_and_draw (by decide) G__gaps m__gaps kf__gaps b__gaps (by decide) G_reduced m_reduced kf_reduced b_reduced
  have G_least_meeting := ok_least_meeting (P := l.prog) (w := w) (mg := mg) (base := base) (Ps := [(tabP K "is_indices", none), (tabP K "is_row_within", none), (tabP K "_need_maps", none), (tabP K "_law_meetings_right", some (("_law_meetings_right" : Str) ++ ".<locals>." ++ "<lambda>")), (tabP K "_law_spreads_right", some (("_law_spreads_right" : Str) ++ ".<locals>." ++ "<lambda>")), (tabP K "_law_made_right", some (("_law_made_right" : Str) ++ ".<locals>." ++ "<lambda>"))]) (k := 3) F_least_meeting y__MOST_POINTS y__LEAST_POINTS y__MOST_VALUES (by decide) G_need_number m_need_number kf_need_number b_need_number
  have G__need_bits := ok__need_bits (P := l.prog) (w := w) (mg := mg) (base := base) (Ps := [(tabP K "is_indices", none), (tabP K "is_row_within", none), (tabP K "_need_maps", none), (tabP K "_law_meetings_right", some (("_law_meetings_right" : Str) ++ ".<locals>." ++ "<lambda>")), (tabP K "_law_spreads_right", some (("_law_spreads_right" : Str) ++ ".<locals>." ++ "<lambda>")), (tabP K "_law_made_right", some (("_law_made_right" : Str) ++ ".<locals>." ++ "<lambda>"))]) (k := 3) F__need_bits y__MOST_BITS y__MOST_BITS_OF_VALUES (by decide) G_need_number m_need_number kf_need_number b_need_number
  have G__need_few := ok__need_few (P := l.prog) (w := w) (mg := mg) (base := base) (Ps := [(tabP K "is_indices", none), (tabP K "is_row_within", none), (tabP K "_need_maps", none), (tabP K "_law_meetings_right", some (("_law_meetings_right" : Str) ++ ".<locals>." ++ "<lambda>")), (tabP K "_law_spreads_right", some (("_law_spreads_right" : Str) ++ ".<locals>." ++ "<lambda>")), (tabP K "_law_made_right", some (("_law_made_right" : Str) ++ ".<locals>." ++ "<lambda>"))]) (k := 2) F__need_few y__MOST_MAPS E_TooMany (by decide)
  have G__linear := ok__linear (P := l.prog) (w := w) (mg := mg) (base := base) (Ps := [(tabP K "is_indices", none), (tabP K "is_row_within", none), (tabP K "_need_maps", none), (tabP K "_law_meetings_right", some (("_law_meetings_right" : Str) ++ ".<locals>." ++ "<lambda>")), (tabP K "_law_spreads_right", some (("_law_spreads_right" : Str) ++ ".<locals>." ++ "<lambda>")), (tabP K "_law_made_right", some (("_law_made_right" : Str) ++ ".<locals>." ++ "<lambda>"))]) (k := 1) F__linear y_range y_zip y_tuple (by decide) G_parity m_parity kf_parity b_parity
  have G_linear_maps := ok_linear_maps (P := l.prog) (w := w) (mg := mg) (base := base) (Ps := [(tabP K "is_indices", none), (tabP K "is_row_within", none), (tabP K "_need_maps", none), (tabP K "_law_meetings_right", some (("_law_meetings_right" : Str) ++ ".<locals>." ++ "<lambda>")), (tabP K "_law_spreads_right", some (("_law_spreads_right" : Str) ++ ".<locals>." ++ "<lambda>")), (tabP K "_law_made_right", some (("_law_made_right" : Str) ++ ".<locals>." ++ "<lambda>"))]) (k := 4) F_linear_maps y_sorted y_tuple (by decide) G__need_bits m__need_bits kf__need_bits b__need_bits (by decide) G__need_few m__need_few kf__need_few b__need_few (by decide) G__linear m__linear kf__linear b__linear
  have G_affine_maps := ok_affine_maps (P := l.prog) (w := w) (mg := mg) (base := base) (Ps := [(tabP K "is_indices", none), (tabP K "is_row_within", none), (tabP K "_need_maps", none), (tabP K "_law_meetings_right", some (("_law_meetings_right" : Str) ++ ".<locals>." ++ "<lambda>")), (tabP K "_law_spreads_right", some (("_law_spreads_right" : Str) ++ ".<locals>." ++ "<lambda>")), (tabP K "_law_made_right", some (("_law_made_right" : Str) ++ ".<locals>." ++ "<lambda>"))]) (k := 4) F_affine_maps y_range y_tuple y_sorted (by decide) G__need_bits m__need_bits kf__need_bits b__need_bits (by decide) G__need_few m__need_few kf__need_few b__need_few (by decide) G__linear m__linear kf__linear b__linear
  have G_field_maps := ok_field_maps (P := l.prog) (w := w) (mg := mg) (base := base) (Ps := [(tabP K "is_indices", none), (tabP K "is_row_within", none), (tabP K "_need_maps", none), (tabP K "_law_meetings_right", some (("_law_meetings_right" : Str) ++ ".<locals>." ++ "<lambda>")), (tabP K "_law_spreads_right", some (("_law_spreads_right" : Str) ++ ".<locals>." ++ "<lambda>")), (tabP K "_law_made_right", some (("_law_made_right" : Str) ++ ".<locals>." ++ "<lambda>"))]) (k := 3) F_field_maps y_range y_tuple y_sorted (by decide) G_need_small_prime m_need_small_prime kf_need_small_prime b_need_small_prime
  have G__law_vx_hat : FnOk l.prog w K mg base CX0 2 f__law_vx_hat _ ["script", "spot"] (spHatD K) := ok_hat (k := 1) F__law_vx_hat y_int y_len y_abs y_max
  have G__law_vx_up : FnOk l.prog w K mg base CX0 2 f__law_vx_up _ ["hat", "total"] (spOf K [(tabP K "is_indices", none), (tabP K "is_row_within", none), (tabP K "_need_maps", none), (tabP K "_law_meetings_right", some (("_law_meetings_right" : Str) ++ ".<locals>." ++ "<lambda>")), (tabP K "_law_spreads_right", some (("_law_spreads_right" : Str) ++ ".<locals>." ++ "<lambda>")), (tabP K "_law_made_right", some (("_law_made_right" : Str) ++ ".<locals>." ++ "<lambda>"))] SD_up) := (ok_up (k := 1) F__law_vx_up y_int).imp fun vs H Q E h => up_data h
  have GR__law_vx_up : FnOk l.prog w K mg base CX0 2 f__law_vx_up _ ["hat", "total"] spUpR := ok_up (k := 1) F__law_vx_up y_int
  have G__law_wrong := ok__law_wrong (P := l.prog) (w := w) (mg := mg) (base := base) (Ps := [(tabP K "is_indices", none), (tabP K "is_row_within", none), (tabP K "_need_maps", none), (tabP K "_law_meetings_right", some (("_law_meetings_right" : Str) ++ ".<locals>." ++ "<lambda>")), (tabP K "_law_spreads_right", some (("_law_spreads_right" : Str) ++ ".<locals>." ++ "<lambda>")), (tabP K "_law_made_right", some (("_law_made_right" : Str) ++ ".<locals>." ++ "<lambda>"))]) (k := 0) F__law_wrong y_len
  have G__law_meetings_right := ok__law_meetings_right (P := l.prog) (w := w) (mg := mg) (base := base) (Ps := [(tabP K "is_indices", none), (tabP K "is_row_within", none), (tabP K "_need_maps", none), (tabP K "_law_meetings_right", some (("_law_meetings_right" : Str) ++ ".<locals>." ++ "<lambda>")), (tabP K "_law_spreads_right", some (("_law_spreads_right" : Str) ++ ".<locals>." ++ "<lambda>")), (tabP K "_law_made_right", some (("_law_made_right" : Str) ++ ".<locals>." ++ "<lambda>"))]) (k := 13) F__law_meetings_right y_repr (by decide) B__law_meetings_right (List.mem_cons_of_mem _ (List.mem_cons_of_mem _ (List.mem_cons_of_mem _ (List.mem_cons_self)))) F__law_met m__law_met b__law_met MG__law_met (by decide) G__law_wrong m__law_wrong kf__law_wrong b__law_wrong (by decide) G_chance_of_meeting m_chance_of_meeting kf_chance_of_meeting b_chance_of_meeting (by decide) G_mean_meeting m_mean_meeting kf_mean_meeting b_mean_meeting (by decide) G_meets_answer m_meets_answer kf_meets_answer b_meets_answer (by decide) G_is_meets_answer m_is_meets_answer kf_is_meets_answer b_is_meets_answer (by decide) G_are_even m_are_even kf_are_even b_are_even
  have G__law_spreads_right := ok__law_spreads_right (P := l.prog) (w := w) (mg := mg) (base := base) (Ps := [(tabP K "is_indices", none), (tabP K "is_row_within", none), (tabP K "_need_maps", none), (tabP K "_law_meetings_right", some (("_law_meetings_right" : Str) ++ ".<locals>." ++ "<lambda>")), (tabP K "_law_spreads_right", some (("_law_spreads_right" : Str) ++ ".<locals>." ++ "<lambda>")), (tabP K "_law_made_right", some (("_law_made_right" : Str) ++ ".<locals>." ++ "<lambda>"))]) (k := 14) F__law_spreads_right y_repr (by decide) B__law_spreads_right (List.mem_cons_of_mem _ (List.mem_cons_of_mem _ (List.mem_cons_of_mem _ (List.mem_cons_of_mem _ (List.mem_cons_self))))) F__law_met m__law_met b__law_met MG__law_met (by decide) G__law_wrong m__law_wrong kf__law_wrong b__law_wrong (by decide) G_spread m_spread kf_spread b_spread (by decide) G_leftover m_leftover kf_leftover b_leftover (by decide) G_leftover_parts m_leftover_parts kf_leftover_parts b_leftover_parts (by decide) G_mean_distance m_mean_distance kf_mean_distance b_mean_distance
  have G__law_made_right := ok__law_made_right (P := l.prog) (w := w) (mg := mg) (base := base) (Ps := [(tabP K "is_indices", none), (tabP K "is_row_within", none), (tabP K "_need_maps", none), (tabP K "_law_meetings_right", some (("_law_meetings_right" : Str) ++ ".<locals>." ++ "<lambda>")), (tabP K "_law_spreads_right", some (("_law_spreads_right" : Str) ++ ".<locals>." ++ "<lambda>")), (tabP K "_law_made_right", some (("_law_made_right" : Str) ++ ".<locals>." ++ "<lambda>"))]) (k := 7) F__law_made_right y_repr (by decide) B__law_made_right (List.mem_cons_of_mem _ (List.mem_cons_of_mem _ (List.mem_cons_of_mem _ (List.mem_cons_of_mem _ (List.mem_cons_of_mem _ (List.mem_cons_self)))))) F__law_met m__law_met b__law_met MG__law_met (by decide) G__law_wrong m__law_wrong kf__law_wrong b__law_wrong (by decide) G_linear_maps m_linear_maps kf_linear_maps b_linear_maps (by decide) G_affine_maps m_affine_maps kf_affine_maps b_affine_maps (by decide) G_field_maps m_field_maps kf_field_maps b_field_maps (by decide) G_least_meeting m_least_meeting kf_least_meeting b_least_meeting
  exact ok_law (P := l.prog) (w := w) (base := base) (Ps := [(tabP K "is_indices", none), (tabP K "is_row_within", none), (tabP K "_need_maps", none), (tabP K "_law_meetings_right", some (("_law_meetings_right" : Str) ++ ".<locals>." ++ "<lambda>")), (tabP K "_law_spreads_right", some (("_law_spreads_right" : Str) ++ ".<locals>." ++ "<lambda>")), (tabP K "_law_made_right", some (("_law_made_right" : Str) ++ ".<locals>." ++ "<lambda>"))]) (k := 15) (SD := SD_law) (PP := 0) F_law (fun _ _ h => len_law h) y_len y_min y_max y_range (by decide) GR__law_vx_up m__law_vx_up kf__law_vx_up b__law_vx_up (by decide) G__law_vx_hat m__law_vx_hat kf__law_vx_hat b__law_vx_hat (by decide) G__law_meetings_right m__law_meetings_right kf__law_meetings_right b__law_meetings_right (by decide) G__law_spreads_right m__law_spreads_right kf__law_spreads_right b__law_spreads_right (by decide) G__law_made_right m__law_made_right kf__law_made_right b__law_made_right pu_law
end Q
end
set_option Elab.async false
set_option linter.all false
set_option maxRecDepth 100000
open PySem PySem.W PyProof.Rows
set_option maxHeartbeats 0 in
theorem PySem.Challenge.cw_hardbits_k73_errors_of_maps_holds : PySem.Challenge.rw_hardbits_k73_errors_of_maps.Holds := by
  w_on; o_law; k_head; (case hw => w_witness2)
  k_fill
  refine Dl.walk_tabG (l := PySem.Challenge.rw_hardbits_k73_errors_of_maps) (n := 63) (k := 16) (x := "script") rfl (by decide) rfl ⟨rfl, by decide, by decide⟩ (fun w h Y => by first | exact PySem.W.kIn_of Y | exact PySem.W.km_in_of Y) ?F
  case F =>
    intro w mg fa h KX G hmg tabs
    refine' Q.all_mk KX G hmg tabs ?fk_gc_InvalidNumber ?fk_gc_InvalidDraw ?fk_gc_InvalidMaps ?fk_gc_TooMany ?fk_kc_InvalidDraw ?fk_qc_InvalidDraw ?fk_ec_InvalidDraw ?fk_tc_InvalidDraw ?fk_kc_InvalidMaps ?fk_qc_InvalidMaps ?fk_ec_InvalidMaps ?fk_tc_InvalidMaps ?fk_gH ?fk_hs ?fk_hr ?fk_hf ?fk_xc_InvalidNumber ?fk_sa_InvalidNumber ?fk_ec_InvalidNumber ?fk_tc_InvalidNumber ?fk_kc_InvalidNumber ?fk_nc_InvalidNumber ?fk_ic_InvalidNumber ?fk_ti_InvalidNumber ?fk_li_InvalidNumber ?fk_ci_InvalidNumber ?fk_ki_InvalidNumber ?fk_xc_TooMany ?fk_sa_TooMany ?fk_ec_TooMany ?fk_tc_TooMany ?fk_kc_TooMany ?fk_nc_TooMany ?fk_ic_TooMany ?fk_ti_TooMany ?fk_li_TooMany ?fk_ci_TooMany ?fk_ki_TooMany ?fk_xf_InvalidNumber ?fk_nf_InvalidNumber ?fk_xf_TooMany ?fk_nf_TooMany ?fk_hx__law_met ?fk_g_is_integer ?fk_l_is_integer ?fk_c_is_integer ?fk_kf_is_integer ?fk_g_is_between ?fk_l_is_between ?fk_c_is_between ?fk_kf_is_between ?fk_g_is_index ?fk_l_is_index ?fk_c_is_index ?fk_kf_is_index ?fk_g_is_tuple_of ?fk_l_is_tuple_of ?fk_c_is_tuple_of ?fk_kf_is_tuple_of ?fk_g_is_answer ?fk_l_is_answer ?fk_c_is_answer ?fk_kf_is_answer ?fk_g_is_indices ?fk_l_is_indices ?fk_c_is_indices ?fk_kf_is_indices ?fk_t_is_indices ?fk_r_is_indices ?fk_p_is_indices ?fk_g_is_row_within ?fk_l_is_row_within ?fk_c_is_row_within ?fk_kf_is_row_within ?fk_t_is_row_within ?fk_r_is_row_within ?fk_p_is_row_within ?fk_g_is_weights ?fk_l_is_weights ?fk_c_is_weights ?fk_kf_is_weights ?fk_g_is_mix ?fk_l_is_mix ?fk_c_is_mix ?fk_kf_is_mix ?fk_g_need_number ?fk_l_need_number ?fk_c_need_number ?fk_kf_need_number ?fk_g_need_small_prime ?fk_l_need_small_prime ?fk_c_need_small_prime ?fk_kf_need_small_prime ?fk_g_need_draw ?fk_l_need_draw ?fk_c_need_draw ?fk_kf_need_draw ?fk_g_parity ?fk_l_parity ?fk_c_parity ?fk_kf_parity ?fk_g_reduced ?fk_l_reduced ?fk_c_reduced ?fk_kf_reduced ?fk_g_lowest_row ?fk_l_lowest_row ?fk_c_lowest_row ?fk_kf_lowest_row ?fk_g__is_map ?fk_l__is_map ?fk_c__is_map ?fk_kf__is_map ?fk_g__need_maps ?fk_l__need_maps ?fk_c__need_maps ?fk_kf__need_maps ?fk_t__need_maps ?fk_r__need_maps ?fk_p__need_maps ?fk_g__meeting ?fk_l__meeting ?fk_c__meeting ?fk_kf__meeting ?fk_g_chance_of_meeting ?fk_l_chance_of_meeting ?fk_c_chance_of_meeting ?fk_kf_chance_of_meeting ?fk_g_mean_meeting ?fk_l_mean_meeting ?fk_c_mean_meeting ?fk_kf_mean_meeting ?fk_g__are_often ?fk_l__are_often ?fk_c__are_often ?fk_kf__are_often ?fk_g__often_pairs ?fk_l__often_pairs ?fk_c__often_pairs ?fk_kf__often_pairs ?fk_g_meets_answer ?fk_l_meets_answer ?fk_c_meets_answer ?fk_kf_meets_answer ?fk_g_is_meets_answer ?fk_l_is_meets_answer ?fk_c_is_meets_answer ?fk_kf_is_meets_answer ?fk_g_are_even ?fk_l_are_even ?fk_c_are_even ?fk_kf_are_even ?fk_g__spread_numbers ?fk_l__spread_numbers ?fk_c__spread_numbers ?fk_kf__spread_numbers ?fk_g_spread ?fk_l_spread ?fk_c_spread ?fk_kf_spread ?fk_g__need_maps_and_draw ?fk_l__need_maps_and_draw ?fk_c__need_maps_and_draw ?fk_kf__need_maps_and_draw ?fk_g__gaps ?fk_l__gaps ?fk_c__gaps ?fk_kf__gaps ?fk_g_leftover ?fk_l_leftover ?fk_c_leftover ?fk_kf_leftover ?fk_g_leftover_parts ?fk_l_leftover_parts ?fk_c_leftover_parts ?fk_kf_leftover_parts ?fk_g_mean_distance ?fk_l_mean_distance ?fk_c_mean_distance ?fk_kf_mean_distance ?fk_g_least_meeting ?fk_l_least_meeting ?fk_c_least_meeting ?fk_kf_least_meeting ?fk_g__need_bits ?fk_l__need_bits ?fk_c__need_bits ?fk_kf__need_bits ?fk_g__need_few ?fk_l__need_few ?fk_c__need_few ?fk_kf__need_few ?fk_g__linear ?fk_l__linear ?fk_c__linear ?fk_kf__linear ?fk_g_linear_maps ?fk_l_linear_maps ?fk_c_linear_maps ?fk_kf_linear_maps ?fk_g_affine_maps ?fk_l_affine_maps ?fk_c_affine_maps ?fk_kf_affine_maps ?fk_g_field_maps ?fk_l_field_maps ?fk_c_field_maps ?fk_kf_field_maps ?fk_g__law_vx_hat ?fk_l__law_vx_hat ?fk_c__law_vx_hat ?fk_kf__law_vx_hat ?fk_g__law_vx_up ?fk_l__law_vx_up ?fk_c__law_vx_up ?fk_kf__law_vx_up ?fk_g__law_met ?fk_l__law_met ?fk_c__law_met ?fk_kf__law_met ?fk_g__law_wrong ?fk_l__law_wrong ?fk_c__law_wrong ?fk_kf__law_wrong ?fk_g__law_meetings_right ?fk_l__law_meetings_right ?fk_c__law_meetings_right ?fk_kf__law_meetings_right ?fk_t__law_meetings_right ?fk_r__law_meetings_right ?fk_p__law_meetings_right ?fk_g__law_spreads_right ?fk_l__law_spreads_right ?fk_c__law_spreads_right ?fk_kf__law_spreads_right ?fk_t__law_spreads_right ?fk_r__law_spreads_right ?fk_p__law_spreads_right ?fk_g__law_made_right ?fk_l__law_made_right ?fk_c__law_made_right ?fk_kf__law_made_right ?fk_t__law_made_right ?fk_r__law_made_right ?fk_p__law_made_right ?fk_g_law ?fk_l_law ?fk_c_law ?fk_kf_law ?fk_z_isinstance ?fk_z_int ?fk_z_bool ?fk_z_tuple ?fk_z_len ?fk_z_all ?fk_z_min ?fk_z_sum ?fk_z_zip ?fk_z_abs ?fk_z_range ?fk_z_sorted ?fk_z_repr ?fk_z_max ?fk_cn__LEAST_POINTS ?fk_cn__MOST_POINTS ?fk_cn__MOST_VALUES ?fk_cn__MOST_MAPS ?fk_cn__MOST_BITS ?fk_cn__MOST_BITS_OF_VALUES ?fk_gt__SMALL_PRIMES ?fk_tk__SMALL_PRIMES ?fk_i_gcd ?fk_one
    (case fk_gc_InvalidNumber => k_is)
    (case fk_gc_InvalidDraw => k_is)
    (case fk_gc_InvalidMaps => k_is)
    (case fk_gc_TooMany => k_is)
    (case fk_kc_InvalidDraw => k_is)
    (case fk_qc_InvalidDraw => k_exc)
    (case fk_ec_InvalidDraw => k_is)
    (case fk_tc_InvalidDraw => k_is)
    (case fk_kc_InvalidMaps => k_is)
    (case fk_qc_InvalidMaps => k_exc)
    (case fk_ec_InvalidMaps => k_is)
    (case fk_tc_InvalidMaps => k_is)
    (case fk_gH => k_is)
    (case fk_hs => k_is)
    (case fk_hr => k_is)
    (case fk_hf => k_is)
    (case fk_xc_InvalidNumber => k_is)
    (case fk_sa_InvalidNumber => k_is)
    (case fk_ec_InvalidNumber => k_is)
    (case fk_tc_InvalidNumber => k_is)
    (case fk_kc_InvalidNumber => k_is)
    (case fk_nc_InvalidNumber => k_is)
    (case fk_ic_InvalidNumber => k_is)
    (case fk_ti_InvalidNumber => k_is)
    (case fk_li_InvalidNumber => k_is)
    (case fk_ci_InvalidNumber => k_is)
    (case fk_ki_InvalidNumber => k_is)
    (case fk_xc_TooMany => k_is)
    (case fk_sa_TooMany => k_is)
    (case fk_ec_TooMany => k_is)
    (case fk_tc_TooMany => k_is)
    (case fk_kc_TooMany => k_is)
    (case fk_nc_TooMany => k_is)
    (case fk_ic_TooMany => k_is)
    (case fk_ti_TooMany => k_is)
    (case fk_li_TooMany => k_is)
    (case fk_ci_TooMany => k_is)
    (case fk_ki_TooMany => k_is)
    (case fk_xf_InvalidNumber => kernel_rfl)
    (case fk_nf_InvalidNumber => kernel_rfl)
    (case fk_xf_TooMany => kernel_rfl)
    (case fk_nf_TooMany => kernel_rfl)
    (case fk_hx__law_met => kernel_rfl)
    (case fk_g_is_integer => k_is)
    (case fk_l_is_integer => k_is)
    (case fk_c_is_integer => k_is)
    (case fk_kf_is_integer => k_is)
    (case fk_g_is_between => k_is)
    (case fk_l_is_between => k_is)
    (case fk_c_is_between => k_is)
    (case fk_kf_is_between => k_is)
    (case fk_g_is_index => k_is)
    (case fk_l_is_index => k_is)
    (case fk_c_is_index => k_is)
    (case fk_kf_is_index => k_is)
    (case fk_g_is_tuple_of => k_is)
    (case fk_l_is_tuple_of => k_is)
    (case fk_c_is_tuple_of => k_is)
    (case fk_kf_is_tuple_of => k_is)
    (case fk_g_is_answer => k_is)
    (case fk_l_is_answer => k_is)
    (case fk_c_is_answer => k_is)
    (case fk_kf_is_answer => k_is)
    (case fk_g_is_indices => k_is)
    (case fk_l_is_indices => k_is)
    (case fk_c_is_indices => k_is)
    (case fk_kf_is_indices => k_is)
    (case fk_t_is_indices => kernel_rfl)
    (case fk_r_is_indices => kernel_rfl)
    (case fk_p_is_indices => kernel_rfl)
    (case fk_g_is_row_within => k_is)
    (case fk_l_is_row_within => k_is)
    (case fk_c_is_row_within => k_is)
    (case fk_kf_is_row_within => k_is)
    (case fk_t_is_row_within => kernel_rfl)
    (case fk_r_is_row_within => kernel_rfl)
    (case fk_p_is_row_within => kernel_rfl)
    (case fk_g_is_weights => k_is)
    (case fk_l_is_weights => k_is)
    (case fk_c_is_weights => k_is)
    (case fk_kf_is_weights => k_is)
    (case fk_g_is_mix => k_is)
    (case fk_l_is_mix => k_is)
    (case fk_c_is_mix => k_is)
    (case fk_kf_is_mix => k_is)
    (case fk_g_need_number => k_is)
    (case fk_l_need_number => k_is)
    (case fk_c_need_number => k_is)
    (case fk_kf_need_number => k_is)
    (case fk_g_need_small_prime => k_is)
    (case fk_l_need_small_prime => k_is)
    (case fk_c_need_small_prime => k_is)
    (case fk_kf_need_small_prime => k_is)
    (case fk_g_need_draw => k_is)
    (case fk_l_need_draw => k_is)
    (case fk_c_need_draw => k_is)
    (case fk_kf_need_draw => k_is)
    (case fk_g_parity => k_is)
    (case fk_l_parity => k_is)
    (case fk_c_parity => k_is)
    (case fk_kf_parity => k_is)
    (case fk_g_reduced => k_is)
    (case fk_l_reduced => k_is)
    (case fk_c_reduced => k_is)
    (case fk_kf_reduced => k_is)
    (case fk_g_lowest_row => k_is)
    (case fk_l_lowest_row => k_is)
    (case fk_c_lowest_row => k_is)
    (case fk_kf_lowest_row => k_is)
    (case fk_g__is_map => k_is)
    (case fk_l__is_map => k_is)
    (case fk_c__is_map => k_is)
    (case fk_kf__is_map => k_is)
    (case fk_g__need_maps => k_is)
    (case fk_l__need_maps => k_is)
    (case fk_c__need_maps => k_is)
    (case fk_kf__need_maps => k_is)
    (case fk_t__need_maps => kernel_rfl)
    (case fk_r__need_maps => kernel_rfl)
    (case fk_p__need_maps => kernel_rfl)
    (case fk_g__meeting => k_is)
    (case fk_l__meeting => k_is)
    (case fk_c__meeting => k_is)
    (case fk_kf__meeting => k_is)
    (case fk_g_chance_of_meeting => k_is)
    (case fk_l_chance_of_meeting => k_is)
    (case fk_c_chance_of_meeting => k_is)
    (case fk_kf_chance_of_meeting => k_is)
    (case fk_g_mean_meeting => k_is)
    (case fk_l_mean_meeting => k_is)
    (case fk_c_mean_meeting => k_is)
    (case fk_kf_mean_meeting => k_is)
    (case fk_g__are_often => k_is)
    (case fk_l__are_often => k_is)
    (case fk_c__are_often => k_is)
    (case fk_kf__are_often => k_is)
    (case fk_g__often_pairs => k_is)
    (case fk_l__often_pairs => k_is)
    (case fk_c__often_pairs => k_is)
    (case fk_kf__often_pairs => k_is)
    (case fk_g_meets_answer => k_is)
    (case fk_l_meets_answer => k_is)
    (case fk_c_meets_answer => k_is)
    (case fk_kf_meets_answer => k_is)
    (case fk_g_is_meets_answer => k_is)
    (case fk_l_is_meets_answer => k_is)
    (case fk_c_is_meets_answer => k_is)
    (case fk_kf_is_meets_answer => k_is)
    (case fk_g_are_even => k_is)
    (case fk_l_are_even => k_is)
    (case fk_c_are_even => k_is)
    (case fk_kf_are_even => k_is)
    (case fk_g__spread_numbers => k_is)
    (case fk_l__spread_numbers => k_is)
    (case fk_c__spread_numbers => k_is)
    (case fk_kf__spread_numbers => k_is)
    (case fk_g_spread => k_is)
    (case fk_l_spread => k_is)
    (case fk_c_spread => k_is)
    (case fk_kf_spread => k_is)
    (case fk_g__need_maps_and_draw => k_is)
    (case fk_l__need_maps_and_draw => k_is)
    (case fk_c__need_maps_and_draw => k_is)
    (case fk_kf__need_maps_and_draw => k_is)
    (case fk_g__gaps => k_is)
    (case fk_l__gaps => k_is)
    (case fk_c__gaps => k_is)
    (case fk_kf__gaps => k_is)
    (case fk_g_leftover => k_is)
    (case fk_l_leftover => k_is)
    (case fk_c_leftover => k_is)
    (case fk_kf_leftover => k_is)
    (case fk_g_leftover_parts => k_is)
    (case fk_l_leftover_parts => k_is)
    (case fk_c_leftover_parts => k_is)
    (case fk_kf_leftover_parts => k_is)
    (case fk_g_mean_distance => k_is)
    (case fk_l_mean_distance => k_is)
    (case fk_c_mean_distance => k_is)
    (case fk_kf_mean_distance => k_is)
    (case fk_g_least_meeting => k_is)
    (case fk_l_least_meeting => k_is)
    (case fk_c_least_meeting => k_is)
    (case fk_kf_least_meeting => k_is)
    (case fk_g__need_bits => k_is)
    (case fk_l__need_bits => k_is)
    (case fk_c__need_bits => k_is)
    (case fk_kf__need_bits => k_is)
    (case fk_g__need_few => k_is)
    (case fk_l__need_few => k_is)
    (case fk_c__need_few => k_is)
    (case fk_kf__need_few => k_is)
    (case fk_g__linear => k_is)
    (case fk_l__linear => k_is)
    (case fk_c__linear => k_is)
    (case fk_kf__linear => k_is)
    (case fk_g_linear_maps => k_is)
    (case fk_l_linear_maps => k_is)
    (case fk_c_linear_maps => k_is)
    (case fk_kf_linear_maps => k_is)
    (case fk_g_affine_maps => k_is)
    (case fk_l_affine_maps => k_is)
    (case fk_c_affine_maps => k_is)
    (case fk_kf_affine_maps => k_is)
    (case fk_g_field_maps => k_is)
    (case fk_l_field_maps => k_is)
    (case fk_c_field_maps => k_is)
    (case fk_kf_field_maps => k_is)
    (case fk_g__law_vx_hat => k_is)
    (case fk_l__law_vx_hat => k_is)
    (case fk_c__law_vx_hat => k_is)
    (case fk_kf__law_vx_hat => k_is)
    (case fk_g__law_vx_up => k_is)
    (case fk_l__law_vx_up => k_is)
    (case fk_c__law_vx_up => k_is)
    (case fk_kf__law_vx_up => k_is)
    (case fk_g__law_met => k_is)
    (case fk_l__law_met => k_is)
    (case fk_c__law_met => k_is)
    (case fk_kf__law_met => k_is)
    (case fk_g__law_wrong => k_is)
    (case fk_l__law_wrong => k_is)
    (case fk_c__law_wrong => k_is)
    (case fk_kf__law_wrong => k_is)
    (case fk_g__law_meetings_right => k_is)
    (case fk_l__law_meetings_right => k_is)
    (case fk_c__law_meetings_right => k_is)
    (case fk_kf__law_meetings_right => k_is)
    (case fk_t__law_meetings_right => kernel_rfl)
    (case fk_r__law_meetings_right => kernel_rfl)
    (case fk_p__law_meetings_right => kernel_rfl)
    (case fk_g__law_spreads_right => k_is)
    (case fk_l__law_spreads_right => k_is)
    (case fk_c__law_spreads_right => k_is)
    (case fk_kf__law_spreads_right => k_is)
    (case fk_t__law_spreads_right => kernel_rfl)
    (case fk_r__law_spreads_right => kernel_rfl)
    (case fk_p__law_spreads_right => kernel_rfl)
    (case fk_g__law_made_right => k_is)
    (case fk_l__law_made_right => k_is)
    (case fk_c__law_made_right => k_is)
    (case fk_kf__law_made_right => k_is)
    (case fk_t__law_made_right => kernel_rfl)
    (case fk_r__law_made_right => kernel_rfl)
    (case fk_p__law_made_right => kernel_rfl)
    (case fk_g_law => k_is)
    (case fk_l_law => k_is)
    (case fk_c_law => k_is)
    (case fk_kf_law => k_is)
    (case fk_z_isinstance => k_is)
    (case fk_z_int => k_is)
    (case fk_z_bool => k_is)
    (case fk_z_tuple => k_is)
    (case fk_z_len => k_is)
    (case fk_z_all => k_is)
    (case fk_z_min => k_is)
    (case fk_z_sum => k_is)
    (case fk_z_zip => k_is)
    (case fk_z_abs => k_is)
    (case fk_z_range => k_is)
    (case fk_z_sorted => k_is)
    (case fk_z_repr => k_is)
    (case fk_z_max => k_is)
    (case fk_cn__LEAST_POINTS => k_is)
    (case fk_cn__MOST_POINTS => k_is)
    (case fk_cn__MOST_VALUES => k_is)
    (case fk_cn__MOST_MAPS => k_is)
    (case fk_cn__MOST_BITS => k_is)
    (case fk_cn__MOST_BITS_OF_VALUES => k_is)
    (case fk_gt__SMALL_PRIMES => k_is)
    (case fk_tk__SMALL_PRIMES => kernel_rfl)
    (case fk_i_gcd => k_is)
    (case fk_one => kernel_rfl)
