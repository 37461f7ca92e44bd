import PyProof.Rows.All
import Wide.All
import OpenK.AllK
import Wide.FinOn
import HandS.Base
import HandS.Call
import HandS.List
import HandS.Exc
import HandS.ExcOwn
import HandS.ExcInit
import HandS.ExcIs
import HandS.ExcField
import HandS.ExcValue
import HandS.IsInst
import HandS.Wide
import HandS.Comp
import HandS.Ends
import HandS.Words
import HandS.Iter
import HandS.Text
import HandS.Lambda
import HandS.Nested
import HandS.CallLocal
import HandS.Evl
import HandS.AnyAll
import HandS.WideBits
import HandS.Zip
import HandS.TupAny
import HandS.TupMul
import HandS.Gcd
import KE.GoesEnum
import HandS.GenList
import PyProof.GenArm
import HandS.TryMany
import HandS.DeepEq
import KE.DataMinMax
import HandS.MapSum
import HandS.Style
import HandS.Deep
import HandS.EndTab
import KE.KNest
import HandS.TupSets
import HandS.SortInts
import Wide.Txt2
import HandS.SetFor
import HandS.TryOnly
import HandS.Star
import HandS.SortOrd
import HandS.SortRule
import HandS.DictTup
import KE.KDictDisplayH
import HandS.Dict
import HandS.Conv
import PySem.Challenge.RW_hardbits_k69_errors_of_longer_words
section
set_option Elab.async false
set_option linter.all false
set_option maxRecDepth 100000
set_option maxHeartbeats 2000000
/-! Exceptions of own classes as values: made, asked for their class, their fields read. -/
namespace PySem.W
open PySem PySem.Spec PySem.Calls PyProof.Rows
section
variable {prog : Program} {w : World} {A : Around} {E : Value → Shared → Prop} {s : Shared} {K : Frag} {x D : Addr} {ox : Obj} {od : Option Obj}
end
end PySem.W

namespace L2
open PySem PySem.Spec PyProof.Rows
section
variable {X : Cx}
/-- at a: an exception of the class at D: one made plainly, or one with its own dict -/
def IsEx (H : Hp) (a D : Addr) : Prop := H a = some (ExO (.ref D) a) ∨ ∃ d fs, H a = some (exo a D (some d)) ∧ H d = some (exd d fs)
/-- isinstance(e, c), e a tracked exception -/
def rIsX (K : PySem.W.Frag) : List V → Hp → VK → Prop := fun xs H Q => ∃ (a D : Addr) (c : V) (cv : Value) (b : Bool), xs = [.ref a, c] ∧ IsEx H a D ∧ ExcC K D ∧ (∀ u, RelV c u → u = cv) ∧ PySem.W.kitOne K (.ref D) cv = some b ∧ Q (.bl b) H
/-- e.n, e a tracked exception with its own dict -/
def tXv (K : PySem.W.Frag) (f : Str) (te : TE) : TE := fun σ H Q => te σ H fun x H1 => ∃ (a C dd : Addr) (fs : List (Str × V)) (v : V), x = .ref a ∧ XfC K C ∧ PySem.W.findIn K (.ref C) f = some none ∧ H1 a = some (exo a C (some dd)) ∧ H1 dd = some (exd dd fs) ∧ fs.lookup f = some v ∧ Q v H1
/-- B.__init__(self, ..), B an own class above that has no __init__ of its own -/
theorem pe_hinit {x : Str} {B : Addr} {e : Expr} {es : List Expr} {ta : TA} {p1 p2 pos : Pos} {pl : Sem Bool} (hg : Gl X x) (hm : X.mg x = some (.ref B))
    (hr : PySem.W.specialIn X.K (.ref B) "__getattribute__" = some (some (.builtin "type.__getattribute__"))) (rd : PySem.W.readsIn X.K B (.type "type") = true)
    (vV : PySem.W.findCls X.K (.ref B) (.type "type") "__init__" = some (.val (.builtin "ValueError.__init__"))) (ha : PA X (e :: es) ta)
    (hdb : (x == ("__debug__" : Str)) = false := by decide)
    (hc : eval (.Call (.Attribute (.Name x p1) "__init__" p2) (e :: es) [] pos) X.env = (do
      let ov ← eval (.Name x p1) X.env
      standAt p2.atName
      let (f, first) ← holding [ov] (getMethod ov "__init__" pl)
      callWith pos f first (backTo pos (starEach (e :: es) X.env)) (backToKw pos (keywordEach [] X.env))) := by rfl)
    (he : starEach (e :: es) X.env = (false, eval e X.env) :: starEach es X.env := by rfl) (hpl : (backTo pos (starEach es X.env)).any (·.1) = false := by rfl) :
    PE X (.Call (.Attribute (.Name x p1) "__init__" p2) (e :: es) [] pos) (tVeI X.K ta) := by
  refine ⟨fun pins s σ H Q I h => ?_⟩
  refine PySem.W.methodCall_KW (ld_glob I hg hm ?_ hdb) hc
  refine PySem.W.method_cls I.kIn hr ?_
  refine PySem.W.cls_value I.kIn rd vV (by decide +kernel) ?_
  show wpAny _ _ (callWith pos (Value.builtin "ValueError.__init__") [] (backTo pos (starEach (e :: es) X.env)) []) _ _ _
  refine PyProof.Rows.callWith_method1 (thn (ha.run pos pins _ σ H _ (I.tok _) h) fun us s1 ⟨vs, H1, I1, r1, a, C, ws, ev, hl, T, ea, q⟩ => ?_) he hpl
  subst ev
  cases r1 with
  | @cons _ u0 _ ur ra rw' =>
    obtain rfl : u0 = Value.ref a := ra
    have hlen : ur.length ≤ sizeLine := by
      rw [← Paired.length rw', sizeLine_eq]
      omega
    exact oinit_ok T I1 ea hlen fun s' J => ⟨.non, H1, J, rfl, q⟩

/-- C(e, ..), C's own __init__ keeping sp, as a value -/
def tMkV (C : Addr) (sp : Sp) (dvs : List V) (ta : TA) : TE := fun σ H Q => ta σ H fun vs H1 => vs.length ≤ 1000 ∧ ∀ a, H1 a = none → sp (.ref a :: (vs ++ dvs)) (upd H1 a (exo a C none))
  (fun v H2 => v = .non ∧ H2 a ≠ none ∧ Q (.ref a) H2) (fun _ _ _ => False)
end
end L2
end
section
set_option Elab.async false
set_option linter.all false
set_option maxRecDepth 100000
set_option maxHeartbeats 2000000
/-! Defs called where no guard stands (so that repr is told), powers, repr of data. -/
namespace L2
open PySem PySem.Spec PyProof.Rows
def CPowB (i j : Int) : Prop := 0 ≤ j ∧ (PySem.Builtin.Int.intBits i : Int) * j ≤ 2 ^ 27
theorem op_powB {X : Cx} : OpR X (binaryOp .Pow) (rI CPowB fun i j => .int (i ^ j.toNat)) := opI fun _ _ _ _ _ _ _ hc q => pow_int hc.1 hc.2 q

/-- a datum that repr tells: as Dp, an empty dict too -/
inductive Dq (K : PySem.W.Frag) (H : Hp) : V → PyData → Prop
  | of {v : V} {d : PyData} (h : Dp K H v d) : Dq K H v d
  | dict {a : Addr} (h : H a = some (.dK [])) : Dq K H (.ref a) (.dict [])
theorem Dp.noDict {K : PySem.W.Frag} {H : Hp} : ∀ {v : V} {d : PyData}, Dp K H v d → d.hasDict = false := by
  have one : ∀ (d : PyData) (v : V), Dp K H v d → d.hasDict = false := fun d =>
    PyData.rec (motive_1 := fun d => ∀ v, Dp K H v d → d.hasDict = false) (motive_2 := fun ds => ∀ vs, DpAll K H vs ds → PyData.hasDictAll ds = false) (motive_3 := fun _ => True) (motive_4 := fun _ => True)
      (fun _ _ => by simp [PyData.hasDict]) (fun _ _ _ => by simp [PyData.hasDict]) (fun _ _ _ => by simp [PyData.hasDict]) (fun _ _ _ => by simp [PyData.hasDict])
      (fun ds ih v h => by cases h with | lst hs ha => simpa [PyData.hasDict] using ih _ ha)
      (fun ds ih v h => by cases h with | tup hs ha => simpa [PyData.hasDict] using ih _ ha)
      (fun _ _ v h => by cases h)
      (fun _ _ => by simp [PyData.hasDictAll])
      (fun d ds ih ihs vs h => by
        cases h with
        | cons h1 h2 => simp [PyData.hasDictAll, ih _ h1, ihs _ h2])
      trivial (fun _ _ _ _ => trivial) (fun _ _ _ _ => trivial) d
  exact fun {v d} h => one d v h
section
variable {X : Cx}
/-- repr(x) -/
def rRepr (K : PySem.W.Frag) : List V → Hp → VK → Prop := fun xs H Q => ∃ (x : V) (d : PyData), xs = [x] ∧ Dq K H x d ∧ d.showable = true ∧ d.depth ≤ 60 ∧ d.shown.length ≤ sizeLine ∧ Q (.str d.shown) H
theorem call_reprD (hg : X.A.guards = some []) (hu : X.A.units + 64 < cLine) : CallR X (.builtin "repr") (rRepr X.K) := by
  intro pins s σ H xs us Q I r h
  obtain ⟨x, d, rfl, hd, hs, hdp, hz, q⟩ := h
  obtain ⟨u, rfl, ru⟩ := vals1 r
  have fin : ∀ h' t tk, (∀ b o, s.heap.get? b = some o → h'.get? b = some o) → EP X pins σ Q (.str d.shown t) { s with heap := h', toks := tk } := fun h' t tk k =>
    ⟨.str d.shown, H, I.kept k, ⟨_, rfl⟩, q⟩
  have isref : ∀ (a : Addr) (as : List Addr), u = .ref a → Reads s.heap (.ref a) d as → (d.hasDict = true → sysModules ∉ as) → wpAny (model X.prog X.w) X.A (call (.builtin "repr") [u]) (EP X pins σ Q) X.xe s := fun a as e rr hm => by
    subst e
    exact repr_of_reads' rr hs hm hg (by omega) (fun _ _ e => e) fin hz
  cases hd with
  | of hd =>
    obtain ⟨as, rr⟩ := Dp.reads I d x u hd ru
    have nd := hd.noDict
    cases hd with
    | non => cases ru; exact PySem.P.repr_of_none (fin _ _ _ fun _ _ e => e)
    | bl b => cases ru; exact PySem.P.repr_of_bool (by cases b <;> exact fin _ _ _ fun _ _ e => e)
    | int i =>
      obtain ⟨t, rfl⟩ := ru
      exact PySem.P.repr_of_int (by simpa [PyData.showable] using hs) (fin _ _ _ fun _ _ e => e)
    | str z => obtain ⟨t, rfl⟩ := ru; exact PySem.P.repr_of_str (fin _ _ _ fun _ _ e => e) hz
    | lst h1 h2 => exact isref _ as ru (by cases ru; exact rr) (PyData.noDict_hsm nd)
    | tup h1 h2 => exact isref _ as ru (by cases ru; exact rr) (PyData.noDict_hsm nd)
  | @dict a ha =>
    obtain ⟨_, hne, vs, hkv, hdo⟩ := I.hok a _ ha
    cases hkv
    obtain ⟨o, es, ep, ho, hx, hdt, _, hps, _⟩ := hdo
    have hes' : es.toList = [] := List.eq_nil_of_length_eq_zero hps.length
    have rr : Reads s.heap (.ref a) (.dict []) (a :: [] ++ []) := Reads.dict (es := es) (n := ep) (as := []) (bs := []) ho hx.1 hdt (by rw [hes']; exact .nil) (by rw [hes']; exact .nil)
    refine isref a _ ru rr fun _ hm => ?_
    have : sysModules = a := by simpa using hm
    subst this
    simp at hne
end
section
variable {P : Program} {w : World} {K : PySem.W.Frag} {mg : Str → Option Value} {base : Heap}
/-- as FnOk, where no guard stands at the call -/
structure FnG (P : Program) (w : World) (K : PySem.W.Frag) (mg : Str → Option Value) (base : Heap) (CX : CXT) (k : Nat) (f : Addr) (fd : FuncData) (ps : List Str) (sp : Sp) : Prop where
  len : ∀ vs H Q E, sp vs H Q E → vs.length = ps.length
  run : ∀ (A : Around) (outer : List Env) (s : Shared) (H : Hp) (args : Args) (us : List Value) (vs : List V) (Q : VK) (E : XK), A.guards = some [] → Room k A → Env0 P w K mg base A outer s H →
    BindsTo s fd args (ps.zip us) → Vals vs us → sp vs H Q E → codeAny (model P w) A (.call (.ref f) args) (CR CX outer P w H s Q E) s
/-- THE RULE for a def at one call: its body's term and reading at that call's around -/
theorem body_run {CX : CXT} {k : Nat} {f : Addr} {x qual : Str} {st : Stmt} {fd : FuncData} {N ps : List Str} (F : Fun K x qual st f fd) (S : FnScope N ps (defScope st)) {A : Around} {outer : List Env} {s : Shared} {H : Hp} {args : Args} {us : List Value} {vs : List V} {Q : VK} {E : XK}
    (hl : vs.length = ps.length) (hr : Room (k + 1) A) (e0 : Env0 P w K mg base A outer s H) (hb : BindsTo s fd args (ps.zip us)) (r : Vals vs us)
    (hbody : ∀ cdv : Value, Room k (A.deeper (envOfC qual (defScope st) s.heap.objs.size f cdv)) →
      ∃ t, PSs (cxOf CX P w K mg base N qual (defScope st) f cdv A outer s H E) (defBody st) t ∧ t { nx := fun _ H' => Q .non H', rt := Q } (start N vs) H) :
    codeAny (model P w) A (.call (.ref f) args) (CR CX outer P w H s Q E) s := by
  obtain ⟨oc, od, kV, doc, pm, an, cdv, ct, osl, rfl, lk, hcd⟩ := F.ex
  have KX : K.In s.heap := e0.mod.kin.keeps fun b o e => (e0.bs b o e).1
  refine codeAny_call_function hr.depth (KX _ _ lk) rfl S.co S.gen rfl (PySem.W.codeRec_of KX hcd) (hb _ _ _ _ ?_)
  refine wpAny_newFunctionEnv_cells S.kind (fun y hy => ?_) fun env he s1 z => ?_
  · rcases S.par y.1 (List.of_mem_zip hy).1 with q | q
    · exact .inl q
    · exact .inr ⟨q, PySem.W.cellsFrom_some _ _ _ (.inl q)⟩
  subst he
  have lim : s.heap.NoLimit := e0.mod.nolimit.keeps fun b o e => (e0.bs b o e).1
  refine ⟨lim.keeps z.toInCall.keep, codeAny_func ?_⟩
  obtain ⟨t, ht, hq⟩ := hbody cdv (hr.deeper _)
  have I := inv_start (CX := CX) (N := N) (E := E) S hr.hd e0 hl r z
  refine wpAny_mono (ht.run [] s1 (start N vs) H _ I hq) (fun fl s' hs => ?_) fun e s' hs => hs
  cases fl with
  | ret u => obtain ⟨v, _, H', J, rv, q⟩ := hs; exact ⟨v, H', J.os, J.bare, J.base, J.hok, rv, q⟩
  | next => obtain ⟨_, H', J, q⟩ := hs; exact ⟨.non, H', J.os, J.bare, J.base, J.hok, rfl, q⟩
  | brk => obtain ⟨_, _, _, q⟩ := hs; exact q.elim
  | cont => obtain ⟨_, _, _, q⟩ := hs; exact q.elim
theorem Fun.okG {k : Nat} {f : Addr} {x qual : Str} {st : Stmt} {fd : FuncData} {N ps : List Str} {sp : Sp} (F : Fun K x qual st f fd) (S : FnScope N ps (defScope st)) (len : ∀ vs H Q E, sp vs H Q E → vs.length = ps.length)
    (hbody : ∀ (cdv : Value) (A : Around) (outer : List Env) (s : Shared) (H : Hp) (vs : List V) (Q : VK) (E : XK), (A.deeper (envOfC qual (defScope st) s.heap.objs.size f cdv)).guards = some [] → Room k (A.deeper (envOfC qual (defScope st) s.heap.objs.size f cdv)) → sp vs H Q E →
      ∃ t, PSs (cxOf CX0 P w K mg base N qual (defScope st) f cdv A outer s H E).nox (defBody st) t ∧ t { nx := fun _ H' => Q .non H', rt := Q } (start N vs) H) : FnG P w K mg base CX0 (k + 1) f fd ps sp :=
  ⟨len, fun A outer s H args us vs Q E hg hr e0 hb r hsp => body_run F S (len _ _ _ _ hsp) hr e0 hb r fun cdv hr' => by
    obtain ⟨t, h, q⟩ := hbody cdv A outer s H vs Q E hg hr' hsp
    exact ⟨t, h.nox, q⟩⟩
end
end L2
end
section
set_option Elab.async false
set_option linter.all false
set_option maxRecDepth 100000
set_option maxHeartbeats 2000000
/-! Readings that a rewriter can reckon: what stands at an address is told by functions. -/
namespace HbE
open PySem PySem.Spec PyProof.Rows L2

/-- a list or a tuple that stands at an address: which of both, its items -/
def lk (H : Hp) (a : Addr) : Option (Bool × List V) := match H a with
  | some (.lst xs) => some (true, xs)
  | some (.tup xs) => some (false, xs)
  | some (.frz _ (.lst xs)) => some (true, xs)
  | some (.frz _ (.tup xs)) => some (false, xs)
  | _ => none
theorem lk_seq {K : PySem.W.Frag} {H : Hp} {a : Addr} {b : Bool} {xs : List V} (h : lk H a = some (b, xs)) : (b = true ∧ SqL K H a xs) ∨ (b = false ∧ SqT K H a xs) := by
  unfold lk at h
  split at h
  · rename_i e; cases h; exact .inl ⟨rfl, .inl (.inl e)⟩
  · rename_i e; cases h; exact .inr ⟨rfl, .inl (.inl e)⟩
  · rename_i e; cases h; exact .inl ⟨rfl, .inl (.inr ⟨_, e⟩)⟩
  · rename_i e; cases h; exact .inr ⟨rfl, .inl (.inr ⟨_, e⟩)⟩
  · cases h
theorem lk_lst {H : Hp} {a : Addr} {xs : List V} (h : H a = some (.lst xs)) : lk H a = some (true, xs) := by unfold lk; rw [h]
theorem lk_tup {H : Hp} {a : Addr} {xs : List V} (h : H a = some (.tup xs)) : lk H a = some (false, xs) := by unfold lk; rw [h]

/-- the items of the list or tuple at an address -/
def sq (H : Hp) (a : Addr) : Option (List V) := (lk H a).map (·.2)
theorem sq_lk {H : Hp} {a : Addr} {xs : List V} (h : sq H a = some xs) : ∃ b, lk H a = some (b, xs) := by
  obtain ⟨⟨b, ys⟩, h1, h2⟩ := Option.map_eq_some_iff.mp h
  cases h2
  exact ⟨b, h1⟩
theorem sq_of {H : Hp} {a : Addr} {b : Bool} {xs : List V} (h : lk H a = some (b, xs)) : sq H a = some xs := by unfold sq; rw [h]; rfl
theorem sq_lst {H : Hp} {a : Addr} {xs : List V} (h : H a = some (.lst xs)) : sq H a = some xs := sq_of (lk_lst h)
theorem lk_updL {H : Hp} {a : Addr} {xs : List V} : lk (upd H a (.lst xs)) a = some (true, xs) := lk_lst upd_same
theorem lk_updT {H : Hp} {a : Addr} {xs : List V} : lk (upd H a (.tup xs)) a = some (false, xs) := lk_tup upd_same
theorem sq_updL {H : Hp} {a : Addr} {xs : List V} : sq (upd H a (.lst xs)) a = some xs := sq_of lk_updL
theorem sq_updT {H : Hp} {a : Addr} {xs : List V} : sq (upd H a (.tup xs)) a = some xs := sq_of lk_updT
/-- x[i] of a list or tuple -/
def rIxA : R2 := fun x y H Q => ∃ p i xs v, x = .ref p ∧ y = .int i ∧ sq H p = some xs ∧ atI xs i = some v ∧ Q v H
theorem ix_any {X : Cx} : IxR X rIxA := by
  intro value slice pins s σ H x y v u Q I rx ry h hs
  obtain ⟨p, i, xs, z, ex, ey, e, ha, q⟩ := h
  obtain ⟨b, e⟩ := sq_lk e
  rcases lk_seq (K := X.K) e with ⟨_, hl⟩ | ⟨_, ht⟩
  · exact ix_list value slice pins s σ H x y v u Q I rx ry ⟨p, xs, i, z, ex, ey, hl, ha, q⟩ hs
  · exact ix_tup value slice pins s σ H x y v u Q I rx ry ⟨p, xs, i, z, ex, ey, ht, ha, q⟩ hs

/-- x + y: ints, texts, lists (tracked) -/
def rAddA : R2 := fun x y H Q => match x, y with
  | .int i, .int j => Q (.int (i + j)) H
  | .str a, .str b => a.length + b.length ≤ sizeLine ∧ Q (.str (a ++ b)) H
  | .ref l, .ref b => ∃ xs zs, H l = some (.lst xs) ∧ H b = some (.lst zs) ∧ xs.length + zs.length ≤ sizeLine ∧ ∀ p, H p = none → Q (.ref p) (upd H p (.lst (xs ++ zs)))
  | _, _ => False
theorem op_addA {X : Cx} : OpR X (binaryOp .Add) rAddA := by
  intro pins s σ H x y v u Q I rx ry h
  unfold rAddA at h
  split at h
  · exact op_add pins s σ H _ _ v u Q I rx ry ⟨_, _, rfl, rfl, h⟩
  · exact op_add_str pins s σ H _ _ v u Q I rx ry ⟨_, _, rfl, rfl, h.1, h.2⟩
  · obtain ⟨xs, zs, h1, h2, h3, h4⟩ := h
    exact op_cat pins s σ H _ _ v u Q I rx ry ⟨_, _, xs, zs, rfl, rfl, h1, h2, h3, h4⟩
  · exact h.elim

def allO {α β : Type} (f : α → Option β) : List α → Option (List β)
  | [] => some []
  | x :: xs => match f x, allO f xs with
    | some y, some ys => some (y :: ys)
    | _, _ => none
/-- what a value is as a datum, to a depth -/
def datN : Nat → Hp → V → Option PyData
  | _, _, .non => some .none
  | _, _, .bl b => some (.bool b)
  | _, _, .int i => some (.int i)
  | _, _, .str x => some (.str x)
  | 0, _, _ => none
  | n + 1, H, .ref a => match lk H a with
    | some (true, xs) => (allO (datN n H) xs).map .list
    | some (false, xs) => (allO (datN n H) xs).map .tuple
    | none => none
  | _, _, _ => none
/-- == and != -/
def rEqA (neg : Bool) : R2 := fun x y H Q => if scal x y = true then Q (.bl (neg ^^ decide (x = y))) H else
  ∃ d e, datN 8 H x = some d ∧ datN 8 H y = some e ∧ SeqAt.shaped d = true ∧ SeqAt.shaped e = true ∧ Q (.bl (neg ^^ PyData.eqv d e)) H
/-- len -/
def rLenA : List V → Hp → VK → Prop := fun vs H Q => ∃ p xs, vs = [.ref p] ∧ sq H p = some xs ∧ Q (.int xs.length) H
/-- int, of an int or a bool -/
def rIntA : List V → Hp → VK → Prop := fun vs H Q => match vs with
  | [.int i] => Q (.int i) H
  | [.bl k] => Q (.int (if k then 1 else 0)) H
  | _ => False
theorem call_intA {X : Cx} : CallR X (.type "int") rIntA := by
  intro pins s σ H xs us Q I r h
  unfold rIntA at h
  split at h
  · exact call_int1 pins s σ H _ us Q I r (.inl ⟨_, rfl, h⟩)
  · exact call_int1 pins s σ H _ us Q I r (.inr ⟨_, rfl, h⟩)
  · exact h.elim
/-- a value's truth -/
def rTruA : V → Hp → (Bool → Hp → Prop) → Prop := fun x H Q => match x with
  | .non => Q false H
  | .bl b => Q b H
  | .int i => Q (i != 0) H
  | .ref p => ∃ xs, sq H p = some xs ∧ Q (!xs.isEmpty) H
  | _ => False
/-- o[i] = v in a tracked list -/
def rSetA : TSet := fun o i v H Q => ∃ p k xs j, o = .ref p ∧ i = .int k ∧ H p = some (.lst xs) ∧ ixN xs.length k = some j ∧ Q (upd H p (.lst (xs.set j v)))
theorem set_A {X : Cx} : PSet X rSetA := by
  intro pins s σ H o i v ov iv u Q I ro ri rv h
  obtain ⟨p, k, xs, j, e1, e2, e3, e4, q⟩ := h
  exact set_list pins s σ H o i v ov iv u Q I ro ri rv ⟨p, xs, k, j, e1, e2, e3, e4, q⟩
end HbE
end
section
set_option Elab.async false
set_option linter.all false
set_option maxRecDepth 100000
set_option maxHeartbeats 2000000
/-! Lambdas with parameters, that capture nothing: made, kept, called. -/
namespace LmV
open PySem PySem.Spec PyProof.Rows L2 LamX NdefX
/-- a lambda's words -/
structure LamW where
  qual : Str
  params : Arguments
  body : PySem.Expr
  scope : Scope
/-- a program's lambdas, by key -/
class LamTable where
  tab : Str → LamW
def LamW.nf (L : LamW) (c : Addr) : NF := ⟨"<lambda>", L.qual, L.params, [], L.scope, [], c⟩
def LamO (f c : Addr) (L : LamW) : HO := .ext fun h => ∃ (od : Option Addr) (sl : Array (Option Value)) (pm ctv : Value), h.get? f = some (⟨.type "function", od, .func (PySem.W.kla_fn "<lambda>" L.qual L.params L.body L.scope [] pm (.ref c) ctv), sl⟩ : Obj)
theorem lamO_at {P : Program} {w : World} {H : Hp} {h : Heap} {f c : Addr} {L : LamW} (hok : HOk P w H h) (e : H f = some (LamO f c L)) : ∃ (od : Option Addr) (sl : Array (Option Value)) (pm ctv : Value), h.get? f = some (⟨.type "function", od, .func (PySem.W.kla_fn "<lambda>" L.qual L.params L.body L.scope [] pm (.ref c) ctv), sl⟩ : Obj) := by
  obtain ⟨z, _, _⟩ := hok f _ e
  exact z
/-- what calling it comes to -/
structure LOk (P : Program) (w : World) (K : PySem.W.Frag) (mg : Str → Option Value) (base : Heap) (CX : CXT) (k : Nat) (L : LamW) (ps : List Str) (sp : Sp) : Prop where
  len : ∀ vs H Q E, sp vs H Q E → vs.length = ps.length
  run : ∀ (f c : Addr) (A : Around) (outer : List Env) (s : Shared) (H : Hp) (us : List Value) (vs : List V) (Q : VK) (E : XK), Room k A → Env0 P w K mg base A outer s H → H f = some (LamO f c L) → H c = some (CodeO c L.qual) →
    Vals vs us → sp vs H Q E → codeAny (model P w) A (.call (.ref f) ⟨us, []⟩) (CR CX outer P w H s Q E) s
section
variable {CX : CXT} {P : Program} {w : World} {K : PySem.W.Frag} {mg : Str → Option Value} {base : Heap} {N ps : List Str} {L : LamW} {k j : Nat} {sp sp' : Sp}
theorem lok_of (S : NScope N ps [] L.scope) (hb : ∀ (c : Addr) (pm ctv : Value) (us : List Value), us.length = ps.length → bindArgs (PySem.W.kla_fn "<lambda>" L.qual L.params L.body L.scope [] pm (.ref c) ctv) ⟨us, []⟩ = pure (ps.zip us)) (len : ∀ vs H Q E, sp vs H Q E → vs.length = ps.length)
    (hbody : ∀ (f c : Addr) (A : Around) (outer : List Env) (s : Shared) (H : Hp) (vs : List V) (Q : VK) (E : XK), Room k (A.deeper (envF (L.nf c) f s.heap.objs.size)) → sp vs H Q E →
      ∃ t : TE, PE (ncx CX P w K mg base N (L.nf c) f A outer s H E) L.body t ∧ t (startF N vs []) H Q) :
    LOk P w K mg base CX (k + 1) L ps sp := by
  refine ⟨len, fun f c A outer s H us vs Q E hr e0 hf hc r hsp => ?_⟩
  have hl := len _ _ _ _ hsp
  have lim : s.heap.NoLimit := e0.mod.nolimit.keeps fun b o e => (e0.bs b o e).1
  obtain ⟨od, sl, pm, ctv, ho⟩ := lamO_at e0.hok hf
  have C : CellsAt (L.nf c).cl [] [] s.heap H := ⟨rfl, fun y c e => (by cases e), fun x y c e => (by cases e), fun i y e => (by simp at e)⟩
  refine PySem.W.kla_callFunE hr.depth ho rfl S.co S.gen rfl (codeO_at e0.hok hc) ?_
  rw [hb c pm ctv us (by rw [← r.length]; exact hl)]
  refine wpAny_pure (wpAny_newFunctionEnv S.nocell (fun ⟨n, _⟩ hy => S.par n (List.of_mem_zip hy).1) (fun h₁ hns hsb => ⟨lim.fresh _ hsb, ?_⟩) S.kind)
  show codeAny _ _ (.expr L.body (envF (L.nf c) f s.heap.objs.size)) _ _
  refine PySem.W.kla_codeExpr ?_
  have kp : ∀ b o, s.heap.get? b = some o → h₁.get? b = some o := fun b o e => hsb.extBut b o (Nat.ne_of_lt (Heap.lt_size e)) (Heap.get?_push_of_some _ e)
  obtain ⟨t, ht, hq⟩ := hbody f c A outer s H vs Q E (hr.deeper _) hsp
  have I : Inv (ncx CX P w K mg base N (L.nf c) f A outer s H E) [] (startF N vs []) H { s with heap := h₁, toks := s.toks + (ps.zip us).length } := inv_startN S hr.hd e0 hl r C hns kp
  refine wpAny_mono (ht.run [] _ (startF N vs []) H _ I hq) (fun u s' hs => ?_) fun e s' hs => hs
  obtain ⟨v, H', J, rv, q⟩ := hs
  exact ⟨v, H', J.os, J.bare, J.base, J.hok, rv, q⟩
end
/-- a new lambda is known from now on -/
theorem inv_lam {X : Cx} {pins : List (Addr × Obj)} {σ : L2.St} {H : Hp} {s : Shared} {h' : Heap} {t' : Nat} {L : LamW} {c : Addr} {pm ctv : Value} (I : Inv X pins σ H s) (k : ∀ b u, s.heap.get? b = some u → h'.get? b = some u) (hp : s.heap.objs.size ≤ h'.objs.size) :
    Inv X pins σ (upd H h'.objs.size (LamO h'.objs.size c L)) { s with heap := h'.push (PySem.W.kla_obj "<lambda>" L.qual L.params L.body L.scope [] pm c ctv), toks := t' } := by
  refine I.laid (a := h'.objs.size) (fun b u e => Heap.get?_push_of_some _ (k b u e)) hp ?_
  have e : (h'.push (PySem.W.kla_obj "<lambda>" L.qual L.params L.body L.scope [] pm c ctv)).get? h'.objs.size = some (PySem.W.kla_obj "<lambda>" L.qual L.params L.body L.scope [] pm c ctv) := Heap.get?_push_size _ rfl
  exact ⟨⟨_, _, pm, ctv, e⟩, ⟨_, e⟩, fun h1 h2 ⟨od, sl, p, t, z⟩ st => ⟨od, sl, p, t, st _ z⟩⟩
theorem inv_lam0 {X : Cx} {pins : List (Addr × Obj)} {σ : L2.St} {H : Hp} {s : Shared} {h' : Heap} {tk : Nat} {L : LamW} {c : Addr} {pm ctv : Value} (I : Inv X pins σ H { s with heap := h', toks := tk }) :
    Inv X pins σ (upd H h'.objs.size (LamO h'.objs.size c L)) { s with heap := h'.push (PySem.W.kla_obj "<lambda>" L.qual L.params L.body L.scope [] pm c ctv), toks := tk } :=
  inv_lam (s := { s with heap := h', toks := tk }) (t' := tk) I (fun _ _ e => e) (Nat.le_refl _)
/-- the reading of a lambda with parameters -/
def tLamV (P : Addr) (L : LamW) : TE := fun _ H Q => TabS H P L.qual ∧ ∀ f c' H1, ExtN H H1 → TabS H1 P L.qual → H f = none → H1 f = some (LamO f c' L) → H1 c' = some (CodeO c' L.qual) → Q (.ref f) H1
/-! ### a call of a name that holds one -/
theorem lamAt_of {X : Cx} {pins : List (Addr × Obj)} {σ : L2.St} {H : Hp} {s : Shared} {f c : Addr} {L : LamW} (I : Inv X pins σ H s) (e : H f = some (LamO f c L)) : PySem.W.FnAt f s.heap := by
  obtain ⟨od, sl, pm, ctv, ho⟩ := lamO_at I.hok e
  exact ⟨_, od, _, sl, ho⟩
def tCallL (L : LamW) (i : Nat) (sp : Sp) (E : XK) (t : TA) : TE := fun σ H Q => ∃ f c', σ[i]? = some (some (.ref f)) ∧ H f = some (LamO f c' L) ∧
  t σ H fun vs H1 => H1 f = some (LamO f c' L) ∧ H1 c' = some (CodeO c' L.qual) ∧ sp vs H1 Q E
theorem pe_callLam {X : Cx} {CX : CXT} {L : LamW} {ps : List Str} {i j k : Nat} {x : Str} {sp : Sp} {E : XK} {t : TA} {e : PySem.Expr} {es : List PySem.Expr} {p pos : Pos} (Fn : LOk X.prog X.w X.K X.mg X.base CX k L ps sp) (hr : Room j X.A) (hk : k ≤ j) (hx : Passes CX X E) (hN : X.N[i]? = some x) (hv : Vis X.env.scope x) (ha : PA X (e :: es) t)
    (hd : (x == ("__debug__" : Str)) = false := by decide) (hcd : (x == ("__classdict__" : Str)) = false := by decide)
    (he : starEach (e :: es) X.env = (false, eval e X.env) :: starEach es X.env := by rfl) (hpl : (backTo pos (starEach es X.env)).any (·.1) = false := by rfl) :
    PE X (.Call (.Name x p) (e :: es) [] pos) (tCallL L i sp E t) := by
  refine ⟨fun pins s σ H Q I h => ?_⟩
  obtain ⟨f, c', hs, hf, ht⟩ := h
  refine wpAny_Call_Name_kw (thn ((pe_var (pos := p) hN hv hd hcd).run pins s σ H (fun v H1 => v = .ref f ∧ H1 = H) I ⟨.ref f, hs, rfl, rfl⟩) fun u s1 ⟨v, H1, I1, r1, q1⟩ => ?_)
  obtain ⟨ev, eH⟩ := q1
  subst ev
  rw [eH] at I1
  obtain rfl : u = Value.ref f := r1
  refine PySem.W.callWith_F (first := []) (lamAt_of I1 hf) (thn (ha.run pos pins s1 σ H _ I1 ht) fun us s2 ⟨vs, H2, I2, r, h1, h2, q⟩ => ⟨lamAt_of I2 h1, ?_⟩) he hpl
  show wpAny _ _ (call (.ref f) us) _ _ _
  refine wpAny_call (codeAny_mono (Fn.run f c' X.A X.stack s2 H2 us vs Q E (hr.mono hk) I2.env0 h1 h2 r q) fun r s' hq => ?_)
  cases r with
  | error e => exact hx pins σ H2 s2 e s' I2 hq
  | ok fl =>
    cases fl with
    | ret u => exact I2.after hq
    | next => exact False.elim hq
    | brk => exact False.elim hq
    | cont => exact False.elim hq
end LmV
end
section
set_option Elab.async false
set_option linter.all false
set_option maxRecDepth 100000
set_option maxHeartbeats 1000000
/-! Readings over data alone: what an expression or a statement does to the data in a def's slots. -/
namespace Dl
open PySem PySem.Spec PyProof.Rows L2 HbE Evl
variable [LmV.LamTable]
/-- a drawer: three ints in a list -/
def Hat (o : HO) : Prop := ∃ g s c : Int, o = .lst [.int g, .int s, .int c]
/-- what a slot holds: data; a list that the def alone holds and may change; a drawer -/
inductive WD where
  | dat (d : PyData)
  | own (ds : List PyData)
  | hat
  | fn (n : Str)
  | lam (L : Str)
/-- an exception: its class, what it keeps and under which name -/
structure Xn where
  cls : String
  arg : Option (String × PyData)
/-- tables: where they stand, and of a lambda's table the name of its code -/
abbrev TbL := List (Addr × Option Str)
abbrev ad (T : TbL) : List Addr := T.map (·.1)
/-- where tables stand; which exceptions may leave, and what they are wanted for -/
structure TX where
  l : TbL
  Ed : Xn → Prop := fun _ => False
  EE : XK := fun _ _ _ => False
instance : Coe TX TbL := ⟨TX.l⟩
abbrev Sd := List (Option WD)
open Classical in
noncomputable def msk (M : Addr → Prop) (H : Hp) : Hp := fun a => if M a then none else H a
section
variable {M M' : Addr → Prop} {H H' H2 : Hp} {a p : Addr} {o : HO} {hs : List Addr} {Ps : TbL} {K : PySem.W.Frag}
theorem msk_some : msk M H a = some o ↔ ¬ M a ∧ H a = some o := by
  unfold msk
  by_cases h : M a
  · simp [h]
  · simp [h]
theorem msk_ex : Ex (msk M H) H := fun a o h => (msk_some.mp h).2
/-- a table of the one or the other kind -/
def TbK (H : Hp) (p : Addr × Option Str) : Prop := match p.2 with
  | none => GxR.TabG H p.1
  | some q => LamX.TabS H p.1 q
theorem TbK.has {p : Addr × Option Str} (h : TbK H p) : ∃ ps, H p.1 = some (.tbl ps) := by
  obtain ⟨P, k⟩ := p
  cases k with
  | none => exact h.elim fun ps h => ⟨ps, h.1⟩
  | some q => exact h.elim fun ps h => ⟨ps, h.1⟩
theorem TbK.keep {p : Addr × Option Str} (h : TbK H p) (e : H' p.1 = H p.1) (k : ∀ c q, H c = some (LamX.CodeO c q) → H' c = some (LamX.CodeO c q)) : TbK H' p := by
  obtain ⟨P, kd⟩ := p
  cases kd with
  | none =>
    obtain ⟨ps, h1, h2⟩ := h
    exact ⟨ps, by rw [e]; exact h1, h2⟩
  | some q =>
    obtain ⟨ps, h1, h2, h3⟩ := h
    exact ⟨ps, by rw [e]; exact h1, h2, fun pos cv hc => (h3 pos cv hc).elim fun c hc => ⟨c, hc.1, k _ _ hc.2⟩⟩
theorem TbK.ex {p : Addr × Option Str} (e : Ex H H') (h : TbK H p) : TbK H' p := h.keep (by
  obtain ⟨ps, h⟩ := h.has
  rw [h, e _ _ h]) fun c q h => e _ _ h
theorem codeO_lst {c : Addr} {q : Str} {xs : List V} : LamX.CodeO c q ≠ .lst xs := fun z => by
  unfold LamX.CodeO at z
  cases z
theorem ad_at {Ps : TbL} (h : a ∈ ad Ps) : ∃ k, (a, k) ∈ Ps := by
  obtain ⟨⟨b, k⟩, h1, h2⟩ := List.mem_map.mp h
  cases h2
  exact ⟨k, h1⟩
theorem ad_of {Ps : TbL} {q : Addr × Option Str} (h : q ∈ Ps) : q.1 ∈ ad Ps := List.mem_map.mpr ⟨q, h, rfl⟩
/-- what may change between: the drawers' content, the tables -/
structure Step (hs : List Addr) (Ps : TbL) (H H' : Hp) : Prop where
  keep : ∀ a o, H a = some o → a ∉ hs → a ∉ ad Ps → H' a = some o
  hat : ∀ p ∈ hs, (∃ o, H p = some o ∧ Hat o) → ∃ o, H' p = some o ∧ Hat o
  tab : ∀ P ∈ Ps, TbK H P → TbK H' P
theorem Step.of_ex (e : Ex H H') : Step hs Ps H H' := ⟨fun a o h _ _ => e a o h, fun p _ ⟨o, h1, h2⟩ => ⟨o, e p o h1, h2⟩, fun P _ h => h.ex e⟩
theorem Step.refl : Step hs Ps H H := Step.of_ex (Ex.refl H)
theorem Step.trans (h : Step hs Ps H H') (k : Step hs Ps H' H2) : Step hs Ps H H2 := ⟨fun a o e n m => k.keep a o (h.keep a o e n m) n m, fun p hp e => k.hat p hp (h.hat p hp e), fun P hP e => k.tab P hP (h.tab P hP e)⟩
/-- a masked heap: what is masked stands, the drawers and the tables are masked -/
structure Wf (Ps : TbL) (M : Addr → Prop) (hs : List Addr) (H : Hp) : Prop where
  al : ∀ a, M a → H a ≠ none
  hat : ∀ p ∈ hs, M p ∧ ∃ o, H p = some o ∧ Hat o
  tab : ∀ P ∈ Ps, M P.1 ∧ TbK H P
  one : ∀ p ∈ Ps, ∀ q ∈ Ps, p.1 = q.1 → p = q
  cod : ∀ a c q, M a → H a ≠ some (LamX.CodeO c q)
theorem Step.some (h : Step hs Ps H H') (w : Wf Ps M hs H) (e : H a ≠ none) : H' a ≠ none := by
  by_cases h1 : a ∈ hs
  · obtain ⟨o, q, _⟩ := h.hat a h1 (w.hat a h1).2
    rw [q]; simp
  · by_cases h2 : a ∈ ad Ps
    · obtain ⟨kd, h2⟩ := ad_at h2
      obtain ⟨ps, q⟩ := (h.tab _ h2 (w.tab _ h2).2).has
      have q : H' a = _ := q
      rw [q]; simp
    · cases q : H a with
      | none => exact absurd q e
      | some o => rw [h.keep a o q h1 h2]; simp
theorem Wf.step (w : Wf Ps M hs H) (h : Step hs Ps H H') : Wf Ps M hs H' :=
  ⟨fun a m => h.some w (w.al a m), fun p hp => ⟨(w.hat p hp).1, h.hat p hp (w.hat p hp).2⟩, fun P hP => ⟨(w.tab P hP).1, h.tab P hP (w.tab P hP).2⟩, w.one, fun a c q m e => by
    by_cases h1 : a ∈ hs
    · obtain ⟨o, z, _, _, _, rfl⟩ := h.hat a h1 (w.hat a h1).2
      rw [z] at e
      exact codeO_lst (Option.some.inj e).symm
    · by_cases h2 : a ∈ ad Ps
      · obtain ⟨ps, z⟩ : ∃ ps, H' a = some (.tbl ps) := (ad_at h2).elim fun _ h2 => (h.tab _ h2 (w.tab _ h2).2).has
        rw [z] at e
        exact LamX.codeO_ne ps (Option.some.inj e).symm
      · cases z : H a with
        | none => exact w.al a m z
        | some o =>
          have := h.keep a o z h1 h2
          rw [e] at this
          exact w.cod a c q m (z.trans this.symm)⟩
theorem Wf.ex (w : Wf Ps M hs H) (h : Step hs Ps H H') : Ex (msk M H) (msk M H') := fun a o e => by
  obtain ⟨n, e⟩ := msk_some.mp e
  exact msk_some.mpr ⟨n, h.keep a o e (fun z => n (w.hat a z).1) (fun z => (ad_at z).elim fun _ z => n (w.tab _ z).1)⟩
theorem Wf.tbl (w : Wf Ps M hs H) (h : a ∈ ad Ps) : ∃ ps, H a = some (.tbl ps) := (ad_at h).elim fun _ h => (w.tab _ h).2.has
theorem Wf.fresh (w : Wf Ps M hs H) (h : H p = none) : ¬ M p := fun m => w.al p m h
theorem msk_upd (h : ¬ M p) : msk M (upd H p o) p = some o := msk_some.mpr ⟨h, upd_same⟩
/-- less masked: more to read -/
theorem msk_less (h : ∀ a, M a → M' a) : Ex (msk M' H) (msk M H) := fun a o e => by
  obtain ⟨n, e⟩ := msk_some.mp e
  exact msk_some.mpr ⟨fun m => n (h a m), e⟩
end
/-! data: as L2.Dp, and dicts, of which nothing is told (.dict [] stands for any) -/
mutual
inductive Dp (K : PySem.W.Frag) (H : Hp) : V → PyData → Prop
  | non : Dp K H .non .none
  | bl (b : Bool) : Dp K H (.bl b) (.bool b)
  | int (n : Int) : Dp K H (.int n) (.int n)
  | str (t : Str) : Dp K H (.str t) (.str t)
  | lst {p : Addr} {vs : List V} {es : List PyData} : SqL K H p vs → DpAll K H vs es → Dp K H (.ref p) (.list es)
  | tup {p : Addr} {vs : List V} {es : List PyData} : SqT K H p vs → DpAll K H vs es → Dp K H (.ref p) (.tuple es)
  | dct {p : Addr} {kvs : List (Key × V)} : H p = some (.dK kvs) → Dp K H (.ref p) (.dict [])
  | dctT {p : Addr} {kvs : List (List Key × V)} : H p = some (.dT kvs) → Dp K H (.ref p) (.dict [])
inductive DpAll (K : PySem.W.Frag) (H : Hp) : List V → List PyData → Prop
  | nil : DpAll K H [] []
  | cons {v : V} {vs : List V} {e : PyData} {es : List PyData} : Dp K H v e → DpAll K H vs es → DpAll K H (v :: vs) (e :: es)
end
mutual
theorem dp_mono {K : PySem.W.Frag} {H H' : Hp} (e : Ex H H') : ∀ {v : V} {d : PyData}, Dp K H v d → Dp K H' v d
  | _, _, .non => .non
  | _, _, .bl b => .bl b
  | _, _, .int i => .int i
  | _, _, .str x => .str x
  | _, _, .lst h1 h2 => .lst (ex_l e h1) (dpAll_mono e h2)
  | _, _, .tup h1 h2 => .tup (ex_t e h1) (dpAll_mono e h2)
  | _, _, .dct h => .dct (e _ _ h)
  | _, _, .dctT h => .dctT (e _ _ h)
theorem dpAll_mono {K : PySem.W.Frag} {H H' : Hp} (e : Ex H H') : ∀ {vs : List V} {ds : List PyData}, DpAll K H vs ds → DpAll K H' vs ds
  | _, _, .nil => .nil
  | _, _, .cons h1 h2 => .cons (dp_mono e h1) (dpAll_mono e h2)
end
mutual
theorem Dp.old {K : PySem.W.Frag} {H : Hp} : ∀ {v : V} {d : PyData}, Dp K H v d → d.hasDict = false → L2.Dp K H v d
  | _, _, .non, _ => .non
  | _, _, .bl b, _ => .bl b
  | _, _, .int i, _ => .int i
  | _, _, .str x, _ => .str x
  | _, _, .lst h1 h2, h => .lst h1 (DpAll.old h2 (by simpa [PyData.hasDict] using h))
  | _, _, .tup h1 h2, h => .tup h1 (DpAll.old h2 (by simpa [PyData.hasDict] using h))
theorem DpAll.old {K : PySem.W.Frag} {H : Hp} : ∀ {vs : List V} {ds : List PyData}, DpAll K H vs ds → PyData.hasDictAll ds = false → L2.DpAll K H vs ds
  | _, _, .nil, _ => .nil
  | _, _, .cons h1 h2, h => by
    rw [PyData.hasDictAll, Bool.or_eq_false_iff] at h
    exact .cons (Dp.old h1 h.1) (DpAll.old h2 h.2)
end
mutual
theorem Dp.new {K : PySem.W.Frag} {H : Hp} : ∀ {v : V} {d : PyData}, L2.Dp K H v d → Dp K H v d
  | _, _, .non => .non
  | _, _, .bl b => .bl b
  | _, _, .int i => .int i
  | _, _, .str x => .str x
  | _, _, .lst h1 h2 => .lst h1 (DpAll.new h2)
  | _, _, .tup h1 h2 => .tup h1 (DpAll.new h2)
theorem DpAll.new {K : PySem.W.Frag} {H : Hp} : ∀ {vs : List V} {ds : List PyData}, L2.DpAll K H vs ds → DpAll K H vs ds
  | _, _, .nil => .nil
  | _, _, .cons h1 h2 => .cons (Dp.new h1) (DpAll.new h2)
end
theorem noDict_shaped {d : PyData} (h : SeqAt.shaped d = true) : d.hasDict = false := PyData.hasDict_of_canLay d (SeqAt.canLay_of_shaped h)
section
variable {K : PySem.W.Frag} {H H' : Hp} {vs ws : List V} {ds es : List PyData}
theorem DpAll.len (h : DpAll K H vs ds) : vs.length = ds.length := by
  have : ∀ (ds : List PyData) (vs : List V), DpAll K H vs ds → vs.length = ds.length := by
    intro ds
    induction ds with
    | nil => intro vs h; cases h; rfl
    | cons d ds ih => intro vs h; cases h with | cons _ h2 => simp [ih _ h2]
  exact this ds vs h
theorem DpAll.app (h : DpAll K H vs ds) (k : DpAll K H ws es) : DpAll K H (vs ++ ws) (ds ++ es) := by
  have : ∀ (ds : List PyData) (vs : List V), DpAll K H vs ds → DpAll K H (vs ++ ws) (ds ++ es) := by
    intro ds
    induction ds with
    | nil => intro vs h; cases h; exact k
    | cons d ds ih => intro vs h; cases h with | cons h1 h2 => exact .cons h1 (ih _ h2)
  exact this ds vs h
theorem DpAll.get {i : Nat} {d : PyData} (h : DpAll K H vs ds) (e : ds[i]? = some d) : ∃ v, vs[i]? = some v ∧ Dp K H v d := by
  have : ∀ (ds : List PyData) (vs : List V) (i : Nat), DpAll K H vs ds → ds[i]? = some d → ∃ v, vs[i]? = some v ∧ Dp K H v d := by
    intro ds
    induction ds with
    | nil => intro vs i h e; simp at e
    | cons d2 ds ih =>
      intro vs i h e
      cases h with
      | cons h1 h2 =>
        cases i with
        | zero => simp at e; subst e; exact ⟨_, rfl, h1⟩
        | succ i => simpa using ih _ i h2 (by simpa using e)
  exact this ds vs i h e
theorem DpAll.take (n : Nat) (h : DpAll K H vs ds) : DpAll K H (vs.take n) (ds.take n) := by
  have : ∀ (ds : List PyData) (vs : List V) (n : Nat), DpAll K H vs ds → DpAll K H (vs.take n) (ds.take n) := by
    intro ds
    induction ds with
    | nil => intro vs n h; cases h; cases n <;> exact .nil
    | cons d2 ds ih =>
      intro vs n h
      cases h with
      | cons h1 h2 =>
        cases n with
        | zero => exact .nil
        | succ n => exact .cons h1 (ih _ n h2)
  exact this ds vs n h
theorem DpAll.drop (n : Nat) (h : DpAll K H vs ds) : DpAll K H (vs.drop n) (ds.drop n) := by
  have : ∀ (ds : List PyData) (vs : List V) (n : Nat), DpAll K H vs ds → DpAll K H (vs.drop n) (ds.drop n) := by
    intro ds
    induction ds with
    | nil => intro vs n h; cases h; cases n <;> exact .nil
    | cons d2 ds ih =>
      intro vs n h
      cases h with
      | cons h1 h2 =>
        cases n with
        | zero => exact .cons h1 h2
        | succ n => exact ih _ n h2
  exact this ds vs n h
theorem DpAll.ints {ns : List Int} : DpAll K H (ns.map V.int) (ns.map PyData.int) := by
  induction ns with
  | nil => exact .nil
  | cons n ns ih => exact .cons (.int n) ih
end
/-! ### the state of a def -/
structure C0 where
  hs0 : List Addr
  M0 : Addr → Prop
  H0 : Hp
  B : Hp
def Mk (c : C0) (hs as : List Addr) : Addr → Prop := fun a => c.M0 a ∨ a ∈ hs ∨ a ∈ as
structure Fr (Ps : TbL) (c : C0) (hs as : List Addr) (H : Hp) : Prop where
  wf0 : Wf Ps c.M0 c.hs0 c.H0
  st : Step c.hs0 Ps c.H0 H
  hat : ∀ p ∈ hs, (∃ o, H p = some o ∧ Hat o) ∧ (p ∈ c.hs0 ∨ c.H0 p = none)
  sub : ∀ p ∈ c.hs0, p ∈ hs
  own : ∀ a ∈ as, c.H0 a = none ∧ (∃ vs, H a = some (.lst vs)) ∧ a ∉ hs ∧ a ∉ ad Ps
  bs : Ex c.B (msk (Mk c hs as) H)
section
variable {K : PySem.W.Frag} {Ps : TbL} {c : C0} {hs as : List Addr} {H H' : Hp} {σ : L2.St} {σd : Sd}
theorem Fr.wf (f : Fr Ps c hs as H) : Wf Ps (Mk c hs as) hs H := by
  have w := f.wf0.step f.st
  refine ⟨fun a m => ?_, fun p hp => ⟨.inr (.inl hp), (f.hat p hp).1⟩, fun P hP => ⟨.inl (w.tab P hP).1, (w.tab P hP).2⟩, w.one, fun a c q m e => ?_⟩
  rcases m with m | m | m
  · exact w.al a m
  · obtain ⟨⟨o, e, _⟩, _⟩ := f.hat a m
    rw [e]; simp
  · obtain ⟨_, ⟨_, e⟩, _⟩ := f.own a m
    rw [e]; simp
  · rcases m with m | m | m
    · exact w.cod a c q m e
    · obtain ⟨⟨o, z, _, _, _, rfl⟩, _⟩ := f.hat a m
      rw [z] at e
      exact codeO_lst (Option.some.inj e).symm
    · obtain ⟨_, ⟨_, z⟩, _⟩ := f.own a m
      rw [z] at e
      exact codeO_lst (Option.some.inj e).symm
theorem Fr.step (f : Fr Ps c hs as H) (s : Step hs Ps H H') : Fr Ps c hs as H' := by
  have w := f.wf
  refine ⟨f.wf0, ⟨fun a o e n m => s.keep a o (f.st.keep a o e n m) (fun z => ?_) m, fun p hp e => s.hat p (f.sub p hp) (f.hat p (f.sub p hp)).1, fun P hP e => s.tab P hP (w.tab P hP).2⟩,
    fun p hp => ⟨s.hat p hp (f.hat p hp).1, (f.hat p hp).2⟩, f.sub, fun a ha => ⟨(f.own a ha).1, (f.own a ha).2.1.imp fun _ e => s.keep a _ e (f.own a ha).2.2.1 (f.own a ha).2.2.2, (f.own a ha).2.2⟩, f.bs.trans (w.ex s)⟩
  rcases (f.hat a z).2 with q | q
  · exact n q
  · rw [e] at q; cases q
/-- an exception in the air -/
def XnAt (K : PySem.W.Frag) (H : Hp) (M : Addr → Prop) (cls : Value) (d : Option Addr) (x : Xn) : Prop :=
  ∃ C, PySem.W.nsIn K mainGlobals x.cls = some (some (.ref C)) ∧ cls = .ref C ∧ ∀ f a, x.arg = some (f, a) → ∃ dd v, d = some dd ∧ H dd = some (.xd [((f : Str), v)]) ∧ Dp K (msk M H) v a
def XOk (K : PySem.W.Frag) (T : TX) (c : C0) : Prop := ∀ x cls d H', T.Ed x → Step c.hs0 T.l c.H0 H' → XnAt K H' c.M0 cls d x → T.EE cls d H'
/-- a value and what a slot holds -/
def VR (K : PySem.W.Frag) (M : Addr → Prop) (hs as : List Addr) (H : Hp) (v : V) : WD → Prop
  | .dat d => Dp K (msk M H) v d
  | .own ds => ∃ a vs, v = .ref a ∧ a ∈ as ∧ H a = some (.lst vs) ∧ DpAll K (msk M H) vs ds
  | .hat => ∃ p, v = .ref p ∧ p ∈ hs
  | .fn n => ∃ f, v = .ref f ∧ PySem.W.nsIn K mainGlobals n = some (some (.ref f))
  | .lam L => ∃ f c, v = .ref f ∧ msk M H f = some (LmV.LamO f c (LmV.LamTable.tab L)) ∧ msk M H c = some (LamX.CodeO c (LmV.LamTable.tab L).qual)
structure Sts (K : PySem.W.Frag) (Ps : TX) (c : C0) (hs as : List Addr) (σ : L2.St) (H : Hp) (σd : Sd) : Prop where
  fr : Fr Ps c hs as H
  len : σ.length = σd.length
  slot : ∀ (i : Nat) (w : WD), σd[i]? = some (some w) → ∃ v, σ[i]? = some (some v) ∧ VR K (Mk c hs as) hs as H v w
  dis : ∀ (i j : Nat) (ds es : List PyData), i ≠ j → σd[i]? = some (some (.own ds)) → σd[j]? = some (some (.own es)) → σ[i]? ≠ σ[j]?
  xo : XOk K Ps c
theorem VR.step {Ps : TX} {v : V} {w : WD} (f : Fr Ps c hs as H) (s : Step hs Ps H H') (h : VR K (Mk c hs as) hs as H v w) : VR K (Mk c hs as) hs as H' v w := by
  have e := f.wf.ex s
  cases w with
  | dat d => exact dp_mono e h
  | own ds =>
    obtain ⟨a, vs, rfl, ha, h1, h2⟩ := h
    exact ⟨a, vs, rfl, ha, s.keep a _ h1 (f.own a ha).2.2.1 (f.own a ha).2.2.2, dpAll_mono e h2⟩
  | hat => exact h
  | fn n => exact h
  | lam L =>
    obtain ⟨f, c, rfl, h1, h2⟩ := h
    exact ⟨f, c, rfl, e _ _ h1, e _ _ h2⟩
theorem Sts.step {Ps : TX} (S : Sts K Ps c hs as σ H σd) (s : Step hs Ps H H') : Sts K Ps c hs as σ H' σd :=
  ⟨S.fr.step s, S.len, fun i w e => by
    obtain ⟨v, h1, h2⟩ := S.slot i w e
    exact ⟨v, h1, h2.step (Ps := Ps) S.fr s⟩, S.dis, S.xo⟩
end
/-! ### expressions -/
abbrev DE := Sd → (PyData → Prop) → Prop
abbrev DQ := Sd → (Bool → List PyData → Prop) → Prop
abbrev DT := Sd → (Bool → Prop) → Prop
abbrev DA := Sd → (List WD → Prop) → Prop
def lift (K : PySem.W.Frag) (Ps : TX) (de : DE) : TE := fun σ H Q => ∃ c hs as σd Qd, Sts K Ps c hs as σ H σd ∧ de σd Qd ∧ ∀ d v H', Qd d → Step hs Ps H H' → Dp K (msk (Mk c hs as) H') v d → Q v H'
def liftT (K : PySem.W.Frag) (Ps : TX) (dt : DT) : TT := fun σ H Q => ∃ c hs as σd Qd, Sts K Ps c hs as σ H σd ∧ dt σd Qd ∧ ∀ b H', Qd b → Step hs Ps H H' → Q b H'
/-- a list (true) or a tuple whose items are data; it may be one that the def changes later -/
def SeqR (K : PySem.W.Frag) (M : Addr → Prop) (as : List Addr) (H : Hp) (v : V) (b : Bool) (ds : List PyData) : Prop :=
  Dp K (msk M H) v (if b then .list ds else .tuple ds) ∨ (b = true ∧ ∃ a vs, v = .ref a ∧ a ∈ as ∧ H a = some (.lst vs) ∧ DpAll K (msk M H) vs ds)
theorem SeqR.step {K : PySem.W.Frag} {Ps : TX} {c : C0} {hs as : List Addr} {H H' : Hp} {v : V} {b : Bool} {ds : List PyData} (f : Fr Ps c hs as H) (s : Step hs Ps H H') (h : SeqR K (Mk c hs as) as H v b ds) : SeqR K (Mk c hs as) as H' v b ds := by
  rcases h with h | ⟨e, a, vs, rfl, ha, h1, h2⟩
  · exact .inl (dp_mono (f.wf.ex s) h)
  · exact .inr ⟨e, a, vs, rfl, ha, s.keep a _ h1 (f.own a ha).2.2.1 (f.own a ha).2.2.2, dpAll_mono (f.wf.ex s) h2⟩
def liftQ (K : PySem.W.Frag) (Ps : TX) (dq : DQ) : TE := fun σ H Q => ∃ c hs as σd Qd, Sts K Ps c hs as σ H σd ∧ dq σd Qd ∧ ∀ b ds v H', Qd b ds → Step hs Ps H H' → SeqR K (Mk c hs as) as H' v b ds → Q v H'
/-- a new list -/
def liftL (K : PySem.W.Frag) (Ps : TX) (dl : Sd → (List PyData → Prop) → Prop) : TE := fun σ H Q => ∃ c hs as σd Qd, Sts K Ps c hs as σ H σd ∧ dl σd Qd ∧
  ∀ ds p vs H', Qd ds → Step hs Ps H H' → H p = none → H' p = some (.lst vs) → DpAll K (msk (Mk c hs as) H') vs ds → Q (.ref p) H'
def liftA (K : PySem.W.Frag) (Ps : TX) (da : DA) : TA := fun σ H Q => ∃ c hs as σd Qd, Sts K Ps c hs as σ H σd ∧ da σd Qd ∧ ∀ ws vs H', Qd ws → Step hs Ps H H' → Paired (VR K (Mk c hs as) hs [] H') vs ws → Q vs H'
theorem pe_weak {X : Cx} {e : PySem.Expr} {te te' : TE} (h : PE X e te) (k : ∀ σ H Q, te' σ H Q → te σ H Q) : PE X e te' := ⟨fun pins s σ H Q I q => h.run pins s σ H Q I (k σ H Q q)⟩
theorem pt_weak {X : Cx} {e : PySem.Expr} {te te' : TT} (h : PT X e te) (k : ∀ σ H Q, te' σ H Q → te σ H Q) : PT X e te' := ⟨fun pins s σ H Q I q => h.run pins s σ H Q I (k σ H Q q)⟩
theorem pa_weak {X : Cx} {es : List PySem.Expr} {te te' : TA} (h : PA X es te) (k : ∀ σ H Q, te' σ H Q → te σ H Q) : PA X es te' := ⟨fun pos pins s σ H Q I q => h.run pos pins s σ H Q I (k σ H Q q)⟩
section
variable {X : Cx} {Ps : TX} {e a b : PySem.Expr} {pos : Pos}
/-! names, constants -/
def dVar (i : Nat) : DE := fun σ Q => match σ[i]? with
  | some (some (.dat d)) => Q d
  | _ => False
def dC (d : PyData) : DE := fun _ Q => Q d
theorem pd_var {i : Nat} (h : PE X e (tVar i)) : PE X e (lift X.K Ps (dVar i)) := pe_weak h fun σ H Q ⟨c, hs, as, σd, Qd, S, hd, k⟩ => by
  unfold dVar at hd
  split at hd
  · rename_i d q
    obtain ⟨v, h1, h2⟩ := S.slot i _ q
    exact ⟨v, h1, k d v H hd Step.refl h2⟩
  · exact hd.elim
theorem pd_c {v : V} {d : PyData} (h : PE X e (tC v)) (hd : ∀ K H, Dp K H v d) : PE X e (lift X.K Ps (dC d)) := pe_weak h fun σ H Q ⟨c, hs, as, σd, Qd, S, hq, k⟩ => k d v H hq Step.refl (hd _ _)
/-- two-place operations -/
def Op2 (K : PySem.W.Frag) (Ps : TX) (r : R2) (f : PyData → PyData → (PyData → Prop) → Prop) : Prop := ∀ (M : Addr → Prop) (hs : List Addr) (H : Hp) (v w : V) (x y : PyData) (Qd : PyData → Prop) (Q : VK), Wf Ps M hs H → Dp K (msk M H) v x → Dp K (msk M H) w y → f x y Qd →
  (∀ d z H', Qd d → Step hs Ps H H' → Dp K (msk M H') z d → Q z H') → r v w H Q
def dOp (f : PyData → PyData → (PyData → Prop) → Prop) (da db : DE) : DE := fun σ Q => da σ fun x => db σ fun y => f x y Q
theorem lift_op {r : R2} {f : PyData → PyData → (PyData → Prop) → Prop} {da db : DE} {σ : L2.St} {H : Hp} {Q : VK} (ho : Op2 X.K Ps r f) (h : lift X.K Ps (dOp f da db) σ H Q) : tOp r (lift X.K Ps da) (lift X.K Ps db) σ H Q := by
  obtain ⟨c, hs, as, σd, Qd, S, hd, k⟩ := h
  refine ⟨c, hs, as, σd, _, S, hd, fun x v H1 h1 s1 r1 => ?_⟩
  refine ⟨c, hs, as, σd, _, S.step s1, h1, fun y w H2 h2 s2 r2 => ?_⟩
  exact ho _ hs H2 v w x y Qd _ ((S.step s1).step s2).fr.wf (dp_mono ((S.step s1).fr.wf.ex s2) r1) r2 h2 fun d z H' h3 s3 r3 => k d z H' h3 ((s1.trans s2).trans s3) r3
theorem pd_op {op : Operator} {r : R2} {f : PyData → PyData → (PyData → Prop) → Prop} {da db : DE} (h : OpR X (binaryOp op) r) (ho : Op2 X.K Ps r f) (ha : PE X a (lift X.K Ps da)) (hb : PE X b (lift X.K Ps db)) : PE X (.BinOp a op b pos) (lift X.K Ps (dOp f da db)) :=
  pe_weak (pe_op h ha hb) fun _ _ _ => lift_op ho
theorem pd_cmp {op : CmpOp} {r : R2} {f : PyData → PyData → (PyData → Prop) → Prop} {da db : DE} (h : OpR X (compareOp op) r) (ho : Op2 X.K Ps r f) (ha : PE X a (lift X.K Ps da)) (hb : PE X b (lift X.K Ps db)) (hm : behindInMarks op b = false) :
    PE X (.Compare a [op] [b] pos) (lift X.K Ps (dOp f da db)) := pe_weak (pe_cmpR h ha hb hm) fun _ _ _ => lift_op ho
/-- a test out of a bool -/
def dTest (de : DE) : DT := fun σ Q => de σ fun x => match x with
  | .bool b => Q b
  | _ => False
theorem lift_test {de : DE} {σ : L2.St} {H : Hp} {Q : Bool → Hp → Prop} (h : liftT X.K Ps (dTest de) σ H Q) : tTest (lift X.K Ps de) σ H Q := by
  obtain ⟨c, hs, as, σd, Qd, S, hd, k⟩ := h
  refine ⟨c, hs, as, σd, _, S, hd, fun x v H1 h1 s1 r1 => ?_⟩
  split at h1
  · rename_i b
    cases r1
    exact ⟨b, rfl, k b H1 h1 s1⟩
  · exact h1.elim
theorem pt_d_cmp {op : CmpOp} {r : R2} {f : PyData → PyData → (PyData → Prop) → Prop} {da db : DE} (h : OpR X (compareOp op) r) (ho : Op2 X.K Ps r f) (ha : PE X a (lift X.K Ps da)) (hb : PE X b (lift X.K Ps db)) (hm : behindInMarks op b = false) :
    PT X (.Compare a [op] [b] pos) (liftT X.K Ps (dTest (dOp f da db))) := pt_weak (pt_cmpR h ha hb hm) fun σ H Q h => by
  have h2 := lift_test h
  unfold tTest at h2 ⊢
  obtain ⟨c, hs, as, σd, Qd, S, hd, k⟩ := h2
  exact lift_op ho ⟨c, hs, as, σd, Qd, S, hd, k⟩
end
/-! ### operations on ints -/
def fI (C : Int → Int → Prop) (g : Int → Int → PyData) : PyData → PyData → (PyData → Prop) → Prop := fun x y Q => match x, y with
  | .int i, .int j => C i j ∧ Q (g i j)
  | _, _ => False
theorem op2_I {K : PySem.W.Frag} {Ps : TX} {C : Int → Int → Prop} {g : Int → Int → V} {gd : Int → Int → PyData} (hg : ∀ i j K H, Dp K H (g i j) (gd i j)) : Op2 K Ps (rI C g) (fI C gd) := by
  intro M hs H v w x y Qd Q wf hx hy h k
  unfold fI at h
  split at h
  · cases hx; cases hy
    exact ⟨_, _, rfl, rfl, h.1, k _ _ H h.2 Step.refl (hg _ _ _ _)⟩
  · exact h.elim
def fI0 (g : Int → Int → PyData) : PyData → PyData → (PyData → Prop) → Prop := fun x y Q => match x, y with
  | .int i, .int j => Q (g i j)
  | _, _ => False
theorem op2_I0 {K : PySem.W.Frag} {Ps : TX} {g : Int → Int → V} {gd : Int → Int → PyData} (hg : ∀ i j K H, Dp K H (g i j) (gd i j)) : Op2 K Ps (rI0 g) (fI0 gd) := by
  intro M hs H v w x y Qd Q wf hx hy h k
  unfold fI0 at h
  split at h
  · cases hx; cases hy
    exact ⟨_, _, rfl, rfl, k _ _ H h Step.refl (hg _ _ _ _)⟩
  · exact h.elim
end Dl
end
section
set_option Elab.async false
set_option linter.all false
set_option maxRecDepth 100000
set_option maxHeartbeats 1000000
namespace Dl
open PySem PySem.Spec PyProof.Rows L2 HbE Evl
variable [LmV.LamTable]
section
variable {X : Cx} {Ps : TX} {e a b o : PySem.Expr} {es : List PySem.Expr} {pos : Pos}
/-! ### arguments -/
abbrev DW := Sd → (WD → Prop) → Prop
def liftW (K : PySem.W.Frag) (Ps : TX) (dw : DW) : TE := fun σ H Q => ∃ c hs as σd Qd, Sts K Ps c hs as σ H σd ∧ dw σd Qd ∧ ∀ w v H', Qd w → Step hs Ps H H' → VR K (Mk c hs as) hs [] H' v w → Q v H'
def dD (de : DE) : DW := fun σ Q => de σ fun d => Q (.dat d)
def dHat (i : Nat) : DW := fun σ Q => match σ[i]? with
  | some (some .hat) => Q .hat
  | _ => False
theorem pw_dat {de : DE} (h : PE X e (lift X.K Ps de)) : PE X e (liftW X.K Ps (dD de)) := pe_weak h fun σ H Q ⟨c, hs, as, σd, Qd, S, hd, k⟩ => ⟨c, hs, as, σd, _, S, hd, fun d v H' hq st r => k (.dat d) v H' hq st r⟩
theorem pw_hat {i : Nat} (h : PE X e (tVar i)) : PE X e (liftW X.K Ps (dHat i)) := pe_weak h fun σ H Q ⟨c, hs, as, σd, Qd, S, hd, k⟩ => by
  unfold dHat at hd
  split at hd
  · rename_i q
    obtain ⟨v, h1, h2⟩ := S.slot i _ q
    exact ⟨v, h1, k .hat v H hd Step.refl h2⟩
  · exact hd.elim
theorem vr0 {K : PySem.W.Frag} {M : Addr → Prop} {hs : List Addr} {H H' : Hp} {v : V} {w : WD} (e : Ex (msk M H) (msk M H')) (h : VR K M hs [] H v w) : VR K M hs [] H' v w := by
  cases w with
  | dat d => exact dp_mono e h
  | own ds => obtain ⟨_, _, _, z, _⟩ := h; cases z
  | hat => exact h
  | fn n => exact h
  | lam L =>
    obtain ⟨f, c, rfl, h1, h2⟩ := h
    exact ⟨f, c, rfl, e _ _ h1, e _ _ h2⟩
def dNil : DA := fun _ Q => Q []
def dCons (dw : DW) (da : DA) : DA := fun σ Q => dw σ fun w => da σ fun ws => Q (w :: ws)
theorem pda_nil : PA X [] (liftA X.K Ps dNil) := pa_weak pa_nil fun σ H Q ⟨c, hs, as, σd, Qd, S, hd, k⟩ => k [] [] H hd Step.refl .nil
theorem pda_cons {dw : DW} {da : DA} (ha : PE X e (liftW X.K Ps dw)) (hr : PA X es (liftA X.K Ps da)) (hs : starEach (e :: es) X.env = (false, eval e X.env) :: starEach es X.env := by rfl) : PA X (e :: es) (liftA X.K Ps (dCons dw da)) :=
  pa_weak (pa_cons ha hr hs) fun σ H Q ⟨c, hs, as, σd, Qd, S, hd, k⟩ =>
    ⟨c, hs, as, σd, _, S, hd, fun w v H1 h1 s1 r1 => ⟨c, hs, as, σd, _, S.step s1, h1, fun ws vs H2 h2 s2 r2 => k (w :: ws) (v :: vs) H2 h2 (s1.trans s2) (.cons (vr0 ((S.step s1).fr.wf.ex s2) r1) r2)⟩⟩
def dats : List WD → Option (List PyData)
  | [] => some []
  | .dat d :: ws => match dats ws with
    | some ds => some (d :: ds)
    | none => none
  | _ :: _ => none
theorem dats_dp {K : PySem.W.Frag} {M : Addr → Prop} {hs : List Addr} {H : Hp} : ∀ {vs : List V} {ws : List WD} {ds : List PyData}, Paired (VR K M hs [] H) vs ws → dats ws = some ds → DpAll K (msk M H) vs ds
  | _, _, _, .nil, h => by cases h; exact .nil
  | _, .dat d :: ws, ds, .cons h1 h2, h => by
    unfold dats at h
    split at h
    · rename_i ds' q
      cases h
      exact .cons h1 (dats_dp h2 q)
    · cases h
  | _, .own _ :: _, _, .cons h1 h2, h => by cases h
  | _, .hat :: _, _, .cons h1 h2, h => by cases h
  | _, .fn _ :: _, _, .cons h1 h2, h => by cases h
  | _, .lam _ :: _, _, .cons h1 h2, h => by cases h
/-! ### own defs -/
abbrev DSp := List WD → (PyData → Prop) → Prop
def spOf (K : PySem.W.Frag) (Ps : TbL) (SD : DSp) : Sp := fun vs H Q _ => ∃ M hs ws Qd, Wf Ps M hs H ∧ Paired (VR K M hs [] H) vs ws ∧ SD ws Qd ∧ ∀ d v H', Qd d → Step hs Ps H H' → Dp K (msk M H') v d → Q v H'
def dCall (SD : DSp) (da : DA) : DE := fun σ Q => da σ fun ws => SD ws Q
theorem pd_call {x : Str} {f : Addr} {fd : FuncData} {ps : List Str} {SD : DSp} {k : Nat} {da : DA} {p : Pos} (F : FnOk X.prog X.w X.K X.mg X.base CX0 k f fd ps (spOf X.K Ps SD)) (hr : Room k X.A) (hg : Gl X x) (hm : X.mg x = some (.ref f))
    (hk : PySem.W.keepIn X.K (.ref f) = true) (hb : Binds X.K fd ps []) (ha : PA X (e :: es) (liftA X.K Ps da)) (hdb : (x == ("__debug__" : Str)) = false := by decide) (he : starEach (e :: es) X.env = (false, eval e X.env) :: starEach es X.env := by rfl)
    (hpl : (backTo pos (starEach es X.env)).any (·.1) = false := by rfl) : PE X (.Call (.Name x p) (e :: es) [] pos) (lift X.K Ps (dCall SD da)) :=
  pe_weak (pe_call F hr hg hm hk hb .nil pass0 ha hdb he hpl) fun σ H Q ⟨c, hs, as, σd, Qd, S, hd, k⟩ =>
    ⟨c, hs, as, σd, _, S, hd, fun ws vs H1 h1 s1 r1 => ⟨Mk c hs as, hs, ws, Qd, (S.step s1).fr.wf, by rw [List.append_nil]; exact r1, h1, fun d v H' h s r => k d v H' h (s1.trans s) r⟩⟩
/-! ### displays -/
def dDats (da : DA) : Sd → (List PyData → Prop) → Prop := fun σ Q => da σ fun ws => match dats ws with
  | some ds => Q ds
  | none => False
theorem dp_newT {Ps : TbL} {K : PySem.W.Frag} {M : Addr → Prop} {hs : List Addr} {H : Hp} {p : Addr} {vs : List V} {ds : List PyData} (w : Wf Ps M hs H) (hp : H p = none) (h : DpAll K (msk M H) vs ds) : Dp K (msk M (upd H p (.tup vs))) (.ref p) (.tuple ds) :=
  .tup (.inl (.inl (msk_upd (w.fresh hp)))) (dpAll_mono (w.ex (Step.of_ex (Ex.new hp))) h)
theorem dp_newL {Ps : TbL} {K : PySem.W.Frag} {M : Addr → Prop} {hs : List Addr} {H : Hp} {p : Addr} {vs : List V} {ds : List PyData} (w : Wf Ps M hs H) (hp : H p = none) (h : DpAll K (msk M H) vs ds) : Dp K (msk M (upd H p (.lst vs))) (.ref p) (.list ds) :=
  .lst (.inl (.inl (msk_upd (w.fresh hp)))) (dpAll_mono (w.ex (Step.of_ex (Ex.new hp))) h)
def dTup (da : DA) : DE := fun σ Q => dDats da σ fun ds => ds.length ≤ 100000 ∧ Q (.tuple ds)
theorem pd_tup {x1} {da : DA} (h : PA X es (liftA X.K Ps da)) : PE X (.Tuple es x1 pos) (lift X.K Ps (dTup da)) := pe_weak (pe_tup h) fun σ H Q ⟨c, hs, as, σd, Qd, S, hd, k⟩ =>
  ⟨c, hs, as, σd, _, S, hd, fun ws vs H1 h1 s1 r1 => by
    split at h1
    · rename_i ds q
      have r := dats_dp r1 q
      refine ⟨sz_of (by rw [r.len]; exact h1.1), fun p hp => ?_⟩
      exact k _ _ _ h1.2 (s1.trans (Step.of_ex (Ex.new hp))) (dp_newT (S.step s1).fr.wf hp r)
    · exact h1.elim⟩
/-- a new list, as it is (its own) -/
theorem own_new {K : PySem.W.Frag} {c : C0} {hs as : List Addr} {H : Hp} {p : Addr} {vs : List V} {ds : List PyData} (hp : H p = none) (h : DpAll K (msk (Mk c hs as) H) vs ds) : DpAll K (msk (Mk c hs (p :: as)) (upd H p (.lst vs))) vs ds :=
  dpAll_mono (fun a o e => by
    obtain ⟨n, e⟩ := msk_some.mp e
    have na : a ≠ p := fun z => by rw [z, hp] at e; cases e
    refine msk_some.mpr ⟨fun m => ?_, by rw [upd_ne na]; exact e⟩
    rcases m with m | m | m
    · exact n (.inl m)
    · exact n (.inr (.inl m))
    · rcases List.mem_cons.mp m with z | z
      · exact na z
      · exact n (.inr (.inr z))) h
def dLst (da : DA) : Sd → (List PyData → Prop) → Prop := fun σ Q => dDats da σ fun ds => ds.length ≤ 100000 ∧ Q ds
abbrev DL := Sd → (List PyData → Prop) → Prop
/-- a new list, to be changed later -/
def liftN (K : PySem.W.Frag) (Ps : TX) (dl : DL) : TE := fun σ H Q => ∃ c hs as σd Qd, Sts K Ps c hs as σ H σd ∧ dl σd Qd ∧
  ∀ ds p vs H', Qd ds → Step hs Ps H H' → H p = none → H' p = some (.lst vs) → DpAll K (msk (Mk c hs (p :: as)) H') vs ds → Q (.ref p) H'
theorem pn_lst {da : DA} (h : PA X es (liftA X.K Ps da)) : PE X (.List es pos) (liftN X.K Ps (dLst da)) := pe_weak (pe_lst h) fun σ H Q ⟨c, hs, as, σd, Qd, S, hd, k⟩ =>
  ⟨c, hs, as, σd, _, S, hd, fun ws vs H1 h1 s1 r1 => by
    split at h1
    · rename_i ds q
      have r := dats_dp r1 q
      refine ⟨sz_of (by rw [r.len]; exact h1.1), fun p hp => ?_⟩
      refine k _ p vs _ h1.2 (s1.trans (Step.of_ex (Ex.new hp))) ?_ upd_same (own_new hp r)
      cases z : H p with
      | none => rfl
      | some o =>
        exfalso
        exact s1.some S.fr.wf (by rw [z]; simp) hp
    · exact h1.elim⟩
def dL (dl : DL) : DE := fun σ Q => dl σ fun ds => Q (.list ds)
theorem pd_new {dl : DL} (h : PE X e (liftN X.K Ps dl)) : PE X e (lift X.K Ps (dL dl)) := pe_weak h fun σ H Q ⟨c, hs, as, σd, Qd, S, hd, k⟩ =>
  ⟨c, hs, as, σd, _, S, hd, fun ds p vs H' hq st hp h' r => k _ _ _ hq st (by
    have np : ¬ Mk c hs as p := S.fr.wf.fresh hp
    exact .lst (.inl (.inl (msk_some.mpr ⟨np, h'⟩))) (dpAll_mono (msk_less fun a m => by
      rcases m with m | m | m
      · exact .inl m
      · exact .inr (.inl m)
      · exact .inr (.inr (List.mem_cons_of_mem _ m))) r))⟩
/-! ### things that are walked or counted: a list or a tuple -/
def dVarQ (i : Nat) : DQ := fun σ Q => match σ[i]? with
  | some (some (.dat (.list ds))) => Q true ds
  | some (some (.dat (.tuple ds))) => Q false ds
  | some (some (.own ds)) => Q true ds
  | _ => False
theorem SeqR.ex {K : PySem.W.Frag} {M : Addr → Prop} {as : List Addr} {H : Hp} {v : V} {b : Bool} {ds : List PyData} (h : SeqR K M as H v b ds) : ∃ p xs, v = .ref p ∧ (if b then SqL K H p xs else SqT K H p xs) ∧ DpAll K (msk M H) xs ds := by
  rcases h with h | ⟨rfl, a, vs, rfl, _, h1, h2⟩
  · cases b with
    | true =>
      simp only [if_true] at h
      cases h with
      | lst h1 h2 => exact ⟨_, _, rfl, ex_l msk_ex h1, h2⟩
    | false =>
      simp only [Bool.false_eq_true, if_false] at h
      cases h with
      | tup h1 h2 => exact ⟨_, _, rfl, ex_t msk_ex h1, h2⟩
  · exact ⟨a, vs, rfl, sq_of h1, h2⟩
theorem SeqR.ex2 {K : PySem.W.Frag} {M : Addr → Prop} {as : List Addr} {H : Hp} {v : V} {b : Bool} {ds : List PyData} (h : SeqR K M as H v b ds) : ∃ p xs, v = .ref p ∧ (SqL K H p xs ∨ SqT K H p xs) ∧ DpAll K (msk M H) xs ds := by
  obtain ⟨p, xs, e, h1, h2⟩ := h.ex
  refine ⟨p, xs, e, ?_, h2⟩
  cases b with
  | true => exact .inl h1
  | false => exact .inr h1
theorem pq_var {i : Nat} (h : PE X e (tVar i)) : PE X e (liftQ X.K Ps (dVarQ i)) := pe_weak h fun σ H Q ⟨c, hs, as, σd, Qd, S, hd, k⟩ => by
  unfold dVarQ at hd
  split at hd
  · rename_i ds q
    obtain ⟨v, h1, h2⟩ := S.slot i _ q
    exact ⟨v, h1, k true ds v H hd Step.refl (.inl h2)⟩
  · rename_i ds q
    obtain ⟨v, h1, h2⟩ := S.slot i _ q
    exact ⟨v, h1, k false ds v H hd Step.refl (.inl h2)⟩
  · rename_i ds q
    obtain ⟨v, h1, a, vs, rfl, ha, h2, h3⟩ := S.slot i _ q
    exact ⟨_, h1, k true ds _ H hd Step.refl (.inr ⟨rfl, a, vs, rfl, ha, h2, h3⟩)⟩
  · exact hd.elim
def dSeqE (de : DE) : DQ := fun σ Q => de σ fun d => match d with
  | .list ds => Q true ds
  | .tuple ds => Q false ds
  | _ => False
theorem pq_dat {de : DE} (h : PE X e (lift X.K Ps de)) : PE X e (liftQ X.K Ps (dSeqE de)) := pe_weak h fun σ H Q ⟨c, hs, as, σd, Qd, S, hd, k⟩ =>
  ⟨c, hs, as, σd, _, S, hd, fun d v H' hq st r => by
    split at hq
    · exact k true _ v H' hq st (.inl r)
    · exact k false _ v H' hq st (.inl r)
    · exact hq.elim⟩
/-- x[i] -/
def rIxS (K : PySem.W.Frag) : R2 := fun x y H Q => ∃ p i xs v, x = .ref p ∧ y = .int i ∧ (SqL K H p xs ∨ SqT K H p xs) ∧ atI xs i = some v ∧ Q v H
theorem ix_S : IxR X (rIxS X.K) := by
  intro value slice pins s σ H x y v u Q I rx ry h hs
  obtain ⟨p, i, xs, z, ex, ey, e, ha, q⟩ := h
  rcases e with hl | ht
  · exact ix_list value slice pins s σ H x y v u Q I rx ry ⟨p, xs, i, z, ex, ey, hl, ha, q⟩ hs
  · exact ix_tup value slice pins s σ H x y v u Q I rx ry ⟨p, xs, i, z, ex, ey, ht, ha, q⟩ hs
theorem dpAll_atI {K : PySem.W.Frag} {H : Hp} {vs : List V} {ds : List PyData} {i : Int} {d : PyData} (h : DpAll K H vs ds) (e : atI ds i = some d) : ∃ v, atI vs i = some v ∧ Dp K H v d := by
  unfold atI at e ⊢
  rw [h.len]
  obtain ⟨j, e1, e2⟩ := Option.bind_eq_some_iff.mp e
  obtain ⟨v, e3, e4⟩ := h.get e2
  exact ⟨v, Option.bind_eq_some_iff.mpr ⟨j, e1, e3⟩, e4⟩
def dIx (dq : DQ) (di : DE) : DE := fun σ Q => dq σ fun _ ds => di σ fun x => match x with
  | .int i => match atI ds i with
    | some d => Q d
    | none => False
  | _ => False
theorem pd_ix {dq : DQ} {di : DE} (ha : PE X a (liftQ X.K Ps dq)) (hb : PE X b (lift X.K Ps di)) (hs : PlainIx b) : PE X (.Subscript a b pos) (lift X.K Ps (dIx dq di)) := pe_weak (pe_ix ix_S ha hb hs) fun σ H Q ⟨c, hs, as, σd, Qd, S, hd, k⟩ =>
  ⟨c, hs, as, σd, _, S, hd, fun bb ds v H1 h1 s1 r1 => ⟨c, hs, as, σd, _, S.step s1, h1, fun x w H2 h2 s2 r2 => by
    split at h2
    · rename_i i
      split at h2
      · rename_i d q
        cases r2
        obtain ⟨p, xs, rfl, h3, h4⟩ := (r1.step (S.step s1).fr s2).ex2
        obtain ⟨z, h5, h6⟩ := dpAll_atI h4 q
        exact ⟨p, i, xs, z, rfl, rfl, h3, h5, k _ _ _ h2 (s1.trans s2) h6⟩
      · exact h2.elim
    · exact h2.elim⟩⟩
/-! ### built-ins of one list or tuple -/
def OpQ (K : PySem.W.Frag) (Ps : TX) (r : List V → Hp → VK → Prop) (f : Bool → List PyData → (PyData → Prop) → Prop) : Prop := ∀ (M : Addr → Prop) (hs : List Addr) (H : Hp) (p : Addr) (xs : List V) (b : Bool) (ds : List PyData) (Qd : PyData → Prop) (Q : VK),
  Wf Ps M hs H → (if b then SqL K H p xs else SqT K H p xs) → DpAll K (msk M H) xs ds → f b ds Qd → (∀ d z H', Qd d → Step hs Ps H H' → Dp K (msk M H') z d → Q z H') → r [.ref p] H Q
def dOpQ (f : Bool → List PyData → (PyData → Prop) → Prop) (dq : DQ) : DE := fun σ Q => dq σ fun b ds => f b ds Q
theorem lift_opQ {r : List V → Hp → VK → Prop} {f : Bool → List PyData → (PyData → Prop) → Prop} {dq : DQ} {σ : L2.St} {H : Hp} {Q : VK} (ho : OpQ X.K Ps r f) (h : lift X.K Ps (dOpQ f dq) σ H Q) : tCB r (tCons (liftQ X.K Ps dq) tNil) σ H Q := by
  obtain ⟨c, hs, as, σd, Qd, S, hd, k⟩ := h
  refine ⟨c, hs, as, σd, _, S, hd, fun b ds v H1 h1 s1 r1 => ?_⟩
  obtain ⟨p, xs, rfl, h3, h4⟩ := r1.ex
  exact ho _ hs H1 p xs b ds Qd Q (S.step s1).fr.wf h3 h4 h1 fun d z H' h s r => k d z H' h (s1.trans s) r
/-- len -/
def fLen : Bool → List PyData → (PyData → Prop) → Prop := fun _ ds Q => Q (.int ds.length)
theorem opq_len {K : PySem.W.Frag} : OpQ K Ps (fun xs H Q => ∃ p ys, xs = [.ref p] ∧ (SqL K H p ys ∨ SqT K H p ys) ∧ Q (.int ys.length) H) fLen := by
  intro M hs H p xs b ds Qd Q wf h1 h2 h k
  refine ⟨p, xs, rfl, ?_, k _ _ H h Step.refl (by rw [h2.len]; exact .int _)⟩
  cases b with
  | true => exact .inl h1
  | false => exact .inr h1
end
end Dl
end
section
set_option Elab.async false
set_option linter.all false
set_option maxRecDepth 100000
set_option maxHeartbeats 1000000
namespace Dl
open PySem PySem.Spec PyProof.Rows L2 HbE Evl
variable [LmV.LamTable]
/-! ### statements -/
structure ED where
  nx : Sd → Prop
  rt : PyData → Prop := fun _ => False
  bk : Sd → Prop := fun _ => False
  ct : Sd → Prop := fun _ => False
abbrev DS := ED → Sd → Prop
structure Rfn (K : PySem.W.Frag) (Ps : TX) (c : C0) (Dd : ED) (D : Ends) : Prop where
  nx : ∀ hs as σ H σd, Sts K Ps c hs as σ H σd → Dd.nx σd → D.nx σ H
  rt : ∀ v H d, Step c.hs0 Ps c.H0 H → Dp K (msk c.M0 H) v d → Dd.rt d → D.rt v H
  bk : ∀ hs as σ H σd, Sts K Ps c hs as σ H σd → Dd.bk σd → D.bk σ H
  ct : ∀ hs as σ H σd, Sts K Ps c hs as σ H σd → Dd.ct σd → D.ct σ H
def liftS (K : PySem.W.Frag) (Ps : TX) (ds : DS) : TS := fun D σ H => ∃ c hs as σd Dd, Sts K Ps c hs as σ H σd ∧ ds Dd σd ∧ Rfn K Ps c Dd D
theorem ps_weak {X : Cx} {e : Stmt} {te te' : TS} (h : PS X e te) (k : ∀ D σ H, te' D σ H → te D σ H) : PS X e te' := ⟨fun pins s σ H D I q => h.run pins s σ H D I (k D σ H q)⟩
theorem pss_weak {X : Cx} {e : List Stmt} {te te' : TS} (h : PSs X e te) (k : ∀ D σ H, te' D σ H → te D σ H) : PSs X e te' := ⟨fun pins s σ H D I q => h.run pins s σ H D I (k D σ H q)⟩
section
variable {K : PySem.W.Frag} {Ps : TX} {c : C0} {hs as : List Addr} {H H' : Hp} {σ : L2.St} {σd : Sd} {i : Nat} {v : V} {p a : Addr}
theorem none_of (f : Fr Ps c hs as H) (s : Step hs Ps H H') (hp : H' p = none) : H p = none := by
  cases z : H p with
  | none => rfl
  | some o => exact absurd hp (s.some f.wf (by rw [z]; simp))
theorem set_get {α : Type} {l : List (Option α)} {i j : Nat} {x w : α} (h : (l.set i (some x))[j]? = some (some w)) : (i = j ∧ x = w) ∨ (i ≠ j ∧ l[j]? = some (some w)) := by
  by_cases e : i = j
  · subst e
    by_cases hl : i < l.length
    · rw [List.getElem?_set_self hl] at h
      cases h
      exact .inl ⟨rfl, rfl⟩
    · rw [List.getElem?_eq_none (by rw [List.length_set]; omega)] at h
      cases h
  · rw [List.getElem?_set_ne e] at h
    exact .inr ⟨e, h⟩
theorem set_has {α : Type} {l : List (Option α)} {m : List (Option WD)} {i : Nat} {x : α} {y w : WD} (hl : l.length = m.length) (h : (m.set i (some y))[i]? = some (some w)) : (l.set i (some x))[i]? = some (some x) := by
  have : i < m.length := by
    by_cases h2 : i < m.length
    · exact h2
    · rw [List.getElem?_eq_none (by rw [List.length_set]; omega)] at h
      cases h
  rw [List.getElem?_set_self (by omega)]
theorem Sts.set (S : Sts K Ps c hs as σ H σd) (w : WD) (hw : ∀ ds, w ≠ .own ds) (h : VR K (Mk c hs as) hs as H v w) : Sts K Ps c hs as (σ.set i (some v)) H (σd.set i (some w)) := by
  refine ⟨S.fr, by simp [S.len], fun j w2 e => ?_, fun j k ds es n e1 e2 => ?_, S.xo⟩
  · rcases set_get e with ⟨rfl, rfl⟩ | ⟨n, e⟩
    · exact ⟨v, set_has S.len ‹_›, h⟩
    · rw [List.getElem?_set_ne n]
      exact S.slot j w2 e
  · rcases set_get e1 with ⟨_, z⟩ | ⟨n1, e1⟩
    · exact absurd z (hw _)
    · rcases set_get e2 with ⟨_, z⟩ | ⟨n2, e2⟩
      · exact absurd z (hw _)
      · rw [List.getElem?_set_ne n1, List.getElem?_set_ne n2]
        exact S.dis j k ds es n e1 e2
theorem ex_own (f : Fr Ps c hs as H) (s : Step hs Ps H H') (hp : H p = none) : Ex (msk (Mk c hs as) H) (msk (Mk c hs (p :: as)) H') := fun b o e => by
  obtain ⟨n, e1⟩ := msk_some.mp (f.wf.ex s b o e)
  have nb : b ≠ p := fun z => by
    have := (msk_some.mp e).2
    rw [z, hp] at this
    cases this
  refine msk_some.mpr ⟨fun m => ?_, e1⟩
  rcases m with m | m | m
  · exact n (.inl m)
  · exact n (.inr (.inl m))
  · rcases List.mem_cons.mp m with z | z
    · exact nb z
    · exact n (.inr (.inr z))
/-- a new list, alone the def's -/
theorem Sts.new {vs : List V} {ds : List PyData} (S : Sts K Ps c hs as σ H σd) (s : Step hs Ps H H') (hp : H p = none) (h' : H' p = some (.lst vs)) (h : DpAll K (msk (Mk c hs (p :: as)) H') vs ds) :
    Sts K Ps c hs (p :: as) (σ.set i (some (.ref p))) H' (σd.set i (some (.own ds))) := by
  have T := S.step s
  have f := S.fr
  have f' : Fr Ps c hs (p :: as) H' := ⟨f.wf0, T.fr.st, T.fr.hat, f.sub, fun b hb => by
    rcases List.mem_cons.mp hb with rfl | hb
    · refine ⟨?_, by rw [h']; simp, fun z => ?_, fun z => ?_⟩
      · cases q : c.H0 b with
        | none => rfl
        | some o => exact absurd hp (f.st.some f.wf0 (by rw [q]; simp))
      · obtain ⟨o, e, _⟩ := (f.hat b z).1
        rw [hp] at e; cases e
      · obtain ⟨ps, e⟩ := f.wf.tbl z
        rw [hp] at e; cases e
    · exact T.fr.own b hb, f.bs.trans (ex_own (p := p) f s hp)⟩
  have e := ex_own (p := p) f s hp
  have old : ∀ (v : V) (w : WD), VR K (Mk c hs as) hs as H v w → VR K (Mk c hs (p :: as)) hs (p :: as) H' v w := fun v w q => by
    cases w with
    | dat d => exact dp_mono e q
    | own es =>
      obtain ⟨a, us, rfl, ha, h1, h2⟩ := q
      exact ⟨a, us, rfl, List.mem_cons_of_mem _ ha, s.keep a _ h1 (f.own a ha).2.2.1 (f.own a ha).2.2.2, dpAll_mono e h2⟩
    | hat => exact q
    | fn _ => exact q
    | lam _ =>
      obtain ⟨f1, c1, rfl, g1, g2⟩ := q
      exact ⟨f1, c1, rfl, e _ _ g1, e _ _ g2⟩
  have notp : ∀ (j : Nat) (es : List PyData), σd[j]? = some (some (.own es)) → σ[j]? ≠ some (some (.ref p)) := fun j es q z => by
    obtain ⟨v, h1, a, us, rfl, ha, h2, _⟩ := S.slot j _ q
    rw [h1] at z
    cases z
    rw [hp] at h2; cases h2
  refine ⟨f', by simp [S.len], fun j w2 e => ?_, fun j k es fs n e1 e2 => ?_, S.xo⟩
  · rcases set_get e with ⟨rfl, rfl⟩ | ⟨n, e⟩
    · exact ⟨_, set_has S.len ‹_›, p, vs, rfl, List.mem_cons_self, h', h⟩
    · rw [List.getElem?_set_ne n]
      obtain ⟨v, h1, h2⟩ := S.slot j w2 e
      exact ⟨v, h1, old v w2 h2⟩
  · rcases set_get e1 with ⟨r1, z⟩ | ⟨n1, e1'⟩
    · rcases set_get e2 with ⟨r2, z⟩ | ⟨n2, e2'⟩
      · exact absurd (r1.symm.trans r2) n
      · subst r1
        rw [set_has (x := V.ref p) S.len e1, List.getElem?_set_ne n2]
        exact fun z => notp k fs e2' z.symm
    · rcases set_get e2 with ⟨r2, z⟩ | ⟨n2, e2'⟩
      · subst r2
        rw [set_has (x := V.ref p) S.len e2, List.getElem?_set_ne n1]
        exact notp j es e1'
      · rw [List.getElem?_set_ne n1, List.getElem?_set_ne n2]
        exact S.dis j k es fs n e1' e2'
/-- the def's own list changes -/
theorem Sts.chg {vs' : List V} {ds ds' : List PyData} (S : Sts K Ps c hs as σ H σd) (hi : σd[i]? = some (some (.own ds))) (ha : σ[i]? = some (some (.ref a))) (h : DpAll K (msk (Mk c hs as) H) vs' ds') :
    Sts K Ps c hs as σ (upd H a (.lst vs')) (σd.set i (some (.own ds'))) := by
  obtain ⟨v, h1, b, vs, rfl, hb, h2, h3⟩ := S.slot i _ hi
  rw [ha] at h1
  cases h1
  have f := S.fr
  obtain ⟨o1, o2, o3, o4⟩ := f.own a hb
  have nh : ∀ p ∈ hs, p ≠ a := fun p hp z => o3 (z ▸ hp)
  have nP : ∀ p ∈ Ps.l, p.1 ≠ a := fun p hp z => o4 (z ▸ ad_of hp)
  have up : ∀ b, b ≠ a → upd H a (.lst vs') b = H b := fun b n => upd_ne n
  have ex : Ex (msk (Mk c hs as) H) (msk (Mk c hs as) (upd H a (.lst vs'))) := fun x o e => by
    obtain ⟨n, e⟩ := msk_some.mp e
    exact msk_some.mpr ⟨n, by rw [up x fun z => n (.inr (.inr (z ▸ hb)))]; exact e⟩
  have f' : Fr Ps c hs as (upd H a (.lst vs')) := ⟨f.wf0, ⟨fun x o e n m => by rw [up x fun z => by rw [z, o1] at e; cases e]; exact f.st.keep x o e n m, fun p hp e => by rw [up p (nh p (f.sub p hp))]; exact (f.hat p (f.sub p hp)).1,
      fun P hP e => by
        exact (f.wf.tab P hP).2.keep (up P.1 (nP P hP)) fun c q z => by rw [up c fun y => codeO_lst (by rw [← y] at h2; exact Option.some.inj (z.symm.trans h2))]; exact z⟩,
    fun p hp => by rw [up p (nh p hp)]; exact f.hat p hp, f.sub, fun x hx => by
      refine ⟨(f.own x hx).1, ?_, (f.own x hx).2.2⟩
      by_cases z : x = a
      · rw [z, upd_same]; simp
      · rw [up x z]; exact (f.own x hx).2.1, f.bs.trans ex⟩
  have il : i < σ.length := by
    have := List.getElem?_eq_some_iff.mp ha
    exact this.1
  refine ⟨f', by simp [S.len], fun j w2 e => ?_, fun j k es fs n e1 e2 => ?_, S.xo⟩
  · rcases set_get e with ⟨rfl, rfl⟩ | ⟨n, e⟩
    · exact ⟨_, ha, a, vs', rfl, hb, upd_same, dpAll_mono ex h⟩
    · obtain ⟨v, q1, q2⟩ := S.slot j w2 e
      refine ⟨v, q1, ?_⟩
      cases w2 with
      | dat d => exact dp_mono ex q2
      | own es =>
        obtain ⟨x, us, rfl, hx, r1, r2⟩ := q2
        have nx : x ≠ a := fun z => S.dis i j ds es n hi e (by rw [ha, q1, z])
        exact ⟨x, us, rfl, hx, by rw [up x nx]; exact r1, dpAll_mono ex r2⟩
      | hat => exact q2
      | fn _ => exact q2
      | lam _ =>
        obtain ⟨f1, c1, rfl, g1, g2⟩ := q2
        exact ⟨f1, c1, rfl, ex _ _ g1, ex _ _ g2⟩
  · rcases set_get e1 with ⟨rfl, z⟩ | ⟨n1, e1'⟩
    · rcases set_get e2 with ⟨rfl, z⟩ | ⟨n2, e2'⟩
      · exact absurd rfl n
      · exact S.dis i k ds fs n hi e2'
    · rcases set_get e2 with ⟨rfl, z⟩ | ⟨n2, e2'⟩
      · exact S.dis j i es ds n e1' hi
      · exact S.dis j k es fs n e1' e2'
end
section
variable {X : Cx} {Ps : TX} {e a b o : PySem.Expr} {es : List PySem.Expr} {pos : Pos} {st : Stmt} {rest : List Stmt} {t u : DS} {de : DE}
def dNext : DS := fun D σ => D.nx σ
def dSeq (t u : DS) : DS := fun D σ => t { D with nx := u D } σ
theorem psd_nil : PSs X [] (liftS X.K Ps dNext) := pss_weak pss_nil fun D σ H ⟨c, hs, as, σd, Dd, S, h, r⟩ => r.nx hs as σ H σd S h
theorem psd_cons (h1 : PS X st (liftS X.K Ps t)) (h2 : PSs X rest (liftS X.K Ps u)) : PSs X (st :: rest) (liftS X.K Ps (dSeq t u)) := pss_weak (pss_cons h1 h2) fun D σ H ⟨c, hs, as, σd, Dd, S, h, r⟩ =>
  ⟨c, hs, as, σd, _, S, h, ⟨fun hs' as' σ' H' σd' S' h' => ⟨c, hs', as', σd', Dd, S', h', r⟩, r.rt, r.bk, r.ct⟩⟩
theorem psd_one (h1 : PS X st (liftS X.K Ps t)) : PSs X [st] (liftS X.K Ps t) := pss_one h1
def dRet (de : DE) : DS := fun D σ => de σ D.rt
theorem Sts.ret {K : PySem.W.Frag} {c : C0} {hs as : List Addr} {σ : L2.St} {H H' : Hp} {σd : Sd} (S : Sts K Ps c hs as σ H σd) (s : Step hs Ps H H') : Step c.hs0 Ps c.H0 H' := (S.step s).fr.st
theorem less_mk {K : PySem.W.Frag} {c : C0} {hs as : List Addr} {H : Hp} {v : V} {d : PyData} (h : Dp K (msk (Mk c hs as) H) v d) : Dp K (msk c.M0 H) v d := dp_mono (msk_less fun _ m => .inl m) h
theorem psd_ret (h : PE X e (lift X.K Ps de)) : PS X (.Return (some e) pos) (liftS X.K Ps (dRet de)) := ps_weak (ps_ret h) fun D σ H ⟨c, hs, as, σd, Dd, S, h, r⟩ =>
  ⟨c, hs, as, σd, _, S, h, fun d v H' hd s q => r.rt v H' d (S.ret s) (less_mk q) hd⟩
/-- return of the def's own list -/
def dRetO (i : Nat) : DS := fun D σ => match σ[i]? with
  | some (some (.own ds)) => D.rt (.list ds)
  | _ => False
def dIf (c : DT) (t u : DS) : DS := fun D σ => c σ fun b => if b = true then t D σ else u D σ
theorem psd_if {cnd : PySem.Expr} {ab bb : List Stmt} {tc : DT} (hc : PT X cnd (liftT X.K Ps tc)) (ha : PSs X ab (liftS X.K Ps t)) (hb : PSs X bb (liftS X.K Ps u)) : PS X (.If cnd ab bb pos) (liftS X.K Ps (dIf tc t u)) :=
  ps_weak (ps_if hc ha hb) fun D σ H ⟨c, hs, as, σd, Dd, S, h, r⟩ => ⟨c, hs, as, σd, _, S, h, fun bl H1 h1 s1 => by
    cases bl with
    | true => exact ⟨c, hs, as, σd, Dd, S.step s1, h1, r⟩
    | false => exact ⟨c, hs, as, σd, Dd, S.step s1, h1, r⟩⟩
/-- x = e -/
def dSet (i : Nat) (de : DE) : DS := fun D σ => de σ fun d => D.nx (σ.set i (some (.dat d)))
theorem lift_set {i : Nat} {D : Ends} {σ : L2.St} {H : Hp} (h : liftS X.K Ps (dSet i de) D σ H) : tAsg (lift X.K Ps de) (gName i) D σ H := by
  obtain ⟨c, hs, as, σd, Dd, S, h, r⟩ := h
  exact ⟨c, hs, as, σd, _, S, h, fun d v H1 h1 s1 r1 => r.nx hs as _ H1 _ ((S.step s1).set (.dat d) (fun _ z => by cases z) r1) h1⟩
/-- x = a new list that the def changes later -/
def dSetO (i : Nat) (dl : DL) : DS := fun D σ => dl σ fun ds => D.nx (σ.set i (some (.own ds)))
theorem lift_setO {i : Nat} {dl : DL} {D : Ends} {σ : L2.St} {H : Hp} (h : liftS X.K Ps (dSetO i dl) D σ H) : tAsg (liftN X.K Ps dl) (gName i) D σ H := by
  obtain ⟨c, hs, as, σd, Dd, S, h, r⟩ := h
  exact ⟨c, hs, as, σd, _, S, h, fun ds p vs H1 h1 s1 hp h2 h3 => r.nx hs (p :: as) _ H1 _ (S.new s1 hp h2 h3) h1⟩
section
variable {i : Nat} {x : Str} {pos' : Pos}
theorem psd_set (hN : X.N.Nodup) (hi : X.N[i]? = some x) (hx : Loc X.env.scope x) (he : PE X e (lift X.K Ps de)) (hs : swapsWith e (some (.Name x pos')) pos.line X.env = pure false := by rfl) (hf : X.fn x = true ∨ X.env.scope.names.lookup x = some .local := by first | exact .inl rfl | exact .inr rfl | assumption) :
    PS X (.Assign [.Name x pos'] e pos) (liftS X.K Ps (dSet i de)) := ps_weak (ps_set hN hi hx he hs hf) fun _ _ _ => lift_set
theorem psd_setO {dl : DL} (hN : X.N.Nodup) (hi : X.N[i]? = some x) (hx : Loc X.env.scope x) (he : PE X e (liftN X.K Ps dl)) (hs : swapsWith e (some (.Name x pos')) pos.line X.env = pure false := by rfl) (hf : X.fn x = true ∨ X.env.scope.names.lookup x = some .local := by first | exact .inl rfl | exact .inr rfl | assumption) :
    PS X (.Assign [.Name x pos'] e pos) (liftS X.K Ps (dSetO i dl)) := ps_weak (ps_set hN hi hx he hs hf) fun _ _ _ => lift_setO
/-- x op= e, of ints -/
def dAug (i : Nat) (f : Int → Int → Int) (de : DE) : DS := fun D σ => match σ[i]? with
  | some (some (.dat (.int n))) => de σ fun d => match d with
    | .int m => D.nx (σ.set i (some (.dat (.int (f n m)))))
    | _ => False
  | _ => False
end
/-- an expression alone -/
def dDrop (de : DE) : DS := fun D σ => de σ fun _ => D.nx σ
theorem psd_expr (he : PE X e (lift X.K Ps de)) (hs : swapsWith e none pos.line X.env = pure false := by rfl) : PS X (.Expr e pos) (liftS X.K Ps (dDrop de)) := ps_weak (ps_expr he hs) fun D σ H ⟨c, hs, as, σd, Dd, S, h, r⟩ =>
  ⟨c, hs, as, σd, _, S, h, fun d v H1 h1 s1 _ => r.nx hs as _ H1 _ (S.step s1) h1⟩
/-- found.append(e) -/
def dApp (i : Nat) (de : DE) : DS := fun D σ => match σ[i]? with
  | some (some (.own ds)) => de σ fun d => ds.length < 100000 ∧ D.nx (σ.set i (some (.own (ds ++ [d]))))
  | _ => False
theorem lift_app {i : Nat} {D : Ends} {σ : L2.St} {H : Hp} (h : liftS X.K Ps (dApp i de) D σ H) : tDrop (tBM X.K "list" rAppend (tVar i) (tCons (lift X.K Ps de) tNil)) D σ H := by
  obtain ⟨c, hs, as, σd, Dd, S, h, r⟩ := h
  unfold dApp at h
  split at h
  · rename_i ds q
    obtain ⟨v, h1, a, vs, rfl, ha, h2, h3⟩ := S.slot i _ q
    refine ⟨_, h1, .inl ⟨rfl, vs, sq_of h2⟩, c, hs, as, σd, _, S, h, fun d w H1 h4 s1 r1 => ?_⟩
    have T := S.step s1
    have e1 : H1 a = some (.lst vs) := s1.keep a _ h2 (S.fr.own a ha).2.2.1 (S.fr.own a ha).2.2.2
    have e3 := dpAll_mono (S.fr.wf.ex s1) h3
    exact ⟨a, vs, w, rfl, rfl, e1, sz_lt (by rw [h3.len]; exact h4.1), r.nx hs as _ _ _ (T.chg q h1 (e3.app (.cons r1 .nil))) h4.2⟩
  · exact h.elim
/-- counts[k] = e -/
def dPut (i : Nat) (di de : DE) : DS := fun D σ => match σ[i]? with
  | some (some (.own ds)) => de σ fun d => di σ fun x => match x with
    | .int k => match ixN ds.length k with
      | some j => D.nx (σ.set i (some (.own (ds.set j d))))
      | none => False
    | _ => False
  | _ => False
/-- a list that is changed no more -/
def dFrz (i : Nat) (t : DS) : DS := fun D σ => match σ[i]? with
  | some (some (.own ds)) => t D (σ.set i (some (.dat (.list ds))))
  | _ => False
end
section
variable {K : PySem.W.Frag} {Ps : TX} {c : C0} {hs as : List Addr} {H H' : Hp} {σ : L2.St} {σd : Sd} {i : Nat}
theorem Sts.frz {ds : List PyData} (S : Sts K Ps c hs as σ H σd) (hi : σd[i]? = some (some (.own ds))) : ∃ as', Sts K Ps c hs as' σ H (σd.set i (some (.dat (.list ds)))) := by
  obtain ⟨v, h1, a, vs, rfl, ha, h2, h3⟩ := S.slot i _ hi
  have f := S.fr
  have ex : Ex (msk (Mk c hs as) H) (msk (Mk c hs (as.filter (· ≠ a))) H) := msk_less fun x m => by
    rcases m with m | m | m
    · exact .inl m
    · exact .inr (.inl m)
    · exact .inr (.inr ((List.mem_filter.mp m).1))
  have na : ¬ Mk c hs (as.filter (· ≠ a)) a := fun m => by
    rcases m with m | m | m
    · exact f.wf0.al a m (f.own a ha).1
    · exact (f.own a ha).2.2.1 m
    · have := (List.mem_filter.mp m).2
      simp at this
  refine ⟨as.filter (· ≠ a), ⟨f.wf0, f.st, f.hat, f.sub, fun b hb => f.own b ((List.mem_filter.mp hb).1), f.bs.trans ex⟩, by simp [S.len], fun j w e => ?_, fun j k es fs n e1 e2 => ?_, S.xo⟩
  · rcases set_get e with ⟨rfl, rfl⟩ | ⟨n, e⟩
    · exact ⟨_, h1, .lst (.inl (.inl (msk_some.mpr ⟨na, h2⟩))) (dpAll_mono ex h3)⟩
    · obtain ⟨v, q1, q2⟩ := S.slot j w e
      refine ⟨v, q1, ?_⟩
      cases w with
      | dat d => exact dp_mono ex q2
      | own es =>
        obtain ⟨x, us, rfl, hx, r1, r2⟩ := q2
        have nx : x ≠ a := fun z => S.dis i j ds es n hi e (by rw [h1, q1, z])
        exact ⟨x, us, rfl, List.mem_filter.mpr ⟨hx, by simpa using nx⟩, r1, dpAll_mono ex r2⟩
      | hat => exact q2
      | fn _ => exact q2
      | lam _ =>
        obtain ⟨f1, c1, rfl, g1, g2⟩ := q2
        exact ⟨f1, c1, rfl, ex _ _ g1, ex _ _ g2⟩
  · rcases set_get e1 with ⟨_, z⟩ | ⟨n1, e1'⟩
    · cases z
    · rcases set_get e2 with ⟨_, z⟩ | ⟨n2, e2'⟩
      · cases z
      · exact S.dis j k es fs n e1' e2'
end
section
variable {X : Cx} {Ps : TX} {st : Stmt} {rest : List Stmt} {t : DS}
theorem pss_frz {i : Nat} (h : PSs X rest (liftS X.K Ps t)) : PSs X rest (liftS X.K Ps (dFrz i t)) := pss_weak h fun D σ H ⟨c, hs, as, σd, Dd, S, h, r⟩ => by
  unfold dFrz at h
  split at h
  · rename_i ds q
    obtain ⟨as', T⟩ := S.frz q
    exact ⟨c, hs, as', _, Dd, T, h, r⟩
  · exact h.elim
end
/-! ### a def's promise -/
def startD (n : Nat) (ws : List WD) : Sd := ws.map some ++ List.replicate (n - ws.length) none
section
variable {P : Program} {w : World} {K : PySem.W.Frag} {mg : Str → Option Value} {base : Heap} {Ps : TX}
theorem paired_len {α β : Type} {R : α → β → Prop} : ∀ {xs : List α} {ys : List β}, Paired R xs ys → xs.length = ys.length
  | _, _, .nil => rfl
  | _, _, .cons _ h => by simp [paired_len h]
theorem paired_at {α β : Type} {R : α → β → Prop} : ∀ {xs : List α} {ys : List β} {i : Nat} {y : β}, Paired R xs ys → ys[i]? = some y → ∃ x, xs[i]? = some x ∧ R x y
  | _, _, _, _, .nil, e => by simp at e
  | _, _, 0, _, .cons r _, e => by simp at e; subst e; exact ⟨_, rfl, r⟩
  | _, _, i + 1, _, .cons _ h, e => by simpa using paired_at h (by simpa using e)
theorem sts_start {Ps : TX} {M : Addr → Prop} {hs : List Addr} {H : Hp} {vs : List V} {ws : List WD} {n : Nat} (N : List Str) (hN : N.length = n) (wf : Wf Ps M hs H) (p : Paired (VR K M hs [] H) vs ws) (xo : XOk K Ps ⟨hs, M, H, msk M H⟩) : Sts K Ps ⟨hs, M, H, msk M H⟩ hs [] (start N vs) H (startD n ws) := by
  have len := paired_len p
  have em : Mk ⟨hs, M, H, msk M H⟩ hs [] = M := by
    funext a
    apply propext
    constructor
    · intro m
      rcases m with m | m | m
      · exact m
      · exact (wf.hat a m).1
      · cases m
    · exact fun m => .inl m
  refine ⟨⟨wf, Step.refl, fun p hp => ⟨(wf.hat p hp).2, .inl hp⟩, fun p hp => hp, fun a ha => (by cases ha), by rw [em]; exact Ex.refl _⟩, ?_, fun i wd e => ?_, fun i j ds es n e1 e2 => ?_, xo⟩
  · unfold L2.start startD
    simp [len, hN]
  · unfold startD at e
    have hi : i < ws.length := by
      by_cases h : i < ws.length
      · exact h
      · rw [List.getElem?_append_right (by simp; omega)] at e
        by_cases h2 : i - (ws.map some).length < n - ws.length
        · rw [List.getElem?_replicate] at e
          split at e <;> cases e
        · rw [List.getElem?_eq_none (by simp at h2 ⊢; omega)] at e
          cases e
    rw [List.getElem?_append_left (by simpa using hi), List.getElem?_map] at e
    cases q : ws[i]? with
    | none => rw [q] at e; cases e
    | some wd' =>
      rw [q] at e
      cases e
      obtain ⟨v, h1, h2⟩ := paired_at p q
      refine ⟨v, ?_, by rw [em]; exact h2⟩
      unfold L2.start
      rw [List.getElem?_append_left (by simp; omega), List.getElem?_map, h1]
      rfl
  · exfalso
    unfold startD at e1
    have hi : i < ws.length := by
      by_cases h : i < ws.length
      · exact h
      · rw [List.getElem?_append_right (by simp; omega)] at e1
        rw [List.getElem?_replicate] at e1
        split at e1 <;> cases e1
    rw [List.getElem?_append_left (by simpa using hi), List.getElem?_map] at e1
    cases q : ws[i]? with
    | none => rw [q] at e1; cases e1
    | some wd' =>
      rw [q] at e1
      cases e1
      obtain ⟨v, _, h2⟩ := paired_at p q
      obtain ⟨_, _, _, z, _⟩ := h2
      cases z
/-- no exception leaves -/
abbrev tx0 (l : TbL) : TX := ⟨l, fun _ => False, fun _ _ _ => False⟩
theorem okD {Ps : TbL} {x qual : Str} {st : Stmt} {f : Addr} {fd : FuncData} {N ps : List Str} {k : Nat} {SD : DSp} (F : Fun K x qual st f fd) (S : FnScope N ps (defScope st)) (len : ∀ ws Q, SD ws Q → ws.length = ps.length)
    (body : ∀ (cdv : Value) (A : Around) (outer : List Env) (s : Shared) (H : Hp) (E : XK), Room k (A.deeper (envOfC qual (defScope st) s.heap.objs.size f cdv)) →
      ∃ db, PSs (cxOf CX0 P w K mg base N qual (defScope st) f cdv A outer s H E).nox (defBody st) (liftS K (tx0 Ps) db) ∧ ∀ ws Qd, SD ws Qd → db { nx := fun _ => Qd .none, rt := Qd } (startD N.length ws)) :
    FnOk P w K mg base CX0 (k + 1) f fd ps (spOf K Ps SD) := by
  refine F.ok S (fun vs H Q E h => ?_) (fun cdv A outer s H vs Q E hr h => ?_)
  · obtain ⟨M, hs, ws, Qd, wf, p, s, _⟩ := h
    rw [paired_len p]
    exact len ws Qd s
  · obtain ⟨db, h1, h2⟩ := body cdv A outer s H E hr
    obtain ⟨M, hs, ws, Qd, wf, p, sd, k⟩ := h
    refine ⟨_, h1, ⟨hs, M, H, msk M H⟩, hs, [], _, _, sts_start N rfl wf p (fun _ _ _ _ h => h.elim), h2 ws Qd sd, fun hs' as' σ' H' σd' T h => ?_, fun v H' d s q h => k d v H' h s q, fun _ _ _ _ _ _ h => h.elim, fun _ _ _ _ _ _ h => h.elim⟩
    exact k .none .non H' h T.fr.st .non
end
end Dl
end
section
set_option Elab.async false
set_option linter.all false
set_option maxRecDepth 100000
set_option maxHeartbeats 1000000
namespace Dl
open PySem PySem.Spec PyProof.Rows L2 HbE Evl
variable [LmV.LamTable]
/-! ### targets -/
abbrev DG := PyData → Sd → (Sd → Prop) → Prop
abbrev DGs := List PyData → Sd → (Sd → Prop) → Prop
def liftG (K : PySem.W.Frag) (Ps : TX) (ts : List Nat) (dg : DG) : TG := fun v σ H Q => ∃ c hs as σd d Qd, Sts K Ps c hs as σ H σd ∧ Dp K (msk (Mk c hs as) H) v d ∧ dg d σd Qd ∧ ∀ σ' σd', Sts K Ps c hs as σ' H σd' → wipe σ' ts = wipe σ ts → Qd σd' → Q σ' H
def liftGs (K : PySem.W.Frag) (Ps : TX) (ts : List Nat) (dg : DGs) : TGs := fun vs σ H Q => ∃ c hs as σd ds Qd, Sts K Ps c hs as σ H σd ∧ DpAll K (msk (Mk c hs as) H) vs ds ∧ dg ds σd Qd ∧ ∀ σ' σd', Sts K Ps c hs as σ' H σd' → wipe σ' ts = wipe σ ts → Qd σd' → Q σ' H
theorem pg_weak {X : Cx} {e : PySem.Expr} {t t' : TG} (h : PG X e t) (k : ∀ v σ H Q, t' v σ H Q → t v σ H Q) : PG X e t' := ⟨fun pins s σ H v u Q I r q => h.run pins s σ H v u Q I r (k v σ H Q q)⟩
theorem pgs_weak {X : Cx} {e : List PySem.Expr} {t t' : TGs} (h : PGs X e t) (k : ∀ v σ H Q, t' v σ H Q → t v σ H Q) : PGs X e t' := ⟨fun pins s σ H v u Q I r q => h.run pins s σ H v u Q I r (k v σ H Q q)⟩
theorem wipe_get {σ : L2.St} {ts : List Nat} {j : Nat} : (wipe σ ts)[j]? = if j ∈ ts then (σ[j]?).map (fun _ => none) else σ[j]? := by
  induction ts with
  | nil => simp [wipe]
  | cons t ts ih =>
    unfold wipe
    by_cases e : t = j
    · subst e
      by_cases hl : t < (wipe σ ts).length
      · rw [List.getElem?_set_self hl]
        rw [wipe_length] at hl
        simp [hl]
      · rw [List.getElem?_eq_none (by rw [List.length_set]; omega)]
        rw [wipe_length] at hl
        simp [List.getElem?_eq_none (Nat.le_of_not_lt hl)]
    · rw [List.getElem?_set_ne e, ih]
      have : j ≠ t := fun z => e z.symm
      simp [this]
theorem wipe_ext {σ σ' : L2.St} {ts : List Nat} (hl : σ'.length = σ.length) (h : ∀ j, j ∉ ts → σ'[j]? = σ[j]?) : wipe σ' ts = wipe σ ts := by
  apply List.ext_getElem?
  intro j
  rw [wipe_get, wipe_get]
  by_cases hj : j ∈ ts
  · simp only [hj, if_true]
    by_cases h2 : j < σ.length
    · rw [List.getElem?_eq_getElem h2, List.getElem?_eq_getElem (by omega)]
      rfl
    · rw [List.getElem?_eq_none (by omega), List.getElem?_eq_none (by omega)]
  · simp only [hj, if_false]
    exact h j hj
theorem wipe_back {σ σ' : L2.St} {ts : List Nat} (h : wipe σ' ts = wipe σ ts) : σ'.length = σ.length ∧ ∀ j, j ∉ ts → σ'[j]? = σ[j]? := by
  refine ⟨?_, fun j hj => ?_⟩
  · have := congrArg List.length h
    rwa [wipe_length, wipe_length] at this
  · have := congrArg (fun l => l[j]?) h
    simp only [wipe_get, hj, if_false] at this
    exact this
theorem wipe_more {σ σ' : L2.St} {ts us : List Nat} (h : wipe σ' ts = wipe σ ts) (k : ∀ t ∈ ts, t ∈ us) : wipe σ' us = wipe σ us :=
  wipe_ext (wipe_back h).1 fun j hj => (wipe_back h).2 j fun m => hj (k j m)
section
variable {X : Cx} {Ps : TX} {e : PySem.Expr} {es : List PySem.Expr} {pos : Pos} {i : Nat} {x : Str} {ts us : List Nat}
def gSet (i : Nat) : DG := fun d σ Q => Q (σ.set i (some (.dat d)))
theorem pgd_name (h : PG X e (gName i)) : PG X e (liftG X.K Ps [i] (gSet i)) := pg_weak h fun v σ H Q ⟨c, hs, as, σd, d, Qd, S, hd, hg, k⟩ =>
  k _ _ (S.set (.dat d) (fun _ z => by cases z) hd) (wipe_ext (by simp) fun j hj => List.getElem?_set_ne (fun z => hj (by simp [z]))) hg
def gsNil : DGs := fun ds σ Q => match ds with
  | [] => Q σ
  | _ => False
theorem pgsd_nil : PGs X [] (liftGs X.K Ps [] gsNil) := pgs_weak pgs_nil fun v σ H Q ⟨c, hs, as, σd, d, Qd, S, hd, hg, k⟩ => by
  unfold gsNil at hg
  split at hg
  · cases hd
    exact ⟨rfl, k _ _ S rfl hg⟩
  · exact hg.elim
def gsCons (t : DG) (u : DGs) : DGs := fun ds σ Q => match ds with
  | d :: r => t d σ fun σ' => u r σ' Q
  | [] => False
theorem pgsd_cons {t : DG} {u : DGs} (h1 : PG X e (liftG X.K Ps ts t)) (h2 : PGs X es (liftGs X.K Ps us u)) (hs : (assignEach (e :: es) X.env).map (·.2) = assign e X.env :: (assignEach es X.env).map (·.2) := by rfl) :
    PGs X (e :: es) (liftGs X.K Ps (ts ++ us) (gsCons t u)) := pgs_weak (pgs_cons h1 h2 hs) fun vs σ H Q ⟨c, hs, as, σd, ds, Qd, S, hd, hg, k⟩ => by
  cases hd with
  | nil => exact hg.elim
  | cons q1 q2 =>
    refine ⟨_, _, rfl, c, hs, as, σd, _, _, S, q1, hg, fun σ1 σd1 S1 w1 hg1 => ⟨c, hs, as, σd1, _, _, S1, q2, hg1, fun σ2 σd2 S2 w2 hg2 => k σ2 σd2 S2 ?_ hg2⟩⟩
    have a1 := wipe_more (us := ts ++ us) w1 fun t h => List.mem_append_left _ h
    have a2 := wipe_more (us := ts ++ us) w2 fun t h => List.mem_append_right _ h
    exact a2.trans a1
def gTupD (n : Nat) (t : DGs) : DG := fun d σ Q => match d with
  | .tuple ds => ds.length = n ∧ t ds σ Q
  | _ => False
def dAsgG (g : DG) (de : DE) : DS := fun D σ => de σ fun d => g d σ D.nx
theorem lift_asgG {g : DG} {de : DE} {D : Ends} {σ : L2.St} {H : Hp} (h : liftS X.K Ps (dAsgG g de) D σ H) : tAsg (lift X.K Ps de) (liftG X.K Ps ts g) D σ H := by
  obtain ⟨c, hs, as, σd, Dd, S, h, r⟩ := h
  exact ⟨c, hs, as, σd, _, S, h, fun d v H1 h1 s1 r1 => ⟨c, hs, as, σd, d, _, S.step s1, r1, h1, fun σ' σd' S' _ q => r.nx hs as σ' H1 σd' S' q⟩⟩
end
/-! ### iterators -/
def ItD (K : PySem.W.Frag) (Ps : TX) (B : Hp) (J : It) (ds : List PyData) : Prop := ∀ (M : Addr → Prop) (hs : List Addr) (H : Hp), Wf Ps M hs H → Ex B (msk M H) →
  (∀ i d, ds[i]? = some d → J.go i H ∧ ∀ x H', J.yld i H x H' → Step hs Ps H H' ∧ Dp K (msk M H') x d) ∧ J.stop ds.length H
abbrev DI := Sd → (List PyData → Prop) → Prop
def liftI (K : PySem.W.Frag) (Ps : TX) (di : DI) : TI := fun σ H R => ∃ c hs as σd Qd, Sts K Ps c hs as σ H σd ∧ di σd Qd ∧ ∀ ds J H', Qd ds → Step hs Ps H H' → ItD K Ps (msk (Mk c hs as) H') J ds → R J H'
theorem pi_weak {X : Cx} {tg e : PySem.Expr} {t t' : TI} (h : PI X tg e t) (k : ∀ σ H Q, t' σ H Q → t σ H Q) : PI X tg e t' := ⟨fun pins s σ H R I q => h.run pins s σ H R I (k σ H R q)⟩
theorem itd_list {K : PySem.W.Frag} {Ps : TX} {B : Hp} {a : Addr} {xs : List V} {ds : List PyData} (h : SqL K B a xs) (hd : DpAll K B xs ds) : ItD K Ps B (Itl K a) ds := fun M hs H wf e =>
  ⟨fun i d hi => by
    obtain ⟨v, h1, h2⟩ := hd.get hi
    have hl := ex_l msk_ex (ex_l e h)
    refine ⟨⟨xs, v, hl, h1⟩, fun x H' y => ?_⟩
    obtain ⟨rfl, f⟩ := y
    have := f xs hl
    rw [h1] at this
    cases this
    exact ⟨Step.refl, dp_mono e h2⟩, ⟨xs, ex_l msk_ex (ex_l e h), by rw [hd.len]; exact Nat.le_refl _⟩⟩
theorem itd_tup {K : PySem.W.Frag} {Ps : TX} {B : Hp} {a : Addr} {xs : List V} {ds : List PyData} (h : SqT K B a xs) (hd : DpAll K B xs ds) : ItD K Ps B (Itt K a) ds := fun M hs H wf e =>
  ⟨fun i d hi => by
    obtain ⟨v, h1, h2⟩ := hd.get hi
    have hl := ex_t msk_ex (ex_t e h)
    refine ⟨⟨xs, v, hl, h1⟩, fun x H' y => ?_⟩
    obtain ⟨rfl, f⟩ := y
    have := f xs hl
    rw [h1] at this
    cases this
    exact ⟨Step.refl, dp_mono e h2⟩, ⟨xs, ex_t msk_ex (ex_t e h), by rw [hd.len]; exact Nat.le_refl _⟩⟩
theorem itd_range {K : PySem.W.Frag} {Ps : TX} {B : Hp} {lo : Int} {n : Nat} : ItD K Ps B (Itr lo n) ((List.range n).map fun i : Nat => PyData.int (lo + i)) := fun M hs H wf e =>
  ⟨fun i d hi => by
    have hn : i < n := by
      have := (List.getElem?_eq_some_iff.mp hi).1
      simpa using this
    rw [List.getElem?_map, List.getElem?_range hn] at hi
    cases hi
    refine ⟨hn, fun x H' y => ?_⟩
    obtain ⟨rfl, rfl⟩ := y
    exact ⟨Step.refl, .int _⟩, by show n ≤ _; simp⟩
section
variable {X : Cx} {Ps : TX} {tg e a b : PySem.Expr} {es : List PySem.Expr} {pos p : Pos}
/-- a list or a tuple -/
def iSeq (K : PySem.W.Frag) (tl : TE) : TI := fun σ H R => tl σ H fun x H1 => ∃ a, x = .ref a ∧ (((∃ xs, SqL K H1 a xs) ∧ R (Itl K a) H1) ∨ ((∃ xs, SqT K H1 a xs) ∧ R (Itt K a) H1))
theorem pi_seq {tl : TE} (hl : PE X e tl) : PI X tg e (iSeq X.K tl) := by
  refine ⟨fun pins s σ H R inv h => thn (hl.run pins s σ H _ inv h) fun v s1 ⟨x, H1, inv1, rel, a, ex, hx⟩ => ?_⟩
  subst ex
  cases rel
  have fin : ∀ b ∈ [s1.heap.objs.size], FpOk X pins H1 b := fun b hb => by
    rw [List.mem_singleton.mp hb]
    exact inv1.fpOk (Nat.le_refl _) (inv1.hok.fresh (Nat.le_refl _))
  rcases hx with ⟨⟨xs, hq⟩, q⟩ | ⟨⟨xs, hq⟩, q⟩
  · obtain ⟨its, rv, pl, _⟩ := inv1.list hq
    exact wpAny_pyIter_list pl.isList ⟨s1.heap.objs.size, [s1.heap.objs.size], _, _, H1, rfl, inv1.kept (t' := s1.toks) fun b o eo => Heap.get?_push_of_some _ eo, turn_list a _, ⟨_, Heap.get?_push_size _ rfl, rfl, rfl⟩, fin, q⟩
  · obtain ⟨its, rv, pl, _⟩ := inv1.tuple hq
    exact wpAny_pyIter_tuple (show s1.heap.IsTuple a its.toArray from pl) ⟨s1.heap.objs.size, [s1.heap.objs.size], _, _, H1, rfl, inv1.kept (t' := s1.toks) fun b o eo => Heap.get?_push_of_some _ eo, turn_tuple a _, ⟨_, Heap.get?_push_size _ rfl, rfl, rfl⟩, fin, q⟩
def dItS (de : DE) : DI := fun σ Q => de σ fun d => match d with
  | .list ds => Q ds
  | .tuple ds => Q ds
  | _ => False
theorem pid_seq {de : DE} (h : PE X e (lift X.K Ps de)) : PI X tg e (liftI X.K Ps (dItS de)) := pi_weak (pi_seq h) fun σ H R ⟨c, hs, as, σd, Qd, S, hd, k⟩ =>
  ⟨c, hs, as, σd, _, S, hd, fun d v H1 h1 s1 r1 => by
    split at h1
    · cases r1 with
      | lst h2 h3 => exact ⟨_, rfl, .inl ⟨⟨_, ex_l msk_ex h2⟩, k _ _ H1 h1 s1 (itd_list h2 h3)⟩⟩
    · cases r1 with
      | tup h2 h3 => exact ⟨_, rfl, .inr ⟨⟨_, ex_t msk_ex h2⟩, k _ _ H1 h1 s1 (itd_tup h2 h3)⟩⟩
    · exact h1.elim⟩
def dRange1 (da : DA) : DI := fun σ Q => da σ fun ws => match ws with
  | [.dat (.int n)] => n < 4611686018427387904 ∧ -4611686018427387904 ≤ n ∧ Q ((List.range n.toNat).map fun i : Nat => PyData.int i)
  | _ => False
theorem pid_range1 {da : DA} (hg : Gl X "range") (hm : X.mg "range" = none) (ha : PA X [a] (liftA X.K Ps da)) (hs : starEach [a] X.env = [(false, eval a X.env)] := by rfl) : PI X tg (.Call (.Name "range" p) [a] [] pos) (liftI X.K Ps (dRange1 da)) :=
  pi_weak (pi_range1 hg hm ha hs) fun σ H R ⟨c, hs, as, σd, Qd, S, hd, k⟩ => ⟨c, hs, as, σd, _, S, hd, fun ws vs H1 h1 s1 r1 => by
    split at h1
    · cases r1 with
      | cons q1 q2 =>
        cases q2
        cases q1
        refine ⟨_, rfl, h1.2.1, h1.1, k _ _ H1 h1.2.2 s1 ?_⟩
        have z := itd_range (K := X.K) (Ps := Ps) (B := msk (Mk c hs as) H1) (lo := 0) (n := (‹Int›).toNat)
        simpa using z
    · exact h1.elim⟩
def dRange2 (da : DA) : DI := fun σ Q => da σ fun ws => match ws with
  | [.dat (.int m), .dat (.int n)] => (n < 4611686018427387904 ∧ -4611686018427387904 ≤ n ∧ m < 4611686018427387904 ∧ -4611686018427387904 ≤ m) ∧ Q ((List.range (n - m).toNat).map fun i : Nat => PyData.int (m + i))
  | _ => False
end
/-! ### loops -/
def forD (g : DG) (tb : DS) (D : ED) : List PyData → Sd → Prop
  | [], σ => D.nx σ
  | d :: ds, σ => g d σ fun σ2 => tb { D with nx := forD g tb D ds, ct := forD g tb D ds, bk := D.nx } σ2
def dFor (di : DI) (g : DG) (tb : DS) : DS := fun D σ => di σ fun ds => forD g tb D ds σ
theorem Sts.base {K : PySem.W.Frag} {Ps : TX} {c : C0} {hs as : List Addr} {σ : L2.St} {H B : Hp} {σd : Sd} (S : Sts K Ps c hs as σ H σd) (e : Ex B (msk (Mk c hs as) H)) : Sts K Ps { c with B := B } hs as σ H σd :=
  ⟨⟨S.fr.wf0, S.fr.st, S.fr.hat, S.fr.sub, S.fr.own, e⟩, S.len, S.slot, S.dis, S.xo⟩
theorem lift_for {K : PySem.W.Frag} {Ps : TX} {di : DI} {g : DG} {tb : DS} {ts : List Nat} {D : Ends} {σ : L2.St} {H : Hp} (h : liftS K Ps (dFor di g tb) D σ H) : tFor (liftI K Ps di) (liftG K Ps ts g) (liftS K Ps tb) D σ H := by
  obtain ⟨c, hs, as, σd, Dd, S, h, r⟩ := h
  refine ⟨c, hs, as, σd, _, S, h, fun ds J H1 h1 s1 it => ?_⟩
  generalize hB : msk (Mk c hs as) H1 = B at it
  have toc : ∀ {hs' as' σ' H' σd'}, Sts K Ps { c with B := B } hs' as' σ' H' σd' → Sts K Ps c hs' as' σ' H' σd' := fun {hs' as' σ' H' σd'} T =>
    T.base (B := c.B) ((S.step s1).fr.bs.trans (by rw [hB]; exact T.fr.bs))
  refine ⟨fun i m σ' H' => ∃ hs' as' σd', Sts K Ps { c with B := B } hs' as' σ' H' σd' ∧ i + m = ds.length ∧ forD g tb Dd (ds.drop i) σd', ⟨ds.length, hs, as, σd, (S.step s1).base (by rw [hB]; exact Ex.refl _), by omega, h1⟩, ?_⟩
  rintro i m σ' H' ⟨hs', as', σd', T, em, hf⟩
  obtain ⟨hgo, hst⟩ := it _ _ _ T.fr.wf T.fr.bs
  by_cases hi : i < ds.length
  · rw [List.drop_eq_getElem_cons hi] at hf
    obtain ⟨g1, g2⟩ := hgo i ds[i] (List.getElem?_eq_getElem hi)
    refine .inr ⟨g1, fun σ2 H2 => ∃ hs2 as2 σd2, Sts K Ps { c with B := B } hs2 as2 σ2 H2 σd2 ∧ forD g tb Dd (ds.drop (i + 1)) σd2, fun σ2 H2 ⟨hs2, as2, σd2, T2, q⟩ => ⟨m - 1, by omega, hs2, as2, σd2, T2, by omega, q⟩, fun x H2 y => ?_⟩
    obtain ⟨s2, rx⟩ := g2 x H2 y
    refine ⟨{ c with B := B }, hs', as', σd', ds[i], _, T.step s2, rx, hf, fun σ3 σd3 T3 _ q => ?_⟩
    exact ⟨{ c with B := B }, hs', as', σd3, _, T3, q, ⟨fun hs4 as4 σ4 H4 σd4 T4 q => ⟨hs4, as4, σd4, T4, q⟩, fun v H4 d s q1 q2 => r.rt v H4 d s q1 q2, fun hs4 as4 σ4 H4 σd4 T4 q => r.nx hs4 as4 σ4 H4 σd4 (toc T4) q, fun hs4 as4 σ4 H4 σd4 T4 q => ⟨hs4, as4, σd4, T4, q⟩⟩⟩
  · rw [List.drop_eq_nil_of_le (Nat.le_of_not_lt hi)] at hf
    exact .inl ⟨(show i = ds.length by omega) ▸ hst, r.nx hs' as' σ' H' σd' (toc T) hf⟩
def dWhile (c : DT) (tb : DS) : DS := fun D σ => ∃ W : Nat → Sd → Prop, (∃ m, W m σ) ∧ ∀ m σ, W m σ → c σ fun b => if b = true then tb { D with nx := fun σ' => ∃ m', m' < m ∧ W m' σ', ct := fun σ' => ∃ m', m' < m ∧ W m' σ', bk := D.nx } σ else D.nx σ
theorem lift_while {K : PySem.W.Frag} {Ps : TX} {tc : DT} {tb : DS} {D : Ends} {σ : L2.St} {H : Hp} (h : liftS K Ps (dWhile tc tb) D σ H) : tWhile (liftT K Ps tc) (liftS K Ps tb) D σ H := by
  obtain ⟨c, hs, as, σd, Dd, S, ⟨W, ⟨m0, w0⟩, turn⟩, r⟩ := h
  refine ⟨fun m σ' H' => ∃ hs' as' σd', Sts K Ps c hs' as' σ' H' σd' ∧ W m σd', ⟨m0, hs, as, σd, S, w0⟩, ?_⟩
  rintro m σ' H' ⟨hs', as', σd', T, w⟩
  refine ⟨c, hs', as', σd', _, T, turn m σd' w, fun b H1 h1 s1 => ?_⟩
  cases b with
  | true =>
    rw [if_pos rfl] at h1 ⊢
    refine ⟨fun σ2 H2 => ∃ hs2 as2 σd2, Sts K Ps c hs2 as2 σ2 H2 σd2 ∧ ∃ m', m' < m ∧ W m' σd2, fun σ2 H2 ⟨hs2, as2, σd2, T2, m', hm, w'⟩ => ⟨m', hm, hs2, as2, σd2, T2, w'⟩, ?_⟩
    exact ⟨c, hs', as', σd', _, T.step s1, h1, ⟨fun hs4 as4 σ4 H4 σd4 T4 q => ⟨hs4, as4, σd4, T4, q⟩, r.rt, fun hs4 as4 σ4 H4 σd4 T4 q => r.nx hs4 as4 σ4 H4 σd4 T4 q, fun hs4 as4 σ4 H4 σd4 T4 q => ⟨hs4, as4, σd4, T4, q⟩⟩⟩
  | false =>
    rw [if_neg (by simp)] at h1 ⊢
    exact r.nx hs' as' σ' H1 σd' (T.step s1) h1
section
variable {X : Cx} {Ps : TX} {tg it cnd : PySem.Expr} {bd : List Stmt} {pos : Pos} {ts : List Nat}
theorem psd_for {di : DI} {g : DG} {tb : DS} (hp : PassesOwn (model X.prog X.w) X.A X.env X.xe) (hc : X.calm = true) (hi : PI X tg it (liftI X.K Ps di)) (hg : PG X tg (liftG X.K Ps ts g)) (hb : PSs X bd (liftS X.K Ps tb))
    (hs : ∀ x, foldedSetIterable it X.env x = pure x := by intro _; rfl) : PS X (.For tg it bd [] pos) (liftS X.K Ps (dFor di g tb)) := ps_weak (ps_for hp hc hi hg hb hs) fun _ _ _ => lift_for
theorem psd_while {tc : DT} {tb : DS} (hp : PassesOwn (model X.prog X.w) X.A X.env X.xe) (hc : PT X cnd (liftT X.K Ps tc)) (hb : PSs X bd (liftS X.K Ps tb)) : PS X (.While cnd bd [] pos) (liftS X.K Ps (dWhile tc tb)) := ps_weak (ps_while hp hc hb) fun _ _ _ => lift_while
end
end Dl
end
section
set_option Elab.async false
set_option linter.all false
set_option maxRecDepth 100000
set_option maxHeartbeats 1000000
namespace Dl
open PySem PySem.Spec PyProof.Rows L2 HbE Evl
variable [LmV.LamTable]
/-! ### comprehensions -/
def wipeD (σ : Sd) : List Nat → Sd
  | [] => σ
  | v :: vs => (wipeD σ vs).set v none
theorem wipeD_length (σ : Sd) : ∀ vs : List Nat, (wipeD σ vs).length = σ.length
  | [] => rfl
  | v :: vs => by unfold wipeD; rw [List.length_set, wipeD_length σ vs]
theorem wipeD_some {σ : Sd} {i : Nat} {x : WD} : ∀ {vs : List Nat}, (wipeD σ vs)[i]? = some (some x) → σ[i]? = some (some x) ∧ i ∉ vs
  | [], h => ⟨h, by simp⟩
  | v :: vs, h => by
    unfold wipeD at h
    by_cases e : v = i
    · subst e
      exfalso
      by_cases hl : v < (wipeD σ vs).length
      · rw [List.getElem?_set_self hl] at h; cases h
      · rw [List.getElem?_eq_none (by rw [List.length_set]; omega)] at h; cases h
    · rw [List.getElem?_set_ne e] at h
      obtain ⟨h1, h2⟩ := wipeD_some h
      exact ⟨h1, fun m => (List.mem_cons.mp m).elim (fun z => e z.symm) h2⟩
theorem Sts.wipe {K : PySem.W.Frag} {Ps : TX} {c : C0} {hs as : List Addr} {σ : L2.St} {H : Hp} {σd : Sd} (S : Sts K Ps c hs as σ H σd) (vs : List Nat) : Sts K Ps c hs as (wipe σ vs) H (wipeD σd vs) := by
  refine ⟨S.fr, by rw [wipe_length, wipeD_length, S.len], fun i w e => ?_, fun i j ds es n e1 e2 => ?_, S.xo⟩
  · obtain ⟨h1, h2⟩ := wipeD_some e
    rw [wipe_out h2]
    exact S.slot i w h1
  · obtain ⟨h1, h2⟩ := wipeD_some e1
    obtain ⟨h3, h4⟩ := wipeD_some e2
    rw [wipe_out h2, wipe_out h4]
    exact S.dis i j ds es n h1 h3
def lcD (g : DG) (tt : DT) (te : DE) (σ0 : Sd) (Q : List PyData → Prop) : List PyData → List PyData → Prop
  | [], acc => Q acc
  | d :: ds, acc => g d σ0 fun σ2 => tt σ2 fun b => if b = true then te σ2 fun y => lcD g tt te σ0 Q ds (acc ++ [y]) else lcD g tt te σ0 Q ds acc
def dLc (di : DI) (g : DG) (tt : DT) (te : DE) (vs : List Nat) : DL := fun σ Q => di σ fun ds => ds.length ≤ 100000 ∧ lcD g tt te (wipeD σ vs) Q ds []
/-- a list that is held beside the def's -/
theorem Sts.beside {K : PySem.W.Frag} {Ps : TX} {c : C0} {hs as : List Addr} {σ : L2.St} {H H' : Hp} {σd : Sd} {p : Addr} {vs : List V} (S : Sts K Ps c hs as σ H σd) (s : Step hs Ps H H') (hp : H p = none) (h' : H' p = some (.lst vs)) : Sts K Ps c hs (p :: as) σ H' σd := by
  have T := S.step s
  have f := S.fr
  have e := ex_own (p := p) f s hp
  refine ⟨⟨f.wf0, T.fr.st, T.fr.hat, f.sub, fun b hb => ?_, f.bs.trans e⟩, S.len, fun j w q => ?_, S.dis, S.xo⟩
  · rcases List.mem_cons.mp hb with rfl | hb
    · refine ⟨?_, by rw [h']; simp, fun z => ?_, fun z => ?_⟩
      · cases q : c.H0 b with
        | none => rfl
        | some o => exact absurd hp (f.st.some f.wf0 (by rw [q]; simp))
      · obtain ⟨o, e, _⟩ := (f.hat b z).1
        rw [hp] at e; cases e
      · obtain ⟨ps, e⟩ := f.wf.tbl z
        rw [hp] at e; cases e
    · exact T.fr.own b hb
  · obtain ⟨v, h1, h2⟩ := S.slot j w q
    refine ⟨v, h1, ?_⟩
    cases w with
    | dat d => exact dp_mono e h2
    | own es =>
      obtain ⟨a, us, rfl, ha, r1, r2⟩ := h2
      exact ⟨a, us, rfl, List.mem_cons_of_mem _ ha, s.keep a _ r1 (f.own a ha).2.2.1 (f.own a ha).2.2.2, dpAll_mono e r2⟩
    | hat => exact h2
    | fn _ => exact h2
    | lam _ =>
      obtain ⟨f1, c1, rfl, g1, g2⟩ := h2
      exact ⟨f1, c1, rfl, e _ _ g1, e _ _ g2⟩
/-- the list beside changes -/
theorem Sts.beside_upd {K : PySem.W.Frag} {Ps : TX} {c : C0} {hs as : List Addr} {σ : L2.St} {H : Hp} {σd : Sd} {p : Addr} {vs us : List V} (S : Sts K Ps c hs (p :: as) σ H σd) (hl : H p = some (.lst us)) (np : ∀ (i : Nat) (ds : List PyData), σd[i]? = some (some (.own ds)) → σ[i]? ≠ some (some (.ref p))) :
    Sts K Ps c hs (p :: as) σ (upd H p (.lst vs)) σd ∧ Ex (msk (Mk c hs (p :: as)) H) (msk (Mk c hs (p :: as)) (upd H p (.lst vs))) := by
  have f := S.fr
  obtain ⟨o1, o2, o3, o4⟩ := f.own p List.mem_cons_self
  have up : ∀ b, b ≠ p → upd H p (.lst vs) b = H b := fun b n => upd_ne n
  have ex : Ex (msk (Mk c hs (p :: as)) H) (msk (Mk c hs (p :: as)) (upd H p (.lst vs))) := fun x o e => by
    obtain ⟨n, e⟩ := msk_some.mp e
    exact msk_some.mpr ⟨n, by rw [up x fun z => n (.inr (.inr (z ▸ List.mem_cons_self)))]; exact e⟩
  refine ⟨⟨⟨f.wf0, ⟨fun x o e n m => ?_, fun q hq e => ?_, fun P hP e => ?_⟩, fun q hq => ?_, f.sub, fun x hx => ⟨(f.own x hx).1, ?_, (f.own x hx).2.2⟩, f.bs.trans ex⟩, S.len, fun j w e => ?_, S.dis, S.xo⟩, ex⟩
  · rw [up x fun z => by rw [z, o1] at e; cases e]; exact f.st.keep x o e n m
  · rw [up q fun z => o3 (z ▸ f.sub q hq)]; exact (f.hat q (f.sub q hq)).1
  · exact (f.wf.tab P hP).2.keep (up P.1 fun z => o4 (z ▸ ad_of hP)) fun c q z => by rw [up c fun y => codeO_lst (by rw [← y] at hl; exact Option.some.inj (z.symm.trans hl))]; exact z
  · rw [up q fun z => o3 (z ▸ hq)]; exact f.hat q hq
  · by_cases z : x = p
    · rw [z, upd_same]; simp
    · rw [up x z]; exact (f.own x hx).2.1
  · obtain ⟨v, h1, h2⟩ := S.slot j w e
    refine ⟨v, h1, ?_⟩
    cases w with
    | dat d => exact dp_mono ex h2
    | own es =>
      obtain ⟨a, us, rfl, ha, r1, r2⟩ := h2
      have na : a ≠ p := fun z => np j es e (by rw [h1, z])
      exact ⟨a, us, rfl, ha, by rw [up a na]; exact r1, dpAll_mono ex r2⟩
    | hat => exact h2
    | fn _ => exact h2
    | lam _ =>
      obtain ⟨f1, c1, rfl, g1, g2⟩ := h2
      exact ⟨f1, c1, rfl, ex _ _ g1, ex _ _ g2⟩
theorem lift_lc {K : PySem.W.Frag} {Ps : TX} {di : DI} {g : DG} {tt : DT} {te : DE} {ts vs : List Nat} {σ : L2.St} {H : Hp} {Q : VK} (hts : ∀ t ∈ ts, t ∈ vs) (h : liftN K Ps (dLc di g tt te vs) σ H Q) :
    tLc (liftI K Ps di) (liftG K Ps ts g) (liftT K Ps tt) (lift K Ps te) vs σ H Q := by
  obtain ⟨c, hs, as, σd, Qd, S, h, k⟩ := h
  refine ⟨c, hs, as, σd, _, S, h, fun ds J H1 h1 s1 it D hD => ?_⟩
  obtain ⟨hlen, h1⟩ := h1
  have T := S.step s1
  have s2 : Step hs Ps H1 (upd H1 D (.lst [])) := Step.of_ex (Ex.new hD)
  have U := (T.beside s2 hD upd_same).wipe vs
  have exB : Ex (msk (Mk c hs as) H1) (msk (Mk c hs (D :: as)) (upd H1 D (.lst []))) := ex_own T.fr s2 hD
  have npD : ∀ (i : Nat) (es : List PyData), σd[i]? = some (some (.own es)) → σ[i]? ≠ some (some (.ref D)) := fun j es q z => by
    obtain ⟨v, q1, a, us, rfl, ha, q2, _⟩ := T.slot j _ q
    rw [q1] at z
    cases z
    rw [hD] at q2; cases q2
  refine ⟨fun i m H' => i + m = ds.length ∧ ∃ acc accd, Sts K Ps c hs (D :: as) (wipe σ vs) H' (wipeD σd vs) ∧ Ex (msk (Mk c hs as) H1) (msk (Mk c hs (D :: as)) H') ∧ Step hs Ps H H' ∧ H' D = some (.lst acc) ∧ DpAll K (msk (Mk c hs (D :: as)) H') acc accd ∧ accd.length ≤ i ∧ lcD g tt te (wipeD σd vs) Qd (ds.drop i) accd,
    ⟨ds.length, by omega, [], [], U, exB, s1.trans s2, upd_same, .nil, by simp, h1⟩, ?_⟩
  rintro i m H' ⟨em, acc, accd, V, eB, sH, hDl, hA, hAl, hl⟩
  obtain ⟨hgo, hst⟩ := it _ _ _ V.fr.wf eB
  by_cases hi : i < ds.length
  · rw [List.drop_eq_getElem_cons hi] at hl
    obtain ⟨g1, g2⟩ := hgo i ds[i] (List.getElem?_eq_getElem hi)
    have oD : ∀ {H3 H4 : Hp}, Step hs Ps H3 H4 → H3 D = some (.lst acc) → H4 D = some (.lst acc) := fun s e => s.keep D _ e (V.fr.own D List.mem_cons_self).2.2.1 (V.fr.own D List.mem_cons_self).2.2.2
    refine .inr ⟨g1, fun H2 => i + 1 + (m - 1) = ds.length ∧ ∃ acc accd, Sts K Ps c hs (D :: as) (wipe σ vs) H2 (wipeD σd vs) ∧ Ex (msk (Mk c hs as) H1) (msk (Mk c hs (D :: as)) H2) ∧ Step hs Ps H H2 ∧ H2 D = some (.lst acc) ∧ DpAll K (msk (Mk c hs (D :: as)) H2) acc accd ∧ accd.length ≤ i + 1 ∧ lcD g tt te (wipeD σd vs) Qd (ds.drop (i + 1)) accd,
      fun H2 q => ⟨m - 1, by omega, q⟩, fun x H2 y => ?_⟩
    obtain ⟨s3, rx⟩ := g2 x H2 y
    have hD2 := oD s3 hDl
    have e23 := V.fr.wf.ex s3
    refine ⟨c, hs, D :: as, _, ds[i], _, V.step s3, rx, hl, fun σ3 σd3 T3 w3 q3 => ⟨?_, ?_⟩⟩
    · have a := wipe_more (us := vs) w3 hts
      have b : wipe (wipe σ vs) vs = wipe σ vs := wipe_ext (by rw [wipe_length]) fun j hj => wipe_out hj
      rw [a]
      exact b
    · refine ⟨c, hs, D :: as, σd3, _, T3, q3, fun b H3 hb s4 => ?_⟩
      have s34 := s3.trans s4
      have e4 := T3.fr.wf.ex s4
      cases b with
      | true =>
        rw [if_pos rfl] at hb
        dsimp only
        rw [if_pos rfl]
        refine ⟨c, hs, D :: as, σd3, _, T3.step s4, hb, fun d z H4 h4 s5 r5 => ⟨acc, oD s5 (oD s4 hD2), sz_lt (by rw [hA.len]; omega), by omega, acc ++ [z], accd ++ [d], ?_⟩⟩
        have e5 := (T3.step s4).fr.wf.ex s5
        have W4 : Sts K Ps c hs (D :: as) (wipe σ vs) H4 (wipeD σd vs) := ((V.step s3).step s4).step s5
        obtain ⟨W5, e6⟩ := W4.beside_upd (vs := acc ++ [z]) (oD s5 (oD s4 hD2)) fun j es q1 q2 => by
          obtain ⟨q3, q4⟩ := wipeD_some q1
          rw [wipe_out q4] at q2
          exact npD j es q3 q2
        have all := ((e23.trans e4).trans e5).trans e6
        refine ⟨W5, eB.trans all, ?_, upd_same, (dpAll_mono all hA).app (.cons (dp_mono e6 r5) .nil), by simp; omega, h4⟩
        have sH4 := sH.trans ((s3.trans s4).trans s5)
        refine ⟨fun a o q n1 n2 => ?_, fun p hp q => ?_, fun P hP q => ?_⟩
        · have na : a ≠ D := fun z => by
            have : H D ≠ none := by rw [← z, q]; simp
            exact absurd hD (s1.some S.fr.wf this)
          rw [upd_ne na]
          exact sH4.keep a o q n1 n2
        · have na : p ≠ D := fun z => (V.fr.own D List.mem_cons_self).2.2.1 (z ▸ hp)
          rw [upd_ne na]
          exact sH4.hat p hp q
        · have na : P.1 ≠ D := fun z => (V.fr.own D List.mem_cons_self).2.2.2 (z ▸ ad_of hP)
          exact (sH4.tab P hP q).keep (upd_ne na) fun c q z => by rw [upd_ne fun y => codeO_lst (by rw [y] at z; exact Option.some.inj (z.symm.trans (oD s5 (oD s4 hD2))))]; exact z
      | false =>
        rw [if_neg (by simp)] at hb
        dsimp only
        rw [if_neg (by simp)]
        exact ⟨by omega, acc, accd, (V.step s3).step s4, eB.trans (e23.trans e4), sH.trans s34, oD s4 hD2, dpAll_mono (e23.trans e4) hA, by omega, hb⟩
  · rw [List.drop_eq_nil_of_le (Nat.le_of_not_lt hi)] at hl
    refine .inl ⟨(show i = ds.length by omega) ▸ hst, k accd D acc H' hl sH ?_ hDl hA⟩
    exact none_of S.fr s1 hD
def dYes : DT := fun _ Q => Q true
theorem ptsd_nil {X : Cx} {Ps : TX} : PTs X [] (liftT X.K Ps dYes) := ⟨fun pins s σ H Q I h => by
  obtain ⟨c, hs, as, σd, Qd, S, h, k⟩ := h
  exact pts_nil.run pins s σ H Q I (k true H h Step.refl)⟩
theorem pn_lc {X : Cx} {Ps : TX} {elt tg iter : PySem.Expr} {ifs : List PySem.Expr} {scope : Scope} {own : List (Str × Nat)} {pos : Pos} {di : DI} {g : DG} {tt : DT} {te : DE} {ts : List Nat} (hc : X.calm = true) (hN : X.N.Nodup) (hi : PI X tg iter (liftI X.K Ps di)) (ok : BlkOk X.N X.env.scope scope own)
    (hg : ∀ (s : Shared) (H : Hp) (C : Addr) (cl : List (Str × Addr)) (fp : List Addr), PG (X.blk s H scope (compEnvC scope cl C X.env) fp) tg (liftG X.K Ps ts g))
    (ht : ∀ (s : Shared) (H : Hp) (C : Addr) (cl : List (Str × Addr)) (fp : List Addr), PTs (X.blk s H scope (compEnvC scope cl C X.env) fp) ifs (liftT X.K Ps tt))
    (he : ∀ (s : Shared) (H : Hp) (C : Addr) (cl : List (Str × Addr)) (fp : List Addr), PE (X.blk s H scope (compEnvC scope cl C X.env) fp) elt (lift X.K Ps te))
    (hs : ∀ x, foldedSetIterable iter X.env x = pure x := by intro _; rfl) (hts : ∀ t ∈ ts, t ∈ own.map (·.2) := by decide) :
    PE X (.ListComp elt [⟨tg, iter, ifs, 0⟩] scope pos) (liftN X.K Ps (dLc di g tt te (own.map (·.2)))) := pe_weak (pe_lc hc hN hi ok hg ht he hs) fun _ _ _ => lift_lc hts
end Dl
end
section
set_option Elab.async false
set_option linter.all false
set_option maxRecDepth 100000
set_option maxHeartbeats 1000000
namespace Dl
open PySem PySem.Spec PyProof.Rows L2 HbE Evl
variable [LmV.LamTable]
section
variable {X : Cx} {Ps : TX} {e a b c0 : PySem.Expr} {es : List PySem.Expr} {pos : Pos} {de da db dc : DE} {ta tb : DT}
/-! ### tests -/
def dNot (t : DT) : DT := fun σ Q => t σ fun b => Q (!b)
theorem ptd_not (h : PT X e (liftT X.K Ps ta)) : PT X (.UnaryOp .Not e pos) (liftT X.K Ps (dNot ta)) := pt_weak (pt_not h) fun σ H Q ⟨c, hs, as, σd, Qd, S, hd, k⟩ => ⟨c, hs, as, σd, _, S, hd, fun b H' q s => k _ H' q s⟩
theorem pw_weak {t t' : TT} (h : PW X e t) (k : ∀ σ H Q, t' σ H Q → t σ H Q) : PW X e t' := ⟨fun wh pins s σ H Q I q => h.run wh pins s σ H Q I (k σ H Q q)⟩
def dAnd (t u : DT) : DT := fun σ Q => t σ fun b => if b = true then u σ Q else Q false
def dOr (t u : DT) : DT := fun σ Q => t σ fun b => if b = true then Q true else u σ Q
theorem pwd_or1 (h : PT X a (liftT X.K Ps ta)) : PW X (.BoolOp .Or [a] pos) (liftT X.K Ps ta) := pw_or1 h
theorem pwd_or {rest : List PySem.Expr} (ha : PT X a (liftT X.K Ps ta)) (hb : PW X (.BoolOp .Or (b :: rest) pos) (liftT X.K Ps tb)) : PW X (.BoolOp .Or (a :: b :: rest) pos) (liftT X.K Ps (dOr ta tb)) := pw_weak (pw_or ha hb) fun σ H Q ⟨c, hs, as, σd, Qd, S, hd, k⟩ =>
  ⟨c, hs, as, σd, _, S, hd, fun d H1 h1 s1 => by
    cases d with
    | false => exact ⟨c, hs, as, σd, Qd, S.step s1, h1, fun d H' q s => k d H' q (s1.trans s)⟩
    | true => exact k _ H1 h1 s1⟩
/-! ### .. as values -/
def dAndV (da db : DE) : DE := fun σ Q => da σ fun x => match x with
  | .bool b => if b = true then db σ Q else Q (.bool false)
  | _ => False
def dOrV (da db : DE) : DE := fun σ Q => da σ fun x => match x with
  | .bool b => if b = true then Q (.bool true) else db σ Q
  | _ => False
theorem pd_and {rest : List PySem.Expr} (ha : PE X a (lift X.K Ps da)) (hb : PE X (.BoolOp .And (b :: rest) pos) (lift X.K Ps db)) : PE X (.BoolOp .And (a :: b :: rest) pos) (lift X.K Ps (dAndV da db)) := pe_weak (pe_and ha hb) fun σ H Q ⟨c, hs, as, σd, Qd, S, hd, k⟩ =>
  ⟨c, hs, as, σd, _, S, hd, fun d v H1 h1 s1 r1 => by
    split at h1
    · rename_i d
      cases r1
      refine ⟨d, rfl, ?_⟩
      cases d with
      | true => exact ⟨c, hs, as, σd, Qd, S.step s1, h1, fun d v H' q s r => k d v H' q (s1.trans s) r⟩
      | false => exact k _ _ H1 h1 s1 (.bl false)
    · exact h1.elim⟩
def dNotV (da : DE) : DE := fun σ Q => da σ fun x => match x with
  | .bool b => Q (.bool (!b))
  | _ => False
theorem pd_not (ha : PE X a (lift X.K Ps da)) : PE X (.UnaryOp .Not a pos) (lift X.K Ps (dNotV da)) := pe_weak (pe_not ha) fun σ H Q ⟨c, hs, as, σd, Qd, S, hd, k⟩ =>
  ⟨c, hs, as, σd, _, S, hd, fun d v H1 h1 s1 r1 => by
    split at h1
    · cases r1
      exact ⟨_, rfl, k _ _ H1 h1 s1 (.bl _)⟩
    · exact h1.elim⟩
def dIfE (t : DT) (da db : DE) : DE := fun σ Q => t σ fun b => if b = true then da σ Q else db σ Q
theorem pd_if (hc : PT X c0 (liftT X.K Ps ta)) (ha : PE X a (lift X.K Ps da)) (hb : PE X b (lift X.K Ps db)) : PE X (.IfExp c0 a b pos) (lift X.K Ps (dIfE ta da db)) := pe_weak (pe_ifExp hc ha hb) fun σ H Q ⟨c, hs, as, σd, Qd, S, hd, k⟩ =>
  ⟨c, hs, as, σd, _, S, hd, fun d H1 h1 s1 => by
    cases d with
    | true => exact ⟨c, hs, as, σd, Qd, S.step s1, h1, fun d v H' q s r => k d v H' q (s1.trans s) r⟩
    | false => exact ⟨c, hs, as, σd, Qd, S.step s1, h1, fun d v H' q s r => k d v H' q (s1.trans s) r⟩⟩
/-- one-place operations -/
def dNeg (da : DE) : DE := fun σ Q => da σ fun x => match x with
  | .int i => Q (.int (-i))
  | _ => False
theorem pd_neg (ha : PE X a (lift X.K Ps da)) : PE X (.UnaryOp .USub a pos) (lift X.K Ps (dNeg da)) := pe_weak (pe_un un_neg ha) fun σ H Q ⟨c, hs, as, σd, Qd, S, hd, k⟩ =>
  ⟨c, hs, as, σd, _, S, hd, fun d v H1 h1 s1 r1 => by
    split at h1
    · cases r1
      exact ⟨_, rfl, k _ _ H1 h1 s1 (.int _)⟩
    · exact h1.elim⟩
/-- a < b < c -/
def dChain (f g : PyData → PyData → (PyData → Prop) → Prop) (da db dc : DE) : DE := fun σ Q => da σ fun x => db σ fun y => f x y fun z => match z with
  | .bool k => if k = true then dc σ fun w => g y w Q else Q (.bool false)
  | _ => False
theorem lift_chain {r r' : R2} {f g : PyData → PyData → (PyData → Prop) → Prop} {σ : L2.St} {H : Hp} {Q : VK} (ho : Op2 X.K Ps r f) (ho' : Op2 X.K Ps r' g) (h : lift X.K Ps (dChain f g da db dc) σ H Q) : tChain r r' (lift X.K Ps da) (lift X.K Ps db) (lift X.K Ps dc) σ H Q := by
  obtain ⟨c, hs, as, σd, Qd, S, hd, k⟩ := h
  refine ⟨c, hs, as, σd, _, S, hd, fun x v H1 h1 s1 r1 => ⟨c, hs, as, σd, _, S.step s1, h1, fun y w H2 h2 s2 r2 => ?_⟩⟩
  refine ho _ hs H2 v w x y _ _ ((S.step s1).step s2).fr.wf (dp_mono ((S.step s1).fr.wf.ex s2) r1) r2 h2 fun d z H3 h3 s3 r3 => ?_
  have s13 := (s1.trans s2).trans s3
  split at h3
  · rename_i kk
    cases r3
    refine ⟨kk, rfl, ?_⟩
    cases kk with
    | true =>
      refine ⟨c, hs, as, σd, _, S.step s13, h3, fun y' w' H4 h4 s4 r4 => ?_⟩
      have e3 := ((S.step s1).step s2).fr.wf.ex s3
      have e4 := (S.step s13).fr.wf.ex s4
      exact ho' _ hs H4 w w' y y' Qd _ ((S.step s13).step s4).fr.wf (dp_mono (e3.trans e4) r2) r4 h4 fun d z H5 h5 s5 r5 => k d z H5 h5 ((s13.trans s4).trans s5) r5
    | false => exact k _ _ H3 h3 s13 (.bl false)
  · exact h3.elim
theorem pd_chain {op op' : CmpOp} {r r' : R2} {f g : PyData → PyData → (PyData → Prop) → Prop} (h : OpR X (compareOp op) r) (h' : OpR X (compareOp op') r') (ho : Op2 X.K Ps r f) (ho' : Op2 X.K Ps r' g) (ha : PE X a (lift X.K Ps da)) (hb : PE X b (lift X.K Ps db)) (hc : PE X c0 (lift X.K Ps dc))
    (hm : lastMarks [op, op'] [b, c0] = false := by with_unfolding_all rfl) : PE X (.Compare a [op, op'] [b, c0] pos) (lift X.K Ps (dChain f g da db dc)) := pe_weak (pe_chain h h' ha hb hc hm) fun _ _ _ => lift_chain ho ho'
theorem ptd_chain {op op' : CmpOp} {r r' : R2} {f g : PyData → PyData → (PyData → Prop) → Prop} (h : OpR X (compareOp op) r) (h' : OpR X (compareOp op') r') (ho : Op2 X.K Ps r f) (ho' : Op2 X.K Ps r' g) (ha : PE X a (lift X.K Ps da)) (hb : PE X b (lift X.K Ps db)) (hc : PE X c0 (lift X.K Ps dc))
    (hm : lastMarks [op, op'] [b, c0] = false := by with_unfolding_all rfl) : PT X (.Compare a [op, op'] [b, c0] pos) (liftT X.K Ps (dTest (dChain f g da db dc))) := pt_weak (pt_chain h h' ha hb hc hm) fun σ H Q h => by
  have h2 := lift_test h
  unfold tTest at h2 ⊢
  obtain ⟨c, hs, as, σd, Qd, S, hd, k⟩ := h2
  exact lift_chain ho ho' ⟨c, hs, as, σd, Qd, S, hd, k⟩
end
/-! ### operations -/
section
variable {K : PySem.W.Frag} {Ps : TX}
def fEq (neg : Bool) : PyData → PyData → (PyData → Prop) → Prop := fun x y Q => SeqAt.shaped x = true ∧ SeqAt.shaped y = true ∧ Q (.bool (if neg then !PyData.eqv x y else PyData.eqv x y))
theorem op2_eq : Op2 K Ps (rEqD K) (fEq false) := fun M hs H v w x y Qd Q wf hx hy h k => ⟨x, y, (dp_mono msk_ex hx).old (noDict_shaped h.1), (dp_mono msk_ex hy).old (noDict_shaped h.2.1), h.1, h.2.1, k _ _ H h.2.2 Step.refl (.bl _)⟩
theorem op2_ne : Op2 K Ps (rNeD K) (fEq true) := fun M hs H v w x y Qd Q wf hx hy h k => ⟨x, y, (dp_mono msk_ex hx).old (noDict_shaped h.1), (dp_mono msk_ex hy).old (noDict_shaped h.2.1), h.1, h.2.1, k _ _ H h.2.2 Step.refl (.bl _)⟩
/-- + of tuples -/
def fCatT : PyData → PyData → (PyData → Prop) → Prop := fun x y Q => match x, y with
  | .tuple xs, .tuple ys => xs.length + ys.length ≤ 100000 ∧ Q (.tuple (xs ++ ys))
  | _, _ => False
theorem op2_catT : Op2 K Ps (rCatA K) fCatT := by
  intro M hs H v w x y Qd Q wf hx hy h k
  unfold fCatT at h
  split at h
  · obtain ⟨hz, hq⟩ := h
    have hx0 := hx
    have hy0 := hy
    cases hx with
    | tup x1 x2 =>
      cases hy with
      | tup y1 y2 =>
        refine ⟨_, _, _, _, rfl, rfl, ex_t msk_ex x1, ex_t msk_ex y1, sz_of (by rw [x2.len, y2.len]; exact hz), fun e => ?_, fun e1 e2 => ?_, fun e1 e2 p hp => ?_⟩
        · subst e
          cases x2
          exact k _ _ H hq Step.refl hy0
        · subst e2
          cases y2
          rw [List.append_nil] at hq
          exact k _ _ H hq Step.refl hx0
        · exact k _ _ _ hq (Step.of_ex (Ex.new hp)) (dp_newT wf hp (x2.app y2))
  · exact h.elim
end
end Dl
end
section
set_option Elab.async false
set_option linter.all false
set_option maxRecDepth 100000
set_option maxHeartbeats 1000000
namespace Dl
open PySem PySem.Spec PyProof.Rows L2 HbE Evl
variable [LmV.LamTable]
/-! ### built-ins of values -/
def OpN (K : PySem.W.Frag) (Ps : TX) (r : List V → Hp → VK → Prop) (f : List PyData → (PyData → Prop) → Prop) : Prop := ∀ (M : Addr → Prop) (hs : List Addr) (H : Hp) (vs : List V) (ds : List PyData) (Qd : PyData → Prop) (Q : VK),
  Wf Ps M hs H → DpAll K (msk M H) vs ds → f ds Qd → (∀ d z H', Qd d → Step hs Ps H H' → Dp K (msk M H') z d → Q z H') → r vs H Q
def dOpN (f : List PyData → (PyData → Prop) → Prop) (da : DA) : DE := fun σ Q => dDats da σ fun ds => f ds Q
theorem lift_opN {K : PySem.W.Frag} {Ps : TX} {r : List V → Hp → VK → Prop} {f : List PyData → (PyData → Prop) → Prop} {da : DA} {σ : L2.St} {H : Hp} {Q : VK} (ho : OpN K Ps r f) (h : lift K Ps (dOpN f da) σ H Q) : tCB r (liftA K Ps da) σ H Q := by
  obtain ⟨c, hs, as, σd, Qd, S, hd, k⟩ := h
  refine ⟨c, hs, as, σd, _, S, hd, fun ws vs H1 h1 s1 r1 => ?_⟩
  split at h1
  · rename_i ds q
    exact ho _ hs H1 vs ds Qd Q (S.step s1).fr.wf (dats_dp r1 q) h1 fun d z H' h s r => k d z H' h (s1.trans s) r
  · exact h1.elim
section
variable {K : PySem.W.Frag} {Ps : TX}
def fAbs : List PyData → (PyData → Prop) → Prop := fun ds Q => match ds with
  | [.int i] => Q (.int (if i < 0 then -i else i))
  | _ => False
theorem opn_abs : OpN K Ps (fun xs H Q => ∃ i, xs = [.int i] ∧ Q (.int (if i < 0 then -i else i)) H) fAbs := by
  intro M hs H vs ds Qd Q wf h f k
  unfold fAbs at f
  split at f
  · cases h with | cons h1 h2 => cases h2; cases h1; exact ⟨_, rfl, k _ _ H f Step.refl (.int _)⟩
  · exact f.elim
def fInt : List PyData → (PyData → Prop) → Prop := fun ds Q => match ds with
  | [.int i] => Q (.int i)
  | [.bool b] => Q (.int (if b then 1 else 0))
  | _ => False
def fMax2 : List PyData → (PyData → Prop) → Prop := fun ds Q => match ds with
  | [.int i, .int j] => Q (.int (if j > i then j else i))
  | _ => False
theorem opn_max2 : OpN K Ps (fun xs H Q => ∃ i j, xs = [.int i, .int j] ∧ Q (.int (if j > i then j else i)) H) fMax2 := by
  intro M hs H vs ds Qd Q wf h f k
  unfold fMax2 at f
  split at f
  · cases h with | cons h1 h2 => cases h2 with | cons h2 h3 => cases h3; cases h1; cases h2; exact ⟨_, _, rfl, k _ _ H f Step.refl (.int _)⟩
  · exact f.elim
def fMin2 : List PyData → (PyData → Prop) → Prop := fun ds Q => match ds with
  | [.int i, .int j] => Q (.int (if j < i then j else i))
  | _ => False
theorem opn_min2 : OpN K Ps (fun xs H Q => ∃ i j, xs = [.int i, .int j] ∧ Q (.int (if j < i then j else i)) H) fMin2 := by
  intro M hs H vs ds Qd Q wf h f k
  unfold fMin2 at f
  split at f
  · cases h with | cons h1 h2 => cases h2 with | cons h2 h3 => cases h3; cases h1; cases h2; exact ⟨_, _, rfl, k _ _ H f Step.refl (.int _)⟩
  · exact f.elim
def fGcd : List PyData → (PyData → Prop) → Prop := fun ds Q => match ds with
  | [.int i, .int j] => Q (.int ((Nat.gcd i.natAbs j.natAbs : Nat) : Int))
  | _ => False
theorem opn_gcd : OpN K Ps rGcd fGcd := by
  intro M hs H vs ds Qd Q wf h f k
  unfold fGcd at f
  split at f
  · cases h with | cons h1 h2 => cases h2 with | cons h2 h3 => cases h3; cases h1; cases h2; exact ⟨_, _, rfl, k _ _ H f Step.refl (.int _)⟩
  · exact f.elim
/-! isinstance with a built-in type -/
def tyD : PyData → String
  | .none => "NoneType"
  | .bool _ => "bool"
  | .int _ => "int"
  | .str _ => "str"
  | .list _ => "list"
  | .tuple _ => "tuple"
  | .dict _ => "dict"
theorem ty_of {H : Hp} {v : V} {d : PyData} (h : Dp K H v d) : TyX K H v (.type (tyD d)) := by
  cases h with
  | non => exact .base .non
  | bl b => exact .base (.bl b)
  | int i => exact .base (.int i)
  | str x => exact .base (.str x)
  | lst h1 _ =>
    rcases h1 with (h | ⟨o, h⟩) | ⟨o, _, _, h, hc, _⟩
    · exact .base (.lst h)
    · exact .base (.frz h)
    · exact .kList h hc
  | tup h1 _ =>
    rcases h1 with (h | ⟨o, h⟩) | ⟨o, _, _, h, hc, _⟩
    · exact .base (.tup h)
    · exact .fTuple h
    · exact .kTuple h hc
  | dct h => exact .base (.dK h)
  | dctT h => exact .base (.dT h)
/-- what isinstance of such a type and class says -/
def isB (a b : String) : Bool := (kitB a b).getD false
def dIsi (T : String) (de : DE) : DE := fun σ Q => de σ fun d => Q (.bool (isB (tyD d) T))
def isOk (T : String) : Bool := ["NoneType", "bool", "int", "str", "list", "tuple", "dict"].all fun a => (kitB a T).isSome
theorem isOk_at {T : String} (h : isOk T = true) (d : PyData) : kitB (tyD d) T = some (isB (tyD d) T) := by
  have : (kitB (tyD d) T).isSome = true := by
    unfold isOk at h
    exact List.all_eq_true.mp h (tyD d) (by cases d <;> simp [tyD])
  unfold isB
  obtain ⟨b, e⟩ := Option.isSome_iff_exists.mp this
  rw [e]
  rfl
end
section
variable {X : Cx} {Ps : TX} {e a b c0 : PySem.Expr} {es : List PySem.Expr} {pos p p2 : Pos} {de : DE}
theorem pd_isi {T : String} (hT : isOk T = true) (he : PE X e (lift X.K Ps de)) (hg : Gl X "isinstance") (hm : X.mg "isinstance" = none) (hx : PE X c0 (tC (.ty T)))
    (h1 : starEach [e, c0] X.env = (false, eval e X.env) :: starEach [c0] X.env := by rfl) (h2 : starEach [c0] X.env = (false, eval c0 X.env) :: starEach [] X.env := by rfl) (hpl : (backTo pos (starEach [c0] X.env)).any (·.1) = false := by rfl) :
    PE X (.Call (.Name "isinstance" p) [e, c0] [] pos) (lift X.K Ps (dIsi T de)) :=
  pe_weak (pe_callB call_isi hg hm boot_isinstance (pa_cons he (pa_cons hx pa_nil h2) h1) (by decide) (by decide) h1 hpl) fun σ H Q ⟨c, hs, as, σd, Qd, S, hd, k⟩ =>
    ⟨c, hs, as, σd, _, S, hd, fun d v H1 h1 s1 r1 => ⟨v, .ty T, .type (tyD d), .type T, _, rfl, .ty T, ty_of (dp_mono msk_ex r1), kit_ty (isOk_at hT d), k _ _ H1 h1 s1 (.bl _)⟩⟩
theorem pd_callN {id : String} {x : Str} {r : List V → Hp → VK → Prop} {f : List PyData → (PyData → Prop) → Prop} {da : DA} (hc : CallR X (.builtin id) r) (ho : OpN X.K Ps r f) (hg : Gl X x) (hm : X.mg x = none) (hv : bootBuiltins x = some (.builtin id)) (ha : PA X (e :: es) (liftA X.K Ps da)) (hn : x ≠ "__name__" := by decide) (hdb : (x == ("__debug__" : Str)) = false := by decide)
    (he : starEach (e :: es) X.env = (false, eval e X.env) :: starEach es X.env := by rfl) (hpl : (backTo pos (starEach es X.env)).any (·.1) = false := by rfl) : PE X (.Call (.Name x p) (e :: es) [] pos) (lift X.K Ps (dOpN f da)) :=
  pe_weak (pe_callB hc hg hm hv ha hn hdb he hpl) fun _ _ _ => lift_opN ho
/-- built-in functions that the program imports -/
theorem pd_callF {id : String} {x : Str} {r : List V → Hp → VK → Prop} {f : List PyData → (PyData → Prop) → Prop} {da : DA} (hc : CallR X (.builtin id) r) (ho : OpN X.K Ps r f) (hg : Gl X x) (hm : X.mg x = some (.builtin id)) (ha : PA X (e :: es) (liftA X.K Ps da)) (hdb : (x == ("__debug__" : Str)) = false := by decide)
    (he : starEach (e :: es) X.env = (false, eval e X.env) :: starEach es X.env := by rfl) (hpl : (backTo pos (starEach es X.env)).any (·.1) = false := by rfl) : PE X (.Call (.Name x p) (e :: es) [] pos) (lift X.K Ps (dOpN f da)) :=
  pe_weak (pe_callBfun hc hg hm ha hdb he hpl) fun _ _ _ => lift_opN ho
/-! of one list or tuple -/
theorem pd_callQ {id : String} {x : Str} {r : List V → Hp → VK → Prop} {f : Bool → List PyData → (PyData → Prop) → Prop} {dq : DQ} (hc : CallR X (.builtin id) r) (ho : OpQ X.K Ps r f) (hg : Gl X x) (hm : X.mg x = none) (hv : bootBuiltins x = some (.builtin id)) (ha : PE X e (liftQ X.K Ps dq)) (hn : x ≠ "__name__" := by decide) (hdb : (x == ("__debug__" : Str)) = false := by decide)
    (he : starEach [e] X.env = (false, eval e X.env) :: starEach [] X.env := by rfl) : PE X (.Call (.Name x p) [e] [] pos) (lift X.K Ps (dOpQ f dq)) :=
  pe_weak (pe_callB hc hg hm hv (pa_cons ha pa_nil he) hn hdb he (by rfl)) fun _ _ _ => lift_opQ ho
theorem pd_len {dq : DQ} (hg : Gl X "len") (hm : X.mg "len" = none) (ha : PE X e (liftQ X.K Ps dq)) (he : starEach [e] X.env = (false, eval e X.env) :: starEach [] X.env := by rfl) : PE X (.Call (.Name "len" p) [e] [] pos) (lift X.K Ps (dOpQ fLen dq)) :=
  pd_callQ call_len_seq opq_len hg hm boot_len ha (by decide) (by decide) he
def fTuple : Bool → List PyData → (PyData → Prop) → Prop := fun _ ds Q => Q (.tuple ds)
theorem lift_tuple {dq : DQ} {σ : L2.St} {H : Hp} {Q : VK} (h : lift X.K Ps (dOpQ fTuple dq) σ H Q) : tCB (fun xs H Q => ∃ p ys, xs = [V.ref p] ∧ ((SqL X.K H p ys ∧ ∀ l, H l = none → Q (.ref l) (upd H l (.tup ys))) ∨ (SqT X.K H p ys ∧ Q (.ref p) H))) (tCons (liftQ X.K Ps dq) tNil) σ H Q := by
  obtain ⟨c, hs, as, σd, Qd, S, hd, k⟩ := h
  refine ⟨c, hs, as, σd, _, S, hd, fun b ds v H1 h1 s1 r1 => ?_⟩
  cases b with
  | true =>
    obtain ⟨p, xs, rfl, h3, h4⟩ := r1.ex
    exact ⟨p, xs, rfl, .inl ⟨h3, fun l hl => k _ _ _ h1 (s1.trans (Step.of_ex (Ex.new hl))) (dp_newT (S.step s1).fr.wf hl h4)⟩⟩
  | false =>
    rcases r1 with r | ⟨z, _⟩
    · have r' : Dp X.K (msk (Mk c hs as) H1) v (.tuple ds) := r
      have r0 := r'
      cases r' with
      | tup h3 h4 => exact ⟨_, _, rfl, .inr ⟨ex_t msk_ex h3, k _ _ H1 h1 s1 r0⟩⟩
    · cases z
theorem pd_tuple {dq : DQ} (hg : Gl X "tuple") (hm : X.mg "tuple" = none) (hv : bootBuiltins "tuple" = some (.type "tuple")) (ha : PE X e (liftQ X.K Ps dq)) (he : starEach [e] X.env = (false, eval e X.env) :: starEach [] X.env := by rfl) : PE X (.Call (.Name "tuple" p) [e] [] pos) (lift X.K Ps (dOpQ fTuple dq)) :=
  pe_weak (pe_callTy call_tuple_of hg hm hv (pa_cons ha pa_nil he) (by decide) (by decide) he (by rfl)) fun _ _ _ => lift_tuple
/-- a list of ints -/
def intsD : List PyData → Option (List Int)
  | [] => some []
  | .int i :: r => match intsD r with
    | some is => some (i :: is)
    | none => none
  | _ :: _ => none
theorem intsD_dp {K : PySem.W.Frag} {H : Hp} : ∀ {ds : List PyData} {vs : List V} {ns : List Int}, DpAll K H vs ds → intsD ds = some ns → vs = ns.map V.int
  | [], _, _, .nil, h => by cases h; rfl
  | .int i :: r, _, ns, .cons h1 h2, h => by
    unfold intsD at h
    split at h
    · rename_i is q
      cases h
      cases h1
      rw [List.map_cons, intsD_dp h2 q]
    · cases h
theorem intsD_map (ns : List Int) : intsD (ns.map PyData.int) = some ns := by
  induction ns with
  | nil => rfl
  | cons n ns ih => simp [intsD, ih]
def fSum : Bool → List PyData → (PyData → Prop) → Prop := fun b ds Q => b = true ∧ match intsD ds with
  | some ns => Q (.int ns.sum)
  | none => False
end
end Dl
end
section
set_option Elab.async false
set_option linter.all false
set_option maxRecDepth 100000
set_option maxHeartbeats 1000000
namespace Dl
open PySem PySem.Spec PyProof.Rows L2 HbE Evl
variable [LmV.LamTable]
theorem b_int : bootBuiltins "int" = some (.type "int") := by decide +kernel
theorem b_abs : bootBuiltins "abs" = some (.builtin "abs") := by decide +kernel
theorem b_max : bootBuiltins "max" = some (.builtin "max") := by decide +kernel
theorem b_min : bootBuiltins "min" = some (.builtin "min") := by decide +kernel
theorem b_sum : bootBuiltins "sum" = some (.builtin "sum") := by decide +kernel
theorem b_tuple : bootBuiltins "tuple" = some (.type "tuple") := by decide +kernel
section
variable {X : Cx} {Ps : TX} {e o ix tg : PySem.Expr} {pos apos cpos tpos : Pos} {de di : DE} {i : Nat}
theorem psd_app (ho : PE X o (tVar i)) (he : PE X e (lift X.K Ps de)) (hbase : attributeBase o "append" X.env (eval o X.env) = eval o X.env := by rfl)
    (hfew : ((backTo cpos (starEach [e] X.env)).all (fun x => !x.1) && (backToKw cpos (keywordEach [] X.env)).all (fun x => x.1.isSome) && decide (([e] : List PySem.Expr).length + ([] : List Keyword).length + (if ([] : List Keyword).isEmpty then 0 else 1) < 30)) = true := by rfl)
    (hline : (apos.endLine == cpos.line) = true := by rfl) (hs : starEach [e] X.env = (false, eval e X.env) :: starEach [] X.env := by rfl) (hplain : (backTo cpos (starEach [] X.env)).any (·.1) = false := by rfl)
    (hw : swapsWith (.Call (.Attribute o "append" apos) [e] [] cpos) none pos.line X.env = pure false := by rfl) :
    PS X (.Expr (.Call (.Attribute o "append" apos) [e] [] cpos) pos) (liftS X.K Ps (dApp i de)) :=
  ps_weak (ps_expr (pe_bm PySem.F.plainAttrs_list PySem.F.slot_list_append PySem.F.type_list_append mt_append ho (pa_cons he pa_nil hs) hbase hfew hline hs hplain) hw) fun _ _ _ => lift_app
theorem psd_asgG {g : DG} {ts : List Nat} (he : PE X e (lift X.K Ps de)) (hg : PG X tg (liftG X.K Ps ts g)) (hs : swapsWithSole [tg] e pos.line X.env = pure false := by rfl) (hw : swappedStores [tg] e X.env = pure none := by rfl)
    (h1 : (assignEach [tg] X.env).map (·.2) = [assign tg X.env] := by rfl) : PS X (.Assign [tg] e pos) (liftS X.K Ps (dAsgG g de)) := ps_weak (ps_asg he hg hs hw h1) fun _ _ _ => lift_asgG
/-- x, y = e, f -/
def dPar (i j : Nat) (da : DA) : DS := fun D σ => da σ fun ws => match ws with
  | [.dat d, .dat d'] => D.nx ((σ.set i (some (.dat d))).set j (some (.dat d')))
  | _ => False
theorem lift_par {j : Nat} {da : DA} {D : Ends} {σ : L2.St} {H : Hp} (h : liftS X.K Ps (dPar i j da) D σ H) : tPar i j (liftA X.K Ps da) D σ H := by
  obtain ⟨c, hs, as, σd, Dd, S, h, r⟩ := h
  refine ⟨c, hs, as, σd, _, S, h, fun ws vs H1 h1 s1 r1 => ?_⟩
  split at h1
  · cases r1 with
    | cons q1 q2 =>
      cases q2 with
      | cons q2 q3 =>
        cases q3
        exact ⟨_, _, rfl, r.nx hs as _ H1 _ (((S.step s1).set (.dat _) (fun _ z => by cases z) q1).set (.dat _) (fun _ z => by cases z) q2) h1⟩
  · exact h1.elim
theorem psd_par {j : Nat} {x y : Str} {a b : PySem.Expr} {da : DA} {px py pt : Pos} {kt k2 pt2} (hc : X.calm = true) (hN : X.N.Nodup) (hi : X.N[i]? = some x) (hj : X.N[j]? = some y) (hij : i ≠ j)
    (hx : X.env.scope.names.lookup x = some .local) (hy : X.env.scope.names.lookup y = some .local) (ha : PA X [a, b] (liftA X.K Ps da))
    (hw : swappedStores [.Tuple [.Name x px, .Name y py] kt pt] (.Tuple [a, b] k2 pt2) X.env = pure (some [x, y]))
    (hs : swapsWithSole [.Tuple [.Name x px, .Name y py] kt pt] (.Tuple [a, b] k2 pt2) pos.line X.env = pure false := by rfl) :
    PS X (.Assign [.Tuple [.Name x px, .Name y py] kt pt] (.Tuple [a, b] k2 pt2) pos) (liftS X.K Ps (dPar i j da)) := ps_weak (ps_par hc hN hi hj hij hx hy ha hw hs) fun _ _ _ => lift_par
section
variable {y : Str} {py spos : Pos} {elt iter : PySem.Expr} {ifs : List PySem.Expr} {scope : Scope} {own : List (Str × Nat)} {dit : DI} {g : DG} {tt : DT} {te : DE} {ts : List Nat}
/-- name = [..], the name a local -/
theorem psd_setLcO (hc : X.calm = true) (hN : X.N.Nodup) (hy : X.N[i]? = some y) (hyl : X.env.scope.names.lookup y = some .local)
    (hsw : swapsWith (.ListComp elt [⟨tg, iter, ifs, 0⟩] scope pos) (some (.Name y py)) spos.line X.env = pure true) (hi : PI X tg iter (liftI X.K Ps dit)) (ok : BlkOk X.N X.env.scope scope own)
    (hg : ∀ (s : Shared) (H : Hp) (C : Addr) (cl : List (Str × Addr)) (fp : List Addr), PG (X.blk s H scope (compEnvC scope cl C X.env) fp) tg (liftG X.K Ps ts g))
    (ht : ∀ (s : Shared) (H : Hp) (C : Addr) (cl : List (Str × Addr)) (fp : List Addr), PTs (X.blk s H scope (compEnvC scope cl C X.env) fp) ifs (liftT X.K Ps tt))
    (he : ∀ (s : Shared) (H : Hp) (C : Addr) (cl : List (Str × Addr)) (fp : List Addr), PE (X.blk s H scope (compEnvC scope cl C X.env) fp) elt (lift X.K Ps te))
    (hs : ∀ x, foldedSetIterable iter X.env x = pure x := by intro _; rfl) (hts : ∀ t ∈ ts, t ∈ own.map (·.2) := by decide) :
    PS X (.Assign [.Name y py] (.ListComp elt [⟨tg, iter, ifs, 0⟩] scope pos) spos) (liftS X.K Ps (dSetO i (dLc dit g tt te (own.map (·.2))))) :=
  ps_weak (ps_setLc hc hN hy hyl hsw hi ok hg ht he hs) fun D σ H h => lift_lc hts (lift_setO h)
end
/-- a way that is not gone -/
def dRaise : DS := fun _ _ => False
end
end Dl
end
section
set_option Elab.async false
set_option linter.all false
set_option maxRecDepth 100000
set_option maxHeartbeats 1000000
namespace Dl
open PySem PySem.Spec PyProof.Rows L2 HbE Evl RZ
variable [LmV.LamTable]
section
variable {K : PySem.W.Frag} {Ps : TX} {H : Hp} {hs as : List Addr} {c : C0}
theorem DpAll_rep {K : PySem.W.Frag} {H : Hp} {vs : List V} {ds : List PyData} (h : DpAll K H vs ds) : ∀ n : Nat, DpAll K H (List.replicate n vs).flatten (List.replicate n ds).flatten
  | 0 => .nil
  | n + 1 => by
    rw [List.replicate_succ, List.replicate_succ, List.flatten_cons, List.flatten_cons]
    exact h.app (DpAll_rep h n)
theorem fresh_off {σ : L2.St} {σd : Sd} {p : Addr} (S : Sts K Ps c hs as σ H σd) (hp : H p = none) : p ∉ hs ∧ p ∉ ad Ps.l := by
  refine ⟨fun z => ?_, fun z => ?_⟩
  · obtain ⟨⟨o, e, _⟩, _⟩ := S.fr.hat p z
    rw [hp] at e; cases e
  · obtain ⟨ps, e⟩ := S.fr.wf.tbl z
    rw [hp] at e; cases e
end
section
variable {X : Cx} {Ps : TX} {e a b c0 : PySem.Expr} {es : List PySem.Expr} {pos p p2 : Pos} {de : DE} {dl : DL}
/-- [..] * n -/
def dRep (dl : DL) (de : DE) : DL := fun σ Q => dl σ fun ds => de σ fun d => match d with
  | .int k => -1000000000 ≤ k ∧ k ≤ 1000000 ∧ ds.length * k.toNat ≤ 100000 ∧ Q (List.replicate k.toNat ds).flatten
  | _ => False
theorem pn_rep (ha : PE X a (liftN X.K Ps dl)) (hb : PE X b (lift X.K Ps de)) : PE X (.BinOp a .Mult b pos) (liftN X.K Ps (dRep dl de)) := pe_weak (pe_op op_rep ha hb) fun σ H Q ⟨c, hs, as, σd, Qd, S, hd, k⟩ =>
  ⟨c, hs, as, σd, _, S, hd, fun ds q vs H1 h1 s1 hq hq1 r1 => ⟨c, hs, as, σd, _, S.step s1, h1, fun d w H2 h2 s2 r2 => by
    split at h2
    · rename_i n
      cases r2
      obtain ⟨b1, b2, b3, h2⟩ := h2
      obtain ⟨n1, n2⟩ := fresh_off S hq
      have T := S.new (i := σd.length) s1 hq hq1 r1
      have e2 : DpAll X.K (msk (Mk c hs as) H2) vs ds := dpAll_mono (msk_less fun x m => by
        rcases m with m | m | m
        · exact .inl m
        · exact .inr (.inl m)
        · exact .inr (.inr (List.mem_cons_of_mem _ m))) (dpAll_mono (T.fr.wf.ex s2) r1)
      refine ⟨q, n, vs, rfl, rfl, s2.keep q _ hq1 n1 n2, by omega, by omega, sz_of (by rw [e2.len]; exact b3), fun l hl => ?_⟩
      have s12 := s1.trans s2
      exact k _ l _ _ h2 (s12.trans (Step.of_ex (Ex.new hl))) (none_of S.fr s12 hl) upd_same (own_new hl (DpAll_rep e2 n.toNat))
    · exact h2.elim⟩⟩
/-! ### slices -/
abbrev DO := Sd → (Option Int → Prop) → Prop
def liftO (K : PySem.W.Frag) (Ps : TX) (dO : DO) : TO := fun σ H Q => ∃ c hs as σd Qd, Sts K Ps c hs as σ H σd ∧ dO σd Qd ∧ ∀ o H', Qd o → Step hs Ps H H' → Q o H'
theorem po_weak {e : Option PySem.Expr} {t t' : TO} (h : PO X e t) (k : ∀ σ H Q, t' σ H Q → t σ H Q) : PO X e t' := ⟨fun pins s σ H Q I q => h.run pins s σ H Q I (k σ H Q q)⟩
def oNone : DO := fun _ Q => Q none
def oSome (de : DE) : DO := fun σ Q => de σ fun d => match d with
  | .int i => Q (some i)
  | _ => False
theorem pod_none : PO X none (liftO X.K Ps oNone) := po_weak po_none fun σ H Q ⟨c, hs, as, σd, Qd, S, hd, k⟩ => k none H hd Step.refl
theorem pod_some (h : PE X e (lift X.K Ps de)) : PO X (some e) (liftO X.K Ps (oSome de)) := po_weak (po_some h) fun σ H Q ⟨c, hs, as, σd, Qd, S, hd, k⟩ => ⟨c, hs, as, σd, _, S, hd, fun d v H' q s r => by
  split at q
  · cases r
    exact ⟨_, rfl, k _ H' q s⟩
  · exact q.elim⟩
def cutD (ds : List PyData) (lo hi : Option Int) : List PyData := (ds.drop (HT.sIx ds.length 0 lo)).take (HT.sIx ds.length ds.length hi - HT.sIx ds.length 0 lo)
theorem cut_dp {K : PySem.W.Frag} {H : Hp} {vs : List V} {ds : List PyData} (h : DpAll K H vs ds) (lo hi : Option Int) : DpAll K H (cutV vs lo hi) (cutD ds lo hi) := by
  unfold cutV cutD
  rw [h.len]
  exact (h.drop _).take _
def dSl (dq : DQ) (l h : DO) : DE := fun σ Q => dq σ fun b ds => l σ fun lo => h σ fun hi => Q (if b then .list (cutD ds lo hi) else .tuple (cutD ds lo hi))
theorem cut_whole {vs : List V} {lo hi : Option Int} (h : HT.sIx vs.length 0 lo = 0 ∧ HT.sIx vs.length vs.length hi = vs.length) : cutV vs lo hi = vs := by
  unfold cutV
  rw [h.1, h.2]
  simp
theorem pd_slice {dq : DQ} {dlo dhi : DO} {lo hi : Option PySem.Expr} (he : PE X e (liftQ X.K Ps dq)) (hl : PO X lo (liftO X.K Ps dlo)) (hu : PO X hi (liftO X.K Ps dhi)) : PE X (.Subscript e (.Slice lo hi none p2) pos) (lift X.K Ps (dSl dq dlo dhi)) :=
  pe_weak (pe_slice (SlR.or sl_list sl_tupA) he hl hu) fun σ H Q ⟨c, hs, as, σd, Qd, S, hd, k⟩ =>
    ⟨c, hs, as, σd, _, S, hd, fun b ds v H1 h1 s1 r1 => ⟨c, hs, as, σd, _, S.step s1, h1, fun o1 H2 h2 s2 => ⟨c, hs, as, σd, _, (S.step s1).step s2, h2, fun o2 H3 h3 s3 => by
      have s23 := s2.trans s3
      have r3 := r1.step (S.step s1).fr s23
      have T := (S.step s1).step s23
      have s13 := s1.trans s23
      obtain ⟨q, xs, rfl, h4, h5⟩ := r3.ex
      cases b with
      | true => exact .inl ⟨q, xs, rfl, h4, fun l hl => k _ _ _ h3 (s13.trans (Step.of_ex (Ex.new hl))) (dp_newL T.fr.wf hl (cut_dp h5 _ _))⟩
      | false =>
        refine .inr ⟨q, xs, rfl, h4, fun hw => ?_, fun hw l hl => k _ _ _ h3 (s13.trans (Step.of_ex (Ex.new hl))) (dp_newT T.fr.wf hl (cut_dp h5 _ _))⟩
        refine k _ _ H3 h3 s13 ?_
        have e1 := cut_whole (vs := xs) (lo := o1) (hi := o2) hw
        have e2 : cutD ds o1 o2 = ds := by
          have hw' : HT.sIx ds.length 0 o1 = 0 ∧ HT.sIx ds.length ds.length o2 = ds.length := by rw [← h5.len]; exact hw
          unfold cutD
          rw [hw'.1, hw'.2]
          simp
        simp only [Bool.false_eq_true, if_false]
        rw [e2]
        rcases r3 with r | ⟨z, _⟩
        · exact r
        · cases z⟩⟩⟩
/-! ### zip of two lists, of two tuples -/
def dZip (da : DA) : DI := fun σ Q => da σ fun ws => match ws with
  | [.dat (.list ds), .dat (.list es)] => Q (List.zipWith (fun x y => PyData.tuple [x, y]) ds es)
  | [.dat (.tuple ds), .dat (.tuple es)] => Q (List.zipWith (fun x y => PyData.tuple [x, y]) ds es)
  | _ => False
/-! ### enumerate of a list -/
theorem itd_enumL {K : PySem.W.Frag} {B : Hp} {p : Addr} {xs : List V} {ds : List PyData} (h1 : SqL K B p xs) (d1 : DpAll K B xs ds) : ItD K Ps B (Ite K p) (ds.mapIdx fun i x => PyData.tuple [.int (i : Nat), x]) := fun M hs H wf e => by
  have l1 := ex_l msk_ex (ex_l e h1)
  refine ⟨fun i d hi => ?_, ⟨xs, l1, by rw [d1.len]; simp⟩⟩
  rw [List.getElem?_mapIdx] at hi
  cases qx : ds[i]? with
  | none => rw [qx] at hi; simp at hi
  | some x =>
    rw [qx] at hi
    cases hi
    obtain ⟨v, a1, a2⟩ := d1.get qx
    refine ⟨⟨xs, v, l1, a1⟩, fun z H' t => ?_⟩
    obtain ⟨T, x', rfl, nT, rfl, f1⟩ := t
    have e1 := f1 xs l1
    rw [a1] at e1
    cases e1
    exact ⟨Step.of_ex (Ex.new nT), dp_newT wf nT (.cons (.int _) (.cons (dp_mono e a2) .nil))⟩
end
end Dl
end
section
set_option Elab.async false
set_option linter.all false
set_option maxRecDepth 100000
set_option maxHeartbeats 2000000
/-! enumerate of a tuple. -/
namespace PySem
open Sem (wp)
variable [LmV.LamTable]
theorem hb_enum_meets {v : Value} {ob : Obj} {H : Heap → Prop} (B : Begins v ob H) :
    Meets (Builtin.«enumerate.__new__» ⟨[.type "enumerate", v], []⟩) (fun _ R s => H s.heap ∧ R (.ok (.ret (.ref (s.heap.push ob).objs.size)))
      { s with heap := (s.heap.push ob).push { cls := .type "enumerate", data := .fields #[.none, .bool false, .ref s.heap.objs.size, rawInt 0, .none, .none] } }) :=
  .of_wp fun prog w A R s hin => by
    obtain ⟨hp, g, d, tk, os⟩ := s
    obtain ⟨hH, hR⟩ := hin
    have hsub := sub_enumerate
    have step : ∀ {A' : Around} {E' : Value → Shared → Prop} {Q' : Value → Shared → Prop}, Q' (.ref hp.objs.size) ⟨hp.push ob, g, d, tk, os⟩ → wpAny (model prog w) A' (pyIter v) Q' E' ⟨hp, g, d, tk, os⟩ := fun q => B.iter prog w _ _ _ _ hH q
    wp_walk using step
    refine wpAny_stack_any fun stk => wpAny_pure ?_
    split
    · rename_i cc _ _ _ _ _
      cases (cc == Value.type "enumerate") <;> (wp_walk using step; exact ⟨_, rfl, hR⟩)
    · wp_walk using step
      exact ⟨_, rfl, hR⟩
theorem hb_enum {prog : Program} {w : World} {A : Around} {E : Value → Shared → Prop} {s : Shared} {v : Value} {ob : Obj} {H : Heap → Prop} {Q : Value → Shared → Prop} (B : Begins v ob H) (hH : H s.heap)
    (k : ∀ h', IsEnum h' (s.heap.objs.size + 1) s.heap.objs.size 0 .none → h'.get? s.heap.objs.size = some ob → (∀ b x, s.heap.get? b = some x → h'.get? b = some x) → Q (.ref (s.heap.objs.size + 1)) { s with heap := h' }) :
    wpAny (model prog w) A (call (.type "enumerate") [v]) Q E s := by
  refine callType_new F.called_enumerate (by decide) (F.typeCall_enumerate_1 _) (F.newCall_enumerate_1 _) (fun obj => F.args_object_init_2 obj _) F.entry_enumerate_new (hb_enum_meets B) ⟨hH, ?_⟩
  have z : (s.heap.push ob).objs.size = s.heap.objs.size + 1 := Heap.size_push ..
  show _ ∧ _
  rw [z]
  generalize hE : (s.heap.push ob).push { cls := .type "enumerate", data := .fields #[.none, .bool false, .ref s.heap.objs.size, rawInt 0, .none, .none] } = h2
  have isE : IsEnum h2 (s.heap.objs.size + 1) s.heap.objs.size 0 .none := by
    have q := Heap.get?_push_size (s.heap.push ob) (o := { cls := .type "enumerate", data := .fields #[.none, .bool false, .ref s.heap.objs.size, rawInt 0, .none, .none] }) rfl
    rw [z, hE] at q
    exact q
  refine ⟨⟨_, isE, rfl⟩, k _ isE ?_ fun b x q => ?_⟩
  · rw [← hE]; exact Heap.get?_push_of_some _ (Heap.get?_push_size _ B.free)
  · rw [← hE]; exact Heap.get?_push_of_some _ (Heap.get?_push_of_some _ q)
end PySem
namespace Dl
open PySem PySem.Spec PyProof.Rows L2 HbE Evl RZ
variable [LmV.LamTable]
/-- the tuple at a, each item in a new pair -/
def IteT (K : PySem.W.Frag) (a : Addr) : It :=
  ⟨fun i H => ∃ (xs : List V) (x : V), SqT K H a xs ∧ xs[i]? = some x, fun i H v H' => ∃ T x, v = .ref T ∧ H T = none ∧ H' = upd H T (.tup [.int (i : Nat), x]) ∧ (∀ xs, SqT K H a xs → xs[i]? = some x), fun i H => ∃ xs : List V, SqT K H a xs ∧ xs.length = i⟩
theorem turn_enumT {P : Program} {w : World} {K : PySem.W.Frag} {elts : List PySem.Expr} {kk : Nat} {tpos : Pos} (a e it : Addr) (hai : a ≠ it) (hea : e ≠ a) :
    Turn P w K (.Tuple elts kk tpos) (IteT K a) [e, it] e (fun i h => (∃ old, IsEnum h e it ((i : Nat) : Int) old) ∧ h.IsTupleIter it a i ∧ e ≠ it) where
  mem := by simp
  obj := fun i h st b hb => by
    obtain ⟨⟨old, he⟩, ⟨o, ho, hc, hd⟩, _⟩ := st
    rcases List.mem_cons.mp hb with z | z
    · rw [z]; exact ⟨_, he, fun v q => by cases q⟩
    · rw [List.mem_singleton.mp z]; exact ⟨o, ho, fun v q => by rw [hd] at q; cases q⟩
  keep := fun i h h' st k => ⟨let ⟨old, he⟩ := st.1; ⟨old, k e (by simp) _ he⟩, st.2.1.at fun o q => k it (by simp) o q, st.2.2⟩
  item := by
    intro X hP hw hK hc i pins s σ H E I hf st hg
    subst hP hw hK
    obtain ⟨⟨old, he⟩, hit, hne⟩ := st
    obtain ⟨xs, x, hq, hx⟩ := hg
    obtain ⟨its, rv, pl, hz⟩ := I.tuple hq
    obtain ⟨u, hu, ru⟩ := rv.get hx
    have hel : e < s.heap.objs.size := Heap.lt_size he
    have hil : it < s.heap.objs.size := by obtain ⟨_, q, _⟩ := hit; exact Heap.lt_size q
    have hlt : i < its.toArray.size := by
      have := (List.getElem?_eq_some_iff.mp hu).1
      simpa using this
    refine wpAny_pyNext_enum_itemD (Draws.tuple (show X.A.in1.handled = none from I.ok.hd hc) it a hai its.toArray) he ⟨hit, pl⟩ hlt hne (by simp [hne, hea]) fun y h' tk py ho hst hT hsz hk => ?_
    have hyu : y = u := by
      have : its[i]? = some y := by simpa using py
      rw [hu] at this
      cases this
      rfl
    subst hyu
    refine ⟨_, rfl, wpAny_letOwnedTupleGo_enum (s := { s with heap := h', toks := tk + 1 }) ho fun h'' he' sb => ?_⟩
    have hT2 : h''.get? s.heap.objs.size = some { cls := .type "tuple", data := .seq #[.int i tk, y] } := (sb.2 _ (Nat.ne_of_gt hel)).trans hT
    have new : ObjOk X.prog X.w (upd H s.heap.objs.size (.tup [.int (i : Nat), x])) h'' s.heap.objs.size (.tup [.int (i : Nat), x]) :=
      ⟨by show 2 ≤ sizeLine; decide, [.int i tk, y], .cons ⟨_, rfl⟩ (.cons ru .nil), ⟨_, hT2, rfl, _, rfl⟩⟩
    have I1 : Inv X pins σ (upd H s.heap.objs.size (.tup [.int (i : Nat), x])) { s with heap := h'', toks := tk + 1 } :=
      I.turnedNew (ch := [e, it]) (fun b ob hb q => (sb.2 b (fun z => hb (by simp [z]))).trans (hk b ob (fun z => hb (by simp [z])) (fun z => hb (by simp [z])) q)) hf (Nat.le_refl _) new
    refine ⟨.ref s.heap.objs.size, _, I1, rfl, ⟨_, x, rfl, I.hok.fresh (Nat.le_refl _), rfl, fun ys hy => ?_⟩, ⟨⟨y, ?_⟩, hst.1.at fun o q => (sb.2 it (Ne.symm hne)).trans q, hne⟩, fun b hb => ?_⟩
    · rw [I.tuple_inj hy hq]; exact hx
    · have e1 : ((i + 1 : Nat) : Int) = (i : Int) + 1 := by omega
      rw [e1]; exact he'
    · have hb' : b < s.heap.objs.size := by
        rcases List.mem_cons.mp hb with z | z
        · rw [z]; exact hel
        · rw [List.mem_singleton.mp z]; exact hil
      rw [upd_ne (Nat.ne_of_lt hb')]
      exact (hf b hb).1
  done := by
    intro X hP hw hK hc i pins s σ H E I hf st hg
    subst hP hw hK
    obtain ⟨⟨old, he⟩, hit, hne⟩ := st
    obtain ⟨xs, hq, hx⟩ := hg
    obtain ⟨its, rv, pl, hz⟩ := I.tuple hq
    obtain ⟨f0, f1, f2, f3, f4, f5⟩ := hf it (by simp)
    have hl := rv.length
    have hn : i = its.toArray.size := by rw [List.size_toArray, ← hl, hx]
    subst hn
    exact wpAny_pyNext_enum_endD (Draws.tuple (show X.A.in1.handled = none from I.ok.hd hc) it a hai its.toArray) he ⟨hit, pl⟩ fun h' eb => ⟨rfl, I.turned (t' := s.toks) (fun b o hb q => eb b o hb q) f0 f1 f3 f4 f5⟩
  self := fun A i s Q E st h => let ⟨⟨_, he⟩, _⟩ := st; wpAny_pyIter_enum he h
def iEnumS (K : PySem.W.Frag) (ta : TA) : TI := fun σ H R => ta σ H fun vs H1 => ∃ a xs, vs = [.ref a] ∧ ((SqL K H1 a xs ∧ R (Ite K a) H1) ∨ (SqT K H1 a xs ∧ R (IteT K a) H1))
theorem pi_enumS {X : Cx} {e : PySem.Expr} {ta : TA} {p pos tpos : Pos} {elts : List PySem.Expr} {kk : Nat} (hg : Gl X "enumerate") (hm : X.mg "enumerate" = none) (ha : PA X [e] ta) (hs : starEach [e] X.env = [(false, eval e X.env)] := by rfl) :
    PI X (.Tuple elts kk tpos) (.Call (.Name "enumerate" p) [e] [] pos) (iEnumS X.K ta) := by
  refine ⟨fun pins s σ H R inv h => Call_ (ld_blt inv hg hm PyProof.Rows.boot_enumerate (PyProof.Rows.callWith_type1 (thn (ha.run pos pins s σ H _ inv h) fun us s1 ⟨vs, H1, inv1, rel, a, xs, ex, alt⟩ => ?_) hs rfl))⟩
  subst ex
  cases rel with
  | cons r rr =>
    cases rr
    cases r
    have fin : ∀ b ∈ [s1.heap.objs.size + 1, s1.heap.objs.size], FpOk X pins H1 b := fun b hb => by
      have hle : s1.heap.objs.size ≤ b := by
        rcases List.mem_cons.mp hb with z | z
        · rw [z]; exact Nat.le_add_right _ _
        · rw [List.mem_singleton.mp z]; exact Nat.le_refl _
      exact inv1.fpOk hle (inv1.hok.fresh hle)
    rcases alt with ⟨hq, q⟩ | ⟨hq, q⟩
    · obtain ⟨its, rv, pl, _⟩ := inv1.list hq
      refine call_enumerate_list pl.isList fun h' he hit _ hk => wpAny_pyIter_enum he ?_
      exact ⟨s1.heap.objs.size + 1, [s1.heap.objs.size + 1, s1.heap.objs.size], _, _, H1, rfl, inv1.kept (t' := s1.toks) hk, turn_enum a _ _, ⟨⟨.none, he⟩, hit, Nat.succ_ne_self _⟩, fin, q⟩
    · obtain ⟨its, rv, pl, _⟩ := inv1.tuple hq
      have al : a < s1.heap.objs.size := by obtain ⟨o, ho, _⟩ := pl; exact Heap.lt_size ho
      refine hb_enum (begins_tuple a its.toArray) pl fun h' he hob hk => wpAny_pyIter_enum he ?_
      exact ⟨s1.heap.objs.size + 1, [s1.heap.objs.size + 1, s1.heap.objs.size], _, _, H1, rfl, inv1.kept (t' := s1.toks) hk, turn_enumT a _ _ (Nat.ne_of_lt al) (Nat.ne_of_gt (Nat.lt_succ_of_lt al)), ⟨⟨.none, he⟩, ⟨_, hob, rfl, rfl⟩, Nat.succ_ne_self _⟩, fin, q⟩
section
variable {Ps : TX}
theorem itd_enumT {K : PySem.W.Frag} {B : Hp} {p : Addr} {xs : List V} {ds : List PyData} (h1 : SqT K B p xs) (d1 : DpAll K B xs ds) : ItD K Ps B (IteT K p) (ds.mapIdx fun i x => PyData.tuple [.int (i : Nat), x]) := fun M hs H wf e => by
  have l1 := ex_t msk_ex (ex_t e h1)
  refine ⟨fun i d hi => ?_, ⟨xs, l1, by rw [d1.len]; simp⟩⟩
  rw [List.getElem?_mapIdx] at hi
  cases qx : ds[i]? with
  | none => rw [qx] at hi; simp at hi
  | some x =>
    rw [qx] at hi
    cases hi
    obtain ⟨v, a1, a2⟩ := d1.get qx
    refine ⟨⟨xs, v, l1, a1⟩, fun z H' t => ?_⟩
    obtain ⟨T, x', rfl, nT, rfl, f1⟩ := t
    have e1 := f1 xs l1
    rw [a1] at e1
    cases e1
    exact ⟨Step.of_ex (Ex.new nT), dp_newT wf nT (.cons (.int _) (.cons (dp_mono e a2) .nil))⟩
def dEnum (da : DA) : DI := fun σ Q => da σ fun ws => match ws with
  | [.dat (.list ds)] => Q (ds.mapIdx fun i x => PyData.tuple [.int (i : Nat), x])
  | [.dat (.tuple ds)] => Q (ds.mapIdx fun i x => PyData.tuple [.int (i : Nat), x])
  | _ => False
theorem pid_enum {X : Cx} {a : PySem.Expr} {p pos tpos : Pos} {elts : List PySem.Expr} {kk : Nat} {da : DA} (hg : Gl X "enumerate") (hm : X.mg "enumerate" = none) (ha : PA X [a] (liftA X.K Ps da)) (hs : starEach [a] X.env = [(false, eval a X.env)] := by rfl) :
    PI X (.Tuple elts kk tpos) (.Call (.Name "enumerate" p) [a] [] pos) (liftI X.K Ps (dEnum da)) :=
  pi_weak (pi_enumS hg hm ha hs) fun σ H R ⟨c, hs, as, σd, Qd, S, hd, k⟩ => ⟨c, hs, as, σd, _, S, hd, fun ws vs H1 h1 s1 r1 => by
    split at h1
    · cases r1 with
      | cons q1 q2 =>
        cases q2
        cases q1 with
        | lst x1 x2 => exact ⟨_, _, rfl, .inl ⟨ex_l msk_ex x1, k _ _ H1 h1 s1 (itd_enumL x1 x2)⟩⟩
    · cases r1 with
      | cons q1 q2 =>
        cases q2
        cases q1 with
        | tup x1 x2 => exact ⟨_, _, rfl, .inr ⟨ex_t msk_ex x1, k _ _ H1 h1 s1 (itd_enumT x1 x2)⟩⟩
    · exact h1.elim⟩
end
end Dl
end
section
set_option Elab.async false
set_option linter.all false
set_option maxRecDepth 100000
set_option maxHeartbeats 1000000
namespace Dl
open PySem PySem.Spec PyProof.Rows L2 HbE Evl RZ
variable [LmV.LamTable]
section
variable {K : PySem.W.Frag} {Ps : TX}
/-- (..) * n -/
def fRepT : PyData → PyData → (PyData → Prop) → Prop := fun x y Q => match x, y with
  | .tuple ds, .int k => ds ≠ [] ∧ 2 ≤ k ∧ k ≤ 1000 ∧ ds.length ≤ 1000 ∧ Q (.tuple (List.replicate k.toNat ds).flatten)
  | _, _ => False
theorem op2_repT : Op2 K Ps (rRepT K) fRepT := by
  intro M hs H v w x y Qd Q wf hx hy h k
  unfold fRepT at h
  split at h
  · obtain ⟨h1, h2, h3, h4, hq⟩ := h
    cases hy
    cases hx with
    | tup x1 x2 =>
      refine ⟨_, _, _, rfl, rfl, ex_t msk_ex x1, fun z => ?_, h2, h3, by rw [x2.len]; exact h4, fun p hp => k _ _ _ hq (Step.of_ex (Ex.new hp)) (dp_newT wf hp (DpAll_rep x2 _))⟩
      subst z
      cases x2
      exact h1 rfl
  · exact h.elim
end
/-! ### counts[i] += e -/
section
variable {X : Cx} {Ps : TX} {e o ix : PySem.Expr} {pos tpos : Pos} {de di : DE} {i : Nat}
def dAugIx (i : Nat) (di de : DE) : DS := fun D σ => match σ[i]? with
  | some (some (.own ds)) => di σ fun x => match x with
    | .int k => match ixN ds.length k with
      | some j => match ds[j]? with
        | some (.int n) => de σ fun d => match d with
          | .int m => D.nx (σ.set i (some (.own (ds.set j (.int (n + m))))))
          | _ => False
        | _ => False
      | none => False
    | _ => False
  | _ => False
/-- an item of an own list, by its place -/
def rGetO : V → V → Hp → VK → Prop := fun o i H Q => ∃ p k xs v, o = .ref p ∧ i = .int k ∧ H p = some (.lst xs) ∧ atI xs k = some v ∧ Q v H
end
end Dl
end
section
set_option Elab.async false
set_option linter.all false
set_option maxRecDepth 100000
set_option maxHeartbeats 2000000
/-! A generator expression's own context. -/
namespace Gx
open PySem PySem.Spec PyProof.Rows L2 GenW
variable [LmV.LamTable]
/-- the context of a generator expression's body that begins at s, woken within B; its iterator's objects at fp, its own object in pn -/
abbrev gex (X : Cx) (s : Shared) (H : Hp) (cenv : Env) (B : Around) (fp : List Addr) (pn : List (Addr × Obj)) : Cx :=
  { X with A := B, s_0 := s, H_0 := H, env := cenv, outer := X.stack, stack := cenv :: X.stack, ex := fp, fn := fun _ => false, calm := true, pn := pn, xe := fun _ _ => False }
section
variable {X : Cx} {pins : List (Addr × Obj)} {σ : L2.St} {H : Hp} {s : Shared}
theorem inv_same {s' : Shared} (I : Inv X pins σ H s) (e1 : s'.heap = s.heap) (e2 : s'.os = s.os) (e3 : AllBare s'.gens) : Inv X pins σ H s' :=
  ⟨I.ok, e2.trans I.os, e3, by rw [e1]; exact I.base, by rw [e1]; exact I.loc, by rw [e1]; exact I.cell, I.free, I.freeC, by rw [e1]; exact I.pin, by rw [e1]; exact I.hok, I.len⟩
theorem gex_start {scope : Scope} {own : List (Str × Nat)} {fp : List Addr} {B : Around} {code : Value} {hh : Heap} {it : Value} {go : Obj} {G : Array GenState} {tk : Nat} {fr : Obj}
    (I : Inv X pins σ H s) (ok : BlkOk X.N X.env.scope scope own) (hN : X.N.Nodup) (nc : ∀ y ∈ scope.names, y.2 ≠ .cell) (hfp : ∀ b ∈ fp, FpOk X pins H b ∧ b < s.heap.objs.size)
    (hB : B.handled = none) (hBf : B.frames = some (genEnv scope (cloFrom X.env.cells scope.names []) s.heap.objs.size code builtinsNs X.env :: X.stack)) (hn : hh.Ns s.heap.objs.size (fun y => if y = ".0" then some it else none))
    (hs : Heap.SameBut s.heap.objs.size (s.heap.push fr) hh) (hG : AllBare G) (hgo : ∀ v, go.data ≠ .cell v) (hgf : go.isFreed = false) :
    Inv (gex X s H (genEnv scope (cloFrom X.env.cells scope.names []) s.heap.objs.size code builtinsNs X.env) B fp [(hh.objs.size, go)]) [] (wipe σ (own.map (·.2))) H { s with heap := hh.push go, gens := G, toks := tk } := by
  have sz : hh.objs.size = s.heap.objs.size + 1 := by rw [hs.1, Heap.size_push]
  have kp : ∀ b o, s.heap.get? b = some o → (hh.push go).get? b = some o := fun b o e => Heap.get?_push_of_some _ (hs.extBut b o (Nat.ne_of_lt (Heap.lt_size e)) (Heap.get?_push_of_some _ e))
  have clo : ∀ {y c}, (cloFrom X.env.cells scope.names []).lookup y = some c → scope.names.lookup y = some .free ∧ X.env.cells.lookup y = some c ∧ c < s.heap.objs.size := fun {y c} e => by
    rcases cloFrom_mem (PySem.mem_of_lookup e) with hm | ⟨h1, rfl⟩
    · cases hm
    · have hl := ok.uniq _ h1
      obtain ⟨c, hc⟩ : ∃ c, X.env.cells.lookup y = some c := by
        rcases ok.free _ h1 rfl with k | k
        · exact I.ok.has _ (.inl k)
        · exact I.ok.has _ (.inr k)
      rw [hc]
      obtain ⟨w, z⟩ := I.cell _ _ hc
      exact ⟨hl, rfl, z.lt⟩
  have has : ∀ {y}, scope.names.lookup y = some .free → ∃ c, (cloFrom X.env.cells scope.names []).lookup y = some c := fun {y} hl => mem_lookup (cloFrom_has (cells := X.env.cells) (acc := []) (PySem.mem_of_lookup hl))
  have okG : (gex X s H (genEnv scope (cloFrom X.env.cells scope.names []) s.heap.objs.size code builtinsNs X.env) B fp [(hh.objs.size, go)]).Ok := by
    refine ⟨I.ok.mod, ok.kind, I.ok.glob, rfl, Nat.le_refl _, fun y z c e1 e2 => I.ok.inj y z c (clo e1).2.1 (clo e2).2.1, fun y hy => ?_, fun y c z _ => (by cases z), fun _ => hB, hBf, .inr ⟨rfl, rfl⟩, fun b hb => ⟨Nat.ne_of_lt (hfp b hb).2, fun y c e z => ?_⟩,
      I.bs, Nat.le_trans I.ok.bsz I.sz, fun b o e hb => ?_, fun b hb z => ?_, I.stack, I.stkFree⟩
    · rcases hy with hy | hy
      · exact absurd rfl (nc _ (PySem.mem_of_lookup (show scope.names.lookup y = some .cell from hy)))
      · exact has hy
    · exact (hfp b hb).1.2.2.2.2.1 y c (clo e).2.1 z
    · rcases (hfp b hb).1.2.2.2.1 with z | z
      · exact I.ok.noex b o e z
      · exact absurd (Nat.lt_of_lt_of_le (Heap.lt_size e) (Nat.le_trans I.ok.bsz z)) (Nat.lt_irrefl _)
    · rcases List.mem_cons.mp (I.stkSub b z) with z | z
      · exact (hfp b hb).1.2.1 z
      · exact (hfp b hb).1.2.2.1 z
  refine ⟨okG, rfl, hG, Un.kept kp, ⟨_, hn.push _, fun i y av e1 e2 e3 => ?_⟩, fun y c e => ?_, I.hok.fresh (Nat.le_refl _), fun y c e => I.freeC y c (clo e).2.1, fun p hp => ?_, I.hok.kept kp, by rw [wipe_length]; exact I.len⟩
  · obtain ⟨e2, hne⟩ := wipe_some e2
    have no : ∀ k, scope.names.lookup y = some k → ¬ (k = .local ∨ k = .cell) := fun k hk q => by
      rcases ok.own _ (PySem.mem_of_lookup hk) q with e' | e'
      · obtain ⟨p, hp, hpy⟩ := List.mem_map.mp e'
        have e3 := ok.ix p hp
        rw [show p.1 = y from hpy] at e3
        exact hne (List.mem_map.mpr ⟨p, hp, nodup_ix hN e3 e1⟩)
      · exact e' (List.mem_of_getElem? e1)
    have fre : scope.names.lookup y = some .free := by
      rcases (show Vis scope y from e3) with e3 | e3 | e3
      · exact absurd (.inl rfl) (no _ e3)
      · exact absurd (.inr rfl) (no _ e3)
      · exact e3
    obtain ⟨m, hm, hl⟩ := I.loc
    have par := ok.free _ (PySem.mem_of_lookup fre) rfl
    obtain ⟨u, r, q⟩ := hl i y av e1 e2 (par.elim (fun k => .inr (.inl k)) fun k => .inr (.inr k))
    refine ⟨u, r, .inr ⟨.inr fre, ?_⟩⟩
    obtain ⟨c, hc⟩ := has fre
    refine ⟨c, hc, ?_⟩
    rcases q with ⟨k, _⟩ | ⟨_, c', e', z⟩
    · have k : X.env.scope.names.lookup y = some .local := k
      rcases par with k' | k' <;> rw [k'] at k <;> cases k
    · rw [(clo hc).2.1] at e'
      cases e'
      exact z.keeps kp
  · obtain ⟨w, z⟩ := I.cell y c (clo e).2.1
    exact ⟨w, z.keeps kp⟩
  · have hp : p ∈ [(hh.objs.size, go)] := by simpa using hp
    rw [List.mem_singleton.mp hp]
    refine ⟨Heap.get?_push_size _ hgf, I.hok.fresh (by rw [sz]; exact Nat.le_succ _), ?_, fun z => ?_, hgo⟩
    · show hh.objs.size ≠ s.heap.objs.size
      rw [sz]; exact Nat.succ_ne_self _
    · obtain ⟨_, o, ho, _⟩ := I.stack.mem (show hh.objs.size ∈ frs X.stack from z)
      have := Heap.lt_size ho
      rw [sz] at this
      exact absurd (Nat.lt_of_succ_lt this) (Nat.lt_irrefl _)
abbrev gLoop (elt tg iter : PySem.Expr) (ifs : List PySem.Expr) (scope : Scope) (pos : Pos) (it : Addr) (cenv : Env) : Code := .compLoop (.GeneratorExp elt [⟨tg, iter, ifs, 0⟩] scope pos) 0 (.ref it) .none cenv
/-- what holds of the state wherever the consumer has the turn: s₀, H₀ the entry -/
def Mid (X : Cx) (H₀ : Hp) (s₀ : Shared) (fp : List Addr) (H' : Hp) (s' : Shared) : Prop := s'.os = s₀.os ∧ AllBare s'.gens ∧ Un (frs X.stack) fp H₀ H' s₀.heap s'.heap ∧ HOk X.prog X.w H' s'.heap
/-- a test's result is handed out; at True the consumer comes back with nothing changed but the generators -/
def GxY (X : Cx) (H₀ : Hp) (s₀ : Shared) (fp : List Addr) (a : Addr) (g : Nat) (F : Hp → Prop) : Protocol := fun _ _ v s kap => ∃ b : Bool, v = .bool b ∧ s.heap.NoLimit ∧ s.heap.IsGen a g ∧ AllBare s.gens ∧
  (b = false → ∃ H', Mid X H₀ s₀ fp H' s ∧ F H') ∧ (b = true → ∀ s', s'.heap = s.heap → s'.os = s.os → AllBare s'.gens → kap (.send .none) s')
def GxR (X : Cx) (H₀ : Hp) (s₀ : Shared) (fp : List Addr) (T : Hp → Prop) : GenEnd := fun _ _ r s => ((r = .ok (.ret .none) ∨ r = .ok .next) ∧ ∃ H', Mid X H₀ s₀ fp H' s ∧ T H') ∨ ∃ e : Value, r = .error e ∧ False
end
section
variable {X : Cx} {elt tg iter : PySem.Expr} {ifs : List PySem.Expr} {scope : Scope} {pos : Pos} {cenv : Env} {B : Around} {fp : List Addr} {pn : List (Addr × Obj)} {s₀ : Shared} {H₀ : Hp} {it a : Addr} {g : Nat}
  {tn : Nat → Heap → Prop} {J : It} {gg : TG} {tt : TT} {te : TE} {vs : List Nat} {σ : L2.St} {TT' FF : Hp → Prop} {W : Nat → Nat → Hp → Prop}
theorem gx_loop (T : Turn X.prog X.w X.K tg J fp it tn) (hco : cenv.scope.isCoroutine = false)
    (pg : PG (gex X s₀ H₀ cenv (B.over (gLoop elt tg iter ifs scope pos it cenv) []) fp pn) tg gg)
    (pt : PTs (gex X s₀ H₀ cenv (B.over (gLoop elt tg iter ifs scope pos it cenv) []) fp pn) ifs tt)
    (pe : PE (gex X s₀ H₀ cenv (B.over (gLoop elt tg iter ifs scope pos it cenv) []) fp pn) elt te)
    (gen : ∀ h : Heap, (∀ p ∈ pn, h.get? p.1 = some p.2) → h.IsGen a g) (npn : ∀ b ∈ fp, ∀ p ∈ pn, p.1 ≠ b)
    (turn : ∀ i m H, W i m H → (J.stop i H ∧ TT' H) ∨ (J.go i H ∧ ∃ Nx : Hp → Prop, (∀ H', Nx H' → ∃ m', m' < m ∧ W (i + 1) m' H') ∧ ∀ x H', J.yld i H x H' → gg x (wipe σ vs) H' fun σ2 H2 => wipe σ2 vs = wipe σ vs ∧ tt σ2 H2 fun b H3 =>
      if b = true then te σ2 H3 fun y H4 => ∃ c, y = .bl c ∧ if c = true then Nx H4 else FF H4 else Nx H3)) :
    ∀ (m n i : Nat) (s₁ s : Shared) (H : Hp), m + 1 ≤ n → Inv (gex X s₀ H₀ cenv (B.over (gLoop elt tg iter ifs scope pos it cenv) []) fp pn) [] (wipe σ vs) H s → tn i s.heap → (∀ b ∈ fp, H b = none) → W i m H →
      Seg (model X.prog X.w) B (GxR X H₀ s₀ fp TT') (GxY X H₀ s₀ fp a g FF) n s₁ (gLoop elt tg iter ifs scope pos it cenv)
        ((model X.prog X.w).den (gLoop elt tg iter ifs scope pos it cenv)) [] s := by
  intro m
  induction m using Nat.strongRecOn with
  | ind m ih =>
    intro n i s₁ s H hmn I st nf w
    have stat : ∀ {σ' : L2.St} {H' : Hp} {s' : Shared}, Inv (gex X s₀ H₀ cenv (B.over (gLoop elt tg iter ifs scope pos it cenv) []) fp pn) [] σ' H' s' → (∀ b ∈ fp, H' b = none) → ∀ b ∈ fp, FpOk (gex X s₀ H₀ cenv (B.over (gLoop elt tg iter ifs scope pos it cenv) []) fp pn) [] H' b := fun {σ' H' s'} I' hn b hb =>
      ⟨hn b hb, (I'.ok.exf b hb).1, I'.ok.exfs b hb, .inl hb, fun x c e => (I'.ok.exf b hb).2 x c e, fun p hp => npn b hb p (by simpa using hp)⟩
    show Seg _ B _ _ _ s₁ _ ((compTurn (.GeneratorExp elt [⟨tg, iter, ifs, 0⟩] scope pos) 0 (.ref it) .none cenv).onRaise (leaving cenv)) [] s
    rw [compTurn_gen, Sem.onRaise_eq_wrap]
    refine seg_bind_wrap (wpAny_standAt ?_)
    rcases turn i m H w with ⟨stop, qq⟩ | ⟨go, Nx, hNx, step⟩
    · have td := T.done (gex X s₀ H₀ cenv (B.over (gLoop elt tg iter ifs scope pos it cenv) []) fp pn) rfl rfl rfl rfl i [] s _ H (fun _ _ => False) I (stat I nf) st stop
      refine seg_bind_wrap (thnF td fun r s6 ⟨hr, I6⟩ => ?_)
      subst hr
      exact seg_end (.ok .next) (.inl ⟨.inr rfl, H, ⟨I6.os, I6.bare, I6.base, I6.hok⟩, qq⟩)
    · have ti := T.item (gex X s₀ H₀ cenv (B.over (gLoop elt tg iter ifs scope pos it cenv) []) fp pn) rfl rfl rfl rfl i [] s _ H (fun _ _ => False) I (stat I nf) st go
      refine seg_bind_wrap (thnF ti fun r s6 ⟨u, hr, h6⟩ => ?_)
      subst hr
      refine seg_bind_wrap (thnF h6 fun _ s7 ⟨x, H7, I7, r7, y7, st7, n7⟩ => ?_)
      have I7' := I7.pinned (stat I7 n7) (T.obj _ _ st7)
      refine seg_bind_wrap (thnF (pg.run _ s7 _ H7 x u _ I7' r7 (step x H7 y7)) fun _ s8 ⟨σ8, H8, I8, hw8, q8⟩ => ?_)
      refine seg_bind_wrap (thnF (pt.run _ s8 σ8 H8 _ I8 q8) fun b s9 ⟨H9, I9, q9⟩ => ?_)
      -- the turn's end
      have fin : ∀ {s' : Shared} {H' : Hp}, Inv (gex X s₀ H₀ cenv (B.over (gLoop elt tg iter ifs scope pos it cenv) []) fp pn) ([] ++ pinsAt fp s7.heap) σ8 H' s' → Inv (gex X s₀ H₀ cenv (B.over (gLoop elt tg iter ifs scope pos it cenv) []) fp pn) [] (wipe σ vs) H' s' ∧ tn (i + 1) s'.heap ∧ ∀ b ∈ fp, H' b = none := fun {s' H'} I' => by
        have pin' : ∀ b ∈ fp, ∀ o, s7.heap.get? b = some o → s'.heap.get? b = some o ∧ H' b = none := fun b hb o e =>
          let z := I'.pin (b, o) (List.mem_append_right _ (List.mem_append_right _ (mem_pinsAt hb e)))
          ⟨z.1, z.2.1⟩
        have hl : (wipe σ vs).length = σ8.length := by rw [← hw8, wipe_length]
        refine ⟨(I'.unpinned (pins := [])).weak hl (fun j v e => ?_), T.keep _ _ _ st7 fun b hb o e => (pin' b hb o e).1, fun b hb => ?_⟩
        · rw [← hw8] at e
          exact (wipe_some e).1
        · obtain ⟨o, e, _⟩ := T.obj _ _ st7 b hb
          exact (pin' b hb o e).2
      cases b with
      | false =>
        simp only [Bool.false_eq_true, if_false] at q9 ⊢
        obtain ⟨I10, st10, n10⟩ := fin I9
        obtain ⟨m', hm, w'⟩ := hNx H9 q9
        exact seg_again rfl (ih m' hm n (i + 1) s₁ s9 H9 (by omega) I10 st10 n10 w')
      | true =>
        simp only [if_true] at q9 ⊢
        have hy : ∀ v, yieldOut cenv v = yieldValue v := fun v => by simp only [yieldOut, hco, Bool.false_eq_true, if_false]
        simp only [hy]
        rw [Sem.bind_eq_wrap', Sem.bind_eq_wrap', Sem.wrap_wrap, Sem.wrap_wrap]
        refine seg_wrap (thnF (pe.run _ s9 σ8 H9 _ I9 q9) fun z s10 ⟨yv, H10, I10, r10, c, ey, nx⟩ => ?_)
        subst ey
        obtain rfl : z = Value.bool c := r10
        obtain ⟨I11, st11, n11⟩ := fin I10
        obtain ⟨n', rfl⟩ : ∃ n', n = n' + 1 := ⟨n - 1, by omega⟩
        refine seg_at (seg_yield rfl rfl rfl ⟨c, rfl, I11.nolimit, gen _ fun p hp => (I11.pin p (by simpa using hp)).1, I11.bare, fun hc => ⟨H10, ⟨I11.os, I11.bare, I11.base, I11.hok⟩, ?_⟩, fun hc s' e1 e2 e3 => ?_⟩)
        · subst hc
          simpa using nx
        · subst hc
          simp only [if_true] at nx
          obtain ⟨m', hm, w'⟩ := hNx H10 nx
          exact seg_again rfl (ih m' hm n' (i + 1) s' s' H10 (by omega) (inv_same I11 e1 e2 e3) (by rw [e1]; exact st11) n11 w')
theorem gx_begin (T : Turn X.prog X.w X.K tg J fp it tn) {n : Nat} {s₁ s : Shared} (st : tn 0 s.heap)
    (loop : Seg (model X.prog X.w) B (GxR X H₀ s₀ fp TT') (GxY X H₀ s₀ fp a g FF) n s₁ (gLoop elt tg iter ifs scope pos it cenv) ((model X.prog X.w).den (gLoop elt tg iter ifs scope pos it cenv)) [] s) :
    Seg (model X.prog X.w) B (GxR X H₀ s₀ fp TT') (GxY X H₀ s₀ fp a g FF) n s₁ (.compStart (.GeneratorExp elt [⟨tg, iter, ifs, 0⟩] scope pos) 0 (.ref it) .none cenv)
      ((model X.prog X.w).den (.compStart (.GeneratorExp elt [⟨tg, iter, ifs, 0⟩] scope pos) 0 (.ref it) .none cenv)) [] s := by
  show Seg _ B _ _ _ s₁ _ ((compStart (.GeneratorExp elt [⟨tg, iter, ifs, 0⟩] scope pos) 0 (.ref it) .none cenv).onRaise (leaving cenv)) [] s
  unfold compStart
  rw [Sem.onRaise_eq_wrap]
  show Seg _ B _ _ _ s₁ _ ((ask >>= _).wrap _ _ _ _) [] s
  refine seg_bind_wrap (wpAny_askSetting ?_)
  split
  · exact seg_again rfl loop
  · first
      | exact seg_bind_wrap (wpAny_rule (seg_bind_wrap (wpAny_standAt (seg_bind_wrap (T.self _ 0 s _ _ st (seg_again rfl loop))))))
      | (refine seg_bind_wrap (wpAny_rule ?_); show Seg _ B _ _ _ s₁ _ ((standAt iter.pos >>= _).wrap _ _ _ _) [] s; exact seg_bind_wrap (wpAny_standAt (seg_bind_wrap (T.self _ 0 s _ _ st (seg_again rfl loop)))))
end
section
variable {X : Cx} {s₀ : Shared} {H₀ : Hp} {fp : List Addr} {a : Addr} {g : Nat} {TT' FF : Hp → Prop} {A : Around} {R : Result → Shared → Prop}
theorem all_drain (hh : A.handled = none) (hd : A.depth < recursionLimit) (hF : ∀ s' H', Mid X H₀ s₀ fp H' s' → FF H' → R (.ok (.ret (.bool false))) s') (hT : ∀ s' H', Mid X H₀ s₀ fp H' s' → TT' H' → R (.ok (.ret (.bool true))) s') :
    ∀ (n : Nat) (s : Shared), s.heap.IsGen a g → s.heap.NoLimit → (∃ gs, s.gens[g]? = some gs ∧ gs.Goes (model X.prog X.w) A.in1.in1 (GxR X H₀ s₀ fp TT') (GxY X H₀ s₀ fp a g FF) n (.send .none) (s.setGen g .running)) →
      codeAny (model X.prog X.w) A (.builtin "all.loop" ⟨[.ref a], []⟩) R s := by
  have goes : ∀ {gs : GenState} {B : Around} {n : Nat} {r : Resume} {s : Shared}, gs.Goes (model X.prog X.w) B (GxR X H₀ s₀ fp TT') (GxY X H₀ s₀ fp a g FF) n r s →
      gs.Goes (model X.prog X.w) B (fun n s₁ r s => ((r = .ok (.ret .none) ∨ r = .ok .next) ∧ (fun (_ : Nat) (_ s : Shared) => ∃ H', Mid X H₀ s₀ fp H' s ∧ TT' H') n s₁ s) ∨ ∃ e, r = .error e ∧ (fun (_ : Value) (_ : Shared) => False) e s) (GxY X H₀ s₀ fp a g FF) n r s := fun h => h
  intro n
  induction n with
  | zero =>
    intro s hg hl ⟨gs, hgs, hgo⟩
    refine codeAny_builtin F.entry_all_loop ?_
    rw [Around.under_plainId F.plain_all_loop _]
    show wpAny _ A.in1 (pyNext (.ref a) >>= _) _ _ s
    refine wpAny_bind (next_genG (A := A.in1) hh hl hd hg hgs (goes hgo) (fun v s₁ gs' hbare hv => ?_) (fun s₁ hp h' hk => ?_) fun e s₁ he => he.elim)
    · obtain ⟨b, rfl, hl1, hg1, hb1, hf, ht⟩ := hv
      refine wpAny_bind (wpAny_holding (wpAny_truthy_bool ?_))
      refine wpAny_bind (wpAny_letGo ?_)
      cases b with
      | true => exact False.elim (ht rfl s₁ rfl rfl hb1)
      | false =>
        simp only [Bool.false_eq_true, if_false]
        obtain ⟨H', hm, hq⟩ := hf rfl
        refine wpAny_bind (wpAny_rule (wpAny_pure (hF _ H' ⟨hm.1, allBare_setGen hb1 hbare, hm.2.2.1, hm.2.2.2⟩ hq)))
    · obtain ⟨H', hm, hq⟩ := hp
      refine wpAny_bind (wpAny_rule (wpAny_pure (hT _ H' ⟨hm.1, allBare_setGen hm.2.1 rfl, hm.2.2.1.trans (Un.kept hk), hm.2.2.2.kept hk⟩ hq)))
  | succ n ih =>
    intro s hg hl ⟨gs, hgs, hgo⟩
    have hgl : g < s.gens.size := (Array.getElem?_eq_some_iff.mp hgs).1
    refine codeAny_builtin F.entry_all_loop ?_
    rw [Around.under_plainId F.plain_all_loop _]
    show wpAny _ A.in1 (pyNext (.ref a) >>= _) _ _ s
    refine wpAny_bind (wpAny_gsz (n := g + 1) hgl (next_genG (A := A.in1) hh hl hd hg hgs (goes hgo) (fun v s₁ gs' hbare hv => ?_) (fun s₁ hp h' hk => ?_) fun e s₁ he => he.elim))
    · intro hsz
      obtain ⟨b, rfl, hl1, hg1, hb1, hf, ht⟩ := hv
      have hsz1 : g < s₁.gens.size := by
        have q : (s₁.setGen g gs').gens.size = s₁.gens.size := setGen_size _ _ _
        have hsz' : g + 1 ≤ (s₁.setGen g gs').gens.size := hsz
        omega
      refine wpAny_bind (wpAny_holding (wpAny_truthy_bool ?_))
      refine wpAny_bind (wpAny_letGo ?_)
      cases b with
      | true =>
        simp only [if_true]
        refine wpAny_pure ⟨plainId_quiet F.plain_all_loop _, ih (s₁.setGen g gs') hg1 hl1 ⟨gs', setGen_at hsz1, ?_⟩⟩
        exact ht rfl _ rfl rfl (allBare_setGen (s := s₁.setGen g gs') (allBare_setGen hb1 hbare) rfl)
      | false =>
        simp only [Bool.false_eq_true, if_false]
        obtain ⟨H', hm, hq⟩ := hf rfl
        refine wpAny_bind (wpAny_rule (wpAny_pure (hF _ H' ⟨hm.1, allBare_setGen hb1 hbare, hm.2.2.1, hm.2.2.2⟩ hq)))
    · intro hsz
      obtain ⟨H', hm, hq⟩ := hp
      refine wpAny_bind (wpAny_rule (wpAny_pure (hT _ H' ⟨hm.1, allBare_setGen hm.2.1 rfl, hm.2.2.1.trans (Un.kept hk), hm.2.2.2.kept hk⟩ hq)))
end
end Gx
end
section
set_option Elab.async false
set_option linter.all false
set_option maxRecDepth 100000
set_option maxHeartbeats 4000000
/-! all(test for .. in .. if ..), the test any expression. -/
namespace Gx
open PySem PySem.Spec PyProof.Rows L2 GenW GxR
variable [LmV.LamTable]
section
variable {X : Cx} {elt tg iter : PySem.Expr} {ifs : List PySem.Expr} {scope : Scope} {gpos : Pos} {gg : TG} {tt : TT} {te : TE} {wi : TI} {own : List (Str × Nat)} {c P : Addr} {k : Nat}
/-- one turn after the other: T what the end wants, F what a False wants -/
def TurnG (gg : TG) (tt : TT) (te : TE) (vs : List Nat) (σ : L2.St) (J : It) (W : Nat → Nat → Hp → Prop) (T F : Hp → Prop) : Prop := ∀ i m H, W i m H → (J.stop i H ∧ T H) ∨ (J.go i H ∧ ∃ Nx : Hp → Prop, (∀ H', Nx H' → ∃ m', m' < m ∧ W (i + 1) m' H') ∧
  ∀ x H', J.yld i H x H' → gg x (wipe σ vs) H' fun σ2 H2 => wipe σ2 vs = wipe σ vs ∧ tt σ2 H2 fun b H3 => if b = true then te σ2 H3 fun y H4 => ∃ c, y = .bl c ∧ if c = true then Nx H4 else F H4 else Nx H3)
def tAllG (P : Addr) (wi : TI) (gg : TG) (tt : TT) (te : TE) (vs : List Nat) : TE := fun σ H Q => wi σ H fun J H1 => TabG H1 P ∧ ∀ H2, Tabbed P H1 H2 → ∃ W : Nat → Nat → Hp → Prop, (∃ m, W 0 m H2) ∧ TurnG gg tt te vs σ J W (fun H => Q (.bl true) H) fun H => Q (.bl false) H
abbrev gEnv (X : Cx) (scope : Scope) (C : Addr) (code : Value) : Env := genEnv scope (cloFrom X.env.cells scope.names []) C code builtinsNs X.env
/-- a generator that has not begun -/
def GMd (X : Cx) (k : Nat) (pins : List (Addr × Obj)) (σ : L2.St) (T F : Hp → Prop) (u : Value) (s5 : Shared) : Prop := ∃ (a : Addr) (g : Nat) (c0 : Code) (s4 : Shared) (H2 : Hp) (fp : List Addr), u = .ref a ∧ Inv X pins σ H2 s4 ∧ (∀ b ∈ fp, FpOk X pins H2 b) ∧ s5.heap.IsGen a g ∧ s5.heap.NoLimit ∧
      AllBare s5.gens ∧ s5.gens[g]? = some (.fresh c0) ∧ ∃ n, ∀ (B : Around) (s6 : Shared), Room (k + 1) B → B.frames = some X.stack → s6.heap = s5.heap → s6.os = s5.os → AllBare s6.gens →
        Seg (model X.prog X.w) B (GxR X H2 s4 fp T) (GxY X H2 s4 fp a g F) n s6 c0 ((model X.prog X.w).den c0) [] s6
theorem room_gen {B : Around} {cenv : Env} {it : Addr} {pos : Pos} (hr : Room (k + 1) B) : Room k (B.over (gLoop elt tg iter ifs scope pos it cenv) []) :=
  ⟨hr.hd, by have := hr.dp; show B.depth + 0 + 1 + 3 * k + 5 < _; omega, by have := hr.un; show B.units + 0 + 3 + 16 * k + 200 < _; omega⟩
theorem frames_gen {B : Around} {cenv : Env} {it : Addr} {pos : Pos} {l : List Env} (h : B.frames = some l) : (B.over (gLoop elt tg iter ifs scope pos it cenv) []).frames = some (cenv :: l) := by
  simp only [Around.over]
  rw [h]
  rfl
theorem gx_make {pins : List (Addr × Obj)} {σ : L2.St} {H : Hp} {s : Shared} {T F : Hp → Prop} (hhd : X.A.handled = none) (hdp : X.A.depth < recursionLimit) (TB : TabB X.base X.mg c P) (hcode : X.env.code = .ref c) (hN : X.N.Nodup) (hco : scope.isCoroutine = false)
    (nc : ∀ y ∈ scope.names, y.2 ≠ .cell) (h0 : scope.names.lookup (".0" : Str) = some NameKind.local) (ok : BlkOk X.N X.env.scope scope own) (hi : PI X tg iter wi)
    (hg : ∀ (s : Shared) (H : Hp) (C : Addr) (code : Value) (B : Around) (fp : List Addr) (pn : List (Addr × Obj)), Room k B → PG (gex X s H (gEnv X scope C code) B fp pn) tg gg)
    (ht : ∀ (s : Shared) (H : Hp) (C : Addr) (code : Value) (B : Around) (fp : List Addr) (pn : List (Addr × Obj)), Room k B → PTs (gex X s H (gEnv X scope C code) B fp pn) ifs tt)
    (he : ∀ (s : Shared) (H : Hp) (C : Addr) (code : Value) (B : Around) (fp : List Addr) (pn : List (Addr × Obj)), Room k B → PE (gex X s H (gEnv X scope C code) B fp pn) elt te)
    (hs : ∀ v, genFold iter X.env v = pure v) (I : Inv X pins σ H s)
    (h : wi σ H fun J H1 => TabG H1 P ∧ ∀ H2, Tabbed P H1 H2 → ∃ W : Nat → Nat → Hp → Prop, (∃ m, W 0 m H2) ∧ TurnG gg tt te (own.map (·.2)) σ J W T F) :
    wpAny (model X.prog X.w) X.A (eval (.GeneratorExp elt [⟨tg, iter, ifs, 0⟩] scope gpos) X.env) (GMd X k pins σ T F) X.xe s := by
  have hclos : closureFor scope X.env = pure (cloFrom X.env.cells scope.names []) := closure_ok fun y hy e => by
    rcases ok.free y hy e with q | q
    · exact I.ok.has _ (.inl q)
    · exact I.ok.has _ (.inr q)
  refine wpAny_GeneratorExp_make hco hclos nc h0 ok.kind hdp ?_ hs
  refine thn (hi.run pins s σ H _ I h) fun xv s1 h1 => thn h1 fun itv s2 ⟨it, fp, tn, J, H1, eit, I1, T1, st1, f1, ⟨ps, hP, htr⟩, q1⟩ => ?_
  subst eit
  have hPs : s2.heap.get? P = some { cls := .none, data := .fields ps } := I1.hok P _ hP
  have cd : PySem.W.CodeHd s2.heap c P := TB.code.keeps fun b u e => I1.bk b u e
  refine ⟨I1.nolimit, ?_⟩
  have hcP : cStatics ≠ P := fun e => by
    obtain ⟨_, hns, _⟩ := I1.nolimit
    obtain ⟨o', es, ep, ho, hd, _⟩ := hns
    rw [e, hPs] at ho
    cases ho
    cases hd
  have cont : ∀ (code : Value) (h3 : Heap) (tk : Nat) (more : Array Value), Heap.ExtBut P s2.heap h3 → h3.get? P = some { cls := .none, data := .fields (ps ++ more) } → TriplesOk (ps ++ more).toList →
      wpAny (model X.prog X.w) X.A (builtinsFor X.env.globals X.env.builtins) (fun bi s₄ => ∀ h', h'.Ns s₄.heap.objs.size (fun y => if y = ".0" then some (.ref it) else none) → Heap.SameBut s₄.heap.objs.size (s₄.heap.push { cls := .type "frame", data := .dict #[] }) h' →
        GMd X k pins σ T F (.ref h'.objs.size) { s₄ with
            gens := s₄.gens.push (.fresh (.compStart (.GeneratorExp elt [⟨tg, iter, ifs, 0⟩] scope gpos) 0 (.ref it) .none (genEnv scope (cloFrom X.env.cells scope.names []) s₄.heap.objs.size code bi X.env))),
            toks := s₄.toks + 1 + 1 + 1,
            heap := h'.push { cls := .type "generator", data := .fields #[.int s₄.gens.size 0, .str "<genexpr>" (s₄.toks + 1), .str (X.env.qual ++ "<genexpr>") (s₄.toks + 1 + 1)] } }) X.xe { s2 with heap := h3, toks := tk } := by
    intro code h3 tk more hx hP3 ht3
    obtain ⟨bm, ob, e1, e2, e3, e4, e5, e6, e7, e8⟩ := TB.bm
    have keep3 : ∀ b u, b ≠ P → s2.heap.get? b = some u → h3.get? b = some u := fun b u hb e => hx b u hb e
    have I3 : Inv X pins σ (upd H1 P (.tbl (ps ++ more))) { s2 with heap := h3, toks := tk } := inv_tab (g' := s2.gens) (d' := s2.drawn) I1 hP keep3 hP3 I1.bare
    refine wpAny_builtinsFor (m := X.mg) (by rw [I1.ok.glob]; exact (I1.mod.glob.keeps I1.bk).extBut hx TB.gP) e1 e2 (keep3 _ _ e4 (I1.bk _ _ e5)) e6 e7 e8 ?_
    intro h' hn' hs'
    obtain ⟨W, ⟨m0, w0⟩, turn⟩ := q1 (upd H1 P (.tbl (ps ++ more))) ⟨⟨ps ++ more, upd_same, ht3⟩, fun b hb => upd_ne hb⟩
    have nP : ∀ b, H1 b = none → b ≠ P := fun b e z => by rw [z, hP] at e; cases e
    have sz : ∀ b ∈ fp, b < s2.heap.objs.size := fun b hb => by
      obtain ⟨o, e, _⟩ := T1.obj _ _ st1 b hb
      exact Heap.lt_size e
    have st3 : tn 0 h3 := T1.keep _ _ _ st1 fun b hb o e => keep3 b o (nP b (f1 b hb).1) e
    have f3 : ∀ b ∈ fp, FpOk X pins (upd H1 P (.tbl (ps ++ more))) b := fun b hb => ⟨by rw [upd_ne (nP b (f1 b hb).1)]; exact (f1 b hb).1, (f1 b hb).2⟩
    have lt3 : ∀ b ∈ fp, b < h3.objs.size := fun b hb => by
      obtain ⟨o, e, _⟩ := T1.obj _ _ st3 b hb
      exact Heap.lt_size e
    have hsz : h'.objs.size = h3.objs.size + 1 := by rw [hs'.1, Heap.size_push]
    have keep' : ∀ b o, h3.get? b = some o → h'.get? b = some o := fun b o e => hs'.extBut b o (Nat.ne_of_lt (Heap.lt_size e)) (Heap.get?_push_of_some _ e)
    have bare5 : AllBare (s2.gens.push (.fresh (.compStart (.GeneratorExp elt [⟨tg, iter, ifs, 0⟩] scope gpos) 0 (.ref it) .none (gEnv X scope h3.objs.size code)))) := AllBare.push I1.bare rfl
    refine ⟨h'.objs.size, s2.gens.size, _, { s2 with heap := h3, toks := tk }, upd H1 P (.tbl (ps ++ more)), fp, rfl, I3, f3, ⟨_, _, _, Heap.get?_push_size _ rfl, rfl, rfl, rfl⟩, I3.nolimit.keeps fun b o e => Heap.get?_push_of_some _ (keep' b o e), bare5, Array.getElem?_push_size .., m0 + 1, ?_⟩
    intro B s6 hB hBf eh eo eb
    have st6 : tn 0 s6.heap := T1.keep _ _ _ st3 fun b hb o e => by rw [eh]; exact Heap.get?_push_of_some _ (keep' b o e)
    refine gx_begin T1 st6 ?_
    refine gx_loop (X := X) (σ := σ) (vs := List.map (fun x : Str × Nat => x.2) own) (W := W) (J := J) (TT' := T) (FF := F) (gg := gg) (tt := tt) (te := te) T1 hco (hg _ _ _ _ _ _ _ (room_gen hB)) (ht _ _ _ _ _ _ _ (room_gen hB)) (he _ _ _ _ _ _ _ (room_gen hB)) (pn := [(h'.objs.size, { cls := .type "generator", data := .fields #[.int s2.gens.size 0, .str "<genexpr>" (tk + 1), .str (X.env.qual ++ "<genexpr>") (tk + 1 + 1)] })])
      (fun hh hp => ⟨_, _, _, hp _ (List.mem_singleton.mpr rfl), rfl, rfl, rfl⟩) (fun b hb p hp => ?_) turn m0 (m0 + 1) 0 s6 s6 _ (Nat.le_refl _) ?_ st6 (fun b hb => (f3 b hb).1) w0
    · rw [List.mem_singleton.mp hp]
      have := lt3 b hb
      show h'.objs.size ≠ b
      rw [hsz]
      exact Nat.ne_of_gt (Nat.lt_succ_of_lt this)
    · have Z := gex_start (fp := fp) (B := B.over (gLoop elt tg iter ifs scope gpos it (gEnv X scope h3.objs.size code)) []) (code := code) (it := .ref it) (go := { cls := .type "generator", data := .fields #[.int s2.gens.size 0, .str "<genexpr>" (tk + 1), .str (X.env.qual ++ "<genexpr>") (tk + 1 + 1)] }) (G := s6.gens) (tk := s6.toks)
        I3 ok hN nc (fun b hb => ⟨f3 b hb, lt3 b hb⟩) hB.hd (frames_gen hBf) hn' hs' eb (fun v q => by cases q) rfl
      exact inv_same Z (by rw [eh]) eo eb
  cases hf : codeAmong gpos ps.toList with
  | none =>
    refine wpAny_genexprCodeX hcode (cd.code hPs htr) (cd.tab hPs) hf fun c' h' tk hx hge hlt hco' _ htab' _ => ?_
    obtain ⟨o1, vs1, f1', tf, fl, tg', inF, tx, tt', op, _, _, _, _, _, _, _, _, _, htr', _⟩ := hco'
    exact cont _ h' tk _ hx htab'.2 htr'
  | some cv =>
    refine wpAny_genexprCode_hit hcode (cd.code hPs htr) hf ?_
    exact cont cv s2.heap s2.toks #[] (Heap.ExtBut.refl _ _) (by rw [Array.append_empty]; exact hPs) (by rw [Array.append_empty]; exact htr)
theorem pe_allG {p pos : Pos} (hr : Room (k + 2) X.A) (hgl : Gl X "all") (hm : X.mg "all" = none) (hb : bootBuiltins "all" = some (.builtin "all")) (TB : TabB X.base X.mg c P) (hcode : X.env.code = .ref c) (hN : X.N.Nodup) (hco : scope.isCoroutine = false)
    (nc : ∀ y ∈ scope.names, y.2 ≠ .cell) (h0 : scope.names.lookup (".0" : Str) = some NameKind.local) (ok : BlkOk X.N X.env.scope scope own) (hi : PI X tg iter wi)
    (hg : ∀ (s : Shared) (H : Hp) (C : Addr) (code : Value) (B : Around) (fp : List Addr) (pn : List (Addr × Obj)), Room k B → PG (gex X s H (gEnv X scope C code) B fp pn) tg gg)
    (ht : ∀ (s : Shared) (H : Hp) (C : Addr) (code : Value) (B : Around) (fp : List Addr) (pn : List (Addr × Obj)), Room k B → PTs (gex X s H (gEnv X scope C code) B fp pn) ifs tt)
    (he : ∀ (s : Shared) (H : Hp) (C : Addr) (code : Value) (B : Around) (fp : List Addr) (pn : List (Addr × Obj)), Room k B → PE (gex X s H (gEnv X scope C code) B fp pn) elt te)
    (hs : ∀ v, genFold iter X.env v = pure v)
    (hst : starEach [.GeneratorExp elt [⟨tg, iter, ifs, 0⟩] scope gpos] X.env = (false, eval (.GeneratorExp elt [⟨tg, iter, ifs, 0⟩] scope gpos) X.env) :: starEach [] X.env := by rfl) :
    PE X (.Call (.Name "all" p) [.GeneratorExp elt [⟨tg, iter, ifs, 0⟩] scope gpos] [] pos) (tAllG P wi gg tt te (own.map (·.2))) := by
  refine ⟨fun pins s σ H Q I h => ?_⟩
  refine wpAny_Call_Name_kw (ld_blt I hgl hm hb ?_)
  refine PyProof.Rows.callWith_builtin1 ?_ hst (by rfl)
  rw [hst]
  show wpAny _ _ (spliced ((false, eval (.GeneratorExp elt [⟨tg, iter, ifs, 0⟩] scope gpos) X.env) :: backTo pos (starEach [] X.env))) _ _ s
  refine Calls.spliced_cons (thn (gx_make hr.hd (by have := hr.dp; omega) TB hcode hN hco nc h0 ok hi hg ht he hs I h) fun u s5 ⟨a, g, c0, s4, H2, fp, eu, I4, f4, isg, nl, bare, hgs, n, wake⟩ => ?_)
  subst eu
  refine Calls.spliced_nil ?_
  refine call_function_tree F.kind_all F.plain_all F.entry_all (F.args_all1 _) ?_
  unfold Builtin.«all»
  refine wpAny_bind (m := oneArg "all" _) (wpAny_pure ?_)
  refine wpAny_bind (wpAny_pyIter_gen isg ?_)
  have back : ∀ s' H', Mid X H2 s4 fp H' s' → Inv X pins σ H' s' := fun s' H' m => I4.call' (ch := fp) m.1 m.2.2.1 m.2.2.2 m.2.1 fun b hb => ⟨(f4 b hb).2.2.2.1, (f4 b hb).2.1, (f4 b hb).2.2.2.2.1, (f4 b hb).2.2.2.2.2⟩
  refine wpAny_pure ⟨plainId_quiet F.plain_all_loop _, all_drain (X := X) (s₀ := s4) (H₀ := H2) (fp := fp) (a := a) (g := g) (TT' := fun H => Q (.bl true) H) (FF := fun H => Q (.bl false) H) hr.hd (by have := hr.dp; omega)
    (fun s' H' m q => ⟨.bl false, H', back s' H' m, rfl, q⟩) (fun s' H' m q => ⟨.bl true, H', back s' H' m, rfl, q⟩) n s5 isg nl ⟨_, hgs, rfl, ?_⟩⟩
  refine wake _ _ ⟨hr.hd, ?_, ?_⟩ I.ok.frames rfl rfl (allBare_setGen bare rfl)
  · have := hr.dp
    show X.A.depth + 3 * (k + 1) + 5 < _
    omega
  · have := hr.un
    show X.A.units + 1 + 1 + 16 * (k + 1) + 200 < _
    omega
end
end Gx
end
section
set_option Elab.async false
set_option linter.all false
set_option maxRecDepth 100000
set_option maxHeartbeats 1000000
namespace Dl
open PySem PySem.Spec PyProof.Rows L2 HbE Evl RZ Gx
variable [LmV.LamTable]
/-! ### all(test for x in xs if ..) -/
def allD (g : DG) (tt : DT) (te : DE) (σ0 : Sd) (Q : Bool → Prop) : List PyData → Prop
  | [] => Q true
  | d :: ds => g d σ0 fun σ2 => tt σ2 fun b => if b = true then te σ2 fun y => match y with
      | .bool c => if c = true then allD g tt te σ0 Q ds else Q false
      | _ => False
    else allD g tt te σ0 Q ds
def dAll (di : DI) (g : DG) (tt : DT) (te : DE) (vs : List Nat) : DE := fun σ Q => di σ fun ds => allD g tt te (wipeD σ vs) (fun b => Q (.bool b)) ds
theorem step_tab {hs : List Addr} {Ps : TbL} {P : Addr} {H H2 : Hp} {M : Addr → Prop} (w : Wf Ps M hs H) (hP : (P, none) ∈ Ps) (h : GxR.Tabbed P H H2) : Step hs Ps H H2 := by
  have hA : P ∈ ad Ps := ad_of hP
  obtain ⟨ps, e⟩ := w.tbl hA
  refine ⟨fun a o q _ n => by rw [h.2 a fun z => n (z ▸ hA)]; exact q, fun p hp q => ?_, fun P' hP' q => ?_⟩
  · obtain ⟨o, q1, q2⟩ := q
    refine ⟨o, ?_, q2⟩
    rw [h.2 p fun z => ?_]
    · exact q1
    · rw [z, e] at q1
      cases q1
      obtain ⟨_, _, _, q3⟩ := q2
      cases q3
  · have kc : ∀ c q, H c = some (LamX.CodeO c q) → H2 c = some (LamX.CodeO c q) := fun c q z => by
      rw [h.2 c fun y => LamX.codeO_ne (c := c) (q := q) ps (Option.some.inj (z.symm.trans (y ▸ e)))]
      exact z
    obtain ⟨P1, kd⟩ := P'
    by_cases z : P1 = P
    · subst z
      cases kd with
      | none => exact h.1
      | some q0 =>
        have := w.one _ hP' _ hP rfl
        cases this
    · exact q.keep (h.2 P1 z) kc
theorem lift_all {K : PySem.W.Frag} {Ps : TX} {P : Addr} {di : DI} {g : DG} {tt : DT} {te : DE} {ts vs : List Nat} {σ : L2.St} {H : Hp} {Q : VK} (hP : (P, none) ∈ Ps.l) (hts : ∀ t ∈ ts, t ∈ vs) (h : lift K Ps (dAll di g tt te vs) σ H Q) :
    tAllG P (liftI K Ps di) (liftG K Ps ts g) (liftT K Ps tt) (lift K Ps te) vs σ H Q := by
  obtain ⟨c, hs, as, σd, Qd, S, h, k⟩ := h
  refine ⟨c, hs, as, σd, _, S, h, fun ds J H1 h1 s1 it => ⟨((S.step s1).fr.wf.tab _ hP).2, fun H2 ht2 => ?_⟩⟩
  have T := S.step s1
  have s12 := step_tab T.fr.wf hP ht2
  refine ⟨fun i m H' => i + m = ds.length ∧ Step hs Ps H1 H' ∧ allD g tt te (wipeD σd vs) (fun b => Qd (.bool b)) (ds.drop i), ⟨ds.length, by omega, s12, h1⟩, ?_⟩
  rintro i m H' ⟨em, s3, hl⟩
  have U := (T.step s3).wipe vs
  obtain ⟨hgo, hst⟩ := it _ _ _ U.fr.wf (T.fr.wf.ex s3)
  by_cases hi : i < ds.length
  · rw [List.drop_eq_getElem_cons hi] at hl
    obtain ⟨g1, g2⟩ := hgo i ds[i] (List.getElem?_eq_getElem hi)
    refine .inr ⟨g1, fun H4 => Step hs Ps H1 H4 ∧ allD g tt te (wipeD σd vs) (fun b => Qd (.bool b)) (ds.drop (i + 1)), fun H4 ⟨q1, q2⟩ => ⟨m - 1, by omega, by omega, q1, q2⟩, fun x H4 y => ?_⟩
    obtain ⟨s4, rx⟩ := g2 x H4 y
    refine ⟨c, hs, as, _, ds[i], _, U.step s4, rx, hl, fun σ3 σd3 T3 w3 q3 => ⟨?_, c, hs, as, σd3, _, T3, q3, fun b H5 hb s5 => ?_⟩⟩
    · have a := wipe_more (us := vs) w3 hts
      have b : wipe (wipe σ vs) vs = wipe σ vs := wipe_ext (by rw [wipe_length]) fun j hj => wipe_out hj
      rw [a]
      exact b
    · have s15 := s3.trans (s4.trans s5)
      cases b with
      | true =>
        rw [if_pos rfl] at hb
        dsimp only
        rw [if_pos rfl]
        refine ⟨c, hs, as, σd3, _, T3.step s5, hb, fun d z H6 h6 s6 r6 => ?_⟩
        split at h6
        · rename_i cc
          cases r6
          refine ⟨cc, rfl, ?_⟩
          cases cc with
          | true =>
            rw [if_pos rfl] at h6 ⊢
            exact ⟨s15.trans s6, h6⟩
          | false =>
            rw [if_neg (by simp)] at h6 ⊢
            exact k _ _ H6 h6 (s1.trans (s15.trans s6)) (.bl false)
        · exact h6.elim
      | false =>
        rw [if_neg (by simp)] at hb
        dsimp only
        rw [if_neg (by simp)]
        exact ⟨s15, hb⟩
  · rw [List.drop_eq_nil_of_le (Nat.le_of_not_lt hi)] at hl
    exact .inl ⟨(show i = ds.length by omega) ▸ hst, k _ _ H' hl (s1.trans s3) (.bl true)⟩
theorem b_all : bootBuiltins "all" = some (.builtin "all") := by decide +kernel
section
variable {X : Cx} {Ps : TX} {elt tg iter : PySem.Expr} {ifs : List PySem.Expr} {scope : Scope} {gpos p pos : Pos} {own : List (Str × Nat)} {c P : Addr} {k : Nat} {di : DI} {g : DG} {tt : DT} {te : DE} {ts : List Nat}
theorem pd_all (hr : Room (k + 2) X.A) (hgl : Gl X "all") (hm : X.mg "all" = none) (TB : GxR.TabB X.base X.mg c P) (hP : (P, none) ∈ Ps.l) (hcode : X.env.code = .ref c) (hN : X.N.Nodup) (hco : scope.isCoroutine = false)
    (nc : (scope.names.all fun y => decide (y.2 ≠ .cell)) = true) (h0 : scope.names.lookup (".0" : Str) = some NameKind.local) (ok : BlkOk X.N X.env.scope scope own) (hi : PI X tg iter (liftI X.K Ps di))
    (hg : ∀ (s : Shared) (H : Hp) (C : Addr) (code : Value) (B : Around) (fp : List Addr) (pn : List (Addr × Obj)), Room k B → PG (gex X s H (gEnv X scope C code) B fp pn) tg (liftG X.K Ps ts g))
    (ht : ∀ (s : Shared) (H : Hp) (C : Addr) (code : Value) (B : Around) (fp : List Addr) (pn : List (Addr × Obj)), Room k B → PTs (gex X s H (gEnv X scope C code) B fp pn) ifs (liftT X.K Ps tt))
    (he : ∀ (s : Shared) (H : Hp) (C : Addr) (code : Value) (B : Around) (fp : List Addr) (pn : List (Addr × Obj)), Room k B → PE (gex X s H (gEnv X scope C code) B fp pn) elt (lift X.K Ps te))
    (hs : ∀ v, genFold iter X.env v = pure v := by intro _; rfl) (hts : ∀ t ∈ ts, t ∈ own.map (·.2) := by decide)
    (hst : starEach [.GeneratorExp elt [⟨tg, iter, ifs, 0⟩] scope gpos] X.env = (false, eval (.GeneratorExp elt [⟨tg, iter, ifs, 0⟩] scope gpos) X.env) :: starEach [] X.env := by rfl) :
    PE X (.Call (.Name "all" p) [.GeneratorExp elt [⟨tg, iter, ifs, 0⟩] scope gpos] [] pos) (lift X.K Ps (dAll di g tt te (own.map (·.2)))) :=
  pe_weak (pe_allG hr hgl hm b_all TB hcode hN hco (fun y hy => of_decide_eq_true (List.all_eq_true.mp nc y hy)) h0 ok hi hg ht he hs hst) fun _ _ _ => lift_all hP hts
end
end Dl
end
section
set_option Elab.async false
set_option linter.all false
set_option maxRecDepth 100000
set_option maxHeartbeats 1000000
namespace Dl
open PySem PySem.Spec PyProof.Rows L2 HbE Evl RZ Gx
variable [LmV.LamTable]
/-- a def whose code object stands at c -/
structure FunC (K : PySem.W.Frag) (x qual : Str) (st : Stmt) (c f : Addr) (fd : FuncData) : Prop where
  ex : ∃ (oc : Value) (od : Option Addr) (kV doc pm : Value) (an : Option Addr) (ct : Value) (osl : Array (Option Value)), fd = PySem.W.fnOf x qual (defArgs st) (defBody st) (defScope st) .none kV doc pm an (.ref c) ct ∧
    K.lookup f = some ⟨oc, od, .func (PySem.W.fnOf x qual (defArgs st) (defBody st) (defScope st) .none kV doc pm an (.ref c) ct), osl⟩ ∧ PySem.W.codeIn K (.ref c) qual = true
  kp : PySem.W.keepIn K (.ref f) = true
section
variable {P : Program} {w : World} {K : PySem.W.Frag} {mg : Str → Option Value} {base : Heap} {Ps : TbL}
end
end Dl
end
section
set_option Elab.async false
set_option linter.all false
set_option maxRecDepth 100000
set_option maxHeartbeats 2000000
/-! A try whose clauses are mixed: with and without a name. -/
namespace Dl
open PySem PySem.Spec PyProof.Rows L2
variable [LmV.LamTable]
/-- a clause: its class, its name's slot, its suite -/
abbrev Cls3 := Value × Option Nat × (Addr → Value → Option Addr → TS)
/-- the name of a clause is gone behind it -/
def clr (i : Nat) (D : Ends) : Ends := { nx := fun τ G => D.nx (τ.set i none) G, rt := D.rt, bk := fun τ G => D.bk (τ.set i none) G, ct := fun τ G => D.ct (τ.set i none) G }
def into (D : Ends) (a : Addr) (cls : Value) (d : Option Addr) (τ : L2.St) (G : Hp) : Cls3 → Prop
  | (_, none, ts) => ts a cls d D τ G
  | (_, some i, ts) => ts a cls d (clr i D) (τ.set i (some (.ref a))) G
def wMix (K : PySem.W.Frag) (Wout : WX) (D : Ends) : List Cls3 → WX
  | [] => Wout
  | q :: r => fun cls d τ G => ∃ b, PySem.W.exmOne K cls q.1 = some b ∧ (b = true → ∀ a, G a = none → into D a cls d τ G q) ∧ (b = false → wMix K Wout D r cls d τ G)
inductive MixOk (X : Cx) : List ExceptHandler → List Cls3 → Prop
  | nil : MixOk X [] []
  | bare {x : Str} {c : Value} {ts : Addr → Value → Option Addr → TS} {st : Stmt} {sts : List Stmt} {p1 p2 : Pos} {hds : List ExceptHandler} {l : List Cls3} (hc : Names X x c)
      (hsu : ∀ (a : Addr) (oe : Obj) (cls : Value) (d : Option Addr) (pn : List (Addr × Obj)), Zc cls d oe → (∃ vs, oe.data = .fields vs) → PSs (X.suite a ((a, oe) :: pn)) (st :: sts) (ts a cls d)) (r : MixOk X hds l) :
      MixOk X (.ExceptHandler (some (.Name x p1)) none (st :: sts) p2 :: hds) ((c, none, ts) :: l)
  | named {x n : Str} {i : Nat} {c : Value} {ts : Addr → Value → Option Addr → TS} {st : Stmt} {sts : List Stmt} {p1 p2 : Pos} {hds : List ExceptHandler} {l : List Cls3} (hc : Names X x c)
      (hN : X.N.Nodup) (hi : X.N[i]? = some n) (hl : X.env.kindOf n = some .local)
      (hsu : ∀ (a : Addr) (oe : Obj) (cls : Value) (d : Option Addr) (pn : List (Addr × Obj)), Zc cls d oe → (∃ vs, oe.data = .fields vs) → PSs (X.suite a ((a, oe) :: pn)) (st :: sts) (ts a cls d)) (r : MixOk X hds l) :
      MixOk X (.ExceptHandler (some (.Name x p1)) (some n) (st :: sts) p2 :: hds) ((c, some i, ts) :: l)
section
variable {X : Cx} {body : List Stmt} {hd1 : ExceptHandler} {hds : List ExceptHandler} {l : List Cls3} {pos : Pos} {tb : WX → TS} {Wout : WX}
/-- the exception's object is none of the frames -/
theorem not_frame {B g : Heap} {fs : List Env} {a : Addr} {o : Obj} {vs : Array Value} (ff : g.FunFrames B fs) (e : g.get? a = some o) (d : o.data = .fields vs) : a ∉ frs fs := fun m => by
  obtain ⟨_, o2, e2, q⟩ := ff.mem m
  cases e.symm.trans e2
  exact q _ d
/-- a state of ours on which the exception at a lies, caught by this frame -/
structure Caught (X : Cx) (pins : List (Addr × Obj)) (τ : L2.St) (G : Hp) (B : Heap) (a : Addr) (cls : Value) (d : Option Addr) (sI s0 : Shared) (g : Heap) : Prop where
  I : Inv X pins τ G sI
  nb : ∀ b o, sI.heap.get? b = some o → b ∉ frs X.stack → B.get? b = some o
  up : sI.heap.UpToSlots g
  fl : HandSPX.FlyingZ B (X.env :: X.outer) a (Zc cls d) g
  na : G a = none
  os : s0.os = sI.os
  ag : AllBare s0.gens
section
variable {pins : List (Addr × Obj)} {τ : L2.St} {G : Hp} {B : Heap} {a : Addr} {cls : Value} {d : Option Addr} {sI s0 : Shared} {g : Heap}
theorem Caught.inv (C : Caught X pins τ G B a cls d sI s0 g) : Inv X pins τ G { s0 with heap := g } := C.I.landed C.nb C.fl.1 C.up C.os C.ag
theorem Caught.suite (C : Caught X pins τ G B a cls d sI s0 g) (hs : X.stack = X.env :: X.outer) (hf : X.env.frame = some X.env.locals) :
    ∃ oe vs, g.get? a = some oe ∧ Zc cls d oe ∧ oe.data = .fields vs ∧ Inv (X.suite a ((a, oe) :: (X.pn ++ pins))) [] τ G { s0 with heap := g } := by
  obtain ⟨oe, vs, e1, e2, e3⟩ := C.fl.there
  have nf := not_frame C.fl.2.2.1 e1 e3
  refine ⟨oe, vs, e1, e2, e3, C.inv.suite (s := { s0 with heap := g }) e1 e3 C.na (fun z => nf ?_) fun m => ?_⟩
  · exact List.mem_filterMap.mpr ⟨X.env, List.mem_cons_self, by rw [hf, z]⟩
  · obtain ⟨v, m1, m2⟩ := List.mem_filterMap.mp m
    exact nf (List.mem_filterMap.mpr ⟨v, List.mem_cons_of_mem _ m1, m2⟩)
theorem Caught.again (C : Caught X pins τ G B a cls d sI s0 g) {g2 : Heap} (fl : HandSPX.FlyingZ B (X.env :: X.outer) a (Zc cls d) g2) (u : g.UpToSlots g2) : Caught X pins τ G B a cls d sI s0 g2 := ⟨C.I, C.nb, C.up.trans u, fl, C.na, C.os, C.ag⟩
/-- the clauses, one behind the other -/
theorem clauses {D : Ends} (hs : X.stack = X.env :: X.outer) (hf : X.env.frame = some X.env.locals) (tk : Takes X Wout) (C : Caught X pins τ G B a cls d sI s0 g) : ∀ {hds : List ExceptHandler} {l : List Cls3}, MixOk X hds l → wMix X.K Wout D l cls d τ G →
    wpAny (model X.prog X.w) X.A (handleBy (.ref a) X.env hds) (SP X pins D) X.xe { s0 with heap := g } := by
  have okX := C.I.ok
  intro hds l hk
  have LT : ∀ {g' : Heap} {oe : Obj}, g'.get? a = some oe → Zc cls d oe → PySem.W.Looks (model X.prog X.w) g' (typeOf (.ref a)) cls := fun e z A Q E s k q => wpAny_typeOf_ref (k _ _ e) (by rw [z.1]; exact q)
  have name : ∀ {x : Str} {c : Value} {p1 : Pos} {Q : Value → Shared → Prop} {E : Value → Shared → Prop}, Names X x c → Q c { s0 with heap := g } → wpAny (model X.prog X.w) (X.A.mark (some (.ref a))) (eval (.Name x p1) X.env) Q E { s0 with heap := g } := fun {x c p1 Q E} hc q => by
    obtain ⟨oe, vs, _, _, _, S⟩ := C.suite hs hf
    obtain ⟨n1, n2, n3⟩ := hc
    rcases n3 with n3 | ⟨n3, n4, n5⟩
    · exact ld_glob (X := X.suite a ((a, oe) :: (X.pn ++ pins))) S n1 n3 q n2
    · exact ld_blt (X := X.suite a ((a, oe) :: (X.pn ++ pins))) S n1 n3 n4 q n5 n2
  induction hk with
  | nil =>
    intro w
    refine wpAny_handleBy_nil ?_
    obtain ⟨_, _, _, o1, _, T, _, _, f1, _, f2, f3, _⟩ := id C.fl
    unfold PySem.passOn
    refine wpAny_bind (wpAny_field f1 f2 f3 ?_)
    rw [if_neg (show ¬ ((Value.ref T == Value.none) = true) from by simp)]
    have out : wpAny (model X.prog X.w) X.A (setFlight (.ref a) X.env.frame) (fun _ m => wpAny (model X.prog X.w) X.A (throw (.ref a) : Sem Flow) (SP X pins D) X.xe m) X.xe { s0 with heap := g } := by
      rw [hf]
      refine HandSPX.setFlight_upZ C.fl fun g4 held u4 => wpAny_throw (tk _ _ ⟨a, B, sI, pins, τ, G, cls, d, rfl, C.I, C.nb, C.up.trans u4, ?_, C.na, C.os, C.ag, w⟩)
      exact .inr (.inr (by rw [hs]; exact held))
    first
      | exact wpAny_bind (wpAny_pure (wpAny_bind out))
      | exact wpAny_bind out
  | @bare x c ts st sts p1 p2 hds l hc hsu r ih =>
    rintro ⟨b, wb, yes, no⟩
    obtain ⟨oe, vs, e1, e2, e3, S⟩ := C.suite hs hf
    refine wpAny_handleBy_cons (codeAny_handlers_test (name hc ((PySem.W.exm_one (M := model X.prog X.w) C.inv.kIn (LT e1 e2) wb).here ?_))) (by intro q; cases q)
    cases b with
    | false => exact ih (no rfl)
    | true =>
      refine codeAny_handlers_suite (HandSPX.lands_againZ C.fl fun g4 fl4 u4 => ?_)
      obtain ⟨oe', vs', e1', e2', e3', S'⟩ := (C.again fl4 u4).suite hs hf
      refine wpAny_mono ((hsu a oe' cls d (X.pn ++ pins) e2' ⟨_, e3'⟩).run [] _ _ _ _ S' (yes rfl a C.na)) (fun f m sp => ?_) fun _ _ z => z.elim
      cases f with
      | ret u => obtain ⟨v6, σ6, H6, S6, r6, q6⟩ := sp; exact ⟨_, _, _, S6.unsuite okX, r6, q6⟩
      | next => obtain ⟨σ6, H6, S6, q6⟩ := sp; exact ⟨_, _, S6.unsuite okX, q6⟩
      | brk => obtain ⟨σ6, H6, S6, q6⟩ := sp; exact ⟨_, _, S6.unsuite okX, q6⟩
      | cont => obtain ⟨σ6, H6, S6, q6⟩ := sp; exact ⟨_, _, S6.unsuite okX, q6⟩
  | @named x n i c ts st sts p1 p2 hds l hc hN hi hl hsu r ih =>
    rintro ⟨b, wb, yes, no⟩
    obtain ⟨oe, vs, e1, e2, e3, S⟩ := C.suite hs hf
    refine wpAny_handleBy_cons (codeAny_handlers_test (name hc ((PySem.W.exm_one (M := model X.prog X.w) C.inv.kIn (LT e1 e2) wb).here ?_))) (by intro q; cases q)
    cases b with
    | false => exact ih (no rfl)
    | true =>
      refine codeAny_handlers_suite_as (HandSPX.lands_againZ C.fl fun g4 fl4 u4 => ?_)
      obtain ⟨oe', vs', e1', e2', e3', S'⟩ := (C.again fl4 u4).suite hs hf
      refine store_ok (X := X.suite a ((a, oe') :: (X.pn ++ pins))) (v := .ref a) S' hN hi (.inl hl) rfl (fun s5 S5 => ?_) (.inr hl)
      refine wpAny_mono ((hsu a oe' cls d (X.pn ++ pins) e2' ⟨_, e3'⟩).run [] s5 _ _ _ S5 (yes rfl a C.na)) (fun f m sp => ?_) fun _ _ z => z.elim
      have gone : ∀ {σ6 : L2.St} {H6 : Hp} {Q : Shared → Prop}, Inv (X.suite a ((a, oe') :: (X.pn ++ pins))) [] σ6 H6 m → (∀ m2, Inv X pins (σ6.set i none) H6 m2 → Q m2) →
          wpAny (model X.prog X.w) X.A (do bindName X.env n .none; unbindBehindTheSuite X.env n p2) (fun _ m2 => Q m2) X.xe m := fun S6 q => gone_ok (S6.unsuite okX) hN hi hl q
      cases f with
      | ret u => obtain ⟨v6, σ6, H6, S6, r6, q6⟩ := sp; exact gone S6 fun m2 J => ⟨_, _, _, J, r6, q6⟩
      | next => obtain ⟨σ6, H6, S6, q6⟩ := sp; exact gone S6 fun m2 J => ⟨_, _, J, q6⟩
      | brk => obtain ⟨σ6, H6, S6, q6⟩ := sp; exact gone S6 fun m2 J => ⟨_, _, J, q6⟩
      | cont => obtain ⟨σ6, H6, S6, q6⟩ := sp; exact gone S6 fun m2 J => ⟨_, _, J, q6⟩
end
theorem ps_try_mix (hs : X.stack = X.env :: X.outer) (hf : X.env.frame = some X.env.locals) (tk : Takes X Wout)
    (hb : ∀ (W : WX) (pn : List (Addr × Obj)) (xe : Value → Shared → Prop), Takes (X.tr pn xe) W → PassesOwn (model X.prog X.w) X.A X.env xe → PSs (X.tr pn xe) body (tb W))
    (hh : MixOk X (hd1 :: hds) l) : PS X (.Try body (hd1 :: hds) [] [] pos) (fun D τ G => tb (wMix X.K Wout D l) D τ G) := ⟨fun pins s0 τ0 G0 D I0 w0 => by
  have okX := I0.ok
  have hfr : X.A.frames = some (X.env :: X.outer) := okX.frames.trans (congrArg some hs)
  have go := hb (wMix X.K Wout D l) (X.pn ++ pins) (fun e m1 => wpAny (model X.prog X.w) X.A (noteFrame e X.env) (fun _ m2 => wpAny (model X.prog X.w) X.A (setFlight e none) (fun _ m3 =>
    wpAny (model X.prog X.w) X.A (handleBy e X.env (hd1 :: hds)) (SP X pins D) X.xe m3) X.xe m2) X.xe m1) (fun u m xx => by
      obtain ⟨a, B, sI, pi, τ, G, cls, d, rfl, J, nb, up, sky, na, os, ag, w⟩ := xx
      have sky2 : Sky B (X.env :: X.outer) a (Zc cls d) X.env.locals m.heap := hs ▸ sky
      refine Sky.land Zc.steady hfr hf sky2 fun g fl u2 => ?_
      exact clauses hs hf tk (⟨J.ofTry okX, nb, up.trans u2, fl, na, os, ag⟩ : Caught X pins τ G B a cls d sI m g) hh w) PassesOwn.looking
  refine wpAny_Try_except (wpAny_mono (go.run [] s0 τ0 G0 D (I0.toTry _) w0) (fun f m sp => ?_) fun _ _ z => z)
  cases f with
  | ret u => obtain ⟨v, σ', H', J, r, q⟩ := sp; exact ⟨v, σ', H', J.ofTry okX, r, q⟩
  | next => obtain ⟨σ', H', J, q⟩ := sp; exact wpAny_execs_nil ⟨σ', H', J.ofTry okX, q⟩
  | brk => obtain ⟨σ', H', J, q⟩ := sp; exact ⟨σ', H', J.ofTry okX, q⟩
  | cont => obtain ⟨σ', H', J, q⟩ := sp; exact ⟨σ', H', J.ofTry okX, q⟩⟩
end
end Dl
end
section
set_option Elab.async false
set_option linter.all false
set_option maxRecDepth 100000
set_option maxHeartbeats 400000
namespace HbX
open PySem PySem.Spec PyProof.Rows L2 HbE Evl
def ExB (K : PySem.W.Frag) (D : Addr) : Bool :=
  decide (PySem.W.findIn K (.ref D) "__getattribute__" = some (some (.builtin "BaseException.__getattribute__"))) && decide (PySem.W.findIn K (.ref D) "__getattr__" = some none) &&
  decide (PySem.W.subIn K (.ref D) (.type "BaseException") = some true) && PySem.W.hasDictIn K D && decide (PySem.W.findIn K (.ref D) "__class__" = some (some (.builtin "object.__class__"))) &&
  decide (PySem.W.specialIn K (.builtin "object.__class__") "__get__" = some (some (.builtin "getset_descriptor.__get__"))) && decide (PySem.W.takesIn K (.builtin "object.__class__") = some true) &&
  decide (PySem.W.mroIn K D (.type "object") = some true)
theorem ExB.ok {K : PySem.W.Frag} {D : Addr} (h : ExB K D = true) : ExcC K D := by
  simp only [ExB, Bool.and_eq_true, decide_eq_true_eq] at h
  obtain ⟨⟨⟨⟨⟨⟨⟨h1, h2⟩, h3⟩, h4⟩, h5⟩, h6⟩, h7⟩, h8⟩ := h
  exact ⟨h1, h2, h3, h4, h5, h6, h7, h8⟩
/-- the classes tell one another apart, and stand below cH and ValueError -/
def kitAll (K : PySem.W.Frag) (cs : List Addr) (cH : Addr) : Bool :=
  ExB K cH && (List.range 18).all fun i => ExB K (cs.getD i 0) && decide (PySem.W.kitOne K (.ref (cs.getD i 0)) (.ref cH) = some true) && decide (PySem.W.kitOne K (.ref (cs.getD i 0)) (.type "ValueError") = some true) &&
    decide (PySem.W.kitOne K (.ref cH) (.ref (cs.getD i 0)) = some false) && (List.range 18).all fun j => decide (PySem.W.kitOne K (.ref (cs.getD i 0)) (.ref (cs.getD j 0)) = some (decide (i = j)))
structure Kit (K : PySem.W.Frag) (c : Nat → Addr) (cH : Addr) : Prop where
  exH : ExcC K cH
  ex : ∀ i, i < 18 → ExcC K (c i)
  up : ∀ i, i < 18 → PySem.W.kitOne K (.ref (c i)) (.ref cH) = some true
  ve : ∀ i, i < 18 → PySem.W.kitOne K (.ref (c i)) (.type "ValueError") = some true
  hh : ∀ i, i < 18 → PySem.W.kitOne K (.ref cH) (.ref (c i)) = some false
  ij : ∀ i j, i < 18 → j < 18 → PySem.W.kitOne K (.ref (c i)) (.ref (c j)) = some (decide (i = j))
section
variable {K : PySem.W.Frag} {σ : L2.St} {H : Hp} {ta tb te : TE}
/-- a value of which something is known that lasts -/
def EvX (te : TE) (σ : L2.St) (H : Hp) (P : V → Hp → Prop) : Prop := ∀ H1, Ex H H1 → ∀ Q : VK, (∀ v H2, Ex H1 H2 → P v H2 → Q v H2) → te σ H1 Q
def EvAX (ta : TA) (σ : L2.St) (H : Hp) (P : List V → Hp → Prop) : Prop := ∀ H1, Ex H H1 → ∀ Q : List V → Hp → Prop, (∀ vs H2, Ex H1 H2 → P vs H2 → Q vs H2) → ta σ H1 Q
def EvLX (te : TE) (σ : L2.St) (H : Hp) (P : List V → Hp → Prop) : Prop := ∀ H1, Ex H H1 → ∀ Q : VK, (∀ p vs H2, H1 p = none → Ex H1 H2 → H2 p = some (.lst vs) → P vs H2 → Q (.ref p) H2) → te σ H1 Q
/-- exceptions of these classes -/
def Exs (Ds : List Addr) (vs : List V) (H : Hp) : Prop := Paired (fun v D => ∃ a, v = V.ref a ∧ IsEx H a D) vs Ds
/-- what an exception's __init__(self, x) that keeps x as f promises -/
def spInit (K : PySem.W.Frag) (C : Addr) (f : Str) : Sp := fun vs H Q _ => ∃ (a : Addr) (v : V), vs = [.ref a, v] ∧ H a = some (exo a C none) ∧
  ∀ d, H d = none → Q .non (upd (upd H d (exd d [(f, v)])) a (exo a C (some d)))
theorem made {C : Addr} {f : Str} {v : V} {D : List V} (ha : Ev ta σ H v) : EvX (tMkV C (spInit K C f) [] (tCons ta tNil)) σ H (fun x H' => ∃ a d, x = V.ref a ∧ H' a = some (exo a C (some d)) ∧ H' d = some (exd d [(f, v)])) := fun H1 e Q q =>
  ha H1 e _ fun H2 e2 => ⟨by simp, fun a hn => ⟨a, v, rfl, upd_same, fun d hd => by
    have nda : d ≠ a := fun z => by rw [z, upd_same] at hd; cases hd
    have hd2 : H2 d = none := by rw [upd_ne nda] at hd; exact hd
    have E1 : Ex H2 (upd (upd (upd H2 a (exo a C none)) d (exd d [(f, v)])) a (exo a C (some d))) := fun b o hb => by
      rw [upd_ne (ne_of_none hb hn), upd_ne (ne_of_none hb hd2), upd_ne (ne_of_none hb hn)]
      exact hb
    refine ⟨rfl, by rw [upd_same]; simp, q _ _ (e2.trans E1) ⟨a, d, rfl, upd_same, ?_⟩⟩
    rw [upd_ne nda, upd_same]⟩⟩
variable {D : Ends}
end
end HbX
end
section
set_option Elab.async false
set_option linter.all false
set_option maxRecDepth 100000
set_option maxHeartbeats 1000000
namespace Dl
open PySem PySem.Spec PyProof.Rows L2 HbE Evl RZ Gx PySem.W 
variable [LmV.LamTable]
section
variable {X : Cx} {Ps : TX}
def valI : V → Int
  | .int i => i
  | _ => 0
theorem map_valI (ns : List Int) : (ns.map V.int).map valI = ns := by
  induction ns with
  | nil => rfl
  | cons n ns ih => rw [List.map_cons, List.map_cons, ih]; rfl
def rSumS (K : PySem.W.Frag) : List V → Hp → VK → Prop := fun vs H Q => ∃ (a : Addr) (ns : List Int), vs = [V.ref a] ∧ (SqL K H a (ns.map V.int) ∨ SqT K H a (ns.map V.int)) ∧ Q (.int ns.sum) H
theorem cr_sumS (hc : X.calm = true) : CallR X (.builtin "sum") (rSumS X.K) := by
  intro pins s σ H vs us Q I r h
  obtain ⟨a, ns, rfl, hs, q⟩ := h
  rcases hs with hs | hs
  · exact cr_sum hc pins s σ H _ us Q I r ⟨a, ns, rfl, hs, q⟩
  · obtain ⟨its, rv, hl, _⟩ := I.tuple hs
    rw [Vals.ref1 r]
    refine call_sum_walkAnyS (iter_tupleW (A := X.A.in1) (I.ok.hd hc) (show s.heap.IsTuple a its.toArray from hl) fun s₂ e W st hfp hw hk => ?_)
    have at_ : ∀ (i : Nat) (v : Value), its.toArray[i]? = some v → ∃ n t, ns[i]? = some n ∧ v = .int n t := fun i v hv => by
      have hv' : its[i]? = some v := by simpa using hv
      have hi : i < (ns.map V.int).length := by rw [rv.length]; exact (List.getElem?_eq_some_iff.mp hv').1
      obtain ⟨u, hu, ru⟩ := rv.get (List.getElem?_eq_getElem hi)
      rw [hv'] at hu
      cases hu
      have hi' : i < ns.length := by simpa using hi
      rw [List.getElem_map] at ru
      obtain ⟨t, ht⟩ := ru
      exact ⟨ns[i], t, List.getElem?_eq_getElem hi', ht⟩
    refine ⟨_, _, _, _, _, _, _, fun i => ns.getD i 0, rfl, W, st, hfp, fun i v hv => ?_, fun s' t' m => ?_⟩
    · obtain ⟨n, t, h1, h2⟩ := at_ i v hv
      exact ⟨t, by rw [h2]; simp [List.getD_eq_getElem?_getD, h1]⟩
    · obtain ⟨h', tk, rfl, hk'⟩ := moved_old e rfl m
      have e1 : preSum (fun i => ns.getD i 0) its.toArray.size = ns.sum := by
        have z := preSum_list (h := valI) (ns.map V.int) (fun i => ns.getD i 0) (fun i x hx => by
          rw [List.getElem?_map] at hx
          cases e2 : ns[i]? with
          | none => rw [e2] at hx; cases hx
          | some n => rw [e2] at hx; cases hx; simp [List.getD_eq_getElem?_getD, e2, valI]) its.toArray.size (by rw [List.size_toArray, ← rv.length]; exact Nat.le_refl _)
        rw [z, List.take_of_length_le (by rw [List.size_toArray, ← rv.length]; exact Nat.le_refl _), map_valI]
      exact ⟨.int _, H, I.kept (t' := tk) hk', ⟨t', by rw [e1]⟩, q⟩
def fSumS : Bool → List PyData → (PyData → Prop) → Prop := fun _ ds Q => match intsD ds with
  | some ns => Q (.int ns.sum)
  | none => False
theorem opq_sumS {K : PySem.W.Frag} : OpQ K Ps (rSumS K) fSumS := by
  intro M hs H p xs b ds Qd Q wf h1 h2 h k
  unfold fSumS at h
  split at h
  · rename_i ns q
    rw [intsD_dp h2 q] at h1
    refine ⟨p, ns, rfl, ?_, k _ _ H h Step.refl (.int _)⟩
    cases b with
    | true => exact .inl h1
    | false => exact .inr h1
  · exact h.elim
end
/-! ### products of which one side is small, or both not too long -/
def CMulE (i j : Int) : Prop := CMul i j ∨ CMulX i j
theorem op_mulE {X : Cx} : OpR X (binaryOp .Mult) (rI CMulE fun i j => .int (i * j)) := opI fun _ _ _ _ _ _ _ hc q => mul_int q (hc.elim CMul.ok CMulX.ok)
theorem mulL {a b : Int} (h : a.natAbs < 2 ^ 64) : CMulE a b := .inl (.inl ⟨by omega, by omega⟩)
theorem mulR {a b : Int} (h : b.natAbs < 2 ^ 64) : CMulE a b := .inl (.inr ⟨by omega, by omega⟩)
theorem modL (x : Int) {m : Int} (h0 : 0 < m) (h : m ≤ 2 ^ 63) : (x % m).natAbs < 2 ^ 64 := by
  have := Int.emod_lt_of_pos x h0
  have := Int.emod_nonneg x (show m ≠ 0 by omega)
  omega
end Dl
end
section
set_option Elab.async false
set_option linter.all false
set_option maxRecDepth 100000
set_option maxHeartbeats 1000000
/-! Loops over data by an invariant; comprehensions by a function. -/
namespace Dl
open PySem PySem.Spec PyProof.Rows L2 HbE Evl RZ Gx
variable [LmV.LamTable]
theorem forD_inv {g : DG} {tb : DS} {D : ED} {σ : Sd} {ds : List PyData} (I : Nat → Sd → Prop) (h0 : I 0 σ) (hs : ∀ (i : Nat) (d : PyData) (σ : Sd) (N : Sd → Prop), ds[i]? = some d → I i σ → (∀ σ', I (i + 1) σ' → N σ') → g d σ fun σ2 => tb { D with nx := N, ct := N, bk := D.nx } σ2)
    (hd : ∀ σ, I ds.length σ → D.nx σ) : forD g tb D ds σ := by
  have main : ∀ (es : List PyData) (k : Nat) (σ : Sd), ds.drop k = es → k ≤ ds.length → I k σ → forD g tb D es σ := by
    intro es
    induction es with
    | nil =>
      intro k σ e hk hI
      have : k = ds.length := by
        have := congrArg List.length e
        simp at this
        omega
      subst this
      exact hd σ hI
    | cons d es ih =>
      intro k σ e hk hI
      have hk2 : k < ds.length := by
        have := congrArg List.length e
        simp at this
        omega
      rw [List.drop_eq_getElem_cons hk2] at e
      cases e
      exact hs k _ σ _ (List.getElem?_eq_getElem hk2) hI fun σ' hI' => ih (k + 1) σ' rfl hk2 hI'
  exact main ds 0 σ rfl (Nat.zero_le _) h0
end Dl
end
section
set_option Elab.async false
set_option linter.all false
set_option maxRecDepth 100000
set_option maxHeartbeats 1000000
namespace Dl
open PySem PySem.Spec PyProof.Rows L2 HbE Evl RZ Gx PySem.W
variable [LmV.LamTable]
def rMinS (K : PySem.W.Frag) : List V → Hp → VK → Prop := fun vs H Q => ∃ (a : Addr) (n : Int) (ns : List Int), vs = [V.ref a] ∧ (SqL K H a ((n :: ns).map V.int) ∨ SqT K H a ((n :: ns).map V.int)) ∧ Q (.int (ns.foldl min n)) H
section
variable {X : Cx} {Ps : TX}
def fMinS : Bool → List PyData → (PyData → Prop) → Prop := fun _ ds Q => match intsD ds with
  | some (n :: ns) => Q (.int (ns.foldl min n))
  | _ => False
def rMaxS (K : PySem.W.Frag) : List V → Hp → VK → Prop := fun vs H Q => ∃ (a : Addr) (n : Int) (ns : List Int), vs = [V.ref a] ∧ (SqL K H a ((n :: ns).map V.int) ∨ SqT K H a ((n :: ns).map V.int)) ∧ Q (.int (ns.foldl max n)) H
def fMaxS : Bool → List PyData → (PyData → Prop) → Prop := fun _ ds Q => match intsD ds with
  | some (n :: ns) => Q (.int (ns.foldl max n))
  | _ => False
end
end Dl
end
section
set_option Elab.async false
set_option linter.all false
set_option maxRecDepth 100000
set_option maxHeartbeats 1000000
namespace Dl
open PySem PySem.Spec PyProof.Rows L2 HbE Evl HT
variable [LmV.LamTable]
/-! ### t[::-1] -/
section
variable {prog : Program} {w : World} {A : Around} {E : Value → Shared → Prop} {s : Shared}
end
section
variable {X : Cx} {Ps : TX} {e a b c0 : PySem.Expr} {es : List PySem.Expr} {pos p p2 : Pos} {de : DE} {dl : DL}
/-- t[::-1], a list or a tuple -/
def tBack (K : PySem.W.Frag) (te : TE) : TE := fun σ H Q => te σ H fun x H1 => ∃ a xs, x = .ref a ∧ ((SqL K H1 a xs ∧ ∀ p, H1 p = none → Q (.ref p) (upd H1 p (.lst xs.reverse))) ∨ (SqT K H1 a xs ∧ ∀ p, H1 p = none → Q (.ref p) (upd H1 p (.tup xs.reverse))))
def dBack (dq : DQ) : DE := fun σ Q => dq σ fun b ds => Q (if b then .list ds.reverse else .tuple ds.reverse)
/-! ### list(..) of a list or a tuple -/
def dListOf (dq : DQ) : DL := fun σ Q => dq σ fun _ ds => Q ds
/-! ### bool(..) -/
def fBool : List PyData → (PyData → Prop) → Prop := fun ds Q => match ds with
  | [.int i] => Q (.bool (i != 0))
  | [.bool b] => Q (.bool b)
  | _ => False
/-! ### list + list -/
def rCatL (K : PySem.W.Frag) : R2 := fun x y H Q => ∃ l b xs zs, x = .ref l ∧ y = .ref b ∧ SqL K H l xs ∧ SqL K H b zs ∧ xs.length + zs.length ≤ sizeLine ∧ ∀ p, H p = none → Q (.ref p) (upd H p (.lst (xs ++ zs)))
theorem op_catL : OpR X (binaryOp .Add) (rCatL X.K) := by
  intro pins s σ H x y v u Q I rx ry h
  obtain ⟨l, b, xs, zs, rfl, rfl, hH, hB, hz, q⟩ := h
  cases rx
  cases ry
  obtain ⟨its, r, hl, z⟩ := I.list hH
  obtain ⟨its2, r2, hl2, z2⟩ := I.list hB
  have n1 := r.length
  have n2 := r2.length
  obtain ⟨⟨cls, dd, data, sl⟩, ho, hc, n, hd⟩ := id hl.isList
  obtain ⟨⟨cls2, dd2, data2, sl2⟩, ho2, hc2, m2, hd2⟩ := id hl2.isList
  simp only at hc hd hc2 hd2
  subst hc hd hc2 hd2
  have e : its.toArray ++ its2.toArray = (its ++ its2).toArray := by simp
  refine concat_meets ⟨_, ho, rfl⟩ ⟨_, ho2, rfl⟩ noFill_list_add seq_list_add PySem.F.slot_list_add PySem.F.entry_list_add (PySem.F.args_list_add_2 _ _) (list_addW l b its.toArray its2.toArray n m2 dd dd2 sl sl2 (by simp only [List.size_toArray]; omega)) ⟨ho, ho2, ?_⟩
  rw [e]
  exact ⟨.ref _, _, I.lnew (t' := s.toks) (r.append r2) (by rw [List.length_append]; omega), rfl, q _ I.fresh⟩
def dCatL (da db : DQ) : DL := fun σ Q => da σ fun k ds => db σ fun l es => k = true ∧ l = true ∧ ds.length + es.length ≤ 100000 ∧ Q (ds ++ es)
theorem pn_cat {da db : DQ} (ha : PE X a (liftQ X.K Ps da)) (hb : PE X b (liftQ X.K Ps db)) : PE X (.BinOp a .Add b pos) (liftN X.K Ps (dCatL da db)) := pe_weak (pe_op op_catL ha hb) fun σ H Q ⟨c, hs, as, σd, Qd, S, hd, k⟩ =>
  ⟨c, hs, as, σd, _, S, hd, fun k1 ds v H1 h1 s1 r1 => ⟨c, hs, as, σd, _, S.step s1, h1, fun k2 es w H2 h2 s2 r2 => by
    obtain ⟨rfl, rfl, hz, h2⟩ := h2
    obtain ⟨p, xs, rfl, h3, h4⟩ := (r1.step (S.step s1).fr s2).ex
    obtain ⟨q, ys, rfl, h5, h6⟩ := r2.ex
    refine ⟨p, q, xs, ys, rfl, rfl, h3, h5, sz_of (by rw [h4.len, h6.len]; exact hz), fun l hl => ?_⟩
    have s12 := s1.trans s2
    exact k _ l _ _ h2 (s12.trans (Step.of_ex (Ex.new hl))) (none_of S.fr s12 hl) upd_same (own_new hl (h4.app h6))⟩⟩
/-! ### x in xs -/
def flatD : PyData → Bool
  | .none => true
  | .bool _ => true
  | .int _ => true
  | .str _ => true
  | _ => false
def rInA (K : PySem.W.Frag) (neg : Bool) : R2 := fun x y H Q => rIn K neg x y H Q ∨ (if neg then rNotInD K x y H Q else rInD K x y H Q)
def inD (neg : Bool) (x : PyData) (ds : List PyData) : Bool := if neg then !(ds.any fun z => PyData.eqv z x) else ds.any fun z => PyData.eqv z x
def dIn (neg : Bool) (de : DE) (dq : DQ) : DE := fun σ Q => de σ fun x => dq σ fun b ds => ((flatD x = true ∧ ds.all flatD = true) ∨ (b = true ∧ SeqAt.shaped x = true ∧ SeqAt.shaped (.list ds) = true)) ∧ Q (.bool (inD neg x ds))
/-! ### x, y, z = a, b, c; the last one may be a new list -/
def dPar3 (i j l : Nat) (da : DA) : DS := fun D σ => da σ fun ws => match ws with
  | [.dat d, .dat d', .dat d''] => D.nx (((σ.set i (some (.dat d))).set j (some (.dat d'))).set l (some (.dat d'')))
  | _ => False
def dPar3N (i j l : Nat) (da db : DE) (dl : DL) : DS := fun D σ => da σ fun x => db σ fun y => dl σ fun ds => D.nx (((σ.set i (some (.dat x))).set j (some (.dat y))).set l (some (.own ds)))
def dParN (i j : Nat) (da : DE) (dl : DL) : DS := fun D σ => da σ fun x => dl σ fun ds => D.nx ((σ.set i (some (.dat x))).set j (some (.own ds)))
theorem lift_parN {i j : Nat} {da : DE} {D : Ends} {σ : L2.St} {H : Hp} (h : liftS X.K Ps (dParN i j da dl) D σ H) : tPar i j (tCons (lift X.K Ps da) (tCons (liftN X.K Ps dl) tNil)) D σ H := by
  obtain ⟨c, hs, as, σd, Dd, S, h, r⟩ := h
  refine ⟨c, hs, as, σd, _, S, h, fun x v H1 h1 s1 r1 => ⟨c, hs, as, σd, _, S.step s1, h1, fun ds p vs H3 h3 s3 hp h' r3 => ?_⟩⟩
  have T := (S.step s1).set (i := i) (.dat x) (fun _ z => by cases z) r1
  exact ⟨_, _, rfl, r.nx hs (p :: as) _ H3 _ (T.new s3 hp h' r3) h3⟩
theorem psd_parN {i j : Nat} {x y : Str} {a b : PySem.Expr} {da : DE} {px py pt : Pos} {kt k2 pt2} (hc : X.calm = true) (hN : X.N.Nodup) (hi : X.N[i]? = some x) (hj : X.N[j]? = some y) (hij : i ≠ j)
    (hx : X.env.scope.names.lookup x = some .local) (hy : X.env.scope.names.lookup y = some .local) (h1 : PE X a (lift X.K Ps da)) (h2 : PE X b (liftN X.K Ps dl))
    (hw : swappedStores [.Tuple [.Name x px, .Name y py] kt pt] (.Tuple [a, b] k2 pt2) X.env = pure (some [x, y]))
    (hs : swapsWithSole [.Tuple [.Name x px, .Name y py] kt pt] (.Tuple [a, b] k2 pt2) pos.line X.env = pure false := by rfl)
    (e1 : starEach [a, b] X.env = (false, eval a X.env) :: starEach [b] X.env := by rfl) (e2 : starEach [b] X.env = (false, eval b X.env) :: starEach [] X.env := by rfl) :
    PS X (.Assign [.Tuple [.Name x px, .Name y py] kt pt] (.Tuple [a, b] k2 pt2) pos) (liftS X.K Ps (dParN i j da dl)) := ps_weak (ps_par hc hN hi hj hij hx hy (pa_cons h1 (pa_cons h2 pa_nil e2) e1) hw hs) fun _ _ _ => lift_parN
end
end Dl
end
section
set_option Elab.async false
set_option linter.all false
set_option maxRecDepth 100000
set_option maxHeartbeats 4000000
/-! tuple * int, also tuple * 1 -/
namespace Dl
open PySem PySem.Spec PyProof.Rows L2 HbE Evl
variable [LmV.LamTable]
theorem tuple_mul1 (l : Addr) (items : Array Value) (n : Nat) (dd : Option Addr) (sl : Array (Option Value)) (u : Tok) :
    Meets (Builtin.«tuple.__mul__» ⟨[.ref l, .int 1 u], []⟩) (fun _ R s => s.heap.get? l = some { cls := .type "tuple", dict := dd, data := .seq items n, slots := sl } ∧ R (.ok (.ret (Value.ref l))) s) :=
  .of_wp fun prog w A R s h => by
    obtain ⟨hp, g, d, tk, os⟩ := s
    obtain ⟨hl, h⟩ := h
    have f1 := AutoSeq1.idx_int
    have c0 : (decide ((1 : Int) < -(2 ^ 63)) || decide ((1 : Int) ≥ 2 ^ 63)) = false := by decide
    have c1 : (items.isEmpty || (1 : Int) == 1) = true := by simp
    wp_walk using wpAny_loadPart' hl
    repeat (first
      | (refine wpAny_ite_false (decide_eq_false (by rw [c0]; exact Bool.false_ne_true)) ?_; wp_walk using wpAny_loadPart' hl)
      | (refine wpAny_ite_true (decide_eq_true c1) ?_; wp_walk using wpAny_loadPart' hl))
    exact ⟨_, rfl, h⟩

def rRepA (K : PySem.W.Frag) : R2 := fun x y H Q => rRepT K x y H Q ∨ ∃ l xs, x = .ref l ∧ y = .int 1 ∧ SqT K H l xs ∧ Q (.ref l) H
section
variable {X : Cx}
theorem op_repA : OpR X (binaryOp .Mult) (rRepA X.K) := by
  intro pins s σ H x y v u Q I rx ry h
  rcases h with h | ⟨l, xs, rfl, rfl, hT, q⟩
  · exact op_repT pins s σ H x y v u Q I rx ry h
  cases rx
  obtain ⟨t, rfl⟩ := ry
  obtain ⟨its, r, ⟨⟨cls, dd, data, sl⟩, ho, hc, n, hd⟩, hs⟩ := I.tuple hT
  simp only at hc hd
  subst hc hd
  refine wpAny_binaryOp_repeat_ref (T := "tuple") (U := "int") (by decide) ⟨_, ho, rfl⟩ (fun s' => typeIs_int s' 1 t) noFill_tuple_mul F.fills_int_mul F.slot_int_rmul repeat_tuple F.slot_int_index.lookup
    (call_meets F.slot_int_rmul (typeIs_int s 1 t) F.entry_int_rmul (F.args_int_rmul_2 _ _) (int_rmul_tuple 1 t l its.toArray n dd sl)
      ⟨ho, rfl, ⟨_, ho, rfl⟩, call_meets F.slot_tuple_mul ⟨_, ho, rfl⟩ F.entry_tuple_mul (F.args_tuple_mul_2 _ _) (tuple_mul1 l its.toArray n dd sl t) ⟨ho, ?_⟩⟩)
  exact ⟨.ref l, _, I, rfl, q⟩
end
section
variable {K : PySem.W.Frag} {Ps : TX}
def fRepA : PyData → PyData → (PyData → Prop) → Prop := fun x y Q => match x, y with
  | .tuple ds, .int k => ds ≠ [] ∧ 1 ≤ k ∧ k ≤ 1000 ∧ ds.length ≤ 1000 ∧ Q (.tuple (List.replicate k.toNat ds).flatten)
  | _, _ => False
theorem op2_repA : Op2 K Ps (rRepA K) fRepA := by
  intro M hs H v w x y Qd Q wf hx hy h k
  unfold fRepA at h
  split at h
  · rename_i ds i
    obtain ⟨h1, h2, h3, h4, hq⟩ := h
    by_cases e : i = 1
    · subst e
      cases hy
      have e1 : (List.replicate (1 : Int).toNat ds).flatten = ds := by simp
      rw [e1] at hq
      have hx0 := hx
      cases hx with
      | tup x1 x2 => exact .inr ⟨_, _, rfl, rfl, ex_t msk_ex x1, k _ _ _ hq Step.refl hx0⟩
    · exact .inl (op2_repT M hs H v w _ _ Qd Q wf hx hy ⟨h1, by omega, h3, h4, hq⟩ k)
  · exact h.elim
end
end Dl
end
section
set_option Elab.async false
set_option linter.all false
set_option maxRecDepth 100000
set_option maxHeartbeats 1000000
/-! Defs over data as functions: a result, an exception, or nothing known. -/
namespace Dl
open PySem PySem.Spec PyProof.Rows L2 HbE Evl RZ Gx
variable [LmV.LamTable]
inductive Rs (α : Type) where
  | ok (a : α)
  | ex (x : Xn)
  | no
namespace Rs
def bind {α β : Type} (r : Rs α) (f : α → Rs β) : Rs β := match r with
  | .ok a => f a
  | .ex x => .ex x
  | .no => .no
def ofO {α : Type} : Option α → Rs α
  | some a => .ok a
  | none => .no
end Rs
@[simp] theorem bind_ok {α β : Type} (a : α) (f : α → Rs β) : Rs.bind (.ok a) f = f a := rfl
@[simp] theorem bind_ex {α β : Type} (x : Xn) (f : α → Rs β) : Rs.bind (.ex x) f = .ex x := rfl
@[simp] theorem bind_no {α β : Type} (f : α → Rs β) : Rs.bind .no f = .no := rfl
@[simp] theorem ofO_some {α : Type} (a : α) : Rs.ofO (some a) = .ok a := rfl
@[simp] theorem ofO_none {α : Type} : Rs.ofO (none : Option α) = .no := rfl
/-- what holds of a result, E of an exception -/
def Rs.Sat {α : Type} (E : Xn → Prop) (r : Rs α) (Q : α → Prop) : Prop := match r with
  | .ok a => Q a
  | .ex x => E x
  | .no => False
section
variable {α β : Type} {E : Xn → Prop}
theorem Sat.bind {r : Rs α} {f : α → Rs β} {Q : β → Prop} (h : (r.bind f).Sat E Q) : r.Sat E fun a => (f a).Sat E Q := by
  cases r <;> exact h
theorem Sat.mono {r : Rs α} {Q Q' : α → Prop} (h : r.Sat E Q) (k : ∀ a, Q a → Q' a) : r.Sat E Q' := by
  cases r with
  | ok a => exact k a h
  | ex x => exact h
  | no => exact h
theorem Sat.ofO {o : Option α} {Q : α → Prop} (h : (Rs.ofO o).Sat E Q) : ∃ a, o = some a ∧ Q a := by
  cases o with
  | some a => exact ⟨a, rfl, h⟩
  | none => exact h.elim
end
abbrev FE := Sd → Rs PyData
abbrev FT := Sd → Rs Bool
abbrev FA := Sd → Rs (List PyData)
abbrev FQ := Sd → Rs (Bool × List PyData)
abbrev FO := Sd → Rs (Option Int)
abbrev FG := PyData → Sd → Rs Sd
abbrev FGs := List PyData → Sd → Rs Sd
inductive Fw where
  | nx (σ : Sd)
  | rt (d : PyData)
  | bk (σ : Sd)
  | ct (σ : Sd)
abbrev FS := Sd → Rs Fw
abbrev FF := List PyData → Rs PyData
def ofE (E : Xn → Prop) (f : FE) : DE := fun σ Q => (f σ).Sat E Q
def ofT (E : Xn → Prop) (f : FT) : DT := fun σ Q => (f σ).Sat E Q
def ofA (E : Xn → Prop) (f : FA) : DA := fun σ Q => (f σ).Sat E fun ds => Q (ds.map WD.dat)
def ofQ (E : Xn → Prop) (f : FQ) : DQ := fun σ Q => (f σ).Sat E fun p => Q p.1 p.2
def ofL (E : Xn → Prop) (f : FA) : DL := fun σ Q => (f σ).Sat E Q
def ofI (E : Xn → Prop) (f : FA) : DI := fun σ Q => (f σ).Sat E Q
def ofO (E : Xn → Prop) (f : FO) : DO := fun σ Q => (f σ).Sat E Q
def ofG (E : Xn → Prop) (f : FG) : DG := fun d σ Q => (f d σ).Sat E Q
def ofGs (E : Xn → Prop) (f : FGs) : DGs := fun d σ Q => (f d σ).Sat E Q
def ED.go (D : ED) : Fw → Prop
  | .nx σ => D.nx σ
  | .rt d => D.rt d
  | .bk σ => D.bk σ
  | .ct σ => D.ct σ
def ofS (E : Xn → Prop) (f : FS) : DS := fun D σ => (f σ).Sat E D.go
def ofF (E : Xn → Prop) (f : FF) : DSp := fun ws Q => ∃ ds, ws = ds.map WD.dat ∧ (f ds).Sat E Q
def LeE (a b : DE) : Prop := ∀ σ Q, a σ Q → b σ Q
def LeT (a b : DT) : Prop := ∀ σ Q, a σ Q → b σ Q
def LeA (a b : DA) : Prop := ∀ σ Q, a σ Q → b σ Q
def LeQ (a b : DQ) : Prop := ∀ σ Q, a σ Q → b σ Q
def LeL (a b : DL) : Prop := ∀ σ Q, a σ Q → b σ Q
def LeI (a b : DI) : Prop := ∀ σ Q, a σ Q → b σ Q
def LeO (a b : DO) : Prop := ∀ σ Q, a σ Q → b σ Q
def LeG (a b : DG) : Prop := ∀ d σ Q, a d σ Q → b d σ Q
def LeGs (a b : DGs) : Prop := ∀ d σ Q, a d σ Q → b d σ Q
def LeS (a b : DS) : Prop := ∀ D σ, a D σ → b D σ
section
variable {E : Xn → Prop} {fa fb fc : FE} {da db dc : DE} {ft fu : FT} {dt du : DT} {aa : FA} {la ll : FA} {ad : DA} {fq : FQ} {dq : DQ} {dl : DL} {di : DI} {fo fo' : FO} {dO dO' : DO} {fg : FG} {dg : DG} {s u : FS} {ds du' : DS}
/-! ### expressions -/
@[simp] def fVar (i : Nat) : FE := fun σ => match σ[i]? with
  | some (some (.dat d)) => .ok d
  | _ => .no
theorem le_var {i : Nat} : LeE (ofE E (fVar i)) (dVar i) := fun σ Q h => by
  unfold ofE fVar at h
  unfold dVar
  split at h
  · rename_i q; (try rw [q]); exact h
  · exact h.elim
@[simp] def fC (d : PyData) : FE := fun _ => .ok d
theorem le_c {d : PyData} : LeE (ofE E (fC d)) (dC d) := fun σ Q h => h
@[simp] def fOp (g : PyData → PyData → Option PyData) (fa fb : FE) : FE := fun σ => (fa σ).bind fun x => (fb σ).bind fun y => Rs.ofO (g x y)
def LeOp (g : PyData → PyData → Option PyData) (F : PyData → PyData → (PyData → Prop) → Prop) : Prop := ∀ x y d (Q : PyData → Prop), g x y = some d → Q d → F x y Q
theorem le_op {g : PyData → PyData → Option PyData} {F : PyData → PyData → (PyData → Prop) → Prop} (hg : LeOp g F) (ha : LeE (ofE E fa) da) (hb : LeE (ofE E fb) db) : LeE (ofE E (fOp g fa fb)) (dOp F da db) := fun σ Q h =>
  ha σ _ (Sat.mono (Sat.bind h) fun x h => hb σ _ (Sat.mono (Sat.bind h) fun y h => by
    obtain ⟨d, e, q⟩ := Sat.ofO h
    exact hg x y d Q e q))
def gI0 (k : Int → Int → PyData) : PyData → PyData → Option PyData := fun x y => match x, y with
  | .int i, .int j => some (k i j)
  | _, _ => none
@[simp] theorem gI0_int (k : Int → Int → PyData) (i j : Int) : gI0 k (.int i) (.int j) = some (k i j) := rfl
def gI (c : Int → Int → Bool) (k : Int → Int → PyData) : PyData → PyData → Option PyData := fun x y => match x, y with
  | .int i, .int j => if c i j = true then some (k i j) else none
  | _, _ => none
@[simp] theorem gI_int (c : Int → Int → Bool) (k : Int → Int → PyData) (i j : Int) : gI c k (.int i) (.int j) = if c i j = true then some (k i j) else none := rfl
theorem leop_I0 {k : Int → Int → PyData} : LeOp (gI0 k) (fI0 k) := fun x y d Q e q => by
  unfold gI0 at e
  split at e
  · cases e; exact q
  · cases e
theorem leop_I {C : Int → Int → Prop} {c : Int → Int → Bool} {k : Int → Int → PyData} (hc : ∀ i j, c i j = true → C i j) : LeOp (gI c k) (fI C k) := fun x y d Q e q => by
  unfold gI at e
  split at e
  · split at e
    · rename_i h; cases e; exact ⟨hc _ _ h, q⟩
    · cases e
  · cases e
def cPos : Int → Int → Bool := fun _ j => decide (0 < j)
def cNn : Int → Int → Bool := fun _ j => decide (0 ≤ j)
/-! Bounds are told by Nat.ble, the letters first: so the kernel never counts down a bound. -/
def cMul : Int → Int → Bool := fun i j => Nat.ble (i.natAbs.log2 + j.natAbs.log2) 99999999
def cDiv : Int → Int → Bool := fun _ j => decide (0 < j) && Nat.ble j.natAbs.log2 8999
def cShl : Int → Int → Bool := fun i j => decide (0 ≤ j) && Nat.ble (i.natAbs.log2 + j.toNat) 99999999
def cPow : Int → Int → Bool := fun i j => decide (0 ≤ j) && Nat.ble ((i.natAbs.log2 + 1) * j.toNat) 100000000
theorem bits_le (x : Int) : Builtin.Int.intBits x ≤ x.natAbs.log2 + 1 := by
  unfold Builtin.Int.intBits
  split <;> omega
theorem cMul_ok (i j : Int) (h : cMul i j = true) : CMulE i j := by
  have h : i.natAbs.log2 + j.natAbs.log2 ≤ 99999999 := Nat.le_of_ble_eq_true h
  have h1 := bits_le i
  have h2 := bits_le j
  refine .inr ?_
  unfold CMulX
  omega
theorem cDiv_ok (i j : Int) (h : cDiv i j = true) : CDivW i j := by
  unfold cDiv at h
  rw [Bool.and_eq_true] at h
  have h2 := Nat.le_of_ble_eq_true h.2
  exact ⟨of_decide_eq_true h.1, by omega⟩
theorem cShl_ok (i j : Int) (h : cShl i j = true) : CShl i j := by
  unfold cShl at h
  rw [Bool.and_eq_true] at h
  have h2 := Nat.le_of_ble_eq_true h.2
  have h1 := bits_le i
  have h0 : 0 ≤ j := of_decide_eq_true h.1
  refine ⟨h0, ?_⟩
  have : (2 : Int) ^ 27 = 134217728 := by decide
  omega
theorem cPow_ok (i j : Int) (h : cPow i j = true) : CPowB i j := by
  unfold cPow at h
  rw [Bool.and_eq_true] at h
  have h3 := Nat.le_of_ble_eq_true h.2
  have h1 := bits_le i
  have h0 : 0 ≤ j := of_decide_eq_true h.1
  refine ⟨h0, ?_⟩
  have e : (2 : Int) ^ 27 = 134217728 := by decide
  have e2 : ((j.toNat : Nat) : Int) = j := Int.toNat_of_nonneg h0
  have h4 : Builtin.Int.intBits i * j.toNat ≤ (i.natAbs.log2 + 1) * j.toNat := Nat.mul_le_mul_right _ h1
  have h5 : ((Builtin.Int.intBits i * j.toNat : Nat) : Int) = (Builtin.Int.intBits i : Int) * j := by rw [Int.natCast_mul, e2]
  omega
theorem cNn_ok (i j : Int) (h : cNn i j = true) : 0 ≤ j := of_decide_eq_true h
def gEq (neg : Bool) : PyData → PyData → Option PyData := fun x y => if (SeqAt.shaped x && SeqAt.shaped y) = true then some (.bool (if neg then !PyData.eqv x y else PyData.eqv x y)) else none
theorem leop_eq {neg : Bool} : LeOp (gEq neg) (fEq neg) := fun x y d Q e q => by
  unfold gEq at e
  split at e
  · rename_i h
    cases e
    rw [Bool.and_eq_true] at h
    exact ⟨h.1, h.2, q⟩
  · cases e
def gCatT : PyData → PyData → Option PyData := fun x y => match x, y with
  | .tuple xs, .tuple ys => if Nat.ble (xs.length + ys.length) 100000 = true then some (.tuple (xs ++ ys)) else none
  | _, _ => none
@[simp] theorem gCatT_t (xs ys : List PyData) : gCatT (.tuple xs) (.tuple ys) = if Nat.ble (xs.length + ys.length) 100000 = true then some (.tuple (xs ++ ys)) else none := rfl
theorem leop_catT : LeOp gCatT fCatT := fun x y d Q e q => by
  unfold gCatT at e
  split at e
  · split at e
    · rename_i h; cases e; exact ⟨Nat.le_of_ble_eq_true h, q⟩
    · cases e
  · cases e
def gRepT : PyData → PyData → Option PyData := fun x y => match x, y with
  | .tuple ds, .int k => if (!ds.isEmpty && decide (2 ≤ k) && Nat.ble k.toNat 1000 && Nat.ble ds.length 1000) = true then some (.tuple (List.replicate k.toNat ds).flatten) else none
  | _, _ => none
@[simp] theorem gRepT_t (ds : List PyData) (k : Int) : gRepT (.tuple ds) (.int k) = if (!ds.isEmpty && decide (2 ≤ k) && Nat.ble k.toNat 1000 && Nat.ble ds.length 1000) = true then some (.tuple (List.replicate k.toNat ds).flatten) else none := rfl
/-- tests -/
def asB : PyData → Rs Bool
  | .bool b => .ok b
  | _ => .no
@[simp] theorem asB_bool (b : Bool) : asB (.bool b) = .ok b := rfl
@[simp] theorem asB_int (b : Int) : asB (.int b) = .no := rfl
@[simp] theorem asB_none : asB .none = .no := rfl
theorem Sat.asB {d : PyData} {Q : Bool → Prop} (h : (asB d).Sat E Q) : ∃ b, d = .bool b ∧ Q b := by
  unfold Dl.asB at h
  split at h
  · exact ⟨_, rfl, h⟩
  · exact h.elim
@[simp] def fTest (fa : FE) : FT := fun σ => (fa σ).bind asB
theorem le_test (ha : LeE (ofE E fa) da) : LeT (ofT E (fTest fa)) (dTest da) := fun σ Q h => ha σ _ (Sat.mono (Sat.bind h) fun d k => by
  obtain ⟨b, rfl, q⟩ := Sat.asB k
  exact q)
@[simp] def fNot (ft : FT) : FT := fun σ => (ft σ).bind fun b => .ok (!b)
theorem le_notT (h : LeT (ofT E ft) dt) : LeT (ofT E (fNot ft)) (dNot dt) := fun σ Q k => h σ _ (Sat.mono (Sat.bind k) fun b k => k)
@[simp] def fAnd (ft fu : FT) : FT := fun σ => (ft σ).bind fun b => if b = true then fu σ else .ok false
@[simp] def fOr (ft fu : FT) : FT := fun σ => (ft σ).bind fun b => if b = true then .ok true else fu σ
theorem le_orT (h : LeT (ofT E ft) dt) (h' : LeT (ofT E fu) du) : LeT (ofT E (fOr ft fu)) (dOr dt du) := fun σ Q k => h σ _ (Sat.mono (Sat.bind k) fun b k => by
  cases b with
  | true => exact k
  | false => exact h' σ Q k)
@[simp] def fYes : FT := fun _ => .ok true
theorem le_yes : LeT (ofT E fYes) dYes := fun σ Q k => k
@[simp] def fAndV (fa fb : FE) : FE := fun σ => (fa σ).bind fun x => (asB x).bind fun b => if b = true then fb σ else .ok (.bool false)
@[simp] def fOrV (fa fb : FE) : FE := fun σ => (fa σ).bind fun x => (asB x).bind fun b => if b = true then .ok (.bool true) else fb σ
theorem le_andV (ha : LeE (ofE E fa) da) (hb : LeE (ofE E fb) db) : LeE (ofE E (fAndV fa fb)) (dAndV da db) := fun σ Q h => ha σ _ (Sat.mono (Sat.bind h) fun x k => by
  obtain ⟨b, rfl, q⟩ := Sat.asB (Sat.bind k)
  cases b with
  | true => exact hb σ Q q
  | false => exact q)
@[simp] def fNotV (fa : FE) : FE := fun σ => (fa σ).bind fun x => (asB x).bind fun b => .ok (.bool (!b))
theorem le_notV (ha : LeE (ofE E fa) da) : LeE (ofE E (fNotV fa)) (dNotV da) := fun σ Q h => ha σ _ (Sat.mono (Sat.bind h) fun x k => by
  obtain ⟨b, rfl, q⟩ := Sat.asB (Sat.bind k)
  exact q)
@[simp] def fIfE (ft : FT) (fa fb : FE) : FE := fun σ => (ft σ).bind fun b => if b = true then fa σ else fb σ
theorem le_ifE (h : LeT (ofT E ft) dt) (ha : LeE (ofE E fa) da) (hb : LeE (ofE E fb) db) : LeE (ofE E (fIfE ft fa fb)) (dIfE dt da db) := fun σ Q k => h σ _ (Sat.mono (Sat.bind k) fun b k => by
  cases b with
  | true => exact ha σ Q k
  | false => exact hb σ Q k)
def asI : PyData → Rs Int
  | .int i => .ok i
  | _ => .no
@[simp] theorem asI_int (b : Int) : asI (.int b) = .ok b := rfl
theorem Sat.asI {d : PyData} {Q : Int → Prop} (h : (asI d).Sat E Q) : ∃ i, d = .int i ∧ Q i := by
  unfold Dl.asI at h
  split at h
  · exact ⟨_, rfl, h⟩
  · exact h.elim
@[simp] def fNeg (fa : FE) : FE := fun σ => (fa σ).bind fun x => (asI x).bind fun i => .ok (.int (-i))
theorem le_neg (ha : LeE (ofE E fa) da) : LeE (ofE E (fNeg fa)) (dNeg da) := fun σ Q h => ha σ _ (Sat.mono (Sat.bind h) fun x h => by
  obtain ⟨i, rfl, h⟩ := Sat.asI (Sat.bind h)
  exact h)
@[simp] def fChain (g g' : PyData → PyData → Option PyData) (fa fb fc : FE) : FE := fun σ => (fa σ).bind fun x => (fb σ).bind fun y => (Rs.ofO (g x y)).bind fun z => (asB z).bind fun k => if k = true then (fc σ).bind fun w => Rs.ofO (g' y w) else .ok (.bool false)
theorem le_chain {g g' : PyData → PyData → Option PyData} {F F' : PyData → PyData → (PyData → Prop) → Prop} (hg : LeOp g F) (hg' : LeOp g' F') (ha : LeE (ofE E fa) da) (hb : LeE (ofE E fb) db) (hc : LeE (ofE E fc) dc) :
    LeE (ofE E (fChain g g' fa fb fc)) (dChain F F' da db dc) := fun σ Q h => ha σ _ (Sat.mono (Sat.bind h) fun x h => hb σ _ (Sat.mono (Sat.bind h) fun y h2 => by
  obtain ⟨z, e, h3⟩ := Sat.ofO (Sat.bind h2)
  refine hg x y z _ e ?_
  obtain ⟨k, rfl, q⟩ := Sat.asB (Sat.bind h3)
  cases k with
  | true => exact hc σ _ (Sat.mono (Sat.bind q) fun w h => by
      obtain ⟨d, e, q⟩ := Sat.ofO h
      exact hg' y w d Q e q)
  | false => exact q))
/-! ### sequences -/
@[simp] def fVarQ (i : Nat) : FQ := fun σ => match σ[i]? with
  | some (some (.dat (.list ds))) => .ok (true, ds)
  | some (some (.dat (.tuple ds))) => .ok (false, ds)
  | some (some (.own ds)) => .ok (true, ds)
  | _ => .no
theorem le_varQ {i : Nat} : LeQ (ofQ E (fVarQ i)) (dVarQ i) := fun σ Q h => by
  unfold ofQ fVarQ at h
  unfold dVarQ
  split at h
  · rename_i q; (try rw [q]); exact h
  · rename_i q; (try rw [q]); exact h
  · rename_i q; (try rw [q]); exact h
  · exact h.elim
def asQ : PyData → Rs (Bool × List PyData)
  | .list ds => .ok (true, ds)
  | .tuple ds => .ok (false, ds)
  | _ => .no
@[simp] theorem asQ_list (ds : List PyData) : asQ (.list ds) = .ok (true, ds) := rfl
@[simp] theorem asQ_tuple (ds : List PyData) : asQ (.tuple ds) = .ok (false, ds) := rfl
@[simp] def fSeqE (fa : FE) : FQ := fun σ => (fa σ).bind asQ
theorem le_seqE (ha : LeE (ofE E fa) da) : LeQ (ofQ E (fSeqE fa)) (dSeqE da) := fun σ Q h => ha σ _ (Sat.mono (Sat.bind h) fun d h => by
  unfold asQ at h
  split at h
  · exact h
  · exact h
  · exact h.elim)
@[simp] def fIx (fq : FQ) (fi : FE) : FE := fun σ => (fq σ).bind fun p => (fi σ).bind fun x => (asI x).bind fun i => Rs.ofO (atI p.2 i)
theorem le_ix (h : LeQ (ofQ E fq) dq) (hi : LeE (ofE E fa) da) : LeE (ofE E (fIx fq fa)) (dIx dq da) := fun σ Q k => h σ _ (Sat.mono (Sat.bind k) fun p k => hi σ _ (Sat.mono (Sat.bind k) fun x k => by
  obtain ⟨i, rfl, k⟩ := Sat.asI (Sat.bind k)
  obtain ⟨d, e, q⟩ := Sat.ofO k
  show match atI p.2 i with
    | some d => Q d
    | none => False
  rw [e]
  exact q))
@[simp] def fOpQ (g : Bool → List PyData → Option PyData) (fq : FQ) : FE := fun σ => (fq σ).bind fun p => Rs.ofO (g p.1 p.2)
def LeOpQ (g : Bool → List PyData → Option PyData) (F : Bool → List PyData → (PyData → Prop) → Prop) : Prop := ∀ b ds d (Q : PyData → Prop), g b ds = some d → Q d → F b ds Q
theorem le_opQ {g : Bool → List PyData → Option PyData} {F : Bool → List PyData → (PyData → Prop) → Prop} (hg : LeOpQ g F) (h : LeQ (ofQ E fq) dq) : LeE (ofE E (fOpQ g fq)) (dOpQ F dq) := fun σ Q k => h σ _ (Sat.mono (Sat.bind k) fun p k => by
  obtain ⟨d, e, q⟩ := Sat.ofO k
  exact hg _ _ d Q e q)
@[simp] def gLen : Bool → List PyData → Option PyData := fun _ ds => some (.int ds.length)
theorem leq_len : LeOpQ gLen fLen := fun b ds d Q e q => by cases e; exact q
@[simp] def gTuple : Bool → List PyData → Option PyData := fun _ ds => some (.tuple ds)
theorem leq_tuple : LeOpQ gTuple fTuple := fun b ds d Q e q => by cases e; exact q
@[simp] def gSum : Bool → List PyData → Option PyData := fun _ ds => (intsD ds).map fun ns => .int ns.sum
theorem leq_sum : LeOpQ gSum fSumS := fun b ds d Q e q => by
  unfold gSum at e
  unfold fSumS
  cases h : intsD ds with
  | none => rw [h] at e; cases e
  | some ns => rw [h] at e; cases e; exact q
def gMin : Bool → List PyData → Option PyData := fun _ ds => match intsD ds with
  | some (n :: ns) => some (.int (ns.foldl min n))
  | _ => none
def gMax : Bool → List PyData → Option PyData := fun _ ds => match intsD ds with
  | some (n :: ns) => some (.int (ns.foldl max n))
  | _ => none
/-! ### arguments, displays -/
@[simp] def fNil : FA := fun _ => .ok []
@[simp] def fCons (fa : FE) (aa : FA) : FA := fun σ => (fa σ).bind fun d => (aa σ).bind fun ds => .ok (d :: ds)
theorem le_nil : LeA (ofA E fNil) dNil := fun σ Q h => h
theorem le_cons (ha : LeE (ofE E fa) da) (hr : LeA (ofA E aa) ad) : LeA (ofA E (fCons fa aa)) (dCons (dD da) ad) := fun σ Q h => ha σ _ (Sat.mono (Sat.bind h) fun d h => hr σ _ (Sat.mono (Sat.bind h) fun ds h => h))
@[simp] def fCall (F : FF) (aa : FA) : FE := fun σ => (aa σ).bind F
theorem le_call {F : FF} (ha : LeA (ofA E aa) ad) : LeE (ofE E (fCall F aa)) (dCall (ofF E F) ad) := fun σ Q h => ha σ _ (Sat.mono (Sat.bind h) fun ds h => ⟨ds, rfl, h⟩)
theorem dats_map (ds : List PyData) : dats (ds.map WD.dat) = some ds := by
  induction ds with
  | nil => rfl
  | cons d ds ih => simp [dats, ih]
theorem Sat.dats {r : Rs (List PyData)} {Q : List PyData → Prop} (h : r.Sat E Q) : r.Sat E fun ds => match dats (ds.map WD.dat) with
  | some ds => Q ds
  | none => False := Sat.mono h fun ds q => by rw [dats_map]; exact q
def lim (n : Nat) : Bool := Nat.ble n 100000
@[simp] def fTup (aa : FA) : FE := fun σ => (aa σ).bind fun ds => if lim ds.length = true then .ok (.tuple ds) else .no
theorem le_tup (ha : LeA (ofA E aa) ad) : LeE (ofE E (fTup aa)) (dTup ad) := fun σ Q h => ha σ _ (Sat.mono (Sat.dats (Q := fun ds => ds.length ≤ 100000 ∧ Q (.tuple ds)) (Sat.mono (Sat.bind h) fun ds h => by
  by_cases e : lim ds.length = true
  · rw [if_pos e] at h
    exact ⟨Nat.le_of_ble_eq_true e, h⟩
  · rw [if_neg e] at h
    exact h.elim)) fun ds q => q)
@[simp] def fLst (aa : FA) : FA := fun σ => (aa σ).bind fun ds => if lim ds.length = true then .ok ds else .no
theorem le_lst (ha : LeA (ofA E aa) ad) : LeL (ofL E (fLst aa)) (dLst ad) := fun σ Q h => ha σ _ (Sat.mono (Sat.dats (Q := fun ds => ds.length ≤ 100000 ∧ Q ds) (Sat.mono (Sat.bind h) fun ds h => by
  by_cases e : lim ds.length = true
  · rw [if_pos e] at h
    exact ⟨Nat.le_of_ble_eq_true e, h⟩
  · rw [if_neg e] at h
    exact h.elim)) fun ds q => q)
@[simp] def fL (la : FA) : FE := fun σ => (la σ).bind fun ds => .ok (.list ds)
theorem le_L (h : LeL (ofL E la) dl) : LeE (ofE E (fL la)) (dL dl) := fun σ Q k => h σ _ (Sat.mono (Sat.bind k) fun ds k => k)
@[simp] def fOpN (g : List PyData → Option PyData) (aa : FA) : FE := fun σ => (aa σ).bind fun ds => Rs.ofO (g ds)
def LeOpN (g : List PyData → Option PyData) (F : List PyData → (PyData → Prop) → Prop) : Prop := ∀ ds d (Q : PyData → Prop), g ds = some d → Q d → F ds Q
theorem le_opN {g : List PyData → Option PyData} {F : List PyData → (PyData → Prop) → Prop} (hg : LeOpN g F) (ha : LeA (ofA E aa) ad) : LeE (ofE E (fOpN g aa)) (dOpN F ad) := fun σ Q h =>
  ha σ _ (Sat.mono (Sat.dats (Q := fun ds => F ds Q) (Sat.mono (Sat.bind h) fun ds h => by
    obtain ⟨d, e, q⟩ := Sat.ofO h
    exact hg ds d Q e q)) fun ds q => q)
def gAbs : List PyData → Option PyData
  | [.int i] => some (.int (if i < 0 then -i else i))
  | _ => none
@[simp] theorem gAbs_int (i : Int) : gAbs [.int i] = some (.int (if i < 0 then -i else i)) := rfl
theorem len_abs : LeOpN gAbs fAbs := fun ds d Q e q => by
  unfold gAbs at e
  split at e
  · cases e; exact q
  · cases e
def gInt : List PyData → Option PyData
  | [.int i] => some (.int i)
  | [.bool b] => some (.int (if b then 1 else 0))
  | _ => none
@[simp] theorem gInt_int (i : Int) : gInt [.int i] = some (.int i) := rfl
@[simp] theorem gInt_bool (b : Bool) : gInt [.bool b] = some (.int (if b then 1 else 0)) := rfl
def gMax2 : List PyData → Option PyData
  | [.int i, .int j] => some (.int (if j > i then j else i))
  | _ => none
@[simp] theorem gMax2_int (i j : Int) : gMax2 [.int i, .int j] = some (.int (if j > i then j else i)) := rfl
def gMin2 : List PyData → Option PyData
  | [.int i, .int j] => some (.int (if j < i then j else i))
  | _ => none
@[simp] theorem gMin2_int (i j : Int) : gMin2 [.int i, .int j] = some (.int (if j < i then j else i)) := rfl
def gGcd : List PyData → Option PyData
  | [.int i, .int j] => some (.int ((Nat.gcd i.natAbs j.natAbs : Nat) : Int))
  | _ => none
@[simp] theorem gGcd_int (i j : Int) : gGcd [.int i, .int j] = some (.int ((Nat.gcd i.natAbs j.natAbs : Nat) : Int)) := rfl
theorem len_gcd : LeOpN gGcd fGcd := fun ds d Q e q => by
  unfold gGcd at e
  split at e
  · cases e; exact q
  · cases e
@[simp] def fIsi (T : String) (fa : FE) : FE := fun σ => (fa σ).bind fun d => .ok (.bool (isB (tyD d) T))
theorem le_isi {T : String} (ha : LeE (ofE E fa) da) : LeE (ofE E (fIsi T fa)) (dIsi T da) := fun σ Q h => ha σ _ (Sat.mono (Sat.bind h) fun d h => h)
@[simp] def fRep (la : FA) (fa : FE) : FA := fun σ => (la σ).bind fun ds => (fa σ).bind fun x => (asI x).bind fun k => if (Nat.ble k.natAbs 1000000 && lim (ds.length * k.toNat)) = true then .ok (List.replicate k.toNat ds).flatten else .no
theorem le_rep (h : LeL (ofL E la) dl) (ha : LeE (ofE E fa) da) : LeL (ofL E (fRep la fa)) (dRep dl da) := fun σ Q k => h σ _ (Sat.mono (Sat.bind k) fun ds k => ha σ _ (Sat.mono (Sat.bind k) fun x k2 => by
  obtain ⟨n, rfl, k⟩ := Sat.asI (Sat.bind k2)
  clear k2
  by_cases e : (Nat.ble n.natAbs 1000000 && lim (ds.length * n.toNat)) = true
  · rw [if_pos e] at k
    rw [Bool.and_eq_true] at e
    have b1 := Nat.le_of_ble_eq_true e.1
    exact ⟨by omega, by omega, Nat.le_of_ble_eq_true e.2, k⟩
  · rw [if_neg e] at k
    exact k.elim))
@[simp] def foNone : FO := fun _ => .ok none
@[simp] def foSome (fa : FE) : FO := fun σ => (fa σ).bind fun x => (asI x).bind fun i => .ok (some i)
theorem le_oNone : LeO (ofO E foNone) oNone := fun σ Q h => h
theorem le_oSome (ha : LeE (ofE E fa) da) : LeO (ofO E (foSome fa)) (oSome da) := fun σ Q h => ha σ _ (Sat.mono (Sat.bind h) fun x h => by
  obtain ⟨i, rfl, h⟩ := Sat.asI (Sat.bind h)
  exact h)
@[simp] def fSl (fq : FQ) (l h : FO) : FE := fun σ => (fq σ).bind fun p => (l σ).bind fun lo => (h σ).bind fun hi => .ok (if p.1 then .list (cutD p.2 lo hi) else .tuple (cutD p.2 lo hi))
theorem le_sl (hq : LeQ (ofQ E fq) dq) (h1 : LeO (ofO E fo) dO) (h2 : LeO (ofO E fo') dO') : LeE (ofE E (fSl fq fo fo')) (dSl dq dO dO') := fun σ Q k =>
  hq σ _ (Sat.mono (Sat.bind k) fun p k => h1 σ _ (Sat.mono (Sat.bind k) fun lo k => h2 σ _ (Sat.mono (Sat.bind k) fun hi k => k)))
/-! ### what is walked -/
@[simp] def fItS (fa : FE) : FA := fun σ => (fa σ).bind fun d => (asQ d).bind fun p => .ok p.2
theorem le_itS (ha : LeE (ofE E fa) da) : LeI (ofI E (fItS fa)) (dItS da) := fun σ Q h => ha σ _ (Sat.mono (Sat.bind h) fun d h => by
  unfold asQ at h
  split at h
  · exact h
  · exact h
  · exact h.elim)
def cRng (n : Int) : Bool := Nat.ble n.natAbs 4611686018427387903
def gRange1 : List PyData → Rs (List PyData)
  | [.int n] => if cRng n = true then .ok ((List.range n.toNat).map fun i : Nat => PyData.int i) else .no
  | _ => .no
@[simp] theorem gRange1_int (n : Int) : gRange1 [.int n] = if cRng n = true then .ok ((List.range n.toNat).map fun i : Nat => PyData.int i) else .no := rfl
@[simp] def fRange1 (aa : FA) : FA := fun σ => (aa σ).bind gRange1
theorem cRng_ok {n : Int} (h : cRng n = true) : n < 4611686018427387904 ∧ -4611686018427387904 ≤ n := by
  have h := Nat.le_of_ble_eq_true h
  omega
theorem le_range1 (ha : LeA (ofA E aa) ad) : LeI (ofI E (fRange1 aa)) (dRange1 ad) := fun σ Q h => ha σ _ (Sat.mono (Sat.bind h) fun ds h => by
  unfold gRange1 at h
  split at h
  · rename_i n
    by_cases e : cRng n = true
    · rw [if_pos e] at h
      exact ⟨(cRng_ok e).1, (cRng_ok e).2, h⟩
    · rw [if_neg e] at h
      exact h.elim
  · exact h.elim)
def gRange2 : List PyData → Rs (List PyData)
  | [.int m, .int n] => if (cRng n && cRng m) = true then .ok ((List.range (n - m).toNat).map fun i : Nat => PyData.int (m + i)) else .no
  | _ => .no
@[simp] theorem gRange2_int (m n : Int) : gRange2 [.int m, .int n] = if (cRng n && cRng m) = true then .ok ((List.range (n - m).toNat).map fun i : Nat => PyData.int (m + i)) else .no := rfl
@[simp] def fRange2 (aa : FA) : FA := fun σ => (aa σ).bind gRange2
def gZip : List PyData → Rs (List PyData)
  | [.list ds, .list es] => .ok (List.zipWith (fun x y => PyData.tuple [x, y]) ds es)
  | [.tuple ds, .tuple es] => .ok (List.zipWith (fun x y => PyData.tuple [x, y]) ds es)
  | _ => .no
@[simp] theorem gZip_l (ds es : List PyData) : gZip [.list ds, .list es] = .ok (List.zipWith (fun x y => PyData.tuple [x, y]) ds es) := rfl
@[simp] theorem gZip_t (ds es : List PyData) : gZip [.tuple ds, .tuple es] = .ok (List.zipWith (fun x y => PyData.tuple [x, y]) ds es) := rfl
@[simp] def fZip (aa : FA) : FA := fun σ => (aa σ).bind gZip
def gEnum : List PyData → Rs (List PyData)
  | [.list ds] => .ok (ds.mapIdx fun i x => PyData.tuple [.int (i : Nat), x])
  | [.tuple ds] => .ok (ds.mapIdx fun i x => PyData.tuple [.int (i : Nat), x])
  | _ => .no
@[simp] theorem gEnum_l (ds : List PyData) : gEnum [.list ds] = .ok (ds.mapIdx fun i x => PyData.tuple [.int (i : Nat), x]) := rfl
@[simp] theorem gEnum_t (ds : List PyData) : gEnum [.tuple ds] = .ok (ds.mapIdx fun i x => PyData.tuple [.int (i : Nat), x]) := rfl
@[simp] def fEnum (aa : FA) : FA := fun σ => (aa σ).bind gEnum
theorem le_enum (ha : LeA (ofA E aa) ad) : LeI (ofI E (fEnum aa)) (dEnum ad) := fun σ Q h => ha σ _ (Sat.mono (Sat.bind h) fun ds h => by
  unfold gEnum at h
  split at h
  · exact h
  · exact h
  · exact h.elim)
end
end Dl
end
section
set_option Elab.async false
set_option linter.all false
set_option maxRecDepth 100000
set_option maxHeartbeats 1000000
namespace Dl
open PySem PySem.Spec PyProof.Rows L2 HbE Evl RZ Gx
variable [LmV.LamTable]
section
variable {E : Xn → Prop} {fa fb fc : FE} {da db dc : DE} {ft fu : FT} {dt du : DT} {aa : FA} {la ll : FA} {ad : DA} {fq : FQ} {dq : DQ} {dl : DL} {di : DI} {fi : FA} {fg : FG} {dg : DG} {gs : FGs} {dgs : DGs} {s u : FS} {ds du' : DS}
/-! ### targets -/
@[simp] def fgSet (i : Nat) : FG := fun d σ => .ok (σ.set i (some (.dat d)))
theorem le_gSet {i : Nat} : LeG (ofG E (fgSet i)) (gSet i) := fun d σ Q h => h
@[simp] def fgsNil : FGs := fun ds σ => match ds with
  | [] => .ok σ
  | _ => .no
@[simp] def fgsCons (g : FG) (gs : FGs) : FGs := fun ds σ => match ds with
  | d :: r => (g d σ).bind fun σ' => gs r σ'
  | [] => .no
theorem le_gsNil : LeGs (ofGs E fgsNil) gsNil := fun d σ Q h => by
  cases d with
  | nil => exact h
  | cons => exact h.elim
theorem le_gsCons (h1 : LeG (ofG E fg) dg) (h2 : LeGs (ofGs E gs) dgs) : LeGs (ofGs E (fgsCons fg gs)) (gsCons dg dgs) := fun d σ Q h => by
  cases d with
  | nil => exact h.elim
  | cons d r => exact h1 d σ _ (Sat.mono (Sat.bind h) fun σ' h => h2 r σ' Q h)
@[simp] def fgTup (n : Nat) (gs : FGs) : FG := fun d σ => match d with
  | .tuple ds => if ds.length = n then gs ds σ else .no
  | _ => .no
/-! ### comprehensions -/
def lcF (g : FG) (t : FT) (e : FE) (σ0 : Sd) : List PyData → Rs (List PyData)
  | [] => .ok []
  | d :: ds => (g d σ0).bind fun σ2 => (t σ2).bind fun b => if b = true then (e σ2).bind fun y => (lcF g t e σ0 ds).bind fun ys => .ok (y :: ys) else lcF g t e σ0 ds
@[simp] def fLc (fi : FA) (g : FG) (t : FT) (e : FE) (vs : List Nat) : FA := fun σ => (fi σ).bind fun ds => if lim ds.length = true then lcF g t e (wipeD σ vs) ds else .no
theorem lcF_le (hg : LeG (ofG E fg) dg) (ht : LeT (ofT E ft) dt) (he : LeE (ofE E fa) da) {σ0 : Sd} : ∀ {ds acc : List PyData} {Q : List PyData → Prop}, (lcF fg ft fa σ0 ds).Sat E (fun ys => Q (acc ++ ys)) → lcD dg dt da σ0 Q ds acc
  | [], acc, Q, h => by
    have h : Q (acc ++ []) := h
    rw [List.append_nil] at h
    exact h
  | d :: ds, acc, Q, h => hg d σ0 _ (Sat.mono (Sat.bind h) fun σ2 h => ht σ2 _ (Sat.mono (Sat.bind h) fun b h => by
    cases b with
    | true => exact he σ2 _ (Sat.mono (Sat.bind h) fun y h => lcF_le hg ht he (Sat.mono (Sat.bind h) fun ys h => by
        have h : Q (acc ++ y :: ys) := h
        rw [List.append_assoc]
        exact h))
    | false => exact lcF_le hg ht he h))
theorem le_lc {vs : List Nat} (hi : LeI (ofI E fi) di) (hg : LeG (ofG E fg) dg) (ht : LeT (ofT E ft) dt) (he : LeE (ofE E fa) da) : LeL (ofL E (fLc fi fg ft fa vs)) (dLc di dg dt da vs) := fun σ Q h => hi σ _ (Sat.mono (Sat.bind h) fun ds h => by
  by_cases e : lim ds.length = true
  · rw [if_pos e] at h
    exact ⟨Nat.le_of_ble_eq_true e, lcF_le hg ht he (Sat.mono h fun ys h => h)⟩
  · rw [if_neg e] at h
    exact h.elim)
def allF (g : FG) (t : FT) (e : FE) (σ0 : Sd) : List PyData → Rs Bool
  | [] => .ok true
  | d :: ds => (g d σ0).bind fun σ2 => (t σ2).bind fun b => if b = true then (e σ2).bind fun y => (asB y).bind fun c => if c = true then allF g t e σ0 ds else .ok false else allF g t e σ0 ds
@[simp] def fAll (fi : FA) (g : FG) (t : FT) (e : FE) (vs : List Nat) : FE := fun σ => (fi σ).bind fun ds => (allF g t e (wipeD σ vs) ds).bind fun b => .ok (.bool b)
theorem allF_le (hg : LeG (ofG E fg) dg) (ht : LeT (ofT E ft) dt) (he : LeE (ofE E fa) da) {σ0 : Sd} : ∀ {ds : List PyData} {Q : Bool → Prop}, (allF fg ft fa σ0 ds).Sat E Q → allD dg dt da σ0 Q ds
  | [], Q, h => h
  | d :: ds, Q, h => hg d σ0 _ (Sat.mono (Sat.bind h) fun σ2 h => ht σ2 _ (Sat.mono (Sat.bind h) fun b h => by
    cases b with
    | true => exact he σ2 _ (Sat.mono (Sat.bind h) fun y h => by
        obtain ⟨c, rfl, q⟩ := Sat.asB (Sat.bind h)
        cases c with
        | true => exact allF_le hg ht he q
        | false => exact q)
    | false => exact allF_le hg ht he h))
theorem le_all {vs : List Nat} (hi : LeI (ofI E fi) di) (hg : LeG (ofG E fg) dg) (ht : LeT (ofT E ft) dt) (he : LeE (ofE E fa) da) : LeE (ofE E (fAll fi fg ft fa vs)) (dAll di dg dt da vs) := fun σ Q h => hi σ _ (Sat.mono (Sat.bind h) fun ds h =>
  allF_le hg ht he (Sat.mono (Sat.bind h) fun b h => h))
/-! ### statements -/
@[simp] def fNext : FS := fun σ => .ok (.nx σ)
theorem les_next : LeS (ofS E fNext) dNext := fun D σ h => h
@[simp] def fSeq (s u : FS) : FS := fun σ => (s σ).bind fun w => match w with
  | .nx σ' => u σ'
  | .rt d => .ok (.rt d)
  | .bk σ' => .ok (.bk σ')
  | .ct σ' => .ok (.ct σ')
theorem les_seq (h1 : LeS (ofS E s) ds) (h2 : LeS (ofS E u) du') : LeS (ofS E (fSeq s u)) (dSeq ds du') := fun D σ h => h1 _ σ (Sat.mono (Sat.bind h) fun w h => by
  cases w with
  | nx σ' => exact h2 D σ' h
  | rt d => exact h
  | bk σ' => exact h
  | ct σ' => exact h)
@[simp] def fRet (fa : FE) : FS := fun σ => (fa σ).bind fun d => .ok (.rt d)
theorem les_ret (h : LeE (ofE E fa) da) : LeS (ofS E (fRet fa)) (dRet da) := fun D σ k => h σ _ (Sat.mono (Sat.bind k) fun d k => k)
@[simp] def fRetO (i : Nat) : FS := fun σ => match σ[i]? with
  | some (some (.own ds)) => .ok (.rt (.list ds))
  | _ => .no
@[simp] def fIf (ft : FT) (s u : FS) : FS := fun σ => (ft σ).bind fun b => if b = true then s σ else u σ
theorem les_if (h : LeT (ofT E ft) dt) (h1 : LeS (ofS E s) ds) (h2 : LeS (ofS E u) du') : LeS (ofS E (fIf ft s u)) (dIf dt ds du') := fun D σ k => h σ _ (Sat.mono (Sat.bind k) fun b k => by
  cases b with
  | true => exact h1 D σ k
  | false => exact h2 D σ k)
@[simp] def fSet (i : Nat) (fa : FE) : FS := fun σ => (fa σ).bind fun d => .ok (.nx (σ.set i (some (.dat d))))
theorem les_set {i : Nat} (h : LeE (ofE E fa) da) : LeS (ofS E (fSet i fa)) (dSet i da) := fun D σ k => h σ _ (Sat.mono (Sat.bind k) fun d k => k)
@[simp] def fSetO (i : Nat) (la : FA) : FS := fun σ => (la σ).bind fun ds => .ok (.nx (σ.set i (some (.own ds))))
theorem les_setO {i : Nat} (h : LeL (ofL E la) dl) : LeS (ofS E (fSetO i la)) (dSetO i dl) := fun D σ k => h σ _ (Sat.mono (Sat.bind k) fun d k => k)
@[simp] def fAug (i : Nat) (f : Int → Int → Int) (fa : FE) : FS := fun σ => match σ[i]? with
  | some (some (.dat (.int n))) => (fa σ).bind fun d => (asI d).bind fun m => .ok (.nx (σ.set i (some (.dat (.int (f n m))))))
  | _ => .no
@[simp] def fDrop (fa : FE) : FS := fun σ => (fa σ).bind fun _ => .ok (.nx σ)
theorem les_drop (h : LeE (ofE E fa) da) : LeS (ofS E (fDrop fa)) (dDrop da) := fun D σ k => h σ _ (Sat.mono (Sat.bind k) fun d k => k)
@[simp] def fApp (i : Nat) (fa : FE) : FS := fun σ => match σ[i]? with
  | some (some (.own ds)) => (fa σ).bind fun d => if Nat.ble ds.length 99999 = true then .ok (.nx (σ.set i (some (.own (ds ++ [d]))))) else .no
  | _ => .no
theorem les_app {i : Nat} (h : LeE (ofE E fa) da) : LeS (ofS E (fApp i fa)) (dApp i da) := fun D σ k => by
  unfold ofS fApp at k
  unfold dApp
  split at k
  · rename_i es q
    (try rw [q])
    refine h σ _ (Sat.mono (Sat.bind k) fun d k2 => ?_)
    by_cases e : Nat.ble es.length 99999 = true
    · rw [if_pos e] at k2
      exact ⟨Nat.lt_succ_of_le (Nat.le_of_ble_eq_true e), k2⟩
    · rw [if_neg e] at k2
      exact k2.elim
  · exact k.elim
@[simp] def fPut (i : Nat) (fi fa : FE) : FS := fun σ => match σ[i]? with
  | some (some (.own ds)) => (fa σ).bind fun d => (fi σ).bind fun x => (asI x).bind fun k => (Rs.ofO (ixN ds.length k)).bind fun j => .ok (.nx (σ.set i (some (.own (ds.set j d)))))
  | _ => .no
@[simp] def fAugIx (i : Nat) (fi fa : FE) : FS := fun σ => match σ[i]? with
  | some (some (.own ds)) => (fi σ).bind fun x => (asI x).bind fun k => (Rs.ofO (ixN ds.length k)).bind fun j => (Rs.ofO ds[j]?).bind fun y => (asI y).bind fun n => (fa σ).bind fun d => (asI d).bind fun m => .ok (.nx (σ.set i (some (.own (ds.set j (.int (n + m)))))))
  | _ => .no
@[simp] def fPar (i j : Nat) (aa : FA) : FS := fun σ => (aa σ).bind fun ds => match ds with
  | [d, d'] => .ok (.nx ((σ.set i (some (.dat d))).set j (some (.dat d'))))
  | _ => .no
theorem les_par {i j : Nat} (h : LeA (ofA E aa) ad) : LeS (ofS E (fPar i j aa)) (dPar i j ad) := fun D σ k => h σ _ (Sat.mono (Sat.bind k) fun ds k => by
  split at k
  · exact k
  · exact k.elim)
@[simp] def fAsgG (g : FG) (fa : FE) : FS := fun σ => (fa σ).bind fun d => (g d σ).bind fun σ' => .ok (.nx σ')
theorem les_asgG (hg : LeG (ofG E fg) dg) (h : LeE (ofE E fa) da) : LeS (ofS E (fAsgG fg fa)) (dAsgG dg da) := fun D σ k => h σ _ (Sat.mono (Sat.bind k) fun d k => hg d σ _ (Sat.mono (Sat.bind k) fun σ' k => k))
def forF (g : FG) (b : FS) : List PyData → FS
  | [], σ => .ok (.nx σ)
  | d :: ds, σ => (g d σ).bind fun σ2 => (b σ2).bind fun w => match w with
    | .nx σ' => forF g b ds σ'
    | .ct σ' => forF g b ds σ'
    | .bk σ' => .ok (.nx σ')
    | .rt d => .ok (.rt d)
@[simp] def fFor (fi : FA) (g : FG) (b : FS) : FS := fun σ => (fi σ).bind fun ds => forF g b ds σ
theorem forF_le (hg : LeG (ofG E fg) dg) (hb : LeS (ofS E s) ds) {D : ED} : ∀ {xs : List PyData} {σ : Sd}, (forF fg s xs σ).Sat E D.go → forD dg ds D xs σ
  | [], σ, h => h
  | d :: xs, σ, h => hg d σ _ (Sat.mono (Sat.bind h) fun σ2 h => hb _ σ2 (Sat.mono (Sat.bind h) fun w h => by
    cases w with
    | nx σ' => exact forF_le hg hb h
    | ct σ' => exact forF_le hg hb h
    | bk σ' => exact h
    | rt d => exact h))
theorem les_for (hi : LeI (ofI E fi) di) (hg : LeG (ofG E fg) dg) (hb : LeS (ofS E s) ds) : LeS (ofS E (fFor fi fg s)) (dFor di dg ds) := fun D σ k => hi σ _ (Sat.mono (Sat.bind k) fun xs k => forF_le hg hb k)
def whileF (t : FT) (b : FS) : Nat → FS
  | 0, _ => .no
  | n + 1, σ => (t σ).bind fun c => if c = true then (b σ).bind fun w => match w with
    | .nx σ' => whileF t b n σ'
    | .ct σ' => whileF t b n σ'
    | .bk σ' => .ok (.nx σ')
    | .rt d => .ok (.rt d)
    else .ok (.nx σ)
@[simp] def fWhile (n : Nat) (t : FT) (b : FS) : FS := whileF t b n
theorem les_while {n : Nat} (ht : LeT (ofT E ft) dt) (hb : LeS (ofS E s) ds) : LeS (ofS E (fWhile n ft s)) (dWhile dt ds) := fun D σ k => by
  refine ⟨fun m σ => (whileF ft s m σ).Sat E D.go, ⟨n, k⟩, fun m σ h => ?_⟩
  cases m with
  | zero => exact h.elim
  | succ m =>
    refine ht σ _ (Sat.mono (Sat.bind h) fun c h => ?_)
    cases c with
    | true =>
      exact hb _ σ (Sat.mono (Sat.bind h) fun w h => by
        cases w with
        | nx σ' => exact ⟨m, Nat.lt_succ_self m, h⟩
        | ct σ' => exact ⟨m, Nat.lt_succ_self m, h⟩
        | bk σ' => exact h
        | rt d => exact h)
    | false => exact h
@[simp] def fRaise (x : Xn) : FS := fun _ => .ex x
def E0 : Xn → Prop := fun _ => False
@[simp] def fFrz (i : Nat) (s : FS) : FS := fun σ => match σ[i]? with
  | some (some (.own ds)) => s (σ.set i (some (.dat (.list ds))))
  | _ => .no
theorem les_frz {i : Nat} (h : LeS (ofS E s) ds) : LeS (ofS E (fFrz i s)) (dFrz i ds) := fun D σ k => by
  unfold ofS fFrz at k
  unfold dFrz
  split at k
  · rename_i q
    (try rw [q])
    exact h D _ k
  · exact k.elim
end
/-! ### defs -/
@[simp] def Fw.out : Fw → Rs PyData
  | .nx _ => .ok .none
  | .rt d => .ok d
  | _ => .no
@[simp] def mkF (n N : Nat) (fs : FS) : FF := fun ds => if ds.length = n then (fs (startD N (ds.map WD.dat))).bind Fw.out else .no
section
variable {P : Program} {w : World} {K : PySem.W.Frag} {mg : Str → Option Value} {base : Heap} {Ps : TbL}
end
end Dl
end
section
set_option Elab.async false
set_option linter.all false
set_option maxRecDepth 100000
set_option maxHeartbeats 1000000
/-! Running functions over data: bounds; loops; comprehensions. -/
namespace Dl
open PySem PySem.Spec PyProof.Rows L2 HbE Evl RZ Gx
variable [LmV.LamTable]
@[simp] theorem startD_eq {n : Nat} {ws : List WD} : startD n ws = ws.map some ++ List.replicate (n - ws.length) none := rfl
theorem log2_le {z c : Nat} (hz : z < 2 ^ c) : z.log2 ≤ c := by
  by_cases h0 : z = 0
  · subst h0; exact Nat.zero_le _
  · exact Nat.le_of_lt ((Nat.log2_lt h0).mpr hz)
@[simp] theorem lim_0 : lim 0 = true := rfl
@[simp] theorem lim_1 : lim 1 = true := rfl
@[simp] theorem lim_2 : lim 2 = true := rfl
@[simp] theorem lim_3 : lim 3 = true := rfl
@[simp] theorem lim_4 : lim 4 = true := rfl
@[simp] theorem lim_5 : lim 5 = true := rfl
@[simp] theorem lim_6 : lim 6 = true := rfl
@[simp] theorem lim_7 : lim 7 = true := rfl
@[simp] theorem lim_8 : lim 8 = true := rfl
@[simp] theorem lim_9 : lim 9 = true := rfl
@[simp] theorem lim_10 : lim 10 = true := rfl
@[simp] theorem lim_11 : lim 11 = true := rfl
@[simp] theorem lim_12 : lim 12 = true := rfl
@[simp] theorem lim_13 : lim 13 = true := rfl
@[simp] theorem lim_14 : lim 14 = true := rfl
@[simp] theorem lim_15 : lim 15 = true := rfl
@[simp] theorem lim_16 : lim 16 = true := rfl
@[simp] theorem lim_17 : lim 17 = true := rfl
@[simp] theorem lim_18 : lim 18 = true := rfl
@[simp] theorem lim_19 : lim 19 = true := rfl
@[simp] theorem lim_20 : lim 20 = true := rfl
@[simp] theorem lim_21 : lim 21 = true := rfl
@[simp] theorem lim_22 : lim 22 = true := rfl
@[simp] theorem lim_23 : lim 23 = true := rfl
@[simp] theorem lim_24 : lim 24 = true := rfl
@[simp] theorem bind_assoc {α β γ : Type} (r : Rs α) (f : α → Rs β) (g : β → Rs γ) : (r.bind f).bind g = r.bind fun a => (f a).bind g := by
  cases r <;> rfl
section
variable {g : FG} {t : FT} {e : FE} {σ0 : Sd} {ds : List PyData}
end
@[simp] theorem tyD_int (i : Int) : tyD (.int i) = "int" := rfl
@[simp] theorem tyD_bool (i : Bool) : tyD (.bool i) = "bool" := rfl
@[simp] theorem tyD_tuple (i : List PyData) : tyD (.tuple i) = "tuple" := rfl
@[simp] theorem tyD_list (i : List PyData) : tyD (.list i) = "list" := rfl
@[simp] theorem isB_ii : isB "int" "int" = true := by decide +kernel
@[simp] theorem isB_ib : isB "int" "bool" = false := by decide +kernel
@[simp] theorem isB_tt : isB "tuple" "tuple" = true := by decide +kernel
@[simp] theorem isB_bi : isB "bool" "int" = true := by decide +kernel
@[simp] theorem isB_bb : isB "bool" "bool" = true := by decide +kernel
@[simp] theorem isB_it : isB "int" "tuple" = false := by decide +kernel
@[simp] theorem isB_lt : isB "list" "tuple" = false := by decide +kernel
@[simp] theorem isB_ti : isB "tuple" "int" = false := by decide +kernel
end Dl
namespace Dl
open PySem PySem.Spec PyProof.Rows L2 HbE Evl RZ Gx
variable [LmV.LamTable]
@[simp] theorem gEq_int (neg : Bool) (i j : Int) : gEq neg (.int i) (.int j) = some (.bool (if neg then !(i == j) else i == j)) := rfl
/-- a list (true) or a tuple of ints -/
def sI (l : Bool) (ns : List Int) : PyData := if l then .list (ns.map .int) else .tuple (ns.map .int)
@[simp] theorem asQ_sI (l : Bool) (ns : List Int) : asQ (sI l ns) = .ok (l, ns.map .int) := by cases l <;> rfl
@[simp] theorem gMin_c (b : Bool) (n : Int) (ns : List Int) : gMin b (.int n :: ns.map .int) = some (.int (ns.foldl min n)) := by
  have e := intsD_map (n :: ns)
  unfold gMin
  rw [List.map_cons] at e
  rw [e]
@[simp] theorem gMax_c (b : Bool) (n : Int) (ns : List Int) : gMax b (.int n :: ns.map .int) = some (.int (ns.foldl max n)) := by
  have e := intsD_map (n :: ns)
  unfold gMax
  rw [List.map_cons] at e
  rw [e]
abbrev tI (ns : List Int) : PyData := .tuple (ns.map .int)
abbrev eF (p : Int × Int) : PyData := .tuple [.int p.1, .int p.2]
abbrev eR (b : Int) (ns : List Int) : PyData := .tuple [.int b, tI ns]
@[simp] theorem atI_zero {α : Type} (x : α) (l : List α) : atI (x :: l) 0 = some x := by simp [atI, ixN]
@[simp] theorem atI_one {α : Type} (x y : α) (l : List α) : atI (x :: y :: l) 1 = some y := by
  unfold atI ixN
  rw [if_pos (by decide), if_pos (by simp only [List.length_cons]; omega)]
  rfl
@[simp] theorem atI_two {α : Type} (x y z : α) (l : List α) : atI (x :: y :: z :: l) 2 = some z := by
  unfold atI ixN
  rw [if_pos (by decide), if_pos (by simp only [List.length_cons]; omega)]
  rfl
theorem atI_at {α : Type} {l : List α} {i : Nat} {x : α} (h : l[i]? = some x) : atI l (i : Int) = some x := by
  have hl : i < l.length := (List.getElem?_eq_some_iff.mp h).1
  unfold atI ixN
  rw [if_pos (by omega), if_pos (by omega)]
  simpa using h
@[simp] theorem intsD_m (ns : List Int) : intsD (ns.map PyData.int) = some ns := intsD_map ns
/-- of nesting up to n -/
def Shp (n : Nat) (d : PyData) : Prop := d.canLay0 = true ∧ d.depth ≤ n
def ShpAll (n : Nat) (ds : List PyData) : Prop := ∀ d ∈ ds, Shp n d
theorem Shp.mono {n m : Nat} {d : PyData} (h : Shp n d) (k : n ≤ m) : Shp m d := ⟨h.1, Nat.le_trans h.2 k⟩
mutual
theorem eqv_self : ∀ d : PyData, d.canLay0 = true → PyData.eqv d d = true
  | .none, _ => by rw [PyData.eqv]
  | .bool b, _ => by rw [PyData.eqv]; simp
  | .int i, _ => by rw [PyData.eqv]; simp
  | .str x, _ => by rw [PyData.eqv]; simp
  | .list xs, h => by
    rw [PyData.eqv]
    rw [PyData.canLay0] at h
    exact eqvAll_self xs h
  | .tuple xs, h => by
    rw [PyData.eqv]
    rw [PyData.canLay0] at h
    exact eqvAll_self xs h
  | .dict _, h => by rw [PyData.canLay0] at h; cases h
theorem eqvAll_self : ∀ ds : List PyData, PyData.canLayAll0 ds = true → PyData.eqvAll ds ds = true
  | [], _ => by rw [PyData.eqvAll]
  | d :: ds, h => by
    rw [PyData.canLayAll0, Bool.and_eq_true] at h
    rw [PyData.eqvAll, eqv_self d h.1, eqvAll_self ds h.2]
    rfl
end
end Dl
end
section
set_option Elab.async false
set_option linter.all false
set_option maxRecDepth 100000
set_option maxHeartbeats 1000000
/-! A new drawer, in a slot. -/
namespace Dl
open PySem PySem.Spec PyProof.Rows L2 HbE Evl RZ Gx
variable [LmV.LamTable]
/-- what makes a drawer promises: from a list of ints and a small place -/
def spHatD (K : PySem.W.Frag) : Sp := fun vs H Q _ => ∃ (a : Addr) (ns : List Int) (i : Nat), vs = [.ref a, .int i] ∧ SqL K H a (ns.map V.int) ∧ i ≤ 3 ∧
  ∀ p o, H p = none → Hat o → Q (.ref p) (upd H p o)
section
variable {K : PySem.W.Frag} {Ps : TX} {c : C0} {hs as : List Addr} {H H' : Hp} {σ : L2.St} {σd : Sd} {i : Nat} {p : Addr} {o : HO}
theorem ex_hat (f : Fr Ps c hs as H) (hp : H p = none) : Ex (msk (Mk c hs as) H) (msk (Mk c (p :: hs) as) (upd H p o)) := fun a u e => by
  obtain ⟨n, e1⟩ := msk_some.mp e
  have na : a ≠ p := fun z => by rw [z, hp] at e1; cases e1
  refine msk_some.mpr ⟨fun m => ?_, by rw [upd_ne na]; exact e1⟩
  rcases m with m | m | m
  · exact n (.inl m)
  · rcases List.mem_cons.mp m with z | z
    · exact na z
    · exact n (.inr (.inl z))
  · exact n (.inr (.inr m))
theorem Sts.newHat (S : Sts K Ps c hs as σ H σd) (hp : H p = none) (ho : Hat o) : Sts K Ps c (p :: hs) as (σ.set i (some (.ref p))) (upd H p o) (σd.set i (some .hat)) := by
  have f := S.fr
  have s : Step hs Ps H (upd H p o) := Step.of_ex (Ex.new hp)
  have s0 : Step c.hs0 Ps c.H0 (upd H p o) := f.st.trans (Step.of_ex (Ex.new hp))
  have e := ex_hat (o := o) f hp
  have c0 : c.H0 p = none := by
    cases q : c.H0 p with
    | none => rfl
    | some u => exact absurd hp (f.st.some f.wf0 (by rw [q]; simp))
  have neas : ∀ a ∈ as, a ≠ p := fun a ha z => by
    obtain ⟨_, ⟨_, q⟩, _⟩ := f.own a ha
    rw [z, hp] at q
    cases q
  have f' : Fr Ps c (p :: hs) as (upd H p o) := by
    refine ⟨f.wf0, s0, fun q hq => ?_, fun q hq => List.mem_cons_of_mem _ (f.sub q hq), fun a ha => ?_, f.bs.trans e⟩
    · rcases List.mem_cons.mp hq with rfl | hq
      · exact ⟨⟨o, upd_same, ho⟩, .inr c0⟩
      · obtain ⟨⟨u, e1, e2⟩, e3⟩ := f.hat q hq
        exact ⟨⟨u, by rw [upd_ne (fun z => by rw [z, hp] at e1; cases e1)]; exact e1, e2⟩, e3⟩
    · obtain ⟨h1, h2, h3, h4⟩ := f.own a ha
      refine ⟨h1, by rw [upd_ne (neas a ha)]; exact h2, fun z => ?_, h4⟩
      rcases List.mem_cons.mp z with z | z
      · exact neas a ha z
      · exact h3 z
  refine ⟨f', by simp [S.len], fun j w2 ej => ?_, fun j k ds es n e1 e2 => ?_, S.xo⟩
  · rcases set_get ej with ⟨rfl, rfl⟩ | ⟨n, ej⟩
    · exact ⟨_, set_has S.len ‹_›, p, rfl, List.mem_cons_self⟩
    · rw [List.getElem?_set_ne n]
      obtain ⟨v, q1, q2⟩ := S.slot j w2 ej
      refine ⟨v, q1, ?_⟩
      cases w2 with
      | dat d => exact dp_mono e q2
      | own es =>
        obtain ⟨a, us, rfl, ha, r1, r2⟩ := q2
        exact ⟨a, us, rfl, ha, by rw [upd_ne (neas a ha)]; exact r1, dpAll_mono e r2⟩
      | hat =>
        obtain ⟨q, rfl, hq⟩ := q2
        exact ⟨q, rfl, List.mem_cons_of_mem _ hq⟩
      | fn _ => exact q2
      | lam _ =>
        obtain ⟨f1, c1, rfl, g1, g2⟩ := q2
        exact ⟨f1, c1, rfl, e _ _ g1, e _ _ g2⟩
  · rcases set_get e1 with ⟨_, z⟩ | ⟨n1, e1'⟩
    · cases z
    · rcases set_get e2 with ⟨_, z⟩ | ⟨n2, e2'⟩
      · cases z
      · rw [List.getElem?_set_ne n1, List.getElem?_set_ne n2]
        exact S.dis j k ds es n e1' e2'
end
section
variable {X : Cx} {Ps : TX} {e a b : PySem.Expr} {es : List PySem.Expr} {pos pos' : Pos} {i : Nat} {x : Str}
def asInts : PyData → Option (List Int)
  | .list ds => intsD ds
  | _ => none
/-- x = hat(script, spot) -/
def dSetHat (i : Nat) (da : DA) : DS := fun D σ => da σ fun ws => match ws with
  | [.dat (.list ds), .dat (.int k)] => (intsD ds).isSome = true ∧ (0 ≤ k ∧ k ≤ 3) ∧ D.nx (σ.set i (some .hat))
  | _ => False
theorem psd_setHat {f : Addr} {fd : FuncData} {ps : List Str} {k : Nat} {da : DA} {y : Str} {p : Pos} (hN : X.N.Nodup) (hi : X.N[i]? = some x) (hx : Loc X.env.scope x)
    (F : FnOk X.prog X.w X.K X.mg X.base CX0 k f fd ps (spHatD X.K)) (hr : Room k X.A) (hg : Gl X y) (hm : X.mg y = some (.ref f)) (hk : PySem.W.keepIn X.K (.ref f) = true) (hb : Binds X.K fd ps []) (ha : PA X (e :: es) (liftA X.K Ps da))
    (hdb : (y == ("__debug__" : Str)) = false := by decide) (he : starEach (e :: es) X.env = (false, eval e X.env) :: starEach es X.env := by rfl) (hpl : (backTo pos (starEach es X.env)).any (·.1) = false := by rfl)
    (hs : swapsWith (.Call (.Name y p) (e :: es) [] pos) (some (.Name x pos')) pos.line X.env = pure false := by rfl) (hf : X.fn x = true ∨ X.env.scope.names.lookup x = some .local := by first | exact .inl rfl | exact .inr rfl | assumption) {spos : Pos} (hs2 : swapsWith (.Call (.Name y p) (e :: es) [] pos) (some (.Name x pos')) spos.line X.env = pure false := by rfl) :
    PS X (.Assign [.Name x pos'] (.Call (.Name y p) (e :: es) [] pos) spos) (liftS X.K Ps (dSetHat i da)) :=
  ps_weak (ps_set hN hi hx (pe_call F hr hg hm hk hb .nil pass0 ha hdb he hpl) hs2 hf) fun D σ H ⟨c, hs, as, σd, Dd, S, h, r⟩ => by
    refine ⟨c, hs, as, σd, _, S, h, fun ws vs H1 h1 s1 r1 => ?_⟩
    split at h1
    · rename_i ds n
      obtain ⟨h2, h3, h4⟩ := h1
      cases r1 with
      | cons q1 q2 =>
        cases q2 with
        | cons q2 q3 =>
          cases q3
          cases q2
          cases q1 with
          | lst l1 l2 =>
            obtain ⟨ns, hns⟩ := Option.isSome_iff_exists.mp h2
            have ev := intsD_dp l2 hns
            subst ev
            obtain ⟨m, rfl⟩ : ∃ m : Nat, n = m := ⟨n.toNat, by omega⟩
            exact ⟨_, ns, m, rfl, ex_l msk_ex l1, by omega, fun q o hq ho => r.nx _ as _ _ _ ((S.step s1).newHat hq ho) h4⟩
    · exact h1.elim
end
end Dl
end
section
set_option Elab.async false
set_option linter.all false
set_option maxRecDepth 100000
set_option maxHeartbeats 1000000
/-! Functions for what DlR reads: t[::-1], list(..), bool(..), list + list, in. -/
namespace Dl
open PySem PySem.Spec PyProof.Rows L2 HbE Evl RZ Gx
variable [LmV.LamTable]
section
variable {E : Xn → Prop} {fa fb : FE} {da db : DE} {fq fr : FQ} {dq dr : DQ}
@[simp] def fBack (fq : FQ) : FE := fun σ => (fq σ).bind fun p => .ok (if p.1 then .list p.2.reverse else .tuple p.2.reverse)
@[simp] def fListOf (fq : FQ) : FA := fun σ => (fq σ).bind fun p => .ok p.2
def gBool : List PyData → Option PyData
  | [.int i] => some (.bool (i != 0))
  | [.bool b] => some (.bool b)
  | _ => none
@[simp] theorem gBool_int (i : Int) : gBool [.int i] = some (.bool (i != 0)) := rfl
@[simp] theorem gBool_bool (b : Bool) : gBool [.bool b] = some (.bool b) := rfl
@[simp] def fCatL (fq fr : FQ) : FA := fun σ => (fq σ).bind fun p => (fr σ).bind fun q => if (p.1 && q.1 && lim (p.2.length + q.2.length)) = true then .ok (p.2 ++ q.2) else .no
theorem le_catL (h : LeQ (ofQ E fq) dq) (h' : LeQ (ofQ E fr) dr) : LeL (ofL E (fCatL fq fr)) (dCatL dq dr) := fun σ Q k => h σ _ (Sat.mono (Sat.bind k) fun p k => h' σ _ (Sat.mono (Sat.bind k) fun q k2 => by
  by_cases e : (p.1 && q.1 && lim (p.2.length + q.2.length)) = true
  · rw [if_pos e] at k2
    rw [Bool.and_eq_true, Bool.and_eq_true] at e
    exact ⟨e.1.1, e.1.2, Nat.le_of_ble_eq_true e.2, k2⟩
  · rw [if_neg e] at k2
    exact k2.elim))
@[simp] def fIn (neg : Bool) (fa : FE) (fq : FQ) : FE := fun σ => (fa σ).bind fun x => (fq σ).bind fun p => if ((flatD x && p.2.all flatD) || (p.1 && (SeqAt.shaped x && SeqAt.shaped (.list p.2)))) = true then .ok (.bool (inD neg x p.2)) else .no
section
variable {i j l : Nat} {aa : FA} {ad : DA} {la : FA} {dl : DL}
@[simp] def fPar3 (i j l : Nat) (aa : FA) : FS := fun σ => (aa σ).bind fun ds => match ds with
  | [d, d', d''] => .ok (.nx (((σ.set i (some (.dat d))).set j (some (.dat d'))).set l (some (.dat d''))))
  | _ => .no
@[simp] def fPar3N (i j l : Nat) (fa fb : FE) (la : FA) : FS := fun σ => (fa σ).bind fun x => (fb σ).bind fun y => (la σ).bind fun ds => .ok (.nx (((σ.set i (some (.dat x))).set j (some (.dat y))).set l (some (.own ds))))
@[simp] def fParN (i j : Nat) (fa : FE) (la : FA) : FS := fun σ => (fa σ).bind fun x => (la σ).bind fun ds => .ok (.nx ((σ.set i (some (.dat x))).set j (some (.own ds))))
theorem les_parN (h1 : LeE (ofE E fa) da) (h3 : LeL (ofL E la) dl) : LeS (ofS E (fParN i j fa la)) (dParN i j da dl) := fun D σ k => h1 σ _ (Sat.mono (Sat.bind k) fun x k => h3 σ _ (Sat.mono (Sat.bind k) fun ds k => k))
end
end
def gRepA : PyData → PyData → Option PyData := fun x y => match x, y with
  | .tuple ds, .int k => if (!ds.isEmpty && decide (1 ≤ k) && Nat.ble k.toNat 1000 && Nat.ble ds.length 1000) = true then some (.tuple (List.replicate k.toNat ds).flatten) else none
  | _, _ => none
@[simp] theorem gRepA_t (ds : List PyData) (k : Int) : gRepA (.tuple ds) (.int k) = if (!ds.isEmpty && decide (1 ≤ k) && Nat.ble k.toNat 1000 && Nat.ble ds.length 1000) = true then some (.tuple (List.replicate k.toNat ds).flatten) else none := rfl
theorem leop_repA : LeOp gRepA fRepA := fun x y d Q e q => by
  unfold gRepA at e
  split at e
  · split at e
    · rename_i h
      cases e
      simp only [Bool.and_eq_true, Bool.not_eq_true', decide_eq_true_eq] at h
      have b1 := Nat.le_of_ble_eq_true h.1.2
      have b2 := Nat.le_of_ble_eq_true h.2
      refine ⟨fun z => ?_, h.1.1.2, by omega, b2, q⟩
      rw [z] at h
      simp at h
    · cases e
  · cases e
end Dl
end
section
set_option Elab.async false
set_option linter.all false
set_option maxRecDepth 100000
set_option maxHeartbeats 1000000
/-! is None, is not None; bit_length -/
namespace Dl
open PySem PySem.Spec PyProof.Rows L2 HbE Evl RZ Gx
variable [LmV.LamTable]
section
variable {K : PySem.W.Frag} {Ps : TX}
def isN : PyData → Bool
  | .none => true
  | _ => false
theorem isN_dp {H : Hp} {v : V} {x : PyData} (h : Dp K H v x) : decide (v = .non) = isN x := by
  cases h <;> simp [isN]
def fIs (neg : Bool) : PyData → PyData → (PyData → Prop) → Prop := fun x y Q => match y with
  | .none => Q (.bool (if neg then !isN x else isN x))
  | _ => False
theorem op2_is : Op2 K Ps (fun x y H Q => y = .non ∧ Q (.bl (decide (x = .non))) H) (fIs false) := by
  intro M hs H v w x y Qd Q wf hx hy h k
  unfold fIs at h
  split at h
  · cases hy
    rw [isN_dp hx]
    exact ⟨rfl, k _ _ H h Step.refl (.bl _)⟩
  · exact h.elim
def gIs (neg : Bool) : PyData → PyData → Option PyData := fun x y => match y with
  | .none => some (.bool (if neg then !isN x else isN x))
  | _ => none
@[simp] theorem gIs_none (neg : Bool) (x : PyData) : gIs neg x .none = some (.bool (if neg then !isN x else isN x)) := rfl
theorem leop_is {neg : Bool} : LeOp (gIs neg) (fIs neg) := fun x y d Q e q => by
  cases y <;> first | (cases e; exact q) | cases e
end
section
variable {X : Cx} {Ps : TX} {e : PySem.Expr} {pos apos : Pos} {de : DE} {E : Xn → Prop} {fa : FE}
/-- e.bit_length() -/
def dBits (de : DE) : DE := fun σ Q => de σ fun x => match x with
  | .int i => Q (.int (Builtin.Int.intBits i : Nat))
  | _ => False
theorem pd_bits (ho : PE X e (lift X.K Ps de)) (hbase : attributeBase e "bit_length" X.env (eval e X.env) = eval e X.env := by rfl) (hline : (apos.endLine == pos.line) = true := by rfl) : PE X (.Call (.Attribute e "bit_length" apos) [] [] pos) (lift X.K Ps (dBits de)) :=
  pe_weak (pe_bits ho hbase hline) fun σ H Q ⟨c, hs, as, σd, Qd, S, hd, k⟩ => ⟨c, hs, as, σd, _, S, hd, fun d v H' q s r => by
    split at q
    · cases r
      exact ⟨_, rfl, k _ _ H' q s (.int _)⟩
    · exact q.elim⟩
@[simp] def fBits (fa : FE) : FE := fun σ => (fa σ).bind fun x => (asI x).bind fun i => .ok (.int (Builtin.Int.intBits i : Nat))
theorem le_bits (ha : LeE (ofE E fa) de) : LeE (ofE E (fBits fa)) (dBits de) := fun σ Q h => ha σ _ (Sat.mono (Sat.bind h) fun x h => by
  obtain ⟨i, rfl, h⟩ := Sat.asI (Sat.bind h)
  exact h)
end
end Dl
end
section
set_option Elab.async false
set_option linter.all false
set_option maxRecDepth 100000
set_option maxHeartbeats 1000000
/-! Exceptions that leave a def, over data. -/
namespace Dl
open PySem PySem.Spec PyProof.Rows L2 HbE Evl RZ Gx HbX
variable [LmV.LamTable]
/-- a def's promise, of which the exceptions that it may let out are part -/
def spX (K : PySem.W.Frag) (Ps : TbL) (SD : (Xn → Prop) → DSp) : Sp := fun vs H Q E => ∃ M hs ws Qd Ed, Wf Ps M hs H ∧ Paired (VR K M hs [] H) vs ws ∧ SD Ed ws Qd ∧ (∀ d v H', Qd d → Step hs Ps H H' → Dp K (msk M H') v d → Q v H') ∧
  ∀ x cls d H', Ed x → Step hs Ps H H' → XnAt K H' M cls d x → E cls d H'
section
variable {K : PySem.W.Frag} {Ps : TX} {c : C0} {hs as : List Addr} {H H' : Hp} {σ : L2.St} {σd : Sd} {cls : Value} {d : Option Addr} {x : Xn}
theorem xn_less (h : XnAt K H (Mk c hs as) cls d x) : XnAt K H c.M0 cls d x := by
  obtain ⟨C, h1, h2, h3⟩ := h
  refine ⟨C, h1, h2, fun f a e => ?_⟩
  obtain ⟨dd, v, e1, e2, e3⟩ := h3 f a e
  exact ⟨dd, v, e1, e2, less_mk e3⟩
theorem Sts.raise (S : Sts K Ps c hs as σ H σd) (s : Step hs Ps H H') (hx : Ps.Ed x) (hX : XnAt K H' (Mk c hs as) cls d x) : Ps.EE cls d H' := S.xo x cls d H' hx (S.ret s) (xn_less hX)
end
section
variable {X : Cx} {Ps : TX} {e : PySem.Expr} {es : List PySem.Expr} {pos : Pos}
theorem pd_callX {x : Str} {f : Addr} {fd : FuncData} {ps : List Str} {SD : (Xn → Prop) → DSp} {k : Nat} {da : DA} {p : Pos} (F : FnOk X.prog X.w X.K X.mg X.base (L2.CX X.prog X.w) k f fd ps (spX X.K Ps SD)) (tk : Takes X (fun cls d _ H => Ps.EE cls d H)) (hr : Room k X.A) (hg : Gl X x) (hm : X.mg x = some (.ref f))
    (hk : PySem.W.keepIn X.K (.ref f) = true) (hb : Binds X.K fd ps []) (ha : PA X (e :: es) (liftA X.K Ps da)) (hdb : (x == ("__debug__" : Str)) = false := by decide) (he : starEach (e :: es) X.env = (false, eval e X.env) :: starEach es X.env := by rfl)
    (hpl : (backTo pos (starEach es X.env)).any (·.1) = false := by rfl) : PE X (.Call (.Name x p) (e :: es) [] pos) (lift X.K Ps (dCall (SD Ps.Ed) da)) :=
  pe_weak (pe_call F hr hg hm hk hb .nil (E := Ps.EE) (passes_call tk fun _ _ _ _ h => h) ha hdb he hpl) fun σ H Q ⟨c, hs, as, σd, Qd, S, hd, k⟩ =>
    ⟨c, hs, as, σd, _, S, hd, fun ws vs H1 h1 s1 r1 => ⟨Mk c hs as, hs, ws, Qd, Ps.Ed, (S.step s1).fr.wf, by rw [List.append_nil]; exact r1, h1, fun d v H' h s r => k d v H' h (s1.trans s) r,
      fun x cls d H' h s r => S.raise (s1.trans s) h r⟩⟩
/-! ### raise -/
/-- an own error class without own __init__ -/
structure ClsP (K : PySem.W.Frag) (mg : Str → Option Value) (x : Str) (C : Addr) : Prop where
  g : mg x = some (.ref C)
  n : PySem.W.nsIn K mainGlobals x = some (some (.ref C))
  kC : PySem.W.keepIn K (.ref C) = true
  q : PySem.W.excIn K C [.type "ValueError", .type "Exception", .type "BaseException", .type "object"] "ValueError.__new__" = true
  exC : PySem.W.subIn K (.ref C) (.type "BaseException") = some true
  tyC : PySem.W.typeIn K (.ref C) = some (.type "type")
def dRaiseX (Ed : Xn → Prop) (x : Xn) : DS := fun _ _ => Ed x
theorem psd_raiseP {x : String} {m : Str} {C : Addr} {j : Nat} {p p2 pos rpos : Pos} (T : ClsP X.K X.mg x C) (tk : Takes X (fun cls d _ H => Ps.EE cls d H)) (hc : X.calm = true) (hg : Gl X x)
    (hdb : ((x : Str) == ("__debug__" : Str)) = false := by decide) : PS X (.Raise (some (.Call (.Name x p) [.Constant (.str m) j p2] [] pos)) none rpos) (liftS X.K Ps (dRaiseX Ps.Ed ⟨x, none⟩)) :=
  ps_weak (ps_raise hc tk (pmk_own F.excBase_ValueError T.q T.g T.kC (raises_own T.exC T.tyC) hg hdb)) fun D σ H ⟨c, hs, as, σd, Dd, S, h, r⟩ =>
    S.raise Step.refl h ⟨C, T.n, rfl, fun _ _ z => by cases z⟩
/-- an own error class whose __init__ keeps its argument -/
structure ClsI (P : Program) (w : World) (K : PySem.W.Frag) (mg : Str → Option Value) (base : Heap) (x : Str) (C : Addr) (f : Str) : Prop where
  g : mg x = some (.ref C)
  n : PySem.W.nsIn K mainGlobals x = some (some (.ref C))
  T : OexC K C
  ini : ∃ (fI : Addr) (fd : FuncData), PySem.W.findIn K (.ref C) "__init__" = some (some (.ref fI)) ∧ PySem.W.typeIn K (.ref fI) = some (.type "function") ∧ FnOk P w K mg base L2.CX0 1 fI fd ["self", f] (spInit K C f) ∧ Binds K fd ["self", f] []
def dRaiseI (Ed : Xn → Prop) (x f : String) (de : DE) : DS := fun _ σ => de σ fun a => Ed ⟨x, some (f, a)⟩
theorem psd_raiseI {x f : String} {C : Addr} {de : DE} {k : Nat} {p pos rpos : Pos} (T : ClsI X.prog X.w X.K X.mg X.base x C f) (tk : Takes X (fun cls d _ H => Ps.EE cls d H)) (hr : Room k X.A) (hk : 2 ≤ k) (hc : X.calm = true) (hg : Gl X x) (ha : PE X e (lift X.K Ps de))
    (hdb : ((x : Str) == ("__debug__" : Str)) = false := by decide) (he : starEach [e] X.env = (false, eval e X.env) :: starEach [] X.env := by rfl) :
    PS X (.Raise (some (.Call (.Name x p) [e] [] pos)) none rpos) (liftS X.K Ps (dRaiseI Ps.Ed x f de)) := by
  obtain ⟨fI, fd, iC, tI, F1, hb⟩ := T.ini
  refine ps_weak (ps_raise hc tk (pmk_oex T.T iC tI F1 (hr.mono hk) hb .nil (fun _ _ _ _ _ _ _ h => h.elim) hg T.g (pa_cons ha pa_nil he) hdb he (by rfl))) fun D σ H ⟨c, hs, as, σd, Dd, S, h, r⟩ => ?_
  refine ⟨c, hs, as, σd, _, S, h, fun a v H1 h1 s1 r1 => ⟨by simp, fun q hq => ⟨q, v, rfl, upd_same, fun dd hd => ?_⟩⟩⟩
  have ndq : dd ≠ q := fun z => by rw [z, upd_same] at hd; cases hd
  have hd1 : H1 dd = none := by rw [upd_ne ndq] at hd; exact hd
  refine ⟨rfl, dd, _, upd_same, by rw [upd_ne ndq, upd_same], hd1, ?_⟩
  have eH : upd (L2.del (upd (upd (upd H1 q (exo q C none)) dd (exd dd [((f : Str), v)])) q (exo q C (some dd))) q) dd (.xd [((f : Str), v)]) = upd H1 dd (.xd [((f : Str), v)]) := by
    funext b
    by_cases b1 : b = dd
    · rw [b1, upd_same, upd_same]
    · rw [upd_ne b1, upd_ne b1]
      by_cases b2 : b = q
      · rw [b2, del_same, hq]
      · rw [del_ne b2, upd_ne b2, upd_ne b1, upd_ne b2]
  rw [eH]
  have s2 : Step hs Ps H1 (upd H1 dd (.xd [((f : Str), v)])) := Step.of_ex (Ex.new hd1)
  refine S.raise (s1.trans s2) h1 ⟨C, T.n, rfl, fun f' a' z => ?_⟩
  cases z
  exact ⟨dd, v, rfl, upd_same, dp_mono ((S.step s1).fr.wf.ex s2) r1⟩
end
/-! ### a def's promise -/
section
variable {P : Program} {w : World} {K : PySem.W.Frag} {mg : Str → Option Value} {base : Heap} {Ps : TbL}
theorem okX {x qual : Str} {st : Stmt} {f : Addr} {fd : FuncData} {N ps : List Str} {k : Nat} {SD : (Xn → Prop) → DSp} (F : L2.Fun K x qual st f fd) (S : FnScope N ps (L2.defScope st)) (len : ∀ Ed ws Q, SD Ed ws Q → ws.length = ps.length)
    (body : ∀ (cdv : Value) (A : Around) (outer : List Env) (s : Shared) (H : Hp) (E : XK) (Ed : Xn → Prop), Room k (A.deeper (envOfC qual (L2.defScope st) s.heap.objs.size f cdv)) → Takes (cxOf (L2.CX P w) P w K mg base N qual (L2.defScope st) f cdv A outer s H E) (fun cls d _ H => E cls d H) →
      PassesOwn (model P w) (cxOf (L2.CX P w) P w K mg base N qual (L2.defScope st) f cdv A outer s H E).A (cxOf (L2.CX P w) P w K mg base N qual (L2.defScope st) f cdv A outer s H E).env (cxOf (L2.CX P w) P w K mg base N qual (L2.defScope st) f cdv A outer s H E).xe →
      ∃ db, PSs (cxOf (L2.CX P w) P w K mg base N qual (L2.defScope st) f cdv A outer s H E) (L2.defBody st) (liftS K ⟨Ps, Ed, E⟩ db) ∧ ∀ ws Qd, SD Ed ws Qd → db { nx := fun _ => Qd .none, rt := Qd } (startD N.length ws)) :
    FnOk P w K mg base (L2.CX P w) (k + 1) f fd ps (spX K Ps SD) := by
  obtain ⟨oc, od, kV, doc, pm, an, cdv, ct, osl, rfl, lk, hcd⟩ := F.ex
  refine fn_of lk hcd S (fun vs H Q E h => ?_) fun A outer s H vs Q E hr h => ?_
  · obtain ⟨M, hs, ws, Qd, Ed, wf, p, sd, _⟩ := h
    rw [paired_len p]
    exact len Ed ws Qd sd
  · obtain ⟨M, hs, ws, Qd, Ed, wf, p, sd, k1, k2⟩ := h
    obtain ⟨db, h1, h2⟩ := body cdv A outer s H E Ed hr (takes_of rfl rfl rfl rfl) (passes_of rfl)
    refine ⟨_, h1, ⟨hs, M, H, msk M H⟩, hs, [], _, _, sts_start N rfl wf p (fun x cls d H' a b c => k2 x cls d H' a b c), h2 ws Qd sd, fun hs' as' σ' H' σd' T h => ?_, fun v H' d s q h => k1 d v H' h s q, fun _ _ _ _ _ _ h => h.elim, fun _ _ _ _ _ _ h => h.elim⟩
    exact k1 .none .non H' h T.fr.st .non
theorem okXC {x qual : Str} {st : Stmt} {c f : Addr} {fd : FuncData} {N ps : List Str} {k : Nat} {SD : (Xn → Prop) → DSp} (F : FunC K x qual st c f fd) (S : FnScope N ps (L2.defScope st)) (len : ∀ Ed ws Q, SD Ed ws Q → ws.length = ps.length)
    (body : ∀ (A : Around) (outer : List Env) (s : Shared) (H : Hp) (E : XK) (Ed : Xn → Prop), Room k (A.deeper (envOfC qual (L2.defScope st) s.heap.objs.size f (.ref c))) → Takes (cxOf (L2.CX P w) P w K mg base N qual (L2.defScope st) f (.ref c) A outer s H E) (fun cls d _ H => E cls d H) →
      PassesOwn (model P w) (cxOf (L2.CX P w) P w K mg base N qual (L2.defScope st) f (.ref c) A outer s H E).A (cxOf (L2.CX P w) P w K mg base N qual (L2.defScope st) f (.ref c) A outer s H E).env (cxOf (L2.CX P w) P w K mg base N qual (L2.defScope st) f (.ref c) A outer s H E).xe →
      ∃ db, PSs (cxOf (L2.CX P w) P w K mg base N qual (L2.defScope st) f (.ref c) A outer s H E) (L2.defBody st) (liftS K ⟨Ps, Ed, E⟩ db) ∧ ∀ ws Qd, SD Ed ws Qd → db { nx := fun _ => Qd .none, rt := Qd } (startD N.length ws)) :
    FnOk P w K mg base (L2.CX P w) (k + 1) f fd ps (spX K Ps SD) := by
  obtain ⟨oc, od, kV, doc, pm, an, ct, osl, rfl, lk, hcd⟩ := F.ex
  refine fn_of lk hcd S (fun vs H Q E h => ?_) fun A outer s H vs Q E hr h => ?_
  · obtain ⟨M, hs, ws, Qd, Ed, wf, p, sd, _⟩ := h
    rw [paired_len p]
    exact len Ed ws Qd sd
  · obtain ⟨M, hs, ws, Qd, Ed, wf, p, sd, k1, k2⟩ := h
    obtain ⟨db, h1, h2⟩ := body A outer s H E Ed hr (takes_of rfl rfl rfl rfl) (passes_of rfl)
    refine ⟨_, h1, ⟨hs, M, H, msk M H⟩, hs, [], _, _, sts_start N rfl wf p (fun x cls d H' a b c => k2 x cls d H' a b c), h2 ws Qd sd, fun hs' as' σ' H' σd' T h => ?_, fun v H' d s q h => k1 d v H' h s q, fun _ _ _ _ _ _ h => h.elim, fun _ _ _ _ _ _ h => h.elim⟩
    exact k1 .none .non H' h T.fr.st .non
/-- where it raises nothing -/
theorem fnX0 {f : Addr} {fd : FuncData} {ps : List Str} {k : Nat} {SD : (Xn → Prop) → DSp} (F : FnOk P w K mg base (L2.CX P w) k f fd ps (spX K Ps SD)) : FnOk P w K mg base L2.CX0 k f fd ps (spOf K Ps (SD fun _ => False)) := by
  have up : ∀ {vs H Q} {E : XK}, spOf K Ps (SD fun _ => False) vs H Q E → spX K Ps SD vs H Q fun _ _ _ => False := fun ⟨M, hs, ws, Qd, wf, p, sd, k⟩ => ⟨M, hs, ws, Qd, _, wf, p, sd, k, fun _ _ _ _ z => z.elim⟩
  refine ⟨fun vs H Q E h => F.len _ _ _ _ (up h), fun A outer s H args us vs Q E hr e0 hb r h => codeAny_mono (F.run A outer s H args us vs Q _ hr e0 hb r (up h)) fun r s' q => ?_⟩
  cases r with
  | error e =>
    obtain ⟨_, _, _, _, _, _, _, _, _, _, _, _, z⟩ := (show L2.CX P w outer H s _ e s' from q)
    exact z.elim
  | ok fl => cases fl <;> exact q
end
end Dl
end
section
set_option Elab.async false
set_option linter.all false
set_option maxRecDepth 100000
set_option maxHeartbeats 2000000
/-! A lambda without parameters, made over a table and handed to a def that calls it. -/
namespace Dl
open PySem PySem.Spec PyProof.Rows L2 HbE Evl RZ Gx HbX LamX
variable [LmV.LamTable]
section
variable {X : Cx} {pins : List (Addr × Obj)} {σ : L2.St} {H : Hp} {s : Shared}
theorem fresh_frame (I : Inv X pins σ H s) {f : Addr} (h : s.heap.objs.size ≤ f) : f ∉ frs X.stack := fun m => by
  rcases List.mem_cons.mp (I.stkSub _ m) with e | e
  · exact absurd (Nat.lt_of_lt_of_le I.lt (e ▸ h)) (Nat.lt_irrefl _)
  · exact I.nofs h e
/-- all but the table at P is kept -/
def Kept1 (P : Addr) (H H' : Hp) : Prop := ∀ b o, H b = some o → b ≠ P → H' b = some o
theorem lam_mk {c P : Addr} {params : Arguments} {body : PySem.Expr} {scope : Scope} {pos : Pos} {E : Value → Shared → Prop} {Q : Value → Shared → Prop} (I : Inv X pins σ H s) (TB : LamX.TabB X.base X.mg c P) (hcode : X.env.code = .ref c) (hT : LamX.TabS H P (X.env.qual ++ "<lambda>")) (hdef : defaultsOf params X.env = ([], []))
    (free : ∀ y ∈ scope.names, y.2 = .free → ∃ c, X.env.cells.lookup y.1 = some c)
    (h : ∀ (f c' : Addr) (pm ctv : Value) (H1 : Hp) (s1 : Shared), Inv X pins σ H1 s1 → Kept1 P H H1 → LamX.TabS H1 P (X.env.qual ++ "<lambda>") → s1.heap.get? f = some (PySem.W.kla_obj "<lambda>" (X.env.qual ++ "<lambda>") params body scope (cloFrom X.env.cells scope.names []) pm c' ctv) → H1 f = none → f ∉ frs X.stack →
      H1 c' = some (LamX.CodeO c' (X.env.qual ++ "<lambda>")) → Q (.ref f) s1) : wpAny (model X.prog X.w) X.A (eval (.Lambda params body scope pos) X.env) Q E s := by
  obtain ⟨ps, tP, tr, found⟩ := hT
  have oP : s.heap.get? P = some { cls := .none, data := .fields ps } := I.hok P _ tP
  refine PySem.W.kla_eval hdef ?_
  rcases hc : codeAmong pos ps.toList with _ | cv
  · refine PySem.W.kla_makeFunction (mg := X.mg) (c := c) (P := P) (ps := ps) (closure_ok free) I.ok.glob (I.mod.glob.keeps I.bk) hcode (TB.code.keeps I.bk) oP tr hc TB.gP (TB.bm.keeps I.bk) fun k ctv g tk ext lo hi rec tab => ?_
    obtain ⟨k2, oc, vs, t, ek, r1, r2, r3⟩ := rec
    cases ek
    have nk : H k = none := I.hok.fresh lo
    have J := inv_table (t' := tk) (more := #[rawInt pos.line, rawInt pos.col, .ref k]) (h' := g.push (PySem.W.kla_obj "<lambda>" (X.env.qual ++ "<lambda>") params body scope (cloFrom X.env.cells scope.names []) ((X.mg "__name__").getD .none) k ctv)) I tP
      (fun b o nb e => Heap.get?_push_of_some _ (ext b o nb e)) (Heap.get?_push_of_some _ tab) lo ⟨oc, vs, t, Heap.get?_push_of_some _ r1, r2, r3⟩
    have big : s.heap.objs.size ≤ g.objs.size := Nat.le_of_lt (Nat.lt_of_le_of_lt lo hi)
    have kk : Kept1 P H (upd (upd H P (.tbl (ps ++ #[rawInt pos.line, rawInt pos.col, .ref k]))) k (LamX.CodeO k (X.env.qual ++ "<lambda>"))) := fun b o e nb => by rw [upd_ne (ne_of_none e nk), upd_ne nb]; exact e
    have kc : ∀ d q, H d = some (LamX.CodeO d q) → upd (upd H P (.tbl (ps ++ #[rawInt pos.line, rawInt pos.col, .ref k]))) k (LamX.CodeO k (X.env.qual ++ "<lambda>")) d = some (LamX.CodeO d q) := fun d q e => kk d _ e fun z => LamX.codeO_ne ps (Option.some.inj ((z ▸ e).symm.trans tP))
    refine h g.objs.size k ((X.mg "__name__").getD .none) ctv _ _ J kk ⟨_, by rw [upd_ne (ne_of_none tP nk), upd_same], ?_, fun p2 cv hcv => ?_⟩ (Heap.get?_push_size _ rfl) ?_ (fresh_frame I big) upd_same
    · have eL : (ps ++ #[rawInt pos.line, rawInt pos.col, .ref k]).toList = ps.toList ++ [rawInt pos.line, rawInt pos.col, .ref k] := by simp
      rw [eL]
      exact PySem.TriplesOk_snoc _ _ _ _ tr
    · have eL : (ps ++ #[rawInt pos.line, rawInt pos.col, .ref k]).toList = ps.toList ++ [rawInt pos.line, rawInt pos.col, .ref k] := by simp
      rw [eL] at hcv
      rcases among_app _ tr hcv with z | z
      · obtain ⟨d, d1, d2⟩ := found p2 cv z
        exact ⟨d, d1, kc _ _ d2⟩
      · exact ⟨k, z, upd_same⟩
    · rw [upd_ne (Nat.ne_of_gt hi), upd_ne (Nat.ne_of_gt (Nat.lt_of_lt_of_le (Heap.lt_size oP) big))]
      exact I.hok.fresh big
  · obtain ⟨k, rfl, ko⟩ := found pos cv hc
    refine PySem.W.kla_makeFunctionHit (mg := X.mg) (c := c) (P := P) (ps := ps) (closure_ok free) I.ok.glob (I.mod.glob.keeps I.bk) hcode (TB.code.keeps I.bk) oP tr hc (TB.bm.keeps I.bk) fun ctv g tk keep big => ?_
    have J : Inv X pins σ H { s with heap := g.push (PySem.W.kla_obj "<lambda>" (X.env.qual ++ "<lambda>") params body scope (cloFrom X.env.cells scope.names []) ((X.mg "__name__").getD .none) k ctv), toks := tk } := I.kept fun b o e => Heap.get?_push_of_some _ (keep b o e)
    exact h g.objs.size k ((X.mg "__name__").getD .none) ctv H _ J (fun _ _ e _ => e) ⟨ps, tP, tr, found⟩ (Heap.get?_push_size _ rfl) (I.hok.fresh big) (fresh_frame I big) ko
end
/-- the caller's step, when a lambda has been made -/
theorem step_lam {hs : List Addr} {Ps : TbL} {P : Addr} {q : Str} {H H1 : Hp} {M : Addr → Prop} (w : Wf Ps M hs H) (hP : (P, some q) ∈ Ps) (k : Kept1 P H H1) (t : LamX.TabS H1 P q) : Step hs Ps H H1 := by
  obtain ⟨ps, tP⟩ := w.tbl (ad_of hP)
  have tP : H P = some (.tbl ps) := tP
  refine ⟨fun a o e _ n => k a o e fun z => n (z ▸ ad_of hP), fun p hp ⟨o, e1, e2⟩ => ⟨o, k p o e1 fun z => ?_, e2⟩, fun p hp t0 => ?_⟩
  · obtain ⟨_, _, _, rfl⟩ := e2
    rw [z, tP] at e1
    cases e1
  · by_cases z : p.1 = P
    · cases w.one _ hp _ hP z
      exact t
    · obtain ⟨ps2, t2⟩ := t0.has
      exact t0.keep ((k _ _ t2 z).trans t2.symm) fun d q e => k d _ e fun y => LamX.codeO_ne ps (Option.some.inj ((y ▸ e).symm.trans tP))
end Dl
end
section
set_option Elab.async false
set_option linter.all false
set_option maxRecDepth 100000
set_option maxHeartbeats 1000000
/-! A def that tells which error a lambda meets. -/
namespace Dl
open PySem PySem.Spec PyProof.Rows L2 HbE Evl RZ Gx HbX LamX
variable [LmV.LamTable]
/-- what a clause returns: a word, alone or in a pair, of what the exception keeps or not -/
structure Hout where
  wrap : Option String
  pre : String
  fld : Option (String × Nat)
def Hout.val (o : Hout) (s : Str) : PyData := match o.wrap with
  | none => .str s
  | some m => .tuple [.str m, .str s]
def shows (d : PyData) : Bool := !d.hasDict && d.showable && Nat.ble d.depth 60 && Nat.ble d.shown.length 100000
def Hout.out (o : Hout) (a : Option (String × PyData)) : Option PyData := match o.fld with
  | none => some (o.val o.pre)
  | some (f, _) => match a with
    | some (f', d) => if (f == f' && shows d) = true then some (o.val ((o.pre : Str) ++ d.shown)) else none
    | none => none
abbrev Hds := List (String × Hout)
def Wm : Hds → Xn → Option PyData
  | [], _ => none
  | (n, o) :: r, x => if n = x.cls then o.out x.arg else Wm r x
/-- where a class stands -/
def caK (K : PySem.W.Frag) (n : Str) : Addr := match PySem.W.nsIn K mainGlobals n with
  | some (some (.ref C)) => C
  | _ => 0
theorem caK_of {K : PySem.W.Frag} {n : Str} {C : Addr} (h : PySem.W.nsIn K mainGlobals n = some (some (.ref C))) : caK K n = C := by
  unfold caK
  rw [h]
/-- the suites' readings -/
def tsWord (w : Option String) (s : Str) : TS := fun D _ H => match w with
  | none => D.rt (.str s) H
  | some m => ∀ p, H p = none → D.rt (.ref p) (upd H p (.tup [.str m, .str s]))
def tsFld (K : PySem.W.Frag) (w : Option String) (pre : Str) (f : Str) (i : Nat) (C : Addr) (a : Addr) (cls : Value) (d : Option Addr) : TS := fun D σ H => σ[i]? = some (some (.ref a)) ∧ cls = .ref C ∧
  ∃ (dd : Addr) (v : V) (e : PyData), d = some dd ∧ H dd = some (.xd [(f, v)]) ∧ L2.Dp K H v e ∧ e.showable = true ∧ e.depth ≤ 60 ∧ e.shown.length ≤ 100000 ∧ tsWord w (pre ++ e.shown) D σ H
def mkC (K : PySem.W.Frag) (h : String × Hout) : Cls3 := match h.2.fld with
  | none => (.ref (caK K h.1), none, fun _ _ _ => tsWord h.2.wrap h.2.pre)
  | some (f, i) => (.ref (caK K h.1), some i, tsFld K h.2.wrap h.2.pre f i (caK K h.1))
section
variable {X : Cx} {a : Addr} {oe : Obj} {cls : Value} {d : Option Addr} {pn : List (Addr × Obj)}
theorem len2 (x y : V) : [x, y].length ≤ sizeLine := by rw [sizeLine_eq]; exact (by decide : 2 ≤ 16777216)
theorem su_pair {m : String} {s : Str} {k1 j1 j2 : Nat} {p1 p2 p3 p4 : Pos} : PSs X [.Return (some (.Tuple [.Constant (.str m) j1 p1, .Constant (.str s) j2 p2] k1 p3)) p4] (tsWord (some m) s) :=
  pss_weak (pss_one (ps_ret (pe_tup (pa_cons pe_str (pa_cons pe_str pa_nil))))) fun _ _ _ h => ⟨len2 _ _, h⟩
variable {n f : Str} {i : Nat} {C : Addr} {pre : Str} {j : Nat} {p1 p2 p3 p4 p5 p6 p7 p8 p9 : Pos}
/-- pre + repr(error.f) -/
theorem pe_fld (T : XfC X.K C) (hno : PySem.W.findIn X.K (.ref C) f = some none) (hz : Zc cls d oe) (hf : ∃ vs, oe.data = .fields vs) (hg : Gl (X.suite a ((a, oe) :: pn)) "repr") (hm : X.mg "repr" = none) (hv : PE (X.suite a ((a, oe) :: pn)) (.Name n p3) (tVar i)) (gd : X.A.guards = some []) (hu : X.A.units + 64 < cLine)
    (hb : attributeBase (.Name n p3) f (X.suite a ((a, oe) :: pn)).env (eval (.Name n p3) (X.suite a ((a, oe) :: pn)).env) = eval (.Name n p3) (X.suite a ((a, oe) :: pn)).env := by rfl) (hpre : pre.length ≤ 1000) :
    PE (X.suite a ((a, oe) :: pn)) (.BinOp (.Constant (.str pre) j p1) .Add (.Call (.Name "repr" p2) [.Attribute (.Name n p3) f p4] [] p5) p6)
      (fun σ H Q => σ[i]? = some (some (.ref a)) ∧ cls = .ref C ∧ ∃ (dd : Addr) (v : V) (e : PyData), d = some dd ∧ H dd = some (.xd [(f, v)]) ∧ L2.Dp X.K H v e ∧ e.showable = true ∧ e.depth ≤ 60 ∧ e.shown.length ≤ 100000 ∧ Q (.str (pre ++ e.shown)) H) :=
  pe_weak (pe_op op_addA pe_str (pe_callB (call_reprD gd hu) hg hm (by decide +kernel) (pa_cons (pe_xf T hno hz hf hv hb) pa_nil))) fun σ H Q ⟨h1, h2, dd, v, e, h3, h4, h5, h6, h7, h8, q⟩ => by
    refine ⟨_, h1, rfl, h2, dd, _, v, h3, h4, by simp [List.lookup], v, e, rfl, .of h5, h6, h7, Nat.le_trans h8 (by decide), ?_⟩
    exact ⟨by rw [sizeLine_eq]; omega, q⟩
theorem su_fldP {m : String} {k1 j1 : Nat} (h : PE (X.suite a ((a, oe) :: pn)) (.BinOp (.Constant (.str pre) j p1) .Add (.Call (.Name "repr" p2) [.Attribute (.Name n p3) f p4] [] p5) p6)
      (fun σ H Q => σ[i]? = some (some (.ref a)) ∧ cls = .ref C ∧ ∃ (dd : Addr) (v : V) (e : PyData), d = some dd ∧ H dd = some (.xd [(f, v)]) ∧ L2.Dp X.K H v e ∧ e.showable = true ∧ e.depth ≤ 60 ∧ e.shown.length ≤ 100000 ∧ Q (.str (pre ++ e.shown)) H))
    (hst : starEach [.BinOp (.Constant (.str pre) j p1) .Add (.Call (.Name "repr" p2) [.Attribute (.Name n p3) f p4] [] p5) p6] (X.suite a ((a, oe) :: pn)).env = (false, eval (.BinOp (.Constant (.str pre) j p1) .Add (.Call (.Name "repr" p2) [.Attribute (.Name n p3) f p4] [] p5) p6) (X.suite a ((a, oe) :: pn)).env) :: starEach [] (X.suite a ((a, oe) :: pn)).env := by rfl) :
    PSs (X.suite a ((a, oe) :: pn)) [.Return (some (.Tuple [.Constant (.str m) j1 p8, .BinOp (.Constant (.str pre) j p1) .Add (.Call (.Name "repr" p2) [.Attribute (.Name n p3) f p4] [] p5) p6] k1 p9)) p7] (tsFld X.K (some m) pre f i C a cls d) :=
  pss_weak (pss_one (ps_ret (pe_tup (pa_cons pe_str (pa_cons h pa_nil hst))))) fun _ _ _ ⟨h1, h2, dd, v, e, h3, h4, h5, h6, h7, h8, q⟩ => ⟨h1, h2, dd, v, e, h3, h4, h5, h6, h7, h8, len2 _ _, q⟩
end
end Dl
namespace Dl
open PySem PySem.Spec PyProof.Rows L2 HbE Evl RZ Gx HbX LamX
variable [LmV.LamTable]
/-- what is returned may be any value of this datum -/
def RetOk (K : PySem.W.Frag) (Ps : TbL) (M : Addr → Prop) (hs : List Addr) (H : Hp) (Q : VK) (d : PyData) : Prop := ∀ v H', Step hs Ps H H' → Dp K (msk M H') v d → Q v H'
theorem word_ok {K : PySem.W.Frag} {Ps : TbL} {M : Addr → Prop} {hs : List Addr} {H : Hp} {D : Ends} {σ : L2.St} {o : Hout} {s : Str} (wf : Wf Ps M hs H) (r : RetOk K Ps M hs H D.rt (o.val s)) : tsWord o.wrap s D σ H := by
  obtain ⟨w, pre, fld⟩ := o
  cases w with
  | none => exact r _ H Step.refl (.str _)
  | some m => exact fun p hp => r _ _ (Step.of_ex (Ex.new hp)) (dp_newT wf hp (.cons (.str _) (.cons (.str _) .nil)))
theorem mix_of {K : PySem.W.Frag} {Ps : TbL} {M : Addr → Prop} {hs : List Addr} {H : Hp} {D : Ends} {W : WX} {σ : L2.St} {cls : Value} {d : Option Addr} {x : Xn} {dd : PyData} (wf : Wf Ps M hs H) (hX : XnAt K H M cls d x) (r : RetOk K Ps M hs H D.rt dd) : ∀ (hl : Hds),
    (∀ h ∈ hl, PySem.W.exmOne K (.ref (caK K x.cls)) (.ref (caK K h.1)) = some (decide (x.cls = h.1))) → (∀ h ∈ hl, ∀ f i, h.2.fld = some (f, i) → i < σ.length) → Wm hl x = some dd → wMix K W D (hl.map (mkC K)) cls d σ H
  | [], _, _, h => by cases h
  | (n, o) :: hl, he, hf, h => by
    obtain ⟨C, n1, rfl, n3⟩ := id hX
    have eC : caK K x.cls = C := caK_of n1
    have e1 := he _ List.mem_cons_self
    have f1 := hf _ List.mem_cons_self
    have q1 : (mkC K (n, o)).1 = .ref (caK K n) := by unfold mkC; split <;> rfl
    refine ⟨decide (x.cls = n), by rw [q1, ← eC]; exact e1, fun hb a na => ?_, fun hb => mix_of wf hX r hl (fun h m => he h (List.mem_cons_of_mem _ m)) (fun h m => hf h (List.mem_cons_of_mem _ m)) ?_⟩
    · have hn : n = x.cls := (of_decide_eq_true hb).symm
      unfold Wm at h
      rw [if_pos hn] at h
      obtain ⟨w, pre, fld⟩ := o
      cases fld with
      | none =>
        cases h
        exact word_ok (σ := σ) (o := ⟨w, pre, none⟩) wf r
      | some fi =>
        obtain ⟨f, i⟩ := fi
        have hi := f1 f i rfl
        unfold Hout.out at h
        dsimp only at h
        split at h
        · rename_i f' e ea
          split at h
          · rename_i hc
            cases h
            rw [Bool.and_eq_true] at hc
            obtain ⟨hc1, hc2⟩ := hc
            have ef : f = f' := eq_of_beq hc1
            subst ef
            obtain ⟨d0, v, e2, e3, e4⟩ := n3 f e ea
            unfold shows at hc2
            simp only [Bool.and_eq_true, Bool.not_eq_true'] at hc2
            refine ⟨?_, by rw [hn, eC], d0, v, e, e2, e3, (dp_mono msk_ex e4).old hc2.1.1.1, hc2.1.1.2, Nat.le_of_ble_eq_true hc2.1.2, Nat.le_of_ble_eq_true hc2.2, ?_⟩
            · rw [List.getElem?_set_self hi]
            · exact word_ok (o := ⟨w, pre, some (f, i)⟩) (D := clr i D) wf r
          · cases h
        · cases h
    · have hn : ¬ n = x.cls := fun z => (of_decide_eq_false hb) z.symm
      unfold Wm at h
      rwa [if_neg hn] at h
theorem takes_len {X : Cx} {W : WX} (t : Takes X W) : Takes X (fun c d σ H => σ.length = X.N.length → W c d σ H) := fun u s' ⟨a, B, sI, pins, σ, H, cls, d, e, I, nb, up, sky, na, os, ag, w⟩ =>
  t u s' ⟨a, B, sI, pins, σ, H, cls, d, e, I, nb, up, sky, na, os, ag, w I.len⟩
/-- what a def that tells the error of a lambda promises -/
def MetG (P : Program) (w : World) (K : PySem.W.Frag) (mg : Str → Option Value) (base : Heap) (Ng : List Str) (x : Str) (sg : Scope) (g : Addr) (cdg : Value) (bg : List Stmt) (a : Str) (hl : Hds) (fine : PyData) : Prop :=
  ∀ (A : Around) (stack : List Env) (f c' : Addr) (q : Str) (s : Shared) (H : Hp) (Q : VK) (tl : XK → Hp → VK → Prop) (k : Nat), (A.deeper (envOfC x sg s.heap.objs.size g cdg)).guards = some [] → Room k (A.deeper (envOfC x sg s.heap.objs.size g cdg)) →
    (∀ (W : WX) (pn : List (Addr × Obj)) (xe : Value → Shared → Prop) (E : XK) (p1 p2 : Pos), Takes ((cxOf L2.CX0 P w K mg base Ng x sg g cdg A stack s H L2.E0).tr pn xe) W → (∀ cls d σ' H', E cls d H' → W cls d σ' H') →
      PE ((cxOf L2.CX0 P w K mg base Ng x sg g cdg A stack s H L2.E0).tr pn xe) (.Call (.Name a p1) [] [] p2) (fun σZ HZ Q => σZ[0]? = some (some (.ref f)) ∧ HZ c' = some (LamX.CodeO c' q) ∧ tl E HZ Q)) →
    H c' = some (LamX.CodeO c' q) →
    (∃ (Ps : TbL) (M : Addr → Prop) (hs : List Addr), ∀ (Ech : XK) (Qf : VK), (∀ v H', Wf Ps M hs H' → RetOk K Ps M hs H' Q fine → Qf v H') → (∀ cls d H' x dd, Wf Ps M hs H' → XnAt K H' M cls d x → Wm hl x = some dd → RetOk K Ps M hs H' Q dd → Ech cls d H') → tl Ech H Qf) →
    ∃ t, PSs (cxOf L2.CX0 P w K mg base Ng x sg g cdg A stack s H L2.E0).nox bg t ∧ t { nx := fun _ H' => Q .non H', rt := Q } (L2.start Ng [.ref f]) H
/-- the clauses' classes tell one another apart -/
def exB (K : PySem.W.Frag) (hl : Hds) : Bool := hl.all fun m => hl.all fun h => PySem.W.exmOne K (.ref (caK K m.1)) (.ref (caK K h.1)) == some (decide (m.1 = h.1))
theorem wm_mem : ∀ {hl : Hds} {x : Xn} {d : PyData}, Wm hl x = some d → ∃ m ∈ hl, m.1 = x.cls
  | [], _, _, h => by cases h
  | (n, o) :: r, x, d, h => by
    by_cases e : n = x.cls
    · exact ⟨_, List.mem_cons_self, e⟩
    · unfold Wm at h
      rw [if_neg e] at h
      obtain ⟨m, h1, h2⟩ := wm_mem h
      exact ⟨m, List.mem_cons_of_mem _ h1, h2⟩
theorem met_mk {P : Program} {w : World} {K : PySem.W.Frag} {mg : Str → Option Value} {base : Heap} {Ng : List Str} {x : Str} {sg : Scope} {g : Addr} {cdg : Value} {a : Str} {hl : Hds} {wr : Option String} {fine : String} {h1 : ExceptHandler} {hds : List ExceptHandler} {p1 p2 p3 p4 p5 : Pos} {fe : PySem.Expr}
    (hx : exB K hl = true) (hlen : ∀ h ∈ hl, ∀ f i, h.2.fld = some (f, i) → i < Ng.length) (hn0 : 0 < Ng.length)
    (hh : ∀ (A : Around) (stack : List Env) (s : Shared) (H : Hp) (k : Nat), (A.deeper (envOfC x sg s.heap.objs.size g cdg)).guards = some [] → Room k (A.deeper (envOfC x sg s.heap.objs.size g cdg)) → MixOk (cxOf L2.CX0 P w K mg base Ng x sg g cdg A stack s H L2.E0).nox (h1 :: hds) (hl.map (mkC K)))
    (hf : ∀ (A : Around) (stack : List Env) (s : Shared) (H : Hp), PSs (cxOf L2.CX0 P w K mg base Ng x sg g cdg A stack s H L2.E0).nox [.Return (some fe) p5] (tsWord wr fine))
    (hsw : ∀ (A : Around) (stack : List Env) (s : Shared) (H : Hp), swapsWith (.Call (.Name a p1) [] [] p2) none p3.line (cxOf L2.CX0 P w K mg base Ng x sg g cdg A stack s H L2.E0).env = pure false := by intros; rfl) :
    MetG P w K mg base Ng x sg g cdg [.Try [.Expr (.Call (.Name a p1) [] [] p2) p3] (h1 :: hds) [] [] p4, .Return (some fe) p5] a hl ((⟨wr, fine, none⟩ : Hout).val fine) := by
  intro A stack f c' q s H Q tl k hgd hr act hc ⟨Ps, M, hs, ht⟩
  refine ⟨_, pss_cons (ps_try_mix (X := (cxOf L2.CX0 P w K mg base Ng x sg g cdg A stack s H L2.E0).nox) (l := hl.map (mkC K)) (Wout := fun _ _ _ _ => False)
      (tb := fun W D σ H => ∃ E : XK, (∀ cls d σ' H', E cls d H' → σ'.length = Ng.length → W cls d σ' H') ∧ σ[0]? = some (some (.ref f)) ∧ H c' = some (LamX.CodeO c' q) ∧ tl E H fun _ H' => D.nx σ H')
      rfl rfl takes0 (fun W pn xe tk _ => ?_) (hh A stack s H k hgd hr)) (hf A stack s H), ?_⟩
  · refine ⟨fun pins s' σ H' D I ⟨E, hW, e1, e2, e3⟩ => ?_⟩
    exact (pss_one (ps_expr (pos := p3) (act _ pn xe E p1 p2 (takes_len tk) hW) (hsw A stack s H))).run pins s' σ H' D I ⟨e1, e2, e3⟩
  · refine ⟨fun cls d H' => ∃ x dd, Wf Ps M hs H' ∧ XnAt K H' M cls d x ∧ Wm hl x = some dd ∧ RetOk K Ps M hs H' Q dd, fun cls d σ' H' ⟨x, dd, wf, hX, hw, r⟩ hl' => ?_, ?_, hc, ht _ _ (fun v H' wf r => ?_) fun cls d H' x dd wf hX hw r => ⟨x, dd, wf, hX, hw, r⟩⟩
    · refine mix_of wf hX r hl (fun h hm => ?_) (fun h hm f i e => by rw [hl']; exact hlen h hm f i e) hw
      obtain ⟨m, hm1, hm2⟩ := wm_mem hw
      have := List.all_eq_true.mp (List.all_eq_true.mp hx m hm1) h hm
      rw [← hm2]
      exact eq_of_beq this
    · unfold L2.start
      rfl
    · exact word_ok (σ := []) (o := ⟨wr, fine, none⟩) wf r
end Dl
end
section
set_option Elab.async false
set_option linter.all false
set_option maxRecDepth 100000
set_option maxHeartbeats 1000000
/-! told(lambda: call), over data. -/
namespace Dl
open PySem PySem.Spec PyProof.Rows L2 HbE Evl RZ Gx HbX LamX
variable [LmV.LamTable]
/-- what a lambda may read: data and functions -/
def datW : Option WD → Option WD
  | some (.dat d) => some (.dat d)
  | some (.fn n) => some (.fn n)
  | some (.lam L) => some (.lam L)
  | _ => none
def datOnly (σ : Sd) : Sd := σ.map datW
theorem datOnly_at {σ : Sd} {i : Nat} {w : WD} (h : (datOnly σ)[i]? = some (some w)) : σ[i]? = some (some w) ∧ ((∃ d, w = .dat d) ∨ (∃ n, w = .fn n) ∨ ∃ L, w = .lam L) := by
  unfold datOnly at h
  rw [List.getElem?_map] at h
  cases q : σ[i]? with
  | none => rw [q] at h; cases h
  | some o =>
    rw [q] at h
    cases o with
    | none => cases h
    | some w' =>
      cases w' with
      | dat d => cases h; exact ⟨rfl, .inl ⟨d, rfl⟩⟩
      | fn n => cases h; exact ⟨rfl, .inr (.inl ⟨n, rfl⟩)⟩
      | lam n => cases h; exact ⟨rfl, .inr (.inr ⟨n, rfl⟩)⟩
      | own ds => cases h
      | hat => cases h
theorem Sts.anew {K : PySem.W.Frag} {Ps : TX} {c : C0} {hs as : List Addr} {σ : L2.St} {H : Hp} {σd : Sd} (S : Sts K Ps c hs as σ H σd) {Ed : Xn → Prop} {EE : XK} (xo : XOk K ⟨Ps.l, Ed, EE⟩ ⟨hs, Mk c hs as, H, msk (Mk c hs as) H⟩) :
    Sts K ⟨Ps.l, Ed, EE⟩ ⟨hs, Mk c hs as, H, msk (Mk c hs as) H⟩ hs [] σ H (datOnly σd) := by
  have w := S.fr.wf
  have em : Mk ⟨hs, Mk c hs as, H, msk (Mk c hs as) H⟩ hs [] = Mk c hs as := by
    funext a
    apply propext
    constructor
    · intro m
      rcases m with m | m | m
      · exact m
      · exact .inr (.inl m)
      · cases m
    · exact fun m => .inl m
  refine ⟨⟨w, Step.refl, fun p hp => ⟨(w.hat p hp).2, .inl hp⟩, fun p hp => hp, fun a ha => (by cases ha), by rw [em]; exact Ex.refl _⟩, by rw [S.len]; unfold datOnly; simp, fun i wd e => ?_, fun i j ds es n e1 e2 => ?_, xo⟩
  · obtain ⟨h1, h2⟩ := datOnly_at e
    obtain ⟨v, h3, h4⟩ := S.slot i _ h1
    refine ⟨v, h3, ?_⟩
    rw [em]
    rcases h2 with ⟨d, rfl⟩ | ⟨n, rfl⟩ | ⟨n, rfl⟩
    · exact h4
    · exact h4
    · exact h4
  · rcases (datOnly_at e1).2 with ⟨_, z⟩ | ⟨_, z⟩ | ⟨_, z⟩ <;> cases z
def dMet (hl : Hds) (fine : PyData) (de : (Xn → Prop) → DE) : DE := fun σ Q => de (fun x => ∃ d, Wm hl x = some d ∧ Q d) (datOnly σ) (fun _ => Q fine)
theorem pe_ex {α : Sort _} {X : Cx} {e : PySem.Expr} {t : α → TE} (h : ∀ a, PE X e (t a)) : PE X e (fun σ H Q => ∃ a, t a σ H Q) := ⟨fun pins s σ H Q I ⟨a, q⟩ => (h a).run pins s σ H Q I q⟩
theorem lam_takes {X : Cx} {A : Around} {outer : List Env} {s : Shared} {H : Hp} {E : XK} {scope : Scope} {f c' : Addr} : Takes (lamCx X A outer s H E scope f c') (fun cls d _ H => E cls d H) := takes_of rfl rfl rfl rfl
section
variable {X : Cx} {Ps : TX} {p pos lpos : Pos}
theorem pd_met {x a : Str} {g c P : Addr} {k : Nat} {st : Stmt} {fd : FuncData} {Ng : List Str} {hl : Hds} {fine : PyData} {params : Arguments} {body : PySem.Expr} {scope : Scope} {de : (Xn → Prop) → DE}
    (hr : Room (k + 2) X.A) (hgd : X.A.guards = some []) (hg : Gl X x) (hm : X.mg x = some (.ref g)) (F : L2.Fun X.K x x st g fd) (hb : L2.Binds X.K fd [a] []) (Sg : FnScope Ng [a] (L2.defScope st)) (hNg : Ng[0]? = some a) (hva : Vis (L2.defScope st) a)
    (MG : ∀ cdg : Value, MetG X.prog X.w X.K X.mg X.base Ng x (L2.defScope st) g cdg (L2.defBody st) a hl fine)
    (TB : LamX.TabB X.base X.mg c P) (hcode : X.env.code = .ref c) (hP : (P, some (X.env.qual ++ "<lambda>")) ∈ Ps.l) (L : LamS X.env.scope scope) (hdef : defaultsOf params X.env = ([], []))
    (hbind : ∀ (q : Str) (cl : List (Str × Addr)) (pm cv ctv : Value), bindArgs (PySem.W.kla_fn "<lambda>" q params body scope cl pm cv ctv) ⟨[], []⟩ = pure [])
    (hbody : ∀ (A : Around) (outer : List Env) (s : Shared) (H : Hp) (E : XK) (Ed : Xn → Prop) (f c' : Addr), Room k (A.deeper (lamEnv X scope s.heap.objs.size f c')) → Takes (lamCx X A outer s H E scope f c') (fun cls d _ H => E cls d H) → PE (lamCx X A outer s H E scope f c') body (lift X.K ⟨Ps.l, Ed, E⟩ (de Ed)))
    (hdb : (x == ("__debug__" : Str)) = false := by decide) (hd1 : (a == ("__debug__" : Str)) = false := by decide) (hcd : (a == ("__classdict__" : Str)) = false := by decide) :
    PE X (.Call (.Name x p) [.Lambda params body scope lpos] [] pos) (lift X.K Ps (dMet hl fine de)) := by
  refine ⟨fun pins s σ H Q I ⟨c0, hs, as, σd, Qd, S, hd, kk⟩ => ?_⟩
  obtain ⟨oc, od, kV, doc, pm0, an, cdv, ct, osl, rfl, lk, hcg⟩ := F.ex
  refine wpAny_Call_Name_kw (ld_glob I hg hm ?_ hdb)
  refine PySem.W.callWith_K (h₀ := X.base) I.ok.mod.kin F.kp ?_ (by rfl) (by rfl)
  show wpAny _ _ (spliced ((false, eval (.Lambda params body scope lpos) X.env) :: backTo pos (starEach [] X.env))) _ _ s
  have tS : LamX.TabS H P (X.env.qual ++ "<lambda>") := (S.fr.wf.tab _ hP).2
  refine Calls.spliced_cons (lam_mk I TB hcode tS hdef (L.has I.ok) fun f c' pm ctv H1 s1 I1 K1 T1 hf hfn hfr hco => ?_)
  refine Calls.spliced_nil ⟨I1.kIn, ?_⟩
  have s01 := step_lam S.fr.wf hP K1 T1
  have S1 := S.step s01
  have rc : codeAny (model X.prog X.w) X.A (.call (.ref g) ⟨[.ref f], []⟩) (CR L2.CX0 X.stack X.prog X.w H1 s1 Q L2.E0) s1 := by
    refine run_ofS (N := Ng) (ps := [a]) (us := [.ref f]) (vs := [.ref f]) lk hcg Sg hr I1.env0 (hb s1 [.ref f] I1.kIn rfl) (.cons rfl .nil) rfl fun hr' => ?_
    refine (fun ⟨t1, t2, t3⟩ => ⟨t1, t2.nox, t3⟩ : _ → _) (MG cdv X.A X.stack f c' _ s1 H1 Q (fun E H' Q' => ∃ Ed : Xn → Prop, lift X.K ⟨Ps.l, Ed, E⟩ (de Ed) σ H' Q') (k + 1) hgd hr' (fun W pn xe E p1 p2 tk hW => pe_act (i := 0) I1 L hf hfn hfr (hbind _ _ _ _ _) tk hW hr' (fun A outer s H hr2 => pe_ex fun Ed => hbody A outer s H E Ed f c' hr2 lam_takes) hNg hva hd1 hcd) hco ⟨Ps.l, Mk c0 hs as, hs, fun Ech Qf q1 q2 => ?_⟩)
    refine ⟨fun x => ∃ d, Wm hl x = some d ∧ Qd d, _, hs, [], _, _, S1.anew fun x cls d H' ⟨dd, w1, w2⟩ st hX => ?_, hd, fun d v H' hq st _ => ?_⟩
    · exact q2 cls d H' x dd (S1.fr.wf.step st) hX w1 fun v H2 st2 r => kk dd v H2 w2 ((s01.trans st).trans st2) r
    · exact q1 v H' (S1.fr.wf.step st) fun v H2 st2 r => kk fine v H2 hq ((s01.trans st).trans st2) r
  refine wpAny_call (codeAny_mono rc fun r s2 hq => ?_)
  cases r with
  | error e => exact (show False from hq).elim
  | ok fl =>
    cases fl with
    | ret u => exact I1.after hq
    | next => exact False.elim hq
    | brk => exact False.elim hq
    | cont => exact False.elim hq
end
end Dl
end
section
set_option Elab.async false
set_option linter.all false
set_option maxRecDepth 100000
set_option maxHeartbeats 1000000
/-! The end of a law whose defs hold generator expressions: their tables by the top. -/
namespace Dl
open PySem PySem.Spec PyProof.Rows L2 HbE Evl RZ Gx
variable [LmV.LamTable]
theorem funC_mk {K : PySem.W.Frag} {x qual : Str} {st : Stmt} {c f : Addr} {oc : Value} {od an : Option Addr} {kV doc pm ct : Value} {osl : Array (Option Value)}
    (lk : K.lookup f = some ⟨oc, od, .func (PySem.W.fnOf x qual (defArgs st) (defBody st) (defScope st) .none kV doc pm an (.ref c) ct), osl⟩) (hc : PySem.W.codeIn K (.ref c) qual = true) (kp : PySem.W.keepIn K (.ref f) = true) :
    FunC K x qual st c f (PySem.W.fnOf x qual (defArgs st) (defBody st) (defScope st) .none kV doc pm an (.ref c) ct) := ⟨⟨oc, od, kV, doc, pm, an, ct, osl, rfl, lk, hc⟩, kp⟩
theorem tabB_of {base : Heap} {mg : Str → Option Value} {c P : Addr} (h : LamX.TabB base mg c P) : GxR.TabB base mg c P := ⟨h.code, h.bm, h.gP⟩
end Dl
namespace Dl
open PySem PySem.Spec PyProof.Rows L2 HbE Evl RZ Gx
variable [LmV.LamTable]
theorem law_sp {K : PySem.W.Frag} {Ps : TbL} {SD : DSp} {H : Hp} {a : Addr} {ns : List Int} {E : XK} (one : ∀ p ∈ Ps, ∀ q ∈ Ps, p.1 = q.1 → p = q) (hT : ∀ p ∈ Ps, H p.1 = some (.tbl #[])) (hS : SqL K H a (ns.map V.int)) (hD : SD [.dat (.list (ns.map .int))] (fun d => d = .bool true)) :
    spOf K Ps SD [.ref a] H (fun v _ => v = .bl true) E := by
  refine ⟨fun b => b ∈ ad Ps, [], _, _, ⟨fun b hb => (ad_at hb).elim fun _ hb => (by have := hT _ hb; have this : H b = _ := this; rw [this]; simp), fun p hp => (by cases hp), fun P hP => ⟨ad_of hP, ?_⟩, one, fun b c q hb e => (ad_at hb).elim fun _ hb => (by
    have := hT _ hb
    have this : H b = _ := this
    rw [this] at e
    exact LamX.codeO_ne _ (Option.some.inj e).symm)⟩, .cons ?_ .nil, hD, fun d v H' hd _ hv => ?_⟩
  · obtain ⟨P, k⟩ := P
    cases k with
    | none => exact ⟨#[], hT _ hP, True.intro⟩
    | some q => exact LamX.TabS.nil (hT _ hP)
  · refine Dp.lst (vs := ns.map V.int) ?_ DpAll.ints
    have ex : ∀ o, H a = some o → (∀ ps, o ≠ .tbl ps) → msk (fun b => b ∈ ad Ps) H a = some o := fun o e n => msk_some.mpr ⟨fun m => by
      obtain ⟨_, m⟩ := ad_at m
      have := hT _ m
      have this : H a = _ := this
      rw [e] at this
      cases this
      exact n _ rfl, e⟩
    rcases hS with hS | hS
    · rcases hS with hS | ⟨o, hS⟩
      · exact .inl (.inl (ex _ hS (fun ps z => by cases z)))
      · exact .inl (.inr ⟨o, ex _ hS (fun ps z => by cases z)⟩)
    · exact .inr hS
  · subst hd
    cases hv
    rfl
end Dl
namespace Dl
open PySem
variable [LmV.LamTable]
/-- no address twice, or twice alike -/
def oneB (Ps : TbL) : Bool := Ps.all fun p => Ps.all fun q => p.1 != q.1 || p == q
theorem oneB_ok {Ps : TbL} (h : oneB Ps = true) : ∀ p ∈ Ps, ∀ q ∈ Ps, p.1 = q.1 → p = q := fun p hp q hq e => by
  have := List.all_eq_true.mp (List.all_eq_true.mp h p hp) q hq
  rw [Bool.or_eq_true] at this
  rcases this with h | h
  · rw [e] at h; simp at h
  · exact eq_of_beq h
theorem allC {α : Type} {P : α → Prop} {a : α} {l : List α} (h : P a) (k : ∀ p ∈ l, P p) : ∀ p ∈ a :: l, P p := fun p hp => (List.mem_cons.mp hp).elim (fun e => e ▸ h) (k p)
theorem allN {α : Type} {P : α → Prop} : ∀ p ∈ ([] : List α), P p := fun _ h => nomatch h
end Dl
namespace Dl
open PySem
variable [LmV.LamTable]
/-- where the table of a def's code stands -/
def tabP (K : PySem.W.Frag) (x : Str) : Addr := match PySem.W.tabIn K x with
  | some p => p.2
  | none => 0
end Dl
end
section
set_option Elab.async false
set_option linter.all false
set_option maxRecDepth 100000
set_option maxHeartbeats 1000000
/-! Defs called where no guard stands, over data; the end of a law whose defs are such. -/
namespace Dl
open PySem PySem.Spec PyProof.Rows L2 HbE Evl RZ Gx HbX LamX
variable [LmV.LamTable]
section
variable {P : Program} {w : World} {K : PySem.W.Frag} {mg : Str → Option Value} {base : Heap} {Ps : TbL}
theorem FnG.of {CX : CXT} {k : Nat} {f : Addr} {fd : FuncData} {ps : List Str} {sp : Sp} (F : FnOk P w K mg base CX k f fd ps sp) : FnG P w K mg base CX k f fd ps sp := ⟨F.len, fun A o s H args us vs Q E _ => F.run A o s H args us vs Q E⟩
theorem FnG.mono {CX : CXT} {j k : Nat} {f : Addr} {fd : FuncData} {ps : List Str} {sp : Sp} (F : FnG P w K mg base CX j f fd ps sp) (h : j ≤ k) : FnG P w K mg base CX k f fd ps sp := ⟨F.len, fun A o s H args us vs Q E hg hr => F.run A o s H args us vs Q E hg (hr.mono h)⟩
theorem okDG {x qual : Str} {st : Stmt} {c f : Addr} {fd : FuncData} {N ps : List Str} {k : Nat} {SD : DSp} (F : FunC K x qual st c f fd) (S : FnScope N ps (L2.defScope st)) (len : ∀ ws Q, SD ws Q → ws.length = ps.length)
    (body : ∀ (A : Around) (outer : List Env) (s : Shared) (H : Hp) (E : XK), (A.deeper (envOfC qual (L2.defScope st) s.heap.objs.size f (.ref c))).guards = some [] → Room k (A.deeper (envOfC qual (L2.defScope st) s.heap.objs.size f (.ref c))) →
      ∃ db, PSs (cxOf L2.CX0 P w K mg base N qual (L2.defScope st) f (.ref c) A outer s H E).nox (L2.defBody st) (liftS K (tx0 Ps) db) ∧ ∀ ws Qd, SD ws Qd → db { nx := fun _ => Qd .none, rt := Qd } (startD N.length ws)) :
    FnG P w K mg base L2.CX0 (k + 1) f fd ps (spOf K Ps SD) := by
  obtain ⟨oc, od, kV, doc, pm, an, ct, osl, rfl, lk, hcd⟩ := F.ex
  refine ⟨fun vs H Q E h => ?_, fun A outer s H args us vs Q E hg hr e0 hb r h => ?_⟩
  · obtain ⟨M, hs, ws, Qd, wf, p, s, _⟩ := h
    rw [paired_len p]
    exact len ws Qd s
  · obtain ⟨M, hs, ws, Qd, wf, p, sd, kk⟩ := h
    have hl : vs.length = ps.length := by rw [paired_len p]; exact len ws Qd sd
    refine run_ofS (N := N) (E := E) lk hcd S hr e0 hb r hl fun hr' => ?_
    obtain ⟨db, h1, h2⟩ := body A outer s H E hg hr'
    refine ⟨_, h1.nox, ⟨hs, M, H, msk M H⟩, hs, [], _, _, sts_start N rfl wf p (fun _ _ _ _ h => h.elim), h2 ws Qd sd, fun hs' as' σ' H' σd' T h => ?_, fun v H' d s q h => kk d v H' h s q, fun _ _ _ _ _ _ h => h.elim, fun _ _ _ _ _ _ h => h.elim⟩
    exact kk .none .non H' h T.fr.st .non
end
section
variable {X : Cx} {Ps : TX} {e : PySem.Expr} {es : List PySem.Expr} {pos p : Pos}
/-- a call where no guard stands -/
theorem pd_callG {x : Str} {f : Addr} {fd : FuncData} {ps : List Str} {SD : DSp} {k : Nat} {da : DA} (F : FnG X.prog X.w X.K X.mg X.base L2.CX0 k f fd ps (spOf X.K Ps SD)) (gd : X.A.guards = some []) (hr : Room k X.A) (hg : Gl X x) (hm : X.mg x = some (.ref f))
    (hk : PySem.W.keepIn X.K (.ref f) = true) (hb : L2.Binds X.K fd ps []) (ha : PA X (e :: es) (liftA X.K Ps da)) (hdb : (x == ("__debug__" : Str)) = false := by decide) (he : starEach (e :: es) X.env = (false, eval e X.env) :: starEach es X.env := by rfl)
    (hpl : (backTo pos (starEach es X.env)).any (·.1) = false := by rfl) : PE X (.Call (.Name x p) (e :: es) [] pos) (lift X.K Ps (dCall SD da)) := by
  refine ⟨fun pins s σ H Q I ⟨c, hs, as, σd, Qd, S, hd, kk⟩ => ?_⟩
  refine wpAny_Call_Name_kw (ld_glob I hg hm ?_ hdb)
  refine PySem.W.callWith_K (h₀ := X.base) I.ok.mod.kin hk (thn (ha.run pos pins s σ H (fun vs H1 => spOf X.K Ps SD vs H1 Q L2.E0) I ⟨c, hs, as, σd, _, S, hd, fun ws vs H1 h1 s1 r1 =>
    ⟨Mk c hs as, hs, ws, Qd, (S.step s1).fr.wf, r1, h1, fun d v H' h s r => kk d v H' h (s1.trans s) r⟩⟩) fun us s1 ⟨vs, H1, I1, r, q⟩ => ⟨I1.kIn, ?_⟩) he hpl
  have hl : us.length = ps.length := by rw [← Paired.length r]; exact F.len _ _ _ _ q
  have hbt := hb s1 us I1.kIn (by simpa using hl)
  rw [List.append_nil] at hbt
  refine wpAny_call (codeAny_mono (F.run X.A X.stack s1 H1 ⟨us, []⟩ us vs Q L2.E0 gd hr I1.env0 hbt r q) fun r s2 z => ?_)
  rcases r with e | fl
  · exact z.elim
  · cases fl with
    | ret u => exact I1.after z
    | next => exact z.elim
    | brk => exact z.elim
    | cont => exact z.elim
end
end Dl
end
section
set_option Elab.async false
set_option linter.all false
set_option maxRecDepth 100000
set_option maxHeartbeats 1000000
/-! The end of a law: its promise where no guard stands, with tables. -/
namespace Dl
open PySem PySem.Spec PyProof.Rows L2 HbE Evl RZ Gx HbX LamX
variable [LmV.LamTable]
abbrev TruEnd (s₁ : Shared) : Result → Shared → Prop := fun r s' => r = .ok (.ret (.bool true)) ∧ OldK s₁.heap s'.heap ∧ s'.os = s₁.os ∧ AllBare s'.gens
theorem law_callTG {P : Program} {w : World} {K : PySem.W.Frag} {mg mb : Str → Option Value} {k : Nat} {fa a : Addr} {cs : List (Addr × Addr)} {fd : FuncData} {x : Str} {sp : Sp} {s₁ : Shared} {vs : List Value} {ns : List Int}
    (KX : K.In s₁.heap) (hns : s₁.heap.Ns mainGlobals mg) (hb : s₁.heap.Ns builtinsNs mb) (hbb : ∀ x : Str, x ≠ "__name__" → mb x = bootBuiltins x) (hlim : s₁.heap.NoLimit) (hg : s₁.gens = #[])
    (tT : ∀ p ∈ cs, s₁.heap.get? p.2 = some { cls := .none, data := .fields #[] }) (tK : ∀ p ∈ cs, K.lookup p.2 = none) (tC : ∀ p ∈ cs, PySem.W.CodeHd s₁.heap p.1 p.2)
    (hbm : ∃ (bm : Addr) (ob : Obj), mg "__builtins__" = some (.ref bm) ∧ bm ≠ builtinsNs ∧ s₁.heap.get? bm = some ob ∧ ob.cls = .type "module" ∧ ob.dict = some builtinsNs ∧ ob.data = .plain)
    (ha : s₁.heap.get? a = some { cls := .type "list", data := .seq vs.toArray }) (hi : IntsAre vs ns) (hl : ns.length ≤ sizeLine) (hr : Room k callerA)
    (F : ∀ base : Heap, K.In base → base.Ns mainGlobals mg → (∀ p ∈ cs, LamX.TabB base mg p.1 p.2) → FnG P w K mg base L2.CX0 k fa fd [x] sp) (hbind : ∀ (s : Shared) (u : Value), BindsTo s fd ⟨[u], []⟩ [(x, u)])
    (hsp : ∀ H : Hp, (∀ p ∈ cs, H p.2 = some (.tbl #[])) → SqL K H a (ns.map V.int) → sp [.ref a] H (fun v _ => v = .bl true) fun _ _ _ => False) :
    codeAny (model P w) callerA (.call (.ref fa) ⟨[.ref a], []⟩) (TruEnd s₁) s₁ := by
  have rv : Vals (ns.map V.int) vs := vals_ints hi
  have tb : ∀ {b : Addr}, b ∈ cs.map (·.2) → s₁.heap.get? b = some { cls := .none, data := .fields #[] } ∧ K.lookup b = none := fun m => by
    obtain ⟨p, hp, rfl⟩ := List.mem_map.mp m
    exact ⟨tT p hp, tK p hp⟩
  have ta : a ∉ cs.map (·.2) := fun m => by
    have z := ha.symm.trans (tb m).1
    cases z
  have core : ∀ H : Hp, (∀ p ∈ cs, H p.2 = some (.tbl #[])) → SqL K H a (ns.map V.int) → (∀ b u, H b = some u → (b ∈ cs.map (·.2) ∧ u = .tbl #[]) ∨ (b = a ∧ K.lookup a = none ∧ u = .frz { cls := .type "list", data := .seq vs.toArray } (.lst (ns.map V.int)))) →
      codeAny (model P w) callerA (.call (.ref fa) ⟨[.ref a], []⟩) (TruEnd s₁) s₁ := by
    intro H hH hS hO
    -- what is no list and no empty record is not told
    have off : ∀ {b : Addr} {o : Obj}, s₁.heap.get? b = some o → (∀ items n, o.data ≠ .seq items n) → o.data ≠ .fields #[] → H b = none := fun {b o} e d1 d2 => by
      cases q : H b with
      | none => rfl
      | some u =>
        exfalso
        rcases hO b u q with ⟨m, _⟩ | ⟨rfl, _, _⟩
        · cases e.symm.trans (tb m).1
          exact d2 rfl
        · cases e.symm.trans ha
          exact d1 _ _ rfl
    have kp : ∀ {b : Addr} {o : Obj}, s₁.heap.get? b = some o → (∀ items n, o.data ≠ .seq items n) → o.data ≠ .fields #[] → (hidT s₁.heap H).get? b = some o := fun e d1 d2 => hidT_get e (off e d1 d2)
    have kns : ∀ {b : Addr} {m : Str → Option Value}, s₁.heap.Ns b m → (hidT s₁.heap H).Ns b m := fun ⟨o, es, ep, e, d, r⟩ => ⟨o, es, ep, kp e (fun _ _ z => by rw [d] at z; cases z) (fun z => by rw [d] at z; cases z), d, r⟩
    have inK : K.In (hidT s₁.heap H) := fun b o e => hidT_get (KX b o e) (by
      cases q : H b with
      | none => rfl
      | some u =>
        rcases hO b u q with ⟨m, _⟩ | ⟨rfl, z, _⟩
        · rw [(tb m).2] at e; cases e
        · rw [z] at e; cases e)
    have hMod : L2.Mod K mg (hidT s₁.heap H) := ⟨inK, kns hns, ⟨mb, kns hb, hbb⟩, hlim.elim fun mc h => ⟨mc, kns h.1, h.2⟩⟩
    have tab : ∀ p ∈ cs, LamX.TabB (hidT s₁.heap H) mg p.1 p.2 := fun p hp => by
      obtain ⟨og, eg, epg, g1, g2, _⟩ := id hns
      have gP : mainGlobals ≠ p.2 := fun z => by
        rw [z, tT p hp] at g1
        cases g1
        cases g2
      refine ⟨?_, ?_, gP⟩
      · obtain ⟨o, us, v1, v2, v3, v4, v5, v6, v7, c1, c2, c3, c4, rest⟩ := tC p hp
        refine ⟨o, us, v1, v2, v3, v4, v5, v6, v7, kp c1 (fun _ _ z => ?_) (fun z => ?_), c2, c3, c4, rest⟩
        · cases c3.symm.trans z
        · cases c3.symm.trans z
          simp at c4
      · obtain ⟨bm, ob, b1, b2, b3, b4, b5, b6⟩ := hbm
        refine ⟨bm, ob, b1, b2, fun z => ?_, fun z => ?_, kp b3 (fun _ _ z => ?_) (fun z => ?_), b4, b5, b6⟩
        · rw [z, g1] at b3
          cases b3
          cases g2.symm.trans b6
        · rw [z, tT p hp] at b3
          cases b3
          cases b6
        · cases b6.symm.trans z
        · cases b6.symm.trans z
    have hok : HOk P w H s₁.heap := fun b u e => by
      rcases hO b u e with ⟨m, rfl⟩ | ⟨rfl, _, rfl⟩
      · exact (tb m).1
      · exact ⟨ha, by rw [List.length_map]; exact hl, vs, _, rv, ha⟩
    have e0 : Env0 P w K mg (hidT s₁.heap H) callerA [] s₁ H := ⟨rfl, hMod, fun b o e => of_hidT e, Nat.le_of_eq (hidT_size _ _), trivial, (fun b z => nomatch z), hok, .of_eq hg⟩
    refine codeAny_mono ((F _ inK (kns hns) tab).run callerA [] s₁ H ⟨[.ref a], []⟩ [.ref a] [.ref a] _ _ rfl hr e0 (hbind s₁ (.ref a)) (.cons rfl .nil) (hsp H hH hS)) fun r s' h => ?_
    rcases r with e | fl
    · exact h.elim
    · cases fl with
      | next => exact h.elim
      | brk => exact h.elim
      | cont => exact h.elim
      | ret u =>
        obtain ⟨v, H', os, bare, un, hok', rv', ev⟩ := h
        have ev : v = .bl true := ev
        subst ev
        obtain rfl : u = Value.bool true := rv'
        have grown : ∀ {b : Addr}, b ∈ cs.map (·.2) → ∃ more : Array Value, s'.heap.get? b = some { cls := .none, data := .fields more } := fun m => by
          obtain ⟨p, hp, rfl⟩ := List.mem_map.mp m
          obtain ⟨more, z⟩ := un.tbls p.2 #[] (hH p hp)
          exact ⟨_, hok' p.2 _ z⟩
        have same : ∀ {b : Addr} {o : Obj}, b ∉ cs.map (·.2) → s₁.heap.get? b = some o → s'.heap.get? b = some o := fun {b o} nm e => by
          cases q : H b with
          | none => exact un.keep b o e q (fun z => nomatch z) (fun z => nomatch z)
          | some u =>
            rcases hO b u q with ⟨m, _⟩ | ⟨rfl, _, rfl⟩
            · exact absurd m nm
            · have e2 := (hok' _ _ (un.frzs _ _ _ q)).1
              rw [ha] at e
              exact e2.trans e
        refine ⟨rfl, ⟨fun b o e => ?_, fun b o e => ?_⟩, os, bare⟩
        · by_cases m : b ∈ cs.map (·.2)
          · obtain ⟨more, hm⟩ := grown m
            obtain ⟨p, hp, rfl⟩ := List.mem_map.mp m
            cases e.symm.trans (tT p hp)
            exact .inr (.inl ⟨((tC p hp).tab (tT p hp)).isCodeTable, rfl, #[], more, rfl, by rw [Array.empty_append]; exact hm⟩)
          · exact .inl (same m e)
        · by_cases m : b ∈ cs.map (·.2)
          · obtain ⟨more, hm⟩ := grown m
            exact ⟨_, hm⟩
          · exact ⟨o, same m e⟩
  cases hk : K.lookup a with
  | some o =>
    have e := KX a o hk
    cases e.symm.trans ha
    refine core (fun b => if b ∈ cs.map (·.2) then some (.tbl #[]) else none) (fun p hp => if_pos (List.mem_map.mpr ⟨p, hp, rfl⟩)) (.inr ⟨_, vs.toArray, _, hk, rfl, rfl, rfl, by rw [List.size_toArray, hi.length]; exact hl, by simpa using rv⟩) fun b u z => ?_
    by_cases m : b ∈ cs.map (·.2)
    · exact .inl ⟨m, (Option.some.inj ((if_pos m).symm.trans z)).symm⟩
    · cases (if_neg m).symm.trans z
  | none =>
    refine core (upd (fun b => if b ∈ cs.map (·.2) then some (.tbl #[]) else none) a (.frz { cls := .type "list", data := .seq vs.toArray } (.lst (ns.map V.int)))) (fun p hp => ?_) (.inl (.inr ⟨_, upd_same⟩)) fun b u z => ?_
    · have mp : p.2 ∈ cs.map (·.2) := List.mem_map.mpr ⟨p, hp, rfl⟩
      have na : p.2 ≠ a := fun z => ta (by rw [← z]; exact mp)
      rw [upd_ne na]
      exact if_pos mp
    · by_cases e : b = a
      · rw [e, upd_same] at z
        cases z
        exact .inr ⟨e, hk, rfl⟩
      · rw [upd_ne e] at z
        by_cases m : b ∈ cs.map (·.2)
        · exact .inl ⟨m, (Option.some.inj ((if_pos m).symm.trans z)).symm⟩
        · cases (if_neg m).symm.trans z
/-- the law's promise at the head's heap -/
def LawAtG (l : PySem.W.OpenLaw) (w : World) (K : PySem.W.Frag) (k n : Nat) (x : Str) (mg : Str → Option Value) (fa : Addr) (h : Heap) : Prop :=
  ∃ (fd : FuncData) (cs : List (Addr × Addr)) (sp : Sp), (∀ p ∈ cs, h.get? p.2 = some { cls := .none, data := .fields #[] }) ∧ (∀ p ∈ cs, K.lookup p.2 = none) ∧ (∀ p ∈ cs, PySem.W.CodeHd h p.1 p.2) ∧ (∀ (s : Shared) (u : Value), BindsTo s fd ⟨[u], []⟩ [(x, u)]) ∧
    (∀ (H : Hp) (a : Addr) (ns : List Int), ns.length ≤ n → (∀ z ∈ ns, Builtin.Int.intBits z ≤ 1048576) → (∀ p ∈ cs, H p.2 = some (.tbl #[])) → SqL K H a (ns.map V.int) → sp [.ref a] H (fun v _ => v = .bl true) fun _ _ _ => False) ∧
    ∀ base : Heap, K.In base → base.Ns mainGlobals mg → (∀ p ∈ cs, LamX.TabB base mg p.1 p.2) → FnG l.prog w K mg base L2.CX0 k fa fd [x] sp
theorem walk_tabG {l : PySem.W.OpenLaw} {n k : Nat} {q : Program} {loose : List Str} {XP : (Str → Option Value) → Heap → Prop} {YP : World → Heap → Prop} {d : DefRec} {K : Params → PySem.W.Frag} {x : Str}
    (h1 : l.most = some n) (h2 : n ≤ sizeLine) (h3 : d.params.defaults = []) (h4 : Room k callerA) (inK : ∀ (w : World) (g : Heap), YP w g → (K w.params).In g)
    (F : ∀ (w : World) (mg : Str → Option Value) (fa : Addr) (g : Heap), (K w.params).In g → g.Ns mainGlobals mg → mg d.name = some (.ref fa) →
      (∀ (y : Str) (c P : Addr), ((recsOf q).find? fun e => e.name == y).isSome = true → PySem.W.tabIn (K w.params) y = some (c, P) → PySem.W.CodeHd g c P ∧ g.get? P = some { cls := .none, data := .fields #[] }) →
      LawAtG l w (K w.params) k n x mg fa g) : PySem.W.WalkO q loose XP YP l.row.toRowW d [] (fun f vs => PySem.call f vs) := by
  refine Att.attach_callB h1 h3 fun w s₀ s₁ mg mb fa o pm cd doc a vs ns G Y _ _ _ hm hobj hints hlen hb hg => ?_
  have KX := inK w _ Y
  have tabs := fun (y : Str) (c P : Addr) (hs : ((recsOf q).find? fun e => e.name == y).isSome = true) (ht : PySem.W.tabIn (K w.params) y = some (c, P)) =>
    (Option.isSome_iff_exists.mp hs).elim fun d2 hd2 => PySem.W.tab_of G.T KX hd2 ht
  obtain ⟨fd, cs, sp, a1, a2, a3, a4, a5, a6⟩ := F w mg fa _ KX G.T.g hm tabs
  exact law_callTG KX G.T.g G.T.b G.T.builtins G.T.nolimit hg a1 a2 a3 G.T.bmain hobj hints (Nat.le_trans hlen h2) h4 a6 a4 fun H hH hS => a5 H a ns hlen hb hH hS
end Dl
end
section
set_option Elab.async false
set_option linter.all false
set_option maxRecDepth 100000
set_option maxHeartbeats 1000000
/-! Functions for defs that raise, and for what tells of it. -/
namespace Dl
open PySem PySem.Spec PyProof.Rows L2 HbE Evl RZ Gx
variable [LmV.LamTable]
section
variable {E : Xn → Prop} {fa : FE} {da : DE} {aa : FA} {ad : DA}
/-- a call that raises nothing -/
@[simp] def fCall0 (F : FF) (aa : FA) : FE := fun σ => (aa σ).bind fun ds => match F ds with
  | .ok d => .ok d
  | _ => .no
theorem le_call0 {F : FF} (ha : LeA (ofA E aa) ad) : LeE (ofE E (fCall0 F aa)) (dCall (ofF Dl.E0 F) ad) := fun σ Q h => ha σ _ (Sat.mono (Sat.bind h) fun ds h => ⟨ds, rfl, by
  cases q : F ds with
  | ok d => rw [q] at h; exact h
  | ex x => rw [q] at h; exact h.elim
  | no => rw [q] at h; exact h.elim⟩)
theorem les_raiseX {x : Xn} : LeS (ofS E (fRaise x)) (dRaiseX E x) := fun D σ k => k
@[simp] def fRaiseI (x f : String) (fa : FE) : FS := fun σ => (fa σ).bind fun d => .ex ⟨x, some (f, d)⟩
theorem les_raiseI {x f : String} (ha : LeE (ofE E fa) da) : LeS (ofS E (fRaiseI x f fa)) (dRaiseI E x f da) := fun D σ k => ha σ _ (Sat.mono (Sat.bind k) fun d k => k)
/-- a way that is not gone -/
@[simp] def fStuck : FS := fun _ => .no
theorem les_stuck : LeS (ofS E fStuck) dRaise := fun D σ k => k
@[simp] def fMet (hl : Hds) (fine : PyData) (fa : FE) : FE := fun σ => match fa (datOnly σ) with
  | .ok _ => .ok fine
  | .ex x => Rs.ofO (Wm hl x)
  | .no => .no
theorem le_met {hl : Hds} {fine : PyData} {de : (Xn → Prop) → DE} (h : ∀ Ed, LeE (ofE Ed fa) (de Ed)) : LeE (ofE E (fMet hl fine fa)) (dMet hl fine de) := fun σ Q k => h _ _ _ (by
  have k : (fMet hl fine fa σ).Sat E Q := k
  show (fa (datOnly σ)).Sat _ _
  unfold fMet at k
  cases q : fa (datOnly σ) with
  | ok d => rw [q] at k; exact k
  | ex x =>
    rw [q] at k
    obtain ⟨d, e1, e2⟩ := Sat.ofO k
    exact ⟨d, e1, e2⟩
  | no => rw [q] at k; exact k.elim)
/-- {} -/
def dDict0 : DE := fun _ Q => Q (.dict [])
@[simp] def fDict0 : FE := fun _ => .ok (.dict [])
theorem pss_stuck {X : Cx} {Ps : TX} {sts : List Stmt} : PSs X sts (liftS X.K Ps dRaise) := ⟨fun pins s σ H D I h => by
  obtain ⟨c, hs, as, σd, Dd, S, h, r⟩ := h
  exact h.elim⟩
end
theorem mkF_lenE {E : Xn → Prop} {n N : Nat} {fs : FS} {ws : List WD} {Q : PyData → Prop} (h : ofF E (mkF n N fs) ws Q) : ws.length = n := by
  obtain ⟨ds, rfl, h⟩ := h
  unfold mkF at h
  split at h
  · simpa using ‹ds.length = n›
  · exact h.elim
theorem mkF_puE {E : Xn → Prop} {n N : Nat} {fs : FS} {ds : DS} (h : LeS (ofS E fs) ds) {ws : List WD} {Q : PyData → Prop} (k : ofF E (mkF n N fs) ws Q) : ds { nx := fun _ => Q .none, rt := Q } (startD N ws) := by
  obtain ⟨es, rfl, k⟩ := k
  unfold mkF at k
  split at k
  · refine h _ _ (Sat.mono (Sat.bind k) fun w k => ?_)
    cases w with
    | nx σ' => exact k
    | rt d => exact k
    | bk σ' => exact k.elim
    | ct σ' => exact k.elim
  · exact k.elim
section
variable {P : Program} {w : World} {K : PySem.W.Frag} {mg : Str → Option Value} {base : Heap} {Ps : TbL}
theorem okFX {x qual : Str} {st : Stmt} {f : Addr} {fd : FuncData} {N ps : List Str} {k n : Nat} {fs : FS} (F : L2.Fun K x qual st f fd) (S : FnScope N ps (L2.defScope st)) (hn : ps.length = n)
    (body : ∀ (cdv : Value) (A : Around) (outer : List Env) (s : Shared) (H : Hp) (E : XK) (Ed : Xn → Prop), Room k (A.deeper (envOfC qual (L2.defScope st) s.heap.objs.size f cdv)) → Takes (cxOf (L2.CX P w) P w K mg base N qual (L2.defScope st) f cdv A outer s H E) (fun cls d _ H => E cls d H) →
      PassesOwn (model P w) (cxOf (L2.CX P w) P w K mg base N qual (L2.defScope st) f cdv A outer s H E).A (cxOf (L2.CX P w) P w K mg base N qual (L2.defScope st) f cdv A outer s H E).env (cxOf (L2.CX P w) P w K mg base N qual (L2.defScope st) f cdv A outer s H E).xe →
      ∃ db, PSs (cxOf (L2.CX P w) P w K mg base N qual (L2.defScope st) f cdv A outer s H E) (L2.defBody st) (liftS K ⟨Ps, Ed, E⟩ db) ∧ LeS (ofS Ed fs) db) :
    FnOk P w K mg base (L2.CX P w) (k + 1) f fd ps (spX K Ps fun E => ofF E (mkF n N.length fs)) :=
  okX F S (fun Ed ws Q h => by rw [hn]; exact mkF_lenE h) fun cdv A outer s H E Ed hr tk po => by
    obtain ⟨db, h1, h2⟩ := body cdv A outer s H E Ed hr tk po
    exact ⟨db, h1, fun ws Qd h => mkF_puE h2 h⟩
theorem okFXC {x qual : Str} {st : Stmt} {c f : Addr} {fd : FuncData} {N ps : List Str} {k n : Nat} {fs : FS} (F : FunC K x qual st c f fd) (S : FnScope N ps (L2.defScope st)) (hn : ps.length = n)
    (body : ∀ (A : Around) (outer : List Env) (s : Shared) (H : Hp) (E : XK) (Ed : Xn → Prop), Room k (A.deeper (envOfC qual (L2.defScope st) s.heap.objs.size f (.ref c))) → Takes (cxOf (L2.CX P w) P w K mg base N qual (L2.defScope st) f (.ref c) A outer s H E) (fun cls d _ H => E cls d H) →
      PassesOwn (model P w) (cxOf (L2.CX P w) P w K mg base N qual (L2.defScope st) f (.ref c) A outer s H E).A (cxOf (L2.CX P w) P w K mg base N qual (L2.defScope st) f (.ref c) A outer s H E).env (cxOf (L2.CX P w) P w K mg base N qual (L2.defScope st) f (.ref c) A outer s H E).xe →
      ∃ db, PSs (cxOf (L2.CX P w) P w K mg base N qual (L2.defScope st) f (.ref c) A outer s H E) (L2.defBody st) (liftS K ⟨Ps, Ed, E⟩ db) ∧ LeS (ofS Ed fs) db) :
    FnOk P w K mg base (L2.CX P w) (k + 1) f fd ps (spX K Ps fun E => ofF E (mkF n N.length fs)) :=
  okXC F S (fun Ed ws Q h => by rw [hn]; exact mkF_lenE h) fun A outer s H E Ed hr tk po => by
    obtain ⟨db, h1, h2⟩ := body A outer s H E Ed hr tk po
    exact ⟨db, h1, fun ws Qd h => mkF_puE h2 h⟩
end
end Dl
end
section
set_option Elab.async false
set_option linter.all false
set_option maxRecDepth 100000
set_option maxHeartbeats 1000000
/-! More constructs over data: truth of values, x op= y, sorted. -/
namespace Dl
open PySem PySem.Spec PyProof.Rows L2 HbE Evl RZ Gx
variable [LmV.LamTable]
/-! ### truth -/
def truD : PyData → Option Bool
  | .none => some false
  | .bool b => some b
  | .int i => some (i != 0)
  | .list ds => some (!ds.isEmpty)
  | .tuple ds => some (!ds.isEmpty)
  | _ => none
def dTru (de : DE) : DT := fun σ Q => de σ fun x => match truD x with
  | some b => Q b
  | none => False
theorem ptd_tru {X : Cx} {Ps : TX} {e : PySem.Expr} {de : DE} (h : PE X e (lift X.K Ps de)) (he : ∀ whole, isTrue e X.env whole = (do let v ← whole; standAt e.pos; holding [v] (truthy v)) := by intro _; rfl) : PT X e (liftT X.K Ps (dTru de)) :=
  pt_weak (pt_truth h he) fun σ H Q ⟨c, hs, as, σd, Qd, S, hd, k⟩ => ⟨c, hs, as, σd, _, S, hd, fun x v H1 h1 s1 r1 => by
    split at h1
    · rename_i b q
      have fin := k b H1 h1 s1
      have r2 := dp_mono msk_ex r1
      refine ⟨b, ?_, fin⟩
      cases r2 with
      | non => cases q; exact rfl
      | bl b => cases q; exact rfl
      | int i => cases q; exact rfl
      | str t => cases q
      | dct _ => cases q
      | dctT _ => cases q
      | lst h2 h3 =>
        cases q
        refine .inl ⟨_, h2, ?_⟩
        cases h3 <;> rfl
      | tup h2 h3 =>
        cases q
        refine .inr (.inl ⟨_, h2, ?_⟩)
        cases h3 <;> rfl
    · exact h1.elim⟩
def dTruQ (dq : DQ) : DT := fun σ Q => dq σ fun _ ds => Q (!ds.isEmpty)
/-! ### x op= y -/
def ipC (C : Int → Int → Prop) (f : Int → Int → Int) : TIp := fun x y H Q => ∃ i j, x = .int i ∧ y = .int j ∧ C i j ∧ Q (.int (f i j)) H
section
variable {X : Cx}
theorem ip_of {op : Operator} {C : Int → Int → Prop} {f : Int → Int → Int} (h : ∀ {prog : Program} {w : World} {A : Around} {E : Value → Shared → Prop} {s : Shared} {a b : Int} {t u : Tok} {Q : Value → Shared → Prop}, C a b → Q (.int (f a b) s.toks) { s with toks := s.toks + 1 } → wpAny (model prog w) A (inplaceOp op (.int a t) (.int b u)) Q E s) : PIp X op (ipC C f) := by
  intro pins s σ H x y v u Q I r1 r2 ⟨i, j, e1, e2, hc, q⟩
  subst e1; subst e2
  obtain ⟨t, rfl⟩ := r1
  obtain ⟨t', rfl⟩ := r2
  exact h hc ⟨.int _, H, I.tok _, ⟨_, rfl⟩, q⟩
theorem ipx_xor : PIp X .BitXor (ipC (fun _ _ => True) fun i j => Builtin.bitXor i j) := ip_of fun _ q => ixor_int q
theorem ipx_shr : PIp X .RShift (ipC (fun _ j => 0 ≤ j) fun i j => i / 2 ^ j.toNat) := ip_of fun hc q => irshift_int hc (by rw [Int.fdiv_eq_ediv_of_nonneg _ (two_pow_nn _)]; exact q)
end
section
variable {X : Cx} {Ps : TX} {e : PySem.Expr} {de : DE} {i : Nat} {x : Str} {pos pos' : Pos}
def dAugC (i : Nat) (C : Int → Int → Prop) (f : Int → Int → Int) (de : DE) : DS := fun D σ => match σ[i]? with
  | some (some (.dat (.int n))) => de σ fun d => match d with
    | .int m => C n m ∧ D.nx (σ.set i (some (.dat (.int (f n m)))))
    | _ => False
  | _ => False
theorem psd_augC {op : Operator} {C : Int → Int → Prop} {f : Int → Int → Int} (hN : X.N.Nodup) (hi : X.N[i]? = some x) (hx : Loc X.env.scope x) (he : PE X e (lift X.K Ps de)) (ho : PIp X op (ipC C f)) (hf : X.fn x = true ∨ X.env.scope.names.lookup x = some .local := by first | exact .inl rfl | exact .inr rfl | assumption) :
    PS X (.AugAssign (.Name x pos') op e pos) (liftS X.K Ps (dAugC i C f de)) := ps_weak (ps_aug hN hi hx he ho hf) fun D σ H ⟨c, hs, as, σd, Dd, S, h, r⟩ => by
  unfold dAugC at h
  split at h
  · rename_i n q
    obtain ⟨v, h1, h2⟩ := S.slot i _ q
    cases h2
    refine ⟨_, h1, c, hs, as, σd, _, S, h, fun d w H1 h3 s1 r1 => ?_⟩
    split at h3
    · cases r1
      exact ⟨_, _, rfl, rfl, h3.1, r.nx hs as _ H1 _ ((S.step s1).set (.dat _) (fun _ z => by cases z) (.int _)) h3.2⟩
    · exact h3.elim
  · exact h.elim
end
section
variable {E : Xn → Prop} {fa : FE} {da : DE} {fq : FQ} {dq : DQ}
def asT (d : PyData) : Rs Bool := Rs.ofO (truD d)
@[simp] theorem asT_bool (b : Bool) : asT (.bool b) = .ok b := rfl
@[simp] theorem asT_int (i : Int) : asT (.int i) = .ok (i != 0) := rfl
@[simp] theorem asT_none : asT .none = .ok false := rfl
@[simp] theorem asT_list (ds : List PyData) : asT (.list ds) = .ok (!ds.isEmpty) := rfl
@[simp] theorem asT_tuple (ds : List PyData) : asT (.tuple ds) = .ok (!ds.isEmpty) := rfl
@[simp] def fTru (fa : FE) : FT := fun σ => (fa σ).bind asT
theorem le_tru (ha : LeE (ofE E fa) da) : LeT (ofT E (fTru fa)) (dTru da) := fun σ Q h => ha σ _ (Sat.mono (Sat.bind h) fun d k => by
  obtain ⟨b, e, q⟩ := Sat.ofO k
  show match truD d with
    | some b => Q b
    | none => False
  rw [e]
  exact q)
@[simp] def fTruQ (fq : FQ) : FT := fun σ => (fq σ).bind fun p => .ok (!p.2.isEmpty)
@[simp] def fAugC (i : Nat) (c : Int → Int → Bool) (f : Int → Int → Int) (fa : FE) : FS := fun σ => match σ[i]? with
  | some (some (.dat (.int n))) => (fa σ).bind fun d => (asI d).bind fun m => if c n m = true then .ok (.nx (σ.set i (some (.dat (.int (f n m)))))) else .no
  | _ => .no
theorem les_augC {i : Nat} {C : Int → Int → Prop} {c : Int → Int → Bool} {f : Int → Int → Int} (hc : ∀ i j, c i j = true → C i j) (h : LeE (ofE E fa) da) : LeS (ofS E (fAugC i c f fa)) (dAugC i C f da) := fun D σ k => by
  unfold ofS fAugC at k
  unfold dAugC
  split at k
  · rename_i q
    (try rw [q])
    refine h σ _ (Sat.mono (Sat.bind k) fun d k2 => ?_)
    obtain ⟨m, rfl, k3⟩ := Sat.asI (Sat.bind k2)
    split at k3
    · exact ⟨hc _ _ ‹_›, k3⟩
    · exact k3.elim
  · exact k.elim
def cYes : Int → Int → Bool := fun _ _ => true
theorem cYes_ok (i j : Int) (_ : cYes i j = true) : True := trivial
end
end Dl
end
section
set_option Elab.async false
set_option linter.all false
set_option maxRecDepth 100000
set_option maxHeartbeats 1000000
/-! sorted(list) of ints, and of tuples of ints. -/
namespace Dl
open PySem PySem.Spec PyProof.Rows L2 HbE Evl RZ Gx
variable [LmV.LamTable]
theorem dpAll_perm {K : PySem.W.Frag} {H : Hp} {xs ys : List V} (h : ys.Perm xs) : ∀ {ds : List PyData}, DpAll K H xs ds → ∃ es, es.Perm ds ∧ DpAll K H ys es := by
  have : ∀ {xs ys : List V}, xs.Perm ys → ∀ {ds : List PyData}, DpAll K H xs ds → ∃ es, es.Perm ds ∧ DpAll K H ys es := by
    intro xs ys h
    induction h with
    | nil => intro ds h; cases h; exact ⟨[], .refl _, .nil⟩
    | cons x _ ih =>
      intro ds h
      cases h with
      | cons h1 h2 =>
        obtain ⟨es, p, q⟩ := ih h2
        exact ⟨_ :: es, p.cons _, .cons h1 q⟩
    | swap x y l =>
      intro ds h
      cases h with
      | cons h1 h2 =>
        cases h2 with
        | cons h2 h3 => exact ⟨_, .swap _ _ _, .cons h2 (.cons h1 h3)⟩
    | trans _ _ ih1 ih2 =>
      intro ds h
      obtain ⟨es, p, q⟩ := ih1 h
      obtain ⟨fs, p2, q2⟩ := ih2 q
      exact ⟨fs, p2.trans p, q2⟩
  exact fun {ds} q => this h.symm q
def insB (B : Int) (x : List Int) : List (List Int) → List (List Int)
  | [] => [x]
  | y :: r => if decide (TS.code B x ≤ TS.code B y) = true then x :: y :: r else y :: insB B x r
def srtB (B : Int) (l : List (List Int)) : List (List Int) := l.foldr (insB B) []
def tupD : PyData → Option (List Int)
  | .tuple ds => intsD ds
  | _ => none
def tupsD : List PyData → Option (List (List Int))
  | [] => some []
  | d :: r => match tupD d, tupsD r with
    | some a, some b => some (a :: b)
    | _, _ => none
abbrev tupI (ns : List Int) : PyData := .tuple (ns.map .int)
def bdB (B : Int) (d : Nat) (nss : List (List Int)) : Bool := nss.all fun ns => ns.length == d && ns.all fun m => decide (0 ≤ m) && decide (m < B)
def topB (nss : List (List Int)) : Int := nss.foldl (fun a ns => ns.foldl max a) 0 + 1
def gSorted : Bool → List PyData → Option PyData := fun b ds => if b = true then
    match intsD ds with
    | some ns => some (.list ((PySem.W.sortI ns).map .int))
    | none => match tupsD ds with
      | some nss => if (Nat.ble nss.length 63 && (Nat.ble 1 (nss.headD []).length && bdB (topB nss) (nss.headD []).length nss)) = true then some (.list ((srtB (topB nss) nss).map tupI)) else none
      | none => none
  else none
def fSorted : Bool → List PyData → (PyData → Prop) → Prop := fun b ds Q => ∃ d, gSorted b ds = some d ∧ Q d
theorem intsD_eq : ∀ {ds : List PyData} {ns : List Int}, intsD ds = some ns → ds = ns.map .int
  | [], _, h => by cases h; rfl
  | .int i :: r, ns, h => by
    unfold intsD at h
    split at h
    · rename_i is q
      cases h
      rw [List.map_cons, intsD_eq q]
    · cases h
theorem tupsD_eq : ∀ {ds : List PyData} {nss : List (List Int)}, tupsD ds = some nss → ds = nss.map tupI
  | [], _, h => by cases h; rfl
  | d :: r, nss, h => by
    unfold tupsD at h
    split at h
    · rename_i a b q1 q2
      cases h
      unfold tupD at q1
      split at q1
      · rw [List.map_cons, tupsD_eq q2, intsD_eq q1]
      · cases q1
    · cases h
def rSortAny (K : PySem.W.Frag) : List V → Hp → VK → Prop := fun vs H Q => rSortedI K vs H Q ∨ ∃ d B, 1 ≤ d ∧ rSortU K d B vs H Q
theorem tupI_of {K : PySem.W.Frag} {H : Hp} {x : V} {ns : List Int} (h : Dp K H x (tupI ns)) : TupI K H x ns := by
  cases h with
  | tup h1 h2 => exact ⟨_, rfl, intsD_dp h2 (intsD_map ns) ▸ h1⟩
theorem dpAll_mem {K : PySem.W.Frag} {H : Hp} {vs : List V} {ds : List PyData} (h : DpAll K H vs ds) : ∀ {v : V}, v ∈ vs → ∃ d ∈ ds, Dp K H v d := by
  induction ds generalizing vs with
  | nil => cases h; intro v hv; cases hv
  | cons d ds ih =>
    cases h with
    | cons h1 h2 =>
      intro v hv
      rcases List.mem_cons.mp hv with rfl | hv
      · exact ⟨d, List.mem_cons_self, h1⟩
      · obtain ⟨e, h3, h4⟩ := ih h2 hv
        exact ⟨e, List.mem_cons_of_mem _ h3, h4⟩
theorem b_sorted : bootBuiltins "sorted" = some (.builtin "sorted") := by decide +kernel
end Dl
end
section
set_option Elab.async false
set_option linter.all false
set_option maxRecDepth 100000
set_option maxHeartbeats 1000000
namespace Dl
open PySem PySem.Spec PyProof.Rows L2 HbE Evl RZ Gx HbX LamX
variable [LmV.LamTable]
def fldB (n : Nat) (hl : Hds) : Bool := hl.all fun h => match h.2.fld with | some (_, i) => decide (i < n) | none => true
theorem fld_of {n : Nat} {hl : Hds} (h : fldB n hl = true) : ∀ h ∈ hl, ∀ f i, h.2.fld = some (f, i) → i < n := fun x hx f i e => by
  have q := List.all_eq_true.mp h x hx
  simp only [e, decide_eq_true_eq] at q
  exact q
theorem qual_cx {P : Program} {w : World} {K : PySem.W.Frag} {mg : Str → Option Value} {base : Heap} {N : List Str} {q : Str} {sc : Scope} {f : Addr} {cd : Value} {A : Around} {outer : List Env} {s : Shared} {H : Hp} {E : XK} {CC : List Env → Hp → Shared → XK → Value → Shared → Prop} :
    (cxOf CC P w K mg base N q sc f cd A outer s H E).nox.env.qual = q ++ ".<locals>." := rfl
section
variable {X : Cx} {Ps : TX} {p pos lpos : Pos}
theorem pd_met2 {x a q : Str} {g c P : Addr} {k : Nat} {st : Stmt} {fd : FuncData} {Ng : List Str} {hl : Hds} {fine : PyData} {params : Arguments} {body : PySem.Expr} {scope sc : Scope} {de : (Xn → Prop) → DE}
    (hr : Room (k + 2) X.A) (hgd : X.A.guards = some []) (hg : Gl X x) (hm : X.mg x = some (.ref g)) (F : L2.Fun X.K x x st g fd) (hb : L2.Binds X.K fd [a] []) (Sg : FnScope Ng [a] (L2.defScope st)) (hNg : Ng[0]? = some a) (hva : Vis (L2.defScope st) a)
    (MG : ∀ cdg : Value, MetG X.prog X.w X.K X.mg X.base Ng x (L2.defScope st) g cdg (L2.defBody st) a hl fine)
    (TB : LamX.TabB X.base X.mg c P) (hcode : X.env.code = .ref c) (hq : X.env.qual = q) (hP : (P, some (q ++ "<lambda>")) ∈ Ps.l) (hs : X.env.scope = sc) (L : lamSB sc scope = true) (hdef : defaultsOf params X.env = ([], []))
    (hbind : ∀ (q : Str) (cl : List (Str × Addr)) (pm cv ctv : Value), bindArgs (PySem.W.kla_fn "<lambda>" q params body scope cl pm cv ctv) ⟨[], []⟩ = pure [])
    (hbody : ∀ (A : Around) (outer : List Env) (s : Shared) (H : Hp) (E : XK) (Ed : Xn → Prop) (f c' : Addr), Room k (A.deeper (lamEnv X scope s.heap.objs.size f c')) → Takes (lamCx X A outer s H E scope f c') (fun cls d _ H => E cls d H) → PE (lamCx X A outer s H E scope f c') body (lift X.K ⟨Ps.l, Ed, E⟩ (de Ed)))
    (hdb : (x == ("__debug__" : Str)) = false := by decide) (hd1 : (a == ("__debug__" : Str)) = false := by decide) (hcd : (a == ("__classdict__" : Str)) = false := by decide) :
    PE X (.Call (.Name x p) [.Lambda params body scope lpos] [] pos) (lift X.K Ps (dMet hl fine de)) := by
  subst hq hs
  exact pd_met hr hgd hg hm F hb Sg hNg hva MG TB hcode hP (lamS_by L) hdef hbind hbody hdb hd1 hcd
end
end Dl
end
section
set_option Elab.async false
set_option linter.all false
set_option maxRecDepth 100000
set_option maxHeartbeats 2000000
/-! Drawn values, and tails of statements over them. -/
namespace Dl
open PySem PySem.Spec PyProof.Rows L2 HbE Evl RZ Gx
variable [LmV.LamTable]
theorem dSeq_gen {t u : DS} {D : ED} {σ : Sd} (P : Sd → Prop) (h1 : ∀ N : Sd → Prop, (∀ σ', P σ' → N σ') → t { D with nx := N } σ) (h2 : ∀ σ', P σ' → u D σ') : dSeq t u D σ := h1 (u D) h2
theorem of_tail {ft : FS} {dt : DS} (hl : LeS (ofS Dl.E0 ft) dt) {D : ED} {σ : Sd} {d : PyData} (h : ft σ = .ok (.rt d)) (q : D.rt d) : dt D σ := hl D σ (by
  show (ft σ).Sat Dl.E0 D.go
  rw [h]
  exact q)
/-- out of the drawer, one of the items -/
def SD_of : DSp := fun ws Q => ∃ ds, ws = [.hat, .dat (.list ds)] ∧ ds ≠ [] ∧ ds.length ≤ 100000 ∧ ∀ d ∈ ds, Q d
theorem len_of {ws : List WD} {Q : PyData → Prop} (h : SD_of ws Q) : ws.length = 2 := by
  obtain ⟨_, rfl, _⟩ := h
  rfl
theorem dseq_draw {i : Nat} {de : DE} {fe : FE} {t : DS} {D : ED} {σ : Sd} {ds : List PyData} (hl : LeE (ofE Dl.E0 fe) de) (hh : σ[0]? = some (some .hat)) (h : fe σ = .ok (.list ds)) (h0 : ds.isEmpty = false) (hn : ds.length ≤ 100000)
    (q : ∀ d ∈ ds, t D (σ.set i (some (.dat d)))) : dSeq (dSet i (dCall SD_of (dCons (dHat 0) (dCons (dD de) dNil)))) t D σ := by
  show dHat 0 σ fun w => dD de σ fun w2 => SD_of [w, w2] fun d => t D (σ.set i (some (.dat d)))
  unfold dHat
  rw [hh]
  refine hl σ _ ?_
  show (fe σ).Sat Dl.E0 _
  rw [h]
  exact ⟨ds, rfl, (fun z => by rw [z] at h0; exact absurd h0 (by decide)), hn, q⟩
theorem fseq_nx {s u : FS} {σ σ' : Sd} {r : Rs Fw} (h : s σ = .ok (.nx σ')) (k : u σ' = r) : fSeq s u σ = r := by
  show (s σ).bind _ = r
  rw [h]
  exact k
theorem rangeE_at {n i : Nat} {d : PyData} (h : ((List.range n).map fun i : Nat => PyData.int i)[i]? = some d) : i < n ∧ d = .int i := by
  rw [List.getElem?_map] at h
  by_cases z : i < n
  · rw [List.getElem?_range z] at h
    exact ⟨z, (Option.some.inj h).symm⟩
  · rw [List.getElem?_eq_none (by simpa using z)] at h
    cases h
def AllT (P : PyData → Prop) : List PyData → Prop
  | [] => True
  | d :: ds => P d ∧ AllT P ds
theorem anN {P : PyData → Prop} : AllT P [] := True.intro
theorem anC {P : PyData → Prop} {d : PyData} {ds : List PyData} (h : P d) (k : AllT P ds) : AllT P (d :: ds) := ⟨h, k⟩
theorem anH {P : PyData → Prop} : ∀ {ds : List PyData} {d : PyData}, d ∈ ds → AllT P ds → P d
  | e :: ds, d, h, k => by
    rcases List.mem_cons.mp h with rfl | h
    · exact k.1
    · exact anH h k.2
theorem anF {P : PyData → Prop} {ds : List PyData} (k : AllT P ds) : ∀ d, d ∈ ds → P d := fun _ h => anH h k
/-- the own head of all errors -/
structure HardC (K : PySem.W.Frag) (mg : Str → Option Value) (cH : Addr) : Prop where
  g : mg "HardError" = some (.ref cH)
  s : PySem.W.specialIn K (.ref cH) "__getattribute__" = some (some (.builtin "type.__getattribute__"))
  r : PySem.W.readsIn K cH (.type "type") = true
  f : PySem.W.findCls K (.ref cH) (.type "type") "__init__" = some (.val (.builtin "ValueError.__init__"))
theorem mg_caK {K : PySem.W.Frag} {mg : Str → Option Value} {n : Str} {C : Addr} (h : PySem.W.nsIn K mainGlobals n = some (some (.ref C))) (m : mg n = some (.ref C)) : mg n = some (.ref (caK K n)) := by
  rw [caK_of h]
  exact m
end Dl
end
section
set_option Elab.async false
set_option linter.all false
set_option maxRecDepth 100000
set_option maxHeartbeats 1000000
/-! repr, strings put together, a new list ahead in x, y = .., how many unlike numbers a tuple has. -/
namespace Dl
open PySem PySem.Spec PyProof.Rows L2 HbE Evl RZ Gx HbX LamX
variable [LmV.LamTable]
section
variable {K : PySem.W.Frag} {Ps : TX}
def fRepr : List PyData → (PyData → Prop) → Prop := fun ds Q => match ds with
  | [d] => shows d = true ∧ Q (.str d.shown)
  | _ => False
theorem shows_ok {d : PyData} (h : shows d = true) : d.hasDict = false ∧ d.showable = true ∧ d.depth ≤ 60 ∧ d.shown.length ≤ 100000 := by
  unfold shows at h
  rw [Bool.and_eq_true, Bool.and_eq_true, Bool.and_eq_true] at h
  obtain ⟨⟨⟨h1, h2⟩, h3⟩, h4⟩ := h
  exact ⟨by simpa using h1, h2, Nat.le_of_ble_eq_true h3, Nat.le_of_ble_eq_true h4⟩
theorem opn_repr : OpN K Ps (rRepr K) fRepr := by
  intro M hs H vs ds Qd Q wf h f k
  unfold fRepr at f
  split at f
  · rename_i d
    obtain ⟨f1, f2⟩ := f
    obtain ⟨s0, s1, s2, s3⟩ := shows_ok f1
    cases h with
    | cons h1 h2 =>
      cases h2
      exact ⟨_, d, rfl, .of ((dp_mono msk_ex h1).old s0), s1, s2, Nat.le_trans s3 (by decide), k _ _ H f2 Step.refl (.str _)⟩
  · exact f.elim
def gRepr : List PyData → Option PyData
  | [d] => if shows d = true then some (.str d.shown) else none
  | _ => none
theorem len_repr : LeOpN gRepr fRepr := fun ds d Q e q => by
  unfold gRepr at e
  split at e
  · split at e
    · rename_i h; cases e; exact ⟨h, q⟩
    · cases e
  · cases e
def fCatS : PyData → PyData → (PyData → Prop) → Prop := fun x y Q => match x, y with
  | .str a, .str b => a.length + b.length ≤ 200000 ∧ Q (.str (a ++ b))
  | _, _ => False
theorem op2_catS : Op2 K Ps rAddA fCatS := by
  intro M hs H v w x y Qd Q wf hx hy h k
  unfold fCatS at h
  split at h
  · cases hx; cases hy
    exact ⟨by rw [sizeLine_eq]; omega, k _ _ H h.2 Step.refl (.str _)⟩
  · exact h.elim
def gCatS : PyData → PyData → Option PyData := fun x y => match x, y with
  | .str a, .str b => if Nat.ble (a.length + b.length) 200000 = true then some (.str (a ++ b)) else none
  | _, _ => none
theorem leop_catS : LeOp gCatS fCatS := fun x y d Q e q => by
  unfold gCatS at e
  split at e
  · split at e
    · rename_i h; cases e; exact ⟨Nat.le_of_ble_eq_true h, q⟩
    · cases e
  · cases e
end
/-! ### a new list ahead -/
section
variable {K : PySem.W.Frag} {Ps : TX} {c : C0} {hs as : List Addr} {H H' : Hp} {σ : L2.St} {σd : Sd} {p : Addr} {i : Nat}
end
section
variable {X : Cx} {Ps : TX} {pos : Pos} {dl : DL}
def dParF (i j : Nat) (dl : DL) (da : DE) : DS := fun D σ => dl σ fun ds => da σ fun x => D.nx ((σ.set i (some (.own ds))).set j (some (.dat x)))
@[simp] def fParF (i j : Nat) (la : FA) (fa : FE) : FS := fun σ => (la σ).bind fun ds => (fa σ).bind fun x => .ok (.nx ((σ.set i (some (.own ds))).set j (some (.dat x))))
end
/-! ### len(set(t)) -/
section
def dst : List Int → List Int
  | [] => []
  | x :: r => if (dst r).elem x = true then dst r else x :: dst r
theorem dst_mem : ∀ {ns : List Int} {k : Int}, k ∈ dst ns ↔ k ∈ ns
  | [], k => Iff.rfl
  | x :: r, k => by
    have ih := @dst_mem r k
    have ix := @dst_mem r x
    unfold dst
    split
    · rename_i h
      have h := ix.mp (List.elem_iff.mp h)
      rw [ih, List.mem_cons]
      exact ⟨Or.inr, fun z => z.elim (fun e => e ▸ h) id⟩
    · rw [List.mem_cons, List.mem_cons, ih]
theorem dst_nodup : ∀ (ns : List Int), (dst ns).Nodup
  | [] => List.nodup_nil
  | x :: r => by
    unfold dst
    split
    · exact dst_nodup r
    · rename_i h
      exact List.nodup_cons.mpr ⟨fun z => h (List.elem_iff.mpr z), dst_nodup r⟩
theorem dst_len : ∀ (ns : List Int), (dst ns).length ≤ ns.length
  | [] => Nat.le_refl _
  | x :: r => by
    have := dst_len r
    unfold dst
    split <;> simp only [List.length_cons] <;> omega
variable {X : Cx} {Ps : TX}
def tLenSetT (K : PySem.W.Frag) (ta : TE) : TE := fun σ H Q => ta σ H fun x H1 => ∃ (l : Addr) (ns : List Int), x = V.ref l ∧ SqT K H1 l (ns.map V.int) ∧ ns.length ≤ 4000 ∧ Q (.int ((dst ns).length : Nat)) H1
theorem pe_lenSetT {a : PySem.Expr} {ta : TE} {p p2 q pos : Pos} (hg : Gl X "len") (hm : X.mg "len" = none) (hg2 : Gl X "set") (hm2 : X.mg "set" = none) (ha : PE X a ta) (hc : X.calm = true := by rfl)
    (na : starEach [a] X.env = (false, eval a X.env) :: starEach [] X.env := by rfl) : PE X (.Call (.Name "len" p) [.Call (.Name "set" p2) [a] [] q] [] pos) (tLenSetT X.K ta) := by
  refine ⟨fun pins s σ H Q I h => ?_⟩
  refine Call_ (ld_blt I hg hm PySem.boot_len ?_)
  refine PyProof.Rows.callWith_builtin1 (PyProof.Rows.args_cons ?_ rfl) rfl rfl
  refine Call_ (ld_blt I hg2 hm2 PyProof.Rows.boot_set ?_)
  refine PyProof.Rows.callWith_type1 (PyProof.Rows.args_cons (thn (ha.run pins s σ H _ I h) fun v s1 ⟨x, H1, I1, r1, q1⟩ => PyProof.Rows.args_nil ?_) na) na rfl
  obtain ⟨l, ns, rfl, hq, hl, q1⟩ := q1
  cases r1
  obtain ⟨its, rv, pt, hz⟩ := I1.tuple hq
  have hi : IntsAre its.toArray.toList ns := ints_of_vals rv
  have hd := I1.ok.hd hc
  refine call_set_tupI ns hd (show s1.heap.IsTuple l its.toArray from pt) hi (by unfold scanBound; omega) fun h' tk c R1 hcn k => ?_
  refine PyProof.Rows.args_nil ?_
  obtain ⟨o, es, ep, t, ho, hex, hdt, g, nd, hm2, hb, hf, hn, hr, hl2⟩ := R1
  have I2 : Inv X pins σ H1 { s1 with heap := h', toks := tk } := I1.kept fun b o e => k b o e
  have eqn : es.size = (dst ns).length := by
    have pm : (es.toList.map keyOf).Perm (dst ns) := (List.perm_ext_iff_of_nodup nd (dst_nodup ns)).mpr fun j => by rw [← hm2 j, dst_mem, decide_eq_true_eq]
    have := pm.length_eq
    rwa [List.length_map, Array.length_toList] at this
  have le := dst_len ns
  exact call_len_set ho hex hdt hf (by rw [eqn] <;> omega) ⟨.int ((dst ns).length : Nat), H1, I2.tok _, ⟨_, by rw [eqn]⟩, q1⟩
def dLenSet (de : DE) : DE := fun σ Q => de σ fun d => ∃ ns : List Int, d = .tuple (ns.map .int) ∧ ns.length ≤ 4000 ∧ Q (.int ((dst ns).length : Nat))
theorem pd_lenSet {a : PySem.Expr} {de : DE} {p p2 q pos : Pos} (hg : Gl X "len") (hm : X.mg "len" = none) (hg2 : Gl X "set") (hm2 : X.mg "set" = none) (ha : PE X a (lift X.K Ps de)) (hc : X.calm = true := by rfl)
    (na : starEach [a] X.env = (false, eval a X.env) :: starEach [] X.env := by rfl) : PE X (.Call (.Name "len" p) [.Call (.Name "set" p2) [a] [] q] [] pos) (lift X.K Ps (dLenSet de)) :=
  pe_weak (pe_lenSetT hg hm hg2 hm2 ha hc na) fun σ H Q ⟨c, hs, as, σd, Qd, S, hd, k⟩ => ⟨c, hs, as, σd, _, S, hd, fun d v H' q s r => by
    obtain ⟨ns, rfl, hl, q⟩ := q
    cases r with
    | tup h1 h2 =>
      have e := intsD_dp h2 (intsD_map ns)
      subst e
      exact ⟨_, ns, rfl, ex_t msk_ex h1, hl, k _ _ H' q s (.int _)⟩⟩
@[simp] def fLenSet (fa : FE) : FE := fun σ => (fa σ).bind fun d => match d with
  | .tuple ds => match intsD ds with
    | some ns => if Nat.ble ns.length 4000 = true then .ok (.int ((dst ns).length : Nat)) else .no
    | none => .no
  | _ => .no
theorem le_lenSet {E : Xn → Prop} {fa : FE} {de : DE} (ha : LeE (ofE E fa) de) : LeE (ofE E (fLenSet fa)) (dLenSet de) := fun σ Q h => ha σ _ (Sat.mono (Sat.bind h) fun d h => by
  split at h
  · split at h
    · rename_i ns q
      split at h
      · rename_i z
        exact ⟨ns, by rw [intsD_eq q], Nat.le_of_ble_eq_true z, h⟩
      · exact h.elim
    · exact h.elim
  · exact h.elim)
end
end Dl
end
section
set_option Elab.async false
set_option linter.all false
set_option maxRecDepth 100000
set_option maxHeartbeats 1000000
/-! any and all of a list of truths, the first place of a number. -/
namespace Dl
open PySem PySem.Spec PyProof.Rows L2 HbE Evl RZ Gx HbX LamX
variable [LmV.LamTable]
section
variable {K : PySem.W.Frag} {Ps : TX}
def blsD : List PyData → Option (List Bool)
  | [] => some []
  | .bool b :: r => match blsD r with
    | some bs => some (b :: bs)
    | none => none
  | _ => none
def gAnyL : Bool → List PyData → Option PyData := fun b ds => if b = true then (blsD ds).map fun bs => .bool (bs.any id) else none
def fAnyL : Bool → List PyData → (PyData → Prop) → Prop := fun b ds Q => ∃ d, gAnyL b ds = some d ∧ Q d
def gAllL : Bool → List PyData → Option PyData := fun b ds => if b = true then (blsD ds).map fun bs => .bool (bs.all id) else none
def fAllL : Bool → List PyData → (PyData → Prop) → Prop := fun b ds Q => ∃ d, gAllL b ds = some d ∧ Q d
end
section
def idx : List Int → Int → Option Nat
  | [], _ => none
  | x :: r, i => if x = i then some 0 else (idx r i).map (· + 1)
variable {X : Cx} {Ps : TX} {apos cpos : Pos} {o e : PySem.Expr}
def dIndex (do1 de : DE) : DE := fun σ Q => do1 σ fun x => (∃ ns : List Int, x = .list (ns.map .int)) ∧ de σ fun y => ∃ (ns : List Int) (i : Int) (j : Nat), x = .list (ns.map .int) ∧ y = .int i ∧ idx ns i = some j ∧ Q (.int (j : Nat))
def asNL (x : PyData) : Rs (List Int) := match x with
  | .list ds => match intsD ds with
    | some ns => .ok ns
    | none => .no
  | _ => .no
def asPl (ns : List Int) (y : PyData) : Rs PyData := match y with
  | .int i => match idx ns i with
    | some j => .ok (.int (j : Nat))
    | none => .no
  | _ => .no
@[simp] def fIndex (fo fe : FE) : FE := fun σ => (fo σ).bind fun x => (asNL x).bind fun ns => (fe σ).bind fun y => asPl ns y
end
/-- a number below the total, out of a drawer -/
def spUpR : Sp := fun vs H Q _ => ∃ (a : Addr) (o : HO) (t : Int), vs = [.ref a, .int t] ∧ H a = some o ∧ Dl.Hat o ∧ 0 < t ∧ t.natAbs.log2 < 9000 ∧
  ∀ (r : Int) o', 0 ≤ r → r < t → Dl.Hat o' → Q (.int r) (upd H a o')
theorem upd_upd2 {H : Hp} {a : Addr} {o o' : HO} : upd (upd H a o) a o' = upd H a o' := by
  funext b
  unfold upd
  split <;> rfl
section
variable {X : Cx} {Ps : TX} {pos p p1 p2 pos1 : Pos} {e : PySem.Expr} {es : List PySem.Expr}
/-- up(hat(script, spot), t) -/
def dUpHat (da : DA) (t : Int) : DE := fun σ Q => da σ fun ws => match ws with
  | [.dat (.list ds), .dat (.int k)] => (intsD ds).isSome = true ∧ (0 ≤ k ∧ k ≤ 3) ∧ ∀ r : Int, 0 ≤ r → r < t → Q (.int r)
  | _ => False
end
end Dl
end
section
set_option Elab.async false
set_option linter.all false
set_option maxRecDepth 100000
set_option maxHeartbeats 1000000
/-! zip of two sequences of any two kinds. -/
namespace ZpM
open PySem PySem.Spec PyProof.Rows L2
variable [LmV.LamTable]
open PySem.Sem (wp)
/-- a sequence of a kind, and where its iterator stands -/
def Sc (c : String) (g : Heap) (l : Addr) (us : Array Value) : Prop := ∃ o, g.get? l = some o ∧ o.cls = .type c ∧ ∃ n, o.data = .seq us n
def Ic (c : String) (g : Heap) (i l : Addr) (k : Nat) : Prop := ∃ o, g.get? i = some o ∧ o.cls = .type c ∧ o.data = .fields #[.ref l, .int k 0]
theorem Sc.mv {c : String} {g g' : Heap} {l b : Addr} {us : Array Value} (x : Sc c g l us) (e : Heap.ExtBut b g g') (n : l ≠ b) : Sc c g' l us := x.elim fun o q => ⟨o, e l o n q.1, q.2⟩
theorem Ic.mv {c : String} {g g' : Heap} {i l b : Addr} {k : Nat} (x : Ic c g i l k) (e : Heap.ExtBut b g g') (n : i ≠ b) : Ic c g' i l k := x.elim fun o q => ⟨o, e i o n q.1, q.2⟩
theorem Ic.up {c : String} {g g' : Heap} {i l : Addr} {k : Nat} (x : Ic c g i l k) (e : ∀ o, g.get? i = some o → g'.get? i = some o) : Ic c g' i l k := x.elim fun o q => ⟨o, e o q.1, q.2⟩
theorem Ic.lt {c : String} {g : Heap} {i l : Addr} {k : Nat} (x : Ic c g i l k) : i < g.objs.size := x.elim fun o q => Heap.lt_size q.1
/-- what the iterator of a kind gives -/
structure Nx (ci c : String) : Prop where
  item : ∀ {P : Program} {w : World} {A : Around} {E : Value → Shared → Prop} {s : Shared} {i l : Addr} {k : Nat} {us : Array Value} {u : Value} {Q : Value → Shared → Prop}, Ic ci s.heap i l k → Sc c s.heap l us → us[k]? = some u →
    (∀ g, Ic ci g i l (k + 1) → Heap.SameBut i s.heap g → Q u { s with heap := g }) → wpAny (model P w) A (Builtin.SmallTypes.nextOf (.ref i)) Q E s
  stop : ∀ {P : Program} {w : World} {A : Around} {E : Value → Shared → Prop} {s : Shared} {i l : Addr} {k : Nat} {us : Array Value} {Q : Value → Shared → Prop}, A.handled = none → Ic ci s.heap i l k → Sc c s.heap l us → us[k]? = none →
    (∀ g e, Heap.ExtBut i s.heap g → (∃ o, g.get? e = some o ∧ o.cls = .type "StopIteration") → E (.ref e) { s with heap := g }) → wpAny (model P w) A (Builtin.SmallTypes.nextOf (.ref i)) Q E s
theorem nx_list : Nx "list_iterator" "list" := ⟨fun a b c d => wpAny_nextOf_list_item a b c d, fun a b c d e => wpAny_nextOf_list_end a b c d e⟩
theorem nx_tuple : Nx "tuple_iterator" "tuple" := ⟨fun a b c d => RZ.nextOf_tuple_item a b c d, fun a b c d e => RZ.nextOf_tuple_end a b c d e⟩
section
variable {P : Program} {w : World} {A : Around} {E : Value → Shared → Prop} {s : Shared}
variable {ci1 c1 ci2 c2 : String} {z I O j1 j2 m1 m2 : Addr} {n1 n2 : Nat} {us ws : Array Value} {p q : Value}
variable {u v : Value}
theorem next_both {Q : Value → Shared → Prop} (N1 : Nx ci1 c1) (N2 : Nx ci2 c2) (D : ZipApart z I O j1 j2 m1 m2) (hz : IsZip s.heap z I O .none) (hI : IsPair s.heap I (.ref j1) (.ref j2)) (hO : IsPair s.heap O p q)
    (a1 : Ic ci1 s.heap j1 m1 n1) (a2 : Ic ci2 s.heap j2 m2 n2) (b1 : Sc c1 s.heap m1 us) (b2 : Sc c2 s.heap m2 ws) (e1 : us[n1]? = some u) (e2 : ws[n2]? = some v)
    (hQ : ∀ g, IsZip g z I O (rawInt s.heap.objs.size) → IsPair g O u v → Ic ci1 g j1 m1 (n1 + 1) → Ic ci2 g j2 m2 (n2 + 1) → IsPair g s.heap.objs.size u v → g.objs.size = s.heap.objs.size + 1 →
      (∀ c o, c ≠ z → c ≠ O → c ≠ j1 → c ≠ j2 → s.heap.get? c = some o → g.get? c = some o) → Q (.ref s.heap.objs.size) { s with heap := g }) :
    wpAny (model P w) A (Builtin.«zip.__next__» ⟨[.ref z], []⟩) (fun fin t => ∃ r, fin = .done (.ret r) ∧ Q r t) E s := by
  show wpAny _ _ (field (.ref z) 2 >>= _) _ _ s; refine wpAny_bind (wpAny_field hz rfl (x := .bool false) rfl ?_)
  show wpAny _ _ (field (.ref z) 3 >>= _) _ _ s; refine wpAny_bind (wpAny_field hz rfl (x := .ref I) rfl ?_); refine wpAny_bind (wpAny_seqItems hI rfl ?_)
  show wpAny _ _ (Builtin.SmallTypes.ownedTupleIsFree (.ref z) >>= _) _ _ s; refine wpAny_bind ?_; unfold Builtin.SmallTypes.ownedTupleIsFree
  refine wpAny_bind (wpAny_field hz rfl (x := .none) rfl (wpAny_pure ?_)); simp only [if_true]; refine wpAny_bind (wpAny_rule ?_)
  refine wpAny_bind (wpAny_field hz rfl (x := .ref O) rfl ?_); refine wpAny_bind (wpAny_setField_rec hz (by simp) fun ga za sa => ?_)
  replace za : IsZip ga z I O .ellipsis := za
  refine wpAny_bind ?_; simp only [List.zipIdx_cons, List.zipIdx_nil, List.forIn_cons, List.forIn_nil]
  refine wpAny_bind (wpAny_bind (wpAny_onRaise ?_)); show wpAny _ _ (Builtin.SmallTypes.nextOf (.ref j1) >>= _) _ _ _
  refine wpAny_bind (N1.item (a1.mv sa.extBut D.i1z) (b1.mv sa.extBut D.l1z) e1 fun gb ib sb => wpAny_pure ?_)
  have ob : IsPair gb O p q := sb.extBut _ _ D.TOi1 (sa.extBut _ _ D.TOz hO)
  refine wpAny_bind (wpAny_seqItems ob rfl ?_); refine wpAny_bind (wpAny_updateSeq_pair ob fun gc oc sc => ?_)
  replace oc : IsPair gc O u q := oc
  refine wpAny_bind (wpAny_letGo (wpAny_pure ?_)); refine wpAny_bind (wpAny_bind (wpAny_onRaise ?_)); show wpAny _ _ (Builtin.SmallTypes.nextOf (.ref j2) >>= _) _ _ _
  refine wpAny_bind (N2.item (((a2.mv sa.extBut D.i2z).mv sb.extBut D.i12.symm).mv sc.extBut D.TOi2.symm) (((b2.mv sa.extBut D.l2z).mv sb.extBut D.l2i1).mv sc.extBut D.l2TO) e2 fun gd id sd => wpAny_pure ?_)
  have od : IsPair gd O u q := sd.extBut _ _ D.TOi2 oc
  refine wpAny_bind (wpAny_seqItems od rfl ?_); refine wpAny_bind (wpAny_updateSeq_pair od fun ge oe se => ?_)
  replace oe : IsPair ge O u v := oe
  refine wpAny_bind (wpAny_letGo (wpAny_pure (wpAny_pure ?_))); refine wpAny_bind (wpAny_seqItems oe rfl ?_); refine wpAny_bind (wpAny_newTuple ?_)
  have size : ge.objs.size = s.heap.objs.size := by rw [se.1, sd.1, sc.1, sb.1, sa.1]
  have ze : IsZip ge z I O .ellipsis := se.extBut _ _ D.TOz.symm (sd.extBut _ _ D.i2z.symm (sc.extBut _ _ D.TOz.symm (sb.extBut _ _ D.i1z.symm za)))
  have old : ∀ c o, c ≠ z → c ≠ O → c ≠ j1 → c ≠ j2 → s.heap.get? c = some o → ge.get? c = some o := fun c o w1 w2 w3 w4 e =>
    se.extBut _ _ w2 (sd.extBut _ _ w4 (sc.extBut _ _ w2 (sb.extBut _ _ w3 (sa.extBut _ _ w1 e))))
  have i1e : Ic ci1 ge j1 m1 (n1 + 1) := ((ib.mv sc.extBut D.TOi1.symm).mv sd.extBut D.i12).mv se.extBut D.TOi1.symm
  have i2e : Ic ci2 ge j2 m2 (n2 + 1) := id.mv se.extBut D.TOi2.symm
  have zlt : z < ge.objs.size := Heap.lt_size ze
  show wpAny _ _ (Builtin.SmallTypes.ownedTupleHandOut (.ref z) (.ref ge.objs.size) >>= _) _ _ _; refine wpAny_bind ?_; unfold Builtin.SmallTypes.ownedTupleHandOut
  have zf : IsZip (ge.push { cls := .type "tuple", data := .seq #[u, v] }) z I O .ellipsis := Heap.get?_push_of_some _ ze
  refine wpAny_bind (wpAny_setField_rec zf (by simp) fun gg zg sg => ?_)
  replace zg : IsZip gg z I O (rawInt ge.objs.size) := zg
  refine wpAny_setField_rec zg (by simp) fun gh zh sh => ?_
  replace zh : IsZip gh z I O (rawInt ge.objs.size) := zh
  have up : ∀ c o, c ≠ z → ge.get? c = some o → gh.get? c = some o := fun c o n e => sh.extBut _ _ n (sg.extBut _ _ n (Heap.get?_push_of_some _ e))
  have new : IsPair gh ge.objs.size u v := sh.extBut _ _ (Nat.ne_of_gt zlt) (sg.extBut _ _ (Nat.ne_of_gt zlt) (Heap.get?_push_size _ rfl))
  have many : gh.objs.size = ge.objs.size + 1 := by rw [sh.1, sg.1, Heap.size_push]
  rw [size] at zh new many
  refine wpAny_pure ⟨_, rfl, ?_⟩; show Q (.ref ge.objs.size) _; rw [size]
  exact hQ gh zh (up _ _ D.TOz oe) (i1e.up fun o e => up _ o D.i1z e) (i2e.up fun o e => up _ o D.i2z e) new many fun c o w1 w2 w3 w4 e => up c o w1 (old c o w1 w2 w3 w4 e)
theorem next_none {Q : Fin → Shared → Prop} (hh : A.handled = none) (N1 : Nx ci1 c1) (N2 : Nx ci2 c2) (D : ZipApart z I O j1 j2 m1 m2) (hz : IsZip s.heap z I O .none) (hI : IsPair s.heap I (.ref j1) (.ref j2)) (hO : IsPair s.heap O p q)
    (a1 : Ic ci1 s.heap j1 m1 n1) (a2 : Ic ci2 s.heap j2 m2 n2) (b1 : Sc c1 s.heap m1 us) (b2 : Sc c2 s.heap m2 ws) (e : us[n1]? = none ∨ ws[n2]? = none)
    (hE : ∀ g x, (∀ c o, c ≠ z → c ≠ O → c ≠ j1 → c ≠ j2 → s.heap.get? c = some o → g.get? c = some o) → (∃ o, g.get? x = some o ∧ o.cls = .type "StopIteration") → E (.ref x) { s with heap := g }) :
    wpAny (model P w) A (Builtin.«zip.__next__» ⟨[.ref z], []⟩) Q E s := by
  show wpAny _ _ (field (.ref z) 2 >>= _) _ _ s; refine wpAny_bind (wpAny_field hz rfl (x := .bool false) rfl ?_)
  show wpAny _ _ (field (.ref z) 3 >>= _) _ _ s; refine wpAny_bind (wpAny_field hz rfl (x := .ref I) rfl ?_); refine wpAny_bind (wpAny_seqItems hI rfl ?_)
  show wpAny _ _ (Builtin.SmallTypes.ownedTupleIsFree (.ref z) >>= _) _ _ s; refine wpAny_bind ?_; unfold Builtin.SmallTypes.ownedTupleIsFree
  refine wpAny_bind (wpAny_field hz rfl (x := .none) rfl (wpAny_pure ?_)); simp only [if_true]; refine wpAny_bind (wpAny_rule ?_)
  refine wpAny_bind (wpAny_field hz rfl (x := .ref O) rfl ?_); refine wpAny_bind (wpAny_setField_rec hz (by simp) fun ga za sa => ?_)
  replace za : IsZip ga z I O .ellipsis := za
  refine wpAny_bind ?_; simp only [List.zipIdx_cons, List.zipIdx_nil, List.forIn_cons, List.forIn_nil]
  refine wpAny_bind (wpAny_bind (wpAny_onRaise ?_)); show wpAny _ _ (Builtin.SmallTypes.nextOf (.ref j1) >>= _) _ _ _
  cases e1 : us[n1]? with
  | none =>
    refine wpAny_bind (N1.stop hh (a1.mv sa.extBut D.i1z) (b1.mv sa.extBut D.l1z) e1 fun gb x sb hx => ?_)
    obtain ⟨ox, x1, x2⟩ := hx
    have zb : IsZip gb z I O .ellipsis := sb _ _ D.i1z.symm za
    have xz : x ≠ z := fun t => by subst t; rw [zb] at x1; cases x1; simp at x2
    refine wpAny_setField_rec zb (by simp) fun gc _ sc => hE gc x (fun c o w1 _ w3 _ t => sc.extBut _ _ w1 (sb _ _ w3 (sa.extBut _ _ w1 t))) ⟨ox, sc.extBut _ _ xz x1, x2⟩
  | some u =>
    have e2 : ws[n2]? = none := e.elim (fun t => by rw [e1] at t; cases t) fun t => t
    refine wpAny_bind (N1.item (a1.mv sa.extBut D.i1z) (b1.mv sa.extBut D.l1z) e1 fun gb ib sb => wpAny_pure ?_)
    have ob : IsPair gb O p q := sb.extBut _ _ D.TOi1 (sa.extBut _ _ D.TOz hO)
    refine wpAny_bind (wpAny_seqItems ob rfl ?_); refine wpAny_bind (wpAny_updateSeq_pair ob fun gc oc sc => ?_)
    refine wpAny_bind (wpAny_letGo (wpAny_pure ?_)); refine wpAny_bind (wpAny_bind (wpAny_onRaise ?_)); show wpAny _ _ (Builtin.SmallTypes.nextOf (.ref j2) >>= _) _ _ _
    refine wpAny_bind (N2.stop hh (((a2.mv sa.extBut D.i2z).mv sb.extBut D.i12.symm).mv sc.extBut D.TOi2.symm) (((b2.mv sa.extBut D.l2z).mv sb.extBut D.l2i1).mv sc.extBut D.l2TO) e2 fun gd x sd hx => ?_)
    obtain ⟨ox, x1, x2⟩ := hx
    have zd : IsZip gd z I O .ellipsis := sd _ _ D.i2z.symm (sc.extBut _ _ D.TOz.symm (sb.extBut _ _ D.i1z.symm za))
    have xz : x ≠ z := fun t => by subst t; rw [zd] at x1; cases x1; simp at x2
    refine wpAny_setField_rec zd (by simp) fun ge _ se => hE ge x (fun c o w1 w2 w3 w4 t => se.extBut _ _ w1 (sd _ _ w4 (sc.extBut _ _ w2 (sb.extBut _ _ w3 (sa.extBut _ _ w1 t))))) ⟨ox, se.extBut _ _ xz x1, x2⟩
theorem py_both {Q : Option Value → Shared → Prop} (N1 : Nx ci1 c1) (N2 : Nx ci2 c2) (D : ZipApart z I O j1 j2 m1 m2) (hz : IsZip s.heap z I O .none) (hI : IsPair s.heap I (.ref j1) (.ref j2)) (hO : IsPair s.heap O p q)
    (a1 : Ic ci1 s.heap j1 m1 n1) (a2 : Ic ci2 s.heap j2 m2 n2) (b1 : Sc c1 s.heap m1 us) (b2 : Sc c2 s.heap m2 ws) (e1 : us[n1]? = some u) (e2 : ws[n2]? = some v)
    (hQ : ∀ g, IsZip g z I O (rawInt s.heap.objs.size) → IsPair g O u v → Ic ci1 g j1 m1 (n1 + 1) → Ic ci2 g j2 m2 (n2 + 1) → IsPair g s.heap.objs.size u v → g.objs.size = s.heap.objs.size + 1 →
      (∀ c o, c ≠ z → c ≠ O → c ≠ j1 → c ≠ j2 → s.heap.get? c = some o → g.get? c = some o) → Q (some (.ref s.heap.objs.size)) { s with heap := g }) : wpAny (model P w) A (pyNext (.ref z)) Q E s := by
  have T : s.TypeIs (.ref z) "zip" := ⟨_, hz, rfl⟩
  unfold pyNext
  refine wpAny_bind (wpAny_attempt (wpAny_callSpecial?_slot (name := Str.ofString "__next__") T F.slot_zip_next (wpAny_call_entry F.slot_zip_next T F.entry_zip_next ?_ (F.args_zip_next_1 _))))
  exact next_both N1 N2 D hz hI hO a1 a2 b1 b2 e1 e2 fun g r1 r2 r3 r4 r5 r6 r7 => wpAny_pure (hQ g r1 r2 r3 r4 r5 r6 r7)
theorem py_none {Q : Option Value → Shared → Prop} (hh : A.handled = none) (N1 : Nx ci1 c1) (N2 : Nx ci2 c2) (D : ZipApart z I O j1 j2 m1 m2) (hz : IsZip s.heap z I O .none) (hI : IsPair s.heap I (.ref j1) (.ref j2)) (hO : IsPair s.heap O p q)
    (a1 : Ic ci1 s.heap j1 m1 n1) (a2 : Ic ci2 s.heap j2 m2 n2) (b1 : Sc c1 s.heap m1 us) (b2 : Sc c2 s.heap m2 ws) (e : us[n1]? = none ∨ ws[n2]? = none)
    (hQ : ∀ g, (∀ c o, c ≠ z → c ≠ O → c ≠ j1 → c ≠ j2 → s.heap.get? c = some o → g.get? c = some o) → Q none { s with heap := g }) : wpAny (model P w) A (pyNext (.ref z)) Q E s := by
  have T : s.TypeIs (.ref z) "zip" := ⟨_, hz, rfl⟩
  unfold pyNext
  refine wpAny_bind (wpAny_attempt (wpAny_callSpecial?_slot (name := Str.ofString "__next__") T F.slot_zip_next (wpAny_call_entry F.slot_zip_next T F.entry_zip_next (next_none hh N1 N2 D hz hI hO a1 a2 b1 b2 e fun g x k hx => ?_) (F.args_zip_next_1 _))))
  obtain ⟨o, x1, x2⟩ := hx
  exact wpAny_bind (wpAny_isInstance (T := "StopIteration") (b := true) ⟨o, x1, x2⟩ isSubtype_stop (wpAny_pure (hQ _ k)))
end
/-! ### zip(a, b) -/
abbrev itO (ci : String) (l : Addr) : Obj := { cls := .type ci, data := .fields #[.ref l, .int 0 0] }
abbrev g1 (ci : String) (g : Heap) (l : Addr) : Heap := g.push (itO ci l)
abbrev g2 (ci cj : String) (g : Heap) (l m : Addr) : Heap := (g1 ci g l).push (itO cj m)
abbrev g3 (ci cj : String) (g : Heap) (l m : Addr) : Heap := (g2 ci cj g l m).push { cls := .type "tuple", data := .seq #[.ref g.objs.size, .ref (g1 ci g l).objs.size] }
abbrev g4 (ci cj : String) (g : Heap) (l m : Addr) : Heap := (g3 ci cj g l m).push { cls := .type "tuple", data := .seq #[.none, .none] }
abbrev g5 (ci cj : String) (g : Heap) (l m : Addr) : Heap := (g4 ci cj g l m).push { cls := .type "zip", data := .fields #[.none, .bool false, .bool false, .ref (g2 ci cj g l m).objs.size, .ref (g3 ci cj g l m).objs.size] }
/-- zip makes its five objects -/
def Made (ci c cj d : String) : Prop := ∀ (l m : Addr) (us ws : Array Value), Meets (Builtin.«zip.__new__» ⟨[.type "zip", .ref l, .ref m], []⟩) (fun _ R s => Sc c s.heap l us ∧ Sc d s.heap m ws ∧
  R (.ok (.ret (.ref (g4 ci cj s.heap l m).objs.size))) { s with heap := g5 ci cj s.heap l m })
theorem made_lt : Made "list_iterator" "list" "tuple_iterator" "tuple" := fun l m us ws => .of_wp fun prog w A R s h => by
  obtain ⟨hp, g, d, tk, os⟩ := s
  obtain ⟨k1, k2, h⟩ := h
  have hsub := sub_zip
  have q1 : Heap.IsList (Shared.heap ⟨hp, g, d, tk, os⟩) l us := k1
  have q2 : Heap.IsTuple (Shared.heap ⟨hp.push (itO "list_iterator" l), g, d, tk, os⟩) m ws := Heap.IsTuple.push k2 _
  wp_walk using wpAny_pyIter_list q1, wpAny_pyIter_tuple q2
  exact ⟨_, rfl, h⟩
theorem made_tl : Made "tuple_iterator" "tuple" "list_iterator" "list" := fun l m us ws => .of_wp fun prog w A R s h => by
  obtain ⟨hp, g, d, tk, os⟩ := s
  obtain ⟨k1, k2, h⟩ := h
  have hsub := sub_zip
  have q1 : Heap.IsTuple (Shared.heap ⟨hp, g, d, tk, os⟩) l us := k1
  have q2 : Heap.IsList (Shared.heap ⟨hp.push (itO "tuple_iterator" l), g, d, tk, os⟩) m ws := Heap.IsList.push k2 _
  wp_walk using wpAny_pyIter_tuple q1, wpAny_pyIter_list q2
  exact ⟨_, rfl, h⟩
section
variable {P : Program} {w : World} {A : Around} {E : Value → Shared → Prop} {s : Shared} {ci c cj d : String} {l m : Addr} {us ws : Array Value}
theorem call_both {Q : Value → Shared → Prop} (M : Made ci c cj d) (k1 : Sc c s.heap l us) (k2 : Sc d s.heap m ws)
    (h : ∀ g, IsZip g (s.heap.objs.size + 4) (s.heap.objs.size + 2) (s.heap.objs.size + 3) .none → IsPair g (s.heap.objs.size + 2) (.ref s.heap.objs.size) (.ref (s.heap.objs.size + 1)) → IsPair g (s.heap.objs.size + 3) .none .none →
      Ic ci g s.heap.objs.size l 0 → Ic cj g (s.heap.objs.size + 1) m 0 → g.objs.size = s.heap.objs.size + 5 → (∀ b o, s.heap.get? b = some o → g.get? b = some o) → Q (.ref (s.heap.objs.size + 4)) { s with heap := g }) :
    wpAny (model P w) A (call (.type "zip") [.ref l, .ref m]) Q E s := by
  refine callType_new F.called_zip (by decide) (F.typeCall_zip_2 _ _) (F.newCall_zip_2 _ _) (fun obj => F.args_object_init_3 obj _ _) F.entry_zip_new (M l m us ws) ⟨k1, k2, ?_⟩
  have s1 : (g1 ci s.heap l).objs.size = s.heap.objs.size + 1 := Heap.size_push ..
  have s2 : (g2 ci cj s.heap l m).objs.size = s.heap.objs.size + 2 := by rw [Heap.size_push, s1]
  have s3 : (g3 ci cj s.heap l m).objs.size = s.heap.objs.size + 3 := by rw [Heap.size_push, s2]
  have s4 : (g4 ci cj s.heap l m).objs.size = s.heap.objs.size + 4 := by rw [Heap.size_push, s3]
  have s5 : (g5 ci cj s.heap l m).objs.size = s.heap.objs.size + 5 := by rw [Heap.size_push, s4]
  have o5 : (g5 ci cj s.heap l m).get? (g4 ci cj s.heap l m).objs.size = some _ := Heap.get?_push_size _ rfl
  have o4 : (g5 ci cj s.heap l m).get? (g3 ci cj s.heap l m).objs.size = some _ := Heap.get?_push_of_some _ (Heap.get?_push_size _ rfl)
  have o3 : (g5 ci cj s.heap l m).get? (g2 ci cj s.heap l m).objs.size = some _ := Heap.get?_push_of_some _ (Heap.get?_push_of_some _ (Heap.get?_push_size _ rfl))
  have o2 : (g5 ci cj s.heap l m).get? (g1 ci s.heap l).objs.size = some _ := Heap.get?_push_of_some _ (Heap.get?_push_of_some _ (Heap.get?_push_of_some _ (Heap.get?_push_size _ rfl)))
  have o1 : (g5 ci cj s.heap l m).get? s.heap.objs.size = some _ := Heap.get?_push_of_some _ (Heap.get?_push_of_some _ (Heap.get?_push_of_some _ (Heap.get?_push_of_some _ (Heap.get?_push_size _ rfl))))
  show _ ∧ _
  rw [s2, s3, s4] at o5
  rw [s1, s2] at o3
  rw [s3] at o4
  rw [s1] at o2
  rw [s4]
  exact ⟨⟨_, o5, rfl⟩, h _ o5 o3 o4 ⟨_, o1, rfl, rfl⟩ ⟨_, o2, rfl, rfl⟩ s5 fun b o x => Heap.get?_push_of_some _ (Heap.get?_push_of_some _ (Heap.get?_push_of_some _ (Heap.get?_push_of_some _ (Heap.get?_push_of_some _ x))))⟩
end
/-! ### for x, y in zip(a, b) -/
abbrev SQ := Hp → Addr → List V → Prop
/-- a sequence as it is told, of a kind -/
structure Get (K : PySem.W.Frag) (c : String) (S : SQ) : Prop where
  get : ∀ {X : Cx} {pins : List (Addr × Obj)} {σ : L2.St} {H : Hp} {s : Shared} {a : Addr} {xs : List V}, X.K = K → Inv X pins σ H s → S H a xs → ∃ its : List Value, Vals xs its ∧ Sc c s.heap a its.toArray
  one : ∀ {X : Cx} {pins : List (Addr × Obj)} {σ : L2.St} {H : Hp} {s : Shared} {a : Addr} {xs ys : List V}, X.K = K → Inv X pins σ H s → S H a xs → S H a ys → xs = ys
theorem get_list {K : PySem.W.Frag} : Get K "list" (SqL K) := ⟨fun e I h => by
  subst e
  obtain ⟨its, r, k, _⟩ := I.list h
  exact ⟨its, r, k.isList⟩, fun e I h k => by subst e; exact I.list_inj h k⟩
theorem get_tuple {K : PySem.W.Frag} : Get K "tuple" (SqT K) := ⟨fun e I h => by
  subst e
  obtain ⟨its, r, k, _⟩ := I.tuple h
  exact ⟨its, r, k⟩, fun e I h k => by subst e; exact I.tuple_inj h k⟩
def ItM (S T : SQ) (a b : Addr) : It :=
  ⟨fun i H => ∃ (xs ys : List V) (x y : V), S H a xs ∧ T H b ys ∧ xs[i]? = some x ∧ ys[i]? = some y,
    fun i H v H' => ∃ p x y, v = .ref p ∧ H p = none ∧ H' = upd H p (.tup [x, y]) ∧ (∀ xs, S H a xs → xs[i]? = some x) ∧ ∀ ys, T H b ys → ys[i]? = some y,
    fun i H => ∃ xs ys : List V, S H a xs ∧ T H b ys ∧ (xs.length ≤ i ∨ ys.length ≤ i)⟩
theorem five {c a b d e f : Addr} (h : c ∈ [a, b, d, e, f]) : c = a ∨ c = b ∨ c = d ∨ c = e ∨ c = f := by simpa using h
theorem turn_both {P : Program} {w : World} {K : PySem.W.Frag} {elts : List PySem.Expr} {kk : Nat} {tpos : Pos} {ci c cj d : String} {S T : SQ} {a b z I O j1 j2 : Addr} (N1 : Nx ci c) (N2 : Nx cj d) (G1 : Get K c S) (G2 : Get K d T) (D : ZipApart z I O j1 j2 a b) :
    Turn P w K (.Tuple elts kk tpos) (ItM S T a b) [z, I, O, j1, j2] z (fun i h => IsZip h z I O .none ∧ IsPair h I (.ref j1) (.ref j2) ∧ (∃ x y, IsPair h O x y) ∧ Ic ci h j1 a i ∧ Ic cj h j2 b i) where
  mem := List.mem_cons_self
  obj := fun i h st e he => by
    obtain ⟨q1, q2, ⟨x, y, q3⟩, ⟨o1, r1, _, d1⟩, ⟨o2, r2, _, d2⟩⟩ := st
    rcases five he with q | q | q | q | q <;> rw [q]
    · exact ⟨_, q1, fun v t => nomatch t⟩
    · exact ⟨_, q2, fun v t => nomatch t⟩
    · exact ⟨_, q3, fun v t => nomatch t⟩
    · exact ⟨o1, r1, fun v t => by rw [d1] at t; cases t⟩
    · exact ⟨o2, r2, fun v t => by rw [d2] at t; cases t⟩
  keep := fun i h h' st k => by
    obtain ⟨q1, q2, ⟨x, y, q3⟩, q4, q5⟩ := st
    exact ⟨k z (by simp) _ q1, k I (by simp) _ q2, ⟨x, y, k O (by simp) _ q3⟩, q4.up fun o t => k j1 (by simp) o t, q5.up fun o t => k j2 (by simp) o t⟩
  item := by
    intro X hP hw hK hc i pins s σ H E I1 hf st hg
    subst hP hw
    obtain ⟨q1, q2, ⟨x0, y0, q3⟩, q4, q5⟩ := st
    obtain ⟨xs, ys, x, y, sx, sy, hx, hy⟩ := hg
    obtain ⟨us, rv, k1⟩ := G1.get hK I1 sx
    obtain ⟨ws, rw2, k2⟩ := G2.get hK I1 sy
    obtain ⟨u, eu, ru⟩ := rv.get hx
    obtain ⟨v, ev, rw3⟩ := rw2.get hy
    have zl : z < s.heap.objs.size := Heap.lt_size q1
    refine py_both N1 N2 D q1 q2 q3 q4 q5 k1 k2 (u := u) (v := v) (by simpa using eu) (by simpa using ev) fun g t1 t2 t3 t4 t5 t6 t7 => ?_
    refine ⟨_, rfl, wpAny_letOwnedTupleGo_zip (s := { s with heap := g }) t1 fun g' z' sb => ?_⟩
    have mine : g'.get? s.heap.objs.size = some { cls := .type "tuple", data := .seq #[u, v] } := (sb.2 _ (Nat.ne_of_gt zl)).trans t5
    have okO : ObjOk X.prog X.w (upd H s.heap.objs.size (.tup [x, y])) g' s.heap.objs.size (.tup [x, y]) := ⟨by show 2 ≤ sizeLine; decide, [u, v], .cons ru (.cons rw3 .nil), ⟨_, mine, rfl, _, rfl⟩⟩
    have I2 : Inv X pins σ (upd H s.heap.objs.size (.tup [x, y])) { s with heap := g' } := I1.turnedNew (t' := s.toks) (ch := [z, I, O, j1, j2])
      (fun e o hb q => (sb.2 e (fun t => hb (by simp [t]))).trans (t7 e o (fun t => hb (by simp [t])) (fun t => hb (by simp [t])) (fun t => hb (by simp [t])) (fun t => hb (by simp [t])) q)) hf (Nat.le_refl _) okO
    refine ⟨.ref s.heap.objs.size, _, I2, rfl, ⟨_, x, y, rfl, I1.hok.fresh (Nat.le_refl _), rfl, fun l hl => by rw [G1.one hK I1 hl sx]; exact hx, fun l hl => by rw [G2.one hK I1 hl sy]; exact hy⟩, ⟨z', ?_, ⟨u, v, ?_⟩, ?_, ?_⟩, fun e he => ?_⟩
    · exact (sb.2 _ D.TIz).trans (t7 _ _ D.TIz D.TITO D.TIi1 D.TIi2 q2)
    · exact (sb.2 _ D.TOz).trans t2
    · exact t3.up fun o t => (sb.2 _ D.i1z).trans t
    · exact t4.up fun o t => (sb.2 _ D.i2z).trans t
    · have lt : e < s.heap.objs.size := by
        rcases five he with q | q | q | q | q <;> rw [q]
        · exact zl
        · exact Heap.lt_size q2
        · exact Heap.lt_size q3
        · exact q4.lt
        · exact q5.lt
      rw [upd_ne (Nat.ne_of_lt lt)]
      exact (hf e he).1
  done := by
    intro X hP hw hK hc i pins s σ H E I1 hf st hg
    subst hP hw
    obtain ⟨q1, q2, ⟨x0, y0, q3⟩, q4, q5⟩ := st
    obtain ⟨xs, ys, sx, sy, hend⟩ := hg
    obtain ⟨us, rv, k1⟩ := G1.get hK I1 sx
    obtain ⟨ws, rw2, k2⟩ := G2.get hK I1 sy
    have n1 := rv.length
    have n2 := rw2.length
    have off : us.toArray[i]? = none ∨ ws.toArray[i]? = none := hend.elim (fun t => .inl (by simp; omega)) fun t => .inr (by simp; omega)
    exact py_none (I1.ok.hd hc) N1 N2 D q1 q2 q3 q4 q5 k1 k2 off fun g k => ⟨rfl, I1.turnedL (t' := s.toks) (ch := [z, I, O, j1, j2]) (fun e o hb q =>
      k e o (fun t => hb (by simp [t])) (fun t => hb (by simp [t])) (fun t => hb (by simp [t])) (fun t => hb (by simp [t])) q) hf⟩
  self := fun A i s Q E st h => wpAny_pyIter_zip st.1 h
/-- zip of two sequences, of any kinds -/
def iZip4 (K : PySem.W.Frag) (ta : TA) : TI := fun σ H R => ta σ H fun vs H1 => ∃ a b xs ys, vs = [.ref a, .ref b] ∧ ((SqL K H1 a xs ∧ SqL K H1 b ys ∧ R (ItM (SqL K) (SqL K) a b) H1) ∨ (SqT K H1 a xs ∧ SqT K H1 b ys ∧ R (ItM (SqT K) (SqT K) a b) H1) ∨
  (SqL K H1 a xs ∧ SqT K H1 b ys ∧ R (ItM (SqL K) (SqT K) a b) H1) ∨ (SqT K H1 a xs ∧ SqL K H1 b ys ∧ R (ItM (SqT K) (SqL K) a b) H1))
theorem made_ll : Made "list_iterator" "list" "list_iterator" "list" := fun l m us ws => meets_zip_new l m us ws
theorem made_tt : Made "tuple_iterator" "tuple" "tuple_iterator" "tuple" := fun l m us ws => RZ.meets_zipT_new l m us ws
section
variable {X : Cx} {e e2 : PySem.Expr} {ta : TA} {p pos tpos : Pos} {elts : List PySem.Expr} {kk : Nat}
theorem Sc.lt {c : String} {g : Heap} {l : Addr} {us : Array Value} (x : Sc c g l us) : l < g.objs.size := x.elim fun o q => Heap.lt_size q.1
theorem zip_run {pins : List (Addr × Obj)} {σ : L2.St} {H : Hp} {s : Shared} {R : It → Hp → Prop} {ci c cj d : String} {S T : SQ} {a b : Addr} {xs ys : List V} (N1 : Nx ci c) (N2 : Nx cj d) (G1 : Get X.K c S) (G2 : Get X.K d T) (M : Made ci c cj d) (I : Inv X pins σ H s) (sx : S H a xs) (sy : T H b ys) (q : R (ItM S T a b) H) :
    wpAny (model X.prog X.w) X.A (call (.type "zip") [.ref a, .ref b]) (fun v s1 => wpAny (model X.prog X.w) X.A (pyIter v) (PIE X pins σ (.Tuple elts kk tpos) R) X.xe s1) X.xe s := by
  obtain ⟨us, rv, k1⟩ := G1.get rfl I sx
  obtain ⟨ws, rw2, k2⟩ := G2.get rfl I sy
  refine call_both M k1 k2 fun g t1 t2 t3 t4 t5 t6 t7 => wpAny_pyIter_zip t1 ?_
  have I2 : Inv X pins σ H { s with heap := g } := I.kept (t' := s.toks) t7
  refine ⟨s.heap.objs.size + 4, [s.heap.objs.size + 4, s.heap.objs.size + 2, s.heap.objs.size + 3, s.heap.objs.size, s.heap.objs.size + 1], _, _, H, rfl, I2, turn_both N1 N2 G1 G2 (PySem.W.ktu_apart s.heap.objs.size a b k1.lt k2.lt), ⟨t1, t2, ⟨_, _, t3⟩, t4, t5⟩, fun b' hb => ?_, q⟩
  have le : s.heap.objs.size ≤ b' := by
    rcases five hb with t | t | t | t | t <;> rw [t] <;> omega
  exact I.fpOk le (I.hok.fresh le)
theorem pi_zip4 (hg : Gl X "zip") (hm : X.mg "zip" = none) (ha : PA X [e, e2] ta) (hs : starEach [e, e2] X.env = (false, eval e X.env) :: starEach [e2] X.env := by rfl) (hpl : (backTo pos (starEach [e2] X.env)).any (·.1) = false := by rfl) :
    PI X (.Tuple elts kk tpos) (.Call (.Name "zip" p) [e, e2] [] pos) (iZip4 X.K ta) := by
  refine ⟨fun pins s σ H R I h => Call_ (ld_blt I hg hm PyProof.Rows.boot_zip (PyProof.Rows.callWith_type1 (thn (ha.run pos pins s σ H _ I h) fun us s1 ⟨vs, H1, I1, r1, q1⟩ => ?_) hs hpl))⟩
  obtain ⟨a, b, xs, ys, ex, q1⟩ := q1
  subst ex
  have eu : us = [.ref a, .ref b] := by
    cases r1 with
    | cons r r2 =>
      cases r2 with
      | cons r' r2 =>
        cases r2
        cases r
        cases r'
        rfl
  subst eu
  rcases q1 with ⟨x1, y1, q⟩ | ⟨x1, y1, q⟩ | ⟨x1, y1, q⟩ | ⟨x1, y1, q⟩
  · exact zip_run nx_list nx_list get_list get_list made_ll I1 x1 y1 q
  · exact zip_run nx_tuple nx_tuple get_tuple get_tuple made_tt I1 x1 y1 q
  · exact zip_run nx_list nx_tuple get_list get_tuple made_lt I1 x1 y1 q
  · exact zip_run nx_tuple nx_list get_tuple get_list made_tl I1 x1 y1 q
end
end ZpM
namespace Dl
open PySem PySem.Spec PyProof.Rows L2 HbE Evl RZ Gx ZpM
variable [LmV.LamTable]
section
variable {X : Cx} {Ps : TX} {a b : PySem.Expr} {p pos : Pos} {K : PySem.W.Frag}
theorem itd_both {l : TX} {B : Hp} {S T : SQ} {p q : Addr} {xs ys : List V} {ds es : List PyData} (mS : ∀ {H H' : Hp} {a : Addr} {zs : List V}, Ex H H' → S H a zs → S H' a zs) (mT : ∀ {H H' : Hp} {a : Addr} {zs : List V}, Ex H H' → T H a zs → T H' a zs) (h1 : S B p xs) (h2 : T B q ys) (d1 : DpAll K B xs ds) (d2 : DpAll K B ys es) :
    ItD K l B (ItM S T p q) (List.zipWith (fun x y => PyData.tuple [x, y]) ds es) := fun M hs H wf e => by
  have l1 := mS msk_ex (mS e h1)
  have l2 := mT msk_ex (mT e h2)
  refine ⟨fun i d hi => ?_, xs, ys, l1, l2, ?_⟩
  · rw [List.getElem?_zipWith] at hi
    cases qx : ds[i]? with
    | none => rw [qx] at hi; simp at hi
    | some x =>
      cases qy : es[i]? with
      | none => rw [qx, qy] at hi; simp at hi
      | some y =>
        rw [qx, qy] at hi
        cases hi
        obtain ⟨v, a1, a2⟩ := d1.get qx
        obtain ⟨w, b1, b2⟩ := d2.get qy
        refine ⟨⟨xs, ys, v, w, l1, l2, a1, b1⟩, fun z H' t => ?_⟩
        obtain ⟨r, x', y', rfl, nr, rfl, f1, f2⟩ := t
        have k1 := f1 xs l1
        have k2 := f2 ys l2
        rw [a1] at k1
        rw [b1] at k2
        cases k1
        cases k2
        exact ⟨Step.of_ex (Ex.new nr), dp_newT wf nr (.cons (dp_mono e a2) (.cons (dp_mono e b2) .nil))⟩
  · have n1 := d1.len
    have n2 := d2.len
    rw [List.length_zipWith]
    omega
def dZip4 (da : DA) : DI := fun σ Q => da σ fun ws => match ws with
  | [.dat (.list ds), .dat (.list es)] => Q (List.zipWith (fun x y => PyData.tuple [x, y]) ds es)
  | [.dat (.tuple ds), .dat (.tuple es)] => Q (List.zipWith (fun x y => PyData.tuple [x, y]) ds es)
  | [.dat (.list ds), .dat (.tuple es)] => Q (List.zipWith (fun x y => PyData.tuple [x, y]) ds es)
  | [.dat (.tuple ds), .dat (.list es)] => Q (List.zipWith (fun x y => PyData.tuple [x, y]) ds es)
  | _ => False
theorem pid_zip4 {tpos : Pos} {elts : List PySem.Expr} {kk : Nat} {da : DA} (hg : Gl X "zip") (hm : X.mg "zip" = none) (ha : PA X [a, b] (liftA X.K Ps da)) (hs : starEach [a, b] X.env = (false, eval a X.env) :: starEach [b] X.env := by rfl) (hpl : (backTo pos (starEach [b] X.env)).any (·.1) = false := by rfl) :
    PI X (.Tuple elts kk tpos) (.Call (.Name "zip" p) [a, b] [] pos) (liftI X.K Ps (dZip4 da)) :=
  pi_weak (pi_zip4 hg hm ha hs hpl) fun σ H R ⟨c, hs, as, σd, Qd, S, hd, k⟩ => ⟨c, hs, as, σd, _, S, hd, fun ws vs H1 h1 s1 r1 => by
    split at h1
    · cases r1 with | cons q1 q2 => cases q2 with | cons q2 q3 => cases q3; cases q1 with | lst x1 x2 => cases q2 with | lst y1 y2 => exact ⟨_, _, _, _, rfl, .inl ⟨ex_l msk_ex x1, ex_l msk_ex y1, k _ _ H1 h1 s1 (itd_both ex_l ex_l x1 y1 x2 y2)⟩⟩
    · cases r1 with | cons q1 q2 => cases q2 with | cons q2 q3 => cases q3; cases q1 with | tup x1 x2 => cases q2 with | tup y1 y2 => exact ⟨_, _, _, _, rfl, .inr (.inl ⟨ex_t msk_ex x1, ex_t msk_ex y1, k _ _ H1 h1 s1 (itd_both ex_t ex_t x1 y1 x2 y2)⟩)⟩
    · cases r1 with | cons q1 q2 => cases q2 with | cons q2 q3 => cases q3; cases q1 with | lst x1 x2 => cases q2 with | tup y1 y2 => exact ⟨_, _, _, _, rfl, .inr (.inr (.inl ⟨ex_l msk_ex x1, ex_t msk_ex y1, k _ _ H1 h1 s1 (itd_both ex_l ex_t x1 y1 x2 y2)⟩))⟩
    · cases r1 with | cons q1 q2 => cases q2 with | cons q2 q3 => cases q3; cases q1 with | tup x1 x2 => cases q2 with | lst y1 y2 => exact ⟨_, _, _, _, rfl, .inr (.inr (.inr ⟨ex_t msk_ex x1, ex_l msk_ex y1, k _ _ H1 h1 s1 (itd_both ex_t ex_l x1 y1 x2 y2)⟩))⟩
    · exact h1.elim⟩
def gZip4 : List PyData → Rs (List PyData)
  | [.list ds, .list es] => .ok (List.zipWith (fun x y => PyData.tuple [x, y]) ds es)
  | [.tuple ds, .tuple es] => .ok (List.zipWith (fun x y => PyData.tuple [x, y]) ds es)
  | [.list ds, .tuple es] => .ok (List.zipWith (fun x y => PyData.tuple [x, y]) ds es)
  | [.tuple ds, .list es] => .ok (List.zipWith (fun x y => PyData.tuple [x, y]) ds es)
  | _ => .no
@[simp] def fZip4 (aa : FA) : FA := fun σ => (aa σ).bind gZip4
theorem le_zip4 {E : Xn → Prop} {aa : FA} {ad : DA} (ha : LeA (ofA E aa) ad) : LeI (ofI E (fZip4 aa)) (dZip4 ad) := fun σ Q h => ha σ _ (Sat.mono (Sat.bind h) fun ds h => by
  unfold gZip4 at h
  split at h
  · exact h
  · exact h
  · exact h
  · exact h
  · exact h.elim)
end
end Dl
end
section
set_option Elab.async false
set_option linter.all false
set_option maxRecDepth 100000
/-! the difference of two truths -/
namespace Dl
open PySem PySem.Spec PyProof.Rows L2 HbE Evl RZ Gx
variable [LmV.LamTable]
def rSubA : R2 := fun x y H Q => match x, y with
  | .int i, .int j => Q (.int (i - j)) H
  | .bl a, .bl b => Q (.int (b2i a - b2i b)) H
  | _, _ => False
theorem op_subA {X : Cx} : OpR X (binaryOp .Sub) rSubA := by
  intro pins s σ H x y v u Q I rx ry h
  unfold rSubA at h
  split at h
  · exact op_sub pins s σ H _ _ v u Q I rx ry ⟨_, _, rfl, rfl, h⟩
  · rename_i a b
    cases rx
    cases ry
    exact PyProof.Rows.sub_bool ⟨.int (b2i a - b2i b), H, I.tok _, ⟨_, rfl⟩, h⟩
  · exact h.elim
variable {K : PySem.W.Frag} {Ps : TX}
def fSubA : PyData → PyData → (PyData → Prop) → Prop := fun x y Q => match x, y with
  | .int i, .int j => Q (.int (i - j))
  | .bool a, .bool b => Q (.int (b2i a - b2i b))
  | _, _ => False
theorem op2_subA : Op2 K Ps rSubA fSubA := by
  intro M hs H v w x y Qd Q wf hx hy h k
  unfold fSubA at h
  split at h
  · cases hx; cases hy
    exact k _ _ H h Step.refl (.int _)
  · cases hx; cases hy
    exact k _ _ H h Step.refl (.int _)
  · exact h.elim
def gSubA : PyData → PyData → Option PyData := fun x y => match x, y with
  | .int i, .int j => some (.int (i - j))
  | .bool a, .bool b => some (.int (b2i a - b2i b))
  | _, _ => none
theorem leop_subA : LeOp gSubA fSubA := fun x y d Q e q => by
  unfold gSubA at e
  split at e
  · cases e; exact q
  · cases e; exact q
  · cases e
@[simp] theorem gSubA_int (i j : Int) : gSubA (.int i) (.int j) = some (.int (i - j)) := rfl
/-! ### a, b, .. = a sequence -/
section
variable {X : Cx} {Ps : TX} {es : List PySem.Expr} {ts : List Nat} {pos : Pos}
theorem pg_or {e : PySem.Expr} {t u : TG} (h : PG X e t) (k : PG X e u) : PG X e (fun v σ H Q => t v σ H Q ∨ u v σ H Q) := ⟨fun pins s σ H v a Q I r q => q.elim (h.run pins s σ H v a Q I r) (k.run pins s σ H v a Q I r)⟩
def gSeqD (n : Nat) (t : DGs) : DG := fun d σ Q => match d with
  | .tuple ds => ds.length = n ∧ t ds σ Q
  | .list ds => ds.length = n ∧ t ds σ Q
  | _ => False
theorem pgd_seq {k0 n : Nat} {t : DGs} (hc : X.calm = true) (h : PGs X es (liftGs X.K Ps ts t)) (hn : (assignEach es X.env).length = n := by rfl) (hst : (assignEach es X.env).findIdx? (·.1) = none := by rfl) : PG X (.Tuple es k0 pos) (liftG X.K Ps ts (gSeqD n t)) :=
  pg_weak (pg_or (pg_tup hc h hn hst) (L2.pg_lst hc h hn hst)) fun v σ H Q ⟨c, hs, as, σd, d, Qd, S, hd, hg, k⟩ => by
    unfold gSeqD at hg
    split at hg
    · cases hd with
      | tup h1 h2 => exact .inl ⟨_, _, rfl, ex_t msk_ex h1, by rw [h2.len]; exact hg.1, c, hs, as, σd, _, _, S, h2, hg.2, k⟩
    · cases hd with
      | lst h1 h2 => exact .inr ⟨_, _, rfl, ex_l msk_ex h1, by rw [h2.len]; exact hg.1, c, hs, as, σd, _, _, S, h2, hg.2, k⟩
    · exact hg.elim
@[simp] def fgSeq (n : Nat) (gs : FGs) : FG := fun d σ => match d with
  | .tuple ds => if ds.length = n then gs ds σ else .no
  | .list ds => if ds.length = n then gs ds σ else .no
  | _ => .no
theorem le_gSeq {E : Xn → Prop} {n : Nat} {gs : FGs} {dgs : DGs} (h : LeGs (ofGs E gs) dgs) : LeG (ofG E (fgSeq n gs)) (gSeqD n dgs) := fun d σ Q k => by
  unfold ofG fgSeq at k
  split at k
  · split at k
    · exact ⟨‹_›, h _ _ _ k⟩
    · exact k.elim
  · split at k
    · exact ⟨‹_›, h _ _ _ k⟩
    · exact k.elim
  · exact k.elim
end
end Dl
end
section
set_option maxRecDepth 100000
set_option maxHeartbeats 1000000
set_option Elab.async false
set_option linter.all false
/-! some[turn % len(some)], for some in several lists. -/
namespace Dl
open PySem PySem.Spec PyProof.Rows L2 HbE Evl RZ Gx
variable [LmV.LamTable]
def pick (t : Nat) : PyData → PyData
  | .list ds => ds.getD (t % ds.length) .none
  | d => d
def okL : PyData → Bool
  | .list ds => decide (0 < ds.length) && Nat.ble ds.length 100000
  | _ => false
end Dl
end
section
set_option Elab.async false
set_option linter.all false
set_option maxRecDepth 100000
set_option maxHeartbeats 1000000
/-! A loop over functions of the module, and a call of the loop's name; calls without arguments. -/
namespace Dl
open PySem PySem.Spec PyProof.Rows L2 HbE Evl RZ Gx HbX LamX
variable [LmV.LamTable]
/-- functions of the module, by name -/
inductive FnsAt (K : PySem.W.Frag) : List V → List Str → Prop
  | nil : FnsAt K [] []
  | cons {f : Addr} {n : Str} {vs : List V} {ns : List Str} : PySem.W.nsIn K mainGlobals n = some (some (.ref f)) → FnsAt K vs ns → FnsAt K (.ref f :: vs) (n :: ns)
theorem FnsAt.get {K : PySem.W.Frag} : ∀ {vs : List V} {ns : List Str} {i : Nat} {n : Str}, FnsAt K vs ns → ns[i]? = some n → ∃ f, vs[i]? = some (.ref f) ∧ PySem.W.nsIn K mainGlobals n = some (some (.ref f))
  | _, _, 0, _, .cons h _, e => by cases e; exact ⟨_, rfl, h⟩
  | _, _, i + 1, _, .cons _ h, e => by
    obtain ⟨f, e1, e2⟩ := h.get (i := i) (by simpa using e)
    exact ⟨f, by simpa using e1, e2⟩
theorem FnsAt.len {K : PySem.W.Frag} {vs : List V} {ns : List Str} (h : FnsAt K vs ns) : vs.length = ns.length := by
  induction h with
  | nil => rfl
  | cons _ _ ih => simp [ih]
def tVs (vs : List V) : TA := fun _ H Q => Q vs H
section
variable {X : Cx} {es : List PySem.Expr} {p pos : Pos}
end
def ItN (K : PySem.W.Frag) (Ps : TX) (B : Hp) (J : It) (ns : List Str) : Prop := ∀ (M : Addr → Prop) (hs : List Addr) (H : Hp), Wf Ps M hs H → Ex B (msk M H) →
  (∀ i n, ns[i]? = some n → J.go i H ∧ ∀ x H', J.yld i H x H' → H' = H ∧ ∃ f, x = .ref f ∧ PySem.W.nsIn K mainGlobals n = some (some (.ref f))) ∧ J.stop ns.length H
def forN (i : Nat) (tb : DS) (D : ED) : List Str → Sd → Prop
  | [], σ => D.nx σ
  | n :: ns, σ => tb { D with nx := forN i tb D ns, ct := forN i tb D ns, bk := D.nx } (σ.set i (some (.fn n)))
def dForN (i : Nat) (ns : List Str) (tb : DS) : DS := fun D σ => forN i tb D ns σ
section
variable {X : Cx} {Ps : TX} {tg : PySem.Expr} {bd : List Stmt} {es : List PySem.Expr} {p pos : Pos} {k0 i : Nat} {ns : List Str} {vs : List V}
end
/-! ### a call of a name that holds one of several functions -/
structure Held1 (P : Program) (w : World) (K : PySem.W.Frag) (mg : Str → Option Value) (base : Heap) (Ps : TbL) (k : Nat) (n : Str) (F : FF) : Prop where
  ex : ∃ (f : Addr) (fd : FuncData) (ps : List Str) (l : Nat), FnOk P w K mg base (L2.CX P w) l f fd ps (spX K Ps fun E => ofF E F) ∧ l ≤ k ∧ PySem.W.nsIn K mainGlobals n = some (some (.ref f)) ∧ PySem.W.keepIn K (.ref f) = true ∧ Binds K fd ps []
def HeldN (P : Program) (w : World) (K : PySem.W.Frag) (mg : Str → Option Value) (base : Heap) (Ps : TbL) (k : Nat) (tab : List (Str × FF)) : Prop := ∀ n F, tab.lookup n = some F → Held1 P w K mg base Ps k n F
section
variable {P : Program} {w : World} {K : PySem.W.Frag} {mg : Str → Option Value} {base : Heap} {Ps : TbL} {k : Nat}
theorem heldN_nil : HeldN P w K mg base Ps k [] := fun n F h => by cases h
theorem heldN_cons {n : Str} {F : FF} {tab : List (Str × FF)} {f : Addr} {fd : FuncData} {ps : List Str} {l : Nat} (G : FnOk P w K mg base (L2.CX P w) l f fd ps (spX K Ps fun E => ofF E F)) (hl : l ≤ k) (hn : PySem.W.nsIn K mainGlobals n = some (some (.ref f))) (hk : PySem.W.keepIn K (.ref f) = true) (hb : Binds K fd ps [])
    (t : HeldN P w K mg base Ps k tab) : HeldN P w K mg base Ps k ((n, F) :: tab) := fun m F' h => by
  rw [List.lookup_cons] at h
  split at h
  · rename_i e
    cases h
    have : m = n := eq_of_beq e
    subst this
    exact ⟨f, fd, ps, l, G, hl, hn, hk, hb⟩
  · exact t m F' h
end
def dCallV (Ed : Xn → Prop) (i : Nat) (tab : List (Str × FF)) (da : DA) : DE := fun σ Q => ∃ n F, σ[i]? = some (some (.fn n)) ∧ tab.lookup n = some F ∧ da σ fun ws => ofF Ed F ws Q
section
variable {X : Cx} {Ps : TX} {e : PySem.Expr} {es : List PySem.Expr} {p pos : Pos}
theorem pd_callV {x : Str} {i : Nat} {tab : List (Str × FF)} {k : Nat} {da : DA} (A : HeldN X.prog X.w X.K X.mg X.base Ps.l k tab) (tk : Takes X (fun cls d _ H => Ps.EE cls d H)) (hr : Room k X.A) (hN : X.N[i]? = some x) (hv : Vis X.env.scope x) (ha : PA X (e :: es) (liftA X.K Ps da))
    (hdb : (x == ("__debug__" : Str)) = false := by decide) (hcd : (x == ("__classdict__" : Str)) = false := by decide)
    (he : starEach (e :: es) X.env = (false, eval e X.env) :: starEach es X.env := by rfl) (hpl : (backTo pos (starEach es X.env)).any (·.1) = false := by rfl) : PE X (.Call (.Name x p) (e :: es) [] pos) (lift X.K Ps (dCallV Ps.Ed i tab da)) := by
  refine ⟨fun pins s σ H Q I ⟨c, hs, as, σd, Qd, S, ⟨n, F, e1, e2, hd⟩, k⟩ => ?_⟩
  obtain ⟨f, fd, ps, l, Fk, hl, hn, hk, hb⟩ := (A n F e2).ex
  obtain ⟨v, e3, f', rfl, hn'⟩ := S.slot i _ e1
  have : f' = f := by rw [hn] at hn'; cases hn'; rfl
  subst this
  exact (pe_callL (i := i) (f := f') (E := Ps.EE) Fk (hr.mono hl) hN hv hk hb .nil (passes_call tk fun _ _ _ _ h => h) ha hdb hcd he hpl).run pins s σ H Q I ⟨e3, c, hs, as, σd, _, S, hd, fun ws vs H1 h1 s1 r1 =>
    ⟨Mk c hs as, hs, ws, Qd, Ps.Ed, (S.step s1).fr.wf, by rw [List.append_nil]; exact r1, h1, fun d v H' h s r => k d v H' h (s1.trans s) r, fun x cls d H' h s r => S.raise (s1.trans s) h r⟩⟩
end
/-! ### as functions -/
section
variable {E : Xn → Prop}
def forNF (i : Nat) (b : FS) : List Str → FS
  | [], σ => .ok (.nx σ)
  | n :: ns, σ => (b (σ.set i (some (.fn n)))).bind fun w => match w with
    | .nx σ' => forNF i b ns σ'
    | .ct σ' => forNF i b ns σ'
    | .bk σ' => .ok (.nx σ')
    | .rt d => .ok (.rt d)
@[simp] def fForN (i : Nat) (ns : List Str) (b : FS) : FS := fun σ => forNF i b ns σ
@[simp] def fCallV (i : Nat) (tab : List (Str × FF)) (aa : FA) : FE := fun σ => match σ[i]? with
  | some (some (.fn n)) => match tab.lookup n with
    | some F => (aa σ).bind F
    | none => .no
  | _ => .no
end
/-! ### a, b, c = x, [..], y -/
section
variable {X : Cx} {Ps : TX} {pos : Pos} {dl : DL}
def dPar3M (i j l : Nat) (da : DE) (dl : DL) (db : DE) : DS := fun D σ => da σ fun x => dl σ fun ds => db σ fun y => D.nx (((σ.set i (some (.dat x))).set j (some (.own ds))).set l (some (.dat y)))
@[simp] def fPar3M (i j l : Nat) (fa : FE) (la : FA) (fb : FE) : FS := fun σ => (fa σ).bind fun x => (la σ).bind fun ds => (fb σ).bind fun y => .ok (.nx (((σ.set i (some (.dat x))).set j (some (.own ds))).set l (some (.dat y))))
end
end Dl
end
section
set_option Elab.async false
set_option linter.all false
set_option maxRecDepth 100000
set_option maxHeartbeats 1000000
/-! Steps of tails: a pick by a turn, a loop over a known list. -/
namespace Dl
open PySem PySem.Spec PyProof.Rows L2 HbE Evl RZ Gx
variable [LmV.LamTable]
/-! ### tuples of names and cells, a new list among the values -/
section
variable {X : Cx} {Ps : TX} {pos : Pos} {dl : DL}
end
end Dl
end
section
set_option Elab.async false
set_option linter.all false
set_option maxRecDepth 100000
set_option maxHeartbeats 1000000
/-! Comprehensions with two for. -/
namespace Dl
open PySem PySem.Spec PyProof.Rows L2 HbE Evl RZ Gx
variable [LmV.LamTable]
def OwnIn (σ2 σ : Sd) : Prop := ∀ (i : Nat) (es : List PyData), σ2[i]? = some (some (.own es)) → σ[i]? = some (some (.own es))
/-- a target that makes no list of the def's own -/
def OwnG (g : DG) : Prop := ∀ d σ Q, g d σ Q → g d σ fun σ2 => Q σ2 ∧ OwnIn σ2 σ
def OwnGs (g : DGs) : Prop := ∀ ds σ Q, g ds σ Q → g ds σ fun σ2 => Q σ2 ∧ OwnIn σ2 σ
theorem own_set {i : Nat} : OwnG (gSet i) := fun d σ Q q => ⟨q, fun j es e => by
  rcases set_get e with ⟨_, z⟩ | ⟨_, e⟩
  · cases z
  · exact e⟩
def MonG (g : DG) : Prop := ∀ d σ Q Q', g d σ Q → (∀ s, Q s → Q' s) → g d σ Q'
def MonGs (g : DGs) : Prop := ∀ d σ Q Q', g d σ Q → (∀ s, Q s → Q' s) → g d σ Q'
def lc2D (g : DG) (tt : DT) (di1 : DI) (g1 : DG) (tt1 : DT) (te : DE) (vs1 : List Nat) (σ0 : Sd) (Q : List PyData → Prop) : List PyData → List PyData → Prop
  | [], acc => Q acc
  | d :: ds, acc => g d σ0 fun σ2 => tt σ2 fun b => if b = true then di1 σ2 fun es => acc.length + es.length ≤ 100000 ∧ lcD g1 tt1 te (wipeD σ2 vs1) (fun acc2 => lc2D g tt di1 g1 tt1 te vs1 σ0 Q ds acc2) es acc
    else lc2D g tt di1 g1 tt1 te vs1 σ0 Q ds acc
def dLc2 (di : DI) (g : DG) (tt : DT) (di1 : DI) (g1 : DG) (tt1 : DT) (te : DE) (vs vs1 : List Nat) : DL := fun σ Q => di σ fun ds => lc2D g tt di1 g1 tt1 te vs1 (wipeD σ vs) Q ds []
theorem wipe_wipe {σ : L2.St} {vs : List Nat} : wipe (wipe σ vs) vs = wipe σ vs := wipe_ext (by rw [wipe_length]) fun j hj => wipe_out hj
theorem lift_lc2 {K : PySem.W.Frag} {Ps : TX} {di di1 : DI} {g g1 : DG} {tt tt1 : DT} {te : DE} {ts ts1 vs vs1 : List Nat} {σ : L2.St} {H : Hp} {Q : VK} (og : OwnG g) (hts : ∀ t ∈ ts, t ∈ vs) (hts1 : ∀ t ∈ ts1, t ∈ vs1) (h : liftN K Ps (dLc2 di g tt di1 g1 tt1 te vs vs1) σ H Q) :
    tLc2 (liftI K Ps di) (liftG K Ps ts g) (liftT K Ps tt) (liftI K Ps di1) (liftG K Ps ts1 g1) (liftT K Ps tt1) (lift K Ps te) vs vs1 σ H Q := by
  obtain ⟨c, hs, as, σd, Qd, S, h, k⟩ := h
  refine ⟨c, hs, as, σd, _, S, h, fun ds J H1 h1 s1 it D hD => ?_⟩
  have T := S.step s1
  have s2 : Step hs Ps H1 (upd H1 D (.lst [])) := Step.of_ex (Ex.new hD)
  have U := (T.beside s2 hD upd_same).wipe vs
  have exB : Ex (msk (Mk c hs as) H1) (msk (Mk c hs (D :: as)) (upd H1 D (.lst []))) := ex_own T.fr s2 hD
  have npD : ∀ (i : Nat) (es : List PyData), σd[i]? = some (some (.own es)) → σ[i]? ≠ some (some (.ref D)) := fun j es q z => by
    obtain ⟨v, q1, a, us, rfl, ha, q2, _⟩ := T.slot j _ q
    rw [q1] at z
    cases z
    rw [hD] at q2; cases q2
  have npW : ∀ (i : Nat) (es : List PyData), (wipeD σd vs)[i]? = some (some (.own es)) → (wipe σ vs)[i]? ≠ some (some (.ref D)) := fun j es q1 q2 => by
    obtain ⟨q3, q4⟩ := wipeD_some q1
    rw [wipe_out q4] at q2
    exact npD j es q3 q2
  -- a heap that keeps all but D keeps what stood ahead of the comprehension
  have upS : ∀ {H4 : Hp} {acc acc2 : List V}, Step hs Ps H H4 → H4 D = some (.lst acc) → (D ∉ hs) → (D ∉ ad Ps.l) → Step hs Ps H (upd H4 D (.lst acc2)) := fun {H4 acc acc2} sH4 hl dh dp => by
    refine ⟨fun a o q n1 n2 => ?_, fun p hp q => ?_, fun P hP q => ?_⟩
    · have na : a ≠ D := fun z => by
        have : H D ≠ none := by rw [← z, q]; simp
        exact absurd hD (s1.some S.fr.wf this)
      rw [upd_ne na]
      exact sH4.keep a o q n1 n2
    · have na : p ≠ D := fun z => dh (z ▸ hp)
      rw [upd_ne na]
      exact sH4.hat p hp q
    · have na : P.1 ≠ D := fun z => dp (z ▸ ad_of hP)
      exact (sH4.tab P hP q).keep (upd_ne na) fun c q z => by rw [upd_ne fun y => codeO_lst (by rw [y] at z; exact Option.some.inj (z.symm.trans hl))]; exact z
  refine ⟨fun i m H' => i + m = ds.length ∧ ∃ acc accd, Sts K Ps c hs (D :: as) (wipe σ vs) H' (wipeD σd vs) ∧ Ex (msk (Mk c hs as) H1) (msk (Mk c hs (D :: as)) H') ∧ Step hs Ps H H' ∧ H' D = some (.lst acc) ∧ DpAll K (msk (Mk c hs (D :: as)) H') acc accd ∧ lc2D g tt di1 g1 tt1 te vs1 (wipeD σd vs) Qd (ds.drop i) accd,
    ⟨ds.length, by omega, [], [], U, exB, s1.trans s2, upd_same, .nil, h1⟩, ?_⟩
  rintro i m H' ⟨em, acc, accd, V, eB, sH, hDl, hA, hl⟩
  obtain ⟨hgo, hst⟩ := it _ _ _ V.fr.wf eB
  have oD : ∀ {H3 H4 : Hp} {acc : List _}, Step hs Ps H3 H4 → H3 D = some (.lst acc) → H4 D = some (.lst acc) := fun s e => s.keep D _ e (V.fr.own D List.mem_cons_self).2.2.1 (V.fr.own D List.mem_cons_self).2.2.2
  by_cases hi : i < ds.length
  · rw [List.drop_eq_getElem_cons hi] at hl
    obtain ⟨g1', g2⟩ := hgo i ds[i] (List.getElem?_eq_getElem hi)
    refine .inr ⟨g1', fun H2 => i + 1 + (m - 1) = ds.length ∧ ∃ acc accd, Sts K Ps c hs (D :: as) (wipe σ vs) H2 (wipeD σd vs) ∧ Ex (msk (Mk c hs as) H1) (msk (Mk c hs (D :: as)) H2) ∧ Step hs Ps H H2 ∧ H2 D = some (.lst acc) ∧ DpAll K (msk (Mk c hs (D :: as)) H2) acc accd ∧ lc2D g tt di1 g1 tt1 te vs1 (wipeD σd vs) Qd (ds.drop (i + 1)) accd,
      fun H2 q => ⟨m - 1, by omega, q⟩, fun x H2 y => ?_⟩
    obtain ⟨s3, rx⟩ := g2 x H2 y
    have hD2 := oD s3 hDl
    have e23 := V.fr.wf.ex s3
    refine ⟨c, hs, D :: as, _, ds[i], _, V.step s3, rx, og _ _ _ hl, fun σ3 σd3 T3 w3 ⟨q3, o3⟩ => ⟨?_, ?_⟩⟩
    · have a := wipe_more (us := vs) w3 hts
      rw [a]
      exact wipe_wipe
    · have w3' := wipe_more (us := vs) w3 hts
      have np3 : ∀ (i : Nat) (es : List PyData), σd3[i]? = some (some (.own es)) → σ3[i]? ≠ some (some (.ref D)) := fun j es q1 q2 => by
        obtain ⟨q3, q4⟩ := wipeD_some (o3 j es q1)
        have q5 : (wipe σ3 vs)[j]? = (wipe (wipe σ vs) vs)[j]? := by rw [w3']
        rw [wipe_out q4, wipe_out q4, wipe_out q4] at q5
        rw [q5] at q2
        exact npD j es q3 q2
      refine ⟨c, hs, D :: as, σd3, _, T3, q3, fun b H3 hb s4 => ?_⟩
      have s34 := s3.trans s4
      have e4 := T3.fr.wf.ex s4
      cases b with
      | true =>
        rw [if_pos rfl] at hb
        dsimp only
        rw [if_pos rfl]
        refine ⟨c, hs, D :: as, σd3, _, T3.step s4, hb, fun es J1 H4 h4 s5 it1 => ?_⟩
        obtain ⟨hlen, h4⟩ := h4
        have e5 := (T3.step s4).fr.wf.ex s5
        refine ⟨fun j k H'' => j + k = es.length ∧ ∃ acc2 accd2, Sts K Ps c hs (D :: as) (wipe σ vs) H'' (wipeD σd vs) ∧ Sts K Ps c hs (D :: as) σ3 H'' σd3 ∧ Ex (msk (Mk c hs (D :: as)) H4) (msk (Mk c hs (D :: as)) H'') ∧ Ex (msk (Mk c hs as) H1) (msk (Mk c hs (D :: as)) H'') ∧ Step hs Ps H H'' ∧ H'' D = some (.lst acc2) ∧
            DpAll K (msk (Mk c hs (D :: as)) H'') acc2 accd2 ∧ accd2.length ≤ accd.length + j ∧ lcD g1 tt1 te (wipeD σd3 vs1) (fun acc2 => lc2D g tt di1 g1 tt1 te vs1 (wipeD σd vs) Qd (ds.drop (i + 1)) acc2) (es.drop j) accd2,
          ⟨es.length, by omega, acc, accd, ((V.step s3).step s4).step s5, (T3.step s4).step s5, Ex.refl _, eB.trans ((e23.trans e4).trans e5), sH.trans (s34.trans s5), oD s5 (oD s4 hD2), dpAll_mono ((e23.trans e4).trans e5) hA, by omega, h4⟩, ?_⟩
        rintro j k' H'' ⟨ej, acc2, accd2, V2, T5, e45, eB2, sH2, hDl2, hA2, hAl2, hl2⟩
        obtain ⟨hgo1, hst1⟩ := it1 _ _ _ T5.fr.wf e45
        by_cases hj : j < es.length
        · rw [List.drop_eq_getElem_cons hj] at hl2
          obtain ⟨g3, g4⟩ := hgo1 j es[j] (List.getElem?_eq_getElem hj)
          refine .inr ⟨g3, fun H2 => j + 1 + (k' - 1) = es.length ∧ ∃ acc2 accd2, Sts K Ps c hs (D :: as) (wipe σ vs) H2 (wipeD σd vs) ∧ Sts K Ps c hs (D :: as) σ3 H2 σd3 ∧ Ex (msk (Mk c hs (D :: as)) H4) (msk (Mk c hs (D :: as)) H2) ∧ Ex (msk (Mk c hs as) H1) (msk (Mk c hs (D :: as)) H2) ∧ Step hs Ps H H2 ∧ H2 D = some (.lst acc2) ∧
            DpAll K (msk (Mk c hs (D :: as)) H2) acc2 accd2 ∧ accd2.length ≤ accd.length + (j + 1) ∧ lcD g1 tt1 te (wipeD σd3 vs1) (fun acc2 => lc2D g tt di1 g1 tt1 te vs1 (wipeD σd vs) Qd (ds.drop (i + 1)) acc2) (es.drop (j + 1)) accd2,
            fun H2 q => ⟨k' - 1, by omega, q⟩, fun x1 H6 y1 => ?_⟩
          obtain ⟨s6, rx1⟩ := g4 x1 H6 y1
          have e6 := T5.fr.wf.ex s6
          refine ⟨c, hs, D :: as, _, es[j], _, (T5.step s6).wipe vs1, rx1, hl2, fun σ7 σd7 T7 w7 q7 => ⟨?_, ?_⟩⟩
          · have a := wipe_more (us := vs1) w7 hts1
            rw [a]
            exact wipe_wipe
          · refine ⟨c, hs, D :: as, σd7, _, T7, q7, fun b1 H7 hb1 s7 => ?_⟩
            have e7 := T7.fr.wf.ex s7
            cases b1 with
            | true =>
              rw [if_pos rfl] at hb1
              dsimp only
              rw [if_pos rfl]
              refine ⟨c, hs, D :: as, σd7, _, T7.step s7, hb1, fun d z H8 h8 s8 r8 => ⟨acc2, oD s8 (oD s7 (oD s6 hDl2)), sz_lt (by rw [hA2.len]; omega), by omega, acc2 ++ [z], accd2 ++ [d], ?_⟩⟩
              have e8 := (T7.step s7).fr.wf.ex s8
              have hD8 := oD s8 (oD s7 (oD s6 hDl2))
              have V4 : Sts K Ps c hs (D :: as) (wipe σ vs) H8 (wipeD σd vs) := ((V2.step s6).step s7).step s8
              have T8 : Sts K Ps c hs (D :: as) σ3 H8 σd3 := ((T5.step s6).step s7).step s8
              obtain ⟨V5, e9⟩ := V4.beside_upd (vs := acc2 ++ [z]) hD8 npW
              obtain ⟨T9, _⟩ := T8.beside_upd (vs := acc2 ++ [z]) hD8 np3
              have all := ((e6.trans e7).trans e8).trans e9
              exact ⟨V5, T9, e45.trans all, eB2.trans all, upS (sH2.trans ((s6.trans s7).trans s8)) hD8 (V.fr.own D List.mem_cons_self).2.2.1 (V.fr.own D List.mem_cons_self).2.2.2, upd_same, (dpAll_mono all hA2).app (.cons (dp_mono e9 r8) .nil), by simp; omega, h8⟩
            | false =>
              rw [if_neg (by simp)] at hb1
              dsimp only
              rw [if_neg (by simp)]
              exact ⟨by omega, acc2, accd2, (V2.step s6).step s7, (T5.step s6).step s7, e45.trans (e6.trans e7), eB2.trans (e6.trans e7), sH2.trans (s6.trans s7), oD s7 (oD s6 hDl2), dpAll_mono (e6.trans e7) hA2, by omega, hb1⟩
        · rw [List.drop_eq_nil_of_le (Nat.le_of_not_lt hj)] at hl2
          exact .inl ⟨(show j = es.length by omega) ▸ hst1, by omega, acc2, accd2, V2, eB2, sH2, hDl2, hA2, hl2⟩
      | false =>
        rw [if_neg (by simp)] at hb
        dsimp only
        rw [if_neg (by simp)]
        exact ⟨by omega, acc, accd, (V.step s3).step s4, eB.trans (e23.trans e4), sH.trans s34, oD s4 hD2, dpAll_mono (e23.trans e4) hA, hb⟩
  · rw [List.drop_eq_nil_of_le (Nat.le_of_not_lt hi)] at hl
    refine .inl ⟨(show i = ds.length by omega) ▸ hst, k accd D acc H' hl sH ?_ hDl hA⟩
    exact none_of S.fr s1 hD
theorem pn_lc2 {X : Cx} {Ps : TX} {elt tg iter tg1 iter1 : PySem.Expr} {ifs ifs1 : List PySem.Expr} {scope : Scope} {own : List (Str × Nat)} {vs1 : List Nat} {pos : Pos} {di di1 : DI} {g g1 : DG} {tt tt1 : DT} {te : DE} {ts ts1 : List Nat} (hc : X.calm = true) (hN : X.N.Nodup) (og : OwnG g) (hi : PI X tg iter (liftI X.K Ps di)) (ok : BlkOk X.N X.env.scope scope own)
    (hg : ∀ (s : Shared) (H : Hp) (C : Addr) (cl : List (Str × Addr)) (fp : List Addr), PG (X.blk s H scope (compEnvC scope cl C X.env) fp) tg (liftG X.K Ps ts g))
    (ht : ∀ (s : Shared) (H : Hp) (C : Addr) (cl : List (Str × Addr)) (fp : List Addr), PTs (X.blk s H scope (compEnvC scope cl C X.env) fp) ifs (liftT X.K Ps tt))
    (hi1 : ∀ (s : Shared) (H : Hp) (C : Addr) (cl : List (Str × Addr)) (fp : List Addr), PI (X.blk s H scope (compEnvC scope cl C X.env) fp) tg1 iter1 (liftI X.K Ps di1))
    (hg1 : ∀ (s : Shared) (H : Hp) (C : Addr) (cl : List (Str × Addr)) (fp : List Addr), PG (X.blk s H scope (compEnvC scope cl C X.env) fp) tg1 (liftG X.K Ps ts1 g1))
    (ht1 : ∀ (s : Shared) (H : Hp) (C : Addr) (cl : List (Str × Addr)) (fp : List Addr), PTs (X.blk s H scope (compEnvC scope cl C X.env) fp) ifs1 (liftT X.K Ps tt1))
    (he : ∀ (s : Shared) (H : Hp) (C : Addr) (cl : List (Str × Addr)) (fp : List Addr), PE (X.blk s H scope (compEnvC scope cl C X.env) fp) elt (lift X.K Ps te))
    (hs : ∀ x, foldedSetIterable iter X.env x = pure x := by intro _; rfl) (hs1 : ∀ env x, foldedSetIterable iter1 env x = pure x := by intro _ _; rfl) (hts : ∀ t ∈ ts, t ∈ own.map (·.2) := by decide) (hts1 : ∀ t ∈ ts1, t ∈ vs1 := by decide) (hv : ∀ t ∈ vs1, t ∈ own.map (·.2) := by decide) :
    PE X (.ListComp elt [⟨tg, iter, ifs, 0⟩, ⟨tg1, iter1, ifs1, 0⟩] scope pos) (liftN X.K Ps (dLc2 di g tt di1 g1 tt1 te (own.map (·.2)) vs1)) := pe_weak (pe_lc2 hc hN hi ok hv hg ht hi1 hg1 ht1 he hs hs1) fun _ _ _ => lift_lc2 og hts hts1
/-! ### as functions -/
section
variable {E : Xn → Prop} {fi fi1 : FA} {fg fg1 : FG} {ft ft1 : FT} {fa : FE} {di di1 : DI} {dg dg1 : DG} {dt dt1 : DT} {da : DE}
def lc2F (g : FG) (t : FT) (i1 : FA) (g1 : FG) (t1 : FT) (e : FE) (vs1 : List Nat) (σ0 : Sd) : List PyData → Nat → Rs (List PyData)
  | [], _ => .ok []
  | d :: ds, n => (g d σ0).bind fun σ2 => (t σ2).bind fun b => if b = true then (i1 σ2).bind fun es => if lim (n + es.length) = true then (lcF g1 t1 e (wipeD σ2 vs1) es).bind fun ys => (lc2F g t i1 g1 t1 e vs1 σ0 ds (n + ys.length)).bind fun zs => .ok (ys ++ zs) else .no
    else lc2F g t i1 g1 t1 e vs1 σ0 ds n
@[simp] def fLc2 (fi : FA) (g : FG) (t : FT) (i1 : FA) (g1 : FG) (t1 : FT) (e : FE) (vs vs1 : List Nat) : FA := fun σ => (fi σ).bind fun ds => lc2F g t i1 g1 t1 e vs1 (wipeD σ vs) ds 0
theorem lc2F_le {vs1 : List Nat} (hg : LeG (ofG E fg) dg) (ht : LeT (ofT E ft) dt) (hi1 : LeI (ofI E fi1) di1) (hg1 : LeG (ofG E fg1) dg1) (ht1 : LeT (ofT E ft1) dt1) (he : LeE (ofE E fa) da) {σ0 : Sd} : ∀ {ds acc : List PyData} {Q : List PyData → Prop}, (lc2F fg ft fi1 fg1 ft1 fa vs1 σ0 ds acc.length).Sat E (fun ys => Q (acc ++ ys)) → lc2D dg dt di1 dg1 dt1 da vs1 σ0 Q ds acc
  | [], acc, Q, h => by
    have h : Q (acc ++ []) := h
    rw [List.append_nil] at h
    exact h
  | d :: ds, acc, Q, h => hg d σ0 _ (Sat.mono (Sat.bind h) fun σ2 h => ht σ2 _ (Sat.mono (Sat.bind h) fun b h => by
    cases b with
    | true =>
      rw [if_pos rfl] at h ⊢
      refine hi1 σ2 _ (Sat.mono (Sat.bind h) fun es h => ?_)
      by_cases e : lim (acc.length + es.length) = true
      · rw [if_pos e] at h
        refine ⟨Nat.le_of_ble_eq_true e, lcF_le hg1 ht1 he (Sat.mono (Sat.bind h) fun ys h => lc2F_le hg ht hi1 hg1 ht1 he ?_)⟩
        rw [List.length_append]
        refine Sat.mono (Sat.bind h) fun zs h => ?_
        have h : Q (acc ++ (ys ++ zs)) := h
        rw [List.append_assoc]
        exact h
      · rw [if_neg e] at h
        exact h.elim
    | false =>
      rw [if_neg (by simp)] at h ⊢
      exact lc2F_le hg ht hi1 hg1 ht1 he h))
theorem le_lc2 {vs vs1 : List Nat} (hi : LeI (ofI E fi) di) (hg : LeG (ofG E fg) dg) (ht : LeT (ofT E ft) dt) (hi1 : LeI (ofI E fi1) di1) (hg1 : LeG (ofG E fg1) dg1) (ht1 : LeT (ofT E ft1) dt1) (he : LeE (ofE E fa) da) : LeL (ofL E (fLc2 fi fg ft fi1 fg1 ft1 fa vs vs1)) (dLc2 di dg dt di1 dg1 dt1 da vs vs1) := fun σ Q h =>
  hi σ _ (Sat.mono (Sat.bind h) fun ds h => lc2F_le (acc := []) hg ht hi1 hg1 ht1 he (Sat.mono h fun ys h => h))
end
end Dl
end
section
set_option maxRecDepth 100000
namespace ZnS
open PySem PySem.Spec PyProof.Rows L2 ZpM
variable [LmV.LamTable]
theorem nc (a : Value) (l : List Value) : checkBuiltinCall "zip.__new__" ⟨.type "zip" :: a :: l, []⟩ = pure () := by kernel_rfl
def zo (b n : Nat) (f0 : Value) (f1 : Bool) : Obj := { cls := .type "zip", data := .fields #[f0, .bool f1, .bool false, .ref (b + n), .ref (b + n + 1)] }
def tup (us : List Value) : Obj := { cls := .type "tuple", data := .seq us.toArray }
def jsL (b n : Nat) : List Value := (List.range n).map fun k => Value.ref (b + k)
section
variable {P : Program} {w : World} {A : Around} {E : Value → Shared → Prop} {s : Shared} {b n : Nat} {f0 : Value} {f1 : Bool}
structure St (h : Heap) (b n : Nat) (as : List Addr) (i : Nat) : Prop where
  zip : ∃ (f0 : Value) (f1 : Bool), (f0 = .none ∨ ∃ a : Int, f0 = rawInt a) ∧ h.get? (b + n + 2) = some (zo b n f0 f1)
  ti : h.get? (b + n) = some (tup (jsL b n))
  out : ∃ os : List Value, os.length = n ∧ h.get? (b + n + 1) = some (tup os)
  it : ∀ (k : Nat) (a : Addr), as[k]? = some a → Ic "tuple_iterator" h (b + k) a i
/-- amid the making of a tuple in the iterator's own: k of the items are there -/
structure Fr (h g : Heap) (b n : Nat) (as : List Addr) (i : Nat) (us os : List Value) (f1 : Bool) (k : Nat) : Prop where
  zip : g.get? (b + n + 2) = some (zo b n .ellipsis f1)
  ti : g.get? (b + n) = some (tup (jsL b n))
  out : g.get? (b + n + 1) = some (tup (us.take k ++ os.drop k))
  it : ∀ (k' : Nat) (a : Addr), as[k']? = some a → Ic "tuple_iterator" g (b + k') a (if k' < k then i + 1 else i)
  size : g.objs.size = h.objs.size
  old : ∀ (c : Nat) (o : Obj), (c < b ∨ b + n + 2 < c) → h.get? c = some o → g.get? c = some o
/-- amid the making of a new tuple -/
structure Fg (h g : Heap) (b n : Nat) (as : List Addr) (i : Nat) (f0 : Value) (k : Nat) : Prop where
  zip : g.get? (b + n + 2) = some (zo b n f0 true)
  ti : g.get? (b + n) = some (tup (jsL b n))
  out : ∃ os : List Value, os.length = n ∧ g.get? (b + n + 1) = some (tup os)
  it : ∀ (k' : Nat) (a : Addr), as[k']? = some a → Ic "tuple_iterator" g (b + k') a (if k' < k then i + 1 else i)
  size : g.objs.size = h.objs.size
  old : ∀ (c : Nat) (o : Obj), (c < b ∨ b + n + 2 < c) → h.get? c = some o → g.get? c = some o
/-- amid the making of the iterators -/
structure Fn (h g : Heap) (as : List Addr) (k : Nat) : Prop where
  it : ∀ (j : Nat) (a : Addr), as[j]? = some a → j < k → Ic "tuple_iterator" g (h.objs.size + j) a 0
  size : g.objs.size = h.objs.size + k
  old : ∀ (c : Nat) (o : Obj), h.get? c = some o → g.get? c = some o
section
variable {P : Program} {w : World} {A : Around} {E : Value → Shared → Prop} {s : Shared}
end
end
def colAt {α : Type} (i : Nat) : List (List α) → Option (List α)
  | [] => some []
  | xs :: r => match xs[i]?, colAt i r with
    | some x, some ys => some (x :: ys)
    | _, _ => none
abbrev TupsAt (K : PySem.W.Frag) (H : Hp) : List Addr → List (List V) → Prop := Paired fun a xs => SqT K H a xs
section
variable {X : Cx} {pins : List (Addr × Obj)} {σ : L2.St} {H : Hp} {s : Shared}
end
def ItZ (K : PySem.W.Frag) (as : List Addr) : It :=
  ⟨fun i H => ∃ xss xs, TupsAt K H as xss ∧ colAt i xss = some xs,
    fun i H v H' => ∃ p xs, v = .ref p ∧ H p = none ∧ H' = upd H p (.tup xs) ∧ ∀ xss, TupsAt K H as xss → colAt i xss = some xs,
    fun i H => ∃ a xs, as[0]? = some a ∧ SqT K H a xs ∧ xs.length ≤ i⟩
def fpL (b n : Nat) : List Addr := (List.range (n + 3)).map fun k => b + k
theorem St.none {h g : Heap} {b n i : Nat} {as : List Addr} {f1 : Bool} (st : St h b n as i) (hl : as.length = n) (z : g.get? (b + n + 2) = some (zo b n .none f1)) (sb : Heap.SameBut (b + n + 2) h g) : St g b n as i :=
  ⟨⟨.none, f1, .inl rfl, z⟩, sb.extBut _ _ (fun (h : (_ : Nat) = _) => by omega) st.ti, st.out.elim fun os q => ⟨os, q.1, sb.extBut _ _ (fun (h : (_ : Nat) = _) => by omega) q.2⟩, fun k a e => by
    have lt := (List.getElem?_eq_some_iff.mp e).1
    exact (st.it k a e).mv sb.extBut (fun (h : (_ : Nat) = _) => by omega)⟩
/-- zip(*e), e a list or a tuple of tuples -/
def iZipS (K : PySem.W.Frag) (te : TE) : TI := fun σ H R => te σ H fun v H1 => ∃ a as a0 xss, v = .ref a ∧ (SqT K H1 a (as.map .ref) ∨ SqL K H1 a (as.map .ref)) ∧ TupsAt K H1 as xss ∧ as[0]? = some a0 ∧ as.length ≤ 1000 ∧ R (ItZ K as) H1
section
variable {X : Cx} {tg e : PySem.Expr} {te : TE} {p p2 pos : Pos}
end
end ZnS
namespace Dl
open PySem PySem.Spec PyProof.Rows L2 HbE Evl RZ Gx ZnS
variable [LmV.LamTable]
def rowsT : List PyData → Option (List (List PyData))
  | [] => some []
  | .tuple ds :: r => match rowsT r with
    | some x => some (ds :: x)
    | none => none
  | _ => none
def colsF (dss : List (List PyData)) : Nat → Nat → Option (List PyData)
  | _, 0 => some []
  | i, k + 1 => match colAt i dss, colsF dss (i + 1) k with
    | some c, some r => some (.tuple c :: r)
    | _, _ => none
def zipR (rows : List PyData) : Option (List PyData) := match rowsT rows with
  | some dss => if Nat.ble dss.length 1000 = true then match dss with
      | r :: _ => colsF dss 0 r.length
      | [] => none
    else none
  | none => none
def zipO : PyData → Option (List PyData)
  | .list rows => zipR rows
  | .tuple rows => zipR rows
  | _ => none
section
variable {K : PySem.W.Frag} {H H' : Hp}
end
def dZipS (de : DE) : DI := fun σ Q => de σ fun d => ∃ cols, zipO d = some cols ∧ Q cols
section
variable {X : Cx} {Ps : TX} {tg e : PySem.Expr} {p p2 pos : Pos}
@[simp] def fZipS (fe : FE) : FA := fun σ => (fe σ).bind fun d => Rs.ofO (zipO d)
end
end Dl
end
section
set_option Elab.async false
set_option linter.all false
set_option maxRecDepth 100000
set_option maxHeartbeats 1000000
/-! math.comb; tuples of ints of the module. -/
namespace PySem.W
open PySem PySem.Calls
def combV (a b : Int) : Int := Builtin.Math.fallingProduct a (min b (a - b)).toNat / Builtin.Math.fallingProduct (min b (a - b)) (min b (a - b)).toNat
end PySem.W
namespace L2
open PySem PySem.Spec PyProof.Rows PySem.Calls
def combOk (a b : Int) : Bool := decide (0 ≤ b) && decide (b ≤ a) && decide (a ≤ 9000) && Nat.ble (PySem.W.combV a b).natAbs.log2 100000
def rComb : List V → Hp → VK → Prop := fun vs H Q => ∃ a b : Int, vs = [.int a, .int b] ∧ combOk a b = true ∧ Q (.int (PySem.W.combV a b)) H
end L2
namespace Dl
open PySem PySem.Spec PyProof.Rows L2 HbE Evl RZ Gx HbX
variable [LmV.LamTable]
def fComb : List PyData → (PyData → Prop) → Prop := fun ds Q => match ds with
  | [.int i, .int j] => combOk i j = true ∧ Q (.int (PySem.W.combV i j))
  | _ => False
def gComb : List PyData → Option PyData
  | [.int i, .int j] => if combOk i j = true then some (.int (PySem.W.combV i j)) else none
  | _ => none
/-! ### tuples of ints of the module -/
def TupK (K : PySem.W.Frag) (a : Addr) (ns : List Int) : Prop := ∃ (o : Obj) (its : Array Value) (n : Nat), K.lookup a = some o ∧ o.cls = .type "tuple" ∧ o.data = .seq its n ∧ its.size ≤ sizeLine ∧ Vals (ns.map V.int) its.toList
def intsB : List Int → List Value → Bool
  | [], [] => true
  | n :: ns, .int i _ :: vs => decide (n = i) && intsB ns vs
  | _, _ => false
def tupKB (K : PySem.W.Frag) (a : Addr) (ns : List Int) : Bool := match K.lookup a with
  | some o => match o.cls, o.data with
    | .type c, .seq its _ => (c == "tuple") && Nat.ble its.size 1000 && intsB ns its.toList
    | _, _ => false
  | none => false
section
variable {X : Cx} {Ps : TX} {p : Pos}
end
section
variable {X : Cx} {Ps : TX} {i : Nat} {y : Str} {py spos pos : Pos} {elt tg iter tg1 iter1 : PySem.Expr} {ifs ifs1 : List PySem.Expr} {scope : Scope} {own : List (Str × Nat)} {vs1 : List Nat} {di di1 : DI} {g g1 : DG} {tt tt1 : DT} {te : DE} {ts ts1 : List Nat}
end
end Dl
end
section
set_option Elab.async false
set_option linter.all false
set_option maxRecDepth 100000
set_option maxHeartbeats 1000000
/-! sorted(list) of tuples of ints of one length: any ints, any number of tuples. -/
namespace SrB
open PySem PySem.Spec PyProof.Rows
open PySem PyProof.Rows Srt
def lexL : List Int → List Int → Bool
  | [], [] => false
  | [], _ :: _ => true
  | _ :: _, [] => false
  | x :: a, y :: b => if x = y then lexL a b else decide (x < y)
theorem lexL_asym : ∀ {a b : List Int}, lexL a b = true → lexL b a = false
  | [], [], h => by cases h
  | [], _ :: _, _ => rfl
  | _ :: _, [], h => by cases h
  | x :: a, y :: b, h => by
    unfold lexL at h ⊢
    by_cases e : x = y
    · rw [if_pos e] at h
      rw [if_pos e.symm]
      exact lexL_asym h
    · rw [if_neg e, decide_eq_true_eq] at h
      rw [if_neg (fun z => e z.symm), decide_eq_false_iff_not]
      omega
theorem lexL_tr : ∀ {a b c : List Int}, lexL b a = false → lexL c b = false → lexL c a = false
  | [], _, [], _, _ => rfl
  | _ :: _, [], _, h, _ => by cases h
  | [], [], _ :: _, _, _ => rfl
  | _, _ :: _, [], _, h => by cases h
  | [], _ :: _, _ :: _, h, _ => rfl
  | x :: a, y :: b, z :: c, h1, h2 => by
    unfold lexL at h1 h2 ⊢
    by_cases e1 : y = x
    · by_cases e2 : z = y
      · rw [if_pos e1] at h1
        rw [if_pos e2] at h2
        rw [if_pos (e2.trans e1)]
        exact lexL_tr h1 h2
      · rw [if_neg e2, decide_eq_false_iff_not] at h2
        rw [if_neg (by omega), decide_eq_false_iff_not]
        omega
    · rw [if_neg e1, decide_eq_false_iff_not] at h1
      by_cases e2 : z = y
      · rw [if_neg (by omega), decide_eq_false_iff_not]
        omega
      · rw [if_neg e2, decide_eq_false_iff_not] at h2
        rw [if_neg (by omega), decide_eq_false_iff_not]
        omega
theorem lexL_anti : ∀ {a b : List Int}, lexL a b = false → lexL b a = false → a = b
  | [], [], _, _ => rfl
  | [], _ :: _, h, _ => by cases h
  | _ :: _, [], _, h => by cases h
  | x :: a, y :: b, h1, h2 => by
    unfold lexL at h1 h2
    by_cases e : x = y
    · rw [if_pos e] at h1
      rw [if_pos e.symm] at h2
      rw [e, lexL_anti h1 h2]
    · rw [if_neg e, decide_eq_false_iff_not] at h1
      rw [if_neg (fun z => e z.symm), decide_eq_false_iff_not] at h2
      omega
theorem swo_lexL {α : Type} (k : α → List Int) : SrtO.Swo (fun v u => lexL (k v) (k u)) := ⟨fun _ _ h => lexL_asym h, fun _ _ _ h1 h2 => lexL_tr h1 h2⟩
section
variable {prog : Program} {w : World} {A : Around} {s : Shared}
theorem lexq_ints {b : Bool} {xs ys : List Value} {ns ms : List Int} {Q : Bool → Shared → Prop} (i : Nat) (hx : IntsAre xs ns) (hy : IntsAre ys ms) (hl : ns.length = ms.length) (h : Q (lexL ns ms) s) : PySem.W.KatLex prog w A b false Q (xs.zip ys) i s := by
  induction hx generalizing ys ms i with
  | nil =>
    cases hy with
    | nil => exact PySem.W.kat_nil h
    | cons q u hy => simp at hl
  | @cons p t xs ns hx ih =>
    cases hy with
    | nil => simp at hl
    | @cons q u ys ms hy =>
      have hl' : ns.length = ms.length := by simpa using hl
      show PySem.W.KatLex prog w A b false Q ((Value.int p t, Value.int q u) :: xs.zip ys) i s
      refine PySem.W.kat_cons (wpAny_eqBool_int ?_)
      unfold lexL at h
      by_cases e : p = q
      · subst e
        rw [beq_self_eq_true]
        rw [if_pos rfl] at h
        exact PySem.W.kat_yes (ih (i + 1) hy hl' h)
      · rw [show (p == q) = false from beq_eq_false_iff_ne.mpr e]
        rw [if_neg e] at h
        exact PySem.W.kat_no (TS.oneLt_ints _ h)
def TupsL (h : Heap) (d : Nat) (vs : List Value) : Prop := ∀ v ∈ vs, ∃ ns, TS.TupInts h v ns ∧ ns.length = d
theorem firsts_ofL {h : Heap} {d : Nat} (hd : 1 ≤ d) : ∀ vs : List Value, TupsL h d vs → ∃ fs, PySem.W.KatTups h vs fs ∧ fs.length = vs.length ∧ ∀ f, f ∈ fs → ∃ n t, f = Value.int n t
  | [], _ => ⟨[], PySem.W.KatTups.nil, rfl, fun f hf => by simp at hf⟩
  | v :: vs, x => by
    obtain ⟨fs, k, hl, hi⟩ := firsts_ofL hd vs fun u hu => x u (List.mem_cons_of_mem _ hu)
    obtain ⟨ns, ⟨a, xs, rfl, ⟨o, ho, hc, n, hdt⟩, i⟩, hn⟩ := x v (List.mem_cons_self ..)
    obtain ⟨y, ys, e⟩ : ∃ y ys, xs.toList = y :: ys := by
      cases q : xs.toList with
      | nil =>
        rw [q] at i
        have l := i.length
        rw [List.length_nil, hn] at l
        omega
      | cons y ys => exact ⟨y, ys, rfl⟩
    obtain ⟨m, t, hy⟩ := i.all y (by rw [e]; exact List.mem_cons_self ..)
    refine ⟨y :: fs, PySem.W.KatTups.cons ho hc hdt ?_ k, by simp [hl], ?_⟩
    · have z := congrArg (fun l : List Value => l[0]?) e
      simpa using z
    · intro f hf
      rcases List.mem_cons.mp hf with rfl | hf
      · exact ⟨m, t, hy⟩
      · exact hi f hf
theorem tups_sortableL {a : Addr} {vs : List Value} {d : Nat} (hd : 1 ≤ d) (h2 : 2 ≤ vs.length) (k : Value → List Int) (hk : ∀ v ∈ vs, TS.TupInts s.heap v (k v) ∧ (k v).length = d) (ha : ∀ o, s.heap.get? a = some o → o.cls ≠ .type "tuple") :
    SrtO.SortableO prog w A s a vs fun v u => lexL (k v) (k u) := by
  intro h' keep
  have hk' : ∀ v ∈ vs, TS.TupInts h' v (k v) ∧ (k v).length = d := fun v hm => ⟨(hk v hm).1.keeps fun b o e c => keep b o (fun z => by subst z; exact ha o e c) e, (hk v hm).2⟩
  obtain ⟨fs, h1, h3, h4⟩ := firsts_ofL (h := h') hd vs fun v hv => ⟨_, hk' v hv⟩
  refine ⟨tuples' true, fun Q E hq => ?_, fun p q hm hm' => ?_⟩
  · refine PySem.W.kat_kind (T := .type "int") h1 (by omega) (fun f hm => ?_) (by rfl) ?_
    · obtain ⟨x, t, rfl⟩ := h4 f hm
      exact PySem.W.Looks.now
    · have e : (Value.type "int" != Value.type "tuple") = true := by first | decide +kernel | rfl | decide
      rw [e]
      exact hq
  · obtain ⟨tp, lp⟩ := hk' _ hm
    obtain ⟨tq, lq⟩ := hk' _ hm'
    show wpAny (model prog w) A (keyLt' (tuples' true) p.1 q.1) (fun r s' => s' = { s with heap := h' } ∧ r = lexL (k p.1) (k q.1)) (fun _ _ => False) { s with heap := h' }
    obtain ⟨x, xs, e1, ⟨o, ho, hc, n, hdt⟩, i⟩ := tp
    obtain ⟨y, ys, e2, ⟨o', ho', hc', n', hdt'⟩, i'⟩ := tq
    have l1 := i.length
    have l2 := i'.length
    rw [Array.length_toList] at l1 l2
    generalize k p.1 = ns at *
    generalize k q.1 = ms at *
    rw [e1, e2]
    refine PySem.W.kat_lt ho hdt ho' hdt' ?_
    have sz : decide (xs.size < ys.size) = false := decide_eq_false (by omega)
    rw [sz]
    exact lexq_ints 0 i i' (by omega) ⟨rfl, rfl⟩
end
end SrB

namespace L2
open PySem PySem.Spec PyProof.Rows SrB
def rSortL (K : PySem.W.Frag) (d : Nat) : List V → Hp → VK → Prop := fun vs H Q => ∃ (a : Addr) (xs : List V), vs = [V.ref a] ∧ SqL K H a xs ∧ (∀ x ∈ xs, ∃ ns, TupI K H x ns ∧ ns.length = d) ∧
  ∀ (ys : List V) (p : Addr), ys.Perm xs → ys.Pairwise (fun x y => ∀ n m, TupI K H x n → TupI K H y m → lexL m n = false) → H p = none → Q (.ref p) (upd H p (.lst ys))
theorem cr_sortL {X : Cx} {d : Nat} (hd : 1 ≤ d) : CallR X (.builtin "sorted") (rSortL X.K d) := by
  intro pins s σ H vs us Q I r h
  obtain ⟨a, xs, rfl, hs, hx, q⟩ := h
  obtain ⟨its, rv, hl, hz⟩ := I.list hs
  rw [Vals.ref1 r]
  obtain ⟨e1, e2⟩ := bkV_refs rv fun x m => by
    obtain ⟨ns, ⟨t, e, _⟩, _⟩ := hx x m
    exact ⟨t, e⟩
  have hk : ∀ v ∈ its, TS.TupInts s.heap v (TS.intsOf s.heap v) ∧ (TS.intsOf s.heap v).length = d := fun v hv => by
    obtain ⟨t, rfl⟩ := e2 v hv
    have hm : V.ref t ∈ xs := by
      rw [e1]
      exact List.mem_map.mpr ⟨_, hv, rfl⟩
    obtain ⟨ns, ⟨t', e, ht⟩, hn⟩ := hx _ hm
    cases e
    have z := tupI_raw I ht
    rw [z.ints]
    exact ⟨z, hn⟩
  refine SrtO.sorted_ord (swo_lexL (TS.intsOf s.heap)) hl.isList (by rw [← rv.length]; exact hz) (fun h2 h₁ a' ha' kk => ?_) fun out h1 h2 => ?_
  · refine tups_sortableL (s := { s with heap := h₁ }) hd h2 (TS.intsOf s.heap) (fun v hv => ⟨(hk v hv).1.keeps fun b o e _ => (kk b o e).2, (hk v hv).2⟩) fun o e => ?_
    have e' : some o = some (seqObj "list" its.toArray 0) := e.symm.trans ha'
    cases e'
    intro c
    exact absurd (Value.type.inj c) (by decide)
  · obtain ⟨ep, he'⟩ := PyProof.Rows.sortedAll_at s.heap its out.toArray
    have h3 : ∀ u ∈ out, ∃ a, u = Value.ref a := fun u hu => e2 u (h2.perm.mem_iff.mp hu)
    have hp : (out.map bkV).Perm xs := by
      rw [e1]
      exact h2.perm.map bkV
    have hlen : (out.map bkV).length ≤ sizeLine := by
      rw [hp.length_eq]
      exact hz
    refine ⟨.ref _, upd H (s.heap.objs.size + 1) (.lst (out.map bkV)), I.laid (t' := s.toks) (fun _ _ => PyProof.Rows.sortedAll_old) (Nat.le_succ _) ⟨hlen, out, ep, bkV_vals h3, he'⟩, rfl, q _ _ hp ?_ (I.hok.fresh (Nat.le_succ _))⟩
    rw [List.pairwise_map]
    refine List.Pairwise.imp (fun {u v} huv n m hn hm => ?_) h1
    obtain ⟨t, et, ht⟩ := hn
    obtain ⟨t', et', ht'⟩ := hm
    have eu := bkV_ref et
    have ev := bkV_ref et'
    have i1 : TS.intsOf s.heap u = n := by
      rw [eu]
      exact (tupI_raw I ht).ints
    have i2 : TS.intsOf s.heap v = m := by
      rw [ev]
      exact (tupI_raw I ht').ints
    rw [← i1, ← i2]
    exact huv
end L2
namespace Dl
open PySem PySem.Spec PyProof.Rows L2 HbE Evl RZ Gx SrB
variable [LmV.LamTable]
def insL (x : List Int) : List (List Int) → List (List Int)
  | [] => [x]
  | y :: r => if lexL y x = true then y :: insL x r else x :: y :: r
def srtL (l : List (List Int)) : List (List Int) := l.foldr insL []
theorem insL_perm (x : List Int) : ∀ l, (insL x l).Perm (x :: l)
  | [] => .refl _
  | y :: r => by
    unfold insL
    split
    · exact ((insL_perm x r).cons y).trans (.swap _ _ _)
    · exact .refl _
theorem srtL_perm : ∀ l, (srtL l).Perm l
  | [] => .refl _
  | x :: r => (insL_perm x _).trans ((srtL_perm r).cons x)
theorem insL_rises (x : List Int) : ∀ l, l.Pairwise (fun a b => lexL b a = false) → (insL x l).Pairwise (fun a b => lexL b a = false)
  | [], _ => List.pairwise_singleton _ _
  | y :: r, h => by
    unfold insL
    obtain ⟨h1, h2⟩ := List.pairwise_cons.mp h
    split
    · rename_i hc
      exact List.pairwise_cons.mpr ⟨fun z hz => by
        rcases List.mem_cons.mp ((insL_perm x r).subset hz) with rfl | hz
        · exact lexL_asym hc
        · exact h1 z hz, insL_rises x r h2⟩
    · rename_i hc
      have hc : lexL y x = false := by
        cases q : lexL y x with
        | true => exact absurd q hc
        | false => rfl
      exact List.pairwise_cons.mpr ⟨fun z hz => by
        rcases List.mem_cons.mp hz with rfl | hz
        · exact hc
        · exact lexL_tr hc (h1 z hz), h⟩
theorem srtL_rises : ∀ l, (srtL l).Pairwise (fun a b => lexL b a = false)
  | [] => .nil
  | x :: r => insL_rises x _ (srtL_rises r)
def gSortL : Bool → List PyData → Option PyData := fun b ds => if b = true then
    match intsD ds with
    | some ns => some (.list ((PySem.W.sortI ns).map .int))
    | none => match tupsD ds with
      | some nss => if (Nat.ble nss.length 100000 && (Nat.ble 1 (nss.headD []).length && nss.all fun ns => ns.length == (nss.headD []).length)) = true then some (.list ((srtL nss).map tupI)) else none
      | none => none
  else none
def fSortL : Bool → List PyData → (PyData → Prop) → Prop := fun b ds Q => ∃ d, gSortL b ds = some d ∧ Q d
theorem leq_sortL : LeOpQ gSortL fSortL := fun b ds d Q e q => ⟨d, e, q⟩
def rSortAny2 (K : PySem.W.Frag) : List V → Hp → VK → Prop := fun vs H Q => rSortedI K vs H Q ∨ ∃ d, 1 ≤ d ∧ rSortL K d vs H Q
theorem cr_sortAny2 {X : Cx} : CallR X (.builtin "sorted") (rSortAny2 X.K) := by
  intro pins s σ H xs us Q I r h
  rcases h with h | ⟨d, hd, h⟩
  · exact cr_sortedI pins s σ H xs us Q I r h
  · exact cr_sortL hd pins s σ H xs us Q I r h
theorem pw_dpL {K : PySem.W.Frag} {H : Hp} : ∀ {ys : List V} {mss : List (List Int)}, DpAll K H ys (mss.map tupI) → ys.Pairwise (fun x y => ∀ n m, TupI K H x n → TupI K H y m → lexL m n = false) → mss.Pairwise (fun a b => lexL b a = false)
  | _, [], _, _ => .nil
  | [], _ :: _, h, _ => by cases h
  | y :: ys, m :: mss, h, hp => by
    cases h with
    | cons h1 h2 =>
      obtain ⟨p1, p2⟩ := List.pairwise_cons.mp hp
      refine List.pairwise_cons.mpr ⟨fun b hb => ?_, pw_dpL h2 p2⟩
      obtain ⟨i, hi, rfl⟩ := List.mem_iff_getElem.mp hb
      obtain ⟨v, e1, e2⟩ := h2.get (i := i) (d := tupI mss[i]) (by rw [List.getElem?_map, List.getElem?_eq_getElem hi]; rfl)
      exact p1 v (List.mem_of_getElem? e1) _ _ (tupI_of h1) (tupI_of e2)
theorem opq_sortL {K : PySem.W.Frag} {Ps : TX} : OpQ K Ps (rSortAny2 K) fSortL := by
  intro M hs H p xs b ds Qd Q wf h1 h2 ⟨d, e, q⟩ k
  unfold gSortL at e
  split at e
  · rename_i hb
    subst hb
    have h1 : SqL K H p xs := h1
    split at e
    · rename_i ns qn
      cases e
      have ex := intsD_dp h2 qn
      subst ex
      refine .inl ⟨p, ns, rfl, h1, fun ns' l hp hs hl => ?_⟩
      rw [PySem.W.eq_sortI hp hs]
      exact k _ _ _ q (Step.of_ex (Ex.new hl)) (dp_newL wf hl DpAll.ints)
    · split at e
      · rename_i nss qn
        split at e
        · rename_i hc
          cases e
          simp only [Bool.and_eq_true] at hc
          obtain ⟨c1, c2, c3⟩ := hc
          have ed := tupsD_eq qn
          subst ed
          have bd : ∀ ns ∈ nss, ns.length = (nss.headD []).length := fun ns hn => eq_of_beq (List.all_eq_true.mp c3 ns hn)
          refine .inr ⟨(nss.headD []).length, Nat.le_of_ble_eq_true c2, p, xs, rfl, h1, fun x hx => ?_, fun ys l hp hs hl => ?_⟩
          · obtain ⟨d, hd1, hd2⟩ := dpAll_mem h2 hx
            obtain ⟨ns, hn, rfl⟩ := List.mem_map.mp hd1
            exact ⟨ns, tupI_of (dp_mono msk_ex hd2), bd ns hn⟩
          · obtain ⟨es, pe, qe⟩ := dpAll_perm hp h2
            obtain ⟨mss, rfl, pm⟩ : ∃ mss : List (List Int), es = mss.map tupI ∧ mss.Perm nss := by
              have hes : ∀ e ∈ es, ∃ m, e = tupI m := fun e he => by
                obtain ⟨m, _, rfl⟩ := List.mem_map.mp (pe.subset he)
                exact ⟨m, rfl⟩
              have : ∃ mss : List (List Int), es = mss.map tupI := by
                clear pe qe
                induction es with
                | nil => exact ⟨[], rfl⟩
                | cons e es ih =>
                  obtain ⟨m, rfl⟩ := hes e List.mem_cons_self
                  obtain ⟨mss, rfl⟩ := ih fun e he => hes e (List.mem_cons_of_mem _ he)
                  exact ⟨m :: mss, rfl⟩
              obtain ⟨mss, rfl⟩ := this
              refine ⟨mss, rfl, ?_⟩
              have hm := pe.map tupD
              simp only [List.map_map] at hm
              have ef : (tupD ∘ tupI) = (some : List Int → Option (List Int)) := by
                funext ns
                exact intsD_map ns
              rw [ef] at hm
              have h3 := hm.filterMap id
              simpa [List.filterMap_map] using h3
            have e2 : mss = srtL nss := by
              refine List.Perm.eq_of_pairwise (fun a b ha hb h1 h2 => lexL_anti h2 h1) (pw_dpL (dpAll_mono msk_ex qe) hs) (srtL_rises _) (pm.trans (srtL_perm _).symm)
            subst e2
            exact k _ _ _ q (Step.of_ex (Ex.new hl)) (dp_newL wf hl qe)
        · cases e
      · cases e
  · cases e
end Dl
end
section
set_option Elab.async false
set_option linter.all false
set_option maxRecDepth 100000
set_option maxHeartbeats 1000000
/-! a dict != a tuple. -/
namespace PySem.SeqAt
open PySem PySem.Spec
theorem dict_ne_declines_tuple (l b : Addr) (es : Array DictEntry) (ep n2 : Nat) (items2 : Array Value) (dd dd2 : Option Addr) (sl sl2 : Array (Option Value)) :
    Meets (Builtin.«dict.__ne__» ⟨[.ref l, .ref b], []⟩) (fun _ R s => s.heap.get? l = some ⟨.type "dict", dd, .dict es ep, sl⟩ ∧ s.heap.get? b = some ⟨.type "tuple", dd2, .seq items2 n2, sl2⟩ ∧ R (.ok (.ret .notImplemented)) s) :=
  .of_wp fun prog w A R s h => by
    obtain ⟨hp, g, d, tk, os⟩ := s
    obtain ⟨h1, h2, h⟩ := h
    have f1 := F.sub_tuple_dict
    wp_walk using wpAny_loadPart' h1, wpAny_loadPart' h2
    exact ⟨_, rfl, h⟩
theorem tuple_ne_declines_dict (l b : Addr) (items : Array Value) (n : Nat) (es : Array DictEntry) (ep : Nat) (dd dd2 : Option Addr) (sl sl2 : Array (Option Value)) :
    Meets (Builtin.«tuple.__ne__» ⟨[.ref l, .ref b], []⟩) (fun _ R s => s.heap.get? l = some ⟨.type "tuple", dd, .seq items n, sl⟩ ∧ s.heap.get? b = some ⟨.type "dict", dd2, .dict es ep, sl2⟩ ∧ R (.ok (.ret .notImplemented)) s) :=
  .of_wp fun prog w A R s h => by
    obtain ⟨hp, g, d, tk, os⟩ := s
    obtain ⟨h1, h2, h⟩ := h
    have f1 := F.sub_dict_tuple
    wp_walk using wpAny_loadPart' h1, wpAny_loadPart' h2
    exact ⟨_, rfl, h⟩
theorem RcNeAt.dict_tuple {A : Around} {s : Shared} {l b : Addr} {o : Obj} {es : Array DictEntry} {ep : Nat} {items2 : Array Value} (ho : s.heap.get? l = some o) (hx : o.ExactDict) (hd : o.data = .dict es ep) (hb : s.heap.IsTuple b items2) (hu : A.units < cLine) : RcNeAt A s (.ref l) (.ref b) true := fun prog w E Q h => by
  have hc := hx.1
  obtain ⟨cls, dd, data, sl⟩ := o
  obtain ⟨⟨cls2, dd2, data2, sl2⟩, ho2, hc2, n2, hd2⟩ := id hb
  simp only at hc hd hc2 hd2
  subst hc hd hc2 hd2
  have hne : l ≠ b := fun e => by
    subst e
    have z := congrArg Obj.cls (Option.some.inj (ho.symm.trans ho2))
    exact absurd (Value.type.inj z) (by decide)
  exact (rc_ne_decline_or (k := false) ⟨_, ho, rfl⟩ ⟨_, ho2, rfl⟩ (by decide) F.sub_tuple_dict F.slot_dict_ne F.slot_tuple_ne_refl
    (fun _ hq => call_meets F.slot_dict_ne ⟨_, ho, rfl⟩ F.entry_dict_ne (F.args_dict_ne_2 _ _) (dict_ne_declines_tuple l b es ep n2 items2 dd dd2 sl sl2) ⟨ho, ho2, hq⟩)
    (fun _ hq => call_meets F.slot_tuple_ne_refl ⟨_, ho2, rfl⟩ F.entry_tuple_ne (F.args_tuple_ne_2 _ _) (tuple_ne_declines_dict b l items2 n2 es ep dd2 dd sl2 sl) ⟨ho2, ho, hq⟩)
    (fun _ hq => wpAny_isSame_ref_other hne ho ho2 (by simp) hq) (.inr hu) h)
end PySem.SeqAt

namespace L2
open PySem PySem.Spec PyProof.Rows
def rNe2 (K : PySem.W.Frag) : R2 := fun x y H Q => rNeD K x y H Q ∨ ∃ a b xs, x = .ref a ∧ y = .ref b ∧ ((∃ kvs, H a = some (.dK kvs)) ∨ ∃ kvs, H a = some (.dT kvs)) ∧ SqT K H b xs ∧ Q (.bl true) H
theorem op_ne2 {X : Cx} (hu : X.A.units + 64 < cLine) : OpR X (compareOp .NotEq) (rNe2 X.K) := by
  intro pins s σ H x y v u Q I rx ry h
  rcases h with h | ⟨a, b, xs, rfl, rfl, ha, hb, q⟩
  · exact op_neD hu pins s σ H x y v u Q I rx ry h
  · cases rx
    cases ry
    obtain ⟨its, rv, hT, _⟩ := I.tuple hb
    have hd : ∃ (o : Obj) (es : Array DictEntry) (ep : Nat), s.heap.get? a = some o ∧ o.ExactDict ∧ o.data = .dict es ep := by
      rcases ha with ⟨kvs, e⟩ | ⟨kvs, e⟩
      · obtain ⟨_, _, vs, _, o, es, ep, h1, h2, h3, _⟩ := I.hok a _ e
        exact ⟨o, es, ep, h1, h2, h3⟩
      · obtain ⟨_, _, xs, _, o, es, ep, h1, h2, h3, _⟩ := I.hok a _ e
        exact ⟨o, es, ep, h1, h2, h3⟩
    obtain ⟨o, es, ep, h1, h2, h3⟩ := hd
    exact SeqAt.RcNeAt.dict_tuple (b := b) h1 h2 h3 hT (by omega) X.prog X.w X.xe _ ⟨.bl _, H, I, rfl, q⟩
end L2
namespace Dl
open PySem PySem.Spec PyProof.Rows L2 HbE Evl RZ Gx
variable [LmV.LamTable]
def fNe2 : PyData → PyData → (PyData → Prop) → Prop := fun x y Q => (∃ ks ts, x = .dict ks ∧ y = .tuple ts ∧ Q (.bool true)) ∨ fEq true x y Q
theorem op2_ne2 {K : PySem.W.Frag} {Ps : TX} : Op2 K Ps (rNe2 K) fNe2 := fun M hs H v w x y Qd Q wf hx hy h k => by
  rcases h with ⟨ks, ts, rfl, rfl, q⟩ | h
  · refine .inr ?_
    cases hy with
    | tup h1 h2 =>
      cases hx with
      | dct e => exact ⟨_, _, _, rfl, rfl, .inl ⟨_, (msk_some.mp e).2⟩, ex_t msk_ex h1, k _ _ H q Step.refl (.bl _)⟩
      | dctT e => exact ⟨_, _, _, rfl, rfl, .inr ⟨_, (msk_some.mp e).2⟩, ex_t msk_ex h1, k _ _ H q Step.refl (.bl _)⟩
  · exact .inl (op2_ne M hs H v w x y Qd Q wf hx hy h k)
def gNe2 : PyData → PyData → Option PyData := fun x y => match x, y with
  | .dict _, .tuple _ => some (.bool true)
  | _, _ => gEq true x y
theorem leop_ne2 : LeOp gNe2 fNe2 := fun x y d Q e q => by
  unfold gNe2 at e
  split at e
  · cases e
    exact .inl ⟨_, _, rfl, rfl, q⟩
  · exact .inr (leop_eq x y d Q e q)
end Dl
end
section
set_option Elab.async false
set_option linter.all false
set_option maxRecDepth 100000
set_option maxHeartbeats 1000000
/-! list(zip(*e)). -/
namespace ZnS
open PySem PySem.Spec PyProof.Rows L2 ZpM
variable [LmV.LamTable]
structure MadeZ (cols : List (List Value)) (lo : Addr) (h : Heap) (ps : List Addr) : Prop where
  rise : ps.Pairwise (· < ·)
  above : ∀ a ∈ ps, lo < a
  tups : ∀ (j : Nat) (a : Addr), ps[j]? = some a → ∃ us, cols[j]? = some us ∧ h.get? a = some (tup us)
theorem MadeZ.there {cols : List (List Value)} {lo : Addr} {h : Heap} {ps : List Addr} (g : MadeZ cols lo h ps) {a : Addr} (ha : a ∈ ps) : a < h.objs.size := by
  obtain ⟨j, hj⟩ := List.mem_iff_getElem?.mp ha
  obtain ⟨_, _, e⟩ := g.tups j a hj
  exact Heap.lt_size e
/-- what stands of the sequences -/
structure Src (h : Heap) (b : Nat) (as : List Addr) (cols : List (List Value)) : Prop where
  lo : ∀ a ∈ as, a < b
  item : ∀ (j : Nat) (us : List Value), cols[j]? = some us → us.length = as.length ∧ ∀ (k : Nat) (a : Addr), as[k]? = some a → ∃ vs : Array Value, Sc "tuple" h a vs ∧ vs[j]? = us[k]?
  fin : ∃ a vs, as[0]? = some a ∧ Sc "tuple" h a vs ∧ vs[cols.length]? = none
theorem Src.mv {h g : Heap} {b : Nat} {as : List Addr} {cols : List (List Value)} (x : Src h b as cols) (k : ∀ (c : Nat) (o : Obj), c < b → h.get? c = some o → g.get? c = some o) : Src g b as cols := by
  have up : ∀ {a : Addr} {vs : Array Value}, a ∈ as → Sc "tuple" h a vs → Sc "tuple" g a vs := fun {a vs} m s => s.elim fun o q => ⟨o, k a o (x.lo a m) q.1, q.2⟩
  refine ⟨x.lo, fun j us e => ⟨(x.item j us e).1, fun k' a ea => ?_⟩, ?_⟩
  · obtain ⟨vs, s, q⟩ := (x.item j us e).2 k' a ea
    exact ⟨vs, up (List.mem_of_getElem? ea) s, q⟩
  · obtain ⟨a, vs, ea, s, q⟩ := x.fin
    exact ⟨a, vs, ea, up (List.mem_of_getElem? ea) s, q⟩
section
variable {prog : Program} {w : World} {A : Around} {s : Shared} {R : Result → Shared → Prop} {b n : Nat} {as : List Addr} {cols : List (List Value)}
end
section
variable {prog : Program} {w : World} {A : Around} {E : Value → Shared → Prop} {s : Shared} {b n : Nat} {as : List Addr} {cols : List (List Value)}
end
end ZnS
namespace Dl
open PySem PySem.Spec PyProof.Rows L2 HbE Evl RZ Gx ZnS ZpM
variable [LmV.LamTable]
def dListZip (de : DE) : DL := fun σ Q => de σ fun d => ∃ cols, zipO d = some cols ∧ cols.length ≤ 100000 ∧ Q cols
section
variable {X : Cx} {Ps : TX} {e : PySem.Expr} {p p2 p3 pos pos2 : Pos}
@[simp] def fListZip (fe : FE) : FA := fun σ => (fe σ).bind fun d => (Rs.ofO (zipO d)).bind fun cols => if lim cols.length = true then .ok cols else .no
end
end Dl
end
section
set_option Elab.async false
set_option linter.all false
set_option maxRecDepth 100000
set_option maxHeartbeats 4000000
/-! (..) * n for an n up to 100,000, where the product is at most 1,000,000 -/
namespace L2
open PySem PySem.Spec PyProof.Rows
def rRepB (K : PySem.W.Frag) : R2 := fun x y H Q => ∃ l k xs, x = .ref l ∧ y = .int k ∧ SqT K H l xs ∧ xs ≠ [] ∧ 2 ≤ k ∧ k ≤ 100000 ∧ k.toNat * xs.length ≤ 1000000 ∧ ∀ p, H p = none → Q (.ref p) (upd H p (.tup (List.replicate k.toNat xs).flatten))
section
variable {X : Cx}
end
end L2
namespace Dl
open PySem PySem.Spec PyProof.Rows L2 HbE Evl RZ
variable [LmV.LamTable]
section
variable {K : PySem.W.Frag} {Ps : TX}
def fRepB : PyData → PyData → (PyData → Prop) → Prop := fun x y Q => match x, y with
  | .tuple ds, .int k => ds ≠ [] ∧ 2 ≤ k ∧ k ≤ 100000 ∧ k.toNat * ds.length ≤ 1000000 ∧ Q (.tuple (List.replicate k.toNat ds).flatten)
  | _, _ => False
end
def gRepB : PyData → PyData → Option PyData := fun x y => match x, y with
  | .tuple ds, .int k => if (!ds.isEmpty && decide (2 ≤ k) && Nat.ble k.toNat 100000 && Nat.ble (k.toNat * ds.length) 1000000) = true then some (.tuple (List.replicate k.toNat ds).flatten) else none
  | _, _ => none
@[simp] theorem gRepB_t (ds : List PyData) (k : Int) : gRepB (.tuple ds) (.int k) = if (!ds.isEmpty && decide (2 ≤ k) && Nat.ble k.toNat 100000 && Nat.ble (k.toNat * ds.length) 1000000) = true then some (.tuple (List.replicate k.toNat ds).flatten) else none := rfl
end Dl
end
section
set_option Elab.async false
set_option linter.all false
set_option maxRecDepth 100000
set_option maxHeartbeats 1000000
/-! {key: value} with one pair, the key a tuple. -/
namespace L2
open PySem PySem.Spec PyProof.Rows
def tDispT1 (tk tv : TE) : TE := fun σ H Q => ∀ p, H p = none → tk σ (upd H p (.dT [])) fun x H1 => tv σ H1 fun y H2 => H2 p = some (.dT []) ∧ ∃ b ks, x = .ref b ∧ H2 b = some (.tup (ks.map kV)) ∧ Q (.ref p) (upd H2 p (.dT (putK [] ks y)))
end L2
namespace Dl
open PySem PySem.Spec PyProof.Rows L2 HbE Evl RZ
variable [LmV.LamTable]
end Dl
end
section
set_option Elab.async false
set_option linter.all false
set_option maxRecDepth 100000
set_option maxHeartbeats 1000000
/-! A loop over functions of the module and lambdas with parameters, and a call of the loop's name. -/
namespace Dl
open PySem PySem.Spec PyProof.Rows L2 HbE Evl RZ Gx HbX LamX
variable [LmV.LamTable]
/-- the lambda is made and known -/
theorem lam_make4 {X : Cx} {pins : List (Addr × Obj)} {σ : L2.St} {H : Hp} {s : Shared} {c P : Addr} {params : Arguments} {body : PySem.Expr} {scope : Scope} {pos : Pos} {E : Value → Shared → Prop} {Q : Value → Shared → Prop} (I : Inv X pins σ H s) (TB : TabB X.base X.mg c P) (hcode : X.env.code = .ref c)
    (hT : TabS H P (X.env.qual ++ "<lambda>")) (hdef : defaultsOf params X.env = ([], [])) (hcl : ∀ cells, cloFrom cells scope.names [] = []) (hfree : ∀ y ∈ scope.names, y.2 = .free → ∃ c, X.env.cells.lookup y.1 = some c)
    (h : ∀ (f c' : Addr) (H1 : Hp) (s' : Shared), Inv X pins σ H1 s' → (∀ b o, H b = some o → b ≠ P → H1 b = some o) → TabS H1 P (X.env.qual ++ "<lambda>") → H f = none → H1 f = some (LmV.LamO f c' ⟨X.env.qual ++ "<lambda>", params, body, scope⟩) → H1 c' = some (CodeO c' (X.env.qual ++ "<lambda>")) → Q (.ref f) s') :
    wpAny (model X.prog X.w) X.A (eval (.Lambda params body scope pos) X.env) Q E s := by
  obtain ⟨ps, hP, ht, ha⟩ := hT
  have ncP : ∀ {c0 : Addr} {q : Str}, H c0 = some (CodeO c0 q) → c0 ≠ P := fun {c0 q} e z => by
    rw [z, hP] at e
    exact LamX.codeO_ne ps (Option.some.inj e).symm
  refine PySem.W.kla_eval hdef ?_
  have bP : s.heap.BuiltinsAt X.mg P := TB.bm.keeps I.bk
  have hP' : s.heap.get? P = some { cls := .none, data := .fields ps } := I.hok P _ hP
  cases hc : codeAmong pos ps.toList with
  | none =>
    refine PySem.W.kla_makeFunction (mg := X.mg) (c := c) (P := P) (ps := ps) (closure_ok hfree) I.ok.glob (I.mod.glob.keeps I.bk) hcode (TB.code.keeps I.bk) hP' ht hc TB.gP bP fun c' ctv h' tk hx hge hlt hrec htb => ?_
    obtain ⟨c2, oc, vs, t, e2, hoc, hd, hv⟩ := hrec
    cases e2
    rw [hcl]
    have hsz : s.heap.objs.size ≤ h'.objs.size := Nat.le_trans hge (Nat.le_of_lt hlt)
    have nC : H c' = none := I.hok.fresh hge
    have nF : H h'.objs.size = none := I.hok.fresh hsz
    have I1 := LamX.inv_table (t' := tk) (more := #[rawInt pos.line, rawInt pos.col, .ref c']) (h' := h') I hP (fun b o hb e => hx b o hb e) htb hge ⟨oc, vs, t, hoc, hd, hv⟩
    have I2 := LmV.inv_lam0 (L := ⟨X.env.qual ++ "<lambda>", params, body, scope⟩) (c := c') (pm := (X.mg "__name__").getD .none) (ctv := ctv) I1
    have n1 : h'.objs.size ≠ c' := Nat.ne_of_gt hlt
    have n2 : h'.objs.size ≠ P := Nat.ne_of_gt (Nat.lt_of_lt_of_le (Heap.lt_size hP') hsz)
    have hE : ∀ b o, H b = some o → b ≠ P → (upd (upd (upd H P (.tbl (ps ++ #[rawInt pos.line, rawInt pos.col, .ref c']))) c' (CodeO c' (X.env.qual ++ "<lambda>"))) h'.objs.size (LmV.LamO h'.objs.size c' ⟨X.env.qual ++ "<lambda>", params, body, scope⟩)) b = some o := fun b o e n => by
      rw [upd_ne (ne_of_none e nF), upd_ne (ne_of_none e nC), upd_ne n]
      exact e
    have eL : (ps ++ #[rawInt pos.line, rawInt pos.col, .ref c']).toList = ps.toList ++ [rawInt pos.line, rawInt pos.col, .ref c'] := by simp
    have hc' : (upd (upd (upd H P (.tbl (ps ++ #[rawInt pos.line, rawInt pos.col, .ref c']))) c' (CodeO c' (X.env.qual ++ "<lambda>"))) h'.objs.size (LmV.LamO h'.objs.size c' ⟨X.env.qual ++ "<lambda>", params, body, scope⟩)) c' = some (CodeO c' (X.env.qual ++ "<lambda>")) := by
      rw [upd_ne (Ne.symm n1)]
      exact upd_same
    refine h h'.objs.size c' _ _ I2 hE ⟨_, by rw [upd_ne (Ne.symm n2), upd_ne (ne_of_none hP nC), upd_same], by rw [eL]; exact PySem.TriplesOk_snoc _ _ _ _ ht, fun p' cv hcv => ?_⟩ nF upd_same hc'
    rw [eL] at hcv
    rcases LamX.among_app _ ht hcv with z | z
    · obtain ⟨c0, e1, e2⟩ := ha p' cv z
      exact ⟨c0, e1, hE _ _ e2 (ncP e2)⟩
    · exact ⟨c', z, hc'⟩
  | some cv =>
    obtain ⟨c', e, hco⟩ := ha pos cv hc
    subst e
    refine PySem.W.kla_makeFunctionHit (mg := X.mg) (c := c) (P := P) (ps := ps) (closure_ok hfree) I.ok.glob (I.mod.glob.keeps I.bk) hcode (TB.code.keeps I.bk) hP' ht hc bP fun ctv h' tk hx hsz => ?_
    rw [hcl]
    have I1 : Inv X pins σ H { s with heap := h', toks := tk } := I.kept fun b o e => hx b o e
    have nF : H h'.objs.size = none := I.hok.fresh hsz
    have I2 := LmV.inv_lam0 (L := ⟨X.env.qual ++ "<lambda>", params, body, scope⟩) (c := c') (pm := (X.mg "__name__").getD .none) (ctv := ctv) I1
    have hE : ∀ b o, H b = some o → b ≠ P → (upd H h'.objs.size (LmV.LamO h'.objs.size c' ⟨X.env.qual ++ "<lambda>", params, body, scope⟩)) b = some o := fun b o e n => by
      rw [upd_ne (ne_of_none e nF)]
      exact e
    refine h h'.objs.size c' _ _ I2 hE ⟨ps, by rw [upd_ne (ne_of_none hP nF)]; exact hP, ht, fun p' cv hcv => ?_⟩ nF upd_same (hE _ _ hco (ncP hco))
    obtain ⟨c0, e1, e2⟩ := ha p' cv hcv
    exact ⟨c0, e1, hE _ _ e2 (ncP e2)⟩
/-- the reading of a lambda with parameters -/
def tLamW (P : Addr) (L : LmV.LamW) : TE := fun _ H Q => TabS H P L.qual ∧ ∀ f c' H1, (∀ b o, H b = some o → b ≠ P → H1 b = some o) → TabS H1 P L.qual → H f = none → H1 f = some (LmV.LamO f c' L) → H1 c' = some (CodeO c' L.qual) → Q (.ref f) H1
theorem pe_lamW {X : Cx} {c P : Addr} {params : Arguments} {body : PySem.Expr} {scope : Scope} {pos : Pos} (TB : TabB X.base X.mg c P) (hcode : X.env.code = .ref c) (hdef : defaultsOf params X.env = ([], [])) (hcl : ∀ cells, cloFrom cells scope.names [] = []) (hfree : ∀ y ∈ scope.names, y.2 = .free → False) :
    PE X (.Lambda params body scope pos) (tLamW P ⟨X.env.qual ++ "<lambda>", params, body, scope⟩) :=
  ⟨fun pins s σ H Q I ⟨hT, k⟩ => lam_make4 I TB hcode hT hdef hcl (fun y hy e => (hfree y hy e).elim) fun f c' H1 s' I1 x t n a b => ⟨.ref f, H1, I1, rfl, k f c' H1 x t n a b⟩⟩
/-! ### such values -/
def dwFn (n : Str) : DW := fun _ Q => Q (.fn n)
def dwLam (k : Str) : DW := fun _ Q => Q (.lam k)
section
variable {X : Cx} {Ps : TX} {p pos : Pos}
theorem pw_fn {x : Str} {f : Addr} (hg : Gl X x) (hm : X.mg x = some (.ref f)) (hn : PySem.W.nsIn X.K mainGlobals x = some (some (.ref f))) (hd : (x == ("__debug__" : Str)) = false := by decide) : PE X (.Name x p) (liftW X.K Ps (dwFn x)) :=
  pe_weak (pe_glob (v := .ref f) hg hm rfl hd) fun σ H Q ⟨c, hs, as, σd, Qd, S, hd, k⟩ => k (.fn x) (.ref f) H hd Step.refl ⟨f, rfl, hn⟩
theorem pw_lam {key : Str} {c P : Addr} {params : Arguments} {body : PySem.Expr} {scope : Scope} (TB : LamX.TabB X.base X.mg c P) (hcode : X.env.code = .ref c) (hP : (P, some (X.env.qual ++ "<lambda>")) ∈ Ps.l) (hk : LmV.LamTable.tab key = ⟨X.env.qual ++ "<lambda>", params, body, scope⟩)
    (hdef : defaultsOf params X.env = ([], [])) (hcl : ∀ cells, cloFrom cells scope.names [] = []) (hfree : ∀ y ∈ scope.names, y.2 = .free → False) : PE X (.Lambda params body scope pos) (liftW X.K Ps (dwLam key)) :=
  pe_weak (pe_lamW TB hcode hdef hcl hfree) fun σ H Q ⟨c, hs, as, σd, Qd, S, hd, k⟩ => ⟨(S.fr.wf.tab _ hP).2, fun f c' H1 xt tt nf hf hc => by
    have s : Step hs Ps.l H H1 := step_lam S.fr.wf hP xt tt
    have w1 := (S.step s).fr.wf
    refine k (.lam key) (.ref f) H1 hd s ⟨f, c', rfl, msk_some.mpr ⟨fun m => S.fr.wf.al f m nf, ?_⟩, msk_some.mpr ⟨fun m => w1.cod c' _ _ m hc, ?_⟩⟩
    · rw [hk]; exact hf
    · rw [hk]; exact hc⟩
end
/-! ### the loop -/
/-- data, functions, lambdas: as a masked heap tells them -/
def VB (K : PySem.W.Frag) (B : Hp) (v : V) : WD → Prop
  | .dat d => Dp K B v d
  | .fn n => ∃ f, v = .ref f ∧ PySem.W.nsIn K mainGlobals n = some (some (.ref f))
  | .lam L => ∃ f c, v = .ref f ∧ B f = some (LmV.LamO f c (LmV.LamTable.tab L)) ∧ B c = some (LamX.CodeO c (LmV.LamTable.tab L).qual)
  | _ => False
def okW : WD → Bool
  | .dat _ => true
  | .fn _ => true
  | .lam _ => true
  | _ => false
theorem vb_of {K : PySem.W.Frag} {M : Addr → Prop} {hs as : List Addr} {H : Hp} {v : V} {w : WD} (o : okW w = true) (h : VR K M hs as H v w) : VB K (msk M H) v w := by
  cases w with
  | dat d => exact h
  | fn n => exact h
  | lam L => exact h
  | own ds => cases o
  | hat => cases o
theorem vb_to {K : PySem.W.Frag} {M : Addr → Prop} {hs as : List Addr} {H B : Hp} {v : V} {w : WD} (e : Ex B (msk M H)) (h : VB K B v w) : VR K M hs as H v w := by
  cases w with
  | dat d => exact dp_mono e h
  | fn n => exact h
  | lam L =>
    obtain ⟨f, c, rfl, h1, h2⟩ := h
    exact ⟨f, c, rfl, e _ _ h1, e _ _ h2⟩
  | own ds => cases h
  | hat => cases h
theorem vb_own {K : PySem.W.Frag} {B : Hp} {v : V} {w : WD} (h : VB K B v w) : ∀ ds, w ≠ .own ds := fun ds z => by
  subst z
  cases h
def ItW (K : PySem.W.Frag) (Ps : TX) (B : Hp) (J : It) (ws : List WD) : Prop := ∀ (M : Addr → Prop) (hs : List Addr) (H : Hp), Wf Ps M hs H → Ex B (msk M H) →
  (∀ i w, ws[i]? = some w → J.go i H ∧ ∀ x H', J.yld i H x H' → H' = H ∧ VB K B x w) ∧ J.stop ws.length H
theorem vbs_get {K : PySem.W.Frag} {B : Hp} : ∀ {vs : List V} {ws : List WD} {i : Nat} {w : WD}, Paired (VB K B) vs ws → ws[i]? = some w → ∃ v, vs[i]? = some v ∧ VB K B v w
  | _, _, 0, _, .cons h _, e => by cases e; exact ⟨_, rfl, h⟩
  | _, _, i + 1, _, .cons _ h, e => by
    obtain ⟨f, e1, e2⟩ := vbs_get (i := i) h (by simpa using e)
    exact ⟨f, by simpa using e1, e2⟩
theorem itw_tup {K : PySem.W.Frag} {Ps : TX} {B : Hp} {a : Addr} {xs : List V} {ws : List WD} (h : SqT K B a xs) (hd : Paired (VB K B) xs ws) : ItW K Ps B (Itt K a) ws := fun M hs H wf e =>
  ⟨fun i n hi => by
    obtain ⟨v, h1, h2⟩ := vbs_get hd hi
    have hl := ex_t msk_ex (ex_t e h)
    refine ⟨⟨xs, _, hl, h1⟩, fun x H' y => ?_⟩
    obtain ⟨rfl, g⟩ := y
    have := g xs hl
    rw [h1] at this
    cases this
    exact ⟨rfl, h2⟩, ⟨xs, ex_t msk_ex (ex_t e h), by rw [paired_len hd]; exact Nat.le_refl _⟩⟩
def forW (i : Nat) (tb : DS) (D : ED) : List WD → Sd → Prop
  | [], σ => D.nx σ
  | w :: ws, σ => tb { D with nx := forW i tb D ws, ct := forW i tb D ws, bk := D.nx } (σ.set i (some w))
def dForW (i : Nat) (da : DA) (tb : DS) : DS := fun D σ => da σ fun ws => (ws.all okW && Nat.ble ws.length 100000) = true ∧ forW i tb D ws σ
theorem paired_vb {K : PySem.W.Frag} {M : Addr → Prop} {hs : List Addr} {H : Hp} : ∀ {vs : List V} {ws : List WD}, ws.all okW = true → Paired (VR K M hs [] H) vs ws → Paired (VB K (msk M H)) vs ws
  | _, _, _, .nil => .nil
  | _, _ :: _, o, .cons h t => by
    rw [List.all_cons, Bool.and_eq_true] at o
    exact .cons (vb_of o.1 h) (paired_vb o.2 t)
theorem paired_vbm {K : PySem.W.Frag} {B B' : Hp} (e : Ex B B') : ∀ {vs : List V} {ws : List WD}, Paired (VB K B) vs ws → Paired (VB K B') vs ws
  | _, _, .nil => .nil
  | _, w :: _, .cons h t => .cons (by
    cases w with
    | dat d => exact dp_mono e h
    | fn n => exact h
    | lam L =>
      obtain ⟨f, c, rfl, h1, h2⟩ := h
      exact ⟨f, c, rfl, e _ _ h1, e _ _ h2⟩
    | own ds => cases h
    | hat => cases h) (paired_vbm e t)
theorem lift_forW {K : PySem.W.Frag} {Ps : TX} {i : Nat} {da : DA} {tb : DS} {D : Ends} {σ : L2.St} {H : Hp} (h : liftS K Ps (dForW i da tb) D σ H) : tFor (iSeq K (tTup (liftA K Ps da))) (gName i) (liftS K Ps tb) D σ H := by
  obtain ⟨c, hs, as, σd, Dd, S0, h0, r⟩ := h
  refine ⟨c, hs, as, σd, _, S0, h0, fun ws vs H0 q1 s0 r1 => ?_⟩
  obtain ⟨hok, h1⟩ := q1
  rw [Bool.and_eq_true] at hok
  have S := S0.step s0
  have hl : vs.length ≤ 100000 := by rw [paired_len r1]; exact Nat.le_of_ble_eq_true hok.2
  have hv := paired_vb hok.1 r1
  refine ⟨by rw [sizeLine_eq]; omega, fun p hp => ⟨p, rfl, .inr ⟨⟨vs, .inl (.of upd_same)⟩, ?_⟩⟩⟩
  have s1 : Step hs Ps H0 (upd H0 p (.tup vs)) := Step.of_ex (Ex.new hp)
  have mx := S.fr.wf.ex s1
  generalize eH : upd H0 p (.tup vs) = H1 at s1 mx
  have aP : H1 p = some (.tup vs) := by rw [← eH]; exact upd_same
  have nM : ¬ Mk c hs as p := S.fr.wf.fresh hp
  generalize hB : msk (Mk c hs as) H1 = B at mx
  have it : ItW K Ps B (Itt K p) ws := itw_tup (.inl (.of (by rw [← hB]; exact msk_some.mpr ⟨nM, aP⟩))) (paired_vbm mx hv)
  have toc : ∀ {hs' as' σ' H' σd'}, Sts K Ps { c with B := B } hs' as' σ' H' σd' → Sts K Ps c hs' as' σ' H' σd' := fun {hs' as' σ' H' σd'} T =>
    T.base (B := c.B) ((S.step s1).fr.bs.trans (by rw [hB]; exact T.fr.bs))
  refine ⟨fun j m σ' H' => ∃ hs' as' σd', Sts K Ps { c with B := B } hs' as' σ' H' σd' ∧ j + m = ws.length ∧ forW i tb Dd (ws.drop j) σd', ⟨ws.length, hs, as, σd, (S.step s1).base (by rw [hB]; exact Ex.refl _), by omega, h1⟩, ?_⟩
  rintro j m σ' H' ⟨hs', as', σd', T, em, hf'⟩
  obtain ⟨hgo, hst⟩ := it _ _ _ T.fr.wf T.fr.bs
  by_cases hi : j < ws.length
  · rw [List.drop_eq_getElem_cons hi] at hf'
    obtain ⟨g1, g2⟩ := hgo j ws[j] (List.getElem?_eq_getElem hi)
    refine .inr ⟨g1, fun σ2 H2 => ∃ hs2 as2 σd2, Sts K Ps { c with B := B } hs2 as2 σ2 H2 σd2 ∧ forW i tb Dd (ws.drop (j + 1)) σd2, fun σ2 H2 ⟨hs2, as2, σd2, T2, q⟩ => ⟨m - 1, by omega, hs2, as2, σd2, T2, by omega, q⟩, fun x H2 y => ?_⟩
    obtain ⟨rfl, vb⟩ := g2 x H2 y
    have T3 : Sts K Ps { c with B := B } hs' as' (σ'.set i (some x)) _ (σd'.set i (some ws[j])) := T.set ws[j] (fun ds z => vb_own vb ds z) (vb_to T.fr.bs vb)
    exact ⟨{ c with B := B }, hs', as', _, _, T3, hf', ⟨fun hs4 as4 σ4 H4 σd4 T4 q => ⟨hs4, as4, σd4, T4, q⟩, fun v H4 d s q1 q2 => r.rt v H4 d s q1 q2, fun hs4 as4 σ4 H4 σd4 T4 q => r.nx hs4 as4 σ4 H4 σd4 (toc T4) q, fun hs4 as4 σ4 H4 σd4 T4 q => ⟨hs4, as4, σd4, T4, q⟩⟩⟩
  · rw [List.drop_eq_nil_of_le (Nat.le_of_not_lt hi)] at hf'
    exact .inl ⟨(show j = ws.length by omega) ▸ hst, r.nx hs' as' σ' H' σd' (toc T) hf'⟩
section
variable {X : Cx} {Ps : TX} {tg : PySem.Expr} {bd : List Stmt} {es : List PySem.Expr} {p pos : Pos} {k0 i : Nat} {da : DA}
theorem psd_forW {tb : DS} (hp : PassesOwn (model X.prog X.w) X.A X.env X.xe) (hc : X.calm = true) (ha : PA X es (liftA X.K Ps da)) (hg : PG X tg (gName i)) (hb : PSs X bd (liftS X.K Ps tb))
    (hs : ∀ x, foldedSetIterable (.Tuple es k0 p) X.env x = pure x := by intro _; rfl) : PS X (.For tg (.Tuple es k0 p) bd [] pos) (liftS X.K Ps (dForW i da tb)) := ps_weak (ps_for hp hc (pi_seq (pe_tup ha)) hg hb hs) fun _ _ _ => lift_forW
end
end Dl
namespace Dl
open PySem PySem.Spec PyProof.Rows L2 HbE Evl RZ Gx HbX LamX
variable [LmV.LamTable]
/-! ### a lambda, by its body -/
@[simp] def mkE (n N : Nat) (fe : FE) : FF := fun ds => if ds.length = n then fe (startD N (ds.map WD.dat)) else .no
section
variable {P : Program} {w : World} {K : PySem.W.Frag} {mg : Str → Option Value} {base : Heap} {Ps : TbL} {k : Nat}
theorem okLam {L : LmV.LamW} {N ps : List Str} {n : Nat} {fe : FE} (S : NdefX.NScope N ps [] L.scope) (hn : ps.length = n)
    (hb : ∀ (c : Addr) (pm ctv : Value) (us : List Value), us.length = ps.length → bindArgs (PySem.W.kla_fn "<lambda>" L.qual L.params L.body L.scope [] pm (.ref c) ctv) ⟨us, []⟩ = pure (ps.zip us))
    (body : ∀ (f c : Addr) (A : Around) (outer : List Env) (s : Shared) (H : Hp) (E : XK) (Ed : Xn → Prop), Room k (A.deeper (NdefX.envF (L.nf c) f s.heap.objs.size)) → Takes (NdefX.ncx (L2.CX P w) P w K mg base N (L.nf c) f A outer s H E) (fun cls d _ H => E cls d H) →
      ∃ de, PE (NdefX.ncx (L2.CX P w) P w K mg base N (L.nf c) f A outer s H E) L.body (lift K ⟨Ps, Ed, E⟩ de) ∧ LeE (ofE Ed fe) de) :
    LmV.LOk P w K mg base (L2.CX P w) (k + 1) L ps (spX K Ps fun E => ofF E (mkE n N.length fe)) := by
  refine LmV.lok_of S hb (fun vs H Q E h => ?_) fun f c A outer s H vs Q E hr h => ?_
  · obtain ⟨M, hs, ws, Qd, Ed, wf, p, ⟨ds, rfl, sd⟩, _⟩ := h
    rw [paired_len p, hn]
    unfold mkE at sd
    split at sd
    · rename_i e
      rw [List.length_map]
      exact e
    · exact sd.elim
  · obtain ⟨M, hs, ws, Qd, Ed, wf, p, ⟨ds, rfl, sd⟩, k1, k2⟩ := h
    obtain ⟨de, h1, h2⟩ := body f c A outer s H E Ed hr (takes_of rfl rfl rfl rfl)
    refine ⟨_, h1, ⟨hs, M, H, msk M H⟩, hs, [], startD N.length (ds.map WD.dat), Qd, ?_, ?_, fun d v H' q s r => ?_⟩
    · have := sts_start (Ps := ⟨Ps, Ed, E⟩) N rfl wf p (fun x cls d H' a b c => k2 x cls d H' a b c)
      have e : NdefX.startF N vs [] = L2.start N vs := by
        unfold NdefX.startF L2.start
        simp
      rw [e]
      exact this
    · unfold mkE at sd
      split at sd
      · exact h2 _ _ sd
      · exact sd.elim
    · exact k1 d v H' q s (dp_mono (msk_less fun a m => .inl m) r)
end
/-! ### a call of the loop's name -/
def HeldL (P : Program) (w : World) (K : PySem.W.Frag) (mg : Str → Option Value) (base : Heap) (Ps : TbL) (k : Nat) (tab : List (Str × FF)) : Prop := ∀ n F, tab.lookup n = some F → ∃ ps l, LmV.LOk P w K mg base (L2.CX P w) l (LmV.LamTable.tab n) ps (spX K Ps fun E => ofF E F) ∧ l ≤ k
def dCallW (Ed : Xn → Prop) (i : Nat) (tab tal : List (Str × FF)) (da : DA) : DE := fun σ Q => ∃ n F, (σ[i]? = some (some (.fn n)) ∧ tab.lookup n = some F ∨ σ[i]? = some (some (.lam n)) ∧ tal.lookup n = some F) ∧ da σ fun ws => ofF Ed F ws Q
section
variable {X : Cx} {Ps : TX} {e : PySem.Expr} {es : List PySem.Expr} {p pos : Pos}
theorem pd_callW {x : Str} {i : Nat} {tab tal : List (Str × FF)} {k : Nat} {da : DA} (A : HeldN X.prog X.w X.K X.mg X.base Ps.l k tab) (AL : HeldL X.prog X.w X.K X.mg X.base Ps.l k tal) (tk : Takes X (fun cls d _ H => Ps.EE cls d H)) (hr : Room k X.A) (hN : X.N[i]? = some x) (hv : Vis X.env.scope x) (ha : PA X (e :: es) (liftA X.K Ps da))
    (hdb : (x == ("__debug__" : Str)) = false := by decide) (hcd : (x == ("__classdict__" : Str)) = false := by decide)
    (he : starEach (e :: es) X.env = (false, eval e X.env) :: starEach es X.env := by rfl) (hpl : (backTo pos (starEach es X.env)).any (·.1) = false := by rfl) : PE X (.Call (.Name x p) (e :: es) [] pos) (lift X.K Ps (dCallW Ps.Ed i tab tal da)) := by
  refine ⟨fun pins s σ H Q I ⟨c, hs, as, σd, Qd, S, ⟨n, F, e12, hd⟩, k⟩ => ?_⟩
  rcases e12 with ⟨e1, e2⟩ | ⟨e1, e2⟩
  · exact (pd_callV A tk hr hN hv ha hdb hcd he hpl).run pins s σ H Q I ⟨c, hs, as, σd, Qd, S, ⟨n, F, e1, e2, hd⟩, k⟩
  · obtain ⟨ps, l, Fk, hl⟩ := AL n F e2
    obtain ⟨v, e3, f', c', rfl, h1, h2⟩ := S.slot i _ e1
    have g1 := (msk_some.mp h1).2
    exact (LmV.pe_callLam (i := i) (E := Ps.EE) Fk hr hl (passes_call tk fun _ _ _ _ h => h) hN hv ha hdb hcd he hpl).run pins s σ H Q I ⟨f', c', e3, g1, c, hs, as, σd, _, S, hd, fun ws vs H1 q1 s1 r1 =>
      ⟨(msk_some.mp (S.fr.wf.ex s1 _ _ h1)).2, (msk_some.mp (S.fr.wf.ex s1 _ _ h2)).2, Mk c hs as, hs, ws, Qd, Ps.Ed, (S.step s1).fr.wf, r1, q1, fun d v H' h s r => k d v H' h (s1.trans s) r, fun x cls d H' h s r => S.raise (s1.trans s) h r⟩⟩
end
section
variable {E : Xn → Prop}
def forWF (i : Nat) (b : FS) : List WD → FS
  | [], σ => .ok (.nx σ)
  | n :: ns, σ => (b (σ.set i (some n))).bind fun w => match w with
    | .nx σ' => forWF i b ns σ'
    | .ct σ' => forWF i b ns σ'
    | .bk σ' => .ok (.nx σ')
    | .rt d => .ok (.rt d)
@[simp] def fForW (i : Nat) (ws : List WD) (b : FS) : FS := fun σ => forWF i b ws σ
theorem forWF_le {i : Nat} {s : FS} {ds : DS} (hb : LeS (ofS E s) ds) {D : ED} : ∀ {ns : List WD} {σ : Sd}, (forWF i s ns σ).Sat E D.go → forW i ds D ns σ
  | [], σ, h => h
  | n :: ns, σ, h => hb _ _ (Sat.mono (Sat.bind h) fun w h => by
    cases w with
    | nx σ' => exact forWF_le hb h
    | ct σ' => exact forWF_le hb h
    | bk σ' => exact h
    | rt d => exact h)
theorem les_forW {i : Nat} {ws : List WD} {da : DA} {s : FS} {ds : DS} (hb : LeS (ofS E s) ds) (hd : ∀ σ Q, Q ws → da σ Q) (ho : (ws.all okW && Nat.ble ws.length 100000) = true := by rfl) : LeS (ofS E (fForW i ws s)) (dForW i da ds) := fun D σ k => hd _ _ ⟨ho, forWF_le hb k⟩
@[simp] def fCallW (i : Nat) (tab tal : List (Str × FF)) (aa : FA) : FE := fun σ => match σ[i]? with
  | some (some (.fn n)) => match tab.lookup n with
    | some F => (aa σ).bind F
    | none => .no
  | some (some (.lam n)) => match tal.lookup n with
    | some F => (aa σ).bind F
    | none => .no
  | _ => .no
theorem le_callW {i : Nat} {tab tal : List (Str × FF)} {aa : FA} {ad : DA} (ha : LeA (ofA E aa) ad) : LeE (ofE E (fCallW i tab tal aa)) (dCallW E i tab tal ad) := fun σ Q h => by
  unfold ofE fCallW at h
  split at h
  · rename_i n q
    split at h
    · rename_i F q2
      exact ⟨n, F, .inl ⟨q, q2⟩, ha σ _ (Sat.mono (Sat.bind h) fun ds h => ⟨ds, rfl, h⟩)⟩
    · exact h.elim
  · rename_i n q
    split at h
    · rename_i F q2
      exact ⟨n, F, .inr ⟨q, q2⟩, ha σ _ (Sat.mono (Sat.bind h) fun ds h => ⟨ds, rfl, h⟩)⟩
    · exact h.elim
  · exact h.elim
end
end Dl
namespace Dl
open PySem PySem.Spec PyProof.Rows L2 HbE Evl RZ Gx HbX LamX
variable [LmV.LamTable]
section
variable {X : Cx} {Ps : TX} {p pos : Pos}
theorem pw_lam2 {key q0 : Str} {c P : Addr} {params : Arguments} {body : PySem.Expr} {scope : Scope} (TB : LamX.TabB X.base X.mg c P) (hcode : X.env.code = .ref c) (hq : X.env.qual = q0) (hP : (P, some (q0 ++ "<lambda>")) ∈ Ps.l) (hk : LmV.LamTable.tab key = ⟨q0 ++ "<lambda>", params, body, scope⟩)
    (hdef : defaultsOf params X.env = ([], [])) (hcl : ∀ cells, cloFrom cells scope.names [] = []) (hfree : ∀ y ∈ scope.names, y.2 = .free → False) : PE X (.Lambda params body scope pos) (liftW X.K Ps (dwLam key)) := by
  subst hq
  exact pw_lam TB hcode hP hk hdef hcl hfree
end
section
variable {P : Program} {w : World} {K : PySem.W.Frag} {mg : Str → Option Value} {base : Heap} {Ps : TbL} {k : Nat}
theorem heldL_nil : HeldL P w K mg base Ps k [] := fun n F h => by cases h
theorem heldL_cons {n : Str} {F : FF} {tab : List (Str × FF)} {ps : List Str} {l : Nat} (G : LmV.LOk P w K mg base (L2.CX P w) l (LmV.LamTable.tab n) ps (spX K Ps fun E => ofF E F)) (hl : l ≤ k) (t : HeldL P w K mg base Ps k tab) : HeldL P w K mg base Ps k ((n, F) :: tab) := fun m F' h => by
  rw [List.lookup_cons] at h
  split at h
  · rename_i e
    cases h
    have : m = n := eq_of_beq e
    subst this
    exact ⟨ps, l, G, hl⟩
  · exact t m F' h
end
/-! ### the words of a lambda, by its place -/
def forEs : Stmt → List PySem.Expr
  | .For _ (.Tuple es _ _) _ _ _ => es
  | _ => []
def lamWd (q : Str) (sc : Scope) : PySem.Expr → LmV.LamW
  | .Lambda p b s _ => ⟨q, p, b, s⟩
  | e => ⟨q, ⟨[], [], none, [], [], none, []⟩, e, sc⟩
def lamIn (st : Stmt) (q : Str) (j i : Nat) : LmV.LamW := lamWd q (L2.defScope st) ((forEs ((L2.defBody st).getD j (.Pass ⟨0, 0, 0, 0⟩))).getD i (.Constant .none 0 ⟨0, 0, 0, 0⟩))
end Dl
end
section
set_option Elab.async false
set_option linter.all false
set_option maxRecDepth 100000
set_option maxHeartbeats 1000000
/-! tuple(range(n)) -/
namespace Dl
open PySem PySem.Spec PyProof.Rows L2 HbE Evl RZ Gx
variable [LmV.LamTable]
def dTupRg (da : DE) : DE := fun σ Q => da σ fun x => match x with
  | .int n => (0 ≤ n ∧ n ≤ 100000) ∧ Q (.tuple (((List.range n.toNat).map fun i => ((i : Nat) : Int)).map PyData.int))
  | _ => False
section
variable {X : Cx} {Ps : TX} {a : PySem.Expr} {da : DE} {p p2 pos pos2 : Pos}
theorem pd_tupRg (hc : X.calm = true) (hg : Gl X "tuple") (hm : X.mg "tuple" = none) (hg2 : Gl X "range") (hm2 : X.mg "range" = none) (ha : PE X a (lift X.K Ps da)) (na2 : starEach [a] X.env = (false, eval a X.env) :: starEach [] X.env := by rfl)
    (na : starEach [.Call (.Name "range" p2) [a] [] pos2] X.env = (false, eval (.Call (.Name "range" p2) [a] [] pos2) X.env) :: starEach [] X.env := by rfl) : PE X (.Call (.Name "tuple" p) [.Call (.Name "range" p2) [a] [] pos2] [] pos) (lift X.K Ps (dTupRg da)) :=
  pe_weak (pe_tupRg hc hg hm (prg_1 hg2 hm2 ha na2) na) fun σ H Q ⟨c, hs, as, σd, Qd, S, hd, k⟩ => ⟨c, hs, as, σd, _, S, hd, fun d v H1 h1 s1 r1 => by
    split at h1
    · rename_i n
      cases r1
      obtain ⟨⟨h0, h2⟩, q⟩ := h1
      refine ⟨n, rfl, RgOk.of_le (by omega) (by omega) (by omega) (by omega), fun p hp => ?_⟩
      refine k _ _ _ q (s1.trans (Step.of_ex (Ex.new hp))) (dp_newT (S.step s1).fr.wf hp ?_)
      have e : rgV 0 n = ((List.range n.toNat).map fun i => ((i : Nat) : Int)).map V.int := by
        unfold rgV
        rw [List.map_map]
        simp
      rw [e]
      exact DpAll.ints
    · exact h1.elim⟩
end
section
variable {E : Xn → Prop}
@[simp] def fTupRg (fa : FE) : FE := fun σ => (fa σ).bind fun x => match x with
  | .int n => if (decide (0 ≤ n) && decide (n ≤ 100000)) = true then .ok (.tuple (((List.range n.toNat).map fun i => ((i : Nat) : Int)).map PyData.int)) else .no
  | _ => .no
theorem le_tupRg {fa : FE} {da : DE} (h : LeE (ofE E fa) da) : LeE (ofE E (fTupRg fa)) (dTupRg da) := fun σ Q k => h σ _ (Sat.mono (Sat.bind k) fun x k => by
  cases x with
  | int n =>
    simp only at k ⊢
    split at k
    · rename_i o
      simp only [Bool.and_eq_true, decide_eq_true_eq] at o
      exact ⟨o, k⟩
    · exact k.elim
  | _ => exact k.elim)
end
end Dl
end
section
set_option Elab.async false
set_option linter.all false
set_option maxRecDepth 100000
set_option maxHeartbeats 1000000
namespace Q
open PySem PySem.Spec PyProof.Rows L2 HbE Evl Dl RZ Gx HbX
def topS (i : Nat) : Stmt := PySem.Challenge.pw_hardbits_k69_errors_of_longer_words.main.body.getD i (.Pass ⟨0, 0, 0, 0⟩)
instance lamT : LmV.LamTable := ⟨fun k => if k == "_law_right.21.1" then lamIn (topS 87) (("_law_right" : Str) ++ ".<locals>." ++ "<lambda>") 21 1 else ⟨"", defArgs (topS 0), .Constant .none 0 ⟨0, 0, 0, 0⟩, defScope (topS 0)⟩⟩
section
variable {P : Program} {w : World} {K : PySem.W.Frag} {mg : Str → Option Value} {base : Heap} {Ps : TbL}
abbrev s_is_integer : Stmt := topS 3
abbrev N_is_integer : List PySem.Str := ["value"]
theorem sc_is_integer : FnScope N_is_integer ["value"] (defScope s_is_integer) := ⟨rfl, rfl, rfl, by decide +kernel, rfl, by decide +kernel, by decide +kernel⟩
def fs_is_integer : FS :=
  fRet (fAndV (fIsi "int" (fVar 0)) (fNotV (fIsi "bool" (fVar 0))))
def F_is_integer : FF := mkF 1 N_is_integer.length fs_is_integer
theorem ok_is_integer {f : Addr} {fd : FuncData} {k : Nat} (F : L2.Fun K "is_integer" "is_integer" s_is_integer f fd)
    (z_isinstance : mg "isinstance" = none)
    (z_int : mg "int" = none)
    (z_bool : mg "bool" = none) : FnOk P w K mg base (L2.CX P w) (k + 1) f fd ["value"] (spX K Ps fun E => ofF E F_is_integer) :=
  okFX (N := N_is_integer) (n := 1) (fs := fs_is_integer) F sc_is_integer rfl fun cdv A outer s H E Ed hr tk po => ⟨_, (have nd := sc_is_integer.nd
    psd_one (psd_ret (pd_and (pd_isi (by decide +kernel) (pd_var (pv 0)) (by rfl) z_isinstance (pe_bltn (by rfl) z_int PyProof.Rows.Boot.«int» rfl)) (pe_one (pd_not (pd_isi (by decide +kernel) (pd_var (pv 0)) (by rfl) z_isinstance (pe_bltn (by rfl) z_bool PyProof.Rows.Boot.«bool» rfl))))))),
    (les_ret (le_andV (le_isi (le_var)) (le_notV (le_isi (le_var)))))⟩
abbrev s_is_short : Stmt := topS 4
abbrev N_is_short : List PySem.Str := ["value"]
theorem sc_is_short : FnScope N_is_short ["value"] (defScope s_is_short) := ⟨rfl, rfl, rfl, by decide +kernel, rfl, by decide +kernel, by decide +kernel⟩
def fs_is_short : FS :=
  fRet (fAndV (fCall F_is_integer (fCons (fVar 0) (fNil))) (fChain (gI0 fun i j => .bool (decide (i ≤ j))) (gI0 fun i j => .bool (decide (i ≤ j))) (fNeg (fC (.int 999999999))) (fVar 0) (fC (.int 999999999))))
def F_is_short : FF := mkF 1 N_is_short.length fs_is_short
theorem ok_is_short {f : Addr} {fd : FuncData} {k : Nat} (F : L2.Fun K "is_short" "is_short" s_is_short f fd)
    {tk_LONGEST : Tok} (c_LONGEST : mg "LONGEST" = some (.int 999999999 tk_LONGEST))
    {f_is_integer : Addr} {d_is_integer : FuncData} {l_is_integer : Nat} (h_is_integer : l_is_integer ≤ k) (G_is_integer : FnOk P w K mg base (L2.CX P w) l_is_integer f_is_integer d_is_integer ["value"] (spX K Ps fun E => ofF E F_is_integer)) (g_is_integer : mg "is_integer" = some (.ref f_is_integer)) (k_is_integer : PySem.W.keepIn K (.ref f_is_integer) = true) (b_is_integer : Binds K d_is_integer ["value"] []) : FnOk P w K mg base (L2.CX P w) (k + 1) f fd ["value"] (spX K Ps fun E => ofF E F_is_short) :=
  okFX (N := N_is_short) (n := 1) (fs := fs_is_short) F sc_is_short rfl fun cdv A outer s H E Ed hr tk po => ⟨_, (have nd := sc_is_short.nd
    psd_one (psd_ret (pd_and (pd_callX G_is_integer tk (hr.mono (by omega)) (by rfl) g_is_integer k_is_integer b_is_integer (pda_cons (pw_dat (pd_var (pv 0))) (pda_nil))) (pe_one (pd_chain op_le op_le (op2_I0 fun _ _ _ _ => .bl _) (op2_I0 fun _ _ _ _ => .bl _) (pd_neg (pd_c (pe_glob (v := V.int 999999999) (by rfl) c_LONGEST ⟨_, rfl⟩) (fun _ _ => .int _))) (pd_var (pv 0)) (pd_c (pe_glob (v := V.int 999999999) (by rfl) c_LONGEST ⟨_, rfl⟩) (fun _ _ => .int _))))))),
    (les_ret (le_andV (le_call (le_cons (le_var) (le_nil))) (le_chain (leop_I0) (leop_I0) (le_neg (le_c)) (le_var) (le_c))))⟩
abbrev s_is_between : Stmt := topS 5
abbrev N_is_between : List PySem.Str := ["value", "low", "high"]
theorem sc_is_between : FnScope N_is_between ["value", "low", "high"] (defScope s_is_between) := ⟨rfl, rfl, rfl, by decide +kernel, rfl, by decide +kernel, by decide +kernel⟩
def fs_is_between : FS :=
  fRet (fAndV (fCall F_is_integer (fCons (fVar 0) (fNil))) (fChain (gI0 fun i j => .bool (decide (i ≤ j))) (gI0 fun i j => .bool (decide (i ≤ j))) (fVar 1) (fVar 0) (fVar 2)))
def F_is_between : FF := mkF 3 N_is_between.length fs_is_between
theorem ok_is_between {f : Addr} {fd : FuncData} {k : Nat} (F : L2.Fun K "is_between" "is_between" s_is_between f fd)
    {f_is_integer : Addr} {d_is_integer : FuncData} {l_is_integer : Nat} (h_is_integer : l_is_integer ≤ k) (G_is_integer : FnOk P w K mg base (L2.CX P w) l_is_integer f_is_integer d_is_integer ["value"] (spX K Ps fun E => ofF E F_is_integer)) (g_is_integer : mg "is_integer" = some (.ref f_is_integer)) (k_is_integer : PySem.W.keepIn K (.ref f_is_integer) = true) (b_is_integer : Binds K d_is_integer ["value"] []) : FnOk P w K mg base (L2.CX P w) (k + 1) f fd ["value", "low", "high"] (spX K Ps fun E => ofF E F_is_between) :=
  okFX (N := N_is_between) (n := 3) (fs := fs_is_between) F sc_is_between rfl fun cdv A outer s H E Ed hr tk po => ⟨_, (have nd := sc_is_between.nd
    psd_one (psd_ret (pd_and (pd_callX G_is_integer tk (hr.mono (by omega)) (by rfl) g_is_integer k_is_integer b_is_integer (pda_cons (pw_dat (pd_var (pv 0))) (pda_nil))) (pe_one (pd_chain op_le op_le (op2_I0 fun _ _ _ _ => .bl _) (op2_I0 fun _ _ _ _ => .bl _) (pd_var (pv 1)) (pd_var (pv 0)) (pd_var (pv 2))))))),
    (les_ret (le_andV (le_call (le_cons (le_var) (le_nil))) (le_chain (leop_I0) (leop_I0) (le_var) (le_var) (le_var))))⟩
abbrev s_is_index : Stmt := topS 6
abbrev N_is_index : List PySem.Str := ["value", "limit"]
theorem sc_is_index : FnScope N_is_index ["value", "limit"] (defScope s_is_index) := ⟨rfl, rfl, rfl, by decide +kernel, rfl, by decide +kernel, by decide +kernel⟩
def fs_is_index : FS :=
  fRet (fCall F_is_between (fCons (fVar 0) (fCons (fC (.int 0)) (fCons (fOp (gI0 fun i j => .int (i - j)) (fVar 1) (fC (.int 1))) (fNil)))))
def F_is_index : FF := mkF 2 N_is_index.length fs_is_index
theorem ok_is_index {f : Addr} {fd : FuncData} {k : Nat} (F : L2.Fun K "is_index" "is_index" s_is_index f fd)
    {f_is_between : Addr} {d_is_between : FuncData} {l_is_between : Nat} (h_is_between : l_is_between ≤ k) (G_is_between : FnOk P w K mg base (L2.CX P w) l_is_between f_is_between d_is_between ["value", "low", "high"] (spX K Ps fun E => ofF E F_is_between)) (g_is_between : mg "is_between" = some (.ref f_is_between)) (k_is_between : PySem.W.keepIn K (.ref f_is_between) = true) (b_is_between : Binds K d_is_between ["value", "low", "high"] []) : FnOk P w K mg base (L2.CX P w) (k + 1) f fd ["value", "limit"] (spX K Ps fun E => ofF E F_is_index) :=
  okFX (N := N_is_index) (n := 2) (fs := fs_is_index) F sc_is_index rfl fun cdv A outer s H E Ed hr tk po => ⟨_, (have nd := sc_is_index.nd
    psd_one (psd_ret (pd_callX G_is_between tk (hr.mono (by omega)) (by rfl) g_is_between k_is_between b_is_between (pda_cons (pw_dat (pd_var (pv 0))) (pda_cons (pw_dat (pd_c pe_int (fun _ _ => .int _))) (pda_cons (pw_dat (pd_op op_sub (op2_I0 fun _ _ _ _ => .int _) (pd_var (pv 1)) (pd_c pe_int (fun _ _ => .int _)))) (pda_nil))))))),
    (les_ret (le_call (le_cons (le_var) (le_cons (le_c) (le_cons (le_op (leop_I0) (le_var) (le_c)) (le_nil))))))⟩
abbrev s_is_bit : Stmt := topS 7
abbrev N_is_bit : List PySem.Str := ["value"]
theorem sc_is_bit : FnScope N_is_bit ["value"] (defScope s_is_bit) := ⟨rfl, rfl, rfl, by decide +kernel, rfl, by decide +kernel, by decide +kernel⟩
def fs_is_bit : FS :=
  fRet (fCall F_is_between (fCons (fVar 0) (fCons (fC (.int 0)) (fCons (fC (.int 1)) (fNil)))))
def F_is_bit : FF := mkF 1 N_is_bit.length fs_is_bit
theorem ok_is_bit {f : Addr} {fd : FuncData} {k : Nat} (F : L2.Fun K "is_bit" "is_bit" s_is_bit f fd)
    {f_is_between : Addr} {d_is_between : FuncData} {l_is_between : Nat} (h_is_between : l_is_between ≤ k) (G_is_between : FnOk P w K mg base (L2.CX P w) l_is_between f_is_between d_is_between ["value", "low", "high"] (spX K Ps fun E => ofF E F_is_between)) (g_is_between : mg "is_between" = some (.ref f_is_between)) (k_is_between : PySem.W.keepIn K (.ref f_is_between) = true) (b_is_between : Binds K d_is_between ["value", "low", "high"] []) : FnOk P w K mg base (L2.CX P w) (k + 1) f fd ["value"] (spX K Ps fun E => ofF E F_is_bit) :=
  okFX (N := N_is_bit) (n := 1) (fs := fs_is_bit) F sc_is_bit rfl fun cdv A outer s H E Ed hr tk po => ⟨_, (have nd := sc_is_bit.nd
    psd_one (psd_ret (pd_callX G_is_between tk (hr.mono (by omega)) (by rfl) g_is_between k_is_between b_is_between (pda_cons (pw_dat (pd_var (pv 0))) (pda_cons (pw_dat (pd_c pe_int (fun _ _ => .int _))) (pda_cons (pw_dat (pd_c pe_int (fun _ _ => .int _))) (pda_nil))))))),
    (les_ret (le_call (le_cons (le_var) (le_cons (le_c) (le_cons (le_c) (le_nil))))))⟩
abbrev s_is_sign : Stmt := topS 8
abbrev N_is_sign : List PySem.Str := ["value"]
theorem sc_is_sign : FnScope N_is_sign ["value"] (defScope s_is_sign) := ⟨rfl, rfl, rfl, by decide +kernel, rfl, by decide +kernel, by decide +kernel⟩
def fs_is_sign : FS :=
  fRet (fAndV (fCall F_is_integer (fCons (fVar 0) (fNil))) (fOp (gEq false) (fOpN gAbs (fCons (fVar 0) (fNil))) (fC (.int 1))))
def F_is_sign : FF := mkF 1 N_is_sign.length fs_is_sign
theorem ok_is_sign {f : Addr} {fd : FuncData} {k : Nat} (F : L2.Fun K "is_sign" "is_sign" s_is_sign f fd)
    (z_abs : mg "abs" = none)
    {f_is_integer : Addr} {d_is_integer : FuncData} {l_is_integer : Nat} (h_is_integer : l_is_integer ≤ k) (G_is_integer : FnOk P w K mg base (L2.CX P w) l_is_integer f_is_integer d_is_integer ["value"] (spX K Ps fun E => ofF E F_is_integer)) (g_is_integer : mg "is_integer" = some (.ref f_is_integer)) (k_is_integer : PySem.W.keepIn K (.ref f_is_integer) = true) (b_is_integer : Binds K d_is_integer ["value"] []) : FnOk P w K mg base (L2.CX P w) (k + 1) f fd ["value"] (spX K Ps fun E => ofF E F_is_sign) :=
  okFX (N := N_is_sign) (n := 1) (fs := fs_is_sign) F sc_is_sign rfl fun cdv A outer s H E Ed hr tk po => ⟨_, (have nd := sc_is_sign.nd
    psd_one (psd_ret (pd_and (pd_callX G_is_integer tk (hr.mono (by omega)) (by rfl) g_is_integer k_is_integer b_is_integer (pda_cons (pw_dat (pd_var (pv 0))) (pda_nil))) (pe_one (pd_cmp (op_eqD hr.units) (op2_eq) (pd_callN call_abs opn_abs (by rfl) z_abs Dl.b_abs (pda_cons (pw_dat (pd_var (pv 0))) (pda_nil))) (pd_c pe_int (fun _ _ => .int _)) (nomark _)))))),
    (les_ret (le_andV (le_call (le_cons (le_var) (le_nil))) (le_op (leop_eq) (le_opN len_abs (le_cons (le_var) (le_nil))) (le_c))))⟩
abbrev s_is_tuple_of : Stmt := topS 9
abbrev N_is_tuple_of : List PySem.Str := ["value", "length"]
theorem sc_is_tuple_of : FnScope N_is_tuple_of ["value", "length"] (defScope s_is_tuple_of) := ⟨rfl, rfl, rfl, by decide +kernel, rfl, by decide +kernel, by decide +kernel⟩
def fs_is_tuple_of : FS :=
  fRet (fAndV (fIsi "tuple" (fVar 0)) (fOp (gEq false) (fOpQ gLen (fVarQ 0)) (fVar 1)))
def F_is_tuple_of : FF := mkF 2 N_is_tuple_of.length fs_is_tuple_of
theorem ok_is_tuple_of {f : Addr} {fd : FuncData} {k : Nat} (F : L2.Fun K "is_tuple_of" "is_tuple_of" s_is_tuple_of f fd)
    (z_isinstance : mg "isinstance" = none)
    (z_tuple : mg "tuple" = none)
    (z_len : mg "len" = none) : FnOk P w K mg base (L2.CX P w) (k + 1) f fd ["value", "length"] (spX K Ps fun E => ofF E F_is_tuple_of) :=
  okFX (N := N_is_tuple_of) (n := 2) (fs := fs_is_tuple_of) F sc_is_tuple_of rfl fun cdv A outer s H E Ed hr tk po => ⟨_, (have nd := sc_is_tuple_of.nd
    psd_one (psd_ret (pd_and (pd_isi (by decide +kernel) (pd_var (pv 0)) (by rfl) z_isinstance (pe_bltn (by rfl) z_tuple PyProof.Rows.Boot.«tuple» rfl)) (pe_one (pd_cmp (op_eqD hr.units) (op2_eq) (pd_len (by rfl) z_len (pq_var (pv 0))) (pd_var (pv 1)) (nomark _)))))),
    (les_ret (le_andV (le_isi (le_var)) (le_op (leop_eq) (le_opQ leq_len (le_varQ)) (le_var))))⟩
abbrev s_is_answer : Stmt := topS 10
abbrev N_is_answer : List PySem.Str := ["value", "word", "length"]
theorem sc_is_answer : FnScope N_is_answer ["value", "word", "length"] (defScope s_is_answer) := ⟨rfl, rfl, rfl, by decide +kernel, rfl, by decide +kernel, by decide +kernel⟩
def fs_is_answer : FS :=
  fRet (fAndV (fCall F_is_tuple_of (fCons (fVar 0) (fCons (fVar 2) (fNil)))) (fOp (gEq false) (fIx (fVarQ 0) (fC (.int 0))) (fVar 1)))
def F_is_answer : FF := mkF 3 N_is_answer.length fs_is_answer
theorem ok_is_answer {f : Addr} {fd : FuncData} {k : Nat} (F : L2.Fun K "is_answer" "is_answer" s_is_answer f fd)
    {f_is_tuple_of : Addr} {d_is_tuple_of : FuncData} {l_is_tuple_of : Nat} (h_is_tuple_of : l_is_tuple_of ≤ k) (G_is_tuple_of : FnOk P w K mg base (L2.CX P w) l_is_tuple_of f_is_tuple_of d_is_tuple_of ["value", "length"] (spX K Ps fun E => ofF E F_is_tuple_of)) (g_is_tuple_of : mg "is_tuple_of" = some (.ref f_is_tuple_of)) (k_is_tuple_of : PySem.W.keepIn K (.ref f_is_tuple_of) = true) (b_is_tuple_of : Binds K d_is_tuple_of ["value", "length"] []) : FnOk P w K mg base (L2.CX P w) (k + 1) f fd ["value", "word", "length"] (spX K Ps fun E => ofF E F_is_answer) :=
  okFX (N := N_is_answer) (n := 3) (fs := fs_is_answer) F sc_is_answer rfl fun cdv A outer s H E Ed hr tk po => ⟨_, (have nd := sc_is_answer.nd
    psd_one (psd_ret (pd_and (pd_callX G_is_tuple_of tk (hr.mono (by omega)) (by rfl) g_is_tuple_of k_is_tuple_of b_is_tuple_of (pda_cons (pw_dat (pd_var (pv 0))) (pda_cons (pw_dat (pd_var (pv 2))) (pda_nil)))) (pe_one (pd_cmp (op_eqD hr.units) (op2_eq) (pd_ix (pq_var (pv 0)) (pd_c pe_int (fun _ _ => .int _)) (fun _ _ => rfl)) (pd_var (pv 1)) (nomark _)))))),
    (les_ret (le_andV (le_call (le_cons (le_var) (le_cons (le_var) (le_nil)))) (le_op (leop_eq) (le_ix (le_varQ) (le_c)) (le_var))))⟩
abbrev s_is_word : Stmt := topS 11
abbrev N_is_word : List PySem.Str := ["value", "length", "bit"]
theorem sc_is_word : FnScope N_is_word ["value", "length"] (defScope s_is_word) := ⟨rfl, rfl, rfl, by decide +kernel, rfl, by decide +kernel, by decide +kernel⟩
def fs_is_word : FS :=
  fRet (fAndV (fCall F_is_tuple_of (fCons (fVar 0) (fCons (fVar 1) (fNil)))) (fAll (fItS (fVar 0)) (fgSet 2) (fYes) (fCall0 F_is_bit (fCons (fVar 2) (fNil))) [2]))
def F_is_word : FF := mkF 2 N_is_word.length fs_is_word
theorem ok_is_word {f cc PP : Addr} {fd : FuncData} {k : Nat} (F : FunC K "is_word" "is_word" s_is_word cc f fd)
    (z_all : mg "all" = none)
    (h2 : 2 ≤ k) (TB : GxR.TabB base mg cc PP) (hPP : (PP, none) ∈ Ps)
    {f_is_tuple_of : Addr} {d_is_tuple_of : FuncData} {l_is_tuple_of : Nat} (h_is_tuple_of : l_is_tuple_of + 2 ≤ k) (G_is_tuple_of : FnOk P w K mg base (L2.CX P w) l_is_tuple_of f_is_tuple_of d_is_tuple_of ["value", "length"] (spX K Ps fun E => ofF E F_is_tuple_of)) (g_is_tuple_of : mg "is_tuple_of" = some (.ref f_is_tuple_of)) (k_is_tuple_of : PySem.W.keepIn K (.ref f_is_tuple_of) = true) (b_is_tuple_of : Binds K d_is_tuple_of ["value", "length"] [])
    {f_is_bit : Addr} {d_is_bit : FuncData} {l_is_bit : Nat} (h_is_bit : l_is_bit + 2 ≤ k) (G_is_bit : FnOk P w K mg base (L2.CX P w) l_is_bit f_is_bit d_is_bit ["value"] (spX K Ps fun E => ofF E F_is_bit)) (g_is_bit : mg "is_bit" = some (.ref f_is_bit)) (k_is_bit : PySem.W.keepIn K (.ref f_is_bit) = true) (b_is_bit : Binds K d_is_bit ["value"] []) : FnOk P w K mg base (L2.CX P w) (k + 1) f fd ["value", "length"] (spX K Ps fun E => ofF E F_is_word) :=
  okFXC (N := N_is_word) (n := 2) (fs := fs_is_word) F sc_is_word rfl fun A outer s H E Ed hr tk po => ⟨_, (have nd := sc_is_word.nd
    psd_one (psd_ret (pd_and (pd_callX G_is_tuple_of tk (hr.mono (by omega)) (by rfl) g_is_tuple_of k_is_tuple_of b_is_tuple_of (pda_cons (pw_dat (pd_var (pv 0))) (pda_cons (pw_dat (pd_var (pv 1))) (pda_nil)))) (pe_one (pd_all (k := k - 2) (own := [("bit", 2)]) (hr.mono (by omega)) (by rfl) z_all TB hPP rfl nd rfl (by decide +kernel) rfl (blkOk_by (N := N_is_word) (sc := defScope s_is_word) (by decide +kernel)) (pid_seq (pd_var (pv 0))) (fun _ _ _ _ _ _ _ hr => pgd_name (pg_name (i := 2) nd rfl (by first | exact Or.inl rfl | exact Or.inr rfl))) (fun _ _ _ _ _ _ _ hr => ptsd_nil) (fun _ _ _ _ _ _ _ hr => pd_call (fnX0 G_is_bit) (hr.mono (by omega)) (by rfl) g_is_bit k_is_bit b_is_bit (pda_cons (pw_dat (pd_var (pv 2))) (pda_nil)))))))),
    (les_ret (le_andV (le_call (le_cons (le_var) (le_cons (le_var) (le_nil)))) (le_all (le_itS (le_var)) (le_gSet) (le_yes) (le_call0 (le_cons (le_var) (le_nil))))))⟩
abbrev s_is_signs : Stmt := topS 12
abbrev N_is_signs : List PySem.Str := ["value", "length", "sign"]
theorem sc_is_signs : FnScope N_is_signs ["value", "length"] (defScope s_is_signs) := ⟨rfl, rfl, rfl, by decide +kernel, rfl, by decide +kernel, by decide +kernel⟩
def fs_is_signs : FS :=
  fRet (fAndV (fCall F_is_tuple_of (fCons (fVar 0) (fCons (fVar 1) (fNil)))) (fAll (fItS (fVar 0)) (fgSet 2) (fYes) (fCall0 F_is_sign (fCons (fVar 2) (fNil))) [2]))
def F_is_signs : FF := mkF 2 N_is_signs.length fs_is_signs
theorem ok_is_signs {f cc PP : Addr} {fd : FuncData} {k : Nat} (F : FunC K "is_signs" "is_signs" s_is_signs cc f fd)
    (z_all : mg "all" = none)
    (h2 : 2 ≤ k) (TB : GxR.TabB base mg cc PP) (hPP : (PP, none) ∈ Ps)
    {f_is_tuple_of : Addr} {d_is_tuple_of : FuncData} {l_is_tuple_of : Nat} (h_is_tuple_of : l_is_tuple_of + 2 ≤ k) (G_is_tuple_of : FnOk P w K mg base (L2.CX P w) l_is_tuple_of f_is_tuple_of d_is_tuple_of ["value", "length"] (spX K Ps fun E => ofF E F_is_tuple_of)) (g_is_tuple_of : mg "is_tuple_of" = some (.ref f_is_tuple_of)) (k_is_tuple_of : PySem.W.keepIn K (.ref f_is_tuple_of) = true) (b_is_tuple_of : Binds K d_is_tuple_of ["value", "length"] [])
    {f_is_sign : Addr} {d_is_sign : FuncData} {l_is_sign : Nat} (h_is_sign : l_is_sign + 2 ≤ k) (G_is_sign : FnOk P w K mg base (L2.CX P w) l_is_sign f_is_sign d_is_sign ["value"] (spX K Ps fun E => ofF E F_is_sign)) (g_is_sign : mg "is_sign" = some (.ref f_is_sign)) (k_is_sign : PySem.W.keepIn K (.ref f_is_sign) = true) (b_is_sign : Binds K d_is_sign ["value"] []) : FnOk P w K mg base (L2.CX P w) (k + 1) f fd ["value", "length"] (spX K Ps fun E => ofF E F_is_signs) :=
  okFXC (N := N_is_signs) (n := 2) (fs := fs_is_signs) F sc_is_signs rfl fun A outer s H E Ed hr tk po => ⟨_, (have nd := sc_is_signs.nd
    psd_one (psd_ret (pd_and (pd_callX G_is_tuple_of tk (hr.mono (by omega)) (by rfl) g_is_tuple_of k_is_tuple_of b_is_tuple_of (pda_cons (pw_dat (pd_var (pv 0))) (pda_cons (pw_dat (pd_var (pv 1))) (pda_nil)))) (pe_one (pd_all (k := k - 2) (own := [("sign", 2)]) (hr.mono (by omega)) (by rfl) z_all TB hPP rfl nd rfl (by decide +kernel) rfl (blkOk_by (N := N_is_signs) (sc := defScope s_is_signs) (by decide +kernel)) (pid_seq (pd_var (pv 0))) (fun _ _ _ _ _ _ _ hr => pgd_name (pg_name (i := 2) nd rfl (by first | exact Or.inl rfl | exact Or.inr rfl))) (fun _ _ _ _ _ _ _ hr => ptsd_nil) (fun _ _ _ _ _ _ _ hr => pd_call (fnX0 G_is_sign) (hr.mono (by omega)) (by rfl) g_is_sign k_is_sign b_is_sign (pda_cons (pw_dat (pd_var (pv 2))) (pda_nil)))))))),
    (les_ret (le_andV (le_call (le_cons (le_var) (le_cons (le_var) (le_nil)))) (le_all (le_itS (le_var)) (le_gSet) (le_yes) (le_call0 (le_cons (le_var) (le_nil))))))⟩
abbrev s_is_indices : Stmt := topS 13
abbrev N_is_indices : List PySem.Str := ["value", "limit", "place"]
theorem sc_is_indices : FnScope N_is_indices ["value", "limit"] (defScope s_is_indices) := ⟨rfl, rfl, rfl, by decide +kernel, rfl, by decide +kernel, by decide +kernel⟩
def fs_is_indices : FS :=
  fRet (fAndV (fIsi "tuple" (fVar 0)) (fAll (fItS (fVar 0)) (fgSet 2) (fYes) (fCall0 F_is_index (fCons (fVar 2) (fCons (fVar 1) (fNil)))) [2]))
def F_is_indices : FF := mkF 2 N_is_indices.length fs_is_indices
theorem ok_is_indices {f cc PP : Addr} {fd : FuncData} {k : Nat} (F : FunC K "is_indices" "is_indices" s_is_indices cc f fd)
    (z_isinstance : mg "isinstance" = none)
    (z_tuple : mg "tuple" = none)
    (z_all : mg "all" = none)
    (h2 : 2 ≤ k) (TB : GxR.TabB base mg cc PP) (hPP : (PP, none) ∈ Ps)
    {f_is_index : Addr} {d_is_index : FuncData} {l_is_index : Nat} (h_is_index : l_is_index + 2 ≤ k) (G_is_index : FnOk P w K mg base (L2.CX P w) l_is_index f_is_index d_is_index ["value", "limit"] (spX K Ps fun E => ofF E F_is_index)) (g_is_index : mg "is_index" = some (.ref f_is_index)) (k_is_index : PySem.W.keepIn K (.ref f_is_index) = true) (b_is_index : Binds K d_is_index ["value", "limit"] []) : FnOk P w K mg base (L2.CX P w) (k + 1) f fd ["value", "limit"] (spX K Ps fun E => ofF E F_is_indices) :=
  okFXC (N := N_is_indices) (n := 2) (fs := fs_is_indices) F sc_is_indices rfl fun A outer s H E Ed hr tk po => ⟨_, (have nd := sc_is_indices.nd
    psd_one (psd_ret (pd_and (pd_isi (by decide +kernel) (pd_var (pv 0)) (by rfl) z_isinstance (pe_bltn (by rfl) z_tuple PyProof.Rows.Boot.«tuple» rfl)) (pe_one (pd_all (k := k - 2) (own := [("place", 2)]) (hr.mono (by omega)) (by rfl) z_all TB hPP rfl nd rfl (by decide +kernel) rfl (blkOk_by (N := N_is_indices) (sc := defScope s_is_indices) (by decide +kernel)) (pid_seq (pd_var (pv 0))) (fun _ _ _ _ _ _ _ hr => pgd_name (pg_name (i := 2) nd rfl (by first | exact Or.inl rfl | exact Or.inr rfl))) (fun _ _ _ _ _ _ _ hr => ptsd_nil) (fun _ _ _ _ _ _ _ hr => pd_call (fnX0 G_is_index) (hr.mono (by omega)) (by rfl) g_is_index k_is_index b_is_index (pda_cons (pw_dat (pd_var (pv 2))) (pda_cons (pw_dat (pd_var (pv 1))) (pda_nil))))))))),
    (les_ret (le_andV (le_isi (le_var)) (le_all (le_itS (le_var)) (le_gSet) (le_yes) (le_call0 (le_cons (le_var) (le_cons (le_var) (le_nil)))))))⟩
abbrev s_is_places : Stmt := topS 14
abbrev N_is_places : List PySem.Str := ["value", "length", "limit"]
theorem sc_is_places : FnScope N_is_places ["value", "length", "limit"] (defScope s_is_places) := ⟨rfl, rfl, rfl, by decide +kernel, rfl, by decide +kernel, by decide +kernel⟩
def fs_is_places : FS :=
  fSeq (fIf (fOr (fNot (fTru (fCall F_is_tuple_of (fCons (fVar 0) (fCons (fVar 1) (fNil)))))) (fNot (fTru (fCall F_is_indices (fCons (fVar 0) (fCons (fVar 2) (fNil))))))) (fRet (fC (.bool false))) (fNext))
    (fRet (fOp (gEq false) (fLenSet (fVar 0)) (fVar 1)))
def F_is_places : FF := mkF 3 N_is_places.length fs_is_places
theorem ok_is_places {f : Addr} {fd : FuncData} {k : Nat} (F : L2.Fun K "is_places" "is_places" s_is_places f fd)
    (z_len : mg "len" = none)
    (z_set : mg "set" = none)
    {f_is_tuple_of : Addr} {d_is_tuple_of : FuncData} {l_is_tuple_of : Nat} (h_is_tuple_of : l_is_tuple_of ≤ k) (G_is_tuple_of : FnOk P w K mg base (L2.CX P w) l_is_tuple_of f_is_tuple_of d_is_tuple_of ["value", "length"] (spX K Ps fun E => ofF E F_is_tuple_of)) (g_is_tuple_of : mg "is_tuple_of" = some (.ref f_is_tuple_of)) (k_is_tuple_of : PySem.W.keepIn K (.ref f_is_tuple_of) = true) (b_is_tuple_of : Binds K d_is_tuple_of ["value", "length"] [])
    {f_is_indices : Addr} {d_is_indices : FuncData} {l_is_indices : Nat} (h_is_indices : l_is_indices ≤ k) (G_is_indices : FnOk P w K mg base (L2.CX P w) l_is_indices f_is_indices d_is_indices ["value", "limit"] (spX K Ps fun E => ofF E F_is_indices)) (g_is_indices : mg "is_indices" = some (.ref f_is_indices)) (k_is_indices : PySem.W.keepIn K (.ref f_is_indices) = true) (b_is_indices : Binds K d_is_indices ["value", "limit"] []) : FnOk P w K mg base (L2.CX P w) (k + 1) f fd ["value", "length", "limit"] (spX K Ps fun E => ofF E F_is_places) :=
  okFX (N := N_is_places) (n := 3) (fs := fs_is_places) F sc_is_places rfl fun cdv A outer s H E Ed hr tk po => ⟨_, (have nd := sc_is_places.nd
    psd_cons (psd_if (PW.pt (pwd_or (ptd_not (ptd_tru (pd_callX G_is_tuple_of tk (hr.mono (by omega)) (by rfl) g_is_tuple_of k_is_tuple_of b_is_tuple_of (pda_cons (pw_dat (pd_var (pv 0))) (pda_cons (pw_dat (pd_var (pv 1))) (pda_nil)))))) (pwd_or1 (ptd_not (ptd_tru (pd_callX G_is_indices tk (hr.mono (by omega)) (by rfl) g_is_indices k_is_indices b_is_indices (pda_cons (pw_dat (pd_var (pv 0))) (pda_cons (pw_dat (pd_var (pv 2))) (pda_nil))))))))) (psd_one (psd_ret (pd_c pe_bl (fun _ _ => .bl _)))) (psd_nil))
    (psd_one (psd_ret (pd_cmp (op_eqD hr.units) (op2_eq) (pd_lenSet (by rfl) z_len (by rfl) z_set (pd_var (pv 0))) (pd_var (pv 1)) (nomark _))))),
    (les_seq (les_if (le_orT (le_notT (le_tru (le_call (le_cons (le_var) (le_cons (le_var) (le_nil)))))) (le_notT (le_tru (le_call (le_cons (le_var) (le_cons (le_var) (le_nil))))))) (les_ret (le_c)) (les_next))
    (les_ret (le_op (leop_eq) (le_lenSet (le_var)) (le_var))))⟩
abbrev s_is_lowest_pair : Stmt := topS 15
abbrev N_is_lowest_pair : List PySem.Str := ["value", "top", "bottom"]
theorem sc_is_lowest_pair : FnScope N_is_lowest_pair ["value"] (defScope s_is_lowest_pair) := ⟨rfl, rfl, rfl, by decide +kernel, rfl, by decide +kernel, by decide +kernel⟩
def fs_is_lowest_pair : FS :=
  fSeq (fIf (fNot (fTru (fCall F_is_tuple_of (fCons (fVar 0) (fCons (fC (.int 2)) (fNil)))))) (fRet (fC (.bool false))) (fNext))
    (fSeq (fAsgG (fgSeq 2 (fgsCons (fgSet 1) (fgsCons (fgSet 2) (fgsNil)))) (fVar 0))
    (fRet (fAndV (fCall F_is_integer (fCons (fVar 1) (fNil))) (fAndV (fCall F_is_integer (fCons (fVar 2) (fNil))) (fAndV (fOp (gI0 fun i j => .bool (decide (j ≤ i))) (fVar 2) (fC (.int 1))) (fOp (gEq false) (fOpN gGcd (fCons (fVar 1) (fCons (fVar 2) (fNil)))) (fC (.int 1))))))))
def F_is_lowest_pair : FF := mkF 1 N_is_lowest_pair.length fs_is_lowest_pair
theorem ok_is_lowest_pair {f : Addr} {fd : FuncData} {k : Nat} (F : L2.Fun K "is_lowest_pair" "is_lowest_pair" s_is_lowest_pair f fd)
    (i_gcd : mg "gcd" = some (.builtin "math.gcd"))
    {f_is_tuple_of : Addr} {d_is_tuple_of : FuncData} {l_is_tuple_of : Nat} (h_is_tuple_of : l_is_tuple_of ≤ k) (G_is_tuple_of : FnOk P w K mg base (L2.CX P w) l_is_tuple_of f_is_tuple_of d_is_tuple_of ["value", "length"] (spX K Ps fun E => ofF E F_is_tuple_of)) (g_is_tuple_of : mg "is_tuple_of" = some (.ref f_is_tuple_of)) (k_is_tuple_of : PySem.W.keepIn K (.ref f_is_tuple_of) = true) (b_is_tuple_of : Binds K d_is_tuple_of ["value", "length"] [])
    {f_is_integer : Addr} {d_is_integer : FuncData} {l_is_integer : Nat} (h_is_integer : l_is_integer ≤ k) (G_is_integer : FnOk P w K mg base (L2.CX P w) l_is_integer f_is_integer d_is_integer ["value"] (spX K Ps fun E => ofF E F_is_integer)) (g_is_integer : mg "is_integer" = some (.ref f_is_integer)) (k_is_integer : PySem.W.keepIn K (.ref f_is_integer) = true) (b_is_integer : Binds K d_is_integer ["value"] []) : FnOk P w K mg base (L2.CX P w) (k + 1) f fd ["value"] (spX K Ps fun E => ofF E F_is_lowest_pair) :=
  okFX (N := N_is_lowest_pair) (n := 1) (fs := fs_is_lowest_pair) F sc_is_lowest_pair rfl fun cdv A outer s H E Ed hr tk po => ⟨_, (have nd := sc_is_lowest_pair.nd
    psd_cons (psd_if (ptd_not (ptd_tru (pd_callX G_is_tuple_of tk (hr.mono (by omega)) (by rfl) g_is_tuple_of k_is_tuple_of b_is_tuple_of (pda_cons (pw_dat (pd_var (pv 0))) (pda_cons (pw_dat (pd_c pe_int (fun _ _ => .int _))) (pda_nil)))))) (psd_one (psd_ret (pd_c pe_bl (fun _ _ => .bl _)))) (psd_nil))
    (psd_cons (psd_asgG (pd_var (pv 0)) (pgd_seq rfl (pgsd_cons (pgd_name (pg_name (i := 1) nd rfl (by first | exact Or.inl rfl | exact Or.inr rfl))) (pgsd_cons (pgd_name (pg_name (i := 2) nd rfl (by first | exact Or.inl rfl | exact Or.inr rfl))) (pgsd_nil)))))
    (psd_one (psd_ret (pd_and (pd_callX G_is_integer tk (hr.mono (by omega)) (by rfl) g_is_integer k_is_integer b_is_integer (pda_cons (pw_dat (pd_var (pv 1))) (pda_nil))) (pd_and (pd_callX G_is_integer tk (hr.mono (by omega)) (by rfl) g_is_integer k_is_integer b_is_integer (pda_cons (pw_dat (pd_var (pv 2))) (pda_nil))) (pd_and (pd_cmp op_ge (op2_I0 fun _ _ _ _ => .bl _) (pd_var (pv 2)) (pd_c pe_int (fun _ _ => .int _)) (nomark _)) (pe_one (pd_cmp (op_eqD hr.units) (op2_eq) (pd_callF cr_gcd opn_gcd (by rfl) i_gcd (pda_cons (pw_dat (pd_var (pv 1))) (pda_cons (pw_dat (pd_var (pv 2))) (pda_nil)))) (pd_c pe_int (fun _ _ => .int _)) (nomark _)))))))))),
    (les_seq (les_if (le_notT (le_tru (le_call (le_cons (le_var) (le_cons (le_c) (le_nil)))))) (les_ret (le_c)) (les_next))
    (les_seq (les_asgG (le_gSeq (le_gsCons (le_gSet) (le_gsCons (le_gSet) (le_gsNil)))) (le_var))
    (les_ret (le_andV (le_call (le_cons (le_var) (le_nil))) (le_andV (le_call (le_cons (le_var) (le_nil))) (le_andV (le_op (leop_I0) (le_var) (le_c)) (le_op (leop_eq) (le_opN len_gcd (le_cons (le_var) (le_cons (le_var) (le_nil)))) (le_c))))))))⟩
abbrev s_is_fraction_between : Stmt := topS 16
abbrev N_is_fraction_between : List PySem.Str := ["value", "low", "high"]
theorem sc_is_fraction_between : FnScope N_is_fraction_between ["value", "low", "high"] (defScope s_is_fraction_between) := ⟨rfl, rfl, rfl, by decide +kernel, rfl, by decide +kernel, by decide +kernel⟩
def fs_is_fraction_between : FS :=
  fRet (fAndV (fCall F_is_lowest_pair (fCons (fVar 0) (fNil))) (fChain (gI0 fun i j => .bool (decide (i ≤ j))) (gI0 fun i j => .bool (decide (i ≤ j))) (fOp (gI cMul fun i j => .int (i * j)) (fVar 1) (fIx (fVarQ 0) (fC (.int 1)))) (fIx (fVarQ 0) (fC (.int 0))) (fOp (gI cMul fun i j => .int (i * j)) (fVar 2) (fIx (fVarQ 0) (fC (.int 1))))))
def F_is_fraction_between : FF := mkF 3 N_is_fraction_between.length fs_is_fraction_between
theorem ok_is_fraction_between {f : Addr} {fd : FuncData} {k : Nat} (F : L2.Fun K "is_fraction_between" "is_fraction_between" s_is_fraction_between f fd)
    {f_is_lowest_pair : Addr} {d_is_lowest_pair : FuncData} {l_is_lowest_pair : Nat} (h_is_lowest_pair : l_is_lowest_pair ≤ k) (G_is_lowest_pair : FnOk P w K mg base (L2.CX P w) l_is_lowest_pair f_is_lowest_pair d_is_lowest_pair ["value"] (spX K Ps fun E => ofF E F_is_lowest_pair)) (g_is_lowest_pair : mg "is_lowest_pair" = some (.ref f_is_lowest_pair)) (k_is_lowest_pair : PySem.W.keepIn K (.ref f_is_lowest_pair) = true) (b_is_lowest_pair : Binds K d_is_lowest_pair ["value"] []) : FnOk P w K mg base (L2.CX P w) (k + 1) f fd ["value", "low", "high"] (spX K Ps fun E => ofF E F_is_fraction_between) :=
  okFX (N := N_is_fraction_between) (n := 3) (fs := fs_is_fraction_between) F sc_is_fraction_between rfl fun cdv A outer s H E Ed hr tk po => ⟨_, (have nd := sc_is_fraction_between.nd
    psd_one (psd_ret (pd_and (pd_callX G_is_lowest_pair tk (hr.mono (by omega)) (by rfl) g_is_lowest_pair k_is_lowest_pair b_is_lowest_pair (pda_cons (pw_dat (pd_var (pv 0))) (pda_nil))) (pe_one (pd_chain op_le op_le (op2_I0 fun _ _ _ _ => .bl _) (op2_I0 fun _ _ _ _ => .bl _) (pd_op op_mulE (op2_I fun _ _ _ _ => .int _) (pd_var (pv 1)) (pd_ix (pq_var (pv 0)) (pd_c pe_int (fun _ _ => .int _)) (fun _ _ => rfl))) (pd_ix (pq_var (pv 0)) (pd_c pe_int (fun _ _ => .int _)) (fun _ _ => rfl)) (pd_op op_mulE (op2_I fun _ _ _ _ => .int _) (pd_var (pv 2)) (pd_ix (pq_var (pv 0)) (pd_c pe_int (fun _ _ => .int _)) (fun _ _ => rfl)))))))),
    (les_ret (le_andV (le_call (le_cons (le_var) (le_nil))) (le_chain (leop_I0) (leop_I0) (le_op (leop_I cMul_ok) (le_var) (le_ix (le_varQ) (le_c))) (le_ix (le_varQ) (le_c)) (le_op (leop_I cMul_ok) (le_var) (le_ix (le_varQ) (le_c))))))⟩
abbrev s_is_share : Stmt := topS 17
abbrev N_is_share : List PySem.Str := ["value"]
theorem sc_is_share : FnScope N_is_share ["value"] (defScope s_is_share) := ⟨rfl, rfl, rfl, by decide +kernel, rfl, by decide +kernel, by decide +kernel⟩
def fs_is_share : FS :=
  fRet (fAndV (fCall F_is_fraction_between (fCons (fVar 0) (fCons (fC (.int 0)) (fCons (fC (.int 1)) (fNil))))) (fOp (gI0 fun i j => .bool (decide (j < i))) (fIx (fVarQ 0) (fC (.int 0))) (fC (.int 0))))
def F_is_share : FF := mkF 1 N_is_share.length fs_is_share
theorem ok_is_share {f : Addr} {fd : FuncData} {k : Nat} (F : L2.Fun K "is_share" "is_share" s_is_share f fd)
    {f_is_fraction_between : Addr} {d_is_fraction_between : FuncData} {l_is_fraction_between : Nat} (h_is_fraction_between : l_is_fraction_between ≤ k) (G_is_fraction_between : FnOk P w K mg base (L2.CX P w) l_is_fraction_between f_is_fraction_between d_is_fraction_between ["value", "low", "high"] (spX K Ps fun E => ofF E F_is_fraction_between)) (g_is_fraction_between : mg "is_fraction_between" = some (.ref f_is_fraction_between)) (k_is_fraction_between : PySem.W.keepIn K (.ref f_is_fraction_between) = true) (b_is_fraction_between : Binds K d_is_fraction_between ["value", "low", "high"] []) : FnOk P w K mg base (L2.CX P w) (k + 1) f fd ["value"] (spX K Ps fun E => ofF E F_is_share) :=
  okFX (N := N_is_share) (n := 1) (fs := fs_is_share) F sc_is_share rfl fun cdv A outer s H E Ed hr tk po => ⟨_, (have nd := sc_is_share.nd
    psd_one (psd_ret (pd_and (pd_callX G_is_fraction_between tk (hr.mono (by omega)) (by rfl) g_is_fraction_between k_is_fraction_between b_is_fraction_between (pda_cons (pw_dat (pd_var (pv 0))) (pda_cons (pw_dat (pd_c pe_int (fun _ _ => .int _))) (pda_cons (pw_dat (pd_c pe_int (fun _ _ => .int _))) (pda_nil))))) (pe_one (pd_cmp op_gt (op2_I0 fun _ _ _ _ => .bl _) (pd_ix (pq_var (pv 0)) (pd_c pe_int (fun _ _ => .int _)) (fun _ _ => rfl)) (pd_c pe_int (fun _ _ => .int _)) (nomark _)))))),
    (les_ret (le_andV (le_call (le_cons (le_var) (le_cons (le_c) (le_cons (le_c) (le_nil))))) (le_op (leop_I0) (le_ix (le_varQ) (le_c)) (le_c))))⟩
abbrev s_is_short_fraction : Stmt := topS 18
abbrev N_is_short_fraction : List PySem.Str := ["value"]
theorem sc_is_short_fraction : FnScope N_is_short_fraction ["value"] (defScope s_is_short_fraction) := ⟨rfl, rfl, rfl, by decide +kernel, rfl, by decide +kernel, by decide +kernel⟩
def fs_is_short_fraction : FS :=
  fRet (fAndV (fCall F_is_lowest_pair (fCons (fVar 0) (fNil))) (fAndV (fCall F_is_short (fCons (fIx (fVarQ 0) (fC (.int 0))) (fNil))) (fCall F_is_short (fCons (fIx (fVarQ 0) (fC (.int 1))) (fNil)))))
def F_is_short_fraction : FF := mkF 1 N_is_short_fraction.length fs_is_short_fraction
theorem ok_is_short_fraction {f : Addr} {fd : FuncData} {k : Nat} (F : L2.Fun K "is_short_fraction" "is_short_fraction" s_is_short_fraction f fd)
    {f_is_lowest_pair : Addr} {d_is_lowest_pair : FuncData} {l_is_lowest_pair : Nat} (h_is_lowest_pair : l_is_lowest_pair ≤ k) (G_is_lowest_pair : FnOk P w K mg base (L2.CX P w) l_is_lowest_pair f_is_lowest_pair d_is_lowest_pair ["value"] (spX K Ps fun E => ofF E F_is_lowest_pair)) (g_is_lowest_pair : mg "is_lowest_pair" = some (.ref f_is_lowest_pair)) (k_is_lowest_pair : PySem.W.keepIn K (.ref f_is_lowest_pair) = true) (b_is_lowest_pair : Binds K d_is_lowest_pair ["value"] [])
    {f_is_short : Addr} {d_is_short : FuncData} {l_is_short : Nat} (h_is_short : l_is_short ≤ k) (G_is_short : FnOk P w K mg base (L2.CX P w) l_is_short f_is_short d_is_short ["value"] (spX K Ps fun E => ofF E F_is_short)) (g_is_short : mg "is_short" = some (.ref f_is_short)) (k_is_short : PySem.W.keepIn K (.ref f_is_short) = true) (b_is_short : Binds K d_is_short ["value"] []) : FnOk P w K mg base (L2.CX P w) (k + 1) f fd ["value"] (spX K Ps fun E => ofF E F_is_short_fraction) :=
  okFX (N := N_is_short_fraction) (n := 1) (fs := fs_is_short_fraction) F sc_is_short_fraction rfl fun cdv A outer s H E Ed hr tk po => ⟨_, (have nd := sc_is_short_fraction.nd
    psd_one (psd_ret (pd_and (pd_callX G_is_lowest_pair tk (hr.mono (by omega)) (by rfl) g_is_lowest_pair k_is_lowest_pair b_is_lowest_pair (pda_cons (pw_dat (pd_var (pv 0))) (pda_nil))) (pd_and (pd_callX G_is_short tk (hr.mono (by omega)) (by rfl) g_is_short k_is_short b_is_short (pda_cons (pw_dat (pd_ix (pq_var (pv 0)) (pd_c pe_int (fun _ _ => .int _)) (fun _ _ => rfl))) (pda_nil))) (pe_one (pd_callX G_is_short tk (hr.mono (by omega)) (by rfl) g_is_short k_is_short b_is_short (pda_cons (pw_dat (pd_ix (pq_var (pv 0)) (pd_c pe_int (fun _ _ => .int _)) (fun _ _ => rfl))) (pda_nil)))))))),
    (les_ret (le_andV (le_call (le_cons (le_var) (le_nil))) (le_andV (le_call (le_cons (le_ix (le_varQ) (le_c)) (le_nil))) (le_call (le_cons (le_ix (le_varQ) (le_c)) (le_nil))))))⟩
abbrev s_need_number : Stmt := topS 34
abbrev N_need_number : List PySem.Str := ["value", "low", "high"]
theorem sc_need_number : FnScope N_need_number ["value", "low", "high"] (defScope s_need_number) := ⟨rfl, rfl, rfl, by decide +kernel, rfl, by decide +kernel, by decide +kernel⟩
def fs_need_number : FS :=
  fIf (fNot (fTru (fCall F_is_between (fCons (fVar 0) (fCons (fVar 1) (fCons (fVar 2) (fNil))))))) (fRaiseI "InvalidNumber" "given" (fVar 0)) (fNext)
def F_need_number : FF := mkF 3 N_need_number.length fs_need_number
theorem ok_need_number {f : Addr} {fd : FuncData} {k : Nat} (F : L2.Fun K "need_number" "need_number" s_need_number f fd)
    {c_InvalidNumber : Addr} (e_InvalidNumber : ClsI P w K mg base "InvalidNumber" c_InvalidNumber "given")
    (h2 : 2 ≤ k)
    {f_is_between : Addr} {d_is_between : FuncData} {l_is_between : Nat} (h_is_between : l_is_between ≤ k) (G_is_between : FnOk P w K mg base (L2.CX P w) l_is_between f_is_between d_is_between ["value", "low", "high"] (spX K Ps fun E => ofF E F_is_between)) (g_is_between : mg "is_between" = some (.ref f_is_between)) (k_is_between : PySem.W.keepIn K (.ref f_is_between) = true) (b_is_between : Binds K d_is_between ["value", "low", "high"] []) : FnOk P w K mg base (L2.CX P w) (k + 1) f fd ["value", "low", "high"] (spX K Ps fun E => ofF E F_need_number) :=
  okFX (N := N_need_number) (n := 3) (fs := fs_need_number) F sc_need_number rfl fun cdv A outer s H E Ed hr tk po => ⟨_, (have nd := sc_need_number.nd
    psd_one (psd_if (ptd_not (ptd_tru (pd_callX G_is_between tk (hr.mono (by omega)) (by rfl) g_is_between k_is_between b_is_between (pda_cons (pw_dat (pd_var (pv 0))) (pda_cons (pw_dat (pd_var (pv 1))) (pda_cons (pw_dat (pd_var (pv 2))) (pda_nil))))))) (psd_one (psd_raiseI e_InvalidNumber tk hr (by omega) rfl (by rfl) (pd_var (pv 0)))) (psd_nil))),
    (les_if (le_notT (le_tru (le_call (le_cons (le_var) (le_cons (le_var) (le_cons (le_var) (le_nil))))))) (les_raiseI (le_var)) (les_next))⟩
abbrev s_need_fraction : Stmt := topS 35
abbrev N_need_fraction : List PySem.Str := ["value"]
theorem sc_need_fraction : FnScope N_need_fraction ["value"] (defScope s_need_fraction) := ⟨rfl, rfl, rfl, by decide +kernel, rfl, by decide +kernel, by decide +kernel⟩
def fs_need_fraction : FS :=
  fIf (fNot (fTru (fCall F_is_short_fraction (fCons (fVar 0) (fNil))))) (fRaise ⟨"InvalidFraction", none⟩) (fNext)
def F_need_fraction : FF := mkF 1 N_need_fraction.length fs_need_fraction
theorem ok_need_fraction {f : Addr} {fd : FuncData} {k : Nat} (F : L2.Fun K "need_fraction" "need_fraction" s_need_fraction f fd)
    {c_InvalidFraction : Addr} (e_InvalidFraction : ClsP K mg "InvalidFraction" c_InvalidFraction)
    {f_is_short_fraction : Addr} {d_is_short_fraction : FuncData} {l_is_short_fraction : Nat} (h_is_short_fraction : l_is_short_fraction ≤ k) (G_is_short_fraction : FnOk P w K mg base (L2.CX P w) l_is_short_fraction f_is_short_fraction d_is_short_fraction ["value"] (spX K Ps fun E => ofF E F_is_short_fraction)) (g_is_short_fraction : mg "is_short_fraction" = some (.ref f_is_short_fraction)) (k_is_short_fraction : PySem.W.keepIn K (.ref f_is_short_fraction) = true) (b_is_short_fraction : Binds K d_is_short_fraction ["value"] []) : FnOk P w K mg base (L2.CX P w) (k + 1) f fd ["value"] (spX K Ps fun E => ofF E F_need_fraction) :=
  okFX (N := N_need_fraction) (n := 1) (fs := fs_need_fraction) F sc_need_fraction rfl fun cdv A outer s H E Ed hr tk po => ⟨_, (have nd := sc_need_fraction.nd
    psd_one (psd_if (ptd_not (ptd_tru (pd_callX G_is_short_fraction tk (hr.mono (by omega)) (by rfl) g_is_short_fraction k_is_short_fraction b_is_short_fraction (pda_cons (pw_dat (pd_var (pv 0))) (pda_nil))))) (psd_one (psd_raiseP e_InvalidFraction tk rfl (by rfl))) (psd_nil))),
    (les_if (le_notT (le_tru (le_call (le_cons (le_var) (le_nil))))) (les_raiseX) (les_next))⟩
abbrev s_need_fraction_between : Stmt := topS 36
abbrev N_need_fraction_between : List PySem.Str := ["value", "low", "high"]
theorem sc_need_fraction_between : FnScope N_need_fraction_between ["value", "low", "high"] (defScope s_need_fraction_between) := ⟨rfl, rfl, rfl, by decide +kernel, rfl, by decide +kernel, by decide +kernel⟩
def fs_need_fraction_between : FS :=
  fSeq (fDrop (fCall F_need_fraction (fCons (fVar 0) (fNil))))
    (fIf (fNot (fTru (fCall F_is_fraction_between (fCons (fVar 0) (fCons (fVar 1) (fCons (fVar 2) (fNil))))))) (fRaise ⟨"InvalidFraction", none⟩) (fNext))
def F_need_fraction_between : FF := mkF 3 N_need_fraction_between.length fs_need_fraction_between
theorem ok_need_fraction_between {f : Addr} {fd : FuncData} {k : Nat} (F : L2.Fun K "need_fraction_between" "need_fraction_between" s_need_fraction_between f fd)
    {c_InvalidFraction : Addr} (e_InvalidFraction : ClsP K mg "InvalidFraction" c_InvalidFraction)
    {f_need_fraction : Addr} {d_need_fraction : FuncData} {l_need_fraction : Nat} (h_need_fraction : l_need_fraction ≤ k) (G_need_fraction : FnOk P w K mg base (L2.CX P w) l_need_fraction f_need_fraction d_need_fraction ["value"] (spX K Ps fun E => ofF E F_need_fraction)) (g_need_fraction : mg "need_fraction" = some (.ref f_need_fraction)) (k_need_fraction : PySem.W.keepIn K (.ref f_need_fraction) = true) (b_need_fraction : Binds K d_need_fraction ["value"] [])
    {f_is_fraction_between : Addr} {d_is_fraction_between : FuncData} {l_is_fraction_between : Nat} (h_is_fraction_between : l_is_fraction_between ≤ k) (G_is_fraction_between : FnOk P w K mg base (L2.CX P w) l_is_fraction_between f_is_fraction_between d_is_fraction_between ["value", "low", "high"] (spX K Ps fun E => ofF E F_is_fraction_between)) (g_is_fraction_between : mg "is_fraction_between" = some (.ref f_is_fraction_between)) (k_is_fraction_between : PySem.W.keepIn K (.ref f_is_fraction_between) = true) (b_is_fraction_between : Binds K d_is_fraction_between ["value", "low", "high"] []) : FnOk P w K mg base (L2.CX P w) (k + 1) f fd ["value", "low", "high"] (spX K Ps fun E => ofF E F_need_fraction_between) :=
  okFX (N := N_need_fraction_between) (n := 3) (fs := fs_need_fraction_between) F sc_need_fraction_between rfl fun cdv A outer s H E Ed hr tk po => ⟨_, (have nd := sc_need_fraction_between.nd
    psd_cons (psd_expr (pd_callX G_need_fraction tk (hr.mono (by omega)) (by rfl) g_need_fraction k_need_fraction b_need_fraction (pda_cons (pw_dat (pd_var (pv 0))) (pda_nil))))
    (psd_one (psd_if (ptd_not (ptd_tru (pd_callX G_is_fraction_between tk (hr.mono (by omega)) (by rfl) g_is_fraction_between k_is_fraction_between b_is_fraction_between (pda_cons (pw_dat (pd_var (pv 0))) (pda_cons (pw_dat (pd_var (pv 1))) (pda_cons (pw_dat (pd_var (pv 2))) (pda_nil))))))) (psd_one (psd_raiseP e_InvalidFraction tk rfl (by rfl))) (psd_nil)))),
    (les_seq (les_drop (le_call (le_cons (le_var) (le_nil))))
    (les_if (le_notT (le_tru (le_call (le_cons (le_var) (le_cons (le_var) (le_cons (le_var) (le_nil))))))) (les_raiseX) (les_next)))⟩
abbrev s_need_share : Stmt := topS 37
abbrev N_need_share : List PySem.Str := ["value"]
theorem sc_need_share : FnScope N_need_share ["value"] (defScope s_need_share) := ⟨rfl, rfl, rfl, by decide +kernel, rfl, by decide +kernel, by decide +kernel⟩
def fs_need_share : FS :=
  fSeq (fDrop (fCall F_need_fraction (fCons (fVar 0) (fNil))))
    (fIf (fNot (fTru (fCall F_is_share (fCons (fVar 0) (fNil))))) (fRaise ⟨"InvalidFraction", none⟩) (fNext))
def F_need_share : FF := mkF 1 N_need_share.length fs_need_share
theorem ok_need_share {f : Addr} {fd : FuncData} {k : Nat} (F : L2.Fun K "need_share" "need_share" s_need_share f fd)
    {c_InvalidFraction : Addr} (e_InvalidFraction : ClsP K mg "InvalidFraction" c_InvalidFraction)
    {f_need_fraction : Addr} {d_need_fraction : FuncData} {l_need_fraction : Nat} (h_need_fraction : l_need_fraction ≤ k) (G_need_fraction : FnOk P w K mg base (L2.CX P w) l_need_fraction f_need_fraction d_need_fraction ["value"] (spX K Ps fun E => ofF E F_need_fraction)) (g_need_fraction : mg "need_fraction" = some (.ref f_need_fraction)) (k_need_fraction : PySem.W.keepIn K (.ref f_need_fraction) = true) (b_need_fraction : Binds K d_need_fraction ["value"] [])
    {f_is_share : Addr} {d_is_share : FuncData} {l_is_share : Nat} (h_is_share : l_is_share ≤ k) (G_is_share : FnOk P w K mg base (L2.CX P w) l_is_share f_is_share d_is_share ["value"] (spX K Ps fun E => ofF E F_is_share)) (g_is_share : mg "is_share" = some (.ref f_is_share)) (k_is_share : PySem.W.keepIn K (.ref f_is_share) = true) (b_is_share : Binds K d_is_share ["value"] []) : FnOk P w K mg base (L2.CX P w) (k + 1) f fd ["value"] (spX K Ps fun E => ofF E F_need_share) :=
  okFX (N := N_need_share) (n := 1) (fs := fs_need_share) F sc_need_share rfl fun cdv A outer s H E Ed hr tk po => ⟨_, (have nd := sc_need_share.nd
    psd_cons (psd_expr (pd_callX G_need_fraction tk (hr.mono (by omega)) (by rfl) g_need_fraction k_need_fraction b_need_fraction (pda_cons (pw_dat (pd_var (pv 0))) (pda_nil))))
    (psd_one (psd_if (ptd_not (ptd_tru (pd_callX G_is_share tk (hr.mono (by omega)) (by rfl) g_is_share k_is_share b_is_share (pda_cons (pw_dat (pd_var (pv 0))) (pda_nil))))) (psd_one (psd_raiseP e_InvalidFraction tk rfl (by rfl))) (psd_nil)))),
    (les_seq (les_drop (le_call (le_cons (le_var) (le_nil))))
    (les_if (le_notT (le_tru (le_call (le_cons (le_var) (le_nil))))) (les_raiseX) (les_next)))⟩
abbrev s_need_word : Stmt := topS 38
abbrev N_need_word : List PySem.Str := ["value", "length"]
theorem sc_need_word : FnScope N_need_word ["value", "length"] (defScope s_need_word) := ⟨rfl, rfl, rfl, by decide +kernel, rfl, by decide +kernel, by decide +kernel⟩
def fs_need_word : FS :=
  fIf (fNot (fTru (fCall F_is_word (fCons (fVar 0) (fCons (fVar 1) (fNil)))))) (fRaise ⟨"InvalidWord", none⟩) (fNext)
def F_need_word : FF := mkF 2 N_need_word.length fs_need_word
theorem ok_need_word {f : Addr} {fd : FuncData} {k : Nat} (F : L2.Fun K "need_word" "need_word" s_need_word f fd)
    {c_InvalidWord : Addr} (e_InvalidWord : ClsP K mg "InvalidWord" c_InvalidWord)
    {f_is_word : Addr} {d_is_word : FuncData} {l_is_word : Nat} (h_is_word : l_is_word ≤ k) (G_is_word : FnOk P w K mg base (L2.CX P w) l_is_word f_is_word d_is_word ["value", "length"] (spX K Ps fun E => ofF E F_is_word)) (g_is_word : mg "is_word" = some (.ref f_is_word)) (k_is_word : PySem.W.keepIn K (.ref f_is_word) = true) (b_is_word : Binds K d_is_word ["value", "length"] []) : FnOk P w K mg base (L2.CX P w) (k + 1) f fd ["value", "length"] (spX K Ps fun E => ofF E F_need_word) :=
  okFX (N := N_need_word) (n := 2) (fs := fs_need_word) F sc_need_word rfl fun cdv A outer s H E Ed hr tk po => ⟨_, (have nd := sc_need_word.nd
    psd_one (psd_if (ptd_not (ptd_tru (pd_callX G_is_word tk (hr.mono (by omega)) (by rfl) g_is_word k_is_word b_is_word (pda_cons (pw_dat (pd_var (pv 0))) (pda_cons (pw_dat (pd_var (pv 1))) (pda_nil)))))) (psd_one (psd_raiseP e_InvalidWord tk rfl (by rfl))) (psd_nil))),
    (les_if (le_notT (le_tru (le_call (le_cons (le_var) (le_cons (le_var) (le_nil)))))) (les_raiseX) (les_next))⟩
abbrev s_need_table : Stmt := topS 39
abbrev N_need_table : List PySem.Str := ["value", "bits"]
theorem sc_need_table : FnScope N_need_table ["value", "bits"] (defScope s_need_table) := ⟨rfl, rfl, rfl, by decide +kernel, rfl, by decide +kernel, by decide +kernel⟩
def fs_need_table : FS :=
  fIf (fNot (fTru (fCall F_is_word (fCons (fVar 0) (fCons (fOp (gI cShl fun i j => .int (i * 2 ^ j.toNat)) (fC (.int 1)) (fVar 1)) (fNil)))))) (fRaise ⟨"InvalidWord", none⟩) (fNext)
def F_need_table : FF := mkF 2 N_need_table.length fs_need_table
theorem ok_need_table {f : Addr} {fd : FuncData} {k : Nat} (F : L2.Fun K "need_table" "need_table" s_need_table f fd)
    {c_InvalidWord : Addr} (e_InvalidWord : ClsP K mg "InvalidWord" c_InvalidWord)
    {f_is_word : Addr} {d_is_word : FuncData} {l_is_word : Nat} (h_is_word : l_is_word ≤ k) (G_is_word : FnOk P w K mg base (L2.CX P w) l_is_word f_is_word d_is_word ["value", "length"] (spX K Ps fun E => ofF E F_is_word)) (g_is_word : mg "is_word" = some (.ref f_is_word)) (k_is_word : PySem.W.keepIn K (.ref f_is_word) = true) (b_is_word : Binds K d_is_word ["value", "length"] []) : FnOk P w K mg base (L2.CX P w) (k + 1) f fd ["value", "bits"] (spX K Ps fun E => ofF E F_need_table) :=
  okFX (N := N_need_table) (n := 2) (fs := fs_need_table) F sc_need_table rfl fun cdv A outer s H E Ed hr tk po => ⟨_, (have nd := sc_need_table.nd
    psd_one (psd_if (ptd_not (ptd_tru (pd_callX G_is_word tk (hr.mono (by omega)) (by rfl) g_is_word k_is_word b_is_word (pda_cons (pw_dat (pd_var (pv 0))) (pda_cons (pw_dat (pd_op op_shlW (op2_I fun _ _ _ _ => .int _) (pd_c pe_int (fun _ _ => .int _)) (pd_var (pv 1)))) (pda_nil)))))) (psd_one (psd_raiseP e_InvalidWord tk rfl (by rfl))) (psd_nil))),
    (les_if (le_notT (le_tru (le_call (le_cons (le_var) (le_cons (le_op (leop_I cShl_ok) (le_c) (le_var)) (le_nil)))))) (les_raiseX) (les_next))⟩
abbrev s_spelled : Stmt := topS 41
abbrev N_spelled : List PySem.Str := ["number", "length", "place"]
theorem sc_spelled : FnScope N_spelled ["number", "length"] (defScope s_spelled) := ⟨rfl, rfl, rfl, by decide +kernel, rfl, by decide +kernel, by decide +kernel⟩
def fs_spelled : FS :=
  fRet (fOpQ gTuple (fSeqE (fL (fLc (fRange1 (fCons (fVar 1) (fNil))) (fgSet 2) (fYes) (fOp (gI0 fun i j => .int (Builtin.bitAnd i j)) (fOp (gI cNn fun i j => .int (i / 2 ^ j.toNat)) (fVar 0) (fVar 2)) (fC (.int 1))) [2]))))
def F_spelled : FF := mkF 2 N_spelled.length fs_spelled
theorem ok_spelled {f : Addr} {fd : FuncData} {k : Nat} (F : L2.Fun K "spelled" "spelled" s_spelled f fd)
    (z_range : mg "range" = none)
    (z_tuple : mg "tuple" = none) : FnOk P w K mg base (L2.CX P w) (k + 1) f fd ["number", "length"] (spX K Ps fun E => ofF E F_spelled) :=
  okFX (N := N_spelled) (n := 2) (fs := fs_spelled) F sc_spelled rfl fun cdv A outer s H E Ed hr tk po => ⟨_, (have nd := sc_spelled.nd
    psd_one (psd_ret (pd_tuple (by rfl) z_tuple Dl.b_tuple (pq_dat (pd_new (pn_lc (own := [("place", 2)]) rfl nd (pid_range1 (by rfl) z_range (pda_cons (pw_dat (pd_var (pv 1))) (pda_nil))) (blkOk_by (N := N_spelled) (sc := defScope s_spelled) (by decide +kernel)) (fun _ _ _ _ _ => pgd_name (pg_name (i := 2) nd rfl (by first | exact Or.inl rfl | exact Or.inr rfl))) (fun _ _ _ _ _ => ptsd_nil) (fun _ _ _ _ _ => pd_op op_and (op2_I0 fun _ _ _ _ => .int _) (pd_op op_shr (op2_I fun _ _ _ _ => .int _) (pd_var (pv 0)) (pd_var (pv 2))) (pd_c pe_int (fun _ _ => .int _))))))))),
    (les_ret (le_opQ leq_tuple (le_seqE (le_L (le_lc (le_range1 (le_cons (le_var) (le_nil))) (le_gSet) (le_yes) (le_op (leop_I0) (le_op (leop_I cNn_ok) (le_var) (le_var)) (le_c)))))))⟩
abbrev s_number_of : Stmt := topS 42
abbrev N_number_of : List PySem.Str := ["word", "place", "bit"]
theorem sc_number_of : FnScope N_number_of ["word"] (defScope s_number_of) := ⟨rfl, rfl, rfl, by decide +kernel, rfl, by decide +kernel, by decide +kernel⟩
def fs_number_of : FS :=
  fRet (fOpQ gSum (fSeqE (fL (fLc (fEnum (fCons (fVar 0) (fNil))) (fgSeq 2 (fgsCons (fgSet 1) (fgsCons (fgSet 2) (fgsNil)))) (fYes) (fOp (gI cShl fun i j => .int (i * 2 ^ j.toNat)) (fVar 2) (fVar 1)) [1, 2]))))
def F_number_of : FF := mkF 1 N_number_of.length fs_number_of
theorem ok_number_of {f : Addr} {fd : FuncData} {k : Nat} (F : L2.Fun K "number_of" "number_of" s_number_of f fd)
    (z_enumerate : mg "enumerate" = none)
    (z_sum : mg "sum" = none) : FnOk P w K mg base (L2.CX P w) (k + 1) f fd ["word"] (spX K Ps fun E => ofF E F_number_of) :=
  okFX (N := N_number_of) (n := 1) (fs := fs_number_of) F sc_number_of rfl fun cdv A outer s H E Ed hr tk po => ⟨_, (have nd := sc_number_of.nd
    psd_one (psd_ret (pd_callQ (cr_sumS rfl) opq_sumS (by rfl) z_sum Dl.b_sum (pq_dat (pd_new (pn_lc (own := [("place", 1), ("bit", 2)]) rfl nd (pid_enum (by rfl) z_enumerate (pda_cons (pw_dat (pd_var (pv 0))) (pda_nil))) (blkOk_by (N := N_number_of) (sc := defScope s_number_of) (by decide +kernel)) (fun _ _ _ _ _ => pgd_seq rfl (pgsd_cons (pgd_name (pg_name (i := 1) nd rfl (by first | exact Or.inl rfl | exact Or.inr rfl))) (pgsd_cons (pgd_name (pg_name (i := 2) nd rfl (by first | exact Or.inl rfl | exact Or.inr rfl))) (pgsd_nil)))) (fun _ _ _ _ _ => ptsd_nil) (fun _ _ _ _ _ => pd_op op_shlW (op2_I fun _ _ _ _ => .int _) (pd_var (pv 2)) (pd_var (pv 1))))))))),
    (les_ret (le_opQ leq_sum (le_seqE (le_L (le_lc (le_enum (le_cons (le_var) (le_nil))) (le_gSeq (le_gsCons (le_gSet) (le_gsCons (le_gSet) (le_gsNil)))) (le_yes) (le_op (leop_I cShl_ok) (le_var) (le_var)))))))⟩
abbrev s_bit_of : Stmt := topS 43
abbrev N_bit_of : List PySem.Str := ["sign"]
theorem sc_bit_of : FnScope N_bit_of ["sign"] (defScope s_bit_of) := ⟨rfl, rfl, rfl, by decide +kernel, rfl, by decide +kernel, by decide +kernel⟩
def fs_bit_of : FS :=
  fRet (fOp (gI cDiv fun i j => .int (i / j)) (fOp (gI0 fun i j => .int (i - j)) (fC (.int 1)) (fVar 0)) (fC (.int 2)))
def F_bit_of : FF := mkF 1 N_bit_of.length fs_bit_of
theorem ok_bit_of {f : Addr} {fd : FuncData} {k : Nat} (F : L2.Fun K "bit_of" "bit_of" s_bit_of f fd)
     : FnOk P w K mg base (L2.CX P w) (k + 1) f fd ["sign"] (spX K Ps fun E => ofF E F_bit_of) :=
  okFX (N := N_bit_of) (n := 1) (fs := fs_bit_of) F sc_bit_of rfl fun cdv A outer s H E Ed hr tk po => ⟨_, (have nd := sc_bit_of.nd
    psd_one (psd_ret (pd_op op_fdivW (op2_I fun _ _ _ _ => .int _) (pd_op op_sub (op2_I0 fun _ _ _ _ => .int _) (pd_c pe_int (fun _ _ => .int _)) (pd_var (pv 0))) (pd_c pe_int (fun _ _ => .int _))))),
    (les_ret (le_op (leop_I cDiv_ok) (le_op (leop_I0) (le_c) (le_var)) (le_c)))⟩
abbrev s_parity : Stmt := topS 44
abbrev N_parity : List PySem.Str := ["number", "odd"]
theorem sc_parity : FnScope N_parity ["number"] (defScope s_parity) := ⟨rfl, rfl, rfl, by decide +kernel, rfl, by decide +kernel, by decide +kernel⟩
def fs_parity : FS :=
  fSeq (fSet 1 (fC (.int 0)))
    (fSeq (fWhile 1000000000 (fTru (fVar 0)) (fSeq (fAugC 1 cYes (fun i j => Builtin.bitXor i j) (fOp (gI0 fun i j => .int (Builtin.bitAnd i j)) (fVar 0) (fC (.int 1))))
    (fAugC 0 cNn (fun i j => i / 2 ^ j.toNat) (fC (.int 1)))))
    (fRet (fVar 1)))
def F_parity : FF := mkF 1 N_parity.length fs_parity
theorem ok_parity {f : Addr} {fd : FuncData} {k : Nat} (F : L2.Fun K "parity" "parity" s_parity f fd)
     : FnOk P w K mg base (L2.CX P w) (k + 1) f fd ["number"] (spX K Ps fun E => ofF E F_parity) :=
  okFX (N := N_parity) (n := 1) (fs := fs_parity) F sc_parity rfl fun cdv A outer s H E Ed hr tk po => ⟨_, (have nd := sc_parity.nd
    psd_cons (psd_set (i := 1) nd rfl (by first | exact Or.inl rfl | exact Or.inr rfl) (pd_c pe_int (fun _ _ => .int _)))
    (psd_cons (psd_while po (ptd_tru (pd_var (pv 0))) (psd_cons (psd_augC (i := 1) nd rfl (by first | exact Or.inl rfl | exact Or.inr rfl) (pd_op op_and (op2_I0 fun _ _ _ _ => .int _) (pd_var (pv 0)) (pd_c pe_int (fun _ _ => .int _))) ipx_xor)
    (psd_one (psd_augC (i := 0) nd rfl (by first | exact Or.inl rfl | exact Or.inr rfl) (pd_c pe_int (fun _ _ => .int _)) ipx_shr))))
    (psd_one (psd_ret (pd_var (pv 1)))))),
    (les_seq (les_set (le_c))
    (les_seq (les_while (le_tru (le_var)) (les_seq (les_augC cYes_ok (le_op (leop_I0) (le_var) (le_c)))
    (les_augC cNn_ok (le_c))))
    (les_ret (le_var))))⟩
abbrev s_log_of : Stmt := topS 45
abbrev N_log_of : List PySem.Str := ["count"]
theorem sc_log_of : FnScope N_log_of ["count"] (defScope s_log_of) := ⟨rfl, rfl, rfl, by decide +kernel, rfl, by decide +kernel, by decide +kernel⟩
def fs_log_of : FS :=
  fSeq (fIf (fTru (fOp (gI0 fun i j => .int (Builtin.bitAnd i j)) (fVar 0) (fOp (gI0 fun i j => .int (i - j)) (fVar 0) (fC (.int 1))))) (fRet (fC .none)) (fNext))
    (fRet (fOp (gI0 fun i j => .int (i - j)) (fBits (fVar 0)) (fC (.int 1))))
def F_log_of : FF := mkF 1 N_log_of.length fs_log_of
theorem ok_log_of {f : Addr} {fd : FuncData} {k : Nat} (F : L2.Fun K "log_of" "log_of" s_log_of f fd)
     : FnOk P w K mg base (L2.CX P w) (k + 1) f fd ["count"] (spX K Ps fun E => ofF E F_log_of) :=
  okFX (N := N_log_of) (n := 1) (fs := fs_log_of) F sc_log_of rfl fun cdv A outer s H E Ed hr tk po => ⟨_, (have nd := sc_log_of.nd
    psd_cons (psd_if (ptd_tru (pd_op op_and (op2_I0 fun _ _ _ _ => .int _) (pd_var (pv 0)) (pd_op op_sub (op2_I0 fun _ _ _ _ => .int _) (pd_var (pv 0)) (pd_c pe_int (fun _ _ => .int _))))) (psd_one (psd_ret (pd_c pe_non (fun _ _ => .non)))) (psd_nil))
    (psd_one (psd_ret (pd_op op_sub (op2_I0 fun _ _ _ _ => .int _) (pd_bits (pd_var (pv 0))) (pd_c pe_int (fun _ _ => .int _)))))),
    (les_seq (les_if (le_tru (le_op (leop_I0) (le_var) (le_op (leop_I0) (le_var) (le_c)))) (les_ret (le_c)) (les_next))
    (les_ret (le_op (leop_I0) (le_bits (le_var)) (le_c))))⟩
abbrev s_reduced : Stmt := topS 47
abbrev N_reduced : List PySem.Str := ["top", "bottom", "shared"]
theorem sc_reduced : FnScope N_reduced ["top", "bottom"] (defScope s_reduced) := ⟨rfl, rfl, rfl, by decide +kernel, rfl, by decide +kernel, by decide +kernel⟩
def fs_reduced : FS :=
  fSeq (fSet 2 (fOpN gGcd (fCons (fVar 0) (fCons (fVar 1) (fNil)))))
    (fSeq (fIf (fTest (fOp (gI0 fun i j => .bool (decide (i < j))) (fVar 1) (fC (.int 0)))) (fSet 2 (fNeg (fVar 2))) (fNext))
    (fRet (fTup (fCons (fOp (gI cDiv fun i j => .int (i / j)) (fVar 0) (fVar 2)) (fCons (fOp (gI cDiv fun i j => .int (i / j)) (fVar 1) (fVar 2)) (fNil))))))
def F_reduced : FF := mkF 2 N_reduced.length fs_reduced
theorem ok_reduced {f : Addr} {fd : FuncData} {k : Nat} (F : L2.Fun K "reduced" "reduced" s_reduced f fd)
    (i_gcd : mg "gcd" = some (.builtin "math.gcd")) : FnOk P w K mg base (L2.CX P w) (k + 1) f fd ["top", "bottom"] (spX K Ps fun E => ofF E F_reduced) :=
  okFX (N := N_reduced) (n := 2) (fs := fs_reduced) F sc_reduced rfl fun cdv A outer s H E Ed hr tk po => ⟨_, (have nd := sc_reduced.nd
    psd_cons (psd_set (i := 2) nd rfl (by first | exact Or.inl rfl | exact Or.inr rfl) (pd_callF cr_gcd opn_gcd (by rfl) i_gcd (pda_cons (pw_dat (pd_var (pv 0))) (pda_cons (pw_dat (pd_var (pv 1))) (pda_nil)))))
    (psd_cons (psd_if (pt_d_cmp op_lt (op2_I0 fun _ _ _ _ => .bl _) (pd_var (pv 1)) (pd_c pe_int (fun _ _ => .int _)) (nomark _)) (psd_one (psd_set (i := 2) nd rfl (by first | exact Or.inl rfl | exact Or.inr rfl) (pd_neg (pd_var (pv 2))))) (psd_nil))
    (psd_one (psd_ret (pd_tup (pda_cons (pw_dat (pd_op op_fdivW (op2_I fun _ _ _ _ => .int _) (pd_var (pv 0)) (pd_var (pv 2)))) (pda_cons (pw_dat (pd_op op_fdivW (op2_I fun _ _ _ _ => .int _) (pd_var (pv 1)) (pd_var (pv 2)))) (pda_nil)))))))),
    (les_seq (les_set (le_opN len_gcd (le_cons (le_var) (le_cons (le_var) (le_nil)))))
    (les_seq (les_if (le_test (le_op (leop_I0) (le_var) (le_c))) (les_set (le_neg (le_var))) (les_next))
    (les_ret (le_tup (le_cons (le_op (leop_I cDiv_ok) (le_var) (le_var)) (le_cons (le_op (leop_I cDiv_ok) (le_var) (le_var)) (le_nil)))))))⟩
abbrev s_minus : Stmt := topS 48
abbrev N_minus : List PySem.Str := ["one", "other"]
theorem sc_minus : FnScope N_minus ["one", "other"] (defScope s_minus) := ⟨rfl, rfl, rfl, by decide +kernel, rfl, by decide +kernel, by decide +kernel⟩
def fs_minus : FS :=
  fRet (fCall F_reduced (fCons (fOp (gI0 fun i j => .int (i - j)) (fOp (gI cMul fun i j => .int (i * j)) (fIx (fVarQ 0) (fC (.int 0))) (fIx (fVarQ 1) (fC (.int 1)))) (fOp (gI cMul fun i j => .int (i * j)) (fIx (fVarQ 1) (fC (.int 0))) (fIx (fVarQ 0) (fC (.int 1))))) (fCons (fOp (gI cMul fun i j => .int (i * j)) (fIx (fVarQ 0) (fC (.int 1))) (fIx (fVarQ 1) (fC (.int 1)))) (fNil))))
def F_minus : FF := mkF 2 N_minus.length fs_minus
theorem ok_minus {f : Addr} {fd : FuncData} {k : Nat} (F : L2.Fun K "minus" "minus" s_minus f fd)
    {f_reduced : Addr} {d_reduced : FuncData} {l_reduced : Nat} (h_reduced : l_reduced ≤ k) (G_reduced : FnOk P w K mg base (L2.CX P w) l_reduced f_reduced d_reduced ["top", "bottom"] (spX K Ps fun E => ofF E F_reduced)) (g_reduced : mg "reduced" = some (.ref f_reduced)) (k_reduced : PySem.W.keepIn K (.ref f_reduced) = true) (b_reduced : Binds K d_reduced ["top", "bottom"] []) : FnOk P w K mg base (L2.CX P w) (k + 1) f fd ["one", "other"] (spX K Ps fun E => ofF E F_minus) :=
  okFX (N := N_minus) (n := 2) (fs := fs_minus) F sc_minus rfl fun cdv A outer s H E Ed hr tk po => ⟨_, (have nd := sc_minus.nd
    psd_one (psd_ret (pd_callX G_reduced tk (hr.mono (by omega)) (by rfl) g_reduced k_reduced b_reduced (pda_cons (pw_dat (pd_op op_sub (op2_I0 fun _ _ _ _ => .int _) (pd_op op_mulE (op2_I fun _ _ _ _ => .int _) (pd_ix (pq_var (pv 0)) (pd_c pe_int (fun _ _ => .int _)) (fun _ _ => rfl)) (pd_ix (pq_var (pv 1)) (pd_c pe_int (fun _ _ => .int _)) (fun _ _ => rfl))) (pd_op op_mulE (op2_I fun _ _ _ _ => .int _) (pd_ix (pq_var (pv 1)) (pd_c pe_int (fun _ _ => .int _)) (fun _ _ => rfl)) (pd_ix (pq_var (pv 0)) (pd_c pe_int (fun _ _ => .int _)) (fun _ _ => rfl))))) (pda_cons (pw_dat (pd_op op_mulE (op2_I fun _ _ _ _ => .int _) (pd_ix (pq_var (pv 0)) (pd_c pe_int (fun _ _ => .int _)) (fun _ _ => rfl)) (pd_ix (pq_var (pv 1)) (pd_c pe_int (fun _ _ => .int _)) (fun _ _ => rfl)))) (pda_nil)))))),
    (les_ret (le_call (le_cons (le_op (leop_I0) (le_op (leop_I cMul_ok) (le_ix (le_varQ) (le_c)) (le_ix (le_varQ) (le_c))) (le_op (leop_I cMul_ok) (le_ix (le_varQ) (le_c)) (le_ix (le_varQ) (le_c)))) (le_cons (le_op (leop_I cMul_ok) (le_ix (le_varQ) (le_c)) (le_ix (le_varQ) (le_c))) (le_nil)))))⟩
abbrev s_ordered : Stmt := topS 49
abbrev N_ordered : List PySem.Str := ["one", "other", "gap"]
theorem sc_ordered : FnScope N_ordered ["one", "other"] (defScope s_ordered) := ⟨rfl, rfl, rfl, by decide +kernel, rfl, by decide +kernel, by decide +kernel⟩
def fs_ordered : FS :=
  fSeq (fSet 2 (fOp (gI0 fun i j => .int (i - j)) (fOp (gI cMul fun i j => .int (i * j)) (fIx (fVarQ 0) (fC (.int 0))) (fIx (fVarQ 1) (fC (.int 1)))) (fOp (gI cMul fun i j => .int (i * j)) (fIx (fVarQ 1) (fC (.int 0))) (fIx (fVarQ 0) (fC (.int 1))))))
    (fRet (fOp (gSubA) (fOp (gI0 fun i j => .bool (decide (j < i))) (fVar 2) (fC (.int 0))) (fOp (gI0 fun i j => .bool (decide (i < j))) (fVar 2) (fC (.int 0)))))
def F_ordered : FF := mkF 2 N_ordered.length fs_ordered
theorem ok_ordered {f : Addr} {fd : FuncData} {k : Nat} (F : L2.Fun K "ordered" "ordered" s_ordered f fd)
     : FnOk P w K mg base (L2.CX P w) (k + 1) f fd ["one", "other"] (spX K Ps fun E => ofF E F_ordered) :=
  okFX (N := N_ordered) (n := 2) (fs := fs_ordered) F sc_ordered rfl fun cdv A outer s H E Ed hr tk po => ⟨_, (have nd := sc_ordered.nd
    psd_cons (psd_set (i := 2) nd rfl (by first | exact Or.inl rfl | exact Or.inr rfl) (pd_op op_sub (op2_I0 fun _ _ _ _ => .int _) (pd_op op_mulE (op2_I fun _ _ _ _ => .int _) (pd_ix (pq_var (pv 0)) (pd_c pe_int (fun _ _ => .int _)) (fun _ _ => rfl)) (pd_ix (pq_var (pv 1)) (pd_c pe_int (fun _ _ => .int _)) (fun _ _ => rfl))) (pd_op op_mulE (op2_I fun _ _ _ _ => .int _) (pd_ix (pq_var (pv 1)) (pd_c pe_int (fun _ _ => .int _)) (fun _ _ => rfl)) (pd_ix (pq_var (pv 0)) (pd_c pe_int (fun _ _ => .int _)) (fun _ _ => rfl)))))
    (psd_one (psd_ret (pd_op op_subA (op2_subA) (pd_cmp op_gt (op2_I0 fun _ _ _ _ => .bl _) (pd_var (pv 2)) (pd_c pe_int (fun _ _ => .int _)) (nomark _)) (pd_cmp op_lt (op2_I0 fun _ _ _ _ => .bl _) (pd_var (pv 2)) (pd_c pe_int (fun _ _ => .int _)) (nomark _)))))),
    (les_seq (les_set (le_op (leop_I0) (le_op (leop_I cMul_ok) (le_ix (le_varQ) (le_c)) (le_ix (le_varQ) (le_c))) (le_op (leop_I cMul_ok) (le_ix (le_varQ) (le_c)) (le_ix (le_varQ) (le_c)))))
    (les_ret (le_op (leop_subA) (le_op (leop_I0) (le_var) (le_c)) (le_op (leop_I0) (le_var) (le_c)))))⟩
abbrev s_amount : Stmt := topS 50
abbrev N_amount : List PySem.Str := ["number"]
theorem sc_amount : FnScope N_amount ["number"] (defScope s_amount) := ⟨rfl, rfl, rfl, by decide +kernel, rfl, by decide +kernel, by decide +kernel⟩
def fs_amount : FS :=
  fRet (fTup (fCons (fOpN gAbs (fCons (fIx (fVarQ 0) (fC (.int 0))) (fNil))) (fCons (fIx (fVarQ 0) (fC (.int 1))) (fNil))))
def F_amount : FF := mkF 1 N_amount.length fs_amount
theorem ok_amount {f : Addr} {fd : FuncData} {k : Nat} (F : L2.Fun K "amount" "amount" s_amount f fd)
    (z_abs : mg "abs" = none) : FnOk P w K mg base (L2.CX P w) (k + 1) f fd ["number"] (spX K Ps fun E => ofF E F_amount) :=
  okFX (N := N_amount) (n := 1) (fs := fs_amount) F sc_amount rfl fun cdv A outer s H E Ed hr tk po => ⟨_, (have nd := sc_amount.nd
    psd_one (psd_ret (pd_tup (pda_cons (pw_dat (pd_callN call_abs opn_abs (by rfl) z_abs Dl.b_abs (pda_cons (pw_dat (pd_ix (pq_var (pv 0)) (pd_c pe_int (fun _ _ => .int _)) (fun _ _ => rfl))) (pda_nil)))) (pda_cons (pw_dat (pd_ix (pq_var (pv 0)) (pd_c pe_int (fun _ _ => .int _)) (fun _ _ => rfl))) (pda_nil)))))),
    (les_ret (le_tup (le_cons (le_opN len_abs (le_cons (le_ix (le_varQ) (le_c)) (le_nil))) (le_cons (le_ix (le_varQ) (le_c)) (le_nil)))))⟩
abbrev s__log_within : Stmt := topS 58
abbrev N__log_within : List PySem.Str := ["value", "most"]
theorem sc__log_within : FnScope N__log_within ["value", "most"] (defScope s__log_within) := ⟨rfl, rfl, rfl, by decide +kernel, rfl, by decide +kernel, by decide +kernel⟩
def fs__log_within : FS :=
  fSeq (fIf (fOr (fNot (fTru (fIsi "tuple" (fVar 0)))) (fNot (fTest (fChain (gI0 fun i j => .bool (decide (i ≤ j))) (gI0 fun i j => .bool (decide (i ≤ j))) (fC (.int 2)) (fOpQ gLen (fVarQ 0)) (fOp (gI cShl fun i j => .int (i * 2 ^ j.toNat)) (fC (.int 1)) (fVar 1)))))) (fRet (fC .none)) (fNext))
    (fRet (fCall F_log_of (fCons (fOpQ gLen (fVarQ 0)) (fNil))))
def F__log_within : FF := mkF 2 N__log_within.length fs__log_within
theorem ok__log_within {f : Addr} {fd : FuncData} {k : Nat} (F : L2.Fun K "_log_within" "_log_within" s__log_within f fd)
    (z_isinstance : mg "isinstance" = none)
    (z_tuple : mg "tuple" = none)
    (z_len : mg "len" = none)
    {f_log_of : Addr} {d_log_of : FuncData} {l_log_of : Nat} (h_log_of : l_log_of ≤ k) (G_log_of : FnOk P w K mg base (L2.CX P w) l_log_of f_log_of d_log_of ["count"] (spX K Ps fun E => ofF E F_log_of)) (g_log_of : mg "log_of" = some (.ref f_log_of)) (k_log_of : PySem.W.keepIn K (.ref f_log_of) = true) (b_log_of : Binds K d_log_of ["count"] []) : FnOk P w K mg base (L2.CX P w) (k + 1) f fd ["value", "most"] (spX K Ps fun E => ofF E F__log_within) :=
  okFX (N := N__log_within) (n := 2) (fs := fs__log_within) F sc__log_within rfl fun cdv A outer s H E Ed hr tk po => ⟨_, (have nd := sc__log_within.nd
    psd_cons (psd_if (PW.pt (pwd_or (ptd_not (ptd_tru (pd_isi (by decide +kernel) (pd_var (pv 0)) (by rfl) z_isinstance (pe_bltn (by rfl) z_tuple PyProof.Rows.Boot.«tuple» rfl)))) (pwd_or1 (ptd_not (ptd_chain op_le op_le (op2_I0 fun _ _ _ _ => .bl _) (op2_I0 fun _ _ _ _ => .bl _) (pd_c pe_int (fun _ _ => .int _)) (pd_len (by rfl) z_len (pq_var (pv 0))) (pd_op op_shlW (op2_I fun _ _ _ _ => .int _) (pd_c pe_int (fun _ _ => .int _)) (pd_var (pv 1)))))))) (psd_one (psd_ret (pd_c pe_non (fun _ _ => .non)))) (psd_nil))
    (psd_one (psd_ret (pd_callX G_log_of tk (hr.mono (by omega)) (by rfl) g_log_of k_log_of b_log_of (pda_cons (pw_dat (pd_len (by rfl) z_len (pq_var (pv 0)))) (pda_nil)))))),
    (les_seq (les_if (le_orT (le_notT (le_tru (le_isi (le_var)))) (le_notT (le_test (le_chain (leop_I0) (leop_I0) (le_c) (le_opQ leq_len (le_varQ)) (le_op (leop_I cShl_ok) (le_c) (le_var)))))) (les_ret (le_c)) (les_next))
    (les_ret (le_call (le_cons (le_opQ leq_len (le_varQ)) (le_nil)))))⟩
abbrev s__need_map : Stmt := topS 59
abbrev N__need_map : List PySem.Str := ["table", "length", "word"]
theorem sc__need_map : FnScope N__need_map ["table"] (defScope s__need_map) := ⟨rfl, rfl, rfl, by decide +kernel, rfl, by decide +kernel, by decide +kernel⟩
def fs__need_map : FS :=
  fSeq (fSet 1 (fCall F__log_within (fCons (fVar 0) (fCons (fC (.int 6)) (fNil)))))
    (fSeq (fIf (fOr (fTest (fOp (gIs false) (fVar 1) (fC .none))) (fNot (fTru (fAll (fItS (fVar 0)) (fgSet 2) (fYes) (fCall0 F_is_word (fCons (fVar 2) (fCons (fOp (gI0 fun i j => .int (i + j)) (fVar 1) (fC (.int 1))) (fNil)))) [2])))) (fRaise ⟨"InvalidMaps", none⟩) (fNext))
    (fRet (fVar 1)))
def F__need_map : FF := mkF 1 N__need_map.length fs__need_map
theorem ok__need_map {f cc PP : Addr} {fd : FuncData} {k : Nat} (F : FunC K "_need_map" "_need_map" s__need_map cc f fd)
    {tk__MOST_SEED : Tok} (c__MOST_SEED : mg "_MOST_SEED" = some (.int 6 tk__MOST_SEED))
    (z_all : mg "all" = none)
    {c_InvalidMaps : Addr} (e_InvalidMaps : ClsP K mg "InvalidMaps" c_InvalidMaps)
    (h2 : 2 ≤ k) (TB : GxR.TabB base mg cc PP) (hPP : (PP, none) ∈ Ps)
    {f__log_within : Addr} {d__log_within : FuncData} {l__log_within : Nat} (h__log_within : l__log_within + 2 ≤ k) (G__log_within : FnOk P w K mg base (L2.CX P w) l__log_within f__log_within d__log_within ["value", "most"] (spX K Ps fun E => ofF E F__log_within)) (g__log_within : mg "_log_within" = some (.ref f__log_within)) (k__log_within : PySem.W.keepIn K (.ref f__log_within) = true) (b__log_within : Binds K d__log_within ["value", "most"] [])
    {f_is_word : Addr} {d_is_word : FuncData} {l_is_word : Nat} (h_is_word : l_is_word + 2 ≤ k) (G_is_word : FnOk P w K mg base (L2.CX P w) l_is_word f_is_word d_is_word ["value", "length"] (spX K Ps fun E => ofF E F_is_word)) (g_is_word : mg "is_word" = some (.ref f_is_word)) (k_is_word : PySem.W.keepIn K (.ref f_is_word) = true) (b_is_word : Binds K d_is_word ["value", "length"] []) : FnOk P w K mg base (L2.CX P w) (k + 1) f fd ["table"] (spX K Ps fun E => ofF E F__need_map) :=
  okFXC (N := N__need_map) (n := 1) (fs := fs__need_map) F sc__need_map rfl fun A outer s H E Ed hr tk po => ⟨_, (have nd := sc__need_map.nd
    psd_cons (psd_set (i := 1) nd rfl (by first | exact Or.inl rfl | exact Or.inr rfl) (pd_callX G__log_within tk (hr.mono (by omega)) (by rfl) g__log_within k__log_within b__log_within (pda_cons (pw_dat (pd_var (pv 0))) (pda_cons (pw_dat (pd_c (pe_glob (v := V.int 6) (by rfl) c__MOST_SEED ⟨_, rfl⟩) (fun _ _ => .int _))) (pda_nil)))))
    (psd_cons (psd_if (PW.pt (pwd_or (pt_d_cmp op_isN (op2_is) (pd_var (pv 1)) (pd_c pe_non (fun _ _ => .non)) (nomark _)) (pwd_or1 (ptd_not (ptd_tru (pd_all (k := k - 2) (own := [("word", 2)]) (hr.mono (by omega)) (by rfl) z_all TB hPP rfl nd rfl (by decide +kernel) rfl (blkOk_by (N := N__need_map) (sc := defScope s__need_map) (by decide +kernel)) (pid_seq (pd_var (pv 0))) (fun _ _ _ _ _ _ _ hr => pgd_name (pg_name (i := 2) nd rfl (by first | exact Or.inl rfl | exact Or.inr rfl))) (fun _ _ _ _ _ _ _ hr => ptsd_nil) (fun _ _ _ _ _ _ _ hr => pd_call (fnX0 G_is_word) (hr.mono (by omega)) (by rfl) g_is_word k_is_word b_is_word (pda_cons (pw_dat (pd_var (pv 2))) (pda_cons (pw_dat (pd_op op_add (op2_I0 fun _ _ _ _ => .int _) (pd_var (pv 1)) (pd_c pe_int (fun _ _ => .int _)))) (pda_nil)))))))))) (psd_one (psd_raiseP e_InvalidMaps tk rfl (by rfl))) (psd_nil))
    (psd_one (psd_ret (pd_var (pv 1)))))),
    (les_seq (les_set (le_call (le_cons (le_var) (le_cons (le_c) (le_nil)))))
    (les_seq (les_if (le_orT (le_test (le_op (leop_is) (le_var) (le_c))) (le_notT (le_tru (le_all (le_itS (le_var)) (le_gSet) (le_yes) (le_call0 (le_cons (le_var) (le_cons (le_op (leop_I0) (le_var) (le_c)) (le_nil)))))))) (les_raiseX) (les_next))
    (les_ret (le_var))))⟩
abbrev s__need_map_and_told : Stmt := topS 60
abbrev N__need_map_and_told : List PySem.Str := ["table", "k", "length"]
theorem sc__need_map_and_told : FnScope N__need_map_and_told ["table", "k"] (defScope s__need_map_and_told) := ⟨rfl, rfl, rfl, by decide +kernel, rfl, by decide +kernel, by decide +kernel⟩
def fs__need_map_and_told : FS :=
  fSeq (fSet 2 (fCall F__need_map (fCons (fVar 0) (fNil))))
    (fSeq (fDrop (fCall F_need_number (fCons (fVar 1) (fCons (fC (.int 1)) (fCons (fC (.int 8)) (fNil))))))
    (fRet (fVar 2)))
def F__need_map_and_told : FF := mkF 2 N__need_map_and_told.length fs__need_map_and_told
theorem ok__need_map_and_told {f : Addr} {fd : FuncData} {k : Nat} (F : L2.Fun K "_need_map_and_told" "_need_map_and_told" s__need_map_and_told f fd)
    {tk__MOST_TOLD : Tok} (c__MOST_TOLD : mg "_MOST_TOLD" = some (.int 8 tk__MOST_TOLD))
    {f__need_map : Addr} {d__need_map : FuncData} {l__need_map : Nat} (h__need_map : l__need_map ≤ k) (G__need_map : FnOk P w K mg base (L2.CX P w) l__need_map f__need_map d__need_map ["table"] (spX K Ps fun E => ofF E F__need_map)) (g__need_map : mg "_need_map" = some (.ref f__need_map)) (k__need_map : PySem.W.keepIn K (.ref f__need_map) = true) (b__need_map : Binds K d__need_map ["table"] [])
    {f_need_number : Addr} {d_need_number : FuncData} {l_need_number : Nat} (h_need_number : l_need_number ≤ k) (G_need_number : FnOk P w K mg base (L2.CX P w) l_need_number f_need_number d_need_number ["value", "low", "high"] (spX K Ps fun E => ofF E F_need_number)) (g_need_number : mg "need_number" = some (.ref f_need_number)) (k_need_number : PySem.W.keepIn K (.ref f_need_number) = true) (b_need_number : Binds K d_need_number ["value", "low", "high"] []) : FnOk P w K mg base (L2.CX P w) (k + 1) f fd ["table", "k"] (spX K Ps fun E => ofF E F__need_map_and_told) :=
  okFX (N := N__need_map_and_told) (n := 2) (fs := fs__need_map_and_told) F sc__need_map_and_told rfl fun cdv A outer s H E Ed hr tk po => ⟨_, (have nd := sc__need_map_and_told.nd
    psd_cons (psd_set (i := 2) nd rfl (by first | exact Or.inl rfl | exact Or.inr rfl) (pd_callX G__need_map tk (hr.mono (by omega)) (by rfl) g__need_map k__need_map b__need_map (pda_cons (pw_dat (pd_var (pv 0))) (pda_nil))))
    (psd_cons (psd_expr (pd_callX G_need_number tk (hr.mono (by omega)) (by rfl) g_need_number k_need_number b_need_number (pda_cons (pw_dat (pd_var (pv 1))) (pda_cons (pw_dat (pd_c pe_int (fun _ _ => .int _))) (pda_cons (pw_dat (pd_c (pe_glob (v := V.int 8) (by rfl) c__MOST_TOLD ⟨_, rfl⟩) (fun _ _ => .int _))) (pda_nil))))))
    (psd_one (psd_ret (pd_var (pv 2)))))),
    (les_seq (les_set (le_call (le_cons (le_var) (le_nil))))
    (les_seq (les_drop (le_call (le_cons (le_var) (le_cons (le_c) (le_cons (le_c) (le_nil))))))
    (les_ret (le_var))))⟩
abbrev s__led : Stmt := topS 61
abbrev N__led : List PySem.Str := ["table", "seed", "count", "_", "length", "told", "word"]
theorem sc__led : FnScope N__led ["table", "seed", "count"] (defScope s__led) := ⟨rfl, rfl, rfl, by decide +kernel, rfl, by decide +kernel, by decide +kernel⟩
def fs__led : FS :=
  fSeq (fParN 4 5 (fCall F_log_of (fCons (fOpQ gLen (fVarQ 0)) (fNil))) (fLst (fNil)))
    (fSeq (fFor (fRange1 (fCons (fVar 2) (fNil))) (fgSet 3) (fSeq (fSet 6 (fIx (fVarQ 0) (fVar 1)))
    (fSeq (fSet 1 (fCall F_number_of (fCons (fSl (fVarQ 6) (foNone) (foSome (fVar 4))) (fNil))))
    (fApp 5 (fIx (fVarQ 6) (fVar 4))))))
    (fRet (fTup (fCons (fOpQ gTuple (fVarQ 5)) (fCons (fVar 1) (fNil))))))
def F__led : FF := mkF 3 N__led.length fs__led
theorem ok__led {f : Addr} {fd : FuncData} {k : Nat} (F : L2.Fun K "_led" "_led" s__led f fd)
    (z_len : mg "len" = none)
    (z_range : mg "range" = none)
    (z_tuple : mg "tuple" = none)
    {f_log_of : Addr} {d_log_of : FuncData} {l_log_of : Nat} (h_log_of : l_log_of ≤ k) (G_log_of : FnOk P w K mg base (L2.CX P w) l_log_of f_log_of d_log_of ["count"] (spX K Ps fun E => ofF E F_log_of)) (g_log_of : mg "log_of" = some (.ref f_log_of)) (k_log_of : PySem.W.keepIn K (.ref f_log_of) = true) (b_log_of : Binds K d_log_of ["count"] [])
    {f_number_of : Addr} {d_number_of : FuncData} {l_number_of : Nat} (h_number_of : l_number_of ≤ k) (G_number_of : FnOk P w K mg base (L2.CX P w) l_number_of f_number_of d_number_of ["word"] (spX K Ps fun E => ofF E F_number_of)) (g_number_of : mg "number_of" = some (.ref f_number_of)) (k_number_of : PySem.W.keepIn K (.ref f_number_of) = true) (b_number_of : Binds K d_number_of ["word"] []) : FnOk P w K mg base (L2.CX P w) (k + 1) f fd ["table", "seed", "count"] (spX K Ps fun E => ofF E F__led) :=
  okFX (N := N__led) (n := 3) (fs := fs__led) F sc__led rfl fun cdv A outer s H E Ed hr tk po => ⟨_, (have nd := sc__led.nd
    psd_cons (psd_parN (i := 4) (j := 5) rfl nd rfl rfl (by decide) rfl rfl (pd_callX G_log_of tk (hr.mono (by omega)) (by rfl) g_log_of k_log_of b_log_of (pda_cons (pw_dat (pd_len (by rfl) z_len (pq_var (pv 0)))) (pda_nil))) (pn_lst (pda_nil)) (by rfl))
    (psd_cons (psd_for po rfl (pid_range1 (by rfl) z_range (pda_cons (pw_dat (pd_var (pv 2))) (pda_nil))) (pgd_name (pg_name (i := 3) nd rfl (by first | exact Or.inl rfl | exact Or.inr rfl))) (psd_cons (psd_set (i := 6) nd rfl (by first | exact Or.inl rfl | exact Or.inr rfl) (pd_ix (pq_var (pv 0)) (pd_var (pv 1)) (fun _ _ => rfl)))
    (psd_cons (psd_set (i := 1) nd rfl (by first | exact Or.inl rfl | exact Or.inr rfl) (pd_callX G_number_of tk (hr.mono (by omega)) (by rfl) g_number_of k_number_of b_number_of (pda_cons (pw_dat (pd_slice (pq_var (pv 6)) (pod_none) (pod_some (pd_var (pv 4))))) (pda_nil))))
    (psd_one (psd_app (pv 5) (pd_ix (pq_var (pv 6)) (pd_var (pv 4)) (fun _ _ => rfl)))))))
    (psd_one (psd_ret (pd_tup (pda_cons (pw_dat (pd_tuple (by rfl) z_tuple Dl.b_tuple (pq_var (pv 5)))) (pda_cons (pw_dat (pd_var (pv 1))) (pda_nil)))))))),
    (les_seq (les_parN (le_call (le_cons (le_opQ leq_len (le_varQ)) (le_nil))) (le_lst (le_nil)))
    (les_seq (les_for (le_range1 (le_cons (le_var) (le_nil))) (le_gSet) (les_seq (les_set (le_ix (le_varQ) (le_var)))
    (les_seq (les_set (le_call (le_cons (le_sl (le_varQ) (le_oNone) (le_oSome (le_var))) (le_nil))))
    (les_app (le_ix (le_varQ) (le_var))))))
    (les_ret (le_tup (le_cons (le_opQ leq_tuple (le_varQ)) (le_cons (le_var) (le_nil)))))))⟩
abbrev s_led_on : Stmt := topS 62
abbrev N_led_on : List PySem.Str := ["table", "seed", "k", "length", "told", "last"]
theorem sc_led_on : FnScope N_led_on ["table", "seed", "k"] (defScope s_led_on) := ⟨rfl, rfl, rfl, by decide +kernel, rfl, by decide +kernel, by decide +kernel⟩
def fs_led_on : FS :=
  fSeq (fSet 3 (fCall F__need_map (fCons (fVar 0) (fNil))))
    (fSeq (fDrop (fCall F_need_word (fCons (fVar 1) (fCons (fVar 3) (fNil)))))
    (fSeq (fDrop (fCall F_need_number (fCons (fVar 2) (fCons (fC (.int 1)) (fCons (fC (.int 8)) (fNil))))))
    (fSeq (fAsgG (fgSeq 2 (fgsCons (fgSet 4) (fgsCons (fgSet 5) (fgsNil)))) (fCall F__led (fCons (fVar 0) (fCons (fCall F_number_of (fCons (fVar 1) (fNil))) (fCons (fVar 2) (fNil))))))
    (fRet (fTup (fCons (fVar 4) (fCons (fCall F_spelled (fCons (fVar 5) (fCons (fVar 3) (fNil)))) (fNil))))))))
def F_led_on : FF := mkF 3 N_led_on.length fs_led_on
theorem ok_led_on {f : Addr} {fd : FuncData} {k : Nat} (F : L2.Fun K "led_on" "led_on" s_led_on f fd)
    {tk__MOST_TOLD : Tok} (c__MOST_TOLD : mg "_MOST_TOLD" = some (.int 8 tk__MOST_TOLD))
    {f__need_map : Addr} {d__need_map : FuncData} {l__need_map : Nat} (h__need_map : l__need_map ≤ k) (G__need_map : FnOk P w K mg base (L2.CX P w) l__need_map f__need_map d__need_map ["table"] (spX K Ps fun E => ofF E F__need_map)) (g__need_map : mg "_need_map" = some (.ref f__need_map)) (k__need_map : PySem.W.keepIn K (.ref f__need_map) = true) (b__need_map : Binds K d__need_map ["table"] [])
    {f_need_word : Addr} {d_need_word : FuncData} {l_need_word : Nat} (h_need_word : l_need_word ≤ k) (G_need_word : FnOk P w K mg base (L2.CX P w) l_need_word f_need_word d_need_word ["value", "length"] (spX K Ps fun E => ofF E F_need_word)) (g_need_word : mg "need_word" = some (.ref f_need_word)) (k_need_word : PySem.W.keepIn K (.ref f_need_word) = true) (b_need_word : Binds K d_need_word ["value", "length"] [])
    {f_need_number : Addr} {d_need_number : FuncData} {l_need_number : Nat} (h_need_number : l_need_number ≤ k) (G_need_number : FnOk P w K mg base (L2.CX P w) l_need_number f_need_number d_need_number ["value", "low", "high"] (spX K Ps fun E => ofF E F_need_number)) (g_need_number : mg "need_number" = some (.ref f_need_number)) (k_need_number : PySem.W.keepIn K (.ref f_need_number) = true) (b_need_number : Binds K d_need_number ["value", "low", "high"] [])
    {f_number_of : Addr} {d_number_of : FuncData} {l_number_of : Nat} (h_number_of : l_number_of ≤ k) (G_number_of : FnOk P w K mg base (L2.CX P w) l_number_of f_number_of d_number_of ["word"] (spX K Ps fun E => ofF E F_number_of)) (g_number_of : mg "number_of" = some (.ref f_number_of)) (k_number_of : PySem.W.keepIn K (.ref f_number_of) = true) (b_number_of : Binds K d_number_of ["word"] [])
    {f__led : Addr} {d__led : FuncData} {l__led : Nat} (h__led : l__led ≤ k) (G__led : FnOk P w K mg base (L2.CX P w) l__led f__led d__led ["table", "seed", "count"] (spX K Ps fun E => ofF E F__led)) (g__led : mg "_led" = some (.ref f__led)) (k__led : PySem.W.keepIn K (.ref f__led) = true) (b__led : Binds K d__led ["table", "seed", "count"] [])
    {f_spelled : Addr} {d_spelled : FuncData} {l_spelled : Nat} (h_spelled : l_spelled ≤ k) (G_spelled : FnOk P w K mg base (L2.CX P w) l_spelled f_spelled d_spelled ["number", "length"] (spX K Ps fun E => ofF E F_spelled)) (g_spelled : mg "spelled" = some (.ref f_spelled)) (k_spelled : PySem.W.keepIn K (.ref f_spelled) = true) (b_spelled : Binds K d_spelled ["number", "length"] []) : FnOk P w K mg base (L2.CX P w) (k + 1) f fd ["table", "seed", "k"] (spX K Ps fun E => ofF E F_led_on) :=
  okFX (N := N_led_on) (n := 3) (fs := fs_led_on) F sc_led_on rfl fun cdv A outer s H E Ed hr tk po => ⟨_, (have nd := sc_led_on.nd
    psd_cons (psd_set (i := 3) nd rfl (by first | exact Or.inl rfl | exact Or.inr rfl) (pd_callX G__need_map tk (hr.mono (by omega)) (by rfl) g__need_map k__need_map b__need_map (pda_cons (pw_dat (pd_var (pv 0))) (pda_nil))))
    (psd_cons (psd_expr (pd_callX G_need_word tk (hr.mono (by omega)) (by rfl) g_need_word k_need_word b_need_word (pda_cons (pw_dat (pd_var (pv 1))) (pda_cons (pw_dat (pd_var (pv 3))) (pda_nil)))))
    (psd_cons (psd_expr (pd_callX G_need_number tk (hr.mono (by omega)) (by rfl) g_need_number k_need_number b_need_number (pda_cons (pw_dat (pd_var (pv 2))) (pda_cons (pw_dat (pd_c pe_int (fun _ _ => .int _))) (pda_cons (pw_dat (pd_c (pe_glob (v := V.int 8) (by rfl) c__MOST_TOLD ⟨_, rfl⟩) (fun _ _ => .int _))) (pda_nil))))))
    (psd_cons (psd_asgG (pd_callX G__led tk (hr.mono (by omega)) (by rfl) g__led k__led b__led (pda_cons (pw_dat (pd_var (pv 0))) (pda_cons (pw_dat (pd_callX G_number_of tk (hr.mono (by omega)) (by rfl) g_number_of k_number_of b_number_of (pda_cons (pw_dat (pd_var (pv 1))) (pda_nil)))) (pda_cons (pw_dat (pd_var (pv 2))) (pda_nil))))) (pgd_seq rfl (pgsd_cons (pgd_name (pg_name (i := 4) nd rfl (by first | exact Or.inl rfl | exact Or.inr rfl))) (pgsd_cons (pgd_name (pg_name (i := 5) nd rfl (by first | exact Or.inl rfl | exact Or.inr rfl))) (pgsd_nil)))))
    (psd_one (psd_ret (pd_tup (pda_cons (pw_dat (pd_var (pv 4))) (pda_cons (pw_dat (pd_callX G_spelled tk (hr.mono (by omega)) (by rfl) g_spelled k_spelled b_spelled (pda_cons (pw_dat (pd_var (pv 5))) (pda_cons (pw_dat (pd_var (pv 3))) (pda_nil))))) (pda_nil)))))))))),
    (les_seq (les_set (le_call (le_cons (le_var) (le_nil))))
    (les_seq (les_drop (le_call (le_cons (le_var) (le_cons (le_var) (le_nil)))))
    (les_seq (les_drop (le_call (le_cons (le_var) (le_cons (le_c) (le_cons (le_c) (le_nil))))))
    (les_seq (les_asgG (le_gSeq (le_gsCons (le_gSet) (le_gsCons (le_gSet) (le_gsNil)))) (le_call (le_cons (le_var) (le_cons (le_call (le_cons (le_var) (le_nil))) (le_cons (le_var) (le_nil))))))
    (les_ret (le_tup (le_cons (le_var) (le_cons (le_call (le_cons (le_var) (le_cons (le_var) (le_nil)))) (le_nil)))))))))⟩
abbrev s__excess_over : Stmt := topS 63
abbrev N__excess_over : List PySem.Str := ["words", "test", "met", "word"]
theorem sc__excess_over : FnScope N__excess_over ["words", "test"] (defScope s__excess_over) := ⟨rfl, rfl, rfl, by decide +kernel, rfl, by decide +kernel, by decide +kernel⟩
def fs__excess_over : FS :=
  fSeq (fSet 2 (fOpQ gSum (fSeqE (fL (fLc (fItS (fVar 0)) (fgSet 3) (fYes) (fIx (fVarQ 1) (fCall0 F_number_of (fCons (fVar 3) (fNil)))) [3])))))
    (fRet (fCall F_minus (fCons (fCall F_reduced (fCons (fVar 2) (fCons (fOpQ gLen (fVarQ 0)) (fNil)))) (fCons (fCall F_reduced (fCons (fOpQ gSum (fVarQ 1)) (fCons (fOpQ gLen (fVarQ 1)) (fNil)))) (fNil)))))
def F__excess_over : FF := mkF 2 N__excess_over.length fs__excess_over
theorem ok__excess_over {f : Addr} {fd : FuncData} {k : Nat} (F : L2.Fun K "_excess_over" "_excess_over" s__excess_over f fd)
    (z_sum : mg "sum" = none)
    (z_len : mg "len" = none)
    {f_number_of : Addr} {d_number_of : FuncData} {l_number_of : Nat} (h_number_of : l_number_of ≤ k) (G_number_of : FnOk P w K mg base (L2.CX P w) l_number_of f_number_of d_number_of ["word"] (spX K Ps fun E => ofF E F_number_of)) (g_number_of : mg "number_of" = some (.ref f_number_of)) (k_number_of : PySem.W.keepIn K (.ref f_number_of) = true) (b_number_of : Binds K d_number_of ["word"] [])
    {f_reduced : Addr} {d_reduced : FuncData} {l_reduced : Nat} (h_reduced : l_reduced ≤ k) (G_reduced : FnOk P w K mg base (L2.CX P w) l_reduced f_reduced d_reduced ["top", "bottom"] (spX K Ps fun E => ofF E F_reduced)) (g_reduced : mg "reduced" = some (.ref f_reduced)) (k_reduced : PySem.W.keepIn K (.ref f_reduced) = true) (b_reduced : Binds K d_reduced ["top", "bottom"] [])
    {f_minus : Addr} {d_minus : FuncData} {l_minus : Nat} (h_minus : l_minus ≤ k) (G_minus : FnOk P w K mg base (L2.CX P w) l_minus f_minus d_minus ["one", "other"] (spX K Ps fun E => ofF E F_minus)) (g_minus : mg "minus" = some (.ref f_minus)) (k_minus : PySem.W.keepIn K (.ref f_minus) = true) (b_minus : Binds K d_minus ["one", "other"] []) : FnOk P w K mg base (L2.CX P w) (k + 1) f fd ["words", "test"] (spX K Ps fun E => ofF E F__excess_over) :=
  okFX (N := N__excess_over) (n := 2) (fs := fs__excess_over) F sc__excess_over rfl fun cdv A outer s H E Ed hr tk po => ⟨_, (have nd := sc__excess_over.nd
    psd_cons (psd_set (i := 2) nd rfl (by first | exact Or.inl rfl | exact Or.inr rfl) (pd_callQ (cr_sumS rfl) opq_sumS (by rfl) z_sum Dl.b_sum (pq_dat (pd_new (pn_lc (own := [("word", 3)]) rfl nd (pid_seq (pd_var (pv 0))) (blkOk_by (N := N__excess_over) (sc := defScope s__excess_over) (by decide +kernel)) (fun _ _ _ _ _ => pgd_name (pg_name (i := 3) nd rfl (by first | exact Or.inl rfl | exact Or.inr rfl))) (fun _ _ _ _ _ => ptsd_nil) (fun _ _ _ _ _ => pd_ix (pq_var (pv 1)) (pd_call (fnX0 G_number_of) (hr.mono (by omega)) (by rfl) g_number_of k_number_of b_number_of (pda_cons (pw_dat (pd_var (pv 3))) (pda_nil))) (fun _ _ => rfl)))))))
    (psd_one (psd_ret (pd_callX G_minus tk (hr.mono (by omega)) (by rfl) g_minus k_minus b_minus (pda_cons (pw_dat (pd_callX G_reduced tk (hr.mono (by omega)) (by rfl) g_reduced k_reduced b_reduced (pda_cons (pw_dat (pd_var (pv 2))) (pda_cons (pw_dat (pd_len (by rfl) z_len (pq_var (pv 0)))) (pda_nil))))) (pda_cons (pw_dat (pd_callX G_reduced tk (hr.mono (by omega)) (by rfl) g_reduced k_reduced b_reduced (pda_cons (pw_dat (pd_callQ (cr_sumS rfl) opq_sumS (by rfl) z_sum Dl.b_sum (pq_var (pv 1)))) (pda_cons (pw_dat (pd_len (by rfl) z_len (pq_var (pv 1)))) (pda_nil))))) (pda_nil))))))),
    (les_seq (les_set (le_opQ leq_sum (le_seqE (le_L (le_lc (le_itS (le_var)) (le_gSet) (le_yes) (le_ix (le_varQ) (le_call0 (le_cons (le_var) (le_nil)))))))))
    (les_ret (le_call (le_cons (le_call (le_cons (le_var) (le_cons (le_opQ leq_len (le_varQ)) (le_nil)))) (le_cons (le_call (le_cons (le_opQ leq_sum (le_varQ)) (le_cons (le_opQ leq_len (le_varQ)) (le_nil)))) (le_nil))))))⟩
abbrev s_map_excess : Stmt := topS 64
abbrev N_map_excess : List PySem.Str := ["table", "test"]
theorem sc_map_excess : FnScope N_map_excess ["table", "test"] (defScope s_map_excess) := ⟨rfl, rfl, rfl, by decide +kernel, rfl, by decide +kernel, by decide +kernel⟩
def fs_map_excess : FS :=
  fSeq (fDrop (fCall F_need_table (fCons (fVar 1) (fCons (fOp (gI0 fun i j => .int (i + j)) (fCall F__need_map (fCons (fVar 0) (fNil))) (fC (.int 1))) (fNil)))))
    (fRet (fCall F__excess_over (fCons (fVar 0) (fCons (fVar 1) (fNil)))))
def F_map_excess : FF := mkF 2 N_map_excess.length fs_map_excess
theorem ok_map_excess {f : Addr} {fd : FuncData} {k : Nat} (F : L2.Fun K "map_excess" "map_excess" s_map_excess f fd)
    {f__need_map : Addr} {d__need_map : FuncData} {l__need_map : Nat} (h__need_map : l__need_map ≤ k) (G__need_map : FnOk P w K mg base (L2.CX P w) l__need_map f__need_map d__need_map ["table"] (spX K Ps fun E => ofF E F__need_map)) (g__need_map : mg "_need_map" = some (.ref f__need_map)) (k__need_map : PySem.W.keepIn K (.ref f__need_map) = true) (b__need_map : Binds K d__need_map ["table"] [])
    {f_need_table : Addr} {d_need_table : FuncData} {l_need_table : Nat} (h_need_table : l_need_table ≤ k) (G_need_table : FnOk P w K mg base (L2.CX P w) l_need_table f_need_table d_need_table ["value", "bits"] (spX K Ps fun E => ofF E F_need_table)) (g_need_table : mg "need_table" = some (.ref f_need_table)) (k_need_table : PySem.W.keepIn K (.ref f_need_table) = true) (b_need_table : Binds K d_need_table ["value", "bits"] [])
    {f__excess_over : Addr} {d__excess_over : FuncData} {l__excess_over : Nat} (h__excess_over : l__excess_over ≤ k) (G__excess_over : FnOk P w K mg base (L2.CX P w) l__excess_over f__excess_over d__excess_over ["words", "test"] (spX K Ps fun E => ofF E F__excess_over)) (g__excess_over : mg "_excess_over" = some (.ref f__excess_over)) (k__excess_over : PySem.W.keepIn K (.ref f__excess_over) = true) (b__excess_over : Binds K d__excess_over ["words", "test"] []) : FnOk P w K mg base (L2.CX P w) (k + 1) f fd ["table", "test"] (spX K Ps fun E => ofF E F_map_excess) :=
  okFX (N := N_map_excess) (n := 2) (fs := fs_map_excess) F sc_map_excess rfl fun cdv A outer s H E Ed hr tk po => ⟨_, (have nd := sc_map_excess.nd
    psd_cons (psd_expr (pd_callX G_need_table tk (hr.mono (by omega)) (by rfl) g_need_table k_need_table b_need_table (pda_cons (pw_dat (pd_var (pv 1))) (pda_cons (pw_dat (pd_op op_add (op2_I0 fun _ _ _ _ => .int _) (pd_callX G__need_map tk (hr.mono (by omega)) (by rfl) g__need_map k__need_map b__need_map (pda_cons (pw_dat (pd_var (pv 0))) (pda_nil))) (pd_c pe_int (fun _ _ => .int _)))) (pda_nil)))))
    (psd_one (psd_ret (pd_callX G__excess_over tk (hr.mono (by omega)) (by rfl) g__excess_over k__excess_over b__excess_over (pda_cons (pw_dat (pd_var (pv 0))) (pda_cons (pw_dat (pd_var (pv 1))) (pda_nil))))))),
    (les_seq (les_drop (le_call (le_cons (le_var) (le_cons (le_op (leop_I0) (le_call (le_cons (le_var) (le_nil))) (le_c)) (le_nil)))))
    (les_ret (le_call (le_cons (le_var) (le_cons (le_var) (le_nil))))))⟩
abbrev s__long_excess : Stmt := topS 65
abbrev N__long_excess : List PySem.Str := ["table", "k", "test", "seed"]
theorem sc__long_excess : FnScope N__long_excess ["table", "k", "test"] (defScope s__long_excess) := ⟨rfl, rfl, rfl, by decide +kernel, rfl, by decide +kernel, by decide +kernel⟩
def fs__long_excess : FS :=
  fRet (fCall F__excess_over (fCons (fL (fLc (fRange1 (fCons (fOpQ gLen (fVarQ 0)) (fNil))) (fgSet 3) (fYes) (fIx (fSeqE (fCall0 F__led (fCons (fVar 0) (fCons (fVar 3) (fCons (fVar 1) (fNil)))))) (fC (.int 0))) [3])) (fCons (fVar 2) (fNil))))
def F__long_excess : FF := mkF 3 N__long_excess.length fs__long_excess
theorem ok__long_excess {f : Addr} {fd : FuncData} {k : Nat} (F : L2.Fun K "_long_excess" "_long_excess" s__long_excess f fd)
    (z_len : mg "len" = none)
    (z_range : mg "range" = none)
    {f__led : Addr} {d__led : FuncData} {l__led : Nat} (h__led : l__led ≤ k) (G__led : FnOk P w K mg base (L2.CX P w) l__led f__led d__led ["table", "seed", "count"] (spX K Ps fun E => ofF E F__led)) (g__led : mg "_led" = some (.ref f__led)) (k__led : PySem.W.keepIn K (.ref f__led) = true) (b__led : Binds K d__led ["table", "seed", "count"] [])
    {f__excess_over : Addr} {d__excess_over : FuncData} {l__excess_over : Nat} (h__excess_over : l__excess_over ≤ k) (G__excess_over : FnOk P w K mg base (L2.CX P w) l__excess_over f__excess_over d__excess_over ["words", "test"] (spX K Ps fun E => ofF E F__excess_over)) (g__excess_over : mg "_excess_over" = some (.ref f__excess_over)) (k__excess_over : PySem.W.keepIn K (.ref f__excess_over) = true) (b__excess_over : Binds K d__excess_over ["words", "test"] []) : FnOk P w K mg base (L2.CX P w) (k + 1) f fd ["table", "k", "test"] (spX K Ps fun E => ofF E F__long_excess) :=
  okFX (N := N__long_excess) (n := 3) (fs := fs__long_excess) F sc__long_excess rfl fun cdv A outer s H E Ed hr tk po => ⟨_, (have nd := sc__long_excess.nd
    psd_one (psd_ret (pd_callX G__excess_over tk (hr.mono (by omega)) (by rfl) g__excess_over k__excess_over b__excess_over (pda_cons (pw_dat (pd_new (pn_lc (own := [("seed", 3)]) rfl nd (pid_range1 (by rfl) z_range (pda_cons (pw_dat (pd_len (by rfl) z_len (pq_var (pv 0)))) (pda_nil))) (blkOk_by (N := N__long_excess) (sc := defScope s__long_excess) (by decide +kernel)) (fun _ _ _ _ _ => pgd_name (pg_name (i := 3) nd rfl (by first | exact Or.inl rfl | exact Or.inr rfl))) (fun _ _ _ _ _ => ptsd_nil) (fun _ _ _ _ _ => pd_ix (pq_dat (pd_call (fnX0 G__led) (hr.mono (by omega)) (by rfl) g__led k__led b__led (pda_cons (pw_dat (pd_var (pv 0))) (pda_cons (pw_dat (pd_var (pv 3))) (pda_cons (pw_dat (pd_var (pv 1))) (pda_nil)))))) (pd_c pe_int (fun _ _ => .int _)) (fun _ _ => rfl))))) (pda_cons (pw_dat (pd_var (pv 2))) (pda_nil)))))),
    (les_ret (le_call (le_cons (le_L (le_lc (le_range1 (le_cons (le_opQ leq_len (le_varQ)) (le_nil))) (le_gSet) (le_yes) (le_ix (le_seqE (le_call0 (le_cons (le_var) (le_cons (le_var) (le_cons (le_var) (le_nil)))))) (le_c)))) (le_cons (le_var) (le_nil)))))⟩
abbrev s_long_excess : Stmt := topS 66
abbrev N_long_excess : List PySem.Str := ["table", "k", "test"]
theorem sc_long_excess : FnScope N_long_excess ["table", "k", "test"] (defScope s_long_excess) := ⟨rfl, rfl, rfl, by decide +kernel, rfl, by decide +kernel, by decide +kernel⟩
def fs_long_excess : FS :=
  fSeq (fDrop (fCall F__need_map_and_told (fCons (fVar 0) (fCons (fVar 1) (fNil)))))
    (fSeq (fDrop (fCall F_need_table (fCons (fVar 2) (fCons (fVar 1) (fNil)))))
    (fRet (fCall F__long_excess (fCons (fVar 0) (fCons (fVar 1) (fCons (fVar 2) (fNil)))))))
def F_long_excess : FF := mkF 3 N_long_excess.length fs_long_excess
theorem ok_long_excess {f : Addr} {fd : FuncData} {k : Nat} (F : L2.Fun K "long_excess" "long_excess" s_long_excess f fd)
    {f__need_map_and_told : Addr} {d__need_map_and_told : FuncData} {l__need_map_and_told : Nat} (h__need_map_and_told : l__need_map_and_told ≤ k) (G__need_map_and_told : FnOk P w K mg base (L2.CX P w) l__need_map_and_told f__need_map_and_told d__need_map_and_told ["table", "k"] (spX K Ps fun E => ofF E F__need_map_and_told)) (g__need_map_and_told : mg "_need_map_and_told" = some (.ref f__need_map_and_told)) (k__need_map_and_told : PySem.W.keepIn K (.ref f__need_map_and_told) = true) (b__need_map_and_told : Binds K d__need_map_and_told ["table", "k"] [])
    {f_need_table : Addr} {d_need_table : FuncData} {l_need_table : Nat} (h_need_table : l_need_table ≤ k) (G_need_table : FnOk P w K mg base (L2.CX P w) l_need_table f_need_table d_need_table ["value", "bits"] (spX K Ps fun E => ofF E F_need_table)) (g_need_table : mg "need_table" = some (.ref f_need_table)) (k_need_table : PySem.W.keepIn K (.ref f_need_table) = true) (b_need_table : Binds K d_need_table ["value", "bits"] [])
    {f__long_excess : Addr} {d__long_excess : FuncData} {l__long_excess : Nat} (h__long_excess : l__long_excess ≤ k) (G__long_excess : FnOk P w K mg base (L2.CX P w) l__long_excess f__long_excess d__long_excess ["table", "k", "test"] (spX K Ps fun E => ofF E F__long_excess)) (g__long_excess : mg "_long_excess" = some (.ref f__long_excess)) (k__long_excess : PySem.W.keepIn K (.ref f__long_excess) = true) (b__long_excess : Binds K d__long_excess ["table", "k", "test"] []) : FnOk P w K mg base (L2.CX P w) (k + 1) f fd ["table", "k", "test"] (spX K Ps fun E => ofF E F_long_excess) :=
  okFX (N := N_long_excess) (n := 3) (fs := fs_long_excess) F sc_long_excess rfl fun cdv A outer s H E Ed hr tk po => ⟨_, (have nd := sc_long_excess.nd
    psd_cons (psd_expr (pd_callX G__need_map_and_told tk (hr.mono (by omega)) (by rfl) g__need_map_and_told k__need_map_and_told b__need_map_and_told (pda_cons (pw_dat (pd_var (pv 0))) (pda_cons (pw_dat (pd_var (pv 1))) (pda_nil)))))
    (psd_cons (psd_expr (pd_callX G_need_table tk (hr.mono (by omega)) (by rfl) g_need_table k_need_table b_need_table (pda_cons (pw_dat (pd_var (pv 2))) (pda_cons (pw_dat (pd_var (pv 1))) (pda_nil)))))
    (psd_one (psd_ret (pd_callX G__long_excess tk (hr.mono (by omega)) (by rfl) g__long_excess k__long_excess b__long_excess (pda_cons (pw_dat (pd_var (pv 0))) (pda_cons (pw_dat (pd_var (pv 1))) (pda_cons (pw_dat (pd_var (pv 2))) (pda_nil))))))))),
    (les_seq (les_drop (le_call (le_cons (le_var) (le_cons (le_var) (le_nil)))))
    (les_seq (les_drop (le_call (le_cons (le_var) (le_cons (le_var) (le_nil)))))
    (les_ret (le_call (le_cons (le_var) (le_cons (le_var) (le_cons (le_var) (le_nil))))))))⟩
abbrev s__step_test : Stmt := topS 67
abbrev N__step_test : List PySem.Str := ["table", "k", "test", "first", "tails", "seeds", "behind", "seed", "bit"]
theorem sc__step_test : FnScope N__step_test ["table", "k", "test", "first"] (defScope s__step_test) := ⟨rfl, rfl, rfl, by decide +kernel, rfl, by decide +kernel, by decide +kernel⟩
def fs__step_test : FS :=
  fSeq (fAsgG (fgSeq 2 (fgsCons (fgSet 5) (fgsCons (fgSet 6) (fgsNil)))) (fTup (fCons (fOpQ gLen (fVarQ 0)) (fCons (fOp (gI0 fun i j => .int (i - j)) (fOp (gI0 fun i j => .int (i - j)) (fVar 1) (fOpQ gLen (fVarQ 3))) (fC (.int 1))) (fNil)))))
    (fSeq (fSet 4 (fL (fLc (fRange1 (fCons (fVar 5) (fNil))) (fgSet 7) (fYes) (fIx (fSeqE (fCall0 F__led (fCons (fVar 0) (fCons (fVar 7) (fCons (fVar 6) (fNil)))))) (fC (.int 0))) [7])))
    (fRet (fOpQ gTuple (fSeqE (fL (fLc2 (fRange1 (fCons (fC (.int 2)) (fNil))) (fgSet 8) (fYes) (fRange1 (fCons (fVar 5) (fNil))) (fgSet 7) (fYes) (fIx (fVarQ 2) (fCall0 F_number_of (fCons (fOp (gCatT) (fOp (gCatT) (fVar 3) (fTup (fCons (fVar 8) (fNil)))) (fIx (fVarQ 4) (fVar 7))) (fNil)))) [8, 7] [7]))))))
def F__step_test : FF := mkF 4 N__step_test.length fs__step_test
theorem ok__step_test {f : Addr} {fd : FuncData} {k : Nat} (F : L2.Fun K "_step_test" "_step_test" s__step_test f fd)
    (z_len : mg "len" = none)
    (z_range : mg "range" = none)
    (z_tuple : mg "tuple" = none)
    {f__led : Addr} {d__led : FuncData} {l__led : Nat} (h__led : l__led ≤ k) (G__led : FnOk P w K mg base (L2.CX P w) l__led f__led d__led ["table", "seed", "count"] (spX K Ps fun E => ofF E F__led)) (g__led : mg "_led" = some (.ref f__led)) (k__led : PySem.W.keepIn K (.ref f__led) = true) (b__led : Binds K d__led ["table", "seed", "count"] [])
    {f_number_of : Addr} {d_number_of : FuncData} {l_number_of : Nat} (h_number_of : l_number_of ≤ k) (G_number_of : FnOk P w K mg base (L2.CX P w) l_number_of f_number_of d_number_of ["word"] (spX K Ps fun E => ofF E F_number_of)) (g_number_of : mg "number_of" = some (.ref f_number_of)) (k_number_of : PySem.W.keepIn K (.ref f_number_of) = true) (b_number_of : Binds K d_number_of ["word"] []) : FnOk P w K mg base (L2.CX P w) (k + 1) f fd ["table", "k", "test", "first"] (spX K Ps fun E => ofF E F__step_test) :=
  okFX (N := N__step_test) (n := 4) (fs := fs__step_test) F sc__step_test rfl fun cdv A outer s H E Ed hr tk po => ⟨_, (have nd := sc__step_test.nd
    psd_cons (psd_asgG (pd_tup (pda_cons (pw_dat (pd_len (by rfl) z_len (pq_var (pv 0)))) (pda_cons (pw_dat (pd_op op_sub (op2_I0 fun _ _ _ _ => .int _) (pd_op op_sub (op2_I0 fun _ _ _ _ => .int _) (pd_var (pv 1)) (pd_len (by rfl) z_len (pq_var (pv 3)))) (pd_c pe_int (fun _ _ => .int _)))) (pda_nil)))) (pgd_seq rfl (pgsd_cons (pgd_name (pg_name (i := 5) nd rfl (by first | exact Or.inl rfl | exact Or.inr rfl))) (pgsd_cons (pgd_name (pg_name (i := 6) nd rfl (by first | exact Or.inl rfl | exact Or.inr rfl))) (pgsd_nil)))))
    (psd_cons (psd_set (i := 4) nd rfl (by first | exact Or.inl rfl | exact Or.inr rfl) (pd_new (pn_lc (own := [("seed", 7)]) rfl nd (pid_range1 (by rfl) z_range (pda_cons (pw_dat (pd_var (pv 5))) (pda_nil))) (blkOk_by (N := N__step_test) (sc := defScope s__step_test) (by decide +kernel)) (fun _ _ _ _ _ => pgd_name (pg_name (i := 7) nd rfl (by first | exact Or.inl rfl | exact Or.inr rfl))) (fun _ _ _ _ _ => ptsd_nil) (fun _ _ _ _ _ => pd_ix (pq_dat (pd_call (fnX0 G__led) (hr.mono (by omega)) (by rfl) g__led k__led b__led (pda_cons (pw_dat (pd_var (pv 0))) (pda_cons (pw_dat (pd_var (pv 7))) (pda_cons (pw_dat (pd_var (pv 6))) (pda_nil)))))) (pd_c pe_int (fun _ _ => .int _)) (fun _ _ => rfl)))))
    (psd_one (psd_ret (pd_tuple (by rfl) z_tuple Dl.b_tuple (pq_dat (pd_new (pn_lc2 (own := [("bit", 8), ("seed", 7)]) (vs1 := [7]) rfl nd (own_set) (pid_range1 (by rfl) z_range (pda_cons (pw_dat (pd_c pe_int (fun _ _ => .int _))) (pda_nil))) (blkOk_by (N := N__step_test) (sc := defScope s__step_test) (by decide +kernel)) (fun _ _ _ _ _ => pgd_name (pg_name (i := 8) nd rfl (by first | exact Or.inl rfl | exact Or.inr rfl))) (fun _ _ _ _ _ => ptsd_nil) (fun _ _ _ _ _ => pid_range1 (by rfl) z_range (pda_cons (pw_dat (pd_var (pv 5))) (pda_nil))) (fun _ _ _ _ _ => pgd_name (pg_name (i := 7) nd rfl (by first | exact Or.inl rfl | exact Or.inr rfl))) (fun _ _ _ _ _ => ptsd_nil) (fun _ _ _ _ _ => pd_ix (pq_var (pv 2)) (pd_call (fnX0 G_number_of) (hr.mono (by omega)) (by rfl) g_number_of k_number_of b_number_of (pda_cons (pw_dat (pd_op op_catA (op2_catT) (pd_op op_catA (op2_catT) (pd_var (pv 3)) (pd_tup (pda_cons (pw_dat (pd_var (pv 8))) (pda_nil)))) (pd_ix (pq_var (pv 4)) (pd_var (pv 7)) (fun _ _ => rfl)))) (pda_nil))) (fun _ _ => rfl)))))))))),
    (les_seq (les_asgG (le_gSeq (le_gsCons (le_gSet) (le_gsCons (le_gSet) (le_gsNil)))) (le_tup (le_cons (le_opQ leq_len (le_varQ)) (le_cons (le_op (leop_I0) (le_op (leop_I0) (le_var) (le_opQ leq_len (le_varQ))) (le_c)) (le_nil)))))
    (les_seq (les_set (le_L (le_lc (le_range1 (le_cons (le_var) (le_nil))) (le_gSet) (le_yes) (le_ix (le_seqE (le_call0 (le_cons (le_var) (le_cons (le_var) (le_cons (le_var) (le_nil)))))) (le_c)))))
    (les_ret (le_opQ leq_tuple (le_seqE (le_L (le_lc2 (le_range1 (le_cons (le_c) (le_nil))) (le_gSet) (le_yes) (le_range1 (le_cons (le_var) (le_nil))) (le_gSet) (le_yes) (le_ix (le_varQ) (le_call0 (le_cons (le_op (leop_catT) (le_op (leop_catT) (le_var) (le_tup (le_cons (le_var) (le_nil)))) (le_ix (le_varQ) (le_var))) (le_nil)))))))))))⟩
abbrev s__is_first : Stmt := topS 68
abbrev N__is_first : List PySem.Str := ["value", "k"]
theorem sc__is_first : FnScope N__is_first ["value", "k"] (defScope s__is_first) := ⟨rfl, rfl, rfl, by decide +kernel, rfl, by decide +kernel, by decide +kernel⟩
def fs__is_first : FS :=
  fRet (fAndV (fIsi "tuple" (fVar 0)) (fAndV (fOp (gI0 fun i j => .bool (decide (i < j))) (fOpQ gLen (fVarQ 0)) (fVar 1)) (fCall F_is_word (fCons (fVar 0) (fCons (fOpQ gLen (fVarQ 0)) (fNil))))))
def F__is_first : FF := mkF 2 N__is_first.length fs__is_first
theorem ok__is_first {f : Addr} {fd : FuncData} {k : Nat} (F : L2.Fun K "_is_first" "_is_first" s__is_first f fd)
    (z_isinstance : mg "isinstance" = none)
    (z_tuple : mg "tuple" = none)
    (z_len : mg "len" = none)
    {f_is_word : Addr} {d_is_word : FuncData} {l_is_word : Nat} (h_is_word : l_is_word ≤ k) (G_is_word : FnOk P w K mg base (L2.CX P w) l_is_word f_is_word d_is_word ["value", "length"] (spX K Ps fun E => ofF E F_is_word)) (g_is_word : mg "is_word" = some (.ref f_is_word)) (k_is_word : PySem.W.keepIn K (.ref f_is_word) = true) (b_is_word : Binds K d_is_word ["value", "length"] []) : FnOk P w K mg base (L2.CX P w) (k + 1) f fd ["value", "k"] (spX K Ps fun E => ofF E F__is_first) :=
  okFX (N := N__is_first) (n := 2) (fs := fs__is_first) F sc__is_first rfl fun cdv A outer s H E Ed hr tk po => ⟨_, (have nd := sc__is_first.nd
    psd_one (psd_ret (pd_and (pd_isi (by decide +kernel) (pd_var (pv 0)) (by rfl) z_isinstance (pe_bltn (by rfl) z_tuple PyProof.Rows.Boot.«tuple» rfl)) (pd_and (pd_cmp op_lt (op2_I0 fun _ _ _ _ => .bl _) (pd_len (by rfl) z_len (pq_var (pv 0))) (pd_var (pv 1)) (nomark _)) (pe_one (pd_callX G_is_word tk (hr.mono (by omega)) (by rfl) g_is_word k_is_word b_is_word (pda_cons (pw_dat (pd_var (pv 0))) (pda_cons (pw_dat (pd_len (by rfl) z_len (pq_var (pv 0)))) (pda_nil))))))))),
    (les_ret (le_andV (le_isi (le_var)) (le_andV (le_op (leop_I0) (le_opQ leq_len (le_varQ)) (le_var)) (le_call (le_cons (le_var) (le_cons (le_opQ leq_len (le_varQ)) (le_nil)))))))⟩
abbrev s_step_test : Stmt := topS 69
abbrev N_step_test : List PySem.Str := ["table", "k", "test", "first"]
theorem sc_step_test : FnScope N_step_test ["table", "k", "test", "first"] (defScope s_step_test) := ⟨rfl, rfl, rfl, by decide +kernel, rfl, by decide +kernel, by decide +kernel⟩
def fs_step_test : FS :=
  fSeq (fDrop (fCall F__need_map_and_told (fCons (fVar 0) (fCons (fVar 1) (fNil)))))
    (fSeq (fDrop (fCall F_need_table (fCons (fVar 2) (fCons (fVar 1) (fNil)))))
    (fSeq (fIf (fNot (fTru (fCall F__is_first (fCons (fVar 3) (fCons (fVar 1) (fNil)))))) (fRaise ⟨"InvalidWord", none⟩) (fNext))
    (fRet (fCall F__step_test (fCons (fVar 0) (fCons (fVar 1) (fCons (fVar 2) (fCons (fVar 3) (fNil)))))))))
def F_step_test : FF := mkF 4 N_step_test.length fs_step_test
theorem ok_step_test {f : Addr} {fd : FuncData} {k : Nat} (F : L2.Fun K "step_test" "step_test" s_step_test f fd)
    {c_InvalidWord : Addr} (e_InvalidWord : ClsP K mg "InvalidWord" c_InvalidWord)
    {f__need_map_and_told : Addr} {d__need_map_and_told : FuncData} {l__need_map_and_told : Nat} (h__need_map_and_told : l__need_map_and_told ≤ k) (G__need_map_and_told : FnOk P w K mg base (L2.CX P w) l__need_map_and_told f__need_map_and_told d__need_map_and_told ["table", "k"] (spX K Ps fun E => ofF E F__need_map_and_told)) (g__need_map_and_told : mg "_need_map_and_told" = some (.ref f__need_map_and_told)) (k__need_map_and_told : PySem.W.keepIn K (.ref f__need_map_and_told) = true) (b__need_map_and_told : Binds K d__need_map_and_told ["table", "k"] [])
    {f_need_table : Addr} {d_need_table : FuncData} {l_need_table : Nat} (h_need_table : l_need_table ≤ k) (G_need_table : FnOk P w K mg base (L2.CX P w) l_need_table f_need_table d_need_table ["value", "bits"] (spX K Ps fun E => ofF E F_need_table)) (g_need_table : mg "need_table" = some (.ref f_need_table)) (k_need_table : PySem.W.keepIn K (.ref f_need_table) = true) (b_need_table : Binds K d_need_table ["value", "bits"] [])
    {f__is_first : Addr} {d__is_first : FuncData} {l__is_first : Nat} (h__is_first : l__is_first ≤ k) (G__is_first : FnOk P w K mg base (L2.CX P w) l__is_first f__is_first d__is_first ["value", "k"] (spX K Ps fun E => ofF E F__is_first)) (g__is_first : mg "_is_first" = some (.ref f__is_first)) (k__is_first : PySem.W.keepIn K (.ref f__is_first) = true) (b__is_first : Binds K d__is_first ["value", "k"] [])
    {f__step_test : Addr} {d__step_test : FuncData} {l__step_test : Nat} (h__step_test : l__step_test ≤ k) (G__step_test : FnOk P w K mg base (L2.CX P w) l__step_test f__step_test d__step_test ["table", "k", "test", "first"] (spX K Ps fun E => ofF E F__step_test)) (g__step_test : mg "_step_test" = some (.ref f__step_test)) (k__step_test : PySem.W.keepIn K (.ref f__step_test) = true) (b__step_test : Binds K d__step_test ["table", "k", "test", "first"] []) : FnOk P w K mg base (L2.CX P w) (k + 1) f fd ["table", "k", "test", "first"] (spX K Ps fun E => ofF E F_step_test) :=
  okFX (N := N_step_test) (n := 4) (fs := fs_step_test) F sc_step_test rfl fun cdv A outer s H E Ed hr tk po => ⟨_, (have nd := sc_step_test.nd
    psd_cons (psd_expr (pd_callX G__need_map_and_told tk (hr.mono (by omega)) (by rfl) g__need_map_and_told k__need_map_and_told b__need_map_and_told (pda_cons (pw_dat (pd_var (pv 0))) (pda_cons (pw_dat (pd_var (pv 1))) (pda_nil)))))
    (psd_cons (psd_expr (pd_callX G_need_table tk (hr.mono (by omega)) (by rfl) g_need_table k_need_table b_need_table (pda_cons (pw_dat (pd_var (pv 2))) (pda_cons (pw_dat (pd_var (pv 1))) (pda_nil)))))
    (psd_cons (psd_if (ptd_not (ptd_tru (pd_callX G__is_first tk (hr.mono (by omega)) (by rfl) g__is_first k__is_first b__is_first (pda_cons (pw_dat (pd_var (pv 3))) (pda_cons (pw_dat (pd_var (pv 1))) (pda_nil)))))) (psd_one (psd_raiseP e_InvalidWord tk rfl (by rfl))) (psd_nil))
    (psd_one (psd_ret (pd_callX G__step_test tk (hr.mono (by omega)) (by rfl) g__step_test k__step_test b__step_test (pda_cons (pw_dat (pd_var (pv 0))) (pda_cons (pw_dat (pd_var (pv 1))) (pda_cons (pw_dat (pd_var (pv 2))) (pda_cons (pw_dat (pd_var (pv 3))) (pda_nil))))))))))),
    (les_seq (les_drop (le_call (le_cons (le_var) (le_cons (le_var) (le_nil)))))
    (les_seq (les_drop (le_call (le_cons (le_var) (le_cons (le_var) (le_nil)))))
    (les_seq (les_if (le_notT (le_tru (le_call (le_cons (le_var) (le_cons (le_var) (le_nil)))))) (les_raiseX) (les_next))
    (les_ret (le_call (le_cons (le_var) (le_cons (le_var) (le_cons (le_var) (le_cons (le_var) (le_nil))))))))))⟩
abbrev s__is_step : Stmt := topS 70
abbrev N__is_step : List PySem.Str := ["table", "k", "test", "e", "first"]
theorem sc__is_step : FnScope N__is_step ["table", "k", "test", "e", "first"] (defScope s__is_step) := ⟨rfl, rfl, rfl, by decide +kernel, rfl, by decide +kernel, by decide +kernel⟩
def fs__is_step : FS :=
  fRet (fOp (gI0 fun i j => .bool (decide (j < i))) (fCall F_ordered (fCons (fCall F_amount (fCons (fCall F__excess_over (fCons (fVar 0) (fCons (fCall F__step_test (fCons (fVar 0) (fCons (fVar 1) (fCons (fVar 2) (fCons (fVar 4) (fNil)))))) (fNil)))) (fNil))) (fCons (fVar 3) (fNil)))) (fC (.int 0)))
def F__is_step : FF := mkF 5 N__is_step.length fs__is_step
theorem ok__is_step {f : Addr} {fd : FuncData} {k : Nat} (F : L2.Fun K "_is_step" "_is_step" s__is_step f fd)
    {f__step_test : Addr} {d__step_test : FuncData} {l__step_test : Nat} (h__step_test : l__step_test ≤ k) (G__step_test : FnOk P w K mg base (L2.CX P w) l__step_test f__step_test d__step_test ["table", "k", "test", "first"] (spX K Ps fun E => ofF E F__step_test)) (g__step_test : mg "_step_test" = some (.ref f__step_test)) (k__step_test : PySem.W.keepIn K (.ref f__step_test) = true) (b__step_test : Binds K d__step_test ["table", "k", "test", "first"] [])
    {f__excess_over : Addr} {d__excess_over : FuncData} {l__excess_over : Nat} (h__excess_over : l__excess_over ≤ k) (G__excess_over : FnOk P w K mg base (L2.CX P w) l__excess_over f__excess_over d__excess_over ["words", "test"] (spX K Ps fun E => ofF E F__excess_over)) (g__excess_over : mg "_excess_over" = some (.ref f__excess_over)) (k__excess_over : PySem.W.keepIn K (.ref f__excess_over) = true) (b__excess_over : Binds K d__excess_over ["words", "test"] [])
    {f_amount : Addr} {d_amount : FuncData} {l_amount : Nat} (h_amount : l_amount ≤ k) (G_amount : FnOk P w K mg base (L2.CX P w) l_amount f_amount d_amount ["number"] (spX K Ps fun E => ofF E F_amount)) (g_amount : mg "amount" = some (.ref f_amount)) (k_amount : PySem.W.keepIn K (.ref f_amount) = true) (b_amount : Binds K d_amount ["number"] [])
    {f_ordered : Addr} {d_ordered : FuncData} {l_ordered : Nat} (h_ordered : l_ordered ≤ k) (G_ordered : FnOk P w K mg base (L2.CX P w) l_ordered f_ordered d_ordered ["one", "other"] (spX K Ps fun E => ofF E F_ordered)) (g_ordered : mg "ordered" = some (.ref f_ordered)) (k_ordered : PySem.W.keepIn K (.ref f_ordered) = true) (b_ordered : Binds K d_ordered ["one", "other"] []) : FnOk P w K mg base (L2.CX P w) (k + 1) f fd ["table", "k", "test", "e", "first"] (spX K Ps fun E => ofF E F__is_step) :=
  okFX (N := N__is_step) (n := 5) (fs := fs__is_step) F sc__is_step rfl fun cdv A outer s H E Ed hr tk po => ⟨_, (have nd := sc__is_step.nd
    psd_one (psd_ret (pd_cmp op_gt (op2_I0 fun _ _ _ _ => .bl _) (pd_callX G_ordered tk (hr.mono (by omega)) (by rfl) g_ordered k_ordered b_ordered (pda_cons (pw_dat (pd_callX G_amount tk (hr.mono (by omega)) (by rfl) g_amount k_amount b_amount (pda_cons (pw_dat (pd_callX G__excess_over tk (hr.mono (by omega)) (by rfl) g__excess_over k__excess_over b__excess_over (pda_cons (pw_dat (pd_var (pv 0))) (pda_cons (pw_dat (pd_callX G__step_test tk (hr.mono (by omega)) (by rfl) g__step_test k__step_test b__step_test (pda_cons (pw_dat (pd_var (pv 0))) (pda_cons (pw_dat (pd_var (pv 1))) (pda_cons (pw_dat (pd_var (pv 2))) (pda_cons (pw_dat (pd_var (pv 4))) (pda_nil))))))) (pda_nil))))) (pda_nil)))) (pda_cons (pw_dat (pd_var (pv 3))) (pda_nil)))) (pd_c pe_int (fun _ _ => .int _)) (nomark _)))),
    (les_ret (le_op (leop_I0) (le_call (le_cons (le_call (le_cons (le_call (le_cons (le_var) (le_cons (le_call (le_cons (le_var) (le_cons (le_var) (le_cons (le_var) (le_cons (le_var) (le_nil)))))) (le_nil)))) (le_nil))) (le_cons (le_var) (le_nil)))) (le_c)))⟩
abbrev s__need_all_for_answer : Stmt := topS 71
abbrev N__need_all_for_answer : List PySem.Str := ["table", "k", "test", "e"]
theorem sc__need_all_for_answer : FnScope N__need_all_for_answer ["table", "k", "test", "e"] (defScope s__need_all_for_answer) := ⟨rfl, rfl, rfl, by decide +kernel, rfl, by decide +kernel, by decide +kernel⟩
def fs__need_all_for_answer : FS :=
  fSeq (fDrop (fCall F__need_map_and_told (fCons (fVar 0) (fCons (fVar 1) (fNil)))))
    (fSeq (fDrop (fCall F_need_table (fCons (fVar 2) (fCons (fVar 1) (fNil)))))
    (fDrop (fCall F_need_fraction_between (fCons (fVar 3) (fCons (fC (.int 0)) (fCons (fC (.int 1)) (fNil)))))))
def F__need_all_for_answer : FF := mkF 4 N__need_all_for_answer.length fs__need_all_for_answer
theorem ok__need_all_for_answer {f : Addr} {fd : FuncData} {k : Nat} (F : L2.Fun K "_need_all_for_answer" "_need_all_for_answer" s__need_all_for_answer f fd)
    {f__need_map_and_told : Addr} {d__need_map_and_told : FuncData} {l__need_map_and_told : Nat} (h__need_map_and_told : l__need_map_and_told ≤ k) (G__need_map_and_told : FnOk P w K mg base (L2.CX P w) l__need_map_and_told f__need_map_and_told d__need_map_and_told ["table", "k"] (spX K Ps fun E => ofF E F__need_map_and_told)) (g__need_map_and_told : mg "_need_map_and_told" = some (.ref f__need_map_and_told)) (k__need_map_and_told : PySem.W.keepIn K (.ref f__need_map_and_told) = true) (b__need_map_and_told : Binds K d__need_map_and_told ["table", "k"] [])
    {f_need_table : Addr} {d_need_table : FuncData} {l_need_table : Nat} (h_need_table : l_need_table ≤ k) (G_need_table : FnOk P w K mg base (L2.CX P w) l_need_table f_need_table d_need_table ["value", "bits"] (spX K Ps fun E => ofF E F_need_table)) (g_need_table : mg "need_table" = some (.ref f_need_table)) (k_need_table : PySem.W.keepIn K (.ref f_need_table) = true) (b_need_table : Binds K d_need_table ["value", "bits"] [])
    {f_need_fraction_between : Addr} {d_need_fraction_between : FuncData} {l_need_fraction_between : Nat} (h_need_fraction_between : l_need_fraction_between ≤ k) (G_need_fraction_between : FnOk P w K mg base (L2.CX P w) l_need_fraction_between f_need_fraction_between d_need_fraction_between ["value", "low", "high"] (spX K Ps fun E => ofF E F_need_fraction_between)) (g_need_fraction_between : mg "need_fraction_between" = some (.ref f_need_fraction_between)) (k_need_fraction_between : PySem.W.keepIn K (.ref f_need_fraction_between) = true) (b_need_fraction_between : Binds K d_need_fraction_between ["value", "low", "high"] []) : FnOk P w K mg base (L2.CX P w) (k + 1) f fd ["table", "k", "test", "e"] (spX K Ps fun E => ofF E F__need_all_for_answer) :=
  okFX (N := N__need_all_for_answer) (n := 4) (fs := fs__need_all_for_answer) F sc__need_all_for_answer rfl fun cdv A outer s H E Ed hr tk po => ⟨_, (have nd := sc__need_all_for_answer.nd
    psd_cons (psd_expr (pd_callX G__need_map_and_told tk (hr.mono (by omega)) (by rfl) g__need_map_and_told k__need_map_and_told b__need_map_and_told (pda_cons (pw_dat (pd_var (pv 0))) (pda_cons (pw_dat (pd_var (pv 1))) (pda_nil)))))
    (psd_cons (psd_expr (pd_callX G_need_table tk (hr.mono (by omega)) (by rfl) g_need_table k_need_table b_need_table (pda_cons (pw_dat (pd_var (pv 2))) (pda_cons (pw_dat (pd_var (pv 1))) (pda_nil)))))
    (psd_one (psd_expr (pd_callX G_need_fraction_between tk (hr.mono (by omega)) (by rfl) g_need_fraction_between k_need_fraction_between b_need_fraction_between (pda_cons (pw_dat (pd_var (pv 3))) (pda_cons (pw_dat (pd_c pe_int (fun _ _ => .int _))) (pda_cons (pw_dat (pd_c pe_int (fun _ _ => .int _))) (pda_nil))))))))),
    (les_seq (les_drop (le_call (le_cons (le_var) (le_cons (le_var) (le_nil)))))
    (les_seq (les_drop (le_call (le_cons (le_var) (le_cons (le_var) (le_nil)))))
    (les_drop (le_call (le_cons (le_var) (le_cons (le_c) (le_cons (le_c) (le_nil))))))))⟩
abbrev s__is_little : Stmt := topS 72
abbrev N__is_little : List PySem.Str := ["number", "k", "e"]
theorem sc__is_little : FnScope N__is_little ["number", "k", "e"] (defScope s__is_little) := ⟨rfl, rfl, rfl, by decide +kernel, rfl, by decide +kernel, by decide +kernel⟩
def fs__is_little : FS :=
  fRet (fOp (gI0 fun i j => .bool (decide (i ≤ j))) (fCall F_ordered (fCons (fCall F_amount (fCons (fVar 0) (fNil))) (fCons (fTup (fCons (fOp (gI cMul fun i j => .int (i * j)) (fVar 1) (fIx (fVarQ 2) (fC (.int 0)))) (fCons (fIx (fVarQ 2) (fC (.int 1))) (fNil)))) (fNil)))) (fC (.int 0)))
def F__is_little : FF := mkF 3 N__is_little.length fs__is_little
theorem ok__is_little {f : Addr} {fd : FuncData} {k : Nat} (F : L2.Fun K "_is_little" "_is_little" s__is_little f fd)
    {f_amount : Addr} {d_amount : FuncData} {l_amount : Nat} (h_amount : l_amount ≤ k) (G_amount : FnOk P w K mg base (L2.CX P w) l_amount f_amount d_amount ["number"] (spX K Ps fun E => ofF E F_amount)) (g_amount : mg "amount" = some (.ref f_amount)) (k_amount : PySem.W.keepIn K (.ref f_amount) = true) (b_amount : Binds K d_amount ["number"] [])
    {f_ordered : Addr} {d_ordered : FuncData} {l_ordered : Nat} (h_ordered : l_ordered ≤ k) (G_ordered : FnOk P w K mg base (L2.CX P w) l_ordered f_ordered d_ordered ["one", "other"] (spX K Ps fun E => ofF E F_ordered)) (g_ordered : mg "ordered" = some (.ref f_ordered)) (k_ordered : PySem.W.keepIn K (.ref f_ordered) = true) (b_ordered : Binds K d_ordered ["one", "other"] []) : FnOk P w K mg base (L2.CX P w) (k + 1) f fd ["number", "k", "e"] (spX K Ps fun E => ofF E F__is_little) :=
  okFX (N := N__is_little) (n := 3) (fs := fs__is_little) F sc__is_little rfl fun cdv A outer s H E Ed hr tk po => ⟨_, (have nd := sc__is_little.nd
    psd_one (psd_ret (pd_cmp op_le (op2_I0 fun _ _ _ _ => .bl _) (pd_callX G_ordered tk (hr.mono (by omega)) (by rfl) g_ordered k_ordered b_ordered (pda_cons (pw_dat (pd_callX G_amount tk (hr.mono (by omega)) (by rfl) g_amount k_amount b_amount (pda_cons (pw_dat (pd_var (pv 0))) (pda_nil)))) (pda_cons (pw_dat (pd_tup (pda_cons (pw_dat (pd_op op_mulE (op2_I fun _ _ _ _ => .int _) (pd_var (pv 1)) (pd_ix (pq_var (pv 2)) (pd_c pe_int (fun _ _ => .int _)) (fun _ _ => rfl)))) (pda_cons (pw_dat (pd_ix (pq_var (pv 2)) (pd_c pe_int (fun _ _ => .int _)) (fun _ _ => rfl))) (pda_nil))))) (pda_nil)))) (pd_c pe_int (fun _ _ => .int _)) (nomark _)))),
    (les_ret (le_op (leop_I0) (le_call (le_cons (le_call (le_cons (le_var) (le_nil))) (le_cons (le_tup (le_cons (le_op (leop_I cMul_ok) (le_var) (le_ix (le_varQ) (le_c))) (le_cons (le_ix (le_varQ) (le_c)) (le_nil)))) (le_nil)))) (le_c)))⟩
abbrev s__first_step : Stmt := topS 73
abbrev N__first_step : List PySem.Str := ["table", "k", "test", "e", "length", "number", "first"]
theorem sc__first_step : FnScope N__first_step ["table", "k", "test", "e"] (defScope s__first_step) := ⟨rfl, rfl, rfl, by decide +kernel, rfl, by decide +kernel, by decide +kernel⟩
def fs__first_step : FS :=
  fSeq (fFor (fRange1 (fCons (fVar 1) (fNil))) (fgSet 4) (fFor (fRange1 (fCons (fOp (gI cShl fun i j => .int (i * 2 ^ j.toNat)) (fC (.int 1)) (fVar 4)) (fNil))) (fgSet 5) (fSeq (fSet 6 (fCall F_spelled (fCons (fVar 5) (fCons (fVar 4) (fNil)))))
    (fIf (fTru (fCall F__is_step (fCons (fVar 0) (fCons (fVar 1) (fCons (fVar 2) (fCons (fVar 3) (fCons (fVar 6) (fNil)))))))) (fRet (fVar 6)) (fNext)))))
    (fRet (fC .none))
def F__first_step : FF := mkF 4 N__first_step.length fs__first_step
theorem ok__first_step {f : Addr} {fd : FuncData} {k : Nat} (F : L2.Fun K "_first_step" "_first_step" s__first_step f fd)
    (z_range : mg "range" = none)
    {f_spelled : Addr} {d_spelled : FuncData} {l_spelled : Nat} (h_spelled : l_spelled ≤ k) (G_spelled : FnOk P w K mg base (L2.CX P w) l_spelled f_spelled d_spelled ["number", "length"] (spX K Ps fun E => ofF E F_spelled)) (g_spelled : mg "spelled" = some (.ref f_spelled)) (k_spelled : PySem.W.keepIn K (.ref f_spelled) = true) (b_spelled : Binds K d_spelled ["number", "length"] [])
    {f__is_step : Addr} {d__is_step : FuncData} {l__is_step : Nat} (h__is_step : l__is_step ≤ k) (G__is_step : FnOk P w K mg base (L2.CX P w) l__is_step f__is_step d__is_step ["table", "k", "test", "e", "first"] (spX K Ps fun E => ofF E F__is_step)) (g__is_step : mg "_is_step" = some (.ref f__is_step)) (k__is_step : PySem.W.keepIn K (.ref f__is_step) = true) (b__is_step : Binds K d__is_step ["table", "k", "test", "e", "first"] []) : FnOk P w K mg base (L2.CX P w) (k + 1) f fd ["table", "k", "test", "e"] (spX K Ps fun E => ofF E F__first_step) :=
  okFX (N := N__first_step) (n := 4) (fs := fs__first_step) F sc__first_step rfl fun cdv A outer s H E Ed hr tk po => ⟨_, (have nd := sc__first_step.nd
    psd_cons (psd_for po rfl (pid_range1 (by rfl) z_range (pda_cons (pw_dat (pd_var (pv 1))) (pda_nil))) (pgd_name (pg_name (i := 4) nd rfl (by first | exact Or.inl rfl | exact Or.inr rfl))) (psd_one (psd_for po rfl (pid_range1 (by rfl) z_range (pda_cons (pw_dat (pd_op op_shlW (op2_I fun _ _ _ _ => .int _) (pd_c pe_int (fun _ _ => .int _)) (pd_var (pv 4)))) (pda_nil))) (pgd_name (pg_name (i := 5) nd rfl (by first | exact Or.inl rfl | exact Or.inr rfl))) (psd_cons (psd_set (i := 6) nd rfl (by first | exact Or.inl rfl | exact Or.inr rfl) (pd_callX G_spelled tk (hr.mono (by omega)) (by rfl) g_spelled k_spelled b_spelled (pda_cons (pw_dat (pd_var (pv 5))) (pda_cons (pw_dat (pd_var (pv 4))) (pda_nil)))))
    (psd_one (psd_if (ptd_tru (pd_callX G__is_step tk (hr.mono (by omega)) (by rfl) g__is_step k__is_step b__is_step (pda_cons (pw_dat (pd_var (pv 0))) (pda_cons (pw_dat (pd_var (pv 1))) (pda_cons (pw_dat (pd_var (pv 2))) (pda_cons (pw_dat (pd_var (pv 3))) (pda_cons (pw_dat (pd_var (pv 6))) (pda_nil)))))))) (psd_one (psd_ret (pd_var (pv 6)))) (psd_nil)))))))
    (psd_one (psd_ret (pd_c pe_non (fun _ _ => .non))))),
    (les_seq (les_for (le_range1 (le_cons (le_var) (le_nil))) (le_gSet) (les_for (le_range1 (le_cons (le_op (leop_I cShl_ok) (le_c) (le_var)) (le_nil))) (le_gSet) (les_seq (les_set (le_call (le_cons (le_var) (le_cons (le_var) (le_nil)))))
    (les_if (le_tru (le_call (le_cons (le_var) (le_cons (le_var) (le_cons (le_var) (le_cons (le_var) (le_cons (le_var) (le_nil)))))))) (les_ret (le_var)) (les_next)))))
    (les_ret (le_c)))⟩
abbrev s_long_answer : Stmt := topS 74
abbrev N_long_answer : List PySem.Str := ["table", "k", "test", "e", "found"]
theorem sc_long_answer : FnScope N_long_answer ["table", "k", "test", "e"] (defScope s_long_answer) := ⟨rfl, rfl, rfl, by decide +kernel, rfl, by decide +kernel, by decide +kernel⟩
def fs_long_answer : FS :=
  fSeq (fDrop (fCall F__need_all_for_answer (fCons (fVar 0) (fCons (fVar 1) (fCons (fVar 2) (fCons (fVar 3) (fNil)))))))
    (fSeq (fSet 4 (fCall F__long_excess (fCons (fVar 0) (fCons (fVar 1) (fCons (fVar 2) (fNil))))))
    (fSeq (fIf (fTru (fCall F__is_little (fCons (fVar 4) (fCons (fVar 1) (fCons (fVar 3) (fNil)))))) (fRet (fTup (fCons (fC (.str (PySem.Str.ofString "within"))) (fCons (fVar 4) (fNil))))) (fNext))
    (fRet (fTup (fCons (fC (.str (PySem.Str.ofString "step"))) (fCons (fCall F__first_step (fCons (fVar 0) (fCons (fVar 1) (fCons (fVar 2) (fCons (fVar 3) (fNil)))))) (fNil)))))))
def F_long_answer : FF := mkF 4 N_long_answer.length fs_long_answer
theorem ok_long_answer {f : Addr} {fd : FuncData} {k : Nat} (F : L2.Fun K "long_answer" "long_answer" s_long_answer f fd)
    {f__need_all_for_answer : Addr} {d__need_all_for_answer : FuncData} {l__need_all_for_answer : Nat} (h__need_all_for_answer : l__need_all_for_answer ≤ k) (G__need_all_for_answer : FnOk P w K mg base (L2.CX P w) l__need_all_for_answer f__need_all_for_answer d__need_all_for_answer ["table", "k", "test", "e"] (spX K Ps fun E => ofF E F__need_all_for_answer)) (g__need_all_for_answer : mg "_need_all_for_answer" = some (.ref f__need_all_for_answer)) (k__need_all_for_answer : PySem.W.keepIn K (.ref f__need_all_for_answer) = true) (b__need_all_for_answer : Binds K d__need_all_for_answer ["table", "k", "test", "e"] [])
    {f__long_excess : Addr} {d__long_excess : FuncData} {l__long_excess : Nat} (h__long_excess : l__long_excess ≤ k) (G__long_excess : FnOk P w K mg base (L2.CX P w) l__long_excess f__long_excess d__long_excess ["table", "k", "test"] (spX K Ps fun E => ofF E F__long_excess)) (g__long_excess : mg "_long_excess" = some (.ref f__long_excess)) (k__long_excess : PySem.W.keepIn K (.ref f__long_excess) = true) (b__long_excess : Binds K d__long_excess ["table", "k", "test"] [])
    {f__is_little : Addr} {d__is_little : FuncData} {l__is_little : Nat} (h__is_little : l__is_little ≤ k) (G__is_little : FnOk P w K mg base (L2.CX P w) l__is_little f__is_little d__is_little ["number", "k", "e"] (spX K Ps fun E => ofF E F__is_little)) (g__is_little : mg "_is_little" = some (.ref f__is_little)) (k__is_little : PySem.W.keepIn K (.ref f__is_little) = true) (b__is_little : Binds K d__is_little ["number", "k", "e"] [])
    {f__first_step : Addr} {d__first_step : FuncData} {l__first_step : Nat} (h__first_step : l__first_step ≤ k) (G__first_step : FnOk P w K mg base (L2.CX P w) l__first_step f__first_step d__first_step ["table", "k", "test", "e"] (spX K Ps fun E => ofF E F__first_step)) (g__first_step : mg "_first_step" = some (.ref f__first_step)) (k__first_step : PySem.W.keepIn K (.ref f__first_step) = true) (b__first_step : Binds K d__first_step ["table", "k", "test", "e"] []) : FnOk P w K mg base (L2.CX P w) (k + 1) f fd ["table", "k", "test", "e"] (spX K Ps fun E => ofF E F_long_answer) :=
  okFX (N := N_long_answer) (n := 4) (fs := fs_long_answer) F sc_long_answer rfl fun cdv A outer s H E Ed hr tk po => ⟨_, (have nd := sc_long_answer.nd
    psd_cons (psd_expr (pd_callX G__need_all_for_answer tk (hr.mono (by omega)) (by rfl) g__need_all_for_answer k__need_all_for_answer b__need_all_for_answer (pda_cons (pw_dat (pd_var (pv 0))) (pda_cons (pw_dat (pd_var (pv 1))) (pda_cons (pw_dat (pd_var (pv 2))) (pda_cons (pw_dat (pd_var (pv 3))) (pda_nil)))))))
    (psd_cons (psd_set (i := 4) nd rfl (by first | exact Or.inl rfl | exact Or.inr rfl) (pd_callX G__long_excess tk (hr.mono (by omega)) (by rfl) g__long_excess k__long_excess b__long_excess (pda_cons (pw_dat (pd_var (pv 0))) (pda_cons (pw_dat (pd_var (pv 1))) (pda_cons (pw_dat (pd_var (pv 2))) (pda_nil))))))
    (psd_cons (psd_if (ptd_tru (pd_callX G__is_little tk (hr.mono (by omega)) (by rfl) g__is_little k__is_little b__is_little (pda_cons (pw_dat (pd_var (pv 4))) (pda_cons (pw_dat (pd_var (pv 1))) (pda_cons (pw_dat (pd_var (pv 3))) (pda_nil)))))) (psd_one (psd_ret (pd_tup (pda_cons (pw_dat (pd_c pe_str (fun _ _ => .str _))) (pda_cons (pw_dat (pd_var (pv 4))) (pda_nil)))))) (psd_nil))
    (psd_one (psd_ret (pd_tup (pda_cons (pw_dat (pd_c pe_str (fun _ _ => .str _))) (pda_cons (pw_dat (pd_callX G__first_step tk (hr.mono (by omega)) (by rfl) g__first_step k__first_step b__first_step (pda_cons (pw_dat (pd_var (pv 0))) (pda_cons (pw_dat (pd_var (pv 1))) (pda_cons (pw_dat (pd_var (pv 2))) (pda_cons (pw_dat (pd_var (pv 3))) (pda_nil))))))) (pda_nil))))))))),
    (les_seq (les_drop (le_call (le_cons (le_var) (le_cons (le_var) (le_cons (le_var) (le_cons (le_var) (le_nil)))))))
    (les_seq (les_set (le_call (le_cons (le_var) (le_cons (le_var) (le_cons (le_var) (le_nil))))))
    (les_seq (les_if (le_tru (le_call (le_cons (le_var) (le_cons (le_var) (le_cons (le_var) (le_nil)))))) (les_ret (le_tup (le_cons (le_c) (le_cons (le_var) (le_nil))))) (les_next))
    (les_ret (le_tup (le_cons (le_c) (le_cons (le_call (le_cons (le_var) (le_cons (le_var) (le_cons (le_var) (le_cons (le_var) (le_nil)))))) (le_nil))))))))⟩
abbrev s_is_long_answer : Stmt := topS 75
abbrev N_is_long_answer : List PySem.Str := ["table", "k", "test", "e", "value", "found"]
theorem sc_is_long_answer : FnScope N_is_long_answer ["table", "k", "test", "e", "value"] (defScope s_is_long_answer) := ⟨rfl, rfl, rfl, by decide +kernel, rfl, by decide +kernel, by decide +kernel⟩
def fs_is_long_answer : FS :=
  fSeq (fDrop (fCall F__need_all_for_answer (fCons (fVar 0) (fCons (fVar 1) (fCons (fVar 2) (fCons (fVar 3) (fNil)))))))
    (fSeq (fIf (fTru (fCall F_is_answer (fCons (fVar 4) (fCons (fC (.str (PySem.Str.ofString "within"))) (fCons (fC (.int 2)) (fNil)))))) (fSeq (fSet 5 (fCall F__long_excess (fCons (fVar 0) (fCons (fVar 1) (fCons (fVar 2) (fNil))))))
    (fRet (fAndV (fCall F_is_lowest_pair (fCons (fIx (fVarQ 4) (fC (.int 1))) (fNil))) (fAndV (fOp (gEq false) (fIx (fVarQ 4) (fC (.int 1))) (fVar 5)) (fCall F__is_little (fCons (fVar 5) (fCons (fVar 1) (fCons (fVar 3) (fNil))))))))) (fNext))
    (fSeq (fIf (fTru (fCall F_is_answer (fCons (fVar 4) (fCons (fC (.str (PySem.Str.ofString "step"))) (fCons (fC (.int 2)) (fNil)))))) (fRet (fAndV (fCall F__is_first (fCons (fIx (fVarQ 4) (fC (.int 1))) (fCons (fVar 1) (fNil)))) (fCall F__is_step (fCons (fVar 0) (fCons (fVar 1) (fCons (fVar 2) (fCons (fVar 3) (fCons (fIx (fVarQ 4) (fC (.int 1))) (fNil))))))))) (fNext))
    (fRet (fC (.bool false)))))
def F_is_long_answer : FF := mkF 5 N_is_long_answer.length fs_is_long_answer
theorem ok_is_long_answer {f : Addr} {fd : FuncData} {k : Nat} (F : L2.Fun K "is_long_answer" "is_long_answer" s_is_long_answer f fd)
    {f__need_all_for_answer : Addr} {d__need_all_for_answer : FuncData} {l__need_all_for_answer : Nat} (h__need_all_for_answer : l__need_all_for_answer ≤ k) (G__need_all_for_answer : FnOk P w K mg base (L2.CX P w) l__need_all_for_answer f__need_all_for_answer d__need_all_for_answer ["table", "k", "test", "e"] (spX K Ps fun E => ofF E F__need_all_for_answer)) (g__need_all_for_answer : mg "_need_all_for_answer" = some (.ref f__need_all_for_answer)) (k__need_all_for_answer : PySem.W.keepIn K (.ref f__need_all_for_answer) = true) (b__need_all_for_answer : Binds K d__need_all_for_answer ["table", "k", "test", "e"] [])
    {f_is_answer : Addr} {d_is_answer : FuncData} {l_is_answer : Nat} (h_is_answer : l_is_answer ≤ k) (G_is_answer : FnOk P w K mg base (L2.CX P w) l_is_answer f_is_answer d_is_answer ["value", "word", "length"] (spX K Ps fun E => ofF E F_is_answer)) (g_is_answer : mg "is_answer" = some (.ref f_is_answer)) (k_is_answer : PySem.W.keepIn K (.ref f_is_answer) = true) (b_is_answer : Binds K d_is_answer ["value", "word", "length"] [])
    {f__long_excess : Addr} {d__long_excess : FuncData} {l__long_excess : Nat} (h__long_excess : l__long_excess ≤ k) (G__long_excess : FnOk P w K mg base (L2.CX P w) l__long_excess f__long_excess d__long_excess ["table", "k", "test"] (spX K Ps fun E => ofF E F__long_excess)) (g__long_excess : mg "_long_excess" = some (.ref f__long_excess)) (k__long_excess : PySem.W.keepIn K (.ref f__long_excess) = true) (b__long_excess : Binds K d__long_excess ["table", "k", "test"] [])
    {f_is_lowest_pair : Addr} {d_is_lowest_pair : FuncData} {l_is_lowest_pair : Nat} (h_is_lowest_pair : l_is_lowest_pair ≤ k) (G_is_lowest_pair : FnOk P w K mg base (L2.CX P w) l_is_lowest_pair f_is_lowest_pair d_is_lowest_pair ["value"] (spX K Ps fun E => ofF E F_is_lowest_pair)) (g_is_lowest_pair : mg "is_lowest_pair" = some (.ref f_is_lowest_pair)) (k_is_lowest_pair : PySem.W.keepIn K (.ref f_is_lowest_pair) = true) (b_is_lowest_pair : Binds K d_is_lowest_pair ["value"] [])
    {f__is_little : Addr} {d__is_little : FuncData} {l__is_little : Nat} (h__is_little : l__is_little ≤ k) (G__is_little : FnOk P w K mg base (L2.CX P w) l__is_little f__is_little d__is_little ["number", "k", "e"] (spX K Ps fun E => ofF E F__is_little)) (g__is_little : mg "_is_little" = some (.ref f__is_little)) (k__is_little : PySem.W.keepIn K (.ref f__is_little) = true) (b__is_little : Binds K d__is_little ["number", "k", "e"] [])
    {f__is_first : Addr} {d__is_first : FuncData} {l__is_first : Nat} (h__is_first : l__is_first ≤ k) (G__is_first : FnOk P w K mg base (L2.CX P w) l__is_first f__is_first d__is_first ["value", "k"] (spX K Ps fun E => ofF E F__is_first)) (g__is_first : mg "_is_first" = some (.ref f__is_first)) (k__is_first : PySem.W.keepIn K (.ref f__is_first) = true) (b__is_first : Binds K d__is_first ["value", "k"] [])
    {f__is_step : Addr} {d__is_step : FuncData} {l__is_step : Nat} (h__is_step : l__is_step ≤ k) (G__is_step : FnOk P w K mg base (L2.CX P w) l__is_step f__is_step d__is_step ["table", "k", "test", "e", "first"] (spX K Ps fun E => ofF E F__is_step)) (g__is_step : mg "_is_step" = some (.ref f__is_step)) (k__is_step : PySem.W.keepIn K (.ref f__is_step) = true) (b__is_step : Binds K d__is_step ["table", "k", "test", "e", "first"] []) : FnOk P w K mg base (L2.CX P w) (k + 1) f fd ["table", "k", "test", "e", "value"] (spX K Ps fun E => ofF E F_is_long_answer) :=
  okFX (N := N_is_long_answer) (n := 5) (fs := fs_is_long_answer) F sc_is_long_answer rfl fun cdv A outer s H E Ed hr tk po => ⟨_, (have nd := sc_is_long_answer.nd
    psd_cons (psd_expr (pd_callX G__need_all_for_answer tk (hr.mono (by omega)) (by rfl) g__need_all_for_answer k__need_all_for_answer b__need_all_for_answer (pda_cons (pw_dat (pd_var (pv 0))) (pda_cons (pw_dat (pd_var (pv 1))) (pda_cons (pw_dat (pd_var (pv 2))) (pda_cons (pw_dat (pd_var (pv 3))) (pda_nil)))))))
    (psd_cons (psd_if (ptd_tru (pd_callX G_is_answer tk (hr.mono (by omega)) (by rfl) g_is_answer k_is_answer b_is_answer (pda_cons (pw_dat (pd_var (pv 4))) (pda_cons (pw_dat (pd_c pe_str (fun _ _ => .str _))) (pda_cons (pw_dat (pd_c pe_int (fun _ _ => .int _))) (pda_nil)))))) (psd_cons (psd_set (i := 5) nd rfl (by first | exact Or.inl rfl | exact Or.inr rfl) (pd_callX G__long_excess tk (hr.mono (by omega)) (by rfl) g__long_excess k__long_excess b__long_excess (pda_cons (pw_dat (pd_var (pv 0))) (pda_cons (pw_dat (pd_var (pv 1))) (pda_cons (pw_dat (pd_var (pv 2))) (pda_nil))))))
    (psd_one (psd_ret (pd_and (pd_callX G_is_lowest_pair tk (hr.mono (by omega)) (by rfl) g_is_lowest_pair k_is_lowest_pair b_is_lowest_pair (pda_cons (pw_dat (pd_ix (pq_var (pv 4)) (pd_c pe_int (fun _ _ => .int _)) (fun _ _ => rfl))) (pda_nil))) (pd_and (pd_cmp (op_eqD hr.units) (op2_eq) (pd_ix (pq_var (pv 4)) (pd_c pe_int (fun _ _ => .int _)) (fun _ _ => rfl)) (pd_var (pv 5)) (nomark _)) (pe_one (pd_callX G__is_little tk (hr.mono (by omega)) (by rfl) g__is_little k__is_little b__is_little (pda_cons (pw_dat (pd_var (pv 5))) (pda_cons (pw_dat (pd_var (pv 1))) (pda_cons (pw_dat (pd_var (pv 3))) (pda_nil))))))))))) (psd_nil))
    (psd_cons (psd_if (ptd_tru (pd_callX G_is_answer tk (hr.mono (by omega)) (by rfl) g_is_answer k_is_answer b_is_answer (pda_cons (pw_dat (pd_var (pv 4))) (pda_cons (pw_dat (pd_c pe_str (fun _ _ => .str _))) (pda_cons (pw_dat (pd_c pe_int (fun _ _ => .int _))) (pda_nil)))))) (psd_one (psd_ret (pd_and (pd_callX G__is_first tk (hr.mono (by omega)) (by rfl) g__is_first k__is_first b__is_first (pda_cons (pw_dat (pd_ix (pq_var (pv 4)) (pd_c pe_int (fun _ _ => .int _)) (fun _ _ => rfl))) (pda_cons (pw_dat (pd_var (pv 1))) (pda_nil)))) (pe_one (pd_callX G__is_step tk (hr.mono (by omega)) (by rfl) g__is_step k__is_step b__is_step (pda_cons (pw_dat (pd_var (pv 0))) (pda_cons (pw_dat (pd_var (pv 1))) (pda_cons (pw_dat (pd_var (pv 2))) (pda_cons (pw_dat (pd_var (pv 3))) (pda_cons (pw_dat (pd_ix (pq_var (pv 4)) (pd_c pe_int (fun _ _ => .int _)) (fun _ _ => rfl))) (pda_nil))))))))))) (psd_nil))
    (psd_one (psd_ret (pd_c pe_bl (fun _ _ => .bl _))))))),
    (les_seq (les_drop (le_call (le_cons (le_var) (le_cons (le_var) (le_cons (le_var) (le_cons (le_var) (le_nil)))))))
    (les_seq (les_if (le_tru (le_call (le_cons (le_var) (le_cons (le_c) (le_cons (le_c) (le_nil)))))) (les_seq (les_set (le_call (le_cons (le_var) (le_cons (le_var) (le_cons (le_var) (le_nil))))))
    (les_ret (le_andV (le_call (le_cons (le_ix (le_varQ) (le_c)) (le_nil))) (le_andV (le_op (leop_eq) (le_ix (le_varQ) (le_c)) (le_var)) (le_call (le_cons (le_var) (le_cons (le_var) (le_cons (le_var) (le_nil))))))))) (les_next))
    (les_seq (les_if (le_tru (le_call (le_cons (le_var) (le_cons (le_c) (le_cons (le_c) (le_nil)))))) (les_ret (le_andV (le_call (le_cons (le_ix (le_varQ) (le_c)) (le_cons (le_var) (le_nil)))) (le_call (le_cons (le_var) (le_cons (le_var) (le_cons (le_var) (le_cons (le_var) (le_cons (le_ix (le_varQ) (le_c)) (le_nil))))))))) (les_next))
    (les_ret (le_c)))))⟩
abbrev s__need_turn : Stmt := topS 76
abbrev N__need_turn : List PySem.Str := ["turn", "most", "length"]
theorem sc__need_turn : FnScope N__need_turn ["turn", "most"] (defScope s__need_turn) := ⟨rfl, rfl, rfl, by decide +kernel, rfl, by decide +kernel, by decide +kernel⟩
def fs__need_turn : FS :=
  fSeq (fSet 2 (fCall F__log_within (fCons (fVar 0) (fCons (fVar 1) (fNil)))))
    (fSeq (fIf (fOr (fTest (fOp (gIs false) (fVar 2) (fC .none))) (fNot (fTru (fCall F_is_places (fCons (fVar 0) (fCons (fOpQ gLen (fVarQ 0)) (fCons (fOpQ gLen (fVarQ 0)) (fNil)))))))) (fRaise ⟨"InvalidMaps", none⟩) (fNext))
    (fRet (fVar 2)))
def F__need_turn : FF := mkF 2 N__need_turn.length fs__need_turn
theorem ok__need_turn {f : Addr} {fd : FuncData} {k : Nat} (F : L2.Fun K "_need_turn" "_need_turn" s__need_turn f fd)
    (z_len : mg "len" = none)
    {c_InvalidMaps : Addr} (e_InvalidMaps : ClsP K mg "InvalidMaps" c_InvalidMaps)
    {f__log_within : Addr} {d__log_within : FuncData} {l__log_within : Nat} (h__log_within : l__log_within ≤ k) (G__log_within : FnOk P w K mg base (L2.CX P w) l__log_within f__log_within d__log_within ["value", "most"] (spX K Ps fun E => ofF E F__log_within)) (g__log_within : mg "_log_within" = some (.ref f__log_within)) (k__log_within : PySem.W.keepIn K (.ref f__log_within) = true) (b__log_within : Binds K d__log_within ["value", "most"] [])
    {f_is_places : Addr} {d_is_places : FuncData} {l_is_places : Nat} (h_is_places : l_is_places ≤ k) (G_is_places : FnOk P w K mg base (L2.CX P w) l_is_places f_is_places d_is_places ["value", "length", "limit"] (spX K Ps fun E => ofF E F_is_places)) (g_is_places : mg "is_places" = some (.ref f_is_places)) (k_is_places : PySem.W.keepIn K (.ref f_is_places) = true) (b_is_places : Binds K d_is_places ["value", "length", "limit"] []) : FnOk P w K mg base (L2.CX P w) (k + 1) f fd ["turn", "most"] (spX K Ps fun E => ofF E F__need_turn) :=
  okFX (N := N__need_turn) (n := 2) (fs := fs__need_turn) F sc__need_turn rfl fun cdv A outer s H E Ed hr tk po => ⟨_, (have nd := sc__need_turn.nd
    psd_cons (psd_set (i := 2) nd rfl (by first | exact Or.inl rfl | exact Or.inr rfl) (pd_callX G__log_within tk (hr.mono (by omega)) (by rfl) g__log_within k__log_within b__log_within (pda_cons (pw_dat (pd_var (pv 0))) (pda_cons (pw_dat (pd_var (pv 1))) (pda_nil)))))
    (psd_cons (psd_if (PW.pt (pwd_or (pt_d_cmp op_isN (op2_is) (pd_var (pv 2)) (pd_c pe_non (fun _ _ => .non)) (nomark _)) (pwd_or1 (ptd_not (ptd_tru (pd_callX G_is_places tk (hr.mono (by omega)) (by rfl) g_is_places k_is_places b_is_places (pda_cons (pw_dat (pd_var (pv 0))) (pda_cons (pw_dat (pd_len (by rfl) z_len (pq_var (pv 0)))) (pda_cons (pw_dat (pd_len (by rfl) z_len (pq_var (pv 0)))) (pda_nil)))))))))) (psd_one (psd_raiseP e_InvalidMaps tk rfl (by rfl))) (psd_nil))
    (psd_one (psd_ret (pd_var (pv 2)))))),
    (les_seq (les_set (le_call (le_cons (le_var) (le_cons (le_var) (le_nil)))))
    (les_seq (les_if (le_orT (le_test (le_op (leop_is) (le_var) (le_c))) (le_notT (le_tru (le_call (le_cons (le_var) (le_cons (le_opQ leq_len (le_varQ)) (le_cons (le_opQ leq_len (le_varQ)) (le_nil)))))))) (les_raiseX) (les_next))
    (les_ret (le_var))))⟩
abbrev s_bit_map : Stmt := topS 77
abbrev N_bit_map : List PySem.Str := ["turn", "truth", "length", "goal", "sign"]
theorem sc_bit_map : FnScope N_bit_map ["turn", "truth"] (defScope s_bit_map) := ⟨rfl, rfl, rfl, by decide +kernel, rfl, by decide +kernel, by decide +kernel⟩
def fs_bit_map : FS :=
  fSeq (fSet 2 (fCall F__need_turn (fCons (fVar 0) (fCons (fC (.int 6)) (fNil)))))
    (fSeq (fIf (fNot (fTru (fCall F_is_signs (fCons (fVar 1) (fCons (fOpQ gLen (fVarQ 0)) (fNil)))))) (fRaise ⟨"InvalidTruth", none⟩) (fNext))
    (fRet (fOpQ gTuple (fSeqE (fL (fLc (fZip4 (fCons (fVar 0) (fCons (fVar 1) (fNil)))) (fgSeq 2 (fgsCons (fgSet 3) (fgsCons (fgSet 4) (fgsNil)))) (fYes) (fOp (gCatT) (fCall0 F_spelled (fCons (fVar 3) (fCons (fVar 2) (fNil)))) (fTup (fCons (fCall0 F_bit_of (fCons (fVar 4) (fNil))) (fNil)))) [3, 4]))))))
def F_bit_map : FF := mkF 2 N_bit_map.length fs_bit_map
theorem ok_bit_map {f : Addr} {fd : FuncData} {k : Nat} (F : L2.Fun K "bit_map" "bit_map" s_bit_map f fd)
    {tk__MOST_SEED : Tok} (c__MOST_SEED : mg "_MOST_SEED" = some (.int 6 tk__MOST_SEED))
    (z_len : mg "len" = none)
    (z_zip : mg "zip" = none)
    (z_tuple : mg "tuple" = none)
    {c_InvalidTruth : Addr} (e_InvalidTruth : ClsP K mg "InvalidTruth" c_InvalidTruth)
    {f__need_turn : Addr} {d__need_turn : FuncData} {l__need_turn : Nat} (h__need_turn : l__need_turn ≤ k) (G__need_turn : FnOk P w K mg base (L2.CX P w) l__need_turn f__need_turn d__need_turn ["turn", "most"] (spX K Ps fun E => ofF E F__need_turn)) (g__need_turn : mg "_need_turn" = some (.ref f__need_turn)) (k__need_turn : PySem.W.keepIn K (.ref f__need_turn) = true) (b__need_turn : Binds K d__need_turn ["turn", "most"] [])
    {f_is_signs : Addr} {d_is_signs : FuncData} {l_is_signs : Nat} (h_is_signs : l_is_signs ≤ k) (G_is_signs : FnOk P w K mg base (L2.CX P w) l_is_signs f_is_signs d_is_signs ["value", "length"] (spX K Ps fun E => ofF E F_is_signs)) (g_is_signs : mg "is_signs" = some (.ref f_is_signs)) (k_is_signs : PySem.W.keepIn K (.ref f_is_signs) = true) (b_is_signs : Binds K d_is_signs ["value", "length"] [])
    {f_spelled : Addr} {d_spelled : FuncData} {l_spelled : Nat} (h_spelled : l_spelled ≤ k) (G_spelled : FnOk P w K mg base (L2.CX P w) l_spelled f_spelled d_spelled ["number", "length"] (spX K Ps fun E => ofF E F_spelled)) (g_spelled : mg "spelled" = some (.ref f_spelled)) (k_spelled : PySem.W.keepIn K (.ref f_spelled) = true) (b_spelled : Binds K d_spelled ["number", "length"] [])
    {f_bit_of : Addr} {d_bit_of : FuncData} {l_bit_of : Nat} (h_bit_of : l_bit_of ≤ k) (G_bit_of : FnOk P w K mg base (L2.CX P w) l_bit_of f_bit_of d_bit_of ["sign"] (spX K Ps fun E => ofF E F_bit_of)) (g_bit_of : mg "bit_of" = some (.ref f_bit_of)) (k_bit_of : PySem.W.keepIn K (.ref f_bit_of) = true) (b_bit_of : Binds K d_bit_of ["sign"] []) : FnOk P w K mg base (L2.CX P w) (k + 1) f fd ["turn", "truth"] (spX K Ps fun E => ofF E F_bit_map) :=
  okFX (N := N_bit_map) (n := 2) (fs := fs_bit_map) F sc_bit_map rfl fun cdv A outer s H E Ed hr tk po => ⟨_, (have nd := sc_bit_map.nd
    psd_cons (psd_set (i := 2) nd rfl (by first | exact Or.inl rfl | exact Or.inr rfl) (pd_callX G__need_turn tk (hr.mono (by omega)) (by rfl) g__need_turn k__need_turn b__need_turn (pda_cons (pw_dat (pd_var (pv 0))) (pda_cons (pw_dat (pd_c (pe_glob (v := V.int 6) (by rfl) c__MOST_SEED ⟨_, rfl⟩) (fun _ _ => .int _))) (pda_nil)))))
    (psd_cons (psd_if (ptd_not (ptd_tru (pd_callX G_is_signs tk (hr.mono (by omega)) (by rfl) g_is_signs k_is_signs b_is_signs (pda_cons (pw_dat (pd_var (pv 1))) (pda_cons (pw_dat (pd_len (by rfl) z_len (pq_var (pv 0)))) (pda_nil)))))) (psd_one (psd_raiseP e_InvalidTruth tk rfl (by rfl))) (psd_nil))
    (psd_one (psd_ret (pd_tuple (by rfl) z_tuple Dl.b_tuple (pq_dat (pd_new (pn_lc (own := [("goal", 3), ("sign", 4)]) rfl nd (pid_zip4 (by rfl) z_zip (pda_cons (pw_dat (pd_var (pv 0))) (pda_cons (pw_dat (pd_var (pv 1))) (pda_nil)))) (blkOk_by (N := N_bit_map) (sc := defScope s_bit_map) (by decide +kernel)) (fun _ _ _ _ _ => pgd_seq rfl (pgsd_cons (pgd_name (pg_name (i := 3) nd rfl (by first | exact Or.inl rfl | exact Or.inr rfl))) (pgsd_cons (pgd_name (pg_name (i := 4) nd rfl (by first | exact Or.inl rfl | exact Or.inr rfl))) (pgsd_nil)))) (fun _ _ _ _ _ => ptsd_nil) (fun _ _ _ _ _ => pd_op op_catA (op2_catT) (pd_call (fnX0 G_spelled) (hr.mono (by omega)) (by rfl) g_spelled k_spelled b_spelled (pda_cons (pw_dat (pd_var (pv 3))) (pda_cons (pw_dat (pd_var (pv 2))) (pda_nil)))) (pd_tup (pda_cons (pw_dat (pd_call (fnX0 G_bit_of) (hr.mono (by omega)) (by rfl) g_bit_of k_bit_of b_bit_of (pda_cons (pw_dat (pd_var (pv 4))) (pda_nil)))) (pda_nil)))))))))))),
    (les_seq (les_set (le_call (le_cons (le_var) (le_cons (le_c) (le_nil)))))
    (les_seq (les_if (le_notT (le_tru (le_call (le_cons (le_var) (le_cons (le_opQ leq_len (le_varQ)) (le_nil)))))) (les_raiseX) (les_next))
    (les_ret (le_opQ leq_tuple (le_seqE (le_L (le_lc (le_zip4 (le_cons (le_var) (le_cons (le_var) (le_nil)))) (le_gSeq (le_gsCons (le_gSet) (le_gsCons (le_gSet) (le_gsNil)))) (le_yes) (le_op (leop_catT) (le_call0 (le_cons (le_var) (le_cons (le_var) (le_nil)))) (le_tup (le_cons (le_call0 (le_cons (le_var) (le_nil))) (le_nil)))))))))))⟩
abbrev s__guesses : Stmt := topS 78
abbrev N__guesses : List PySem.Str := ["test", "half", "zero", "one"]
theorem sc__guesses : FnScope N__guesses ["test"] (defScope s__guesses) := ⟨rfl, rfl, rfl, by decide +kernel, rfl, by decide +kernel, by decide +kernel⟩
def fs__guesses : FS :=
  fSeq (fSet 1 (fOp (gI cDiv fun i j => .int (i / j)) (fOpQ gLen (fVarQ 0)) (fC (.int 2))))
    (fRet (fOpQ gTuple (fSeqE (fL (fLc (fZip4 (fCons (fSl (fVarQ 0) (foNone) (foSome (fVar 1))) (fCons (fSl (fVarQ 0) (foSome (fVar 1)) (foNone)) (fNil)))) (fgSeq 2 (fgsCons (fgSet 2) (fgsCons (fgSet 3) (fgsNil)))) (fYes) (fOp (gI0 fun i j => .int (i - j)) (fVar 2) (fVar 3)) [2, 3])))))
def F__guesses : FF := mkF 1 N__guesses.length fs__guesses
theorem ok__guesses {f : Addr} {fd : FuncData} {k : Nat} (F : L2.Fun K "_guesses" "_guesses" s__guesses f fd)
    (z_len : mg "len" = none)
    (z_zip : mg "zip" = none)
    (z_tuple : mg "tuple" = none) : FnOk P w K mg base (L2.CX P w) (k + 1) f fd ["test"] (spX K Ps fun E => ofF E F__guesses) :=
  okFX (N := N__guesses) (n := 1) (fs := fs__guesses) F sc__guesses rfl fun cdv A outer s H E Ed hr tk po => ⟨_, (have nd := sc__guesses.nd
    psd_cons (psd_set (i := 1) nd rfl (by first | exact Or.inl rfl | exact Or.inr rfl) (pd_op op_fdivW (op2_I fun _ _ _ _ => .int _) (pd_len (by rfl) z_len (pq_var (pv 0))) (pd_c pe_int (fun _ _ => .int _))))
    (psd_one (psd_ret (pd_tuple (by rfl) z_tuple Dl.b_tuple (pq_dat (pd_new (pn_lc (own := [("zero", 2), ("one", 3)]) rfl nd (pid_zip4 (by rfl) z_zip (pda_cons (pw_dat (pd_slice (pq_var (pv 0)) (pod_none) (pod_some (pd_var (pv 1))))) (pda_cons (pw_dat (pd_slice (pq_var (pv 0)) (pod_some (pd_var (pv 1))) (pod_none))) (pda_nil)))) (blkOk_by (N := N__guesses) (sc := defScope s__guesses) (by decide +kernel)) (fun _ _ _ _ _ => pgd_seq rfl (pgsd_cons (pgd_name (pg_name (i := 2) nd rfl (by first | exact Or.inl rfl | exact Or.inr rfl))) (pgsd_cons (pgd_name (pg_name (i := 3) nd rfl (by first | exact Or.inl rfl | exact Or.inr rfl))) (pgsd_nil)))) (fun _ _ _ _ _ => ptsd_nil) (fun _ _ _ _ _ => pd_op op_sub (op2_I0 fun _ _ _ _ => .int _) (pd_var (pv 2)) (pd_var (pv 3)))))))))),
    (les_seq (les_set (le_op (leop_I cDiv_ok) (le_opQ leq_len (le_varQ)) (le_c)))
    (les_ret (le_opQ leq_tuple (le_seqE (le_L (le_lc (le_zip4 (le_cons (le_sl (le_varQ) (le_oNone) (le_oSome (le_var))) (le_cons (le_sl (le_varQ) (le_oSome (le_var)) (le_oNone)) (le_nil)))) (le_gSeq (le_gsCons (le_gSet) (le_gsCons (le_gSet) (le_gsNil)))) (le_yes) (le_op (leop_I0) (le_var) (le_var))))))))⟩
abbrev s_guess_row : Stmt := topS 79
abbrev N_guess_row : List PySem.Str := ["test", "length"]
theorem sc_guess_row : FnScope N_guess_row ["test"] (defScope s_guess_row) := ⟨rfl, rfl, rfl, by decide +kernel, rfl, by decide +kernel, by decide +kernel⟩
def fs_guess_row : FS :=
  fSeq (fSet 1 (fCall F__log_within (fCons (fVar 0) (fCons (fOp (gI0 fun i j => .int (i + j)) (fC (.int 6)) (fC (.int 1))) (fNil)))))
    (fSeq (fIf (fOr (fTest (fOp (gIs false) (fVar 1) (fC .none))) (fOr (fTest (fOp (gI0 fun i j => .bool (decide (i < j))) (fVar 1) (fC (.int 2)))) (fNot (fTru (fCall F_is_word (fCons (fVar 0) (fCons (fOpQ gLen (fVarQ 0)) (fNil)))))))) (fRaise ⟨"InvalidWord", none⟩) (fNext))
    (fRet (fTup (fCons (fC (.int 1)) (fCons (fCall F__guesses (fCons (fVar 0) (fNil))) (fNil))))))
def F_guess_row : FF := mkF 1 N_guess_row.length fs_guess_row
theorem ok_guess_row {f : Addr} {fd : FuncData} {k : Nat} (F : L2.Fun K "guess_row" "guess_row" s_guess_row f fd)
    {tk__MOST_SEED : Tok} (c__MOST_SEED : mg "_MOST_SEED" = some (.int 6 tk__MOST_SEED))
    (z_len : mg "len" = none)
    {c_InvalidWord : Addr} (e_InvalidWord : ClsP K mg "InvalidWord" c_InvalidWord)
    {f__log_within : Addr} {d__log_within : FuncData} {l__log_within : Nat} (h__log_within : l__log_within ≤ k) (G__log_within : FnOk P w K mg base (L2.CX P w) l__log_within f__log_within d__log_within ["value", "most"] (spX K Ps fun E => ofF E F__log_within)) (g__log_within : mg "_log_within" = some (.ref f__log_within)) (k__log_within : PySem.W.keepIn K (.ref f__log_within) = true) (b__log_within : Binds K d__log_within ["value", "most"] [])
    {f_is_word : Addr} {d_is_word : FuncData} {l_is_word : Nat} (h_is_word : l_is_word ≤ k) (G_is_word : FnOk P w K mg base (L2.CX P w) l_is_word f_is_word d_is_word ["value", "length"] (spX K Ps fun E => ofF E F_is_word)) (g_is_word : mg "is_word" = some (.ref f_is_word)) (k_is_word : PySem.W.keepIn K (.ref f_is_word) = true) (b_is_word : Binds K d_is_word ["value", "length"] [])
    {f__guesses : Addr} {d__guesses : FuncData} {l__guesses : Nat} (h__guesses : l__guesses ≤ k) (G__guesses : FnOk P w K mg base (L2.CX P w) l__guesses f__guesses d__guesses ["test"] (spX K Ps fun E => ofF E F__guesses)) (g__guesses : mg "_guesses" = some (.ref f__guesses)) (k__guesses : PySem.W.keepIn K (.ref f__guesses) = true) (b__guesses : Binds K d__guesses ["test"] []) : FnOk P w K mg base (L2.CX P w) (k + 1) f fd ["test"] (spX K Ps fun E => ofF E F_guess_row) :=
  okFX (N := N_guess_row) (n := 1) (fs := fs_guess_row) F sc_guess_row rfl fun cdv A outer s H E Ed hr tk po => ⟨_, (have nd := sc_guess_row.nd
    psd_cons (psd_set (i := 1) nd rfl (by first | exact Or.inl rfl | exact Or.inr rfl) (pd_callX G__log_within tk (hr.mono (by omega)) (by rfl) g__log_within k__log_within b__log_within (pda_cons (pw_dat (pd_var (pv 0))) (pda_cons (pw_dat (pd_op op_add (op2_I0 fun _ _ _ _ => .int _) (pd_c (pe_glob (v := V.int 6) (by rfl) c__MOST_SEED ⟨_, rfl⟩) (fun _ _ => .int _)) (pd_c pe_int (fun _ _ => .int _)))) (pda_nil)))))
    (psd_cons (psd_if (PW.pt (pwd_or (pt_d_cmp op_isN (op2_is) (pd_var (pv 1)) (pd_c pe_non (fun _ _ => .non)) (nomark _)) (pwd_or (pt_d_cmp op_lt (op2_I0 fun _ _ _ _ => .bl _) (pd_var (pv 1)) (pd_c pe_int (fun _ _ => .int _)) (nomark _)) (pwd_or1 (ptd_not (ptd_tru (pd_callX G_is_word tk (hr.mono (by omega)) (by rfl) g_is_word k_is_word b_is_word (pda_cons (pw_dat (pd_var (pv 0))) (pda_cons (pw_dat (pd_len (by rfl) z_len (pq_var (pv 0)))) (pda_nil)))))))))) (psd_one (psd_raiseP e_InvalidWord tk rfl (by rfl))) (psd_nil))
    (psd_one (psd_ret (pd_tup (pda_cons (pw_dat (pd_c pe_int (fun _ _ => .int _))) (pda_cons (pw_dat (pd_callX G__guesses tk (hr.mono (by omega)) (by rfl) g__guesses k__guesses b__guesses (pda_cons (pw_dat (pd_var (pv 0))) (pda_nil)))) (pda_nil)))))))),
    (les_seq (les_set (le_call (le_cons (le_var) (le_cons (le_op (leop_I0) (le_c) (le_c)) (le_nil)))))
    (les_seq (les_if (le_orT (le_test (le_op (leop_is) (le_var) (le_c))) (le_orT (le_test (le_op (leop_I0) (le_var) (le_c))) (le_notT (le_tru (le_call (le_cons (le_var) (le_cons (le_opQ leq_len (le_varQ)) (le_nil)))))))) (les_raiseX) (les_next))
    (les_ret (le_tup (le_cons (le_c) (le_cons (le_call (le_cons (le_var) (le_nil))) (le_nil)))))))⟩
abbrev s_string_map : Stmt := topS 80
abbrev N_string_map : List PySem.Str := ["turn", "length", "size", "r", "x"]
theorem sc_string_map : FnScope N_string_map ["turn"] (defScope s_string_map) := ⟨rfl, rfl, rfl, by decide +kernel, rfl, by decide +kernel, by decide +kernel⟩
def fs_string_map : FS :=
  fSeq (fSet 1 (fCall F__need_turn (fCons (fVar 0) (fCons (fC (.int 3)) (fNil)))))
    (fSeq (fSet 2 (fOp (gI cShl fun i j => .int (i * 2 ^ j.toNat)) (fC (.int 1)) (fVar 1)))
    (fRet (fOpQ gTuple (fSeqE (fL (fLc2 (fRange1 (fCons (fVar 2) (fNil))) (fgSet 3) (fYes) (fRange1 (fCons (fVar 2) (fNil))) (fgSet 4) (fYes) (fOp (gCatT) (fOp (gI0 fun i j => .int (i + j)) (fCall0 F_spelled (fCons (fIx (fVarQ 0) (fVar 4)) (fCons (fVar 1) (fNil)))) (fCall0 F_spelled (fCons (fVar 3) (fCons (fVar 1) (fNil))))) (fTup (fCons (fCall0 F_parity (fCons (fOp (gI0 fun i j => .int (Builtin.bitAnd i j)) (fVar 4) (fVar 3)) (fNil))) (fNil)))) [3, 4] [4]))))))
def F_string_map : FF := mkF 1 N_string_map.length fs_string_map
theorem ok_string_map {f : Addr} {fd : FuncData} {k : Nat} (F : L2.Fun K "string_map" "string_map" s_string_map f fd)
    {tk__MOST_HALF_SEED : Tok} (c__MOST_HALF_SEED : mg "_MOST_HALF_SEED" = some (.int 3 tk__MOST_HALF_SEED))
    (z_range : mg "range" = none)
    (z_tuple : mg "tuple" = none)
    {f__need_turn : Addr} {d__need_turn : FuncData} {l__need_turn : Nat} (h__need_turn : l__need_turn ≤ k) (G__need_turn : FnOk P w K mg base (L2.CX P w) l__need_turn f__need_turn d__need_turn ["turn", "most"] (spX K Ps fun E => ofF E F__need_turn)) (g__need_turn : mg "_need_turn" = some (.ref f__need_turn)) (k__need_turn : PySem.W.keepIn K (.ref f__need_turn) = true) (b__need_turn : Binds K d__need_turn ["turn", "most"] [])
    {f_spelled : Addr} {d_spelled : FuncData} {l_spelled : Nat} (h_spelled : l_spelled ≤ k) (G_spelled : FnOk P w K mg base (L2.CX P w) l_spelled f_spelled d_spelled ["number", "length"] (spX K Ps fun E => ofF E F_spelled)) (g_spelled : mg "spelled" = some (.ref f_spelled)) (k_spelled : PySem.W.keepIn K (.ref f_spelled) = true) (b_spelled : Binds K d_spelled ["number", "length"] [])
    {f_parity : Addr} {d_parity : FuncData} {l_parity : Nat} (h_parity : l_parity ≤ k) (G_parity : FnOk P w K mg base (L2.CX P w) l_parity f_parity d_parity ["number"] (spX K Ps fun E => ofF E F_parity)) (g_parity : mg "parity" = some (.ref f_parity)) (k_parity : PySem.W.keepIn K (.ref f_parity) = true) (b_parity : Binds K d_parity ["number"] []) : FnOk P w K mg base (L2.CX P w) (k + 1) f fd ["turn"] (spX K Ps fun E => ofF E F_string_map) :=
  okFX (N := N_string_map) (n := 1) (fs := fs_string_map) F sc_string_map rfl fun cdv A outer s H E Ed hr tk po => ⟨_, (have nd := sc_string_map.nd
    psd_cons (psd_set (i := 1) nd rfl (by first | exact Or.inl rfl | exact Or.inr rfl) (pd_callX G__need_turn tk (hr.mono (by omega)) (by rfl) g__need_turn k__need_turn b__need_turn (pda_cons (pw_dat (pd_var (pv 0))) (pda_cons (pw_dat (pd_c (pe_glob (v := V.int 3) (by rfl) c__MOST_HALF_SEED ⟨_, rfl⟩) (fun _ _ => .int _))) (pda_nil)))))
    (psd_cons (psd_set (i := 2) nd rfl (by first | exact Or.inl rfl | exact Or.inr rfl) (pd_op op_shlW (op2_I fun _ _ _ _ => .int _) (pd_c pe_int (fun _ _ => .int _)) (pd_var (pv 1))))
    (psd_one (psd_ret (pd_tuple (by rfl) z_tuple Dl.b_tuple (pq_dat (pd_new (pn_lc2 (own := [("r", 3), ("x", 4)]) (vs1 := [4]) rfl nd (own_set) (pid_range1 (by rfl) z_range (pda_cons (pw_dat (pd_var (pv 2))) (pda_nil))) (blkOk_by (N := N_string_map) (sc := defScope s_string_map) (by decide +kernel)) (fun _ _ _ _ _ => pgd_name (pg_name (i := 3) nd rfl (by first | exact Or.inl rfl | exact Or.inr rfl))) (fun _ _ _ _ _ => ptsd_nil) (fun _ _ _ _ _ => pid_range1 (by rfl) z_range (pda_cons (pw_dat (pd_var (pv 2))) (pda_nil))) (fun _ _ _ _ _ => pgd_name (pg_name (i := 4) nd rfl (by first | exact Or.inl rfl | exact Or.inr rfl))) (fun _ _ _ _ _ => ptsd_nil) (fun _ _ _ _ _ => pd_op op_catA (op2_catT) (pd_op op_add (op2_I0 fun _ _ _ _ => .int _) (pd_call (fnX0 G_spelled) (hr.mono (by omega)) (by rfl) g_spelled k_spelled b_spelled (pda_cons (pw_dat (pd_ix (pq_var (pv 0)) (pd_var (pv 4)) (fun _ _ => rfl))) (pda_cons (pw_dat (pd_var (pv 1))) (pda_nil)))) (pd_call (fnX0 G_spelled) (hr.mono (by omega)) (by rfl) g_spelled k_spelled b_spelled (pda_cons (pw_dat (pd_var (pv 3))) (pda_cons (pw_dat (pd_var (pv 1))) (pda_nil))))) (pd_tup (pda_cons (pw_dat (pd_call (fnX0 G_parity) (hr.mono (by omega)) (by rfl) g_parity k_parity b_parity (pda_cons (pw_dat (pd_op op_and (op2_I0 fun _ _ _ _ => .int _) (pd_var (pv 4)) (pd_var (pv 3)))) (pda_nil)))) (pda_nil)))))))))))),
    (les_seq (les_set (le_call (le_cons (le_var) (le_cons (le_c) (le_nil)))))
    (les_seq (les_set (le_op (leop_I cShl_ok) (le_c) (le_var)))
    (les_ret (le_opQ leq_tuple (le_seqE (le_L (le_lc2 (le_range1 (le_cons (le_var) (le_nil))) (le_gSet) (le_yes) (le_range1 (le_cons (le_var) (le_nil))) (le_gSet) (le_yes) (le_op (leop_catT) (le_op (leop_I0) (le_call0 (le_cons (le_ix (le_varQ) (le_var)) (le_cons (le_var) (le_nil)))) (le_call0 (le_cons (le_var) (le_cons (le_var) (le_nil))))) (le_tup (le_cons (le_call0 (le_cons (le_op (leop_I0) (le_var) (le_var)) (le_nil))) (le_nil)))))))))))⟩
abbrev s_back_list : Stmt := topS 81
abbrev N_back_list : List PySem.Str := ["turn", "test", "e", "length", "found", "x", "size", "guesses", "row"]
theorem sc_back_list : FnScope N_back_list ["turn", "test", "e"] (defScope s_back_list) := ⟨rfl, rfl, rfl, by decide +kernel, rfl, by decide +kernel, by decide +kernel⟩
def fs_back_list : FS :=
  fSeq (fSet 3 (fCall F__need_turn (fCons (fVar 0) (fCons (fC (.int 3)) (fNil)))))
    (fSeq (fDrop (fCall F_need_table (fCons (fVar 1) (fCons (fOp (gI0 fun i j => .int (i + j)) (fOp (gI cMul fun i j => .int (i * j)) (fC (.int 2)) (fVar 3)) (fC (.int 1))) (fNil)))))
    (fSeq (fDrop (fCall F_need_share (fCons (fVar 2) (fNil))))
    (fSeq (fIf (fTest (fOp (gEq false) (fIx (fVarQ 2) (fC (.int 0))) (fIx (fVarQ 2) (fC (.int 1))))) (fRaise ⟨"InvalidFraction", none⟩) (fNext))
    (fSeq (fPar 6 7 (fCons (fOp (gI cShl fun i j => .int (i * 2 ^ j.toNat)) (fC (.int 1)) (fVar 3)) (fCons (fCall F__guesses (fCons (fVar 1) (fNil))) (fNil))))
    (fSeq (fSetO 4 (fLst (fNil)))
    (fSeq (fFor (fRange1 (fCons (fVar 6) (fNil))) (fgSet 5) (fStuck))
    (fFrz 4 (fRet (fOpQ gTuple (fSeqE (fOpQ gSortL (fVarQ 4))))))))))))
def F_back_list : FF := mkF 3 N_back_list.length fs_back_list
theorem ok_back_list {f : Addr} {fd : FuncData} {k : Nat} (F : L2.Fun K "back_list" "back_list" s_back_list f fd)
    {tk__MOST_HALF_SEED : Tok} (c__MOST_HALF_SEED : mg "_MOST_HALF_SEED" = some (.int 3 tk__MOST_HALF_SEED))
    (z_range : mg "range" = none)
    (z_sorted : mg "sorted" = none)
    (z_tuple : mg "tuple" = none)
    {c_InvalidFraction : Addr} (e_InvalidFraction : ClsP K mg "InvalidFraction" c_InvalidFraction)
    {f__need_turn : Addr} {d__need_turn : FuncData} {l__need_turn : Nat} (h__need_turn : l__need_turn ≤ k) (G__need_turn : FnOk P w K mg base (L2.CX P w) l__need_turn f__need_turn d__need_turn ["turn", "most"] (spX K Ps fun E => ofF E F__need_turn)) (g__need_turn : mg "_need_turn" = some (.ref f__need_turn)) (k__need_turn : PySem.W.keepIn K (.ref f__need_turn) = true) (b__need_turn : Binds K d__need_turn ["turn", "most"] [])
    {f_need_table : Addr} {d_need_table : FuncData} {l_need_table : Nat} (h_need_table : l_need_table ≤ k) (G_need_table : FnOk P w K mg base (L2.CX P w) l_need_table f_need_table d_need_table ["value", "bits"] (spX K Ps fun E => ofF E F_need_table)) (g_need_table : mg "need_table" = some (.ref f_need_table)) (k_need_table : PySem.W.keepIn K (.ref f_need_table) = true) (b_need_table : Binds K d_need_table ["value", "bits"] [])
    {f_need_share : Addr} {d_need_share : FuncData} {l_need_share : Nat} (h_need_share : l_need_share ≤ k) (G_need_share : FnOk P w K mg base (L2.CX P w) l_need_share f_need_share d_need_share ["value"] (spX K Ps fun E => ofF E F_need_share)) (g_need_share : mg "need_share" = some (.ref f_need_share)) (k_need_share : PySem.W.keepIn K (.ref f_need_share) = true) (b_need_share : Binds K d_need_share ["value"] [])
    {f__guesses : Addr} {d__guesses : FuncData} {l__guesses : Nat} (h__guesses : l__guesses ≤ k) (G__guesses : FnOk P w K mg base (L2.CX P w) l__guesses f__guesses d__guesses ["test"] (spX K Ps fun E => ofF E F__guesses)) (g__guesses : mg "_guesses" = some (.ref f__guesses)) (k__guesses : PySem.W.keepIn K (.ref f__guesses) = true) (b__guesses : Binds K d__guesses ["test"] []) : FnOk P w K mg base (L2.CX P w) (k + 1) f fd ["turn", "test", "e"] (spX K Ps fun E => ofF E F_back_list) :=
  okFX (N := N_back_list) (n := 3) (fs := fs_back_list) F sc_back_list rfl fun cdv A outer s H E Ed hr tk po => ⟨_, (have nd := sc_back_list.nd
    psd_cons (psd_set (i := 3) nd rfl (by first | exact Or.inl rfl | exact Or.inr rfl) (pd_callX G__need_turn tk (hr.mono (by omega)) (by rfl) g__need_turn k__need_turn b__need_turn (pda_cons (pw_dat (pd_var (pv 0))) (pda_cons (pw_dat (pd_c (pe_glob (v := V.int 3) (by rfl) c__MOST_HALF_SEED ⟨_, rfl⟩) (fun _ _ => .int _))) (pda_nil)))))
    (psd_cons (psd_expr (pd_callX G_need_table tk (hr.mono (by omega)) (by rfl) g_need_table k_need_table b_need_table (pda_cons (pw_dat (pd_var (pv 1))) (pda_cons (pw_dat (pd_op op_add (op2_I0 fun _ _ _ _ => .int _) (pd_op op_mulE (op2_I fun _ _ _ _ => .int _) (pd_c pe_int (fun _ _ => .int _)) (pd_var (pv 3))) (pd_c pe_int (fun _ _ => .int _)))) (pda_nil)))))
    (psd_cons (psd_expr (pd_callX G_need_share tk (hr.mono (by omega)) (by rfl) g_need_share k_need_share b_need_share (pda_cons (pw_dat (pd_var (pv 2))) (pda_nil))))
    (psd_cons (psd_if (pt_d_cmp (op_eqD hr.units) (op2_eq) (pd_ix (pq_var (pv 2)) (pd_c pe_int (fun _ _ => .int _)) (fun _ _ => rfl)) (pd_ix (pq_var (pv 2)) (pd_c pe_int (fun _ _ => .int _)) (fun _ _ => rfl)) (nomark _)) (psd_one (psd_raiseP e_InvalidFraction tk rfl (by rfl))) (psd_nil))
    (psd_cons (psd_par (i := 6) (j := 7) rfl nd rfl rfl (by decide) rfl rfl (pda_cons (pw_dat (pd_op op_shlW (op2_I fun _ _ _ _ => .int _) (pd_c pe_int (fun _ _ => .int _)) (pd_var (pv 3)))) (pda_cons (pw_dat (pd_callX G__guesses tk (hr.mono (by omega)) (by rfl) g__guesses k__guesses b__guesses (pda_cons (pw_dat (pd_var (pv 1))) (pda_nil)))) (pda_nil))) (by rfl))
    (psd_cons (psd_setO (i := 4) nd rfl (by first | exact Or.inl rfl | exact Or.inr rfl) (pn_lst (pda_nil)))
    (psd_cons (psd_for po rfl (pid_range1 (by rfl) z_range (pda_cons (pw_dat (pd_var (pv 6))) (pda_nil))) (pgd_name (pg_name (i := 5) nd rfl (by first | exact Or.inl rfl | exact Or.inr rfl))) (pss_stuck))
    (pss_frz (psd_one (psd_ret (pd_tuple (by rfl) z_tuple Dl.b_tuple (pq_dat (pd_callQ cr_sortAny2 opq_sortL (by rfl) z_sorted Dl.b_sorted (pq_var (pv 4))))))))))))))),
    (les_seq (les_set (le_call (le_cons (le_var) (le_cons (le_c) (le_nil)))))
    (les_seq (les_drop (le_call (le_cons (le_var) (le_cons (le_op (leop_I0) (le_op (leop_I cMul_ok) (le_c) (le_var)) (le_c)) (le_nil)))))
    (les_seq (les_drop (le_call (le_cons (le_var) (le_nil))))
    (les_seq (les_if (le_test (le_op (leop_eq) (le_ix (le_varQ) (le_c)) (le_ix (le_varQ) (le_c)))) (les_raiseX) (les_next))
    (les_seq (les_par (le_cons (le_op (leop_I cShl_ok) (le_c) (le_var)) (le_cons (le_call (le_cons (le_var) (le_nil))) (le_nil))))
    (les_seq (les_setO (le_lst (le_nil)))
    (les_seq (les_for (le_range1 (le_cons (le_var) (le_nil))) (le_gSet) (les_stuck))
    (les_frz (les_ret (le_opQ leq_tuple (le_seqE (le_opQ leq_sortL (le_varQ)))))))))))))⟩
abbrev s__law_hx_dice : Stmt := topS 83
abbrev N__law_hx_dice : List PySem.Str := ["script", "spot", "cell", "great", "seed"]
theorem sc__law_hx_dice : FnScope N__law_hx_dice ["script", "spot"] (defScope s__law_hx_dice) := ⟨rfl, rfl, rfl, by decide +kernel, rfl, by decide +kernel, by decide +kernel⟩
abbrev s__law_hx_up : Stmt := topS 84
abbrev N__law_hx_up : List PySem.Str := ["dice", "total", "one", "two", "found"]
theorem sc__law_hx_up : FnScope N__law_hx_up ["dice", "total"] (defScope s__law_hx_up) := ⟨rfl, rfl, rfl, by decide +kernel, rfl, by decide +kernel, by decide +kernel⟩
abbrev s__law_hx_of : Stmt := topS 85
abbrev N__law_hx_of : List PySem.Str := ["dice", "items"]
theorem sc__law_hx_of : FnScope N__law_hx_of ["dice", "items"] (defScope s__law_hx_of) := ⟨rfl, rfl, rfl, by decide +kernel, rfl, by decide +kernel, by decide +kernel⟩
def it__law_hx_of_0 : FE := fOpQ gLen (fVarQ 1)
def db__law_hx_of (SD__law_hx_up : DSp) : DS :=
  dRet (dIx (dVarQ 1) (dCall SD__law_hx_up (dCons (dHat 0) (dCons (dD (dOpQ fLen (dVarQ 1))) (dNil)))))
theorem ok__law_hx_of {f : Addr} {fd : FuncData} {k : Nat} {SD : DSp} (F : L2.Fun K "_law_hx_of" "_law_hx_of" s__law_hx_of f fd) (len : ∀ ws Q, SD ws Q → ws.length = 2)
    (z_len : mg "len" = none)
    {f__law_hx_up : Addr} {d__law_hx_up : FuncData} {l__law_hx_up : Nat} {SD__law_hx_up : DSp} (h__law_hx_up : l__law_hx_up ≤ k) (G__law_hx_up : FnOk P w K mg base CX0 l__law_hx_up f__law_hx_up d__law_hx_up ["dice", "total"] (spOf K Ps SD__law_hx_up)) (g__law_hx_up : mg "_law_hx_up" = some (.ref f__law_hx_up)) (k__law_hx_up : PySem.W.keepIn K (.ref f__law_hx_up) = true) (b__law_hx_up : Binds K d__law_hx_up ["dice", "total"] [])
    (pu : ∀ ws Qd, SD ws Qd → db__law_hx_of SD__law_hx_up { nx := fun _ => Qd .none, rt := Qd } (startD N__law_hx_of.length ws)) : FnOk P w K mg base CX0 (k + 1) f fd ["dice", "items"] (spOf K Ps SD) :=
  okD (N := N__law_hx_of) F sc__law_hx_of len fun cdv A outer s H E hr => ⟨_, (have nd := sc__law_hx_of.nd
    psd_one (psd_ret (pd_ix (pq_var (pv 1)) (pd_call G__law_hx_up (hr.mono (by omega)) (by rfl) g__law_hx_up k__law_hx_up b__law_hx_up (pda_cons (pw_hat (pv 0)) (pda_cons (pw_dat (pd_len (by rfl) z_len (pq_var (pv 1)))) (pda_nil)))) (fun _ _ => rfl)))), pu⟩
abbrev s__law_hx_met : Stmt := topS 86
abbrev N__law_hx_met : List PySem.Str := ["call", "error"]
theorem sc__law_hx_met : FnScope N__law_hx_met ["call"] (defScope s__law_hx_met) := ⟨rfl, rfl, rfl, by decide +kernel, rfl, by decide +kernel, by decide +kernel⟩
def hl__law_hx_met : Hds := [("InvalidNumber", ⟨(some "met"), "number ", some ("given", 1)⟩), ("TooMany", ⟨(some "met"), "many ", some ("most", 1)⟩), ("InvalidRow", ⟨(some "met"), "row", none⟩), ("InvalidTruth", ⟨(some "met"), "truth", none⟩), ("InvalidWord", ⟨(some "met"), "word", none⟩), ("InvalidFraction", ⟨(some "met"), "fraction", none⟩), ("InvalidMeasure", ⟨(some "met"), "measure", none⟩), ("InvalidMaps", ⟨(some "met"), "maps", none⟩), ("InvalidDraw", ⟨(some "met"), "draw", none⟩), ("InvalidFamily", ⟨(some "met"), "family", none⟩), ("InvalidMix", ⟨(some "met"), "mix", none⟩), ("InvalidOperation", ⟨(some "met"), "operation", none⟩)]
def fine__law_hx_met : PyData := (⟨(some "met"), "let", none⟩ : Hout).val "let"
theorem met__law_hx_met {g : Addr} (hx : exB K hl__law_hx_met = true) (m_InvalidNumber : mg "InvalidNumber" = some (.ref (caK K "InvalidNumber"))) (x_InvalidNumber : XfC K (caK K "InvalidNumber")) (n_InvalidNumber : PySem.W.findIn K (.ref (caK K "InvalidNumber")) "given" = some none) (m_TooMany : mg "TooMany" = some (.ref (caK K "TooMany"))) (x_TooMany : XfC K (caK K "TooMany")) (n_TooMany : PySem.W.findIn K (.ref (caK K "TooMany")) "most" = some none) (m_InvalidRow : mg "InvalidRow" = some (.ref (caK K "InvalidRow"))) (m_InvalidTruth : mg "InvalidTruth" = some (.ref (caK K "InvalidTruth"))) (m_InvalidWord : mg "InvalidWord" = some (.ref (caK K "InvalidWord"))) (m_InvalidFraction : mg "InvalidFraction" = some (.ref (caK K "InvalidFraction"))) (m_InvalidMeasure : mg "InvalidMeasure" = some (.ref (caK K "InvalidMeasure"))) (m_InvalidMaps : mg "InvalidMaps" = some (.ref (caK K "InvalidMaps"))) (m_InvalidDraw : mg "InvalidDraw" = some (.ref (caK K "InvalidDraw"))) (m_InvalidFamily : mg "InvalidFamily" = some (.ref (caK K "InvalidFamily"))) (m_InvalidMix : mg "InvalidMix" = some (.ref (caK K "InvalidMix"))) (m_InvalidOperation : mg "InvalidOperation" = some (.ref (caK K "InvalidOperation"))) (z_repr : mg "repr" = none) (cdg : Value) : MetG P w K mg base N__law_hx_met "_law_hx_met" (defScope s__law_hx_met) g cdg (defBody s__law_hx_met) "call" hl__law_hx_met fine__law_hx_met :=
  met_mk (x := "_law_hx_met") (wr := (some "met")) (fine := "let") hx (fld_of (by decide +kernel)) (by decide) (fun A stack s H k hgd hr => .named (i := 1) ⟨by rfl, by decide, .inl m_InvalidNumber⟩ sc__law_hx_met.nd rfl rfl (fun a oe cls d pn hz hf => su_fldP (pe_fld (i := 1) x_InvalidNumber n_InvalidNumber hz hf (by rfl) z_repr (pv 1) hgd hr.units (by rfl) (by decide))) (.named (i := 1) ⟨by rfl, by decide, .inl m_TooMany⟩ sc__law_hx_met.nd rfl rfl (fun a oe cls d pn hz hf => su_fldP (pe_fld (i := 1) x_TooMany n_TooMany hz hf (by rfl) z_repr (pv 1) hgd hr.units (by rfl) (by decide))) (.bare ⟨by rfl, by decide, .inl m_InvalidRow⟩ (fun _ _ _ _ _ _ _ => su_pair) (.bare ⟨by rfl, by decide, .inl m_InvalidTruth⟩ (fun _ _ _ _ _ _ _ => su_pair) (.bare ⟨by rfl, by decide, .inl m_InvalidWord⟩ (fun _ _ _ _ _ _ _ => su_pair) (.bare ⟨by rfl, by decide, .inl m_InvalidFraction⟩ (fun _ _ _ _ _ _ _ => su_pair) (.bare ⟨by rfl, by decide, .inl m_InvalidMeasure⟩ (fun _ _ _ _ _ _ _ => su_pair) (.bare ⟨by rfl, by decide, .inl m_InvalidMaps⟩ (fun _ _ _ _ _ _ _ => su_pair) (.bare ⟨by rfl, by decide, .inl m_InvalidDraw⟩ (fun _ _ _ _ _ _ _ => su_pair) (.bare ⟨by rfl, by decide, .inl m_InvalidFamily⟩ (fun _ _ _ _ _ _ _ => su_pair) (.bare ⟨by rfl, by decide, .inl m_InvalidMix⟩ (fun _ _ _ _ _ _ _ => su_pair) (.bare ⟨by rfl, by decide, .inl m_InvalidOperation⟩ (fun _ _ _ _ _ _ _ => su_pair) (.nil))))))))))))) (fun _ _ _ _ => su_pair)
abbrev s__law_right : Stmt := topS 87
abbrev N__law_right : List PySem.Str := ["dice", "table", "seed", "k", "test", "first", "edge", "turn", "truth", "met", "due", "call", "low", "good", "fine", "wide", "word"]
theorem sc__law_right : FnScope N__law_right ["dice"] (defScope s__law_right) := ⟨rfl, rfl, rfl, by decide +kernel, rfl, by decide +kernel, by decide +kernel⟩
def LE__law_right_21_1 : FE := fCall F_is_long_answer (fCons (fVar 0) (fCons (fVar 1) (fCons (fVar 2) (fCons (fVar 3) (fCons (fC .none) (fNil))))))
def LF__law_right_21_1 : FF := mkE 4 4 LE__law_right_21_1
theorem la__law_right_21_1 {k : Nat}
    {f_is_long_answer : Addr} {d_is_long_answer : FuncData} {l_is_long_answer : Nat} (h_is_long_answer : l_is_long_answer ≤ k) (G_is_long_answer : FnOk P w K mg base (L2.CX P w) l_is_long_answer f_is_long_answer d_is_long_answer ["table", "k", "test", "e", "value"] (spX K Ps fun E => ofF E F_is_long_answer)) (g_is_long_answer : mg "is_long_answer" = some (.ref f_is_long_answer)) (k_is_long_answer : PySem.W.keepIn K (.ref f_is_long_answer) = true) (b_is_long_answer : Binds K d_is_long_answer ["table", "k", "test", "e", "value"] []) : LmV.LOk P w K mg base (L2.CX P w) (k + 1) (LmV.LamTable.tab "_law_right.21.1") ["one", "bits", "two", "e"] (spX K Ps fun E => ofF E LF__law_right_21_1) :=
  okLam (N := ["one", "bits", "two", "e"]) (fe := LE__law_right_21_1) (NdefX.nscope_by (by decide +kernel)) rfl (fun c pm ctv us h => by
    rcases us with _ | ⟨a0, us⟩
    · simp at h
    rcases us with _ | ⟨a1, us⟩
    · simp at h
    rcases us with _ | ⟨a2, us⟩
    · simp at h
    rcases us with _ | ⟨a3, us⟩
    · simp at h
    rcases us with _ | ⟨z, us⟩
    · rfl
    · simp at h) fun f c A outer s H E Ed hr tk => ⟨_, (pd_callX G_is_long_answer tk (hr.mono (by omega)) (by rfl) g_is_long_answer k_is_long_answer b_is_long_answer (pda_cons (pw_dat (pd_var (pv 0))) (pda_cons (pw_dat (pd_var (pv 1))) (pda_cons (pw_dat (pd_var (pv 2))) (pda_cons (pw_dat (pd_var (pv 3))) (pda_cons (pw_dat (pd_c pe_non (fun _ _ => .non))) (pda_nil))))))),
    (le_call (le_cons (le_var) (le_cons (le_var) (le_cons (le_var) (le_cons (le_var) (le_cons (le_c) (le_nil)))))))⟩
def dt__law_right : DS :=
  dSeq (dAsgG (gSeqD 3 (gsCons (gSet 13) (gsCons (gSet 14) (gsCons (gSet 15) (gsNil))))) (dTup (dCons (dD (dTup (dCons (dD (dTup (dCons (dD (dC (.int 0))) (dCons (dD (dC (.int 0))) (dCons (dD (dC (.int 1))) (dNil)))))) (dCons (dD (dTup (dCons (dD (dC (.int 1))) (dCons (dD (dC (.int 0))) (dCons (dD (dC (.int 0))) (dNil)))))) (dCons (dD (dTup (dCons (dD (dC (.int 1))) (dCons (dD (dC (.int 1))) (dCons (dD (dC (.int 1))) (dNil)))))) (dCons (dD (dTup (dCons (dD (dC (.int 0))) (dCons (dD (dC (.int 0))) (dCons (dD (dC (.int 0))) (dNil)))))) (dNil))))))) (dCons (dD (dTup (dCons (dD (dC (.int 0))) (dCons (dD (dC (.int 1))) (dCons (dD (dC (.int 1))) (dCons (dD (dC (.int 0))) (dNil))))))) (dCons (dD (dOp (fRepA) (dTup (dCons (dD (dC (.int 0))) (dNil))) (dC (.int 8)))) (dNil))))))
    (dSeq (dSetO 9 (dLst (dCons (dD (dMet hl__law_hx_met fine__law_hx_met (fun Ed => dCall (ofF Ed F_led_on) (dCons (dD (dVar 1)) (dCons (dD (dVar 2)) (dCons (dD (dVar 3)) (dNil))))))) (dNil))))
    (dSeq (dApp 9 (dMet hl__law_hx_met fine__law_hx_met (fun Ed => dCall (ofF Ed F_led_on) (dCons (dD (dVar 13)) (dCons (dD (dVar 2)) (dCons (dD (dVar 3)) (dNil)))))))
    (dSeq (dApp 9 (dMet hl__law_hx_met fine__law_hx_met (fun Ed => dCall (ofF Ed F_led_on) (dCons (dD (dVar 13)) (dCons (dD (dTup (dCons (dD (dC (.int 0))) (dCons (dD (dC (.int 1))) (dNil))))) (dCons (dD (dVar 3)) (dNil)))))))
    (dSeq (dApp 9 (dMet hl__law_hx_met fine__law_hx_met (fun Ed => dCall (ofF Ed F_map_excess) (dCons (dD (dVar 1)) (dCons (dD (dVar 4)) (dNil))))))
    (dSeq (dApp 9 (dMet hl__law_hx_met fine__law_hx_met (fun Ed => dCall (ofF Ed F_map_excess) (dCons (dD (dVar 13)) (dCons (dD (dVar 4)) (dNil))))))
    (dSeq (dApp 9 (dMet hl__law_hx_met fine__law_hx_met (fun Ed => dCall (ofF Ed F_long_excess) (dCons (dD (dVar 1)) (dCons (dD (dVar 3)) (dCons (dD (dVar 4)) (dNil)))))))
    (dSeq (dApp 9 (dMet hl__law_hx_met fine__law_hx_met (fun Ed => dCall (ofF Ed F_long_excess) (dCons (dD (dVar 13)) (dCons (dD (dVar 3)) (dCons (dD (dVar 4)) (dNil)))))))
    (dSeq (dApp 9 (dMet hl__law_hx_met fine__law_hx_met (fun Ed => dCall (ofF Ed F_long_excess) (dCons (dD (dVar 13)) (dCons (dD (dC (.int 2))) (dCons (dD (dVar 4)) (dNil)))))))
    (dSeq (dApp 9 (dMet hl__law_hx_met fine__law_hx_met (fun Ed => dCall (ofF Ed F_step_test) (dCons (dD (dVar 13)) (dCons (dD (dVar 3)) (dCons (dD (dVar 4)) (dCons (dD (dVar 5)) (dNil))))))))
    (dSeq (dApp 9 (dMet hl__law_hx_met fine__law_hx_met (fun Ed => dCall (ofF Ed F_step_test) (dCons (dD (dVar 13)) (dCons (dD (dC (.int 2))) (dCons (dD (dVar 4)) (dCons (dD (dVar 5)) (dNil))))))))
    (dSeq (dApp 9 (dMet hl__law_hx_met fine__law_hx_met (fun Ed => dCall (ofF Ed F_step_test) (dCons (dD (dVar 13)) (dCons (dD (dC (.int 2))) (dCons (dD (dVar 14)) (dCons (dD (dVar 5)) (dNil))))))))
    (dSeq (dSet 10 (dL (dLst (dCons (dD (dC (.str (PySem.Str.ofString "maps")))) (dCons (dD (dC (.str (PySem.Str.ofString "word")))) (dCons (dD (dOp (fCatS) (dC (.str (PySem.Str.ofString "number "))) (dOpN fRepr (dCons (dD (dVar 3)) (dNil))))) (dCons (dD (dC (.str (PySem.Str.ofString "maps")))) (dCons (dD (dC (.str (PySem.Str.ofString "word")))) (dCons (dD (dC (.str (PySem.Str.ofString "maps")))) (dCons (dD (dOp (fCatS) (dC (.str (PySem.Str.ofString "number "))) (dOpN fRepr (dCons (dD (dVar 3)) (dNil))))) (dCons (dD (dC (.str (PySem.Str.ofString "word")))) (dCons (dD (dOp (fCatS) (dC (.str (PySem.Str.ofString "number "))) (dOpN fRepr (dCons (dD (dVar 3)) (dNil))))) (dCons (dD (dC (.str (PySem.Str.ofString "word")))) (dCons (dD (dC (.str (PySem.Str.ofString "word")))) (dNil)))))))))))))))
    (dSeq (dForW 11 (dCons (dwFn "long_answer") (dCons (dwLam "_law_right.21.1") (dNil))) (dSeq (dApp 9 (dMet hl__law_hx_met fine__law_hx_met (fun Ed => dCallW Ed 11 [("long_answer", F_long_answer)] [("_law_right.21.1", LF__law_right_21_1)] (dCons (dD (dVar 1)) (dCons (dD (dVar 3)) (dCons (dD (dVar 4)) (dCons (dD (dVar 6)) (dNil))))))))
    (dSeq (dApp 9 (dMet hl__law_hx_met fine__law_hx_met (fun Ed => dCallW Ed 11 [("long_answer", F_long_answer)] [("_law_right.21.1", LF__law_right_21_1)] (dCons (dD (dVar 13)) (dCons (dD (dVar 3)) (dCons (dD (dVar 4)) (dCons (dD (dVar 6)) (dNil))))))))
    (dSeq (dApp 9 (dMet hl__law_hx_met fine__law_hx_met (fun Ed => dCallW Ed 11 [("long_answer", F_long_answer)] [("_law_right.21.1", LF__law_right_21_1)] (dCons (dD (dVar 13)) (dCons (dD (dC (.int 2))) (dCons (dD (dVar 4)) (dCons (dD (dVar 6)) (dNil))))))))
    (dSeq (dApp 9 (dMet hl__law_hx_met fine__law_hx_met (fun Ed => dCallW Ed 11 [("long_answer", F_long_answer)] [("_law_right.21.1", LF__law_right_21_1)] (dCons (dD (dVar 13)) (dCons (dD (dC (.int 2))) (dCons (dD (dVar 14)) (dCons (dD (dVar 6)) (dNil))))))))
    (dSet 10 (dL (dCatL (dVarQ 10) (dSeqE (dL (dLst (dCons (dD (dC (.str (PySem.Str.ofString "maps")))) (dCons (dD (dOp (fCatS) (dC (.str (PySem.Str.ofString "number "))) (dOpN fRepr (dCons (dD (dVar 3)) (dNil))))) (dCons (dD (dC (.str (PySem.Str.ofString "word")))) (dCons (dD (dC (.str (PySem.Str.ofString "fraction")))) (dNil))))))))))))))))
    (dSeq (dSet 12 (dIfE (dTest (dOp (fNe2) (dVar 6) (dTup (dCons (dD (dC (.int 1))) (dCons (dD (dC (.int 1))) (dNil)))))) (dVar 6) (dTup (dCons (dD (dC (.int 0))) (dCons (dD (dC (.int 1))) (dNil))))))
    (dSeq (dApp 9 (dMet hl__law_hx_met fine__law_hx_met (fun Ed => dCall (ofF Ed F_bit_map) (dCons (dD (dVar 7)) (dCons (dD (dVar 8)) (dNil))))))
    (dSeq (dApp 9 (dMet hl__law_hx_met fine__law_hx_met (fun Ed => dCall (ofF Ed F_bit_map) (dCons (dD (dTup (dCons (dD (dC (.int 1))) (dCons (dD (dC (.int 0))) (dNil))))) (dCons (dD (dVar 8)) (dNil))))))
    (dSeq (dApp 9 (dMet hl__law_hx_met fine__law_hx_met (fun Ed => dCall (ofF Ed F_string_map) (dCons (dD (dVar 7)) (dNil)))))
    (dSeq (dApp 9 (dMet hl__law_hx_met fine__law_hx_met (fun Ed => dCall (ofF Ed F_back_list) (dCons (dD (dVar 7)) (dCons (dD (dVar 4)) (dCons (dD (dVar 12)) (dNil)))))))
    (dSeq (dApp 9 (dMet hl__law_hx_met fine__law_hx_met (fun Ed => dCall (ofF Ed F_back_list) (dCons (dD (dTup (dCons (dD (dC (.int 1))) (dCons (dD (dC (.int 0))) (dNil))))) (dCons (dD (dVar 4)) (dCons (dD (dVar 12)) (dNil)))))))
    (dSeq (dApp 9 (dMet hl__law_hx_met fine__law_hx_met (fun Ed => dCall (ofF Ed F_back_list) (dCons (dD (dTup (dCons (dD (dC (.int 1))) (dCons (dD (dC (.int 0))) (dNil))))) (dCons (dD (dVar 15)) (dCons (dD (dVar 12)) (dNil)))))))
    (dSeq (dApp 9 (dMet hl__law_hx_met fine__law_hx_met (fun Ed => dCall (ofF Ed F_back_list) (dCons (dD (dTup (dCons (dD (dC (.int 1))) (dCons (dD (dC (.int 0))) (dNil))))) (dCons (dD (dVar 15)) (dCons (dD (dTup (dCons (dD (dC (.int 1))) (dCons (dD (dC (.int 1))) (dNil))))) (dNil)))))))
    (dSeq (dApp 9 (dMet hl__law_hx_met fine__law_hx_met (fun Ed => dCall (ofF Ed F_back_list) (dCons (dD (dTup (dCons (dD (dC (.int 1))) (dCons (dD (dC (.int 0))) (dNil))))) (dCons (dD (dVar 15)) (dCons (dD (dTup (dCons (dD (dC (.int 0))) (dCons (dD (dC (.int 1))) (dNil))))) (dNil)))))))
    (dFrz 9 (dRet (dOp (fEq false) (dVar 9) (dL (dLc (dItS (dL (dCatL (dVarQ 10) (dSeqE (dL (dLst (dCons (dD (dC (.str (PySem.Str.ofString "maps")))) (dCons (dD (dC (.str (PySem.Str.ofString "truth")))) (dCons (dD (dC (.str (PySem.Str.ofString "maps")))) (dCons (dD (dC (.str (PySem.Str.ofString "maps")))) (dCons (dD (dC (.str (PySem.Str.ofString "word")))) (dCons (dD (dC (.str (PySem.Str.ofString "fraction")))) (dCons (dD (dC (.str (PySem.Str.ofString "fraction")))) (dCons (dD (dC (.str (PySem.Str.ofString "fraction")))) (dNil))))))))))))))) (gSet 16) (dYes) (dTup (dCons (dD (dC (.str (PySem.Str.ofString "met")))) (dCons (dD (dVar 16)) (dNil)))) [16])))))))))))))))))))))))))))
def ft__law_right : FS :=
  fSeq (fAsgG (fgSeq 3 (fgsCons (fgSet 13) (fgsCons (fgSet 14) (fgsCons (fgSet 15) (fgsNil))))) (fTup (fCons (fTup (fCons (fTup (fCons (fC (.int 0)) (fCons (fC (.int 0)) (fCons (fC (.int 1)) (fNil))))) (fCons (fTup (fCons (fC (.int 1)) (fCons (fC (.int 0)) (fCons (fC (.int 0)) (fNil))))) (fCons (fTup (fCons (fC (.int 1)) (fCons (fC (.int 1)) (fCons (fC (.int 1)) (fNil))))) (fCons (fTup (fCons (fC (.int 0)) (fCons (fC (.int 0)) (fCons (fC (.int 0)) (fNil))))) (fNil)))))) (fCons (fTup (fCons (fC (.int 0)) (fCons (fC (.int 1)) (fCons (fC (.int 1)) (fCons (fC (.int 0)) (fNil)))))) (fCons (fOp (gRepA) (fTup (fCons (fC (.int 0)) (fNil))) (fC (.int 8))) (fNil))))))
    (fSeq (fSetO 9 (fLst (fCons (fMet hl__law_hx_met fine__law_hx_met (fCall F_led_on (fCons (fVar 1) (fCons (fVar 2) (fCons (fVar 3) (fNil)))))) (fNil))))
    (fSeq (fApp 9 (fMet hl__law_hx_met fine__law_hx_met (fCall F_led_on (fCons (fVar 13) (fCons (fVar 2) (fCons (fVar 3) (fNil)))))))
    (fSeq (fApp 9 (fMet hl__law_hx_met fine__law_hx_met (fCall F_led_on (fCons (fVar 13) (fCons (fTup (fCons (fC (.int 0)) (fCons (fC (.int 1)) (fNil)))) (fCons (fVar 3) (fNil)))))))
    (fSeq (fApp 9 (fMet hl__law_hx_met fine__law_hx_met (fCall F_map_excess (fCons (fVar 1) (fCons (fVar 4) (fNil))))))
    (fSeq (fApp 9 (fMet hl__law_hx_met fine__law_hx_met (fCall F_map_excess (fCons (fVar 13) (fCons (fVar 4) (fNil))))))
    (fSeq (fApp 9 (fMet hl__law_hx_met fine__law_hx_met (fCall F_long_excess (fCons (fVar 1) (fCons (fVar 3) (fCons (fVar 4) (fNil)))))))
    (fSeq (fApp 9 (fMet hl__law_hx_met fine__law_hx_met (fCall F_long_excess (fCons (fVar 13) (fCons (fVar 3) (fCons (fVar 4) (fNil)))))))
    (fSeq (fApp 9 (fMet hl__law_hx_met fine__law_hx_met (fCall F_long_excess (fCons (fVar 13) (fCons (fC (.int 2)) (fCons (fVar 4) (fNil)))))))
    (fSeq (fApp 9 (fMet hl__law_hx_met fine__law_hx_met (fCall F_step_test (fCons (fVar 13) (fCons (fVar 3) (fCons (fVar 4) (fCons (fVar 5) (fNil))))))))
    (fSeq (fApp 9 (fMet hl__law_hx_met fine__law_hx_met (fCall F_step_test (fCons (fVar 13) (fCons (fC (.int 2)) (fCons (fVar 4) (fCons (fVar 5) (fNil))))))))
    (fSeq (fApp 9 (fMet hl__law_hx_met fine__law_hx_met (fCall F_step_test (fCons (fVar 13) (fCons (fC (.int 2)) (fCons (fVar 14) (fCons (fVar 5) (fNil))))))))
    (fSeq (fSet 10 (fL (fLst (fCons (fC (.str (PySem.Str.ofString "maps"))) (fCons (fC (.str (PySem.Str.ofString "word"))) (fCons (fOp (gCatS) (fC (.str (PySem.Str.ofString "number "))) (fOpN gRepr (fCons (fVar 3) (fNil)))) (fCons (fC (.str (PySem.Str.ofString "maps"))) (fCons (fC (.str (PySem.Str.ofString "word"))) (fCons (fC (.str (PySem.Str.ofString "maps"))) (fCons (fOp (gCatS) (fC (.str (PySem.Str.ofString "number "))) (fOpN gRepr (fCons (fVar 3) (fNil)))) (fCons (fC (.str (PySem.Str.ofString "word"))) (fCons (fOp (gCatS) (fC (.str (PySem.Str.ofString "number "))) (fOpN gRepr (fCons (fVar 3) (fNil)))) (fCons (fC (.str (PySem.Str.ofString "word"))) (fCons (fC (.str (PySem.Str.ofString "word"))) (fNil)))))))))))))))
    (fSeq (fForW 11 [.fn "long_answer", .lam "_law_right.21.1"] (fSeq (fApp 9 (fMet hl__law_hx_met fine__law_hx_met (fCallW 11 [("long_answer", F_long_answer)] [("_law_right.21.1", LF__law_right_21_1)] (fCons (fVar 1) (fCons (fVar 3) (fCons (fVar 4) (fCons (fVar 6) (fNil))))))))
    (fSeq (fApp 9 (fMet hl__law_hx_met fine__law_hx_met (fCallW 11 [("long_answer", F_long_answer)] [("_law_right.21.1", LF__law_right_21_1)] (fCons (fVar 13) (fCons (fVar 3) (fCons (fVar 4) (fCons (fVar 6) (fNil))))))))
    (fSeq (fApp 9 (fMet hl__law_hx_met fine__law_hx_met (fCallW 11 [("long_answer", F_long_answer)] [("_law_right.21.1", LF__law_right_21_1)] (fCons (fVar 13) (fCons (fC (.int 2)) (fCons (fVar 4) (fCons (fVar 6) (fNil))))))))
    (fSeq (fApp 9 (fMet hl__law_hx_met fine__law_hx_met (fCallW 11 [("long_answer", F_long_answer)] [("_law_right.21.1", LF__law_right_21_1)] (fCons (fVar 13) (fCons (fC (.int 2)) (fCons (fVar 14) (fCons (fVar 6) (fNil))))))))
    (fSet 10 (fL (fCatL (fVarQ 10) (fSeqE (fL (fLst (fCons (fC (.str (PySem.Str.ofString "maps"))) (fCons (fOp (gCatS) (fC (.str (PySem.Str.ofString "number "))) (fOpN gRepr (fCons (fVar 3) (fNil)))) (fCons (fC (.str (PySem.Str.ofString "word"))) (fCons (fC (.str (PySem.Str.ofString "fraction"))) (fNil))))))))))))))))
    (fSeq (fSet 12 (fIfE (fTest (fOp (gNe2) (fVar 6) (fTup (fCons (fC (.int 1)) (fCons (fC (.int 1)) (fNil)))))) (fVar 6) (fTup (fCons (fC (.int 0)) (fCons (fC (.int 1)) (fNil))))))
    (fSeq (fApp 9 (fMet hl__law_hx_met fine__law_hx_met (fCall F_bit_map (fCons (fVar 7) (fCons (fVar 8) (fNil))))))
    (fSeq (fApp 9 (fMet hl__law_hx_met fine__law_hx_met (fCall F_bit_map (fCons (fTup (fCons (fC (.int 1)) (fCons (fC (.int 0)) (fNil)))) (fCons (fVar 8) (fNil))))))
    (fSeq (fApp 9 (fMet hl__law_hx_met fine__law_hx_met (fCall F_string_map (fCons (fVar 7) (fNil)))))
    (fSeq (fApp 9 (fMet hl__law_hx_met fine__law_hx_met (fCall F_back_list (fCons (fVar 7) (fCons (fVar 4) (fCons (fVar 12) (fNil)))))))
    (fSeq (fApp 9 (fMet hl__law_hx_met fine__law_hx_met (fCall F_back_list (fCons (fTup (fCons (fC (.int 1)) (fCons (fC (.int 0)) (fNil)))) (fCons (fVar 4) (fCons (fVar 12) (fNil)))))))
    (fSeq (fApp 9 (fMet hl__law_hx_met fine__law_hx_met (fCall F_back_list (fCons (fTup (fCons (fC (.int 1)) (fCons (fC (.int 0)) (fNil)))) (fCons (fVar 15) (fCons (fVar 12) (fNil)))))))
    (fSeq (fApp 9 (fMet hl__law_hx_met fine__law_hx_met (fCall F_back_list (fCons (fTup (fCons (fC (.int 1)) (fCons (fC (.int 0)) (fNil)))) (fCons (fVar 15) (fCons (fTup (fCons (fC (.int 1)) (fCons (fC (.int 1)) (fNil)))) (fNil)))))))
    (fSeq (fApp 9 (fMet hl__law_hx_met fine__law_hx_met (fCall F_back_list (fCons (fTup (fCons (fC (.int 1)) (fCons (fC (.int 0)) (fNil)))) (fCons (fVar 15) (fCons (fTup (fCons (fC (.int 0)) (fCons (fC (.int 1)) (fNil)))) (fNil)))))))
    (fFrz 9 (fRet (fOp (gEq false) (fVar 9) (fL (fLc (fItS (fL (fCatL (fVarQ 10) (fSeqE (fL (fLst (fCons (fC (.str (PySem.Str.ofString "maps"))) (fCons (fC (.str (PySem.Str.ofString "truth"))) (fCons (fC (.str (PySem.Str.ofString "maps"))) (fCons (fC (.str (PySem.Str.ofString "maps"))) (fCons (fC (.str (PySem.Str.ofString "word"))) (fCons (fC (.str (PySem.Str.ofString "fraction"))) (fCons (fC (.str (PySem.Str.ofString "fraction"))) (fCons (fC (.str (PySem.Str.ofString "fraction"))) (fNil))))))))))))))) (fgSet 16) (fYes) (fTup (fCons (fC (.str (PySem.Str.ofString "met"))) (fCons (fVar 16) (fNil)))) [16])))))))))))))))))))))))))))
theorem lt__law_right : LeS (ofS Dl.E0 ft__law_right) dt__law_right := les_seq (les_asgG (le_gSeq (le_gsCons (le_gSet) (le_gsCons (le_gSet) (le_gsCons (le_gSet) (le_gsNil))))) (le_tup (le_cons (le_tup (le_cons (le_tup (le_cons (le_c) (le_cons (le_c) (le_cons (le_c) (le_nil))))) (le_cons (le_tup (le_cons (le_c) (le_cons (le_c) (le_cons (le_c) (le_nil))))) (le_cons (le_tup (le_cons (le_c) (le_cons (le_c) (le_cons (le_c) (le_nil))))) (le_cons (le_tup (le_cons (le_c) (le_cons (le_c) (le_cons (le_c) (le_nil))))) (le_nil)))))) (le_cons (le_tup (le_cons (le_c) (le_cons (le_c) (le_cons (le_c) (le_cons (le_c) (le_nil)))))) (le_cons (le_op (leop_repA) (le_tup (le_cons (le_c) (le_nil))) (le_c)) (le_nil))))))
    (les_seq (les_setO (le_lst (le_cons (le_met (fun _ => le_call (le_cons (le_var) (le_cons (le_var) (le_cons (le_var) (le_nil)))))) (le_nil))))
    (les_seq (les_app (le_met (fun _ => le_call (le_cons (le_var) (le_cons (le_var) (le_cons (le_var) (le_nil)))))))
    (les_seq (les_app (le_met (fun _ => le_call (le_cons (le_var) (le_cons (le_tup (le_cons (le_c) (le_cons (le_c) (le_nil)))) (le_cons (le_var) (le_nil)))))))
    (les_seq (les_app (le_met (fun _ => le_call (le_cons (le_var) (le_cons (le_var) (le_nil))))))
    (les_seq (les_app (le_met (fun _ => le_call (le_cons (le_var) (le_cons (le_var) (le_nil))))))
    (les_seq (les_app (le_met (fun _ => le_call (le_cons (le_var) (le_cons (le_var) (le_cons (le_var) (le_nil)))))))
    (les_seq (les_app (le_met (fun _ => le_call (le_cons (le_var) (le_cons (le_var) (le_cons (le_var) (le_nil)))))))
    (les_seq (les_app (le_met (fun _ => le_call (le_cons (le_var) (le_cons (le_c) (le_cons (le_var) (le_nil)))))))
    (les_seq (les_app (le_met (fun _ => le_call (le_cons (le_var) (le_cons (le_var) (le_cons (le_var) (le_cons (le_var) (le_nil))))))))
    (les_seq (les_app (le_met (fun _ => le_call (le_cons (le_var) (le_cons (le_c) (le_cons (le_var) (le_cons (le_var) (le_nil))))))))
    (les_seq (les_app (le_met (fun _ => le_call (le_cons (le_var) (le_cons (le_c) (le_cons (le_var) (le_cons (le_var) (le_nil))))))))
    (les_seq (les_set (le_L (le_lst (le_cons (le_c) (le_cons (le_c) (le_cons (le_op (leop_catS) (le_c) (le_opN len_repr (le_cons (le_var) (le_nil)))) (le_cons (le_c) (le_cons (le_c) (le_cons (le_c) (le_cons (le_op (leop_catS) (le_c) (le_opN len_repr (le_cons (le_var) (le_nil)))) (le_cons (le_c) (le_cons (le_op (leop_catS) (le_c) (le_opN len_repr (le_cons (le_var) (le_nil)))) (le_cons (le_c) (le_cons (le_c) (le_nil)))))))))))))))
    (les_seq (les_forW (les_seq (les_app (le_met (fun _ => le_callW (le_cons (le_var) (le_cons (le_var) (le_cons (le_var) (le_cons (le_var) (le_nil))))))))
    (les_seq (les_app (le_met (fun _ => le_callW (le_cons (le_var) (le_cons (le_var) (le_cons (le_var) (le_cons (le_var) (le_nil))))))))
    (les_seq (les_app (le_met (fun _ => le_callW (le_cons (le_var) (le_cons (le_c) (le_cons (le_var) (le_cons (le_var) (le_nil))))))))
    (les_seq (les_app (le_met (fun _ => le_callW (le_cons (le_var) (le_cons (le_c) (le_cons (le_var) (le_cons (le_var) (le_nil))))))))
    (les_set (le_L (le_catL (le_varQ) (le_seqE (le_L (le_lst (le_cons (le_c) (le_cons (le_op (leop_catS) (le_c) (le_opN len_repr (le_cons (le_var) (le_nil)))) (le_cons (le_c) (le_cons (le_c) (le_nil))))))))))))))) (fun _ _ h => h))
    (les_seq (les_set (le_ifE (le_test (le_op (leop_ne2) (le_var) (le_tup (le_cons (le_c) (le_cons (le_c) (le_nil)))))) (le_var) (le_tup (le_cons (le_c) (le_cons (le_c) (le_nil))))))
    (les_seq (les_app (le_met (fun _ => le_call (le_cons (le_var) (le_cons (le_var) (le_nil))))))
    (les_seq (les_app (le_met (fun _ => le_call (le_cons (le_tup (le_cons (le_c) (le_cons (le_c) (le_nil)))) (le_cons (le_var) (le_nil))))))
    (les_seq (les_app (le_met (fun _ => le_call (le_cons (le_var) (le_nil)))))
    (les_seq (les_app (le_met (fun _ => le_call (le_cons (le_var) (le_cons (le_var) (le_cons (le_var) (le_nil)))))))
    (les_seq (les_app (le_met (fun _ => le_call (le_cons (le_tup (le_cons (le_c) (le_cons (le_c) (le_nil)))) (le_cons (le_var) (le_cons (le_var) (le_nil)))))))
    (les_seq (les_app (le_met (fun _ => le_call (le_cons (le_tup (le_cons (le_c) (le_cons (le_c) (le_nil)))) (le_cons (le_var) (le_cons (le_var) (le_nil)))))))
    (les_seq (les_app (le_met (fun _ => le_call (le_cons (le_tup (le_cons (le_c) (le_cons (le_c) (le_nil)))) (le_cons (le_var) (le_cons (le_tup (le_cons (le_c) (le_cons (le_c) (le_nil)))) (le_nil)))))))
    (les_seq (les_app (le_met (fun _ => le_call (le_cons (le_tup (le_cons (le_c) (le_cons (le_c) (le_nil)))) (le_cons (le_var) (le_cons (le_tup (le_cons (le_c) (le_cons (le_c) (le_nil)))) (le_nil)))))))
    (les_frz (les_ret (le_op (leop_eq) (le_var) (le_L (le_lc (le_itS (le_L (le_catL (le_varQ) (le_seqE (le_L (le_lst (le_cons (le_c) (le_cons (le_c) (le_cons (le_c) (le_cons (le_c) (le_cons (le_c) (le_cons (le_c) (le_cons (le_c) (le_cons (le_c) (le_nil))))))))))))))) (le_gSet) (le_yes) (le_tup (le_cons (le_c) (le_cons (le_var) (le_nil)))))))))))))))))))))))))))))))
def it__law_right_0 : FE := fL (fLst (fCons (fC .none) (fCons (fTup (fNil)) (fCons (fTup (fCons (fTup (fCons (fC (.int 0)) (fNil))) (fNil))) (fCons (fTup (fCons (fTup (fCons (fC (.int 0)) (fCons (fC (.int 1)) (fNil)))) (fNil))) (fCons (fTup (fCons (fTup (fCons (fC (.int 0)) (fCons (fC (.int 1)) (fNil)))) (fCons (fTup (fCons (fC (.int 1)) (fNil))) (fNil)))) (fCons (fTup (fCons (fTup (fCons (fC (.int 0)) (fCons (fC (.int 1)) (fNil)))) (fCons (fTup (fCons (fC (.int 1)) (fCons (fC (.int 2)) (fNil)))) (fNil)))) (fCons (fL (fLst (fCons (fTup (fCons (fC (.int 0)) (fCons (fC (.int 1)) (fNil)))) (fCons (fTup (fCons (fC (.int 1)) (fCons (fC (.int 0)) (fNil)))) (fNil))))) (fCons (fTup (fCons (fTup (fCons (fC (.int 0)) (fCons (fC (.int 1)) (fNil)))) (fCons (fL (fLst (fCons (fC (.int 1)) (fCons (fC (.int 0)) (fNil))))) (fNil)))) (fCons (fTup (fCons (fTup (fCons (fC (.int 0)) (fCons (fC (.int 1)) (fNil)))) (fCons (fTup (fCons (fC (.bool true)) (fCons (fC (.int 0)) (fNil)))) (fNil)))) (fCons (fOp (gRepA) (fTup (fCons (fTup (fCons (fC (.int 0)) (fCons (fC (.int 1)) (fNil)))) (fNil))) (fC (.int 3))) (fCons (fOp (gRepA) (fTup (fCons (fOp (gRepA) (fTup (fCons (fC (.int 0)) (fNil))) (fC (.int 8))) (fNil))) (fC (.int 128))) (fNil)))))))))))))
theorem li__law_right_0 : LeE (ofE Dl.E0 it__law_right_0) (dL (dLst (dCons (dD (dC .none)) (dCons (dD (dTup (dNil))) (dCons (dD (dTup (dCons (dD (dTup (dCons (dD (dC (.int 0))) (dNil)))) (dNil)))) (dCons (dD (dTup (dCons (dD (dTup (dCons (dD (dC (.int 0))) (dCons (dD (dC (.int 1))) (dNil))))) (dNil)))) (dCons (dD (dTup (dCons (dD (dTup (dCons (dD (dC (.int 0))) (dCons (dD (dC (.int 1))) (dNil))))) (dCons (dD (dTup (dCons (dD (dC (.int 1))) (dNil)))) (dNil))))) (dCons (dD (dTup (dCons (dD (dTup (dCons (dD (dC (.int 0))) (dCons (dD (dC (.int 1))) (dNil))))) (dCons (dD (dTup (dCons (dD (dC (.int 1))) (dCons (dD (dC (.int 2))) (dNil))))) (dNil))))) (dCons (dD (dL (dLst (dCons (dD (dTup (dCons (dD (dC (.int 0))) (dCons (dD (dC (.int 1))) (dNil))))) (dCons (dD (dTup (dCons (dD (dC (.int 1))) (dCons (dD (dC (.int 0))) (dNil))))) (dNil)))))) (dCons (dD (dTup (dCons (dD (dTup (dCons (dD (dC (.int 0))) (dCons (dD (dC (.int 1))) (dNil))))) (dCons (dD (dL (dLst (dCons (dD (dC (.int 1))) (dCons (dD (dC (.int 0))) (dNil)))))) (dNil))))) (dCons (dD (dTup (dCons (dD (dTup (dCons (dD (dC (.int 0))) (dCons (dD (dC (.int 1))) (dNil))))) (dCons (dD (dTup (dCons (dD (dC (.bool true))) (dCons (dD (dC (.int 0))) (dNil))))) (dNil))))) (dCons (dD (dOp (fRepA) (dTup (dCons (dD (dTup (dCons (dD (dC (.int 0))) (dCons (dD (dC (.int 1))) (dNil))))) (dNil))) (dC (.int 3)))) (dCons (dD (dOp (fRepA) (dTup (dCons (dD (dOp (fRepA) (dTup (dCons (dD (dC (.int 0))) (dNil))) (dC (.int 8)))) (dNil))) (dC (.int 128)))) (dNil)))))))))))))) := le_L (le_lst (le_cons (le_c) (le_cons (le_tup (le_nil)) (le_cons (le_tup (le_cons (le_tup (le_cons (le_c) (le_nil))) (le_nil))) (le_cons (le_tup (le_cons (le_tup (le_cons (le_c) (le_cons (le_c) (le_nil)))) (le_nil))) (le_cons (le_tup (le_cons (le_tup (le_cons (le_c) (le_cons (le_c) (le_nil)))) (le_cons (le_tup (le_cons (le_c) (le_nil))) (le_nil)))) (le_cons (le_tup (le_cons (le_tup (le_cons (le_c) (le_cons (le_c) (le_nil)))) (le_cons (le_tup (le_cons (le_c) (le_cons (le_c) (le_nil)))) (le_nil)))) (le_cons (le_L (le_lst (le_cons (le_tup (le_cons (le_c) (le_cons (le_c) (le_nil)))) (le_cons (le_tup (le_cons (le_c) (le_cons (le_c) (le_nil)))) (le_nil))))) (le_cons (le_tup (le_cons (le_tup (le_cons (le_c) (le_cons (le_c) (le_nil)))) (le_cons (le_L (le_lst (le_cons (le_c) (le_cons (le_c) (le_nil))))) (le_nil)))) (le_cons (le_tup (le_cons (le_tup (le_cons (le_c) (le_cons (le_c) (le_nil)))) (le_cons (le_tup (le_cons (le_c) (le_cons (le_c) (le_nil)))) (le_nil)))) (le_cons (le_op (leop_repA) (le_tup (le_cons (le_tup (le_cons (le_c) (le_cons (le_c) (le_nil)))) (le_nil))) (le_c)) (le_cons (le_op (leop_repA) (le_tup (le_cons (le_op (leop_repA) (le_tup (le_cons (le_c) (le_nil))) (le_c)) (le_nil))) (le_c)) (le_nil)))))))))))))
def it__law_right_1 : FE := fL (fLst (fCons (fC .none) (fCons (fTup (fNil)) (fCons (fTup (fCons (fC (.int 0)) (fNil))) (fCons (fTup (fCons (fC (.int 0)) (fCons (fC (.int 1)) (fCons (fC (.int 0)) (fNil))))) (fCons (fTup (fCons (fC (.int 0)) (fCons (fC (.int 2)) (fNil)))) (fCons (fL (fLst (fCons (fC (.int 0)) (fCons (fC (.int 1)) (fNil))))) (fCons (fTup (fCons (fC (.int 0)) (fCons (fC (.bool true)) (fNil)))) (fCons (fC (.str (PySem.Str.ofString "01"))) (fCons (fC (.int 0)) (fNil)))))))))))
theorem li__law_right_1 : LeE (ofE Dl.E0 it__law_right_1) (dL (dLst (dCons (dD (dC .none)) (dCons (dD (dTup (dNil))) (dCons (dD (dTup (dCons (dD (dC (.int 0))) (dNil)))) (dCons (dD (dTup (dCons (dD (dC (.int 0))) (dCons (dD (dC (.int 1))) (dCons (dD (dC (.int 0))) (dNil)))))) (dCons (dD (dTup (dCons (dD (dC (.int 0))) (dCons (dD (dC (.int 2))) (dNil))))) (dCons (dD (dL (dLst (dCons (dD (dC (.int 0))) (dCons (dD (dC (.int 1))) (dNil)))))) (dCons (dD (dTup (dCons (dD (dC (.int 0))) (dCons (dD (dC (.bool true))) (dNil))))) (dCons (dD (dC (.str (PySem.Str.ofString "01")))) (dCons (dD (dC (.int 0))) (dNil)))))))))))) := le_L (le_lst (le_cons (le_c) (le_cons (le_tup (le_nil)) (le_cons (le_tup (le_cons (le_c) (le_nil))) (le_cons (le_tup (le_cons (le_c) (le_cons (le_c) (le_cons (le_c) (le_nil))))) (le_cons (le_tup (le_cons (le_c) (le_cons (le_c) (le_nil)))) (le_cons (le_L (le_lst (le_cons (le_c) (le_cons (le_c) (le_nil))))) (le_cons (le_tup (le_cons (le_c) (le_cons (le_c) (le_nil)))) (le_cons (le_c) (le_cons (le_c) (le_nil)))))))))))
def it__law_right_2 : FE := fL (fLst (fCons (fC .none) (fCons (fC (.int 0)) (fCons (fC (.int 9)) (fCons (fNeg (fC (.int 1))) (fCons (fC (.bool true)) (fCons (fC (.str (PySem.Str.ofString "2"))) (fCons (fTup (fCons (fC (.int 1)) (fNil))) (fCons (fOp (gI cPow fun i j => .int (i ^ j.toNat)) (fC (.int 10)) (fC (.int 30))) (fNil))))))))))
theorem li__law_right_2 : LeE (ofE Dl.E0 it__law_right_2) (dL (dLst (dCons (dD (dC .none)) (dCons (dD (dC (.int 0))) (dCons (dD (dC (.int 9))) (dCons (dD (dNeg (dC (.int 1)))) (dCons (dD (dC (.bool true))) (dCons (dD (dC (.str (PySem.Str.ofString "2")))) (dCons (dD (dTup (dCons (dD (dC (.int 1))) (dNil)))) (dCons (dD (dOp (fI CPowB fun i j => .int (i ^ j.toNat)) (dC (.int 10)) (dC (.int 30)))) (dNil))))))))))) := le_L (le_lst (le_cons (le_c) (le_cons (le_c) (le_cons (le_c) (le_cons (le_neg (le_c)) (le_cons (le_c) (le_cons (le_c) (le_cons (le_tup (le_cons (le_c) (le_nil))) (le_cons (le_op (leop_I cPow_ok) (le_c) (le_c)) (le_nil))))))))))
def it__law_right_3 : FE := fL (fLst (fCons (fC .none) (fCons (fTup (fNil)) (fCons (fTup (fCons (fC (.int 0)) (fCons (fC (.int 1)) (fNil)))) (fCons (fTup (fCons (fC (.int 0)) (fCons (fC (.int 1)) (fCons (fC (.int 1)) (fNil))))) (fCons (fTup (fCons (fC (.int 0)) (fCons (fC (.int 1)) (fCons (fC (.int 1)) (fCons (fC (.int 2)) (fNil)))))) (fCons (fTup (fCons (fC (.int 0)) (fCons (fC (.int 1)) (fCons (fC (.int 1)) (fCons (fC (.bool true)) (fNil)))))) (fCons (fL (fLst (fCons (fC (.int 0)) (fCons (fC (.int 1)) (fCons (fC (.int 1)) (fCons (fC (.int 0)) (fNil))))))) (fCons (fC (.str (PySem.Str.ofString "0110"))) (fCons (fC (.int 0)) (fCons (fOp (gRepA) (fTup (fCons (fC (.int 0)) (fNil))) (fC (.int 6))) (fNil))))))))))))
theorem li__law_right_3 : LeE (ofE Dl.E0 it__law_right_3) (dL (dLst (dCons (dD (dC .none)) (dCons (dD (dTup (dNil))) (dCons (dD (dTup (dCons (dD (dC (.int 0))) (dCons (dD (dC (.int 1))) (dNil))))) (dCons (dD (dTup (dCons (dD (dC (.int 0))) (dCons (dD (dC (.int 1))) (dCons (dD (dC (.int 1))) (dNil)))))) (dCons (dD (dTup (dCons (dD (dC (.int 0))) (dCons (dD (dC (.int 1))) (dCons (dD (dC (.int 1))) (dCons (dD (dC (.int 2))) (dNil))))))) (dCons (dD (dTup (dCons (dD (dC (.int 0))) (dCons (dD (dC (.int 1))) (dCons (dD (dC (.int 1))) (dCons (dD (dC (.bool true))) (dNil))))))) (dCons (dD (dL (dLst (dCons (dD (dC (.int 0))) (dCons (dD (dC (.int 1))) (dCons (dD (dC (.int 1))) (dCons (dD (dC (.int 0))) (dNil)))))))) (dCons (dD (dC (.str (PySem.Str.ofString "0110")))) (dCons (dD (dC (.int 0))) (dCons (dD (dOp (fRepA) (dTup (dCons (dD (dC (.int 0))) (dNil))) (dC (.int 6)))) (dNil))))))))))))) := le_L (le_lst (le_cons (le_c) (le_cons (le_tup (le_nil)) (le_cons (le_tup (le_cons (le_c) (le_cons (le_c) (le_nil)))) (le_cons (le_tup (le_cons (le_c) (le_cons (le_c) (le_cons (le_c) (le_nil))))) (le_cons (le_tup (le_cons (le_c) (le_cons (le_c) (le_cons (le_c) (le_cons (le_c) (le_nil)))))) (le_cons (le_tup (le_cons (le_c) (le_cons (le_c) (le_cons (le_c) (le_cons (le_c) (le_nil)))))) (le_cons (le_L (le_lst (le_cons (le_c) (le_cons (le_c) (le_cons (le_c) (le_cons (le_c) (le_nil))))))) (le_cons (le_c) (le_cons (le_c) (le_cons (le_op (leop_repA) (le_tup (le_cons (le_c) (le_nil))) (le_c)) (le_nil))))))))))))
def it__law_right_4 : FE := fL (fLst (fCons (fC .none) (fCons (fTup (fCons (fC (.int 0)) (fCons (fC (.int 1)) (fNil)))) (fCons (fTup (fCons (fC (.int 2)) (fNil))) (fCons (fL (fLst (fCons (fC (.int 0)) (fNil)))) (fCons (fTup (fCons (fC (.bool true)) (fNil))) (fCons (fC (.str (PySem.Str.ofString "0"))) (fCons (fC (.int 0)) (fCons (fTup (fCons (fC (.int 0)) (fCons (fC (.int 0)) (fCons (fC (.int 0)) (fNil))))) (fNil))))))))))
theorem li__law_right_4 : LeE (ofE Dl.E0 it__law_right_4) (dL (dLst (dCons (dD (dC .none)) (dCons (dD (dTup (dCons (dD (dC (.int 0))) (dCons (dD (dC (.int 1))) (dNil))))) (dCons (dD (dTup (dCons (dD (dC (.int 2))) (dNil)))) (dCons (dD (dL (dLst (dCons (dD (dC (.int 0))) (dNil))))) (dCons (dD (dTup (dCons (dD (dC (.bool true))) (dNil)))) (dCons (dD (dC (.str (PySem.Str.ofString "0")))) (dCons (dD (dC (.int 0))) (dCons (dD (dTup (dCons (dD (dC (.int 0))) (dCons (dD (dC (.int 0))) (dCons (dD (dC (.int 0))) (dNil)))))) (dNil))))))))))) := le_L (le_lst (le_cons (le_c) (le_cons (le_tup (le_cons (le_c) (le_cons (le_c) (le_nil)))) (le_cons (le_tup (le_cons (le_c) (le_nil))) (le_cons (le_L (le_lst (le_cons (le_c) (le_nil)))) (le_cons (le_tup (le_cons (le_c) (le_nil))) (le_cons (le_c) (le_cons (le_c) (le_cons (le_tup (le_cons (le_c) (le_cons (le_c) (le_cons (le_c) (le_nil))))) (le_nil))))))))))
def it__law_right_5 : FE := fL (fLst (fCons (fC .none) (fCons (fTup (fCons (fNeg (fC (.int 1))) (fCons (fC (.int 2)) (fNil)))) (fCons (fTup (fCons (fC (.int 3)) (fCons (fC (.int 2)) (fNil)))) (fCons (fTup (fCons (fC (.int 2)) (fCons (fC (.int 4)) (fNil)))) (fCons (fC (.int 0)) (fCons (fTup (fCons (fC (.int 1)) (fCons (fC (.int 0)) (fNil)))) (fCons (fL (fLst (fCons (fC (.int 0)) (fCons (fC (.int 1)) (fNil))))) (fCons (fTup (fCons (fC (.int 0)) (fCons (fC (.int 2)) (fNil)))) (fCons (fTup (fCons (fC (.int 1)) (fCons (fOp (gI cPow fun i j => .int (i ^ j.toNat)) (fC (.int 10)) (fC (.int 9))) (fNil)))) (fCons (fC (.str (PySem.Str.ofString "none"))) (fNil))))))))))))
theorem li__law_right_5 : LeE (ofE Dl.E0 it__law_right_5) (dL (dLst (dCons (dD (dC .none)) (dCons (dD (dTup (dCons (dD (dNeg (dC (.int 1)))) (dCons (dD (dC (.int 2))) (dNil))))) (dCons (dD (dTup (dCons (dD (dC (.int 3))) (dCons (dD (dC (.int 2))) (dNil))))) (dCons (dD (dTup (dCons (dD (dC (.int 2))) (dCons (dD (dC (.int 4))) (dNil))))) (dCons (dD (dC (.int 0))) (dCons (dD (dTup (dCons (dD (dC (.int 1))) (dCons (dD (dC (.int 0))) (dNil))))) (dCons (dD (dL (dLst (dCons (dD (dC (.int 0))) (dCons (dD (dC (.int 1))) (dNil)))))) (dCons (dD (dTup (dCons (dD (dC (.int 0))) (dCons (dD (dC (.int 2))) (dNil))))) (dCons (dD (dTup (dCons (dD (dC (.int 1))) (dCons (dD (dOp (fI CPowB fun i j => .int (i ^ j.toNat)) (dC (.int 10)) (dC (.int 9)))) (dNil))))) (dCons (dD (dC (.str (PySem.Str.ofString "none")))) (dNil))))))))))))) := le_L (le_lst (le_cons (le_c) (le_cons (le_tup (le_cons (le_neg (le_c)) (le_cons (le_c) (le_nil)))) (le_cons (le_tup (le_cons (le_c) (le_cons (le_c) (le_nil)))) (le_cons (le_tup (le_cons (le_c) (le_cons (le_c) (le_nil)))) (le_cons (le_c) (le_cons (le_tup (le_cons (le_c) (le_cons (le_c) (le_nil)))) (le_cons (le_L (le_lst (le_cons (le_c) (le_cons (le_c) (le_nil))))) (le_cons (le_tup (le_cons (le_c) (le_cons (le_c) (le_nil)))) (le_cons (le_tup (le_cons (le_c) (le_cons (le_op (leop_I cPow_ok) (le_c) (le_c)) (le_nil)))) (le_cons (le_c) (le_nil))))))))))))
def it__law_right_6 : FE := fL (fLst (fCons (fC .none) (fCons (fTup (fNil)) (fCons (fTup (fCons (fC (.int 0)) (fNil))) (fCons (fTup (fCons (fC (.int 0)) (fCons (fC (.int 0)) (fNil)))) (fCons (fTup (fCons (fC (.int 0)) (fCons (fC (.int 2)) (fNil)))) (fCons (fL (fLst (fCons (fC (.int 0)) (fCons (fC (.int 1)) (fNil))))) (fCons (fTup (fCons (fC (.int 1)) (fCons (fC (.bool true)) (fNil)))) (fCons (fTup (fCons (fC (.int 0)) (fCons (fC (.int 1)) (fCons (fC (.int 2)) (fNil))))) (fCons (fTup (fCons (fNeg (fC (.int 1))) (fCons (fC (.int 0)) (fNil)))) (fCons (fC (.str (PySem.Str.ofString "01"))) (fCons (fTup (fCons (fC (.int 0)) (fCons (fC (.int 1)) (fCons (fC (.int 2)) (fCons (fC (.int 2)) (fNil)))))) (fCons (fTupRg (fC (.int 128))) (fNil))))))))))))))
theorem li__law_right_6 : LeE (ofE Dl.E0 it__law_right_6) (dL (dLst (dCons (dD (dC .none)) (dCons (dD (dTup (dNil))) (dCons (dD (dTup (dCons (dD (dC (.int 0))) (dNil)))) (dCons (dD (dTup (dCons (dD (dC (.int 0))) (dCons (dD (dC (.int 0))) (dNil))))) (dCons (dD (dTup (dCons (dD (dC (.int 0))) (dCons (dD (dC (.int 2))) (dNil))))) (dCons (dD (dL (dLst (dCons (dD (dC (.int 0))) (dCons (dD (dC (.int 1))) (dNil)))))) (dCons (dD (dTup (dCons (dD (dC (.int 1))) (dCons (dD (dC (.bool true))) (dNil))))) (dCons (dD (dTup (dCons (dD (dC (.int 0))) (dCons (dD (dC (.int 1))) (dCons (dD (dC (.int 2))) (dNil)))))) (dCons (dD (dTup (dCons (dD (dNeg (dC (.int 1)))) (dCons (dD (dC (.int 0))) (dNil))))) (dCons (dD (dC (.str (PySem.Str.ofString "01")))) (dCons (dD (dTup (dCons (dD (dC (.int 0))) (dCons (dD (dC (.int 1))) (dCons (dD (dC (.int 2))) (dCons (dD (dC (.int 2))) (dNil))))))) (dCons (dD (dTupRg (dC (.int 128)))) (dNil))))))))))))))) := le_L (le_lst (le_cons (le_c) (le_cons (le_tup (le_nil)) (le_cons (le_tup (le_cons (le_c) (le_nil))) (le_cons (le_tup (le_cons (le_c) (le_cons (le_c) (le_nil)))) (le_cons (le_tup (le_cons (le_c) (le_cons (le_c) (le_nil)))) (le_cons (le_L (le_lst (le_cons (le_c) (le_cons (le_c) (le_nil))))) (le_cons (le_tup (le_cons (le_c) (le_cons (le_c) (le_nil)))) (le_cons (le_tup (le_cons (le_c) (le_cons (le_c) (le_cons (le_c) (le_nil))))) (le_cons (le_tup (le_cons (le_neg (le_c)) (le_cons (le_c) (le_nil)))) (le_cons (le_c) (le_cons (le_tup (le_cons (le_c) (le_cons (le_c) (le_cons (le_c) (le_cons (le_c) (le_nil)))))) (le_cons (le_tupRg (le_c)) (le_nil))))))))))))))
def it__law_right_7 : FE := fL (fLst (fCons (fC .none) (fCons (fTup (fNil)) (fCons (fTup (fCons (fC (.int 1)) (fNil))) (fCons (fTup (fCons (fC (.int 1)) (fCons (fC (.int 0)) (fNil)))) (fCons (fTup (fCons (fC (.int 1)) (fCons (fC (.int 1)) (fCons (fC (.int 1)) (fNil))))) (fCons (fL (fLst (fCons (fC (.int 1)) (fCons (fC (.int 1)) (fNil))))) (fCons (fTup (fCons (fC (.int 1)) (fCons (fC (.bool true)) (fNil)))) (fCons (fC (.str (PySem.Str.ofString "11"))) (fCons (fC (.int 1)) (fNil)))))))))))
theorem li__law_right_7 : LeE (ofE Dl.E0 it__law_right_7) (dL (dLst (dCons (dD (dC .none)) (dCons (dD (dTup (dNil))) (dCons (dD (dTup (dCons (dD (dC (.int 1))) (dNil)))) (dCons (dD (dTup (dCons (dD (dC (.int 1))) (dCons (dD (dC (.int 0))) (dNil))))) (dCons (dD (dTup (dCons (dD (dC (.int 1))) (dCons (dD (dC (.int 1))) (dCons (dD (dC (.int 1))) (dNil)))))) (dCons (dD (dL (dLst (dCons (dD (dC (.int 1))) (dCons (dD (dC (.int 1))) (dNil)))))) (dCons (dD (dTup (dCons (dD (dC (.int 1))) (dCons (dD (dC (.bool true))) (dNil))))) (dCons (dD (dC (.str (PySem.Str.ofString "11")))) (dCons (dD (dC (.int 1))) (dNil)))))))))))) := le_L (le_lst (le_cons (le_c) (le_cons (le_tup (le_nil)) (le_cons (le_tup (le_cons (le_c) (le_nil))) (le_cons (le_tup (le_cons (le_c) (le_cons (le_c) (le_nil)))) (le_cons (le_tup (le_cons (le_c) (le_cons (le_c) (le_cons (le_c) (le_nil))))) (le_cons (le_L (le_lst (le_cons (le_c) (le_cons (le_c) (le_nil))))) (le_cons (le_tup (le_cons (le_c) (le_cons (le_c) (le_nil)))) (le_cons (le_c) (le_cons (le_c) (le_nil)))))))))))
def db__law_right (SD__law_hx_of : DSp) : DS :=
  dSeq (dSet 1 (dCall SD__law_hx_of (dCons (dHat 0) (dCons (dD (dL (dLst (dCons (dD (dC .none)) (dCons (dD (dTup (dNil))) (dCons (dD (dTup (dCons (dD (dTup (dCons (dD (dC (.int 0))) (dNil)))) (dNil)))) (dCons (dD (dTup (dCons (dD (dTup (dCons (dD (dC (.int 0))) (dCons (dD (dC (.int 1))) (dNil))))) (dNil)))) (dCons (dD (dTup (dCons (dD (dTup (dCons (dD (dC (.int 0))) (dCons (dD (dC (.int 1))) (dNil))))) (dCons (dD (dTup (dCons (dD (dC (.int 1))) (dNil)))) (dNil))))) (dCons (dD (dTup (dCons (dD (dTup (dCons (dD (dC (.int 0))) (dCons (dD (dC (.int 1))) (dNil))))) (dCons (dD (dTup (dCons (dD (dC (.int 1))) (dCons (dD (dC (.int 2))) (dNil))))) (dNil))))) (dCons (dD (dL (dLst (dCons (dD (dTup (dCons (dD (dC (.int 0))) (dCons (dD (dC (.int 1))) (dNil))))) (dCons (dD (dTup (dCons (dD (dC (.int 1))) (dCons (dD (dC (.int 0))) (dNil))))) (dNil)))))) (dCons (dD (dTup (dCons (dD (dTup (dCons (dD (dC (.int 0))) (dCons (dD (dC (.int 1))) (dNil))))) (dCons (dD (dL (dLst (dCons (dD (dC (.int 1))) (dCons (dD (dC (.int 0))) (dNil)))))) (dNil))))) (dCons (dD (dTup (dCons (dD (dTup (dCons (dD (dC (.int 0))) (dCons (dD (dC (.int 1))) (dNil))))) (dCons (dD (dTup (dCons (dD (dC (.bool true))) (dCons (dD (dC (.int 0))) (dNil))))) (dNil))))) (dCons (dD (dOp (fRepA) (dTup (dCons (dD (dTup (dCons (dD (dC (.int 0))) (dCons (dD (dC (.int 1))) (dNil))))) (dNil))) (dC (.int 3)))) (dCons (dD (dOp (fRepA) (dTup (dCons (dD (dOp (fRepA) (dTup (dCons (dD (dC (.int 0))) (dNil))) (dC (.int 8)))) (dNil))) (dC (.int 128)))) (dNil))))))))))))))) (dNil)))))
    (dSeq (dSet 2 (dCall SD__law_hx_of (dCons (dHat 0) (dCons (dD (dL (dLst (dCons (dD (dC .none)) (dCons (dD (dTup (dNil))) (dCons (dD (dTup (dCons (dD (dC (.int 0))) (dNil)))) (dCons (dD (dTup (dCons (dD (dC (.int 0))) (dCons (dD (dC (.int 1))) (dCons (dD (dC (.int 0))) (dNil)))))) (dCons (dD (dTup (dCons (dD (dC (.int 0))) (dCons (dD (dC (.int 2))) (dNil))))) (dCons (dD (dL (dLst (dCons (dD (dC (.int 0))) (dCons (dD (dC (.int 1))) (dNil)))))) (dCons (dD (dTup (dCons (dD (dC (.int 0))) (dCons (dD (dC (.bool true))) (dNil))))) (dCons (dD (dC (.str (PySem.Str.ofString "01")))) (dCons (dD (dC (.int 0))) (dNil))))))))))))) (dNil)))))
    (dSeq (dSet 3 (dCall SD__law_hx_of (dCons (dHat 0) (dCons (dD (dL (dLst (dCons (dD (dC .none)) (dCons (dD (dC (.int 0))) (dCons (dD (dC (.int 9))) (dCons (dD (dNeg (dC (.int 1)))) (dCons (dD (dC (.bool true))) (dCons (dD (dC (.str (PySem.Str.ofString "2")))) (dCons (dD (dTup (dCons (dD (dC (.int 1))) (dNil)))) (dCons (dD (dOp (fI CPowB fun i j => .int (i ^ j.toNat)) (dC (.int 10)) (dC (.int 30)))) (dNil)))))))))))) (dNil)))))
    (dSeq (dSet 4 (dCall SD__law_hx_of (dCons (dHat 0) (dCons (dD (dL (dLst (dCons (dD (dC .none)) (dCons (dD (dTup (dNil))) (dCons (dD (dTup (dCons (dD (dC (.int 0))) (dCons (dD (dC (.int 1))) (dNil))))) (dCons (dD (dTup (dCons (dD (dC (.int 0))) (dCons (dD (dC (.int 1))) (dCons (dD (dC (.int 1))) (dNil)))))) (dCons (dD (dTup (dCons (dD (dC (.int 0))) (dCons (dD (dC (.int 1))) (dCons (dD (dC (.int 1))) (dCons (dD (dC (.int 2))) (dNil))))))) (dCons (dD (dTup (dCons (dD (dC (.int 0))) (dCons (dD (dC (.int 1))) (dCons (dD (dC (.int 1))) (dCons (dD (dC (.bool true))) (dNil))))))) (dCons (dD (dL (dLst (dCons (dD (dC (.int 0))) (dCons (dD (dC (.int 1))) (dCons (dD (dC (.int 1))) (dCons (dD (dC (.int 0))) (dNil)))))))) (dCons (dD (dC (.str (PySem.Str.ofString "0110")))) (dCons (dD (dC (.int 0))) (dCons (dD (dOp (fRepA) (dTup (dCons (dD (dC (.int 0))) (dNil))) (dC (.int 6)))) (dNil)))))))))))))) (dNil)))))
    (dSeq (dSet 5 (dCall SD__law_hx_of (dCons (dHat 0) (dCons (dD (dL (dLst (dCons (dD (dC .none)) (dCons (dD (dTup (dCons (dD (dC (.int 0))) (dCons (dD (dC (.int 1))) (dNil))))) (dCons (dD (dTup (dCons (dD (dC (.int 2))) (dNil)))) (dCons (dD (dL (dLst (dCons (dD (dC (.int 0))) (dNil))))) (dCons (dD (dTup (dCons (dD (dC (.bool true))) (dNil)))) (dCons (dD (dC (.str (PySem.Str.ofString "0")))) (dCons (dD (dC (.int 0))) (dCons (dD (dTup (dCons (dD (dC (.int 0))) (dCons (dD (dC (.int 0))) (dCons (dD (dC (.int 0))) (dNil)))))) (dNil)))))))))))) (dNil)))))
    (dSeq (dSet 6 (dCall SD__law_hx_of (dCons (dHat 0) (dCons (dD (dL (dLst (dCons (dD (dC .none)) (dCons (dD (dTup (dCons (dD (dNeg (dC (.int 1)))) (dCons (dD (dC (.int 2))) (dNil))))) (dCons (dD (dTup (dCons (dD (dC (.int 3))) (dCons (dD (dC (.int 2))) (dNil))))) (dCons (dD (dTup (dCons (dD (dC (.int 2))) (dCons (dD (dC (.int 4))) (dNil))))) (dCons (dD (dC (.int 0))) (dCons (dD (dTup (dCons (dD (dC (.int 1))) (dCons (dD (dC (.int 0))) (dNil))))) (dCons (dD (dL (dLst (dCons (dD (dC (.int 0))) (dCons (dD (dC (.int 1))) (dNil)))))) (dCons (dD (dTup (dCons (dD (dC (.int 0))) (dCons (dD (dC (.int 2))) (dNil))))) (dCons (dD (dTup (dCons (dD (dC (.int 1))) (dCons (dD (dOp (fI CPowB fun i j => .int (i ^ j.toNat)) (dC (.int 10)) (dC (.int 9)))) (dNil))))) (dCons (dD (dC (.str (PySem.Str.ofString "none")))) (dNil)))))))))))))) (dNil)))))
    (dSeq (dSet 7 (dCall SD__law_hx_of (dCons (dHat 0) (dCons (dD (dL (dLst (dCons (dD (dC .none)) (dCons (dD (dTup (dNil))) (dCons (dD (dTup (dCons (dD (dC (.int 0))) (dNil)))) (dCons (dD (dTup (dCons (dD (dC (.int 0))) (dCons (dD (dC (.int 0))) (dNil))))) (dCons (dD (dTup (dCons (dD (dC (.int 0))) (dCons (dD (dC (.int 2))) (dNil))))) (dCons (dD (dL (dLst (dCons (dD (dC (.int 0))) (dCons (dD (dC (.int 1))) (dNil)))))) (dCons (dD (dTup (dCons (dD (dC (.int 1))) (dCons (dD (dC (.bool true))) (dNil))))) (dCons (dD (dTup (dCons (dD (dC (.int 0))) (dCons (dD (dC (.int 1))) (dCons (dD (dC (.int 2))) (dNil)))))) (dCons (dD (dTup (dCons (dD (dNeg (dC (.int 1)))) (dCons (dD (dC (.int 0))) (dNil))))) (dCons (dD (dC (.str (PySem.Str.ofString "01")))) (dCons (dD (dTup (dCons (dD (dC (.int 0))) (dCons (dD (dC (.int 1))) (dCons (dD (dC (.int 2))) (dCons (dD (dC (.int 2))) (dNil))))))) (dCons (dD (dTupRg (dC (.int 128)))) (dNil)))))))))))))))) (dNil)))))
    (dSeq (dSet 8 (dCall SD__law_hx_of (dCons (dHat 0) (dCons (dD (dL (dLst (dCons (dD (dC .none)) (dCons (dD (dTup (dNil))) (dCons (dD (dTup (dCons (dD (dC (.int 1))) (dNil)))) (dCons (dD (dTup (dCons (dD (dC (.int 1))) (dCons (dD (dC (.int 0))) (dNil))))) (dCons (dD (dTup (dCons (dD (dC (.int 1))) (dCons (dD (dC (.int 1))) (dCons (dD (dC (.int 1))) (dNil)))))) (dCons (dD (dL (dLst (dCons (dD (dC (.int 1))) (dCons (dD (dC (.int 1))) (dNil)))))) (dCons (dD (dTup (dCons (dD (dC (.int 1))) (dCons (dD (dC (.bool true))) (dNil))))) (dCons (dD (dC (.str (PySem.Str.ofString "11")))) (dCons (dD (dC (.int 1))) (dNil))))))))))))) (dNil)))))
    (dt__law_right))))))))
theorem ok__law_right {f cc PP : Addr} {fd : FuncData} {k : Nat} {SD : DSp} (F : FunC K "_law_right" "_law_right" s__law_right cc f fd) (len : ∀ ws Q, SD ws Q → ws.length = 1)
    (z_tuple : mg "tuple" = none)
    (z_range : mg "range" = none)
    (z_repr : mg "repr" = none)
    (h2 : 2 ≤ k) (TBL : LamX.TabB base mg cc PP) (hPP : (PP, some (("_law_right" : Str) ++ ".<locals>." ++ "<lambda>")) ∈ Ps)
    {f__law_hx_met : Addr} {d__law_hx_met : FuncData} (W__law_hx_met : L2.Fun K "_law_hx_met" "_law_hx_met" s__law_hx_met f__law_hx_met d__law_hx_met) (g__law_hx_met : mg "_law_hx_met" = some (.ref f__law_hx_met)) (b__law_hx_met : Binds K d__law_hx_met ["call"] []) (MG__law_hx_met : ∀ cdg : Value, MetG P w K mg base N__law_hx_met "_law_hx_met" (defScope s__law_hx_met) f__law_hx_met cdg (defBody s__law_hx_met) "call" hl__law_hx_met fine__law_hx_met)
    {f__law_hx_of : Addr} {d__law_hx_of : FuncData} {l__law_hx_of : Nat} {SD__law_hx_of : DSp} (h__law_hx_of : l__law_hx_of + 3 ≤ k) (G__law_hx_of : FnOk P w K mg base CX0 l__law_hx_of f__law_hx_of d__law_hx_of ["dice", "items"] (spOf K Ps SD__law_hx_of)) (g__law_hx_of : mg "_law_hx_of" = some (.ref f__law_hx_of)) (k__law_hx_of : PySem.W.keepIn K (.ref f__law_hx_of) = true) (b__law_hx_of : Binds K d__law_hx_of ["dice", "items"] [])
    {f_led_on : Addr} {d_led_on : FuncData} {l_led_on : Nat} (h_led_on : l_led_on + 3 ≤ k) (G_led_on : FnOk P w K mg base (L2.CX P w) l_led_on f_led_on d_led_on ["table", "seed", "k"] (spX K Ps fun E => ofF E F_led_on)) (g_led_on : mg "led_on" = some (.ref f_led_on)) (k_led_on : PySem.W.keepIn K (.ref f_led_on) = true) (b_led_on : Binds K d_led_on ["table", "seed", "k"] [])
    {f_map_excess : Addr} {d_map_excess : FuncData} {l_map_excess : Nat} (h_map_excess : l_map_excess + 3 ≤ k) (G_map_excess : FnOk P w K mg base (L2.CX P w) l_map_excess f_map_excess d_map_excess ["table", "test"] (spX K Ps fun E => ofF E F_map_excess)) (g_map_excess : mg "map_excess" = some (.ref f_map_excess)) (k_map_excess : PySem.W.keepIn K (.ref f_map_excess) = true) (b_map_excess : Binds K d_map_excess ["table", "test"] [])
    {f_long_excess : Addr} {d_long_excess : FuncData} {l_long_excess : Nat} (h_long_excess : l_long_excess + 3 ≤ k) (G_long_excess : FnOk P w K mg base (L2.CX P w) l_long_excess f_long_excess d_long_excess ["table", "k", "test"] (spX K Ps fun E => ofF E F_long_excess)) (g_long_excess : mg "long_excess" = some (.ref f_long_excess)) (k_long_excess : PySem.W.keepIn K (.ref f_long_excess) = true) (b_long_excess : Binds K d_long_excess ["table", "k", "test"] [])
    {f_step_test : Addr} {d_step_test : FuncData} {l_step_test : Nat} (h_step_test : l_step_test + 3 ≤ k) (G_step_test : FnOk P w K mg base (L2.CX P w) l_step_test f_step_test d_step_test ["table", "k", "test", "first"] (spX K Ps fun E => ofF E F_step_test)) (g_step_test : mg "step_test" = some (.ref f_step_test)) (k_step_test : PySem.W.keepIn K (.ref f_step_test) = true) (b_step_test : Binds K d_step_test ["table", "k", "test", "first"] [])
    {f_long_answer : Addr} {d_long_answer : FuncData} {l_long_answer : Nat} (h_long_answer : l_long_answer + 3 ≤ k) (G_long_answer : FnOk P w K mg base (L2.CX P w) l_long_answer f_long_answer d_long_answer ["table", "k", "test", "e"] (spX K Ps fun E => ofF E F_long_answer)) (g_long_answer : mg "long_answer" = some (.ref f_long_answer)) (k_long_answer : PySem.W.keepIn K (.ref f_long_answer) = true) (b_long_answer : Binds K d_long_answer ["table", "k", "test", "e"] [])
    {f_is_long_answer : Addr} {d_is_long_answer : FuncData} {l_is_long_answer : Nat} (h_is_long_answer : l_is_long_answer + 3 ≤ k) (G_is_long_answer : FnOk P w K mg base (L2.CX P w) l_is_long_answer f_is_long_answer d_is_long_answer ["table", "k", "test", "e", "value"] (spX K Ps fun E => ofF E F_is_long_answer)) (g_is_long_answer : mg "is_long_answer" = some (.ref f_is_long_answer)) (k_is_long_answer : PySem.W.keepIn K (.ref f_is_long_answer) = true) (b_is_long_answer : Binds K d_is_long_answer ["table", "k", "test", "e", "value"] [])
    {f_bit_map : Addr} {d_bit_map : FuncData} {l_bit_map : Nat} (h_bit_map : l_bit_map + 3 ≤ k) (G_bit_map : FnOk P w K mg base (L2.CX P w) l_bit_map f_bit_map d_bit_map ["turn", "truth"] (spX K Ps fun E => ofF E F_bit_map)) (g_bit_map : mg "bit_map" = some (.ref f_bit_map)) (k_bit_map : PySem.W.keepIn K (.ref f_bit_map) = true) (b_bit_map : Binds K d_bit_map ["turn", "truth"] [])
    {f_string_map : Addr} {d_string_map : FuncData} {l_string_map : Nat} (h_string_map : l_string_map + 3 ≤ k) (G_string_map : FnOk P w K mg base (L2.CX P w) l_string_map f_string_map d_string_map ["turn"] (spX K Ps fun E => ofF E F_string_map)) (g_string_map : mg "string_map" = some (.ref f_string_map)) (k_string_map : PySem.W.keepIn K (.ref f_string_map) = true) (b_string_map : Binds K d_string_map ["turn"] [])
    {f_back_list : Addr} {d_back_list : FuncData} {l_back_list : Nat} (h_back_list : l_back_list + 3 ≤ k) (G_back_list : FnOk P w K mg base (L2.CX P w) l_back_list f_back_list d_back_list ["turn", "test", "e"] (spX K Ps fun E => ofF E F_back_list)) (g_back_list : mg "back_list" = some (.ref f_back_list)) (k_back_list : PySem.W.keepIn K (.ref f_back_list) = true) (b_back_list : Binds K d_back_list ["turn", "test", "e"] [])
    (n_long_answer : PySem.W.nsIn K mainGlobals "long_answer" = some (some (.ref f_long_answer)))
    (pu : ∀ ws Qd, SD ws Qd → db__law_right SD__law_hx_of { nx := fun _ => Qd .none, rt := Qd } (startD N__law_right.length ws)) : FnG P w K mg base CX0 (k + 1) f fd ["dice"] (spOf K Ps SD) :=
  okDG (N := N__law_right) F sc__law_right len fun A outer s H E hgd hr => ⟨_, (have nd := sc__law_right.nd
    psd_cons (psd_set (i := 1) nd rfl (by first | exact Or.inl rfl | exact Or.inr rfl) (pd_call G__law_hx_of (hr.mono (by omega)) (by rfl) g__law_hx_of k__law_hx_of b__law_hx_of (pda_cons (pw_hat (pv 0)) (pda_cons (pw_dat (pd_new (pn_lst (pda_cons (pw_dat (pd_c pe_non (fun _ _ => .non))) (pda_cons (pw_dat (pd_tup (pda_nil))) (pda_cons (pw_dat (pd_tup (pda_cons (pw_dat (pd_tup (pda_cons (pw_dat (pd_c pe_int (fun _ _ => .int _))) (pda_nil)))) (pda_nil)))) (pda_cons (pw_dat (pd_tup (pda_cons (pw_dat (pd_tup (pda_cons (pw_dat (pd_c pe_int (fun _ _ => .int _))) (pda_cons (pw_dat (pd_c pe_int (fun _ _ => .int _))) (pda_nil))))) (pda_nil)))) (pda_cons (pw_dat (pd_tup (pda_cons (pw_dat (pd_tup (pda_cons (pw_dat (pd_c pe_int (fun _ _ => .int _))) (pda_cons (pw_dat (pd_c pe_int (fun _ _ => .int _))) (pda_nil))))) (pda_cons (pw_dat (pd_tup (pda_cons (pw_dat (pd_c pe_int (fun _ _ => .int _))) (pda_nil)))) (pda_nil))))) (pda_cons (pw_dat (pd_tup (pda_cons (pw_dat (pd_tup (pda_cons (pw_dat (pd_c pe_int (fun _ _ => .int _))) (pda_cons (pw_dat (pd_c pe_int (fun _ _ => .int _))) (pda_nil))))) (pda_cons (pw_dat (pd_tup (pda_cons (pw_dat (pd_c pe_int (fun _ _ => .int _))) (pda_cons (pw_dat (pd_c pe_int (fun _ _ => .int _))) (pda_nil))))) (pda_nil))))) (pda_cons (pw_dat (pd_new (pn_lst (pda_cons (pw_dat (pd_tup (pda_cons (pw_dat (pd_c pe_int (fun _ _ => .int _))) (pda_cons (pw_dat (pd_c pe_int (fun _ _ => .int _))) (pda_nil))))) (pda_cons (pw_dat (pd_tup (pda_cons (pw_dat (pd_c pe_int (fun _ _ => .int _))) (pda_cons (pw_dat (pd_c pe_int (fun _ _ => .int _))) (pda_nil))))) (pda_nil)))))) (pda_cons (pw_dat (pd_tup (pda_cons (pw_dat (pd_tup (pda_cons (pw_dat (pd_c pe_int (fun _ _ => .int _))) (pda_cons (pw_dat (pd_c pe_int (fun _ _ => .int _))) (pda_nil))))) (pda_cons (pw_dat (pd_new (pn_lst (pda_cons (pw_dat (pd_c pe_int (fun _ _ => .int _))) (pda_cons (pw_dat (pd_c pe_int (fun _ _ => .int _))) (pda_nil)))))) (pda_nil))))) (pda_cons (pw_dat (pd_tup (pda_cons (pw_dat (pd_tup (pda_cons (pw_dat (pd_c pe_int (fun _ _ => .int _))) (pda_cons (pw_dat (pd_c pe_int (fun _ _ => .int _))) (pda_nil))))) (pda_cons (pw_dat (pd_tup (pda_cons (pw_dat (pd_c pe_bl (fun _ _ => .bl _))) (pda_cons (pw_dat (pd_c pe_int (fun _ _ => .int _))) (pda_nil))))) (pda_nil))))) (pda_cons (pw_dat (pd_op op_repA (op2_repA) (pd_tup (pda_cons (pw_dat (pd_tup (pda_cons (pw_dat (pd_c pe_int (fun _ _ => .int _))) (pda_cons (pw_dat (pd_c pe_int (fun _ _ => .int _))) (pda_nil))))) (pda_nil))) (pd_c pe_int (fun _ _ => .int _)))) (pda_cons (pw_dat (pd_op op_repA (op2_repA) (pd_tup (pda_cons (pw_dat (pd_op op_repA (op2_repA) (pd_tup (pda_cons (pw_dat (pd_c pe_int (fun _ _ => .int _))) (pda_nil))) (pd_c pe_int (fun _ _ => .int _)))) (pda_nil))) (pd_c pe_int (fun _ _ => .int _)))) (pda_nil))))))))))))))) (pda_nil)))))
    (psd_cons (psd_set (i := 2) nd rfl (by first | exact Or.inl rfl | exact Or.inr rfl) (pd_call G__law_hx_of (hr.mono (by omega)) (by rfl) g__law_hx_of k__law_hx_of b__law_hx_of (pda_cons (pw_hat (pv 0)) (pda_cons (pw_dat (pd_new (pn_lst (pda_cons (pw_dat (pd_c pe_non (fun _ _ => .non))) (pda_cons (pw_dat (pd_tup (pda_nil))) (pda_cons (pw_dat (pd_tup (pda_cons (pw_dat (pd_c pe_int (fun _ _ => .int _))) (pda_nil)))) (pda_cons (pw_dat (pd_tup (pda_cons (pw_dat (pd_c pe_int (fun _ _ => .int _))) (pda_cons (pw_dat (pd_c pe_int (fun _ _ => .int _))) (pda_cons (pw_dat (pd_c pe_int (fun _ _ => .int _))) (pda_nil)))))) (pda_cons (pw_dat (pd_tup (pda_cons (pw_dat (pd_c pe_int (fun _ _ => .int _))) (pda_cons (pw_dat (pd_c pe_int (fun _ _ => .int _))) (pda_nil))))) (pda_cons (pw_dat (pd_new (pn_lst (pda_cons (pw_dat (pd_c pe_int (fun _ _ => .int _))) (pda_cons (pw_dat (pd_c pe_int (fun _ _ => .int _))) (pda_nil)))))) (pda_cons (pw_dat (pd_tup (pda_cons (pw_dat (pd_c pe_int (fun _ _ => .int _))) (pda_cons (pw_dat (pd_c pe_bl (fun _ _ => .bl _))) (pda_nil))))) (pda_cons (pw_dat (pd_c pe_str (fun _ _ => .str _))) (pda_cons (pw_dat (pd_c pe_int (fun _ _ => .int _))) (pda_nil))))))))))))) (pda_nil)))))
    (psd_cons (psd_set (i := 3) nd rfl (by first | exact Or.inl rfl | exact Or.inr rfl) (pd_call G__law_hx_of (hr.mono (by omega)) (by rfl) g__law_hx_of k__law_hx_of b__law_hx_of (pda_cons (pw_hat (pv 0)) (pda_cons (pw_dat (pd_new (pn_lst (pda_cons (pw_dat (pd_c pe_non (fun _ _ => .non))) (pda_cons (pw_dat (pd_c pe_int (fun _ _ => .int _))) (pda_cons (pw_dat (pd_c pe_int (fun _ _ => .int _))) (pda_cons (pw_dat (pd_neg (pd_c pe_int (fun _ _ => .int _)))) (pda_cons (pw_dat (pd_c pe_bl (fun _ _ => .bl _))) (pda_cons (pw_dat (pd_c pe_str (fun _ _ => .str _))) (pda_cons (pw_dat (pd_tup (pda_cons (pw_dat (pd_c pe_int (fun _ _ => .int _))) (pda_nil)))) (pda_cons (pw_dat (pd_op op_powB (op2_I fun _ _ _ _ => .int _) (pd_c pe_int (fun _ _ => .int _)) (pd_c pe_int (fun _ _ => .int _)))) (pda_nil)))))))))))) (pda_nil)))))
    (psd_cons (psd_set (i := 4) nd rfl (by first | exact Or.inl rfl | exact Or.inr rfl) (pd_call G__law_hx_of (hr.mono (by omega)) (by rfl) g__law_hx_of k__law_hx_of b__law_hx_of (pda_cons (pw_hat (pv 0)) (pda_cons (pw_dat (pd_new (pn_lst (pda_cons (pw_dat (pd_c pe_non (fun _ _ => .non))) (pda_cons (pw_dat (pd_tup (pda_nil))) (pda_cons (pw_dat (pd_tup (pda_cons (pw_dat (pd_c pe_int (fun _ _ => .int _))) (pda_cons (pw_dat (pd_c pe_int (fun _ _ => .int _))) (pda_nil))))) (pda_cons (pw_dat (pd_tup (pda_cons (pw_dat (pd_c pe_int (fun _ _ => .int _))) (pda_cons (pw_dat (pd_c pe_int (fun _ _ => .int _))) (pda_cons (pw_dat (pd_c pe_int (fun _ _ => .int _))) (pda_nil)))))) (pda_cons (pw_dat (pd_tup (pda_cons (pw_dat (pd_c pe_int (fun _ _ => .int _))) (pda_cons (pw_dat (pd_c pe_int (fun _ _ => .int _))) (pda_cons (pw_dat (pd_c pe_int (fun _ _ => .int _))) (pda_cons (pw_dat (pd_c pe_int (fun _ _ => .int _))) (pda_nil))))))) (pda_cons (pw_dat (pd_tup (pda_cons (pw_dat (pd_c pe_int (fun _ _ => .int _))) (pda_cons (pw_dat (pd_c pe_int (fun _ _ => .int _))) (pda_cons (pw_dat (pd_c pe_int (fun _ _ => .int _))) (pda_cons (pw_dat (pd_c pe_bl (fun _ _ => .bl _))) (pda_nil))))))) (pda_cons (pw_dat (pd_new (pn_lst (pda_cons (pw_dat (pd_c pe_int (fun _ _ => .int _))) (pda_cons (pw_dat (pd_c pe_int (fun _ _ => .int _))) (pda_cons (pw_dat (pd_c pe_int (fun _ _ => .int _))) (pda_cons (pw_dat (pd_c pe_int (fun _ _ => .int _))) (pda_nil)))))))) (pda_cons (pw_dat (pd_c pe_str (fun _ _ => .str _))) (pda_cons (pw_dat (pd_c pe_int (fun _ _ => .int _))) (pda_cons (pw_dat (pd_op op_repA (op2_repA) (pd_tup (pda_cons (pw_dat (pd_c pe_int (fun _ _ => .int _))) (pda_nil))) (pd_c pe_int (fun _ _ => .int _)))) (pda_nil)))))))))))))) (pda_nil)))))
    (psd_cons (psd_set (i := 5) nd rfl (by first | exact Or.inl rfl | exact Or.inr rfl) (pd_call G__law_hx_of (hr.mono (by omega)) (by rfl) g__law_hx_of k__law_hx_of b__law_hx_of (pda_cons (pw_hat (pv 0)) (pda_cons (pw_dat (pd_new (pn_lst (pda_cons (pw_dat (pd_c pe_non (fun _ _ => .non))) (pda_cons (pw_dat (pd_tup (pda_cons (pw_dat (pd_c pe_int (fun _ _ => .int _))) (pda_cons (pw_dat (pd_c pe_int (fun _ _ => .int _))) (pda_nil))))) (pda_cons (pw_dat (pd_tup (pda_cons (pw_dat (pd_c pe_int (fun _ _ => .int _))) (pda_nil)))) (pda_cons (pw_dat (pd_new (pn_lst (pda_cons (pw_dat (pd_c pe_int (fun _ _ => .int _))) (pda_nil))))) (pda_cons (pw_dat (pd_tup (pda_cons (pw_dat (pd_c pe_bl (fun _ _ => .bl _))) (pda_nil)))) (pda_cons (pw_dat (pd_c pe_str (fun _ _ => .str _))) (pda_cons (pw_dat (pd_c pe_int (fun _ _ => .int _))) (pda_cons (pw_dat (pd_tup (pda_cons (pw_dat (pd_c pe_int (fun _ _ => .int _))) (pda_cons (pw_dat (pd_c pe_int (fun _ _ => .int _))) (pda_cons (pw_dat (pd_c pe_int (fun _ _ => .int _))) (pda_nil)))))) (pda_nil)))))))))))) (pda_nil)))))
    (psd_cons (psd_set (i := 6) nd rfl (by first | exact Or.inl rfl | exact Or.inr rfl) (pd_call G__law_hx_of (hr.mono (by omega)) (by rfl) g__law_hx_of k__law_hx_of b__law_hx_of (pda_cons (pw_hat (pv 0)) (pda_cons (pw_dat (pd_new (pn_lst (pda_cons (pw_dat (pd_c pe_non (fun _ _ => .non))) (pda_cons (pw_dat (pd_tup (pda_cons (pw_dat (pd_neg (pd_c pe_int (fun _ _ => .int _)))) (pda_cons (pw_dat (pd_c pe_int (fun _ _ => .int _))) (pda_nil))))) (pda_cons (pw_dat (pd_tup (pda_cons (pw_dat (pd_c pe_int (fun _ _ => .int _))) (pda_cons (pw_dat (pd_c pe_int (fun _ _ => .int _))) (pda_nil))))) (pda_cons (pw_dat (pd_tup (pda_cons (pw_dat (pd_c pe_int (fun _ _ => .int _))) (pda_cons (pw_dat (pd_c pe_int (fun _ _ => .int _))) (pda_nil))))) (pda_cons (pw_dat (pd_c pe_int (fun _ _ => .int _))) (pda_cons (pw_dat (pd_tup (pda_cons (pw_dat (pd_c pe_int (fun _ _ => .int _))) (pda_cons (pw_dat (pd_c pe_int (fun _ _ => .int _))) (pda_nil))))) (pda_cons (pw_dat (pd_new (pn_lst (pda_cons (pw_dat (pd_c pe_int (fun _ _ => .int _))) (pda_cons (pw_dat (pd_c pe_int (fun _ _ => .int _))) (pda_nil)))))) (pda_cons (pw_dat (pd_tup (pda_cons (pw_dat (pd_c pe_int (fun _ _ => .int _))) (pda_cons (pw_dat (pd_c pe_int (fun _ _ => .int _))) (pda_nil))))) (pda_cons (pw_dat (pd_tup (pda_cons (pw_dat (pd_c pe_int (fun _ _ => .int _))) (pda_cons (pw_dat (pd_op op_powB (op2_I fun _ _ _ _ => .int _) (pd_c pe_int (fun _ _ => .int _)) (pd_c pe_int (fun _ _ => .int _)))) (pda_nil))))) (pda_cons (pw_dat (pd_c pe_str (fun _ _ => .str _))) (pda_nil)))))))))))))) (pda_nil)))))
    (psd_cons (psd_set (i := 7) nd rfl (by first | exact Or.inl rfl | exact Or.inr rfl) (pd_call G__law_hx_of (hr.mono (by omega)) (by rfl) g__law_hx_of k__law_hx_of b__law_hx_of (pda_cons (pw_hat (pv 0)) (pda_cons (pw_dat (pd_new (pn_lst (pda_cons (pw_dat (pd_c pe_non (fun _ _ => .non))) (pda_cons (pw_dat (pd_tup (pda_nil))) (pda_cons (pw_dat (pd_tup (pda_cons (pw_dat (pd_c pe_int (fun _ _ => .int _))) (pda_nil)))) (pda_cons (pw_dat (pd_tup (pda_cons (pw_dat (pd_c pe_int (fun _ _ => .int _))) (pda_cons (pw_dat (pd_c pe_int (fun _ _ => .int _))) (pda_nil))))) (pda_cons (pw_dat (pd_tup (pda_cons (pw_dat (pd_c pe_int (fun _ _ => .int _))) (pda_cons (pw_dat (pd_c pe_int (fun _ _ => .int _))) (pda_nil))))) (pda_cons (pw_dat (pd_new (pn_lst (pda_cons (pw_dat (pd_c pe_int (fun _ _ => .int _))) (pda_cons (pw_dat (pd_c pe_int (fun _ _ => .int _))) (pda_nil)))))) (pda_cons (pw_dat (pd_tup (pda_cons (pw_dat (pd_c pe_int (fun _ _ => .int _))) (pda_cons (pw_dat (pd_c pe_bl (fun _ _ => .bl _))) (pda_nil))))) (pda_cons (pw_dat (pd_tup (pda_cons (pw_dat (pd_c pe_int (fun _ _ => .int _))) (pda_cons (pw_dat (pd_c pe_int (fun _ _ => .int _))) (pda_cons (pw_dat (pd_c pe_int (fun _ _ => .int _))) (pda_nil)))))) (pda_cons (pw_dat (pd_tup (pda_cons (pw_dat (pd_neg (pd_c pe_int (fun _ _ => .int _)))) (pda_cons (pw_dat (pd_c pe_int (fun _ _ => .int _))) (pda_nil))))) (pda_cons (pw_dat (pd_c pe_str (fun _ _ => .str _))) (pda_cons (pw_dat (pd_tup (pda_cons (pw_dat (pd_c pe_int (fun _ _ => .int _))) (pda_cons (pw_dat (pd_c pe_int (fun _ _ => .int _))) (pda_cons (pw_dat (pd_c pe_int (fun _ _ => .int _))) (pda_cons (pw_dat (pd_c pe_int (fun _ _ => .int _))) (pda_nil))))))) (pda_cons (pw_dat (pd_tupRg rfl (by rfl) z_tuple (by rfl) z_range (pd_c pe_int (fun _ _ => .int _)))) (pda_nil)))))))))))))))) (pda_nil)))))
    (psd_cons (psd_set (i := 8) nd rfl (by first | exact Or.inl rfl | exact Or.inr rfl) (pd_call G__law_hx_of (hr.mono (by omega)) (by rfl) g__law_hx_of k__law_hx_of b__law_hx_of (pda_cons (pw_hat (pv 0)) (pda_cons (pw_dat (pd_new (pn_lst (pda_cons (pw_dat (pd_c pe_non (fun _ _ => .non))) (pda_cons (pw_dat (pd_tup (pda_nil))) (pda_cons (pw_dat (pd_tup (pda_cons (pw_dat (pd_c pe_int (fun _ _ => .int _))) (pda_nil)))) (pda_cons (pw_dat (pd_tup (pda_cons (pw_dat (pd_c pe_int (fun _ _ => .int _))) (pda_cons (pw_dat (pd_c pe_int (fun _ _ => .int _))) (pda_nil))))) (pda_cons (pw_dat (pd_tup (pda_cons (pw_dat (pd_c pe_int (fun _ _ => .int _))) (pda_cons (pw_dat (pd_c pe_int (fun _ _ => .int _))) (pda_cons (pw_dat (pd_c pe_int (fun _ _ => .int _))) (pda_nil)))))) (pda_cons (pw_dat (pd_new (pn_lst (pda_cons (pw_dat (pd_c pe_int (fun _ _ => .int _))) (pda_cons (pw_dat (pd_c pe_int (fun _ _ => .int _))) (pda_nil)))))) (pda_cons (pw_dat (pd_tup (pda_cons (pw_dat (pd_c pe_int (fun _ _ => .int _))) (pda_cons (pw_dat (pd_c pe_bl (fun _ _ => .bl _))) (pda_nil))))) (pda_cons (pw_dat (pd_c pe_str (fun _ _ => .str _))) (pda_cons (pw_dat (pd_c pe_int (fun _ _ => .int _))) (pda_nil))))))))))))) (pda_nil)))))
    (psd_cons (psd_asgG (pd_tup (pda_cons (pw_dat (pd_tup (pda_cons (pw_dat (pd_tup (pda_cons (pw_dat (pd_c pe_int (fun _ _ => .int _))) (pda_cons (pw_dat (pd_c pe_int (fun _ _ => .int _))) (pda_cons (pw_dat (pd_c pe_int (fun _ _ => .int _))) (pda_nil)))))) (pda_cons (pw_dat (pd_tup (pda_cons (pw_dat (pd_c pe_int (fun _ _ => .int _))) (pda_cons (pw_dat (pd_c pe_int (fun _ _ => .int _))) (pda_cons (pw_dat (pd_c pe_int (fun _ _ => .int _))) (pda_nil)))))) (pda_cons (pw_dat (pd_tup (pda_cons (pw_dat (pd_c pe_int (fun _ _ => .int _))) (pda_cons (pw_dat (pd_c pe_int (fun _ _ => .int _))) (pda_cons (pw_dat (pd_c pe_int (fun _ _ => .int _))) (pda_nil)))))) (pda_cons (pw_dat (pd_tup (pda_cons (pw_dat (pd_c pe_int (fun _ _ => .int _))) (pda_cons (pw_dat (pd_c pe_int (fun _ _ => .int _))) (pda_cons (pw_dat (pd_c pe_int (fun _ _ => .int _))) (pda_nil)))))) (pda_nil))))))) (pda_cons (pw_dat (pd_tup (pda_cons (pw_dat (pd_c pe_int (fun _ _ => .int _))) (pda_cons (pw_dat (pd_c pe_int (fun _ _ => .int _))) (pda_cons (pw_dat (pd_c pe_int (fun _ _ => .int _))) (pda_cons (pw_dat (pd_c pe_int (fun _ _ => .int _))) (pda_nil))))))) (pda_cons (pw_dat (pd_op op_repA (op2_repA) (pd_tup (pda_cons (pw_dat (pd_c pe_int (fun _ _ => .int _))) (pda_nil))) (pd_c pe_int (fun _ _ => .int _)))) (pda_nil))))) (pgd_seq rfl (pgsd_cons (pgd_name (pg_name (i := 13) nd rfl (by first | exact Or.inl rfl | exact Or.inr rfl))) (pgsd_cons (pgd_name (pg_name (i := 14) nd rfl (by first | exact Or.inl rfl | exact Or.inr rfl))) (pgsd_cons (pgd_name (pg_name (i := 15) nd rfl (by first | exact Or.inl rfl | exact Or.inr rfl))) (pgsd_nil))))))
    (psd_cons (psd_setO (i := 9) nd rfl (by first | exact Or.inl rfl | exact Or.inr rfl) (pn_lst (pda_cons (pw_dat (pd_met2 (k := k - 2) (de := fun Ed => dCall (ofF Ed F_led_on) (dCons (dD (dVar 1)) (dCons (dD (dVar 2)) (dCons (dD (dVar 3)) (dNil))))) (hr.mono (by omega)) hgd (by rfl) g__law_hx_met W__law_hx_met b__law_hx_met sc__law_hx_met rfl (.inl rfl) MG__law_hx_met TBL rfl qual_cx hPP (sc := defScope s__law_right) rfl (by decide +kernel) (by rfl) (by intros; rfl) (fun _ _ _ _ _ Ed _ _ hr tk => by exact pd_callX (SD := fun E => ofF E F_led_on) G_led_on tk (hr.mono (by omega)) (by rfl) g_led_on k_led_on b_led_on (pda_cons (pw_dat (pd_var (pv 1))) (pda_cons (pw_dat (pd_var (pv 2))) (pda_cons (pw_dat (pd_var (pv 3))) (pda_nil))))))) (pda_nil))))
    (psd_cons (psd_app (pv 9) (pd_met2 (k := k - 2) (de := fun Ed => dCall (ofF Ed F_led_on) (dCons (dD (dVar 13)) (dCons (dD (dVar 2)) (dCons (dD (dVar 3)) (dNil))))) (hr.mono (by omega)) hgd (by rfl) g__law_hx_met W__law_hx_met b__law_hx_met sc__law_hx_met rfl (.inl rfl) MG__law_hx_met TBL rfl qual_cx hPP (sc := defScope s__law_right) rfl (by decide +kernel) (by rfl) (by intros; rfl) (fun _ _ _ _ _ Ed _ _ hr tk => by exact pd_callX (SD := fun E => ofF E F_led_on) G_led_on tk (hr.mono (by omega)) (by rfl) g_led_on k_led_on b_led_on (pda_cons (pw_dat (pd_var (pv 13))) (pda_cons (pw_dat (pd_var (pv 2))) (pda_cons (pw_dat (pd_var (pv 3))) (pda_nil)))))))
    (psd_cons (psd_app (pv 9) (pd_met2 (k := k - 2) (de := fun Ed => dCall (ofF Ed F_led_on) (dCons (dD (dVar 13)) (dCons (dD (dTup (dCons (dD (dC (.int 0))) (dCons (dD (dC (.int 1))) (dNil))))) (dCons (dD (dVar 3)) (dNil))))) (hr.mono (by omega)) hgd (by rfl) g__law_hx_met W__law_hx_met b__law_hx_met sc__law_hx_met rfl (.inl rfl) MG__law_hx_met TBL rfl qual_cx hPP (sc := defScope s__law_right) rfl (by decide +kernel) (by rfl) (by intros; rfl) (fun _ _ _ _ _ Ed _ _ hr tk => by exact pd_callX (SD := fun E => ofF E F_led_on) G_led_on tk (hr.mono (by omega)) (by rfl) g_led_on k_led_on b_led_on (pda_cons (pw_dat (pd_var (pv 13))) (pda_cons (pw_dat (pd_tup (pda_cons (pw_dat (pd_c pe_int (fun _ _ => .int _))) (pda_cons (pw_dat (pd_c pe_int (fun _ _ => .int _))) (pda_nil))))) (pda_cons (pw_dat (pd_var (pv 3))) (pda_nil)))))))
    (psd_cons (psd_app (pv 9) (pd_met2 (k := k - 2) (de := fun Ed => dCall (ofF Ed F_map_excess) (dCons (dD (dVar 1)) (dCons (dD (dVar 4)) (dNil)))) (hr.mono (by omega)) hgd (by rfl) g__law_hx_met W__law_hx_met b__law_hx_met sc__law_hx_met rfl (.inl rfl) MG__law_hx_met TBL rfl qual_cx hPP (sc := defScope s__law_right) rfl (by decide +kernel) (by rfl) (by intros; rfl) (fun _ _ _ _ _ Ed _ _ hr tk => by exact pd_callX (SD := fun E => ofF E F_map_excess) G_map_excess tk (hr.mono (by omega)) (by rfl) g_map_excess k_map_excess b_map_excess (pda_cons (pw_dat (pd_var (pv 1))) (pda_cons (pw_dat (pd_var (pv 4))) (pda_nil))))))
    (psd_cons (psd_app (pv 9) (pd_met2 (k := k - 2) (de := fun Ed => dCall (ofF Ed F_map_excess) (dCons (dD (dVar 13)) (dCons (dD (dVar 4)) (dNil)))) (hr.mono (by omega)) hgd (by rfl) g__law_hx_met W__law_hx_met b__law_hx_met sc__law_hx_met rfl (.inl rfl) MG__law_hx_met TBL rfl qual_cx hPP (sc := defScope s__law_right) rfl (by decide +kernel) (by rfl) (by intros; rfl) (fun _ _ _ _ _ Ed _ _ hr tk => by exact pd_callX (SD := fun E => ofF E F_map_excess) G_map_excess tk (hr.mono (by omega)) (by rfl) g_map_excess k_map_excess b_map_excess (pda_cons (pw_dat (pd_var (pv 13))) (pda_cons (pw_dat (pd_var (pv 4))) (pda_nil))))))
    (psd_cons (psd_app (pv 9) (pd_met2 (k := k - 2) (de := fun Ed => dCall (ofF Ed F_long_excess) (dCons (dD (dVar 1)) (dCons (dD (dVar 3)) (dCons (dD (dVar 4)) (dNil))))) (hr.mono (by omega)) hgd (by rfl) g__law_hx_met W__law_hx_met b__law_hx_met sc__law_hx_met rfl (.inl rfl) MG__law_hx_met TBL rfl qual_cx hPP (sc := defScope s__law_right) rfl (by decide +kernel) (by rfl) (by intros; rfl) (fun _ _ _ _ _ Ed _ _ hr tk => by exact pd_callX (SD := fun E => ofF E F_long_excess) G_long_excess tk (hr.mono (by omega)) (by rfl) g_long_excess k_long_excess b_long_excess (pda_cons (pw_dat (pd_var (pv 1))) (pda_cons (pw_dat (pd_var (pv 3))) (pda_cons (pw_dat (pd_var (pv 4))) (pda_nil)))))))
    (psd_cons (psd_app (pv 9) (pd_met2 (k := k - 2) (de := fun Ed => dCall (ofF Ed F_long_excess) (dCons (dD (dVar 13)) (dCons (dD (dVar 3)) (dCons (dD (dVar 4)) (dNil))))) (hr.mono (by omega)) hgd (by rfl) g__law_hx_met W__law_hx_met b__law_hx_met sc__law_hx_met rfl (.inl rfl) MG__law_hx_met TBL rfl qual_cx hPP (sc := defScope s__law_right) rfl (by decide +kernel) (by rfl) (by intros; rfl) (fun _ _ _ _ _ Ed _ _ hr tk => by exact pd_callX (SD := fun E => ofF E F_long_excess) G_long_excess tk (hr.mono (by omega)) (by rfl) g_long_excess k_long_excess b_long_excess (pda_cons (pw_dat (pd_var (pv 13))) (pda_cons (pw_dat (pd_var (pv 3))) (pda_cons (pw_dat (pd_var (pv 4))) (pda_nil)))))))
    (psd_cons (psd_app (pv 9) (pd_met2 (k := k - 2) (de := fun Ed => dCall (ofF Ed F_long_excess) (dCons (dD (dVar 13)) (dCons (dD (dC (.int 2))) (dCons (dD (dVar 4)) (dNil))))) (hr.mono (by omega)) hgd (by rfl) g__law_hx_met W__law_hx_met b__law_hx_met sc__law_hx_met rfl (.inl rfl) MG__law_hx_met TBL rfl qual_cx hPP (sc := defScope s__law_right) rfl (by decide +kernel) (by rfl) (by intros; rfl) (fun _ _ _ _ _ Ed _ _ hr tk => by exact pd_callX (SD := fun E => ofF E F_long_excess) G_long_excess tk (hr.mono (by omega)) (by rfl) g_long_excess k_long_excess b_long_excess (pda_cons (pw_dat (pd_var (pv 13))) (pda_cons (pw_dat (pd_c pe_int (fun _ _ => .int _))) (pda_cons (pw_dat (pd_var (pv 4))) (pda_nil)))))))
    (psd_cons (psd_app (pv 9) (pd_met2 (k := k - 2) (de := fun Ed => dCall (ofF Ed F_step_test) (dCons (dD (dVar 13)) (dCons (dD (dVar 3)) (dCons (dD (dVar 4)) (dCons (dD (dVar 5)) (dNil)))))) (hr.mono (by omega)) hgd (by rfl) g__law_hx_met W__law_hx_met b__law_hx_met sc__law_hx_met rfl (.inl rfl) MG__law_hx_met TBL rfl qual_cx hPP (sc := defScope s__law_right) rfl (by decide +kernel) (by rfl) (by intros; rfl) (fun _ _ _ _ _ Ed _ _ hr tk => by exact pd_callX (SD := fun E => ofF E F_step_test) G_step_test tk (hr.mono (by omega)) (by rfl) g_step_test k_step_test b_step_test (pda_cons (pw_dat (pd_var (pv 13))) (pda_cons (pw_dat (pd_var (pv 3))) (pda_cons (pw_dat (pd_var (pv 4))) (pda_cons (pw_dat (pd_var (pv 5))) (pda_nil))))))))
    (psd_cons (psd_app (pv 9) (pd_met2 (k := k - 2) (de := fun Ed => dCall (ofF Ed F_step_test) (dCons (dD (dVar 13)) (dCons (dD (dC (.int 2))) (dCons (dD (dVar 4)) (dCons (dD (dVar 5)) (dNil)))))) (hr.mono (by omega)) hgd (by rfl) g__law_hx_met W__law_hx_met b__law_hx_met sc__law_hx_met rfl (.inl rfl) MG__law_hx_met TBL rfl qual_cx hPP (sc := defScope s__law_right) rfl (by decide +kernel) (by rfl) (by intros; rfl) (fun _ _ _ _ _ Ed _ _ hr tk => by exact pd_callX (SD := fun E => ofF E F_step_test) G_step_test tk (hr.mono (by omega)) (by rfl) g_step_test k_step_test b_step_test (pda_cons (pw_dat (pd_var (pv 13))) (pda_cons (pw_dat (pd_c pe_int (fun _ _ => .int _))) (pda_cons (pw_dat (pd_var (pv 4))) (pda_cons (pw_dat (pd_var (pv 5))) (pda_nil))))))))
    (psd_cons (psd_app (pv 9) (pd_met2 (k := k - 2) (de := fun Ed => dCall (ofF Ed F_step_test) (dCons (dD (dVar 13)) (dCons (dD (dC (.int 2))) (dCons (dD (dVar 14)) (dCons (dD (dVar 5)) (dNil)))))) (hr.mono (by omega)) hgd (by rfl) g__law_hx_met W__law_hx_met b__law_hx_met sc__law_hx_met rfl (.inl rfl) MG__law_hx_met TBL rfl qual_cx hPP (sc := defScope s__law_right) rfl (by decide +kernel) (by rfl) (by intros; rfl) (fun _ _ _ _ _ Ed _ _ hr tk => by exact pd_callX (SD := fun E => ofF E F_step_test) G_step_test tk (hr.mono (by omega)) (by rfl) g_step_test k_step_test b_step_test (pda_cons (pw_dat (pd_var (pv 13))) (pda_cons (pw_dat (pd_c pe_int (fun _ _ => .int _))) (pda_cons (pw_dat (pd_var (pv 14))) (pda_cons (pw_dat (pd_var (pv 5))) (pda_nil))))))))
    (psd_cons (psd_set (i := 10) nd rfl (by first | exact Or.inl rfl | exact Or.inr rfl) (pd_new (pn_lst (pda_cons (pw_dat (pd_c pe_str (fun _ _ => .str _))) (pda_cons (pw_dat (pd_c pe_str (fun _ _ => .str _))) (pda_cons (pw_dat (pd_op op_addA (op2_catS) (pd_c pe_str (fun _ _ => .str _)) (pd_callN (call_reprD hgd hr.units) opn_repr (by rfl) z_repr (by decide +kernel) (pda_cons (pw_dat (pd_var (pv 3))) (pda_nil))))) (pda_cons (pw_dat (pd_c pe_str (fun _ _ => .str _))) (pda_cons (pw_dat (pd_c pe_str (fun _ _ => .str _))) (pda_cons (pw_dat (pd_c pe_str (fun _ _ => .str _))) (pda_cons (pw_dat (pd_op op_addA (op2_catS) (pd_c pe_str (fun _ _ => .str _)) (pd_callN (call_reprD hgd hr.units) opn_repr (by rfl) z_repr (by decide +kernel) (pda_cons (pw_dat (pd_var (pv 3))) (pda_nil))))) (pda_cons (pw_dat (pd_c pe_str (fun _ _ => .str _))) (pda_cons (pw_dat (pd_op op_addA (op2_catS) (pd_c pe_str (fun _ _ => .str _)) (pd_callN (call_reprD hgd hr.units) opn_repr (by rfl) z_repr (by decide +kernel) (pda_cons (pw_dat (pd_var (pv 3))) (pda_nil))))) (pda_cons (pw_dat (pd_c pe_str (fun _ _ => .str _))) (pda_cons (pw_dat (pd_c pe_str (fun _ _ => .str _))) (pda_nil)))))))))))))))
    (psd_cons (psd_forW PassesOwn.never rfl (pda_cons (pw_fn (by rfl) g_long_answer n_long_answer) (pda_cons (pw_lam2 (key := "_law_right.21.1") TBL rfl qual_cx hPP rfl rfl (by intro _; rfl) (by decide +kernel)) (pda_nil))) (pg_name (i := 11) nd rfl (by first | exact Or.inl rfl | exact Or.inr rfl)) (psd_cons (psd_app (pv 9) (pd_met2 (k := k - 2) (de := fun Ed => dCallW Ed 11 [("long_answer", F_long_answer)] [("_law_right.21.1", LF__law_right_21_1)] (dCons (dD (dVar 1)) (dCons (dD (dVar 3)) (dCons (dD (dVar 4)) (dCons (dD (dVar 6)) (dNil)))))) (hr.mono (by omega)) hgd (by rfl) g__law_hx_met W__law_hx_met b__law_hx_met sc__law_hx_met rfl (.inl rfl) MG__law_hx_met TBL rfl qual_cx hPP (sc := defScope s__law_right) rfl (by decide +kernel) (by rfl) (by intros; rfl) (fun _ _ _ _ _ Ed _ _ hr tk => by exact pd_callW (k := k - 2) (i := 11) (tab := [("long_answer", F_long_answer)]) (tal := [("_law_right.21.1", LF__law_right_21_1)]) (heldN_cons (n := "long_answer") G_long_answer (by omega) n_long_answer k_long_answer b_long_answer (heldN_nil)) (heldL_cons (n := "_law_right.21.1") (la__law_right_21_1 (k := k - 3) (by omega) G_is_long_answer g_is_long_answer k_is_long_answer b_is_long_answer) (by omega) (heldL_nil)) tk (hr.mono (by omega)) (by rfl) (by first | exact Or.inl rfl | exact Or.inr (Or.inl rfl) | exact Or.inr (Or.inr rfl)) (pda_cons (pw_dat (pd_var (pv 1))) (pda_cons (pw_dat (pd_var (pv 3))) (pda_cons (pw_dat (pd_var (pv 4))) (pda_cons (pw_dat (pd_var (pv 6))) (pda_nil))))))))
    (psd_cons (psd_app (pv 9) (pd_met2 (k := k - 2) (de := fun Ed => dCallW Ed 11 [("long_answer", F_long_answer)] [("_law_right.21.1", LF__law_right_21_1)] (dCons (dD (dVar 13)) (dCons (dD (dVar 3)) (dCons (dD (dVar 4)) (dCons (dD (dVar 6)) (dNil)))))) (hr.mono (by omega)) hgd (by rfl) g__law_hx_met W__law_hx_met b__law_hx_met sc__law_hx_met rfl (.inl rfl) MG__law_hx_met TBL rfl qual_cx hPP (sc := defScope s__law_right) rfl (by decide +kernel) (by rfl) (by intros; rfl) (fun _ _ _ _ _ Ed _ _ hr tk => by exact pd_callW (k := k - 2) (i := 11) (tab := [("long_answer", F_long_answer)]) (tal := [("_law_right.21.1", LF__law_right_21_1)]) (heldN_cons (n := "long_answer") G_long_answer (by omega) n_long_answer k_long_answer b_long_answer (heldN_nil)) (heldL_cons (n := "_law_right.21.1") (la__law_right_21_1 (k := k - 3) (by omega) G_is_long_answer g_is_long_answer k_is_long_answer b_is_long_answer) (by omega) (heldL_nil)) tk (hr.mono (by omega)) (by rfl) (by first | exact Or.inl rfl | exact Or.inr (Or.inl rfl) | exact Or.inr (Or.inr rfl)) (pda_cons (pw_dat (pd_var (pv 13))) (pda_cons (pw_dat (pd_var (pv 3))) (pda_cons (pw_dat (pd_var (pv 4))) (pda_cons (pw_dat (pd_var (pv 6))) (pda_nil))))))))
    (psd_cons (psd_app (pv 9) (pd_met2 (k := k - 2) (de := fun Ed => dCallW Ed 11 [("long_answer", F_long_answer)] [("_law_right.21.1", LF__law_right_21_1)] (dCons (dD (dVar 13)) (dCons (dD (dC (.int 2))) (dCons (dD (dVar 4)) (dCons (dD (dVar 6)) (dNil)))))) (hr.mono (by omega)) hgd (by rfl) g__law_hx_met W__law_hx_met b__law_hx_met sc__law_hx_met rfl (.inl rfl) MG__law_hx_met TBL rfl qual_cx hPP (sc := defScope s__law_right) rfl (by decide +kernel) (by rfl) (by intros; rfl) (fun _ _ _ _ _ Ed _ _ hr tk => by exact pd_callW (k := k - 2) (i := 11) (tab := [("long_answer", F_long_answer)]) (tal := [("_law_right.21.1", LF__law_right_21_1)]) (heldN_cons (n := "long_answer") G_long_answer (by omega) n_long_answer k_long_answer b_long_answer (heldN_nil)) (heldL_cons (n := "_law_right.21.1") (la__law_right_21_1 (k := k - 3) (by omega) G_is_long_answer g_is_long_answer k_is_long_answer b_is_long_answer) (by omega) (heldL_nil)) tk (hr.mono (by omega)) (by rfl) (by first | exact Or.inl rfl | exact Or.inr (Or.inl rfl) | exact Or.inr (Or.inr rfl)) (pda_cons (pw_dat (pd_var (pv 13))) (pda_cons (pw_dat (pd_c pe_int (fun _ _ => .int _))) (pda_cons (pw_dat (pd_var (pv 4))) (pda_cons (pw_dat (pd_var (pv 6))) (pda_nil))))))))
    (psd_cons (psd_app (pv 9) (pd_met2 (k := k - 2) (de := fun Ed => dCallW Ed 11 [("long_answer", F_long_answer)] [("_law_right.21.1", LF__law_right_21_1)] (dCons (dD (dVar 13)) (dCons (dD (dC (.int 2))) (dCons (dD (dVar 14)) (dCons (dD (dVar 6)) (dNil)))))) (hr.mono (by omega)) hgd (by rfl) g__law_hx_met W__law_hx_met b__law_hx_met sc__law_hx_met rfl (.inl rfl) MG__law_hx_met TBL rfl qual_cx hPP (sc := defScope s__law_right) rfl (by decide +kernel) (by rfl) (by intros; rfl) (fun _ _ _ _ _ Ed _ _ hr tk => by exact pd_callW (k := k - 2) (i := 11) (tab := [("long_answer", F_long_answer)]) (tal := [("_law_right.21.1", LF__law_right_21_1)]) (heldN_cons (n := "long_answer") G_long_answer (by omega) n_long_answer k_long_answer b_long_answer (heldN_nil)) (heldL_cons (n := "_law_right.21.1") (la__law_right_21_1 (k := k - 3) (by omega) G_is_long_answer g_is_long_answer k_is_long_answer b_is_long_answer) (by omega) (heldL_nil)) tk (hr.mono (by omega)) (by rfl) (by first | exact Or.inl rfl | exact Or.inr (Or.inl rfl) | exact Or.inr (Or.inr rfl)) (pda_cons (pw_dat (pd_var (pv 13))) (pda_cons (pw_dat (pd_c pe_int (fun _ _ => .int _))) (pda_cons (pw_dat (pd_var (pv 14))) (pda_cons (pw_dat (pd_var (pv 6))) (pda_nil))))))))
    (psd_one (psd_set (i := 10) nd rfl (by first | exact Or.inl rfl | exact Or.inr rfl) (pd_new (pn_cat (pq_var (pv 10)) (pq_dat (pd_new (pn_lst (pda_cons (pw_dat (pd_c pe_str (fun _ _ => .str _))) (pda_cons (pw_dat (pd_op op_addA (op2_catS) (pd_c pe_str (fun _ _ => .str _)) (pd_callN (call_reprD hgd hr.units) opn_repr (by rfl) z_repr (by decide +kernel) (pda_cons (pw_dat (pd_var (pv 3))) (pda_nil))))) (pda_cons (pw_dat (pd_c pe_str (fun _ _ => .str _))) (pda_cons (pw_dat (pd_c pe_str (fun _ _ => .str _))) (pda_nil)))))))))))))))))
    (psd_cons (psd_set (i := 12) nd rfl (by first | exact Or.inl rfl | exact Or.inr rfl) (pd_if (pt_d_cmp (op_ne2 hr.units) (op2_ne2) (pd_var (pv 6)) (pd_tup (pda_cons (pw_dat (pd_c pe_int (fun _ _ => .int _))) (pda_cons (pw_dat (pd_c pe_int (fun _ _ => .int _))) (pda_nil)))) (nomark _)) (pd_var (pv 6)) (pd_tup (pda_cons (pw_dat (pd_c pe_int (fun _ _ => .int _))) (pda_cons (pw_dat (pd_c pe_int (fun _ _ => .int _))) (pda_nil))))))
    (psd_cons (psd_app (pv 9) (pd_met2 (k := k - 2) (de := fun Ed => dCall (ofF Ed F_bit_map) (dCons (dD (dVar 7)) (dCons (dD (dVar 8)) (dNil)))) (hr.mono (by omega)) hgd (by rfl) g__law_hx_met W__law_hx_met b__law_hx_met sc__law_hx_met rfl (.inl rfl) MG__law_hx_met TBL rfl qual_cx hPP (sc := defScope s__law_right) rfl (by decide +kernel) (by rfl) (by intros; rfl) (fun _ _ _ _ _ Ed _ _ hr tk => by exact pd_callX (SD := fun E => ofF E F_bit_map) G_bit_map tk (hr.mono (by omega)) (by rfl) g_bit_map k_bit_map b_bit_map (pda_cons (pw_dat (pd_var (pv 7))) (pda_cons (pw_dat (pd_var (pv 8))) (pda_nil))))))
    (psd_cons (psd_app (pv 9) (pd_met2 (k := k - 2) (de := fun Ed => dCall (ofF Ed F_bit_map) (dCons (dD (dTup (dCons (dD (dC (.int 1))) (dCons (dD (dC (.int 0))) (dNil))))) (dCons (dD (dVar 8)) (dNil)))) (hr.mono (by omega)) hgd (by rfl) g__law_hx_met W__law_hx_met b__law_hx_met sc__law_hx_met rfl (.inl rfl) MG__law_hx_met TBL rfl qual_cx hPP (sc := defScope s__law_right) rfl (by decide +kernel) (by rfl) (by intros; rfl) (fun _ _ _ _ _ Ed _ _ hr tk => by exact pd_callX (SD := fun E => ofF E F_bit_map) G_bit_map tk (hr.mono (by omega)) (by rfl) g_bit_map k_bit_map b_bit_map (pda_cons (pw_dat (pd_tup (pda_cons (pw_dat (pd_c pe_int (fun _ _ => .int _))) (pda_cons (pw_dat (pd_c pe_int (fun _ _ => .int _))) (pda_nil))))) (pda_cons (pw_dat (pd_var (pv 8))) (pda_nil))))))
    (psd_cons (psd_app (pv 9) (pd_met2 (k := k - 2) (de := fun Ed => dCall (ofF Ed F_string_map) (dCons (dD (dVar 7)) (dNil))) (hr.mono (by omega)) hgd (by rfl) g__law_hx_met W__law_hx_met b__law_hx_met sc__law_hx_met rfl (.inl rfl) MG__law_hx_met TBL rfl qual_cx hPP (sc := defScope s__law_right) rfl (by decide +kernel) (by rfl) (by intros; rfl) (fun _ _ _ _ _ Ed _ _ hr tk => by exact pd_callX (SD := fun E => ofF E F_string_map) G_string_map tk (hr.mono (by omega)) (by rfl) g_string_map k_string_map b_string_map (pda_cons (pw_dat (pd_var (pv 7))) (pda_nil)))))
    (psd_cons (psd_app (pv 9) (pd_met2 (k := k - 2) (de := fun Ed => dCall (ofF Ed F_back_list) (dCons (dD (dVar 7)) (dCons (dD (dVar 4)) (dCons (dD (dVar 12)) (dNil))))) (hr.mono (by omega)) hgd (by rfl) g__law_hx_met W__law_hx_met b__law_hx_met sc__law_hx_met rfl (.inl rfl) MG__law_hx_met TBL rfl qual_cx hPP (sc := defScope s__law_right) rfl (by decide +kernel) (by rfl) (by intros; rfl) (fun _ _ _ _ _ Ed _ _ hr tk => by exact pd_callX (SD := fun E => ofF E F_back_list) G_back_list tk (hr.mono (by omega)) (by rfl) g_back_list k_back_list b_back_list (pda_cons (pw_dat (pd_var (pv 7))) (pda_cons (pw_dat (pd_var (pv 4))) (pda_cons (pw_dat (pd_var (pv 12))) (pda_nil)))))))
    (psd_cons (psd_app (pv 9) (pd_met2 (k := k - 2) (de := fun Ed => dCall (ofF Ed F_back_list) (dCons (dD (dTup (dCons (dD (dC (.int 1))) (dCons (dD (dC (.int 0))) (dNil))))) (dCons (dD (dVar 4)) (dCons (dD (dVar 12)) (dNil))))) (hr.mono (by omega)) hgd (by rfl) g__law_hx_met W__law_hx_met b__law_hx_met sc__law_hx_met rfl (.inl rfl) MG__law_hx_met TBL rfl qual_cx hPP (sc := defScope s__law_right) rfl (by decide +kernel) (by rfl) (by intros; rfl) (fun _ _ _ _ _ Ed _ _ hr tk => by exact pd_callX (SD := fun E => ofF E F_back_list) G_back_list tk (hr.mono (by omega)) (by rfl) g_back_list k_back_list b_back_list (pda_cons (pw_dat (pd_tup (pda_cons (pw_dat (pd_c pe_int (fun _ _ => .int _))) (pda_cons (pw_dat (pd_c pe_int (fun _ _ => .int _))) (pda_nil))))) (pda_cons (pw_dat (pd_var (pv 4))) (pda_cons (pw_dat (pd_var (pv 12))) (pda_nil)))))))
    (psd_cons (psd_app (pv 9) (pd_met2 (k := k - 2) (de := fun Ed => dCall (ofF Ed F_back_list) (dCons (dD (dTup (dCons (dD (dC (.int 1))) (dCons (dD (dC (.int 0))) (dNil))))) (dCons (dD (dVar 15)) (dCons (dD (dVar 12)) (dNil))))) (hr.mono (by omega)) hgd (by rfl) g__law_hx_met W__law_hx_met b__law_hx_met sc__law_hx_met rfl (.inl rfl) MG__law_hx_met TBL rfl qual_cx hPP (sc := defScope s__law_right) rfl (by decide +kernel) (by rfl) (by intros; rfl) (fun _ _ _ _ _ Ed _ _ hr tk => by exact pd_callX (SD := fun E => ofF E F_back_list) G_back_list tk (hr.mono (by omega)) (by rfl) g_back_list k_back_list b_back_list (pda_cons (pw_dat (pd_tup (pda_cons (pw_dat (pd_c pe_int (fun _ _ => .int _))) (pda_cons (pw_dat (pd_c pe_int (fun _ _ => .int _))) (pda_nil))))) (pda_cons (pw_dat (pd_var (pv 15))) (pda_cons (pw_dat (pd_var (pv 12))) (pda_nil)))))))
    (psd_cons (psd_app (pv 9) (pd_met2 (k := k - 2) (de := fun Ed => dCall (ofF Ed F_back_list) (dCons (dD (dTup (dCons (dD (dC (.int 1))) (dCons (dD (dC (.int 0))) (dNil))))) (dCons (dD (dVar 15)) (dCons (dD (dTup (dCons (dD (dC (.int 1))) (dCons (dD (dC (.int 1))) (dNil))))) (dNil))))) (hr.mono (by omega)) hgd (by rfl) g__law_hx_met W__law_hx_met b__law_hx_met sc__law_hx_met rfl (.inl rfl) MG__law_hx_met TBL rfl qual_cx hPP (sc := defScope s__law_right) rfl (by decide +kernel) (by rfl) (by intros; rfl) (fun _ _ _ _ _ Ed _ _ hr tk => by exact pd_callX (SD := fun E => ofF E F_back_list) G_back_list tk (hr.mono (by omega)) (by rfl) g_back_list k_back_list b_back_list (pda_cons (pw_dat (pd_tup (pda_cons (pw_dat (pd_c pe_int (fun _ _ => .int _))) (pda_cons (pw_dat (pd_c pe_int (fun _ _ => .int _))) (pda_nil))))) (pda_cons (pw_dat (pd_var (pv 15))) (pda_cons (pw_dat (pd_tup (pda_cons (pw_dat (pd_c pe_int (fun _ _ => .int _))) (pda_cons (pw_dat (pd_c pe_int (fun _ _ => .int _))) (pda_nil))))) (pda_nil)))))))
    (psd_cons (psd_app (pv 9) (pd_met2 (k := k - 2) (de := fun Ed => dCall (ofF Ed F_back_list) (dCons (dD (dTup (dCons (dD (dC (.int 1))) (dCons (dD (dC (.int 0))) (dNil))))) (dCons (dD (dVar 15)) (dCons (dD (dTup (dCons (dD (dC (.int 0))) (dCons (dD (dC (.int 1))) (dNil))))) (dNil))))) (hr.mono (by omega)) hgd (by rfl) g__law_hx_met W__law_hx_met b__law_hx_met sc__law_hx_met rfl (.inl rfl) MG__law_hx_met TBL rfl qual_cx hPP (sc := defScope s__law_right) rfl (by decide +kernel) (by rfl) (by intros; rfl) (fun _ _ _ _ _ Ed _ _ hr tk => by exact pd_callX (SD := fun E => ofF E F_back_list) G_back_list tk (hr.mono (by omega)) (by rfl) g_back_list k_back_list b_back_list (pda_cons (pw_dat (pd_tup (pda_cons (pw_dat (pd_c pe_int (fun _ _ => .int _))) (pda_cons (pw_dat (pd_c pe_int (fun _ _ => .int _))) (pda_nil))))) (pda_cons (pw_dat (pd_var (pv 15))) (pda_cons (pw_dat (pd_tup (pda_cons (pw_dat (pd_c pe_int (fun _ _ => .int _))) (pda_cons (pw_dat (pd_c pe_int (fun _ _ => .int _))) (pda_nil))))) (pda_nil)))))))
    (pss_frz (psd_one (psd_ret (pd_cmp (op_eqD hr.units) (op2_eq) (pd_var (pv 9)) (pd_new (pn_lc (own := [("word", 16)]) rfl nd (pid_seq (pd_new (pn_cat (pq_var (pv 10)) (pq_dat (pd_new (pn_lst (pda_cons (pw_dat (pd_c pe_str (fun _ _ => .str _))) (pda_cons (pw_dat (pd_c pe_str (fun _ _ => .str _))) (pda_cons (pw_dat (pd_c pe_str (fun _ _ => .str _))) (pda_cons (pw_dat (pd_c pe_str (fun _ _ => .str _))) (pda_cons (pw_dat (pd_c pe_str (fun _ _ => .str _))) (pda_cons (pw_dat (pd_c pe_str (fun _ _ => .str _))) (pda_cons (pw_dat (pd_c pe_str (fun _ _ => .str _))) (pda_cons (pw_dat (pd_c pe_str (fun _ _ => .str _))) (pda_nil))))))))))))))) (blkOk_by (N := N__law_right) (sc := defScope s__law_right) (by decide +kernel)) (fun _ _ _ _ _ => pgd_name (pg_name (i := 16) nd rfl (by first | exact Or.inl rfl | exact Or.inr rfl))) (fun _ _ _ _ _ => ptsd_nil) (fun _ _ _ _ _ => pd_tup (pda_cons (pw_dat (pd_c pe_str (fun _ _ => .str _))) (pda_cons (pw_dat (pd_var (pv 16))) (pda_nil)))))) (nomark _)))))))))))))))))))))))))))))))))))), pu⟩
abbrev s_law : Stmt := topS 88
abbrev N_law : List PySem.Str := ["script", "spot", "some", "met", "fine", "dice", "turn", "value"]
theorem sc_law : FnScope N_law ["script"] (defScope s_law) := ⟨rfl, rfl, rfl, by decide +kernel, rfl, by decide +kernel, by decide +kernel⟩
def dt_law : DS :=
  dSeq (dSet 2 (dL (dLst (dCons (dD (dC .none)) (dCons (dD (dTup (dNil))) (dCons (dD (dTup (dCons (dD (dC (.int 0))) (dNil)))) (dCons (dD (dTup (dCons (dD (dC (.int 0))) (dCons (dD (dC (.int 1))) (dNil))))) (dCons (dD (dTup (dCons (dD (dC (.int 0))) (dCons (dD (dC (.int 1))) (dCons (dD (dC (.int 1))) (dNil)))))) (dCons (dD (dTup (dCons (dD (dC (.int 0))) (dCons (dD (dC (.int 1))) (dCons (dD (dC (.int 1))) (dCons (dD (dC (.int 2))) (dNil))))))) (dCons (dD (dL (dLst (dCons (dD (dC (.int 0))) (dCons (dD (dC (.int 1))) (dCons (dD (dC (.int 1))) (dCons (dD (dC (.int 0))) (dNil)))))))) (dCons (dD (dOp (fRepA) (dTup (dCons (dD (dC (.int 0))) (dNil))) (dC (.int 256)))) (dCons (dD (dTup (dCons (dD (dC (.int 0))) (dCons (dD (dC (.int 1))) (dCons (dD (dC (.int 1))) (dCons (dD (dC (.bool true))) (dNil))))))) (dNil)))))))))))))
    (dSeq (dSetO 3 (dLc (dItS (dVar 2)) (gSet 7) (dYes) (dMet hl__law_hx_met fine__law_hx_met (fun Ed => dCall (ofF Ed F_guess_row) (dCons (dD (dVar 7)) (dNil)))) [7]))
    (dSeq (dApp 3 (dMet hl__law_hx_met fine__law_hx_met (fun Ed => dCall (ofF Ed F_string_map) (dCons (dD (dTupRg (dC (.int 16)))) (dNil)))))
    (dSeq (dSetO 4 (dLst (dCons (dD (dMet hl__law_hx_met fine__law_hx_met (fun Ed => dCall (ofF Ed F_guess_row) (dCons (dD (dOp (fRepA) (dTup (dCons (dD (dC (.int 0))) (dNil))) (dC (.int 128)))) (dNil))))) (dNil))))
    (dSeq (dApp 4 (dMet hl__law_hx_met fine__law_hx_met (fun Ed => dCall (ofF Ed F_led_on) (dCons (dD (dOp (fRepA) (dTup (dCons (dD (dOp (fRepA) (dTup (dCons (dD (dC (.int 0))) (dNil))) (dC (.int 7)))) (dNil))) (dC (.int 64)))) (dCons (dD (dOp (fRepA) (dTup (dCons (dD (dC (.int 0))) (dNil))) (dC (.int 6)))) (dCons (dD (dC (.int 8))) (dNil)))))))
    (dSeq (dApp 4 (dMet hl__law_hx_met fine__law_hx_met (fun Ed => dCall (ofF Ed F_bit_map) (dCons (dD (dTup (dCons (dD (dC (.int 0))) (dCons (dD (dC (.int 1))) (dNil))))) (dCons (dD (dTup (dCons (dD (dC (.int 1))) (dCons (dD (dNeg (dC (.int 1)))) (dNil))))) (dNil))))))
    (dFrz 4 (dFrz 3 (dRet (dAndV (dOp (fEq false) (dVar 3) (dL (dCatL (dSeqE (dL (dRep (dLst (dCons (dD (dTup (dCons (dD (dC (.str (PySem.Str.ofString "met")))) (dCons (dD (dC (.str (PySem.Str.ofString "word")))) (dNil))))) (dNil))) (dC (.int 9))))) (dSeqE (dL (dLst (dCons (dD (dTup (dCons (dD (dC (.str (PySem.Str.ofString "met")))) (dCons (dD (dC (.str (PySem.Str.ofString "maps")))) (dNil))))) (dNil)))))))) (dOp (fEq false) (dVar 4) (dL (dRep (dLst (dCons (dD (dTup (dCons (dD (dC (.str (PySem.Str.ofString "met")))) (dCons (dD (dC (.str (PySem.Str.ofString "let")))) (dNil))))) (dNil))) (dC (.int 3))))))))))))))
def ft_law : FS :=
  fSeq (fSet 2 (fL (fLst (fCons (fC .none) (fCons (fTup (fNil)) (fCons (fTup (fCons (fC (.int 0)) (fNil))) (fCons (fTup (fCons (fC (.int 0)) (fCons (fC (.int 1)) (fNil)))) (fCons (fTup (fCons (fC (.int 0)) (fCons (fC (.int 1)) (fCons (fC (.int 1)) (fNil))))) (fCons (fTup (fCons (fC (.int 0)) (fCons (fC (.int 1)) (fCons (fC (.int 1)) (fCons (fC (.int 2)) (fNil)))))) (fCons (fL (fLst (fCons (fC (.int 0)) (fCons (fC (.int 1)) (fCons (fC (.int 1)) (fCons (fC (.int 0)) (fNil))))))) (fCons (fOp (gRepA) (fTup (fCons (fC (.int 0)) (fNil))) (fC (.int 256))) (fCons (fTup (fCons (fC (.int 0)) (fCons (fC (.int 1)) (fCons (fC (.int 1)) (fCons (fC (.bool true)) (fNil)))))) (fNil)))))))))))))
    (fSeq (fSetO 3 (fLc (fItS (fVar 2)) (fgSet 7) (fYes) (fMet hl__law_hx_met fine__law_hx_met (fCall F_guess_row (fCons (fVar 7) (fNil)))) [7]))
    (fSeq (fApp 3 (fMet hl__law_hx_met fine__law_hx_met (fCall F_string_map (fCons (fTupRg (fC (.int 16))) (fNil)))))
    (fSeq (fSetO 4 (fLst (fCons (fMet hl__law_hx_met fine__law_hx_met (fCall F_guess_row (fCons (fOp (gRepA) (fTup (fCons (fC (.int 0)) (fNil))) (fC (.int 128))) (fNil)))) (fNil))))
    (fSeq (fApp 4 (fMet hl__law_hx_met fine__law_hx_met (fCall F_led_on (fCons (fOp (gRepA) (fTup (fCons (fOp (gRepA) (fTup (fCons (fC (.int 0)) (fNil))) (fC (.int 7))) (fNil))) (fC (.int 64))) (fCons (fOp (gRepA) (fTup (fCons (fC (.int 0)) (fNil))) (fC (.int 6))) (fCons (fC (.int 8)) (fNil)))))))
    (fSeq (fApp 4 (fMet hl__law_hx_met fine__law_hx_met (fCall F_bit_map (fCons (fTup (fCons (fC (.int 0)) (fCons (fC (.int 1)) (fNil)))) (fCons (fTup (fCons (fC (.int 1)) (fCons (fNeg (fC (.int 1))) (fNil)))) (fNil))))))
    (fFrz 4 (fFrz 3 (fRet (fAndV (fOp (gEq false) (fVar 3) (fL (fCatL (fSeqE (fL (fRep (fLst (fCons (fTup (fCons (fC (.str (PySem.Str.ofString "met"))) (fCons (fC (.str (PySem.Str.ofString "word"))) (fNil)))) (fNil))) (fC (.int 9))))) (fSeqE (fL (fLst (fCons (fTup (fCons (fC (.str (PySem.Str.ofString "met"))) (fCons (fC (.str (PySem.Str.ofString "maps"))) (fNil)))) (fNil)))))))) (fOp (gEq false) (fVar 4) (fL (fRep (fLst (fCons (fTup (fCons (fC (.str (PySem.Str.ofString "met"))) (fCons (fC (.str (PySem.Str.ofString "let"))) (fNil)))) (fNil))) (fC (.int 3))))))))))))))
theorem lt_law : LeS (ofS Dl.E0 ft_law) dt_law := les_seq (les_set (le_L (le_lst (le_cons (le_c) (le_cons (le_tup (le_nil)) (le_cons (le_tup (le_cons (le_c) (le_nil))) (le_cons (le_tup (le_cons (le_c) (le_cons (le_c) (le_nil)))) (le_cons (le_tup (le_cons (le_c) (le_cons (le_c) (le_cons (le_c) (le_nil))))) (le_cons (le_tup (le_cons (le_c) (le_cons (le_c) (le_cons (le_c) (le_cons (le_c) (le_nil)))))) (le_cons (le_L (le_lst (le_cons (le_c) (le_cons (le_c) (le_cons (le_c) (le_cons (le_c) (le_nil))))))) (le_cons (le_op (leop_repA) (le_tup (le_cons (le_c) (le_nil))) (le_c)) (le_cons (le_tup (le_cons (le_c) (le_cons (le_c) (le_cons (le_c) (le_cons (le_c) (le_nil)))))) (le_nil)))))))))))))
    (les_seq (les_setO (le_lc (le_itS (le_var)) (le_gSet) (le_yes) (le_met (fun _ => le_call (le_cons (le_var) (le_nil))))))
    (les_seq (les_app (le_met (fun _ => le_call (le_cons (le_tupRg (le_c)) (le_nil)))))
    (les_seq (les_setO (le_lst (le_cons (le_met (fun _ => le_call (le_cons (le_op (leop_repA) (le_tup (le_cons (le_c) (le_nil))) (le_c)) (le_nil)))) (le_nil))))
    (les_seq (les_app (le_met (fun _ => le_call (le_cons (le_op (leop_repA) (le_tup (le_cons (le_op (leop_repA) (le_tup (le_cons (le_c) (le_nil))) (le_c)) (le_nil))) (le_c)) (le_cons (le_op (leop_repA) (le_tup (le_cons (le_c) (le_nil))) (le_c)) (le_cons (le_c) (le_nil)))))))
    (les_seq (les_app (le_met (fun _ => le_call (le_cons (le_tup (le_cons (le_c) (le_cons (le_c) (le_nil)))) (le_cons (le_tup (le_cons (le_c) (le_cons (le_neg (le_c)) (le_nil)))) (le_nil))))))
    (les_frz (les_frz (les_ret (le_andV (le_op (leop_eq) (le_var) (le_L (le_catL (le_seqE (le_L (le_rep (le_lst (le_cons (le_tup (le_cons (le_c) (le_cons (le_c) (le_nil)))) (le_nil))) (le_c)))) (le_seqE (le_L (le_lst (le_cons (le_tup (le_cons (le_c) (le_cons (le_c) (le_nil)))) (le_nil)))))))) (le_op (leop_eq) (le_var) (le_L (le_rep (le_lst (le_cons (le_tup (le_cons (le_c) (le_cons (le_c) (le_nil)))) (le_nil))) (le_c)))))))))))))
def db_law (SD__law_right : DSp) : DS :=
  dSeq (dFor (dRange1 (dCons (dD (dOpN fMax2 (dCons (dD (dC (.int 1))) (dCons (dD (dOpN fMin2 (dCons (dD (dC (.int 3))) (dCons (dD (dOpQ fLen (dVarQ 0))) (dNil))))) (dNil))))) (dNil))) (gSet 1) (dSeq (dSetHat 5 (dCons (dD (dVar 0)) (dCons (dD (dVar 1)) (dNil))))
    (dFor (dRange1 (dCons (dD (dC (.int 6))) (dNil))) (gSet 6) (dIf (dNot (dTru (dCall SD__law_right (dCons (dHat 5) (dNil))))) (dRet (dC (.bool false))) (dNext)))))
    (dt_law)
theorem ok_law {f cc PP : Addr} {fd : FuncData} {k : Nat} {SD : DSp} (F : FunC K "law" "law" s_law cc f fd) (len : ∀ ws Q, SD ws Q → ws.length = 1)
    (z_len : mg "len" = none)
    (z_min : mg "min" = none)
    (z_max : mg "max" = none)
    (z_range : mg "range" = none)
    (z_tuple : mg "tuple" = none)
    (h2 : 2 ≤ k) (TBL : LamX.TabB base mg cc PP) (hPP : (PP, some (("law" : Str) ++ ".<locals>." ++ "<lambda>")) ∈ Ps)
    {f__law_hx_met : Addr} {d__law_hx_met : FuncData} (W__law_hx_met : L2.Fun K "_law_hx_met" "_law_hx_met" s__law_hx_met f__law_hx_met d__law_hx_met) (g__law_hx_met : mg "_law_hx_met" = some (.ref f__law_hx_met)) (b__law_hx_met : Binds K d__law_hx_met ["call"] []) (MG__law_hx_met : ∀ cdg : Value, MetG P w K mg base N__law_hx_met "_law_hx_met" (defScope s__law_hx_met) f__law_hx_met cdg (defBody s__law_hx_met) "call" hl__law_hx_met fine__law_hx_met)
    {f__law_hx_dice : Addr} {d__law_hx_dice : FuncData} {l__law_hx_dice : Nat} (h__law_hx_dice : l__law_hx_dice + 2 ≤ k) (G__law_hx_dice : FnOk P w K mg base CX0 l__law_hx_dice f__law_hx_dice d__law_hx_dice ["script", "spot"] (spHatD K)) (g__law_hx_dice : mg "_law_hx_dice" = some (.ref f__law_hx_dice)) (k__law_hx_dice : PySem.W.keepIn K (.ref f__law_hx_dice) = true) (b__law_hx_dice : Binds K d__law_hx_dice ["script", "spot"] [])
    {f__law_right : Addr} {d__law_right : FuncData} {l__law_right : Nat} {SD__law_right : DSp} (h__law_right : l__law_right + 2 ≤ k) (G__law_right : FnG P w K mg base CX0 l__law_right f__law_right d__law_right ["dice"] (spOf K Ps SD__law_right)) (g__law_right : mg "_law_right" = some (.ref f__law_right)) (k__law_right : PySem.W.keepIn K (.ref f__law_right) = true) (b__law_right : Binds K d__law_right ["dice"] [])
    {f_guess_row : Addr} {d_guess_row : FuncData} {l_guess_row : Nat} (h_guess_row : l_guess_row + 2 ≤ k) (G_guess_row : FnOk P w K mg base (L2.CX P w) l_guess_row f_guess_row d_guess_row ["test"] (spX K Ps fun E => ofF E F_guess_row)) (g_guess_row : mg "guess_row" = some (.ref f_guess_row)) (k_guess_row : PySem.W.keepIn K (.ref f_guess_row) = true) (b_guess_row : Binds K d_guess_row ["test"] [])
    {f_string_map : Addr} {d_string_map : FuncData} {l_string_map : Nat} (h_string_map : l_string_map + 2 ≤ k) (G_string_map : FnOk P w K mg base (L2.CX P w) l_string_map f_string_map d_string_map ["turn"] (spX K Ps fun E => ofF E F_string_map)) (g_string_map : mg "string_map" = some (.ref f_string_map)) (k_string_map : PySem.W.keepIn K (.ref f_string_map) = true) (b_string_map : Binds K d_string_map ["turn"] [])
    {f_led_on : Addr} {d_led_on : FuncData} {l_led_on : Nat} (h_led_on : l_led_on + 2 ≤ k) (G_led_on : FnOk P w K mg base (L2.CX P w) l_led_on f_led_on d_led_on ["table", "seed", "k"] (spX K Ps fun E => ofF E F_led_on)) (g_led_on : mg "led_on" = some (.ref f_led_on)) (k_led_on : PySem.W.keepIn K (.ref f_led_on) = true) (b_led_on : Binds K d_led_on ["table", "seed", "k"] [])
    {f_bit_map : Addr} {d_bit_map : FuncData} {l_bit_map : Nat} (h_bit_map : l_bit_map + 2 ≤ k) (G_bit_map : FnOk P w K mg base (L2.CX P w) l_bit_map f_bit_map d_bit_map ["turn", "truth"] (spX K Ps fun E => ofF E F_bit_map)) (g_bit_map : mg "bit_map" = some (.ref f_bit_map)) (k_bit_map : PySem.W.keepIn K (.ref f_bit_map) = true) (b_bit_map : Binds K d_bit_map ["turn", "truth"] [])
    (pu : ∀ ws Qd, SD ws Qd → db_law SD__law_right { nx := fun _ => Qd .none, rt := Qd } (startD N_law.length ws)) : FnG P w K mg base CX0 (k + 1) f fd ["script"] (spOf K Ps SD) :=
  okDG (N := N_law) F sc_law len fun A outer s H E hgd hr => ⟨_, (have nd := sc_law.nd
    psd_cons (psd_for PassesOwn.never rfl (pid_range1 (by rfl) z_range (pda_cons (pw_dat (pd_callN (call_max2 rfl) opn_max2 (by rfl) z_max Dl.b_max (pda_cons (pw_dat (pd_c pe_int (fun _ _ => .int _))) (pda_cons (pw_dat (pd_callN (call_min2 rfl) opn_min2 (by rfl) z_min Dl.b_min (pda_cons (pw_dat (pd_c pe_int (fun _ _ => .int _))) (pda_cons (pw_dat (pd_len (by rfl) z_len (pq_var (pv 0)))) (pda_nil))))) (pda_nil))))) (pda_nil))) (pgd_name (pg_name (i := 1) nd rfl (by first | exact Or.inl rfl | exact Or.inr rfl))) (psd_cons (psd_setHat (i := 5) nd rfl (by first | exact Or.inl rfl | exact Or.inr rfl) G__law_hx_dice (hr.mono (by omega)) (by rfl) g__law_hx_dice k__law_hx_dice b__law_hx_dice (pda_cons (pw_dat (pd_var (pv 0))) (pda_cons (pw_dat (pd_var (pv 1))) (pda_nil))))
    (psd_one (psd_for PassesOwn.never rfl (pid_range1 (by rfl) z_range (pda_cons (pw_dat (pd_c pe_int (fun _ _ => .int _))) (pda_nil))) (pgd_name (pg_name (i := 6) nd rfl (by first | exact Or.inl rfl | exact Or.inr rfl))) (psd_one (psd_if (ptd_not (ptd_tru (pd_callG G__law_right hgd (hr.mono (by omega)) (by rfl) g__law_right k__law_right b__law_right (pda_cons (pw_hat (pv 5)) (pda_nil))))) (psd_one (psd_ret (pd_c pe_bl (fun _ _ => .bl _)))) (psd_nil)))))))
    (psd_cons (psd_set (i := 2) nd rfl (by first | exact Or.inl rfl | exact Or.inr rfl) (pd_new (pn_lst (pda_cons (pw_dat (pd_c pe_non (fun _ _ => .non))) (pda_cons (pw_dat (pd_tup (pda_nil))) (pda_cons (pw_dat (pd_tup (pda_cons (pw_dat (pd_c pe_int (fun _ _ => .int _))) (pda_nil)))) (pda_cons (pw_dat (pd_tup (pda_cons (pw_dat (pd_c pe_int (fun _ _ => .int _))) (pda_cons (pw_dat (pd_c pe_int (fun _ _ => .int _))) (pda_nil))))) (pda_cons (pw_dat (pd_tup (pda_cons (pw_dat (pd_c pe_int (fun _ _ => .int _))) (pda_cons (pw_dat (pd_c pe_int (fun _ _ => .int _))) (pda_cons (pw_dat (pd_c pe_int (fun _ _ => .int _))) (pda_nil)))))) (pda_cons (pw_dat (pd_tup (pda_cons (pw_dat (pd_c pe_int (fun _ _ => .int _))) (pda_cons (pw_dat (pd_c pe_int (fun _ _ => .int _))) (pda_cons (pw_dat (pd_c pe_int (fun _ _ => .int _))) (pda_cons (pw_dat (pd_c pe_int (fun _ _ => .int _))) (pda_nil))))))) (pda_cons (pw_dat (pd_new (pn_lst (pda_cons (pw_dat (pd_c pe_int (fun _ _ => .int _))) (pda_cons (pw_dat (pd_c pe_int (fun _ _ => .int _))) (pda_cons (pw_dat (pd_c pe_int (fun _ _ => .int _))) (pda_cons (pw_dat (pd_c pe_int (fun _ _ => .int _))) (pda_nil)))))))) (pda_cons (pw_dat (pd_op op_repA (op2_repA) (pd_tup (pda_cons (pw_dat (pd_c pe_int (fun _ _ => .int _))) (pda_nil))) (pd_c pe_int (fun _ _ => .int _)))) (pda_cons (pw_dat (pd_tup (pda_cons (pw_dat (pd_c pe_int (fun _ _ => .int _))) (pda_cons (pw_dat (pd_c pe_int (fun _ _ => .int _))) (pda_cons (pw_dat (pd_c pe_int (fun _ _ => .int _))) (pda_cons (pw_dat (pd_c pe_bl (fun _ _ => .bl _))) (pda_nil))))))) (pda_nil)))))))))))))
    (psd_cons (psd_setLcO (i := 3) (own := [("value", 7)]) rfl nd rfl rfl (sw_true rfl rfl rfl (by decide +kernel)) (pid_seq (pd_var (pv 2))) (blkOk_by (N := N_law) (sc := defScope s_law) (by decide +kernel)) (fun _ _ _ _ _ => pgd_name (pg_name (i := 7) nd rfl (by first | exact Or.inl rfl | exact Or.inr rfl))) (fun _ _ _ _ _ => ptsd_nil) (fun _ _ _ _ _ => pd_met2 (k := k - 2) (de := fun Ed => dCall (ofF Ed F_guess_row) (dCons (dD (dVar 7)) (dNil))) (hr.mono (by omega)) hgd (by rfl) g__law_hx_met W__law_hx_met b__law_hx_met sc__law_hx_met rfl (.inl rfl) MG__law_hx_met TBL rfl (q := "law" ++ ".<locals>.") rfl hPP rfl (by kernel_rfl) (by rfl) (by intros; rfl) (fun _ _ _ _ _ Ed _ _ hr tk => by exact pd_callX (SD := fun E => ofF E F_guess_row) G_guess_row tk (hr.mono (by omega)) (by rfl) g_guess_row k_guess_row b_guess_row (pda_cons (pw_dat (pd_var (pv 7))) (pda_nil)))))
    (psd_cons (psd_app (pv 3) (pd_met2 (k := k - 2) (de := fun Ed => dCall (ofF Ed F_string_map) (dCons (dD (dTupRg (dC (.int 16)))) (dNil))) (hr.mono (by omega)) hgd (by rfl) g__law_hx_met W__law_hx_met b__law_hx_met sc__law_hx_met rfl (.inl rfl) MG__law_hx_met TBL rfl qual_cx hPP (sc := defScope s_law) rfl (by decide +kernel) (by rfl) (by intros; rfl) (fun _ _ _ _ _ Ed _ _ hr tk => by exact pd_callX (SD := fun E => ofF E F_string_map) G_string_map tk (hr.mono (by omega)) (by rfl) g_string_map k_string_map b_string_map (pda_cons (pw_dat (pd_tupRg rfl (by rfl) z_tuple (by rfl) z_range (pd_c pe_int (fun _ _ => .int _)))) (pda_nil)))))
    (psd_cons (psd_setO (i := 4) nd rfl (by first | exact Or.inl rfl | exact Or.inr rfl) (pn_lst (pda_cons (pw_dat (pd_met2 (k := k - 2) (de := fun Ed => dCall (ofF Ed F_guess_row) (dCons (dD (dOp (fRepA) (dTup (dCons (dD (dC (.int 0))) (dNil))) (dC (.int 128)))) (dNil))) (hr.mono (by omega)) hgd (by rfl) g__law_hx_met W__law_hx_met b__law_hx_met sc__law_hx_met rfl (.inl rfl) MG__law_hx_met TBL rfl qual_cx hPP (sc := defScope s_law) rfl (by decide +kernel) (by rfl) (by intros; rfl) (fun _ _ _ _ _ Ed _ _ hr tk => by exact pd_callX (SD := fun E => ofF E F_guess_row) G_guess_row tk (hr.mono (by omega)) (by rfl) g_guess_row k_guess_row b_guess_row (pda_cons (pw_dat (pd_op op_repA (op2_repA) (pd_tup (pda_cons (pw_dat (pd_c pe_int (fun _ _ => .int _))) (pda_nil))) (pd_c pe_int (fun _ _ => .int _)))) (pda_nil))))) (pda_nil))))
    (psd_cons (psd_app (pv 4) (pd_met2 (k := k - 2) (de := fun Ed => dCall (ofF Ed F_led_on) (dCons (dD (dOp (fRepA) (dTup (dCons (dD (dOp (fRepA) (dTup (dCons (dD (dC (.int 0))) (dNil))) (dC (.int 7)))) (dNil))) (dC (.int 64)))) (dCons (dD (dOp (fRepA) (dTup (dCons (dD (dC (.int 0))) (dNil))) (dC (.int 6)))) (dCons (dD (dC (.int 8))) (dNil))))) (hr.mono (by omega)) hgd (by rfl) g__law_hx_met W__law_hx_met b__law_hx_met sc__law_hx_met rfl (.inl rfl) MG__law_hx_met TBL rfl qual_cx hPP (sc := defScope s_law) rfl (by decide +kernel) (by rfl) (by intros; rfl) (fun _ _ _ _ _ Ed _ _ hr tk => by exact pd_callX (SD := fun E => ofF E F_led_on) G_led_on tk (hr.mono (by omega)) (by rfl) g_led_on k_led_on b_led_on (pda_cons (pw_dat (pd_op op_repA (op2_repA) (pd_tup (pda_cons (pw_dat (pd_op op_repA (op2_repA) (pd_tup (pda_cons (pw_dat (pd_c pe_int (fun _ _ => .int _))) (pda_nil))) (pd_c pe_int (fun _ _ => .int _)))) (pda_nil))) (pd_c pe_int (fun _ _ => .int _)))) (pda_cons (pw_dat (pd_op op_repA (op2_repA) (pd_tup (pda_cons (pw_dat (pd_c pe_int (fun _ _ => .int _))) (pda_nil))) (pd_c pe_int (fun _ _ => .int _)))) (pda_cons (pw_dat (pd_c pe_int (fun _ _ => .int _))) (pda_nil)))))))
    (psd_cons (psd_app (pv 4) (pd_met2 (k := k - 2) (de := fun Ed => dCall (ofF Ed F_bit_map) (dCons (dD (dTup (dCons (dD (dC (.int 0))) (dCons (dD (dC (.int 1))) (dNil))))) (dCons (dD (dTup (dCons (dD (dC (.int 1))) (dCons (dD (dNeg (dC (.int 1)))) (dNil))))) (dNil)))) (hr.mono (by omega)) hgd (by rfl) g__law_hx_met W__law_hx_met b__law_hx_met sc__law_hx_met rfl (.inl rfl) MG__law_hx_met TBL rfl qual_cx hPP (sc := defScope s_law) rfl (by decide +kernel) (by rfl) (by intros; rfl) (fun _ _ _ _ _ Ed _ _ hr tk => by exact pd_callX (SD := fun E => ofF E F_bit_map) G_bit_map tk (hr.mono (by omega)) (by rfl) g_bit_map k_bit_map b_bit_map (pda_cons (pw_dat (pd_tup (pda_cons (pw_dat (pd_c pe_int (fun _ _ => .int _))) (pda_cons (pw_dat (pd_c pe_int (fun _ _ => .int _))) (pda_nil))))) (pda_cons (pw_dat (pd_tup (pda_cons (pw_dat (pd_c pe_int (fun _ _ => .int _))) (pda_cons (pw_dat (pd_neg (pd_c pe_int (fun _ _ => .int _)))) (pda_nil))))) (pda_nil))))))
    (pss_frz (pss_frz (psd_one (psd_ret (pd_and (pd_cmp (op_eqD hr.units) (op2_eq) (pd_var (pv 3)) (pd_new (pn_cat (pq_dat (pd_new (pn_rep (pn_lst (pda_cons (pw_dat (pd_tup (pda_cons (pw_dat (pd_c pe_str (fun _ _ => .str _))) (pda_cons (pw_dat (pd_c pe_str (fun _ _ => .str _))) (pda_nil))))) (pda_nil))) (pd_c pe_int (fun _ _ => .int _))))) (pq_dat (pd_new (pn_lst (pda_cons (pw_dat (pd_tup (pda_cons (pw_dat (pd_c pe_str (fun _ _ => .str _))) (pda_cons (pw_dat (pd_c pe_str (fun _ _ => .str _))) (pda_nil))))) (pda_nil))))))) (nomark _)) (pe_one (pd_cmp (op_eqD hr.units) (op2_eq) (pd_var (pv 4)) (pd_new (pn_rep (pn_lst (pda_cons (pw_dat (pd_tup (pda_cons (pw_dat (pd_c pe_str (fun _ _ => .str _))) (pda_cons (pw_dat (pd_c pe_str (fun _ _ => .str _))) (pda_nil))))) (pda_nil))) (pd_c pe_int (fun _ _ => .int _)))) (nomark _))))))))))))))), pu⟩
abbrev sI_InvalidNumber : Stmt := inClass (topS 31) 0
theorem scI_InvalidNumber : FnScope ["self", "given"] ["self", "given"] (defScope sI_InvalidNumber) := ⟨rfl, rfl, rfl, by decide +kernel, rfl, by decide +kernel, by decide +kernel⟩
theorem ok_ini_InvalidNumber {f cH : Addr} {fd : FuncData} {C : Addr} (F : L2.Fun K "__init__" "InvalidNumber.__init__" sI_InvalidNumber f fd) (B : HardC K mg cH) (T : OexC K C) (n : PySem.W.findIn K (.ref C) "given" = some none) : FnOk P w K mg base CX0 1 f fd ["self", "given"] (spInit K C "given") := by
  refine F.ok scI_InvalidNumber (fun vs H Q E h => ?_) (fun cdv A outer s H vs Q E hr h => ?_)
  · obtain ⟨a, v, rfl, _⟩ := h
    rfl
  · obtain ⟨a, v, rfl, ha, q⟩ := h
    refine ⟨_, pss_cons (ps_expr (pe_hinit (by rfl) B.g B.s B.r B.f (pa_cons (pv 0) (pa_cons pe_str pa_nil)))) (pss_one (ps_ost (pv 0) (pv 1))), ?_⟩
    exact ⟨_, rfl, a, C, _, rfl, by simp, T, ha, _, rfl, _, rfl, a, C, rfl, T, n, .inl ⟨ha, fun d hd _ => q d hd⟩⟩
end
end Q
end
section
set_option Elab.async false
set_option linter.all false
set_option maxRecDepth 100000
set_option maxHeartbeats 1000000
namespace HbH
open PySem PySem.Spec PyProof.Rows L2 HbE
/-- a number below the total, out of the drawer -/
abbrev spUp : Sp := Dl.spUpR
end HbH
open PySem PySem.Spec PyProof.Rows L2 HbE HbH Dl
local macro_rules | `(tactic| lcg_sub) => `(tactic| first
  | ((with_reducible show PE _ (.Constant _ _ _) _); first | exact pe_int | exact pe_str | exact pe_non | exact pe_bl)
  | ((with_reducible show PE _ (.Name _ _) _); first | exact pv 0 | exact pv 1 | exact pv 2 | exact pv 3 | exact pv 4 | exact pv 5 | exact pv 6 | exact pv 7 | exact pv 8)
  | ((with_reducible show PE _ (.BinOp _ .Add _ _) _); first | exact pe_op op_add (by lcg_sub) (by lcg_sub))
  | ((with_reducible show PE _ (.BinOp _ .Sub _ _) _); first | exact pe_op op_sub (by lcg_sub) (by lcg_sub))
  | ((with_reducible show PE _ (.BinOp _ .Mult _ _) _); first | exact pe_op op_mulE (by lcg_sub) (by lcg_sub))
  | ((with_reducible show PE _ (.BinOp _ .Mod _ _) _); first | exact pe_op op_mod (by lcg_sub) (by lcg_sub))
  | ((with_reducible show PE _ (.BinOp _ .FloorDiv _ _) _); first | exact pe_op op_fdivW (by lcg_sub) (by lcg_sub))
  | ((with_reducible show PE _ (.BinOp _ .Pow _ _) _); first | exact pe_op op_powB (by lcg_sub) (by lcg_sub))
  | ((with_reducible show PE _ (.Subscript (.Name "script" _) _ _) _); exact pe_ix ix_list (by lcg_sub) (by lcg_sub) (fun _ _ => rfl))
  | ((with_reducible show PE _ (.Subscript _ _ _) _); first | exact pe_ix ix_any (by lcg_sub) (by lcg_sub) (fun _ _ => rfl))
  | ((with_reducible show PE _ (.UnaryOp .USub _ _) _); first | exact pe_un un_neg (by lcg_sub))
  | ((with_reducible show PE _ (.List _ _) _); first | exact pe_lst (by keq_rows))
  | ((with_reducible show PE _ (.IfExp _ _ _ _) _); first | exact pe_ifExp (by lcg_off) (by lcg_sub) (by lcg_sub))
  | ((with_reducible show PE _ (.Compare _ [.Lt] _ _) _); first | exact pe_cmpR op_lt (by lcg_sub) (by lcg_sub) (nomark _))
  | ((with_reducible show PE _ (.Call (.Name "len" _) _ _ _) _); first | exact pe_callB call_len_seq (by rfl) (by assumption) PySem.boot_len (by keq_rows))
  | ((with_reducible show PE _ (.Call (.Name "int" _) _ _ _) _); first | exact pe_callTy call_intA (by rfl) (by assumption) Dl.b_int (by keq_rows))
  | ((with_reducible show PE _ (.Call (.Name "abs" _) _ _ _) _); first | exact pe_callB call_abs (by rfl) (by assumption) Dl.b_abs (by keq_rows))
  | ((with_reducible show PE _ (.Call (.Name "max" _) _ _ _) _); first | exact pe_callB (call_max2 rfl) (by rfl) (by assumption) Dl.b_max (by keq_rows)))
local macro_rules | `(tactic| keq_rows) => `(tactic| first | ((with_reducible show PA _ [] _); exact pa_nil) | ((with_reducible show PA _ (_ :: _) _); exact pa_cons (by lcg_sub) (by keq_rows)))
local macro_rules | `(tactic| lcg_off) => `(tactic| first
  | ((with_reducible show PT _ (.Compare _ [.Gt] _ _) _); exact pt_cmpR op_gt (by lcg_sub) (by lcg_sub) (nomark _))
  | ((with_reducible show PT _ (.Compare _ [.Lt] _ _) _); exact pt_cmpR op_lt (by lcg_sub) (by lcg_sub) (nomark _)))
local macro_rules | `(tactic| keq_hits) => `(tactic| first
  | ((with_reducible show PS _ (.Return (some _) _) _); exact ps_ret (by lcg_sub))
  | ((with_reducible show PS _ (.If _ _ _ _) _); exact ps_if (by lcg_off) (by lcg_src) (by lcg_src))
  | ((with_reducible show PS _ (.Assign [.Name _ _] _ _) _); first
    | exact ps_set (i := 2) (by assumption) rfl (.inl rfl) (by lcg_sub)
    | exact ps_set (i := 3) (by assumption) rfl (.inl rfl) (by lcg_sub)
    | exact ps_set (i := 4) (by assumption) rfl (.inl rfl) (by lcg_sub)
    | exact ps_set (i := 5) (by assumption) rfl (.inl rfl) (by lcg_sub))
  | ((with_reducible show PS _ (.Assign [.Subscript _ _ _] _ _) _); exact ps_asg (by lcg_sub) (pg_sub (by lcg_sub) (by lcg_sub) set_A)))
local macro_rules | `(tactic| lcg_src) => `(tactic| first
  | ((with_reducible show PSs _ [] _); exact pss_nil)
  | ((with_reducible show PSs _ [_] _); exact pss_one (by keq_hits))
  | ((with_reducible show PSs _ (_ :: _) _); exact pss_cons (by keq_hits) (by lcg_src)))
namespace Q
section
variable {P : Program} {w : World} {K : PySem.W.Frag} {mg : Str → Option Value} {base : Heap} {Ps : TbL}
theorem ok_up {f : Addr} {fd : FuncData} {k : Nat} (F : Fun K "_law_hx_up" "_law_hx_up" s__law_hx_up f fd) (bi : mg "int" = none) : FnOk P w K mg base CX0 (k + 1) f fd ["dice", "total"] spUp := by
  refine F.ok sc__law_hx_up (fun vs H Q E h => ?_) (fun cdv A outer s H vs Q E hr h => ?_)
  · obtain ⟨a, o, t, rfl, _⟩ := h
    rfl
  · obtain ⟨a, o, t, rfl, ha, ⟨g, s0, c, rfl⟩, h0, h1, q⟩ := h
    have nd := sc__law_hx_up.nd
    refine ⟨_, pss_cons (by keq_hits) (by lcg_src), ?_⟩
    have l0 : sq H a = some [.int g, .int s0, .int c] := sq_lst ha
    simp [tSeq, tIfS, tTest, tOp, tUn, rU, tVar, tC, tCB, tCons, tNil, rI0, rI, tAsg, gName, gSub, tRet, L2.start, tNext, tLst, tTup, tIf, rIxA, rIntA, rSetA, sq_updL, sq_updT, upd_same, upd_upd2, atI, ixN, l0, ha]
    split
    · exact ⟨h0, ⟨h0, h1⟩, q _ _ (Int.emod_nonneg _ (by omega)) (Int.emod_lt_of_pos _ h0) ⟨_, _, _, rfl⟩⟩
    · repeat (first | exact ⟨h0, q _ _ (Int.emod_nonneg _ (by omega)) (Int.emod_lt_of_pos _ h0) ⟨_, _, _, rfl⟩⟩ | refine And.intro (by first | exact mulL (by decide) | exact mulR (by decide) | exact mulL (modL _ (by decide) (by decide)) | exact mulR (modL _ (by decide) (by decide)) | exact ⟨by decide, by decide +kernel⟩) ?_)
theorem ok_hat {f : Addr} {fd : FuncData} {k : Nat} (F : Fun K "_law_hx_dice" "_law_hx_dice" s__law_hx_dice f fd) (bi : mg "int" = none) (bl : mg "len" = none) (ba : mg "abs" = none) (bm : mg "max" = none) : FnOk P w K mg base CX0 (k + 1) f fd ["script", "spot"] (spHatD K) := by
  refine F.ok sc__law_hx_dice (fun vs H Q E h => ?_) (fun cdv A outer s H vs Q E hr h => ?_)
  · obtain ⟨a, ns, i, rfl, _⟩ := h
    rfl
  · obtain ⟨a, ns, i, rfl, ha, hi, q⟩ := h
    have nd := sc__law_hx_dice.nd
    refine ⟨_, pss_cons (by keq_hits) (by lcg_src), ?_⟩
    simp [tSeq, tIfS, tTest, tOp, tUn, rU, tVar, tC, tCB, tCons, tNil, rI0, rI, tAsg, gName, gSub, tRet, L2.start, tNext, tLst, tTup, tIf, rIxA, rIntA, rSetA, sq_updL, sq_updT, upd_same, upd_upd2, atI, ixN]
    refine ⟨ns.map V.int, .inl ha, ?_⟩
    simp only [List.length_map]
    split
    · rename_i hlt
      refine ⟨a, ns.map V.int, i, .int ns[i], rfl, rfl, ha, atI_nat (by simp [hlt]), ?_⟩
      repeat (first | refine And.intro (by first | exact ⟨by decide, by decide +kernel⟩ | exact mulL (by decide) | exact mulR (by decide) | exact Or.inr (show (_ : Int) ≤ _ by decide +kernel) | exact (by decide : 3 ≤ sizeLine)) ?_ | refine ⟨_, _, ⟨rfl, rfl⟩, ?_⟩)
      exact fun p hp => q _ _ hp ⟨_, _, _, rfl⟩
    · repeat (first | refine And.intro (by first | exact ⟨by decide, by decide +kernel⟩ | exact mulL (by decide) | exact mulR (by decide) | exact Or.inr (show (_ : Int) ≤ _ by decide +kernel) | exact (by decide : 3 ≤ sizeLine)) ?_ | refine ⟨_, _, ⟨rfl, rfl⟩, ?_⟩)
      exact fun p hp => q _ _ hp ⟨_, _, _, rfl⟩
/-- .. over data -/
def SD_up : DSp := fun ws Q => ∃ t : Int, ws = [.hat, .dat (.int t)] ∧ 0 < t ∧ t.natAbs.log2 < 9000 ∧ ∀ r : Int, 0 ≤ r → r < t → Q (.int r)
theorem up_data {vs : List V} {H : Hp} {Q : VK} {E : XK} (h : spOf K Ps SD_up vs H Q E) : spUp vs H Q E := by
  obtain ⟨M, hs, ws, Qd, wf, p, ⟨t, rfl, h0, h1, q⟩, k⟩ := h
  cases p with
  | cons p1 p2 =>
    cases p2 with
    | cons p2 p3 =>
      cases p3
      obtain ⟨a, rfl, ha⟩ := p1
      cases p2
      obtain ⟨mA, o, ho, hat⟩ := wf.hat a ha
      refine ⟨a, o, t, rfl, ho, hat, h0, h1, fun r o' r0 r1 hat' => k _ _ _ (q r r0 r1) ?_ (.int r)⟩
      refine ⟨fun b u e n1 n2 => by rw [upd_ne (show b ≠ a from fun z => n1 (by rw [z]; exact ha))]; exact e, fun b hb e => ?_, fun b hb e => ?_⟩
      · by_cases z : b = a
        · rw [z, upd_same]; exact ⟨_, rfl, hat'⟩
        · rw [upd_ne z]; exact e
      · obtain ⟨_, _, _, e2⟩ := hat
        obtain ⟨ps, e1⟩ := e.has
        have n1 : b.1 ≠ a := fun z => by rw [z, ho, e2] at e1; cases e1
        exact e.keep (upd_ne n1) fun c q h => by
          have : c ≠ a := fun z => by rw [z, ho, e2] at h; exact codeO_lst (Option.some.inj h).symm
          rw [upd_ne this]; exact h
end
end Q
end
section
set_option Elab.async false
set_option linter.all false
set_option maxRecDepth 100000
set_option maxHeartbeats 4000000
set_option exponentiation.threshold 20000
namespace Q
open PySem PySem.Spec PyProof.Rows L2 HbE Evl Dl RZ Gx
theorem pu_of (ws : List WD) (Qd : PyData → Prop) (h : SD_of ws Qd) : db__law_hx_of SD_up { nx := fun _ => Qd .none, rt := Qd } (startD N__law_hx_of.length ws) := by
  obtain ⟨ds, rfl, h0, h1, q⟩ := h
  have l0 : 0 < ds.length := List.length_pos_iff.mpr h0
  simp [db__law_hx_of, N__law_hx_of, dRet, dIx, dVarQ, dCall, dCons, dHat, dD, dOpQ, fLen, dNil, SD_up, h0]
  refine ⟨by omega, Nat.lt_of_le_of_lt (log2_le (z := ds.length) (c := 17) (by omega)) (by omega), fun r r0 r1 => ?_⟩
  obtain ⟨n, rfl⟩ : ∃ n : Nat, r = n := ⟨r.toNat, by omega⟩
  have hn : n < ds.length := by omega
  rw [atI_at (List.getElem?_eq_getElem hn)]
  exact q _ (List.getElem_mem hn)
def SD_right : DSp := fun ws Q => ws = [.hat] ∧ Q (.bool true)
theorem len_right {ws : List WD} {Q : PyData → Prop} (h : SD_right ws Q) : ws.length = 1 := by
  rw [h.1]
  rfl
def L_table : List PyData := [.none, .tuple [], .tuple [.tuple [.int 0]], .tuple [.tuple [.int 0, .int 1]], .tuple [.tuple [.int 0, .int 1], .tuple [.int 1]], .tuple [.tuple [.int 0, .int 1], .tuple [.int 1, .int 2]], .list [.tuple [.int 0, .int 1], .tuple [.int 1, .int 0]], .tuple [.tuple [.int 0, .int 1], .list [.int 1, .int 0]], .tuple [.tuple [.int 0, .int 1], .tuple [.bool true, .int 0]], .tuple [.tuple [.int 0, .int 1], .tuple [.int 0, .int 1], .tuple [.int 0, .int 1]], .tuple (List.replicate 128 (.tuple [.int 0, .int 0, .int 0, .int 0, .int 0, .int 0, .int 0, .int 0]))]
def L_seed : List PyData := [.none, .tuple [], .tuple [.int 0], .tuple [.int 0, .int 1, .int 0], .tuple [.int 0, .int 2], .list [.int 0, .int 1], .tuple [.int 0, .bool true], .str (PySem.Str.ofString "01"), .int 0]
def L_k : List PyData := [.none, .int 0, .int 9, .int (-1), .bool true, .str (PySem.Str.ofString "2"), .tuple [.int 1], .int 1000000000000000000000000000000]
def L_test : List PyData := [.none, .tuple [], .tuple [.int 0, .int 1], .tuple [.int 0, .int 1, .int 1], .tuple [.int 0, .int 1, .int 1, .int 2], .tuple [.int 0, .int 1, .int 1, .bool true], .list [.int 0, .int 1, .int 1, .int 0], .str (PySem.Str.ofString "0110"), .int 0, .tuple [.int 0, .int 0, .int 0, .int 0, .int 0, .int 0]]
def L_first : List PyData := [.none, .tuple [.int 0, .int 1], .tuple [.int 2], .list [.int 0], .tuple [.bool true], .str (PySem.Str.ofString "0"), .int 0, .tuple [.int 0, .int 0, .int 0]]
def L_edge : List PyData := [.none, .tuple [.int (-1), .int 2], .tuple [.int 3, .int 2], .tuple [.int 2, .int 4], .int 0, .tuple [.int 1, .int 0], .list [.int 0, .int 1], .tuple [.int 0, .int 2], .tuple [.int 1, .int 1000000000], .str (PySem.Str.ofString "none")]
def L_turn : List PyData := [.none, .tuple [], .tuple [.int 0], .tuple [.int 0, .int 0], .tuple [.int 0, .int 2], .list [.int 0, .int 1], .tuple [.int 1, .bool true], .tuple [.int 0, .int 1, .int 2], .tuple [.int (-1), .int 0], .str (PySem.Str.ofString "01"), .tuple [.int 0, .int 1, .int 2, .int 2], .tuple (((List.range 128).map fun i => ((i : Nat) : Int)).map PyData.int)]
def L_truth : List PyData := [.none, .tuple [], .tuple [.int 1], .tuple [.int 1, .int 0], .tuple [.int 1, .int 1, .int 1], .list [.int 1, .int 1], .tuple [.int 1, .bool true], .str (PySem.Str.ofString "11"), .int 1]
theorem forWF_nil {i : Nat} {b : FS} {σ : Sd} : forWF i b [] σ = .ok (.nx σ) := rfl
theorem forWF_nx {i : Nat} {b : FS} {w : WD} {ws : List WD} {σ σ' : Sd} {r : Rs Fw} (k : b (σ.set i (some w)) = .ok (.nx σ')) (t : forWF i b ws σ' = r) : forWF i b (w :: ws) σ = r := by
  rw [← t]
  simp only [forWF, k, Rs.bind]
theorem forW_at {i : Nat} {b : FS} {ws : List WD} {σ : Sd} {r : Rs Fw} (h : forWF i b ws σ = r) : fForW i ws b σ = r := h
theorem tail_right (v_table : PyData) (h_table : v_table ∈ L_table) (v_seed : PyData) (h_seed : v_seed ∈ L_seed) (v_k : PyData) (h_k : v_k ∈ L_k) (v_test : PyData) (h_test : v_test ∈ L_test) (v_first : PyData) (h_first : v_first ∈ L_first) (v_edge : PyData) (h_edge : v_edge ∈ L_edge) (v_turn : PyData) (h_turn : v_turn ∈ L_turn) (v_truth : PyData) (h_truth : v_truth ∈ L_truth) : ft__law_right [some .hat, some (.dat v_table), some (.dat v_seed), some (.dat v_k), some (.dat v_test), some (.dat v_first), some (.dat v_edge), some (.dat v_turn), some (.dat v_truth), none, none, none, none, none, none, none, none] = .ok (.rt (.bool true)) := by
  unfold ft__law_right
  refine fseq_nx (σ' := [some .hat, some (.dat v_table), some (.dat v_seed), some (.dat v_k), some (.dat v_test), some (.dat v_first), some (.dat v_edge), some (.dat v_turn), some (.dat v_truth), none, none, none, none, some (.dat (.tuple [.tuple [.int 0, .int 0, .int 1], .tuple [.int 1, .int 0, .int 0], .tuple [.int 1, .int 1, .int 1], .tuple [.int 0, .int 0, .int 0]])), some (.dat (.tuple [.int 0, .int 1, .int 1, .int 0])), some (.dat (.tuple [.int 0, .int 0, .int 0, .int 0, .int 0, .int 0, .int 0, .int 0])), none]) (by kernel_rfl) ?_
  refine fseq_nx (σ' := [some .hat, some (.dat v_table), some (.dat v_seed), some (.dat v_k), some (.dat v_test), some (.dat v_first), some (.dat v_edge), some (.dat v_turn), some (.dat v_truth), some (.own [.tuple [.str (PySem.Str.ofString "met"), .str (PySem.Str.ofString "maps")]]), none, none, none, some (.dat (.tuple [.tuple [.int 0, .int 0, .int 1], .tuple [.int 1, .int 0, .int 0], .tuple [.int 1, .int 1, .int 1], .tuple [.int 0, .int 0, .int 0]])), some (.dat (.tuple [.int 0, .int 1, .int 1, .int 0])), some (.dat (.tuple [.int 0, .int 0, .int 0, .int 0, .int 0, .int 0, .int 0, .int 0])), none]) ?_ ?_
  · exact (by
    revert v_table
    exact (anF (anC (by kernel_rfl) (anC (by kernel_rfl) (anC (by kernel_rfl) (anC (by kernel_rfl) (anC (by kernel_rfl) (anC (by kernel_rfl) (anC (by kernel_rfl) (anC (by kernel_rfl) (anC (by kernel_rfl) (anC (by kernel_rfl) (anC (by kernel_rfl) (anN))))))))))))))
  refine fseq_nx (σ' := [some .hat, some (.dat v_table), some (.dat v_seed), some (.dat v_k), some (.dat v_test), some (.dat v_first), some (.dat v_edge), some (.dat v_turn), some (.dat v_truth), some (.own [.tuple [.str (PySem.Str.ofString "met"), .str (PySem.Str.ofString "maps")], .tuple [.str (PySem.Str.ofString "met"), .str (PySem.Str.ofString "word")]]), none, none, none, some (.dat (.tuple [.tuple [.int 0, .int 0, .int 1], .tuple [.int 1, .int 0, .int 0], .tuple [.int 1, .int 1, .int 1], .tuple [.int 0, .int 0, .int 0]])), some (.dat (.tuple [.int 0, .int 1, .int 1, .int 0])), some (.dat (.tuple [.int 0, .int 0, .int 0, .int 0, .int 0, .int 0, .int 0, .int 0])), none]) ?_ ?_
  · exact (by
    revert v_seed
    exact (anF (anC (by kernel_rfl) (anC (by kernel_rfl) (anC (by kernel_rfl) (anC (by kernel_rfl) (anC (by kernel_rfl) (anC (by kernel_rfl) (anC (by kernel_rfl) (anC (by kernel_rfl) (anC (by kernel_rfl) (anN))))))))))))
  refine fseq_nx (σ' := [some .hat, some (.dat v_table), some (.dat v_seed), some (.dat v_k), some (.dat v_test), some (.dat v_first), some (.dat v_edge), some (.dat v_turn), some (.dat v_truth), some (.own [.tuple [.str (PySem.Str.ofString "met"), .str (PySem.Str.ofString "maps")], .tuple [.str (PySem.Str.ofString "met"), .str (PySem.Str.ofString "word")], .tuple [.str (PySem.Str.ofString "met"), .str ((PySem.Str.ofString "number ") ++ PyData.shown (v_k))]]), none, none, none, some (.dat (.tuple [.tuple [.int 0, .int 0, .int 1], .tuple [.int 1, .int 0, .int 0], .tuple [.int 1, .int 1, .int 1], .tuple [.int 0, .int 0, .int 0]])), some (.dat (.tuple [.int 0, .int 1, .int 1, .int 0])), some (.dat (.tuple [.int 0, .int 0, .int 0, .int 0, .int 0, .int 0, .int 0, .int 0])), none]) ?_ ?_
  · exact (by
    revert v_k
    exact (anF (anC (by kernel_rfl) (anC (by kernel_rfl) (anC (by kernel_rfl) (anC (by kernel_rfl) (anC (by kernel_rfl) (anC (by kernel_rfl) (anC (by kernel_rfl) (anC (by kernel_rfl) (anN)))))))))))
  refine fseq_nx (σ' := [some .hat, some (.dat v_table), some (.dat v_seed), some (.dat v_k), some (.dat v_test), some (.dat v_first), some (.dat v_edge), some (.dat v_turn), some (.dat v_truth), some (.own [.tuple [.str (PySem.Str.ofString "met"), .str (PySem.Str.ofString "maps")], .tuple [.str (PySem.Str.ofString "met"), .str (PySem.Str.ofString "word")], .tuple [.str (PySem.Str.ofString "met"), .str ((PySem.Str.ofString "number ") ++ PyData.shown (v_k))], .tuple [.str (PySem.Str.ofString "met"), .str (PySem.Str.ofString "maps")]]), none, none, none, some (.dat (.tuple [.tuple [.int 0, .int 0, .int 1], .tuple [.int 1, .int 0, .int 0], .tuple [.int 1, .int 1, .int 1], .tuple [.int 0, .int 0, .int 0]])), some (.dat (.tuple [.int 0, .int 1, .int 1, .int 0])), some (.dat (.tuple [.int 0, .int 0, .int 0, .int 0, .int 0, .int 0, .int 0, .int 0])), none]) ?_ ?_
  · exact (by
    revert v_table
    exact (anF (anC (by kernel_rfl) (anC (by kernel_rfl) (anC (by kernel_rfl) (anC (by kernel_rfl) (anC (by kernel_rfl) (anC (by kernel_rfl) (anC (by kernel_rfl) (anC (by kernel_rfl) (anC (by kernel_rfl) (anC (by kernel_rfl) (anC (by kernel_rfl) (anN))))))))))))))
  refine fseq_nx (σ' := [some .hat, some (.dat v_table), some (.dat v_seed), some (.dat v_k), some (.dat v_test), some (.dat v_first), some (.dat v_edge), some (.dat v_turn), some (.dat v_truth), some (.own [.tuple [.str (PySem.Str.ofString "met"), .str (PySem.Str.ofString "maps")], .tuple [.str (PySem.Str.ofString "met"), .str (PySem.Str.ofString "word")], .tuple [.str (PySem.Str.ofString "met"), .str ((PySem.Str.ofString "number ") ++ PyData.shown (v_k))], .tuple [.str (PySem.Str.ofString "met"), .str (PySem.Str.ofString "maps")], .tuple [.str (PySem.Str.ofString "met"), .str (PySem.Str.ofString "word")]]), none, none, none, some (.dat (.tuple [.tuple [.int 0, .int 0, .int 1], .tuple [.int 1, .int 0, .int 0], .tuple [.int 1, .int 1, .int 1], .tuple [.int 0, .int 0, .int 0]])), some (.dat (.tuple [.int 0, .int 1, .int 1, .int 0])), some (.dat (.tuple [.int 0, .int 0, .int 0, .int 0, .int 0, .int 0, .int 0, .int 0])), none]) ?_ ?_
  · exact (by
    revert v_test
    exact (anF (anC (by kernel_rfl) (anC (by kernel_rfl) (anC (by kernel_rfl) (anC (by kernel_rfl) (anC (by kernel_rfl) (anC (by kernel_rfl) (anC (by kernel_rfl) (anC (by kernel_rfl) (anC (by kernel_rfl) (anC (by kernel_rfl) (anN)))))))))))))
  refine fseq_nx (σ' := [some .hat, some (.dat v_table), some (.dat v_seed), some (.dat v_k), some (.dat v_test), some (.dat v_first), some (.dat v_edge), some (.dat v_turn), some (.dat v_truth), some (.own [.tuple [.str (PySem.Str.ofString "met"), .str (PySem.Str.ofString "maps")], .tuple [.str (PySem.Str.ofString "met"), .str (PySem.Str.ofString "word")], .tuple [.str (PySem.Str.ofString "met"), .str ((PySem.Str.ofString "number ") ++ PyData.shown (v_k))], .tuple [.str (PySem.Str.ofString "met"), .str (PySem.Str.ofString "maps")], .tuple [.str (PySem.Str.ofString "met"), .str (PySem.Str.ofString "word")], .tuple [.str (PySem.Str.ofString "met"), .str (PySem.Str.ofString "maps")]]), none, none, none, some (.dat (.tuple [.tuple [.int 0, .int 0, .int 1], .tuple [.int 1, .int 0, .int 0], .tuple [.int 1, .int 1, .int 1], .tuple [.int 0, .int 0, .int 0]])), some (.dat (.tuple [.int 0, .int 1, .int 1, .int 0])), some (.dat (.tuple [.int 0, .int 0, .int 0, .int 0, .int 0, .int 0, .int 0, .int 0])), none]) ?_ ?_
  · exact (by
    revert v_table
    exact (anF (anC (by kernel_rfl) (anC (by kernel_rfl) (anC (by kernel_rfl) (anC (by kernel_rfl) (anC (by kernel_rfl) (anC (by kernel_rfl) (anC (by kernel_rfl) (anC (by kernel_rfl) (anC (by kernel_rfl) (anC (by kernel_rfl) (anC (by kernel_rfl) (anN))))))))))))))
  refine fseq_nx (σ' := [some .hat, some (.dat v_table), some (.dat v_seed), some (.dat v_k), some (.dat v_test), some (.dat v_first), some (.dat v_edge), some (.dat v_turn), some (.dat v_truth), some (.own [.tuple [.str (PySem.Str.ofString "met"), .str (PySem.Str.ofString "maps")], .tuple [.str (PySem.Str.ofString "met"), .str (PySem.Str.ofString "word")], .tuple [.str (PySem.Str.ofString "met"), .str ((PySem.Str.ofString "number ") ++ PyData.shown (v_k))], .tuple [.str (PySem.Str.ofString "met"), .str (PySem.Str.ofString "maps")], .tuple [.str (PySem.Str.ofString "met"), .str (PySem.Str.ofString "word")], .tuple [.str (PySem.Str.ofString "met"), .str (PySem.Str.ofString "maps")], .tuple [.str (PySem.Str.ofString "met"), .str ((PySem.Str.ofString "number ") ++ PyData.shown (v_k))]]), none, none, none, some (.dat (.tuple [.tuple [.int 0, .int 0, .int 1], .tuple [.int 1, .int 0, .int 0], .tuple [.int 1, .int 1, .int 1], .tuple [.int 0, .int 0, .int 0]])), some (.dat (.tuple [.int 0, .int 1, .int 1, .int 0])), some (.dat (.tuple [.int 0, .int 0, .int 0, .int 0, .int 0, .int 0, .int 0, .int 0])), none]) ?_ ?_
  · exact (by
    revert v_k
    exact (anF (anC (by kernel_rfl) (anC (by kernel_rfl) (anC (by kernel_rfl) (anC (by kernel_rfl) (anC (by kernel_rfl) (anC (by kernel_rfl) (anC (by kernel_rfl) (anC (by kernel_rfl) (anN)))))))))))
  refine fseq_nx (σ' := [some .hat, some (.dat v_table), some (.dat v_seed), some (.dat v_k), some (.dat v_test), some (.dat v_first), some (.dat v_edge), some (.dat v_turn), some (.dat v_truth), some (.own [.tuple [.str (PySem.Str.ofString "met"), .str (PySem.Str.ofString "maps")], .tuple [.str (PySem.Str.ofString "met"), .str (PySem.Str.ofString "word")], .tuple [.str (PySem.Str.ofString "met"), .str ((PySem.Str.ofString "number ") ++ PyData.shown (v_k))], .tuple [.str (PySem.Str.ofString "met"), .str (PySem.Str.ofString "maps")], .tuple [.str (PySem.Str.ofString "met"), .str (PySem.Str.ofString "word")], .tuple [.str (PySem.Str.ofString "met"), .str (PySem.Str.ofString "maps")], .tuple [.str (PySem.Str.ofString "met"), .str ((PySem.Str.ofString "number ") ++ PyData.shown (v_k))], .tuple [.str (PySem.Str.ofString "met"), .str (PySem.Str.ofString "word")]]), none, none, none, some (.dat (.tuple [.tuple [.int 0, .int 0, .int 1], .tuple [.int 1, .int 0, .int 0], .tuple [.int 1, .int 1, .int 1], .tuple [.int 0, .int 0, .int 0]])), some (.dat (.tuple [.int 0, .int 1, .int 1, .int 0])), some (.dat (.tuple [.int 0, .int 0, .int 0, .int 0, .int 0, .int 0, .int 0, .int 0])), none]) ?_ ?_
  · exact (by
    revert v_test
    exact (anF (anC (by kernel_rfl) (anC (by kernel_rfl) (anC (by kernel_rfl) (anC (by kernel_rfl) (anC (by kernel_rfl) (anC (by kernel_rfl) (anC (by kernel_rfl) (anC (by kernel_rfl) (anC (by kernel_rfl) (anC (by kernel_rfl) (anN)))))))))))))
  refine fseq_nx (σ' := [some .hat, some (.dat v_table), some (.dat v_seed), some (.dat v_k), some (.dat v_test), some (.dat v_first), some (.dat v_edge), some (.dat v_turn), some (.dat v_truth), some (.own [.tuple [.str (PySem.Str.ofString "met"), .str (PySem.Str.ofString "maps")], .tuple [.str (PySem.Str.ofString "met"), .str (PySem.Str.ofString "word")], .tuple [.str (PySem.Str.ofString "met"), .str ((PySem.Str.ofString "number ") ++ PyData.shown (v_k))], .tuple [.str (PySem.Str.ofString "met"), .str (PySem.Str.ofString "maps")], .tuple [.str (PySem.Str.ofString "met"), .str (PySem.Str.ofString "word")], .tuple [.str (PySem.Str.ofString "met"), .str (PySem.Str.ofString "maps")], .tuple [.str (PySem.Str.ofString "met"), .str ((PySem.Str.ofString "number ") ++ PyData.shown (v_k))], .tuple [.str (PySem.Str.ofString "met"), .str (PySem.Str.ofString "word")], .tuple [.str (PySem.Str.ofString "met"), .str ((PySem.Str.ofString "number ") ++ PyData.shown (v_k))]]), none, none, none, some (.dat (.tuple [.tuple [.int 0, .int 0, .int 1], .tuple [.int 1, .int 0, .int 0], .tuple [.int 1, .int 1, .int 1], .tuple [.int 0, .int 0, .int 0]])), some (.dat (.tuple [.int 0, .int 1, .int 1, .int 0])), some (.dat (.tuple [.int 0, .int 0, .int 0, .int 0, .int 0, .int 0, .int 0, .int 0])), none]) ?_ ?_
  · exact (by
    revert v_k
    exact (anF (anC (by kernel_rfl) (anC (by kernel_rfl) (anC (by kernel_rfl) (anC (by kernel_rfl) (anC (by kernel_rfl) (anC (by kernel_rfl) (anC (by kernel_rfl) (anC (by kernel_rfl) (anN)))))))))))
  refine fseq_nx (σ' := [some .hat, some (.dat v_table), some (.dat v_seed), some (.dat v_k), some (.dat v_test), some (.dat v_first), some (.dat v_edge), some (.dat v_turn), some (.dat v_truth), some (.own [.tuple [.str (PySem.Str.ofString "met"), .str (PySem.Str.ofString "maps")], .tuple [.str (PySem.Str.ofString "met"), .str (PySem.Str.ofString "word")], .tuple [.str (PySem.Str.ofString "met"), .str ((PySem.Str.ofString "number ") ++ PyData.shown (v_k))], .tuple [.str (PySem.Str.ofString "met"), .str (PySem.Str.ofString "maps")], .tuple [.str (PySem.Str.ofString "met"), .str (PySem.Str.ofString "word")], .tuple [.str (PySem.Str.ofString "met"), .str (PySem.Str.ofString "maps")], .tuple [.str (PySem.Str.ofString "met"), .str ((PySem.Str.ofString "number ") ++ PyData.shown (v_k))], .tuple [.str (PySem.Str.ofString "met"), .str (PySem.Str.ofString "word")], .tuple [.str (PySem.Str.ofString "met"), .str ((PySem.Str.ofString "number ") ++ PyData.shown (v_k))], .tuple [.str (PySem.Str.ofString "met"), .str (PySem.Str.ofString "word")]]), none, none, none, some (.dat (.tuple [.tuple [.int 0, .int 0, .int 1], .tuple [.int 1, .int 0, .int 0], .tuple [.int 1, .int 1, .int 1], .tuple [.int 0, .int 0, .int 0]])), some (.dat (.tuple [.int 0, .int 1, .int 1, .int 0])), some (.dat (.tuple [.int 0, .int 0, .int 0, .int 0, .int 0, .int 0, .int 0, .int 0])), none]) ?_ ?_
  · exact (by
    revert v_test
    exact (anF (anC (by kernel_rfl) (anC (by kernel_rfl) (anC (by kernel_rfl) (anC (by kernel_rfl) (anC (by kernel_rfl) (anC (by kernel_rfl) (anC (by kernel_rfl) (anC (by kernel_rfl) (anC (by kernel_rfl) (anC (by kernel_rfl) (anN)))))))))))))
  refine fseq_nx (σ' := [some .hat, some (.dat v_table), some (.dat v_seed), some (.dat v_k), some (.dat v_test), some (.dat v_first), some (.dat v_edge), some (.dat v_turn), some (.dat v_truth), some (.own [.tuple [.str (PySem.Str.ofString "met"), .str (PySem.Str.ofString "maps")], .tuple [.str (PySem.Str.ofString "met"), .str (PySem.Str.ofString "word")], .tuple [.str (PySem.Str.ofString "met"), .str ((PySem.Str.ofString "number ") ++ PyData.shown (v_k))], .tuple [.str (PySem.Str.ofString "met"), .str (PySem.Str.ofString "maps")], .tuple [.str (PySem.Str.ofString "met"), .str (PySem.Str.ofString "word")], .tuple [.str (PySem.Str.ofString "met"), .str (PySem.Str.ofString "maps")], .tuple [.str (PySem.Str.ofString "met"), .str ((PySem.Str.ofString "number ") ++ PyData.shown (v_k))], .tuple [.str (PySem.Str.ofString "met"), .str (PySem.Str.ofString "word")], .tuple [.str (PySem.Str.ofString "met"), .str ((PySem.Str.ofString "number ") ++ PyData.shown (v_k))], .tuple [.str (PySem.Str.ofString "met"), .str (PySem.Str.ofString "word")], .tuple [.str (PySem.Str.ofString "met"), .str (PySem.Str.ofString "word")]]), none, none, none, some (.dat (.tuple [.tuple [.int 0, .int 0, .int 1], .tuple [.int 1, .int 0, .int 0], .tuple [.int 1, .int 1, .int 1], .tuple [.int 0, .int 0, .int 0]])), some (.dat (.tuple [.int 0, .int 1, .int 1, .int 0])), some (.dat (.tuple [.int 0, .int 0, .int 0, .int 0, .int 0, .int 0, .int 0, .int 0])), none]) ?_ ?_
  · exact (by
    revert v_first
    exact (anF (anC (by kernel_rfl) (anC (by kernel_rfl) (anC (by kernel_rfl) (anC (by kernel_rfl) (anC (by kernel_rfl) (anC (by kernel_rfl) (anC (by kernel_rfl) (anC (by kernel_rfl) (anN)))))))))))
  refine fseq_nx (σ' := [some .hat, some (.dat v_table), some (.dat v_seed), some (.dat v_k), some (.dat v_test), some (.dat v_first), some (.dat v_edge), some (.dat v_turn), some (.dat v_truth), some (.own [.tuple [.str (PySem.Str.ofString "met"), .str (PySem.Str.ofString "maps")], .tuple [.str (PySem.Str.ofString "met"), .str (PySem.Str.ofString "word")], .tuple [.str (PySem.Str.ofString "met"), .str ((PySem.Str.ofString "number ") ++ PyData.shown (v_k))], .tuple [.str (PySem.Str.ofString "met"), .str (PySem.Str.ofString "maps")], .tuple [.str (PySem.Str.ofString "met"), .str (PySem.Str.ofString "word")], .tuple [.str (PySem.Str.ofString "met"), .str (PySem.Str.ofString "maps")], .tuple [.str (PySem.Str.ofString "met"), .str ((PySem.Str.ofString "number ") ++ PyData.shown (v_k))], .tuple [.str (PySem.Str.ofString "met"), .str (PySem.Str.ofString "word")], .tuple [.str (PySem.Str.ofString "met"), .str ((PySem.Str.ofString "number ") ++ PyData.shown (v_k))], .tuple [.str (PySem.Str.ofString "met"), .str (PySem.Str.ofString "word")], .tuple [.str (PySem.Str.ofString "met"), .str (PySem.Str.ofString "word")]]), some (.dat (.list [.str (PySem.Str.ofString "maps"), .str (PySem.Str.ofString "word"), .str ((PySem.Str.ofString "number ") ++ PyData.shown (v_k)), .str (PySem.Str.ofString "maps"), .str (PySem.Str.ofString "word"), .str (PySem.Str.ofString "maps"), .str ((PySem.Str.ofString "number ") ++ PyData.shown (v_k)), .str (PySem.Str.ofString "word"), .str ((PySem.Str.ofString "number ") ++ PyData.shown (v_k)), .str (PySem.Str.ofString "word"), .str (PySem.Str.ofString "word")])), none, none, some (.dat (.tuple [.tuple [.int 0, .int 0, .int 1], .tuple [.int 1, .int 0, .int 0], .tuple [.int 1, .int 1, .int 1], .tuple [.int 0, .int 0, .int 0]])), some (.dat (.tuple [.int 0, .int 1, .int 1, .int 0])), some (.dat (.tuple [.int 0, .int 0, .int 0, .int 0, .int 0, .int 0, .int 0, .int 0])), none]) ?_ ?_
  · exact (by
    revert v_k
    exact (anF (anC (by kernel_rfl) (anC (by kernel_rfl) (anC (by kernel_rfl) (anC (by kernel_rfl) (anC (by kernel_rfl) (anC (by kernel_rfl) (anC (by kernel_rfl) (anC (by kernel_rfl) (anN)))))))))))
  refine fseq_nx (σ' := [some .hat, some (.dat v_table), some (.dat v_seed), some (.dat v_k), some (.dat v_test), some (.dat v_first), some (.dat v_edge), some (.dat v_turn), some (.dat v_truth), some (.own [.tuple [.str (PySem.Str.ofString "met"), .str (PySem.Str.ofString "maps")], .tuple [.str (PySem.Str.ofString "met"), .str (PySem.Str.ofString "word")], .tuple [.str (PySem.Str.ofString "met"), .str ((PySem.Str.ofString "number ") ++ PyData.shown (v_k))], .tuple [.str (PySem.Str.ofString "met"), .str (PySem.Str.ofString "maps")], .tuple [.str (PySem.Str.ofString "met"), .str (PySem.Str.ofString "word")], .tuple [.str (PySem.Str.ofString "met"), .str (PySem.Str.ofString "maps")], .tuple [.str (PySem.Str.ofString "met"), .str ((PySem.Str.ofString "number ") ++ PyData.shown (v_k))], .tuple [.str (PySem.Str.ofString "met"), .str (PySem.Str.ofString "word")], .tuple [.str (PySem.Str.ofString "met"), .str ((PySem.Str.ofString "number ") ++ PyData.shown (v_k))], .tuple [.str (PySem.Str.ofString "met"), .str (PySem.Str.ofString "word")], .tuple [.str (PySem.Str.ofString "met"), .str (PySem.Str.ofString "word")], .tuple [.str (PySem.Str.ofString "met"), .str (PySem.Str.ofString "maps")], .tuple [.str (PySem.Str.ofString "met"), .str ((PySem.Str.ofString "number ") ++ PyData.shown (v_k))], .tuple [.str (PySem.Str.ofString "met"), .str (PySem.Str.ofString "word")], .tuple [.str (PySem.Str.ofString "met"), .str (PySem.Str.ofString "fraction")], .tuple [.str (PySem.Str.ofString "met"), .str (PySem.Str.ofString "maps")], .tuple [.str (PySem.Str.ofString "met"), .str ((PySem.Str.ofString "number ") ++ PyData.shown (v_k))], .tuple [.str (PySem.Str.ofString "met"), .str (PySem.Str.ofString "word")], .tuple [.str (PySem.Str.ofString "met"), .str (PySem.Str.ofString "fraction")]]), some (.dat (.list [.str (PySem.Str.ofString "maps"), .str (PySem.Str.ofString "word"), .str ((PySem.Str.ofString "number ") ++ PyData.shown (v_k)), .str (PySem.Str.ofString "maps"), .str (PySem.Str.ofString "word"), .str (PySem.Str.ofString "maps"), .str ((PySem.Str.ofString "number ") ++ PyData.shown (v_k)), .str (PySem.Str.ofString "word"), .str ((PySem.Str.ofString "number ") ++ PyData.shown (v_k)), .str (PySem.Str.ofString "word"), .str (PySem.Str.ofString "word"), .str (PySem.Str.ofString "maps"), .str ((PySem.Str.ofString "number ") ++ PyData.shown (v_k)), .str (PySem.Str.ofString "word"), .str (PySem.Str.ofString "fraction"), .str (PySem.Str.ofString "maps"), .str ((PySem.Str.ofString "number ") ++ PyData.shown (v_k)), .str (PySem.Str.ofString "word"), .str (PySem.Str.ofString "fraction")])), some (.lam "_law_right.21.1"), none, some (.dat (.tuple [.tuple [.int 0, .int 0, .int 1], .tuple [.int 1, .int 0, .int 0], .tuple [.int 1, .int 1, .int 1], .tuple [.int 0, .int 0, .int 0]])), some (.dat (.tuple [.int 0, .int 1, .int 1, .int 0])), some (.dat (.tuple [.int 0, .int 0, .int 0, .int 0, .int 0, .int 0, .int 0, .int 0])), none]) (forW_at (forWF_nx (σ' := [some .hat, some (.dat v_table), some (.dat v_seed), some (.dat v_k), some (.dat v_test), some (.dat v_first), some (.dat v_edge), some (.dat v_turn), some (.dat v_truth), some (.own [.tuple [.str (PySem.Str.ofString "met"), .str (PySem.Str.ofString "maps")], .tuple [.str (PySem.Str.ofString "met"), .str (PySem.Str.ofString "word")], .tuple [.str (PySem.Str.ofString "met"), .str ((PySem.Str.ofString "number ") ++ PyData.shown (v_k))], .tuple [.str (PySem.Str.ofString "met"), .str (PySem.Str.ofString "maps")], .tuple [.str (PySem.Str.ofString "met"), .str (PySem.Str.ofString "word")], .tuple [.str (PySem.Str.ofString "met"), .str (PySem.Str.ofString "maps")], .tuple [.str (PySem.Str.ofString "met"), .str ((PySem.Str.ofString "number ") ++ PyData.shown (v_k))], .tuple [.str (PySem.Str.ofString "met"), .str (PySem.Str.ofString "word")], .tuple [.str (PySem.Str.ofString "met"), .str ((PySem.Str.ofString "number ") ++ PyData.shown (v_k))], .tuple [.str (PySem.Str.ofString "met"), .str (PySem.Str.ofString "word")], .tuple [.str (PySem.Str.ofString "met"), .str (PySem.Str.ofString "word")], .tuple [.str (PySem.Str.ofString "met"), .str (PySem.Str.ofString "maps")], .tuple [.str (PySem.Str.ofString "met"), .str ((PySem.Str.ofString "number ") ++ PyData.shown (v_k))], .tuple [.str (PySem.Str.ofString "met"), .str (PySem.Str.ofString "word")], .tuple [.str (PySem.Str.ofString "met"), .str (PySem.Str.ofString "fraction")]]), some (.dat (.list [.str (PySem.Str.ofString "maps"), .str (PySem.Str.ofString "word"), .str ((PySem.Str.ofString "number ") ++ PyData.shown (v_k)), .str (PySem.Str.ofString "maps"), .str (PySem.Str.ofString "word"), .str (PySem.Str.ofString "maps"), .str ((PySem.Str.ofString "number ") ++ PyData.shown (v_k)), .str (PySem.Str.ofString "word"), .str ((PySem.Str.ofString "number ") ++ PyData.shown (v_k)), .str (PySem.Str.ofString "word"), .str (PySem.Str.ofString "word"), .str (PySem.Str.ofString "maps"), .str ((PySem.Str.ofString "number ") ++ PyData.shown (v_k)), .str (PySem.Str.ofString "word"), .str (PySem.Str.ofString "fraction")])), some (.fn "long_answer"), none, some (.dat (.tuple [.tuple [.int 0, .int 0, .int 1], .tuple [.int 1, .int 0, .int 0], .tuple [.int 1, .int 1, .int 1], .tuple [.int 0, .int 0, .int 0]])), some (.dat (.tuple [.int 0, .int 1, .int 1, .int 0])), some (.dat (.tuple [.int 0, .int 0, .int 0, .int 0, .int 0, .int 0, .int 0, .int 0])), none]) (fseq_nx (σ' := [some .hat, some (.dat v_table), some (.dat v_seed), some (.dat v_k), some (.dat v_test), some (.dat v_first), some (.dat v_edge), some (.dat v_turn), some (.dat v_truth), some (.own [.tuple [.str (PySem.Str.ofString "met"), .str (PySem.Str.ofString "maps")], .tuple [.str (PySem.Str.ofString "met"), .str (PySem.Str.ofString "word")], .tuple [.str (PySem.Str.ofString "met"), .str ((PySem.Str.ofString "number ") ++ PyData.shown (v_k))], .tuple [.str (PySem.Str.ofString "met"), .str (PySem.Str.ofString "maps")], .tuple [.str (PySem.Str.ofString "met"), .str (PySem.Str.ofString "word")], .tuple [.str (PySem.Str.ofString "met"), .str (PySem.Str.ofString "maps")], .tuple [.str (PySem.Str.ofString "met"), .str ((PySem.Str.ofString "number ") ++ PyData.shown (v_k))], .tuple [.str (PySem.Str.ofString "met"), .str (PySem.Str.ofString "word")], .tuple [.str (PySem.Str.ofString "met"), .str ((PySem.Str.ofString "number ") ++ PyData.shown (v_k))], .tuple [.str (PySem.Str.ofString "met"), .str (PySem.Str.ofString "word")], .tuple [.str (PySem.Str.ofString "met"), .str (PySem.Str.ofString "word")], .tuple [.str (PySem.Str.ofString "met"), .str (PySem.Str.ofString "maps")]]), some (.dat (.list [.str (PySem.Str.ofString "maps"), .str (PySem.Str.ofString "word"), .str ((PySem.Str.ofString "number ") ++ PyData.shown (v_k)), .str (PySem.Str.ofString "maps"), .str (PySem.Str.ofString "word"), .str (PySem.Str.ofString "maps"), .str ((PySem.Str.ofString "number ") ++ PyData.shown (v_k)), .str (PySem.Str.ofString "word"), .str ((PySem.Str.ofString "number ") ++ PyData.shown (v_k)), .str (PySem.Str.ofString "word"), .str (PySem.Str.ofString "word")])), some (.fn "long_answer"), none, some (.dat (.tuple [.tuple [.int 0, .int 0, .int 1], .tuple [.int 1, .int 0, .int 0], .tuple [.int 1, .int 1, .int 1], .tuple [.int 0, .int 0, .int 0]])), some (.dat (.tuple [.int 0, .int 1, .int 1, .int 0])), some (.dat (.tuple [.int 0, .int 0, .int 0, .int 0, .int 0, .int 0, .int 0, .int 0])), none]) (by
    revert v_table
    exact (anF (anC (by kernel_rfl) (anC (by kernel_rfl) (anC (by kernel_rfl) (anC (by kernel_rfl) (anC (by kernel_rfl) (anC (by kernel_rfl) (anC (by kernel_rfl) (anC (by kernel_rfl) (anC (by kernel_rfl) (anC (by kernel_rfl) (anC (by kernel_rfl) (anN)))))))))))))) (fseq_nx (σ' := [some .hat, some (.dat v_table), some (.dat v_seed), some (.dat v_k), some (.dat v_test), some (.dat v_first), some (.dat v_edge), some (.dat v_turn), some (.dat v_truth), some (.own [.tuple [.str (PySem.Str.ofString "met"), .str (PySem.Str.ofString "maps")], .tuple [.str (PySem.Str.ofString "met"), .str (PySem.Str.ofString "word")], .tuple [.str (PySem.Str.ofString "met"), .str ((PySem.Str.ofString "number ") ++ PyData.shown (v_k))], .tuple [.str (PySem.Str.ofString "met"), .str (PySem.Str.ofString "maps")], .tuple [.str (PySem.Str.ofString "met"), .str (PySem.Str.ofString "word")], .tuple [.str (PySem.Str.ofString "met"), .str (PySem.Str.ofString "maps")], .tuple [.str (PySem.Str.ofString "met"), .str ((PySem.Str.ofString "number ") ++ PyData.shown (v_k))], .tuple [.str (PySem.Str.ofString "met"), .str (PySem.Str.ofString "word")], .tuple [.str (PySem.Str.ofString "met"), .str ((PySem.Str.ofString "number ") ++ PyData.shown (v_k))], .tuple [.str (PySem.Str.ofString "met"), .str (PySem.Str.ofString "word")], .tuple [.str (PySem.Str.ofString "met"), .str (PySem.Str.ofString "word")], .tuple [.str (PySem.Str.ofString "met"), .str (PySem.Str.ofString "maps")], .tuple [.str (PySem.Str.ofString "met"), .str ((PySem.Str.ofString "number ") ++ PyData.shown (v_k))]]), some (.dat (.list [.str (PySem.Str.ofString "maps"), .str (PySem.Str.ofString "word"), .str ((PySem.Str.ofString "number ") ++ PyData.shown (v_k)), .str (PySem.Str.ofString "maps"), .str (PySem.Str.ofString "word"), .str (PySem.Str.ofString "maps"), .str ((PySem.Str.ofString "number ") ++ PyData.shown (v_k)), .str (PySem.Str.ofString "word"), .str ((PySem.Str.ofString "number ") ++ PyData.shown (v_k)), .str (PySem.Str.ofString "word"), .str (PySem.Str.ofString "word")])), some (.fn "long_answer"), none, some (.dat (.tuple [.tuple [.int 0, .int 0, .int 1], .tuple [.int 1, .int 0, .int 0], .tuple [.int 1, .int 1, .int 1], .tuple [.int 0, .int 0, .int 0]])), some (.dat (.tuple [.int 0, .int 1, .int 1, .int 0])), some (.dat (.tuple [.int 0, .int 0, .int 0, .int 0, .int 0, .int 0, .int 0, .int 0])), none]) (by
    revert v_k
    exact (anF (anC (by kernel_rfl) (anC (by kernel_rfl) (anC (by kernel_rfl) (anC (by kernel_rfl) (anC (by kernel_rfl) (anC (by kernel_rfl) (anC (by kernel_rfl) (anC (by kernel_rfl) (anN))))))))))) (fseq_nx (σ' := [some .hat, some (.dat v_table), some (.dat v_seed), some (.dat v_k), some (.dat v_test), some (.dat v_first), some (.dat v_edge), some (.dat v_turn), some (.dat v_truth), some (.own [.tuple [.str (PySem.Str.ofString "met"), .str (PySem.Str.ofString "maps")], .tuple [.str (PySem.Str.ofString "met"), .str (PySem.Str.ofString "word")], .tuple [.str (PySem.Str.ofString "met"), .str ((PySem.Str.ofString "number ") ++ PyData.shown (v_k))], .tuple [.str (PySem.Str.ofString "met"), .str (PySem.Str.ofString "maps")], .tuple [.str (PySem.Str.ofString "met"), .str (PySem.Str.ofString "word")], .tuple [.str (PySem.Str.ofString "met"), .str (PySem.Str.ofString "maps")], .tuple [.str (PySem.Str.ofString "met"), .str ((PySem.Str.ofString "number ") ++ PyData.shown (v_k))], .tuple [.str (PySem.Str.ofString "met"), .str (PySem.Str.ofString "word")], .tuple [.str (PySem.Str.ofString "met"), .str ((PySem.Str.ofString "number ") ++ PyData.shown (v_k))], .tuple [.str (PySem.Str.ofString "met"), .str (PySem.Str.ofString "word")], .tuple [.str (PySem.Str.ofString "met"), .str (PySem.Str.ofString "word")], .tuple [.str (PySem.Str.ofString "met"), .str (PySem.Str.ofString "maps")], .tuple [.str (PySem.Str.ofString "met"), .str ((PySem.Str.ofString "number ") ++ PyData.shown (v_k))], .tuple [.str (PySem.Str.ofString "met"), .str (PySem.Str.ofString "word")]]), some (.dat (.list [.str (PySem.Str.ofString "maps"), .str (PySem.Str.ofString "word"), .str ((PySem.Str.ofString "number ") ++ PyData.shown (v_k)), .str (PySem.Str.ofString "maps"), .str (PySem.Str.ofString "word"), .str (PySem.Str.ofString "maps"), .str ((PySem.Str.ofString "number ") ++ PyData.shown (v_k)), .str (PySem.Str.ofString "word"), .str ((PySem.Str.ofString "number ") ++ PyData.shown (v_k)), .str (PySem.Str.ofString "word"), .str (PySem.Str.ofString "word")])), some (.fn "long_answer"), none, some (.dat (.tuple [.tuple [.int 0, .int 0, .int 1], .tuple [.int 1, .int 0, .int 0], .tuple [.int 1, .int 1, .int 1], .tuple [.int 0, .int 0, .int 0]])), some (.dat (.tuple [.int 0, .int 1, .int 1, .int 0])), some (.dat (.tuple [.int 0, .int 0, .int 0, .int 0, .int 0, .int 0, .int 0, .int 0])), none]) (by
    revert v_test
    exact (anF (anC (by kernel_rfl) (anC (by kernel_rfl) (anC (by kernel_rfl) (anC (by kernel_rfl) (anC (by kernel_rfl) (anC (by kernel_rfl) (anC (by kernel_rfl) (anC (by kernel_rfl) (anC (by kernel_rfl) (anC (by kernel_rfl) (anN))))))))))))) (fseq_nx (σ' := [some .hat, some (.dat v_table), some (.dat v_seed), some (.dat v_k), some (.dat v_test), some (.dat v_first), some (.dat v_edge), some (.dat v_turn), some (.dat v_truth), some (.own [.tuple [.str (PySem.Str.ofString "met"), .str (PySem.Str.ofString "maps")], .tuple [.str (PySem.Str.ofString "met"), .str (PySem.Str.ofString "word")], .tuple [.str (PySem.Str.ofString "met"), .str ((PySem.Str.ofString "number ") ++ PyData.shown (v_k))], .tuple [.str (PySem.Str.ofString "met"), .str (PySem.Str.ofString "maps")], .tuple [.str (PySem.Str.ofString "met"), .str (PySem.Str.ofString "word")], .tuple [.str (PySem.Str.ofString "met"), .str (PySem.Str.ofString "maps")], .tuple [.str (PySem.Str.ofString "met"), .str ((PySem.Str.ofString "number ") ++ PyData.shown (v_k))], .tuple [.str (PySem.Str.ofString "met"), .str (PySem.Str.ofString "word")], .tuple [.str (PySem.Str.ofString "met"), .str ((PySem.Str.ofString "number ") ++ PyData.shown (v_k))], .tuple [.str (PySem.Str.ofString "met"), .str (PySem.Str.ofString "word")], .tuple [.str (PySem.Str.ofString "met"), .str (PySem.Str.ofString "word")], .tuple [.str (PySem.Str.ofString "met"), .str (PySem.Str.ofString "maps")], .tuple [.str (PySem.Str.ofString "met"), .str ((PySem.Str.ofString "number ") ++ PyData.shown (v_k))], .tuple [.str (PySem.Str.ofString "met"), .str (PySem.Str.ofString "word")], .tuple [.str (PySem.Str.ofString "met"), .str (PySem.Str.ofString "fraction")]]), some (.dat (.list [.str (PySem.Str.ofString "maps"), .str (PySem.Str.ofString "word"), .str ((PySem.Str.ofString "number ") ++ PyData.shown (v_k)), .str (PySem.Str.ofString "maps"), .str (PySem.Str.ofString "word"), .str (PySem.Str.ofString "maps"), .str ((PySem.Str.ofString "number ") ++ PyData.shown (v_k)), .str (PySem.Str.ofString "word"), .str ((PySem.Str.ofString "number ") ++ PyData.shown (v_k)), .str (PySem.Str.ofString "word"), .str (PySem.Str.ofString "word")])), some (.fn "long_answer"), none, some (.dat (.tuple [.tuple [.int 0, .int 0, .int 1], .tuple [.int 1, .int 0, .int 0], .tuple [.int 1, .int 1, .int 1], .tuple [.int 0, .int 0, .int 0]])), some (.dat (.tuple [.int 0, .int 1, .int 1, .int 0])), some (.dat (.tuple [.int 0, .int 0, .int 0, .int 0, .int 0, .int 0, .int 0, .int 0])), none]) (by
    revert v_edge
    exact (anF (anC (by kernel_rfl) (anC (by kernel_rfl) (anC (by kernel_rfl) (anC (by kernel_rfl) (anC (by kernel_rfl) (anC (by kernel_rfl) (anC (by kernel_rfl) (anC (by kernel_rfl) (anC (by kernel_rfl) (anC (by kernel_rfl) (anN))))))))))))) (by
    revert v_k
    exact (anF (anC (by kernel_rfl) (anC (by kernel_rfl) (anC (by kernel_rfl) (anC (by kernel_rfl) (anC (by kernel_rfl) (anC (by kernel_rfl) (anC (by kernel_rfl) (anC (by kernel_rfl) (anN))))))))))))))) (forWF_nx (σ' := [some .hat, some (.dat v_table), some (.dat v_seed), some (.dat v_k), some (.dat v_test), some (.dat v_first), some (.dat v_edge), some (.dat v_turn), some (.dat v_truth), some (.own [.tuple [.str (PySem.Str.ofString "met"), .str (PySem.Str.ofString "maps")], .tuple [.str (PySem.Str.ofString "met"), .str (PySem.Str.ofString "word")], .tuple [.str (PySem.Str.ofString "met"), .str ((PySem.Str.ofString "number ") ++ PyData.shown (v_k))], .tuple [.str (PySem.Str.ofString "met"), .str (PySem.Str.ofString "maps")], .tuple [.str (PySem.Str.ofString "met"), .str (PySem.Str.ofString "word")], .tuple [.str (PySem.Str.ofString "met"), .str (PySem.Str.ofString "maps")], .tuple [.str (PySem.Str.ofString "met"), .str ((PySem.Str.ofString "number ") ++ PyData.shown (v_k))], .tuple [.str (PySem.Str.ofString "met"), .str (PySem.Str.ofString "word")], .tuple [.str (PySem.Str.ofString "met"), .str ((PySem.Str.ofString "number ") ++ PyData.shown (v_k))], .tuple [.str (PySem.Str.ofString "met"), .str (PySem.Str.ofString "word")], .tuple [.str (PySem.Str.ofString "met"), .str (PySem.Str.ofString "word")], .tuple [.str (PySem.Str.ofString "met"), .str (PySem.Str.ofString "maps")], .tuple [.str (PySem.Str.ofString "met"), .str ((PySem.Str.ofString "number ") ++ PyData.shown (v_k))], .tuple [.str (PySem.Str.ofString "met"), .str (PySem.Str.ofString "word")], .tuple [.str (PySem.Str.ofString "met"), .str (PySem.Str.ofString "fraction")], .tuple [.str (PySem.Str.ofString "met"), .str (PySem.Str.ofString "maps")], .tuple [.str (PySem.Str.ofString "met"), .str ((PySem.Str.ofString "number ") ++ PyData.shown (v_k))], .tuple [.str (PySem.Str.ofString "met"), .str (PySem.Str.ofString "word")], .tuple [.str (PySem.Str.ofString "met"), .str (PySem.Str.ofString "fraction")]]), some (.dat (.list [.str (PySem.Str.ofString "maps"), .str (PySem.Str.ofString "word"), .str ((PySem.Str.ofString "number ") ++ PyData.shown (v_k)), .str (PySem.Str.ofString "maps"), .str (PySem.Str.ofString "word"), .str (PySem.Str.ofString "maps"), .str ((PySem.Str.ofString "number ") ++ PyData.shown (v_k)), .str (PySem.Str.ofString "word"), .str ((PySem.Str.ofString "number ") ++ PyData.shown (v_k)), .str (PySem.Str.ofString "word"), .str (PySem.Str.ofString "word"), .str (PySem.Str.ofString "maps"), .str ((PySem.Str.ofString "number ") ++ PyData.shown (v_k)), .str (PySem.Str.ofString "word"), .str (PySem.Str.ofString "fraction"), .str (PySem.Str.ofString "maps"), .str ((PySem.Str.ofString "number ") ++ PyData.shown (v_k)), .str (PySem.Str.ofString "word"), .str (PySem.Str.ofString "fraction")])), some (.lam "_law_right.21.1"), none, some (.dat (.tuple [.tuple [.int 0, .int 0, .int 1], .tuple [.int 1, .int 0, .int 0], .tuple [.int 1, .int 1, .int 1], .tuple [.int 0, .int 0, .int 0]])), some (.dat (.tuple [.int 0, .int 1, .int 1, .int 0])), some (.dat (.tuple [.int 0, .int 0, .int 0, .int 0, .int 0, .int 0, .int 0, .int 0])), none]) (fseq_nx (σ' := [some .hat, some (.dat v_table), some (.dat v_seed), some (.dat v_k), some (.dat v_test), some (.dat v_first), some (.dat v_edge), some (.dat v_turn), some (.dat v_truth), some (.own [.tuple [.str (PySem.Str.ofString "met"), .str (PySem.Str.ofString "maps")], .tuple [.str (PySem.Str.ofString "met"), .str (PySem.Str.ofString "word")], .tuple [.str (PySem.Str.ofString "met"), .str ((PySem.Str.ofString "number ") ++ PyData.shown (v_k))], .tuple [.str (PySem.Str.ofString "met"), .str (PySem.Str.ofString "maps")], .tuple [.str (PySem.Str.ofString "met"), .str (PySem.Str.ofString "word")], .tuple [.str (PySem.Str.ofString "met"), .str (PySem.Str.ofString "maps")], .tuple [.str (PySem.Str.ofString "met"), .str ((PySem.Str.ofString "number ") ++ PyData.shown (v_k))], .tuple [.str (PySem.Str.ofString "met"), .str (PySem.Str.ofString "word")], .tuple [.str (PySem.Str.ofString "met"), .str ((PySem.Str.ofString "number ") ++ PyData.shown (v_k))], .tuple [.str (PySem.Str.ofString "met"), .str (PySem.Str.ofString "word")], .tuple [.str (PySem.Str.ofString "met"), .str (PySem.Str.ofString "word")], .tuple [.str (PySem.Str.ofString "met"), .str (PySem.Str.ofString "maps")], .tuple [.str (PySem.Str.ofString "met"), .str ((PySem.Str.ofString "number ") ++ PyData.shown (v_k))], .tuple [.str (PySem.Str.ofString "met"), .str (PySem.Str.ofString "word")], .tuple [.str (PySem.Str.ofString "met"), .str (PySem.Str.ofString "fraction")], .tuple [.str (PySem.Str.ofString "met"), .str (PySem.Str.ofString "maps")]]), some (.dat (.list [.str (PySem.Str.ofString "maps"), .str (PySem.Str.ofString "word"), .str ((PySem.Str.ofString "number ") ++ PyData.shown (v_k)), .str (PySem.Str.ofString "maps"), .str (PySem.Str.ofString "word"), .str (PySem.Str.ofString "maps"), .str ((PySem.Str.ofString "number ") ++ PyData.shown (v_k)), .str (PySem.Str.ofString "word"), .str ((PySem.Str.ofString "number ") ++ PyData.shown (v_k)), .str (PySem.Str.ofString "word"), .str (PySem.Str.ofString "word"), .str (PySem.Str.ofString "maps"), .str ((PySem.Str.ofString "number ") ++ PyData.shown (v_k)), .str (PySem.Str.ofString "word"), .str (PySem.Str.ofString "fraction")])), some (.lam "_law_right.21.1"), none, some (.dat (.tuple [.tuple [.int 0, .int 0, .int 1], .tuple [.int 1, .int 0, .int 0], .tuple [.int 1, .int 1, .int 1], .tuple [.int 0, .int 0, .int 0]])), some (.dat (.tuple [.int 0, .int 1, .int 1, .int 0])), some (.dat (.tuple [.int 0, .int 0, .int 0, .int 0, .int 0, .int 0, .int 0, .int 0])), none]) (by
    revert v_table
    exact (anF (anC (by kernel_rfl) (anC (by kernel_rfl) (anC (by kernel_rfl) (anC (by kernel_rfl) (anC (by kernel_rfl) (anC (by kernel_rfl) (anC (by kernel_rfl) (anC (by kernel_rfl) (anC (by kernel_rfl) (anC (by kernel_rfl) (anC (by kernel_rfl) (anN)))))))))))))) (fseq_nx (σ' := [some .hat, some (.dat v_table), some (.dat v_seed), some (.dat v_k), some (.dat v_test), some (.dat v_first), some (.dat v_edge), some (.dat v_turn), some (.dat v_truth), some (.own [.tuple [.str (PySem.Str.ofString "met"), .str (PySem.Str.ofString "maps")], .tuple [.str (PySem.Str.ofString "met"), .str (PySem.Str.ofString "word")], .tuple [.str (PySem.Str.ofString "met"), .str ((PySem.Str.ofString "number ") ++ PyData.shown (v_k))], .tuple [.str (PySem.Str.ofString "met"), .str (PySem.Str.ofString "maps")], .tuple [.str (PySem.Str.ofString "met"), .str (PySem.Str.ofString "word")], .tuple [.str (PySem.Str.ofString "met"), .str (PySem.Str.ofString "maps")], .tuple [.str (PySem.Str.ofString "met"), .str ((PySem.Str.ofString "number ") ++ PyData.shown (v_k))], .tuple [.str (PySem.Str.ofString "met"), .str (PySem.Str.ofString "word")], .tuple [.str (PySem.Str.ofString "met"), .str ((PySem.Str.ofString "number ") ++ PyData.shown (v_k))], .tuple [.str (PySem.Str.ofString "met"), .str (PySem.Str.ofString "word")], .tuple [.str (PySem.Str.ofString "met"), .str (PySem.Str.ofString "word")], .tuple [.str (PySem.Str.ofString "met"), .str (PySem.Str.ofString "maps")], .tuple [.str (PySem.Str.ofString "met"), .str ((PySem.Str.ofString "number ") ++ PyData.shown (v_k))], .tuple [.str (PySem.Str.ofString "met"), .str (PySem.Str.ofString "word")], .tuple [.str (PySem.Str.ofString "met"), .str (PySem.Str.ofString "fraction")], .tuple [.str (PySem.Str.ofString "met"), .str (PySem.Str.ofString "maps")], .tuple [.str (PySem.Str.ofString "met"), .str ((PySem.Str.ofString "number ") ++ PyData.shown (v_k))]]), some (.dat (.list [.str (PySem.Str.ofString "maps"), .str (PySem.Str.ofString "word"), .str ((PySem.Str.ofString "number ") ++ PyData.shown (v_k)), .str (PySem.Str.ofString "maps"), .str (PySem.Str.ofString "word"), .str (PySem.Str.ofString "maps"), .str ((PySem.Str.ofString "number ") ++ PyData.shown (v_k)), .str (PySem.Str.ofString "word"), .str ((PySem.Str.ofString "number ") ++ PyData.shown (v_k)), .str (PySem.Str.ofString "word"), .str (PySem.Str.ofString "word"), .str (PySem.Str.ofString "maps"), .str ((PySem.Str.ofString "number ") ++ PyData.shown (v_k)), .str (PySem.Str.ofString "word"), .str (PySem.Str.ofString "fraction")])), some (.lam "_law_right.21.1"), none, some (.dat (.tuple [.tuple [.int 0, .int 0, .int 1], .tuple [.int 1, .int 0, .int 0], .tuple [.int 1, .int 1, .int 1], .tuple [.int 0, .int 0, .int 0]])), some (.dat (.tuple [.int 0, .int 1, .int 1, .int 0])), some (.dat (.tuple [.int 0, .int 0, .int 0, .int 0, .int 0, .int 0, .int 0, .int 0])), none]) (by
    revert v_k
    exact (anF (anC (by kernel_rfl) (anC (by kernel_rfl) (anC (by kernel_rfl) (anC (by kernel_rfl) (anC (by kernel_rfl) (anC (by kernel_rfl) (anC (by kernel_rfl) (anC (by kernel_rfl) (anN))))))))))) (fseq_nx (σ' := [some .hat, some (.dat v_table), some (.dat v_seed), some (.dat v_k), some (.dat v_test), some (.dat v_first), some (.dat v_edge), some (.dat v_turn), some (.dat v_truth), some (.own [.tuple [.str (PySem.Str.ofString "met"), .str (PySem.Str.ofString "maps")], .tuple [.str (PySem.Str.ofString "met"), .str (PySem.Str.ofString "word")], .tuple [.str (PySem.Str.ofString "met"), .str ((PySem.Str.ofString "number ") ++ PyData.shown (v_k))], .tuple [.str (PySem.Str.ofString "met"), .str (PySem.Str.ofString "maps")], .tuple [.str (PySem.Str.ofString "met"), .str (PySem.Str.ofString "word")], .tuple [.str (PySem.Str.ofString "met"), .str (PySem.Str.ofString "maps")], .tuple [.str (PySem.Str.ofString "met"), .str ((PySem.Str.ofString "number ") ++ PyData.shown (v_k))], .tuple [.str (PySem.Str.ofString "met"), .str (PySem.Str.ofString "word")], .tuple [.str (PySem.Str.ofString "met"), .str ((PySem.Str.ofString "number ") ++ PyData.shown (v_k))], .tuple [.str (PySem.Str.ofString "met"), .str (PySem.Str.ofString "word")], .tuple [.str (PySem.Str.ofString "met"), .str (PySem.Str.ofString "word")], .tuple [.str (PySem.Str.ofString "met"), .str (PySem.Str.ofString "maps")], .tuple [.str (PySem.Str.ofString "met"), .str ((PySem.Str.ofString "number ") ++ PyData.shown (v_k))], .tuple [.str (PySem.Str.ofString "met"), .str (PySem.Str.ofString "word")], .tuple [.str (PySem.Str.ofString "met"), .str (PySem.Str.ofString "fraction")], .tuple [.str (PySem.Str.ofString "met"), .str (PySem.Str.ofString "maps")], .tuple [.str (PySem.Str.ofString "met"), .str ((PySem.Str.ofString "number ") ++ PyData.shown (v_k))], .tuple [.str (PySem.Str.ofString "met"), .str (PySem.Str.ofString "word")]]), some (.dat (.list [.str (PySem.Str.ofString "maps"), .str (PySem.Str.ofString "word"), .str ((PySem.Str.ofString "number ") ++ PyData.shown (v_k)), .str (PySem.Str.ofString "maps"), .str (PySem.Str.ofString "word"), .str (PySem.Str.ofString "maps"), .str ((PySem.Str.ofString "number ") ++ PyData.shown (v_k)), .str (PySem.Str.ofString "word"), .str ((PySem.Str.ofString "number ") ++ PyData.shown (v_k)), .str (PySem.Str.ofString "word"), .str (PySem.Str.ofString "word"), .str (PySem.Str.ofString "maps"), .str ((PySem.Str.ofString "number ") ++ PyData.shown (v_k)), .str (PySem.Str.ofString "word"), .str (PySem.Str.ofString "fraction")])), some (.lam "_law_right.21.1"), none, some (.dat (.tuple [.tuple [.int 0, .int 0, .int 1], .tuple [.int 1, .int 0, .int 0], .tuple [.int 1, .int 1, .int 1], .tuple [.int 0, .int 0, .int 0]])), some (.dat (.tuple [.int 0, .int 1, .int 1, .int 0])), some (.dat (.tuple [.int 0, .int 0, .int 0, .int 0, .int 0, .int 0, .int 0, .int 0])), none]) (by
    revert v_test
    exact (anF (anC (by kernel_rfl) (anC (by kernel_rfl) (anC (by kernel_rfl) (anC (by kernel_rfl) (anC (by kernel_rfl) (anC (by kernel_rfl) (anC (by kernel_rfl) (anC (by kernel_rfl) (anC (by kernel_rfl) (anC (by kernel_rfl) (anN))))))))))))) (fseq_nx (σ' := [some .hat, some (.dat v_table), some (.dat v_seed), some (.dat v_k), some (.dat v_test), some (.dat v_first), some (.dat v_edge), some (.dat v_turn), some (.dat v_truth), some (.own [.tuple [.str (PySem.Str.ofString "met"), .str (PySem.Str.ofString "maps")], .tuple [.str (PySem.Str.ofString "met"), .str (PySem.Str.ofString "word")], .tuple [.str (PySem.Str.ofString "met"), .str ((PySem.Str.ofString "number ") ++ PyData.shown (v_k))], .tuple [.str (PySem.Str.ofString "met"), .str (PySem.Str.ofString "maps")], .tuple [.str (PySem.Str.ofString "met"), .str (PySem.Str.ofString "word")], .tuple [.str (PySem.Str.ofString "met"), .str (PySem.Str.ofString "maps")], .tuple [.str (PySem.Str.ofString "met"), .str ((PySem.Str.ofString "number ") ++ PyData.shown (v_k))], .tuple [.str (PySem.Str.ofString "met"), .str (PySem.Str.ofString "word")], .tuple [.str (PySem.Str.ofString "met"), .str ((PySem.Str.ofString "number ") ++ PyData.shown (v_k))], .tuple [.str (PySem.Str.ofString "met"), .str (PySem.Str.ofString "word")], .tuple [.str (PySem.Str.ofString "met"), .str (PySem.Str.ofString "word")], .tuple [.str (PySem.Str.ofString "met"), .str (PySem.Str.ofString "maps")], .tuple [.str (PySem.Str.ofString "met"), .str ((PySem.Str.ofString "number ") ++ PyData.shown (v_k))], .tuple [.str (PySem.Str.ofString "met"), .str (PySem.Str.ofString "word")], .tuple [.str (PySem.Str.ofString "met"), .str (PySem.Str.ofString "fraction")], .tuple [.str (PySem.Str.ofString "met"), .str (PySem.Str.ofString "maps")], .tuple [.str (PySem.Str.ofString "met"), .str ((PySem.Str.ofString "number ") ++ PyData.shown (v_k))], .tuple [.str (PySem.Str.ofString "met"), .str (PySem.Str.ofString "word")], .tuple [.str (PySem.Str.ofString "met"), .str (PySem.Str.ofString "fraction")]]), some (.dat (.list [.str (PySem.Str.ofString "maps"), .str (PySem.Str.ofString "word"), .str ((PySem.Str.ofString "number ") ++ PyData.shown (v_k)), .str (PySem.Str.ofString "maps"), .str (PySem.Str.ofString "word"), .str (PySem.Str.ofString "maps"), .str ((PySem.Str.ofString "number ") ++ PyData.shown (v_k)), .str (PySem.Str.ofString "word"), .str ((PySem.Str.ofString "number ") ++ PyData.shown (v_k)), .str (PySem.Str.ofString "word"), .str (PySem.Str.ofString "word"), .str (PySem.Str.ofString "maps"), .str ((PySem.Str.ofString "number ") ++ PyData.shown (v_k)), .str (PySem.Str.ofString "word"), .str (PySem.Str.ofString "fraction")])), some (.lam "_law_right.21.1"), none, some (.dat (.tuple [.tuple [.int 0, .int 0, .int 1], .tuple [.int 1, .int 0, .int 0], .tuple [.int 1, .int 1, .int 1], .tuple [.int 0, .int 0, .int 0]])), some (.dat (.tuple [.int 0, .int 1, .int 1, .int 0])), some (.dat (.tuple [.int 0, .int 0, .int 0, .int 0, .int 0, .int 0, .int 0, .int 0])), none]) (by
    revert v_edge
    exact (anF (anC (by kernel_rfl) (anC (by kernel_rfl) (anC (by kernel_rfl) (anC (by kernel_rfl) (anC (by kernel_rfl) (anC (by kernel_rfl) (anC (by kernel_rfl) (anC (by kernel_rfl) (anC (by kernel_rfl) (anC (by kernel_rfl) (anN))))))))))))) (by
    revert v_k
    exact (anF (anC (by kernel_rfl) (anC (by kernel_rfl) (anC (by kernel_rfl) (anC (by kernel_rfl) (anC (by kernel_rfl) (anC (by kernel_rfl) (anC (by kernel_rfl) (anC (by kernel_rfl) (anN))))))))))))))) forWF_nil))) ?_
  refine fseq_nx (σ' := [some .hat, some (.dat v_table), some (.dat v_seed), some (.dat v_k), some (.dat v_test), some (.dat v_first), some (.dat v_edge), some (.dat v_turn), some (.dat v_truth), some (.own [.tuple [.str (PySem.Str.ofString "met"), .str (PySem.Str.ofString "maps")], .tuple [.str (PySem.Str.ofString "met"), .str (PySem.Str.ofString "word")], .tuple [.str (PySem.Str.ofString "met"), .str ((PySem.Str.ofString "number ") ++ PyData.shown (v_k))], .tuple [.str (PySem.Str.ofString "met"), .str (PySem.Str.ofString "maps")], .tuple [.str (PySem.Str.ofString "met"), .str (PySem.Str.ofString "word")], .tuple [.str (PySem.Str.ofString "met"), .str (PySem.Str.ofString "maps")], .tuple [.str (PySem.Str.ofString "met"), .str ((PySem.Str.ofString "number ") ++ PyData.shown (v_k))], .tuple [.str (PySem.Str.ofString "met"), .str (PySem.Str.ofString "word")], .tuple [.str (PySem.Str.ofString "met"), .str ((PySem.Str.ofString "number ") ++ PyData.shown (v_k))], .tuple [.str (PySem.Str.ofString "met"), .str (PySem.Str.ofString "word")], .tuple [.str (PySem.Str.ofString "met"), .str (PySem.Str.ofString "word")], .tuple [.str (PySem.Str.ofString "met"), .str (PySem.Str.ofString "maps")], .tuple [.str (PySem.Str.ofString "met"), .str ((PySem.Str.ofString "number ") ++ PyData.shown (v_k))], .tuple [.str (PySem.Str.ofString "met"), .str (PySem.Str.ofString "word")], .tuple [.str (PySem.Str.ofString "met"), .str (PySem.Str.ofString "fraction")], .tuple [.str (PySem.Str.ofString "met"), .str (PySem.Str.ofString "maps")], .tuple [.str (PySem.Str.ofString "met"), .str ((PySem.Str.ofString "number ") ++ PyData.shown (v_k))], .tuple [.str (PySem.Str.ofString "met"), .str (PySem.Str.ofString "word")], .tuple [.str (PySem.Str.ofString "met"), .str (PySem.Str.ofString "fraction")]]), some (.dat (.list [.str (PySem.Str.ofString "maps"), .str (PySem.Str.ofString "word"), .str ((PySem.Str.ofString "number ") ++ PyData.shown (v_k)), .str (PySem.Str.ofString "maps"), .str (PySem.Str.ofString "word"), .str (PySem.Str.ofString "maps"), .str ((PySem.Str.ofString "number ") ++ PyData.shown (v_k)), .str (PySem.Str.ofString "word"), .str ((PySem.Str.ofString "number ") ++ PyData.shown (v_k)), .str (PySem.Str.ofString "word"), .str (PySem.Str.ofString "word"), .str (PySem.Str.ofString "maps"), .str ((PySem.Str.ofString "number ") ++ PyData.shown (v_k)), .str (PySem.Str.ofString "word"), .str (PySem.Str.ofString "fraction"), .str (PySem.Str.ofString "maps"), .str ((PySem.Str.ofString "number ") ++ PyData.shown (v_k)), .str (PySem.Str.ofString "word"), .str (PySem.Str.ofString "fraction")])), some (.lam "_law_right.21.1"), some (.dat v_edge), some (.dat (.tuple [.tuple [.int 0, .int 0, .int 1], .tuple [.int 1, .int 0, .int 0], .tuple [.int 1, .int 1, .int 1], .tuple [.int 0, .int 0, .int 0]])), some (.dat (.tuple [.int 0, .int 1, .int 1, .int 0])), some (.dat (.tuple [.int 0, .int 0, .int 0, .int 0, .int 0, .int 0, .int 0, .int 0])), none]) ?_ ?_
  · exact (by
    revert v_edge
    exact (anF (anC (by kernel_rfl) (anC (by kernel_rfl) (anC (by kernel_rfl) (anC (by kernel_rfl) (anC (by kernel_rfl) (anC (by kernel_rfl) (anC (by kernel_rfl) (anC (by kernel_rfl) (anC (by kernel_rfl) (anC (by kernel_rfl) (anN)))))))))))))
  refine fseq_nx (σ' := [some .hat, some (.dat v_table), some (.dat v_seed), some (.dat v_k), some (.dat v_test), some (.dat v_first), some (.dat v_edge), some (.dat v_turn), some (.dat v_truth), some (.own [.tuple [.str (PySem.Str.ofString "met"), .str (PySem.Str.ofString "maps")], .tuple [.str (PySem.Str.ofString "met"), .str (PySem.Str.ofString "word")], .tuple [.str (PySem.Str.ofString "met"), .str ((PySem.Str.ofString "number ") ++ PyData.shown (v_k))], .tuple [.str (PySem.Str.ofString "met"), .str (PySem.Str.ofString "maps")], .tuple [.str (PySem.Str.ofString "met"), .str (PySem.Str.ofString "word")], .tuple [.str (PySem.Str.ofString "met"), .str (PySem.Str.ofString "maps")], .tuple [.str (PySem.Str.ofString "met"), .str ((PySem.Str.ofString "number ") ++ PyData.shown (v_k))], .tuple [.str (PySem.Str.ofString "met"), .str (PySem.Str.ofString "word")], .tuple [.str (PySem.Str.ofString "met"), .str ((PySem.Str.ofString "number ") ++ PyData.shown (v_k))], .tuple [.str (PySem.Str.ofString "met"), .str (PySem.Str.ofString "word")], .tuple [.str (PySem.Str.ofString "met"), .str (PySem.Str.ofString "word")], .tuple [.str (PySem.Str.ofString "met"), .str (PySem.Str.ofString "maps")], .tuple [.str (PySem.Str.ofString "met"), .str ((PySem.Str.ofString "number ") ++ PyData.shown (v_k))], .tuple [.str (PySem.Str.ofString "met"), .str (PySem.Str.ofString "word")], .tuple [.str (PySem.Str.ofString "met"), .str (PySem.Str.ofString "fraction")], .tuple [.str (PySem.Str.ofString "met"), .str (PySem.Str.ofString "maps")], .tuple [.str (PySem.Str.ofString "met"), .str ((PySem.Str.ofString "number ") ++ PyData.shown (v_k))], .tuple [.str (PySem.Str.ofString "met"), .str (PySem.Str.ofString "word")], .tuple [.str (PySem.Str.ofString "met"), .str (PySem.Str.ofString "fraction")], .tuple [.str (PySem.Str.ofString "met"), .str (PySem.Str.ofString "maps")]]), some (.dat (.list [.str (PySem.Str.ofString "maps"), .str (PySem.Str.ofString "word"), .str ((PySem.Str.ofString "number ") ++ PyData.shown (v_k)), .str (PySem.Str.ofString "maps"), .str (PySem.Str.ofString "word"), .str (PySem.Str.ofString "maps"), .str ((PySem.Str.ofString "number ") ++ PyData.shown (v_k)), .str (PySem.Str.ofString "word"), .str ((PySem.Str.ofString "number ") ++ PyData.shown (v_k)), .str (PySem.Str.ofString "word"), .str (PySem.Str.ofString "word"), .str (PySem.Str.ofString "maps"), .str ((PySem.Str.ofString "number ") ++ PyData.shown (v_k)), .str (PySem.Str.ofString "word"), .str (PySem.Str.ofString "fraction"), .str (PySem.Str.ofString "maps"), .str ((PySem.Str.ofString "number ") ++ PyData.shown (v_k)), .str (PySem.Str.ofString "word"), .str (PySem.Str.ofString "fraction")])), some (.lam "_law_right.21.1"), some (.dat v_edge), some (.dat (.tuple [.tuple [.int 0, .int 0, .int 1], .tuple [.int 1, .int 0, .int 0], .tuple [.int 1, .int 1, .int 1], .tuple [.int 0, .int 0, .int 0]])), some (.dat (.tuple [.int 0, .int 1, .int 1, .int 0])), some (.dat (.tuple [.int 0, .int 0, .int 0, .int 0, .int 0, .int 0, .int 0, .int 0])), none]) ?_ ?_
  · exact (by
    revert v_turn
    exact (anF (anC (by kernel_rfl) (anC (by kernel_rfl) (anC (by kernel_rfl) (anC (by kernel_rfl) (anC (by kernel_rfl) (anC (by kernel_rfl) (anC (by kernel_rfl) (anC (by kernel_rfl) (anC (by kernel_rfl) (anC (by kernel_rfl) (anC (by kernel_rfl) (anC (by kernel_rfl) (anN)))))))))))))))
  refine fseq_nx (σ' := [some .hat, some (.dat v_table), some (.dat v_seed), some (.dat v_k), some (.dat v_test), some (.dat v_first), some (.dat v_edge), some (.dat v_turn), some (.dat v_truth), some (.own [.tuple [.str (PySem.Str.ofString "met"), .str (PySem.Str.ofString "maps")], .tuple [.str (PySem.Str.ofString "met"), .str (PySem.Str.ofString "word")], .tuple [.str (PySem.Str.ofString "met"), .str ((PySem.Str.ofString "number ") ++ PyData.shown (v_k))], .tuple [.str (PySem.Str.ofString "met"), .str (PySem.Str.ofString "maps")], .tuple [.str (PySem.Str.ofString "met"), .str (PySem.Str.ofString "word")], .tuple [.str (PySem.Str.ofString "met"), .str (PySem.Str.ofString "maps")], .tuple [.str (PySem.Str.ofString "met"), .str ((PySem.Str.ofString "number ") ++ PyData.shown (v_k))], .tuple [.str (PySem.Str.ofString "met"), .str (PySem.Str.ofString "word")], .tuple [.str (PySem.Str.ofString "met"), .str ((PySem.Str.ofString "number ") ++ PyData.shown (v_k))], .tuple [.str (PySem.Str.ofString "met"), .str (PySem.Str.ofString "word")], .tuple [.str (PySem.Str.ofString "met"), .str (PySem.Str.ofString "word")], .tuple [.str (PySem.Str.ofString "met"), .str (PySem.Str.ofString "maps")], .tuple [.str (PySem.Str.ofString "met"), .str ((PySem.Str.ofString "number ") ++ PyData.shown (v_k))], .tuple [.str (PySem.Str.ofString "met"), .str (PySem.Str.ofString "word")], .tuple [.str (PySem.Str.ofString "met"), .str (PySem.Str.ofString "fraction")], .tuple [.str (PySem.Str.ofString "met"), .str (PySem.Str.ofString "maps")], .tuple [.str (PySem.Str.ofString "met"), .str ((PySem.Str.ofString "number ") ++ PyData.shown (v_k))], .tuple [.str (PySem.Str.ofString "met"), .str (PySem.Str.ofString "word")], .tuple [.str (PySem.Str.ofString "met"), .str (PySem.Str.ofString "fraction")], .tuple [.str (PySem.Str.ofString "met"), .str (PySem.Str.ofString "maps")], .tuple [.str (PySem.Str.ofString "met"), .str (PySem.Str.ofString "truth")]]), some (.dat (.list [.str (PySem.Str.ofString "maps"), .str (PySem.Str.ofString "word"), .str ((PySem.Str.ofString "number ") ++ PyData.shown (v_k)), .str (PySem.Str.ofString "maps"), .str (PySem.Str.ofString "word"), .str (PySem.Str.ofString "maps"), .str ((PySem.Str.ofString "number ") ++ PyData.shown (v_k)), .str (PySem.Str.ofString "word"), .str ((PySem.Str.ofString "number ") ++ PyData.shown (v_k)), .str (PySem.Str.ofString "word"), .str (PySem.Str.ofString "word"), .str (PySem.Str.ofString "maps"), .str ((PySem.Str.ofString "number ") ++ PyData.shown (v_k)), .str (PySem.Str.ofString "word"), .str (PySem.Str.ofString "fraction"), .str (PySem.Str.ofString "maps"), .str ((PySem.Str.ofString "number ") ++ PyData.shown (v_k)), .str (PySem.Str.ofString "word"), .str (PySem.Str.ofString "fraction")])), some (.lam "_law_right.21.1"), some (.dat v_edge), some (.dat (.tuple [.tuple [.int 0, .int 0, .int 1], .tuple [.int 1, .int 0, .int 0], .tuple [.int 1, .int 1, .int 1], .tuple [.int 0, .int 0, .int 0]])), some (.dat (.tuple [.int 0, .int 1, .int 1, .int 0])), some (.dat (.tuple [.int 0, .int 0, .int 0, .int 0, .int 0, .int 0, .int 0, .int 0])), none]) ?_ ?_
  · exact (by
    revert v_truth
    exact (anF (anC (by kernel_rfl) (anC (by kernel_rfl) (anC (by kernel_rfl) (anC (by kernel_rfl) (anC (by kernel_rfl) (anC (by kernel_rfl) (anC (by kernel_rfl) (anC (by kernel_rfl) (anC (by kernel_rfl) (anN))))))))))))
  refine fseq_nx (σ' := [some .hat, some (.dat v_table), some (.dat v_seed), some (.dat v_k), some (.dat v_test), some (.dat v_first), some (.dat v_edge), some (.dat v_turn), some (.dat v_truth), some (.own [.tuple [.str (PySem.Str.ofString "met"), .str (PySem.Str.ofString "maps")], .tuple [.str (PySem.Str.ofString "met"), .str (PySem.Str.ofString "word")], .tuple [.str (PySem.Str.ofString "met"), .str ((PySem.Str.ofString "number ") ++ PyData.shown (v_k))], .tuple [.str (PySem.Str.ofString "met"), .str (PySem.Str.ofString "maps")], .tuple [.str (PySem.Str.ofString "met"), .str (PySem.Str.ofString "word")], .tuple [.str (PySem.Str.ofString "met"), .str (PySem.Str.ofString "maps")], .tuple [.str (PySem.Str.ofString "met"), .str ((PySem.Str.ofString "number ") ++ PyData.shown (v_k))], .tuple [.str (PySem.Str.ofString "met"), .str (PySem.Str.ofString "word")], .tuple [.str (PySem.Str.ofString "met"), .str ((PySem.Str.ofString "number ") ++ PyData.shown (v_k))], .tuple [.str (PySem.Str.ofString "met"), .str (PySem.Str.ofString "word")], .tuple [.str (PySem.Str.ofString "met"), .str (PySem.Str.ofString "word")], .tuple [.str (PySem.Str.ofString "met"), .str (PySem.Str.ofString "maps")], .tuple [.str (PySem.Str.ofString "met"), .str ((PySem.Str.ofString "number ") ++ PyData.shown (v_k))], .tuple [.str (PySem.Str.ofString "met"), .str (PySem.Str.ofString "word")], .tuple [.str (PySem.Str.ofString "met"), .str (PySem.Str.ofString "fraction")], .tuple [.str (PySem.Str.ofString "met"), .str (PySem.Str.ofString "maps")], .tuple [.str (PySem.Str.ofString "met"), .str ((PySem.Str.ofString "number ") ++ PyData.shown (v_k))], .tuple [.str (PySem.Str.ofString "met"), .str (PySem.Str.ofString "word")], .tuple [.str (PySem.Str.ofString "met"), .str (PySem.Str.ofString "fraction")], .tuple [.str (PySem.Str.ofString "met"), .str (PySem.Str.ofString "maps")], .tuple [.str (PySem.Str.ofString "met"), .str (PySem.Str.ofString "truth")], .tuple [.str (PySem.Str.ofString "met"), .str (PySem.Str.ofString "maps")]]), some (.dat (.list [.str (PySem.Str.ofString "maps"), .str (PySem.Str.ofString "word"), .str ((PySem.Str.ofString "number ") ++ PyData.shown (v_k)), .str (PySem.Str.ofString "maps"), .str (PySem.Str.ofString "word"), .str (PySem.Str.ofString "maps"), .str ((PySem.Str.ofString "number ") ++ PyData.shown (v_k)), .str (PySem.Str.ofString "word"), .str ((PySem.Str.ofString "number ") ++ PyData.shown (v_k)), .str (PySem.Str.ofString "word"), .str (PySem.Str.ofString "word"), .str (PySem.Str.ofString "maps"), .str ((PySem.Str.ofString "number ") ++ PyData.shown (v_k)), .str (PySem.Str.ofString "word"), .str (PySem.Str.ofString "fraction"), .str (PySem.Str.ofString "maps"), .str ((PySem.Str.ofString "number ") ++ PyData.shown (v_k)), .str (PySem.Str.ofString "word"), .str (PySem.Str.ofString "fraction")])), some (.lam "_law_right.21.1"), some (.dat v_edge), some (.dat (.tuple [.tuple [.int 0, .int 0, .int 1], .tuple [.int 1, .int 0, .int 0], .tuple [.int 1, .int 1, .int 1], .tuple [.int 0, .int 0, .int 0]])), some (.dat (.tuple [.int 0, .int 1, .int 1, .int 0])), some (.dat (.tuple [.int 0, .int 0, .int 0, .int 0, .int 0, .int 0, .int 0, .int 0])), none]) ?_ ?_
  · exact (by
    revert v_turn
    exact (anF (anC (by kernel_rfl) (anC (by kernel_rfl) (anC (by kernel_rfl) (anC (by kernel_rfl) (anC (by kernel_rfl) (anC (by kernel_rfl) (anC (by kernel_rfl) (anC (by kernel_rfl) (anC (by kernel_rfl) (anC (by kernel_rfl) (anC (by kernel_rfl) (anC (by kernel_rfl) (anN)))))))))))))))
  refine fseq_nx (σ' := [some .hat, some (.dat v_table), some (.dat v_seed), some (.dat v_k), some (.dat v_test), some (.dat v_first), some (.dat v_edge), some (.dat v_turn), some (.dat v_truth), some (.own [.tuple [.str (PySem.Str.ofString "met"), .str (PySem.Str.ofString "maps")], .tuple [.str (PySem.Str.ofString "met"), .str (PySem.Str.ofString "word")], .tuple [.str (PySem.Str.ofString "met"), .str ((PySem.Str.ofString "number ") ++ PyData.shown (v_k))], .tuple [.str (PySem.Str.ofString "met"), .str (PySem.Str.ofString "maps")], .tuple [.str (PySem.Str.ofString "met"), .str (PySem.Str.ofString "word")], .tuple [.str (PySem.Str.ofString "met"), .str (PySem.Str.ofString "maps")], .tuple [.str (PySem.Str.ofString "met"), .str ((PySem.Str.ofString "number ") ++ PyData.shown (v_k))], .tuple [.str (PySem.Str.ofString "met"), .str (PySem.Str.ofString "word")], .tuple [.str (PySem.Str.ofString "met"), .str ((PySem.Str.ofString "number ") ++ PyData.shown (v_k))], .tuple [.str (PySem.Str.ofString "met"), .str (PySem.Str.ofString "word")], .tuple [.str (PySem.Str.ofString "met"), .str (PySem.Str.ofString "word")], .tuple [.str (PySem.Str.ofString "met"), .str (PySem.Str.ofString "maps")], .tuple [.str (PySem.Str.ofString "met"), .str ((PySem.Str.ofString "number ") ++ PyData.shown (v_k))], .tuple [.str (PySem.Str.ofString "met"), .str (PySem.Str.ofString "word")], .tuple [.str (PySem.Str.ofString "met"), .str (PySem.Str.ofString "fraction")], .tuple [.str (PySem.Str.ofString "met"), .str (PySem.Str.ofString "maps")], .tuple [.str (PySem.Str.ofString "met"), .str ((PySem.Str.ofString "number ") ++ PyData.shown (v_k))], .tuple [.str (PySem.Str.ofString "met"), .str (PySem.Str.ofString "word")], .tuple [.str (PySem.Str.ofString "met"), .str (PySem.Str.ofString "fraction")], .tuple [.str (PySem.Str.ofString "met"), .str (PySem.Str.ofString "maps")], .tuple [.str (PySem.Str.ofString "met"), .str (PySem.Str.ofString "truth")], .tuple [.str (PySem.Str.ofString "met"), .str (PySem.Str.ofString "maps")], .tuple [.str (PySem.Str.ofString "met"), .str (PySem.Str.ofString "maps")]]), some (.dat (.list [.str (PySem.Str.ofString "maps"), .str (PySem.Str.ofString "word"), .str ((PySem.Str.ofString "number ") ++ PyData.shown (v_k)), .str (PySem.Str.ofString "maps"), .str (PySem.Str.ofString "word"), .str (PySem.Str.ofString "maps"), .str ((PySem.Str.ofString "number ") ++ PyData.shown (v_k)), .str (PySem.Str.ofString "word"), .str ((PySem.Str.ofString "number ") ++ PyData.shown (v_k)), .str (PySem.Str.ofString "word"), .str (PySem.Str.ofString "word"), .str (PySem.Str.ofString "maps"), .str ((PySem.Str.ofString "number ") ++ PyData.shown (v_k)), .str (PySem.Str.ofString "word"), .str (PySem.Str.ofString "fraction"), .str (PySem.Str.ofString "maps"), .str ((PySem.Str.ofString "number ") ++ PyData.shown (v_k)), .str (PySem.Str.ofString "word"), .str (PySem.Str.ofString "fraction")])), some (.lam "_law_right.21.1"), some (.dat v_edge), some (.dat (.tuple [.tuple [.int 0, .int 0, .int 1], .tuple [.int 1, .int 0, .int 0], .tuple [.int 1, .int 1, .int 1], .tuple [.int 0, .int 0, .int 0]])), some (.dat (.tuple [.int 0, .int 1, .int 1, .int 0])), some (.dat (.tuple [.int 0, .int 0, .int 0, .int 0, .int 0, .int 0, .int 0, .int 0])), none]) ?_ ?_
  · exact (by
    revert v_turn
    exact (anF (anC (by kernel_rfl) (anC (by kernel_rfl) (anC (by kernel_rfl) (anC (by kernel_rfl) (anC (by kernel_rfl) (anC (by kernel_rfl) (anC (by kernel_rfl) (anC (by kernel_rfl) (anC (by kernel_rfl) (anC (by kernel_rfl) (anC (by kernel_rfl) (anC (by kernel_rfl) (anN)))))))))))))))
  refine fseq_nx (σ' := [some .hat, some (.dat v_table), some (.dat v_seed), some (.dat v_k), some (.dat v_test), some (.dat v_first), some (.dat v_edge), some (.dat v_turn), some (.dat v_truth), some (.own [.tuple [.str (PySem.Str.ofString "met"), .str (PySem.Str.ofString "maps")], .tuple [.str (PySem.Str.ofString "met"), .str (PySem.Str.ofString "word")], .tuple [.str (PySem.Str.ofString "met"), .str ((PySem.Str.ofString "number ") ++ PyData.shown (v_k))], .tuple [.str (PySem.Str.ofString "met"), .str (PySem.Str.ofString "maps")], .tuple [.str (PySem.Str.ofString "met"), .str (PySem.Str.ofString "word")], .tuple [.str (PySem.Str.ofString "met"), .str (PySem.Str.ofString "maps")], .tuple [.str (PySem.Str.ofString "met"), .str ((PySem.Str.ofString "number ") ++ PyData.shown (v_k))], .tuple [.str (PySem.Str.ofString "met"), .str (PySem.Str.ofString "word")], .tuple [.str (PySem.Str.ofString "met"), .str ((PySem.Str.ofString "number ") ++ PyData.shown (v_k))], .tuple [.str (PySem.Str.ofString "met"), .str (PySem.Str.ofString "word")], .tuple [.str (PySem.Str.ofString "met"), .str (PySem.Str.ofString "word")], .tuple [.str (PySem.Str.ofString "met"), .str (PySem.Str.ofString "maps")], .tuple [.str (PySem.Str.ofString "met"), .str ((PySem.Str.ofString "number ") ++ PyData.shown (v_k))], .tuple [.str (PySem.Str.ofString "met"), .str (PySem.Str.ofString "word")], .tuple [.str (PySem.Str.ofString "met"), .str (PySem.Str.ofString "fraction")], .tuple [.str (PySem.Str.ofString "met"), .str (PySem.Str.ofString "maps")], .tuple [.str (PySem.Str.ofString "met"), .str ((PySem.Str.ofString "number ") ++ PyData.shown (v_k))], .tuple [.str (PySem.Str.ofString "met"), .str (PySem.Str.ofString "word")], .tuple [.str (PySem.Str.ofString "met"), .str (PySem.Str.ofString "fraction")], .tuple [.str (PySem.Str.ofString "met"), .str (PySem.Str.ofString "maps")], .tuple [.str (PySem.Str.ofString "met"), .str (PySem.Str.ofString "truth")], .tuple [.str (PySem.Str.ofString "met"), .str (PySem.Str.ofString "maps")], .tuple [.str (PySem.Str.ofString "met"), .str (PySem.Str.ofString "maps")], .tuple [.str (PySem.Str.ofString "met"), .str (PySem.Str.ofString "word")]]), some (.dat (.list [.str (PySem.Str.ofString "maps"), .str (PySem.Str.ofString "word"), .str ((PySem.Str.ofString "number ") ++ PyData.shown (v_k)), .str (PySem.Str.ofString "maps"), .str (PySem.Str.ofString "word"), .str (PySem.Str.ofString "maps"), .str ((PySem.Str.ofString "number ") ++ PyData.shown (v_k)), .str (PySem.Str.ofString "word"), .str ((PySem.Str.ofString "number ") ++ PyData.shown (v_k)), .str (PySem.Str.ofString "word"), .str (PySem.Str.ofString "word"), .str (PySem.Str.ofString "maps"), .str ((PySem.Str.ofString "number ") ++ PyData.shown (v_k)), .str (PySem.Str.ofString "word"), .str (PySem.Str.ofString "fraction"), .str (PySem.Str.ofString "maps"), .str ((PySem.Str.ofString "number ") ++ PyData.shown (v_k)), .str (PySem.Str.ofString "word"), .str (PySem.Str.ofString "fraction")])), some (.lam "_law_right.21.1"), some (.dat v_edge), some (.dat (.tuple [.tuple [.int 0, .int 0, .int 1], .tuple [.int 1, .int 0, .int 0], .tuple [.int 1, .int 1, .int 1], .tuple [.int 0, .int 0, .int 0]])), some (.dat (.tuple [.int 0, .int 1, .int 1, .int 0])), some (.dat (.tuple [.int 0, .int 0, .int 0, .int 0, .int 0, .int 0, .int 0, .int 0])), none]) ?_ ?_
  · exact (by
    revert v_test
    exact (anF (anC (by kernel_rfl) (anC (by kernel_rfl) (anC (by kernel_rfl) (anC (by kernel_rfl) (anC (by kernel_rfl) (anC (by kernel_rfl) (anC (by kernel_rfl) (anC (by kernel_rfl) (anC (by kernel_rfl) (anC (by kernel_rfl) (anN)))))))))))))
  refine fseq_nx (σ' := [some .hat, some (.dat v_table), some (.dat v_seed), some (.dat v_k), some (.dat v_test), some (.dat v_first), some (.dat v_edge), some (.dat v_turn), some (.dat v_truth), some (.own [.tuple [.str (PySem.Str.ofString "met"), .str (PySem.Str.ofString "maps")], .tuple [.str (PySem.Str.ofString "met"), .str (PySem.Str.ofString "word")], .tuple [.str (PySem.Str.ofString "met"), .str ((PySem.Str.ofString "number ") ++ PyData.shown (v_k))], .tuple [.str (PySem.Str.ofString "met"), .str (PySem.Str.ofString "maps")], .tuple [.str (PySem.Str.ofString "met"), .str (PySem.Str.ofString "word")], .tuple [.str (PySem.Str.ofString "met"), .str (PySem.Str.ofString "maps")], .tuple [.str (PySem.Str.ofString "met"), .str ((PySem.Str.ofString "number ") ++ PyData.shown (v_k))], .tuple [.str (PySem.Str.ofString "met"), .str (PySem.Str.ofString "word")], .tuple [.str (PySem.Str.ofString "met"), .str ((PySem.Str.ofString "number ") ++ PyData.shown (v_k))], .tuple [.str (PySem.Str.ofString "met"), .str (PySem.Str.ofString "word")], .tuple [.str (PySem.Str.ofString "met"), .str (PySem.Str.ofString "word")], .tuple [.str (PySem.Str.ofString "met"), .str (PySem.Str.ofString "maps")], .tuple [.str (PySem.Str.ofString "met"), .str ((PySem.Str.ofString "number ") ++ PyData.shown (v_k))], .tuple [.str (PySem.Str.ofString "met"), .str (PySem.Str.ofString "word")], .tuple [.str (PySem.Str.ofString "met"), .str (PySem.Str.ofString "fraction")], .tuple [.str (PySem.Str.ofString "met"), .str (PySem.Str.ofString "maps")], .tuple [.str (PySem.Str.ofString "met"), .str ((PySem.Str.ofString "number ") ++ PyData.shown (v_k))], .tuple [.str (PySem.Str.ofString "met"), .str (PySem.Str.ofString "word")], .tuple [.str (PySem.Str.ofString "met"), .str (PySem.Str.ofString "fraction")], .tuple [.str (PySem.Str.ofString "met"), .str (PySem.Str.ofString "maps")], .tuple [.str (PySem.Str.ofString "met"), .str (PySem.Str.ofString "truth")], .tuple [.str (PySem.Str.ofString "met"), .str (PySem.Str.ofString "maps")], .tuple [.str (PySem.Str.ofString "met"), .str (PySem.Str.ofString "maps")], .tuple [.str (PySem.Str.ofString "met"), .str (PySem.Str.ofString "word")], .tuple [.str (PySem.Str.ofString "met"), .str (PySem.Str.ofString "fraction")]]), some (.dat (.list [.str (PySem.Str.ofString "maps"), .str (PySem.Str.ofString "word"), .str ((PySem.Str.ofString "number ") ++ PyData.shown (v_k)), .str (PySem.Str.ofString "maps"), .str (PySem.Str.ofString "word"), .str (PySem.Str.ofString "maps"), .str ((PySem.Str.ofString "number ") ++ PyData.shown (v_k)), .str (PySem.Str.ofString "word"), .str ((PySem.Str.ofString "number ") ++ PyData.shown (v_k)), .str (PySem.Str.ofString "word"), .str (PySem.Str.ofString "word"), .str (PySem.Str.ofString "maps"), .str ((PySem.Str.ofString "number ") ++ PyData.shown (v_k)), .str (PySem.Str.ofString "word"), .str (PySem.Str.ofString "fraction"), .str (PySem.Str.ofString "maps"), .str ((PySem.Str.ofString "number ") ++ PyData.shown (v_k)), .str (PySem.Str.ofString "word"), .str (PySem.Str.ofString "fraction")])), some (.lam "_law_right.21.1"), some (.dat v_edge), some (.dat (.tuple [.tuple [.int 0, .int 0, .int 1], .tuple [.int 1, .int 0, .int 0], .tuple [.int 1, .int 1, .int 1], .tuple [.int 0, .int 0, .int 0]])), some (.dat (.tuple [.int 0, .int 1, .int 1, .int 0])), some (.dat (.tuple [.int 0, .int 0, .int 0, .int 0, .int 0, .int 0, .int 0, .int 0])), none]) ?_ ?_
  · exact (by
    revert v_edge
    exact (anF (anC (by kernel_rfl) (anC (by kernel_rfl) (anC (by kernel_rfl) (anC (by kernel_rfl) (anC (by kernel_rfl) (anC (by kernel_rfl) (anC (by kernel_rfl) (anC (by kernel_rfl) (anC (by kernel_rfl) (anC (by kernel_rfl) (anN)))))))))))))
  refine fseq_nx (σ' := [some .hat, some (.dat v_table), some (.dat v_seed), some (.dat v_k), some (.dat v_test), some (.dat v_first), some (.dat v_edge), some (.dat v_turn), some (.dat v_truth), some (.own [.tuple [.str (PySem.Str.ofString "met"), .str (PySem.Str.ofString "maps")], .tuple [.str (PySem.Str.ofString "met"), .str (PySem.Str.ofString "word")], .tuple [.str (PySem.Str.ofString "met"), .str ((PySem.Str.ofString "number ") ++ PyData.shown (v_k))], .tuple [.str (PySem.Str.ofString "met"), .str (PySem.Str.ofString "maps")], .tuple [.str (PySem.Str.ofString "met"), .str (PySem.Str.ofString "word")], .tuple [.str (PySem.Str.ofString "met"), .str (PySem.Str.ofString "maps")], .tuple [.str (PySem.Str.ofString "met"), .str ((PySem.Str.ofString "number ") ++ PyData.shown (v_k))], .tuple [.str (PySem.Str.ofString "met"), .str (PySem.Str.ofString "word")], .tuple [.str (PySem.Str.ofString "met"), .str ((PySem.Str.ofString "number ") ++ PyData.shown (v_k))], .tuple [.str (PySem.Str.ofString "met"), .str (PySem.Str.ofString "word")], .tuple [.str (PySem.Str.ofString "met"), .str (PySem.Str.ofString "word")], .tuple [.str (PySem.Str.ofString "met"), .str (PySem.Str.ofString "maps")], .tuple [.str (PySem.Str.ofString "met"), .str ((PySem.Str.ofString "number ") ++ PyData.shown (v_k))], .tuple [.str (PySem.Str.ofString "met"), .str (PySem.Str.ofString "word")], .tuple [.str (PySem.Str.ofString "met"), .str (PySem.Str.ofString "fraction")], .tuple [.str (PySem.Str.ofString "met"), .str (PySem.Str.ofString "maps")], .tuple [.str (PySem.Str.ofString "met"), .str ((PySem.Str.ofString "number ") ++ PyData.shown (v_k))], .tuple [.str (PySem.Str.ofString "met"), .str (PySem.Str.ofString "word")], .tuple [.str (PySem.Str.ofString "met"), .str (PySem.Str.ofString "fraction")], .tuple [.str (PySem.Str.ofString "met"), .str (PySem.Str.ofString "maps")], .tuple [.str (PySem.Str.ofString "met"), .str (PySem.Str.ofString "truth")], .tuple [.str (PySem.Str.ofString "met"), .str (PySem.Str.ofString "maps")], .tuple [.str (PySem.Str.ofString "met"), .str (PySem.Str.ofString "maps")], .tuple [.str (PySem.Str.ofString "met"), .str (PySem.Str.ofString "word")], .tuple [.str (PySem.Str.ofString "met"), .str (PySem.Str.ofString "fraction")], .tuple [.str (PySem.Str.ofString "met"), .str (PySem.Str.ofString "fraction")]]), some (.dat (.list [.str (PySem.Str.ofString "maps"), .str (PySem.Str.ofString "word"), .str ((PySem.Str.ofString "number ") ++ PyData.shown (v_k)), .str (PySem.Str.ofString "maps"), .str (PySem.Str.ofString "word"), .str (PySem.Str.ofString "maps"), .str ((PySem.Str.ofString "number ") ++ PyData.shown (v_k)), .str (PySem.Str.ofString "word"), .str ((PySem.Str.ofString "number ") ++ PyData.shown (v_k)), .str (PySem.Str.ofString "word"), .str (PySem.Str.ofString "word"), .str (PySem.Str.ofString "maps"), .str ((PySem.Str.ofString "number ") ++ PyData.shown (v_k)), .str (PySem.Str.ofString "word"), .str (PySem.Str.ofString "fraction"), .str (PySem.Str.ofString "maps"), .str ((PySem.Str.ofString "number ") ++ PyData.shown (v_k)), .str (PySem.Str.ofString "word"), .str (PySem.Str.ofString "fraction")])), some (.lam "_law_right.21.1"), some (.dat v_edge), some (.dat (.tuple [.tuple [.int 0, .int 0, .int 1], .tuple [.int 1, .int 0, .int 0], .tuple [.int 1, .int 1, .int 1], .tuple [.int 0, .int 0, .int 0]])), some (.dat (.tuple [.int 0, .int 1, .int 1, .int 0])), some (.dat (.tuple [.int 0, .int 0, .int 0, .int 0, .int 0, .int 0, .int 0, .int 0])), none]) ?_ ?_
  · exact (by kernel_rfl)
  refine fseq_nx (σ' := [some .hat, some (.dat v_table), some (.dat v_seed), some (.dat v_k), some (.dat v_test), some (.dat v_first), some (.dat v_edge), some (.dat v_turn), some (.dat v_truth), some (.own [.tuple [.str (PySem.Str.ofString "met"), .str (PySem.Str.ofString "maps")], .tuple [.str (PySem.Str.ofString "met"), .str (PySem.Str.ofString "word")], .tuple [.str (PySem.Str.ofString "met"), .str ((PySem.Str.ofString "number ") ++ PyData.shown (v_k))], .tuple [.str (PySem.Str.ofString "met"), .str (PySem.Str.ofString "maps")], .tuple [.str (PySem.Str.ofString "met"), .str (PySem.Str.ofString "word")], .tuple [.str (PySem.Str.ofString "met"), .str (PySem.Str.ofString "maps")], .tuple [.str (PySem.Str.ofString "met"), .str ((PySem.Str.ofString "number ") ++ PyData.shown (v_k))], .tuple [.str (PySem.Str.ofString "met"), .str (PySem.Str.ofString "word")], .tuple [.str (PySem.Str.ofString "met"), .str ((PySem.Str.ofString "number ") ++ PyData.shown (v_k))], .tuple [.str (PySem.Str.ofString "met"), .str (PySem.Str.ofString "word")], .tuple [.str (PySem.Str.ofString "met"), .str (PySem.Str.ofString "word")], .tuple [.str (PySem.Str.ofString "met"), .str (PySem.Str.ofString "maps")], .tuple [.str (PySem.Str.ofString "met"), .str ((PySem.Str.ofString "number ") ++ PyData.shown (v_k))], .tuple [.str (PySem.Str.ofString "met"), .str (PySem.Str.ofString "word")], .tuple [.str (PySem.Str.ofString "met"), .str (PySem.Str.ofString "fraction")], .tuple [.str (PySem.Str.ofString "met"), .str (PySem.Str.ofString "maps")], .tuple [.str (PySem.Str.ofString "met"), .str ((PySem.Str.ofString "number ") ++ PyData.shown (v_k))], .tuple [.str (PySem.Str.ofString "met"), .str (PySem.Str.ofString "word")], .tuple [.str (PySem.Str.ofString "met"), .str (PySem.Str.ofString "fraction")], .tuple [.str (PySem.Str.ofString "met"), .str (PySem.Str.ofString "maps")], .tuple [.str (PySem.Str.ofString "met"), .str (PySem.Str.ofString "truth")], .tuple [.str (PySem.Str.ofString "met"), .str (PySem.Str.ofString "maps")], .tuple [.str (PySem.Str.ofString "met"), .str (PySem.Str.ofString "maps")], .tuple [.str (PySem.Str.ofString "met"), .str (PySem.Str.ofString "word")], .tuple [.str (PySem.Str.ofString "met"), .str (PySem.Str.ofString "fraction")], .tuple [.str (PySem.Str.ofString "met"), .str (PySem.Str.ofString "fraction")], .tuple [.str (PySem.Str.ofString "met"), .str (PySem.Str.ofString "fraction")]]), some (.dat (.list [.str (PySem.Str.ofString "maps"), .str (PySem.Str.ofString "word"), .str ((PySem.Str.ofString "number ") ++ PyData.shown (v_k)), .str (PySem.Str.ofString "maps"), .str (PySem.Str.ofString "word"), .str (PySem.Str.ofString "maps"), .str ((PySem.Str.ofString "number ") ++ PyData.shown (v_k)), .str (PySem.Str.ofString "word"), .str ((PySem.Str.ofString "number ") ++ PyData.shown (v_k)), .str (PySem.Str.ofString "word"), .str (PySem.Str.ofString "word"), .str (PySem.Str.ofString "maps"), .str ((PySem.Str.ofString "number ") ++ PyData.shown (v_k)), .str (PySem.Str.ofString "word"), .str (PySem.Str.ofString "fraction"), .str (PySem.Str.ofString "maps"), .str ((PySem.Str.ofString "number ") ++ PyData.shown (v_k)), .str (PySem.Str.ofString "word"), .str (PySem.Str.ofString "fraction")])), some (.lam "_law_right.21.1"), some (.dat v_edge), some (.dat (.tuple [.tuple [.int 0, .int 0, .int 1], .tuple [.int 1, .int 0, .int 0], .tuple [.int 1, .int 1, .int 1], .tuple [.int 0, .int 0, .int 0]])), some (.dat (.tuple [.int 0, .int 1, .int 1, .int 0])), some (.dat (.tuple [.int 0, .int 0, .int 0, .int 0, .int 0, .int 0, .int 0, .int 0])), none]) ?_ ?_
  · exact (by kernel_rfl)
  exact (by
    revert v_k
    exact (anF (anC (by kernel_rfl) (anC (by kernel_rfl) (anC (by kernel_rfl) (anC (by kernel_rfl) (anC (by kernel_rfl) (anC (by kernel_rfl) (anC (by kernel_rfl) (anC (by kernel_rfl) (anN)))))))))))
theorem pu_right (ws : List WD) (Qd : PyData → Prop) (h : SD_right ws Qd) : db__law_right SD_of { nx := fun _ => Qd .none, rt := Qd } (startD N__law_right.length ws) := by
  obtain ⟨rfl, q⟩ := h
  unfold db__law_right
  refine dseq_draw (ds := L_table) li__law_right_0 rfl (by kernel_rfl) rfl (by decide) fun v_table h_table => ?_
  refine dseq_draw (ds := L_seed) li__law_right_1 rfl (by kernel_rfl) rfl (by decide) fun v_seed h_seed => ?_
  refine dseq_draw (ds := L_k) li__law_right_2 rfl (by kernel_rfl) rfl (by decide) fun v_k h_k => ?_
  refine dseq_draw (ds := L_test) li__law_right_3 rfl (by kernel_rfl) rfl (by decide) fun v_test h_test => ?_
  refine dseq_draw (ds := L_first) li__law_right_4 rfl (by kernel_rfl) rfl (by decide) fun v_first h_first => ?_
  refine dseq_draw (ds := L_edge) li__law_right_5 rfl (by kernel_rfl) rfl (by decide) fun v_edge h_edge => ?_
  refine dseq_draw (ds := L_turn) li__law_right_6 rfl (by kernel_rfl) rfl (by decide) fun v_turn h_turn => ?_
  refine dseq_draw (ds := L_truth) li__law_right_7 rfl (by kernel_rfl) rfl (by decide) fun v_truth h_truth => ?_
  exact of_tail lt__law_right (tail_right _ h_table _ h_seed _ h_k _ h_test _ h_first _ h_edge _ h_turn _ h_truth) q
end Q
end
section
set_option Elab.async false
set_option linter.all false
set_option maxRecDepth 100000
set_option maxHeartbeats 4000000
set_option exponentiation.threshold 20000
namespace Q
open PySem PySem.Spec PyProof.Rows L2 HbE Evl Dl RZ Gx
def isTw : Rs Fw → Bool
  | .ok (.rt (.bool true)) => true
  | _ => false
theorem of_isTw {r : Rs Fw} (h : isTw r = true) : r = .ok (.rt (.bool true)) := by
  unfold isTw at h
  split at h
  · rfl
  · cases h
def SD_law : DSp := fun ws Q => ∃ ds, ws = [.dat (.list ds)] ∧ (intsD ds).isSome = true ∧ ds.length ≤ 63 ∧ Q (.bool true)
theorem len_law {ws : List WD} {Q : PyData → Prop} (h : SD_law ws Q) : ws.length = 1 := by
  obtain ⟨_, rfl, _⟩ := h
  rfl

theorem law_tail (w0 w1 w5 w6 : Option WD) : ft_law [w0, w1, none, none, none, w5, w6, none] = .ok (.rt (.bool true)) := of_isTw (by kernel_rfl)
theorem pu_law (ws : List WD) (Qd : PyData → Prop) (h : SD_law ws Qd) : db_law SD_right { nx := fun _ => Qd .none, rt := Qd } (startD N_law.length ws) := by
  obtain ⟨ds, rfl, h0, h1, q⟩ := h
  unfold db_law
  have start : startD N_law.length [WD.dat (.list ds)] = [some (.dat (.list ds)), none, none, none, none, none, none, none] := rfl
  rw [start]
  refine dSeq_gen (fun σ => ∃ w1 w5 w6, σ = [some (.dat (.list ds)), w1, none, none, none, w5, w6, none]) (fun N hN => ?_) (fun σ ⟨w1, w5, w6, e⟩ => ?_)
  · simp only [dFor, dRange1, dCons, dD, dOpN, dDats, fMax2, fMin2, dOpQ, fLen, dVarQ, dC, dNil, dats, List.getElem?_cons_zero]
    refine ⟨by split <;> (try split) <;> omega, by split <;> (try split) <;> omega, ?_⟩
    refine forD_inv (fun i σ => ∃ w1 w5 w6, σ = [some (.dat (.list ds)), w1, none, none, none, w5, w6, none]) ⟨none, none, none, rfl⟩ (fun i d σ M hd ⟨w1, w5, w6, e⟩ hM => ?_) (fun σ hI => hN σ hI)
    have hi := rangeE_at hd
    have i3 : i < 3 := by
      have := hi.1
      split at this <;> (try split at this) <;> omega
    obtain ⟨_, rfl⟩ := hi
    subst e
    simp only [gSet, dSeq, dSetHat, dCons, dD, dVar, dNil, List.set_cons_succ, List.set_cons_zero, List.getElem?_cons_succ, List.getElem?_cons_zero]
    refine ⟨h0, ⟨by omega, by omega⟩, ?_⟩
    simp only [dFor, dRange1, dCons, dD, dC, dNil]
    refine ⟨by decide, by decide, ?_⟩
    refine forD_inv (fun j σ => ∃ w6, σ = [some (.dat (.list ds)), some (.dat (.int i)), none, none, none, some .hat, w6, none]) ⟨w6, rfl⟩ (fun j d σ M2 hd2 ⟨w6, e⟩ hM2 => ?_) (fun σ ⟨w6, e⟩ => hM σ ⟨_, _, _, e⟩)
    subst e
    simp [gSet, dIf, dNot, dTru, truD, dCall, dCons, dHat, dNil, SD_right, dNext]
    exact hM2 _ ⟨_, rfl⟩
  subst e
  exact of_tail lt_law (law_tail _ _ _ _) q

end Q
end
section
set_option Elab.async false
set_option linter.all false
set_option maxRecDepth 100000
set_option maxHeartbeats 4000000
namespace Q
open PySem PySem.Spec PyProof.Rows L2 HbE Evl Dl RZ Gx HbX
theorem all_mk {l : PySem.W.OpenLaw} {w : World} {K : PySem.W.Frag} {h : Heap} {mg : Str → Option Value} {fa : Addr} {q : Program} (X : K.In h) (G : h.Ns mainGlobals mg) (hfa : mg "law" = some (.ref fa))
    (tabs : ∀ (y : Str) (c P : Addr), ((recsOf q).find? fun e => e.name == y).isSome = true → PySem.W.tabIn K y = some (c, P) → PySem.W.CodeHd h c P ∧ h.get? P = some { cls := .none, data := .fields #[] })
    {a_InvalidNumber : Addr}
    {a_InvalidFraction : Addr}
    {a_InvalidWord : Addr}
    {a_InvalidMaps : Addr}
    {a_InvalidTruth : Addr}
    {a_TooMany : Addr}
    {a_InvalidRow : Addr}
    {a_InvalidMeasure : Addr}
    {a_InvalidDraw : Addr}
    {a_InvalidFamily : Addr}
    {a_InvalidMix : Addr}
    {a_InvalidOperation : Addr}
    {aH : Addr}
    {nm_InvalidNumber qn_InvalidNumber : Str} {N_InvalidNumber : Addr} {bs_InvalidNumber : List Value} {sn_InvalidNumber : List Str} {sub_InvalidNumber : List Value} {ab_InvalidNumber : Bool} {col_InvalidNumber : Option Bool} {dd_InvalidNumber : Option Addr} {m0_InvalidNumber m1_InvalidNumber m2_InvalidNumber m3_InvalidNumber m5_InvalidNumber : Option Value} {fi_InvalidNumber : Addr} {ocI_InvalidNumber : Value} {odI_InvalidNumber anI_InvalidNumber : Option Addr} {slI_InvalidNumber : Array (Option Value)} {kVI_InvalidNumber dcI_InvalidNumber pmI_InvalidNumber cdI_InvalidNumber ctI_InvalidNumber : Value}
    {f_is_integer : Addr} {oc_is_integer : Value} {od_is_integer an_is_integer : Option Addr} {sl_is_integer : Array (Option Value)} {kV_is_integer dc_is_integer pm_is_integer ct_is_integer : Value} {cd_is_integer : Value}
    {f_is_short : Addr} {oc_is_short : Value} {od_is_short an_is_short : Option Addr} {sl_is_short : Array (Option Value)} {kV_is_short dc_is_short pm_is_short ct_is_short : Value} {cd_is_short : Value}
    {f_is_between : Addr} {oc_is_between : Value} {od_is_between an_is_between : Option Addr} {sl_is_between : Array (Option Value)} {kV_is_between dc_is_between pm_is_between ct_is_between : Value} {cd_is_between : Value}
    {f_is_index : Addr} {oc_is_index : Value} {od_is_index an_is_index : Option Addr} {sl_is_index : Array (Option Value)} {kV_is_index dc_is_index pm_is_index ct_is_index : Value} {cd_is_index : Value}
    {f_is_bit : Addr} {oc_is_bit : Value} {od_is_bit an_is_bit : Option Addr} {sl_is_bit : Array (Option Value)} {kV_is_bit dc_is_bit pm_is_bit ct_is_bit : Value} {cd_is_bit : Value}
    {f_is_sign : Addr} {oc_is_sign : Value} {od_is_sign an_is_sign : Option Addr} {sl_is_sign : Array (Option Value)} {kV_is_sign dc_is_sign pm_is_sign ct_is_sign : Value} {cd_is_sign : Value}
    {f_is_tuple_of : Addr} {oc_is_tuple_of : Value} {od_is_tuple_of an_is_tuple_of : Option Addr} {sl_is_tuple_of : Array (Option Value)} {kV_is_tuple_of dc_is_tuple_of pm_is_tuple_of ct_is_tuple_of : Value} {cd_is_tuple_of : Value}
    {f_is_answer : Addr} {oc_is_answer : Value} {od_is_answer an_is_answer : Option Addr} {sl_is_answer : Array (Option Value)} {kV_is_answer dc_is_answer pm_is_answer ct_is_answer : Value} {cd_is_answer : Value}
    {f_is_word : Addr} {oc_is_word : Value} {od_is_word an_is_word : Option Addr} {sl_is_word : Array (Option Value)} {kV_is_word dc_is_word pm_is_word ct_is_word : Value} {cc_is_word : Addr}
    {f_is_signs : Addr} {oc_is_signs : Value} {od_is_signs an_is_signs : Option Addr} {sl_is_signs : Array (Option Value)} {kV_is_signs dc_is_signs pm_is_signs ct_is_signs : Value} {cc_is_signs : Addr}
    {f_is_indices : Addr} {oc_is_indices : Value} {od_is_indices an_is_indices : Option Addr} {sl_is_indices : Array (Option Value)} {kV_is_indices dc_is_indices pm_is_indices ct_is_indices : Value} {cc_is_indices : Addr}
    {f_is_places : Addr} {oc_is_places : Value} {od_is_places an_is_places : Option Addr} {sl_is_places : Array (Option Value)} {kV_is_places dc_is_places pm_is_places ct_is_places : Value} {cd_is_places : Value}
    {f_is_lowest_pair : Addr} {oc_is_lowest_pair : Value} {od_is_lowest_pair an_is_lowest_pair : Option Addr} {sl_is_lowest_pair : Array (Option Value)} {kV_is_lowest_pair dc_is_lowest_pair pm_is_lowest_pair ct_is_lowest_pair : Value} {cd_is_lowest_pair : Value}
    {f_is_fraction_between : Addr} {oc_is_fraction_between : Value} {od_is_fraction_between an_is_fraction_between : Option Addr} {sl_is_fraction_between : Array (Option Value)} {kV_is_fraction_between dc_is_fraction_between pm_is_fraction_between ct_is_fraction_between : Value} {cd_is_fraction_between : Value}
    {f_is_share : Addr} {oc_is_share : Value} {od_is_share an_is_share : Option Addr} {sl_is_share : Array (Option Value)} {kV_is_share dc_is_share pm_is_share ct_is_share : Value} {cd_is_share : Value}
    {f_is_short_fraction : Addr} {oc_is_short_fraction : Value} {od_is_short_fraction an_is_short_fraction : Option Addr} {sl_is_short_fraction : Array (Option Value)} {kV_is_short_fraction dc_is_short_fraction pm_is_short_fraction ct_is_short_fraction : Value} {cd_is_short_fraction : Value}
    {f_need_number : Addr} {oc_need_number : Value} {od_need_number an_need_number : Option Addr} {sl_need_number : Array (Option Value)} {kV_need_number dc_need_number pm_need_number ct_need_number : Value} {cd_need_number : Value}
    {f_need_fraction : Addr} {oc_need_fraction : Value} {od_need_fraction an_need_fraction : Option Addr} {sl_need_fraction : Array (Option Value)} {kV_need_fraction dc_need_fraction pm_need_fraction ct_need_fraction : Value} {cd_need_fraction : Value}
    {f_need_fraction_between : Addr} {oc_need_fraction_between : Value} {od_need_fraction_between an_need_fraction_between : Option Addr} {sl_need_fraction_between : Array (Option Value)} {kV_need_fraction_between dc_need_fraction_between pm_need_fraction_between ct_need_fraction_between : Value} {cd_need_fraction_between : Value}
    {f_need_share : Addr} {oc_need_share : Value} {od_need_share an_need_share : Option Addr} {sl_need_share : Array (Option Value)} {kV_need_share dc_need_share pm_need_share ct_need_share : Value} {cd_need_share : Value}
    {f_need_word : Addr} {oc_need_word : Value} {od_need_word an_need_word : Option Addr} {sl_need_word : Array (Option Value)} {kV_need_word dc_need_word pm_need_word ct_need_word : Value} {cd_need_word : Value}
    {f_need_table : Addr} {oc_need_table : Value} {od_need_table an_need_table : Option Addr} {sl_need_table : Array (Option Value)} {kV_need_table dc_need_table pm_need_table ct_need_table : Value} {cd_need_table : Value}
    {f_spelled : Addr} {oc_spelled : Value} {od_spelled an_spelled : Option Addr} {sl_spelled : Array (Option Value)} {kV_spelled dc_spelled pm_spelled ct_spelled : Value} {cd_spelled : Value}
    {f_number_of : Addr} {oc_number_of : Value} {od_number_of an_number_of : Option Addr} {sl_number_of : Array (Option Value)} {kV_number_of dc_number_of pm_number_of ct_number_of : Value} {cd_number_of : Value}
    {f_bit_of : Addr} {oc_bit_of : Value} {od_bit_of an_bit_of : Option Addr} {sl_bit_of : Array (Option Value)} {kV_bit_of dc_bit_of pm_bit_of ct_bit_of : Value} {cd_bit_of : Value}
    {f_parity : Addr} {oc_parity : Value} {od_parity an_parity : Option Addr} {sl_parity : Array (Option Value)} {kV_parity dc_parity pm_parity ct_parity : Value} {cd_parity : Value}
    {f_log_of : Addr} {oc_log_of : Value} {od_log_of an_log_of : Option Addr} {sl_log_of : Array (Option Value)} {kV_log_of dc_log_of pm_log_of ct_log_of : Value} {cd_log_of : Value}
    {f_reduced : Addr} {oc_reduced : Value} {od_reduced an_reduced : Option Addr} {sl_reduced : Array (Option Value)} {kV_reduced dc_reduced pm_reduced ct_reduced : Value} {cd_reduced : Value}
    {f_minus : Addr} {oc_minus : Value} {od_minus an_minus : Option Addr} {sl_minus : Array (Option Value)} {kV_minus dc_minus pm_minus ct_minus : Value} {cd_minus : Value}
    {f_ordered : Addr} {oc_ordered : Value} {od_ordered an_ordered : Option Addr} {sl_ordered : Array (Option Value)} {kV_ordered dc_ordered pm_ordered ct_ordered : Value} {cd_ordered : Value}
    {f_amount : Addr} {oc_amount : Value} {od_amount an_amount : Option Addr} {sl_amount : Array (Option Value)} {kV_amount dc_amount pm_amount ct_amount : Value} {cd_amount : Value}
    {f__log_within : Addr} {oc__log_within : Value} {od__log_within an__log_within : Option Addr} {sl__log_within : Array (Option Value)} {kV__log_within dc__log_within pm__log_within ct__log_within : Value} {cd__log_within : Value}
    {f__need_map : Addr} {oc__need_map : Value} {od__need_map an__need_map : Option Addr} {sl__need_map : Array (Option Value)} {kV__need_map dc__need_map pm__need_map ct__need_map : Value} {cc__need_map : Addr}
    {f__need_map_and_told : Addr} {oc__need_map_and_told : Value} {od__need_map_and_told an__need_map_and_told : Option Addr} {sl__need_map_and_told : Array (Option Value)} {kV__need_map_and_told dc__need_map_and_told pm__need_map_and_told ct__need_map_and_told : Value} {cd__need_map_and_told : Value}
    {f__led : Addr} {oc__led : Value} {od__led an__led : Option Addr} {sl__led : Array (Option Value)} {kV__led dc__led pm__led ct__led : Value} {cd__led : Value}
    {f_led_on : Addr} {oc_led_on : Value} {od_led_on an_led_on : Option Addr} {sl_led_on : Array (Option Value)} {kV_led_on dc_led_on pm_led_on ct_led_on : Value} {cd_led_on : Value}
    {f__excess_over : Addr} {oc__excess_over : Value} {od__excess_over an__excess_over : Option Addr} {sl__excess_over : Array (Option Value)} {kV__excess_over dc__excess_over pm__excess_over ct__excess_over : Value} {cd__excess_over : Value}
    {f_map_excess : Addr} {oc_map_excess : Value} {od_map_excess an_map_excess : Option Addr} {sl_map_excess : Array (Option Value)} {kV_map_excess dc_map_excess pm_map_excess ct_map_excess : Value} {cd_map_excess : Value}
    {f__long_excess : Addr} {oc__long_excess : Value} {od__long_excess an__long_excess : Option Addr} {sl__long_excess : Array (Option Value)} {kV__long_excess dc__long_excess pm__long_excess ct__long_excess : Value} {cd__long_excess : Value}
    {f_long_excess : Addr} {oc_long_excess : Value} {od_long_excess an_long_excess : Option Addr} {sl_long_excess : Array (Option Value)} {kV_long_excess dc_long_excess pm_long_excess ct_long_excess : Value} {cd_long_excess : Value}
    {f__step_test : Addr} {oc__step_test : Value} {od__step_test an__step_test : Option Addr} {sl__step_test : Array (Option Value)} {kV__step_test dc__step_test pm__step_test ct__step_test : Value} {cd__step_test : Value}
    {f__is_first : Addr} {oc__is_first : Value} {od__is_first an__is_first : Option Addr} {sl__is_first : Array (Option Value)} {kV__is_first dc__is_first pm__is_first ct__is_first : Value} {cd__is_first : Value}
    {f_step_test : Addr} {oc_step_test : Value} {od_step_test an_step_test : Option Addr} {sl_step_test : Array (Option Value)} {kV_step_test dc_step_test pm_step_test ct_step_test : Value} {cd_step_test : Value}
    {f__is_step : Addr} {oc__is_step : Value} {od__is_step an__is_step : Option Addr} {sl__is_step : Array (Option Value)} {kV__is_step dc__is_step pm__is_step ct__is_step : Value} {cd__is_step : Value}
    {f__need_all_for_answer : Addr} {oc__need_all_for_answer : Value} {od__need_all_for_answer an__need_all_for_answer : Option Addr} {sl__need_all_for_answer : Array (Option Value)} {kV__need_all_for_answer dc__need_all_for_answer pm__need_all_for_answer ct__need_all_for_answer : Value} {cd__need_all_for_answer : Value}
    {f__is_little : Addr} {oc__is_little : Value} {od__is_little an__is_little : Option Addr} {sl__is_little : Array (Option Value)} {kV__is_little dc__is_little pm__is_little ct__is_little : Value} {cd__is_little : Value}
    {f__first_step : Addr} {oc__first_step : Value} {od__first_step an__first_step : Option Addr} {sl__first_step : Array (Option Value)} {kV__first_step dc__first_step pm__first_step ct__first_step : Value} {cd__first_step : Value}
    {f_long_answer : Addr} {oc_long_answer : Value} {od_long_answer an_long_answer : Option Addr} {sl_long_answer : Array (Option Value)} {kV_long_answer dc_long_answer pm_long_answer ct_long_answer : Value} {cd_long_answer : Value}
    {f_is_long_answer : Addr} {oc_is_long_answer : Value} {od_is_long_answer an_is_long_answer : Option Addr} {sl_is_long_answer : Array (Option Value)} {kV_is_long_answer dc_is_long_answer pm_is_long_answer ct_is_long_answer : Value} {cd_is_long_answer : Value}
    {f__need_turn : Addr} {oc__need_turn : Value} {od__need_turn an__need_turn : Option Addr} {sl__need_turn : Array (Option Value)} {kV__need_turn dc__need_turn pm__need_turn ct__need_turn : Value} {cd__need_turn : Value}
    {f_bit_map : Addr} {oc_bit_map : Value} {od_bit_map an_bit_map : Option Addr} {sl_bit_map : Array (Option Value)} {kV_bit_map dc_bit_map pm_bit_map ct_bit_map : Value} {cd_bit_map : Value}
    {f__guesses : Addr} {oc__guesses : Value} {od__guesses an__guesses : Option Addr} {sl__guesses : Array (Option Value)} {kV__guesses dc__guesses pm__guesses ct__guesses : Value} {cd__guesses : Value}
    {f_guess_row : Addr} {oc_guess_row : Value} {od_guess_row an_guess_row : Option Addr} {sl_guess_row : Array (Option Value)} {kV_guess_row dc_guess_row pm_guess_row ct_guess_row : Value} {cd_guess_row : Value}
    {f_string_map : Addr} {oc_string_map : Value} {od_string_map an_string_map : Option Addr} {sl_string_map : Array (Option Value)} {kV_string_map dc_string_map pm_string_map ct_string_map : Value} {cd_string_map : Value}
    {f_back_list : Addr} {oc_back_list : Value} {od_back_list an_back_list : Option Addr} {sl_back_list : Array (Option Value)} {kV_back_list dc_back_list pm_back_list ct_back_list : Value} {cd_back_list : Value}
    {f__law_hx_dice : Addr} {oc__law_hx_dice : Value} {od__law_hx_dice an__law_hx_dice : Option Addr} {sl__law_hx_dice : Array (Option Value)} {kV__law_hx_dice dc__law_hx_dice pm__law_hx_dice ct__law_hx_dice : Value} {cd__law_hx_dice : Value}
    {f__law_hx_up : Addr} {oc__law_hx_up : Value} {od__law_hx_up an__law_hx_up : Option Addr} {sl__law_hx_up : Array (Option Value)} {kV__law_hx_up dc__law_hx_up pm__law_hx_up ct__law_hx_up : Value} {cd__law_hx_up : Value}
    {f__law_hx_of : Addr} {oc__law_hx_of : Value} {od__law_hx_of an__law_hx_of : Option Addr} {sl__law_hx_of : Array (Option Value)} {kV__law_hx_of dc__law_hx_of pm__law_hx_of ct__law_hx_of : Value} {cd__law_hx_of : Value}
    {f__law_hx_met : Addr} {oc__law_hx_met : Value} {od__law_hx_met an__law_hx_met : Option Addr} {sl__law_hx_met : Array (Option Value)} {kV__law_hx_met dc__law_hx_met pm__law_hx_met ct__law_hx_met : Value} {cd__law_hx_met : Value}
    {f__law_right : Addr} {oc__law_right : Value} {od__law_right an__law_right : Option Addr} {sl__law_right : Array (Option Value)} {kV__law_right dc__law_right pm__law_right ct__law_right : Value} {cc__law_right : Addr}
    {f_law : Addr} {oc_law : Value} {od_law an_law : Option Addr} {sl_law : Array (Option Value)} {kV_law dc_law pm_law ct_law : Value} {cc_law : Addr}
    {tk_LONGEST : Tok}
    {tk__MOST_SEED : Tok}
    {tk__MOST_TOLD : Tok}
    {tk__MOST_HALF_SEED : Tok}
    (gc_InvalidNumber : PySem.W.nsIn K mainGlobals "InvalidNumber" = some (some (.ref a_InvalidNumber)))
    (gc_InvalidFraction : PySem.W.nsIn K mainGlobals "InvalidFraction" = some (some (.ref a_InvalidFraction)))
    (gc_InvalidWord : PySem.W.nsIn K mainGlobals "InvalidWord" = some (some (.ref a_InvalidWord)))
    (gc_InvalidMaps : PySem.W.nsIn K mainGlobals "InvalidMaps" = some (some (.ref a_InvalidMaps)))
    (gc_InvalidTruth : PySem.W.nsIn K mainGlobals "InvalidTruth" = some (some (.ref a_InvalidTruth)))
    (gc_TooMany : PySem.W.nsIn K mainGlobals "TooMany" = some (some (.ref a_TooMany)))
    (gc_InvalidRow : PySem.W.nsIn K mainGlobals "InvalidRow" = some (some (.ref a_InvalidRow)))
    (gc_InvalidMeasure : PySem.W.nsIn K mainGlobals "InvalidMeasure" = some (some (.ref a_InvalidMeasure)))
    (gc_InvalidDraw : PySem.W.nsIn K mainGlobals "InvalidDraw" = some (some (.ref a_InvalidDraw)))
    (gc_InvalidFamily : PySem.W.nsIn K mainGlobals "InvalidFamily" = some (some (.ref a_InvalidFamily)))
    (gc_InvalidMix : PySem.W.nsIn K mainGlobals "InvalidMix" = some (some (.ref a_InvalidMix)))
    (gc_InvalidOperation : PySem.W.nsIn K mainGlobals "InvalidOperation" = some (some (.ref a_InvalidOperation)))
    (kc_InvalidFraction : PySem.W.keepIn K (.ref a_InvalidFraction) = true)
    (qc_InvalidFraction : PySem.W.excIn K a_InvalidFraction [.type "ValueError", .type "Exception", .type "BaseException", .type "object"] "ValueError.__new__" = true)
    (ec_InvalidFraction : PySem.W.subIn K (.ref a_InvalidFraction) (.type "BaseException") = some true)
    (tc_InvalidFraction : PySem.W.typeIn K (.ref a_InvalidFraction) = some (.type "type"))
    (kc_InvalidWord : PySem.W.keepIn K (.ref a_InvalidWord) = true)
    (qc_InvalidWord : PySem.W.excIn K a_InvalidWord [.type "ValueError", .type "Exception", .type "BaseException", .type "object"] "ValueError.__new__" = true)
    (ec_InvalidWord : PySem.W.subIn K (.ref a_InvalidWord) (.type "BaseException") = some true)
    (tc_InvalidWord : PySem.W.typeIn K (.ref a_InvalidWord) = some (.type "type"))
    (kc_InvalidMaps : PySem.W.keepIn K (.ref a_InvalidMaps) = true)
    (qc_InvalidMaps : PySem.W.excIn K a_InvalidMaps [.type "ValueError", .type "Exception", .type "BaseException", .type "object"] "ValueError.__new__" = true)
    (ec_InvalidMaps : PySem.W.subIn K (.ref a_InvalidMaps) (.type "BaseException") = some true)
    (tc_InvalidMaps : PySem.W.typeIn K (.ref a_InvalidMaps) = some (.type "type"))
    (kc_InvalidTruth : PySem.W.keepIn K (.ref a_InvalidTruth) = true)
    (qc_InvalidTruth : PySem.W.excIn K a_InvalidTruth [.type "ValueError", .type "Exception", .type "BaseException", .type "object"] "ValueError.__new__" = true)
    (ec_InvalidTruth : PySem.W.subIn K (.ref a_InvalidTruth) (.type "BaseException") = some true)
    (tc_InvalidTruth : PySem.W.typeIn K (.ref a_InvalidTruth) = some (.type "type"))
    (gH : PySem.W.nsIn K mainGlobals "HardError" = some (some (.ref aH)))
    (hs : PySem.W.specialIn K (.ref aH) "__getattribute__" = some (some (.builtin "type.__getattribute__")))
    (hr : PySem.W.readsIn K aH (.type "type") = true)
    (hf : PySem.W.findCls K (.ref aH) (.type "type") "__init__" = some (.val (.builtin "ValueError.__init__")))
    (xc_InvalidNumber : K.lookup a_InvalidNumber = some (excClassObj nm_InvalidNumber qn_InvalidNumber a_InvalidNumber N_InvalidNumber bs_InvalidNumber [.ref aH, .type "ValueError", .type "Exception", .type "BaseException", .type "object"] true sn_InvalidNumber sub_InvalidNumber ab_InvalidNumber col_InvalidNumber dd_InvalidNumber m0_InvalidNumber m1_InvalidNumber m2_InvalidNumber m3_InvalidNumber m5_InvalidNumber "ValueError.__new__"))
    (sa_InvalidNumber : PySem.W.findIn K (.ref a_InvalidNumber) "__setattr__" = some (some (.builtin "object.__setattr__")))
    (ec_InvalidNumber : PySem.W.subIn K (.ref a_InvalidNumber) (.type "BaseException") = some true)
    (tc_InvalidNumber : PySem.W.typeIn K (.ref a_InvalidNumber) = some (.type "type"))
    (kc_InvalidNumber : PySem.W.keepIn K (.ref a_InvalidNumber) = true)
    (nc_InvalidNumber : PySem.W.findIn K (.ref a_InvalidNumber) "given" = some none)
    (ic_InvalidNumber : PySem.W.findIn K (.ref a_InvalidNumber) "__init__" = some (some (.ref fi_InvalidNumber)))
    (ti_InvalidNumber : PySem.W.typeIn K (.ref fi_InvalidNumber) = some (.type "function"))
    (li_InvalidNumber : K.lookup fi_InvalidNumber = some ⟨ocI_InvalidNumber, odI_InvalidNumber, .func (PySem.W.fnOf "__init__" "InvalidNumber.__init__" (defArgs sI_InvalidNumber) (defBody sI_InvalidNumber) (defScope sI_InvalidNumber) .none kVI_InvalidNumber dcI_InvalidNumber pmI_InvalidNumber anI_InvalidNumber cdI_InvalidNumber ctI_InvalidNumber), slI_InvalidNumber⟩)
    (ci_InvalidNumber : PySem.W.codeIn K cdI_InvalidNumber "InvalidNumber.__init__" = true)
    (ki_InvalidNumber : PySem.W.keepIn K (.ref fi_InvalidNumber) = true)
    (xf_InvalidNumber : xfB K (caK K "InvalidNumber") = true)
    (nf_InvalidNumber : PySem.W.findIn K (.ref (caK K "InvalidNumber")) "given" = some none)
    (xf_TooMany : xfB K (caK K "TooMany") = true)
    (nf_TooMany : PySem.W.findIn K (.ref (caK K "TooMany")) "most" = some none)
    (hx__law_hx_met : exB K hl__law_hx_met = true)
    (g_is_integer : PySem.W.nsIn K mainGlobals "is_integer" = some (some (.ref f_is_integer)))
    (l_is_integer : K.lookup f_is_integer = some ⟨oc_is_integer, od_is_integer, .func (PySem.W.fnOf "is_integer" "is_integer" (defArgs s_is_integer) (defBody s_is_integer) (defScope s_is_integer) .none kV_is_integer dc_is_integer pm_is_integer an_is_integer cd_is_integer ct_is_integer), sl_is_integer⟩)
    (c_is_integer : PySem.W.codeIn K cd_is_integer "is_integer" = true)
    (kf_is_integer : PySem.W.keepIn K (.ref f_is_integer) = true)
    (g_is_short : PySem.W.nsIn K mainGlobals "is_short" = some (some (.ref f_is_short)))
    (l_is_short : K.lookup f_is_short = some ⟨oc_is_short, od_is_short, .func (PySem.W.fnOf "is_short" "is_short" (defArgs s_is_short) (defBody s_is_short) (defScope s_is_short) .none kV_is_short dc_is_short pm_is_short an_is_short cd_is_short ct_is_short), sl_is_short⟩)
    (c_is_short : PySem.W.codeIn K cd_is_short "is_short" = true)
    (kf_is_short : PySem.W.keepIn K (.ref f_is_short) = true)
    (g_is_between : PySem.W.nsIn K mainGlobals "is_between" = some (some (.ref f_is_between)))
    (l_is_between : K.lookup f_is_between = some ⟨oc_is_between, od_is_between, .func (PySem.W.fnOf "is_between" "is_between" (defArgs s_is_between) (defBody s_is_between) (defScope s_is_between) .none kV_is_between dc_is_between pm_is_between an_is_between cd_is_between ct_is_between), sl_is_between⟩)
    (c_is_between : PySem.W.codeIn K cd_is_between "is_between" = true)
    (kf_is_between : PySem.W.keepIn K (.ref f_is_between) = true)
    (g_is_index : PySem.W.nsIn K mainGlobals "is_index" = some (some (.ref f_is_index)))
    (l_is_index : K.lookup f_is_index = some ⟨oc_is_index, od_is_index, .func (PySem.W.fnOf "is_index" "is_index" (defArgs s_is_index) (defBody s_is_index) (defScope s_is_index) .none kV_is_index dc_is_index pm_is_index an_is_index cd_is_index ct_is_index), sl_is_index⟩)
    (c_is_index : PySem.W.codeIn K cd_is_index "is_index" = true)
    (kf_is_index : PySem.W.keepIn K (.ref f_is_index) = true)
    (g_is_bit : PySem.W.nsIn K mainGlobals "is_bit" = some (some (.ref f_is_bit)))
    (l_is_bit : K.lookup f_is_bit = some ⟨oc_is_bit, od_is_bit, .func (PySem.W.fnOf "is_bit" "is_bit" (defArgs s_is_bit) (defBody s_is_bit) (defScope s_is_bit) .none kV_is_bit dc_is_bit pm_is_bit an_is_bit cd_is_bit ct_is_bit), sl_is_bit⟩)
    (c_is_bit : PySem.W.codeIn K cd_is_bit "is_bit" = true)
    (kf_is_bit : PySem.W.keepIn K (.ref f_is_bit) = true)
    (g_is_sign : PySem.W.nsIn K mainGlobals "is_sign" = some (some (.ref f_is_sign)))
    (l_is_sign : K.lookup f_is_sign = some ⟨oc_is_sign, od_is_sign, .func (PySem.W.fnOf "is_sign" "is_sign" (defArgs s_is_sign) (defBody s_is_sign) (defScope s_is_sign) .none kV_is_sign dc_is_sign pm_is_sign an_is_sign cd_is_sign ct_is_sign), sl_is_sign⟩)
    (c_is_sign : PySem.W.codeIn K cd_is_sign "is_sign" = true)
    (kf_is_sign : PySem.W.keepIn K (.ref f_is_sign) = true)
    (g_is_tuple_of : PySem.W.nsIn K mainGlobals "is_tuple_of" = some (some (.ref f_is_tuple_of)))
    (l_is_tuple_of : K.lookup f_is_tuple_of = some ⟨oc_is_tuple_of, od_is_tuple_of, .func (PySem.W.fnOf "is_tuple_of" "is_tuple_of" (defArgs s_is_tuple_of) (defBody s_is_tuple_of) (defScope s_is_tuple_of) .none kV_is_tuple_of dc_is_tuple_of pm_is_tuple_of an_is_tuple_of cd_is_tuple_of ct_is_tuple_of), sl_is_tuple_of⟩)
    (c_is_tuple_of : PySem.W.codeIn K cd_is_tuple_of "is_tuple_of" = true)
    (kf_is_tuple_of : PySem.W.keepIn K (.ref f_is_tuple_of) = true)
    (g_is_answer : PySem.W.nsIn K mainGlobals "is_answer" = some (some (.ref f_is_answer)))
    (l_is_answer : K.lookup f_is_answer = some ⟨oc_is_answer, od_is_answer, .func (PySem.W.fnOf "is_answer" "is_answer" (defArgs s_is_answer) (defBody s_is_answer) (defScope s_is_answer) .none kV_is_answer dc_is_answer pm_is_answer an_is_answer cd_is_answer ct_is_answer), sl_is_answer⟩)
    (c_is_answer : PySem.W.codeIn K cd_is_answer "is_answer" = true)
    (kf_is_answer : PySem.W.keepIn K (.ref f_is_answer) = true)
    (g_is_word : PySem.W.nsIn K mainGlobals "is_word" = some (some (.ref f_is_word)))
    (l_is_word : K.lookup f_is_word = some ⟨oc_is_word, od_is_word, .func (PySem.W.fnOf "is_word" "is_word" (defArgs s_is_word) (defBody s_is_word) (defScope s_is_word) .none kV_is_word dc_is_word pm_is_word an_is_word (.ref cc_is_word) ct_is_word), sl_is_word⟩)
    (c_is_word : PySem.W.codeIn K (.ref cc_is_word) "is_word" = true)
    (kf_is_word : PySem.W.keepIn K (.ref f_is_word) = true)
    (t_is_word : PySem.W.tabIn K "is_word" = some (cc_is_word, tabP K "is_word"))
    (r_is_word : ((recsOf q).find? fun e => e.name == ("is_word" : Str)).isSome = true)
    (p_is_word : K.lookup (tabP K "is_word") = none)
    (g_is_signs : PySem.W.nsIn K mainGlobals "is_signs" = some (some (.ref f_is_signs)))
    (l_is_signs : K.lookup f_is_signs = some ⟨oc_is_signs, od_is_signs, .func (PySem.W.fnOf "is_signs" "is_signs" (defArgs s_is_signs) (defBody s_is_signs) (defScope s_is_signs) .none kV_is_signs dc_is_signs pm_is_signs an_is_signs (.ref cc_is_signs) ct_is_signs), sl_is_signs⟩)
    (c_is_signs : PySem.W.codeIn K (.ref cc_is_signs) "is_signs" = true)
    (kf_is_signs : PySem.W.keepIn K (.ref f_is_signs) = true)
    (t_is_signs : PySem.W.tabIn K "is_signs" = some (cc_is_signs, tabP K "is_signs"))
    (r_is_signs : ((recsOf q).find? fun e => e.name == ("is_signs" : Str)).isSome = true)
    (p_is_signs : K.lookup (tabP K "is_signs") = none)
    (g_is_indices : PySem.W.nsIn K mainGlobals "is_indices" = some (some (.ref f_is_indices)))
    (l_is_indices : K.lookup f_is_indices = some ⟨oc_is_indices, od_is_indices, .func (PySem.W.fnOf "is_indices" "is_indices" (defArgs s_is_indices) (defBody s_is_indices) (defScope s_is_indices) .none kV_is_indices dc_is_indices pm_is_indices an_is_indices (.ref cc_is_indices) ct_is_indices), sl_is_indices⟩)
    (c_is_indices : PySem.W.codeIn K (.ref cc_is_indices) "is_indices" = true)
    (kf_is_indices : PySem.W.keepIn K (.ref f_is_indices) = true)
    (t_is_indices : PySem.W.tabIn K "is_indices" = some (cc_is_indices, tabP K "is_indices"))
    (r_is_indices : ((recsOf q).find? fun e => e.name == ("is_indices" : Str)).isSome = true)
    (p_is_indices : K.lookup (tabP K "is_indices") = none)
    (g_is_places : PySem.W.nsIn K mainGlobals "is_places" = some (some (.ref f_is_places)))
    (l_is_places : K.lookup f_is_places = some ⟨oc_is_places, od_is_places, .func (PySem.W.fnOf "is_places" "is_places" (defArgs s_is_places) (defBody s_is_places) (defScope s_is_places) .none kV_is_places dc_is_places pm_is_places an_is_places cd_is_places ct_is_places), sl_is_places⟩)
    (c_is_places : PySem.W.codeIn K cd_is_places "is_places" = true)
    (kf_is_places : PySem.W.keepIn K (.ref f_is_places) = true)
    (g_is_lowest_pair : PySem.W.nsIn K mainGlobals "is_lowest_pair" = some (some (.ref f_is_lowest_pair)))
    (l_is_lowest_pair : K.lookup f_is_lowest_pair = some ⟨oc_is_lowest_pair, od_is_lowest_pair, .func (PySem.W.fnOf "is_lowest_pair" "is_lowest_pair" (defArgs s_is_lowest_pair) (defBody s_is_lowest_pair) (defScope s_is_lowest_pair) .none kV_is_lowest_pair dc_is_lowest_pair pm_is_lowest_pair an_is_lowest_pair cd_is_lowest_pair ct_is_lowest_pair), sl_is_lowest_pair⟩)
    (c_is_lowest_pair : PySem.W.codeIn K cd_is_lowest_pair "is_lowest_pair" = true)
    (kf_is_lowest_pair : PySem.W.keepIn K (.ref f_is_lowest_pair) = true)
    (g_is_fraction_between : PySem.W.nsIn K mainGlobals "is_fraction_between" = some (some (.ref f_is_fraction_between)))
    (l_is_fraction_between : K.lookup f_is_fraction_between = some ⟨oc_is_fraction_between, od_is_fraction_between, .func (PySem.W.fnOf "is_fraction_between" "is_fraction_between" (defArgs s_is_fraction_between) (defBody s_is_fraction_between) (defScope s_is_fraction_between) .none kV_is_fraction_between dc_is_fraction_between pm_is_fraction_between an_is_fraction_between cd_is_fraction_between ct_is_fraction_between), sl_is_fraction_between⟩)
    (c_is_fraction_between : PySem.W.codeIn K cd_is_fraction_between "is_fraction_between" = true)
    (kf_is_fraction_between : PySem.W.keepIn K (.ref f_is_fraction_between) = true)
    (g_is_share : PySem.W.nsIn K mainGlobals "is_share" = some (some (.ref f_is_share)))
    (l_is_share : K.lookup f_is_share = some ⟨oc_is_share, od_is_share, .func (PySem.W.fnOf "is_share" "is_share" (defArgs s_is_share) (defBody s_is_share) (defScope s_is_share) .none kV_is_share dc_is_share pm_is_share an_is_share cd_is_share ct_is_share), sl_is_share⟩)
    (c_is_share : PySem.W.codeIn K cd_is_share "is_share" = true)
    (kf_is_share : PySem.W.keepIn K (.ref f_is_share) = true)
    (g_is_short_fraction : PySem.W.nsIn K mainGlobals "is_short_fraction" = some (some (.ref f_is_short_fraction)))
    (l_is_short_fraction : K.lookup f_is_short_fraction = some ⟨oc_is_short_fraction, od_is_short_fraction, .func (PySem.W.fnOf "is_short_fraction" "is_short_fraction" (defArgs s_is_short_fraction) (defBody s_is_short_fraction) (defScope s_is_short_fraction) .none kV_is_short_fraction dc_is_short_fraction pm_is_short_fraction an_is_short_fraction cd_is_short_fraction ct_is_short_fraction), sl_is_short_fraction⟩)
    (c_is_short_fraction : PySem.W.codeIn K cd_is_short_fraction "is_short_fraction" = true)
    (kf_is_short_fraction : PySem.W.keepIn K (.ref f_is_short_fraction) = true)
    (g_need_number : PySem.W.nsIn K mainGlobals "need_number" = some (some (.ref f_need_number)))
    (l_need_number : K.lookup f_need_number = some ⟨oc_need_number, od_need_number, .func (PySem.W.fnOf "need_number" "need_number" (defArgs s_need_number) (defBody s_need_number) (defScope s_need_number) .none kV_need_number dc_need_number pm_need_number an_need_number cd_need_number ct_need_number), sl_need_number⟩)
    (c_need_number : PySem.W.codeIn K cd_need_number "need_number" = true)
    (kf_need_number : PySem.W.keepIn K (.ref f_need_number) = true)
    (g_need_fraction : PySem.W.nsIn K mainGlobals "need_fraction" = some (some (.ref f_need_fraction)))
    (l_need_fraction : K.lookup f_need_fraction = some ⟨oc_need_fraction, od_need_fraction, .func (PySem.W.fnOf "need_fraction" "need_fraction" (defArgs s_need_fraction) (defBody s_need_fraction) (defScope s_need_fraction) .none kV_need_fraction dc_need_fraction pm_need_fraction an_need_fraction cd_need_fraction ct_need_fraction), sl_need_fraction⟩)
    (c_need_fraction : PySem.W.codeIn K cd_need_fraction "need_fraction" = true)
    (kf_need_fraction : PySem.W.keepIn K (.ref f_need_fraction) = true)
    (g_need_fraction_between : PySem.W.nsIn K mainGlobals "need_fraction_between" = some (some (.ref f_need_fraction_between)))
    (l_need_fraction_between : K.lookup f_need_fraction_between = some ⟨oc_need_fraction_between, od_need_fraction_between, .func (PySem.W.fnOf "need_fraction_between" "need_fraction_between" (defArgs s_need_fraction_between) (defBody s_need_fraction_between) (defScope s_need_fraction_between) .none kV_need_fraction_between dc_need_fraction_between pm_need_fraction_between an_need_fraction_between cd_need_fraction_between ct_need_fraction_between), sl_need_fraction_between⟩)
    (c_need_fraction_between : PySem.W.codeIn K cd_need_fraction_between "need_fraction_between" = true)
    (kf_need_fraction_between : PySem.W.keepIn K (.ref f_need_fraction_between) = true)
    (g_need_share : PySem.W.nsIn K mainGlobals "need_share" = some (some (.ref f_need_share)))
    (l_need_share : K.lookup f_need_share = some ⟨oc_need_share, od_need_share, .func (PySem.W.fnOf "need_share" "need_share" (defArgs s_need_share) (defBody s_need_share) (defScope s_need_share) .none kV_need_share dc_need_share pm_need_share an_need_share cd_need_share ct_need_share), sl_need_share⟩)
    (c_need_share : PySem.W.codeIn K cd_need_share "need_share" = true)
    (kf_need_share : PySem.W.keepIn K (.ref f_need_share) = true)
    (g_need_word : PySem.W.nsIn K mainGlobals "need_word" = some (some (.ref f_need_word)))
    (l_need_word : K.lookup f_need_word = some ⟨oc_need_word, od_need_word, .func (PySem.W.fnOf "need_word" "need_word" (defArgs s_need_word) (defBody s_need_word) (defScope s_need_word) .none kV_need_word dc_need_word pm_need_word an_need_word cd_need_word ct_need_word), sl_need_word⟩)
    (c_need_word : PySem.W.codeIn K cd_need_word "need_word" = true)
    (kf_need_word : PySem.W.keepIn K (.ref f_need_word) = true)
    (g_need_table : PySem.W.nsIn K mainGlobals "need_table" = some (some (.ref f_need_table)))
    (l_need_table : K.lookup f_need_table = some ⟨oc_need_table, od_need_table, .func (PySem.W.fnOf "need_table" "need_table" (defArgs s_need_table) (defBody s_need_table) (defScope s_need_table) .none kV_need_table dc_need_table pm_need_table an_need_table cd_need_table ct_need_table), sl_need_table⟩)
    (c_need_table : PySem.W.codeIn K cd_need_table "need_table" = true)
    (kf_need_table : PySem.W.keepIn K (.ref f_need_table) = true)
    (g_spelled : PySem.W.nsIn K mainGlobals "spelled" = some (some (.ref f_spelled)))
    (l_spelled : K.lookup f_spelled = some ⟨oc_spelled, od_spelled, .func (PySem.W.fnOf "spelled" "spelled" (defArgs s_spelled) (defBody s_spelled) (defScope s_spelled) .none kV_spelled dc_spelled pm_spelled an_spelled cd_spelled ct_spelled), sl_spelled⟩)
    (c_spelled : PySem.W.codeIn K cd_spelled "spelled" = true)
    (kf_spelled : PySem.W.keepIn K (.ref f_spelled) = true)
    (g_number_of : PySem.W.nsIn K mainGlobals "number_of" = some (some (.ref f_number_of)))
    (l_number_of : K.lookup f_number_of = some ⟨oc_number_of, od_number_of, .func (PySem.W.fnOf "number_of" "number_of" (defArgs s_number_of) (defBody s_number_of) (defScope s_number_of) .none kV_number_of dc_number_of pm_number_of an_number_of cd_number_of ct_number_of), sl_number_of⟩)
    (c_number_of : PySem.W.codeIn K cd_number_of "number_of" = true)
    (kf_number_of : PySem.W.keepIn K (.ref f_number_of) = true)
    (g_bit_of : PySem.W.nsIn K mainGlobals "bit_of" = some (some (.ref f_bit_of)))
    (l_bit_of : K.lookup f_bit_of = some ⟨oc_bit_of, od_bit_of, .func (PySem.W.fnOf "bit_of" "bit_of" (defArgs s_bit_of) (defBody s_bit_of) (defScope s_bit_of) .none kV_bit_of dc_bit_of pm_bit_of an_bit_of cd_bit_of ct_bit_of), sl_bit_of⟩)
    (c_bit_of : PySem.W.codeIn K cd_bit_of "bit_of" = true)
    (kf_bit_of : PySem.W.keepIn K (.ref f_bit_of) = true)
    (g_parity : PySem.W.nsIn K mainGlobals "parity" = some (some (.ref f_parity)))
    (l_parity : K.lookup f_parity = some ⟨oc_parity, od_parity, .func (PySem.W.fnOf "parity" "parity" (defArgs s_parity) (defBody s_parity) (defScope s_parity) .none kV_parity dc_parity pm_parity an_parity cd_parity ct_parity), sl_parity⟩)
    (c_parity : PySem.W.codeIn K cd_parity "parity" = true)
    (kf_parity : PySem.W.keepIn K (.ref f_parity) = true)
    (g_log_of : PySem.W.nsIn K mainGlobals "log_of" = some (some (.ref f_log_of)))
    (l_log_of : K.lookup f_log_of = some ⟨oc_log_of, od_log_of, .func (PySem.W.fnOf "log_of" "log_of" (defArgs s_log_of) (defBody s_log_of) (defScope s_log_of) .none kV_log_of dc_log_of pm_log_of an_log_of cd_log_of ct_log_of), sl_log_of⟩)
    (c_log_of : PySem.W.codeIn K cd_log_of "log_of" = true)
    (kf_log_of : PySem.W.keepIn K (.ref f_log_of) = true)
    (g_reduced : PySem.W.nsIn K mainGlobals "reduced" = some (some (.ref f_reduced)))
    (l_reduced : K.lookup f_reduced = some ⟨oc_reduced, od_reduced, .func (PySem.W.fnOf "reduced" "reduced" (defArgs s_reduced) (defBody s_reduced) (defScope s_reduced) .none kV_reduced dc_reduced pm_reduced an_reduced cd_reduced ct_reduced), sl_reduced⟩)
    (c_reduced : PySem.W.codeIn K cd_reduced "reduced" = true)
    (kf_reduced : PySem.W.keepIn K (.ref f_reduced) = true)
    (g_minus : PySem.W.nsIn K mainGlobals "minus" = some (some (.ref f_minus)))
    (l_minus : K.lookup f_minus = some ⟨oc_minus, od_minus, .func (PySem.W.fnOf "minus" "minus" (defArgs s_minus) (defBody s_minus) (defScope s_minus) .none kV_minus dc_minus pm_minus an_minus cd_minus ct_minus), sl_minus⟩)
    (c_minus : PySem.W.codeIn K cd_minus "minus" = true)
    (kf_minus : PySem.W.keepIn K (.ref f_minus) = true)
    (g_ordered : PySem.W.nsIn K mainGlobals "ordered" = some (some (.ref f_ordered)))
    (l_ordered : K.lookup f_ordered = some ⟨oc_ordered, od_ordered, .func (PySem.W.fnOf "ordered" "ordered" (defArgs s_ordered) (defBody s_ordered) (defScope s_ordered) .none kV_ordered dc_ordered pm_ordered an_ordered cd_ordered ct_ordered), sl_ordered⟩)
    (c_ordered : PySem.W.codeIn K cd_ordered "ordered" = true)
    (kf_ordered : PySem.W.keepIn K (.ref f_ordered) = true)
    (g_amount : PySem.W.nsIn K mainGlobals "amount" = some (some (.ref f_amount)))
    (l_amount : K.lookup f_amount = some ⟨oc_amount, od_amount, .func (PySem.W.fnOf "amount" "amount" (defArgs s_amount) (defBody s_amount) (defScope s_amount) .none kV_amount dc_amount pm_amount an_amount cd_amount ct_amount), sl_amount⟩)
    (c_amount : PySem.W.codeIn K cd_amount "amount" = true)
    (kf_amount : PySem.W.keepIn K (.ref f_amount) = true)
    (g__log_within : PySem.W.nsIn K mainGlobals "_log_within" = some (some (.ref f__log_within)))
    (l__log_within : K.lookup f__log_within = some ⟨oc__log_within, od__log_within, .func (PySem.W.fnOf "_log_within" "_log_within" (defArgs s__log_within) (defBody s__log_within) (defScope s__log_within) .none kV__log_within dc__log_within pm__log_within an__log_within cd__log_within ct__log_within), sl__log_within⟩)
    (c__log_within : PySem.W.codeIn K cd__log_within "_log_within" = true)
    (kf__log_within : PySem.W.keepIn K (.ref f__log_within) = true)
    (g__need_map : PySem.W.nsIn K mainGlobals "_need_map" = some (some (.ref f__need_map)))
    (l__need_map : K.lookup f__need_map = some ⟨oc__need_map, od__need_map, .func (PySem.W.fnOf "_need_map" "_need_map" (defArgs s__need_map) (defBody s__need_map) (defScope s__need_map) .none kV__need_map dc__need_map pm__need_map an__need_map (.ref cc__need_map) ct__need_map), sl__need_map⟩)
    (c__need_map : PySem.W.codeIn K (.ref cc__need_map) "_need_map" = true)
    (kf__need_map : PySem.W.keepIn K (.ref f__need_map) = true)
    (t__need_map : PySem.W.tabIn K "_need_map" = some (cc__need_map, tabP K "_need_map"))
    (r__need_map : ((recsOf q).find? fun e => e.name == ("_need_map" : Str)).isSome = true)
    (p__need_map : K.lookup (tabP K "_need_map") = none)
    (g__need_map_and_told : PySem.W.nsIn K mainGlobals "_need_map_and_told" = some (some (.ref f__need_map_and_told)))
    (l__need_map_and_told : K.lookup f__need_map_and_told = some ⟨oc__need_map_and_told, od__need_map_and_told, .func (PySem.W.fnOf "_need_map_and_told" "_need_map_and_told" (defArgs s__need_map_and_told) (defBody s__need_map_and_told) (defScope s__need_map_and_told) .none kV__need_map_and_told dc__need_map_and_told pm__need_map_and_told an__need_map_and_told cd__need_map_and_told ct__need_map_and_told), sl__need_map_and_told⟩)
    (c__need_map_and_told : PySem.W.codeIn K cd__need_map_and_told "_need_map_and_told" = true)
    (kf__need_map_and_told : PySem.W.keepIn K (.ref f__need_map_and_told) = true)
    (g__led : PySem.W.nsIn K mainGlobals "_led" = some (some (.ref f__led)))
    (l__led : K.lookup f__led = some ⟨oc__led, od__led, .func (PySem.W.fnOf "_led" "_led" (defArgs s__led) (defBody s__led) (defScope s__led) .none kV__led dc__led pm__led an__led cd__led ct__led), sl__led⟩)
    (c__led : PySem.W.codeIn K cd__led "_led" = true)
    (kf__led : PySem.W.keepIn K (.ref f__led) = true)
    (g_led_on : PySem.W.nsIn K mainGlobals "led_on" = some (some (.ref f_led_on)))
    (l_led_on : K.lookup f_led_on = some ⟨oc_led_on, od_led_on, .func (PySem.W.fnOf "led_on" "led_on" (defArgs s_led_on) (defBody s_led_on) (defScope s_led_on) .none kV_led_on dc_led_on pm_led_on an_led_on cd_led_on ct_led_on), sl_led_on⟩)
    (c_led_on : PySem.W.codeIn K cd_led_on "led_on" = true)
    (kf_led_on : PySem.W.keepIn K (.ref f_led_on) = true)
    (g__excess_over : PySem.W.nsIn K mainGlobals "_excess_over" = some (some (.ref f__excess_over)))
    (l__excess_over : K.lookup f__excess_over = some ⟨oc__excess_over, od__excess_over, .func (PySem.W.fnOf "_excess_over" "_excess_over" (defArgs s__excess_over) (defBody s__excess_over) (defScope s__excess_over) .none kV__excess_over dc__excess_over pm__excess_over an__excess_over cd__excess_over ct__excess_over), sl__excess_over⟩)
    (c__excess_over : PySem.W.codeIn K cd__excess_over "_excess_over" = true)
    (kf__excess_over : PySem.W.keepIn K (.ref f__excess_over) = true)
    (g_map_excess : PySem.W.nsIn K mainGlobals "map_excess" = some (some (.ref f_map_excess)))
    (l_map_excess : K.lookup f_map_excess = some ⟨oc_map_excess, od_map_excess, .func (PySem.W.fnOf "map_excess" "map_excess" (defArgs s_map_excess) (defBody s_map_excess) (defScope s_map_excess) .none kV_map_excess dc_map_excess pm_map_excess an_map_excess cd_map_excess ct_map_excess), sl_map_excess⟩)
    (c_map_excess : PySem.W.codeIn K cd_map_excess "map_excess" = true)
    (kf_map_excess : PySem.W.keepIn K (.ref f_map_excess) = true)
    (g__long_excess : PySem.W.nsIn K mainGlobals "_long_excess" = some (some (.ref f__long_excess)))
    (l__long_excess : K.lookup f__long_excess = some ⟨oc__long_excess, od__long_excess, .func (PySem.W.fnOf "_long_excess" "_long_excess" (defArgs s__long_excess) (defBody s__long_excess) (defScope s__long_excess) .none kV__long_excess dc__long_excess pm__long_excess an__long_excess cd__long_excess ct__long_excess), sl__long_excess⟩)
    (c__long_excess : PySem.W.codeIn K cd__long_excess "_long_excess" = true)
    (kf__long_excess : PySem.W.keepIn K (.ref f__long_excess) = true)
    (g_long_excess : PySem.W.nsIn K mainGlobals "long_excess" = some (some (.ref f_long_excess)))
    (l_long_excess : K.lookup f_long_excess = some ⟨oc_long_excess, od_long_excess, .func (PySem.W.fnOf "long_excess" "long_excess" (defArgs s_long_excess) (defBody s_long_excess) (defScope s_long_excess) .none kV_long_excess dc_long_excess pm_long_excess an_long_excess cd_long_excess ct_long_excess), sl_long_excess⟩)
    (c_long_excess : PySem.W.codeIn K cd_long_excess "long_excess" = true)
    (kf_long_excess : PySem.W.keepIn K (.ref f_long_excess) = true)
    (g__step_test : PySem.W.nsIn K mainGlobals "_step_test" = some (some (.ref f__step_test)))
    (l__step_test : K.lookup f__step_test = some ⟨oc__step_test, od__step_test, .func (PySem.W.fnOf "_step_test" "_step_test" (defArgs s__step_test) (defBody s__step_test) (defScope s__step_test) .none kV__step_test dc__step_test pm__step_test an__step_test cd__step_test ct__step_test), sl__step_test⟩)
    (c__step_test : PySem.W.codeIn K cd__step_test "_step_test" = true)
    (kf__step_test : PySem.W.keepIn K (.ref f__step_test) = true)
    (g__is_first : PySem.W.nsIn K mainGlobals "_is_first" = some (some (.ref f__is_first)))
    (l__is_first : K.lookup f__is_first = some ⟨oc__is_first, od__is_first, .func (PySem.W.fnOf "_is_first" "_is_first" (defArgs s__is_first) (defBody s__is_first) (defScope s__is_first) .none kV__is_first dc__is_first pm__is_first an__is_first cd__is_first ct__is_first), sl__is_first⟩)
    (c__is_first : PySem.W.codeIn K cd__is_first "_is_first" = true)
    (kf__is_first : PySem.W.keepIn K (.ref f__is_first) = true)
    (g_step_test : PySem.W.nsIn K mainGlobals "step_test" = some (some (.ref f_step_test)))
    (l_step_test : K.lookup f_step_test = some ⟨oc_step_test, od_step_test, .func (PySem.W.fnOf "step_test" "step_test" (defArgs s_step_test) (defBody s_step_test) (defScope s_step_test) .none kV_step_test dc_step_test pm_step_test an_step_test cd_step_test ct_step_test), sl_step_test⟩)
    (c_step_test : PySem.W.codeIn K cd_step_test "step_test" = true)
    (kf_step_test : PySem.W.keepIn K (.ref f_step_test) = true)
    (g__is_step : PySem.W.nsIn K mainGlobals "_is_step" = some (some (.ref f__is_step)))
    (l__is_step : K.lookup f__is_step = some ⟨oc__is_step, od__is_step, .func (PySem.W.fnOf "_is_step" "_is_step" (defArgs s__is_step) (defBody s__is_step) (defScope s__is_step) .none kV__is_step dc__is_step pm__is_step an__is_step cd__is_step ct__is_step), sl__is_step⟩)
    (c__is_step : PySem.W.codeIn K cd__is_step "_is_step" = true)
    (kf__is_step : PySem.W.keepIn K (.ref f__is_step) = true)
    (g__need_all_for_answer : PySem.W.nsIn K mainGlobals "_need_all_for_answer" = some (some (.ref f__need_all_for_answer)))
    (l__need_all_for_answer : K.lookup f__need_all_for_answer = some ⟨oc__need_all_for_answer, od__need_all_for_answer, .func (PySem.W.fnOf "_need_all_for_answer" "_need_all_for_answer" (defArgs s__need_all_for_answer) (defBody s__need_all_for_answer) (defScope s__need_all_for_answer) .none kV__need_all_for_answer dc__need_all_for_answer pm__need_all_for_answer an__need_all_for_answer cd__need_all_for_answer ct__need_all_for_answer), sl__need_all_for_answer⟩)
    (c__need_all_for_answer : PySem.W.codeIn K cd__need_all_for_answer "_need_all_for_answer" = true)
    (kf__need_all_for_answer : PySem.W.keepIn K (.ref f__need_all_for_answer) = true)
    (g__is_little : PySem.W.nsIn K mainGlobals "_is_little" = some (some (.ref f__is_little)))
    (l__is_little : K.lookup f__is_little = some ⟨oc__is_little, od__is_little, .func (PySem.W.fnOf "_is_little" "_is_little" (defArgs s__is_little) (defBody s__is_little) (defScope s__is_little) .none kV__is_little dc__is_little pm__is_little an__is_little cd__is_little ct__is_little), sl__is_little⟩)
    (c__is_little : PySem.W.codeIn K cd__is_little "_is_little" = true)
    (kf__is_little : PySem.W.keepIn K (.ref f__is_little) = true)
    (g__first_step : PySem.W.nsIn K mainGlobals "_first_step" = some (some (.ref f__first_step)))
    (l__first_step : K.lookup f__first_step = some ⟨oc__first_step, od__first_step, .func (PySem.W.fnOf "_first_step" "_first_step" (defArgs s__first_step) (defBody s__first_step) (defScope s__first_step) .none kV__first_step dc__first_step pm__first_step an__first_step cd__first_step ct__first_step), sl__first_step⟩)
    (c__first_step : PySem.W.codeIn K cd__first_step "_first_step" = true)
    (kf__first_step : PySem.W.keepIn K (.ref f__first_step) = true)
    (g_long_answer : PySem.W.nsIn K mainGlobals "long_answer" = some (some (.ref f_long_answer)))
    (l_long_answer : K.lookup f_long_answer = some ⟨oc_long_answer, od_long_answer, .func (PySem.W.fnOf "long_answer" "long_answer" (defArgs s_long_answer) (defBody s_long_answer) (defScope s_long_answer) .none kV_long_answer dc_long_answer pm_long_answer an_long_answer cd_long_answer ct_long_answer), sl_long_answer⟩)
    (c_long_answer : PySem.W.codeIn K cd_long_answer "long_answer" = true)
    (kf_long_answer : PySem.W.keepIn K (.ref f_long_answer) = true)
    (g_is_long_answer : PySem.W.nsIn K mainGlobals "is_long_answer" = some (some (.ref f_is_long_answer)))
    (l_is_long_answer : K.lookup f_is_long_answer = some ⟨oc_is_long_answer, od_is_long_answer, .func (PySem.W.fnOf "is_long_answer" "is_long_answer" (defArgs s_is_long_answer) (defBody s_is_long_answer) (defScope s_is_long_answer) .none kV_is_long_answer dc_is_long_answer pm_is_long_answer an_is_long_answer cd_is_long_answer ct_is_long_answer), sl_is_long_answer⟩)
    (c_is_long_answer : PySem.W.codeIn K cd_is_long_answer "is_long_answer" = true)
    (kf_is_long_answer : PySem.W.keepIn K (.ref f_is_long_answer) = true)
    (g__need_turn : PySem.W.nsIn K mainGlobals "_need_turn" = some (some (.ref f__need_turn)))
    (l__need_turn : K.lookup f__need_turn = some ⟨oc__need_turn, od__need_turn, .func (PySem.W.fnOf "_need_turn" "_need_turn" (defArgs s__need_turn) (defBody s__need_turn) (defScope s__need_turn) .none kV__need_turn dc__need_turn pm__need_turn an__need_turn cd__need_turn ct__need_turn), sl__need_turn⟩)
    (c__need_turn : PySem.W.codeIn K cd__need_turn "_need_turn" = true)
    (kf__need_turn : PySem.W.keepIn K (.ref f__need_turn) = true)
    (g_bit_map : PySem.W.nsIn K mainGlobals "bit_map" = some (some (.ref f_bit_map)))
    (l_bit_map : K.lookup f_bit_map = some ⟨oc_bit_map, od_bit_map, .func (PySem.W.fnOf "bit_map" "bit_map" (defArgs s_bit_map) (defBody s_bit_map) (defScope s_bit_map) .none kV_bit_map dc_bit_map pm_bit_map an_bit_map cd_bit_map ct_bit_map), sl_bit_map⟩)
    (c_bit_map : PySem.W.codeIn K cd_bit_map "bit_map" = true)
    (kf_bit_map : PySem.W.keepIn K (.ref f_bit_map) = true)
    (g__guesses : PySem.W.nsIn K mainGlobals "_guesses" = some (some (.ref f__guesses)))
    (l__guesses : K.lookup f__guesses = some ⟨oc__guesses, od__guesses, .func (PySem.W.fnOf "_guesses" "_guesses" (defArgs s__guesses) (defBody s__guesses) (defScope s__guesses) .none kV__guesses dc__guesses pm__guesses an__guesses cd__guesses ct__guesses), sl__guesses⟩)
    (c__guesses : PySem.W.codeIn K cd__guesses "_guesses" = true)
    (kf__guesses : PySem.W.keepIn K (.ref f__guesses) = true)
    (g_guess_row : PySem.W.nsIn K mainGlobals "guess_row" = some (some (.ref f_guess_row)))
    (l_guess_row : K.lookup f_guess_row = some ⟨oc_guess_row, od_guess_row, .func (PySem.W.fnOf "guess_row" "guess_row" (defArgs s_guess_row) (defBody s_guess_row) (defScope s_guess_row) .none kV_guess_row dc_guess_row pm_guess_row an_guess_row cd_guess_row ct_guess_row), sl_guess_row⟩)
    (c_guess_row : PySem.W.codeIn K cd_guess_row "guess_row" = true)
    (kf_guess_row : PySem.W.keepIn K (.ref f_guess_row) = true)
    (g_string_map : PySem.W.nsIn K mainGlobals "string_map" = some (some (.ref f_string_map)))
    (l_string_map : K.lookup f_string_map = some ⟨oc_string_map, od_string_map, .func (PySem.W.fnOf "string_map" "string_map" (defArgs s_string_map) (defBody s_string_map) (defScope s_string_map) .none kV_string_map dc_string_map pm_string_map an_string_map cd_string_map ct_string_map), sl_string_map⟩)
    (c_string_map : PySem.W.codeIn K cd_string_map "string_map" = true)
    (kf_string_map : PySem.W.keepIn K (.ref f_string_map) = true)
    (g_back_list : PySem.W.nsIn K mainGlobals "back_list" = some (some (.ref f_back_list)))
    (l_back_list : K.lookup f_back_list = some ⟨oc_back_list, od_back_list, .func (PySem.W.fnOf "back_list" "back_list" (defArgs s_back_list) (defBody s_back_list) (defScope s_back_list) .none kV_back_list dc_back_list pm_back_list an_back_list cd_back_list ct_back_list), sl_back_list⟩)
    (c_back_list : PySem.W.codeIn K cd_back_list "back_list" = true)
    (kf_back_list : PySem.W.keepIn K (.ref f_back_list) = true)
    (g__law_hx_dice : PySem.W.nsIn K mainGlobals "_law_hx_dice" = some (some (.ref f__law_hx_dice)))
    (l__law_hx_dice : K.lookup f__law_hx_dice = some ⟨oc__law_hx_dice, od__law_hx_dice, .func (PySem.W.fnOf "_law_hx_dice" "_law_hx_dice" (defArgs s__law_hx_dice) (defBody s__law_hx_dice) (defScope s__law_hx_dice) .none kV__law_hx_dice dc__law_hx_dice pm__law_hx_dice an__law_hx_dice cd__law_hx_dice ct__law_hx_dice), sl__law_hx_dice⟩)
    (c__law_hx_dice : PySem.W.codeIn K cd__law_hx_dice "_law_hx_dice" = true)
    (kf__law_hx_dice : PySem.W.keepIn K (.ref f__law_hx_dice) = true)
    (g__law_hx_up : PySem.W.nsIn K mainGlobals "_law_hx_up" = some (some (.ref f__law_hx_up)))
    (l__law_hx_up : K.lookup f__law_hx_up = some ⟨oc__law_hx_up, od__law_hx_up, .func (PySem.W.fnOf "_law_hx_up" "_law_hx_up" (defArgs s__law_hx_up) (defBody s__law_hx_up) (defScope s__law_hx_up) .none kV__law_hx_up dc__law_hx_up pm__law_hx_up an__law_hx_up cd__law_hx_up ct__law_hx_up), sl__law_hx_up⟩)
    (c__law_hx_up : PySem.W.codeIn K cd__law_hx_up "_law_hx_up" = true)
    (kf__law_hx_up : PySem.W.keepIn K (.ref f__law_hx_up) = true)
    (g__law_hx_of : PySem.W.nsIn K mainGlobals "_law_hx_of" = some (some (.ref f__law_hx_of)))
    (l__law_hx_of : K.lookup f__law_hx_of = some ⟨oc__law_hx_of, od__law_hx_of, .func (PySem.W.fnOf "_law_hx_of" "_law_hx_of" (defArgs s__law_hx_of) (defBody s__law_hx_of) (defScope s__law_hx_of) .none kV__law_hx_of dc__law_hx_of pm__law_hx_of an__law_hx_of cd__law_hx_of ct__law_hx_of), sl__law_hx_of⟩)
    (c__law_hx_of : PySem.W.codeIn K cd__law_hx_of "_law_hx_of" = true)
    (kf__law_hx_of : PySem.W.keepIn K (.ref f__law_hx_of) = true)
    (g__law_hx_met : PySem.W.nsIn K mainGlobals "_law_hx_met" = some (some (.ref f__law_hx_met)))
    (l__law_hx_met : K.lookup f__law_hx_met = some ⟨oc__law_hx_met, od__law_hx_met, .func (PySem.W.fnOf "_law_hx_met" "_law_hx_met" (defArgs s__law_hx_met) (defBody s__law_hx_met) (defScope s__law_hx_met) .none kV__law_hx_met dc__law_hx_met pm__law_hx_met an__law_hx_met cd__law_hx_met ct__law_hx_met), sl__law_hx_met⟩)
    (c__law_hx_met : PySem.W.codeIn K cd__law_hx_met "_law_hx_met" = true)
    (kf__law_hx_met : PySem.W.keepIn K (.ref f__law_hx_met) = true)
    (g__law_right : PySem.W.nsIn K mainGlobals "_law_right" = some (some (.ref f__law_right)))
    (l__law_right : K.lookup f__law_right = some ⟨oc__law_right, od__law_right, .func (PySem.W.fnOf "_law_right" "_law_right" (defArgs s__law_right) (defBody s__law_right) (defScope s__law_right) .none kV__law_right dc__law_right pm__law_right an__law_right (.ref cc__law_right) ct__law_right), sl__law_right⟩)
    (c__law_right : PySem.W.codeIn K (.ref cc__law_right) "_law_right" = true)
    (kf__law_right : PySem.W.keepIn K (.ref f__law_right) = true)
    (t__law_right : PySem.W.tabIn K "_law_right" = some (cc__law_right, tabP K "_law_right"))
    (r__law_right : ((recsOf q).find? fun e => e.name == ("_law_right" : Str)).isSome = true)
    (p__law_right : K.lookup (tabP K "_law_right") = none)
    (g_law : PySem.W.nsIn K mainGlobals "law" = some (some (.ref f_law)))
    (l_law : K.lookup f_law = some ⟨oc_law, od_law, .func (PySem.W.fnOf "law" "law" (defArgs s_law) (defBody s_law) (defScope s_law) .none kV_law dc_law pm_law an_law (.ref cc_law) ct_law), sl_law⟩)
    (c_law : PySem.W.codeIn K (.ref cc_law) "law" = true)
    (kf_law : PySem.W.keepIn K (.ref f_law) = true)
    (t_law : PySem.W.tabIn K "law" = some (cc_law, tabP K "law"))
    (r_law : ((recsOf q).find? fun e => e.name == ("law" : Str)).isSome = true)
    (p_law : K.lookup (tabP K "law") = none)
    (z_isinstance : PySem.W.nsIn K mainGlobals "isinstance" = some none)
    (z_int : PySem.W.nsIn K mainGlobals "int" = some none)
    (z_bool : PySem.W.nsIn K mainGlobals "bool" = some none)
    (z_abs : PySem.W.nsIn K mainGlobals "abs" = some none)
    (z_tuple : PySem.W.nsIn K mainGlobals "tuple" = some none)
    (z_len : PySem.W.nsIn K mainGlobals "len" = some none)
    (z_all : PySem.W.nsIn K mainGlobals "all" = some none)
    (z_set : PySem.W.nsIn K mainGlobals "set" = some none)
    (z_range : PySem.W.nsIn K mainGlobals "range" = some none)
    (z_enumerate : PySem.W.nsIn K mainGlobals "enumerate" = some none)
    (z_sum : PySem.W.nsIn K mainGlobals "sum" = some none)
    (z_zip : PySem.W.nsIn K mainGlobals "zip" = some none)
    (z_sorted : PySem.W.nsIn K mainGlobals "sorted" = some none)
    (z_repr : PySem.W.nsIn K mainGlobals "repr" = some none)
    (z_min : PySem.W.nsIn K mainGlobals "min" = some none)
    (z_max : PySem.W.nsIn K mainGlobals "max" = some none)
    (cn_LONGEST : PySem.W.nsIn K mainGlobals "LONGEST" = some (some (.int 999999999 tk_LONGEST)))
    (cn__MOST_SEED : PySem.W.nsIn K mainGlobals "_MOST_SEED" = some (some (.int 6 tk__MOST_SEED)))
    (cn__MOST_TOLD : PySem.W.nsIn K mainGlobals "_MOST_TOLD" = some (some (.int 8 tk__MOST_TOLD)))
    (cn__MOST_HALF_SEED : PySem.W.nsIn K mainGlobals "_MOST_HALF_SEED" = some (some (.int 3 tk__MOST_HALF_SEED)))
    (i_gcd : PySem.W.nsIn K mainGlobals "gcd" = some (some (.builtin "math.gcd")))
    (one : oneB [(tabP K "is_word", none), (tabP K "is_signs", none), (tabP K "is_indices", none), (tabP K "_need_map", none), (tabP K "_law_right", some (("_law_right" : Str) ++ ".<locals>." ++ "<lambda>")), (tabP K "law", some (("law" : Str) ++ ".<locals>." ++ "<lambda>"))] = true) :
    LawAtG l w K 19 63 "script" mg fa h := by
  have e := hfa.symm.trans (PySem.W.mg_of X G g_law)
  cases e
  have F_is_integer := fun_mk (st := s_is_integer) l_is_integer c_is_integer kf_is_integer
  have F_is_short := fun_mk (st := s_is_short) l_is_short c_is_short kf_is_short
  have F_is_between := fun_mk (st := s_is_between) l_is_between c_is_between kf_is_between
  have F_is_index := fun_mk (st := s_is_index) l_is_index c_is_index kf_is_index
  have F_is_bit := fun_mk (st := s_is_bit) l_is_bit c_is_bit kf_is_bit
  have F_is_sign := fun_mk (st := s_is_sign) l_is_sign c_is_sign kf_is_sign
  have F_is_tuple_of := fun_mk (st := s_is_tuple_of) l_is_tuple_of c_is_tuple_of kf_is_tuple_of
  have F_is_answer := fun_mk (st := s_is_answer) l_is_answer c_is_answer kf_is_answer
  have F_is_word := funC_mk (st := s_is_word) l_is_word c_is_word kf_is_word
  have F_is_signs := funC_mk (st := s_is_signs) l_is_signs c_is_signs kf_is_signs
  have F_is_indices := funC_mk (st := s_is_indices) l_is_indices c_is_indices kf_is_indices
  have F_is_places := fun_mk (st := s_is_places) l_is_places c_is_places kf_is_places
  have F_is_lowest_pair := fun_mk (st := s_is_lowest_pair) l_is_lowest_pair c_is_lowest_pair kf_is_lowest_pair
  have F_is_fraction_between := fun_mk (st := s_is_fraction_between) l_is_fraction_between c_is_fraction_between kf_is_fraction_between
  have F_is_share := fun_mk (st := s_is_share) l_is_share c_is_share kf_is_share
  have F_is_short_fraction := fun_mk (st := s_is_short_fraction) l_is_short_fraction c_is_short_fraction kf_is_short_fraction
  have F_need_number := fun_mk (st := s_need_number) l_need_number c_need_number kf_need_number
  have F_need_fraction := fun_mk (st := s_need_fraction) l_need_fraction c_need_fraction kf_need_fraction
  have F_need_fraction_between := fun_mk (st := s_need_fraction_between) l_need_fraction_between c_need_fraction_between kf_need_fraction_between
  have F_need_share := fun_mk (st := s_need_share) l_need_share c_need_share kf_need_share
  have F_need_word := fun_mk (st := s_need_word) l_need_word c_need_word kf_need_word
  have F_need_table := fun_mk (st := s_need_table) l_need_table c_need_table kf_need_table
  have F_spelled := fun_mk (st := s_spelled) l_spelled c_spelled kf_spelled
  have F_number_of := fun_mk (st := s_number_of) l_number_of c_number_of kf_number_of
  have F_bit_of := fun_mk (st := s_bit_of) l_bit_of c_bit_of kf_bit_of
  have F_parity := fun_mk (st := s_parity) l_parity c_parity kf_parity
  have F_log_of := fun_mk (st := s_log_of) l_log_of c_log_of kf_log_of
  have F_reduced := fun_mk (st := s_reduced) l_reduced c_reduced kf_reduced
  have F_minus := fun_mk (st := s_minus) l_minus c_minus kf_minus
  have F_ordered := fun_mk (st := s_ordered) l_ordered c_ordered kf_ordered
  have F_amount := fun_mk (st := s_amount) l_amount c_amount kf_amount
  have F__log_within := fun_mk (st := s__log_within) l__log_within c__log_within kf__log_within
  have F__need_map := funC_mk (st := s__need_map) l__need_map c__need_map kf__need_map
  have F__need_map_and_told := fun_mk (st := s__need_map_and_told) l__need_map_and_told c__need_map_and_told kf__need_map_and_told
  have F__led := fun_mk (st := s__led) l__led c__led kf__led
  have F_led_on := fun_mk (st := s_led_on) l_led_on c_led_on kf_led_on
  have F__excess_over := fun_mk (st := s__excess_over) l__excess_over c__excess_over kf__excess_over
  have F_map_excess := fun_mk (st := s_map_excess) l_map_excess c_map_excess kf_map_excess
  have F__long_excess := fun_mk (st := s__long_excess) l__long_excess c__long_excess kf__long_excess
  have F_long_excess := fun_mk (st := s_long_excess) l_long_excess c_long_excess kf_long_excess
  have F__step_test := fun_mk (st := s__step_test) l__step_test c__step_test kf__step_test
  have F__is_first := fun_mk (st := s__is_first) l__is_first c__is_first kf__is_first
  have F_step_test := fun_mk (st := s_step_test) l_step_test c_step_test kf_step_test
  have F__is_step := fun_mk (st := s__is_step) l__is_step c__is_step kf__is_step
  have F__need_all_for_answer := fun_mk (st := s__need_all_for_answer) l__need_all_for_answer c__need_all_for_answer kf__need_all_for_answer
  have F__is_little := fun_mk (st := s__is_little) l__is_little c__is_little kf__is_little
  have F__first_step := fun_mk (st := s__first_step) l__first_step c__first_step kf__first_step
  have F_long_answer := fun_mk (st := s_long_answer) l_long_answer c_long_answer kf_long_answer
  have F_is_long_answer := fun_mk (st := s_is_long_answer) l_is_long_answer c_is_long_answer kf_is_long_answer
  have F__need_turn := fun_mk (st := s__need_turn) l__need_turn c__need_turn kf__need_turn
  have F_bit_map := fun_mk (st := s_bit_map) l_bit_map c_bit_map kf_bit_map
  have F__guesses := fun_mk (st := s__guesses) l__guesses c__guesses kf__guesses
  have F_guess_row := fun_mk (st := s_guess_row) l_guess_row c_guess_row kf_guess_row
  have F_string_map := fun_mk (st := s_string_map) l_string_map c_string_map kf_string_map
  have F_back_list := fun_mk (st := s_back_list) l_back_list c_back_list kf_back_list
  have F__law_hx_dice := fun_mk (st := s__law_hx_dice) l__law_hx_dice c__law_hx_dice kf__law_hx_dice
  have F__law_hx_up := fun_mk (st := s__law_hx_up) l__law_hx_up c__law_hx_up kf__law_hx_up
  have F__law_hx_of := fun_mk (st := s__law_hx_of) l__law_hx_of c__law_hx_of kf__law_hx_of
  have F__law_hx_met := fun_mk (st := s__law_hx_met) l__law_hx_met c__law_hx_met kf__law_hx_met
  have F__law_right := funC_mk (st := s__law_right) l__law_right c__law_right kf__law_right
  have F_law := funC_mk (st := s_law) l_law c_law kf_law
  refine ⟨PySem.W.fnOf "law" "law" (defArgs s_law) (defBody s_law) (defScope s_law) .none kV_law dc_law pm_law an_law (.ref cc_law) ct_law, [(cc_is_word, tabP K "is_word"), (cc_is_signs, tabP K "is_signs"), (cc_is_indices, tabP K "is_indices"), (cc__need_map, tabP K "_need_map"), (cc__law_right, tabP K "_law_right"), (cc_law, tabP K "law")], spOf K [(tabP K "is_word", none), (tabP K "is_signs", none), (tabP K "is_indices", none), (tabP K "_need_map", none), (tabP K "_law_right", some (("_law_right" : Str) ++ ".<locals>." ++ "<lambda>")), (tabP K "law", some (("law" : Str) ++ ".<locals>." ++ "<lambda>"))] SD_law,
    (allC ((tabs _ _ _ r_is_word t_is_word).2) (allC ((tabs _ _ _ r_is_signs t_is_signs).2) (allC ((tabs _ _ _ r_is_indices t_is_indices).2) (allC ((tabs _ _ _ r__need_map t__need_map).2) (allC ((tabs _ _ _ r__law_right t__law_right).2) (allC ((tabs _ _ _ r_law t_law).2) (allN))))))),
    (allC (p_is_word) (allC (p_is_signs) (allC (p_is_indices) (allC (p__need_map) (allC (p__law_right) (allC (p_law) (allN))))))),
    (allC ((tabs _ _ _ r_is_word t_is_word).1) (allC ((tabs _ _ _ r_is_signs t_is_signs).1) (allC ((tabs _ _ _ r_is_indices t_is_indices).1) (allC ((tabs _ _ _ r__need_map t__need_map).1) (allC ((tabs _ _ _ r__law_right t__law_right).1) (allC ((tabs _ _ _ r_law t_law).1) (allN))))))),
    fun s v => .of_eq rfl, fun H a ns hn _ hT hS => law_sp (oneB_ok one) (allC (hT _ (List.mem_cons_self)) (allC (hT _ (List.mem_cons_of_mem _ (List.mem_cons_self))) (allC (hT _ (List.mem_cons_of_mem _ (List.mem_cons_of_mem _ (List.mem_cons_self)))) (allC (hT _ (List.mem_cons_of_mem _ (List.mem_cons_of_mem _ (List.mem_cons_of_mem _ (List.mem_cons_self))))) (allC (hT _ (List.mem_cons_of_mem _ (List.mem_cons_of_mem _ (List.mem_cons_of_mem _ (List.mem_cons_of_mem _ (List.mem_cons_self)))))) (allC (hT _ (List.mem_cons_of_mem _ (List.mem_cons_of_mem _ (List.mem_cons_of_mem _ (List.mem_cons_of_mem _ (List.mem_cons_of_mem _ (List.mem_cons_self))))))) (allN))))))) hS ⟨_, rfl, by rw [intsD_map]; rfl, by rw [List.length_map]; exact hn, rfl⟩, fun base _ _ TB => ?_⟩
  have B_is_word := tabB_of (TB _ (List.mem_cons_self))
  have B_is_signs := tabB_of (TB _ (List.mem_cons_of_mem _ (List.mem_cons_self)))
  have B_is_indices := tabB_of (TB _ (List.mem_cons_of_mem _ (List.mem_cons_of_mem _ (List.mem_cons_self))))
  have B__need_map := tabB_of (TB _ (List.mem_cons_of_mem _ (List.mem_cons_of_mem _ (List.mem_cons_of_mem _ (List.mem_cons_self)))))
  have B__law_right := TB _ (List.mem_cons_of_mem _ (List.mem_cons_of_mem _ (List.mem_cons_of_mem _ (List.mem_cons_of_mem _ (List.mem_cons_self)))))
  have B_law := TB _ (List.mem_cons_of_mem _ (List.mem_cons_of_mem _ (List.mem_cons_of_mem _ (List.mem_cons_of_mem _ (List.mem_cons_of_mem _ (List.mem_cons_self))))))
  have b_is_integer := F_is_integer.binds (ps := ["value"]) fun _ _ _ _ _ _ us hl => match us, hl with | [_], _ => rfl
  have m_is_integer := PySem.W.mg_of X G g_is_integer
  have b_is_short := F_is_short.binds (ps := ["value"]) fun _ _ _ _ _ _ us hl => match us, hl with | [_], _ => rfl
  have m_is_short := PySem.W.mg_of X G g_is_short
  have b_is_between := F_is_between.binds (ps := ["value", "low", "high"]) fun _ _ _ _ _ _ us hl => match us, hl with | [_, _, _], _ => rfl
  have m_is_between := PySem.W.mg_of X G g_is_between
  have b_is_index := F_is_index.binds (ps := ["value", "limit"]) fun _ _ _ _ _ _ us hl => match us, hl with | [_, _], _ => rfl
  have m_is_index := PySem.W.mg_of X G g_is_index
  have b_is_bit := F_is_bit.binds (ps := ["value"]) fun _ _ _ _ _ _ us hl => match us, hl with | [_], _ => rfl
  have m_is_bit := PySem.W.mg_of X G g_is_bit
  have b_is_sign := F_is_sign.binds (ps := ["value"]) fun _ _ _ _ _ _ us hl => match us, hl with | [_], _ => rfl
  have m_is_sign := PySem.W.mg_of X G g_is_sign
  have b_is_tuple_of := F_is_tuple_of.binds (ps := ["value", "length"]) fun _ _ _ _ _ _ us hl => match us, hl with | [_, _], _ => rfl
  have m_is_tuple_of := PySem.W.mg_of X G g_is_tuple_of
  have b_is_answer := F_is_answer.binds (ps := ["value", "word", "length"]) fun _ _ _ _ _ _ us hl => match us, hl with | [_, _, _], _ => rfl
  have m_is_answer := PySem.W.mg_of X G g_is_answer
  have b_is_word : Binds K (PySem.W.fnOf "is_word" "is_word" (defArgs s_is_word) (defBody s_is_word) (defScope s_is_word) .none kV_is_word dc_is_word pm_is_word an_is_word (.ref cc_is_word) ct_is_word) ["value", "length"] [] := .all fun us hl => match us, hl with | [_, _], _ => rfl
  have m_is_word := PySem.W.mg_of X G g_is_word
  have b_is_signs : Binds K (PySem.W.fnOf "is_signs" "is_signs" (defArgs s_is_signs) (defBody s_is_signs) (defScope s_is_signs) .none kV_is_signs dc_is_signs pm_is_signs an_is_signs (.ref cc_is_signs) ct_is_signs) ["value", "length"] [] := .all fun us hl => match us, hl with | [_, _], _ => rfl
  have m_is_signs := PySem.W.mg_of X G g_is_signs
  have b_is_indices : Binds K (PySem.W.fnOf "is_indices" "is_indices" (defArgs s_is_indices) (defBody s_is_indices) (defScope s_is_indices) .none kV_is_indices dc_is_indices pm_is_indices an_is_indices (.ref cc_is_indices) ct_is_indices) ["value", "limit"] [] := .all fun us hl => match us, hl with | [_, _], _ => rfl
  have m_is_indices := PySem.W.mg_of X G g_is_indices
  have b_is_places := F_is_places.binds (ps := ["value", "length", "limit"]) fun _ _ _ _ _ _ us hl => match us, hl with | [_, _, _], _ => rfl
  have m_is_places := PySem.W.mg_of X G g_is_places
  have b_is_lowest_pair := F_is_lowest_pair.binds (ps := ["value"]) fun _ _ _ _ _ _ us hl => match us, hl with | [_], _ => rfl
  have m_is_lowest_pair := PySem.W.mg_of X G g_is_lowest_pair
  have b_is_fraction_between := F_is_fraction_between.binds (ps := ["value", "low", "high"]) fun _ _ _ _ _ _ us hl => match us, hl with | [_, _, _], _ => rfl
  have m_is_fraction_between := PySem.W.mg_of X G g_is_fraction_between
  have b_is_share := F_is_share.binds (ps := ["value"]) fun _ _ _ _ _ _ us hl => match us, hl with | [_], _ => rfl
  have m_is_share := PySem.W.mg_of X G g_is_share
  have b_is_short_fraction := F_is_short_fraction.binds (ps := ["value"]) fun _ _ _ _ _ _ us hl => match us, hl with | [_], _ => rfl
  have m_is_short_fraction := PySem.W.mg_of X G g_is_short_fraction
  have b_need_number := F_need_number.binds (ps := ["value", "low", "high"]) fun _ _ _ _ _ _ us hl => match us, hl with | [_, _, _], _ => rfl
  have m_need_number := PySem.W.mg_of X G g_need_number
  have b_need_fraction := F_need_fraction.binds (ps := ["value"]) fun _ _ _ _ _ _ us hl => match us, hl with | [_], _ => rfl
  have m_need_fraction := PySem.W.mg_of X G g_need_fraction
  have b_need_fraction_between := F_need_fraction_between.binds (ps := ["value", "low", "high"]) fun _ _ _ _ _ _ us hl => match us, hl with | [_, _, _], _ => rfl
  have m_need_fraction_between := PySem.W.mg_of X G g_need_fraction_between
  have b_need_share := F_need_share.binds (ps := ["value"]) fun _ _ _ _ _ _ us hl => match us, hl with | [_], _ => rfl
  have m_need_share := PySem.W.mg_of X G g_need_share
  have b_need_word := F_need_word.binds (ps := ["value", "length"]) fun _ _ _ _ _ _ us hl => match us, hl with | [_, _], _ => rfl
  have m_need_word := PySem.W.mg_of X G g_need_word
  have b_need_table := F_need_table.binds (ps := ["value", "bits"]) fun _ _ _ _ _ _ us hl => match us, hl with | [_, _], _ => rfl
  have m_need_table := PySem.W.mg_of X G g_need_table
  have b_spelled := F_spelled.binds (ps := ["number", "length"]) fun _ _ _ _ _ _ us hl => match us, hl with | [_, _], _ => rfl
  have m_spelled := PySem.W.mg_of X G g_spelled
  have b_number_of := F_number_of.binds (ps := ["word"]) fun _ _ _ _ _ _ us hl => match us, hl with | [_], _ => rfl
  have m_number_of := PySem.W.mg_of X G g_number_of
  have b_bit_of := F_bit_of.binds (ps := ["sign"]) fun _ _ _ _ _ _ us hl => match us, hl with | [_], _ => rfl
  have m_bit_of := PySem.W.mg_of X G g_bit_of
  have b_parity := F_parity.binds (ps := ["number"]) fun _ _ _ _ _ _ us hl => match us, hl with | [_], _ => rfl
  have m_parity := PySem.W.mg_of X G g_parity
  have b_log_of := F_log_of.binds (ps := ["count"]) fun _ _ _ _ _ _ us hl => match us, hl with | [_], _ => rfl
  have m_log_of := PySem.W.mg_of X G g_log_of
  have b_reduced := F_reduced.binds (ps := ["top", "bottom"]) fun _ _ _ _ _ _ us hl => match us, hl with | [_, _], _ => rfl
  have m_reduced := PySem.W.mg_of X G g_reduced
  have b_minus := F_minus.binds (ps := ["one", "other"]) fun _ _ _ _ _ _ us hl => match us, hl with | [_, _], _ => rfl
  have m_minus := PySem.W.mg_of X G g_minus
  have b_ordered := F_ordered.binds (ps := ["one", "other"]) fun _ _ _ _ _ _ us hl => match us, hl with | [_, _], _ => rfl
  have m_ordered := PySem.W.mg_of X G g_ordered
  have b_amount := F_amount.binds (ps := ["number"]) fun _ _ _ _ _ _ us hl => match us, hl with | [_], _ => rfl
  have m_amount := PySem.W.mg_of X G g_amount
  have b__log_within := F__log_within.binds (ps := ["value", "most"]) fun _ _ _ _ _ _ us hl => match us, hl with | [_, _], _ => rfl
  have m__log_within := PySem.W.mg_of X G g__log_within
  have b__need_map : Binds K (PySem.W.fnOf "_need_map" "_need_map" (defArgs s__need_map) (defBody s__need_map) (defScope s__need_map) .none kV__need_map dc__need_map pm__need_map an__need_map (.ref cc__need_map) ct__need_map) ["table"] [] := .all fun us hl => match us, hl with | [_], _ => rfl
  have m__need_map := PySem.W.mg_of X G g__need_map
  have b__need_map_and_told := F__need_map_and_told.binds (ps := ["table", "k"]) fun _ _ _ _ _ _ us hl => match us, hl with | [_, _], _ => rfl
  have m__need_map_and_told := PySem.W.mg_of X G g__need_map_and_told
  have b__led := F__led.binds (ps := ["table", "seed", "count"]) fun _ _ _ _ _ _ us hl => match us, hl with | [_, _, _], _ => rfl
  have m__led := PySem.W.mg_of X G g__led
  have b_led_on := F_led_on.binds (ps := ["table", "seed", "k"]) fun _ _ _ _ _ _ us hl => match us, hl with | [_, _, _], _ => rfl
  have m_led_on := PySem.W.mg_of X G g_led_on
  have b__excess_over := F__excess_over.binds (ps := ["words", "test"]) fun _ _ _ _ _ _ us hl => match us, hl with | [_, _], _ => rfl
  have m__excess_over := PySem.W.mg_of X G g__excess_over
  have b_map_excess := F_map_excess.binds (ps := ["table", "test"]) fun _ _ _ _ _ _ us hl => match us, hl with | [_, _], _ => rfl
  have m_map_excess := PySem.W.mg_of X G g_map_excess
  have b__long_excess := F__long_excess.binds (ps := ["table", "k", "test"]) fun _ _ _ _ _ _ us hl => match us, hl with | [_, _, _], _ => rfl
  have m__long_excess := PySem.W.mg_of X G g__long_excess
  have b_long_excess := F_long_excess.binds (ps := ["table", "k", "test"]) fun _ _ _ _ _ _ us hl => match us, hl with | [_, _, _], _ => rfl
  have m_long_excess := PySem.W.mg_of X G g_long_excess
  have b__step_test := F__step_test.binds (ps := ["table", "k", "test", "first"]) fun _ _ _ _ _ _ us hl => match us, hl with | [_, _, _, _], _ => rfl
  have m__step_test := PySem.W.mg_of X G g__step_test
  have b__is_first := F__is_first.binds (ps := ["value", "k"]) fun _ _ _ _ _ _ us hl => match us, hl with | [_, _], _ => rfl
  have m__is_first := PySem.W.mg_of X G g__is_first
  have b_step_test := F_step_test.binds (ps := ["table", "k", "test", "first"]) fun _ _ _ _ _ _ us hl => match us, hl with | [_, _, _, _], _ => rfl
  have m_step_test := PySem.W.mg_of X G g_step_test
  have b__is_step := F__is_step.binds (ps := ["table", "k", "test", "e", "first"]) fun _ _ _ _ _ _ us hl => match us, hl with | [_, _, _, _, _], _ => rfl
  have m__is_step := PySem.W.mg_of X G g__is_step
  have b__need_all_for_answer := F__need_all_for_answer.binds (ps := ["table", "k", "test", "e"]) fun _ _ _ _ _ _ us hl => match us, hl with | [_, _, _, _], _ => rfl
  have m__need_all_for_answer := PySem.W.mg_of X G g__need_all_for_answer
  have b__is_little := F__is_little.binds (ps := ["number", "k", "e"]) fun _ _ _ _ _ _ us hl => match us, hl with | [_, _, _], _ => rfl
  have m__is_little := PySem.W.mg_of X G g__is_little
  have b__first_step := F__first_step.binds (ps := ["table", "k", "test", "e"]) fun _ _ _ _ _ _ us hl => match us, hl with | [_, _, _, _], _ => rfl
  have m__first_step := PySem.W.mg_of X G g__first_step
  have b_long_answer := F_long_answer.binds (ps := ["table", "k", "test", "e"]) fun _ _ _ _ _ _ us hl => match us, hl with | [_, _, _, _], _ => rfl
  have m_long_answer := PySem.W.mg_of X G g_long_answer
  have b_is_long_answer := F_is_long_answer.binds (ps := ["table", "k", "test", "e", "value"]) fun _ _ _ _ _ _ us hl => match us, hl with | [_, _, _, _, _], _ => rfl
  have m_is_long_answer := PySem.W.mg_of X G g_is_long_answer
  have b__need_turn := F__need_turn.binds (ps := ["turn", "most"]) fun _ _ _ _ _ _ us hl => match us, hl with | [_, _], _ => rfl
  have m__need_turn := PySem.W.mg_of X G g__need_turn
  have b_bit_map := F_bit_map.binds (ps := ["turn", "truth"]) fun _ _ _ _ _ _ us hl => match us, hl with | [_, _], _ => rfl
  have m_bit_map := PySem.W.mg_of X G g_bit_map
  have b__guesses := F__guesses.binds (ps := ["test"]) fun _ _ _ _ _ _ us hl => match us, hl with | [_], _ => rfl
  have m__guesses := PySem.W.mg_of X G g__guesses
  have b_guess_row := F_guess_row.binds (ps := ["test"]) fun _ _ _ _ _ _ us hl => match us, hl with | [_], _ => rfl
  have m_guess_row := PySem.W.mg_of X G g_guess_row
  have b_string_map := F_string_map.binds (ps := ["turn"]) fun _ _ _ _ _ _ us hl => match us, hl with | [_], _ => rfl
  have m_string_map := PySem.W.mg_of X G g_string_map
  have b_back_list := F_back_list.binds (ps := ["turn", "test", "e"]) fun _ _ _ _ _ _ us hl => match us, hl with | [_, _, _], _ => rfl
  have m_back_list := PySem.W.mg_of X G g_back_list
  have b__law_hx_dice := F__law_hx_dice.binds (ps := ["script", "spot"]) fun _ _ _ _ _ _ us hl => match us, hl with | [_, _], _ => rfl
  have m__law_hx_dice := PySem.W.mg_of X G g__law_hx_dice
  have b__law_hx_up := F__law_hx_up.binds (ps := ["dice", "total"]) fun _ _ _ _ _ _ us hl => match us, hl with | [_, _], _ => rfl
  have m__law_hx_up := PySem.W.mg_of X G g__law_hx_up
  have b__law_hx_of := F__law_hx_of.binds (ps := ["dice", "items"]) fun _ _ _ _ _ _ us hl => match us, hl with | [_, _], _ => rfl
  have m__law_hx_of := PySem.W.mg_of X G g__law_hx_of
  have b__law_hx_met := F__law_hx_met.binds (ps := ["call"]) fun _ _ _ _ _ _ us hl => match us, hl with | [_], _ => rfl
  have m__law_hx_met := PySem.W.mg_of X G g__law_hx_met
  have b__law_right : Binds K (PySem.W.fnOf "_law_right" "_law_right" (defArgs s__law_right) (defBody s__law_right) (defScope s__law_right) .none kV__law_right dc__law_right pm__law_right an__law_right (.ref cc__law_right) ct__law_right) ["dice"] [] := .all fun us hl => match us, hl with | [_], _ => rfl
  have m__law_right := PySem.W.mg_of X G g__law_right
  have y_isinstance := PySem.W.mg_none_of X G z_isinstance
  have y_int := PySem.W.mg_none_of X G z_int
  have y_bool := PySem.W.mg_none_of X G z_bool
  have y_abs := PySem.W.mg_none_of X G z_abs
  have y_tuple := PySem.W.mg_none_of X G z_tuple
  have y_len := PySem.W.mg_none_of X G z_len
  have y_all := PySem.W.mg_none_of X G z_all
  have y_set := PySem.W.mg_none_of X G z_set
  have y_range := PySem.W.mg_none_of X G z_range
  have y_enumerate := PySem.W.mg_none_of X G z_enumerate
  have y_sum := PySem.W.mg_none_of X G z_sum
  have y_zip := PySem.W.mg_none_of X G z_zip
  have y_sorted := PySem.W.mg_none_of X G z_sorted
  have y_repr := PySem.W.mg_none_of X G z_repr
  have y_min := PySem.W.mg_none_of X G z_min
  have y_max := PySem.W.mg_none_of X G z_max
  have y_LONGEST := PySem.W.mg_of X G cn_LONGEST
  have y__MOST_SEED := PySem.W.mg_of X G cn__MOST_SEED
  have y__MOST_TOLD := PySem.W.mg_of X G cn__MOST_TOLD
  have y__MOST_HALF_SEED := PySem.W.mg_of X G cn__MOST_HALF_SEED
  have y_gcd := PySem.W.mg_of X G i_gcd
  have E_InvalidFraction : ClsP K mg "InvalidFraction" a_InvalidFraction := ⟨PySem.W.mg_of X G gc_InvalidFraction, gc_InvalidFraction, kc_InvalidFraction, qc_InvalidFraction, ec_InvalidFraction, tc_InvalidFraction⟩
  have E_InvalidWord : ClsP K mg "InvalidWord" a_InvalidWord := ⟨PySem.W.mg_of X G gc_InvalidWord, gc_InvalidWord, kc_InvalidWord, qc_InvalidWord, ec_InvalidWord, tc_InvalidWord⟩
  have E_InvalidMaps : ClsP K mg "InvalidMaps" a_InvalidMaps := ⟨PySem.W.mg_of X G gc_InvalidMaps, gc_InvalidMaps, kc_InvalidMaps, qc_InvalidMaps, ec_InvalidMaps, tc_InvalidMaps⟩
  have E_InvalidTruth : ClsP K mg "InvalidTruth" a_InvalidTruth := ⟨PySem.W.mg_of X G gc_InvalidTruth, gc_InvalidTruth, kc_InvalidTruth, qc_InvalidTruth, ec_InvalidTruth, tc_InvalidTruth⟩
  have HC : HardC K mg aH := ⟨PySem.W.mg_of X G gH, hs, hr, hf⟩
  have FI_InvalidNumber := fun_mk (st := sI_InvalidNumber) li_InvalidNumber ci_InvalidNumber ki_InvalidNumber
  have bI_InvalidNumber := FI_InvalidNumber.binds (ps := ["self", "given"]) fun _ _ _ _ _ _ us hl => match us, hl with | [_, _], _ => rfl
  have O_InvalidNumber : OexC K a_InvalidNumber := ⟨⟨_, _, _, _, _, _, _, _, _, _, _, _, _, _, _, xc_InvalidNumber, by rfl⟩, sa_InvalidNumber, ec_InvalidNumber, tc_InvalidNumber, kc_InvalidNumber⟩
  have E_InvalidNumber : ClsI l.prog w K mg base "InvalidNumber" a_InvalidNumber "given" := ⟨PySem.W.mg_of X G gc_InvalidNumber, gc_InvalidNumber, O_InvalidNumber, _, _, ic_InvalidNumber, ti_InvalidNumber, ok_ini_InvalidNumber FI_InvalidNumber HC O_InvalidNumber nc_InvalidNumber, bI_InvalidNumber⟩
  have mc_InvalidNumber := mg_caK gc_InvalidNumber (PySem.W.mg_of X G gc_InvalidNumber)
  have mc_TooMany := mg_caK gc_TooMany (PySem.W.mg_of X G gc_TooMany)
  have mc_InvalidRow := mg_caK gc_InvalidRow (PySem.W.mg_of X G gc_InvalidRow)
  have mc_InvalidTruth := mg_caK gc_InvalidTruth (PySem.W.mg_of X G gc_InvalidTruth)
  have mc_InvalidWord := mg_caK gc_InvalidWord (PySem.W.mg_of X G gc_InvalidWord)
  have mc_InvalidFraction := mg_caK gc_InvalidFraction (PySem.W.mg_of X G gc_InvalidFraction)
  have mc_InvalidMeasure := mg_caK gc_InvalidMeasure (PySem.W.mg_of X G gc_InvalidMeasure)
  have mc_InvalidMaps := mg_caK gc_InvalidMaps (PySem.W.mg_of X G gc_InvalidMaps)
  have mc_InvalidDraw := mg_caK gc_InvalidDraw (PySem.W.mg_of X G gc_InvalidDraw)
  have mc_InvalidFamily := mg_caK gc_InvalidFamily (PySem.W.mg_of X G gc_InvalidFamily)
  have mc_InvalidMix := mg_caK gc_InvalidMix (PySem.W.mg_of X G gc_InvalidMix)
  have mc_InvalidOperation := mg_caK gc_InvalidOperation (PySem.W.mg_of X G gc_InvalidOperation)
  have MG__law_hx_met := fun cdg : Value => met__law_hx_met (P := l.prog) (w := w) (mg := mg) (base := base) (g := f__law_hx_met) hx__law_hx_met mc_InvalidNumber (xfB_ok xf_InvalidNumber) nf_InvalidNumber mc_TooMany (xfB_ok xf_TooMany) nf_TooMany mc_InvalidRow mc_InvalidTruth mc_InvalidWord mc_InvalidFraction mc_InvalidMeasure mc_InvalidMaps mc_InvalidDraw mc_InvalidFamily mc_InvalidMix mc_InvalidOperation y_repr cdg
  have G_is_integer := ok_is_integer (P := l.prog) (w := w) (mg := mg) (base := base) (Ps := [(tabP K "is_word", none), (tabP K "is_signs", none), (tabP K "is_indices", none), (tabP K "_need_map", none), (tabP K "_law_right", some (("_law_right" : Str) ++ ".<locals>." ++ "<lambda>")), (tabP K "law", some (("law" : Str) ++ ".<locals>." ++ "<lambda>"))]) (k := 0) F_is_integer y_isinstance y_int y_bool
  have G_is_short := ok_is_short (P := l.prog) (w := w) (mg := mg) (base := base) (Ps := [(tabP K "is_word", none), (tabP K "is_signs", none), (tabP K "is_indices", none), (tabP K "_need_map", none), (tabP K "_law_right", some (("_law_right" : Str) ++ ".<locals>." ++ "<lambda>")), (tabP K "law", some (("law" : Str) ++ ".<locals>." ++ "<lambda>"))]) (k := 1) F_is_short y_LONGEST (by decide) G_is_integer m_is_integer kf_is_integer b_is_integer
  have G_is_between := ok_is_between (P := l.prog) (w := w) (mg := mg) (base := base) (Ps := [(tabP K "is_word", none), (tabP K "is_signs", none), (tabP K "is_indices", none), (tabP K "_need_map", none), (tabP K "_law_right", some (("_law_right" : Str) ++ ".<locals>." ++ "<lambda>")), (tabP K "law", some (("law" : Str) ++ ".<locals>." ++ "<lambda>"))]) (k := 1) F_is_between (by decide) G_is_integer m_is_integer kf_is_integer b_is_integer
  have G_is_index := ok_is_index (P := l.prog) (w := w) (mg := mg) (base := base) (Ps := [(tabP K "is_word", none), (tabP K "is_signs", none), (tabP K "is_indices", none), (tabP K "_need_map", none), (tabP K "_law_right", some (("_law_right" : Str) ++ ".<locals>." ++ "<lambda>")), (tabP K "law", some (("law" : Str) ++ ".<locals>." ++ "<lambda>"))]) (k := 2) F_is_index (by decide) G_is_between m_is_between kf_is_between b_is_between
  have G_is_bit := ok_is_bit (P := l.prog) (w := w) (mg := mg) (base := base) (Ps := [(tabP K "is_word", none), (tabP K "is_signs", none), (tabP K "is_indices", none), (tabP K "_need_map", none), (tabP K "_law_right", some (("_law_right" : Str) ++ ".<locals>." ++ "<lambda>")), (tabP K "law", some (("law" : Str) ++ ".<locals>." ++ "<lambda>"))]) (k := 2) F_is_bit (by decide) G_is_between m_is_between kf_is_between b_is_between
  have G_is_sign := ok_is_sign (P := l.prog) (w := w) (mg := mg) (base := base) (Ps := [(tabP K "is_word", none), (tabP K "is_signs", none), (tabP K "is_indices", none), (tabP K "_need_map", none), (tabP K "_law_right", some (("_law_right" : Str) ++ ".<locals>." ++ "<lambda>")), (tabP K "law", some (("law" : Str) ++ ".<locals>." ++ "<lambda>"))]) (k := 1) F_is_sign y_abs (by decide) G_is_integer m_is_integer kf_is_integer b_is_integer
  have G_is_tuple_of := ok_is_tuple_of (P := l.prog) (w := w) (mg := mg) (base := base) (Ps := [(tabP K "is_word", none), (tabP K "is_signs", none), (tabP K "is_indices", none), (tabP K "_need_map", none), (tabP K "_law_right", some (("_law_right" : Str) ++ ".<locals>." ++ "<lambda>")), (tabP K "law", some (("law" : Str) ++ ".<locals>." ++ "<lambda>"))]) (k := 0) F_is_tuple_of y_isinstance y_tuple y_len
  have G_is_answer := ok_is_answer (P := l.prog) (w := w) (mg := mg) (base := base) (Ps := [(tabP K "is_word", none), (tabP K "is_signs", none), (tabP K "is_indices", none), (tabP K "_need_map", none), (tabP K "_law_right", some (("_law_right" : Str) ++ ".<locals>." ++ "<lambda>")), (tabP K "law", some (("law" : Str) ++ ".<locals>." ++ "<lambda>"))]) (k := 1) F_is_answer (by decide) G_is_tuple_of m_is_tuple_of kf_is_tuple_of b_is_tuple_of
  have G_is_word := ok_is_word (P := l.prog) (w := w) (mg := mg) (base := base) (Ps := [(tabP K "is_word", none), (tabP K "is_signs", none), (tabP K "is_indices", none), (tabP K "_need_map", none), (tabP K "_law_right", some (("_law_right" : Str) ++ ".<locals>." ++ "<lambda>")), (tabP K "law", some (("law" : Str) ++ ".<locals>." ++ "<lambda>"))]) (k := 5) F_is_word y_all (by decide) B_is_word (List.mem_cons_self) (by decide) G_is_tuple_of m_is_tuple_of kf_is_tuple_of b_is_tuple_of (by decide) G_is_bit m_is_bit kf_is_bit b_is_bit
  have G_is_signs := ok_is_signs (P := l.prog) (w := w) (mg := mg) (base := base) (Ps := [(tabP K "is_word", none), (tabP K "is_signs", none), (tabP K "is_indices", none), (tabP K "_need_map", none), (tabP K "_law_right", some (("_law_right" : Str) ++ ".<locals>." ++ "<lambda>")), (tabP K "law", some (("law" : Str) ++ ".<locals>." ++ "<lambda>"))]) (k := 4) F_is_signs y_all (by decide) B_is_signs (List.mem_cons_of_mem _ (List.mem_cons_self)) (by decide) G_is_tuple_of m_is_tuple_of kf_is_tuple_of b_is_tuple_of (by decide) G_is_sign m_is_sign kf_is_sign b_is_sign
  have G_is_indices := ok_is_indices (P := l.prog) (w := w) (mg := mg) (base := base) (Ps := [(tabP K "is_word", none), (tabP K "is_signs", none), (tabP K "is_indices", none), (tabP K "_need_map", none), (tabP K "_law_right", some (("_law_right" : Str) ++ ".<locals>." ++ "<lambda>")), (tabP K "law", some (("law" : Str) ++ ".<locals>." ++ "<lambda>"))]) (k := 5) F_is_indices y_isinstance y_tuple y_all (by decide) B_is_indices (List.mem_cons_of_mem _ (List.mem_cons_of_mem _ (List.mem_cons_self))) (by decide) G_is_index m_is_index kf_is_index b_is_index
  have G_is_places := ok_is_places (P := l.prog) (w := w) (mg := mg) (base := base) (Ps := [(tabP K "is_word", none), (tabP K "is_signs", none), (tabP K "is_indices", none), (tabP K "_need_map", none), (tabP K "_law_right", some (("_law_right" : Str) ++ ".<locals>." ++ "<lambda>")), (tabP K "law", some (("law" : Str) ++ ".<locals>." ++ "<lambda>"))]) (k := 6) F_is_places y_len y_set (by decide) G_is_tuple_of m_is_tuple_of kf_is_tuple_of b_is_tuple_of (by decide) G_is_indices m_is_indices kf_is_indices b_is_indices
  have G_is_lowest_pair := ok_is_lowest_pair (P := l.prog) (w := w) (mg := mg) (base := base) (Ps := [(tabP K "is_word", none), (tabP K "is_signs", none), (tabP K "is_indices", none), (tabP K "_need_map", none), (tabP K "_law_right", some (("_law_right" : Str) ++ ".<locals>." ++ "<lambda>")), (tabP K "law", some (("law" : Str) ++ ".<locals>." ++ "<lambda>"))]) (k := 1) F_is_lowest_pair y_gcd (by decide) G_is_tuple_of m_is_tuple_of kf_is_tuple_of b_is_tuple_of (by decide) G_is_integer m_is_integer kf_is_integer b_is_integer
  have G_is_fraction_between := ok_is_fraction_between (P := l.prog) (w := w) (mg := mg) (base := base) (Ps := [(tabP K "is_word", none), (tabP K "is_signs", none), (tabP K "is_indices", none), (tabP K "_need_map", none), (tabP K "_law_right", some (("_law_right" : Str) ++ ".<locals>." ++ "<lambda>")), (tabP K "law", some (("law" : Str) ++ ".<locals>." ++ "<lambda>"))]) (k := 2) F_is_fraction_between (by decide) G_is_lowest_pair m_is_lowest_pair kf_is_lowest_pair b_is_lowest_pair
  have G_is_share := ok_is_share (P := l.prog) (w := w) (mg := mg) (base := base) (Ps := [(tabP K "is_word", none), (tabP K "is_signs", none), (tabP K "is_indices", none), (tabP K "_need_map", none), (tabP K "_law_right", some (("_law_right" : Str) ++ ".<locals>." ++ "<lambda>")), (tabP K "law", some (("law" : Str) ++ ".<locals>." ++ "<lambda>"))]) (k := 3) F_is_share (by decide) G_is_fraction_between m_is_fraction_between kf_is_fraction_between b_is_fraction_between
  have G_is_short_fraction := ok_is_short_fraction (P := l.prog) (w := w) (mg := mg) (base := base) (Ps := [(tabP K "is_word", none), (tabP K "is_signs", none), (tabP K "is_indices", none), (tabP K "_need_map", none), (tabP K "_law_right", some (("_law_right" : Str) ++ ".<locals>." ++ "<lambda>")), (tabP K "law", some (("law" : Str) ++ ".<locals>." ++ "<lambda>"))]) (k := 2) F_is_short_fraction (by decide) G_is_lowest_pair m_is_lowest_pair kf_is_lowest_pair b_is_lowest_pair (by decide) G_is_short m_is_short kf_is_short b_is_short
  have G_need_number := ok_need_number (P := l.prog) (w := w) (mg := mg) (base := base) (Ps := [(tabP K "is_word", none), (tabP K "is_signs", none), (tabP K "is_indices", none), (tabP K "_need_map", none), (tabP K "_law_right", some (("_law_right" : Str) ++ ".<locals>." ++ "<lambda>")), (tabP K "law", some (("law" : Str) ++ ".<locals>." ++ "<lambda>"))]) (k := 2) F_need_number E_InvalidNumber (by decide) (by decide) G_is_between m_is_between kf_is_between b_is_between
  have G_need_fraction := ok_need_fraction (P := l.prog) (w := w) (mg := mg) (base := base) (Ps := [(tabP K "is_word", none), (tabP K "is_signs", none), (tabP K "is_indices", none), (tabP K "_need_map", none), (tabP K "_law_right", some (("_law_right" : Str) ++ ".<locals>." ++ "<lambda>")), (tabP K "law", some (("law" : Str) ++ ".<locals>." ++ "<lambda>"))]) (k := 3) F_need_fraction E_InvalidFraction (by decide) G_is_short_fraction m_is_short_fraction kf_is_short_fraction b_is_short_fraction
  have G_need_fraction_between := ok_need_fraction_between (P := l.prog) (w := w) (mg := mg) (base := base) (Ps := [(tabP K "is_word", none), (tabP K "is_signs", none), (tabP K "is_indices", none), (tabP K "_need_map", none), (tabP K "_law_right", some (("_law_right" : Str) ++ ".<locals>." ++ "<lambda>")), (tabP K "law", some (("law" : Str) ++ ".<locals>." ++ "<lambda>"))]) (k := 4) F_need_fraction_between E_InvalidFraction (by decide) G_need_fraction m_need_fraction kf_need_fraction b_need_fraction (by decide) G_is_fraction_between m_is_fraction_between kf_is_fraction_between b_is_fraction_between
  have G_need_share := ok_need_share (P := l.prog) (w := w) (mg := mg) (base := base) (Ps := [(tabP K "is_word", none), (tabP K "is_signs", none), (tabP K "is_indices", none), (tabP K "_need_map", none), (tabP K "_law_right", some (("_law_right" : Str) ++ ".<locals>." ++ "<lambda>")), (tabP K "law", some (("law" : Str) ++ ".<locals>." ++ "<lambda>"))]) (k := 4) F_need_share E_InvalidFraction (by decide) G_need_fraction m_need_fraction kf_need_fraction b_need_fraction (by decide) G_is_share m_is_share kf_is_share b_is_share
  have G_need_word := ok_need_word (P := l.prog) (w := w) (mg := mg) (base := base) (Ps := [(tabP K "is_word", none), (tabP K "is_signs", none), (tabP K "is_indices", none), (tabP K "_need_map", none), (tabP K "_law_right", some (("_law_right" : Str) ++ ".<locals>." ++ "<lambda>")), (tabP K "law", some (("law" : Str) ++ ".<locals>." ++ "<lambda>"))]) (k := 6) F_need_word E_InvalidWord (by decide) G_is_word m_is_word kf_is_word b_is_word
  have G_need_table := ok_need_table (P := l.prog) (w := w) (mg := mg) (base := base) (Ps := [(tabP K "is_word", none), (tabP K "is_signs", none), (tabP K "is_indices", none), (tabP K "_need_map", none), (tabP K "_law_right", some (("_law_right" : Str) ++ ".<locals>." ++ "<lambda>")), (tabP K "law", some (("law" : Str) ++ ".<locals>." ++ "<lambda>"))]) (k := 6) F_need_table E_InvalidWord (by decide) G_is_word m_is_word kf_is_word b_is_word
  have G_spelled := ok_spelled (P := l.prog) (w := w) (mg := mg) (base := base) (Ps := [(tabP K "is_word", none), (tabP K "is_signs", none), (tabP K "is_indices", none), (tabP K "_need_map", none), (tabP K "_law_right", some (("_law_right" : Str) ++ ".<locals>." ++ "<lambda>")), (tabP K "law", some (("law" : Str) ++ ".<locals>." ++ "<lambda>"))]) (k := 0) F_spelled y_range y_tuple
  have G_number_of := ok_number_of (P := l.prog) (w := w) (mg := mg) (base := base) (Ps := [(tabP K "is_word", none), (tabP K "is_signs", none), (tabP K "is_indices", none), (tabP K "_need_map", none), (tabP K "_law_right", some (("_law_right" : Str) ++ ".<locals>." ++ "<lambda>")), (tabP K "law", some (("law" : Str) ++ ".<locals>." ++ "<lambda>"))]) (k := 0) F_number_of y_enumerate y_sum
  have G_bit_of := ok_bit_of (P := l.prog) (w := w) (mg := mg) (base := base) (Ps := [(tabP K "is_word", none), (tabP K "is_signs", none), (tabP K "is_indices", none), (tabP K "_need_map", none), (tabP K "_law_right", some (("_law_right" : Str) ++ ".<locals>." ++ "<lambda>")), (tabP K "law", some (("law" : Str) ++ ".<locals>." ++ "<lambda>"))]) (k := 0) F_bit_of 
  have G_parity := ok_parity (P := l.prog) (w := w) (mg := mg) (base := base) (Ps := [(tabP K "is_word", none), (tabP K "is_signs", none), (tabP K "is_indices", none), (tabP K "_need_map", none), (tabP K "_law_right", some (("_law_right" : Str) ++ ".<locals>." ++ "<lambda>")), (tabP K "law", some (("law" : Str) ++ ".<locals>." ++ "<lambda>"))]) (k := 0) F_parity 
  have G_log_of := ok_log_of (P := l.prog) (w := w) (mg := mg) (base := base) (Ps := [(tabP K "is_word", none), (tabP K "is_signs", none), (tabP K "is_indices", none), (tabP K "_need_map", none), (tabP K "_law_right", some (("_law_right" : Str) ++ ".<locals>." ++ "<lambda>")), (tabP K "law", some (("law" : Str) ++ ".<locals>." ++ "<lambda>"))]) (k := 0) F_log_of 
  have G_reduced := ok_reduced (P := l.prog) (w := w) (mg := mg) (base := base) (Ps := [(tabP K "is_word", none), (tabP K "is_signs", none), (tabP K "is_indices", none), (tabP K "_need_map", none), (tabP K "_law_right", some (("_law_right" : Str) ++ ".<locals>." ++ "<lambda>")), (tabP K "law", some (("law" : Str) ++ ".<locals>." ++ "<lambda>"))]) (k := 0) F_reduced y_gcd
  have G_minus := ok_minus (P := l.prog) (w := w) (mg := mg) (base := base) (Ps := [(tabP K "is_word", none), (tabP K "is_signs", none), (tabP K "is_indices", none), (tabP K "_need_map", none), (tabP K "_law_right", some (("_law_right" : Str) ++ ".<locals>." ++ "<lambda>")), (tabP K "law", some (("law" : Str) ++ ".<locals>." ++ "<lambda>"))]) (k := 1) F_minus (by decide) G_reduced m_reduced kf_reduced b_reduced
  have G_ordered := ok_ordered (P := l.prog) (w := w) (mg := mg) (base := base) (Ps := [(tabP K "is_word", none), (tabP K "is_signs", none), (tabP K "is_indices", none), (tabP K "_need_map", none), (tabP K "_law_right", some (("_law_right" : Str) ++ ".<locals>." ++ "<lambda>")), (tabP K "law", some (("law" : Str) ++ ".<locals>." ++ "<lambda>"))]) (k := 0) F_ordered 
  have G_amount := ok_amount (P := l.prog) (w := w) (mg := mg) (base := base) (Ps := [(tabP K "is_word", none), (tabP K "is_signs", none), (tabP K "is_indices", none), (tabP K "_need_map", none), (tabP K "_law_right", some (("_law_right" : Str) ++ ".<locals>." ++ "<lambda>")), (tabP K "law", some (("law" : Str) ++ ".<locals>." ++ "<lambda>"))]) (k := 0) F_amount y_abs
  have G__log_within := ok__log_within (P := l.prog) (w := w) (mg := mg) (base := base) (Ps := [(tabP K "is_word", none), (tabP K "is_signs", none), (tabP K "is_indices", none), (tabP K "_need_map", none), (tabP K "_law_right", some (("_law_right" : Str) ++ ".<locals>." ++ "<lambda>")), (tabP K "law", some (("law" : Str) ++ ".<locals>." ++ "<lambda>"))]) (k := 1) F__log_within y_isinstance y_tuple y_len (by decide) G_log_of m_log_of kf_log_of b_log_of
  have G__need_map := ok__need_map (P := l.prog) (w := w) (mg := mg) (base := base) (Ps := [(tabP K "is_word", none), (tabP K "is_signs", none), (tabP K "is_indices", none), (tabP K "_need_map", none), (tabP K "_law_right", some (("_law_right" : Str) ++ ".<locals>." ++ "<lambda>")), (tabP K "law", some (("law" : Str) ++ ".<locals>." ++ "<lambda>"))]) (k := 8) F__need_map y__MOST_SEED y_all E_InvalidMaps (by decide) B__need_map (List.mem_cons_of_mem _ (List.mem_cons_of_mem _ (List.mem_cons_of_mem _ (List.mem_cons_self)))) (by decide) G__log_within m__log_within kf__log_within b__log_within (by decide) G_is_word m_is_word kf_is_word b_is_word
  have G__need_map_and_told := ok__need_map_and_told (P := l.prog) (w := w) (mg := mg) (base := base) (Ps := [(tabP K "is_word", none), (tabP K "is_signs", none), (tabP K "is_indices", none), (tabP K "_need_map", none), (tabP K "_law_right", some (("_law_right" : Str) ++ ".<locals>." ++ "<lambda>")), (tabP K "law", some (("law" : Str) ++ ".<locals>." ++ "<lambda>"))]) (k := 9) F__need_map_and_told y__MOST_TOLD (by decide) G__need_map m__need_map kf__need_map b__need_map (by decide) G_need_number m_need_number kf_need_number b_need_number
  have G__led := ok__led (P := l.prog) (w := w) (mg := mg) (base := base) (Ps := [(tabP K "is_word", none), (tabP K "is_signs", none), (tabP K "is_indices", none), (tabP K "_need_map", none), (tabP K "_law_right", some (("_law_right" : Str) ++ ".<locals>." ++ "<lambda>")), (tabP K "law", some (("law" : Str) ++ ".<locals>." ++ "<lambda>"))]) (k := 1) F__led y_len y_range y_tuple (by decide) G_log_of m_log_of kf_log_of b_log_of (by decide) G_number_of m_number_of kf_number_of b_number_of
  have G_led_on := ok_led_on (P := l.prog) (w := w) (mg := mg) (base := base) (Ps := [(tabP K "is_word", none), (tabP K "is_signs", none), (tabP K "is_indices", none), (tabP K "_need_map", none), (tabP K "_law_right", some (("_law_right" : Str) ++ ".<locals>." ++ "<lambda>")), (tabP K "law", some (("law" : Str) ++ ".<locals>." ++ "<lambda>"))]) (k := 9) F_led_on y__MOST_TOLD (by decide) G__need_map m__need_map kf__need_map b__need_map (by decide) G_need_word m_need_word kf_need_word b_need_word (by decide) G_need_number m_need_number kf_need_number b_need_number (by decide) G_number_of m_number_of kf_number_of b_number_of (by decide) G__led m__led kf__led b__led (by decide) G_spelled m_spelled kf_spelled b_spelled
  have G__excess_over := ok__excess_over (P := l.prog) (w := w) (mg := mg) (base := base) (Ps := [(tabP K "is_word", none), (tabP K "is_signs", none), (tabP K "is_indices", none), (tabP K "_need_map", none), (tabP K "_law_right", some (("_law_right" : Str) ++ ".<locals>." ++ "<lambda>")), (tabP K "law", some (("law" : Str) ++ ".<locals>." ++ "<lambda>"))]) (k := 2) F__excess_over y_sum y_len (by decide) G_number_of m_number_of kf_number_of b_number_of (by decide) G_reduced m_reduced kf_reduced b_reduced (by decide) G_minus m_minus kf_minus b_minus
  have G_map_excess := ok_map_excess (P := l.prog) (w := w) (mg := mg) (base := base) (Ps := [(tabP K "is_word", none), (tabP K "is_signs", none), (tabP K "is_indices", none), (tabP K "_need_map", none), (tabP K "_law_right", some (("_law_right" : Str) ++ ".<locals>." ++ "<lambda>")), (tabP K "law", some (("law" : Str) ++ ".<locals>." ++ "<lambda>"))]) (k := 9) F_map_excess (by decide) G__need_map m__need_map kf__need_map b__need_map (by decide) G_need_table m_need_table kf_need_table b_need_table (by decide) G__excess_over m__excess_over kf__excess_over b__excess_over
  have G__long_excess := ok__long_excess (P := l.prog) (w := w) (mg := mg) (base := base) (Ps := [(tabP K "is_word", none), (tabP K "is_signs", none), (tabP K "is_indices", none), (tabP K "_need_map", none), (tabP K "_law_right", some (("_law_right" : Str) ++ ".<locals>." ++ "<lambda>")), (tabP K "law", some (("law" : Str) ++ ".<locals>." ++ "<lambda>"))]) (k := 3) F__long_excess y_len y_range (by decide) G__led m__led kf__led b__led (by decide) G__excess_over m__excess_over kf__excess_over b__excess_over
  have G_long_excess := ok_long_excess (P := l.prog) (w := w) (mg := mg) (base := base) (Ps := [(tabP K "is_word", none), (tabP K "is_signs", none), (tabP K "is_indices", none), (tabP K "_need_map", none), (tabP K "_law_right", some (("_law_right" : Str) ++ ".<locals>." ++ "<lambda>")), (tabP K "law", some (("law" : Str) ++ ".<locals>." ++ "<lambda>"))]) (k := 10) F_long_excess (by decide) G__need_map_and_told m__need_map_and_told kf__need_map_and_told b__need_map_and_told (by decide) G_need_table m_need_table kf_need_table b_need_table (by decide) G__long_excess m__long_excess kf__long_excess b__long_excess
  have G__step_test := ok__step_test (P := l.prog) (w := w) (mg := mg) (base := base) (Ps := [(tabP K "is_word", none), (tabP K "is_signs", none), (tabP K "is_indices", none), (tabP K "_need_map", none), (tabP K "_law_right", some (("_law_right" : Str) ++ ".<locals>." ++ "<lambda>")), (tabP K "law", some (("law" : Str) ++ ".<locals>." ++ "<lambda>"))]) (k := 2) F__step_test y_len y_range y_tuple (by decide) G__led m__led kf__led b__led (by decide) G_number_of m_number_of kf_number_of b_number_of
  have G__is_first := ok__is_first (P := l.prog) (w := w) (mg := mg) (base := base) (Ps := [(tabP K "is_word", none), (tabP K "is_signs", none), (tabP K "is_indices", none), (tabP K "_need_map", none), (tabP K "_law_right", some (("_law_right" : Str) ++ ".<locals>." ++ "<lambda>")), (tabP K "law", some (("law" : Str) ++ ".<locals>." ++ "<lambda>"))]) (k := 6) F__is_first y_isinstance y_tuple y_len (by decide) G_is_word m_is_word kf_is_word b_is_word
  have G_step_test := ok_step_test (P := l.prog) (w := w) (mg := mg) (base := base) (Ps := [(tabP K "is_word", none), (tabP K "is_signs", none), (tabP K "is_indices", none), (tabP K "_need_map", none), (tabP K "_law_right", some (("_law_right" : Str) ++ ".<locals>." ++ "<lambda>")), (tabP K "law", some (("law" : Str) ++ ".<locals>." ++ "<lambda>"))]) (k := 10) F_step_test E_InvalidWord (by decide) G__need_map_and_told m__need_map_and_told kf__need_map_and_told b__need_map_and_told (by decide) G_need_table m_need_table kf_need_table b_need_table (by decide) G__is_first m__is_first kf__is_first b__is_first (by decide) G__step_test m__step_test kf__step_test b__step_test
  have G__is_step := ok__is_step (P := l.prog) (w := w) (mg := mg) (base := base) (Ps := [(tabP K "is_word", none), (tabP K "is_signs", none), (tabP K "is_indices", none), (tabP K "_need_map", none), (tabP K "_law_right", some (("_law_right" : Str) ++ ".<locals>." ++ "<lambda>")), (tabP K "law", some (("law" : Str) ++ ".<locals>." ++ "<lambda>"))]) (k := 3) F__is_step (by decide) G__step_test m__step_test kf__step_test b__step_test (by decide) G__excess_over m__excess_over kf__excess_over b__excess_over (by decide) G_amount m_amount kf_amount b_amount (by decide) G_ordered m_ordered kf_ordered b_ordered
  have G__need_all_for_answer := ok__need_all_for_answer (P := l.prog) (w := w) (mg := mg) (base := base) (Ps := [(tabP K "is_word", none), (tabP K "is_signs", none), (tabP K "is_indices", none), (tabP K "_need_map", none), (tabP K "_law_right", some (("_law_right" : Str) ++ ".<locals>." ++ "<lambda>")), (tabP K "law", some (("law" : Str) ++ ".<locals>." ++ "<lambda>"))]) (k := 10) F__need_all_for_answer (by decide) G__need_map_and_told m__need_map_and_told kf__need_map_and_told b__need_map_and_told (by decide) G_need_table m_need_table kf_need_table b_need_table (by decide) G_need_fraction_between m_need_fraction_between kf_need_fraction_between b_need_fraction_between
  have G__is_little := ok__is_little (P := l.prog) (w := w) (mg := mg) (base := base) (Ps := [(tabP K "is_word", none), (tabP K "is_signs", none), (tabP K "is_indices", none), (tabP K "_need_map", none), (tabP K "_law_right", some (("_law_right" : Str) ++ ".<locals>." ++ "<lambda>")), (tabP K "law", some (("law" : Str) ++ ".<locals>." ++ "<lambda>"))]) (k := 1) F__is_little (by decide) G_amount m_amount kf_amount b_amount (by decide) G_ordered m_ordered kf_ordered b_ordered
  have G__first_step := ok__first_step (P := l.prog) (w := w) (mg := mg) (base := base) (Ps := [(tabP K "is_word", none), (tabP K "is_signs", none), (tabP K "is_indices", none), (tabP K "_need_map", none), (tabP K "_law_right", some (("_law_right" : Str) ++ ".<locals>." ++ "<lambda>")), (tabP K "law", some (("law" : Str) ++ ".<locals>." ++ "<lambda>"))]) (k := 4) F__first_step y_range (by decide) G_spelled m_spelled kf_spelled b_spelled (by decide) G__is_step m__is_step kf__is_step b__is_step
  have G_long_answer := ok_long_answer (P := l.prog) (w := w) (mg := mg) (base := base) (Ps := [(tabP K "is_word", none), (tabP K "is_signs", none), (tabP K "is_indices", none), (tabP K "_need_map", none), (tabP K "_law_right", some (("_law_right" : Str) ++ ".<locals>." ++ "<lambda>")), (tabP K "law", some (("law" : Str) ++ ".<locals>." ++ "<lambda>"))]) (k := 11) F_long_answer (by decide) G__need_all_for_answer m__need_all_for_answer kf__need_all_for_answer b__need_all_for_answer (by decide) G__long_excess m__long_excess kf__long_excess b__long_excess (by decide) G__is_little m__is_little kf__is_little b__is_little (by decide) G__first_step m__first_step kf__first_step b__first_step
  have G_is_long_answer := ok_is_long_answer (P := l.prog) (w := w) (mg := mg) (base := base) (Ps := [(tabP K "is_word", none), (tabP K "is_signs", none), (tabP K "is_indices", none), (tabP K "_need_map", none), (tabP K "_law_right", some (("_law_right" : Str) ++ ".<locals>." ++ "<lambda>")), (tabP K "law", some (("law" : Str) ++ ".<locals>." ++ "<lambda>"))]) (k := 11) F_is_long_answer (by decide) G__need_all_for_answer m__need_all_for_answer kf__need_all_for_answer b__need_all_for_answer (by decide) G_is_answer m_is_answer kf_is_answer b_is_answer (by decide) G__long_excess m__long_excess kf__long_excess b__long_excess (by decide) G_is_lowest_pair m_is_lowest_pair kf_is_lowest_pair b_is_lowest_pair (by decide) G__is_little m__is_little kf__is_little b__is_little (by decide) G__is_first m__is_first kf__is_first b__is_first (by decide) G__is_step m__is_step kf__is_step b__is_step
  have G__need_turn := ok__need_turn (P := l.prog) (w := w) (mg := mg) (base := base) (Ps := [(tabP K "is_word", none), (tabP K "is_signs", none), (tabP K "is_indices", none), (tabP K "_need_map", none), (tabP K "_law_right", some (("_law_right" : Str) ++ ".<locals>." ++ "<lambda>")), (tabP K "law", some (("law" : Str) ++ ".<locals>." ++ "<lambda>"))]) (k := 7) F__need_turn y_len E_InvalidMaps (by decide) G__log_within m__log_within kf__log_within b__log_within (by decide) G_is_places m_is_places kf_is_places b_is_places
  have G_bit_map := ok_bit_map (P := l.prog) (w := w) (mg := mg) (base := base) (Ps := [(tabP K "is_word", none), (tabP K "is_signs", none), (tabP K "is_indices", none), (tabP K "_need_map", none), (tabP K "_law_right", some (("_law_right" : Str) ++ ".<locals>." ++ "<lambda>")), (tabP K "law", some (("law" : Str) ++ ".<locals>." ++ "<lambda>"))]) (k := 8) F_bit_map y__MOST_SEED y_len y_zip y_tuple E_InvalidTruth (by decide) G__need_turn m__need_turn kf__need_turn b__need_turn (by decide) G_is_signs m_is_signs kf_is_signs b_is_signs (by decide) G_spelled m_spelled kf_spelled b_spelled (by decide) G_bit_of m_bit_of kf_bit_of b_bit_of
  have G__guesses := ok__guesses (P := l.prog) (w := w) (mg := mg) (base := base) (Ps := [(tabP K "is_word", none), (tabP K "is_signs", none), (tabP K "is_indices", none), (tabP K "_need_map", none), (tabP K "_law_right", some (("_law_right" : Str) ++ ".<locals>." ++ "<lambda>")), (tabP K "law", some (("law" : Str) ++ ".<locals>." ++ "<lambda>"))]) (k := 0) F__guesses y_len y_zip y_tuple
  have G_guess_row := ok_guess_row (P := l.prog) (w := w) (mg := mg) (base := base) (Ps := [(tabP K "is_word", none), (tabP K "is_signs", none), (tabP K "is_indices", none), (tabP K "_need_map", none), (tabP K "_law_right", some (("_law_right" : Str) ++ ".<locals>." ++ "<lambda>")), (tabP K "law", some (("law" : Str) ++ ".<locals>." ++ "<lambda>"))]) (k := 6) F_guess_row y__MOST_SEED y_len E_InvalidWord (by decide) G__log_within m__log_within kf__log_within b__log_within (by decide) G_is_word m_is_word kf_is_word b_is_word (by decide) G__guesses m__guesses kf__guesses b__guesses
  have G_string_map := ok_string_map (P := l.prog) (w := w) (mg := mg) (base := base) (Ps := [(tabP K "is_word", none), (tabP K "is_signs", none), (tabP K "is_indices", none), (tabP K "_need_map", none), (tabP K "_law_right", some (("_law_right" : Str) ++ ".<locals>." ++ "<lambda>")), (tabP K "law", some (("law" : Str) ++ ".<locals>." ++ "<lambda>"))]) (k := 8) F_string_map y__MOST_HALF_SEED y_range y_tuple (by decide) G__need_turn m__need_turn kf__need_turn b__need_turn (by decide) G_spelled m_spelled kf_spelled b_spelled (by decide) G_parity m_parity kf_parity b_parity
  have G_back_list := ok_back_list (P := l.prog) (w := w) (mg := mg) (base := base) (Ps := [(tabP K "is_word", none), (tabP K "is_signs", none), (tabP K "is_indices", none), (tabP K "_need_map", none), (tabP K "_law_right", some (("_law_right" : Str) ++ ".<locals>." ++ "<lambda>")), (tabP K "law", some (("law" : Str) ++ ".<locals>." ++ "<lambda>"))]) (k := 8) F_back_list y__MOST_HALF_SEED y_range y_sorted y_tuple E_InvalidFraction (by decide) G__need_turn m__need_turn kf__need_turn b__need_turn (by decide) G_need_table m_need_table kf_need_table b_need_table (by decide) G_need_share m_need_share kf_need_share b_need_share (by decide) G__guesses m__guesses kf__guesses b__guesses
  have G__law_hx_dice : FnOk l.prog w K mg base CX0 2 f__law_hx_dice _ ["script", "spot"] (spHatD K) := ok_hat (k := 1) F__law_hx_dice y_int y_len y_abs y_max
  have G__law_hx_up : FnOk l.prog w K mg base CX0 2 f__law_hx_up _ ["dice", "total"] (spOf K [(tabP K "is_word", none), (tabP K "is_signs", none), (tabP K "is_indices", none), (tabP K "_need_map", none), (tabP K "_law_right", some (("_law_right" : Str) ++ ".<locals>." ++ "<lambda>")), (tabP K "law", some (("law" : Str) ++ ".<locals>." ++ "<lambda>"))] SD_up) := (ok_up (k := 1) F__law_hx_up y_int).imp fun vs H Q E h => up_data h
  have GR__law_hx_up : FnOk l.prog w K mg base CX0 2 f__law_hx_up _ ["dice", "total"] spUpR := ok_up (k := 1) F__law_hx_up y_int
  have G__law_hx_of := ok__law_hx_of (P := l.prog) (w := w) (base := base) (Ps := [(tabP K "is_word", none), (tabP K "is_signs", none), (tabP K "is_indices", none), (tabP K "_need_map", none), (tabP K "_law_right", some (("_law_right" : Str) ++ ".<locals>." ++ "<lambda>")), (tabP K "law", some (("law" : Str) ++ ".<locals>." ++ "<lambda>"))]) (k := 2) (SD := SD_of) F__law_hx_of (fun _ _ h => len_of h) y_len (by decide) G__law_hx_up m__law_hx_up kf__law_hx_up b__law_hx_up pu_of
  have G__law_right := ok__law_right (P := l.prog) (w := w) (base := base) (Ps := [(tabP K "is_word", none), (tabP K "is_signs", none), (tabP K "is_indices", none), (tabP K "_need_map", none), (tabP K "_law_right", some (("_law_right" : Str) ++ ".<locals>." ++ "<lambda>")), (tabP K "law", some (("law" : Str) ++ ".<locals>." ++ "<lambda>"))]) (k := 15) (SD := SD_right) F__law_right (fun _ _ h => len_right h) y_tuple y_range y_repr (by decide) B__law_right (List.mem_cons_of_mem _ (List.mem_cons_of_mem _ (List.mem_cons_of_mem _ (List.mem_cons_of_mem _ (List.mem_cons_self))))) F__law_hx_met m__law_hx_met b__law_hx_met MG__law_hx_met (by decide) G__law_hx_of m__law_hx_of kf__law_hx_of b__law_hx_of (by decide) G_led_on m_led_on kf_led_on b_led_on (by decide) G_map_excess m_map_excess kf_map_excess b_map_excess (by decide) G_long_excess m_long_excess kf_long_excess b_long_excess (by decide) G_step_test m_step_test kf_step_test b_step_test (by decide) G_long_answer m_long_answer kf_long_answer b_long_answer (by decide) G_is_long_answer m_is_long_answer kf_is_long_answer b_is_long_answer (by decide) G_bit_map m_bit_map kf_bit_map b_bit_map (by decide) G_string_map m_string_map kf_string_map b_string_map (by decide) G_back_list m_back_list kf_back_list b_back_list g_long_answer pu_right
  exact ok_law (P := l.prog) (w := w) (base := base) (Ps := [(tabP K "is_word", none), (tabP K "is_signs", none), (tabP K "is_indices", none), (tabP K "_need_map", none), (tabP K "_law_right", some (("_law_right" : Str) ++ ".<locals>." ++ "<lambda>")), (tabP K "law", some (("law" : Str) ++ ".<locals>." ++ "<lambda>"))]) (k := 18) (SD := SD_law) F_law (fun _ _ h => len_law h) y_len y_min y_max y_range y_tuple (by decide) B_law (List.mem_cons_of_mem _ (List.mem_cons_of_mem _ (List.mem_cons_of_mem _ (List.mem_cons_of_mem _ (List.mem_cons_of_mem _ (List.mem_cons_self)))))) F__law_hx_met m__law_hx_met b__law_hx_met MG__law_hx_met (by decide) G__law_hx_dice m__law_hx_dice kf__law_hx_dice b__law_hx_dice (by decide) G__law_right m__law_right kf__law_right b__law_right (by decide) G_guess_row m_guess_row kf_guess_row b_guess_row (by decide) G_string_map m_string_map kf_string_map b_string_map (by decide) G_led_on m_led_on kf_led_on b_led_on (by decide) G_bit_map m_bit_map kf_bit_map b_bit_map pu_law
end Q
end
set_option Elab.async false
set_option linter.all false
set_option maxRecDepth 100000
open PySem PySem.W PyProof.Rows
set_option maxHeartbeats 0 in
theorem PySem.Challenge.cw_hardbits_k69_errors_of_longer_words_holds : PySem.Challenge.rw_hardbits_k69_errors_of_longer_words.Holds := by
  w_on; o_law; k_head; (case hw => w_witness2)
  k_fill
  refine Dl.walk_tabG (l := PySem.Challenge.rw_hardbits_k69_errors_of_longer_words) (n := 63) (k := 19) (x := "script") rfl (by decide) rfl ⟨rfl, by decide, by decide⟩ (fun w h Y => by first | exact PySem.W.kIn_of Y | exact PySem.W.km_in_of Y) ?F
  case F =>
    intro w mg fa h KX G hmg tabs
    refine' Q.all_mk KX G hmg tabs ?fk_gc_InvalidNumber ?fk_gc_InvalidFraction ?fk_gc_InvalidWord ?fk_gc_InvalidMaps ?fk_gc_InvalidTruth ?fk_gc_TooMany ?fk_gc_InvalidRow ?fk_gc_InvalidMeasure ?fk_gc_InvalidDraw ?fk_gc_InvalidFamily ?fk_gc_InvalidMix ?fk_gc_InvalidOperation ?fk_kc_InvalidFraction ?fk_qc_InvalidFraction ?fk_ec_InvalidFraction ?fk_tc_InvalidFraction ?fk_kc_InvalidWord ?fk_qc_InvalidWord ?fk_ec_InvalidWord ?fk_tc_InvalidWord ?fk_kc_InvalidMaps ?fk_qc_InvalidMaps ?fk_ec_InvalidMaps ?fk_tc_InvalidMaps ?fk_kc_InvalidTruth ?fk_qc_InvalidTruth ?fk_ec_InvalidTruth ?fk_tc_InvalidTruth ?fk_gH ?fk_hs ?fk_hr ?fk_hf ?fk_xc_InvalidNumber ?fk_sa_InvalidNumber ?fk_ec_InvalidNumber ?fk_tc_InvalidNumber ?fk_kc_InvalidNumber ?fk_nc_InvalidNumber ?fk_ic_InvalidNumber ?fk_ti_InvalidNumber ?fk_li_InvalidNumber ?fk_ci_InvalidNumber ?fk_ki_InvalidNumber ?fk_xf_InvalidNumber ?fk_nf_InvalidNumber ?fk_xf_TooMany ?fk_nf_TooMany ?fk_hx__law_hx_met ?fk_g_is_integer ?fk_l_is_integer ?fk_c_is_integer ?fk_kf_is_integer ?fk_g_is_short ?fk_l_is_short ?fk_c_is_short ?fk_kf_is_short ?fk_g_is_between ?fk_l_is_between ?fk_c_is_between ?fk_kf_is_between ?fk_g_is_index ?fk_l_is_index ?fk_c_is_index ?fk_kf_is_index ?fk_g_is_bit ?fk_l_is_bit ?fk_c_is_bit ?fk_kf_is_bit ?fk_g_is_sign ?fk_l_is_sign ?fk_c_is_sign ?fk_kf_is_sign ?fk_g_is_tuple_of ?fk_l_is_tuple_of ?fk_c_is_tuple_of ?fk_kf_is_tuple_of ?fk_g_is_answer ?fk_l_is_answer ?fk_c_is_answer ?fk_kf_is_answer ?fk_g_is_word ?fk_l_is_word ?fk_c_is_word ?fk_kf_is_word ?fk_t_is_word ?fk_r_is_word ?fk_p_is_word ?fk_g_is_signs ?fk_l_is_signs ?fk_c_is_signs ?fk_kf_is_signs ?fk_t_is_signs ?fk_r_is_signs ?fk_p_is_signs ?fk_g_is_indices ?fk_l_is_indices ?fk_c_is_indices ?fk_kf_is_indices ?fk_t_is_indices ?fk_r_is_indices ?fk_p_is_indices ?fk_g_is_places ?fk_l_is_places ?fk_c_is_places ?fk_kf_is_places ?fk_g_is_lowest_pair ?fk_l_is_lowest_pair ?fk_c_is_lowest_pair ?fk_kf_is_lowest_pair ?fk_g_is_fraction_between ?fk_l_is_fraction_between ?fk_c_is_fraction_between ?fk_kf_is_fraction_between ?fk_g_is_share ?fk_l_is_share ?fk_c_is_share ?fk_kf_is_share ?fk_g_is_short_fraction ?fk_l_is_short_fraction ?fk_c_is_short_fraction ?fk_kf_is_short_fraction ?fk_g_need_number ?fk_l_need_number ?fk_c_need_number ?fk_kf_need_number ?fk_g_need_fraction ?fk_l_need_fraction ?fk_c_need_fraction ?fk_kf_need_fraction ?fk_g_need_fraction_between ?fk_l_need_fraction_between ?fk_c_need_fraction_between ?fk_kf_need_fraction_between ?fk_g_need_share ?fk_l_need_share ?fk_c_need_share ?fk_kf_need_share ?fk_g_need_word ?fk_l_need_word ?fk_c_need_word ?fk_kf_need_word ?fk_g_need_table ?fk_l_need_table ?fk_c_need_table ?fk_kf_need_table ?fk_g_spelled ?fk_l_spelled ?fk_c_spelled ?fk_kf_spelled ?fk_g_number_of ?fk_l_number_of ?fk_c_number_of ?fk_kf_number_of ?fk_g_bit_of ?fk_l_bit_of ?fk_c_bit_of ?fk_kf_bit_of ?fk_g_parity ?fk_l_parity ?fk_c_parity ?fk_kf_parity ?fk_g_log_of ?fk_l_log_of ?fk_c_log_of ?fk_kf_log_of ?fk_g_reduced ?fk_l_reduced ?fk_c_reduced ?fk_kf_reduced ?fk_g_minus ?fk_l_minus ?fk_c_minus ?fk_kf_minus ?fk_g_ordered ?fk_l_ordered ?fk_c_ordered ?fk_kf_ordered ?fk_g_amount ?fk_l_amount ?fk_c_amount ?fk_kf_amount ?fk_g__log_within ?fk_l__log_within ?fk_c__log_within ?fk_kf__log_within ?fk_g__need_map ?fk_l__need_map ?fk_c__need_map ?fk_kf__need_map ?fk_t__need_map ?fk_r__need_map ?fk_p__need_map ?fk_g__need_map_and_told ?fk_l__need_map_and_told ?fk_c__need_map_and_told ?fk_kf__need_map_and_told ?fk_g__led ?fk_l__led ?fk_c__led ?fk_kf__led ?fk_g_led_on ?fk_l_led_on ?fk_c_led_on ?fk_kf_led_on ?fk_g__excess_over ?fk_l__excess_over ?fk_c__excess_over ?fk_kf__excess_over ?fk_g_map_excess ?fk_l_map_excess ?fk_c_map_excess ?fk_kf_map_excess ?fk_g__long_excess ?fk_l__long_excess ?fk_c__long_excess ?fk_kf__long_excess ?fk_g_long_excess ?fk_l_long_excess ?fk_c_long_excess ?fk_kf_long_excess ?fk_g__step_test ?fk_l__step_test ?fk_c__step_test ?fk_kf__step_test ?fk_g__is_first ?fk_l__is_first ?fk_c__is_first ?fk_kf__is_first ?fk_g_step_test ?fk_l_step_test ?fk_c_step_test ?fk_kf_step_test ?fk_g__is_step ?fk_l__is_step ?fk_c__is_step ?fk_kf__is_step ?fk_g__need_all_for_answer ?fk_l__need_all_for_answer ?fk_c__need_all_for_answer ?fk_kf__need_all_for_answer ?fk_g__is_little ?fk_l__is_little ?fk_c__is_little ?fk_kf__is_little ?fk_g__first_step ?fk_l__first_step ?fk_c__first_step ?fk_kf__first_step ?fk_g_long_answer ?fk_l_long_answer ?fk_c_long_answer ?fk_kf_long_answer ?fk_g_is_long_answer ?fk_l_is_long_answer ?fk_c_is_long_answer ?fk_kf_is_long_answer ?fk_g__need_turn ?fk_l__need_turn ?fk_c__need_turn ?fk_kf__need_turn ?fk_g_bit_map ?fk_l_bit_map ?fk_c_bit_map ?fk_kf_bit_map ?fk_g__guesses ?fk_l__guesses ?fk_c__guesses ?fk_kf__guesses ?fk_g_guess_row ?fk_l_guess_row ?fk_c_guess_row ?fk_kf_guess_row ?fk_g_string_map ?fk_l_string_map ?fk_c_string_map ?fk_kf_string_map ?fk_g_back_list ?fk_l_back_list ?fk_c_back_list ?fk_kf_back_list ?fk_g__law_hx_dice ?fk_l__law_hx_dice ?fk_c__law_hx_dice ?fk_kf__law_hx_dice ?fk_g__law_hx_up ?fk_l__law_hx_up ?fk_c__law_hx_up ?fk_kf__law_hx_up ?fk_g__law_hx_of ?fk_l__law_hx_of ?fk_c__law_hx_of ?fk_kf__law_hx_of ?fk_g__law_hx_met ?fk_l__law_hx_met ?fk_c__law_hx_met ?fk_kf__law_hx_met ?fk_g__law_right ?fk_l__law_right ?fk_c__law_right ?fk_kf__law_right ?fk_t__law_right ?fk_r__law_right ?fk_p__law_right ?fk_g_law ?fk_l_law ?fk_c_law ?fk_kf_law ?fk_t_law ?fk_r_law ?fk_p_law ?fk_z_isinstance ?fk_z_int ?fk_z_bool ?fk_z_abs ?fk_z_tuple ?fk_z_len ?fk_z_all ?fk_z_set ?fk_z_range ?fk_z_enumerate ?fk_z_sum ?fk_z_zip ?fk_z_sorted ?fk_z_repr ?fk_z_min ?fk_z_max ?fk_cn_LONGEST ?fk_cn__MOST_SEED ?fk_cn__MOST_TOLD ?fk_cn__MOST_HALF_SEED ?fk_i_gcd ?fk_one
    (case fk_gc_InvalidNumber => k_is)
    (case fk_gc_InvalidFraction => k_is)
    (case fk_gc_InvalidWord => k_is)
    (case fk_gc_InvalidMaps => k_is)
    (case fk_gc_InvalidTruth => k_is)
    (case fk_gc_TooMany => k_is)
    (case fk_gc_InvalidRow => k_is)
    (case fk_gc_InvalidMeasure => k_is)
    (case fk_gc_InvalidDraw => k_is)
    (case fk_gc_InvalidFamily => k_is)
    (case fk_gc_InvalidMix => k_is)
    (case fk_gc_InvalidOperation => k_is)
    (case fk_kc_InvalidFraction => k_is)
    (case fk_qc_InvalidFraction => k_exc)
    (case fk_ec_InvalidFraction => k_is)
    (case fk_tc_InvalidFraction => k_is)
    (case fk_kc_InvalidWord => k_is)
    (case fk_qc_InvalidWord => k_exc)
    (case fk_ec_InvalidWord => k_is)
    (case fk_tc_InvalidWord => k_is)
    (case fk_kc_InvalidMaps => k_is)
    (case fk_qc_InvalidMaps => k_exc)
    (case fk_ec_InvalidMaps => k_is)
    (case fk_tc_InvalidMaps => k_is)
    (case fk_kc_InvalidTruth => k_is)
    (case fk_qc_InvalidTruth => k_exc)
    (case fk_ec_InvalidTruth => k_is)
    (case fk_tc_InvalidTruth => k_is)
    (case fk_gH => k_is)
    (case fk_hs => k_is)
    (case fk_hr => k_is)
    (case fk_hf => k_is)
    (case fk_xc_InvalidNumber => k_is)
    (case fk_sa_InvalidNumber => k_is)
    (case fk_ec_InvalidNumber => k_is)
    (case fk_tc_InvalidNumber => k_is)
    (case fk_kc_InvalidNumber => k_is)
    (case fk_nc_InvalidNumber => k_is)
    (case fk_ic_InvalidNumber => k_is)
    (case fk_ti_InvalidNumber => k_is)
    (case fk_li_InvalidNumber => k_is)
    (case fk_ci_InvalidNumber => k_is)
    (case fk_ki_InvalidNumber => k_is)
    (case fk_xf_InvalidNumber => kernel_rfl)
    (case fk_nf_InvalidNumber => kernel_rfl)
    (case fk_xf_TooMany => kernel_rfl)
    (case fk_nf_TooMany => kernel_rfl)
    (case fk_hx__law_hx_met => kernel_rfl)
    (case fk_g_is_integer => k_is)
    (case fk_l_is_integer => k_is)
    (case fk_c_is_integer => k_is)
    (case fk_kf_is_integer => k_is)
    (case fk_g_is_short => k_is)
    (case fk_l_is_short => k_is)
    (case fk_c_is_short => k_is)
    (case fk_kf_is_short => k_is)
    (case fk_g_is_between => k_is)
    (case fk_l_is_between => k_is)
    (case fk_c_is_between => k_is)
    (case fk_kf_is_between => k_is)
    (case fk_g_is_index => k_is)
    (case fk_l_is_index => k_is)
    (case fk_c_is_index => k_is)
    (case fk_kf_is_index => k_is)
    (case fk_g_is_bit => k_is)
    (case fk_l_is_bit => k_is)
    (case fk_c_is_bit => k_is)
    (case fk_kf_is_bit => k_is)
    (case fk_g_is_sign => k_is)
    (case fk_l_is_sign => k_is)
    (case fk_c_is_sign => k_is)
    (case fk_kf_is_sign => k_is)
    (case fk_g_is_tuple_of => k_is)
    (case fk_l_is_tuple_of => k_is)
    (case fk_c_is_tuple_of => k_is)
    (case fk_kf_is_tuple_of => k_is)
    (case fk_g_is_answer => k_is)
    (case fk_l_is_answer => k_is)
    (case fk_c_is_answer => k_is)
    (case fk_kf_is_answer => k_is)
    (case fk_g_is_word => k_is)
    (case fk_l_is_word => k_is)
    (case fk_c_is_word => k_is)
    (case fk_kf_is_word => k_is)
    (case fk_t_is_word => kernel_rfl)
    (case fk_r_is_word => kernel_rfl)
    (case fk_p_is_word => kernel_rfl)
    (case fk_g_is_signs => k_is)
    (case fk_l_is_signs => k_is)
    (case fk_c_is_signs => k_is)
    (case fk_kf_is_signs => k_is)
    (case fk_t_is_signs => kernel_rfl)
    (case fk_r_is_signs => kernel_rfl)
    (case fk_p_is_signs => kernel_rfl)
    (case fk_g_is_indices => k_is)
    (case fk_l_is_indices => k_is)
    (case fk_c_is_indices => k_is)
    (case fk_kf_is_indices => k_is)
    (case fk_t_is_indices => kernel_rfl)
    (case fk_r_is_indices => kernel_rfl)
    (case fk_p_is_indices => kernel_rfl)
    (case fk_g_is_places => k_is)
    (case fk_l_is_places => k_is)
    (case fk_c_is_places => k_is)
    (case fk_kf_is_places => k_is)
    (case fk_g_is_lowest_pair => k_is)
    (case fk_l_is_lowest_pair => k_is)
    (case fk_c_is_lowest_pair => k_is)
    (case fk_kf_is_lowest_pair => k_is)
    (case fk_g_is_fraction_between => k_is)
    (case fk_l_is_fraction_between => k_is)
    (case fk_c_is_fraction_between => k_is)
    (case fk_kf_is_fraction_between => k_is)
    (case fk_g_is_share => k_is)
    (case fk_l_is_share => k_is)
    (case fk_c_is_share => k_is)
    (case fk_kf_is_share => k_is)
    (case fk_g_is_short_fraction => k_is)
    (case fk_l_is_short_fraction => k_is)
    (case fk_c_is_short_fraction => k_is)
    (case fk_kf_is_short_fraction => k_is)
    (case fk_g_need_number => k_is)
    (case fk_l_need_number => k_is)
    (case fk_c_need_number => k_is)
    (case fk_kf_need_number => k_is)
    (case fk_g_need_fraction => k_is)
    (case fk_l_need_fraction => k_is)
    (case fk_c_need_fraction => k_is)
    (case fk_kf_need_fraction => k_is)
    (case fk_g_need_fraction_between => k_is)
    (case fk_l_need_fraction_between => k_is)
    (case fk_c_need_fraction_between => k_is)
    (case fk_kf_need_fraction_between => k_is)
    (case fk_g_need_share => k_is)
    (case fk_l_need_share => k_is)
    (case fk_c_need_share => k_is)
    (case fk_kf_need_share => k_is)
    (case fk_g_need_word => k_is)
    (case fk_l_need_word => k_is)
    (case fk_c_need_word => k_is)
    (case fk_kf_need_word => k_is)
    (case fk_g_need_table => k_is)
    (case fk_l_need_table => k_is)
    (case fk_c_need_table => k_is)
    (case fk_kf_need_table => k_is)
    (case fk_g_spelled => k_is)
    (case fk_l_spelled => k_is)
    (case fk_c_spelled => k_is)
    (case fk_kf_spelled => k_is)
    (case fk_g_number_of => k_is)
    (case fk_l_number_of => k_is)
    (case fk_c_number_of => k_is)
    (case fk_kf_number_of => k_is)
    (case fk_g_bit_of => k_is)
    (case fk_l_bit_of => k_is)
    (case fk_c_bit_of => k_is)
    (case fk_kf_bit_of => k_is)
    (case fk_g_parity => k_is)
    (case fk_l_parity => k_is)
    (case fk_c_parity => k_is)
    (case fk_kf_parity => k_is)
    (case fk_g_log_of => k_is)
    (case fk_l_log_of => k_is)
    (case fk_c_log_of => k_is)
    (case fk_kf_log_of => k_is)
    (case fk_g_reduced => k_is)
    (case fk_l_reduced => k_is)
    (case fk_c_reduced => k_is)
    (case fk_kf_reduced => k_is)
    (case fk_g_minus => k_is)
    (case fk_l_minus => k_is)
    (case fk_c_minus => k_is)
    (case fk_kf_minus => k_is)
    (case fk_g_ordered => k_is)
    (case fk_l_ordered => k_is)
    (case fk_c_ordered => k_is)
    (case fk_kf_ordered => k_is)
    (case fk_g_amount => k_is)
    (case fk_l_amount => k_is)
    (case fk_c_amount => k_is)
    (case fk_kf_amount => k_is)
    (case fk_g__log_within => k_is)
    (case fk_l__log_within => k_is)
    (case fk_c__log_within => k_is)
    (case fk_kf__log_within => k_is)
    (case fk_g__need_map => k_is)
    (case fk_l__need_map => k_is)
    (case fk_c__need_map => k_is)
    (case fk_kf__need_map => k_is)
    (case fk_t__need_map => kernel_rfl)
    (case fk_r__need_map => kernel_rfl)
    (case fk_p__need_map => kernel_rfl)
    (case fk_g__need_map_and_told => k_is)
    (case fk_l__need_map_and_told => k_is)
    (case fk_c__need_map_and_told => k_is)
    (case fk_kf__need_map_and_told => k_is)
    (case fk_g__led => k_is)
    (case fk_l__led => k_is)
    (case fk_c__led => k_is)
    (case fk_kf__led => k_is)
    (case fk_g_led_on => k_is)
    (case fk_l_led_on => k_is)
    (case fk_c_led_on => k_is)
    (case fk_kf_led_on => k_is)
    (case fk_g__excess_over => k_is)
    (case fk_l__excess_over => k_is)
    (case fk_c__excess_over => k_is)
    (case fk_kf__excess_over => k_is)
    (case fk_g_map_excess => k_is)
    (case fk_l_map_excess => k_is)
    (case fk_c_map_excess => k_is)
    (case fk_kf_map_excess => k_is)
    (case fk_g__long_excess => k_is)
    (case fk_l__long_excess => k_is)
    (case fk_c__long_excess => k_is)
    (case fk_kf__long_excess => k_is)
    (case fk_g_long_excess => k_is)
    (case fk_l_long_excess => k_is)
    (case fk_c_long_excess => k_is)
    (case fk_kf_long_excess => k_is)
    (case fk_g__step_test => k_is)
    (case fk_l__step_test => k_is)
    (case fk_c__step_test => k_is)
    (case fk_kf__step_test => k_is)
    (case fk_g__is_first => k_is)
    (case fk_l__is_first => k_is)
    (case fk_c__is_first => k_is)
    (case fk_kf__is_first => k_is)
    (case fk_g_step_test => k_is)
    (case fk_l_step_test => k_is)
    (case fk_c_step_test => k_is)
    (case fk_kf_step_test => k_is)
    (case fk_g__is_step => k_is)
    (case fk_l__is_step => k_is)
    (case fk_c__is_step => k_is)
    (case fk_kf__is_step => k_is)
    (case fk_g__need_all_for_answer => k_is)
    (case fk_l__need_all_for_answer => k_is)
    (case fk_c__need_all_for_answer => k_is)
    (case fk_kf__need_all_for_answer => k_is)
    (case fk_g__is_little => k_is)
    (case fk_l__is_little => k_is)
    (case fk_c__is_little => k_is)
    (case fk_kf__is_little => k_is)
    (case fk_g__first_step => k_is)
    (case fk_l__first_step => k_is)
    (case fk_c__first_step => k_is)
    (case fk_kf__first_step => k_is)
    (case fk_g_long_answer => k_is)
    (case fk_l_long_answer => k_is)
    (case fk_c_long_answer => k_is)
    (case fk_kf_long_answer => k_is)
    (case fk_g_is_long_answer => k_is)
    (case fk_l_is_long_answer => k_is)
    (case fk_c_is_long_answer => k_is)
    (case fk_kf_is_long_answer => k_is)
    (case fk_g__need_turn => k_is)
    (case fk_l__need_turn => k_is)
    (case fk_c__need_turn => k_is)
    (case fk_kf__need_turn => k_is)
    (case fk_g_bit_map => k_is)
    (case fk_l_bit_map => k_is)
    (case fk_c_bit_map => k_is)
    (case fk_kf_bit_map => k_is)
    (case fk_g__guesses => k_is)
    (case fk_l__guesses => k_is)
    (case fk_c__guesses => k_is)
    (case fk_kf__guesses => k_is)
    (case fk_g_guess_row => k_is)
    (case fk_l_guess_row => k_is)
    (case fk_c_guess_row => k_is)
    (case fk_kf_guess_row => k_is)
    (case fk_g_string_map => k_is)
    (case fk_l_string_map => k_is)
    (case fk_c_string_map => k_is)
    (case fk_kf_string_map => k_is)
    (case fk_g_back_list => k_is)
    (case fk_l_back_list => k_is)
    (case fk_c_back_list => k_is)
    (case fk_kf_back_list => k_is)
    (case fk_g__law_hx_dice => k_is)
    (case fk_l__law_hx_dice => k_is)
    (case fk_c__law_hx_dice => k_is)
    (case fk_kf__law_hx_dice => k_is)
    (case fk_g__law_hx_up => k_is)
    (case fk_l__law_hx_up => k_is)
    (case fk_c__law_hx_up => k_is)
    (case fk_kf__law_hx_up => k_is)
    (case fk_g__law_hx_of => k_is)
    (case fk_l__law_hx_of => k_is)
    (case fk_c__law_hx_of => k_is)
    (case fk_kf__law_hx_of => k_is)
    (case fk_g__law_hx_met => k_is)
    (case fk_l__law_hx_met => k_is)
    (case fk_c__law_hx_met => k_is)
    (case fk_kf__law_hx_met => k_is)
    (case fk_g__law_right => k_is)
    (case fk_l__law_right => k_is)
    (case fk_c__law_right => k_is)
    (case fk_kf__law_right => k_is)
    (case fk_t__law_right => kernel_rfl)
    (case fk_r__law_right => kernel_rfl)
    (case fk_p__law_right => kernel_rfl)
    (case fk_g_law => k_is)
    (case fk_l_law => k_is)
    (case fk_c_law => k_is)
    (case fk_kf_law => k_is)
    (case fk_t_law => kernel_rfl)
    (case fk_r_law => kernel_rfl)
    (case fk_p_law => kernel_rfl)
    (case fk_z_isinstance => k_is)
    (case fk_z_int => k_is)
    (case fk_z_bool => k_is)
    (case fk_z_abs => k_is)
    (case fk_z_tuple => k_is)
    (case fk_z_len => k_is)
    (case fk_z_all => k_is)
    (case fk_z_set => k_is)
    (case fk_z_range => k_is)
    (case fk_z_enumerate => k_is)
    (case fk_z_sum => k_is)
    (case fk_z_zip => k_is)
    (case fk_z_sorted => k_is)
    (case fk_z_repr => k_is)
    (case fk_z_min => k_is)
    (case fk_z_max => k_is)
    (case fk_cn_LONGEST => k_is)
    (case fk_cn__MOST_SEED => k_is)
    (case fk_cn__MOST_TOLD => k_is)
    (case fk_cn__MOST_HALF_SEED => k_is)
    (case fk_i_gcd => k_is)
    (case fk_one => kernel_rfl)
