import PyProof.Rows.All
import Wide.All
import OpenK.AllK
import Wide.FinOn
import HandS.ForMost
import HandS.ForExc
import HandS.Walk
import HandS.Zip
import HandS.TupAny
import HandS.IsInst
import HandS.Defaults
import HandS.MakeKw
import HandS.Property
import HandS.FStr
import HandS.Wide
import HandS.WideBits
import HandS.EndBits
import HandS.StrMore
import HandS.TryOnly
import HandS.ClsMeth
import HandS.RaiseMore
import KE.KCallOwn
import PyProof.Draws
import PyProof.ReprReads
import PyProof.ReprRoads
import PyProof.ReprLen
import HandS.Lambda
import KE.KDictKeyed
import KE.KeyNested
import HandS.ExcInit
import HandS.HotCalls
import KE.KExcIs
import HandS.ExcField
import KE.KTryMore
import HandS.SetFor
import PyProof.FactsAll.tuple_1
import PyProof.FactsAll.list_1
import PyProof.FactsAll.dict_1
import PyProof.FactsAll.str_1
import PyProof.FactsAll.int_1
import PyProof.FactsAll.bool_1
import PyProof.FactsAll.NoneType_1
import PyProof.InstEq
import HandS.OwnEq
import HandS.Dict
import HandS.Style
import HandS.ExcCtx
import HandS.ExcInitHot
import HandS.RaiseFrom
import HandS.SuiteRaise
import HandS.EndTab
import KE.KNest
import PyProof.NeKinds
import PyProof.FactsAll.tuple_2
import KE.KEqNest
import HandS.Conv
import PyProof.FactsAll.list_2
import HandS.Strs
import HandS.TupMul
import HandS.Gcd
import HandS.SortKw
import HandS.Deep
import HandS.List
import HandS.TupSets
import HandS.DictComp
import PyProof.DictRoadsH
import PySem.Challenge.RW_restballots_k36_errors_of_rules
set_option Elab.async false
set_option linter.all false
set_option maxRecDepth 100000
set_option maxHeartbeats 4000000
/-! DL0: what the layer lacks: enumerate of a tuple, a walk over whatever it is, repr of data. -/
namespace DL
open PySem PySem.Spec L2
open PyProof.Rows hiding St

section
variable {prog : Program} {w : World} {A : Around} {E : Value → Shared → Prop} {s : Shared}
theorem drawsT (hh : A.handled = none) {cur home : Addr} (apart : home ≠ cur) (its : Array Value) :
    Draws prog w A cur [cur, home] its.size (fun k u => its[k]? = some u) (fun k hp => hp.IsTupleIter cur home k ∧ hp.IsTuple home its) where
  live := fun _ _ q => let ⟨ob, e, _⟩ := q.1; ⟨ob, e⟩
  frame := fun _ _ _ q keep => ⟨q.1.at fun ob e => keep cur (by simp) ob e, q.2.at fun ob e => keep home (by simp) ob e⟩
  item := fun k s Q E lt q fin => by
    refine RZ.nextOf_tuple_item q.1 q.2 (x := its[k]) (by simp [lt]) fun hp2 c2 same => ?_
    exact fin _ hp2 s.toks (by simp [lt]) ⟨c2, q.2.extBut same.extBut apart⟩ same
  done := fun s Q E q fin => RZ.nextOf_tuple_end hh q.1 q.2 (by simp) fin
theorem meetsT (home : Addr) (its : Array Value) (n : Nat) (dd : Option Addr) (sl : Array (Option Value)) :
    Meets (Builtin.«enumerate.__new__» ⟨[.type "enumerate", .ref home], []⟩) (fun _ R s => s.heap.get? home = some { cls := .type "tuple", dict := dd, data := .seq its n, slots := sl } ∧
      R (.ok (.ret (.ref (s.heap.push { cls := .type "tuple_iterator", data := .fields #[.ref home, .int 0 0] }).objs.size)))
        { s with heap := (s.heap.push { cls := .type "tuple_iterator", data := .fields #[.ref home, .int 0 0] }).push { cls := .type "enumerate", data := .fields #[.none, .bool false, .ref s.heap.objs.size, rawInt 0, .none, .none] } }) :=
  .of_wp fun prog w A R s at_home => by
    obtain ⟨hp, gs, dr, tk, os⟩ := s; obtain ⟨at_home, fin⟩ := at_home
    have sub := sub_enumerate
    have isT : Heap.IsTuple (Shared.heap ⟨hp, gs, dr, tk, os⟩) home its := ⟨_, at_home, rfl, n, rfl⟩
    wp_walk using AutoSeq1.wpAny_loadPart' at_home
    refine wpAny_stack_any fun st => wpAny_pure ?_
    split
    · rename_i c _ _ _ _ _
      cases (c == Value.type "enumerate")
      · wp_walk using AutoSeq1.wpAny_loadPart' at_home, wpAny_pyIter_tuple isT
        exact ⟨_, rfl, fin⟩
      · wp_walk using AutoSeq1.wpAny_loadPart' at_home, wpAny_pyIter_tuple isT
        exact ⟨_, rfl, fin⟩
    · wp_walk using AutoSeq1.wpAny_loadPart' at_home, wpAny_pyIter_tuple isT
      exact ⟨_, rfl, fin⟩
theorem call_enumT {home : Addr} {its : Array Value} {Q : Value → Shared → Prop} (isT : s.heap.IsTuple home its)
    (fin : ∀ hp2, IsEnum hp2 (s.heap.objs.size + 1) s.heap.objs.size 0 .none → hp2.IsTupleIter s.heap.objs.size home 0 → hp2.objs.size = s.heap.objs.size + 2 →
      (∀ b ob, s.heap.get? b = some ob → hp2.get? b = some ob) → Q (.ref (s.heap.objs.size + 1)) { s with heap := hp2 }) :
    wpAny (model prog w) A (call (.type "enumerate") [.ref home]) Q E s := by
  obtain ⟨⟨cl, dd, dt, sl⟩, at_home, hcl, n, hdt⟩ := isT
  have hcl' : cl = .type "tuple" := hcl
  have hdt' : dt = .seq its n := hdt
  subst hcl' hdt'
  refine callType_new F.called_enumerate (by decide) (F.typeCall_enumerate_1 _) (F.newCall_enumerate_1 _) (fun ob => F.args_object_init_2 ob _) F.entry_enumerate_new (meetsT home its n dd sl) ⟨at_home, ?_⟩
  have sz : (s.heap.push { cls := .type "tuple_iterator", data := .fields #[.ref home, .int 0 0] }).objs.size = s.heap.objs.size + 1 := Heap.size_push ..
  show _ ∧ _
  rw [sz]
  have en : IsEnum ((s.heap.push { cls := .type "tuple_iterator", data := .fields #[.ref home, .int 0 0] }).push
      { cls := .type "enumerate", data := .fields #[.none, .bool false, .ref s.heap.objs.size, rawInt 0, .none, .none] }) (s.heap.objs.size + 1) s.heap.objs.size 0 .none := by
    have q := Heap.get?_push_size (s.heap.push { cls := .type "tuple_iterator", data := .fields #[.ref home, .int 0 0] })
      (o := { cls := .type "enumerate", data := .fields #[.none, .bool false, .ref s.heap.objs.size, rawInt 0, .none, .none] }) rfl
    rw [sz] at q; exact q
  refine ⟨⟨_, en, rfl⟩, fin _ en ⟨_, Heap.get?_push_of_some _ (Heap.get?_push_size _ rfl), rfl, rfl⟩ (by rw [Heap.size_push, sz]) fun b ob x => Heap.get?_push_of_some _ (Heap.get?_push_of_some _ x)⟩
end
/-- the items of the tuple at a, numbered -/
def IteT (K : PySem.W.Frag) (a : Addr) : It :=
  ⟨fun k H => ∃ xs x, SqT K H a xs ∧ xs[k]? = some x, fun k H v H' => ∃ T x, v = .ref T ∧ H T = none ∧ H' = upd H T (.tup [.int (k : Nat), x]) ∧ ∀ xs, SqT K H a xs → xs[k]? = some x, fun k H => ∃ xs, SqT K H a xs ∧ xs.length = k⟩
theorem turn_enumT {P : Program} {w : World} {K : PySem.W.Frag} {elts : List Expr} {kk : Nat} {tpos : Pos} (a en cur : Addr) (hac : a ≠ cur) (hae : a ≠ en) :
    Turn P w K (.Tuple elts kk tpos) (IteT K a) [en, cur] en (fun k hp => (∃ old, IsEnum hp en cur ((k : Nat) : Int) old) ∧ hp.IsTupleIter cur a k ∧ en ≠ cur) where
  mem := by simp
  obj := fun k hp st b hb => by
    obtain ⟨⟨old, e1⟩, ⟨ob, e2, _, d2⟩, _⟩ := st
    rcases (show b = en ∨ b = cur by simpa using hb) with z | z
    · subst z; exact ⟨_, e1, fun v q => nomatch q⟩
    · subst z; exact ⟨ob, e2, fun v q => by rw [d2] at q; cases q⟩
  keep := fun k hp hp2 st keep => by
    obtain ⟨⟨old, e1⟩, e2, ne⟩ := st
    exact ⟨⟨old, keep en (by simp) _ e1⟩, e2.at fun ob q => keep cur (by simp) ob q, ne⟩
  item := by
    intro X hP hw hK hc k pins s σ H E I hf st hg
    subst hP hw hK
    obtain ⟨⟨old, e1⟩, e2, ne⟩ := st
    obtain ⟨xs, x, hs, hx⟩ := hg
    obtain ⟨its, rv, tp, _⟩ := I.tuple hs
    obtain ⟨u, hu, ru⟩ := rv.get hx
    have lt1 : en < s.heap.objs.size := Heap.lt_size e1
    have lt2 : cur < s.heap.objs.size := by obtain ⟨_, q, _⟩ := e2; exact Heap.lt_size q
    have hk : k < its.toArray.size := by simpa using (List.getElem?_eq_some_iff.mp hu).1
    refine wpAny_pyNext_enum_itemD (drawsT (A := X.A.in1) (I.ok.hd hc) hac its.toArray) e1 ⟨e2, tp⟩ hk ne (by simp [ne, hae.symm]) fun y hp2 tk hy out st2 hT sz keep => ?_
    have hy' : y = u := by
      have z : its.toArray[k]? = some u := by simpa using hu
      rw [z] at hy
      exact (Option.some.inj hy).symm
    subst hy'
    refine ⟨_, rfl, wpAny_letOwnedTupleGo_enum (s := { s with heap := hp2, toks := tk + 1 }) out fun hp3 e3 same => ?_⟩
    have hT2 : hp3.get? s.heap.objs.size = some { cls := .type "tuple", data := .seq #[.int k tk, y] } := (same.2 _ (Nat.ne_of_gt lt1)).trans hT
    have new : ObjOk X.prog X.w (upd H s.heap.objs.size (.tup [.int (k : Nat), x])) hp3 s.heap.objs.size (.tup [.int (k : Nat), x]) :=
      ⟨(show 2 ≤ sizeLine by decide), [.int k tk, y], .cons ⟨_, rfl⟩ (.cons ru .nil), ⟨_, hT2, rfl, _, rfl⟩⟩
    have J : Inv X pins σ (upd H s.heap.objs.size (.tup [.int (k : Nat), x])) { s with heap := hp3, toks := tk + 1 } :=
      I.turnedNew (ch := [en, cur]) (fun b ob hb q => (same.2 b (fun z => hb (by simp [z]))).trans (keep b ob (fun z => hb (by simp [z])) (fun z => hb (by simp [z])) q)) hf (Nat.le_refl _) new
    refine ⟨.ref s.heap.objs.size, _, J, rfl, ⟨_, x, rfl, I.hok.fresh (Nat.le_refl _), rfl, fun ys hy => by rw [I.tuple_inj hy hs]; exact hx⟩, ⟨⟨y, ?_⟩, st2.1.at fun ob q => (same.2 cur (Ne.symm ne)).trans q, ne⟩, fun b hb => ?_⟩
    · have q : ((k + 1 : Nat) : Int) = (k : Int) + 1 := by omega
      rw [q]; exact e3
    · have lt : b < s.heap.objs.size := by
        rcases (show b = en ∨ b = cur by simpa using hb) with z | z
        · subst z; exact lt1
        · subst z; exact lt2
      rw [upd_ne (Nat.ne_of_lt lt)]
      exact (hf b hb).1
  done := by
    intro X hP hw hK hc k pins s σ H E I hf st hg
    subst hP hw hK
    obtain ⟨⟨old, e1⟩, e2, ne⟩ := st
    obtain ⟨xs, hs, hx⟩ := hg
    obtain ⟨its, rv, tp, _⟩ := I.tuple hs
    obtain ⟨f0, f1, f2, f3, f4, f5⟩ := hf cur (by simp)
    have hl : its.toArray.size = k := by rw [List.size_toArray, ← rv.length]; exact hx
    subst hl
    exact wpAny_pyNext_enum_endD (drawsT (A := X.A.in1) (I.ok.hd hc) hac its.toArray) e1 ⟨e2, tp⟩ fun hp2 eb => ⟨rfl, I.turned (t' := s.toks) (fun b ob hb q => eb b ob hb q) f0 f1 f3 f4 f5⟩
  self := fun A k s Q E st fin => let ⟨⟨_, e1⟩, _⟩ := st; wpAny_pyIter_enum e1 fin
section
variable {X : Cx} {tg : Expr}
/-- enumerate(tuple) -/
def iEnumT (K : PySem.W.Frag) (ta : TA) : TI := fun σ H R => ta σ H fun vs H1 => ∃ a xs, vs = [.ref a] ∧ SqT K H1 a xs ∧ R (IteT K a) H1
theorem pi_enumT {e : Expr} {ta : TA} {p pos tpos : Pos} {elts : List Expr} {kk : Nat} (hg : Gl X "enumerate") (hm : X.mg "enumerate" = none) (ha : PA X [e] ta) (hs : starEach [e] X.env = [(false, eval e X.env)] := by rfl) :
    PI X (.Tuple elts kk tpos) (.Call (.Name "enumerate" p) [e] [] pos) (iEnumT X.K ta) := by
  refine ⟨fun pins s σ H R I h => Call_ (ld_blt I hg hm PyProof.Rows.boot_enumerate (PyProof.Rows.callWith_type1 (thn (ha.run pos pins s σ H _ I h) fun us s1 ⟨vs, H1, J, rs, q⟩ => ?_) hs rfl))⟩
  obtain ⟨a, xs, ev, hq, q⟩ := q
  subst ev
  cases rs with
  | cons r0 rr =>
    cases rr
    cases r0
    obtain ⟨its, rv, tp, _⟩ := J.tuple hq
    obtain ⟨ob, at_a, _⟩ := id tp
    have lt := Heap.lt_size at_a
    refine call_enumT (show s1.heap.IsTuple a its.toArray from tp) fun hp2 e1 e2 sz keep => wpAny_pyIter_enum e1 ?_
    have J2 : Inv X pins σ H1 { s1 with heap := hp2 } := J.kept (t' := s1.toks) keep
    refine ⟨s1.heap.objs.size + 1, [s1.heap.objs.size + 1, s1.heap.objs.size], _, _, H1, rfl, J2, turn_enumT a (s1.heap.objs.size + 1) s1.heap.objs.size (Nat.ne_of_lt lt) (Nat.ne_of_lt (Nat.lt_succ_of_lt lt)), ⟨⟨.none, e1⟩, e2, Nat.succ_ne_self _⟩, fun b hb => ?_, q⟩
    have le : s1.heap.objs.size ≤ b := by
      rcases (show b = s1.heap.objs.size + 1 ∨ b = s1.heap.objs.size by simpa using hb) with z | z
      · subst z; exact Nat.le_add_right _ _
      · subst z; exact Nat.le_refl _
    exact J.fpOk le (J.hok.fresh le)
/-- a list, a tuple, a text: whatever it is -/
def iAny (K : PySem.W.Frag) (te : TE) : TI := fun σ H R => te σ H fun x H1 => (∃ a, x = .ref a ∧ (∃ xs, SqL K H1 a xs) ∧ R (Itl K a) H1) ∨ (∃ a, x = .ref a ∧ (∃ xs, SqT K H1 a xs) ∧ R (Itt K a) H1) ∨ ∃ z, x = .str z ∧ R (Its z) H1
theorem pi_any {e : Expr} {te : TE} (he : PE X e te) : PI X tg e (iAny X.K te) := by
  refine ⟨fun pins s σ H R I h => thn (he.run pins s σ H _ I h) fun u s1 ⟨x, H1, J, r, q⟩ => ?_⟩
  rcases q with ⟨a, ex, ⟨xs, hq⟩, q⟩ | ⟨a, ex, ⟨xs, hq⟩, q⟩ | ⟨z, ex, q⟩
  · subst ex; cases r
    obtain ⟨its, rv, li, _⟩ := J.list hq
    exact wpAny_pyIter_list li.isList (pi_one (tk := s1.toks) J _ (turn_list a _) ⟨_, Heap.get?_push_size _ rfl, rfl, rfl⟩ q)
  · subst ex; cases r
    obtain ⟨its, rv, tp, _⟩ := J.tuple hq
    exact wpAny_pyIter_tuple (show s1.heap.IsTuple a its.toArray from tp) (pi_one (tk := s1.toks) J _ (turn_tuple a _) ⟨_, Heap.get?_push_size _ rfl, rfl, rfl⟩ q)
  · subst ex
    obtain ⟨t, rfl⟩ := r
    cases ascii : z.cps.all (· < 128)
    · exact wpAny_pyIter_wide ascii (pi_one (tk := s1.toks) J _ (turn_str _ z t "str_iterator" (.inr rfl)) ⟨_, Heap.get?_push_size _ rfl, rfl, rfl⟩ q)
    · exact wpAny_pyIter_ascii ascii (pi_one (tk := s1.toks) J _ (turn_str _ z t "str_ascii_iterator" (.inl rfl)) ⟨_, Heap.get?_push_size _ rfl, rfl, rfl⟩ q)
end
end DL
/-! DLg: defs that know that no repr is under way around them (so that repr of a list tells what is in it). -/
namespace DL
open PySem PySem.Spec L2
open PyProof.Rows hiding St

/-- room for k calls, no repr under way -/
structure RoomG (k : Nat) (A : Around) : Prop where
  r : Room k A
  g : A.guards = some []
theorem RoomG.mono {j k : Nat} {A : Around} (x : RoomG k A) (h : j ≤ k) : RoomG j A := ⟨x.r.mono h, x.g⟩
theorem RoomG.deeper {k : Nat} {A : Around} (x : RoomG (k + 1) A) (env : Env) : RoomG k (A.deeper env) := ⟨x.r.deeper env, x.g⟩
theorem RoomG.in1 {k : Nat} {A : Around} (x : RoomG (k + 1) A) : RoomG k A.in1 := ⟨x.r.in1, x.g⟩
theorem make_guards {A : Around} {C : Addr} {us : List Value} {kw : List (Str × Value)} : (A.under (.builtin "type.__call__" ⟨.ref C :: us, kw⟩)).guards = A.guards := by
  have h : (Code.builtin "type.__call__" ⟨.ref C :: us, kw⟩).isGuard = false := by
    show guardIds.contains "type.__call__" = false
    decide +kernel
  simp only [Around.under, Code.guards, h]
  cases A.guards <;> rfl
theorem RoomG.make {k : Nat} {A : Around} (x : RoomG (k + 1) A) (C : Addr) (us : List Value) (kw : List (Str × Value)) : RoomG k (A.under (.builtin "type.__call__" ⟨.ref C :: us, kw⟩)) :=
  ⟨x.r.make C us kw, make_guards.trans x.g⟩

abbrev CXD (P : Program) (w : World) : CXT := L2.CX P w
structure FnG (P : Program) (w : World) (K : PySem.W.Frag) (mg : Str → Option Value) (base : Heap) (k : Nat) (f : Addr) (fd : FuncData) (ps : List Str) (sp : Sp) : Prop where
  len : ∀ vs H Q E, sp vs H Q E → vs.length = ps.length
  run : ∀ (A : Around) (outer : List Env) (s : Shared) (H : Hp) (args : Args) (us : List Value) (vs : List V) (Q : VK) (E : XK), RoomG k A → Env0 P w K mg base A outer s H → BindsTo s fd args (ps.zip us) → Vals vs us → sp vs H Q E →
    codeAny (model P w) A (.call (.ref f) args) (CR (CXD P w) outer P w H s Q E) s
section
variable {P : Program} {w : World} {K : PySem.W.Frag} {mg : Str → Option Value} {base : Heap} {f : Addr} {fd : FuncData} {ps : List Str} {sp : Sp}
theorem FnG.mono {j k : Nat} (F : FnG P w K mg base j f fd ps sp) (h : j ≤ k) : FnG P w K mg base k f fd ps sp := ⟨F.len, fun A outer s H args us vs Q E hr => F.run A outer s H args us vs Q E (hr.mono h)⟩
theorem FnG.imp {k : Nat} {sp' : Sp} (F : FnG P w K mg base k f fd ps sp) (h : ∀ vs H Q E, sp' vs H Q E → sp vs H Q E) : FnG P w K mg base k f fd ps sp' :=
  ⟨fun vs H Q E q => F.len vs H Q E (h _ _ _ _ q), fun A outer s H args us vs Q E hr he hb hv q => F.run A outer s H args us vs Q E hr he hb hv (h _ _ _ _ q)⟩
/-- a def by its body -/
theorem fnG_of {k : Nat} {name qual : Str} {params : Arguments} {body : List Stmt} {scope : Scope} {dV kV doc pm cdv ct oc : Value} {an od : Option Addr} {osl : Array (Option Value)} {N : List Str}
    (lk : K.lookup f = some ⟨oc, od, .func (PySem.W.fnOf name qual params body scope dV kV doc pm an cdv ct), osl⟩) (hcd : PySem.W.codeIn K cdv qual = true) (S : FnScope N ps scope) (len : ∀ vs H Q E, sp vs H Q E → vs.length = ps.length)
    (hbody : ∀ (A : Around) (outer : List Env) (s : Shared) (H : Hp) (vs : List V) (Q : VK) (E : XK), RoomG k (A.deeper (envOfC qual scope s.heap.objs.size f cdv)) → sp vs H Q E →
      ∃ t, PSs (cxOf (CXD P w) P w K mg base N qual scope f cdv A outer s H E) body t ∧ t { nx := fun _ H' => Q .non H', rt := Q } (start N vs) H) :
    FnG P w K mg base (k + 1) f (PySem.W.fnOf name qual params body scope dV kV doc pm an cdv ct) ps sp := by
  refine ⟨len, fun A outer s H args us vs Q E room env0 binds rel hs => ?_⟩
  have nvs := len _ _ _ _ hs
  have inK : K.In s.heap := env0.mod.kin.keeps fun b o z => (env0.bs b o z).1
  have noLim : s.heap.NoLimit := env0.mod.nolimit.keeps fun b o z => (env0.bs b o z).1
  have kinds : ∀ y ∈ ps.zip us, scope.names.lookup y.1 = some .local ∨ (scope.names.lookup y.1 = some .cell ∧ ((cellsFrom (s.heap.objs.size + 1) scope.names []).lookup y.1).isSome = true) := fun ⟨n, v⟩ hy =>
    (S.par n (List.of_mem_zip hy).1).imp id fun z => ⟨z, PySem.W.cellsFrom_some _ _ _ (.inl z)⟩
  refine codeAny_call_function room.r.depth (inK _ _ lk) rfl S.co S.gen rfl (PySem.W.codeRec_of inK hcd) (binds _ _ _ _ ?_)
  refine wpAny_newFunctionEnv_cells S.kind kinds fun env ee s1 ic => ?_
  subst ee
  refine ⟨noLim.keeps ic.toInCall.keep, codeAny_func ?_⟩
  obtain ⟨t, ht, hq⟩ := hbody A outer s H vs Q E (room.deeper _) hs
  have I : Inv (cxOf (CXD P w) P w K mg base N qual scope f cdv A outer s H E) [] (start N vs) H s1 := inv_start S room.r.hd env0 nvs rel ic
  refine wpAny_mono (ht.run [] s1 (start N vs) H _ I hq) (fun fl s2 q => ?_) fun e s2 q => q
  cases fl with
  | ret u => obtain ⟨v, σ', H', J, rv, q⟩ := q; exact ⟨v, H', J.os, J.bare, J.base, J.hok, rv, q⟩
  | next => obtain ⟨σ', H', J, q⟩ := q; exact ⟨V.non, H', J.os, J.bare, J.base, J.hok, rfl, q⟩
  | brk => exact (q.elim fun _ z => z.elim fun _ z => z.2).elim
  | cont => exact (q.elim fun _ z => z.elim fun _ z => z.2).elim
end

section
variable {X : Cx} {k : Nat} {f C : Addr} {fd : FuncData} {ps : List Str} {sp : Sp} {dvs : List V} {ds : List Value} {E : XK} {x m : Str} {p pos apos : Pos} {e o : Expr} {es : List Expr} {ta : TE} {t : TA}
theorem back_of {pins : List (Addr × Obj)} {σ : St} {H : Hp} {s : Shared} {Q : VK} (hx : Passes (CXD X.prog X.w) X E) (I : Inv X pins σ H s) : ∀ r s', CR (CXD X.prog X.w) X.stack X.prog X.w H s Q E r s' →
    (match r with | .ok (.ret v) => EP X pins σ Q v s' | .ok _ => False | .error er => X.xe er s') := fun r s' z => by
  cases r with
  | error er => exact hx pins σ H s er s' I z
  | ok fl =>
    cases fl with
    | ret u => exact I.after z
    | next => exact z
    | brk => exact z
    | cont => exact z
theorem run_fnG {pins : List (Addr × Obj)} {σ : St} {H : Hp} {s : Shared} {Q : VK} {us : List Value} {vs : List V} (F : FnG X.prog X.w X.K X.mg X.base k f fd ps sp) (room : RoomG k X.A) (hb : Binds X.K fd ps ds) (hd : Vals dvs ds) (hx : Passes (CXD X.prog X.w) X E)
    (I : Inv X pins σ H s) (r : Vals vs us) (q : sp (vs ++ dvs) H Q E) : wpAny (model X.prog X.w) X.A (call (.ref f) us) (EP X pins σ Q) X.xe s := by
  have r2 := r.append hd
  have n2 : (us ++ ds).length = ps.length := r2.length.symm.trans (F.len _ _ _ _ q)
  refine wpAny_call (codeAny_mono (F.run X.A X.stack s H ⟨us, []⟩ (us ++ ds) (vs ++ dvs) Q E room I.env0 (hb s us I.kIn n2) r2 q) fun r s' z => ?_)
  have y := back_of hx I r s' z
  cases r with
  | error er => exact y
  | ok fl => cases fl <;> exact y
theorem pe_callG (F : FnG X.prog X.w X.K X.mg X.base k f fd ps sp) (room : RoomG k X.A) (hg : Gl X x) (hm : X.mg x = some (.ref f)) (hk : PySem.W.keepIn X.K (.ref f) = true) (hb : Binds X.K fd ps ds) (hd : Vals dvs ds) (hx : Passes (CXD X.prog X.w) X E)
    (ha : PA X (e :: es) t) (hdb : (x == ("__debug__" : Str)) = false := by decide) (he : starEach (e :: es) X.env = (false, eval e X.env) :: starEach es X.env := by rfl) (hpl : (backTo pos (starEach es X.env)).any (·.1) = false := by rfl) :
    PE X (.Call (.Name x p) (e :: es) [] pos) (tCall sp dvs E t) :=
  ⟨fun pins s σ H Q I h => wpAny_Call_Name_kw (ld_glob I hg hm (PySem.W.callWith_K (h₀ := X.base) I.ok.mod.kin hk (thn (ha.run pos pins s σ H _ I h) fun us s1 ⟨vs, H1, J, r, q⟩ => ⟨J.kIn, run_fnG F room hb hd hx J r q⟩) he hpl) hdb)⟩
theorem pe_call0G (F : FnG X.prog X.w X.K X.mg X.base k f fd ps sp) (room : RoomG k X.A) (hg : Gl X x) (hm : X.mg x = some (.ref f)) (hk : PySem.W.keepIn X.K (.ref f) = true) (hb : Binds X.K fd ps ds) (hd : Vals dvs ds) (hx : Passes (CXD X.prog X.w) X E)
    (hdb : (x == ("__debug__" : Str)) = false := by decide) : PE X (.Call (.Name x p) [] [] pos) (tCall sp dvs E tNil) :=
  ⟨fun pins s σ H Q I h => wpAny_Call_Name_kw (ld_glob I hg hm (PySem.W.callWith_K0 I.kIn hk (run_fnG (us := []) F room hb hd hx I .nil h)) hdb)⟩
theorem pe_methG {pl : Sem Bool} (he : PE X o ta) (c : Cls X.K C) (hm : Meth X.K C m f) (F : FnG X.prog X.w X.K X.mg X.base k f fd ps sp) (room : RoomG k X.A) (hb : Binds X.K fd ps ds) (hd : Vals dvs ds) (hx : Passes (CXD X.prog X.w) X E) (ha : PA X (e :: es) t)
    (hst : starEach (e :: es) X.env = (false, eval e X.env) :: starEach es X.env := by rfl) (hpl : (backTo pos (starEach es X.env)).any (·.1) = false := by rfl)
    (ht : eval (.Call (.Attribute o m apos) (e :: es) [] pos) X.env = (do
      let u ← eval o X.env
      standAt apos.atName
      let (g, first) ← holding [u] (getMethod u m pl)
      callWith pos g first (backTo pos (starEach (e :: es) X.env)) (backToKw pos (keywordEach [] X.env))) := by rfl) :
    PE X (.Call (.Attribute o m apos) (e :: es) [] pos) (tMeth C m sp dvs E ta t) := by
  refine ⟨fun pins s σ H Q I h => PySem.W.methodCall_KW (pl := pl) (thn (he.run pins s σ H _ I h) fun u s1 ⟨y, H1, J, ry, a, dx, fs, ey, ea, l, q⟩ => ?_) ht⟩
  subst ey
  obtain rfl : u = Value.ref a := ry
  refine getmeth_ok J ea c hm l (PySem.W.callWith_K (first := [.ref a]) (h₀ := X.base) I.ok.mod.kin hm.kp (thn (ha.run pos pins s1 σ H1 _ J q) fun us s2 ⟨vs, H2, J2, r, q2⟩ => ⟨J2.kIn, ?_⟩) hst hpl)
  exact run_fnG (us := .ref a :: us) (vs := .ref a :: vs) F room hb hd hx J2 (.cons rfl r) q2
theorem pe_meth0G {pl : Sem Bool} (he : PE X o ta) (c : Cls X.K C) (hm : Meth X.K C m f) (F : FnG X.prog X.w X.K X.mg X.base k f fd ps sp) (room : RoomG k X.A) (hb : Binds X.K fd ps ds) (hd : Vals dvs ds) (hx : Passes (CXD X.prog X.w) X E)
    (ht : eval (.Call (.Attribute o m apos) [] [] pos) X.env = (do
      let u ← eval o X.env
      standAt apos.atName
      let (g, first) ← holding [u] (getMethod u m pl)
      callWith pos g first (backTo pos (starEach [] X.env)) (backToKw pos (keywordEach [] X.env))) := by rfl) :
    PE X (.Call (.Attribute o m apos) [] [] pos) (tMeth C m sp dvs E ta tNil) := by
  refine ⟨fun pins s σ H Q I h => PySem.W.methodCall_KW (pl := pl) (thn (he.run pins s σ H _ I h) fun u s1 ⟨y, H1, J, ry, a, dx, fs, ey, ea, l, q⟩ => ?_) ht⟩
  subst ey
  obtain rfl : u = Value.ref a := ry
  exact getmeth_ok J ea c hm l (PySem.W.callWith_K0 (first := [.ref a]) J.kIn hm.kp (run_fnG (us := [.ref a]) (vs := [.ref a]) F room hb hd hx J (.cons rfl .nil) q))
/-- C(..), C(.., k = v): the values as they stand in the call, then the keywords' -/
theorem run_makeG {pins : List (Addr × Obj)} {σ : St} {H : Hp} {s : Shared} {Q : VK} {us zs : List Value} {kw : List (Str × Value)} {vs : List V} (M : Mk X.K C f) (F : FnG X.prog X.w X.K X.mg X.base k f fd ps sp) (room : RoomG (k + 1) X.A)
    (hb : ∀ (s : Shared) (u : Value), X.K.In s.heap → BindsTo s fd ⟨u :: us, kw⟩ (ps.zip (u :: zs))) (hx : Passes (CXD X.prog X.w) X E) (I : Inv X pins σ H s) (r : Vals vs zs)
    (q : ∀ x dx, H x = none → H dx = none → dx ≠ x → sp (.ref x :: vs) (upd (upd H dx (.own x)) x (.ins C dx [])) (fun v H2 => v = .non ∧ Q (.ref x) H2) E) :
    wpAny (model X.prog X.w) X.A (call (.ref C) us kw) (EP X pins σ Q) X.xe s := by
  have q1 := q (s.heap.objs.size + 1) s.heap.objs.size (I.hok.fresh (Nat.le_succ _)) (I.hok.fresh (Nat.le_refl _)) (Nat.ne_of_lt (Nat.lt_succ_self _))
  have J := Inv.made (C := C) I
  have r2 : Vals (V.ref (s.heap.objs.size + 1) :: vs) (Value.ref (s.heap.objs.size + 1) :: zs) := .cons rfl r
  refine wpAny_call (make_map (f := f) I.kIn M.makes M.init (beq_iff_eq.mp M.fn) (codeAny_mono (F.run _ X.stack _ _ ⟨Value.ref (s.heap.objs.size + 1) :: us, kw⟩ (Value.ref (s.heap.objs.size + 1) :: zs) _ _ E (room.make C us kw)
    (J.env0.make C us kw) (hb _ _ J.kIn) r2 q1) fun r s' z => ?_))
  have y := back_of hx J r s' z
  cases r with
  | error er => exact y
  | ok fl =>
    cases fl with
    | ret u => obtain ⟨v, H', J2, rv, ev, q3⟩ := y; subst ev; exact ⟨rv, ⟨V.ref (s.heap.objs.size + 1), H', J2, rfl, q3⟩⟩
    | next => exact y
    | brk => exact y
    | cont => exact y
theorem pe_makeG (M : Mk X.K C f) (F : FnG X.prog X.w X.K X.mg X.base k f fd ps sp) (room : RoomG (k + 1) X.A) (hg : Gl X x) (hm : X.mg x = some (.ref C)) (hb : Binds X.K fd ps ds) (hd : Vals dvs ds) (hx : Passes (CXD X.prog X.w) X E)
    (ha : PA X (e :: es) t) (hdb : (x == ("__debug__" : Str)) = false := by decide) (he : starEach (e :: es) X.env = (false, eval e X.env) :: starEach es X.env := by rfl) (hpl : (backTo pos (starEach es X.env)).any (·.1) = false := by rfl) :
    PE X (.Call (.Name x p) (e :: es) [] pos) (tMake C sp dvs E t) := by
  refine ⟨fun pins s σ H Q I h => wpAny_Call_Name_kw (ld_glob I hg hm (PySem.W.callWith_K (h₀ := X.base) I.ok.mod.kin M.kp (thn (ha.run pos pins s σ H _ I h) fun us s1 ⟨vs, H1, J, r, q⟩ => ⟨J.kIn, ?_⟩) he hpl) hdb)⟩
  have q1 := q (s1.heap.objs.size + 1) s1.heap.objs.size (J.hok.fresh (Nat.le_succ _)) (J.hok.fresh (Nat.le_refl _)) (Nat.ne_of_lt (Nat.lt_succ_self _))
  have n2 : (us ++ ds).length + 1 = ps.length := by
    have z := F.len _ _ _ _ q1
    rw [List.length_cons, (r.append hd).length] at z
    exact z
  exact run_makeG (zs := us ++ ds) (vs := vs ++ dvs) M F room (fun s u ks => hb s (u :: us) ks n2) hx J (r.append hd) q
/-- o.f, a property -/
theorem pe_propG {g a : Addr} (he : PE X e ta) (c : Cls X.K C) (hp : PropOf X.K C x a g) (F : FnG X.prog X.w X.K X.mg X.base k g fd ps sp) (room : RoomG (k + 1) X.A) (hb : Binds X.K fd ps ds) (hd : Vals dvs ds) (hx : Passes (CXD X.prog X.w) X.nox E)
    (hab : attributeBase e x X.env (eval e X.env) = eval e X.env) : PE X (.Attribute e x pos) (tProp C sp dvs E ta) := by
  refine ⟨fun pins s σ H Q I h => attr_of hab (thn (he.run pins s σ H _ I h) fun u s1 ⟨y, H1, J, ry, b, dx, fs, ey, eb, q⟩ => ?_)⟩
  subst ey
  obtain rfl : u = Value.ref b := ry
  obtain ⟨mA, O, _, _, _, _⟩ := ins_get J.hok eb
  obtain ⟨od, at_b, _⟩ := O.look
  obtain ⟨rest, isRec⟩ := hp.rec_
  have J1 := J.tok (s1.toks + 1)
  have n2 : ([Value.ref b] ++ ds).length = ps.length := by
    rw [← F.len _ _ _ _ q]
    show ds.length + 1 = dvs.length + 1
    rw [hd.length]
  have isCl : (PySem.W.clsIn X.K C).isSome = true := by
    obtain ⟨cd, z, _⟩ := PySem.W.any_some c.hd
    rw [z]; rfl
  refine PySem.W.get_bind J.kIn at_b (PySem.W.plainGet_of (c.get x)).1 (PySem.W.findObj_data isCl hp.at_ hp.get hp.tak) (PySem.W.plainGet_of (c.get x)).2 (wpAny_call (PySem.W.prop_get (s := { s1 with toks := s1.toks + 1 }) J.kIn isRec ?_))
  refine codeAny_mono (F.run X.A.in1 X.stack { s1 with toks := s1.toks + 1 } H1 ⟨[.ref b], []⟩ (.ref b :: ds) (.ref b :: dvs) Q E room.in1 J1.env0.in1 (hb _ [.ref b] J1.kIn n2) (.cons rfl hd) q) fun r s2 z => ?_
  cases r with
  | error er => exact (hx pins σ H1 { s1 with toks := s1.toks + 1 } er s2 (J1.wish _) z).elim
  | ok fl =>
    cases fl with
    | ret u =>
      obtain ⟨v, H2, J2, rv, q2⟩ := J1.after z
      show wpAny _ _ (handedOut u) _ _ _
      rw [PySem.W.handedOut_of (handed_of rv)]
      exact wpAny_pure ⟨v, H2, J2, rv, q2⟩
    | next => exact z.elim
    | brk => exact z.elim
    | cont => exact z.elim
end
end DL
/-! DL: a program logic over plain data, on top of the abstract heap: values are trees of data; a def's promise speaks of trees alone. -/
namespace DL
open PySem PySem.Spec L2
open PyProof.Rows hiding St

/-- data: what a value is, whatever the addresses -/
inductive D where
  | non
  | bl (b : Bool)
  | int (i : Int)
  | str (x : Str)
  | tup (l : List D)
  | lst (l : List D)
  | dic (l : List (Str × D))
  | ins (C : Addr) (fs : List (Str × D))
  | pail
  | scr (ns : List Int)
  | raw (v : V)
  | exn (a d : Addr) (fs : List (Str × D))
  /-- a dict whose keys are ints -/
  | dik (l : List (Int × D))
  /-- a dict at p whose keys are pairs of an int and a tuple of ints -/
  | kd (P : Program) (w : World) (p : Addr) (l : List ((Int × List Int) × D))

def Ex (H H' : Hp) : Prop := ∀ a o, H a = some o → H' a = some o
theorem Ex.refl (H : Hp) : Ex H H := fun _ _ h => h
theorem Ex.trans {H H1 H2 : Hp} (x : Ex H H1) (y : Ex H1 H2) : Ex H H2 := fun a o h => y a o (x a o h)
theorem Ex.new {H : Hp} {p : Addr} {o : HO} (h : H p = none) : Ex H (upd H p o) := fun a u e => (upd_ne (ne_of_none e h)).trans e
/-- an address that H does not know may hold anything -/
theorem Ex.aside {H H' : Hp} {p : Addr} {o : HO} (x : Ex H H') (h : H p = none) : Ex H (upd H' p o) := fun a u e => (upd_ne (ne_of_none e h)).trans (x a u e)
/-- both learn of it -/
theorem Ex.both {H H' : Hp} {p : Addr} {o : HO} (x : Ex H H') : Ex (upd H p o) (upd H' p o) := fun a u e => by
  by_cases q : a = p
  · subst q; rw [upd_same] at e ⊢; exact e
  · rw [upd_ne q] at e ⊢; exact x a u e
/-- the smaller one learns what the greater one knows -/
theorem Ex.learn {H H' : Hp} {p : Addr} {o : HO} (x : Ex H H') (h : H' p = some o) : Ex (upd H p o) H' := fun a u e => by
  by_cases q : a = p
  · subst q; rw [upd_same] at e; exact h.trans e
  · rw [upd_ne q] at e; exact x a u e
theorem Ex.back {H H' : Hp} {p : Addr} (x : Ex H H') (h : H' p = none) : H p = none := by
  cases q : H p with
  | none => rfl
  | some o => rw [x p o q] at h; cases h
theorem Ex.some {H H' : Hp} {p : Addr} (x : Ex H H') (h : H p ≠ none) : H' p ≠ none := by
  cases q : H p with
  | none => exact absurd q h
  | some o => rw [x p o q]; exact fun z => by cases z

/-- a list that draws numbers: three ints, the first one not below 0, the second one small -/
def PB (i j : Int) : Prop := 0 ≤ i ∧ 0 ≤ j ∧ j < 2147483648
def PailP (a : Addr) : HO := .ext fun h => ∃ (i j k : Int) (t u v : Tok) (n : Nat), PB i j ∧ h.get? a = some { cls := .type "list", data := .seq #[.int i t, .int j u, .int k v] n }

abbrev Ky := Int × List Int
def kyN (k : Ky) : NestedKey := .tup [.num k.1, .tup (k.2.map .num)]
/-- a dict with such keys, as its object alone tells it: each key with the place of its tuple, and the place of its value -/
def KdO (P : Program) (w : World) (d : Addr) (xs : List (Ky × Addr × Addr)) : HO := .ext fun h => (d == sysModules) = false ∧ ∃ o es ep, h.get? d = some o ∧ o.ExactDict ∧ o.data = .dict es ep ∧ es.toList = (xs.map fun x => (kyN x.1, x.2.1, Value.ref x.2.2)).map (entryOfKey (nestedKind P w)) ∧ (xs.map (·.1)).Nodup
/-- the tuple of such a key -/
def KyAt (K : PySem.W.Frag) (H : Hp) (k : Ky) (a : Addr) : Prop := ∃ a2, SqT K H a [V.int k.1, V.ref a2] ∧ SqT K H a2 (k.2.map V.int)
mutual
inductive Rep (K : PySem.W.Frag) (H : Hp) : V → D → Prop
  | non : Rep K H .non .non
  | bl (b : Bool) : Rep K H (.bl b) (.bl b)
  | int (i : Int) : Rep K H (.int i) (.int i)
  | str (x : Str) : Rep K H (.str x) (.str x)
  | tup {a : Addr} {xs : List V} {ds : List D} : SqT K H a xs → RepAll K H xs ds → Rep K H (.ref a) (.tup ds)
  | lst {a : Addr} {xs : List V} {ds : List D} : H a = some (.lst xs) → RepAll K H xs ds → Rep K H (.ref a) (.lst ds)
  | dic {a : Addr} {xs : List (Str × V)} {ds : List (Str × D)} : H a = some (.dK (xs.map fun p => (Sum.inr p.1, p.2))) → RepKV K H xs ds → Rep K H (.ref a) (.dic ds)
  | ins {a C dx : Addr} {xs : List (Str × V)} {ds : List (Str × D)} : H a = some (.ins C dx xs) → RepKV K H xs ds → Rep K H (.ref a) (.ins C ds)
  | pail {a : Addr} : H a = some (PailP a) → Rep K H (.ref a) .pail
  | scr {a : Addr} {ns : List Int} : SqL K H a (ns.map V.int) → Rep K H (.ref a) (.scr ns)
  | raw (v : V) : Rep K H v (.raw v)
  | exn {a d : Addr} {xs : List (Str × V)} {ds : List (Str × D)} : H d = some (.xd xs) → RepKV K H xs ds → Rep K H (.ref a) (.exn a d ds)
  | dik {a : Addr} {xs : List (Int × V)} {ds : List (Int × D)} : H a = some (.dK (xs.map fun p => (Sum.inl p.1, p.2))) → RepIV K H xs ds → Rep K H (.ref a) (.dik ds)
  | kd {P : Program} {w : World} {a p : Addr} {xs : List (Ky × Addr × Addr)} {ds : List (Ky × D)} : H a = some (KdO P w p xs) → RepNV K H xs ds → Rep K H (.ref a) (.kd P w p ds)
inductive RepAll (K : PySem.W.Frag) (H : Hp) : List V → List D → Prop
  | nil : RepAll K H [] []
  | cons {v : V} {vs : List V} {d : D} {ds : List D} : Rep K H v d → RepAll K H vs ds → RepAll K H (v :: vs) (d :: ds)
inductive RepKV (K : PySem.W.Frag) (H : Hp) : List (Str × V) → List (Str × D) → Prop
  | nil : RepKV K H [] []
  | cons {k : Str} {v : V} {vs : List (Str × V)} {d : D} {ds : List (Str × D)} : Rep K H v d → RepKV K H vs ds → RepKV K H ((k, v) :: vs) ((k, d) :: ds)
inductive RepIV (K : PySem.W.Frag) (H : Hp) : List (Int × V) → List (Int × D) → Prop
  | nil : RepIV K H [] []
  | cons {k : Int} {v : V} {vs : List (Int × V)} {d : D} {ds : List (Int × D)} : Rep K H v d → RepIV K H vs ds → RepIV K H ((k, v) :: vs) ((k, d) :: ds)
inductive RepNV (K : PySem.W.Frag) (H : Hp) : List (Ky × Addr × Addr) → List (Ky × D) → Prop
  | nil : RepNV K H [] []
  | cons {k : Ky} {a b : Addr} {vs : List (Ky × Addr × Addr)} {d : D} {ds : List (Ky × D)} : KyAt K H k a → Rep K H (.ref b) d → RepNV K H vs ds → RepNV K H ((k, a, b) :: vs) ((k, d) :: ds)
end

theorem sqL_ex {K : PySem.W.Frag} {H H' : Hp} {a : Addr} {xs : List V} (e : Ex H H') (h : SqL K H a xs) : SqL K H' a xs := by
  rcases h with (h | ⟨o, h⟩) | h
  · exact .inl (.inl (e _ _ h))
  · exact .inl (.inr ⟨o, e _ _ h⟩)
  · exact .inr h
theorem sqT_ex {K : PySem.W.Frag} {H H' : Hp} {a : Addr} {xs : List V} (e : Ex H H') (h : SqT K H a xs) : SqT K H' a xs := by
  rcases h with (h | ⟨o, h⟩) | h
  · exact .inl (.inl (e _ _ h))
  · exact .inl (.inr ⟨o, e _ _ h⟩)
  · exact .inr h
theorem kyAt_ex {K : PySem.W.Frag} {H H' : Hp} {k : Ky} {a : Addr} (e : Ex H H') (h : KyAt K H k a) : KyAt K H' k a := let ⟨a2, h1, h2⟩ := h; ⟨a2, sqT_ex e h1, sqT_ex e h2⟩
section
variable {K : PySem.W.Frag} {H H' : Hp}
mutual
theorem Rep.mono (e : Ex H H') : ∀ {v : V} {d : D}, Rep K H v d → Rep K H' v d
  | _, _, .non => .non
  | _, _, .bl b => .bl b
  | _, _, .int i => .int i
  | _, _, .str x => .str x
  | _, _, .tup h hs => .tup (sqT_ex e h) (RepAll.mono e hs)
  | _, _, .lst h hs => .lst (e _ _ h) (RepAll.mono e hs)
  | _, _, .dic h hs => .dic (e _ _ h) (RepKV.mono e hs)
  | _, _, .ins h hs => .ins (e _ _ h) (RepKV.mono e hs)
  | _, _, .pail h => .pail (e _ _ h)
  | _, _, .scr h => .scr (sqL_ex e h)
  | _, _, .raw v => .raw v
  | _, _, .exn h hs => .exn (e _ _ h) (RepKV.mono e hs)
  | _, _, .dik h hs => .dik (e _ _ h) (RepIV.mono e hs)
  | _, _, .kd h hs => .kd (e _ _ h) (RepNV.mono e hs)
theorem RepAll.mono (e : Ex H H') : ∀ {vs : List V} {ds : List D}, RepAll K H vs ds → RepAll K H' vs ds
  | _, _, .nil => .nil
  | _, _, .cons h hs => .cons (Rep.mono e h) (RepAll.mono e hs)
theorem RepKV.mono (e : Ex H H') : ∀ {vs : List (Str × V)} {ds : List (Str × D)}, RepKV K H vs ds → RepKV K H' vs ds
  | _, _, .nil => .nil
  | _, _, .cons h hs => .cons (Rep.mono e h) (RepKV.mono e hs)
theorem RepIV.mono (e : Ex H H') : ∀ {vs : List (Int × V)} {ds : List (Int × D)}, RepIV K H vs ds → RepIV K H' vs ds
  | _, _, .nil => .nil
  | _, _, .cons h hs => .cons (Rep.mono e h) (RepIV.mono e hs)
theorem RepNV.mono (e : Ex H H') : ∀ {vs : List (Ky × Addr × Addr)} {ds : List (Ky × D)}, RepNV K H vs ds → RepNV K H' vs ds
  | _, _, .nil => .nil
  | _, _, .cons hk h hs => .cons (kyAt_ex e hk) (Rep.mono e h) (RepNV.mono e hs)
end
theorem RepAll.length : ∀ {vs : List V} {ds : List D}, RepAll K H vs ds → vs.length = ds.length
  | _, _, .nil => rfl
  | _, _, .cons _ h => by simp [h.length]
theorem RepAll.append : ∀ {vs ws : List V} {ds es : List D}, RepAll K H vs ds → RepAll K H ws es → RepAll K H (vs ++ ws) (ds ++ es)
  | _, _, _, _, .nil, h => h
  | _, _, _, _, .cons h hs, h' => .cons h (hs.append h')
theorem RepAll.get : ∀ {vs : List V} {ds : List D} {i : Nat} {d : D}, RepAll K H vs ds → ds[i]? = some d → ∃ v, vs[i]? = some v ∧ Rep K H v d
  | _, _, _, _, .nil, e => by simp at e
  | _, _, 0, _, .cons h _, e => by simp at e; subst e; exact ⟨_, rfl, h⟩
  | _, _, i + 1, d, .cons _ hs, e => by
    obtain ⟨v, h1, h2⟩ := hs.get (i := i) (d := d) (by simpa using e)
    exact ⟨v, by simpa using h1, h2⟩
theorem RepAll.getV : ∀ {vs : List V} {ds : List D} {i : Nat} {v : V}, RepAll K H vs ds → vs[i]? = some v → ∃ d, ds[i]? = some d ∧ Rep K H v d
  | _, _, _, _, .nil, e => by simp at e
  | _, _, 0, _, .cons h _, e => by simp at e; subst e; exact ⟨_, rfl, h⟩
  | _, _, i + 1, v, .cons _ hs, e => by
    obtain ⟨d, h1, h2⟩ := hs.getV (i := i) (v := v) (by simpa using e)
    exact ⟨d, by simpa using h1, h2⟩
theorem RepAll.take : ∀ {vs : List V} {ds : List D} (n : Nat), RepAll K H vs ds → RepAll K H (vs.take n) (ds.take n)
  | _, _, 0, _ => .nil
  | _, _, _ + 1, .nil => .nil
  | _, _, n + 1, .cons h hs => .cons h (hs.take n)
theorem RepAll.drop : ∀ {vs : List V} {ds : List D} (n : Nat), RepAll K H vs ds → RepAll K H (vs.drop n) (ds.drop n)
  | _, _, 0, h => h
  | _, _, _ + 1, .nil => .nil
  | _, _, n + 1, .cons _ hs => hs.drop n
theorem RepAll.erase : ∀ {vs : List V} {ds : List D} (n : Nat), RepAll K H vs ds → RepAll K H (vs.eraseIdx n) (ds.eraseIdx n)
  | _, _, _, .nil => .nil
  | _, _, 0, .cons _ hs => hs
  | _, _, n + 1, .cons h hs => .cons h (hs.erase n)
theorem RepAll.ints : ∀ (ns : List Int), RepAll K H (ns.map V.int) (ns.map D.int)
  | [] => .nil
  | _ :: ns => .cons (.int _) (RepAll.ints ns)
theorem RepAll.ofInts : ∀ {vs : List V} {ns : List Int}, RepAll K H vs (ns.map D.int) → vs = ns.map V.int
  | _, [], .nil => rfl
  | _, _ :: ns, .cons (.int _) hs => by rw [List.map_cons, RepAll.ofInts hs]
theorem RepAll.strs : ∀ (ns : List Str), RepAll K H (ns.map V.str) (ns.map D.str)
  | [] => .nil
  | _ :: ns => .cons (.str _) (RepAll.strs ns)
theorem RepAll.ofStrs : ∀ {vs : List V} {ns : List Str}, RepAll K H vs (ns.map D.str) → vs = ns.map V.str
  | _, [], .nil => rfl
  | _, _ :: ns, .cons (.str _) hs => by rw [List.map_cons, RepAll.ofStrs hs]
theorem RepAll.ofBools : ∀ {vs : List V} {ns : List Bool}, RepAll K H vs (ns.map D.bl) → vs = ns.map V.bl
  | _, [], .nil => rfl
  | _, _ :: ns, .cons (.bl _) hs => by rw [List.map_cons, RepAll.ofBools hs]
theorem RepKV.lookup : ∀ {vs : List (Str × V)} {ds : List (Str × D)} {f : Str} {d : D}, RepKV K H vs ds → ds.lookup f = some d → ∃ v, vs.lookup f = some v ∧ Rep K H v d
  | _, _, _, _, .nil, e => by simp at e
  | _, _, f, d, .cons (k := k) h hs, e => by
    rw [List.lookup_cons] at e
    cases q : f == k with
    | true => rw [q] at e; cases e; exact ⟨_, by rw [List.lookup_cons, q], h⟩
    | false =>
      rw [q] at e
      obtain ⟨v, h1, h2⟩ := hs.lookup e
      exact ⟨v, by rw [List.lookup_cons, q]; exact h1, h2⟩
theorem RepKV.noKey : ∀ {vs : List (Str × V)} {ds : List (Str × D)} {f : Str}, RepKV K H vs ds → ds.lookup f = none → vs.lookup f = none
  | _, _, _, .nil, _ => rfl
  | _, _, f, .cons (k := k) h hs, e => by
    rw [List.lookup_cons] at e ⊢
    cases q : f == k with
    | true => rw [q] at e; cases e
    | false => rw [q] at e; exact hs.noKey e
theorem RepKV.length : ∀ {vs : List (Str × V)} {ds : List (Str × D)}, RepKV K H vs ds → vs.length = ds.length
  | _, _, .nil => rfl
  | _, _, .cons _ h => by simp [h.length]
end

/-! ### slots and heaps -/
inductive Sl where
  /-- data that is never changed again -/
  | dat (d : D)
  /-- a list, a dict, an object of the def's own, which nobody else knows: it may change -/
  | own (t : Option Addr) (d : D)
abbrev Env' := List (Option Sl)
/-- what stands at an address, as data -/
inductive RepO (K : PySem.W.Frag) (H : Hp) : HO → D → Prop
  | lst {xs : List V} {ds : List D} : RepAll K H xs ds → RepO K H (.lst xs) (.lst ds)
  | dic {xs : List (Str × V)} {ds : List (Str × D)} : RepKV K H xs ds → RepO K H (.dK (xs.map fun p => (Sum.inr p.1, p.2))) (.dic ds)
  | ins {C dx : Addr} {xs : List (Str × V)} {ds : List (Str × D)} : RepKV K H xs ds → RepO K H (.ins C dx xs) (.ins C ds)
  | dik {xs : List (Int × V)} {ds : List (Int × D)} : RepIV K H xs ds → RepO K H (.dK (xs.map fun p => (Sum.inl p.1, p.2))) (.dik ds)
  | kd {P : Program} {w : World} {p : Addr} {xs : List (Ky × Addr × Addr)} {ds : List (Ky × D)} : RepNV K H xs ds → RepO K H (KdO P w p xs) (.kd P w p ds)
theorem RepO.mono {K : PySem.W.Frag} {H H' : Hp} (e : Ex H H') : ∀ {o : HO} {d : D}, RepO K H o d → RepO K H' o d
  | _, _, .lst h => .lst (h.mono e)
  | _, _, .dic h => .dic (h.mono e)
  | _, _, .ins h => .ins (h.mono e)
  | _, _, .dik h => .dik (h.mono e)
  | _, _, .kd h => .kd (h.mono e)
theorem RepO.rep {K : PySem.W.Frag} {H : Hp} {p : Addr} (hp : H p = none) : ∀ {o : HO} {d : D}, RepO K H o d → Rep K (upd H p o) (.ref p) d
  | _, _, .lst h => .lst upd_same (h.mono (Ex.new hp))
  | _, _, .dic h => .dic upd_same (h.mono (Ex.new hp))
  | _, _, .ins h => .ins upd_same (h.mono (Ex.new hp))
  | _, _, .dik h => .dik upd_same (h.mono (Ex.new hp))
  | _, _, .kd h => .kd upd_same (h.mono (Ex.new hp))
/-- the entry: the heap, and the part of it that promises speak of -/
structure Ctx where
  He : Hp
  H0 : Hp
  /-- tables of code objects, which may grow -/
  T : List (Addr × Str)
/-- what is known stays; tables may grow, if T says so -/
def ExN (T : List (Addr × Str)) (H H' : Hp) : Prop := ∀ a o, H a = some o → H' a = some o ∨ (T ≠ [] ∧ ∃ ps ps', o = .tbl ps ∧ H' a = some (.tbl ps'))
section
variable {T : List (Addr × Str)} {H H' H2 : Hp} {p : Addr} {o : HO}
theorem ExN.of (x : Ex H H') : ExN T H H' := fun a u e => .inl (x a u e)
theorem ExN.ex (x : ExN [] H H') : Ex H H' := fun a u e => (x a u e).elim id fun z => absurd rfl z.1
theorem ExN.refl : ExN T H H := fun _ _ e => .inl e
theorem ExN.trans (x : ExN T H H') (y : ExN T H' H2) : ExN T H H2 := fun a u e => by
  rcases x a u e with q | ⟨n, ps, ps', e1, q⟩
  · exact y a u q
  · rcases y a _ q with z | ⟨_, qs, qs', e2, z⟩
    · exact .inr ⟨n, ps, ps', e1, z⟩
    · exact .inr ⟨n, ps, qs', e1, z⟩
theorem ExN.some' (x : ExN T H H') (h : H p ≠ none) : H' p ≠ none := by
  cases q : H p with
  | none => exact absurd q h
  | some u =>
    rcases x p u q with z | ⟨_, _, _, _, z⟩ <;> rw [z] <;> exact fun z => by cases z
theorem ExN.back (x : ExN T H H') (h : H' p = none) : H p = none := by
  cases q : H p with
  | none => rfl
  | some u => exact absurd h (x.some' (by rw [q]; exact fun z => by cases z))
theorem ExN.aside (x : ExN T H H') (h : H p = none) : ExN T H (upd H' p o) := fun a u e => by
  rw [upd_ne (ne_of_none e h)]
  exact x a u e
end
structure PX (c : Ctx) (H0 H : Hp) : Prop where
  e : ExN c.T c.He H
  e0 : Ex c.H0 H0
  i : Ex H0 H
  n : ∀ p, c.He p ≠ none → c.H0 p = none → H0 p = none
theorem PX.refl {T : List (Addr × Str)} {H0 H : Hp} (i : Ex H0 H) : PX ⟨H, H0, T⟩ H0 H := ⟨.refl, .refl _, i, fun _ _ h => h⟩
theorem PX.ex {He Hz H0 H : Hp} (x : PX ⟨He, Hz, []⟩ H0 H) : Ex He H := x.e.ex
theorem PX.trans {c : Ctx} {H0 H H0' H' : Hp} (x : PX c H0 H) (y : PX ⟨H, H0, []⟩ H0' H') : PX c H0' H' :=
  ⟨x.e.trans (.of y.ex), x.e0.trans y.e0, y.i, fun p h1 h2 => y.n p (x.e.some' h1) (x.n p h1 h2)⟩
theorem PX.transT {c : Ctx} {H0 H H0' H' : Hp} (x : PX c H0 H) (y : PX ⟨H, H0, c.T⟩ H0' H') : PX c H0' H' :=
  ⟨x.e.trans y.e, x.e0.trans y.e0, y.i, fun p h1 h2 => y.n p (x.e.some' h1) (x.n p h1 h2)⟩
/-- the heap stays, the part learns of a thing that was new to the entry -/
theorem PX.learn {c : Ctx} {H0 H : Hp} {p : Addr} {o : HO} (x : PX c H0 H) (h : H p = some o) (h0 : H0 p = none) (hc : c.He p = none) : PX c (upd H0 p o) H :=
  ⟨x.e, fun a u e => (upd_ne (ne_of_none (x.e0 a u e) h0)).trans (x.e0 a u e), x.i.learn h, fun q h1 h2 => by
    by_cases e : q = p
    · subst e; exact absurd hc h1
    · rw [upd_ne e]; exact x.n q h1 h2⟩
/-- a new thing that both know -/
theorem PX.new {c : Ctx} {H0 H : Hp} {p : Addr} {o : HO} (x : PX c H0 H) (h : H p = none) : PX c (upd H0 p o) (upd H p o) :=
  ⟨x.e.aside (x.e.back h), x.e0.aside (x.e0.back (x.i.back h)), x.i.both, fun q h1 h2 => by
    by_cases e : q = p
    · subst e; exact absurd (x.e.back h) h1
    · rw [upd_ne e]; exact x.n q h1 h2⟩
/-- a thing that the part does not know, and that the entry did not know, changes -/
theorem PX.change {c : Ctx} {H0 H : Hp} {p : Addr} {o : HO} (x : PX c H0 H) (h0 : H0 p = none) (hc : c.He p = none) : PX c H0 (upd H p o) :=
  ⟨x.e.aside hc, x.e0, x.i.aside h0, x.n⟩

inductive Slots (K : PySem.W.Frag) (H0 H : Hp) : Env' → St → List Addr → Prop
  | nil : Slots K H0 H [] [] []
  | skip {ρ : Env'} {σ : St} {os : List Addr} {x : Option V} : Slots K H0 H ρ σ os → Slots K H0 H (none :: ρ) (x :: σ) os
  | dat {ρ : Env'} {σ : St} {os : List Addr} {v : V} {d : D} : Rep K H0 v d → Slots K H0 H ρ σ os → Slots K H0 H (some (.dat d) :: ρ) (some v :: σ) os
  | own {ρ : Env'} {σ : St} {os : List Addr} {p : Addr} {o : HO} {t : Option Addr} {d : D} : (∀ q, t = some q → p = q) → H p = some o → RepO K H0 o d → Slots K H0 H ρ σ os → Slots K H0 H (some (.own t d) :: ρ) (some (.ref p) :: σ) (p :: os)
section
variable {K : PySem.W.Frag} {H0 H H0' H' : Hp}
theorem Slots.len : ∀ {ρ : Env'} {σ : St} {os : List Addr}, Slots K H0 H ρ σ os → ρ.length = σ.length
  | _, _, _, .nil => rfl
  | _, _, _, .skip h => by simp [h.len]
  | _, _, _, .dat _ h => by simp [h.len]
  | _, _, _, .own _ _ _ h => by simp [h.len]
/-- the part grows, the lists of one's own stay -/
theorem Slots.mono (e0 : Ex H0 H0') : ∀ {ρ : Env'} {σ : St} {os : List Addr}, Slots K H0 H ρ σ os → (∀ p ∈ os, H' p = H p) → Slots K H0' H' ρ σ os
  | _, _, _, .nil, _ => .nil
  | _, _, _, .skip h, k => .skip (h.mono e0 k)
  | _, _, _, .dat r h, k => .dat (r.mono e0) (h.mono e0 k)
  | _, _, _, .own ht hp r h, k => .own ht ((k _ List.mem_cons_self).trans hp) (r.mono e0) (h.mono e0 fun p hp => k p (List.mem_cons_of_mem _ hp))
theorem Slots.get : ∀ {ρ : Env'} {σ : St} {os : List Addr} {i : Nat} {d : D}, Slots K H0 H ρ σ os → ρ[i]? = some (some (.dat d)) → ∃ v, σ[i]? = some (some v) ∧ Rep K H0 v d
  | _, _, _, _, _, .nil, e => by simp at e
  | _, _, _, 0, _, .skip h, e => by simp at e
  | _, _, _, i + 1, d, .skip h, e => by obtain ⟨v, h1, h2⟩ := h.get (i := i) (d := d) (by simpa using e); exact ⟨v, by simpa using h1, h2⟩
  | _, _, _, 0, d, .dat r h, e => by simp at e; subst e; exact ⟨_, rfl, r⟩
  | _, _, _, i + 1, d, .dat r h, e => by obtain ⟨v, h1, h2⟩ := h.get (i := i) (d := d) (by simpa using e); exact ⟨v, by simpa using h1, h2⟩
  | _, _, _, 0, d, .own _ _ _ h, e => by simp at e
  | _, _, _, i + 1, d, .own _ _ _ h, e => by obtain ⟨v, h1, h2⟩ := h.get (i := i) (d := d) (by simpa using e); exact ⟨v, by simpa using h1, h2⟩
theorem Slots.getOwn : ∀ {ρ : Env'} {σ : St} {os : List Addr} {i : Nat} {t : Option Addr} {d : D}, Slots K H0 H ρ σ os → ρ[i]? = some (some (.own t d)) → ∃ p o, σ[i]? = some (some (.ref p)) ∧ p ∈ os ∧ (∀ q, t = some q → p = q) ∧ H p = some o ∧ RepO K H0 o d
  | _, _, _, _, _, _, .nil, e => by simp at e
  | _, _, _, 0, _, _, .skip h, e => by simp at e
  | _, _, _, i + 1, t, d, .skip h, e => by obtain ⟨p, o, h1, h2⟩ := h.getOwn (i := i) (t := t) (d := d) (by simpa using e); exact ⟨p, o, by simpa using h1, h2⟩
  | _, _, _, 0, t, d, .dat r h, e => by simp at e
  | _, _, _, i + 1, t, d, .dat r h, e => by obtain ⟨p, o, h1, h2⟩ := h.getOwn (i := i) (t := t) (d := d) (by simpa using e); exact ⟨p, o, by simpa using h1, h2⟩
  | _, _, _, 0, t, d, .own ht hp r h, e => by simp at e; obtain ⟨rfl, rfl⟩ := e; exact ⟨_, _, rfl, List.mem_cons_self, ht, hp, r⟩
  | _, _, _, i + 1, t, d, .own _ _ _ h, e => by obtain ⟨p, o, h1, hm, h2⟩ := h.getOwn (i := i) (t := t) (d := d) (by simpa using e); exact ⟨p, o, by simpa using h1, List.mem_cons_of_mem _ hm, h2⟩
/-- a slot is given a value -/
theorem Slots.setDat {v : V} {d : D} (r : Rep K H0 v d) : ∀ {ρ : Env'} {σ : St} {os : List Addr} (i : Nat), Slots K H0 H ρ σ os → ∃ os', Slots K H0 H (ρ.set i (some (.dat d))) (σ.set i (some v)) os' ∧ os'.Sublist os
  | _, _, _, _, .nil => ⟨[], .nil, .slnil⟩
  | _, _, _, 0, .skip h => ⟨_, .dat r h, .refl _⟩
  | _, _, _, i + 1, .skip h => let ⟨os', h1, h2⟩ := h.setDat r i; ⟨os', .skip h1, h2⟩
  | _, _, _, 0, .dat _ h => ⟨_, .dat r h, .refl _⟩
  | _, _, _, i + 1, .dat r' h => let ⟨os', h1, h2⟩ := h.setDat r i; ⟨os', .dat r' h1, h2⟩
  | _, _, _, 0, .own _ _ _ h => ⟨_, .dat r h, List.sublist_cons_self _ _⟩
  | _, _, _, i + 1, .own ht hp r' h => let ⟨os', h1, h2⟩ := h.setDat r i; ⟨_ :: os', .own ht hp r' h1, .cons_cons _ h2⟩
/-- .. a list of its own -/
theorem Slots.setOwn {p : Addr} {o : HO} {t : Option Addr} {ds : D} (ht : ∀ q, t = some q → p = q) (hp : H p = some o) (r : RepO K H0 o ds) : ∀ {ρ : Env'} {σ : St} {os : List Addr} (i : Nat), Slots K H0 H ρ σ os → ∃ os', Slots K H0 H (ρ.set i (some (.own t ds))) (σ.set i (some (.ref p))) os' ∧ (∀ q ∈ os', q = p ∨ q ∈ os) ∧ (os.Nodup → p ∉ os → os'.Nodup)
  | _, _, _, _, .nil => ⟨[], .nil, fun _ h => (by cases h), fun _ _ => List.nodup_nil⟩
  | _, _, _, 0, .skip h => ⟨_, .own ht hp r h, fun q hq => List.mem_cons.mp hq, fun n m => List.nodup_cons.mpr ⟨m, n⟩⟩
  | _, _, _, i + 1, .skip h => let ⟨os', h1, h2, h3⟩ := h.setOwn ht hp r i; ⟨os', .skip h1, h2, h3⟩
  | _, _, _, 0, .dat _ h => ⟨_, .own ht hp r h, fun q hq => List.mem_cons.mp hq, fun n m => List.nodup_cons.mpr ⟨m, n⟩⟩
  | _, _, _, i + 1, .dat r' h => let ⟨os', h1, h2, h3⟩ := h.setOwn ht hp r i; ⟨os', .dat r' h1, h2, h3⟩
  | _, _, _, 0, .own _ _ _ h => ⟨_, .own ht hp r h, fun q hq => (List.mem_cons.mp hq).imp id (List.mem_cons_of_mem _), fun n m => List.nodup_cons.mpr ⟨fun z => m (List.mem_cons_of_mem _ z), (List.nodup_cons.mp n).2⟩⟩
  | _, _, _, i + 1, .own (p := p') ht' hp' r' h => let ⟨os', h1, h2, h3⟩ := h.setOwn ht hp r i; ⟨p' :: os', .own ht' hp' r' h1, fun q hq => (List.mem_cons.mp hq).elim (fun e => .inr (e ▸ List.mem_cons_self)) fun m => (h2 q m).imp id (List.mem_cons_of_mem _),
      fun n m => List.nodup_cons.mpr ⟨fun z => (h2 p' z).elim (fun e => m (e ▸ List.mem_cons_self)) (List.nodup_cons.mp n).1, h3 (List.nodup_cons.mp n).2 fun z => m (List.mem_cons_of_mem _ z)⟩⟩
/-- the list of one's own in slot i has changed -/
theorem Slots.turn {p : Addr} {o : HO} {t : Option Addr} {ds ds' : D} (r : RepO K H0 o ds') : ∀ {ρ : Env'} {σ : St} {os : List Addr} {i : Nat}, Slots K H0 H ρ σ os → os.Nodup → ρ[i]? = some (some (.own t ds)) → σ[i]? = some (some (.ref p)) →
    Slots K H0 (upd H p o) (ρ.set i (some (.own t ds'))) σ os
  | _, _, _, _, .nil, _, e, _ => by simp at e
  | _, _, _, 0, .skip h, _, e, _ => by simp at e
  | _, _, _, i + 1, .skip h, n, e, e2 => .skip (h.turn r n (by simpa using e) (by simpa using e2))
  | _, _, _, 0, .dat _ h, _, e, _ => by simp at e
  | _, _, _, i + 1, .dat r' h, n, e, e2 => .dat r' (h.turn r n (by simpa using e) (by simpa using e2))
  | _, _, _, 0, .own ht hp _ h, n, e, e2 => by
    simp at e e2; subst e2; obtain ⟨rfl, rfl⟩ := e
    exact .own ht upd_same r (h.mono (.refl _) fun q hq => upd_ne fun z => (List.nodup_cons.mp n).1 (z ▸ hq))
  | _, _, _, i + 1, .own (p := p') ht hp r' h, n, e, e2 => by
    have e' := e
    have e2' := e2
    rw [List.getElem?_cons_succ] at e' e2'
    obtain ⟨q, ws, h1, hm, _⟩ := h.getOwn e'
    rw [e2'] at h1
    cases h1
    have hne : p' ≠ p := fun z => (List.nodup_cons.mp n).1 (by rw [z]; exact hm)
    exact .own ht ((upd_ne hne).trans hp) r' (h.turn r (List.nodup_cons.mp n).2 e' e2')
theorem Slots.known : ∀ {ρ : Env'} {σ : St} {os : List Addr}, Slots K H0 H ρ σ os → ∀ p ∈ os, H p ≠ none
  | _, _, _, .nil, _, h => by cases h
  | _, _, _, .skip h, p, m => h.known p m
  | _, _, _, .dat _ h, p, m => h.known p m
  | _, _, _, .own _ hp _ h, p, m => by
    rcases List.mem_cons.mp m with e | m
    · subst e; rw [hp]; exact fun z => by cases z
    · exact h.known p m
theorem Slots.ownAt : ∀ {ρ : Env'} {σ : St} {os : List Addr}, Slots K H0 H ρ σ os → ∀ p ∈ os, ∃ (t : D) (o : HO) (d : D), H p = some o ∧ RepO K H0 o d
  | _, _, _, .nil, _, h => by cases h
  | _, _, _, .skip h, p, m => h.ownAt p m
  | _, _, _, .dat _ h, p, m => h.ownAt p m
  | _, _, _, .own (d := d) _ hp r h, p, m => by
    rcases List.mem_cons.mp m with e | m
    · subst e; exact ⟨d, _, _, hp, r⟩
    · exact h.ownAt p m
/-- the list of one's own in slot i is given away: it will not change any more -/
theorem Slots.freeze {p : Addr} {o : HO} {t : Option Addr} {d : D} (h0 : H0 p = none) (r : RepO K H0 o d) : ∀ {ρ : Env'} {σ : St} {os : List Addr} {i : Nat}, Slots K H0 H ρ σ os → os.Nodup → ρ[i]? = some (some (.own t d)) → σ[i]? = some (some (.ref p)) →
    ∃ os', Slots K (upd H0 p o) H (ρ.set i (some (.dat d))) σ os' ∧ os'.Sublist os ∧ p ∉ os'
  | _, _, _, _, .nil, _, e, _ => by simp at e
  | _, _, _, 0, .skip h, _, e, _ => by simp at e
  | _, _, _, i + 1, .skip h, n, e, e2 => let ⟨os', h1, h2, h3⟩ := h.freeze h0 r n (by simpa using e) (by simpa using e2); ⟨os', .skip h1, h2, h3⟩
  | _, _, _, 0, .dat _ h, _, e, _ => by simp at e
  | _, _, _, i + 1, .dat r' h, n, e, e2 => let ⟨os', h1, h2, h3⟩ := h.freeze h0 r n (by simpa using e) (by simpa using e2); ⟨os', .dat (r'.mono (Ex.new h0)) h1, h2, h3⟩
  | _, _, _, 0, .own _ hp _ h, n, e, e2 => by
    simp at e2; subst e2
    exact ⟨_, .dat (r.rep h0) (h.mono (Ex.new h0) fun _ _ => rfl), List.sublist_cons_self _ _, (List.nodup_cons.mp n).1⟩
  | _, _, _, i + 1, .own (p := p') ht hp r' h, n, e, e2 => by
    have e' := e
    have e2' := e2
    rw [List.getElem?_cons_succ] at e' e2'
    obtain ⟨q, ws, h1, hm, _⟩ := h.getOwn e'
    rw [e2'] at h1
    cases h1
    obtain ⟨os', g1, g2, g3⟩ := h.freeze h0 r (List.nodup_cons.mp n).2 e' e2'
    exact ⟨p' :: os', .own ht hp (r'.mono (Ex.new h0)) g1, .cons_cons _ g2, fun z => (List.mem_cons.mp z).elim (fun q => (List.nodup_cons.mp n).1 (by rw [← q]; exact hm)) g3⟩
/-- what is one's own is hidden -/
def hide : Env' → Env' := fun ρ => ρ.map fun x => match x with | some (.own _ _) => none | y => y
theorem Slots.hide : ∀ {ρ : Env'} {σ : St} {os : List Addr}, Slots K H0 H ρ σ os → Slots K H0 H (DL.hide ρ) σ []
  | _, _, _, .nil => .nil
  | _, _, _, .skip h => .skip h.hide
  | _, _, _, .dat r h => .dat r h.hide
  | _, _, _, .own _ _ _ h => .skip h.hide
end
/-- the tables that may grow stand there, out of the promises' reach -/
def TabA (T : List (Addr × Str)) (H0 H : Hp) : Prop := ∀ p ∈ T, LamX.TabS H p.1 p.2 ∧ H0 p.1 = none
theorem TabA.nil {H0 H : Hp} : TabA [] H0 H := fun _ h => nomatch h
theorem TabS.keep {H H' : Hp} {P : Addr} {q : Str} (t : LamX.TabS H P q) (e : ∀ b o, H b = some o → (∀ xs, o ≠ .lst xs) → (∀ xs, o ≠ .dK xs) → (∀ C dx xs, o ≠ .ins C dx xs) → H' b = some o) : LamX.TabS H' P q := by
  obtain ⟨ps, h1, h2, h3⟩ := t
  refine ⟨ps, e _ _ h1 (fun _ => nofun) (fun _ => nofun) (fun _ _ _ => nofun), h2, fun pos cv hc => ?_⟩
  obtain ⟨c, h4, h5⟩ := h3 pos cv hc
  exact ⟨c, h4, e _ _ h5 (fun _ z => by unfold LamX.CodeO at z; cases z) (fun _ z => by unfold LamX.CodeO at z; cases z) (fun _ _ _ z => by unfold LamX.CodeO at z; cases z)⟩
theorem TabA.keep {T : List (Addr × Str)} {H0 H H0' H' : Hp} (t : TabA T H0 H) (e : ∀ b o, H b = some o → (∀ xs, o ≠ .lst xs) → (∀ xs, o ≠ .dK xs) → (∀ C dx xs, o ≠ .ins C dx xs) → H' b = some o) (n : ∀ p, H0 p = none → (∃ ps, H p = some (.tbl ps)) → H0' p = none) : TabA T H0' H' := fun p hp => by
  obtain ⟨h1, h2⟩ := t p hp
  exact ⟨TabS.keep h1 e, n _ h2 (let ⟨ps, z, _⟩ := h1; ⟨ps, z⟩)⟩
structure At (K : PySem.W.Frag) (c : Ctx) (ρ : Env') (H0 H : Hp) (σ : St) : Prop where
  px : PX c H0 H
  tab : TabA c.T H0 H
  sl : ∃ os, Slots K H0 H ρ σ os ∧ os.Nodup ∧ ∀ p ∈ os, H0 p = none ∧ c.He p = none
section
variable {K : PySem.W.Frag} {c : Ctx} {ρ : Env'} {H0 H H0' H' : Hp} {σ : St}
theorem RepO.notTbl {o : HO} {d : D} (r : RepO K H0 o d) (ps : Array Value) : o ≠ .tbl ps := by
  cases r <;> exact nofun
theorem ext_both (e : Ex H H') : ∀ b o, H b = some o → (∀ xs, o ≠ .lst xs) → (∀ xs, o ≠ .dK xs) → (∀ C dx xs, o ≠ .ins C dx xs) → H' b = some o := fun b o h _ _ _ => e b o h
/-- all that stands stays: what is one's own, too -/
theorem At.go (a : At K c ρ H0 H σ) (y : PX ⟨H, H0, []⟩ H0' H') : At K c ρ H0' H' σ := by
  obtain ⟨os, s, nd, f⟩ := a.sl
  have own := s.known
  have same : ∀ p ∈ os, H' p = H p := fun p hp => by
    cases q : H p with
    | none => exact absurd q (own p hp)
    | some o => exact y.ex p o q
  exact ⟨a.px.trans y, a.tab.keep (ext_both y.ex) fun p h1 ⟨ps, h2⟩ => y.n p (by show H p ≠ none; rw [h2]; exact nofun) h1, os, s.mono y.e0 same, nd, fun p hp => ⟨y.n p (own p hp) (f p hp).1, (f p hp).2⟩⟩
/-- .. but for tables, which grow -/
theorem At.goT (a : At K c ρ H0 H σ) (y : PX ⟨H, H0, c.T⟩ H0' H') (t : TabA c.T H0' H') : At K c ρ H0' H' σ := by
  obtain ⟨os, s, nd, f⟩ := a.sl
  have own := s.known
  have same : ∀ p ∈ os, H' p = H p := fun p hp => by
    cases q : H p with
    | none => exact absurd q (own p hp)
    | some o =>
      rcases y.e p o q with z | ⟨_, ps, _, e1, _⟩
      · exact z
      · obtain ⟨_, o', _, h2, r⟩ := s.ownAt p hp
        rw [q] at h2
        cases h2
        exact absurd e1 (r.notTbl ps)
  exact ⟨a.px.transT y, t, os, s.mono y.e0 same, nd, fun p hp => ⟨y.n p (own p hp) (f p hp).1, (f p hp).2⟩⟩
theorem At.len (a : At K c ρ H0 H σ) : ρ.length = σ.length := let ⟨_, s, _⟩ := a.sl; s.len
/-- the entry is taken here: what is one's own is hidden -/
theorem At.fresh (a : At K c ρ H0 H σ) : At K ⟨H, H0, []⟩ (hide ρ) H0 H σ := by
  obtain ⟨os, s, _⟩ := a.sl
  exact ⟨PX.refl a.px.i, .nil, [], s.hide, List.nodup_nil, fun _ h => nomatch h⟩
theorem At.freshT (a : At K c ρ H0 H σ) : At K ⟨H, H0, c.T⟩ (hide ρ) H0 H σ := by
  obtain ⟨os, s, _⟩ := a.sl
  exact ⟨PX.refl a.px.i, a.tab, [], s.hide, List.nodup_nil, fun _ h => nomatch h⟩
/-- the entry's part is taken here, its heap is not -/
theorem At.part (a : At K c ρ H0 H σ) : At K ⟨c.He, H0, c.T⟩ ρ H0 H σ := by
  obtain ⟨os, s, nd, f⟩ := a.sl
  exact ⟨⟨a.px.e, .refl _, a.px.i, fun _ _ h => h⟩, a.tab, os, s, nd, f⟩
theorem PX.unpart (x : PX c H0 H) (y : PX ⟨c.He, H0, c.T⟩ H0' H') : PX c H0' H' := ⟨y.e, x.e0.trans y.e0, y.i, fun p h1 h2 => y.n p h1 (x.n p h1 h2)⟩
theorem At.unpart {ρ' : Env'} {σ' : St} (x : PX c H0 H) (y : At K ⟨c.He, H0, c.T⟩ ρ' H0' H' σ') : At K c ρ' H0' H' σ' := ⟨x.unpart y.px, y.tab, y.sl⟩
theorem At.setDat {v : V} {d : D} (a : At K c ρ H0 H σ) (r : Rep K H0 v d) (i : Nat) : At K c (ρ.set i (some (.dat d))) H0 H (σ.set i (some v)) := by
  obtain ⟨os, s, nd, f⟩ := a.sl
  obtain ⟨os', s', sub⟩ := s.setDat r i
  exact ⟨a.px, a.tab, os', s', nd.sublist sub, fun p hp => f p (sub.subset hp)⟩
theorem At.setOwn {p : Addr} {o : HO} {ds : D} (a : At K c ρ H0 H σ) (hp : H p = none) (r : RepO K H0 o ds) (i : Nat) : At K c (ρ.set i (some (.own none ds))) H0 (upd H p o) (σ.set i (some (.ref p))) := by
  obtain ⟨os, s, nd, f⟩ := a.sl
  have h0 : H0 p = none := a.px.i.back hp
  have hc : c.He p = none := a.px.e.back hp
  have own : p ∉ os := fun hm => s.known p hm hp
  have s1 : Slots K H0 (upd H p o) ρ σ os := s.mono (.refl _) fun q hq => upd_ne fun e => own (e ▸ hq)
  obtain ⟨os', s', h1, h2⟩ := s1.setOwn (t := none) (fun _ z => by cases z) upd_same r i
  exact ⟨a.px.change h0 hc, a.tab.keep (ext_both (Ex.new hp)) fun _ h _ => h, os', s', h2 nd own, fun q hq => (h1 q hq).elim (fun e => e ▸ ⟨h0, hc⟩) (f q)⟩
/-- one's own is given away -/
theorem At.freeze {i : Nat} {t : Option Addr} {d : D} (a : At K c ρ H0 H σ) (h : ρ[i]? = some (some (.own t d))) : ∃ p o, σ[i]? = some (some (.ref p)) ∧ H p = some o ∧ H0 p = none ∧ c.He p = none ∧ At K c (ρ.set i (some (.dat d))) (upd H0 p o) H σ ∧ Rep K (upd H0 p o) (.ref p) d := by
  obtain ⟨os, s, nd, f⟩ := a.sl
  obtain ⟨p, o, h1, hm, _, h2, r⟩ := s.getOwn h
  obtain ⟨h0, hc⟩ := f p hm
  obtain ⟨os', s', sub, hn⟩ := s.freeze h0 r nd h h1
  refine ⟨p, o, h1, h2, h0, hc, ⟨a.px.learn h2 h0 hc, a.tab.keep (fun _ _ h _ _ _ => h) fun q hq ⟨ps, z⟩ => ?_, os', s', nd.sublist sub, fun q hq => ?_⟩, r.rep h0⟩
  · have hne : q ≠ p := fun e => by
      rw [e, h2] at z
      exact r.notTbl ps (Option.some.inj z)
    exact (upd_ne hne).trans hq
  · obtain ⟨g1, g2⟩ := f q (sub.subset hq)
    have hne : q ≠ p := fun e => hn (by rw [← e]; exact hq)
    exact ⟨(upd_ne hne).trans g1, g2⟩
/-- one's own changes -/
theorem At.turn {i : Nat} {t : Option Addr} {d d' : D} {p : Addr} {o' : HO} (a : At K c ρ H0 H σ) (h : ρ[i]? = some (some (.own t d))) (hp : σ[i]? = some (some (.ref p))) (r : RepO K H0 o' d') (nk : c.T = [] ∨ ∀ P w p l, d ≠ .kd P w p l := by exact .inr (fun _ _ _ _ => nofun)) : At K c (ρ.set i (some (.own t d'))) H0 (upd H p o') σ := by
  obtain ⟨os, s, nd, f⟩ := a.sl
  obtain ⟨q, o, h1, hm, _, h2, ro⟩ := s.getOwn h
  rw [hp] at h1
  cases h1
  obtain ⟨h0, hc⟩ := f p hm
  refine ⟨a.px.change h0 hc, ?_, os, s.turn r nd h hp, nd, f⟩
  rcases nk with nk | nk
  · rw [nk]; exact TabA.nil
  refine a.tab.keep (fun b u hb n1 n2 n3 => ?_) fun _ h _ => h
  have hne : b ≠ p := fun e => by
    rw [e, h2] at hb
    cases hb
    cases ro with
    | lst _ => exact n1 _ rfl
    | dic _ => exact n2 _ rfl
    | ins _ => exact n3 _ _ _ rfl
    | dik _ => exact n2 _ rfl
    | kd _ => exact nk _ _ _ _ rfl
  exact (upd_ne hne).trans hb
theorem At.own {i : Nat} {t : Option Addr} {d : D} (a : At K c ρ H0 H σ) (h : ρ[i]? = some (some (.own t d))) : ∃ p o, σ[i]? = some (some (.ref p)) ∧ H p = some o ∧ H0 p = none ∧ (∀ q, t = some q → p = q) ∧ RepO K H0 o d := by
  obtain ⟨os, s, nd, f⟩ := a.sl
  obtain ⟨p, o, h1, hm, ht, h2, r⟩ := s.getOwn h
  exact ⟨p, o, h1, h2, (f p hm).1, ht, r⟩
theorem At.get {i : Nat} {d : D} (a : At K c ρ H0 H σ) (h : ρ[i]? = some (some (.dat d))) : ∃ v, σ[i]? = some (some v) ∧ Rep K H0 v d := by
  obtain ⟨os, s, nd, f⟩ := a.sl
  exact s.get h
end
end DL
namespace DL
open PySem PySem.Spec L2
open PyProof.Rows hiding St

/-- an exception: its class, its attributes -/
structure Exn where
  C : Addr
  fs : List (Str × D)
def RepX (K : PySem.W.Frag) (H0 H : Hp) (x : Exn) (dd : Option Addr) : Prop := ∃ d vs, dd = some d ∧ H0 d = some (.xd vs) ∧ RepKV K H0 vs x.fs
/-- where one stands: the written part, what is wanted of an exception (of heaps, of data) -/
structure Wx where
  K : PySem.W.Frag
  EX : XK
  X : Exn → Prop
  T : List (Addr × Str)
structure XLink (w : Wx) (c : Ctx) : Prop where
  t : c.T = w.T
  l : ∀ x, w.X x → ∀ dd H0 H, PX c H0 H → RepX w.K H0 H x dd → w.EX (.ref x.C) dd H
theorem XLink.part {w : Wx} {c : Ctx} {H0 H : Hp} (l : XLink w c) (x : PX c H0 H) : XLink w ⟨c.He, H0, c.T⟩ := ⟨l.t, fun y hy dd H0' H' p r => l.l y hy dd H0' H' (x.unpart p) r⟩

/-! ### what expressions, tests, arguments come to -/
def wE (w : Wx) (te : TE) (ρ : Env') (Φ : D → Env' → Prop) : Prop := ∀ (c : Ctx) (H0 H : Hp) (σ : St) (Q : VK), At w.K c ρ H0 H σ → XLink w c →
  (∀ v d ρ' H0' H', Φ d ρ' → At w.K c ρ' H0' H' σ → Ex H0 H0' → Rep w.K H0' v d → Q v H') → te σ H Q
def wT (w : Wx) (tt : TT) (ρ : Env') (Φ : Bool → Env' → Prop) : Prop := ∀ (c : Ctx) (H0 H : Hp) (σ : St) (Q : Bool → Hp → Prop), At w.K c ρ H0 H σ → XLink w c →
  (∀ b ρ' H0' H', Φ b ρ' → At w.K c ρ' H0' H' σ → Ex H0 H0' → Q b H') → tt σ H Q
def wA (w : Wx) (ta : TA) (ρ : Env') (Φ : List D → Env' → Prop) : Prop := ∀ (c : Ctx) (H0 H : Hp) (σ : St) (Q : List V → Hp → Prop), At w.K c ρ H0 H σ → XLink w c →
  (∀ vs ds ρ' H0' H', Φ ds ρ' → At w.K c ρ' H0' H' σ → Ex H0 H0' → RepAll w.K H0' vs ds → Q vs H') → ta σ H Q
def wO (w : Wx) (to : TO) (ρ : Env') (Φ : Option Int → Env' → Prop) : Prop := ∀ (c : Ctx) (H0 H : Hp) (σ : St) (Q : Option Int → Hp → Prop), At w.K c ρ H0 H σ → XLink w c →
  (∀ o ρ' H0' H', Φ o ρ' → At w.K c ρ' H0' H' σ → Ex H0 H0' → Q o H') → to σ H Q

section
variable {w : Wx} {ρ : Env'} {Φ : D → Env' → Prop} {ΦB : Bool → Env' → Prop} {ΦA : List D → Env' → Prop} {ta tb te tc : TE} {t u : TT} {r : R2}
theorem wE_mono {Ψ : D → Env' → Prop} (h : wE w te ρ Φ) (k : ∀ d ρ', Φ d ρ' → Ψ d ρ') : wE w te ρ Ψ := fun c H0 H σ Q a x q => h c H0 H σ Q a x fun v d ρ' H0' H' p => q v d ρ' H0' H' (k d ρ' p)
theorem wT_mono {Ψ : Bool → Env' → Prop} (h : wT w t ρ ΦB) (k : ∀ d ρ', ΦB d ρ' → Ψ d ρ') : wT w t ρ Ψ := fun c H0 H σ Q a x q => h c H0 H σ Q a x fun d ρ' H0' H' p => q d ρ' H0' H' (k d ρ' p)
theorem wE_var {i : Nat} {d : D} (h : ρ[i]? = some (some (.dat d))) (q : Φ d ρ) : wE w (tVar i) ρ Φ := fun c H0 H σ Q a x k => by
  obtain ⟨v, h1, r⟩ := a.get h
  exact ⟨v, h1, k v d ρ H0 H q a (.refl _) r⟩
/-- one's own, given away -/
theorem wE_give {i : Nat} {t : Option Addr} {d : D} (h : ρ[i]? = some (some (.own t d))) (q : Φ d (ρ.set i (some (.dat d)))) : wE w (tVar i) ρ Φ := fun c H0 H σ Q a x k => by
  obtain ⟨p, o, h1, _, h0, _, a', r⟩ := a.freeze h
  exact ⟨.ref p, h1, k _ d _ _ H q a' (Ex.new h0) r⟩
theorem wE_non (q : Φ .non ρ) : wE w (tC .non) ρ Φ := fun c H0 H σ Q a x k => k _ _ ρ H0 H q a (.refl _) .non
theorem wE_bl {b : Bool} (q : Φ (.bl b) ρ) : wE w (tC (.bl b)) ρ Φ := fun c H0 H σ Q a x k => k _ _ ρ H0 H q a (.refl _) (.bl b)
theorem wE_int {i : Int} (q : Φ (.int i) ρ) : wE w (tC (.int i)) ρ Φ := fun c H0 H σ Q a x k => k _ _ ρ H0 H q a (.refl _) (.int i)
theorem wE_str {s : Str} (q : Φ (.str s) ρ) : wE w (tC (.str s)) ρ Φ := fun c H0 H σ Q a x k => k _ _ ρ H0 H q a (.refl _) (.str s)
theorem wE_raw {v : V} (q : Φ (.raw v) ρ) : wE w (tC v) ρ Φ := fun c H0 H σ Q a x k => k _ _ ρ H0 H q a (.refl _) (.raw v)
/-- an operation on two values, as one on data -/
def OpD (K : PySem.W.Frag) (r : R2) (g : D → D → (D → Prop) → Prop) : Prop := ∀ (H0 H : Hp) (x y : V) (dx dy : D) (Φ : D → Prop) (Q : VK), Ex H0 H → Rep K H0 x dx → Rep K H0 y dy → g dx dy Φ →
  (∀ v d H0' H', Φ d → PX ⟨H, H0, []⟩ H0' H' → Rep K H0' v d → Q v H') → r x y H Q
def UnD (K : PySem.W.Frag) (r : V → Hp → VK → Prop) (g : D → (D → Prop) → Prop) : Prop := ∀ (H0 H : Hp) (x : V) (dx : D) (Φ : D → Prop) (Q : VK), Ex H0 H → Rep K H0 x dx → g dx Φ →
  (∀ v d H0' H', Φ d → PX ⟨H, H0, []⟩ H0' H' → Rep K H0' v d → Q v H') → r x H Q
def CbD (K : PySem.W.Frag) (r : List V → Hp → VK → Prop) (g : List D → (D → Prop) → Prop) : Prop := ∀ (H0 H : Hp) (xs : List V) (ds : List D) (Φ : D → Prop) (Q : VK), Ex H0 H → RepAll K H0 xs ds → g ds Φ →
  (∀ v d H0' H', Φ d → PX ⟨H, H0, []⟩ H0' H' → Rep K H0' v d → Q v H') → r xs H Q
def MtD (K : PySem.W.Frag) (r : V → List V → Hp → VK → Prop) (g : D → List D → (D → Prop) → Prop) : Prop := ∀ (H0 H : Hp) (x : V) (xs : List V) (dx : D) (ds : List D) (Φ : D → Prop) (Q : VK), Ex H0 H → Rep K H0 x dx → RepAll K H0 xs ds → g dx ds Φ →
  (∀ v d H0' H', Φ d → PX ⟨H, H0, []⟩ H0' H' → Rep K H0' v d → Q v H') → r x xs H Q
def SlD (K : PySem.W.Frag) (r : V → Option Int → Option Int → Hp → VK → Prop) (g : D → Option Int → Option Int → (D → Prop) → Prop) : Prop := ∀ (H0 H : Hp) (x : V) (dx : D) (lo hi : Option Int) (Φ : D → Prop) (Q : VK), Ex H0 H → Rep K H0 x dx → g dx lo hi Φ →
  (∀ v d H0' H', Φ d → PX ⟨H, H0, []⟩ H0' H' → Rep K H0' v d → Q v H') → r x lo hi H Q
theorem wE_op {g : D → D → (D → Prop) → Prop} (o : OpD w.K r g) (h : wE w ta ρ fun dx ρ1 => wE w tb ρ1 fun dy ρ2 => g dx dy fun d => Φ d ρ2) : wE w (tOp r ta tb) ρ Φ := fun c H0 H σ Q a x k =>
  h c H0 H σ _ a x fun vx dx ρ1 H01 H1 h1 a1 e1 r1 => h1 c H01 H1 σ _ a1 x fun vy dy ρ2 H02 H2 h2 a2 e2 r2 => o H02 H2 vx vy dx dy _ Q a2.px.i (r1.mono e2) r2 h2 fun v d H0' H' q p r => k v d ρ2 H0' H' q (a2.go p) ((e1.trans e2).trans p.e0) r
theorem wE_un {ru : V → Hp → VK → Prop} {g : D → (D → Prop) → Prop} (o : UnD w.K ru g) (h : wE w ta ρ fun dx ρ1 => g dx fun d => Φ d ρ1) : wE w (tUn ru ta) ρ Φ := fun c H0 H σ Q a x k =>
  h c H0 H σ _ a x fun vx dx ρ1 H01 H1 h1 a1 e1 r1 => o H01 H1 vx dx _ Q a1.px.i r1 h1 fun v d H0' H' q p r => k v d ρ1 H0' H' q (a1.go p) (e1.trans p.e0) r
theorem wE_cb {rc : List V → Hp → VK → Prop} {t' : TA} {g : List D → (D → Prop) → Prop} (o : CbD w.K rc g) (h : wA w t' ρ fun ds ρ1 => g ds fun d => Φ d ρ1) : wE w (tCB rc t') ρ Φ := fun c H0 H σ Q a x k =>
  h c H0 H σ _ a x fun vx dx ρ1 H01 H1 h1 a1 e1 r1 => o H01 H1 vx dx _ Q a1.px.i r1 h1 fun v d H0' H' q p r => k v d ρ1 H0' H' q (a1.go p) (e1.trans p.e0) r
/-- the data of a built-in type -/
def isTy (T : String) : D → Bool
  | .str _ => T == "str"
  | .lst _ => T == "list"
  | .dic _ => T == "dict"
  | _ => false
theorem wE_mt0 {T : String} {rm : V → List V → Hp → VK → Prop} {g : D → List D → (D → Prop) → Prop} (o : MtD w.K rm g) (ty : ∀ H0 H v d, Ex H0 H → Rep w.K H0 v d → isTy T d = true → tyV w.K T v H)
    (h : wE w ta ρ fun dx ρ1 => isTy T dx = true ∧ g dx [] fun d => Φ d ρ1) : wE w (tBM0 w.K T rm ta) ρ Φ := fun c H0 H σ Q a x k =>
  h c H0 H σ _ a x fun vx dx ρ1 H01 H1 h1 a1 e1 r1 => ⟨ty _ _ _ _ a1.px.i r1 h1.1, o H01 H1 vx [] dx [] _ Q a1.px.i r1 .nil h1.2 fun v d H0' H' q p r => k v d ρ1 H0' H' q (a1.go p) (e1.trans p.e0) r⟩
theorem wE_mt {T : String} {t' : TA} {rm : V → List V → Hp → VK → Prop} {g : D → List D → (D → Prop) → Prop} (o : MtD w.K rm g) (ty : ∀ H0 H v d, Ex H0 H → Rep w.K H0 v d → isTy T d = true → tyV w.K T v H)
    (h : wE w ta ρ fun dx ρ1 => isTy T dx = true ∧ wA w t' ρ1 fun ds ρ2 => g dx ds fun d => Φ d ρ2) : wE w (tBM w.K T rm ta t') ρ Φ := fun c H0 H σ Q a x k =>
  h c H0 H σ _ a x fun vx dx ρ1 H01 H1 h1 a1 e1 r1 => ⟨ty _ _ _ _ a1.px.i r1 h1.1, h1.2 c H01 H1 σ _ a1 x fun vs ds ρ2 H02 H2 h2 a2 e2 r2 => o H02 H2 vx vs dx ds _ Q a2.px.i (r1.mono e2) r2 h2 fun v d H0' H' q p r => k v d ρ2 H0' H' q (a2.go p) ((e1.trans e2).trans p.e0) r⟩
theorem wO_none {Φo : Option Int → Env' → Prop} (q : Φo none ρ) : wO w tNoPart ρ Φo := fun c H0 H σ Q a x k => k none ρ H0 H q a (.refl _)
theorem wO_some {Φo : Option Int → Env' → Prop} (h : wE w ta ρ fun d ρ1 => ∃ i, d = .int i ∧ Φo (some i) ρ1) : wO w (tPart ta) ρ Φo := fun c H0 H σ Q a x k =>
  h c H0 H σ _ a x fun vx dx ρ1 H01 H1 ⟨i, e, h1⟩ a1 e1 r1 => by
    subst e; cases r1
    exact ⟨i, rfl, k (some i) ρ1 H01 H1 h1 a1 e1⟩
theorem wE_sl {rs : V → Option Int → Option Int → Hp → VK → Prop} {tl th : TO} {g : D → Option Int → Option Int → (D → Prop) → Prop} (o : SlD w.K rs g) (h : wE w ta ρ fun dx ρ1 => wO w tl ρ1 fun lo ρ2 => wO w th ρ2 fun hi ρ3 => g dx lo hi fun d => Φ d ρ3) : wE w (tSl rs ta tl th) ρ Φ := fun c H0 H σ Q a x k =>
  h c H0 H σ _ a x fun vx dx ρ1 H01 H1 h1 a1 e1 r1 => h1 c H01 H1 σ _ a1 x fun lo ρ2 H02 H2 h2 a2 e2 => h2 c H02 H2 σ _ a2 x fun hi ρ3 H03 H3 h3 a3 e3 =>
    o H03 H3 vx dx lo hi _ Q a3.px.i (r1.mono (e2.trans e3)) h3 fun v d H0' H' q p r => k v d ρ3 H0' H' q (a3.go p) ((e1.trans (e2.trans e3)).trans p.e0) r
/-! tests -/
theorem wT_test (h : wE w te ρ fun d ρ1 => ∃ b, d = .bl b ∧ ΦB b ρ1) : wT w (tTest te) ρ ΦB := fun c H0 H σ Q a x k =>
  h c H0 H σ _ a x fun v d ρ1 H01 H1 ⟨b, e, q⟩ a1 e1 r1 => by subst e; cases r1; exact ⟨b, rfl, k b ρ1 H01 H1 q a1 e1⟩
theorem wT_B (h : wE w te ρ fun d ρ1 => ∃ b, d = .bl b ∧ ΦB b ρ1) : wT w (tB te) ρ ΦB := fun c H0 H σ Q a x k =>
  h c H0 H σ _ a x fun v d ρ1 H01 H1 ⟨b, e, q⟩ a1 e1 r1 => by subst e; cases r1; exact ⟨b, rfl, k b ρ1 H01 H1 q a1 e1⟩
theorem wT_and (h : wT w t ρ fun b ρ1 => if b = true then wT w u ρ1 ΦB else ΦB false ρ1) : wT w (tAnd t u) ρ ΦB := fun c H0 H σ Q a x k =>
  h c H0 H σ _ a x fun b ρ1 H01 H1 q a1 e1 => by
    cases b with
    | true => rw [if_pos rfl] at q ⊢; exact q c H01 H1 σ Q a1 x fun b ρ2 H02 H2 q2 a2 e2 => k b ρ2 H02 H2 q2 a2 (e1.trans e2)
    | false => rw [if_neg Bool.false_ne_true] at q ⊢; exact k false ρ1 H01 H1 q a1 e1
theorem wT_or (h : wT w t ρ fun b ρ1 => if b = true then ΦB true ρ1 else wT w u ρ1 ΦB) : wT w (tOr t u) ρ ΦB := fun c H0 H σ Q a x k =>
  h c H0 H σ _ a x fun b ρ1 H01 H1 q a1 e1 => by
    cases b with
    | true => rw [if_pos rfl] at q ⊢; exact k true ρ1 H01 H1 q a1 e1
    | false => rw [if_neg Bool.false_ne_true] at q ⊢; exact q c H01 H1 σ Q a1 x fun b ρ2 H02 H2 q2 a2 e2 => k b ρ2 H02 H2 q2 a2 (e1.trans e2)
theorem wT_not (h : wT w t ρ fun b ρ1 => ΦB (!b) ρ1) : wT w (tNot t) ρ ΦB := fun c H0 H σ Q a x k =>
  h c H0 H σ _ a x fun b ρ1 H01 H1 q a1 e1 => k (!b) ρ1 H01 H1 q a1 e1
theorem wT_yes (q : ΦB true ρ) : wT w tYes ρ ΦB := fun c H0 H σ Q a x k => k true ρ H0 H q a (.refl _)
theorem wE_andV (h : wE w ta ρ fun d ρ1 => ∃ b, d = .bl b ∧ if b = true then wE w tb ρ1 Φ else Φ (.bl false) ρ1) : wE w (tAndV ta tb) ρ Φ := fun c H0 H σ Q a x k =>
  h c H0 H σ _ a x fun v d ρ1 H01 H1 ⟨b, e, q⟩ a1 e1 r1 => by
    subst e; cases r1
    refine ⟨b, rfl, ?_⟩
    cases b with
    | true => rw [if_pos rfl] at q ⊢; exact q c H01 H1 σ Q a1 x fun v d ρ2 H02 H2 q2 a2 e2 => k v d ρ2 H02 H2 q2 a2 (e1.trans e2)
    | false => rw [if_neg Bool.false_ne_true] at q ⊢; exact k _ _ ρ1 H01 H1 q a1 e1 (.bl false)
theorem wE_orV (h : wE w ta ρ fun d ρ1 => ∃ b, d = .bl b ∧ if b = true then Φ (.bl true) ρ1 else wE w tb ρ1 Φ) : wE w (tOrV ta tb) ρ Φ := fun c H0 H σ Q a x k =>
  h c H0 H σ _ a x fun v d ρ1 H01 H1 ⟨b, e, q⟩ a1 e1 r1 => by
    subst e; cases r1
    refine ⟨b, rfl, ?_⟩
    cases b with
    | true => rw [if_pos rfl] at q ⊢; exact k _ _ ρ1 H01 H1 q a1 e1 (.bl true)
    | false => rw [if_neg Bool.false_ne_true] at q ⊢; exact q c H01 H1 σ Q a1 x fun v d ρ2 H02 H2 q2 a2 e2 => k v d ρ2 H02 H2 q2 a2 (e1.trans e2)
theorem wE_notV (h : wE w ta ρ fun d ρ1 => ∃ b, d = .bl b ∧ Φ (.bl (!b)) ρ1) : wE w (tNotV ta) ρ Φ := fun c H0 H σ Q a x k =>
  h c H0 H σ _ a x fun v d ρ1 H01 H1 ⟨b, e, q⟩ a1 e1 r1 => by subst e; cases r1; exact ⟨b, rfl, k _ _ ρ1 H01 H1 q a1 e1 (.bl _)⟩
theorem wE_if (h : wT w t ρ fun b ρ1 => if b = true then wE w ta ρ1 Φ else wE w tb ρ1 Φ) : wE w (tIf t ta tb) ρ Φ := fun c H0 H σ Q a x k =>
  h c H0 H σ _ a x fun b ρ1 H01 H1 q a1 e1 => by
    cases b with
    | true => rw [if_pos rfl] at q ⊢; exact q c H01 H1 σ Q a1 x fun v d ρ2 H02 H2 q2 a2 e2 => k v d ρ2 H02 H2 q2 a2 (e1.trans e2)
    | false => rw [if_neg Bool.false_ne_true] at q ⊢; exact q c H01 H1 σ Q a1 x fun v d ρ2 H02 H2 q2 a2 e2 => k v d ρ2 H02 H2 q2 a2 (e1.trans e2)
/-- a < b < c -/
theorem wE_chain {r' : R2} {g g' : D → D → (D → Prop) → Prop} (o : OpD w.K r g) (o' : OpD w.K r' g')
    (h : wE w ta ρ fun dx ρ1 => wE w tb ρ1 fun dy ρ2 => g dx dy fun d => ∃ b, d = .bl b ∧ if b = true then wE w tc ρ2 fun dz ρ3 => g' dy dz fun d => Φ d ρ3 else Φ (.bl false) ρ2) : wE w (tChain r r' ta tb tc) ρ Φ := fun c H0 H σ Q a x k =>
  h c H0 H σ _ a x fun vx dx ρ1 H01 H1 h1 a1 e1 r1 => h1 c H01 H1 σ _ a1 x fun vy dy ρ2 H02 H2 h2 a2 e2 r2 => o H02 H2 vx vy dx dy _ _ a2.px.i (r1.mono e2) r2 h2 fun v d H03 H3 ⟨b, e, q⟩ p r => by
    subst e; cases r
    refine ⟨b, rfl, ?_⟩
    have a3 := a2.go p
    cases b with
    | true =>
      rw [if_pos rfl] at q ⊢
      exact q c H03 H3 σ _ a3 x fun vz dz ρ3 H04 H4 h4 a4 e4 r4 => o' H04 H4 vy vz dy dz _ Q a4.px.i (r2.mono (p.e0.trans e4)) r4 h4 fun v d H0' H' q' p' r' => k v d ρ3 H0' H' q' (a4.go p') (((e1.trans e2).trans (p.e0.trans e4)).trans p'.e0) r'
    | false => rw [if_neg Bool.false_ne_true] at q ⊢; exact k _ _ ρ2 H03 H3 q a3 ((e1.trans e2).trans p.e0) (.bl false)
/-! arguments, tuples, lists -/
theorem wA_nil (q : ΦA [] ρ) : wA w tNil ρ ΦA := fun c H0 H σ Q a x k => k [] [] ρ H0 H q a (.refl _) .nil
theorem wA_cons {tr : TA} (h : wE w ta ρ fun d ρ1 => wA w tr ρ1 fun ds ρ2 => ΦA (d :: ds) ρ2) : wA w (tCons ta tr) ρ ΦA := fun c H0 H σ Q a x k =>
  h c H0 H σ _ a x fun v d ρ1 H01 H1 h1 a1 e1 r1 => h1 c H01 H1 σ _ a1 x fun vs ds ρ2 H02 H2 h2 a2 e2 r2 => k (v :: vs) (d :: ds) ρ2 H02 H2 h2 a2 (e1.trans e2) (.cons (r1.mono e2) r2)
theorem len_ok {n : Nat} (h : n ≤ 1000000) : n ≤ sizeLine := Nat.le_trans h (by decide)
theorem len_lt {n : Nat} (h : n < 1000000) : n < sizeLine := Nat.lt_of_lt_of_le h (by decide)
theorem wE_tup {t' : TA} (h : wA w t' ρ fun ds ρ1 => ds.length ≤ 1000000 ∧ Φ (.tup ds) ρ1) : wE w (tTup t') ρ Φ := fun c H0 H σ Q a x k =>
  h c H0 H σ _ a x fun vs ds ρ1 H01 H1 h1 a1 e1 r1 => ⟨len_ok (by rw [r1.length]; exact h1.1), fun p hp => by
    have y : PX ⟨H1, H01, []⟩ (upd H01 p (.tup vs)) (upd H1 p (.tup vs)) := (PX.refl a1.px.i).new hp
    exact k _ _ ρ1 _ _ h1.2 (a1.go y) (e1.trans y.e0) (.tup (.inl (.inl upd_same)) (r1.mono y.e0))⟩
theorem wE_lst {t' : TA} (h : wA w t' ρ fun ds ρ1 => ds.length ≤ 1000000 ∧ Φ (.lst ds) ρ1) : wE w (tLst t') ρ Φ := fun c H0 H σ Q a x k =>
  h c H0 H σ _ a x fun vs ds ρ1 H01 H1 h1 a1 e1 r1 => ⟨len_ok (by rw [r1.length]; exact h1.1), fun p hp => by
    have y : PX ⟨H1, H01, []⟩ (upd H01 p (.lst vs)) (upd H1 p (.lst vs)) := (PX.refl a1.px.i).new hp
    exact k _ _ ρ1 _ _ h1.2 (a1.go y) (e1.trans y.e0) (.lst upd_same (r1.mono y.e0))⟩
/-- o.f -/
theorem wE_fld {f : Str} (h : wE w te ρ fun d ρ1 => ∃ C fs x, d = .ins C fs ∧ Cls w.K C ∧ NoAttr w.K C f ∧ fs.lookup f = some x ∧ Φ x ρ1) : wE w (tFld w.K te f) ρ Φ := fun c H0 H σ Q a x k =>
  h c H0 H σ _ a x fun v d ρ1 H01 H1 ⟨C, fs, y, e, hc, hn, hl, q⟩ a1 e1 r1 => by
    subst e
    cases r1 with
    | ins hp hk =>
      obtain ⟨u, h1, r⟩ := hk.lookup hl
      exact ⟨_, C, _, _, u, rfl, a1.px.i _ _ hp, hc, hn, h1, k u y ρ1 H01 H1 q a1 e1 r⟩
/-- self.f, self being one's own -/
theorem wE_fldOwn {f : Str} {i : Nat} {t : Option Addr} {C : Addr} {fs : List (Str × D)} {x : D} (h : ρ[i]? = some (some (.own t (.ins C fs)))) (hc : Cls w.K C) (hn : NoAttr w.K C f) (hl : fs.lookup f = some x) (q : Φ x ρ) : wE w (tFld w.K (tVar i) f) ρ Φ := fun c H0 H σ Q a lx k => by
  obtain ⟨p, o, h1, h2, _, _, r⟩ := a.own h
  cases r with
  | ins hk =>
    obtain ⟨u, g1, r⟩ := hk.lookup hl
    exact ⟨_, h1, _, C, _, _, u, rfl, h2, hc, hn, g1, k u x ρ H0 H q a (.refl _) r⟩
end
end DL
namespace DL
open PySem PySem.Spec L2
open PyProof.Rows hiding St

/-! ### statements -/
/-- what is wanted behind a statement, of data -/
structure DE where
  nx : Env' → Prop
  rt : D → Env' → Prop := fun _ _ => False
  /-- a new list, nobody's yet, is returned -/
  ro : List D → Env' → Prop := fun _ _ => False
  bk : Env' → Prop := fun _ => False
  ct : Env' → Prop := fun _ => False
structure Link (w : Wx) (c : Ctx) (Dn : Ends) (E : DE) : Prop where
  nx : ∀ ρ H0 H σ, E.nx ρ → At w.K c ρ H0 H σ → Dn.nx σ H
  rt : ∀ d v ρ H0 H σ, E.rt d ρ → At w.K c ρ H0 H σ → Rep w.K H0 v d → Dn.rt v H
  ro : ∀ ds p us ρ H0 H σ, E.ro ds ρ → At w.K c ρ H0 H σ → H0 p = none → c.He p = none → H p = some (.lst us) → RepAll w.K H0 us ds → Dn.rt (.ref p) H
  bk : ∀ ρ H0 H σ, E.bk ρ → At w.K c ρ H0 H σ → Dn.bk σ H
  ct : ∀ ρ H0 H σ, E.ct ρ → At w.K c ρ H0 H σ → Dn.ct σ H
def wS (w : Wx) (ts : TS) (E : DE) (ρ : Env') : Prop := ∀ (c : Ctx) (Dn : Ends) (H0 H : Hp) (σ : St), At w.K c ρ H0 H σ → XLink w c → Link w c Dn E → ts Dn σ H
/-- a target of an assignment -/
def wG (w : Wx) (g : TG) (d : D) (ρ : Env') (Φ : Env' → Prop) : Prop := ∀ (c : Ctx) (H0 H : Hp) (σ : St) (v : V) (Q : St → Hp → Prop), At w.K c ρ H0 H σ → XLink w c → Rep w.K H0 v d →
  (∀ ρ' H0' H' σ', Φ ρ' → At w.K c ρ' H0' H' σ' → Ex H0 H0' → Q σ' H') → g v σ H Q
def wGs (w : Wx) (g : TGs) (ds : List D) (ρ : Env') (Φ : Env' → Prop) : Prop := ∀ (c : Ctx) (H0 H : Hp) (σ : St) (vs : List V) (Q : St → Hp → Prop), At w.K c ρ H0 H σ → XLink w c → RepAll w.K H0 vs ds →
  (∀ ρ' H0' H' σ', Φ ρ' → At w.K c ρ' H0' H' σ' → Ex H0 H0' → Q σ' H') → g vs σ H Q
section
variable {w : Wx} {ρ : Env'} {E : DE} {Φ : D → Env' → Prop} {te ta tb : TE} {t u : TS} {g : TG}
theorem wS_mono {E' : DE} (h : wS w t E ρ) (k1 : ∀ ρ, E.nx ρ → E'.nx ρ) (k2 : ∀ d ρ, E.rt d ρ → E'.rt d ρ) (k5 : ∀ d ρ, E.ro d ρ → E'.ro d ρ) (k3 : ∀ ρ, E.bk ρ → E'.bk ρ) (k4 : ∀ ρ, E.ct ρ → E'.ct ρ) : wS w t E' ρ := fun c Dn H0 H σ a x l =>
  h c Dn H0 H σ a x ⟨fun ρ H0 H σ q => l.nx ρ H0 H σ (k1 ρ q), fun d v ρ H0 H σ q => l.rt d v ρ H0 H σ (k2 d ρ q), fun ds p us ρ H0 H σ q => l.ro ds p us ρ H0 H σ (k5 ds ρ q), fun ρ H0 H σ q => l.bk ρ H0 H σ (k3 ρ q), fun ρ H0 H σ q => l.ct ρ H0 H σ (k4 ρ q)⟩
theorem wS_seq (h : wS w t { E with nx := fun ρ1 => wS w u E ρ1 } ρ) : wS w (tSeq t u) E ρ := fun c Dn H0 H σ a x l =>
  h c { Dn with nx := u Dn } H0 H σ a x ⟨fun ρ1 H01 H1 σ1 q a1 => q c Dn H01 H1 σ1 a1 x l, l.rt, l.ro, l.bk, l.ct⟩
theorem wS_next (q : E.nx ρ) : wS w tNext E ρ := fun c Dn H0 H σ a x l => l.nx ρ H0 H σ q a
theorem wS_brk (q : E.bk ρ) : wS w tBreak E ρ := fun c Dn H0 H σ a x l => l.bk ρ H0 H σ q a
theorem wS_cont (q : E.ct ρ) : wS w tCont E ρ := fun c Dn H0 H σ a x l => l.ct ρ H0 H σ q a
theorem wS_drop (h : wE w te ρ fun _ ρ1 => E.nx ρ1) : wS w (tDrop te) E ρ := fun c Dn H0 H σ a x l => h c H0 H σ _ a x fun v d ρ1 H01 H1 q a1 e1 r1 => l.nx ρ1 H01 H1 σ q a1
theorem wS_ret (h : wE w te ρ fun d ρ' => E.rt d ρ') : wS w (tRet te) E ρ := fun c Dn H0 H σ a x l => h c H0 H σ _ a x fun v d ρ1 H01 H1 q a1 e1 r1 => l.rt d v ρ1 H01 H1 σ q a1 r1
theorem wS_retOwn {t' : TA} (h : wA w t' ρ fun ds ρ1 => ds.length ≤ 1000000 ∧ E.ro ds ρ1) : wS w (tRet (tLst t')) E ρ := fun c Dn H0 H σ a x l =>
  h c H0 H σ _ a x fun vs ds ρ1 H01 H1 ⟨hz, q⟩ a1 e1 r1 => ⟨len_ok (by rw [r1.length]; exact hz), fun p hp => l.ro ds p vs ρ1 H01 _ σ q (a1.go ((PX.refl a1.px.i).change (a1.px.i.back hp) hp)) (a1.px.i.back hp) (a1.px.e.back hp) upd_same r1⟩
theorem wS_retN (q : E.rt .non ρ) : wS w tRetN E ρ := fun c Dn H0 H σ a x l => l.rt .non .non ρ H0 H σ q a .non
theorem wS_if {tt : TT} (h : wT w tt ρ fun b ρ1 => if b = true then wS w t E ρ1 else wS w u E ρ1) : wS w (tIfS tt t u) E ρ := fun c Dn H0 H σ a x l =>
  h c H0 H σ _ a x fun b ρ1 H01 H1 q a1 e1 => by
    cases b with
    | true => rw [if_pos rfl] at q ⊢; exact q c Dn H01 H1 σ a1 x l
    | false => rw [if_neg Bool.false_ne_true] at q ⊢; exact q c Dn H01 H1 σ a1 x l
theorem wS_asg (h : wE w te ρ fun d ρ1 => wG w g d ρ1 E.nx) : wS w (tAsg te g) E ρ := fun c Dn H0 H σ a x l =>
  h c H0 H σ _ a x fun v d ρ1 H01 H1 q a1 e1 r1 => q c H01 H1 σ v _ a1 x r1 fun ρ2 H02 H2 σ2 q2 a2 _ => l.nx ρ2 H02 H2 σ2 q2 a2
theorem wG_name {i : Nat} {d : D} {Ψ : Env' → Prop} (q : Ψ (ρ.set i (some (.dat d)))) : wG w (gName i) d ρ Ψ := fun c H0 H σ v Q a x r k => k _ H0 H _ q (a.setDat r i) (.refl _)
theorem wG_tup {n : Nat} {gs : TGs} {d : D} {Ψ : Env' → Prop} (h : ∃ ds, d = .tup ds ∧ ds.length = n ∧ wGs w gs ds ρ Ψ) : wG w (gTup w.K n gs) d ρ Ψ := fun c H0 H σ v Q a x r k => by
  obtain ⟨ds, rfl, hn, q⟩ := h
  cases r with
  | tup hs hr => exact ⟨_, _, rfl, sqT_ex a.px.i hs, hr.length.trans hn, q c H0 H σ _ Q a x hr k⟩
theorem wGs_nil {Ψ : Env' → Prop} (q : Ψ ρ) : wGs w gNil [] ρ Ψ := fun c H0 H σ vs Q a x r k => by
  cases r
  exact ⟨rfl, k ρ H0 H σ q a (.refl _)⟩
theorem wGs_cons {gs : TGs} {d : D} {ds : List D} {Ψ : Env' → Prop} (h : wG w g d ρ fun ρ1 => wGs w gs ds ρ1 Ψ) : wGs w (gCons g gs) (d :: ds) ρ Ψ := fun c H0 H σ vs Q a x r k => by
  cases r with
  | cons r1 rs => exact ⟨_, _, rfl, h c H0 H σ _ _ a x r1 fun ρ1 H01 H1 σ1 q a1 e1 => q c H01 H1 σ1 _ Q a1 x (rs.mono e1) fun ρ2 H02 H2 σ2 q2 a2 e2 => k ρ2 H02 H2 σ2 q2 a2 (e1.trans e2)⟩
/-- x = [..], the list one's own -/
theorem wS_asgOwn {i : Nat} {t' : TA} (h : wA w t' ρ fun ds ρ1 => ds.length ≤ 1000000 ∧ E.nx (ρ1.set i (some (.own none (.lst ds))))) : wS w (tAsg (tLst t') (gName i)) E ρ := fun c Dn H0 H σ a x l =>
  h c H0 H σ _ a x fun vs ds ρ1 H01 H1 ⟨hz, q⟩ a1 e1 r1 => ⟨len_ok (by rw [r1.length]; exact hz), fun p hp => l.nx _ _ _ _ q (a1.setOwn hp (.lst r1) i)⟩
theorem own_lst {K : PySem.W.Frag} {H0 : Hp} {o : HO} {ds : List D} (r : RepO K H0 o (.lst ds)) : ∃ vs, o = .lst vs ∧ RepAll K H0 vs ds := by
  cases r with
  | lst h => exact ⟨_, rfl, h⟩
/-- x.append(e), x one's own -/
theorem wS_append {i : Nat} (h : wE w te ρ fun d ρ1 => ∃ t ds, ρ1[i]? = some (some (.own t (.lst ds))) ∧ ds.length < 1000000 ∧ E.nx (ρ1.set i (some (.own t (.lst (ds ++ [d])))))) (h0 : ∃ t ds, ρ[i]? = some (some (.own t (.lst ds)))) : wS w (tDrop (tBM w.K "list" rAppend (tVar i) (tCons te tNil))) E ρ := fun c Dn H0 H σ a x l => by
  obtain ⟨t0, ds0, h0⟩ := h0
  obtain ⟨p, o, h1, h2, _, _, r⟩ := a.own h0
  obtain ⟨vs0, rfl, r0⟩ := own_lst r
  refine ⟨.ref p, h1, .inl ⟨rfl, _, .inl (.inl h2)⟩, h c H0 H σ _ a x fun v d ρ1 H01 H1 ⟨t1, ds, g0, hz, q⟩ a1 e1 r1 => ?_⟩
  obtain ⟨p', o, g1, g2, _, _, r⟩ := a1.own g0
  rw [h1] at g1
  cases g1
  obtain ⟨vs, rfl, r2⟩ := own_lst r
  exact ⟨p, vs, v, rfl, rfl, g2, len_lt (by rw [r2.length]; exact hz), l.nx _ _ _ _ q (a1.turn g0 h1 (.lst (r2.append (.cons r1 .nil))))⟩
theorem seqIndex_nat {i n : Nat} (h : i < n) : seqIndex? (i : Int) n = some i := by
  unfold seqIndex?
  first
    | (simp; omega)
    | (rw [if_pos (by omega)]; simp)
/-- x.pop(i), x one's own -/
theorem wE_pop {i : Nat} {ti : TE} (h : wE w ti ρ fun d ρ1 => ∃ (t : Option Addr) (j : Nat) (ds : List D) (y : D), d = .int (j : Int) ∧ ρ1[i]? = some (some (.own t (.lst ds))) ∧ ds.length ≤ 1000000 ∧ ds[j]? = some y ∧ Φ y (ρ1.set i (some (.own t (.lst (ds.eraseIdx j)))))) (h0 : ∃ t ds, ρ[i]? = some (some (.own t (.lst ds)))) :
    wE w (tBM w.K "list" rPopAt (tVar i) (tCons ti tNil)) ρ Φ := fun c H0 H σ Q a x k => by
  obtain ⟨t0, ds0, h0⟩ := h0
  obtain ⟨p, o, h1, h2, _, _, r⟩ := a.own h0
  obtain ⟨vs0, rfl, r0⟩ := own_lst r
  refine ⟨.ref p, h1, .inl ⟨rfl, _, .inl (.inl h2)⟩, h c H0 H σ _ a x fun v d ρ1 H01 H1 ⟨t1, j, ds, y, e, g0, hz, hj, q⟩ a1 e1 r1 => ?_⟩
  subst e
  cases r1
  obtain ⟨p', o, g1, g2, _, _, r⟩ := a1.own g0
  rw [h1] at g1
  cases g1
  obtain ⟨vs, rfl, r2⟩ := own_lst r
  obtain ⟨yv, hy, ry⟩ := r2.get hj
  have hjl : j < ds.length := (List.getElem?_eq_some_iff.mp hj).1
  exact ⟨p, vs, (j : Int), j, yv, rfl, rfl, g2, by omega, by omega, seqIndex_nat (by rw [r2.length]; exact hjl), hy, k yv y _ H01 _ q (a1.turn g0 h1 (.lst (r2.erase j))) e1 ry⟩
/-- len(x), x[k] of one's own: it stays one's own -/
theorem wE_lenOwn {i : Nat} {t : Option Addr} {ds : List D} {rl : List V → Hp → VK → Prop} (o : CbD w.K rl fun as Ψ => ∃ es, as = [.lst es] ∧ es.length ≤ 1000000 ∧ Ψ (.int es.length)) (h : ρ[i]? = some (some (.own t (.lst ds)))) (hz : ds.length ≤ 1000000) (q : Φ (.int ds.length) ρ) :
    wE w (tCB rl (tCons (tVar i) tNil)) ρ Φ := fun c H0 H σ Q a x k => by
  obtain ⟨p, ho, h1, h2, h0, _, r⟩ := a.own h
  refine ⟨.ref p, h1, o H H [.ref p] [.lst ds] (fun d => d = .int ds.length) Q (.refl _) (.cons ?_ .nil) ⟨ds, rfl, hz, rfl⟩ fun v d H0' H' e y r' => ?_⟩
  · cases r with
    | lst hr => exact .lst h2 (hr.mono a.px.i)
  · subst e
    cases r'
    have y' : PX ⟨H, H0, []⟩ H0 H' := ⟨y.e, .refl _, a.px.i.trans y.ex, fun _ _ h => h⟩
    exact k _ _ ρ H0 H' q (a.go y') (.refl _) (.int _)
end

/-! ### loops -/
/-- what a for walks: the items, all of them data -/
def wI (w : Wx) (wi : TI) (ρ : Env') (Φ : List D → Env' → Prop) : Prop := ∀ (c : Ctx) (H0 H : Hp) (σ : St) (R : It → Hp → Prop), At w.K c ρ H0 H σ → XLink w c →
  (∀ (J : It) (ds : List D) ρ' H0' H', Φ ds ρ' → At w.K c ρ' H0' H' σ → Ex H0 H0' →
    (∀ i H01 H1, Ex H0' H01 → Ex H01 H1 → i < ds.length → J.go i H1) → (∀ H01 H1, Ex H0' H01 → Ex H01 H1 → J.stop ds.length H1) →
    (∀ i H01 H1 x H2, Ex H0' H01 → Ex H01 H1 → i < ds.length → J.yld i H1 x H2 → ∃ d H02, ds[i]? = some d ∧ PX ⟨H1, H01, []⟩ H02 H2 ∧ Rep w.K H02 x d) → R J H') → wi σ H R
section
variable {w : Wx} {ρ : Env'} {E : DE} {te ta tb : TE} {ts : TS} {g : TG}
theorem wS_for {wi : TI} (h : wI w wi ρ fun ds ρ1 => ∃ I : Nat → Env' → Prop, I 0 ρ1 ∧ (∀ i d ρ', ds[i]? = some d → I i ρ' → wG w g d ρ' fun ρ2 => wS w ts { nx := I (i + 1), ct := I (i + 1), bk := E.nx, rt := E.rt, ro := E.ro } ρ2) ∧ (∀ ρ', I ds.length ρ' → E.nx ρ')) :
    wS w (tFor wi g ts) E ρ := fun c Dn H0 H σ a x l => by
  refine h c H0 H σ _ a x fun J ds ρ1 H01 H1 ⟨I, i0, step, done⟩ a1 e1 go stop yld => ?_
  have x2 := x.part a1.px
  refine ⟨fun i m σ' H' => m = ds.length - i ∧ i ≤ ds.length ∧ ∃ ρ' H0', I i ρ' ∧ At w.K ⟨c.He, H01, c.T⟩ ρ' H0' H' σ', ⟨_, rfl, Nat.zero_le _, ρ1, H01, i0, a1.part⟩, ?_⟩
  rintro i m σ' H' ⟨rfl, hi, ρ', H0', hI, a'⟩
  by_cases hlt : i < ds.length
  · refine .inr ⟨go i H0' H' a'.px.e0 a'.px.i hlt, fun σ2 H2 => ∃ ρ2 H02, I (i + 1) ρ2 ∧ At w.K ⟨c.He, H01, c.T⟩ ρ2 H02 H2 σ2, fun σ2 H2 ⟨ρ2, H02, q, a2⟩ => ⟨ds.length - (i + 1), by omega, rfl, hlt, ρ2, H02, q, a2⟩, fun v H2 y => ?_⟩
    obtain ⟨d, H02, hd, p2, r2⟩ := yld i H0' H' v H2 a'.px.e0 a'.px.i hlt y
    refine step i d ρ' hd hI ⟨c.He, H01, c.T⟩ H02 H2 σ' v _ (a'.go p2) x2 r2 fun ρ3 H03 H3 σ3 q3 a3 _ => ?_
    refine q3 ⟨c.He, H01, c.T⟩ _ H03 H3 σ3 a3 x2 ⟨fun ρ4 H04 H4 σ4 q4 a4 => ⟨ρ4, H04, q4, a4⟩, fun d v ρ4 H04 H4 σ4 q4 a4 r4 => l.rt d v ρ4 H04 H4 σ4 q4 (At.unpart a1.px a4) r4, fun ds p us ρ4 H04 H4 σ4 q4 a4 g1 g2 g3 g4 => l.ro ds p us ρ4 H04 H4 σ4 q4 (At.unpart a1.px a4) g1 g2 g3 g4, fun ρ4 H04 H4 σ4 q4 a4 => l.nx ρ4 H04 H4 σ4 q4 (At.unpart a1.px a4), fun ρ4 H04 H4 σ4 q4 a4 => ⟨ρ4, H04, q4, a4⟩⟩
  · have e : i = ds.length := by omega
    subst e
    exact .inl ⟨stop H0' H' a'.px.e0 a'.px.i, l.nx ρ' H0' H' σ' (done ρ' hI) (At.unpart a1.px a')⟩
end
/-! ### comprehensions -/
theorem get_wipe {σ : St} {k : Nat} : ∀ (vs : List Nat), k ∉ vs → (wipe σ vs)[k]? = σ[k]?
  | [], _ => rfl
  | v :: vs, h => by
    have h1 : v ≠ k := fun e => h (by rw [e]; exact List.mem_cons_self)
    unfold wipe
    rw [List.getElem?_set_ne h1]
    exact get_wipe vs fun m => h (List.mem_cons_of_mem _ m)
theorem get_wiped {σ : St} {k : Nat} : ∀ (vs : List Nat), k ∈ vs → (wipe σ vs)[k]? = if k < σ.length then some none else none
  | [], h => by cases h
  | v :: vs, h => by
    unfold wipe
    by_cases e : v = k
    · subst e
      by_cases hl : v < σ.length
      · rw [if_pos hl, List.getElem?_set_self (by rw [wipe_length]; exact hl)]
      · rw [if_neg hl]
        exact List.getElem?_eq_none (by rw [List.length_set, wipe_length]; omega)
    · rw [List.getElem?_set_ne e]
      exact get_wiped vs ((List.mem_cons.mp h).resolve_left fun q => e q.symm)
theorem wipe_set {σ : St} {i : Nat} {x : Option V} {vs : List Nat} (h : i ∈ vs) : wipe (σ.set i x) vs = wipe σ vs := by
  apply List.ext_getElem?
  intro k
  by_cases hk : k ∈ vs
  · rw [get_wiped vs hk, get_wiped vs hk, List.length_set]
  · rw [get_wipe vs hk, get_wipe vs hk, List.getElem?_set_ne (fun e : i = k => hk (by rw [← e]; exact h))]
theorem wipe_wipe {σ : St} {vs : List Nat} : wipe (wipe σ vs) vs = wipe σ vs := by
  apply List.ext_getElem?
  intro k
  by_cases hk : k ∈ vs
  · rw [get_wiped vs hk, get_wiped vs hk, wipe_length]
  · rw [get_wipe vs hk]
/-- a target that stores in these slots alone -/
def Only (g : TG) (vs : List Nat) : Prop := ∀ v σ H (Q : St → Hp → Prop), g v σ H Q → g v σ H fun σ' H' => wipe σ' vs = wipe σ vs ∧ Q σ' H'
def OnlyS (g : TGs) (vs : List Nat) : Prop := ∀ v σ H (Q : St → Hp → Prop), g v σ H Q → g v σ H fun σ' H' => wipe σ' vs = wipe σ vs ∧ Q σ' H'
theorem only_name {i : Nat} {vs : List Nat} (h : i ∈ vs) : Only (gName i) vs := fun _ _ _ _ q => ⟨wipe_set h, q⟩
theorem onlyS_nil {vs : List Nat} : OnlyS gNil vs := fun _ _ _ _ q => ⟨q.1, rfl, q.2⟩
theorem onlyS_cons {g : TG} {gs : TGs} {vs : List Nat} (mg : ∀ v σ H (Q Q' : St → Hp → Prop), (∀ σ' H', Q σ' H' → Q' σ' H') → g v σ H Q → g v σ H Q') (mgs : ∀ v σ H (Q Q' : St → Hp → Prop), (∀ σ' H', Q σ' H' → Q' σ' H') → gs v σ H Q → gs v σ H Q')
    (h1 : Only g vs) (h2 : OnlyS gs vs) : OnlyS (gCons g gs) vs := fun v σ H Q q => by
  obtain ⟨x, r, e, q⟩ := q
  refine ⟨x, r, e, mg _ _ _ _ _ (fun σ' H' ⟨ez, z⟩ => ?_) (h1 _ _ _ _ q)⟩
  exact mgs _ _ _ _ _ (fun σ2 H2 ⟨e2, z2⟩ => ⟨e2.trans ez, z2⟩) (h2 _ _ _ _ z)
theorem only_tup {K : PySem.W.Frag} {n : Nat} {gs : TGs} {vs : List Nat} (h : OnlyS gs vs) : Only (gTup K n gs) vs := fun v σ H Q q => by
  obtain ⟨a, xs, e, hs, hl, q⟩ := q
  exact ⟨a, xs, e, hs, hl, h _ _ _ _ q⟩
theorem mono_name {i : Nat} : ∀ v σ H (Q Q' : St → Hp → Prop), (∀ σ' H', Q σ' H' → Q' σ' H') → gName i v σ H Q → gName i v σ H Q' := fun _ _ _ _ _ k q => k _ _ q
theorem mono_nil : ∀ v σ H (Q Q' : St → Hp → Prop), (∀ σ' H', Q σ' H' → Q' σ' H') → gNil v σ H Q → gNil v σ H Q' := fun _ _ _ _ _ k q => ⟨q.1, k _ _ q.2⟩
theorem mono_consN {i : Nat} {gs : TGs} (m : ∀ v σ H (Q Q' : St → Hp → Prop), (∀ σ' H', Q σ' H' → Q' σ' H') → gs v σ H Q → gs v σ H Q') : ∀ v σ H (Q Q' : St → Hp → Prop), (∀ σ' H', Q σ' H' → Q' σ' H') → gCons (gName i) gs v σ H Q → gCons (gName i) gs v σ H Q' :=
  fun _ _ _ _ _ k q => by obtain ⟨x, r, e, q⟩ := q; exact ⟨x, r, e, m _ _ _ _ _ k q⟩
/-- (i, j) -/
theorem only_pair {K : PySem.W.Frag} {i j : Nat} {vs : List Nat} (h1 : i ∈ vs) (h2 : j ∈ vs) : Only (gTup K 2 (gCons (gName i) (gCons (gName j) gNil))) vs :=
  only_tup (onlyS_cons mono_name (mono_consN mono_nil) (only_name h1) (onlyS_cons mono_name mono_nil (only_name h2) onlyS_nil))
def wipeE (ρ : Env') : List Nat → Env'
  | [] => ρ
  | j :: r => (wipeE ρ r).set j none
section
variable {K : PySem.W.Frag} {H0 H : Hp} {c : Ctx}
theorem Slots.setNone : ∀ {ρ : Env'} {σ : St} {os : List Addr} (i : Nat), Slots K H0 H ρ σ os → ∃ os', Slots K H0 H (ρ.set i none) (σ.set i none) os' ∧ os'.Sublist os
  | _, _, _, _, .nil => ⟨[], .nil, .slnil⟩
  | _, _, _, 0, .skip h => ⟨_, .skip h, .refl _⟩
  | _, _, _, i + 1, .skip h => let ⟨os', h1, h2⟩ := h.setNone i; ⟨os', .skip h1, h2⟩
  | _, _, _, 0, .dat _ h => ⟨_, .skip h, .refl _⟩
  | _, _, _, i + 1, .dat r' h => let ⟨os', h1, h2⟩ := h.setNone i; ⟨os', .dat r' h1, h2⟩
  | _, _, _, 0, .own _ _ _ h => ⟨_, .skip h, List.sublist_cons_self _ _⟩
  | _, _, _, i + 1, .own ht hp r' h => let ⟨os', h1, h2⟩ := h.setNone i; ⟨_ :: os', .own ht hp r' h1, .cons_cons _ h2⟩
theorem At.wiped {ρ : Env'} {σ : St} (a : At K c ρ H0 H σ) : ∀ vs : List Nat, At K c (wipeE ρ vs) H0 H (wipe σ vs)
  | [] => a
  | v :: vs => by
    obtain ⟨os, s, nd, f⟩ := (a.wiped vs).sl
    obtain ⟨os', s', sub⟩ := s.setNone v
    exact ⟨a.px, a.tab, os', s', nd.sublist sub, fun p hp => f p (sub.subset hp)⟩
end
/-- where nothing is raised -/
abbrev Wx.quiet (w : Wx) : Wx := ⟨w.K, fun _ _ _ => False, fun _ => False, w.T⟩
theorem quiet_link {w : Wx} {c : Ctx} (h : c.T = w.T) : XLink w.quiet c := ⟨h, fun _ h => h.elim⟩
theorem ExN.lst {T : List (Addr × Str)} {H H' : Hp} {a : Addr} {us : List V} (x : ExN T H H') (h : H a = some (.lst us)) : H' a = some (.lst us) := (x a _ h).elim id fun ⟨_, _, _, e, _⟩ => nomatch e
/-- [e for target in items if test]: I i acc, acc made of the first i items -/
theorem wE_lc {w : Wx} {ρ : Env'} {Φ : D → Env' → Prop} {wi : TI} {g : TG} {tt : TT} {te : TE} {vs : List Nat} (hon : Only g vs)
    (h : wI w wi ρ fun ds ρ1 => ds.length ≤ 1000000 ∧ ∃ I : Nat → List D → Prop, I 0 [] ∧ (∀ i d acc, ds[i]? = some d → I i acc → wG w.quiet g d (wipeE (hide ρ1) vs) fun ρ2 => wT w.quiet tt ρ2 fun b ρ3 =>
      if b = true then wE w.quiet te ρ3 fun y _ => I (i + 1) (acc ++ [y]) else I (i + 1) acc) ∧ (∀ acc, acc.length ≤ ds.length → I ds.length acc → Φ (.lst acc) ρ1)) : wE w (tLc wi g tt te vs) ρ Φ := fun c H0 H σ Q a x k => by
  refine h c H0 H σ _ a x fun J ds ρ1 H01 H1 ⟨hz, I, i0, step, done⟩ a1 e1 go stop yld => ?_
  intro Dl hD
  have hD0 : H01 Dl = none := a1.px.i.back hD
  refine ⟨fun i m H' => m = ds.length - i ∧ i ≤ ds.length ∧ ∃ H0' us acc, PX ⟨H1, H01, c.T⟩ H0' H' ∧ TabA c.T H0' H' ∧ H' Dl = some (.lst us) ∧ H0' Dl = none ∧ RepAll w.K H0' us acc ∧ acc.length ≤ i ∧ I i acc,
    ⟨_, rfl, Nat.zero_le _, H01, [], [], (PX.refl a1.px.i).change hD0 hD, a1.tab.keep (ext_both (Ex.new hD)) (fun _ h _ => h), upd_same, hD0, .nil, Nat.zero_le _, i0⟩, ?_⟩
  rintro i m H' ⟨rfl, hi, H0', us, acc, p, tb, hl, h0, r, hn, hI⟩
  have known : ∀ {H : Hp} {us : List V}, H Dl = some (.lst us) → H Dl ≠ none := fun e z => by rw [e] at z; cases z
  have tabD : ∀ {H : Hp} {us us' : List V}, H Dl = some (.lst us) → ∀ b o, H b = some o → (∀ xs, o ≠ .lst xs) → (∀ xs, o ≠ .dK xs) → (∀ C dx xs, o ≠ .ins C dx xs) → upd H Dl (.lst us') b = some o := fun {H us us'} e b o hb n1 _ _ => by
    have hne : b ≠ Dl := fun z => by
      rw [z, e] at hb
      cases hb
      exact n1 _ rfl
    exact (upd_ne hne).trans hb
  by_cases hlt : i < ds.length
  · refine .inr ⟨go i H0' H' p.e0 p.i hlt, fun H'' => ∃ H0' us acc, PX ⟨H1, H01, c.T⟩ H0' H'' ∧ TabA c.T H0' H'' ∧ H'' Dl = some (.lst us) ∧ H0' Dl = none ∧ RepAll w.K H0' us acc ∧ acc.length ≤ i + 1 ∧ I (i + 1) acc,
      fun H'' ⟨H0', us, acc, q⟩ => ⟨ds.length - (i + 1), by omega, rfl, hlt, H0', us, acc, q⟩, fun v H2 y => ?_⟩
    obtain ⟨d, H02, hd, p2, r2⟩ := yld i H0' H' v H2 p.e0 p.i hlt y
    have P2 := p.trans p2
    have l2 : H2 Dl = some (.lst us) := p2.ex _ _ hl
    have n2 : H02 Dl = none := p2.n Dl (known hl) h0
    have tb2 : TabA c.T H02 H2 := tb.keep (ext_both p2.ex) fun q h1 ⟨ps, h2⟩ => p2.n q (by show H' q ≠ none; rw [h2]; exact nofun) h1
    have aw : At w.quiet.K ⟨H2, H02, c.T⟩ (wipeE (hide ρ1) vs) H02 H2 (wipe σ vs) := ((a1.goT P2 tb2).freshT).wiped vs
    have ql : XLink w.quiet ⟨H2, H02, c.T⟩ := quiet_link x.t
    have s := step i d acc hd hI ⟨H2, H02, c.T⟩ H02 H2 (wipe σ vs) v (fun σ2 H2' => tt σ2 H2' fun b H3 => if b = true then te σ2 H3 fun y H4 => ∃ acc, H4 Dl = some (.lst acc) ∧ acc.length < sizeLine ∧
      (∃ H0' us ac, PX ⟨H1, H01, c.T⟩ H0' (upd H4 Dl (.lst (acc ++ [y]))) ∧ TabA c.T H0' (upd H4 Dl (.lst (acc ++ [y]))) ∧ (upd H4 Dl (.lst (acc ++ [y]))) Dl = some (.lst us) ∧ H0' Dl = none ∧ RepAll w.K H0' us ac ∧ ac.length ≤ i + 1 ∧ I (i + 1) ac)
      else (∃ H0' us ac, PX ⟨H1, H01, c.T⟩ H0' H3 ∧ TabA c.T H0' H3 ∧ H3 Dl = some (.lst us) ∧ H0' Dl = none ∧ RepAll w.K H0' us ac ∧ ac.length ≤ i + 1 ∧ I (i + 1) ac)) aw ql r2 fun ρ3 H03 H3 σ3 q3 a3 e3 => ?_
    · have s2 := hon _ _ _ _ s
      rw [wipe_wipe] at s2
      exact s2
    · refine q3 ⟨H2, H02, c.T⟩ H03 H3 σ3 _ a3 ql fun b ρ4 H04 H4 q4 a4 e4 => ?_
      cases b with
      | true =>
        rw [if_pos rfl] at q4 ⊢
        refine q4 ⟨H2, H02, c.T⟩ H04 H4 σ3 _ a4 ql fun yv yd ρ5 H05 H5 q5 a5 e5 r5 => ?_
        have l5 : H5 Dl = some (.lst us) := a5.px.e.lst l2
        have n5 : H05 Dl = none := a5.px.n Dl (known l2) n2
        have P5 : PX ⟨H1, H01, c.T⟩ H05 H5 := P2.transT a5.px
        refine ⟨us, l5, len_lt (by rw [r.length]; omega), H05, us ++ [yv], acc ++ [yd], P5.change n5 hD, a5.tab.keep (tabD l5) (fun _ h _ => h), upd_same, n5, (r.mono (p2.e0.trans a5.px.e0)).append (.cons r5 .nil), by rw [List.length_append]; simp; omega, q5⟩
      | false =>
        rw [if_neg Bool.false_ne_true] at q4 ⊢
        exact ⟨H04, us, acc, P2.transT a4.px, a4.tab, a4.px.e.lst l2, a4.px.n Dl (known l2) n2, r.mono (p2.e0.trans a4.px.e0), by omega, q4⟩
  · have e : i = ds.length := by omega
    subst e
    have P := p.learn hl h0 hD
    have tb' : TabA c.T (upd H0' Dl (.lst us)) H' := tb.keep (fun _ _ h _ _ _ => h) fun q h1 ⟨ps, h2⟩ => by
      have hne : q ≠ Dl := fun z => by rw [z, hl] at h2; cases h2
      exact (upd_ne hne).trans h1
    refine .inl ⟨stop H0' H' p.e0 p.i, k _ (.lst acc) ρ1 _ H' (done acc hn hI) (a1.goT P tb') (e1.trans P.e0) (.lst upd_same (r.mono (Ex.new h0)))⟩
end DL
namespace DL
open PySem PySem.Spec L2
open PyProof.Rows hiding St

/-! ### promises over data -/
abbrev DSp := List D → (D → Prop) → (Exn → Prop) → Prop
/-- a promise over data, as one over heaps -/
def lift (K : PySem.W.Frag) (S : DSp) : Sp := fun vs H Q E => ∃ (H0 : Hp) (ds : List D) (Φ : D → Prop) (Ψ : Exn → Prop), Ex H0 H ∧ RepAll K H0 vs ds ∧ S ds Φ Ψ ∧
  (∀ v d H0' H', Φ d → PX ⟨H, H0, []⟩ H0' H' → Rep K H0' v d → Q v H') ∧ (∀ x dd H0' H', Ψ x → PX ⟨H, H0, []⟩ H0' H' → RepX K H0' H' x dd → E (.ref x.C) dd H')
def startE (N : List Str) (ds : List D) : Env' := (ds.map fun d => some (.dat d)) ++ List.replicate (N.length - ds.length) none
theorem slots_none {K : PySem.W.Frag} {H0 H : Hp} : ∀ n : Nat, Slots K H0 H (List.replicate n none) (List.replicate n none) []
  | 0 => .nil
  | n + 1 => .skip (slots_none n)
theorem slots_start {K : PySem.W.Frag} {H0 H : Hp} {n : Nat} : ∀ {vs : List V} {ds : List D}, RepAll K H0 vs ds → Slots K H0 H ((ds.map fun d => some (.dat d)) ++ List.replicate n none) (vs.map some ++ List.replicate n none) []
  | _, _, .nil => slots_none n
  | _, _, .cons r rs => .dat r (slots_start rs)
theorem at_start {K : PySem.W.Frag} {H0 H : Hp} {N : List Str} {vs : List V} {ds : List D} (e : Ex H0 H) (r : RepAll K H0 vs ds) : At K ⟨H, H0, []⟩ (startE N ds) H0 H (L2.start N vs) := by
  refine ⟨PX.refl e, .nil, [], ?_, List.nodup_nil, fun _ h => nomatch h⟩
  unfold startE L2.start
  rw [r.length]
  exact slots_start r

section
variable {P : Program} {w : World} {K : PySem.W.Frag} {mg : Str → Option Value} {base : Heap}
/-- a def of the text that keeps a promise over data -/
structure CallD (P : Program) (w : World) (K : PySem.W.Frag) (mg : Str → Option Value) (base : Heap) (x : Str) (k : Nat) (S : DSp) : Prop where
  ex : ∃ f fd ps, FnG P w K mg base k f fd ps (lift K S) ∧ mg x = some (.ref f) ∧ PySem.W.keepIn K (.ref f) = true ∧ Binds K fd ps []
theorem CallD.mono {x : Str} {j k : Nat} {S : DSp} (c : CallD P w K mg base x j S) (h : j ≤ k) : CallD P w K mg base x k S := let ⟨f, fd, ps, F, r⟩ := c.ex; ⟨f, fd, ps, F.mono h, r⟩
end
section
variable {X : Cx} {k : Nat} {E : XK} {x : Str} {p pos : Pos} {e : Expr} {es : List Expr} {t : TA} {S : DSp}
theorem pe_callD (c : CallD X.prog X.w X.K X.mg X.base x k S) (room : RoomG k X.A) (hx : Passes (CXD X.prog X.w) X E) (ha : PA X (e :: es) t) (hg : Gl X x := by rfl) (hdb : (x == ("__debug__" : Str)) = false := by decide)
    (he : starEach (e :: es) X.env = (false, eval e X.env) :: starEach es X.env := by rfl) (hpl : (backTo pos (starEach es X.env)).any (·.1) = false := by rfl) : PE X (.Call (.Name x p) (e :: es) [] pos) (tCall (lift X.K S) [] E t) := by
  obtain ⟨f, fd, ps, F, hm, hk, hb⟩ := c.ex
  exact pe_callG F room hg hm hk hb .nil hx ha hdb he hpl
end
section
variable {w : Wx} {ρ : Env'} {Φ : D → Env' → Prop} {ta : TA} {S : DSp}
theorem wE_call (h : wA w ta ρ fun ds ρ1 => S ds (fun d => Φ d ρ1) w.X) : wE w (tCall (lift w.K S) [] w.EX ta) ρ Φ := fun c H0 H σ Q a x k =>
  h c H0 H σ _ a x fun vs ds ρ1 H01 H1 q a1 e1 r1 => ⟨H01, ds, fun d => Φ d ρ1, w.X, a1.px.i, by rw [List.append_nil]; exact r1, q,
    fun v d H0' H' z p rv => k v d ρ1 H0' H' z (a1.go p) (e1.trans p.e0) rv, fun y dd H0' H' z p rx => x.l y z dd H0' H' (a1.px.trans p) rx⟩
end

/-! ### what is walked -/
def itemsD : D → Option (List D)
  | .lst l => some l
  | .tup l => some l
  | .str s => some (s.cps.toList.map fun c => .str ⟨#[c]⟩)
  | _ => none
def rangeD (lo hi : Int) : List D := (List.range (hi - lo).toNat).map fun (i : Nat) => D.int (lo + (i : Int))
def enumD (l : List D) : List D := List.zipWith (fun (i : Nat) (d : D) => D.tup [D.int (i : Int), d]) (List.range l.length) l
section
variable {w : Wx} {ρ : Env'} {Φ : List D → Env' → Prop} {te : TE} {ta : TA}
theorem yield_at {K : PySem.W.Frag} {H0' H01 H1 : Hp} {xs : List V} {ds : List D} {i : Nat} {x : V} {H2 : Hp} (hr : RepAll K H0' xs ds) (e : Ex H0' H01) (j : Ex H01 H1) (y : YAt xs i H1 x H2) : ∃ d H02, ds[i]? = some d ∧ PX ⟨H1, H01, []⟩ H02 H2 ∧ Rep K H02 x d := by
  obtain ⟨e1, e2⟩ := y
  subst e1
  obtain ⟨d, h1, h2⟩ := hr.getV e2
  exact ⟨d, H01, h1, PX.refl j, h2.mono e⟩
theorem wI_any (h : wE w te ρ fun d ρ1 => ∃ ds, itemsD d = some ds ∧ Φ ds ρ1) : wI w (iAny w.K te) ρ Φ := fun c H0 H σ R a x k =>
  h c H0 H σ _ a x fun v d ρ1 H01 H1 ⟨ds, hi, q⟩ a1 e1 r1 => by
    cases r1 with
    | lst hp hr =>
      cases hi
      exact .inl ⟨_, rfl, ⟨_, .inl (.inl (a1.px.i _ _ hp))⟩, k _ _ ρ1 H01 H1 q a1 e1
        (fun i Ha Hb e j lt => (walk_list (K := w.K)).goes i Hb (by rw [hr.length]; exact lt) (.inl (.inl (j _ _ (e _ _ hp))))) (fun Ha Hb e j => by rw [← hr.length]; exact (walk_list (K := w.K)).stops Hb (.inl (.inl (j _ _ (e _ _ hp)))))
        (fun i Ha Hb x Hc e j lt y => yield_at hr e j ((walk_list (K := w.K)).yields i Hb x Hc (by rw [hr.length]; exact lt) (.inl (.inl (j _ _ (e _ _ hp)))) y))⟩
    | tup hp hr =>
      cases hi
      exact .inr (.inl ⟨_, rfl, ⟨_, sqT_ex a1.px.i hp⟩, k _ _ ρ1 H01 H1 q a1 e1
        (fun i Ha Hb e j lt => (walk_tup (K := w.K)).goes i Hb (by rw [hr.length]; exact lt) (sqT_ex (e.trans j) hp)) (fun Ha Hb e j => by rw [← hr.length]; exact (walk_tup (K := w.K)).stops Hb (sqT_ex (e.trans j) hp))
        (fun i Ha Hb x Hc e j lt y => yield_at hr e j ((walk_tup (K := w.K)).yields i Hb x Hc (by rw [hr.length]; exact lt) (sqT_ex (e.trans j) hp) y))⟩)
    | str z =>
      cases hi
      have hl : (z.cps.toList.map fun c => D.str ⟨#[c]⟩).length = z.cps.size := by rw [List.length_map]; simp
      refine .inr (.inr ⟨z, rfl, k _ _ ρ1 H01 H1 q a1 e1 (fun i Ha Hb e j lt => walk_str.goes i Hb (by rw [← hl]; exact lt) trivial) (fun Ha Hb e j => by rw [hl]; exact walk_str.stops Hb trivial) (fun i Ha Hb x Hc e j lt y => ?_)⟩)
      obtain ⟨y1, ch, y2, y3⟩ := walk_str.yields i Hb x Hc (by rw [← hl]; exact lt) trivial y
      subst y1 y3
      refine ⟨.str ⟨#[ch]⟩, Ha, ?_, PX.refl j, .str _⟩
      rw [List.getElem?_map, Array.getElem?_toList, y2]
      rfl
    | _ => cases hi
theorem wI_range1 (h : wA w ta ρ fun ds ρ1 => ∃ j : Int, ds = [.int j] ∧ (-1000000 ≤ j ∧ j ≤ 1000000) ∧ Φ (rangeD 0 j) ρ1) : wI w (iRng1 ta) ρ Φ := fun c H0 H σ R a x k =>
  h c H0 H σ _ a x fun vs ds ρ1 H01 H1 ⟨j, e, hj, q⟩ a1 e1 r1 => by
    subst e
    cases r1 with
    | cons r rs =>
      cases rs; cases r
      have hl : (rangeD 0 j).length = j.toNat := by unfold rangeD; rw [List.length_map, List.length_range]; omega
      refine ⟨j, rfl, by omega, by omega, k _ _ ρ1 H01 H1 q a1 e1 (fun i Ha Hb e j' lt => walk_range.goes i Hb (by rw [← hl]; exact lt) trivial) (fun Ha Hb e j' => by rw [hl]; exact walk_range.stops Hb trivial) (fun i Ha Hb x Hc e j' lt y => ?_)⟩
      obtain ⟨y1, y2⟩ := walk_range.yields i Hb x Hc (by rw [← hl]; exact lt) trivial y
      subst y1 y2
      refine ⟨.int (0 + (i : Int)), Ha, ?_, PX.refl j', .int _⟩
      rw [hl] at lt
      unfold rangeD
      rw [List.getElem?_map, List.getElem?_range (by omega)]
      rfl
theorem wI_range2 (h : wA w ta ρ fun ds ρ1 => ∃ i j : Int, ds = [.int i, .int j] ∧ (-1000000 ≤ i ∧ i ≤ 1000000 ∧ -1000000 ≤ j ∧ j ≤ 1000000) ∧ Φ (rangeD i j) ρ1) : wI w (iRng2 ta) ρ Φ := fun c H0 H σ R a x k =>
  h c H0 H σ _ a x fun vs ds ρ1 H01 H1 ⟨m, j, e, hj, q⟩ a1 e1 r1 => by
    subst e
    cases r1 with
    | cons r rs =>
      cases rs with
      | cons r2 rs =>
        cases rs; cases r; cases r2
        have hl : (rangeD m j).length = (j - m).toNat := by unfold rangeD; rw [List.length_map, List.length_range]
        refine ⟨m, j, rfl, by omega, k _ _ ρ1 H01 H1 q a1 e1 (fun i Ha Hb e j' lt => walk_range.goes i Hb (by rw [← hl]; exact lt) trivial) (fun Ha Hb e j' => by rw [hl]; exact walk_range.stops Hb trivial) (fun i Ha Hb x Hc e j' lt y => ?_)⟩
        obtain ⟨y1, y2⟩ := walk_range.yields i Hb x Hc (by rw [← hl]; exact lt) trivial y
        subst y1 y2
        refine ⟨.int (m + (i : Int)), Ha, ?_, PX.refl j', .int _⟩
        rw [hl] at lt
        unfold rangeD
        rw [List.getElem?_map, List.getElem?_range lt]
        rfl
theorem wI_enumT (h : wA w ta ρ fun ds ρ1 => ∃ l, ds = [.tup l] ∧ Φ (enumD l) ρ1) : wI w (iEnumT w.K ta) ρ Φ := fun c H0 H σ R a x k =>
  h c H0 H σ _ a x fun vs ds ρ1 H01 H1 ⟨l, e, q⟩ a1 e1 r1 => by
    subst e
    cases r1 with
    | cons r rs =>
      cases rs
      cases r with
      | tup hp hr =>
        have hl : (enumD l).length = l.length := by unfold enumD; rw [List.length_zipWith, List.length_range]; omega
        refine ⟨_, _, rfl, sqT_ex a1.px.i hp, k _ _ ρ1 H01 H1 q a1 e1 (fun i Ha Hb e j lt => ?_) (fun Ha Hb e j => ⟨_, sqT_ex (e.trans j) hp, by rw [hl]; exact hr.length⟩) (fun i Ha Hb x Hc e j lt y => ?_)⟩
        · exact ⟨_, _, sqT_ex (e.trans j) hp, List.getElem?_eq_getElem (by rw [hr.length]; rw [hl] at lt; exact lt)⟩
        · obtain ⟨T, xv, y1, y2, y3, y4⟩ := y
          subst y1 y3
          obtain ⟨d, g1, g2⟩ := hr.getV (y4 _ (sqT_ex (e.trans j) hp))
          have nx := (PX.refl (T := []) j).new (o := .tup [.int (i : Nat), xv]) y2
          refine ⟨.tup [.int (i : Nat), d], _, ?_, nx, .tup (.inl (.inl upd_same)) (.cons (.int _) (.cons (g2.mono (e.trans nx.e0)) .nil))⟩
          unfold enumD
          rw [List.getElem?_zipWith, List.getElem?_range (by rw [hl] at lt; exact lt), g1]
def zipD (l1 l2 : List D) : List D := List.zipWith (fun x y => .tup [x, y]) l1 l2
theorem wI_zipT (h : wA w ta ρ fun ds ρ1 => ∃ l1 l2, ds = [.tup l1, .tup l2] ∧ Φ (zipD l1 l2) ρ1) : wI w (RZ.iZipA w.K ta) ρ Φ := fun c H0 H σ R a x k =>
  h c H0 H σ _ a x fun vs ds ρ1 H01 H1 ⟨l1, l2, e, q⟩ a1 e1 r1 => by
    subst e
    cases r1 with
    | cons r rs =>
      cases rs with
      | cons r' rs =>
        cases rs
        cases r with
        | tup hp hr =>
          cases r' with
          | tup hp' hr' =>
            have hl : (zipD l1 l2).length = min l1.length l2.length := List.length_zipWith
            refine ⟨_, _, _, _, rfl, .inr ⟨sqT_ex a1.px.i hp, sqT_ex a1.px.i hp', k _ _ ρ1 H01 H1 q a1 e1 (fun i Ha Hb e j lt => ?_) (fun Ha Hb e j => ⟨_, _, sqT_ex (e.trans j) hp, sqT_ex (e.trans j) hp', ?_⟩) (fun i Ha Hb x Hc e j lt y => ?_)⟩⟩
            · have h1 := hr.length
              have h2 := hr'.length
              exact ⟨_, _, _, _, sqT_ex (e.trans j) hp, sqT_ex (e.trans j) hp', List.getElem?_eq_getElem (by omega), List.getElem?_eq_getElem (by omega)⟩
            · rw [hl, hr.length, hr'.length]; omega
            · obtain ⟨T, xv, yv, y1, y2, y3, y4, y5⟩ := y
              subst y1 y3
              obtain ⟨d, g1, g2⟩ := hr.getV (y4 _ (sqT_ex (e.trans j) hp))
              obtain ⟨d', g1', g2'⟩ := hr'.getV (y5 _ (sqT_ex (e.trans j) hp'))
              have nx := (PX.refl (T := []) j).new (o := .tup [xv, yv]) y2
              refine ⟨.tup [d, d'], _, ?_, nx, .tup (.inl (.inl upd_same)) (.cons (g2.mono (e.trans nx.e0)) (.cons (g2'.mono (e.trans nx.e0)) .nil))⟩
              unfold zipD
              rw [List.getElem?_zipWith, g1, g1']
end
end DL
namespace DL
open PySem PySem.Spec L2
open PyProof.Rows hiding St

/-! ### operators over data -/
section
variable {K : PySem.W.Frag}
theorem fin0 {H0 H : Hp} {v : V} {d : D} {Φ : D → Prop} {Q : VK} (e : Ex H0 H) (q : Φ d) (r : Rep K H0 v d) (k : ∀ v d H0' H', Φ d → PX ⟨H, H0, []⟩ H0' H' → Rep K H0' v d → Q v H') : Q v H := k v d H0 H q (PX.refl e) r
theorem finL {H0 H : Hp} {xs : List V} {ds : List D} {Φ : D → Prop} {Q : VK} (e : Ex H0 H) (q : Φ (.lst ds)) (r : RepAll K H0 xs ds) (k : ∀ v d H0' H', Φ d → PX ⟨H, H0, []⟩ H0' H' → Rep K H0' v d → Q v H') : ∀ p, H p = none → Q (.ref p) (upd H p (.lst xs)) := fun p hp => by
  have y : PX ⟨H, H0, []⟩ (upd H0 p (.lst xs)) (upd H p (.lst xs)) := (PX.refl e).new hp
  exact k _ _ _ _ q y (.lst upd_same (r.mono y.e0))
theorem finT {H0 H : Hp} {xs : List V} {ds : List D} {Φ : D → Prop} {Q : VK} (e : Ex H0 H) (q : Φ (.tup ds)) (r : RepAll K H0 xs ds) (k : ∀ v d H0' H', Φ d → PX ⟨H, H0, []⟩ H0' H' → Rep K H0' v d → Q v H') : ∀ p, H p = none → Q (.ref p) (upd H p (.tup xs)) := fun p hp => by
  have y : PX ⟨H, H0, []⟩ (upd H0 p (.tup xs)) (upd H p (.tup xs)) := (PX.refl e).new hp
  exact k _ _ _ _ q y (.tup (.inl (.inl upd_same)) (r.mono y.e0))

/-! a + b -/
def rAdd (K : PySem.W.Frag) : R2 := fun x y H Q => (rI0 fun i j => .int (i + j)) x y H Q ∨ (∃ i j, x = .str i ∧ y = .str j ∧ i.length + j.length ≤ sizeLine ∧ Q (.str (i ++ j)) H) ∨ rCat x y H Q ∨ rCatA K x y H Q
def addG (x y : D) (Φ : D → Prop) : Prop := match x, y with
  | .int i, .int j => Φ (.int (i + j))
  | .str i, .str j => i.length + j.length ≤ 1000000 ∧ Φ (.str (i ++ j))
  | .lst l, .lst m => l.length + m.length ≤ 1000000 ∧ Φ (.lst (l ++ m))
  | .tup l, .tup m => l.length + m.length ≤ 1000000 ∧ Φ (.tup (l ++ m))
  | _, _ => False
theorem opd_add : OpD K (rAdd K) addG := fun H0 H x y dx dy Φ Q e rx ry g k => by
  cases rx <;> cases ry <;> first
    | exact g.elim
    | exact .inl ⟨_, _, rfl, rfl, fin0 e g (.int _) k⟩
    | exact .inr (.inl ⟨_, _, rfl, rfl, len_ok g.1, fin0 e g.2 (.str _) k⟩)
    | (rename_i h1 r1 _ _ _ h2 r2; exact .inr (.inr (.inl ⟨_, _, _, _, rfl, rfl, e _ _ h1, e _ _ h2, len_ok (by rw [r1.length, r2.length]; exact g.1), finL e g.2 (r1.append r2) k⟩)))
    | (rename_i h1 r1 _ _ _ h2 r2
       refine .inr (.inr (.inr ⟨_, _, _, _, rfl, rfl, sqT_ex e h1, sqT_ex e h2, len_ok (by rw [r1.length, r2.length]; exact g.1), fun z => ?_, fun _ z => ?_, fun _ _ => finT e g.2 (r1.append r2) k⟩))
       · subst z; cases r1; exact fin0 e (by have := g.2; rwa [List.nil_append] at this) (.tup h2 r2) k
       · subst z; cases r2; exact fin0 e (by have := g.2; rwa [List.append_nil] at this) (.tup h1 r1) k)

/-! ints -/
def intG (C : Int → Int → Prop) (f : Int → Int → D) (x y : D) (Φ : D → Prop) : Prop := match x, y with
  | .int i, .int j => C i j ∧ Φ (f i j)
  | _, _ => False
def intG0 (f : Int → Int → D) (x y : D) (Φ : D → Prop) : Prop := match x, y with
  | .int i, .int j => Φ (f i j)
  | _, _ => False
theorem opd_int {C : Int → Int → Prop} {f : Int → Int → D} {g : Int → Int → V} (hr : ∀ H i j, Rep K H (g i j) (f i j)) : OpD K (rI C g) (intG C f) := fun H0 H x y dx dy Φ Q e rx ry h k => by
  cases rx <;> cases ry <;> first
    | exact h.elim
    | exact ⟨_, _, rfl, rfl, h.1, fin0 e h.2 (hr _ _ _) k⟩
theorem opd_int0 {f : Int → Int → D} {g : Int → Int → V} (hr : ∀ H i j, Rep K H (g i j) (f i j)) : OpD K (rI0 g) (intG0 f) := fun H0 H x y dx dy Φ Q e rx ry h k => by
  cases rx <;> cases ry <;> first
    | exact h.elim
    | exact ⟨_, _, rfl, rfl, fin0 e h (hr _ _ _) k⟩
def subG : D → D → (D → Prop) → Prop := intG0 fun i j => .int (i - j)
def fdivG : D → D → (D → Prop) → Prop := intG CDiv fun i j => .int (i / j)
def modG : D → D → (D → Prop) → Prop := intG (fun _ j => 0 < j) fun i j => .int (i % j)
def powG : D → D → (D → Prop) → Prop := intG CPow fun i j => .int (i ^ j.toNat)
def ltG : D → D → (D → Prop) → Prop := intG0 fun i j => .bl (decide (i < j))
def leG : D → D → (D → Prop) → Prop := intG0 fun i j => .bl (decide (i ≤ j))
def gtG : D → D → (D → Prop) → Prop := intG0 fun i j => .bl (decide (j < i))
def geG : D → D → (D → Prop) → Prop := intG0 fun i j => .bl (decide (j ≤ i))
theorem opd_sub : OpD K (rI0 fun i j => .int (i - j)) subG := opd_int0 fun _ _ _ => .int _
theorem opd_fdiv : OpD K (rI CDiv fun i j => .int (i / j)) fdivG := opd_int fun _ _ _ => .int _
theorem opd_mod : OpD K (rI (fun _ j => 0 < j) fun i j => .int (i % j)) modG := opd_int fun _ _ _ => .int _
theorem opd_pow : OpD K (rI CPow fun i j => .int (i ^ j.toNat)) powG := opd_int fun _ _ _ => .int _
theorem opd_lt : OpD K (rI0 fun i j => .bl (decide (i < j))) ltG := opd_int0 fun _ _ _ => .bl _
theorem opd_le : OpD K (rI0 fun i j => .bl (decide (i ≤ j))) leG := opd_int0 fun _ _ _ => .bl _
theorem opd_gt : OpD K (rI0 fun i j => .bl (decide (j < i))) gtG := opd_int0 fun _ _ _ => .bl _
theorem opd_ge : OpD K (rI0 fun i j => .bl (decide (j ≤ i))) geG := opd_int0 fun _ _ _ => .bl _
/-- a * b: one of both small, or both together of at most so many bits -/
def MulC (i j : Int) : Prop := CMul i j ∨ CMulX i j
def rMul : R2 := fun x y H Q => rI CMul (fun i j => .int (i * j)) x y H Q ∨ rI CMulX (fun i j => .int (i * j)) x y H Q
def mulG : D → D → (D → Prop) → Prop := intG MulC fun i j => .int (i * j)
theorem opd_mul : OpD K rMul mulG := fun H0 H x y dx dy Φ Q e rx ry h k => by
  cases rx <;> cases ry <;> first
    | exact h.elim
    | (rcases h.1 with c | c
       · exact .inl ⟨_, _, rfl, rfl, c, fin0 e h.2 (.int _) k⟩
       · exact .inr ⟨_, _, rfl, rfl, c, fin0 e h.2 (.int _) k⟩)
theorem MulC.left {i j : Int} (h1 : -(2 ^ 64) < i) (h2 : i < 2 ^ 64) : MulC i j := .inl (.inl ⟨h1, h2⟩)
theorem MulC.right {i j : Int} (h1 : -(2 ^ 64) < j) (h2 : j < 2 ^ 64) : MulC i j := .inl (.inr ⟨h1, h2⟩)
theorem MulC.bits {i j : Int} {a b : Nat} (ha : i.natAbs < 2 ^ a) (hb : j.natAbs < 2 ^ b) (h : a + b ≤ 134217728) : MulC i j := .inr (mulx_ok ha hb h)
def unG (f : Int → D) (x : D) (Φ : D → Prop) : Prop := match x with
  | .int i => Φ (f i)
  | _ => False
theorem und_neg : UnD K (rU fun i => .int (-i)) (unG fun i => .int (-i)) := fun H0 H x dx Φ Q e rx h k => by
  cases rx <;> first
    | exact h.elim
    | exact ⟨_, rfl, fin0 e h (.int _) k⟩

/-! data as such -/
mutual
def D.py : D → PyData
  | .non => .none
  | .bl b => .bool b
  | .int i => .int i
  | .str x => .str x
  | .tup l => .tuple (pyAll l)
  | .lst l => .list (pyAll l)
  | .dic _ | .ins _ _ | .pail | .scr _ | .raw _ | .exn _ _ _ | .dik _ | .kd _ _ _ _ => .none
def pyAll : List D → List PyData
  | [] => []
  | d :: l => d.py :: pyAll l
end
mutual
def D.pure : D → Bool
  | .non => true
  | .bl _ => true
  | .int _ => true
  | .str x => PyData.strOk x
  | .tup l => pureAll l
  | .lst l => pureAll l
  | .dic _ => false
  | .ins _ _ => false
  | .pail => false
  | .scr _ => false
  | .raw _ => false
  | .exn _ _ _ => false
  | .dik _ => false
  | .kd _ _ _ _ => false
def pureAll : List D → Bool
  | [] => true
  | d :: l => d.pure && pureAll l
end
mutual
theorem dp_of {H0 H : Hp} (e : Ex H0 H) : ∀ {v : V} {d : D}, Rep K H0 v d → d.pure = true → Dp K H v d.py
  | _, _, .non, _ => .non
  | _, _, .bl b, _ => .bl b
  | _, _, .int i, _ => .int i
  | _, _, .str x, _ => .str x
  | _, _, .tup h hs, p => .tup (sqT_ex e h) (dpAll_of e hs (by simpa [D.pure] using p))
  | _, _, .lst h hs, p => .lst (.inl (.inl (e _ _ h))) (dpAll_of e hs (by simpa [D.pure] using p))
  | _, _, .dic _ _, p => by simp [D.pure] at p
  | _, _, .dik _ _, p => by simp [D.pure] at p
  | _, _, .kd _ _, p => by simp [D.pure] at p
  | _, _, .ins _ _, p => by simp [D.pure] at p
  | _, _, .pail _, p => by simp [D.pure] at p
  | _, _, .scr _, p => by simp [D.pure] at p
  | _, _, .raw _, p => by simp [D.pure] at p
  | _, _, .exn _ _, p => by simp [D.pure] at p
theorem dpAll_of {H0 H : Hp} (e : Ex H0 H) : ∀ {vs : List V} {ds : List D}, RepAll K H0 vs ds → pureAll ds = true → DpAll K H vs (pyAll ds)
  | _, _, .nil, _ => .nil
  | _, _, .cons h hs, p => by
    have p' := p
    simp only [pureAll, Bool.and_eq_true] at p'
    exact .cons (dp_of e h p'.1) (dpAll_of e hs p'.2)
end
mutual
theorem canLay_of_pure : ∀ d : D, d.pure = true → d.py.canLay0 = true
  | .non, _ => by simp [D.py, PyData.canLay0]
  | .bl _, _ => by simp [D.py, PyData.canLay0]
  | .int _, _ => by simp [D.py, PyData.canLay0]
  | .str x, h => by simpa [D.py, D.pure, PyData.canLay0] using h
  | .tup l, h => by simpa [D.py, PyData.canLay0] using canLayAll_of_pure l (by simpa [D.pure] using h)
  | .lst l, h => by simpa [D.py, PyData.canLay0] using canLayAll_of_pure l (by simpa [D.pure] using h)
  | .dic _, h => by simp [D.pure] at h
  | .ins _ _, h => by simp [D.pure] at h
  | .pail, h => by simp [D.pure] at h
  | .scr _, h => by simp [D.pure] at h
  | .raw _, h => by simp [D.pure] at h
  | .exn _ _ _, h => by simp [D.pure] at h
theorem canLayAll_of_pure : ∀ l : List D, pureAll l = true → PyData.canLayAll0 (pyAll l) = true
  | [], _ => by simp [pyAll, PyData.canLayAll0]
  | d :: l, h => by
    simp only [pureAll, Bool.and_eq_true] at h
    simp only [pyAll, PyData.canLayAll0, canLay_of_pure d h.1, canLayAll_of_pure l h.2, Bool.and_self]
end
/-- how deep, how heavy -/
def D.dep (d : D) : Nat := d.py.depth
def D.wgt (d : D) : Nat := d.py.weight
/-- data that == looks at: not too deep -/
structure Shp (n : Nat) (d : D) : Prop where
  p : d.pure = true
  n : d.dep ≤ n
theorem Shp.shaped {n : Nat} {d : D} (h : Shp n d) (hn : n ≤ 64) : SeqAt.shaped d.py = true := by
  unfold SeqAt.shaped
  rw [canLay_of_pure d h.p, Bool.true_and]
  exact decide_eq_true (Nat.le_trans h.n hn)
theorem Shp.mono {n m : Nat} {d : D} (h : Shp n d) (hn : n ≤ m) : Shp m d := ⟨h.p, Nat.le_trans h.n hn⟩
theorem Shp.non {n : Nat} : Shp n .non := ⟨rfl, Nat.zero_le _⟩
theorem Shp.bl {n : Nat} {b : Bool} : Shp n (.bl b) := ⟨rfl, Nat.zero_le _⟩
theorem Shp.int {n : Nat} {i : Int} : Shp n (.int i) := ⟨rfl, Nat.zero_le _⟩
theorem Shp.str {n : Nat} {x : Str} (h : PyData.strOk x = true) : Shp n (.str x) := ⟨h, Nat.zero_le _⟩
theorem shpAll {n : Nat} : ∀ {l : List D}, (∀ d ∈ l, Shp n d) → pureAll l = true ∧ PyData.depthAll (pyAll l) ≤ n
  | [], _ => ⟨rfl, Nat.zero_le _⟩
  | d :: l, h => by
    obtain ⟨a, b⟩ := shpAll fun x hx => h x (List.mem_cons_of_mem _ hx)
    have c := h d List.mem_cons_self
    refine ⟨by simp only [pureAll, c.p, a, Bool.and_self], ?_⟩
    simp only [pyAll, PyData.depthAll]
    exact Nat.max_le.mpr ⟨c.n, b⟩
theorem Shp.tup {n : Nat} {l : List D} (h : ∀ d ∈ l, Shp n d) : Shp (n + 1) (.tup l) := by
  obtain ⟨a, b⟩ := shpAll h
  exact ⟨by simpa only [D.pure] using a, by simpa only [D.dep, D.py, PyData.depth] using Nat.succ_le_succ b⟩
theorem Shp.lst {n : Nat} {l : List D} (h : ∀ d ∈ l, Shp n d) : Shp (n + 1) (.lst l) := by
  obtain ⟨a, b⟩ := shpAll h
  exact ⟨by simpa only [D.pure] using a, by simpa only [D.dep, D.py, PyData.depth] using Nat.succ_le_succ b⟩
/-- a == b of data -/
def D.eqv (a b : D) : Bool := PyData.eqv a.py b.py
def rEqA (K : PySem.W.Frag) : R2 := fun x y H Q => rEq x y H Q ∨ rEqD K x y H Q
def rNeA (K : PySem.W.Frag) : R2 := fun x y H Q => rNe x y H Q ∨ rNeD K x y H Q
def eqG (x y : D) (Φ : D → Prop) : Prop := (∃ a b, x = .str a ∧ y = .str b ∧ Φ (.bl (decide (a = b)))) ∨ (Shp 64 x ∧ Shp 64 y ∧ Φ (.bl (D.eqv x y)))
def neG (x y : D) (Φ : D → Prop) : Prop := (∃ a b, x = .str a ∧ y = .str b ∧ Φ (.bl (!decide (a = b)))) ∨ (Shp 64 x ∧ Shp 64 y ∧ Φ (.bl (!D.eqv x y)))
theorem dec_strV {a b : Str} : decide (V.str a = V.str b) = decide (a = b) := by rw [Bool.eq_iff_iff]; simp
theorem opd_eq : OpD K (rEqA K) eqG := fun H0 H x y dx dy Φ Q e rx ry g k => by
  rcases g with ⟨a, b, hx, hy, g⟩ | g
  · subst hx hy
    cases rx; cases ry
    exact .inl ⟨rfl, by rw [dec_strV]; exact fin0 e g (.bl _) k⟩
  · exact .inr ⟨_, _, dp_of e rx g.1.p, dp_of e ry g.2.1.p, g.1.shaped (Nat.le_refl _), g.2.1.shaped (Nat.le_refl _), fin0 e g.2.2 (.bl _) k⟩
theorem opd_ne : OpD K (rNeA K) neG := fun H0 H x y dx dy Φ Q e rx ry g k => by
  rcases g with ⟨a, b, hx, hy, g⟩ | g
  · subst hx hy
    cases rx; cases ry
    exact .inl ⟨rfl, by rw [dec_strV]; exact fin0 e g (.bl _) k⟩
  · exact .inr ⟨_, _, dp_of e rx g.1.p, dp_of e ry g.2.1.p, g.1.shaped (Nat.le_refl _), g.2.1.shaped (Nat.le_refl _), fin0 e g.2.2 (.bl _) k⟩
/-! is None -/
def D.isNon : D → Option Bool
  | .non => some true
  | .raw _ => none
  | _ => some false
def rIsN : R2 := fun x y H Q => y = .non ∧ Q (.bl (decide (x = .non))) H
def rNotN : R2 := fun x y H Q => y = .non ∧ Q (.bl (!decide (x = .non))) H
def isG (x y : D) (Φ : D → Prop) : Prop := ∃ b, x.isNon = some b ∧ y = .non ∧ Φ (.bl b)
def notG (x y : D) (Φ : D → Prop) : Prop := ∃ b, x.isNon = some b ∧ y = .non ∧ Φ (.bl (!b))
theorem non_of {H : Hp} {v : V} {d : D} {b : Bool} (r : Rep K H v d) (h : d.isNon = some b) : decide (v = .non) = b := by
  cases r <;> simp [D.isNon] at h <;> subst h <;> simp
theorem opd_is : OpD K rIsN isG := fun H0 H x y dx dy Φ Q e rx ry ⟨b, hb, ey, g⟩ k => by
  subst ey; cases ry
  refine ⟨rfl, ?_⟩
  rw [non_of rx hb]
  exact fin0 e g (.bl _) k
theorem opd_not : OpD K rNotN notG := fun H0 H x y dx dy Φ Q e rx ry ⟨b, hb, ey, g⟩ k => by
  subst ey; cases ry
  refine ⟨rfl, ?_⟩
  rw [non_of rx hb]
  exact fin0 e g (.bl _) k
end
end DL
namespace DL
open PySem PySem.Spec L2
open PyProof.Rows hiding St

/-! ### subscripts, slices, calls, methods over data -/
/-- the place i of n, counted from the end if below 0 -/
def atN (n : Nat) (i : Int) : Option Nat := ixN n i
theorem RepAll.atI {K : PySem.W.Frag} {H : Hp} {vs : List V} {ds : List D} {i : Int} {d : D} (r : RepAll K H vs ds) (h : L2.atI ds i = some d) : ∃ v, L2.atI vs i = some v ∧ Rep K H v d := by
  unfold L2.atI at h ⊢
  rw [r.length]
  cases e : ixN ds.length i with
  | none => rw [e] at h; cases h
  | some j => rw [e] at h; exact r.get h
def ixG (x y : D) (Φ : D → Prop) : Prop := match x, y with
  | .lst l, .int i => ∃ d, L2.atI l i = some d ∧ Φ d
  | .tup l, .int i => ∃ d, L2.atI l i = some d ∧ Φ d
  | .scr l, .int i => ∃ n, L2.atI l i = some n ∧ Φ (.int n)
  | .str z, .int i => z.length ≤ 1000000 ∧ ∃ c, L2.atI z.cps.toList i = some c ∧ Φ (.str ⟨#[c]⟩)
  | _, _ => False
theorem atI_map {α β : Type} (f : α → β) {xs : List α} {i : Int} {v : α} (h : L2.atI xs i = some v) : L2.atI (xs.map f) i = some (f v) := by
  unfold L2.atI at h ⊢
  rw [List.length_map]
  cases e : ixN xs.length i with
  | none => rw [e] at h; cases h
  | some j => rw [e] at h; show (xs.map f)[j]? = _; rw [List.getElem?_map, show xs[j]? = some v from h]; rfl
section
variable {K : PySem.W.Frag}
theorem opd_ix : OpD K (rIx K) ixG := fun H0 H x y dx dy Φ Q e rx ry g k => by
  cases rx <;> cases ry <;> first
    | exact g.elim
    | (obtain ⟨d, h1, h2⟩ := g; rename_i hp hr _; obtain ⟨v, h3, h4⟩ := hr.atI h1; exact .inl ⟨_, _, _, v, rfl, rfl, .inl (.inl (e _ _ hp)), h3, fin0 e h2 h4 k⟩)
    | (obtain ⟨d, h1, h2⟩ := g; rename_i hp hr _; obtain ⟨v, h3, h4⟩ := hr.atI h1; exact .inr (.inl ⟨_, _, _, v, rfl, rfl, sqT_ex e hp, h3, fin0 e h2 h4 k⟩))
    | (obtain ⟨n, h1, h2⟩ := g; rename_i hp _; exact .inl ⟨_, _, _, _, rfl, rfl, sqL_ex e hp, atI_map V.int h1, fin0 e h2 (.int _) k⟩)
    | (obtain ⟨hz, c, h1, h2⟩ := g; exact .inr (.inr ⟨_, _, _, rfl, rfl, len_ok hz, h1, fin0 e h2 (.str _) k⟩))
/-- xs[lo:hi] -/
def cutD {α : Type} (xs : List α) (lo hi : Option Int) : List α := (xs.drop (HT.sIx xs.length 0 lo)).take (HT.sIx xs.length xs.length hi - HT.sIx xs.length 0 lo)
theorem cut_map {α β : Type} (f : α → β) (xs : List α) (lo hi : Option Int) : cutD (xs.map f) lo hi = (cutD xs lo hi).map f := by
  unfold cutD
  rw [List.length_map, List.map_take, List.map_drop]
theorem cut_rep {H : Hp} {vs : List V} {ds : List D} (r : RepAll K H vs ds) (lo hi : Option Int) : RepAll K H (cutV vs lo hi) (cutD ds lo hi) := by
  unfold cutV cutD
  rw [r.length]
  exact (r.drop _).take _
theorem cut_all {α : Type} {xs : List α} {lo hi : Option Int} (h : HT.sIx xs.length 0 lo = 0 ∧ HT.sIx xs.length xs.length hi = xs.length) : cutD xs lo hi = xs := by
  unfold cutD
  rw [h.1, h.2, List.drop_zero, Nat.sub_zero, List.take_length]
def rSl (K : PySem.W.Frag) : V → Option Int → Option Int → Hp → VK → Prop := fun x lo hi H Q => rSlL K x lo hi H Q ∨ rSlA K x lo hi H Q ∨ rSlS x lo hi H Q
def slG (x : D) (lo hi : Option Int) (Φ : D → Prop) : Prop := match x with
  | .lst l => Φ (.lst (cutD l lo hi))
  | .tup l => Φ (.tup (cutD l lo hi))
  | .scr l => Φ (.lst ((cutD l lo hi).map D.int))
  | .str z => z.length ≤ 1000000 ∧ Φ (.str (cutS z lo hi))
  | _ => False
theorem sld_sl : SlD K (rSl K) slG := fun H0 H x dx lo hi Φ Q e rx g k => by
  cases rx <;> first
    | exact g.elim
    | (rename_i hp hr; exact .inl ⟨_, _, rfl, .inl (.inl (e _ _ hp)), finL e g (cut_rep hr lo hi) k⟩)
    | (rename_i hp hr
       refine .inr (.inl ⟨_, _, rfl, sqT_ex e hp, fun z => ?_, fun _ => finT e g (cut_rep hr lo hi) k⟩)
       have z' := z
       rw [hr.length] at z'
       have q : Φ (.tup _) := g
       rw [cut_all z'] at q
       exact fin0 e q (.tup hp hr) k)
    | (rename_i hp
       refine .inl ⟨_, _, rfl, sqL_ex e hp, finL e (ds := (cutD _ lo hi).map D.int) g ?_ k⟩
       rw [show cutV (List.map V.int _) lo hi = cutD (List.map V.int _) lo hi from rfl, cut_map]
       exact RepAll.ints _)
    | exact .inr (.inr ⟨_, rfl, len_ok g.1, fin0 e g.2 (.str _) k⟩)
/-! len -/
def lenG (ds : List D) (Φ : D → Prop) : Prop := match ds with
  | [.lst l] => Φ (.int l.length)
  | [.tup l] => Φ (.int l.length)
  | [.scr l] => Φ (.int l.length)
  | [.str z] => z.length ≤ 1000000 ∧ Φ (.int z.length)
  | [.dic l] => Φ (.int l.length)
  | _ => False
def rLen (K : PySem.W.Frag) : List V → Hp → VK → Prop := fun xs H Q => (∃ x n, xs = [x] ∧ LenV K x H n ∧ Q (.int n) H) ∨ ∃ a kvs, xs = [V.ref a] ∧ H a = some (.dK kvs) ∧ Q (.int kvs.length) H
theorem cbd_len : CbD K (rLen K) lenG := fun H0 H xs ds Φ Q e rx g k => by
  cases rx with
  | nil => exact g.elim
  | cons r rs =>
    cases rs with
    | cons _ _ => cases r <;> exact g.elim
    | nil =>
      cases r <;> first
        | exact g.elim
        | (rename_i hp hr; exact .inl ⟨_, _, rfl, .inl ⟨_, .inl (.inl (e _ _ hp)), rfl⟩, by rw [hr.length]; exact fin0 e g (.int _) k⟩)
        | (rename_i hp hr; exact .inl ⟨_, _, rfl, .inr ⟨_, sqT_ex e hp, rfl⟩, by rw [hr.length]; exact fin0 e g (.int _) k⟩)
        | (rename_i hp; exact .inl ⟨_, _, rfl, .inl ⟨_, sqL_ex e hp, rfl⟩, by rw [List.length_map]; exact fin0 e g (.int _) k⟩)
        | exact .inl ⟨_, _, rfl, ⟨len_ok g.1, rfl⟩, fin0 e g.2 (.int _) k⟩
        | (rename_i hp hr; exact .inr ⟨_, _, rfl, e _ _ hp, by rw [List.length_map, hr.length]; exact fin0 e g (.int _) k⟩)
/-! list, tuple -/
def rListOf (K : PySem.W.Frag) : List V → Hp → VK → Prop := fun xs H Q => ∃ p ys, xs = [.ref p] ∧ (SqL K H p ys ∨ SqT K H p ys) ∧ ∀ l, H l = none → Q (.ref l) (upd H l (.lst ys))
def listG (ds : List D) (Φ : D → Prop) : Prop := match ds with
  | [.lst l] => Φ (.lst l)
  | [.tup l] => Φ (.lst l)
  | [.scr l] => Φ (.lst (l.map D.int))
  | _ => False
theorem cbd_list : CbD K (rListOf K) listG := fun H0 H xs ds Φ Q e rx g k => by
  cases rx with
  | nil => exact g.elim
  | cons r rs =>
    cases rs with
    | cons _ _ => cases r <;> exact g.elim
    | nil =>
      cases r <;> first
        | exact g.elim
        | (rename_i hp hr; exact ⟨_, _, rfl, .inl (.inl (.inl (e _ _ hp))), finL e g hr k⟩)
        | (rename_i hp hr; exact ⟨_, _, rfl, .inr (sqT_ex e hp), finL e g hr k⟩)
        | (rename_i hp; exact ⟨_, _, rfl, .inl (sqL_ex e hp), finL e g (RepAll.ints _) k⟩)
def rTupOf (K : PySem.W.Frag) : List V → Hp → VK → Prop := fun xs H Q => ∃ p ys, xs = [.ref p] ∧ ((SqL K H p ys ∧ ∀ l, H l = none → Q (.ref l) (upd H l (.tup ys))) ∨ (SqT K H p ys ∧ Q (.ref p) H))
def tupG (ds : List D) (Φ : D → Prop) : Prop := match ds with
  | [.lst l] => Φ (.tup l)
  | [.tup l] => Φ (.tup l)
  | [.scr l] => Φ (.tup (l.map D.int))
  | _ => False
theorem cbd_tup : CbD K (rTupOf K) tupG := fun H0 H xs ds Φ Q e rx g k => by
  cases rx with
  | nil => exact g.elim
  | cons r rs =>
    cases rs with
    | cons _ _ => cases r <;> exact g.elim
    | nil =>
      cases r <;> first
        | exact g.elim
        | (rename_i hp hr; exact ⟨_, _, rfl, .inl ⟨.inl (.inl (e _ _ hp)), finT e g hr k⟩⟩)
        | (rename_i hp hr; exact ⟨_, _, rfl, .inr ⟨sqT_ex e hp, fin0 e g (.tup hp hr) k⟩⟩)
        | (rename_i hp; exact ⟨_, _, rfl, .inl ⟨sqL_ex e hp, finT e g (RepAll.ints _) k⟩⟩)
/-! str, int, abs, min, max, all, sum, divmod -/
theorem vals_one {H : Hp} {xs : List V} {d : D} (r : RepAll K H xs [d]) : ∃ v, xs = [v] ∧ Rep K H v d := by
  cases r with
  | cons r rs => cases rs; exact ⟨_, rfl, r⟩
theorem vals_two {H : Hp} {xs : List V} {d d' : D} (r : RepAll K H xs [d, d']) : ∃ v v', xs = [v, v'] ∧ Rep K H v d ∧ Rep K H v' d' := by
  cases r with
  | cons r rs => obtain ⟨v', rfl, r'⟩ := vals_one rs; exact ⟨_, _, rfl, r, r'⟩
def rStr : List V → Hp → VK → Prop := fun xs H Q => (∃ i, xs = [.int i] ∧ i.natAbs.log2 < 1920 ∧ Q (.str (toString i)) H) ∨ ∃ a, xs = [.str a] ∧ Q (.str a) H
def strG (ds : List D) (Φ : D → Prop) : Prop := match ds with
  | [.int i] => i.natAbs.log2 < 1920 ∧ Φ (.str (toString i))
  | [.str a] => Φ (.str a)
  | _ => False
theorem cbd_str : CbD K rStr strG := fun H0 H xs ds Φ Q e rx g k => by
  cases rx with
  | nil => exact g.elim
  | cons r rs =>
    cases rs with
    | cons _ _ => cases r <;> exact g.elim
    | nil =>
      cases r <;> first
        | exact g.elim
        | exact .inl ⟨_, rfl, g.1, fin0 e g.2 (.str _) k⟩
        | exact .inr ⟨_, rfl, fin0 e g (.str _) k⟩
def rInt : List V → Hp → VK → Prop := fun xs H Q => ((∃ i, xs = [.int i] ∧ Q (.int i) H) ∨ ∃ k, xs = [.bl k] ∧ Q (.int (if k then 1 else 0)) H) ∨ ∃ a n, xs = [.str a] ∧ PySem.intText? a = some n ∧ a.length ≤ 640 ∧ Q (.int n) H
def intOfG (ds : List D) (Φ : D → Prop) : Prop := match ds with
  | [.int i] => Φ (.int i)
  | [.bl b] => Φ (.int (if b then 1 else 0))
  | [.str a] => ∃ n, PySem.intText? a = some n ∧ a.length ≤ 640 ∧ Φ (.int n)
  | _ => False
theorem cbd_int : CbD K rInt intOfG := fun H0 H xs ds Φ Q e rx g k => by
  cases rx with
  | nil => exact g.elim
  | cons r rs =>
    cases rs with
    | cons _ _ => cases r <;> exact g.elim
    | nil =>
      cases r <;> first
        | exact g.elim
        | exact .inl (.inl ⟨_, rfl, fin0 e g (.int _) k⟩)
        | exact .inl (.inr ⟨_, rfl, fin0 e g (.int _) k⟩)
        | (obtain ⟨n, h1, h2, h3⟩ := g; exact .inr ⟨_, n, rfl, h1, h2, fin0 e h3 (.int _) k⟩)
def int1G (f : Int → D) (ds : List D) (Φ : D → Prop) : Prop := match ds with
  | [.int i] => Φ (f i)
  | _ => False
def int2G (f : Int → Int → D) (ds : List D) (Φ : D → Prop) : Prop := match ds with
  | [.int i, .int j] => Φ (f i j)
  | _ => False
theorem cbd_abs : CbD K (fun xs H Q => ∃ i, xs = [.int i] ∧ Q (.int (if i < 0 then -i else i)) H) (int1G fun i => .int (if i < 0 then -i else i)) := fun H0 H xs ds Φ Q e rx g k => by
  cases rx with
  | nil => exact g.elim
  | cons r rs =>
    cases rs with
    | cons _ _ => cases r <;> exact g.elim
    | nil =>
      cases r <;> first
        | exact g.elim
        | exact ⟨_, rfl, fin0 e g (.int _) k⟩
theorem cbd_int2 {f : Int → Int → D} {h : Int → Int → V} (hr : ∀ H i j, Rep K H (h i j) (f i j)) : CbD K (fun xs H Q => ∃ i j, xs = [.int i, .int j] ∧ Q (h i j) H) (int2G f) := fun H0 H xs ds Φ Q e rx g k => by
  cases rx with
  | nil => exact g.elim
  | cons r rs =>
    cases rs with
    | nil => cases r <;> exact g.elim
    | cons r' rs =>
      cases rs with
      | cons _ _ => cases r <;> cases r' <;> exact g.elim
      | nil =>
        cases r <;> cases r' <;> first
          | exact g.elim
          | exact ⟨_, _, rfl, fin0 e g (hr _ _ _) k⟩
theorem cbd_min2 : CbD K (fun xs H Q => ∃ i j, xs = [.int i, .int j] ∧ Q (.int (if j < i then j else i)) H) (int2G fun i j => .int (if j < i then j else i)) := cbd_int2 fun _ _ _ => .int _
theorem cbd_max2 : CbD K (fun xs H Q => ∃ i j, xs = [.int i, .int j] ∧ Q (.int (if j > i then j else i)) H) (int2G fun i j => .int (if j > i then j else i)) := cbd_int2 fun _ _ _ => .int _
def allG (ds : List D) (Φ : D → Prop) : Prop := ∃ bs : List Bool, ds = [.lst (bs.map D.bl)] ∧ Φ (.bl (bs.all id))
theorem cbd_all : CbD K (rAll K) allG := fun H0 H xs ds Φ Q e rx ⟨bs, h, g⟩ k => by
  subst h
  obtain ⟨v, rfl, r⟩ := vals_one rx
  cases r with
  | lst hp hr => rw [hr.ofBools] at hp; exact ⟨_, bs, rfl, .inl (.inl (e _ _ hp)), fin0 e g (.bl _) k⟩
/-! methods -/
def joinG (x : D) (ds : List D) (Φ : D → Prop) : Prop := ∃ a ys, x = .str a ∧ (ds = [.lst (ys.map D.str)] ∨ ds = [.tup (ys.map D.str)]) ∧ (ys.map (·.length)).sum + ys.length * a.length ≤ 1000000 ∧ Φ (.str (Txt.join a ys))
theorem mtd_join : MtD K (fun x xs H Q => ∃ a p, ∃ ys : List Str, x = .str a ∧ xs = [.ref p] ∧ (SqL K H p (ys.map V.str) ∨ SqT K H p (ys.map V.str)) ∧ (ys.map (·.length)).sum + ys.length * a.length ≤ 16777216 ∧ Q (.str (Txt.join a ys)) H) joinG :=
  fun H0 H x xs dx ds Φ Q e rx rs ⟨a, ys, hx, hd, hz, g⟩ k => by
    subst hx
    cases rx
    rcases hd with hd | hd
    · subst hd
      obtain ⟨v, rfl, r⟩ := vals_one rs
      cases r with
      | lst hp hr => rw [hr.ofStrs] at hp; exact ⟨a, _, ys, rfl, rfl, .inl (.inl (.inl (e _ _ hp))), by omega, fin0 e g (.str _) k⟩
    · subst hd
      obtain ⟨v, rfl, r⟩ := vals_one rs
      cases r with
      | tup hp hr => rw [hr.ofStrs] at hp; exact ⟨a, _, ys, rfl, rfl, .inr (sqT_ex e hp), by omega, fin0 e g (.str _) k⟩
def splitG (x : D) (ds : List D) (Φ : D → Prop) : Prop := ∃ a b, x = .str a ∧ ds = [.str b] ∧ (b.length == 0) = false ∧ a.length ≤ 1000000 ∧ Φ (.lst ((Txt.split a b).map D.str))
theorem mtd_split : MtD K (fun x xs H Q => ∃ a b, x = .str a ∧ xs = [.str b] ∧ (b.length == 0) = false ∧ a.length + 2 ≤ sizeLine ∧ rNewStrs (Txt.split a b) H Q) splitG :=
  fun H0 H x xs dx ds Φ Q e rx rs ⟨a, b, hx, hd, hz, hl, g⟩ k => by
    subst hx hd
    cases rx
    obtain ⟨v, rfl, r⟩ := vals_one rs
    cases r
    exact ⟨a, b, rfl, rfl, hz, Nat.le_trans (Nat.add_le_add_right hl 2) (by decide), finL e g (RepAll.strs _) k⟩
def str0G (f : Str → D) (x : D) (ds : List D) (Φ : D → Prop) : Prop := match x, ds with
  | .str a, [] => Φ (f a)
  | _, _ => False
theorem mtd_str0 {f : Str → Bool} : MtD K (fun x xs H Q => ∃ a, x = .str a ∧ xs = [] ∧ True ∧ Q (.bl (f a)) H) (str0G fun a => .bl (f a)) :=
  fun H0 H x xs dx ds Φ Q e rx rs g k => by
    cases rx <;> cases rs <;> first
      | exact g.elim
      | exact ⟨_, rfl, rfl, trivial, fin0 e g (.bl _) k⟩
theorem ty_of {T : String} (H0 H : Hp) (v : V) (d : D) (e : Ex H0 H) (r : Rep K H0 v d) (h : isTy T d = true) : tyV K T v H := by
  cases r with
  | str x => exact beq_iff_eq.mp (show (T == "str") = true from h)
  | lst hp hr => exact .inl ⟨beq_iff_eq.mp (show (T == "list") = true from h), _, .inl (.inl (e _ _ hp))⟩
  | dic hp hr => exact .inr (.inr (.inl ⟨beq_iff_eq.mp (show (T == "dict") = true from h), .inl ⟨_, e _ _ hp⟩⟩))
  | _ => cases h
end
end DL
namespace DL
open PySem PySem.Spec L2
open PyProof.Rows hiding St

/-! ### calls in general: values in the order of the call, keywords behind them, defaults behind these; picked by place -/
def pick {α : Type} (ix : List Nat) (l : List α) : List α := ix.filterMap fun i => l[i]?
theorem pick_vals : ∀ (ix : List Nat) {vs : List V} {us : List Value}, Vals vs us → Vals (pick ix vs) (pick ix us)
  | [], _, _, _ => .nil
  | i :: ix, vs, us, r => by
    unfold pick
    rw [List.filterMap_cons, List.filterMap_cons]
    cases e : vs[i]? with
    | none =>
      have e2 : us[i]? = none := by
        rw [List.getElem?_eq_none_iff] at e ⊢
        rw [← r.length]; exact e
      rw [e2]
      exact pick_vals ix r
    | some v =>
      obtain ⟨u, hu, ru⟩ := r.get e
      rw [hu]
      exact .cons ru (pick_vals ix r)
theorem pick_reps {K : PySem.W.Frag} {H : Hp} : ∀ (ix : List Nat) {vs : List V} {ds : List D}, RepAll K H vs ds → RepAll K H (pick ix vs) (pick ix ds)
  | [], _, _, _ => .nil
  | i :: ix, vs, ds, r => by
    unfold pick
    rw [List.filterMap_cons, List.filterMap_cons]
    cases e : ds[i]? with
    | none =>
      have e2 : vs[i]? = none := by
        rw [List.getElem?_eq_none_iff] at e ⊢
        rw [r.length]; exact e
      rw [e2]
      exact pick_reps ix r
    | some d =>
      obtain ⟨v, hv, rv⟩ := r.get e
      rw [hv]
      exact .cons rv (pick_reps ix r)
/-- n values, keywords ks, and the defaults dd make the parameters, by place -/
structure KbG (K : PySem.W.Frag) (fd : FuncData) (ps : List Str) (n : Nat) (ks : List Str) (ix : List Nat) (dd : List D) : Prop where
  ex : ∃ (dvs : List V) (dv : List Value), Vals dvs dv ∧ (∀ H, RepAll K H dvs dd) ∧ ∀ (s : Shared) (us ws : List Value), K.In s.heap → us.length = n → ws.length = ks.length → BindsTo s fd ⟨us, ks.zip ws⟩ (ps.zip (pick ix (us ++ ws ++ dv)))
theorem KbG.of {K : PySem.W.Frag} {fd : FuncData} {ps : List Str} {n : Nat} {ks : List Str} {ix : List Nat} {dd : List D} {dvs : List V} {dv : List Value} (h1 : Vals dvs dv) (h2 : ∀ H, RepAll K H dvs dd)
    (h3 : ∀ (s : Shared) (us ws : List Value), K.In s.heap → us.length = n → ws.length = ks.length → BindsTo s fd ⟨us, ks.zip ws⟩ (ps.zip (pick ix (us ++ ws ++ dv)))) : KbG K fd ps n ks ix dd := ⟨_, _, h1, h2, h3⟩
theorem pick_range {α : Type} : ∀ (l : List α), pick (List.range l.length) l = l := fun l => by
  apply List.ext_getElem?
  intro i
  unfold pick
  have : (List.range l.length).filterMap (fun i => l[i]?) = l := by
    induction l with
    | nil => rfl
    | cons a l ih =>
      rw [List.length_cons, List.range_succ_eq_map, List.filterMap_cons]
      simp only [List.getElem?_cons_zero, List.filterMap_map]
      congr 1
  rw [this]
theorem KbG.plain {K : PySem.W.Frag} {fd : FuncData} {ps : List Str} (h : Binds K fd ps []) : KbG K fd ps ps.length [] (List.range ps.length) [] :=
  ⟨[], [], .nil, fun _ => .nil, fun s us ws x l1 l2 => by
    cases ws with
    | cons _ _ => cases l2
    | nil =>
      have e : pick (List.range ps.length) (us ++ [] ++ []) = us := by rw [List.append_nil, List.append_nil, ← l1]; exact pick_range us
      rw [e]
      have := h s us x (by rw [List.append_nil]; exact l1)
      rw [List.append_nil] at this
      exact this⟩
/-- values, then keywords' values -/
def tArgs (t tk : TA) (n m : Nat) (Q : List V → List V → Hp → Prop) : St → Hp → Prop := fun σ H => t σ H fun vs H1 => tk σ H1 fun zs H2 => vs.length = n ∧ zs.length = m ∧ Q vs zs H2
section
variable {M : Model} {A : Around} {E : Value → Shared → Prop} {s : Shared}
theorem evalArgs_any {f : Value} {args : List (Bool × Sem Value)} {keywords : List (Option Str × Sem Value)} {Q : Args → Shared → Prop} (hn : args.any (·.1) = false) (hall : keywords.all (·.1.isSome) = true)
    (h : wpAny M A (spliced args) (fun vs s1 => wpAny M A (evalAll (keywords.map (·.2))) (fun ks s2 => Q ⟨vs, (keywords.filterMap (·.1)).zip ks⟩ s2) E s1) E s) : wpAny M A (evalArgs f true args keywords) Q E s := by
  match args, hn, h with
  | [], _, h =>
    unfold evalArgs
    show wpAny M A (spliced [] >>= _) Q E s
    refine wpAny_bind (wpAny_mono h (fun vs s1 h1 => ?_) fun _ _ x => x)
    refine wpAny_holding ?_
    simp only [hall, if_true]
    exact wpAny_bind (wpAny_mono h1 (fun ks s2 h2 => wpAny_bind (wpAny_pure (wpAny_pure h2))) fun _ _ x => x)
  | (false, x) :: rest, _, h => exact evalArgs_kw hall h
  | (true, x) :: rest, hn, _ => cases hn
theorem callWith_any {P : Heap → Prop} {pos : Pos} {f : Value} {first : List Value} {Q : Value → Shared → Prop} {args : List (Bool × Sem Value)} {keywords : List (Option Str × Sem Value)} (hn : args.any (·.1) = false) (hall : keywords.all (·.1.isSome) = true)
    (hk : ∀ h, P h → ∃ k, (k = PySem.Keeper.frame ∨ k = PySem.Keeper.machine ∨ k = PySem.Keeper.boundFrame) ∧ PySem.W.Looks M h (keeperOf f) k)
    (h : wpAny M A (spliced args) (fun vs s1 => wpAny M A (evalAll (keywords.map (·.2))) (fun ks s2 => P s2.heap ∧ wpAny M A (call f (first ++ vs) ((keywords.filterMap (·.1)).zip ks)) Q E s2) E s1) E s) : wpAny M A (callWith pos f first args keywords) Q E s := by
  refine PySem.W.callWith_of ?_ hk (evalArgs_any hn hall h)
  rw [hn, Bool.false_or]
  rw [List.any_eq_false]
  intro x hx
  have := List.all_eq_true.mp hall x hx
  cases h : x.1 with
  | none => rw [h] at this; cases this
  | some _ => simp
end
section
variable {X : Cx} {k n : Nat} {f C q g : Addr} {fd : FuncData} {ps ks : List Str} {ix : List Nat} {dd : List D} {S : DSp} {E : XK} {x m : Str} {p pos apos : Pos} {e o : Expr} {es : List Expr} {kws : List Keyword} {ta : TE} {t tk : TA} {pl : Sem Bool} {mc : Value}
/-- no exception -/
abbrev EN : XK := fun _ _ _ => False
theorem passN {P : Program} {w : World} : Passes (CXD P w) X EN := fun _ _ _ _ _ _ _ ⟨_, _, _, _, _, _, _, _, _, _, _, _, h⟩ => h.elim
/-- a promise over data at given values, keywords' values, defaults -/
def atD (K : PySem.W.Frag) (S : DSp) (ix : List Nat) (dd : List D) (vs zs : List V) (H : Hp) (Q : VK) (E : XK) : Prop := ∃ (H0 : Hp) (ds es : List D) (Φ : D → Prop) (Ψ : Exn → Prop), Ex H0 H ∧ RepAll K H0 vs ds ∧ RepAll K H0 zs es ∧ S (pick ix (ds ++ es ++ dd)) Φ Ψ ∧
  (∀ v d H0' H', Φ d → PX ⟨H, H0, []⟩ H0' H' → Rep K H0' v d → Q v H') ∧ (∀ x dd H0' H', Ψ x → PX ⟨H, H0, []⟩ H0' H' → RepX K H0' H' x dd → E (.ref x.C) dd H')
theorem code_fnD {pins : List (Addr × Obj)} {σ : St} {H : Hp} {s : Shared} {Q : VK} {us ws : List Value} {vs zs : List V} (F : FnG X.prog X.w X.K X.mg X.base k f fd ps (lift X.K S)) (room : RoomG k X.A) (hb : KbG X.K fd ps n ks ix dd) (hx : Passes (CXD X.prog X.w) X E)
    (I : Inv X pins σ H s) (r : Vals vs us) (rz : Vals zs ws) (l1 : vs.length = n) (l2 : zs.length = ks.length) (q : atD X.K S ix dd vs zs H Q E) : codeAny (model X.prog X.w) X.A (.call (.ref f) ⟨us, ks.zip ws⟩) (wants (EP X pins σ Q) X.xe) s := by
  obtain ⟨dvs, dv, rd, rr, b⟩ := hb.ex
  obtain ⟨H0, ds, es, Φ, Ψ, e, r1, r2, q1, k1, k2⟩ := q
  refine codeAny_mono (F.run X.A X.stack s H ⟨us, ks.zip ws⟩ _ (pick ix (vs ++ zs ++ dvs)) Q E room I.env0 (b s us ws I.kIn (r.length.symm.trans l1) (rz.length.symm.trans l2)) (pick_vals ix ((r.append rz).append rd))
    ⟨H0, _, Φ, Ψ, e, pick_reps ix ((r1.append r2).append (rr H0)), q1, k1, k2⟩) fun r s' z => ?_
  have y := back_of hx I r s' z
  cases r with
  | error er => exact y
  | ok fl => cases fl <;> exact y
theorem run_fnD {pins : List (Addr × Obj)} {σ : St} {H : Hp} {s : Shared} {Q : VK} {us ws : List Value} {vs zs : List V} (F : FnG X.prog X.w X.K X.mg X.base k f fd ps (lift X.K S)) (room : RoomG k X.A) (hb : KbG X.K fd ps n ks ix dd) (hx : Passes (CXD X.prog X.w) X E)
    (I : Inv X pins σ H s) (r : Vals vs us) (rz : Vals zs ws) (l1 : vs.length = n) (l2 : zs.length = ks.length) (q : atD X.K S ix dd vs zs H Q E) : wpAny (model X.prog X.w) X.A (call (.ref f) us (ks.zip ws)) (EP X pins σ Q) X.xe s :=
  wpAny_call (code_fnD F room hb hx I r rz l1 l2 q)
/-- f(..) -/
def tCallD (K : PySem.W.Frag) (S : DSp) (n m : Nat) (ix : List Nat) (dd : List D) (E : XK) (t tk : TA) : TE := fun σ H Q => tArgs t tk n m (fun vs zs H1 => atD K S ix dd vs zs H1 Q E) σ H
theorem pe_fnD (F : FnG X.prog X.w X.K X.mg X.base k f fd ps (lift X.K S)) (room : RoomG k X.A) (hb : KbG X.K fd ps n ks ix dd) (hx : Passes (CXD X.prog X.w) X E) (hm : X.mg x = some (.ref f)) (hk : PySem.W.keepIn X.K (.ref f) = true) (ha : PA X es t) (hkw : PK X kws tk) (hg : Gl X x)
    (hn : (backTo pos (starEach es X.env)).any (·.1) = false := by rfl) (hall : (backToKw pos (keywordEach kws X.env)).all (·.1.isSome) = true := by rfl) (hks : (backToKw pos (keywordEach kws X.env)).filterMap (·.1) = ks := by rfl) (hdb : (x == ("__debug__" : Str)) = false := by decide) :
    PE X (.Call (.Name x p) es kws pos) (tCallD X.K S n ks.length ix dd E t tk) := by
  refine ⟨fun pins s σ H Q I h => wpAny_Call_Name_kw (ld_glob I hg hm ?_ hdb)⟩
  refine callWith_any (P := X.K.In) hn hall (PySem.W.keeps_K hk) (thn (ha.run pos pins s σ H _ I h) fun us s1 ⟨vs, H1, J, r, q⟩ => thn (hkw.run pos pins s1 σ H1 _ J q) fun ws s2 ⟨zs, H2, J2, rz, l1, l2, q2⟩ => ⟨J2.kIn, ?_⟩)
  rw [hks]
  exact run_fnD F room hb hx J2 r rz l1 l2 q2
/-- the promise of __init__: from the arguments to the attributes -/
abbrev ISp := List D → (List (Str × D) → Prop) → (Exn → Prop) → Prop
def liftI (K : PySem.W.Frag) (C : Addr) (S : ISp) : Sp := fun vs H Q E => ∃ (x dx : Addr) (vs' : List V) (He H0 : Hp) (ds : List D) (Φ : List (Str × D) → Prop) (Ψ : Exn → Prop), vs = .ref x :: vs' ∧ H x = some (.ins C dx []) ∧ He x = none ∧ Ex He H ∧ Ex H0 He ∧ RepAll K H0 vs' ds ∧ S ds Φ Ψ ∧
  (∀ fs H0' H', Φ fs → PX ⟨He, H0, []⟩ H0' H' → Rep K H0' (.ref x) (.ins C fs) → Q .non H') ∧ (∀ y dd H0' H', Ψ y → PX ⟨He, H0, []⟩ H0' H' → RepX K H0' H' y dd → E (.ref y.C) dd H')
/-- C(..) -/
def atI (K : PySem.W.Frag) (S : ISp) (C : Addr) (ix : List Nat) (dd : List D) (vs zs : List V) (H : Hp) (Q : VK) (E : XK) : Prop := ∃ (H0 : Hp) (ds es : List D) (Φ : D → Prop) (Ψ : Exn → Prop), Ex H0 H ∧ RepAll K H0 vs ds ∧ RepAll K H0 zs es ∧ S (pick ix (ds ++ es ++ dd)) (fun fs => Φ (.ins C fs)) Ψ ∧
  (∀ v d H0' H', Φ d → PX ⟨H, H0, []⟩ H0' H' → Rep K H0' v d → Q v H') ∧ (∀ x dd H0' H', Ψ x → PX ⟨H, H0, []⟩ H0' H' → RepX K H0' H' x dd → E (.ref x.C) dd H')
def tMakeD (K : PySem.W.Frag) (C : Addr) (S : ISp) (n m : Nat) (ix : List Nat) (dd : List D) (E : XK) (t tk : TA) : TE := fun σ H Q => tArgs t tk n m (fun vs zs H1 => atI K S C ix dd vs zs H1 Q E) σ H
/-- how an __init__ takes its values: self first -/
def shiftIx (ix : List Nat) : List Nat := 0 :: ix.map (· + 1)
theorem pick_shift {α : Type} (ix : List Nat) (a : α) (l : List α) : pick (shiftIx ix) (a :: l) = a :: pick ix l := by
  unfold pick shiftIx
  rw [List.filterMap_cons]
  simp only [List.getElem?_cons_zero, List.filterMap_map]
  congr 1
theorem run_makeD {I0 : ISp} {pins : List (Addr × Obj)} {σ : St} {H : Hp} {s : Shared} {Q : VK} {us ws : List Value} {vs zs : List V} (Mx : Mk X.K C f) (F : FnG X.prog X.w X.K X.mg X.base k f fd ps (liftI X.K C I0)) (room : RoomG (k + 1) X.A) (hb : KbG X.K fd ps (n + 1) ks (shiftIx ix) dd) (hx : Passes (CXD X.prog X.w) X E)
    (I : Inv X pins σ H s) (r : Vals vs us) (rz : Vals zs ws) (l1 : vs.length = n) (l2 : zs.length = ks.length) (q : atI X.K I0 C ix dd vs zs H Q E) : wpAny (model X.prog X.w) X.A (call (.ref C) us (ks.zip ws)) (EP X pins σ Q) X.xe s := by
  obtain ⟨dvs, dv, rd, rr, b⟩ := hb.ex
  obtain ⟨H0, ds, es, Φ, Ψ, e, r1, r2, q1, k1, k2⟩ := q
  refine run_makeG (zs := pick ix (us ++ ws ++ dv)) (vs := pick ix (vs ++ zs ++ dvs)) Mx F room (fun s u hk => ?_) hx I (pick_vals ix ((r.append rz).append rd)) fun y dx hy hdx hne => ?_
  · have z := b s (u :: us) ws hk (by rw [List.length_cons, ← r.length, l1]) (rz.length.symm.trans l2)
    rw [show u :: us ++ ws ++ dv = u :: (us ++ ws ++ dv) from rfl, pick_shift] at z
    exact z
  · have hx2 : Ex H (upd (upd H dx (.own y)) y (.ins C dx [])) := fun a o h => by
      have n1 : a ≠ y := ne_of_none h hy
      have n2 : a ≠ dx := ne_of_none h hdx
      rw [upd_ne n1, upd_ne n2]; exact h
    refine ⟨y, dx, _, H, H0, _, _, Ψ, rfl, upd_same, hy, hx2, e, pick_reps ix ((r1.append r2).append (rr H0)), q1, fun fs H0' H' h1 h2 h3 => ⟨rfl, k1 _ _ H0' H' h1 h2 h3⟩, k2⟩
theorem pe_makeD {I0 : ISp} (Mx : Mk X.K C f) (F : FnG X.prog X.w X.K X.mg X.base k f fd ps (liftI X.K C I0)) (room : RoomG (k + 1) X.A) (hb : KbG X.K fd ps (n + 1) ks (shiftIx ix) dd) (hx : Passes (CXD X.prog X.w) X E) (hm : X.mg x = some (.ref C)) (ha : PA X es t) (hkw : PK X kws tk) (hg : Gl X x)
    (hn : (backTo pos (starEach es X.env)).any (·.1) = false := by rfl) (hall : (backToKw pos (keywordEach kws X.env)).all (·.1.isSome) = true := by rfl) (hks : (backToKw pos (keywordEach kws X.env)).filterMap (·.1) = ks := by rfl) (hdb : (x == ("__debug__" : Str)) = false := by decide) :
    PE X (.Call (.Name x p) es kws pos) (tMakeD X.K C I0 n ks.length ix dd E t tk) := by
  refine ⟨fun pins s σ H Q I h => wpAny_Call_Name_kw (ld_glob I hg hm ?_ hdb)⟩
  refine callWith_any (P := X.K.In) hn hall (PySem.W.keeps_K Mx.kp) (thn (ha.run pos pins s σ H _ I h) fun us s1 ⟨vs, H1, J, r, q⟩ => thn (hkw.run pos pins s1 σ H1 _ J q) fun ws s2 ⟨zs, H2, J2, rz, l1, l2, q2⟩ => ⟨J2.kIn, ?_⟩)
  rw [hks]
  exact run_makeD Mx F room hb hx J2 r rz l1 l2 q2
/-- c(..), the slot i holding the class at C -/
def tMakeL (K : PySem.W.Frag) (i : Nat) (C : Addr) (S : ISp) (n m : Nat) (ix : List Nat) (dd : List D) (E : XK) (t tk : TA) : TE := fun σ H Q => σ[i]? = some (some (.ref C)) ∧ tMakeD K C S n m ix dd E t tk σ H Q
theorem pe_makeL {I0 : ISp} (i : Nat) (Mx : Mk X.K C f) (F : FnG X.prog X.w X.K X.mg X.base k f fd ps (liftI X.K C I0)) (room : RoomG (k + 1) X.A) (hb : KbG X.K fd ps (n + 1) ks (shiftIx ix) dd) (hx : Passes (CXD X.prog X.w) X E) (ha : PA X es t) (hkw : PK X kws tk) (hN : X.N[i]? = some x := by rfl) (hv : Vis X.env.scope x := by first | exact Or.inl rfl | exact Or.inr (Or.inl rfl) | exact Or.inr (Or.inr rfl))
    (hn : (backTo pos (starEach es X.env)).any (·.1) = false := by rfl) (hall : (backToKw pos (keywordEach kws X.env)).all (·.1.isSome) = true := by rfl) (hks : (backToKw pos (keywordEach kws X.env)).filterMap (·.1) = ks := by rfl) (hdb : (x == ("__debug__" : Str)) = false := by decide) (hcd : (x == ("__classdict__" : Str)) = false := by decide) :
    PE X (.Call (.Name x p) es kws pos) (tMakeL X.K i C I0 n ks.length ix dd E t tk) := by
  refine ⟨fun pins s σ H Q I h => wpAny_Call_Name_kw (thn ((pe_var (pos := p) hN hv hdb hcd).run pins s σ H (fun v H1 => v = .ref C ∧ H1 = H) I ⟨.ref C, h.1, rfl, rfl⟩) fun u s0 ⟨v, H', J0, r0, q0⟩ => ?_)⟩
  obtain ⟨rfl, rfl⟩ := q0
  cases r0
  refine callWith_any (P := X.K.In) hn hall (PySem.W.keeps_K Mx.kp) (thn (ha.run pos pins s0 σ _ _ J0 h.2) fun us s1 ⟨vs, H1, J, r, q⟩ => thn (hkw.run pos pins s1 σ H1 _ J q) fun ws s2 ⟨zs, H2, J2, rz, l1, l2, q2⟩ => ⟨J2.kIn, ?_⟩)
  rw [hks]
  exact run_makeD Mx F room hb hx J2 r rz l1 l2 q2
/-- o.m(..) of an instance of the class at C -/
def tMethD (K : PySem.W.Frag) (C : Addr) (m : Str) (S : DSp) (n j : Nat) (ix : List Nat) (dd : List D) (E : XK) (ta : TE) (t tk : TA) : TE := fun σ H Q => ta σ H fun x H1 => ∃ a dx fs, x = .ref a ∧ H1 a = some (.ins C dx fs) ∧ fs.lookup m = none ∧
  tArgs t tk n j (fun vs zs H2 => atD K S (shiftIx ix) dd (x :: vs) zs H2 Q E) σ H1
theorem pe_methD (he : PE X o ta) (c : Cls X.K C) (hm : Meth X.K C m f) (F : FnG X.prog X.w X.K X.mg X.base k f fd ps (lift X.K S)) (room : RoomG k X.A) (hb : KbG X.K fd ps (n + 1) ks (shiftIx ix) dd) (hx : Passes (CXD X.prog X.w) X E) (ha : PA X es t) (hkw : PK X kws tk)
    (hn : (backTo pos (starEach es X.env)).any (·.1) = false := by rfl) (hall : (backToKw pos (keywordEach kws X.env)).all (·.1.isSome) = true := by rfl) (hks : (backToKw pos (keywordEach kws X.env)).filterMap (·.1) = ks := by rfl)
    (ht : eval (.Call (.Attribute o m apos) es kws pos) X.env = (do
      let u ← eval o X.env
      standAt apos.atName
      let (g, first) ← holding [u] (getMethod u m pl)
      callWith pos g first (backTo pos (starEach es X.env)) (backToKw pos (keywordEach kws X.env))) := by rfl) :
    PE X (.Call (.Attribute o m apos) es kws pos) (tMethD X.K C m S n ks.length ix dd E ta t tk) := by
  refine ⟨fun pins s σ H Q I h => PySem.W.methodCall_KW (pl := pl) (thn (he.run pins s σ H _ I h) fun u s1 ⟨y, H1, J, ry, a, dx, fs, ey, ea, l, q⟩ => ?_) ht⟩
  subst ey
  obtain rfl : u = Value.ref a := ry
  refine getmeth_ok J ea c hm l (callWith_any (P := X.K.In) hn hall (PySem.W.keeps_K hm.kp) (thn (ha.run pos pins s1 σ H1 _ J q) fun us s2 ⟨vs, H2, J2, r, q2⟩ => thn (hkw.run pos pins s2 σ H2 _ J2 q2) fun ws s3 ⟨zs, H3, J3, rz, l1, l2, q3⟩ => ⟨J3.kIn, ?_⟩))
  rw [hks]
  exact run_fnD (us := .ref a :: us) (vs := .ref a :: vs) F room hb hx J3 (.cons rfl r) rz (by rw [List.length_cons, l1]) l2 q3
/-- C.m(..), a class method -/
def tCMethD (K : PySem.W.Frag) (C : Addr) (S : DSp) (n j : Nat) (ix : List Nat) (dd : List D) (E : XK) (ta : TE) (t tk : TA) : TE := fun σ H Q => ta σ H fun x H1 => x = .ref C ∧ tArgs t tk n j (fun vs zs H2 => atD K S (shiftIx ix) dd (x :: vs) zs H2 Q E) σ H1
theorem pe_cmethD {r0 : Addr} (he : PE X o ta) (c : ClX.CRead X.K C mc) (hm : ClX.CMet X.K C mc m r0 g) (F : FnG X.prog X.w X.K X.mg X.base k g fd ps (lift X.K S)) (room : RoomG k X.A) (hb : KbG X.K fd ps (n + 1) ks (shiftIx ix) dd) (hx : Passes (CXD X.prog X.w) X E) (ha : PA X es t) (hkw : PK X kws tk)
    (hn : (backTo pos (starEach es X.env)).any (·.1) = false := by rfl) (hall : (backToKw pos (keywordEach kws X.env)).all (·.1.isSome) = true := by rfl) (hks : (backToKw pos (keywordEach kws X.env)).filterMap (·.1) = ks := by rfl)
    (ht : eval (.Call (.Attribute o m apos) es kws pos) X.env = (do
      let u ← eval o X.env
      standAt apos.atName
      let (g, first) ← holding [u] (getMethod u m pl)
      callWith pos g first (backTo pos (starEach es X.env)) (backToKw pos (keywordEach kws X.env))) := by rfl) :
    PE X (.Call (.Attribute o m apos) es kws pos) (tCMethD X.K C S n ks.length ix dd E ta t tk) := by
  refine ⟨fun pins s σ H Q I h => PySem.W.methodCall_KW (pl := pl) (thn (he.run pins s σ H _ I h) fun u s1 ⟨y, H1, J, ry, ey, q⟩ => ?_) ht⟩
  subst ey
  obtain rfl : u = Value.ref C := ry
  refine ClX.getmethcm_ok J c hm fun s2 J2 => ?_
  refine callWith_any (P := PySem.W.MethP X.K s1.heap.objs.size g (.ref C)) hn hall (PySem.W.keeps_M hm.fi) (thn (ha.run pos _ s2 σ H1 _ J2 q) fun us s3 ⟨vs, H2, J3, r, q2⟩ => thn (hkw.run pos _ s3 σ H2 _ J3 q2) fun ws s4 ⟨zs, H3, J4, rz, l1, l2, q3⟩ => ⟨⟨ClX.pin_at J4, J4.kIn⟩, ?_⟩)
  rw [hks]
  exact thn (wpAny_call (PySem.W.method_call (ClX.pin_at J4) (code_fnD (us := .ref C :: us) (vs := .ref C :: vs) F room hb hx J4 (.cons rfl r) rz (by rw [List.length_cons, l1]) l2 q3))) fun _ _ y => ClX.unpinE y
end
end DL
namespace DL
open PySem PySem.Spec L2
open PyProof.Rows hiding St

/-! ### the calls' readings over data -/
section
variable {w : Wx} {ρ : Env'} {Φ : D → Env' → Prop} {t tk : TA} {ta te : TE} {S : DSp} {I : ISp} {n m : Nat} {ix : List Nat} {dd : List D}
/-- keywords' values are like arguments -/
theorem wE_callD (h : wA w t ρ fun ds ρ1 => wA w tk ρ1 fun es ρ2 => ds.length = n ∧ es.length = m ∧ S (pick ix (ds ++ es ++ dd)) (fun d => Φ d ρ2) w.X) : wE w (tCallD w.K S n m ix dd w.EX t tk) ρ Φ := fun c H0 H σ Q a x k =>
  h c H0 H σ _ a x fun vs ds ρ1 H01 H1 h1 a1 e1 r1 => h1 c H01 H1 σ _ a1 x fun zs es ρ2 H02 H2 ⟨l1, l2, q⟩ a2 e2 r2 => ⟨r1.length.trans l1, r2.length.trans l2, H02, ds, es, fun d => Φ d ρ2, w.X, a2.px.i, r1.mono e2, r2, q,
    fun v d H0' H' z p rv => k v d ρ2 H0' H' z (a2.go p) ((e1.trans e2).trans p.e0) rv, fun y dd H0' H' z p rx => x.l y z dd H0' H' (a2.px.trans p) rx⟩
theorem wE_makeD {C : Addr} (h : wA w t ρ fun ds ρ1 => wA w tk ρ1 fun es ρ2 => ds.length = n ∧ es.length = m ∧ I (pick ix (ds ++ es ++ dd)) (fun fs => Φ (.ins C fs) ρ2) w.X) : wE w (tMakeD w.K C I n m ix dd w.EX t tk) ρ Φ := fun c H0 H σ Q a x k =>
  h c H0 H σ _ a x fun vs ds ρ1 H01 H1 h1 a1 e1 r1 => h1 c H01 H1 σ _ a1 x fun zs es ρ2 H02 H2 ⟨l1, l2, q⟩ a2 e2 r2 => ⟨r1.length.trans l1, r2.length.trans l2, H02, ds, es, fun d => Φ d ρ2, w.X, a2.px.i, r1.mono e2, r2, q,
    fun v d H0' H' z p rv => k v d ρ2 H0' H' z (a2.go p) ((e1.trans e2).trans p.e0) rv, fun y dd H0' H' z p rx => x.l y z dd H0' H' (a2.px.trans p) rx⟩
theorem wE_makeL {i : Nat} {C : Addr} (hi : ρ[i]? = some (some (.dat (.raw (.ref C))))) (h : wE w (tMakeD w.K C I n m ix dd w.EX t tk) ρ Φ) : wE w (tMakeL w.K i C I n m ix dd w.EX t tk) ρ Φ := fun c H0 H σ Q a x k => by
  obtain ⟨v, h1, r⟩ := a.get hi
  cases r
  exact ⟨h1, h c H0 H σ Q a x k⟩
theorem wE_methD {C : Addr} {f : Str} (h : wE w ta ρ fun d ρ0 => ∃ fs, d = .ins C fs ∧ fs.lookup f = none ∧ wA w t ρ0 fun ds ρ1 => wA w tk ρ1 fun es ρ2 => ds.length = n ∧ es.length = m ∧ S (pick (shiftIx ix) (.ins C fs :: ds ++ es ++ dd)) (fun d => Φ d ρ2) w.X) :
    wE w (tMethD w.K C f S n m ix dd w.EX ta t tk) ρ Φ := fun c H0 H σ Q a x k =>
  h c H0 H σ _ a x fun v d ρ0 H00 H0h ⟨fs, ed, l0, h⟩ a0 e0 r0 => by
    subst ed
    cases r0 with
    | ins hp hk =>
      exact ⟨_, _, _, rfl, a0.px.i _ _ hp, hk.noKey l0, h c H00 H0h σ _ a0 x fun vs ds ρ1 H01 H1 h1 a1 e1 r1 => h1 c H01 H1 σ _ a1 x fun zs es ρ2 H02 H2 ⟨l1, l2, q⟩ a2 e2 r2 => ⟨r1.length.trans l1, r2.length.trans l2, H02, .ins C fs :: ds, es, fun d => Φ d ρ2, w.X, a2.px.i,
        .cons ((Rep.ins hp hk).mono (e1.trans e2)) (r1.mono e2), r2, q, fun v d H0' H' z p rv => k v d ρ2 H0' H' z (a2.go p) ((e0.trans (e1.trans e2)).trans p.e0) rv, fun y dd H0' H' z p rx => x.l y z dd H0' H' (a2.px.trans p) rx⟩⟩
theorem wE_cmethD {C : Addr} (h : wE w ta ρ fun d ρ0 => d = .raw (.ref C) ∧ wA w t ρ0 fun ds ρ1 => wA w tk ρ1 fun es ρ2 => ds.length = n ∧ es.length = m ∧ S (pick (shiftIx ix) (.raw (.ref C) :: ds ++ es ++ dd)) (fun d => Φ d ρ2) w.X) :
    wE w (tCMethD w.K C S n m ix dd w.EX ta t tk) ρ Φ := fun c H0 H σ Q a x k =>
  h c H0 H σ _ a x fun v d ρ0 H00 H0h ⟨ed, h⟩ a0 e0 r0 => by
    subst ed
    cases r0
    exact ⟨rfl, h c H00 H0h σ _ a0 x fun vs ds ρ1 H01 H1 h1 a1 e1 r1 => h1 c H01 H1 σ _ a1 x fun zs es ρ2 H02 H2 ⟨l1, l2, q⟩ a2 e2 r2 => ⟨r1.length.trans l1, r2.length.trans l2, H02, .raw (.ref C) :: ds, es, fun d => Φ d ρ2, w.X, a2.px.i,
        .cons (.raw _) (r1.mono e2), r2, q, fun v d H0' H' z p rv => k v d ρ2 H0' H' z (a2.go p) ((e0.trans (e1.trans e2)).trans p.e0) rv, fun y dd H0' H' z p rx => x.l y z dd H0' H' (a2.px.trans p) rx⟩⟩
/-- a property: nothing is raised in it -/
theorem wE_propD {C : Addr} (h : wE w te ρ fun d ρ1 => ∃ fs, d = .ins C fs ∧ S [.ins C fs] (fun d => Φ d ρ1) (fun _ => False)) : wE w (tProp C (lift w.K S) [] EN te) ρ Φ := fun c H0 H σ Q a x k =>
  h c H0 H σ _ a x fun v d ρ1 H01 H1 ⟨fs, ed, q⟩ a1 e1 r1 => by
    subst ed
    cases r1 with
    | ins hp hk =>
      exact ⟨_, _, _, rfl, a1.px.i _ _ hp, H01, [.ins C fs], fun d => Φ d ρ1, fun _ => False, a1.px.i, .cons (.ins hp hk) .nil, q, fun v d H0' H' z p rv => k v d ρ1 H0' H' z (a1.go p) (e1.trans p.e0) rv, fun _ _ _ _ z => z.elim⟩
/-! texts put together -/
def fmtG (x : D) (Φ : D → Prop) : Prop := match x with
  | .str y => y.length ≤ 1000000 ∧ Φ (.str y)
  | .int i => i.natAbs.log2 < 1920 ∧ Φ (.str (toString i))
  | _ => False
theorem wE_fmt (h : wE w te ρ fun d ρ1 => fmtG d fun d' => Φ d' ρ1) : wE w (tFmt te) ρ Φ := fun c H0 H σ Q a x k =>
  h c H0 H σ _ a x fun v d ρ1 H01 H1 q a1 e1 r1 => by
    cases r1 <;> first
      | exact q.elim
      | exact .inl ⟨_, rfl, len_ok q.1, k _ _ ρ1 H01 H1 q.2 a1 e1 (.str _)⟩
      | exact .inr ⟨_, rfl, q.1, k _ _ ρ1 H01 H1 q.2 a1 e1 (.str _)⟩
def wJ (w : Wx) : List TE → Str → Env' → (Str → Env' → Prop) → Prop
  | [], acc, ρ, Φ => Φ acc ρ
  | t :: ts, acc, ρ, Φ => wE w t ρ fun d ρ1 => ∃ y, d = .str y ∧ (acc ++ y).length ≤ 1000000 ∧ wJ w ts (acc ++ y) ρ1 Φ
theorem wJ_run : ∀ (ts : List TE) (acc : Str) (ρ : Env') (Φ : Str → Env' → Prop), wJ w ts acc ρ Φ → ∀ (c : Ctx) (H0 H : Hp) (σ : St) (Q : Str → Hp → Prop), At w.K c ρ H0 H σ → XLink w c →
    (∀ out ρ' H0' H', Φ out ρ' → At w.K c ρ' H0' H' σ → Ex H0 H0' → Q out H') → tJs ts acc σ H Q
  | [], acc, ρ, Φ, h, c, H0, H, σ, Q, a, x, k => k acc ρ H0 H h a (.refl _)
  | t :: ts, acc, ρ, Φ, h, c, H0, H, σ, Q, a, x, k => h c H0 H σ _ a x fun v d ρ1 H01 H1 ⟨y, ed, hz, q⟩ a1 e1 r1 => by
    subst ed
    cases r1
    exact ⟨y, rfl, len_ok hz, wJ_run ts _ ρ1 Φ q c H01 H1 σ Q a1 x fun out ρ' H0' H' z a' e' => k out ρ' H0' H' z a' (e1.trans e')⟩
theorem wE_joined {ts : List TE} (h : wJ w ts Str.empty ρ fun out ρ' => Φ (.str out) ρ') : wE w (fun σ H Q => tJs ts Str.empty σ H fun out H1 => Q (.str out) H1) ρ Φ := fun c H0 H σ Q a x k =>
  wJ_run ts _ ρ _ h c H0 H σ _ a x fun out ρ' H0' H' z a' e' => k _ _ ρ' H0' H' z a' e' (.str _)
end
/-! ### statements -/
section
variable {w : Wx} {ρ : Env'} {E : DE} {ts : TS}
/-- one's own may be given away at any time -/
theorem wS_freeze {i : Nat} {t : Option Addr} {d : D} (h : ρ[i]? = some (some (.own t d))) (q : wS w ts E (ρ.set i (some (.dat d)))) : wS w ts E ρ := fun c Dn H0 H σ a x l => by
  obtain ⟨p, o, _, _, _, _, a', _⟩ := a.freeze h
  exact q c Dn _ H σ a' x l
/-- a, b = e, f -/
theorem wS_par {i j : Nat} {t : TA} (h : wA w t ρ fun ds ρ1 => ∃ d1 d2, ds = [d1, d2] ∧ E.nx ((ρ1.set i (some (.dat d1))).set j (some (.dat d2)))) : wS w (tPar i j t) E ρ := fun c Dn H0 H σ a x l =>
  h c H0 H σ _ a x fun vs ds ρ1 H01 H1 ⟨d1, d2, e, q⟩ a1 e1 r1 => by
    subst e
    obtain ⟨v1, v2, rfl, g1, g2⟩ := vals_two r1
    exact ⟨v1, v2, rfl, l.nx _ _ _ _ q ((a1.setDat g1 i).setDat g2 j)⟩
/-- a, b = [..], 0: the list one's own -/
theorem wS_parOwnC {i j : Nat} {t : TA} {z : Int} (hij : i ≠ j) (h : wA w t ρ fun ds ρ1 => ds.length ≤ 1000000 ∧ E.nx ((ρ1.set i (some (.own none (.lst ds)))).set j (some (.dat (.int z))))) : wS w (tPar i j (tCons (tLst t) (tCons (tC (.int z)) tNil))) E ρ := fun c Dn H0 H σ a x l =>
  h c H0 H σ _ a x fun vs ds ρ1 H01 H1 ⟨hz, q⟩ a1 e1 r1 => ⟨len_ok (by rw [r1.length]; exact hz), fun p hp => ⟨_, _, rfl, l.nx _ _ _ _ q ((a1.setOwn hp (.lst r1) i).setDat (.int z) j)⟩⟩
/-- a, b = [], [] -/
theorem wS_parOwn2 {i j : Nat} (hij : i ≠ j) (q : E.nx ((ρ.set i (some (.own none (.lst [])))).set j (some (.own none (.lst []))))) : wS w (tPar i j (tCons (tLst tNil) (tCons (tLst tNil) tNil))) E ρ := fun c Dn H0 H σ a x l =>
  ⟨Nat.zero_le _, fun p hp => ⟨Nat.zero_le _, fun p' hp' => ⟨_, _, rfl, l.nx _ _ _ _ q (((a.setOwn hp (.lst .nil) i)).setOwn hp' (.lst .nil) j)⟩⟩⟩
/-! self.f = e, self being one's own -/
def putD (f : Str) (v : D) : List (Str × D) → List (Str × D)
  | [] => [(f, v)]
  | (g, x) :: r => if g = f then (g, v) :: r else (g, x) :: putD f v r
theorem repKV_put {K : PySem.W.Frag} {H : Hp} {f : Str} {v : V} {d : D} (r : Rep K H v d) : ∀ {vs : List (Str × V)} {ds : List (Str × D)}, RepKV K H vs ds → RepKV K H (putF f v vs) (putD f d ds)
  | _, _, .nil => .cons r .nil
  | _, _, .cons (k := k) h hs => by
    unfold putF putD
    by_cases e : k = f
    · rw [if_pos e, if_pos e]; exact .cons r hs
    · rw [if_neg e, if_neg e]; exact .cons h (repKV_put r hs)
theorem own_ins {K : PySem.W.Frag} {H0 : Hp} {o : HO} {C : Addr} {fs : List (Str × D)} (r : RepO K H0 o (.ins C fs)) : ∃ dx vs, o = .ins C dx vs ∧ RepKV K H0 vs fs := by
  cases r with
  | ins h => exact ⟨_, _, rfl, h⟩
theorem wS_fld {i : Nat} {f : Str} {te : TE} (h : wE w te ρ fun d ρ1 => ∃ t C fs, ρ1[i]? = some (some (.own t (.ins C fs))) ∧ Cls w.K C ∧ NoAttr w.K C f ∧ fs.length < 1000 ∧ E.nx (ρ1.set i (some (.own t (.ins C (putD f d fs)))))) : wS w (sFld w.K (tVar i) te f) E ρ := fun c Dn H0 H σ a x l =>
  h c H0 H σ _ a x fun v d ρ1 H01 H1 ⟨t, C, fs, g, c1, c2, hz, q⟩ a1 e1 r1 => by
    obtain ⟨p, o, h1, h2, _, _, r⟩ := a1.own g
    obtain ⟨dx, vs, rfl, r2⟩ := own_ins r
    exact ⟨.ref p, h1, p, C, dx, vs, rfl, h2, c1, c2, by rw [r2.length]; exact hz, l.nx _ _ _ _ q (a1.turn g h1 (.ins (repKV_put r1 r2)))⟩
end
/-! ### defs -/
structure FunX (K : PySem.W.Frag) (x qual : Str) (st : Stmt) (f : Addr) (fd : FuncData) : Prop where
  ex : ∃ (oc : Value) (od : Option Addr) (dV kV doc pm : Value) (an : Option Addr) (cdv ct : Value) (osl : Array (Option Value)),
    fd = PySem.W.fnOf x qual (defArgs st) (defBody st) (defScope st) dV kV doc pm an cdv ct ∧ K.lookup f = some ⟨oc, od, .func fd, osl⟩ ∧ PySem.W.codeIn K cdv qual = true
theorem funX_of {K : PySem.W.Frag} {x qual : Str} {st : Stmt} {f : Addr} {fd : FuncData} (F : Fun K x qual st f fd) : FunX K x qual st f fd :=
  let ⟨oc, od, kV, doc, pm, an, cdv, ct, osl, h⟩ := F.ex; ⟨oc, od, .none, kV, doc, pm, an, cdv, ct, osl, h⟩
theorem funX_ofD {K : PySem.W.Frag} {x qual : Str} {st : Stmt} {dvs : List V} {kws : List (Str × V)} {f : Addr} {fd : FuncData} (F : FunD K x qual (defArgs st) (defBody st) (defScope st) dvs kws f fd) : FunX K x qual st f fd :=
  let ⟨oc, od, dV, kV, doc, pm, an, cdv, ct, osl, h1, h2, h3, _⟩ := F.ex; ⟨oc, od, dV, kV, doc, pm, an, cdv, ct, osl, h1, h2, h3⟩
section
variable {P : Program} {w : World} {K : PySem.W.Frag} {mg : Str → Option Value} {base : Heap}
/-- where a def's body stands -/
abbrev bodyX (P : Program) (w : World) (K : PySem.W.Frag) (mg : Str → Option Value) (base : Heap) (N : List Str) (qual : Str) (st : Stmt) (f : Addr) (cdv : Value) (A : Around) (outer : List Env) (s : Shared) (H : Hp) (E : XK) : Cx :=
  cxOf (CXD P w) P w K mg base N qual (defScope st) f cdv A outer s H E
structure InBody (P : Program) (w : World) (k : Nat) (X : Cx) (E : XK) : Prop where
  room : RoomG k X.A
  pass : Passes (CXD P w) X E
  own : PassesOwn (model P w) X.A X.env X.xe
/-- THE RULE for a def -/
theorem fnX_of {x qual : Str} {st : Stmt} {f : Addr} {fd : FuncData} {N ps : List Str} {k : Nat} {S : DSp} (F : FunX K x qual st f fd) (Sc : FnScope N ps (defScope st)) (len : ∀ ds Φ Ψ, S ds Φ Ψ → ds.length = ps.length)
    (hbody : ∀ (cdv : Value) (A : Around) (outer : List Env) (s : Shared) (H : Hp) (E : XK), InBody P w k (bodyX P w K mg base N qual st f cdv A outer s H E) E →
      ∃ t, PSs (bodyX P w K mg base N qual st f cdv A outer s H E) (defBody st) t ∧ ∀ ds Φ Ψ, S ds Φ Ψ → wS ⟨K, E, Ψ, []⟩ t { nx := fun _ => Φ .non, rt := fun d _ => Φ d } (startE N ds)) :
    FnG P w K mg base (k + 1) f fd ps (lift K S) := by
  obtain ⟨oc, od, dV, kV, doc, pm, an, cdv, ct, osl, rfl, lk, hcd⟩ := F.ex
  refine fnG_of lk hcd Sc (fun vs H Q E ⟨H0, ds, Φ, Ψ, _, r, q, _⟩ => r.length.trans (len ds Φ Ψ q)) fun A outer s H vs Q E room ⟨H0, ds, Φ, Ψ, e, r, q, kq, kx⟩ => ?_
  obtain ⟨t, ht, hw⟩ := hbody cdv A outer s H E ⟨room, passes_call (takes_of rfl rfl rfl rfl) fun _ _ _ _ h => h, passes_of rfl⟩
  refine ⟨t, ht, hw ds Φ Ψ q ⟨H, H0, []⟩ _ H0 H _ (at_start e r) ⟨rfl, fun x hx dd H0' H' p rx => kx x dd H0' H' hx p rx⟩ ⟨fun ρ H0' H' σ z a => kq .non .non H0' H' z a.px .non, fun d v ρ H0' H' σ z a rv => kq v d H0' H' z a.px rv, fun _ _ _ _ _ _ _ z => z.elim, fun _ _ _ _ z => z.elim, fun _ _ _ _ z => z.elim⟩⟩
def startI (x C : Addr) (N : List Str) (ds : List D) : Env' := some (.own (some x) (.ins C [])) :: ((ds.map fun d => some (.dat d)) ++ List.replicate (N.length - (ds.length + 1)) none)
theorem slots_startI {H0 H : Hp} {n : Nat} {x C dx : Addr} {vs : List V} {ds : List D} (hx : H x = some (.ins C dx [])) (r : RepAll K H0 vs ds) :
    Slots K H0 H (some (.own (some x) (.ins C [])) :: ((ds.map fun d => some (.dat d)) ++ List.replicate n none)) (some (.ref x) :: (vs.map some ++ List.replicate n none)) [x] :=
  .own (fun q e => by cases e; rfl) hx (.ins .nil) (slots_start r)
/-- .. for an __init__: the attributes -/
theorem fnI_of {x qual : Str} {C : Addr} {st : Stmt} {f : Addr} {fd : FuncData} {N ps : List Str} {k : Nat} {S : ISp} (F : FunX K x qual st f fd) (Sc : FnScope N ps (defScope st)) (len : ∀ ds Φ Ψ, S ds Φ Ψ → ds.length + 1 = ps.length)
    (hbody : ∀ (cdv : Value) (A : Around) (outer : List Env) (s : Shared) (H : Hp) (E : XK), InBody P w k (bodyX P w K mg base N qual st f cdv A outer s H E) E →
      ∃ t, PSs (bodyX P w K mg base N qual st f cdv A outer s H E) (defBody st) t ∧ ∀ y ds Φ Ψ, S ds Φ Ψ → wS ⟨K, E, Ψ, []⟩ t { nx := fun ρ => ∃ fs, ρ[0]? = some (some (.own (some y) (.ins C fs))) ∧ Φ fs } (startI y C N ds)) :
    FnG P w K mg base (k + 1) f fd ps (liftI K C S) := by
  obtain ⟨oc, od, dV, kV, doc, pm, an, cdv, ct, osl, rfl, lk, hcd⟩ := F.ex
  refine fnG_of lk hcd Sc (fun vs H Q E ⟨y, dx, vs', He, H0, ds, Φ, Ψ, ev, _, _, _, _, r, q, _⟩ => by rw [ev, List.length_cons, r.length]; exact len ds Φ Ψ q) fun A outer s H vs Q E room ⟨y, dx, vs', He, H0, ds, Φ, Ψ, ev, hy, hye, e1, e2, r, q, kq, kx⟩ => ?_
  subst ev
  obtain ⟨t, ht, hw⟩ := hbody cdv A outer s H E ⟨room, passes_call (takes_of rfl rfl rfl rfl) fun _ _ _ _ h => h, passes_of rfl⟩
  have h0 : H0 y = none := e2.back hye
  have a : At K ⟨He, H0, []⟩ (startI y C N ds) H0 H (L2.start N (V.ref y :: vs')) := by
    refine ⟨⟨.of e1, .refl _, e2.trans e1, fun _ _ h => h⟩, .nil, [y], ?_, by simp, fun p hp => ?_⟩
    · have z := slots_startI (n := N.length - (ds.length + 1)) (C := C) hy r
      unfold startI L2.start
      rw [List.length_cons, r.length]
      exact z
    · rw [List.mem_singleton.mp hp]; exact ⟨h0, hye⟩
  refine ⟨t, ht, hw y ds Φ Ψ q ⟨He, H0, []⟩ _ H0 H _ a ⟨rfl, fun x hx dd H0' H' p rx => kx x dd H0' H' hx p rx⟩ ⟨fun ρ H0' H' σ ⟨fs, g, z⟩ a' => ?_, fun _ _ _ _ _ _ z => z.elim, fun _ _ _ _ _ _ _ z => z.elim, fun _ _ _ _ z => z.elim, fun _ _ _ _ z => z.elim⟩⟩
  obtain ⟨p, o, g1, g2, _, gt, _⟩ := a'.own g
  obtain ⟨p', o', g1', _, _, _, a2, r2⟩ := a'.freeze g
  rw [g1] at g1'
  cases g1'
  rw [gt y rfl] at r2
  rw [gt y rfl] at a2
  exact kq fs _ _ z a2.px r2
end
end DL
namespace DL
open PySem PySem.Spec L2
open PyProof.Rows hiding St

/-! ### a def that changes the list it is handed -/
abbrev MSp := List D → List D → (D → List D → Prop) → Prop
def liftM (K : PySem.W.Frag) (S : MSp) : Sp := fun vs H Q _ => ∃ (x : Addr) (vs' us : List V) (He H0 : Hp) (ms ds : List D) (Φ : D → List D → Prop), vs = .ref x :: vs' ∧ H x = some (.lst us) ∧ He x = none ∧ Ex He H ∧ Ex H0 He ∧ RepAll K H0 us ms ∧ RepAll K H0 vs' ds ∧ S ms ds Φ ∧
  (∀ v d us' ms' H0' H', Φ d ms' → PX ⟨He, H0, []⟩ H0' H' → H0' x = none → H' x = some (.lst us') → RepAll K H0' us' ms' → Rep K H0' v d → Q v H')
def startM (x : Addr) (ms : List D) (N : List Str) (ds : List D) : Env' := some (.own (some x) (.lst ms)) :: ((ds.map fun d => some (.dat d)) ++ List.replicate (N.length - (ds.length + 1)) none)
section
variable {P : Program} {w : World} {K : PySem.W.Frag} {mg : Str → Option Value} {base : Heap}
theorem fnM_of {x qual : Str} {st : Stmt} {f : Addr} {fd : FuncData} {N ps : List Str} {k : Nat} {S : MSp} (F : FunX K x qual st f fd) (Sc : FnScope N ps (defScope st)) (len : ∀ ms ds Φ, S ms ds Φ → ds.length + 1 = ps.length)
    (hbody : ∀ (cdv : Value) (A : Around) (outer : List Env) (s : Shared) (H : Hp) (E : XK), InBody P w k (bodyX P w K mg base N qual st f cdv A outer s H E) E →
      ∃ t, PSs (bodyX P w K mg base N qual st f cdv A outer s H E) (defBody st) t ∧ ∀ y ms ds Φ, S ms ds Φ → wS ⟨K, E, fun _ => False, []⟩ t { nx := fun ρ => ∃ ms', ρ[0]? = some (some (.own (some y) (.lst ms'))) ∧ Φ .non ms', rt := fun d ρ => ∃ ms', ρ[0]? = some (some (.own (some y) (.lst ms'))) ∧ Φ d ms' } (startM y ms N ds)) :
    FnG P w K mg base (k + 1) f fd ps (liftM K S) := by
  obtain ⟨oc, od, dV, kV, doc, pm, an, cdv, ct, osl, rfl, lk, hcd⟩ := F.ex
  refine fnG_of lk hcd Sc (fun vs H Q E ⟨y, vs', us, He, H0, ms, ds, Φ, ev, _, _, _, _, _, r, q, _⟩ => by rw [ev, List.length_cons, r.length]; exact len ms ds Φ q) fun A outer s H vs Q E room ⟨y, vs', us, He, H0, ms, ds, Φ, ev, hy, hye, e1, e2, rm, r, q, kq⟩ => ?_
  subst ev
  obtain ⟨t, ht, hw⟩ := hbody cdv A outer s H E ⟨room, passes_call (takes_of rfl rfl rfl rfl) fun _ _ _ _ h => h, passes_of rfl⟩
  have h0 : H0 y = none := e2.back hye
  have a : At K ⟨He, H0, []⟩ (startM y ms N ds) H0 H (L2.start N (V.ref y :: vs')) := by
    refine ⟨⟨.of e1, .refl _, e2.trans e1, fun _ _ h => h⟩, .nil, [y], ?_, by simp, fun p hp => ?_⟩
    · unfold startM L2.start
      rw [List.length_cons, r.length]
      exact .own (fun q e => by cases e; rfl) hy (.lst rm) (slots_start r)
    · rw [List.mem_singleton.mp hp]; exact ⟨h0, hye⟩
  have fin : ∀ d v ρ H0' H' σ, (∃ ms', ρ[0]? = some (some (.own (some y) (.lst ms'))) ∧ Φ d ms') → At K ⟨He, H0, []⟩ ρ H0' H' σ → Rep K H0' v d → Q v H' := fun d v ρ H0' H' σ ⟨ms', g, z⟩ a' rv => by
    obtain ⟨p, o, g1, g2, g3, gt, g4⟩ := a'.own g
    obtain ⟨us', rfl, r2⟩ := own_lst g4
    rw [gt y rfl] at g2 g3
    exact kq v d us' ms' H0' H' z a'.px g3 g2 r2 rv
  refine ⟨t, ht, hw y ms ds Φ q ⟨He, H0, []⟩ _ H0 H _ a ⟨rfl, fun _ hx => hx.elim⟩ ⟨fun ρ H0' H' σ z a' => fin _ _ ρ H0' H' σ z a' .non, fun d v ρ H0' H' σ z a' rv => fin d v ρ H0' H' σ z a' rv, fun _ _ _ _ _ _ _ z => z.elim, fun _ _ _ _ z => z.elim, fun _ _ _ _ z => z.elim⟩⟩
end
/-! reading and writing such a list -/
section
variable {w : Wx} {ρ : Env'} {Φ : D → Env' → Prop} {te ti : TE}
/-- x[j], x one's own, its item data -/
theorem wE_ixOwn {i : Nat} (h0 : ∃ t ds, ρ[i]? = some (some (.own t (.lst ds)))) (h : wE w ti ρ fun d ρ1 => ∃ t j ds y, d = .int j ∧ ρ1[i]? = some (some (.own t (.lst ds))) ∧ L2.atI ds j = some y ∧ Φ y ρ1) : wE w (tOp (rIx w.K) (tVar i) ti) ρ Φ := fun c H0 H σ Q a x k => by
  obtain ⟨t0, ds0, h0⟩ := h0
  obtain ⟨p, o, h1, _⟩ := a.own h0
  refine ⟨.ref p, h1, h c H0 H σ _ a x fun v d ρ1 H01 H1 ⟨t, j, ds, y, e, g, hj, q⟩ a1 e1 r1 => ?_⟩
  subst e
  cases r1
  obtain ⟨p', o', g1, g2, _, _, g3⟩ := a1.own g
  rw [h1] at g1
  cases g1
  obtain ⟨us, rfl, r2⟩ := own_lst g3
  obtain ⟨u, hu, ru⟩ := r2.atI hj
  exact .inl ⟨_, us, j, u, rfl, rfl, .inl (.inl g2), hu, k u y ρ1 H01 H1 q a1 e1 ru⟩
theorem RepAll.set {K : PySem.W.Frag} {H : Hp} {v : V} {d : D} (r : Rep K H v d) : ∀ {vs : List V} {ds : List D} (j : Nat), RepAll K H vs ds → RepAll K H (vs.set j v) (ds.set j d)
  | _, _, _, .nil => .nil
  | _, _, 0, .cons _ hs => .cons r hs
  | _, _, j + 1, .cons h hs => .cons h (hs.set r j)
/-- x[j] = .., x one's own -/
theorem wG_subOwn {i : Nat} {d : D} {Ψ : Env' → Prop} (h0 : ∃ t ds, ρ[i]? = some (some (.own t (.lst ds)))) (h : wE w ti ρ fun dj ρ1 => ∃ t j n ds, dj = .int j ∧ ρ1[i]? = some (some (.own t (.lst ds))) ∧ ixN ds.length j = some n ∧ Ψ (ρ1.set i (some (.own t (.lst (ds.set n d)))))) :
    wG w (gSub (tVar i) ti rSetL) d ρ Ψ := fun c H0 H σ v Q a x r k => by
  obtain ⟨t0, ds0, h0⟩ := h0
  obtain ⟨p, o, h1, _⟩ := a.own h0
  refine ⟨.ref p, h1, h c H0 H σ _ a x fun vj dj ρ1 H01 H1 ⟨t, j, n, ds, e, g, hj, q⟩ a1 e1 r1 => ?_⟩
  subst e
  cases r1
  obtain ⟨p', o', g1, g2, _, _, g3⟩ := a1.own g
  rw [h1] at g1
  cases g1
  obtain ⟨us, rfl, r2⟩ := own_lst g3
  exact ⟨p, us, j, n, rfl, rfl, g2, by rw [r2.length]; exact hj, k _ H01 _ σ q (a1.turn g h1 (.lst (r2.set (r.mono e1) n))) e1⟩
end
/-! ### the list that draws numbers, as something of which nothing but that is known -/
theorem objOk_view {P : Program} {w : World} {H H2 : Hp} {h : Heap} (k1 : ∀ q y, H q = some (.own y) → H2 q = some (.own y)) (k2 : ∀ q xs, H q = some (.tup xs) → H2 q = some (.tup xs)) {a : Addr} : ∀ {o : HO}, ObjOk P w H h a o → ObjOk P w H2 h a o
  | .lst _, x => x
  | .tup _, x => x
  | .dK _, x => x
  | .dT _, x => let ⟨x1, x2, xs, p, r⟩ := x; ⟨x1, x2, xs, L2.Paired.mapP p fun _ _ ⟨z1, z2, z3⟩ => ⟨z1, k2 _ _ z2, z3⟩, r⟩
  | .set _ _, x => x
  | .ins _ _ _, x => ⟨k1 _ _ x.1, x.2⟩
  | .own _, x => x
  | .xd _, x => x
  | .rng _ _, x => x
  | .frz _ _, x => ⟨x.1, objOk_view k1 k2 x.2⟩
  | .tbl _, x => x
  | .met _ _, x => x
  | .ext _, x => x
abbrev PSp := List Int → (D → Prop) → Prop
/-- a promise about the list that draws numbers: it is handed one, and whole numbers -/
def pailS (SP : PSp) : DSp := fun ds Φ _ => ∃ ns : List Int, ds = .pail :: ns.map D.int ∧ SP ns Φ
theorem seq3 {its : List Value} {i j k : Int} (r : Vals [V.int i, V.int j, V.int k] its) : ∃ t u v, its = [.int i t, .int j u, .int k v] := by
  cases r with
  | cons r0 r =>
    cases r with
    | cons r1 r =>
      cases r with
      | cons r2 r =>
        cases r
        obtain ⟨t, rfl⟩ := r0
        obtain ⟨u, rfl⟩ := r1
        obtain ⟨v, rfl⟩ := r2
        exact ⟨t, u, v, rfl⟩
theorem fnP_of {P : Program} {w : World} {K : PySem.W.Frag} {mg : Str → Option Value} {base : Heap} {k : Nat} {f : Addr} {fd : FuncData} {ps : List Str} {SM : MSp} {SP : PSp} (F : FnG P w K mg base k f fd ps (liftM K SM))
    (hS : ∀ i j l ns Φ, PB i j → SP ns Φ → SM [.int i, .int j, .int l] (ns.map D.int) fun d ms => Φ d ∧ ∃ i' j' l', ms = [.int i', .int j', .int l'] ∧ PB i' j') (len : ∀ ns Φ, SP ns Φ → ns.length + 1 = ps.length) : FnG P w K mg base k f fd ps (lift K (pailS SP)) := by
  refine ⟨fun vs H Q E ⟨H0, ds, Φ, Ψ, _, r, ⟨ns, e, q⟩, _⟩ => by rw [r.length, e, List.length_cons, List.length_map]; exact len ns Φ q, fun A outer s H args us vs Q E room env0 binds rel ⟨H0, ds, Φ, Ψ, e0, r, ⟨ns, e, q⟩, kq, kx⟩ => ?_⟩
  subst e
  cases r with
  | @cons v vs' _ _ r0 r =>
    cases r0 with
    | @pail x hx =>
      have ev := r.ofInts
      subst ev
      have hH := e0 _ _ hx
      obtain ⟨⟨i, j, l, t, u, v, n, pb, hob⟩, _, _⟩ : ObjOk P w H s.heap x (PailP x) := env0.hok x _ hH
      generalize hH1 : upd H x (.lst [.int i, .int j, .int l]) = H1
      have at_x : H1 x = some (.lst [.int i, .int j, .int l]) := by rw [← hH1]; exact upd_same
      have at_ne : ∀ {b}, b ≠ x → H1 b = H b := fun hb => by rw [← hH1]; exact upd_ne hb
      have none1 : ∀ {b}, H b = none → H1 b = none := fun {b} hb => by
        rw [at_ne fun z => by rw [z, hH] at hb; cases hb]; exact hb
      have env1 : Env0 P w K mg base A outer s H1 := by
        refine ⟨env0.frames, env0.mod, fun b o z => ⟨(env0.bs b o z).1, none1 (env0.bs b o z).2⟩, env0.bsz, env0.funs, fun b hb => none1 (env0.frf b hb), fun b o hb => ?_, env0.bare⟩
        by_cases eb : b = x
        · subst eb
          rw [at_x] at hb
          cases hb
          exact ⟨(by show 3 ≤ sizeLine; decide), [.int i t, .int j u, .int l v], n, .cons ⟨_, rfl⟩ (.cons ⟨_, rfl⟩ (.cons ⟨_, rfl⟩ .nil)), hob⟩
        · rw [at_ne eb] at hb
          exact objOk_view (fun q y hq => by rw [at_ne fun z => by rw [z, hH] at hq; cases hq]; exact hq) (fun q y hq => by rw [at_ne fun z => by rw [z, hH] at hq; cases hq]; exact hq) (env0.hok b o hb)
      let He : Hp := fun b => if b = x then none else H b
      let Hz : Hp := fun b => if b = x then none else H0 b
      have he_ne : ∀ {b}, b ≠ x → He b = H b := fun hb => if_neg hb
      have hz_ne : ∀ {b}, b ≠ x → Hz b = H0 b := fun hb => if_neg hb
      have he_x : He x = none := if_pos rfl
      have hz_x : Hz x = none := if_pos rfl
      have exa : Ex He H1 := fun b o hb => by
        by_cases eb : b = x
        · rw [eb, he_x] at hb; cases hb
        · rw [he_ne eb] at hb; rw [at_ne eb]; exact hb
      have exb : Ex Hz He := fun b o hb => by
        by_cases eb : b = x
        · rw [eb, hz_x] at hb; cases hb
        · rw [hz_ne eb] at hb; rw [he_ne eb]; exact e0 b o hb
      refine codeAny_mono (F.run A outer s H1 args us _ (fun v H' => (∃ i' j' l', H' x = some (.lst [.int i', .int j', .int l']) ∧ PB i' j') ∧ Q v (upd H' x (PailP x))) EN room env1 binds rel
        ⟨x, _, _, He, Hz, _, _, _, rfl, at_x, he_x, exa, exb, .cons (.int i) (.cons (.int j) (.cons (.int l) .nil)), RepAll.ints ns, hS i j l ns Φ pb q, fun v d us' ms' H0' H' ⟨hΦ, i', j', l', em, pb'⟩ px h0x hx' rm rv => ?_⟩) fun r s' z => ?_
      · subst em
        have eu : us' = [.int i', .int j', .int l'] := RepAll.ofInts (ns := [i', j', l']) rm
        subst eu
        refine ⟨⟨i', j', l', hx', pb'⟩, kq v d (upd H0' x (PailP x)) (upd H' x (PailP x)) hΦ ⟨.of fun b o hb => ?_, fun b o hb => ?_, px.i.both, fun b h1 h2 => ?_⟩ (rv.mono (Ex.new h0x))⟩
        · by_cases eb : b = x
          · subst eb
            have hb' : H b = some o := hb
            rw [hH] at hb'; cases hb'; exact upd_same
          · rw [upd_ne eb]; exact px.ex b o (by show He b = some o; rw [he_ne eb]; exact hb)
        · by_cases eb : b = x
          · subst eb
            have hb' : H0 b = some o := hb
            rw [hx] at hb'; cases hb'; exact upd_same
          · rw [upd_ne eb]; exact px.e0 b o (by show Hz b = some o; rw [hz_ne eb]; exact hb)
        · have h2' : H0 b = none := h2
          have eb : b ≠ x := fun z => by rw [z, hx] at h2'; cases h2'
          rw [upd_ne eb]
          exact px.n b (by show He b ≠ none; rw [he_ne eb]; exact h1) (by show Hz b = none; rw [hz_ne eb]; exact h2)
      · cases r with
        | error er => obtain ⟨_, _, _, _, _, _, _, _, _, _, _, _, z⟩ := z; exact z.elim
        | ok fl =>
          cases fl with
          | ret uv =>
            obtain ⟨v', H', os, bare, un, hok, rv, ⟨i', j', l', hx', pb'⟩, qv⟩ := z
            refine ⟨v', upd H' x (PailP x), os, bare, ⟨fun b o h1 h2 => un.keep b o h1 (none1 h2), fun b o h1 h2 => un.slot b o h1 (none1 h2), fun b o h1 h2 h3 => ?_, un.there, fun b xs h1 => ?_, fun b o u h1 => ?_, fun b ps h1 => ?_⟩, fun b o hb => ?_, rv, qv⟩
            · have eb : b ≠ x := fun z => by rw [z, hH] at h2; cases h2
              rw [upd_ne eb]; exact un.free b o h1 (none1 h2) h3
            · have eb : b ≠ x := fun z => by rw [z, hH] at h1; cases h1
              rw [upd_ne eb]; exact un.tups b xs (by rw [at_ne eb]; exact h1)
            · have eb : b ≠ x := fun z => by rw [z, hH] at h1; cases h1
              rw [upd_ne eb]; exact un.frzs b o u (by rw [at_ne eb]; exact h1)
            · have eb : b ≠ x := fun z => by rw [z, hH] at h1; cases h1
              obtain ⟨more, hm⟩ := un.tbls b ps (by rw [at_ne eb]; exact h1)
              exact ⟨more, by rw [upd_ne eb]; exact hm⟩
            · by_cases eb : b = x
              · subst eb
                rw [upd_same] at hb
                cases hb
                obtain ⟨_, its, n', rs, ho⟩ : ObjOk P w H' s'.heap b (.lst [.int i', .int j', .int l']) := hok b _ hx'
                obtain ⟨t', u', v'', rfl⟩ := seq3 rs
                exact ⟨⟨i', j', l', t', u', v'', n', pb', ho⟩, ⟨_, ho⟩, fun h1 h2 ⟨i, j, k, t, u, v, n, hp, g⟩ z => ⟨i, j, k, t, u, v, n, hp, z _ g⟩⟩
              · rw [upd_ne eb] at hb
                exact objOk_view (fun q y hq => by rw [upd_ne fun z => by rw [z, hx'] at hq; cases hq]; exact hq) (fun q y hq => by rw [upd_ne fun z => by rw [z, hx'] at hq; cases hq]; exact hq) (hok b o hb)
          | next => exact z.elim
          | brk => exact z.elim
          | cont => exact z.elim
/-! ### a def that returns a new list, nobody's yet -/
abbrev RSp := List D → (List D → Prop) → Prop
def liftR (K : PySem.W.Frag) (S : RSp) : Sp := fun vs H Q _ => ∃ (H0 : Hp) (ds : List D) (Φ : List D → Prop), Ex H0 H ∧ RepAll K H0 vs ds ∧ S ds Φ ∧
  (∀ p us ms H0' H', Φ ms → PX ⟨H, H0, []⟩ H0' H' → H0' p = none → H p = none → H' p = some (.lst us) → RepAll K H0' us ms → Q (.ref p) H')
section
variable {P : Program} {w : World} {K : PySem.W.Frag} {mg : Str → Option Value} {base : Heap}
theorem fnR_of {x qual : Str} {st : Stmt} {f : Addr} {fd : FuncData} {N ps : List Str} {k : Nat} {S : RSp} (F : FunX K x qual st f fd) (Sc : FnScope N ps (defScope st)) (len : ∀ ds Φ, S ds Φ → ds.length = ps.length)
    (hbody : ∀ (cdv : Value) (A : Around) (outer : List Env) (s : Shared) (H : Hp) (E : XK), InBody P w k (bodyX P w K mg base N qual st f cdv A outer s H E) E →
      ∃ t, PSs (bodyX P w K mg base N qual st f cdv A outer s H E) (defBody st) t ∧ ∀ ds Φ, S ds Φ → wS ⟨K, E, fun _ => False, []⟩ t { nx := fun _ => False, ro := fun ms _ => Φ ms } (startE N ds)) :
    FnG P w K mg base (k + 1) f fd ps (liftR K S) := by
  obtain ⟨oc, od, dV, kV, doc, pm, an, cdv, ct, osl, rfl, lk, hcd⟩ := F.ex
  refine fnG_of lk hcd Sc (fun vs H Q E ⟨H0, ds, Φ, _, r, q, _⟩ => r.length.trans (len ds Φ q)) fun A outer s H vs Q E room ⟨H0, ds, Φ, e, r, q, kq⟩ => ?_
  obtain ⟨t, ht, hw⟩ := hbody cdv A outer s H E ⟨room, passes_call (takes_of rfl rfl rfl rfl) fun _ _ _ _ h => h, passes_of rfl⟩
  refine ⟨t, ht, hw ds Φ q ⟨H, H0, []⟩ _ H0 H _ (at_start e r) ⟨rfl, fun _ hx => hx.elim⟩ ⟨fun _ _ _ _ z => z.elim, fun _ _ _ _ _ _ z => z.elim, fun ms p us ρ H0' H' σ z a g1 g2 g3 g4 => kq p us ms H0' H' z a.px g1 g2 g3 g4, fun _ _ _ _ z => z.elim, fun _ _ _ _ z => z.elim⟩⟩
/-- .. three ints that draw: nothing but that is known of it -/
theorem fnPR_of {k : Nat} {f : Addr} {fd : FuncData} {ps : List Str} {S : RSp} {S' : DSp} (F : FnG P w K mg base k f fd ps (liftR K S)) (len : ∀ ds Φ Ψ, S' ds Φ Ψ → ds.length = ps.length)
    (hS : ∀ ds Φ Ψ, S' ds Φ Ψ → S ds fun ms => Φ .pail ∧ ∃ i j l, ms = [.int i, .int j, .int l] ∧ PB i j) : FnG P w K mg base k f fd ps (lift K S') := by
  refine ⟨fun vs H Q E ⟨H0, ds, Φ, Ψ, _, r, q, _⟩ => r.length.trans (len ds Φ Ψ q), fun A outer s H args us vs Q E room env0 binds rel ⟨H0, ds, Φ, Ψ, e0, r, q, kq, kx⟩ => ?_⟩
  refine codeAny_mono (F.run A outer s H args us vs (fun v H' => ∃ x i j l, v = .ref x ∧ H' x = some (.lst [.int i, .int j, .int l]) ∧ PB i j ∧ H x = none ∧ Q v (upd H' x (PailP x))) EN room env0 binds rel
    ⟨H0, ds, _, e0, r, hS ds Φ Ψ q, fun x us' ms H0' H' ⟨hΦ, i, j, l, em, pb⟩ px h0 hn hx' rm => ?_⟩) fun r s' z => ?_
  · subst em
    have eu : us' = [.int i, .int j, .int l] := RepAll.ofInts (ns := [i, j, l]) rm
    subst eu
    refine ⟨x, i, j, l, rfl, hx', pb, hn, kq _ _ (upd H0' x (PailP x)) (upd H' x (PailP x)) hΦ ⟨.of fun b o hb => ?_, fun b o hb => ?_, px.i.both, fun b h1 h2 => ?_⟩ (.pail upd_same)⟩
    · rw [upd_ne (ne_of_none hb hn)]; exact px.ex b o hb
    · have hb' : H0 b = some o := hb
      rw [upd_ne (ne_of_none (e0 b o hb') hn)]; exact px.e0 b o hb
    · have eb : b ≠ x := fun z => h1 (by rw [z]; exact hn)
      rw [upd_ne eb]; exact px.n b h1 h2
  · cases r with
    | error er => obtain ⟨_, _, _, _, _, _, _, _, _, _, _, _, z⟩ := z; exact z.elim
    | ok fl =>
      cases fl with
      | ret uv =>
        obtain ⟨v', H', os, bare, un, hok, rv, x, i, j, l, ev, hx', pb, hn, qv⟩ := z
        refine ⟨v', upd H' x (PailP x), os, bare, ⟨un.keep, un.slot, fun b o h1 h2 h3 => ?_, un.there, fun b xs h1 => ?_, fun b o u h1 => ?_, fun b ps h1 => ?_⟩, fun b o hb => ?_, rv, qv⟩
        · have hb := un.free b o h1 h2 h3
          rw [upd_ne fun z => by rw [z, hx'] at hb; cases hb]; exact hb
        · rw [upd_ne (ne_of_none h1 hn)]; exact un.tups b xs h1
        · rw [upd_ne (ne_of_none h1 hn)]; exact un.frzs b o u h1
        · obtain ⟨more, hm⟩ := un.tbls b ps h1
          exact ⟨more, by rw [upd_ne (ne_of_none h1 hn)]; exact hm⟩
        · by_cases eb : b = x
          · subst eb
            rw [upd_same] at hb
            cases hb
            obtain ⟨_, its, n', rs, ho⟩ : ObjOk P w H' s'.heap b (.lst [.int i, .int j, .int l]) := hok b _ hx'
            obtain ⟨t', u', v'', rfl⟩ := seq3 rs
            exact ⟨⟨i, j, l, t', u', v'', n', pb, ho⟩, ⟨_, ho⟩, fun h1 h2 ⟨i, j, k, t, u, v, n, hp, g⟩ z => ⟨i, j, k, t, u, v, n, hp, z _ g⟩⟩
          · rw [upd_ne eb] at hb
            exact objOk_view (fun q y hq => by rw [upd_ne fun z => by rw [z, hx'] at hq; cases hq]; exact hq) (fun q y hq => by rw [upd_ne fun z => by rw [z, hx'] at hq; cases hq]; exact hq) (hok b o hb)
      | next => exact z.elim
      | brk => exact z.elim
      | cont => exact z.elim
end
end DL
namespace DL
open PySem PySem.Spec L2
open PyProof.Rows hiding St

/-! ### repr of data -/
mutual
theorem noDict_of_pure : ∀ d : D, d.pure = true → d.py.hasDict = false
  | .non, _ => by simp [D.py, PyData.hasDict]
  | .bl _, _ => by simp [D.py, PyData.hasDict]
  | .int _, _ => by simp [D.py, PyData.hasDict]
  | .str x, h => by simp [D.py, PyData.hasDict]
  | .tup l, h => by simpa [D.py, PyData.hasDict] using noDictAll_of_pure l (by simpa [D.pure] using h)
  | .lst l, h => by simpa [D.py, PyData.hasDict] using noDictAll_of_pure l (by simpa [D.pure] using h)
  | .dic _, h => by simp [D.pure] at h
  | .ins _ _, h => by simp [D.pure] at h
  | .pail, h => by simp [D.pure] at h
  | .scr _, h => by simp [D.pure] at h
  | .raw _, h => by simp [D.pure] at h
  | .exn _ _ _, h => by simp [D.pure] at h
  | .dik _, h => by simp [D.pure] at h
  | .kd _ _ _ _, h => by simp [D.pure] at h
theorem noDictAll_of_pure : ∀ l : List D, pureAll l = true → PyData.hasDictAll (pyAll l) = false
  | [], _ => by simp [pyAll, PyData.hasDictAll]
  | d :: l, h => by
    simp only [pureAll, Bool.and_eq_true] at h
    simp only [pyAll, PyData.hasDictAll, noDict_of_pure d h.1, noDictAll_of_pure l h.2, Bool.or_self]
end
/-- what may be shown: not too deep, not too much -/
structure Fine (n W : Nat) (d : D) : Prop where
  p : d.pure = true
  n : d.dep ≤ n
  w : d.wgt ≤ W
  s : d.py.showable = true
  l : d.py.leavesShort 45 = true
theorem Fine.shp {n W : Nat} {d : D} (h : Fine n W d) : Shp n d := ⟨h.p, h.n⟩
theorem Fine.mono {n W m V : Nat} {d : D} (h : Fine n W d) (hn : n ≤ m) (hw : W ≤ V) : Fine m V d := ⟨h.p, Nat.le_trans h.n hn, Nat.le_trans h.w hw, h.s, h.l⟩
theorem Fine.len {n W : Nat} {d : D} (h : Fine n W d) : d.py.shown.length ≤ 47 * W + 45 := by
  have := PyData.shown_le 45 (by decide) d.py h.l
  have w := h.w
  unfold D.wgt at w
  omega
theorem Fine.non {n W : Nat} : Fine n W .non := ⟨rfl, Nat.zero_le _, Nat.zero_le _, by simp [D.py, PyData.showable], by simp [D.py, PyData.leavesShort]⟩
theorem Fine.bl {n W : Nat} {b : Bool} : Fine n W (.bl b) := ⟨rfl, Nat.zero_le _, Nat.zero_le _, by simp [D.py, PyData.showable], by simp [D.py, PyData.leavesShort]⟩
theorem log2_lt {a k : Nat} (h : a < 2 ^ k) (hk : 0 < k) : a.log2 < k := by
  by_cases e : a = 0
  · subst e; exact hk
  · exact (Nat.log2_lt e).mpr h
theorem Fine.int {n k : Nat} {i : Int} (h : i.natAbs < 10 ^ 12) (hk : i.natAbs < 2 ^ k) : Fine n k (.int i) := by
  refine ⟨rfl, Nat.zero_le _, ?_, ?_, ?_⟩
  · show PyData.weight (.int i) ≤ k
    simp only [PyData.weight]
    split
    · exact Nat.zero_le _
    · rename_i e
      have : i.natAbs ≠ 0 := by intro z; exact e (by simpa using z)
      exact (Nat.log2_lt this).mpr hk
  · show PyData.showable (.int i) = true
    simp only [PyData.showable, decide_eq_true_eq]
    exact log2_lt (k := 1920) (Nat.lt_of_lt_of_le h (by decide +kernel)) (by decide)
  · show PyData.leavesShort 45 (.int i) = true
    simp only [PyData.leavesShort, decide_eq_true_eq]
    have := PyData.shown_int_le h
    omega
theorem Fine.str {n : Nat} {x : Str} (h : PyData.strOk x = true) : Fine n x.length (.str x) := by
  refine ⟨h, Nat.zero_le _, Nat.le_of_eq (by show PyData.weight (.str x) = _; simp [PyData.weight, Str.length]), by simp [D.py, PyData.showable], ?_⟩
  show PyData.leavesShort 45 (.str x) = true
  simp only [PyData.leavesShort, List.all_eq_true, decide_eq_true_eq]
  intro c hc
  have h' := h
  simp only [PyData.strOk, Array.all_eq_true', decide_eq_true_eq] at h'
  exact Nat.lt_trans (h' c (by simpa using hc)) (by decide)
theorem fineAll {n W : Nat} : ∀ {l : List D}, (∀ d ∈ l, Fine n W d) → pureAll l = true ∧ PyData.depthAll (pyAll l) ≤ n ∧ PyData.weightAll (pyAll l) ≤ l.length * (W + 1) ∧ PyData.showableAll (pyAll l) = true ∧ PyData.leavesShortAll 45 (pyAll l) = true
  | [], _ => ⟨rfl, Nat.zero_le _, Nat.zero_le _, by simp [pyAll, PyData.showableAll], by simp [pyAll, PyData.leavesShortAll]⟩
  | d :: l, h => by
    obtain ⟨a, b, c, e, f⟩ := fineAll fun x hx => h x (List.mem_cons_of_mem _ hx)
    have g := h d List.mem_cons_self
    refine ⟨by simp only [pureAll, g.p, a, Bool.and_self], ?_, ?_, by simp only [pyAll, PyData.showableAll, g.s, e, Bool.and_self], by simp only [pyAll, PyData.leavesShortAll, g.l, f, Bool.and_self]⟩
    · simp only [pyAll, PyData.depthAll]
      exact Nat.max_le.mpr ⟨g.n, b⟩
    · simp only [pyAll, PyData.weightAll, List.length_cons]
      have := g.w
      unfold D.wgt at this
      rw [Nat.add_mul]
      omega
theorem Fine.tup {n W m : Nat} {l : List D} (h : ∀ d ∈ l, Fine n W d) (hl : l.length ≤ m) : Fine (n + 1) (m * (W + 1)) (.tup l) := by
  obtain ⟨a, b, c, e, f⟩ := fineAll h
  exact ⟨by simpa only [D.pure] using a, by simpa only [D.dep, D.py, PyData.depth] using Nat.succ_le_succ b, by simpa only [D.wgt, D.py, PyData.weight] using Nat.le_trans c (Nat.mul_le_mul_right _ hl), by simpa only [D.py, PyData.showable] using e, by simpa only [D.py, PyData.leavesShort] using f⟩
theorem Fine.lst {n W m : Nat} {l : List D} (h : ∀ d ∈ l, Fine n W d) (hl : l.length ≤ m) : Fine (n + 1) (m * (W + 1)) (.lst l) := by
  obtain ⟨a, b, c, e, f⟩ := fineAll h
  exact ⟨by simpa only [D.pure] using a, by simpa only [D.dep, D.py, PyData.depth] using Nat.succ_le_succ b, by simpa only [D.wgt, D.py, PyData.weight] using Nat.le_trans c (Nat.mul_le_mul_right _ hl), by simpa only [D.py, PyData.showable] using e, by simpa only [D.py, PyData.leavesShort] using f⟩
def rRepr (K : PySem.W.Frag) : List V → Hp → VK → Prop := fun xs H Q => ∃ (a : Addr) (d : PyData), xs = [.ref a] ∧ Dp K H (.ref a) d ∧ d.showable = true ∧ d.hasDict = false ∧ d.depth ≤ 64 ∧ d.shown.length ≤ sizeLine ∧ Q (.str d.shown) H
theorem call_reprD {X : Cx} (hg : X.A.guards = some []) (hu : X.A.units + 65 < cLine) : CallR X (.builtin "repr") (rRepr X.K) := by
  intro pins s σ H xs us Q I r ⟨a, d, e, hd, h1, h2, h3, h4, q⟩
  subst e
  obtain ⟨u, rfl, ru⟩ := vals1 r
  obtain rfl : u = Value.ref a := ru
  obtain ⟨as, rd⟩ := Dp.reads I d _ _ hd (show RelV (.ref a) (.ref a) from rfl)
  exact repr_of_reads' rd h1 (fun z => by rw [h2] at z; cases z) hg (by omega) (fun _ _ z => z) (fun h' u tk keep => ⟨.str d.shown, H, I.kept keep, ⟨_, rfl⟩, q⟩) h4
def reprG (ds : List D) (Φ : D → Prop) : Prop := match ds with
  | [.lst l] => Fine 64 350000 (.lst l) ∧ Φ (.str (D.lst l).py.shown)
  | [.tup l] => Fine 64 350000 (.tup l) ∧ Φ (.str (D.tup l).py.shown)
  | _ => False
theorem cbd_repr {K : PySem.W.Frag} : CbD K (rRepr K) reprG := fun H0 H xs ds Φ Q e rx g k => by
  cases rx with
  | nil => exact g.elim
  | cons r rs =>
    cases rs with
    | cons _ _ => cases r <;> exact g.elim
    | nil =>
      cases r <;> first
        | exact g.elim
        | (rename_i hp hr
           have f := g.1
           have l := f.len
           exact ⟨_, _, rfl, dp_of e (.lst hp hr) f.p, f.s, noDict_of_pure _ f.p, f.n, Nat.le_trans l (by decide), fin0 e g.2 (.str _) k⟩)
        | (rename_i hp hr
           have f := g.1
           have l := f.len
           exact ⟨_, _, rfl, dp_of e (.tup hp hr) f.p, f.s, noDict_of_pure _ f.p, f.n, Nat.le_trans l (by decide), fin0 e g.2 (.str _) k⟩)
/-! ### isinstance -/
def tyD : D → Option String
  | .non => some "NoneType"
  | .bl _ => some "bool"
  | .int _ => some "int"
  | .str _ => some "str"
  | .tup _ => some "tuple"
  | .lst _ => some "list"
  | .dic _ => some "dict"
  | .scr _ => none
  | .ins _ _ => none
  | .pail => none
  | .raw _ => none
  | .exn _ _ _ => none
  | .dik _ => none
  | .kd _ _ _ _ => none
/-- of these types bool alone has another one above it -/
def isB (t T : String) : Bool := t == T || (t == "bool" && T == "int")
def knownT (T : String) : Bool := T == "int" || T == "bool" || T == "str" || T == "tuple" || T == "list" || T == "dict"
theorem kit_known {K : PySem.W.Frag} {t T : String} (ht : t = "NoneType" ∨ knownT t = true) (hT : knownT T = true) : PySem.W.kitOne K (.type t) (.type T) = some (isB t T) := by
  simp only [knownT, Bool.or_eq_true, beq_iff_eq] at ht hT
  rcases ht with rfl | ((((rfl | rfl) | rfl) | rfl) | rfl) | rfl <;> rcases hT with ((((rfl | rfl) | rfl) | rfl) | rfl) | rfl <;> exact kit_ty (by decide +kernel)
def isiG (ds : List D) (Φ : D → Prop) : Prop := ∃ x t T, ds = [x, .raw (.ty T)] ∧ tyD x = some t ∧ knownT T = true ∧ Φ (.bl (isB t T))
theorem ty_known {x : D} {t : String} (h : tyD x = some t) : t = "NoneType" ∨ knownT t = true := by
  cases x <;> simp [tyD] at h <;> subst h <;> first
    | exact .inl rfl
    | exact .inr (by decide)
theorem sqT_ty {K : PySem.W.Frag} {H : Hp} {a : Addr} {xs : List V} (h : SqT K H a xs) : TyX K H (.ref a) (.type "tuple") := by
  rcases h with (h | ⟨o, h⟩) | ⟨o, its, n, h1, h2, _⟩
  · exact .base (.tup h)
  · exact .fTuple h
  · exact .kTuple h1 h2
theorem cbd_isi {K : PySem.W.Frag} : CbD K (rIsi K) isiG := fun H0 H xs ds Φ Q e rx ⟨x, t, T, hd, h1, h2, g⟩ k => by
  subst hd
  obtain ⟨v, c, rfl, r1, r2⟩ := vals_two rx
  cases r2
  refine ⟨v, .ty T, .type t, .type T, isB t T, rfl, .ty T, ?_, kit_known (ty_known h1) h2, fin0 e g (.bl _) k⟩
  cases r1 <;> simp [tyD] at h1 <;> subst h1 <;> first
    | exact .base .non
    | exact .base (.bl _)
    | exact .base (.int _)
    | exact .base (.str _)
    | exact sqT_ty (sqT_ex e (by assumption))
    | exact .base (.lst (e _ _ (by assumption)))
    | exact .base (.dK (e _ _ (by assumption)))
/-! ### a, *b = a list -/
def gStar (K : PySem.W.Frag) (i j : Nat) : TG := fun v σ H Q => ∃ a x xs, v = .ref a ∧ SqL K H a (x :: xs) ∧ (x :: xs).length ≤ sizeLine ∧ ∀ p, H p = none → Q ((σ.set i (some x)).set j (some (.ref p))) (upd H p (.lst xs))
theorem walksS_shift {prog : Program} {w : World} {A : Around} {I : Addr} {fp wr : List Addr} {G : Array GenState → Array GenState → Prop} {n : Nat} {P : Nat → Value → Prop} {St : Nat → Shared → Prop} (W : WalksS prog w A I fp wr G (n + 1) P St) :
    WalksS prog w A I fp wr G n (fun i => P (i + 1)) (fun i => St (i + 1)) where
  sub := W.sub
  grefl := W.grefl
  gtrans := W.gtrans
  frame := fun i => W.frame (i + 1)
  item := fun i s Q E h => W.item (i + 1) s Q E (Nat.succ_lt_succ h)
  done := fun s => W.done s
  self := fun i => W.self (i + 1)
section
variable {X : Cx} {pos px py sp : Pos} {x y : Str} {i j kk : Nat}
theorem items_eq {vs : List Value} {v : Value} {acc : Array Value} (h : ItemsOf (fun i u => (v :: vs)[i + 1]? = some u) acc vs.length) : acc.toList = vs := by
  obtain ⟨h1, h2⟩ := h
  apply List.ext_getElem?
  intro k
  by_cases hk : k < vs.length
  · have hk' : k < acc.size := by omega
    have e : acc[k]? = some acc[k] := by simp [hk']
    have := h2 k _ e
    simp at this
    rw [Array.getElem?_toList, e, ← this]
  · rw [List.getElem?_eq_none (by simp; omega), List.getElem?_eq_none (by omega)]
theorem pg_star (hc : X.calm = true) (hN : X.N.Nodup) (hi : X.N[i]? = some x) (hj : X.N[j]? = some y) (hx : Loc X.env.scope x) (hy : Loc X.env.scope y)
    (hf : X.fn x = true ∨ X.env.scope.names.lookup x = some .local := by first | exact .inl rfl | exact .inr rfl) (hf2 : X.fn y = true ∨ X.env.scope.names.lookup y = some .local := by first | exact .inl rfl | exact .inr rfl) :
    PG X (.Tuple [.Name x px, .Starred (.Name y py) sp] kk pos) (gStar X.K i j) := by
  refine ⟨fun pins s σ H v u Q I r ⟨a, z, zs, ev, hq, hz, q⟩ => ?_⟩
  subst ev
  cases r
  obtain ⟨its, rv, pl, _⟩ := I.list hq
  cases rv with
  | @cons _ uz _ us rz rs =>
  have hh := I.ok.hd hc
  have hl : s.heap.IsList a (uz :: us).toArray := pl.isList
  have hlt : a ≠ s.heap.objs.size := by obtain ⟨o, ho, _⟩ := hl; exact Nat.ne_of_lt (Heap.lt_size ho)
  have hlt' : a < s.heap.objs.size := by obtain ⟨o, ho, _⟩ := hl; exact Heap.lt_size ho
  rw [PyProof.Rows.assign_Tuple]
  refine wpAny_bind (wpAny_standAt ?_)
  unfold unpack
  refine wpAny_bind (wpAny_holding ?_)
  show wpAny _ _ (unpackItems (.ref a) 2 (some 1)) _ _ _
  unfold unpackItems
  refine wpAny_bind ?_
  · unfold notIterableAtAll
    refine wpAny_bind (wpAny_specialOf hl.typeIs PySem.F.slot_list_iter.lookup ?_)
    refine wpAny_pure ?_
    simp only [Bool.false_eq_true, if_false]
    refine wpAny_bind (wpAny_holding (wpAny_pyIter_list hl ?_))
    refine wpAny_bind (wpAny_holding (PySem.W.kun_draw hlt 1 0 _ _ ⟨_, Heap.get?_push_size _ rfl, rfl, rfl⟩ (hl.push _) (by simp) fun h1 hit1 hs1 => ?_))
    have e1 : List.take 1 (List.drop 0 (uz :: us).toArray.toList) = [uz] := by simp
    rw [e1]
    simp only [List.length_cons, List.length_nil, Nat.zero_add, Nat.lt_irrefl, if_false]
    have hl1 : h1.IsList a (uz :: us).toArray := (hl.push _).extBut hs1.extBut hlt
    have keep1 : ∀ b o, s.heap.get? b = some o → h1.get? b = some o := fun b o e => (hs1.2 b (Nat.ne_of_lt (Heap.lt_size e))).trans (Heap.get?_push_of_some _ e)
    have sz1 : s.heap.objs.size < h1.objs.size := by obtain ⟨o, ho, _⟩ := hit1; exact Heap.lt_size ho
    have W0 := (Walks.list (prog := X.prog) (w := X.w) (A := X.A.in1) hh s.heap.objs.size a hlt (uz :: us).toArray).toS
    have W1 := walksS_shift (n := us.length) (by simpa using W0)
    have hzs : us.length ≤ sizeLine := by
      have := rs.length
      simp only [List.length_cons] at hz
      omega
    refine wpAny_bind (wpAny_holding (wpAny_collect_iter (.inr (.inr (.inl rfl))) W1 (fun i s' q => ?_) ⟨hit1, hl1⟩ (fun b hb => ?_) List.mem_cons_self (fun s' acc mv it => ?_) hzs))
    · obtain ⟨⟨o, ho, hcl, _⟩, _⟩ := q
      exact ⟨o, ho, hcl⟩
    · rcases (show b = s.heap.objs.size ∨ b = a by simpa using hb) with e | e
      · subst e; exact sz1
      · subst e; exact Nat.lt_trans hlt' sz1
    · rw [items_eq it]
      simp only [Nat.sub_self, Nat.not_lt_zero, if_false, Nat.sub_zero, List.take_length, List.drop_length, List.append_nil]
      have keep2 : ∀ b o, s.heap.get? b = some o → s'.heap.get? b = some o := fun b o e => mv.heap b o (fun hb => Nat.lt_irrefl _ ((List.mem_singleton.mp hb) ▸ Heap.lt_size e)) (keep1 b o e)
      have es' : s' = { s with heap := s'.heap, toks := s'.toks } := by
        obtain ⟨hp, gs, dr, tk, os⟩ := s'
        have g1 := mv.gens
        have g2 := mv.drawn
        have g3 := mv.os
        simp only at g1 g2 g3
        subst g1 g2 g3
        rfl
      have I2 : Inv X pins σ H s' := by
        rw [es']
        exact I.kept keep2
      refine wpAny_bind (wpAny_newList (wpAny_pure ?_))
      have hn : H s'.heap.objs.size = none := I2.hok.fresh (Nat.le_refl _)
      have I3 : Inv X pins σ (upd H s'.heap.objs.size (.lst zs)) { s' with heap := s'.heap.push { cls := .type "list", data := .seq us.toArray } } :=
        I2.laid (t' := s'.toks) (fun b o e => Heap.get?_push_of_some _ e) (Nat.le_refl _) ⟨by rw [rs.length]; exact hzs, us, 0, rs, Heap.get?_push_size _ rfl⟩
      show wpAny _ _ (assignInOrder [assign (.Name x px) X.env, assign (.Name y py) X.env] [uz, .ref s'.heap.objs.size]) _ _ _
      refine assignInOrder_cons (wpAny_assign_Name (store_ok I3 hN hi hx rz (fun s4 I4 => ?_) hf))
      refine assignInOrder_cons (wpAny_assign_Name (store_ok I4 hN hj hy (show RelV (.ref _) (.ref s'.heap.objs.size) from rfl) (fun s5 I5 => ?_) hf2))
      exact assignInOrder_nil ⟨_, _, I5, q _ hn⟩
end
theorem wG_star {w : Wx} {ρ : Env'} {i j : Nat} {d : D} {Ψ : Env' → Prop} (h : ∃ x xs, d = .lst (x :: xs) ∧ (x :: xs).length ≤ 1000000 ∧ Ψ ((ρ.set i (some (.dat x))).set j (some (.dat (.lst xs))))) : wG w (gStar w.K i j) d ρ Ψ := fun c H0 H σ v Q a lx r k => by
  obtain ⟨x, xs, rfl, hz, q⟩ := h
  cases r with
  | @lst p vs _ hp hr =>
    have hr' := hr
    cases hr with
    | @cons v0 vs0 _ _ r0 rs =>
      refine ⟨_, _, _, rfl, .inl (.inl (a.px.i _ _ hp)), len_ok (by rw [hr'.length]; exact hz), fun p' hp' => ?_⟩
      have y : PX ⟨H, H0, []⟩ (upd H0 p' (.lst vs0)) (upd H p' (.lst vs0)) := (PX.refl a.px.i).new hp'
      have a1 := a.go y
      exact k _ _ _ _ q ((a1.setDat (r0.mono y.e0) i).setDat (.lst upd_same (rs.mono y.e0)) j) y.e0
end DL
namespace DL
open PySem PySem.Spec L2
open PyProof.Rows hiding St

/-! ### an own __str__ -/
structure Own1 (K : PySem.W.Frag) (C : Addr) (m : Str) (f : Addr) : Prop where
  at_ : PySem.W.findIn K (.ref C) m = some (some (.ref f))
  fn : PySem.W.isFn K (.ref f) = true
def rStrO (K : PySem.W.Frag) (C : Addr) (S : DSp) : List V → Hp → VK → Prop := fun xs H Q => ∃ (a dx : Addr) (fs : List (Str × V)), xs = [.ref a] ∧ H a = some (.ins C dx fs) ∧ lift K S [.ref a] H (fun v H' => ∃ z, v = .str z ∧ Q v H') EN
section
variable {X : Cx} {k : Nat} {f C : Addr} {fd : FuncData} {ps : List Str} {S : DSp}
theorem call_strO (o1 : Own1 X.K C "__str__" f) (F : FnG X.prog X.w X.K X.mg X.base k f fd ps (lift X.K S)) (hb : Binds X.K fd ps []) (room : RoomG (k + 2) X.A) : CallR X (.type "str") (rStrO X.K C S) := by
  intro pins s σ H xs us Q I r ⟨a, dx, fs, e, ha, q⟩
  subst e
  obtain ⟨u, rfl, ru⟩ := vals1 r
  obtain rfl : u = Value.ref a := ru
  obtain ⟨mA, O, _⟩ := ins_get I.hok ha
  obtain ⟨od, J, _⟩ := O.look
  have room2 : RoomG k X.A.in1.in1 := ⟨(room.r.in1).in1, room.g⟩
  refine PySem.W.kso_call (by have := room2.r.un; omega) I.kIn J o1.at_ o1.fn (wpAny_call (codeAny_mono (F.run X.A.in1.in1 X.stack s H ⟨[.ref a], []⟩ [.ref a] [.ref a] _ EN room2 I.env0.in1.in1 (by
    have := hb s [.ref a] I.kIn (by rw [List.append_nil]; exact F.len _ _ _ _ q)
    simpa using this) (.cons rfl .nil) q) fun r s2 z => ?_))
  cases r with
  | error er => obtain ⟨_, _, _, _, _, _, _, _, _, _, _, _, z⟩ := z; exact z.elim
  | ok fl =>
    cases fl with
    | ret u =>
      obtain ⟨v, H2, J2, rv, y, ev, q2⟩ := I.after z
      subst ev
      obtain ⟨t, rfl⟩ := rv
      exact ⟨.str y, H2, J2, ⟨_, rfl⟩, q2⟩
    | next => exact z.elim
    | brk => exact z.elim
    | cont => exact z.elim
def strOG (C : Addr) (S : DSp) (ds : List D) (Φ : D → Prop) : Prop := ∃ fs, ds = [.ins C fs] ∧ S [.ins C fs] (fun d => ∃ z, d = .str z ∧ Φ d) (fun _ => False)
theorem cbd_strO {K : PySem.W.Frag} : CbD K (rStrO K C S) (strOG C S) := fun H0 H xs ds Φ Q e rx ⟨fs, hd, g⟩ k => by
  subst hd
  obtain ⟨v, rfl, r⟩ := vals_one rx
  cases r with
  | ins hp hr =>
    exact ⟨_, _, _, rfl, e _ _ hp, H0, [.ins C fs], _, fun _ => False, e, .cons (.ins hp hr) .nil, g, fun v d H0' H' ⟨z, ez, hΦ⟩ p rv => by
      subst ez; cases rv
      exact ⟨z, rfl, k _ _ H0' H' hΦ p (.str _)⟩, fun _ _ _ _ z => z.elim⟩
end
end DL
namespace DL
open PySem PySem.Spec L2
open PyProof.Rows hiding St

/-! ### the built-ins' names are the built-ins -/
def bltNames : List Str := ["len", "isinstance", "int", "bool", "str", "tuple", "list", "dict", "set", "all", "any", "sum", "min", "max", "abs", "range", "enumerate", "zip", "repr", "divmod", "sorted"]
structure Blt (mg : Str → Option Value) : Prop where
  len : mg "len" = none
  isinstance : mg "isinstance" = none
  int : mg "int" = none
  bool : mg "bool" = none
  str : mg "str" = none
  tuple : mg "tuple" = none
  list : mg "list" = none
  all : mg "all" = none
  sum : mg "sum" = none
  min : mg "min" = none
  max : mg "max" = none
  abs : mg "abs" = none
  range : mg "range" = none
  enumerate : mg "enumerate" = none
  zip : mg "zip" = none
  repr : mg "repr" = none
  divmod : mg "divmod" = none
theorem bb_len : bootBuiltins "len" = some (.builtin "len") := by decide +kernel
theorem bb_isinstance : bootBuiltins "isinstance" = some (.builtin "isinstance") := by decide +kernel
theorem bb_all : bootBuiltins "all" = some (.builtin "all") := by decide +kernel
theorem bb_sum : bootBuiltins "sum" = some (.builtin "sum") := by decide +kernel
theorem bb_min : bootBuiltins "min" = some (.builtin "min") := by decide +kernel
theorem bb_max : bootBuiltins "max" = some (.builtin "max") := by decide +kernel
theorem bb_abs : bootBuiltins "abs" = some (.builtin "abs") := by decide +kernel
theorem bb_repr : bootBuiltins "repr" = some (.builtin "repr") := by decide +kernel
theorem bb_divmod : bootBuiltins "divmod" = some (.builtin "divmod") := by decide +kernel
theorem bb_int : bootBuiltins "int" = some (.type "int") := by decide +kernel
theorem bb_bool : bootBuiltins "bool" = some (.type "bool") := by decide +kernel
theorem bb_str : bootBuiltins "str" = some (.type "str") := by decide +kernel
theorem bb_tuple : bootBuiltins "tuple" = some (.type "tuple") := by decide +kernel
theorem bb_list : bootBuiltins "list" = some (.type "list") := by decide +kernel
section
variable {X : Cx} {x : Str} {pos p : Pos} {e : Expr} {es : List Expr} {t : TA}
theorem pe_bty {T : String} (hm : X.mg x = none) (hv : bootBuiltins x = some (.type T)) (hg : Gl X x := by rfl) (hn : x ≠ "__name__" := by decide) (hd : (x == ("__debug__" : Str)) = false := by decide) : PE X (.Name x pos) (tC (.ty T)) := pe_bltn hg hm hv rfl hn hd
/-- a module's constant -/
def GInt (mg : Str → Option Value) (x : Str) (i : Int) : Prop := ∃ t, mg x = some (.int i t)
def GStr (mg : Str → Option Value) (x : Str) (z : Str) : Prop := ∃ t, mg x = some (.str z t)
theorem pe_gi {i : Int} (c : GInt X.mg x i) (hg : Gl X x := by rfl) (hd : (x == ("__debug__" : Str)) = false := by decide) : PE X (.Name x pos) (tC (.int i)) := by
  obtain ⟨t, h⟩ := c
  exact pe_glob hg h ⟨t, rfl⟩ hd
theorem pe_gs {z : Str} (c : GStr X.mg x z) (hg : Gl X x := by rfl) (hd : (x == ("__debug__" : Str)) = false := by decide) : PE X (.Name x pos) (tC (.str z)) := by
  obtain ⟨t, h⟩ := c
  exact pe_glob hg h ⟨t, rfl⟩ hd
theorem pe_gcls {C : Addr} (c : X.mg x = some (.ref C)) (hg : Gl X x := by rfl) (hd : (x == ("__debug__" : Str)) = false := by decide) : PE X (.Name x pos) (tC (.ref C)) := pe_glob hg c rfl hd
/-! the operators of all kinds of data -/
theorem opr_add : OpR X (binaryOp .Add) (rAdd X.K) := OpR.or op_add (OpR.or op_add_str (OpR.or op_cat op_catA))
theorem opr_mul : OpR X (binaryOp .Mult) rMul := OpR.or op_mul op_mulX
theorem slr_sl : SlR X (rSl X.K) := SlR.or sl_list (SlR.or sl_tupA sl_str)
theorem callr_len : CallR X (.builtin "len") (rLen X.K) := CallR.or call_len call_lenD
theorem callr_str : CallR X (.type "str") rStr := CallR.or call_str_int SkE.call_str_str
theorem callr_int : CallR X (.type "int") rInt := CallR.or call_int1 call_int_str
theorem hu64 {k : Nat} {A : Around} (r : RoomG k A) : A.units + 64 < cLine := by have := r.r.un; omega
theorem hu65 {k : Nat} {A : Around} (r : RoomG k A) : A.units + 65 < cLine := by have := r.r.un; omega
end
/-! ### what the text has, as callers see it -/
section
variable {P : Program} {w : World} {K : PySem.W.Frag} {mg : Str → Option Value} {base : Heap}
theorem CallD.of {x : Str} {k : Nat} {S : DSp} {f : Addr} {fd : FuncData} {ps : List Str} (F : FnG P w K mg base k f fd ps (lift K S)) (hm : mg x = some (.ref f)) (hk : PySem.W.keepIn K (.ref f) = true) (hb : Binds K fd ps []) : CallD P w K mg base x k S := ⟨f, fd, ps, F, hm, hk, hb⟩
/-- the class x at C makes objects; n values, keywords ks, defaults dd -/
structure MakeB (P : Program) (w : World) (K : PySem.W.Frag) (mg : Str → Option Value) (base : Heap) (C : Addr) (k : Nat) (I : ISp) (n : Nat) (ks : List Str) (ix : List Nat) (dd : List D) : Prop where
  ex : ∃ f fd ps, Mk K C f ∧ FnG P w K mg base k f fd ps (liftI K C I) ∧ KbG K fd ps (n + 1) ks (shiftIx ix) dd
/-- C.m, a method -/
structure MethB (P : Program) (w : World) (K : PySem.W.Frag) (mg : Str → Option Value) (base : Heap) (C : Addr) (m : Str) (k : Nat) (S : DSp) (n : Nat) (ks : List Str) (ix : List Nat) (dd : List D) : Prop where
  ex : ∃ f fd ps, Cls K C ∧ Meth K C m f ∧ FnG P w K mg base k f fd ps (lift K S) ∧ KbG K fd ps (n + 1) ks (shiftIx ix) dd
/-- C.m, a class method -/
structure CMethB (P : Program) (w : World) (K : PySem.W.Frag) (mg : Str → Option Value) (base : Heap) (C : Addr) (m : Str) (k : Nat) (S : DSp) (n : Nat) (ks : List Str) (ix : List Nat) (dd : List D) : Prop where
  ex : ∃ mc r g fd ps, ClX.CRead K C mc ∧ ClX.CMet K C mc m r g ∧ FnG P w K mg base k g fd ps (lift K S) ∧ KbG K fd ps (n + 1) ks (shiftIx ix) dd
/-- C.m, a property -/
structure PropB (P : Program) (w : World) (K : PySem.W.Frag) (mg : Str → Option Value) (base : Heap) (C : Addr) (m : Str) (k : Nat) (S : DSp) : Prop where
  ex : ∃ a g fd ps, Cls K C ∧ PropOf K C m a g ∧ FnG P w K mg base k g fd ps (lift K S) ∧ Binds K fd ps []
/-- an own __str__ -/
structure StrB (P : Program) (w : World) (K : PySem.W.Frag) (mg : Str → Option Value) (base : Heap) (C : Addr) (k : Nat) (S : DSp) : Prop where
  ex : ∃ f fd ps, Own1 K C "__str__" f ∧ FnG P w K mg base k f fd ps (lift K S) ∧ Binds K fd ps []
end
section
variable {X : Cx} {j k n : Nat} {C : Addr} {ks : List Str} {ix : List Nat} {dd : List D} {S : DSp} {I : ISp} {E : XK} {x m : Str} {p pos apos : Pos} {e o : Expr} {es : List Expr} {kws : List Keyword} {ta : TE} {t tk : TA} {pl : Sem Bool}
theorem pe_cd (c : CallD X.prog X.w X.K X.mg X.base x k S) (room : RoomG j X.A) (hj : k ≤ j) (hx : Passes (CXD X.prog X.w) X E) (ha : PA X (e :: es) t) (hg : Gl X x := by rfl) (hdb : (x == ("__debug__" : Str)) = false := by decide)
    (he : starEach (e :: es) X.env = (false, eval e X.env) :: starEach es X.env := by rfl) (hpl : (backTo pos (starEach es X.env)).any (·.1) = false := by rfl) : PE X (.Call (.Name x p) (e :: es) [] pos) (tCall (lift X.K S) [] E t) := pe_callD c (room.mono hj) hx ha hg hdb he hpl
theorem pe_mk (c : MakeB X.prog X.w X.K X.mg X.base C k I n ks ix dd) (room : RoomG j X.A) (hj : k + 1 ≤ j) (hx : Passes (CXD X.prog X.w) X E) (hm : X.mg x = some (.ref C)) (ha : PA X es t) (hkw : PK X kws tk) (hg : Gl X x := by rfl)
    (hn : (backTo pos (starEach es X.env)).any (·.1) = false := by rfl) (hall : (backToKw pos (keywordEach kws X.env)).all (·.1.isSome) = true := by rfl) (hks : (backToKw pos (keywordEach kws X.env)).filterMap (·.1) = ks := by rfl) (hdb : (x == ("__debug__" : Str)) = false := by decide) :
    PE X (.Call (.Name x p) es kws pos) (tMakeD X.K C I n ks.length ix dd E t tk) := by
  obtain ⟨f, fd, ps, M, F, hb⟩ := c.ex
  exact pe_makeD M F (room.mono hj) hb hx hm ha hkw hg hn hall hks hdb
theorem pe_mkL (i : Nat) (c : MakeB X.prog X.w X.K X.mg X.base C k I n ks ix dd) (room : RoomG j X.A) (hj : k + 1 ≤ j) (hx : Passes (CXD X.prog X.w) X E) (ha : PA X es t) (hkw : PK X kws tk) (hN : X.N[i]? = some x := by rfl) (hv : Vis X.env.scope x := by first | exact Or.inl rfl | exact Or.inr (Or.inl rfl) | exact Or.inr (Or.inr rfl))
    (hn : (backTo pos (starEach es X.env)).any (·.1) = false := by rfl) (hall : (backToKw pos (keywordEach kws X.env)).all (·.1.isSome) = true := by rfl) (hks : (backToKw pos (keywordEach kws X.env)).filterMap (·.1) = ks := by rfl) (hdb : (x == ("__debug__" : Str)) = false := by decide) (hcd : (x == ("__classdict__" : Str)) = false := by decide) :
    PE X (.Call (.Name x p) es kws pos) (tMakeL X.K i C I n ks.length ix dd E t tk) := by
  obtain ⟨f, fd, ps, M, F, hb⟩ := c.ex
  exact pe_makeL i M F (room.mono hj) hb hx ha hkw hN hv hn hall hks hdb hcd
theorem pe_mm (c : MethB X.prog X.w X.K X.mg X.base C m k S n ks ix dd) (room : RoomG j X.A) (hj : k ≤ j) (hx : Passes (CXD X.prog X.w) X E) (he : PE X o ta) (ha : PA X es t) (hkw : PK X kws tk)
    (hn : (backTo pos (starEach es X.env)).any (·.1) = false := by rfl) (hall : (backToKw pos (keywordEach kws X.env)).all (·.1.isSome) = true := by rfl) (hks : (backToKw pos (keywordEach kws X.env)).filterMap (·.1) = ks := by rfl)
    (ht : eval (.Call (.Attribute o m apos) es kws pos) X.env = (do
      let u ← eval o X.env
      standAt apos.atName
      let (g, first) ← holding [u] (getMethod u m pl)
      callWith pos g first (backTo pos (starEach es X.env)) (backToKw pos (keywordEach kws X.env))) := by rfl) :
    PE X (.Call (.Attribute o m apos) es kws pos) (tMethD X.K C m S n ks.length ix dd E ta t tk) := by
  obtain ⟨f, fd, ps, c, M, F, hb⟩ := c.ex
  exact pe_methD (pl := pl) he c M F (room.mono hj) hb hx ha hkw hn hall hks ht
theorem pe_cm (c : CMethB X.prog X.w X.K X.mg X.base C m k S n ks ix dd) (room : RoomG j X.A) (hj : k ≤ j) (hx : Passes (CXD X.prog X.w) X E) (he : PE X o ta) (ha : PA X es t) (hkw : PK X kws tk)
    (hn : (backTo pos (starEach es X.env)).any (·.1) = false := by rfl) (hall : (backToKw pos (keywordEach kws X.env)).all (·.1.isSome) = true := by rfl) (hks : (backToKw pos (keywordEach kws X.env)).filterMap (·.1) = ks := by rfl)
    (ht : eval (.Call (.Attribute o m apos) es kws pos) X.env = (do
      let u ← eval o X.env
      standAt apos.atName
      let (g, first) ← holding [u] (getMethod u m pl)
      callWith pos g first (backTo pos (starEach es X.env)) (backToKw pos (keywordEach kws X.env))) := by rfl) :
    PE X (.Call (.Attribute o m apos) es kws pos) (tCMethD X.K C S n ks.length ix dd E ta t tk) := by
  obtain ⟨mc, r, g, fd, ps, c, M, F, hb⟩ := c.ex
  exact pe_cmethD (pl := pl) he c M F (room.mono hj) hb hx ha hkw hn hall hks ht
theorem pe_pr (c : PropB X.prog X.w X.K X.mg X.base C m k S) (room : RoomG j X.A) (hj : k + 1 ≤ j) (he : PE X e ta) (hab : attributeBase e m X.env (eval e X.env) = eval e X.env := by rfl) : PE X (.Attribute e m pos) (tProp C (lift X.K S) [] EN ta) := by
  obtain ⟨a, g, fd, ps, c, M, F, hb⟩ := c.ex
  exact pe_propG he c M F (room.mono hj) hb .nil passN hab
theorem callr_strO (c : StrB X.prog X.w X.K X.mg X.base C k S) (room : RoomG j X.A) (hj : k + 2 ≤ j) : CallR X (.type "str") (rStrO X.K C S) := by
  obtain ⟨f, fd, ps, o, F, hb⟩ := c.ex
  exact call_strO o F hb (room.mono hj)
end
end DL
namespace DL
open PySem PySem.Spec L2
open PyProof.Rows hiding St
theorem iteB {b : Bool} {A B : Prop} (h1 : b = true → A) (h2 : b = false → B) : if b = true then A else B := by
  cases b with
  | true => rw [if_pos rfl]; exact h1 rfl
  | false => rw [if_neg Bool.false_ne_true]; exact h2 rfl
theorem ifT {A B : Prop} (h : A) : if true = true then A else B := by rw [if_pos rfl]; exact h
theorem ifF {A B : Prop} (h : B) : if false = true then A else B := by rw [if_neg Bool.false_ne_true]; exact h
theorem ifP {p : Prop} [Decidable p] {A B : Prop} (hp : p) (h : A) : if decide p = true then A else B := by rw [decide_eq_true hp]; exact ifT h
theorem ifN {p : Prop} [Decidable p] {A B : Prop} (hp : ¬ p) (h : B) : if decide p = true then A else B := by rw [decide_eq_false hp]; exact ifF h
theorem ifD {p : Prop} [Decidable p] {A B : Prop} (h1 : p → A) (h2 : ¬ p → B) : if decide p = true then A else B := by
  by_cases hp : p
  · exact ifP hp (h1 hp)
  · exact ifN hp (h2 hp)
theorem ifNP {p : Prop} [Decidable p] {A B : Prop} (hp : p) (h : B) : if (!decide p) = true then A else B := by rw [decide_eq_true hp]; exact ifF h
theorem ifNN {p : Prop} [Decidable p] {A B : Prop} (hp : ¬ p) (h : A) : if (!decide p) = true then A else B := by rw [decide_eq_false hp]; exact ifT h
theorem ifND {p : Prop} [Decidable p] {A B : Prop} (h1 : p → B) (h2 : ¬ p → A) : if (!decide p) = true then A else B := by
  by_cases hp : p
  · exact ifNP hp (h1 hp)
  · exact ifNN hp (h2 hp)
theorem ifNT {A B : Prop} (h : B) : if (!true) = true then A else B := ifF h
theorem ifNF {A B : Prop} (h : A) : if (!false) = true then A else B := ifT h
theorem ex_bl {b : Bool} {P : Bool → Prop} (h : P b) : ∃ c, D.bl b = .bl c ∧ P c := ⟨b, rfl, h⟩
theorem ex_int {b : Int} {P : Int → Prop} (h : P b) : ∃ c, D.int b = .int c ∧ P c := ⟨b, rfl, h⟩
theorem ex_str {b : Str} {P : Str → Prop} (h : P b) : ∃ c, D.str b = .str c ∧ P c := ⟨b, rfl, h⟩
section
variable {a c : Int} {Φ : D → Prop} {x y : Str} {l m : List D}
theorem leG_i (h : Φ (.bl (decide (a ≤ c)))) : leG (.int a) (.int c) Φ := h
theorem ltG_i (h : Φ (.bl (decide (a < c)))) : ltG (.int a) (.int c) Φ := h
theorem gtG_i (h : Φ (.bl (decide (c < a)))) : gtG (.int a) (.int c) Φ := h
theorem geG_i (h : Φ (.bl (decide (c ≤ a)))) : geG (.int a) (.int c) Φ := h
theorem subG_i (h : Φ (.int (a - c))) : subG (.int a) (.int c) Φ := h
theorem addG_i (h : Φ (.int (a + c))) : addG (.int a) (.int c) Φ := h
theorem addG_s (hz : x.length + y.length ≤ 1000000) (h : Φ (.str (x ++ y))) : addG (.str x) (.str y) Φ := ⟨hz, h⟩
theorem addG_l (hz : l.length + m.length ≤ 1000000) (h : Φ (.lst (l ++ m))) : addG (.lst l) (.lst m) Φ := ⟨hz, h⟩
theorem addG_t (hz : l.length + m.length ≤ 1000000) (h : Φ (.tup (l ++ m))) : addG (.tup l) (.tup m) Φ := ⟨hz, h⟩
theorem mulG_i (hc : MulC a c) (h : Φ (.int (a * c))) : mulG (.int a) (.int c) Φ := ⟨hc, h⟩
theorem modG_i (hc : 0 < c) (h : Φ (.int (a % c))) : modG (.int a) (.int c) Φ := ⟨hc, h⟩
theorem fdivG_i (h1 : 0 < c) (h2 : c < 1073741824) (h : Φ (.int (a / c))) : fdivG (.int a) (.int c) Φ := ⟨⟨h1, h2⟩, h⟩
theorem powG_i (hc : CPow a c) (h : Φ (.int (a ^ c.toNat))) : powG (.int a) (.int c) Φ := ⟨hc, h⟩
theorem unG_i {f : Int → D} (h : Φ (f a)) : unG f (.int a) Φ := h
theorem lenG_l (h : Φ (.int l.length)) : lenG [.lst l] Φ := h
theorem lenG_t (h : Φ (.int l.length)) : lenG [.tup l] Φ := h
theorem lenG_c {l : List Int} (h : Φ (.int l.length)) : lenG [.scr l] Φ := h
theorem lenG_s (hz : x.length ≤ 1000000) (h : Φ (.int x.length)) : lenG [.str x] Φ := ⟨hz, h⟩
theorem tupG_l (h : Φ (.tup l)) : tupG [.lst l] Φ := h
theorem tupG_t (h : Φ (.tup l)) : tupG [.tup l] Φ := h
theorem listG_l (h : Φ (.lst l)) : listG [.lst l] Φ := h
theorem listG_t (h : Φ (.lst l)) : listG [.tup l] Φ := h
theorem intOfG_i (h : Φ (.int a)) : intOfG [.int a] Φ := h
theorem strG_i (hz : a.natAbs.log2 < 1920) (h : Φ (.str (toString a))) : strG [.int a] Φ := ⟨hz, h⟩
theorem strG_s (h : Φ (.str x)) : strG [.str x] Φ := h
theorem minG_i (h : Φ (.int (if c < a then c else a))) : int2G (fun i j => .int (if j < i then j else i)) [.int a, .int c] Φ := h
theorem maxG_i (h : Φ (.int (if c > a then c else a))) : int2G (fun i j => .int (if j > i then j else i)) [.int a, .int c] Φ := h
theorem absG_i {f : Int → D} (h : Φ (f a)) : int1G f [.int a] Φ := h
theorem isiG_of {x : D} {T t : String} (ht : tyD x = some t) (hk : knownT T = true) (h : Φ (.bl (isB t T))) : isiG [x, .raw (.ty T)] Φ := ⟨x, t, T, rfl, ht, hk, h⟩
theorem isiG_int (h : Φ (.bl true)) : isiG [.int a, .raw (.ty "int")] Φ := ⟨_, _, _, rfl, rfl, by decide, h⟩
theorem isiG_intb (h : Φ (.bl false)) : isiG [.int a, .raw (.ty "bool")] Φ := ⟨_, _, _, rfl, rfl, by decide, h⟩
theorem isiG_str (h : Φ (.bl true)) : isiG [.str x, .raw (.ty "str")] Φ := ⟨_, _, _, rfl, rfl, by decide, h⟩
theorem isiG_tup (h : Φ (.bl true)) : isiG [.tup l, .raw (.ty "tuple")] Φ := ⟨_, _, _, rfl, rfl, by decide, h⟩
theorem ixG_l {d : D} (hi : L2.atI l a = some d) (h : Φ d) : ixG (.lst l) (.int a) Φ := ⟨d, hi, h⟩
theorem ixG_t {d : D} (hi : L2.atI l a = some d) (h : Φ d) : ixG (.tup l) (.int a) Φ := ⟨d, hi, h⟩
theorem ixG_c {l : List Int} {n : Int} (hi : L2.atI l a = some n) (h : Φ (.int n)) : ixG (.scr l) (.int a) Φ := ⟨n, hi, h⟩
theorem ixG_s {c : Nat} (hz : x.length ≤ 1000000) (hi : L2.atI x.cps.toList a = some c) (h : Φ (.str ⟨#[c]⟩)) : ixG (.str x) (.int a) Φ := ⟨hz, c, hi, h⟩
theorem slG_l {lo hi : Option Int} (h : Φ (.lst (cutD l lo hi))) : slG (.lst l) lo hi Φ := h
theorem slG_t {lo hi : Option Int} (h : Φ (.tup (cutD l lo hi))) : slG (.tup l) lo hi Φ := h
theorem slG_c {l : List Int} {lo hi : Option Int} (h : Φ (.lst ((cutD l lo hi).map D.int))) : slG (.scr l) lo hi Φ := h
theorem eqG_of {d e : D} (h1 : Shp 64 d) (h2 : Shp 64 e) (h : Φ (.bl (D.eqv d e))) : eqG d e Φ := .inr ⟨h1, h2, h⟩
theorem neG_of {d e : D} (h1 : Shp 64 d) (h2 : Shp 64 e) (h : Φ (.bl (!D.eqv d e))) : neG d e Φ := .inr ⟨h1, h2, h⟩
theorem eqv_i : D.eqv (.int a) (.int c) = decide (a = c) := by simp only [D.eqv, D.py, PyData.eqv]; rw [Bool.eq_iff_iff]; simp
theorem eqG_i (h : Φ (.bl (decide (a = c)))) : eqG (.int a) (.int c) Φ := .inr ⟨.int, .int, by rw [eqv_i]; exact h⟩
theorem neG_i (h : Φ (.bl (!decide (a = c)))) : neG (.int a) (.int c) Φ := .inr ⟨.int, .int, by rw [eqv_i]; exact h⟩
theorem eqG_ss (h : Φ (.bl (decide (x = y)))) : eqG (.str x) (.str y) Φ := .inl ⟨x, y, rfl, rfl, h⟩
theorem neG_ss (h : Φ (.bl (!decide (x = y)))) : neG (.str x) (.str y) Φ := .inl ⟨x, y, rfl, rfl, h⟩
theorem eqG_bb {p q : Bool} (h : Φ (.bl (p == q))) : eqG (.bl p) (.bl q) Φ := .inr ⟨.bl, .bl, h⟩
theorem neG_bb {p q : Bool} (h : Φ (.bl (!(p == q)))) : neG (.bl p) (.bl q) Φ := .inr ⟨.bl, .bl, h⟩
end
end DL
namespace DL
open PySem PySem.Spec L2
open PyProof.Rows hiding St
/-! ### comprehensions over typed lists -/
section
variable {α β : Type} {w : Wx} {ρ : Env'} {Φ : D → Env' → Prop} {wi : TI} {g : TG} {tt : TT} {te : TE} {vs : List Nat}
theorem get_map {f : α → D} {xs : List α} {i : Nat} {d : D} (h : (xs.map f)[i]? = some d) : ∃ x, xs[i]? = some x ∧ d = f x := by
  rw [List.getElem?_map] at h
  cases e : xs[i]? with
  | none => rw [e] at h; cases h
  | some x => rw [e] at h; cases h; exact ⟨x, rfl, rfl⟩
theorem mem_get {xs : List α} {i : Nat} {x : α} (h : xs[i]? = some x) : x ∈ xs := List.mem_of_getElem? h
theorem take_next {xs : List α} {i : Nat} {x : α} (h : xs[i]? = some x) : xs.take (i + 1) = xs.take i ++ [x] := by
  obtain ⟨hl, rfl⟩ := List.getElem?_eq_some_iff.mp h
  exact List.take_succ_eq_append_getElem hl
/-- [e for x in xs if t] -/
theorem wE_lcF (hon : Only g vs) (f k : α → D) (p : α → Bool) (h : wI w wi ρ fun ds ρ1 => ∃ xs : List α, ds = xs.map f ∧ xs.length ≤ 1000000 ∧
    (∀ x ∈ xs, wG w.quiet g (f x) (wipeE (hide ρ1) vs) fun ρ2 => wT w.quiet tt ρ2 fun b ρ3 => b = p x ∧ (b = true → wE w.quiet te ρ3 fun y _ => y = k x)) ∧ Φ (.lst ((xs.filter p).map k)) ρ1) : wE w (tLc wi g tt te vs) ρ Φ := by
  refine wE_lc hon fun c H0 H σ R a x q => h c H0 H σ R a x fun J ds ρ' H0' H' ⟨xs, e, hz, step, fin⟩ => q J ds ρ' H0' H' ⟨by rw [e, List.length_map]; exact hz, fun i acc => acc = ((xs.take i).filter p).map k, rfl, fun i d acc hd hacc => ?_, fun acc _ hacc => ?_⟩
  · subst e
    obtain ⟨x, hx, rfl⟩ := get_map hd
    refine fun c H0 H σ v Q a l r k' => step x (mem_get hx) c H0 H σ v Q a l r fun ρ2 H01 H1 σ1 z => k' ρ2 H01 H1 σ1 fun c H0 H σ Q a l k'' => z c H0 H σ Q a l fun b ρ3 H02 H2 ⟨e1, z2⟩ => k'' b ρ3 H02 H2 ?_
    have en := take_next hx
    cases b with
    | true =>
      refine ifT (wE_mono (z2 rfl) fun y _ ey => ?_)
      show acc ++ [y] = _
      rw [hacc, ey, en, List.filter_append, List.map_append]
      simp [← e1]
    | false =>
      refine ifF ?_
      show acc = _
      rw [hacc, en, List.filter_append, List.map_append]
      simp [← e1]
  · subst e
    rw [hacc, List.length_map, List.take_length]
    exact fin
/-- [e for x in xs] -/
theorem wE_lcM (hon : Only g vs) (f k : α → D) (h : wI w wi ρ fun ds ρ1 => ∃ xs : List α, ds = xs.map f ∧ xs.length ≤ 1000000 ∧
    (∀ x ∈ xs, wG w.quiet g (f x) (wipeE (hide ρ1) vs) fun ρ2 => wE w.quiet te ρ2 fun y _ => y = k x) ∧ Φ (.lst (xs.map k)) ρ1) : wE w (tLc wi g tYes te vs) ρ Φ := by
  refine wE_lcF hon f k (fun _ => true) fun c H0 H σ R a x q => h c H0 H σ R a x fun J ds ρ' H0' H' ⟨xs, e, hz, step, fin⟩ => q J ds ρ' H0' H' ⟨xs, e, hz, fun x hx => ?_, ?_⟩
  · exact fun c H0 H σ v Q a l r k' => step x hx c H0 H σ v Q a l r fun ρ2 H01 H1 σ1 z => k' ρ2 H01 H1 σ1 (wT_yes ⟨rfl, fun _ => z⟩)
  · have : xs.filter (fun _ => true) = xs := by simp
    rw [this]; exact fin
/-- the two lists are as long, and P of each two -/
def Rel (P : α → β → Prop) (xs : List α) (bs : List β) : Prop := bs.length = xs.length ∧ ∀ (i : Nat) x b, xs[i]? = some x → bs[i]? = some b → P x b
theorem Rel.all {P : α → β → Prop} {xs : List α} {bs : List β} (r : Rel P xs bs) {b : β} (h : b ∈ bs) : ∃ x ∈ xs, P x b := by
  obtain ⟨i, hi⟩ := List.getElem?_of_mem h
  have : i < xs.length := by rw [← r.1]; exact (List.getElem?_eq_some_iff.mp hi).1
  exact ⟨xs[i], List.getElem_mem this, r.2 i _ _ (List.getElem?_eq_getElem this) hi⟩
/-- [e for x in xs], what e comes to being drawn -/
theorem wE_lcR (hon : Only g vs) (f : α → D) (k : β → D) (P : α → β → Prop) (h : wI w wi ρ fun ds ρ1 => ∃ xs : List α, ds = xs.map f ∧ xs.length ≤ 1000000 ∧
    (∀ x ∈ xs, wG w.quiet g (f x) (wipeE (hide ρ1) vs) fun ρ2 => wE w.quiet te ρ2 fun y _ => ∃ b, y = k b ∧ P x b) ∧ ∀ bs : List β, Rel P xs bs → Φ (.lst (bs.map k)) ρ1) : wE w (tLc wi g tYes te vs) ρ Φ := by
  refine wE_lc hon fun c H0 H σ R a x q => h c H0 H σ R a x fun J ds ρ' H0' H' ⟨xs, e, hz, step, fin⟩ => q J ds ρ' H0' H' ⟨by rw [e, List.length_map]; exact hz, fun i acc => ∃ bs : List β, acc = bs.map k ∧ Rel P (xs.take i) bs, ⟨[], rfl, rfl, fun i x b h => by simp at h⟩, fun i d acc hd ⟨bs, hacc, hr⟩ => ?_, fun acc _ ⟨bs, hacc, hr⟩ => ?_⟩
  · subst e
    obtain ⟨x, hx, rfl⟩ := get_map hd
    refine fun c H0 H σ v Q a l r k' => step x (mem_get hx) c H0 H σ v Q a l r fun ρ2 H01 H1 σ1 z => k' ρ2 H01 H1 σ1 (wT_yes (by
      refine ifT (wE_mono z fun y _ ⟨b, ey, hp⟩ => ?_)
      refine ⟨bs ++ [b], by rw [hacc, ey, List.map_append]; rfl, ?_⟩
      have en := take_next hx
      rw [en]
      refine ⟨by rw [List.length_append, List.length_append, hr.1]; rfl, fun j x' b' h1 h2 => ?_⟩
      have hl := hr.1
      by_cases hj : j < (xs.take i).length
      · rw [List.getElem?_append_left hj] at h1
        rw [List.getElem?_append_left (by omega)] at h2
        exact hr.2 j x' b' h1 h2
      · rw [List.getElem?_append_right (by omega)] at h1
        rw [List.getElem?_append_right (by omega)] at h2
        have e0 : j - (xs.take i).length = 0 := by
          have z : j - (xs.take i).length < 1 := (List.getElem?_eq_some_iff.mp h1).1
          omega
        rw [e0] at h1
        rw [hl, e0] at h2
        simp at h1 h2
        subst h1 h2
        exact hp))
  · subst e
    rw [hacc]
    rw [List.length_map, List.take_length] at hr
    exact fin bs hr
end
/-! ### in, of texts -/
section
variable {K : PySem.W.Frag}
theorem flat_strs : ∀ zs : List Str, (zs.map V.str).all flatV = true
  | [] => rfl
  | z :: zs => by rw [List.map_cons, List.all_cons, flat_strs zs]; rfl
theorem inV_strs (z : Str) : ∀ (zs : List Str), inV (.str z) (zs.map V.str) = decide (z ∈ zs)
  | [] => rfl
  | y :: zs => by
    have ih := inV_strs z zs
    unfold inV at ih ⊢
    rw [List.map_cons, List.any_cons, ih]
    show (y == z || decide (z ∈ zs)) = decide (z ∈ y :: zs)
    rw [Bool.eq_iff_iff]
    simp only [Bool.or_eq_true, beq_iff_eq, decide_eq_true_eq, List.mem_cons]
    exact or_congr_left eq_comm
def inSG (neg : Bool) (x y : D) (Φ : D → Prop) : Prop := ∃ (z : Str) (zs : List Str), x = .str z ∧ (y = .tup (zs.map D.str) ∨ y = .lst (zs.map D.str)) ∧ Φ (.bl (if neg = true then !decide (z ∈ zs) else decide (z ∈ zs)))
theorem opd_inS {neg : Bool} : OpD K (rIn K neg) (inSG neg) := fun H0 H x y dx dy Φ Q e rx ry ⟨z, zs, hx, hy, g⟩ k => by
  subst hx
  cases rx
  rcases hy with hy | hy
  · subst hy
    cases ry with
    | tup hp hr =>
      rw [hr.ofStrs] at hp
      refine ⟨_, _, rfl, .inr (sqT_ex e hp), rfl, flat_strs zs, ?_⟩
      rw [inV_strs]
      exact fin0 e g (.bl _) k
  · subst hy
    cases ry with
    | lst hp hr =>
      rw [hr.ofStrs] at hp
      refine ⟨_, _, rfl, .inl (.inl (.inl (e _ _ hp))), rfl, flat_strs zs, ?_⟩
      rw [inV_strs]
      exact fin0 e g (.bl _) k
def rSign : R2 := fun x y H Q => ∃ (c : Nat) (z : Str), x = .str ⟨#[c]⟩ ∧ y = .str z ∧ Q (.bl (decide (c ∈ z.cps.toList))) H
def signG (x y : D) (Φ : D → Prop) : Prop := ∃ c z, x = .str ⟨#[c]⟩ ∧ y = .str z ∧ Φ (.bl (decide (c ∈ z.cps.toList)))
theorem opd_sign : OpD K rSign signG := fun H0 H x y dx dy Φ Q e rx ry ⟨c, z, hx, hy, g⟩ k => by
  subst hx hy
  cases rx; cases ry
  exact ⟨c, z, rfl, rfl, fin0 e g (.bl _) k⟩
theorem opr_sign {X : Cx} : OpR X (compareOp .In) rSign := op_in_sign
end
/-! ### walks over typed lists -/
theorem zipD_map {α β : Type} (f : α → D) (g : β → D) : ∀ (xs : List α) (ys : List β), zipD (xs.map f) (ys.map g) = (xs.zip ys).map fun p => .tup [f p.1, g p.2]
  | [], _ => by simp [zipD]
  | _ :: _, [] => by simp [zipD]
  | x :: xs, y :: ys => by
    have := zipD_map f g xs ys
    unfold zipD at this ⊢
    simp only [List.map_cons, List.zipWith_cons_cons, List.zip_cons_cons, this]
theorem enumD_get {α : Type} {f : α → D} {xs : List α} {i : Nat} {d : D} (h : (enumD (xs.map f))[i]? = some d) : ∃ x, xs[i]? = some x ∧ d = .tup [.int (i : Int), f x] := by
  unfold enumD at h
  rw [List.getElem?_zipWith] at h
  by_cases hi : i < xs.length
  · rw [List.getElem?_range (by rw [List.length_map]; exact hi), List.getElem?_map, List.getElem?_eq_getElem hi] at h
    cases h
    exact ⟨_, List.getElem?_eq_getElem hi, rfl⟩
  · rw [List.getElem?_eq_none (l := xs.map f) (by rw [List.length_map]; omega)] at h
    cases h2 : (List.range (xs.map f).length)[i]? <;> rw [h2] at h <;> cases h
theorem enumD_len {l : List D} : (enumD l).length = l.length := by unfold enumD; rw [List.length_zipWith, List.length_range]; omega
theorem cut_from1 {α : Type} (xs : List α) : cutD xs (some 1) none = xs.drop 1 := by
  unfold cutD
  have e1 : HT.sIx xs.length 0 (some (1 : Int)) = min 1 xs.length := HT.sIx_nat _ _ 1
  rw [e1, HT.sIx_none]
  have : xs.length - min 1 xs.length = (xs.drop (min 1 xs.length)).length := by rw [List.length_drop]
  rw [this, List.take_length]
  cases xs with
  | nil => rfl
  | cons a l => simp
theorem cut_to {α : Type} (xs : List α) (k : Nat) : cutD xs none (some (k : Int)) = xs.take k := by
  unfold cutD
  rw [HT.sIx_none, HT.sIx_nat, List.drop_zero, Nat.sub_zero]
  rcases Nat.le_total k xs.length with h | h
  · rw [Nat.min_eq_left h]
  · rw [Nat.min_eq_right h, List.take_of_length_le (Nat.le_refl _), List.take_of_length_le h]
theorem atI_nat' {α : Type} {xs : List α} {j : Nat} {v : α} (h : xs[j]? = some v) : L2.atI xs (j : Int) = some v := L2.atI_nat h
end DL
namespace DL
open PySem PySem.Spec L2
open PyProof.Rows hiding St
/-! ### the rules with the written part named -/
section
variable {X : Cx} (K : PySem.W.Frag)
theorem k_add (h : X.K = K := by rfl) : OpR X (binaryOp .Add) (rAdd K) := h ▸ opr_add
theorem k_eq {k : Nat} (r : RoomG k X.A) (h : X.K = K := by rfl) : OpR X (compareOp .Eq) (rEqA K) := h ▸ OpR.or op_eq (op_eqD (hu64 r))
theorem k_ne {k : Nat} (r : RoomG k X.A) (h : X.K = K := by rfl) : OpR X (compareOp .NotEq) (rNeA K) := h ▸ OpR.or op_ne (op_neD (hu64 r))
theorem k_in (h : X.K = K := by rfl) : OpR X (compareOp .In) (rIn K false) := h ▸ op_in_seq
theorem k_notIn (h : X.K = K := by rfl) : OpR X (compareOp .NotIn) (rIn K true) := h ▸ op_notIn_seq
theorem k_ix (h : X.K = K := by rfl) : IxR X (rIx K) := h ▸ ix_seq
theorem k_sl (h : X.K = K := by rfl) : SlR X (rSl K) := h ▸ slr_sl
theorem k_len (h : X.K = K := by rfl) : CallR X (.builtin "len") (rLen K) := h ▸ callr_len
theorem k_isi (h : X.K = K := by rfl) : CallR X (.builtin "isinstance") (rIsi K) := h ▸ call_isi
theorem k_all (hc : X.calm = true) (h : X.K = K := by rfl) : CallR X (.builtin "all") (rAll K) := h ▸ cr_all hc
theorem k_sum (hc : X.calm = true) (h : X.K = K := by rfl) : CallR X (.builtin "sum") (rSum K) := h ▸ cr_sum hc
theorem k_list (h : X.K = K := by rfl) : CallR X (.type "list") (rListOf K) := h ▸ call_list_of
theorem k_tup (h : X.K = K := by rfl) : CallR X (.type "tuple") (rTupOf K) := h ▸ call_tuple_of
theorem k_repr {k : Nat} (r : RoomG k X.A) (h : X.K = K := by rfl) : CallR X (.builtin "repr") (rRepr K) := h ▸ call_reprD r.g (hu65 r)
theorem k_strO {C : Addr} {j k : Nat} {S : DSp} (c : StrB X.prog X.w K X.mg X.base C k S) (room : RoomG j X.A) (hj : k + 2 ≤ j) (h : X.K = K := by rfl) : CallR X (.type "str") (rStrO K C S) := by
  subst h; exact callr_strO c room hj
section
variable {o e : Expr} {es : List Expr} {kws : List Keyword} {to te ta : TE} {t tk : TA} {name : Str} {apos cpos pos p tpos px py sp : Pos} {T id : String} {r : V → List V → Hp → VK → Prop} {tg : Expr}
theorem k_bm0 (pa : PlainAttrs T) (slot : Slot T name id) (hty : typeOf (.builtin id) = pure (.type "method_descriptor")) (hm : MtR X id r) (ho : PE X o to)
    (hbase : attributeBase o name X.env (eval o X.env) = eval o X.env := by rfl) (hline : (apos.endLine == cpos.line) = true := by rfl) (h : X.K = K := by rfl) : PE X (.Call (.Attribute o name apos) [] [] cpos) (tBM0 K T r to) := h ▸ pe_bm0 pa slot hty hm ho hbase hline
theorem k_bm (pa : PlainAttrs T) (slot : Slot T name id) (hty : typeOf (.builtin id) = pure (.type "method_descriptor")) (hm : MtR X id r) (ho : PE X o to) (ha : PA X (e :: es) t)
    (hbase : attributeBase o name X.env (eval o X.env) = eval o X.env := by rfl)
    (hfew : ((backTo cpos (starEach (e :: es) X.env)).all (fun x => !x.1) && (backToKw cpos (keywordEach [] X.env)).all (fun x => x.1.isSome)
      && decide ((e :: es).length + ([] : List Keyword).length + (if ([] : List Keyword).isEmpty then 0 else 1) < 30)) = true := by rfl)
    (hline : (apos.endLine == cpos.line) = true := by rfl) (hs : starEach (e :: es) X.env = (false, eval e X.env) :: starEach es X.env := by rfl) (hplain : (backTo cpos (starEach es X.env)).any (·.1) = false := by rfl) (h : X.K = K := by rfl) :
    PE X (.Call (.Attribute o name apos) (e :: es) [] cpos) (tBM K T r to t) := h ▸ pe_bm pa slot hty hm ho ha hbase hfew hline hs hplain
theorem k_pg {k : Nat} {gs : TGs} {n : Nat} (hc : X.calm = true) (hg : PGs X es gs) (hn : (assignEach es X.env).length = n := by rfl) (hst : (assignEach es X.env).findIdx? (·.1) = none := by rfl) (h : X.K = K := by rfl) : PG X (.Tuple es k pos) (gTup K n gs) := h ▸ pg_tup hc hg hn hst
theorem k_any (he : PE X e te) (h : X.K = K := by rfl) : PI X tg e (iAny K te) := h ▸ pi_any he
theorem k_enum {elts : List Expr} {kk : Nat} (hg : Gl X "enumerate") (hm : X.mg "enumerate" = none) (ha : PA X [e] t) (hs : starEach [e] X.env = [(false, eval e X.env)] := by rfl) (h : X.K = K := by rfl) : PI X (.Tuple elts kk tpos) (.Call (.Name "enumerate" p) [e] [] pos) (iEnumT K t) := h ▸ pi_enumT hg hm ha hs
theorem k_zip {e2 : Expr} {elts : List Expr} {kk : Nat} (hg : Gl X "zip") (hm : X.mg "zip" = none) (ha : PA X [e, e2] t) (hs : starEach [e, e2] X.env = (false, eval e X.env) :: starEach [e2] X.env := by rfl) (hpl : (backTo pos (starEach [e2] X.env)).any (·.1) = false := by rfl) (h : X.K = K := by rfl) :
    PI X (.Tuple elts kk tpos) (.Call (.Name "zip" p) [e, e2] [] pos) (RZ.iZipA K t) := h ▸ RZ.pi_zipA hg hm ha hs hpl
theorem k_fld {f : Str} (he : PE X e te) (hb : attributeBase e f X.env (eval e X.env) = eval e X.env := by rfl) (h : X.K = K := by rfl) : PE X (.Attribute e f pos) (tFld K te f) := h ▸ pe_fld he hb
theorem k_sfld {f : Str} {value : Expr} {pos' : Pos} {tv : TE} (ha : PE X o ta) (hv : PE X value tv) (hs : swapsWith value (some (.Attribute o f pos')) pos.line X.env = pure false := by rfl) (h : X.K = K := by rfl) : PS X (.Assign [.Attribute o f pos'] value pos) (sFld K ta tv f) := h ▸ ps_fld ha hv hs
theorem k_star {x y : Str} {i j kk : Nat} (hc : X.calm = true) (hN : X.N.Nodup) (hi : X.N[i]? = some x) (hj : X.N[j]? = some y) (hx : Loc X.env.scope x) (hy : Loc X.env.scope y)
    (hf : X.fn x = true ∨ X.env.scope.names.lookup x = some .local := by first | exact .inl rfl | exact .inr rfl) (hf2 : X.fn y = true ∨ X.env.scope.names.lookup y = some .local := by first | exact .inl rfl | exact .inr rfl) (h : X.K = K := by rfl) :
    PG X (.Tuple [.Name x px, .Starred (.Name y py) sp] kk pos) (gStar K i j) := h ▸ pg_star hc hN hi hj hx hy hf hf2
variable {j k n : Nat} {C : Addr} {ks : List Str} {ix : List Nat} {dd : List D} {S : DSp} {I : ISp} {E : XK} {x m : Str} {pl : Sem Bool}
theorem k_cd (c : CallD X.prog X.w K X.mg X.base x k S) (room : RoomG j X.A) (hj : k ≤ j) (hx : Passes (CXD X.prog X.w) X E) (ha : PA X (e :: es) t) (hg : Gl X x := by rfl) (hdb : (x == ("__debug__" : Str)) = false := by decide)
    (he : starEach (e :: es) X.env = (false, eval e X.env) :: starEach es X.env := by rfl) (hpl : (backTo pos (starEach es X.env)).any (·.1) = false := by rfl) (h : X.K = K := by rfl) : PE X (.Call (.Name x p) (e :: es) [] pos) (tCall (lift K S) [] E t) := by
  subst h; exact pe_cd c room hj hx ha hg hdb he hpl
theorem k_mk (c : MakeB X.prog X.w K X.mg X.base C k I n ks ix dd) (room : RoomG j X.A) (hj : k + 1 ≤ j) (hx : Passes (CXD X.prog X.w) X E) (hm : X.mg x = some (.ref C)) (ha : PA X es t) (hkw : PK X kws tk) (hg : Gl X x := by rfl)
    (hn : (backTo pos (starEach es X.env)).any (·.1) = false := by rfl) (hall : (backToKw pos (keywordEach kws X.env)).all (·.1.isSome) = true := by rfl) (hks : (backToKw pos (keywordEach kws X.env)).filterMap (·.1) = ks := by rfl) (hdb : (x == ("__debug__" : Str)) = false := by decide) (h : X.K = K := by rfl) :
    PE X (.Call (.Name x p) es kws pos) (tMakeD K C I n ks.length ix dd E t tk) := by
  subst h; exact pe_mk c room hj hx hm ha hkw hg hn hall hks hdb
theorem k_mkL (i : Nat) (c : MakeB X.prog X.w K X.mg X.base C k I n ks ix dd) (room : RoomG j X.A) (hj : k + 1 ≤ j) (hx : Passes (CXD X.prog X.w) X E) (ha : PA X es t) (hkw : PK X kws tk) (hN : X.N[i]? = some x := by rfl) (hv : Vis X.env.scope x := by first | exact Or.inl rfl | exact Or.inr (Or.inl rfl) | exact Or.inr (Or.inr rfl))
    (hn : (backTo pos (starEach es X.env)).any (·.1) = false := by rfl) (hall : (backToKw pos (keywordEach kws X.env)).all (·.1.isSome) = true := by rfl) (hks : (backToKw pos (keywordEach kws X.env)).filterMap (·.1) = ks := by rfl) (hdb : (x == ("__debug__" : Str)) = false := by decide) (hcd : (x == ("__classdict__" : Str)) = false := by decide) (h : X.K = K := by rfl) :
    PE X (.Call (.Name x p) es kws pos) (tMakeL K i C I n ks.length ix dd E t tk) := by
  subst h; exact pe_mkL i c room hj hx ha hkw hN hv hn hall hks hdb hcd
theorem k_mm (c : MethB X.prog X.w K X.mg X.base C m k S n ks ix dd) (room : RoomG j X.A) (hj : k ≤ j) (hx : Passes (CXD X.prog X.w) X E) (he : PE X o ta) (ha : PA X es t) (hkw : PK X kws tk)
    (hn : (backTo pos (starEach es X.env)).any (·.1) = false := by rfl) (hall : (backToKw pos (keywordEach kws X.env)).all (·.1.isSome) = true := by rfl) (hks : (backToKw pos (keywordEach kws X.env)).filterMap (·.1) = ks := by rfl)
    (ht : eval (.Call (.Attribute o m apos) es kws pos) X.env = (do
      let u ← eval o X.env
      standAt apos.atName
      let (g, first) ← holding [u] (getMethod u m pl)
      callWith pos g first (backTo pos (starEach es X.env)) (backToKw pos (keywordEach kws X.env))) := by rfl) (h : X.K = K := by rfl) :
    PE X (.Call (.Attribute o m apos) es kws pos) (tMethD K C m S n ks.length ix dd E ta t tk) := by
  subst h; exact pe_mm (pl := pl) c room hj hx he ha hkw hn hall hks ht
theorem k_cm (c : CMethB X.prog X.w K X.mg X.base C m k S n ks ix dd) (room : RoomG j X.A) (hj : k ≤ j) (hx : Passes (CXD X.prog X.w) X E) (he : PE X o ta) (ha : PA X es t) (hkw : PK X kws tk)
    (hn : (backTo pos (starEach es X.env)).any (·.1) = false := by rfl) (hall : (backToKw pos (keywordEach kws X.env)).all (·.1.isSome) = true := by rfl) (hks : (backToKw pos (keywordEach kws X.env)).filterMap (·.1) = ks := by rfl)
    (ht : eval (.Call (.Attribute o m apos) es kws pos) X.env = (do
      let u ← eval o X.env
      standAt apos.atName
      let (g, first) ← holding [u] (getMethod u m pl)
      callWith pos g first (backTo pos (starEach es X.env)) (backToKw pos (keywordEach kws X.env))) := by rfl) (h : X.K = K := by rfl) :
    PE X (.Call (.Attribute o m apos) es kws pos) (tCMethD K C S n ks.length ix dd E ta t tk) := by
  subst h; exact pe_cm (pl := pl) c room hj hx he ha hkw hn hall hks ht
theorem k_pr (c : PropB X.prog X.w K X.mg X.base C m k S) (room : RoomG j X.A) (hj : k + 1 ≤ j) (he : PE X e ta) (hab : attributeBase e m X.env (eval e X.env) = eval e X.env := by rfl) (h : X.K = K := by rfl) : PE X (.Attribute e m pos) (tProp C (lift K S) [] EN ta) := by
  subst h; exact pe_pr c room hj he hab
end
end
end DL
namespace DL
open PySem PySem.Spec L2
open PyProof.Rows hiding St
def rJoin (K : PySem.W.Frag) : V → List V → Hp → VK → Prop := fun x xs H Q => ∃ a p, ∃ ys : List Str, x = .str a ∧ xs = [.ref p] ∧ (SqL K H p (ys.map V.str) ∨ SqT K H p (ys.map V.str)) ∧ (ys.map (·.length)).sum + ys.length * a.length ≤ 16777216 ∧ Q (.str (Txt.join a ys)) H
def rSplit : V → List V → Hp → VK → Prop := fun x xs H Q => ∃ a b, x = .str a ∧ xs = [.str b] ∧ (b.length == 0) = false ∧ a.length + 2 ≤ sizeLine ∧ rNewStrs (Txt.split a b) H Q
def rStrB (f : Str → Bool) : V → List V → Hp → VK → Prop := fun x xs H Q => ∃ a, x = .str a ∧ xs = [] ∧ True ∧ Q (.bl (f a)) H
section
variable {X : Cx} (K : PySem.W.Frag)
theorem k_join (h : X.K = K := by rfl) : MtR X "str.join" (rJoin K) := h ▸ mt_join
theorem k_split : MtR X "str.split" rSplit := mt_split
theorem k_isdigit : MtR X "str.isdigit" (rStrB Txt.isdigit) := mt_isdigit
theorem k_isascii : MtR X "str.isascii" (rStrB Txt.isascii) := mt_isascii
end
section
variable {K : PySem.W.Frag}
theorem mtd_joinK : MtD K (rJoin K) joinG := mtd_join
theorem mtd_splitK : MtD K rSplit splitG := mtd_split
theorem mtd_strB {f : Str → Bool} : MtD K (rStrB f) (str0G fun a => .bl (f a)) := mtd_str0
end
theorem isTy_s {x : Str} : isTy "str" (.str x) = true := by show ("str" == "str") = true; decide
theorem str0G_s {f : Str → D} {x : Str} {Φ : D → Prop} (h : Φ (f x)) : str0G f (.str x) [] Φ := h
theorem cbd_lenO {K : PySem.W.Frag} : CbD K (rLen K) fun as Ψ => ∃ es, as = [.lst es] ∧ es.length ≤ 1000000 ∧ Ψ (.int es.length) := fun H0 H xs ds Φ Q e r ⟨es, h, _, q⟩ k => by
  subst h
  exact cbd_len H0 H xs _ Φ Q e r q k
theorem isG_t {l : List D} {Φ : D → Prop} (h : Φ (.bl false)) : isG (.tup l) .non Φ := ⟨false, rfl, rfl, h⟩
theorem isG_n {Φ : D → Prop} (h : Φ (.bl true)) : isG .non .non Φ := ⟨true, rfl, rfl, h⟩
theorem isG_s {z : Str} {Φ : D → Prop} (h : Φ (.bl false)) : isG (.str z) .non Φ := ⟨false, rfl, rfl, h⟩
theorem joinG_l {a : Str} {ys : List Str} {Φ : D → Prop} (hz : (ys.map (·.length)).sum + ys.length * a.length ≤ 1000000) (h : Φ (.str (Txt.join a ys))) : joinG (.str a) [.lst (ys.map D.str)] Φ := ⟨a, ys, rfl, .inl rfl, hz, h⟩
theorem joinG_t {a : Str} {ys : List Str} {Φ : D → Prop} (hz : (ys.map (·.length)).sum + ys.length * a.length ≤ 1000000) (h : Φ (.str (Txt.join a ys))) : joinG (.str a) [.tup (ys.map D.str)] Φ := ⟨a, ys, rfl, .inr rfl, hz, h⟩
theorem splitG_s {a b : Str} {Φ : D → Prop} (hb : (b.length == 0) = false) (hz : a.length ≤ 1000000) (h : Φ (.lst ((Txt.split a b).map D.str))) : splitG (.str a) [.str b] Φ := ⟨a, b, rfl, rfl, hb, hz, h⟩
/-- for over a typed list -/
theorem wS_forT {α : Type} (f : α → D) (I : Nat → Env' → Prop) {w : Wx} {ρ : Env'} {E : DE} {wi : TI} {g : TG} {ts : TS} (h : wI w wi ρ fun ds ρ1 => ∃ xs : List α, ds = xs.map f ∧ I 0 ρ1 ∧
    (∀ i x ρ', xs[i]? = some x → I i ρ' → wG w g (f x) ρ' fun ρ2 => wS w ts { nx := I (i + 1), ct := I (i + 1), bk := E.nx, rt := E.rt, ro := E.ro } ρ2) ∧ (∀ ρ', I xs.length ρ' → E.nx ρ')) : wS w (tFor wi g ts) E ρ :=
  wS_for fun c H0 H σ R a x q => h c H0 H σ R a x fun J ds ρ' H0' H' ⟨xs, e, i0, step, fin⟩ => q J ds ρ' H0' H' ⟨I, i0, fun i d ρ2 hd hI => by
    subst e
    obtain ⟨y, hy, rfl⟩ := get_map hd
    exact step i y ρ2 hy hI, fun ρ2 hI => fin ρ2 (by rw [e, List.length_map] at hI; exact hI)⟩
theorem inSG_t {z : Str} {zs : List Str} {Φ : D → Prop} (h : Φ (.bl (decide (z ∈ zs)))) : inSG false (.str z) (.tup (zs.map D.str)) Φ := ⟨z, zs, rfl, .inl rfl, h⟩
theorem inSG_l {z : Str} {zs : List Str} {Φ : D → Prop} (h : Φ (.bl (decide (z ∈ zs)))) : inSG false (.str z) (.lst (zs.map D.str)) Φ := ⟨z, zs, rfl, .inr rfl, h⟩
theorem nodup_inj {α : Type} : ∀ {l : List α}, l.Nodup → ∀ {i j : Nat} {x : α}, l[i]? = some x → l[j]? = some x → i = j
  | [], _, i, j, x, h, _ => by simp at h
  | a :: l, nd, i, j, x, h1, h2 => by
    have nd' := List.nodup_cons.mp nd
    cases i with
    | zero =>
      cases j with
      | zero => rfl
      | succ j => simp at h1 h2; subst h1; exact absurd (List.mem_of_getElem? h2) nd'.1
    | succ i =>
      cases j with
      | zero => simp at h1 h2; subst h2; exact absurd (List.mem_of_getElem? h1) nd'.1
      | succ j => simp at h1 h2; rw [nodup_inj nd'.2 h1 h2]
theorem cut_from {α : Type} (xs : List α) (k : Nat) : cutD xs (some (k : Int)) none = xs.drop k := by
  unfold cutD
  rw [HT.sIx_nat, HT.sIx_none]
  have : xs.length - min k xs.length = (xs.drop (min k xs.length)).length := by rw [List.length_drop]
  rw [this, List.take_length]
  rcases Nat.le_total k xs.length with h | h
  · rw [Nat.min_eq_left h]
  · rw [Nat.min_eq_right h, List.drop_of_length_le (Nat.le_refl _), List.drop_of_length_le h]
theorem ixG_l0 {l : List D} {d : D} {Φ : D → Prop} (hi : l[0]? = some d) (h : Φ d) : ixG (.lst l) (.int 0) Φ := ⟨d, L2.atI_nat (j := 0) hi, h⟩
theorem ixG_l1 {l : List D} {d : D} {Φ : D → Prop} (hi : l[1]? = some d) (h : Φ d) : ixG (.lst l) (.int 1) Φ := ⟨d, L2.atI_nat (j := 1) hi, h⟩
theorem ixG_l2 {l : List D} {d : D} {Φ : D → Prop} (hi : l[2]? = some d) (h : Φ d) : ixG (.lst l) (.int 2) Φ := ⟨d, L2.atI_nat (j := 2) hi, h⟩
theorem ixG_l3 {l : List D} {d : D} {Φ : D → Prop} (hi : l[3]? = some d) (h : Φ d) : ixG (.lst l) (.int 3) Φ := ⟨d, L2.atI_nat (j := 3) hi, h⟩
theorem ixG_t0 {l : List D} {d : D} {Φ : D → Prop} (hi : l[0]? = some d) (h : Φ d) : ixG (.tup l) (.int 0) Φ := ⟨d, L2.atI_nat (j := 0) hi, h⟩
theorem ixG_t1 {l : List D} {d : D} {Φ : D → Prop} (hi : l[1]? = some d) (h : Φ d) : ixG (.tup l) (.int 1) Φ := ⟨d, L2.atI_nat (j := 1) hi, h⟩
theorem ixG_t2 {l : List D} {d : D} {Φ : D → Prop} (hi : l[2]? = some d) (h : Φ d) : ixG (.tup l) (.int 2) Φ := ⟨d, L2.atI_nat (j := 2) hi, h⟩
theorem ixG_t3 {l : List D} {d : D} {Φ : D → Prop} (hi : l[3]? = some d) (h : Φ d) : ixG (.tup l) (.int 3) Φ := ⟨d, L2.atI_nat (j := 3) hi, h⟩
/-- where nothing is raised, nothing need be said of what is raised -/
theorem wE_quiet {w : Wx} {te : TE} {ρ : Env'} {Φ : D → Env' → Prop} (h : wE w.quiet te ρ Φ) : wE w te ρ Φ := fun c H0 H σ Q a x k => h c H0 H σ Q a (quiet_link x.t) k
end DL
namespace DL
open PySem PySem.Spec L2
open PyProof.Rows hiding St
def rDivmod : List V → Hp → VK → Prop := fun xs H Q => ∃ i j, xs = [.int i, .int j] ∧ CDiv i j ∧ ∀ p, H p = none → Q (.ref p) (upd H p (.tup [.int (i / j), .int (i % j)]))
theorem k_divmod {X : Cx} : CallR X (.builtin "divmod") rDivmod := call_divmod
def divmodG (ds : List D) (Φ : D → Prop) : Prop := match ds with
  | [.int i, .int j] => CDiv i j ∧ Φ (.tup [.int (i / j), .int (i % j)])
  | _ => False
theorem cbd_divmod {K : PySem.W.Frag} : CbD K rDivmod divmodG := fun H0 H xs ds Φ Q e rx g k => by
  cases rx with
  | nil => exact g.elim
  | cons r rs =>
    cases rs with
    | nil => cases r <;> exact g.elim
    | cons r' rs =>
      cases rs with
      | cons _ _ => cases r <;> cases r' <;> exact g.elim
      | nil =>
        cases r <;> cases r' <;> first
          | exact g.elim
          | exact ⟨_, _, rfl, g.1, finT e g.2 (.cons (.int _) (.cons (.int _) .nil)) k⟩
theorem divmodG_i {a c : Int} {Φ : D → Prop} (h1 : 0 < c) (h2 : c < 1073741824) (h : Φ (.tup [.int (a / c), .int (a % c)])) : divmodG [.int a, .int c] Φ := ⟨⟨h1, h2⟩, h⟩
/-- so many bits all numbers of a script have at most -/
def Bits : Nat := 1048576
theorem bits_two : Bits + Bits ≤ 134217728 := by decide
/-- two ways to a value, one way on -/
theorem ifE {p : Prop} [Decidable p] {w : Wx} {ta tb : TE} {ρ : Env'} {Φ : D → Env' → Prop} (R : D → Env' → Prop) (k : ∀ d ρ', R d ρ' → Φ d ρ') (h1 : p → wE w ta ρ R) (h2 : ¬ p → wE w tb ρ R) : if decide p = true then wE w ta ρ Φ else wE w tb ρ Φ := by
  by_cases hp : p
  · exact ifP hp (wE_mono (h1 hp) k)
  · exact ifN hp (wE_mono (h2 hp) k)
theorem cut_last {α : Type} {xs : List α} (h : xs ≠ []) : cutD xs (some (-1)) none = xs.drop (xs.length - 1) := by
  unfold cutD
  have hl : 0 < xs.length := List.length_pos_iff.mpr h
  have e : HT.sIx xs.length 0 (some (-1 : Int)) = xs.length - 1 := by
    show (if (-1 : Int) < 0 then ((-1 : Int) + (xs.length : Int)).toNat else min (-1 : Int).toNat xs.length) = xs.length - 1
    rw [if_pos (by decide)]
    omega
  rw [e, HT.sIx_none]
  have : xs.length - (xs.length - 1) = (xs.drop (xs.length - 1)).length := by rw [List.length_drop]
  rw [this, List.take_length]
theorem perm_erase {α : Type} : ∀ {l : List α} {j : Nat} {y : α}, l[j]? = some y → (y :: l.eraseIdx j).Perm l
  | [], j, y, h => by simp at h
  | a :: l, 0, y, h => by simp at h; subst h; exact List.Perm.refl _
  | a :: l, j + 1, y, h => by
    have ih := perm_erase (l := l) (j := j) (y := y) (by simpa using h)
    show (y :: a :: l.eraseIdx j).Perm (a :: l)
    exact (List.Perm.swap a y _).trans (ih.cons a)
theorem neG_nil {zs : List Str} {Φ : D → Prop} (h1 : ∀ z ∈ zs, PyData.strOk z = true) (h : Φ (.bl (!decide (zs = [])))) : neG (.lst (zs.map D.str)) (.lst []) Φ := by
  refine neG_of ((Shp.lst (n := 63) fun d hd => ?_)) ((Shp.lst (n := 63) fun d hd => by cases hd)) ?_
  · obtain ⟨z, hz, rfl⟩ := List.mem_map.mp hd
    exact .str (h1 z hz)
  · cases zs with
    | nil => exact h
    | cons z zs => exact h
end DL
/-! DL18: from the top of a text to the law's line. -/
namespace DL
open PySem PySem.Spec L2
open PyProof.Rows hiding St

/-! ### where the law starts: the heap behind the top, the script aside -/
section
variable {P : Program} {w : World} {K : PySem.W.Frag} {mg mb : Str → Option Value} {z : Shared} {scr : Addr} {H : Hp} {items : Array Value}
structure Begins (z : Shared) (K : PySem.W.Frag) (mg mb : Str → Option Value) : Prop where
  frag : K.In z.heap
  main : z.heap.Ns mainGlobals mg
  blt : z.heap.Ns builtinsNs mb
  boot : ∀ y : Str, y ≠ "__name__" → mb y = bootBuiltins y
  lim : z.heap.NoLimit
  gens : z.gens = #[]
theorem none_of (at_ : z.heap.get? scr = some { cls := .type "list", data := .seq items }) (one : ∀ b, H b ≠ none → b = scr) {b : Addr} {o : Obj} (e : z.heap.get? b = some o) (d : ∀ c, o.data ≠ .seq items c) : H b = none := by
  rcases hb : H b with _ | u
  · rfl
  · exfalso
    obtain rfl := one b (by simp [hb])
    obtain rfl := Option.some.inj (at_.symm.trans e)
    exact d _ rfl
theorem ns_aside (at_ : z.heap.get? scr = some { cls := .type "list", data := .seq items }) (one : ∀ b, H b ≠ none → b = scr) {b : Addr} {m : Str → Option Value} (n : z.heap.Ns b m) : (hidT z.heap H).Ns b m := by
  obtain ⟨o, es, ep, e, d, r⟩ := n
  exact ⟨o, es, ep, hidT_get e (none_of at_ one e fun c q => by rw [d] at q; cases q), d, r⟩
theorem frag_aside (B : Begins z K mg mb) (at_ : z.heap.get? scr = some { cls := .type "list", data := .seq items }) (one : ∀ b, H b ≠ none → b = scr) (out : H scr ≠ none → K.lookup scr = none) : K.In (hidT z.heap H) := fun b o e => by
  refine hidT_get (B.frag b o e) ?_
  rcases hb : H b with _ | u
  · rfl
  · exfalso
    obtain rfl := one b (by simp [hb])
    rw [out (by simp [hb])] at e
    cases e
theorem env0_aside (B : Begins z K mg mb) (at_ : z.heap.get? scr = some { cls := .type "list", data := .seq items }) (one : ∀ b, H b ≠ none → b = scr) (out : H scr ≠ none → K.lookup scr = none) (ok : HOk P w H z.heap) :
    Env0 P w K mg (hidT z.heap H) callerA [] z H := by
  have lim : (hidT z.heap H).NoLimit := let ⟨mc, h1, h2⟩ := B.lim; ⟨mc, ns_aside at_ one h1, h2⟩
  exact ⟨rfl, ⟨frag_aside B at_ one out, ns_aside at_ one B.main, ⟨mb, ns_aside at_ one B.blt, B.boot⟩, lim⟩, fun b o e => of_hidT e, Nat.le_of_eq (hidT_size _ _), trivial, fun b hb => absurd (show b ∈ ([] : List Addr) from hb) (by simp), ok, .of_eq B.gens⟩

/-- the law's call, from the law's promise -/
theorem law_at {k : Nat} {fa : Addr} {fd : FuncData} {x : Str} {S : DSp} {vs : List Value} {ns : List Int} (B : Begins z K mg mb) (at_ : z.heap.get? scr = some { cls := .type "list", data := .seq vs.toArray }) (hi : IntsAre vs ns) (hl : ns.length ≤ 63)
    (room : RoomG k callerA) (F : ∀ base : Heap, K.In base → base.Ns mainGlobals mg → FnG P w K mg base k fa fd [x] (lift K S)) (hbind : ∀ (s : Shared) (u : Value), BindsTo s fd ⟨[u], []⟩ [(x, u)])
    (hS : ∀ Φ Ψ, Φ (.bl true) → S [.scr ns] Φ Ψ) :
    codeAny (model P w) callerA (.call (.ref fa) ⟨[.ref scr], []⟩) (fun r s' => r = .ok (.ret (.bool true)) ∧ OldK z.heap s'.heap ∧ s'.os = z.os ∧ AllBare s'.gens) z := by
  have vals := vals_ints hi
  have size : ns.length ≤ sizeLine := Nat.le_trans hl (by decide)
  -- at a heap of which the script alone may be tracked
  have go : ∀ H : Hp, L2.Only H → SqL K H scr (ns.map V.int) → HOk P w H z.heap → (∀ b, H b ≠ none → b = scr) → (H scr ≠ none → K.lookup scr = none) →
      codeAny (model P w) callerA (.call (.ref fa) ⟨[.ref scr], []⟩) (fun r s' => r = .ok (.ret (.bool true)) ∧ OldK z.heap s'.heap ∧ s'.os = z.os ∧ AllBare s'.gens) z := by
    intro H only seq ok one out
    have F1 := F _ (frag_aside B at_ one out) (ns_aside at_ one B.main)
    have low : lift K S [.ref scr] H (fun v _ => v = .bl true) EN :=
      ⟨H, [.scr ns], fun d => d = .bl true, fun _ => False, Ex.refl H, .cons (.scr seq) .nil, hS _ _ rfl, fun v d _ _ e _ r => by subst e; cases r; rfl, fun _ _ _ _ e => e.elim⟩
    refine codeAny_mono (F1.run callerA [] z H ⟨[.ref scr], []⟩ [.ref scr] [.ref scr] _ _ room (env0_aside B at_ one out ok) (hbind z _) (.cons rfl .nil) low) fun r s' q => ?_
    rcases r with e | fl
    · obtain ⟨_, _, _, _, _, _, _, _, _, _, _, _, h⟩ := q
      exact h.elim
    rcases fl with _ | _ | _ | u
    · exact False.elim q
    · exact False.elim q
    · exact False.elim q
    obtain ⟨v, H', os, bare, un, ok', rel, q1⟩ := q
    obtain rfl : v = V.bl true := q1
    obtain rfl : u = Value.bool true := rel
    refine ⟨rfl, .of_keep fun b o e => ?_, os, bare⟩
    rcases hb : H b with _ | t
    · exact un.keep b o e hb (fun h => absurd (show b ∈ ([] : List Addr) from h) (by simp)) (by simp)
    · obtain h | ⟨ob, xs, h⟩ := only b
      · rw [hb] at h; cases h
      · obtain ⟨e1, _⟩ := ok b _ h
        obtain ⟨e2, _⟩ := ok' b _ (un.frzs b ob _ h)
        rw [Option.some.inj (e.symm.trans e1)]
        exact e2
  rcases hk : K.lookup scr with _ | o
  · refine go (fun b => if b = scr then some (.frz { cls := .type "list", data := .seq vs.toArray } (.lst (ns.map V.int))) else none) (fun b => ?_) (.inl (.inr ⟨_, if_pos rfl⟩)) (fun b u h => ?_) (fun b h => ?_) fun _ => hk
    · by_cases e : b = scr
      · exact .inr ⟨_, _, if_pos e⟩
      · exact .inl (if_neg e)
    · by_cases e : b = scr
      · subst e
        obtain rfl := Option.some.inj ((if_pos rfl).symm.trans h)
        exact ⟨at_, by rw [List.length_map]; exact size, vs, _, vals, at_⟩
      · exact nomatch (if_neg e).symm.trans h
    · by_cases e : b = scr
      · exact e
      · exact absurd (if_neg e) h
  · obtain rfl := Option.some.inj (at_.symm.trans (B.frag scr o hk))
    exact go (fun _ => none) (fun _ => .inl rfl) (.inr ⟨_, vs.toArray, _, hk, rfl, rfl, rfl, by rw [List.size_toArray, hi.length]; exact size, by simpa using vals⟩) (fun b u h => nomatch (show (none : Option HO) = some u from h)) (fun b h => absurd rfl h) fun h => absurd rfl h
end
def Bd (n : Int) : Prop := n.natAbs < 2 ^ Bits
theorem bd_of {n : Int} (h : Builtin.Int.intBits n ≤ 1048576) : Bd n := by
  unfold Bd
  unfold Builtin.Int.intBits at h
  by_cases e : n = 0
  · subst e; exact Nat.two_pow_pos _
  · have e' : (n == 0) = false := by simpa using e
    rw [e'] at h
    have h2 : n.natAbs.log2 + 1 ≤ Bits := h
    exact Nat.lt_of_lt_of_le (Nat.lt_log2_self (n := n.natAbs)) (Nat.pow_le_pow_right (by decide) h2)
/-- the goal that k_head leaves, from the law's promise -/
theorem walk_G {l : PySem.W.OpenLaw} {q : Program} {loose : List Str} {XP : (Str → Option Value) → Heap → Prop} {YP : World → Heap → Prop} {d : DefRec} {K : Params → PySem.W.Frag} {S : DSp} {k : Nat} (x : Str)
    (hn : l.most = some 63) (hdf : d.params.defaults = []) (room : RoomG k callerA)
    (hY : ∀ (w : World) (h : Heap), YP w h → (K w.params).In h)
    (F : ∀ (w : World) (mg : Str → Option Value) (fa : Addr) (h : Heap), (K w.params).In h → h.Ns mainGlobals mg → mg d.name = some (.ref fa) →
      ∃ fd : FuncData, (∀ (s : Shared) (u : Value), BindsTo s fd ⟨[u], []⟩ [(x, u)]) ∧ ∀ base : Heap, (K w.params).In base → base.Ns mainGlobals mg → FnG l.prog w (K w.params) mg base k fa fd [x] (lift (K w.params) S))
    (hS : ∀ (ns : List Int) Φ Ψ, ns.length ≤ 63 → (∀ n ∈ ns, Bd n) → Φ (.bl true) → S [.scr ns] Φ Ψ) :
    PySem.W.WalkO q loose XP YP l.row.toRowW d [] (fun f vs => PySem.call f vs) := by
  refine Att.attach_callB hn hdf fun w s₀ s₁ mg mb fa o pm cd doc a vs ns G Y ho hd hcd hmg hobj hints hlen hbits hg => ?_
  obtain ⟨fd, hb, hF⟩ := F w mg fa _ (hY w _ Y) G.T.g hmg
  exact law_at ⟨hY w _ Y, G.T.g, G.T.b, G.T.builtins, G.T.nolimit, hg⟩ hobj hints hlen room hF hb fun Φ Ψ q => hS ns Φ Ψ hlen (fun n hn => bd_of (hbits n hn)) q

/-! ### what the top has written -/
section
variable {K : PySem.W.Frag} {mg : Str → Option Value} {h : Heap}
/-- a def of the text at f -/
structure DefAt (K : PySem.W.Frag) (x qual : Str) (st : Stmt) (f : Addr) (dV : Value) (fd : FuncData) : Prop where
  ex : ∃ (oc : Value) (od : Option Addr) (kV doc pm : Value) (an : Option Addr) (cdv ct : Value) (osl : Array (Option Value)),
    fd = PySem.W.fnOf x qual (defArgs st) (defBody st) (defScope st) dV kV doc pm an cdv ct ∧ K.lookup f = some ⟨oc, od, .func fd, osl⟩ ∧ PySem.W.codeIn K cdv qual = true
theorem DefAt.of {x qual : Str} {st : Stmt} {f : Addr} {dV oc kV doc pm cdv ct : Value} {od an : Option Addr} {osl : Array (Option Value)}
    (l : K.lookup f = some ⟨oc, od, .func (PySem.W.fnOf x qual (defArgs st) (defBody st) (defScope st) dV kV doc pm an cdv ct), osl⟩) (c : PySem.W.codeIn K cdv qual = true) :
    ∃ fd, DefAt K x qual st f dV fd := ⟨_, oc, od, kV, doc, pm, an, cdv, ct, osl, rfl, l, c⟩
theorem DefAt.fx {x qual : Str} {st : Stmt} {f : Addr} {dV : Value} {fd : FuncData} (D : DefAt K x qual st f dV fd) : FunX K x qual st f fd :=
  let ⟨oc, od, kV, doc, pm, an, cdv, ct, osl, h⟩ := D.ex; ⟨oc, od, dV, kV, doc, pm, an, cdv, ct, osl, h⟩
theorem DefAt.binds {x qual : Str} {st : Stmt} {f : Addr} {fd : FuncData} {ps : List Str} (D : DefAt K x qual st f .none fd)
    (h : ∀ (kV doc pm : Value) (an : Option Addr) (cdv ct : Value) (us : List Value), us.length = ps.length → bindArgs (PySem.W.fnOf x qual (defArgs st) (defBody st) (defScope st) .none kV doc pm an cdv ct) ⟨us, []⟩ = pure (ps.zip us)) : Binds K fd ps [] := by
  obtain ⟨oc, od, kV, doc, pm, an, cdv, ct, osl, rfl, lk, hcd⟩ := D.ex
  exact .all (h kV doc pm an cdv ct)
/-- a call that gives all values by place or by name, whatever the defaults are -/
theorem DefAt.kb {x qual : Str} {st : Stmt} {f : Addr} {dV : Value} {fd : FuncData} {ps : List Str} {n : Nat} {ks : List Str} {ix : List Nat} (D : DefAt K x qual st f dV fd)
    (h : ∀ (kV doc pm : Value) (an : Option Addr) (cdv ct : Value) (us ws : List Value), us.length = n → ws.length = ks.length → bindArgs (PySem.W.fnOf x qual (defArgs st) (defBody st) (defScope st) dV kV doc pm an cdv ct) ⟨us, ks.zip ws⟩ = pure (ps.zip (pick ix (us ++ ws)))) : KbG K fd ps n ks ix [] := by
  obtain ⟨oc, od, kV, doc, pm, an, cdv, ct, osl, rfl, lk, hcd⟩ := D.ex
  refine .of (dvs := []) (dv := []) .nil (fun _ => .nil) fun s us ws _ h1 h2 => ?_
  rw [List.append_nil]
  exact .of_eq (h kV doc pm an cdv ct us ws h1 h2)
/-- .. a def with defaults, which the call may give or leave -/
theorem DefAt.kbD {x qual : Str} {st : Stmt} {f T : Addr} {o : Obj} {its dv : List Value} {dvs : List V} {dd : List D} {m : Nat} {fd : FuncData} {ps : List Str} {n : Nat} {ks : List Str} {ix : List Nat} (D : DefAt K x qual st f (.ref T) fd)
    (lT : K.lookup T = some o) (oT : o.data = .seq its.toArray m) (h1 : Vals dvs dv) (h2 : ∀ H, RepAll K H dvs dd)
    (h : ∀ (kV doc pm : Value) (an : Option Addr) (cdv ct : Value) (us ws : List Value), us.length = n → ws.length = ks.length →
      ∃ k, bindArgs (PySem.W.fnOf x qual (defArgs st) (defBody st) (defScope st) (.ref T) kV doc pm an cdv ct) ⟨us, ks.zip ws⟩ = seqItems? (.ref T) >>= k ∧ k (some its.toArray) = pure (ps.zip (pick ix (us ++ ws ++ dv)))) : KbG K fd ps n ks ix dd := by
  obtain ⟨oc, od, kV, doc, pm, an, cdv, ct, osl, rfl, lk, hcd⟩ := D.ex
  refine .of h1 h2 fun s us ws X l1 l2 => ?_
  obtain ⟨k, e1, e2⟩ := h kV doc pm an cdv ct us ws l1 l2
  refine BindsTo.of_looks fun M => ?_
  rw [e1]
  exact looks_items X lT oT (.of_pure e2)
/-- a def of the module: it can be called by its name -/
structure ModAt (K : PySem.W.Frag) (mg : Str → Option Value) (x : Str) (st : Stmt) (f : Addr) (fd : FuncData) : Prop where
  d : DefAt K x x st f .none fd
  m : mg x = some (.ref f)
  k : PySem.W.keepIn K (.ref f) = true
theorem ModAt.of (X : K.In h) (G : h.Ns mainGlobals mg) {x : Str} {st : Stmt} {f : Addr} {oc kV doc pm cdv ct : Value} {od an : Option Addr} {osl : Array (Option Value)}
    (a : PySem.W.nsIn K mainGlobals x = some (some (.ref f)))
    (l : K.lookup f = some ⟨oc, od, .func (PySem.W.fnOf x x (defArgs st) (defBody st) (defScope st) .none kV doc pm an cdv ct), osl⟩) (c : PySem.W.codeIn K cdv x = true) (k : PySem.W.keepIn K (.ref f) = true) :
    ∃ f fd, ModAt K mg x st f fd := by
  obtain ⟨fd, D⟩ := DefAt.of (st := st) l c
  exact ⟨f, fd, D, PySem.W.mg_of X G a, k⟩
theorem ModAt.call {P : Program} {w : World} {base : Heap} {x : Str} {st : Stmt} {f : Addr} {fd : FuncData} {ps : List Str} {k : Nat} {S : DSp} (M : ModAt K mg x st f fd) (F : FnG P w K mg base k f fd ps (lift K S))
    (h : ∀ (kV doc pm : Value) (an : Option Addr) (cdv ct : Value) (us : List Value), us.length = ps.length → bindArgs (PySem.W.fnOf x x (defArgs st) (defBody st) (defScope st) .none kV doc pm an cdv ct) ⟨us, []⟩ = pure (ps.zip us)) : CallD P w K mg base x k S :=
  .of F M.m M.k (M.d.binds h)
theorem gint_of (X : K.In h) (G : h.Ns mainGlobals mg) {x : Str} {i : Int} {t : Addr} (a : PySem.W.nsIn K mainGlobals x = some (some (.int i t))) : GInt mg x i := ⟨t, PySem.W.mg_of X G a⟩
theorem gstr_of (X : K.In h) (G : h.Ns mainGlobals mg) {x z : Str} {t : Addr} (a : PySem.W.nsIn K mainGlobals x = some (some (.str z t))) : GStr mg x z := ⟨t, PySem.W.mg_of X G a⟩
end
end DL
/-! DL19: len and bool of an object whose class has an own __len__. -/
namespace DL
open PySem PySem.Spec L2
open PyProof.Rows hiding St

section
variable {prog : Program} {w : World} {A : Around} {E : Value → Shared → Prop} {s : Shared} {K : PySem.W.Frag} {x C f : Addr} {ox : Obj} {od : Option Obj}
/-- what the own __len__ gives back -/
abbrev LenV' (Q : Int → Shared → Prop) : Value → Shared → Prop := fun v s' => ∃ (n : Nat) (u : Tok), v = .int (n : Int) u ∧ n < 2 ^ 62 ∧ Q (n : Int) s'
theorem len_bodyO {Q : Value → Shared → Prop} (X : K.In s.heap) (I : PySem.W.InstAt s.heap x ox C od) (hs : PySem.W.findIn K (.ref C) "__len__" = some (some (.ref f))) (hf : PySem.W.isFn K (.ref f) = true)
    (h : wpAny (model prog w) A (call (.ref f) [.ref x]) (LenV' fun n s' => Q (.int n s'.toks) { s' with toks := s'.toks + 1 }) E s) :
    wpAny (model prog w) A (Builtin.«len» ⟨[.ref x], []⟩) (fun fin s' => ∃ v, fin = .done (.ret v) ∧ Q v s') E s := by
  unfold Builtin.«len»
  refine wpAny_bind (m := oneArg "len" _) (wpAny_pure (wpAny_bind (m := callSpecial? (.ref x) (Str.ofString "__len__")) (PySem.W.special_fn X I hs (beq_iff_eq.mp hf) (wpAny_mono h ?_ fun _ _ y => y))))
  rintro _ s' ⟨n, u, rfl, hn, hq⟩
  refine wpAny_bind (wpAny_holding (wpAny_pure (wpAny_bind (wpAny_letGo ?_))))
  show wpAny _ _ (if ((n : Nat) : Int) < 0 then _ else _) _ _ _
  rw [if_neg (show ¬ ((n : Nat) : Int) < 0 by omega)]
  show wpAny _ _ (if ((n : Nat) : Int) ≥ 2 ^ 63 then _ else _) _ _ _
  rw [if_neg (show ¬ ((n : Nat) : Int) ≥ 2 ^ 63 by omega)]
  exact wpAny_bind (wpAny_mkInt (wpAny_pure ⟨.int n s'.toks, rfl, hq⟩))
theorem truthyO {Q : Bool → Shared → Prop} (X : K.In s.heap) (I : PySem.W.InstAt s.heap x ox C od) (hb : PySem.W.findIn K (.ref C) "__bool__" = some none) (hs : PySem.W.findIn K (.ref C) "__len__" = some (some (.ref f))) (hf : PySem.W.isFn K (.ref f) = true)
    (h : wpAny (model prog w) A.in1 (call (.ref f) [.ref x]) (LenV' fun n s' => Q (n != 0) { s' with toks := s'.toks + 1 }) E s) : wpAny (model prog w) A (truthy (.ref x)) Q E s := by
  have key : wpAny (model prog w) A (runValue (.builtin "len" ⟨[.ref x], []⟩)) (LenV' fun n s' => Q (n != 0) s') E s := by
    refine wpAny_runValue (codeAny_builtin entry_len ?_)
    rw [Around.under_plainId plain_len _]
    refine wpAny_mono (len_bodyO X I hs hf (Q := LenV' fun n s' => Q (n != 0) s') (wpAny_mono h (fun v s' ⟨n, u, e, hn, hq⟩ => ⟨n, u, e, hn, n, _, rfl, hn, hq⟩) fun _ _ y => y)) ?_ fun _ _ y => y
    rintro fin s' ⟨v, rfl, hq⟩
    exact hq
  unfold truthy
  refine wpAny_bind (m := callSpecial? (.ref x) (Str.ofString "__bool__")) (wpAny_bind (wpAny_bind (I.type.here ((PySem.W.looks_findIn X hb).here (wpAny_pure ?_)))))
  refine wpAny_bind (wpAny_bind (I.type.here ((PySem.W.looks_findIn X hs).here ?_)))
  refine wpAny_bind (wpAny_mono key (fun r s' ⟨n, u, e, hn, hq⟩ => ?_) fun _ _ y => y)
  subst e
  exact wpAny_pure hq
theorem call_boolX {Q : Value → Shared → Prop} (X : K.In s.heap) (I : PySem.W.InstAt s.heap x ox C od) (hb : PySem.W.findIn K (.ref C) "__bool__" = some none) (hs : PySem.W.findIn K (.ref C) "__len__" = some (some (.ref f))) (hf : PySem.W.isFn K (.ref f) = true)
    (h : wpAny (model prog w) A.in1.in1.in1 (call (.ref f) [.ref x]) (LenV' fun n s' => Q (.bool (n != 0)) { s' with toks := s'.toks + 1 }) E s) : wpAny (model prog w) A (call (.type "bool") [.ref x]) Q E s := by
  refine callType_codes (T := "bool") (Bi := Builtin.«object.__init__») (Q₁ := fun r s₁ => ∃ b, r = .bool b ∧ Q r s₁) PySem.F.called_bool (PySem.F.typeCall_bool_1 _) PySem.F.entry_object_init ?_ ?_
  · refine codeAny_of_tree ?_
    show wpAny _ A.in1.in1 (do checkBuiltinCall "bool.__new__" ⟨[.type "bool", .ref x], []⟩; again (.builtin "bool.__new__" ⟨[.type "bool", .ref x], []⟩)) _ _ s
    refine wpAny_bind (wpAny_of_eq (PySem.F.newCall_bool_1 _) (wpAny_pure ⟨plainId_quiet (by decide +kernel) _, codeAny_builtin PySem.F.entry_bool_new ?_⟩))
    rw [Around.under_plainId (by decide +kernel) _]
    have f1 := PySem.F.conv_sub_bool
    have key : wpAny (model prog w) A.in1.in1 (truthy (.ref x)) (fun b s₁ => Q (.bool b) s₁) E s := truthyO X I hb hs hf h
    repeat (any_goals (first | assumption | (with_reducible refine wpAny_bind (wpAny_mono key (fun b s₁ hq => ?_) fun _ _ y => y)) | wp_step))
    all_goals first | exact ⟨_, rfl, hq⟩ | skip
  · rintro obj s₁ ⟨b, rfl, hq⟩
    exact ⟨PySem.typeIs_bool _ _, PySem.F.args_object_init_2 _ _, object_init_meets PySem.F.called_bool.init.lookup PySem.F.called_bool.made (by decide) prog w A.in1 _ s₁ ⟨PySem.typeIs_bool _ _, rfl, hq⟩⟩
end
def rLenO (K : PySem.W.Frag) (C : Addr) (S : DSp) : List V → Hp → VK → Prop := fun xs H Q => ∃ (a dx : Addr) (fs : List (Str × V)), xs = [.ref a] ∧ H a = some (.ins C dx fs) ∧ lift K S [.ref a] H (fun v H' => ∃ n : Nat, v = .int n ∧ n < 2 ^ 62 ∧ Q (.int n) H') EN
def rBoolO (K : PySem.W.Frag) (C : Addr) (S : DSp) : List V → Hp → VK → Prop := fun xs H Q => ∃ (a dx : Addr) (fs : List (Str × V)), xs = [.ref a] ∧ H a = some (.ins C dx fs) ∧ lift K S [.ref a] H (fun v H' => ∃ n : Nat, v = .int n ∧ n < 2 ^ 62 ∧ Q (.bl ((n : Int) != 0)) H') EN
/-- an own __len__, no own __bool__ -/
structure LenB (P : Program) (w : World) (K : PySem.W.Frag) (mg : Str → Option Value) (base : Heap) (C : Addr) (k : Nat) (S : DSp) : Prop where
  ex : ∃ f fd ps, Own1 K C "__len__" f ∧ FnG P w K mg base k f fd ps (lift K S) ∧ Binds K fd ps []
  nb : PySem.W.findIn K (.ref C) "__bool__" = some none
section
variable {X : Cx} {j k : Nat} {f C : Addr} {fd : FuncData} {ps : List Str} {S : DSp}
theorem run_lenO {A : Around} {pins : List (Addr × Obj)} {σ : St} {H : Hp} {s : Shared} {a : Addr} {R : Nat → Hp → Prop} (F : FnG X.prog X.w X.K X.mg X.base k f fd ps (lift X.K S)) (hb : Binds X.K fd ps []) (room : RoomG k A) (e0 : Env0 X.prog X.w X.K X.mg X.base A X.stack s H)
    (I : Inv X pins σ H s) (q : lift X.K S [.ref a] H (fun v H' => ∃ n : Nat, v = .int n ∧ n < 2 ^ 62 ∧ R n H') EN) :
    wpAny (model X.prog X.w) A (call (.ref f) [.ref a]) (fun v s' => ∃ (n : Nat) (u : Tok), v = .int (n : Int) u ∧ n < 2 ^ 62 ∧ ∃ H', Inv X pins σ H' s' ∧ R n H') X.xe s := by
  refine wpAny_call (codeAny_mono (F.run A X.stack s H ⟨[.ref a], []⟩ [.ref a] [.ref a] _ EN room e0 (by
    have := hb s [.ref a] I.kIn (by rw [List.append_nil]; exact F.len _ _ _ _ q)
    simpa using this) (.cons rfl .nil) q) fun r s2 z => ?_)
  rcases r with er | fl
  · obtain ⟨_, _, _, _, _, _, _, _, _, _, _, _, z⟩ := z; exact z.elim
  · rcases fl with _ | _ | _ | u
    · exact z.elim
    · exact z.elim
    · exact z.elim
    · obtain ⟨v, H2, J2, rv, n, ev, hn, q2⟩ := I.after z
      subst ev
      obtain ⟨t, rfl⟩ := rv
      exact ⟨n, t, rfl, hn, H2, J2, q2⟩
theorem call_lenO (c : LenB X.prog X.w X.K X.mg X.base C k S) (room : RoomG j X.A) (hj : k + 2 ≤ j) : CallR X (.builtin "len") (rLenO X.K C S) := by
  intro pins s σ H xs us Q I r ⟨a, dx, fs, e, ha, q⟩
  obtain ⟨f, fd, ps, o1, F, hb⟩ := c.ex
  subst e
  obtain ⟨u, rfl, ru⟩ := vals1 r
  obtain rfl : u = Value.ref a := ru
  obtain ⟨mA, O, _⟩ := ins_get I.hok ha
  obtain ⟨od, J, _⟩ := O.look
  refine Calls.call_function_entry kind_len plain_len entry_len (args_len1 _) (len_bodyO I.kIn J o1.at_ o1.fn (wpAny_mono (run_lenO F hb ((room.mono (Nat.le_trans (Nat.le_succ _) hj)).in1) I.env0.in1 I q) ?_ fun _ _ y => y))
  rintro v s' ⟨n, u, rfl, hn, H2, J2, q2⟩
  exact ⟨n, u, rfl, hn, .int n, H2, J2.tok _, ⟨_, rfl⟩, q2⟩
theorem call_boolO (c : LenB X.prog X.w X.K X.mg X.base C k S) (room : RoomG j X.A) (hj : k + 3 ≤ j) : CallR X (.type "bool") (rBoolO X.K C S) := by
  intro pins s σ H xs us Q I r ⟨a, dx, fs, e, ha, q⟩
  obtain ⟨f, fd, ps, o1, F, hb⟩ := c.ex
  subst e
  obtain ⟨u, rfl, ru⟩ := vals1 r
  obtain rfl : u = Value.ref a := ru
  obtain ⟨mA, O, _⟩ := ins_get I.hok ha
  obtain ⟨od, J, _⟩ := O.look
  have room2 := room.mono hj
  refine call_boolX I.kIn J c.nb o1.at_ o1.fn (wpAny_mono (run_lenO F hb (A := X.A.in1.in1.in1) ⟨((room2.r.in1).in1).in1, room2.g⟩ I.env0.in1.in1.in1 I q) ?_ fun _ _ y => y)
  rintro v s' ⟨n, u, rfl, hn, H2, J2, q2⟩
  exact ⟨n, u, rfl, hn, .bl _, H2, J2.tok _, rfl, q2⟩
end
section
variable {X : Cx} (K : PySem.W.Frag) {j k : Nat} {C : Addr} {S : DSp}
theorem k_lenO (c : LenB X.prog X.w K X.mg X.base C k S) (room : RoomG j X.A) (hj : k + 2 ≤ j) (h : X.K = K := by rfl) : CallR X (.builtin "len") (rLenO K C S) := by
  subst h; exact call_lenO c room hj
theorem k_boolO (c : LenB X.prog X.w K X.mg X.base C k S) (room : RoomG j X.A) (hj : k + 3 ≤ j) (h : X.K = K := by rfl) : CallR X (.type "bool") (rBoolO K C S) := by
  subst h; exact call_boolO c room hj
end
def lenOG (C : Addr) (S : DSp) (ds : List D) (Φ : D → Prop) : Prop := ∃ fs, ds = [.ins C fs] ∧ S [.ins C fs] (fun d => ∃ n : Nat, d = .int n ∧ n < 2 ^ 62 ∧ Φ (.int n)) (fun _ => False)
def boolOG (C : Addr) (S : DSp) (ds : List D) (Φ : D → Prop) : Prop := ∃ fs, ds = [.ins C fs] ∧ S [.ins C fs] (fun d => ∃ n : Nat, d = .int n ∧ n < 2 ^ 62 ∧ Φ (.bl ((n : Int) != 0))) (fun _ => False)
theorem cbd_lenOwn {K : PySem.W.Frag} {C : Addr} {S : DSp} : CbD K (rLenO K C S) (lenOG C S) := fun H0 H xs ds Φ Q e rx ⟨fs, hd, g⟩ k => by
  subst hd
  obtain ⟨v, rfl, r⟩ := vals_one rx
  cases r with
  | ins hp hr =>
    exact ⟨_, _, _, rfl, e _ _ hp, H0, [.ins C fs], _, fun _ => False, e, .cons (.ins hp hr) .nil, g, fun v d H0' H' ⟨n, ez, hn, hΦ⟩ p rv => by
      subst ez; cases rv
      exact ⟨n, rfl, hn, k _ _ H0' H' hΦ p (.int _)⟩, fun _ _ _ _ z => z.elim⟩
theorem cbd_boolOwn {K : PySem.W.Frag} {C : Addr} {S : DSp} : CbD K (rBoolO K C S) (boolOG C S) := fun H0 H xs ds Φ Q e rx ⟨fs, hd, g⟩ k => by
  subst hd
  obtain ⟨v, rfl, r⟩ := vals_one rx
  cases r with
  | ins hp hr =>
    exact ⟨_, _, _, rfl, e _ _ hp, H0, [.ins C fs], _, fun _ => False, e, .cons (.ins hp hr) .nil, g, fun v d H0' H' ⟨n, ez, hn, hΦ⟩ p rv => by
      subst ez; cases rv
      exact ⟨n, rfl, hn, k _ _ H0' H' hΦ p (.bl _)⟩, fun _ _ _ _ z => z.elim⟩
theorem wJ_cons {w : Wx} {t : TE} {ts : List TE} {acc : Str} {ρ : Env'} {Φ : Str → Env' → Prop} (h : wE w t ρ fun d ρ1 => ∃ y, d = .str y ∧ (acc ++ y).length ≤ 1000000 ∧ wJ w ts (acc ++ y) ρ1 Φ) : wJ w (t :: ts) acc ρ Φ := h
theorem wJ_nil {w : Wx} {acc : Str} {ρ : Env'} {Φ : Str → Env' → Prop} (h : Φ acc ρ) : wJ w [] acc ρ Φ := h
end DL
/-! DL20: defs around which tables of code objects may grow. -/
namespace DL
open PySem PySem.Spec L2
open PyProof.Rows hiding St
/-- a promise over data, of a def that may fill tables -/
def liftT (K : PySem.W.Frag) (T : List (Addr × Str)) (S : DSp) : Sp := fun vs H Q E => ∃ (H0 : Hp) (ds : List D) (Φ : D → Prop) (Ψ : Exn → Prop), Ex H0 H ∧ RepAll K H0 vs ds ∧ TabA T H0 H ∧ S ds Φ Ψ ∧
  (∀ v d H0' H', Φ d → PX ⟨H, H0, T⟩ H0' H' → TabA T H0' H' → Rep K H0' v d → Q v H') ∧ (∀ x dd H0' H', Ψ x → PX ⟨H, H0, T⟩ H0' H' → RepX K H0' H' x dd → E (.ref x.C) dd H')
theorem at_startT {K : PySem.W.Frag} {T : List (Addr × Str)} {H0 H : Hp} {N : List Str} {vs : List V} {ds : List D} (e : Ex H0 H) (tb : TabA T H0 H) (r : RepAll K H0 vs ds) : At K ⟨H, H0, T⟩ (startE N ds) H0 H (L2.start N vs) := by
  refine ⟨PX.refl e, tb, [], ?_, List.nodup_nil, fun _ h => nomatch h⟩
  unfold startE L2.start
  rw [r.length]
  exact slots_start r
section
variable {P : Program} {w : World} {K : PySem.W.Frag} {mg : Str → Option Value} {base : Heap} {T : List (Addr × Str)}
theorem fnX_ofT {x qual : Str} {st : Stmt} {f : Addr} {fd : FuncData} {N ps : List Str} {k : Nat} {S : DSp} (F : FunX K x qual st f fd) (Sc : FnScope N ps (defScope st)) (len : ∀ ds Φ Ψ, S ds Φ Ψ → ds.length = ps.length)
    (hbody : ∀ (cdv : Value) (A : Around) (outer : List Env) (s : Shared) (H : Hp) (E : XK), InBody P w k (bodyX P w K mg base N qual st f cdv A outer s H E) E → (∃ oc od osl dV kV doc pm an ct, K.lookup f = some ⟨oc, od, .func (PySem.W.fnOf x qual (defArgs st) (defBody st) (defScope st) dV kV doc pm an cdv ct), osl⟩) →
      ∃ t, PSs (bodyX P w K mg base N qual st f cdv A outer s H E) (defBody st) t ∧ ∀ ds Φ Ψ, S ds Φ Ψ → wS ⟨K, E, Ψ, T⟩ t { nx := fun _ => Φ .non, rt := fun d _ => Φ d } (startE N ds)) :
    FnG P w K mg base (k + 1) f fd ps (liftT K T S) := by
  obtain ⟨oc, od, dV, kV, doc, pm, an, cdv, ct, osl, rfl, lk, hcd⟩ := F.ex
  refine fnG_of lk hcd Sc (fun vs H Q E ⟨H0, ds, Φ, Ψ, _, r, _, q, _⟩ => r.length.trans (len ds Φ Ψ q)) fun A outer s H vs Q E room ⟨H0, ds, Φ, Ψ, e, r, tb, q, kq, kx⟩ => ?_
  obtain ⟨t, ht, hw⟩ := hbody cdv A outer s H E ⟨room, passes_call (takes_of rfl rfl rfl rfl) fun _ _ _ _ h => h, passes_of rfl⟩ ⟨_, _, _, _, _, _, _, _, _, lk⟩
  refine ⟨t, ht, hw ds Φ Ψ q ⟨H, H0, T⟩ _ H0 H _ (at_startT e tb r) ⟨rfl, fun x hx dd H0' H' p rx => kx x dd H0' H' hx p rx⟩ ⟨fun ρ H0' H' σ z a => kq .non .non H0' H' z a.px a.tab .non, fun d v ρ H0' H' σ z a rv => kq v d H0' H' z a.px a.tab rv, fun _ _ _ _ _ _ _ z => z.elim, fun _ _ _ _ z => z.elim, fun _ _ _ _ z => z.elim⟩⟩
structure CallT (P : Program) (w : World) (K : PySem.W.Frag) (mg : Str → Option Value) (base : Heap) (T : List (Addr × Str)) (x : Str) (k : Nat) (S : DSp) : Prop where
  ex : ∃ f fd ps, FnG P w K mg base k f fd ps (liftT K T S) ∧ mg x = some (.ref f) ∧ PySem.W.keepIn K (.ref f) = true ∧ Binds K fd ps []
end
theorem k_ct {X : Cx} (K : PySem.W.Frag) {T : List (Addr × Str)} {j k : Nat} {E : XK} {x : Str} {p pos : Pos} {e : Expr} {es : List Expr} {t : TA} {S : DSp} (c : CallT X.prog X.w K X.mg X.base T x k S) (room : RoomG j X.A) (hj : k ≤ j) (hx : Passes (CXD X.prog X.w) X E) (ha : PA X (e :: es) t)
    (hg : Gl X x := by rfl) (hdb : (x == ("__debug__" : Str)) = false := by decide) (he : starEach (e :: es) X.env = (false, eval e X.env) :: starEach es X.env := by rfl) (hpl : (backTo pos (starEach es X.env)).any (·.1) = false := by rfl) (h : X.K = K := by rfl) : PE X (.Call (.Name x p) (e :: es) [] pos) (tCall (liftT K T S) [] E t) := by
  subst h
  obtain ⟨f, fd, ps, F, hm, hk, hb⟩ := c.ex
  exact pe_callG F (room.mono hj) hg hm hk hb .nil hx ha hdb he hpl
theorem wE_callT {w : Wx} {ρ : Env'} {Φ : D → Env' → Prop} {ta : TA} {S : DSp} (h : wA w ta ρ fun ds ρ1 => S ds (fun d => Φ d ρ1) w.X) : wE w (tCall (liftT w.K w.T S) [] w.EX ta) ρ Φ := fun c H0 H σ Q a x k =>
  h c H0 H σ _ a x fun vs ds ρ1 H01 H1 q a1 e1 r1 => by
    obtain ⟨ct, cl⟩ := x
    refine ⟨H01, ds, fun d => Φ d ρ1, w.X, a1.px.i, by rw [List.append_nil]; exact r1, by rw [← ct]; exact a1.tab, q, fun v d H0' H' z p tb rv => ?_, fun y dd H0' H' z p rx => ?_⟩
    · rw [← ct] at p tb
      exact k v d ρ1 H0' H' z (a1.goT p tb) (e1.trans p.e0) rv
    · rw [← ct] at p
      exact cl y z dd H0' H' (a1.px.transT p) rx
end DL
/-! DL21: own exceptions with one attribute, raised. -/
namespace DL
open PySem PySem.Spec L2
open PyProof.Rows hiding St
/-- __init__(self, f): self.f = f, of a new exception -/
def spXI (K : PySem.W.Frag) (C : Addr) (f : Str) : Sp := fun vs H Q _ => ∃ (a : Addr) (y : V), vs = [.ref a, y] ∧ H a = some (exo a C none) ∧ ∀ dx, H dx = none → dx ≠ a → Q .non (upd (upd H dx (exd dx [(f, y)])) a (exo a C (some dx)))
/-- the class at C, its __init__ at fI -/
structure XCls (K : PySem.W.Frag) (mg : Str → Option Value) (x f : Str) (st : Stmt) (C : Addr) : Prop where
  here : mg x = some (.ref C)
  T : OexC K C
  no : PySem.W.findIn K (.ref C) f = some none
  ini : ∃ fI fd, PySem.W.findIn K (.ref C) "__init__" = some (some (.ref fI)) ∧ PySem.W.typeIn K (.ref fI) = some (.type "function") ∧ Fun K "__init__" (x ++ ".__init__") st fI fd
section
variable {P : Program} {w : World} {K : PySem.W.Frag} {mg : Str → Option Value} {base : Heap}
/-- the class makes exceptions: (what callers see) -/
structure XMk (P : Program) (w : World) (K : PySem.W.Frag) (mg : Str → Option Value) (base : Heap) (x f : Str) (C : Addr) : Prop where
  here : mg x = some (.ref C)
  T : OexC K C
  ini : ∃ fI fd, PySem.W.findIn K (.ref C) "__init__" = some (some (.ref fI)) ∧ PySem.W.typeIn K (.ref fI) = some (.type "function") ∧ FnOk P w K mg base (L2.CX P w) 1 fI fd ["self", f] (spXI K C f) ∧ Binds K fd ["self", f] []
end
/-- raise C(e) -/
def tRaise (K : PySem.W.Frag) (C : Addr) (f : Str) (E : XK) (ta : TA) : TS := fun _ σ H => tMkO C (spXI K C f) [] ta σ H fun cls d H' => E cls d H'
theorem k_raise {X : Cx} (K : PySem.W.Frag) {j : Nat} {C : Addr} {x f : Str} {e : Expr} {es : List Expr} {ta : TA} {E : XK} {p pos pos' : Pos} (c : XMk X.prog X.w K X.mg X.base x f C) (room : RoomG j X.A) (hj : 2 ≤ j) (hc : X.calm = true) (tk : Takes X fun cls d _ H => E cls d H) (ha : PA X (e :: es) ta)
    (hg : Gl X x := by rfl) (hdb : (x == ("__debug__" : Str)) = false := by decide) (he : starEach (e :: es) X.env = (false, eval e X.env) :: starEach es X.env := by rfl) (hpl : (backTo pos (starEach es X.env)).any (·.1) = false := by rfl) (h : X.K = K := by rfl) :
    PS X (.Raise (some (.Call (.Name x p) (e :: es) [] pos)) none pos') (tRaise K C f E ta) := by
  subst h
  obtain ⟨fI, fd, i1, i2, F, hb⟩ := c.ini
  exact ps_raise hc tk (pmk_oex c.T i1 i2 F (room.mono hj).r hb .nil passN hg c.here ha hdb he hpl)
theorem wS_raise {w : Wx} {ρ : Env'} {E : DE} {C : Addr} {f : Str} {ta : TA} (h : wA w ta ρ fun ds _ => ∃ d, ds = [d] ∧ w.X ⟨C, [(f, d)]⟩) : wS w (tRaise w.K C f w.EX ta) E ρ := fun c Dn H0 H σ a x l =>
  h c H0 H σ _ a x fun vs ds ρ1 H01 H1 ⟨d, e, q⟩ a1 e1 r1 => by
    subst e
    obtain ⟨v, rfl, r⟩ := vals_one r1
    refine ⟨by simp, fun b hb => ⟨b, v, rfl, upd_same, fun dx hd hne => ⟨rfl, dx, [(f, v)], upd_same, ?_, ?_, ?_⟩⟩⟩
    · rw [upd_ne hne, upd_same]
    · rwa [upd_ne hne] at hd
    · have hd1 : H1 dx = none := by rwa [upd_ne hne] at hd
      have eq : upd (del (upd (upd (upd H1 b (exo b C none)) dx (exd dx [(f, v)])) b (exo b C (some dx))) b) dx (.xd [(f, v)]) = upd H1 dx (.xd [(f, v)]) := by
        funext a'
        by_cases ed : a' = dx
        · rw [ed, upd_same, upd_same]
        · rw [upd_ne ed, upd_ne ed]
          by_cases eb : a' = b
          · rw [eb, del_same, hb]
          · rw [del_ne eb, upd_ne eb, upd_ne ed, upd_ne eb]
      rw [eq]
      have y := a1.px.new (o := .xd [(f, v)]) hd1
      exact x.l _ q (some dx) _ _ y ⟨dx, [(f, v)], rfl, upd_same, .cons (r.mono (Ex.new (a1.px.i.back hd1))) .nil⟩
section
variable {P : Program} {w : World} {K : PySem.W.Frag} {mg : Str → Option Value} {base : Heap}
theorem XMk.of {x f : Str} {st : Stmt} {C : Addr} {N : List Str} (c : XCls K mg x f st C) (Sc : FnScope N ["self", f] (defScope st))
    (hb : ∀ (kV doc pm : Value) (an : Option Addr) (cdv ct : Value) (us : List Value), us.length = 2 → bindArgs (PySem.W.fnOf "__init__" (x ++ ".__init__") (defArgs st) (defBody st) (defScope st) .none kV doc pm an cdv ct) ⟨us, []⟩ = pure (([Str.ofString "self", f] : List Str).zip us))
    (hbody : ∀ (fI : Addr) (cdv : Value) (A : Around) (outer : List Env) (s : Shared) (H : Hp) (E : XK), PSs (cxOf (L2.CX P w) P w K mg base N (x ++ ".__init__") (defScope st) fI cdv A outer s H E) (defBody st) (tOst K f (tVar 0) (tVar 1))) (hs : ∀ a y : V, (L2.start N [a, y])[0]? = some (some a) ∧ (L2.start N [a, y])[1]? = some (some y)) : XMk P w K mg base x f C := by
  obtain ⟨fI, fd, i1, i2, F⟩ := c.ini
  refine ⟨c.here, c.T, fI, fd, i1, i2, ?_, F.binds (ps := [Str.ofString "self", f]) hb⟩
  refine F.okX Sc (fun vs H Q E ⟨_, _, h, _⟩ => by rw [h]; rfl) fun cdv A outer s H vs Q E room ⟨a, y, e, ha, q⟩ => ?_
  subst e
  have hp := hbody fI cdv A outer s H E
  obtain ⟨h0, h1⟩ := hs (.ref a) y
  exact ⟨_, hp, y, h1, .ref a, h0, a, C, rfl, c.T, c.no, .inl ⟨ha, fun dx hd hne => q dx hd hne⟩⟩
end
end DL
/-! DL22: a def that is handed the exception that is being handled. -/
namespace DL
open PySem PySem.Spec L2
open PyProof.Rows hiding St
structure RoomE (k : Nat) (A : Around) : Prop where
  r : L2H.RoomH k A
  g : A.guards = some []
theorem RoomE.mono {j k : Nat} {A : Around} (x : RoomE k A) (h : j ≤ k) : RoomE j A := ⟨x.r.mono h, x.g⟩
/-- what is known of the exception that is handled -/
structure Held (A : Around) (a : Addr) (oe : Obj) (cls : Value) (dd : Option Addr) : Prop where
  h : A.handled = some (.ref a)
  z : Zc cls dd oe
  f : ∃ vs, oe.data = .fields vs
/-- the def at f is called by the handled exception alone -/
structure FnE (P : Program) (w : World) (K : PySem.W.Frag) (mg : Str → Option Value) (base : Heap) (k : Nat) (f : Addr) (fd : FuncData) (p1 : Str) (sp : Value → Option Addr → Hp → VK → Prop) : Prop where
  run : ∀ (A : Around) (outer : List Env) (s : Shared) (H : Hp) (args : Args) (a : Addr) (oe : Obj) (cls : Value) (dd : Option Addr) (Q : VK), RoomE k A → Held A a oe cls dd → L2H.PinOk outer H s (a, oe) → Env0 P w K mg base A outer s H →
    BindsTo s fd args [(p1, .ref a)] → sp cls dd H Q → codeAny (model P w) A (.call (.ref f) args) (CR (CXD P w) outer P w H s Q EN) s
theorem fnE_of {P : Program} {w : World} {K : PySem.W.Frag} {mg : Str → Option Value} {base : Heap} {k : Nat} {f : Addr} {name qual p1 : Str} {params : Arguments} {body : List Stmt} {scope : Scope} {dV kV doc pm cdv ct oc : Value} {an od : Option Addr}
    {osl : Array (Option Value)} {N : List Str} {sp : Value → Option Addr → Hp → VK → Prop} (lk : K.lookup f = some ⟨oc, od, .func (PySem.W.fnOf name qual params body scope dV kV doc pm an cdv ct), osl⟩) (hcd : PySem.W.codeIn K cdv qual = true) (S : FnScope N [p1] scope)
    (hbody : ∀ (A : Around) (outer : List Env) (s : Shared) (H : Hp) (a : Addr) (oe : Obj) (cls : Value) (dd : Option Addr) (Q : VK), Held A a oe cls dd → RoomE k (A.deeper (envOfC qual scope s.heap.objs.size f cdv)) → sp cls dd H Q →
      ∃ t, PSs (L2H.cxH (CXD P w) P w K mg base N qual scope f cdv A outer s H EN (a, oe)) body t ∧ t { nx := fun _ H' => Q .non H', rt := Q } (L2.start N [.ref a]) H) :
    FnE P w K mg base (k + 1) f (PySem.W.fnOf name qual params body scope dV kV doc pm an cdv ct) p1 sp := by
  refine ⟨fun A outer s H args a oe cls dd Q room hd pin e0 binds hsp => ?_⟩
  have inK : K.In s.heap := e0.mod.kin.keeps fun b o z => (e0.bs b o z).1
  have noLim : s.heap.NoLimit := e0.mod.nolimit.keeps fun b o z => (e0.bs b o z).1
  have kinds : ∀ y ∈ [(p1, Value.ref a)], scope.names.lookup y.1 = some .local ∨ (scope.names.lookup y.1 = some .cell ∧ ((cellsFrom (s.heap.objs.size + 1) scope.names []).lookup y.1).isSome = true) := fun y hy => by
    rw [List.mem_singleton.mp hy]
    exact (S.par p1 List.mem_cons_self).imp id fun z => ⟨z, PySem.W.cellsFrom_some _ _ _ (.inl z)⟩
  refine codeAny_call_function room.r.depth (inK _ _ lk) rfl S.co S.gen rfl (PySem.W.codeRec_of inK hcd) (binds _ _ _ _ ?_)
  refine wpAny_newFunctionEnv_cells S.kind kinds fun env ee s1 x => ?_
  subst ee
  refine ⟨noLim.keeps x.toInCall.keep, codeAny_func ?_⟩
  obtain ⟨t, ht, hq⟩ := hbody A outer s H a oe cls dd Q hd ⟨room.r.deeper _, room.g⟩ hsp
  have I := L2H.inv_startH (CX := CXD P w) (E := EN) S pin e0 (vs := [.ref a]) (us := [.ref a]) rfl (.cons rfl .nil) x
  refine wpAny_mono (ht.run [] s1 (L2.start N [.ref a]) H _ I hq) (fun fl s' hs => ?_) fun e s' hs => hs
  rcases fl with _ | _ | _ | u
  · obtain ⟨σ', H', J, q⟩ := hs; exact ⟨V.non, H', J.os, J.bare, J.base, J.hok, rfl, q⟩
  · exact (hs.elim fun _ z => z.elim fun _ z => z.2).elim
  · exact (hs.elim fun _ z => z.elim fun _ z => z.2).elim
  · obtain ⟨v, σ', H', J, rv, q⟩ := hs; exact ⟨v, H', J.os, J.bare, J.base, J.hok, rv, q⟩
/-- f(e) within the suite that handles e -/
def tSort (K : PySem.W.Frag) (a : Addr) (cls : Value) (dd : Option Addr) (sp : Value → Option Addr → Hp → VK → Prop) (t : TA) : TE := fun σ H Q => t σ H fun vs H1 => vs = [.ref a] ∧ sp cls dd H1 Q
theorem pe_sort {X : Cx} {a : Addr} {oe : Obj} {cls : Value} {dd : Option Addr} {pn : List (Addr × Obj)} {j k : Nat} {f : Addr} {fd : FuncData} {p1 x : Str} {sp : Value → Option Addr → Hp → VK → Prop} {e : Expr} {t : TA} {p pos : Pos}
    (F : FnE X.prog X.w X.K X.mg X.base k f fd p1 sp) (room : RoomE j (X.suite a ((a, oe) :: pn)).A) (hj : k ≤ j) (hz : Zc cls dd oe) (hf : ∃ vs, oe.data = .fields vs) (hm : X.mg x = some (.ref f)) (hk : PySem.W.keepIn X.K (.ref f) = true) (hb : Binds X.K fd [p1] [])
    (ha : PA (X.suite a ((a, oe) :: pn)) [e] t) (hg : Gl X x := by rfl) (hdb : (x == ("__debug__" : Str)) = false := by decide) (he : starEach [e] X.env = [(false, eval e X.env)] := by rfl) : PE (X.suite a ((a, oe) :: pn)) (.Call (.Name x p) [e] [] pos) (tSort X.K a cls dd sp t) := by
  refine ⟨fun pins s σ H Q I h => ?_⟩
  refine wpAny_Call_Name_kw (ld_glob I hg hm (PySem.W.callWith_K (h₀ := X.base) I.ok.mod.kin hk (thn (ha.run pos pins s σ H _ I h) fun us s1 ⟨vs, H1, J, r, ev, q⟩ => ⟨J.kIn, ?_⟩) he rfl) hdb)
  subst ev
  cases r with
  | cons r rr =>
    cases rr
    cases r
    have P1 := J.pin (a, oe) (List.mem_append_left _ List.mem_cons_self)
    have pin : L2H.PinOk X.stack H1 s1 (a, oe) := ⟨P1.1, P1.2.1, fun hm => (List.mem_cons.mp (J.stkSub a hm)).elim P1.2.2.1 P1.2.2.2.1, P1.2.2.2.2⟩
    refine wpAny_call (codeAny_mono (F.run _ X.stack s1 H1 ⟨[.ref a], []⟩ a oe cls dd Q (room.mono hj) ⟨rfl, hz, hf⟩ pin J.env0 (hb s1 [.ref a] J.kIn rfl) q) fun r s' hq => ?_)
    rcases r with er | fl
    · obtain ⟨_, _, _, _, _, _, _, _, _, _, _, _, z⟩ := hq; exact z.elim
    · rcases fl with _ | _ | _ | u
      · exact hq.elim
      · exact hq.elim
      · exact hq.elim
      · exact J.after hq
/-! within such a def -/
section
variable {P : Program} {w : World} {K : PySem.W.Frag} {mg : Str → Option Value} {base : Heap} {N : List Str} {qual : Str} {scope : Scope} {f : Addr} {cdv : Value} {A : Around} {outer : List Env} {s : Shared} {H : Hp} {a D' : Addr} {oe : Obj} {dd : Option Addr} {x : Str}
/-- the class at D, as far as isinstance and its instances' attributes go -/
structure XIs (K : PySem.W.Frag) (D : Addr) : Prop where
  c : (PySem.W.clsIn K D).isSome = true
  c2 : PySem.W.hasDictIn K D = true
  ga : PySem.W.findIn K (.ref D) "__getattribute__" = some (some (.builtin "BaseException.__getattribute__"))
  gg : PySem.W.findIn K (.ref D) "__getattr__" = some none
  sb : PySem.W.subIn K (.ref D) (.type "BaseException") = some true
  cl : PySem.W.findIn K (.ref D) "__class__" = some (some (.builtin "object.__class__"))
  sp : PySem.W.specialIn K (.builtin "object.__class__") "__get__" = some (some (.builtin "getset_descriptor.__get__"))
  tk : PySem.W.takesIn K (.builtin "object.__class__") = some true
  mr : PySem.W.mroIn K D (.type "object") = some true
theorem inst_pin {X : Cx} {pins : List (Addr × Obj)} {σ : L2.St} {H1 : Hp} {s1 : Shared} (I : Inv X pins σ H1 s1) (hp : (a, oe) ∈ X.pn) (hz : Zc (.ref D') dd oe) (hf : ∃ vs, oe.data = .fields vs) {d : Addr} (ed : dd = some d) {fs : List (Str × V)} (hd : H1 d = some (.xd fs)) :
    ∃ od, PySem.W.InstAt s1.heap a oe D' (some od) ∧ ∀ n v, fs.lookup n = some v → ∃ u, PySem.W.lookIn n od = some (some u) ∧ RelV v u := by
  obtain ⟨hget, _⟩ := I.pin (a, oe) (List.mem_append_left _ hp)
  obtain ⟨vs, hv⟩ := hf
  have hx : ObjOk X.prog X.w H1 s1.heap d (.xd fs) := I.hok d _ hd
  obtain ⟨mA, hns, hr⟩ := hx
  obtain ⟨od, ho, hl⟩ := lookIn_ns hns
  refine ⟨od, ⟨hget, hz.1, by unfold PySem.W.notCls; rw [hv] <;> rfl, by rw [hz.2, ed]; exact ho⟩, fun n v l => ?_⟩
  obtain ⟨u, hu, ru⟩ := RelO.some_of (v := v) (o := mA n) (by rw [← l]; exact hr n)
  exact ⟨u, by rw [hl, hu], ru⟩
end
end DL
/-! DL23: isinstance(e, C), e.f of the handled exception, in such a def; its promise over data. -/
namespace DL
open PySem PySem.Spec L2
open PyProof.Rows hiding St
/-- isinstance(e, c): c a class (of one's own or a built-in one) -/
def rIsX (K : PySem.W.Frag) (D a : Addr) (dd : Option Addr) : List V → Hp → VK → Prop := fun xs H Q => ∃ (c : V) (cv : Value) (b : Bool) (d : Addr) (fs : List (Str × V)), xs = [.ref a, c] ∧ XIs K D ∧ (∀ u, RelV c u → u = cv) ∧ PySem.W.kitOne K (.ref D) cv = some b ∧ dd = some d ∧ H d = some (.xd fs) ∧ Q (.bl b) H
theorem call_isX {X : Cx} {a D : Addr} {oe : Obj} {dd : Option Addr} (hp : (a, oe) ∈ X.pn) (hz : Zc (.ref D) dd oe) (hf : ∃ vs, oe.data = .fields vs) : CallR X (.builtin "isinstance") (rIsX X.K D a dd) := by
  intro pins s σ H xs us Q I r ⟨c, cv, b, d, fs, e, C, hcv, hk, ed, hd, q⟩
  subst e
  cases r with
  | cons rx rr =>
    cases rr with
    | cons rt rr =>
      cases rr
      cases rx
      have ec := hcv _ rt
      subst ec
      obtain ⟨od, J, _⟩ := inst_pin I hp hz hf ed hd
      exact PySem.W.kia_one (PySem.W.kitx_exc C.c C.ga C.gg C.sb C.cl C.sp C.tk C.mr) I.kIn J hk (fun z => nomatch z) fun tk => ⟨.bl b, H, I.kept (t' := tk) fun _ _ z => z, rfl, q⟩
/-- e.f -/
def tFldX (K : PySem.W.Frag) (D a : Addr) (dd : Option Addr) (f : Str) (te : TE) : TE := fun σ H Q => te σ H fun x H1 => x = .ref a ∧ XIs K D ∧ PySem.W.findIn K (.ref D) f = some none ∧ ∃ (d : Addr) (fs : List (Str × V)) (v : V), dd = some d ∧ H1 d = some (.xd fs) ∧ fs.lookup f = some v ∧ Q v H1
theorem pe_fldX {X : Cx} {a D : Addr} {oe : Obj} {dd : Option Addr} {e : Expr} {te : TE} {pos : Pos} {n : Str} (hp : (a, oe) ∈ X.pn) (hz : Zc (.ref D) dd oe) (hf : ∃ vs, oe.data = .fields vs) (he : PE X e te)
    (hb : attributeBase e n X.env (eval e X.env) = eval e X.env := by rfl) : PE X (.Attribute e n pos) (tFldX X.K D a dd n te) := by
  refine ⟨fun pins s σ H Q I h => attr_of hb (thn (he.run pins s σ H _ I h) fun u s1 ⟨x, H1, I1, rx, ex, C, hno, d, fs, v, ed, ea, l, q⟩ => ?_)⟩
  subst ex
  obtain rfl : u = Value.ref a := rx
  obtain ⟨od, J, hl⟩ := inst_pin I1 hp hz hf ed ea
  obtain ⟨u, hu, ru⟩ := hl n v l
  exact HandSPX.exc_get I1.kIn J C.ga C.gg C.sb (PySem.W.findObj_own C.c2 hno rfl hu) (handed_of ru) ⟨v, H1, I1.tok _, ru, q⟩
/-! ### over data -/
/-- the promise of such a def: of the exception's class and attributes -/
abbrev ESp := Exn → (D → Prop) → Prop
def liftE (K : PySem.W.Frag) (S : ESp) : Value → Option Addr → Hp → VK → Prop := fun cls dd H Q => ∃ (H0 : Hp) (x : Exn) (Φ : D → Prop), Ex H0 H ∧ cls = .ref x.C ∧ RepX K H0 H x dd ∧ S x Φ ∧ ∀ v d H0' H', Φ d → PX ⟨H, H0, []⟩ H0' H' → Rep K H0' v d → Q v H'
/-- a class in isinstance's second place -/
def clsV : D → Option Value
  | .raw (.ref a) => some (.ref a)
  | .raw (.ty T) => some (.type T)
  | _ => none
theorem clsV_rel {K : PySem.W.Frag} {H : Hp} {y : D} {cv : Value} {c : V} (h : clsV y = some cv) (r : Rep K H c y) : ∀ u, RelV c u → u = cv := by
  cases r with
  | raw =>
    cases c <;> simp [clsV] at h <;> subst h <;> intro u ru <;> exact ru
  | _ => simp [clsV] at h
def isXG (K : PySem.W.Frag) (D' a d : Addr) (ds : List D) (Φ : D → Prop) : Prop := ∃ fs y cv b, ds = [.exn a d fs, y] ∧ XIs K D' ∧ clsV y = some cv ∧ PySem.W.kitOne K (.ref D') cv = some b ∧ Φ (.bl b)
theorem cbd_isX {K : PySem.W.Frag} {D' a d : Addr} : CbD K (rIsX K D' a (some d)) (isXG K D' a d) := fun H0 H xs ds Φ Q e rx ⟨fs, y, cv, b, hd, hX, h1, h2, g⟩ k => by
  subst hd
  obtain ⟨v, c, rfl, r1, r2⟩ := vals_two rx
  cases r1 with
  | exn hp hr => exact ⟨c, cv, b, d, _, rfl, hX, clsV_rel h1 r2, h2, rfl, e _ _ hp, fin0 e g (.bl _) k⟩
theorem wE_fldX {w : Wx} {ρ : Env'} {Φ : D → Env' → Prop} {te : TE} {f : Str} {D' a d : Addr} (h : wE w te ρ fun dx ρ1 => XIs w.K D' ∧ PySem.W.findIn w.K (.ref D') f = some none ∧ ∃ fs y, dx = .exn a d fs ∧ fs.lookup f = some y ∧ Φ y ρ1) : wE w (tFldX w.K D' a (some d) f te) ρ Φ := fun c H0 H σ Q at' x k =>
  h c H0 H σ _ at' x fun v dx ρ1 H01 H1 ⟨hX, hno, fs, y, ed, hl, q⟩ a1 e1 r1 => by
    subst ed
    cases r1 with
    | exn hp hr =>
      obtain ⟨u, h1, r⟩ := hr.lookup hl
      exact ⟨rfl, hX, hno, d, _, u, rfl, a1.px.i _ _ hp, h1, k u y ρ1 H01 H1 q a1 e1 r⟩
/-- THE RULE for such a def -/
theorem fnX_ofE {P : Program} {w : World} {K : PySem.W.Frag} {mg : Str → Option Value} {base : Heap} {x qual p1 : Str} {st : Stmt} {f : Addr} {fd : FuncData} {N : List Str} {k : Nat} {S : ESp} (F : FunX K x qual st f fd) (Sc : FnScope N [p1] (defScope st))
    (hbody : ∀ (cdv : Value) (A : Around) (outer : List Env) (s : Shared) (H : Hp) (a d : Addr) (oe : Obj) (D' : Addr), Zc (.ref D') (some d) oe → (∃ vs, oe.data = .fields vs) → RoomE k (A.deeper (envOfC qual (defScope st) s.heap.objs.size f cdv)) →
      ∃ t, PSs (L2H.cxH (CXD P w) P w K mg base N qual (defScope st) f cdv A outer s H EN (a, oe)) (defBody st) t ∧ ∀ fs Φ, S ⟨D', fs⟩ Φ → wS ⟨K, EN, fun _ => False, []⟩ t { nx := fun _ => Φ .non, rt := fun d _ => Φ d } (startE N [.exn a d fs])) :
    FnE P w K mg base (k + 1) f fd p1 (liftE K S) := by
  obtain ⟨oc, od, dV, kV, doc, pm, an, cdv, ct, osl, rfl, lk, hcd⟩ := F.ex
  refine fnE_of lk hcd Sc fun A outer s H a oe cls dd Q hd room ⟨H0, y, Φ, e, ec, ⟨d, vs, ed, hx, rk⟩, q, kq⟩ => ?_
  subst ec ed
  obtain ⟨t, ht, hw⟩ := hbody cdv A outer s H a d oe y.C hd.z hd.f room
  exact ⟨t, ht, hw y.fs Φ q ⟨H, H0, []⟩ _ H0 H _ (at_start e (.cons (.exn hx rk) .nil)) ⟨rfl, fun _ h => h.elim⟩ ⟨fun ρ H0' H' σ z a => kq .non .non H0' H' z a.px .non, fun d v ρ H0' H' σ z a rv => kq v d H0' H' z a.px rv, fun _ _ _ _ _ _ _ z => z.elim, fun _ _ _ _ z => z.elim, fun _ _ _ _ z => z.elim⟩⟩
end DL
/-! DL24: try .. except (A, B, C) as e, all that is raised being caught. -/
namespace DL
open PySem PySem.Spec L2
open PyProof.Rows hiding St
theorem flying_kept {B h h' : Heap} {l : List Env} {e : Addr} {Z : Obj → Prop} (fl : HandSPX.FlyingZ B l e Z h) (k : ∀ b o, h.get? b = some o → h'.get? b = some o) : HandSPX.FlyingZ B l e Z h' := by
  obtain ⟨f1, f2, f3, oe, vs, T, oT, ts, he, hz, hd, h1, hnT, hTe, hT, hdT, h3⟩ := fl
  exact ⟨fun b o q => k _ _ (f1 b o q), f2, f3.of_keeps fun b o hb _ => ⟨o, k _ _ hb, rfl⟩, oe, vs, T, oT, ts, k _ _ he, hz, hd, h1, hnT, hTe, k _ _ hT, hdT, h3⟩
theorem upTo_kept {h h' : Heap} (k : ∀ b o, h.get? b = some o → h'.get? b = some o) : h.UpToSlots h' := fun b o e _ => ⟨o.slots, k b o e⟩
/-- what such a clause wishes of an exception of the body -/
def wAsT (K : PySem.W.Frag) (cs : List Value) (n i : Nat) (ts : Addr → Value → Option Addr → TS) (D : Ends) : WX := fun cls d σ H =>
  PySem.W.exmAny K cls cs = some true ∧ (σ.length = n → ∀ a, H a = none → ts a cls d { nx := fun σ' H' => D.nx (σ'.set i none) H', rt := D.rt, bk := fun σ' H' => D.bk (σ'.set i none) H', ct := fun σ' H' => D.ct (σ'.set i none) H' } (σ.set i (some (.ref a))) H)
section
variable {X : Cx} {x1 x2 x3 n : Str} {c1 c2 c3 : Value} {i kk : Nat} {body suite : List Stmt} {b₀ : Stmt} {p1 p2 p3 tp pos pos' : Pos} {tb : WX → TS} {ts : Addr → Value → Option Addr → TS}
theorem ps_try_asT (hs : X.stack = X.env :: X.outer) (hf : X.env.frame = some X.env.locals) (hN : X.N.Nodup) (hi : X.N[i]? = some n) (hln : X.env.kindOf n = some .local) (n1 : Names X x1 c1) (n2 : Names X x2 c2) (n3 : Names X x3 c3)
    (hb : ∀ (W : WX) (pn : List (Addr × Obj)) (xe : Value → Shared → Prop), Takes (X.tr pn xe) W → PassesOwn (model X.prog X.w) X.A X.env xe → PSs (X.tr pn xe) body (tb W))
    (hsu : ∀ (a : Addr) (oe : Obj) (cls : Value) (d : Option Addr) (pn : List (Addr × Obj)), Zc cls d oe → (∃ vs, oe.data = .fields vs) → PSs (X.suite a ((a, oe) :: pn)) (b₀ :: suite) (ts a cls d)) :
    PS X (.Try body [.ExceptHandler (some (.Tuple [.Name x1 p1, .Name x2 p2, .Name x3 p3] kk tp)) (some n) (b₀ :: suite) pos'] [] [] pos) (fun D σ H => tb (wAsT X.K [c1, c2, c3] X.N.length i ts D) D σ H) := by
  refine ⟨fun pins s σ H D I h => wpAny_Try_except ?_⟩
  have ok := I.ok
  have frames : X.A.frames = some (X.env :: X.outer) := by rw [ok.frames, hs]
  have run := (hb (wAsT X.K [c1, c2, c3] X.N.length i ts D) (X.pn ++ pins) (fun e s₁ => wpAny (model X.prog X.w) X.A (noteFrame e X.env) (fun _ s₂ => wpAny (model X.prog X.w) X.A (setFlight e none) (fun _ s₃ =>
    wpAny (model X.prog X.w) X.A (handleBy e X.env [.ExceptHandler (some (.Tuple [.Name x1 p1, .Name x2 p2, .Name x3 p3] kk tp)) (some n) (b₀ :: suite) pos']) (SP X pins D) X.xe s₃) X.xe s₂) X.xe s₁) (fun u s' xx => ?caught) PassesOwn.looking).run [] s σ H D (I.toTry _) h
  case caught =>
    obtain ⟨a, B, sI, pins', σ', H', cls, d, rfl, J', nb, up, sky, na, os, ag, hb1, hyes⟩ := xx
    have J : Inv X pins σ' H' sI := J'.ofTry ok
    have sky' : Sky B (X.env :: X.outer) a (Zc cls d) X.env.locals s'.heap := by rw [← hs]; exact sky
    show wpAny (model X.prog X.w) X.A (noteFrame (.ref a) X.env) _ _ _
    refine Sky.land Zc.steady frames hf sky' fun h3 fl3 up3 => ?_
    have J3 : Inv X pins σ' H' { s' with heap := h3 } := J.landed nb fl3.1 (up.trans up3) os ag
    obtain ⟨oe3, vs3, he3, hz3, hd3⟩ := fl3.there
    have away : a ∉ frs (X.env :: X.outer) := fun hm => by
      obtain ⟨_, o', e', hnf⟩ := fl3.2.2.1.mem hm
      rw [he3] at e'; cases e'
      exact hnf _ hd3
    have nL : a ≠ X.env.locals := fun z => away (List.mem_filterMap.mpr ⟨X.env, List.mem_cons_self, by rw [hf, z]⟩)
    have nF : a ∉ X.fs := fun hm => by
      obtain ⟨e, he, q⟩ := List.mem_filterMap.mp hm
      exact away (List.mem_filterMap.mpr ⟨e, List.mem_cons_of_mem _ he, q⟩)
    have S3 := J3.suite he3 hd3 na nL nF
    refine wpAny_handleBy_cons (codeAny_handlers_test ?_) (by intro q; cases q)
    have LT : PySem.W.Looks (model X.prog X.w) h3 (typeOf (.ref a)) cls := fun A Q E s k q => wpAny_typeOf_ref (k _ _ he3) (by rw [hz3.1]; exact q)
    have name : ∀ {x : Str} {c : Value} {np : Pos} {Q : Value → Shared → Prop} {E : Value → Shared → Prop}, Names X x c → Q c { s' with heap := h3 } → wpAny (model X.prog X.w) (X.A.mark (some (.ref a))) (eval (.Name x np) X.env) Q E { s' with heap := h3 } := fun {x c np Q E} hc q => by
      obtain ⟨hg, hdbg, hm⟩ := hc
      rcases hm with hm | ⟨hm, hv, hnn⟩
      · exact ld_glob (X := X.suite a ((a, oe3) :: (X.pn ++ pins))) S3 hg hm q hdbg
      · exact ld_blt (X := X.suite a ((a, oe3) :: (X.pn ++ pins))) S3 hg hm hv q hnn hdbg
    refine wpAny_Tuple (wpAny_items_cons (name n1 (wpAny_items_cons (name n2 (wpAny_items_cons (name n3 (wpAny_items_nil ⟨by size_fits, ?_⟩)))))))
    have kp : ∀ q o, h3.get? q = some o → (h3.push { cls := .type "tuple", data := .seq [c1, c2, c3].toArray }).get? q = some o := fun _ _ z => Heap.get?_push_of_some _ z
    refine (PySem.W.exm_tup3 (J3.kIn.keeps kp) (LT.keeps kp) (Heap.get?_push_size h3 rfl) hb1).here (codeAny_handlers_suite_as ?_)
    refine HandSPX.lands_againZ (flying_kept fl3 kp) fun h4 fl4 up4 => ?_
    have J4 : Inv X pins σ' H' { s' with heap := h4 } := J.landed nb fl4.1 ((up.trans up3).trans ((upTo_kept kp).trans up4)) os ag
    obtain ⟨oe4, vs4, he4, hz4, hd4⟩ := fl4.there
    have S4 := J4.suite he4 hd4 na nL nF
    refine store_ok (X := X.suite a ((a, oe4) :: (X.pn ++ pins))) (v := .ref a) S4 hN hi (.inl hln) rfl (fun s5 S5 => ?_) (.inr hln)
    refine wpAny_mono ((hsu a oe4 cls d (X.pn ++ pins) hz4 ⟨_, hd4⟩).run [] s5 _ H' _ S5 (hyes J.len a na)) (fun f s6 hsp => ?_) (fun _ _ z => False.elim z)
    have gone : ∀ {σ6 : L2.St} {H6 : Hp} {Q : Shared → Prop}, Inv (X.suite a ((a, oe4) :: (X.pn ++ pins))) [] σ6 H6 s6 → (∀ s7, Inv X pins (σ6.set i none) H6 s7 → Q s7) →
        wpAny (model X.prog X.w) X.A (do bindName X.env n .none; unbindBehindTheSuite X.env n pos') (fun _ s7 => Q s7) X.xe s6 := fun {σ6 H6 Q} S6 hq => gone_ok (S6.unsuite ok) hN hi hln hq
    rcases f with _ | _ | _ | u
    · obtain ⟨_, _, S6, q6⟩ := hsp; exact gone S6 fun s7 J7 => ⟨_, _, J7, q6⟩
    · obtain ⟨_, _, S6, q6⟩ := hsp; exact gone S6 fun s7 J7 => ⟨_, _, J7, q6⟩
    · obtain ⟨_, _, S6, q6⟩ := hsp; exact gone S6 fun s7 J7 => ⟨_, _, J7, q6⟩
    · obtain ⟨_, _, _, S6, r6, q6⟩ := hsp; exact gone S6 fun s7 J7 => ⟨_, _, _, J7, r6, q6⟩
  refine wpAny_mono run (fun f s1 hsp => ?_) fun e s1 he => he
  rcases f with _ | _ | _ | u
  · obtain ⟨σ', H', J', q⟩ := hsp; exact wpAny_execs_nil ⟨σ', H', J'.ofTry ok, q⟩
  · obtain ⟨σ', H', J', q⟩ := hsp; exact ⟨σ', H', J'.ofTry ok, q⟩
  · obtain ⟨σ', H', J', q⟩ := hsp; exact ⟨σ', H', J'.ofTry ok, q⟩
  · obtain ⟨v, σ', H', J', r, q⟩ := hsp; exact ⟨v, σ', H', J'.ofTry ok, r, q⟩
end
end DL
/-! DL25: a lambda without parameters, handed to a def that calls it. -/
namespace DL
open PySem PySem.Spec L2 LamX
open PyProof.Rows hiding St
section
variable {X : Cx} {pins : List (Addr × Obj)} {σ : L2.St} {H : Hp} {s : Shared}
abbrev lamQ (X : Cx) : Str := X.env.qual ++ "<lambda>"
/-- the lambda is made: what is known stays, tables grow -/
theorem lam_makeN {T : List (Addr × Str)} {c P : Addr} {params : Arguments} {body : Expr} {scope : Scope} {pos : Pos} {E : Value → Shared → Prop} {Q : Value → Shared → Prop} (I : Inv X pins σ H s) (TB : TabB X.base X.mg c P) (hcode : X.env.code = .ref c)
    (hm : (P, lamQ X) ∈ T) (hu : ∀ p ∈ T, p.1 = P → p.2 = lamQ X) (hT : Tabs T H) (hdef : defaultsOf params X.env = ([], [])) (hfree : ∀ y ∈ scope.names, y.2 = .free → ∃ c, X.env.cells.lookup y.1 = some c)
    (h : ∀ (f c' : Addr) (pm ctv : Value) (H1 : Hp) (s' : Shared), Inv X pins σ H1 s' → ExN T H H1 → (∀ b, H1 b = none → H b = none) → Tabs T H1 → (∀ H0 : Hp, Ex H0 H → (∀ p ∈ T, H0 p.1 = none) → Ex H0 H1) →
      s'.heap.get? f = some (PySem.W.kla_obj "<lambda>" (lamQ X) params body scope (cloFrom X.env.cells scope.names []) pm c' ctv) → H1 f = none → f ∉ frs X.stack → H1 c' = some (CodeO c' (lamQ X)) → Q (.ref f) s') :
    wpAny (model X.prog X.w) X.A (eval (.Lambda params body scope pos) X.env) Q E s := by
  have nT : T ≠ [] := List.ne_nil_of_mem hm
  refine PySem.W.kla_eval hdef ?_
  obtain ⟨ps, hP, ht, ha⟩ := hT _ hm
  have hP' : s.heap.get? P = some { cls := .none, data := .fields ps } := I.hok P _ hP
  have nofr : ∀ f, s.heap.objs.size ≤ f → f ∉ frs X.stack := fun f hf z => (List.mem_cons.mp (I.stkSub _ z)).elim (fun e => by
    have h1 := I.lt
    rw [← e] at h1
    exact Nat.lt_irrefl _ (Nat.lt_of_lt_of_le h1 hf)) fun e => I.nofs hf e
  have bP : s.heap.BuiltinsAt X.mg P := TB.bm.keeps I.bk
  cases hc : codeAmong pos ps.toList with
  | some cv =>
    obtain ⟨c', e, hco⟩ := ha pos cv hc
    subst e
    refine PySem.W.kla_makeFunctionHit (mg := X.mg) (c := c) (P := P) (ps := ps) (closure_ok hfree) I.ok.glob (I.mod.glob.keeps I.bk) hcode (TB.code.keeps I.bk) hP' ht hc bP fun ctv h' tk hx hsz => ?_
    have I1 := I.kept (t' := tk) (h' := h'.push (PySem.W.kla_obj "<lambda>" (lamQ X) params body scope (cloFrom X.env.cells scope.names []) ((X.mg "__name__").getD .none) c' ctv)) fun b o e => Heap.get?_push_of_some _ (hx b o e)
    exact h h'.objs.size c' _ ctv H _ I1 .refl (fun _ z => z) hT (fun _ e _ => e) (Heap.get?_push_size _ rfl) (I.hok.fresh hsz) (nofr _ hsz) hco
  | none =>
    refine PySem.W.kla_makeFunction (mg := X.mg) (c := c) (P := P) (ps := ps) (closure_ok hfree) I.ok.glob (I.mod.glob.keeps I.bk) hcode (TB.code.keeps I.bk) hP' ht hc TB.gP bP fun c' ctv h' tk hx hge hlt hrec htb => ?_
    obtain ⟨c2, oc, vs, t, e2, hoc, hd, hv⟩ := hrec
    cases e2
    have nC : H c' = none := I.hok.fresh hge
    have hsz : s.heap.objs.size ≤ h'.objs.size := Nat.le_trans hge (Nat.le_of_lt hlt)
    have I1 := inv_table (t' := tk) (q := lamQ X) (more := #[rawInt pos.line, rawInt pos.col, .ref c']) (h' := h'.push (PySem.W.kla_obj "<lambda>" (lamQ X) params body scope (cloFrom X.env.cells scope.names []) ((X.mg "__name__").getD .none) c' ctv)) I hP
      (fun b o hb e => Heap.get?_push_of_some _ (hx b o hb e)) (Heap.get?_push_of_some _ htb) hge ⟨oc, vs, t, Heap.get?_push_of_some _ hoc, hd, hv⟩
    generalize hH1 : upd (upd H P (.tbl (ps ++ #[rawInt pos.line, rawInt pos.col, .ref c']))) c' (CodeO c' (lamQ X)) = H1 at I1
    have atP : H1 P = some (.tbl (ps ++ #[rawInt pos.line, rawInt pos.col, .ref c'])) := by rw [← hH1, upd_ne (ne_of_none hP nC), upd_same]
    have atC : H1 c' = some (CodeO c' (lamQ X)) := by rw [← hH1, upd_same]
    have other : ∀ b, b ≠ P → b ≠ c' → H1 b = H b := fun b z1 z2 => by rw [← hH1, upd_ne z2, upd_ne z1]
    have keep : ∀ b o, H b = some o → b ≠ P → H1 b = some o := fun b o e z => by rw [other b z (ne_of_none e nC)]; exact e
    have notP : ∀ b o, H b = some o → (∀ qs, o ≠ .tbl qs) → b ≠ P := fun b o e n z => by
      rw [z, hP] at e
      exact n ps (Option.some.inj e).symm
    have eL : (ps ++ #[rawInt pos.line, rawInt pos.col, .ref c']).toList = ps.toList ++ [rawInt pos.line, rawInt pos.col, .ref c'] := by simp
    refine h h'.objs.size c' _ ctv H1 _ I1 (fun b o e => ?_) (fun b e => ?_) (fun p hp => ?_) (fun H0 e0 n0 b o e => ?_) (Heap.get?_push_size _ rfl) ?_ (nofr _ hsz) atC
    · by_cases hb : b = P
      · rw [hb, hP] at e
        cases e
        exact .inr ⟨nT, _, _, rfl, by rw [hb]; exact atP⟩
      · exact .inl (keep b o e hb)
    · have z1 : b ≠ P := fun z => by rw [z, atP] at e; cases e
      have z2 : b ≠ c' := fun z => by rw [z, atC] at e; cases e
      rw [← other b z1 z2]; exact e
    · by_cases hb : p.1 = P
      · rw [hu p hp hb, hb]
        refine ⟨_, atP, by rw [eL]; exact PySem.TriplesOk_snoc _ _ _ _ ht, fun p' cv hcv => ?_⟩
        rw [eL] at hcv
        rcases among_app _ ht hcv with z | z
        · obtain ⟨c0, e1, e2⟩ := ha p' cv z
          exact ⟨c0, e1, keep _ _ e2 (notP _ _ e2 codeO_ne)⟩
        · exact ⟨c', z, atC⟩
      · obtain ⟨ps', a1, a2, a3⟩ := hT p hp
        refine ⟨ps', keep _ _ a1 hb, a2, fun p' cv hcv => ?_⟩
        obtain ⟨c0, e1, e2⟩ := a3 p' cv hcv
        exact ⟨c0, e1, keep _ _ e2 (notP _ _ e2 codeO_ne)⟩
    · have hb : b ≠ P := fun z => by
        have := n0 _ hm
        rw [z] at e
        rw [show H0 P = none from this] at e
        cases e
      exact keep b o (e0 b o e) hb
    · have n1 : h'.objs.size ≠ c' := Nat.ne_of_gt hlt
      have n2 : h'.objs.size ≠ P := Nat.ne_of_gt (Nat.lt_of_lt_of_le (Heap.lt_size hP') hsz)
      rw [other _ n2 n1]
      exact I.hok.fresh hsz
/-- x(), in the def that got the lambda -/
theorem pe_actG {CXg : CXT} {Eg : XK} {Ng : List Str} {qg : Str} {sg : Scope} {g f c' : Addr} {cdg pm ctv : Value} {params : Arguments} {body : Expr} {scope : Scope} {k i : Nat} {a : Str} {pn : List (Addr × Obj)} {xe : Value → Shared → Prop} {W : WX} {E : XK} {tb : TE} {p1 p2 : Pos}
    (I : Inv X pins σ H s) (L : LamS X.env.scope scope) (hf : s.heap.get? f = some (PySem.W.kla_obj "<lambda>" (lamQ X) params body scope (cloFrom X.env.cells scope.names []) pm c' ctv)) (hfn : H f = none) (hfr : f ∉ frs X.stack)
    (hbind : bindArgs (PySem.W.kla_fn "<lambda>" (lamQ X) params body scope (cloFrom X.env.cells scope.names []) pm (.ref c') ctv) ⟨[], []⟩ = pure [])
    (tk : Takes ((cxOf CXg X.prog X.w X.K X.mg X.base Ng qg sg g cdg X.A X.stack s H Eg).tr pn xe) W) (hW : ∀ cls d σ' H', E cls d H' → W cls d σ' H') (room : RoomG (k + 1) (X.A.deeper (envOfC qg sg s.heap.objs.size g cdg)))
    (hbody : ∀ (A : Around) (outer : List Env) (s : Shared) (H : Hp), RoomG k (A.deeper (lamEnv X scope s.heap.objs.size f c')) → PE (lamCx X A outer s H E scope f c') body tb)
    (hN : Ng[i]? = some a) (hv : Vis sg a) (hd : (a == ("__debug__" : Str)) = false := by decide) (hcd : (a == ("__classdict__" : Str)) = false := by decide) :
    PE ((cxOf CXg X.prog X.w X.K X.mg X.base Ng qg sg g cdg X.A X.stack s H Eg).tr pn xe) (.Call (.Name a p1) [] [] p2)
      (fun σZ HZ Q => σZ[i]? = some (some (.ref f)) ∧ HZ c' = some (CodeO c' (lamQ X)) ∧ tb σ HZ Q) := by
  refine ⟨fun pinsZ sZ σZ HZ Q IZ ⟨hs, hc, ht⟩ => ?_⟩
  refine wpAny_Call_Name_kw (thn ((pe_var (pos := p1) (i := i) hN hv hd hcd).run pinsZ sZ σZ HZ (fun v H1 => v = .ref f ∧ H1 = HZ) IZ ⟨.ref f, hs, rfl, rfl⟩) fun u s1 ⟨v, H1, I1, r1, q1⟩ => ?_)
  obtain ⟨rfl, rfl⟩ := q1
  obtain rfl : u = Value.ref f := r1
  have of1 := I1.base.keep f _ hf hfn hfr (fun z => nomatch (show f ∈ ([] : List Addr) from z))
  refine PySem.W.callWith_F0 ⟨_, _, _, _, of1⟩ ?_
  have un : Un (frs X.stack) [] H H1 s.heap s1.heap := I1.base
  obtain ⟨⟨oc, vs, t, hoc, hdc, hvc⟩, _, _⟩ := I1.hok c' _ hc
  have rc : codeAny (model X.prog X.w) (X.A.deeper (envOfC qg sg s.heap.objs.size g cdg)) (.call (.ref f) ⟨[], []⟩) (CR (CXD X.prog X.w) (envOfC qg sg s.heap.objs.size g cdg :: X.stack) X.prog X.w H1 s1 Q E) s1 := by
    refine PySem.W.kla_callFunE room.r.depth of1 rfl L.co L.gen rfl ⟨c', oc, vs, t, rfl, hoc, hdc, hvc⟩ ?_
    rw [hbind]
    refine wpAny_pure (wpAny_newFunctionEnv (fun y hy => (L.own y hy).2) (fun y hy => absurd hy (by simp)) (fun h₁ hns hsb => ⟨I1.nolimit.fresh _ hsb, ?_⟩) L.kind)
    show codeAny _ _ (.expr body (lamEnv X scope s1.heap.objs.size f c')) _ _
    have kp : ∀ b o, s1.heap.get? b = some o → h₁.get? b = some o := fun b o e => hsb.extBut b o (Nat.ne_of_lt (Heap.lt_size e)) (Heap.get?_push_of_some _ e)
    have J := lam_start2 (A := X.A.deeper (envOfC qg sg s.heap.objs.size g cdg)) (outer := envOfC qg sg s.heap.objs.size g cdg :: X.stack) (E := E) (f := f) (c' := c') (tk := s1.toks + ([] : List (Str × Value)).length) I L I1.env0 room.r.hd un hns kp
    refine PySem.W.kla_codeExpr (wpAny_mono ((hbody _ _ s1 H1 (room.deeper _)).run [] _ _ H1 Q J ht) (fun v s' hq => ?_) fun e s' hq => hq)
    obtain ⟨w', H', J', rv, q⟩ := hq
    exact ⟨w', H', J'.os, J'.bare, J'.base, J'.hok, rv, q⟩
  have hx : Passes (CXD X.prog X.w) ((cxOf CXg X.prog X.w X.K X.mg X.base Ng qg sg g cdg X.A X.stack s H Eg).tr pn xe) E := passes_call tk hW
  refine wpAny_call (codeAny_mono rc fun r s' hq => ?_)
  rcases r with e | fl
  · exact hx pinsZ σZ H1 s1 e s' I1 hq
  · rcases fl with _ | _ | _ | u
    · exact False.elim hq
    · exact False.elim hq
    · exact False.elim hq
    · exact I1.after hq
end
end DL
/-! DL29: a call with a lambda; the def that calls it and tells the error. -/
namespace DL
open PySem PySem.Spec L2 LamX
open PyProof.Rows hiding St
/-- what a lambda's making leaves -/
structure TabGrow (T : List (Addr × Str)) (H H1 : Hp) : Prop where
  e : ExN T H H1
  n : ∀ b, H1 b = none → H b = none
  t : Tabs T H1
  x : ∀ H0 : Hp, Ex H0 H → (∀ p ∈ T, H0 p.1 = none) → Ex H0 H1
/-- the def at g, what it makes of the lambda that it is handed -/
def GivesG (X : Cx) (k : Nat) (Ng : List Str) (x : Str) (sg : Scope) (g : Addr) (cdg : Value) (bg : List Stmt) (a q : Str) (TT : (XK → Hp → VK → Prop) → Hp → VK → Prop) : Prop :=
  ∀ (f c' : Addr) (s : Shared) (H : Hp) (Q : VK) (tl : XK → Hp → VK → Prop), RoomG (k + 1) (X.A.deeper (envOfC x sg s.heap.objs.size g cdg)) →
    (∀ (W : WX) (pn : List (Addr × Obj)) (xe : Value → Shared → Prop) (E : XK) (p1 p2 : Pos), Takes ((cxOf (CXD X.prog X.w) X.prog X.w X.K X.mg X.base Ng x sg g cdg X.A X.stack s H EN).tr pn xe) W → (∀ cls d σ' H', E cls d H' → W cls d σ' H') →
      PE ((cxOf (CXD X.prog X.w) X.prog X.w X.K X.mg X.base Ng x sg g cdg X.A X.stack s H EN).tr pn xe) (.Call (.Name a p1) [] [] p2) (fun σZ HZ Q => σZ[0]? = some (some (.ref f)) ∧ HZ c' = some (CodeO c' q) ∧ tl E HZ Q)) →
    H c' = some (CodeO c' q) → TT tl H Q →
    ∃ t, PSs (cxOf (CXD X.prog X.w) X.prog X.w X.K X.mg X.base Ng x sg g cdg X.A X.stack s H EN) bg t ∧ t { nx := fun _ H' => Q .non H', rt := Q } (L2.start Ng [.ref f]) H
def tLamG (T : List (Addr × Str)) (TT : (XK → Hp → VK → Prop) → Hp → VK → Prop) (t : XK → TE) : TE := fun σ H Q => Tabs T H ∧ ∀ H1, TabGrow T H H1 → TT (fun E H' Q' => t E σ H' Q') H1 Q
section
variable {X : Cx}
theorem _root_.L2.PE.weak {e : Expr} {te : TE} (h : PE X e te) : PE X e (fun σ H Q => ∃ Q0 : VK, te σ H Q0 ∧ ∀ v H', Q0 v H' → Q v H') :=
  ⟨fun pins s σ H Q I ⟨Q0, q, k⟩ => wpAny_mono (h.run pins s σ H Q0 I q) (fun u s1 ⟨v, H1, J, r, z⟩ => ⟨v, H1, J, r, k v H1 z⟩) fun _ _ z => z⟩
theorem pe_lamcallG {T : List (Addr × Str)} {TT : (XK → Hp → VK → Prop) → Hp → VK → Prop} {x a : Str} {g c P : Addr} {j k : Nat} {pg : Arguments} {bg : List Stmt} {sg : Scope} {dV kV doc pm cdv ct oc : Value} {an od : Option Addr} {osl : Array (Option Value)} {Ng : List Str}
    {params : Arguments} {body : Expr} {scope : Scope} {t : XK → TE} {p lpos pos : Pos} (hg : Gl X x) (hm : X.mg x = some (.ref g)) (hk : PySem.W.keepIn X.K (.ref g) = true)
    (lk : X.K.lookup g = some ⟨oc, od, .func (PySem.W.fnOf x x pg bg sg dV kV doc pm an cdv ct), osl⟩) (hcg : PySem.W.codeIn X.K cdv x = true) (hb : L2.Binds X.K (PySem.W.fnOf x x pg bg sg dV kV doc pm an cdv ct) [a] []) (Sg : FnScope Ng [a] sg) (hNg : Ng[0]? = some a) (hva : Vis sg a)
    (hG : GivesG X k Ng x sg g cdv bg a (lamQ X) TT) (TB : TabB X.base X.mg c P) (hcode : X.env.code = .ref c) (hmT : (P, lamQ X) ∈ T) (hu : ∀ p ∈ T, p.1 = P → p.2 = lamQ X) (room : RoomG j X.A) (hj : k + 2 ≤ j) (L : LamS X.env.scope scope) (hdef : defaultsOf params X.env = ([], []))
    (hbind : ∀ (q : Str) (cl : List (Str × Addr)) (pm cv ctv : Value), bindArgs (PySem.W.kla_fn "<lambda>" q params body scope cl pm cv ctv) ⟨[], []⟩ = pure [])
    (hbody : ∀ (A : Around) (outer : List Env) (s : Shared) (H : Hp) (E : XK) (f c' : Addr), RoomG k (A.deeper (lamEnv X scope s.heap.objs.size f c')) → PE (lamCx X A outer s H E scope f c') body (t E))
    (hdb : (x == ("__debug__" : Str)) = false := by decide) (hd : (a == ("__debug__" : Str)) = false := by decide) (hcd : (a == ("__classdict__" : Str)) = false := by decide) :
    PE X (.Call (.Name x p) [.Lambda params body scope lpos] [] pos) (tLamG T TT t) := by
  refine ⟨fun pins s σ H Q I ⟨hT, h⟩ => ?_⟩
  have room2 := room.mono hj
  refine wpAny_Call_Name_kw (ld_glob I hg hm (PySem.W.callWith_K (h₀ := X.base) I.ok.mod.kin hk ?_ (by rfl) (by rfl)) hdb)
  show wpAny _ _ (spliced ((false, eval (.Lambda params body scope lpos) X.env) :: backTo pos (starEach [] X.env))) _ _ s
  refine Calls.spliced_cons (lam_makeN I TB hcode hmT hu hT hdef (L.has I.ok) fun f c' pm' ctv H1 s' I1 e1 n1 T1 x1 hf hfn hfr hco => Calls.spliced_nil ⟨I1.kIn, ?_⟩)
  have run : codeAny (model X.prog X.w) X.A (.call (.ref g) ⟨[.ref f], []⟩) (CR (CXD X.prog X.w) X.stack X.prog X.w H1 s' Q EN) s' :=
    run_ofS (N := Ng) (ps := [a]) (us := [.ref f]) (vs := [.ref f]) lk hcg Sg room2.r I1.env0 (hb s' [.ref f] I1.kIn rfl) (.cons rfl .nil) rfl fun r2 =>
      hG f c' s' H1 Q (fun E H' Q' => t E σ H' Q') ⟨r2, room.g⟩ (fun W pn xe E p1 p2 tk hW => pe_actG (i := 0) I1 L hf hfn hfr (hbind _ _ _ _ _) tk hW ⟨r2, room.g⟩ (fun A outer s H r3 => hbody A outer s H E f c' r3) hNg hva hd hcd) hco (h H1 ⟨e1, n1, T1, x1⟩)
  refine wpAny_call (codeAny_mono run fun r s2 z => ?_)
  rcases r with er | fl
  · obtain ⟨_, _, _, _, _, _, _, _, _, _, _, _, z⟩ := z; exact z.elim
  · rcases fl with _ | _ | _ | u
    · exact z.elim
    · exact z.elim
    · exact z.elim
    · exact I1.after z
/-- got = a(); else the error's telling -/
def TTans (K : PySem.W.Frag) (cs : List Value) (sp : Value → Option Addr → Hp → VK → Prop) : (XK → Hp → VK → Prop) → Hp → VK → Prop := fun tl H Q =>
  tl (fun cls d H' => PySem.W.exmAny K cls cs = some true ∧ sp cls d H' Q) H (fun v H' => ∀ p, H' p = none → Q (.ref p) (upd H' p (.lst [.str "back", v])))
theorem answer_gives {k kk j2 : Nat} {x a got n srt q x1 x2 x3 : Str} {c1 c2 c3 : Value} {sg : Scope} {g fS : Addr} {fdS : FuncData} {pS : Str} {sp : Value → Option Addr → Hp → VK → Prop} {cdg : Value} {p1 p2 p3 p4 q1 q2 q3 tp hp r1 r2 r3 r4 r5 r6 r7 r8 tp2 : Pos}
    (FS : FnE X.prog X.w X.K X.mg X.base k fS fdS pS sp) (hmS : X.mg srt = some (.ref fS)) (hkS : PySem.W.keepIn X.K (.ref fS) = true) (hbS : Binds X.K fdS [pS] []) (hglS : sg.names.lookup srt = some .globalImplicit) (hdS : (srt == ("__debug__" : Str)) = false)
    (nd : ([a, got, n] : List Str).Nodup) (hg1 : sg.names.lookup got = some .local) (hg2 : sg.names.lookup n = some .local)
    (n1 : sg.names.lookup x1 = some .globalImplicit ∧ (x1 == ("__debug__" : Str)) = false ∧ X.mg x1 = some c1) (n2 : sg.names.lookup x2 = some .globalImplicit ∧ (x2 == ("__debug__" : Str)) = false ∧ X.mg x2 = some c2) (n3 : sg.names.lookup x3 = some .globalImplicit ∧ (x3 == ("__debug__" : Str)) = false ∧ X.mg x3 = some c3)
    (dg : (got == ("__debug__" : Str)) = false ∧ (got == ("__classdict__" : Str)) = false) (dn : (n == ("__debug__" : Str)) = false ∧ (n == ("__classdict__" : Str)) = false) (kd : sg.kind = .function) :
    GivesG X k [a, got, n] x sg g cdg [.Try [.Assign [.Name got p1] (.Call (.Name a p2) [] [] p3) p4] [.ExceptHandler (some (.Tuple [.Name x1 q1, .Name x2 q2, .Name x3 q3] kk tp)) (some n) [.Return (some (.Call (.Name srt r1) [.Name n r2] [] r3)) r4] hp] [] [] tp2, .Return (some (.List [.Constant (.str "back") j2 r5, .Name got r6] r7)) r8] a q (TTans X.K [c1, c2, c3] sp) := by
  intro f c' s H Q tl room act hc h
  refine ⟨_, pss_cons (ps_try_asT (X := cxOf (CXD X.prog X.w) X.prog X.w X.K X.mg X.base [a, got, n] x sg g cdg X.A X.stack s H EN) (i := 2) (c1 := c1) (c2 := c2) (c3 := c3) (tb := fun W D σ H => ∃ Ech : XK, (∀ cls d σ' H', Ech cls d H' → W cls d σ' H') ∧ tAsg (fun σZ HZ Q => ∃ Q0 : VK, (σZ[0]? = some (some (V.ref f)) ∧ HZ c' = some (CodeO c' q) ∧ tl Ech HZ Q0) ∧ ∀ v H', Q0 v H' → Q v H') (gName 1) D σ H)
      (ts := fun a' cls d => tRet (tSort X.K a' cls d sp (tCons (tVar 2) tNil))) rfl rfl nd rfl hg2 ⟨n1.1, n1.2.1, .inl n1.2.2⟩ ⟨n2.1, n2.2.1, .inl n2.2.2⟩ ⟨n3.1, n3.2.1, .inl n3.2.2⟩ (fun W pn xe tk _ => ?hb) (fun a' oe cls d pn hz hv => ?hsu)) (pss_one (ps_ret (pe_lst (pa_cons pe_str (pa_cons (pe_var (i := 1) rfl (.inl hg1) dg.1 dg.2) pa_nil))))), ?fin⟩
  case hb =>
    refine ⟨fun pins s' σ H' D I ⟨Ech, hW, h'⟩ => ?_⟩
    exact (pss_one (ps_set (i := 1) nd rfl (.inl hg1) (act W pn xe Ech p2 p3 tk hW).weak)).run pins s' σ H' D I h'
  case hsu =>
    have pv2 : PA ((cxOf (CXD X.prog X.w) X.prog X.w X.K X.mg X.base [a, got, n] x sg g cdg X.A X.stack s H EN).suite a' ((a', oe) :: pn)) [.Name n r2] (tCons (tVar 2) tNil) := pa_cons (pe_var (i := 2) rfl (.inl hg2) dn.1 dn.2) pa_nil
    exact pss_one (ps_ret (pe_sort FS (j := k) ⟨⟨(room.r.mono (Nat.le_succ k)).dp, (room.r.mono (Nat.le_succ k)).un⟩, room.g⟩ (Nat.le_refl _) hz hv hmS hkS hbS pv2 hglS hdS))
  case fin =>
    refine ⟨fun cls d H' => PySem.W.exmAny X.K cls [c1, c2, c3] = some true ∧ sp cls d H' Q, fun cls d σ' H' ⟨e1, e2⟩ => ⟨e1, fun hl b hb => ?_⟩, _, ⟨rfl, hc, h⟩, fun v H' hq => ?_⟩
    · have l3 : σ'.length = 3 := hl
      exact ⟨.ref b, by rw [List.getElem?_set_self (by rw [l3]; decide)], rfl, e2⟩
    · exact ⟨v, rfl, (show 2 ≤ sizeLine by decide), hq⟩
end
end DL
/-! DL30: the same over data. -/
namespace DL
open PySem PySem.Spec L2 LamX
open PyProof.Rows hiding St
section
variable {w : Wx} {ρ : Env'} {Φ : D → Env' → Prop}
theorem tabs_of {T : List (Addr × Str)} {H0 H : Hp} (t : TabA T H0 H) : Tabs T H := fun p hp => (t p hp).1
/-- _law_answer(lambda: e) -/
theorem wE_ans {S : ESp} {cs : List Value} {t : XK → TE} (h : ∀ EX, wE ⟨w.K, EX, fun x => PySem.W.exmAny w.K (.ref x.C) cs = some true ∧ S x (fun d => Φ d ρ), []⟩ (t EX) (hide ρ) fun d _ => Φ (.lst [.str "back", d]) ρ) :
    wE w (tLamG w.T (TTans w.K cs (liftE w.K S)) t) ρ Φ := fun c H0 H σ Q a x k => by
  have tb : TabA w.T H0 H := x.t ▸ a.tab
  refine ⟨tabs_of tb, fun H1 g => ?_⟩
  have y1 : PX ⟨H, H0, w.T⟩ H0 H1 := ⟨g.e, .refl _, g.x H0 a.px.i fun p hp => (tb p hp).2, fun p _ h => h⟩
  have tb1 : TabA w.T H0 H1 := fun p hp => ⟨g.t p hp, (tb p hp).2⟩
  have a1 : At w.K c ρ H0 H1 σ := by
    have := y1
    rw [← x.t] at this tb1
    exact a.goT this tb1
  have back : ∀ {v d H0' H'}, Φ d ρ → PX ⟨H1, H0, []⟩ H0' H' → Rep w.K H0' v d → Q v H' := fun {v d H0' H'} hΦ p r => k v d ρ H0' H' hΦ (a1.go p) p.e0 r
  refine h _ ⟨H1, H0, []⟩ H0 H1 σ _ a1.fresh ⟨rfl, fun y ⟨hy, hS⟩ dd H0' H' p rx => ⟨hy, H0', y, fun d => Φ d ρ, p.i, rfl, rx, hS, fun v d H0'' H'' hΦ p2 r => back hΦ (p.trans p2) r⟩⟩ fun v d ρ' H0' H' hΦ a2 e2 r p hp => ?_
  have y2 : PX ⟨H', H0', []⟩ (upd H0' p (.lst [.str "back", v])) (upd H' p (.lst [.str "back", v])) := (PX.refl a2.px.i).new hp
  exact back hΦ (a2.px.trans y2) (.lst upd_same (.cons (.str _) (.cons (r.mono y2.e0) .nil)))
end
end DL
/-! DL31: the def that tells the error: its rules. -/
namespace DL
open PySem PySem.Spec L2 LamX
open PyProof.Rows hiding St
theorem hu64E {k : Nat} {A : Around} (r : RoomE k A) : A.units + 64 < cLine := by have := r.r.un; omega
theorem hu65E {k : Nat} {A : Around} (r : RoomE k A) : A.units + 65 < cLine := by have := r.r.un; omega
/-- list.count(b) of a list of True and False -/
def rCntB (K : PySem.W.Frag) : V → List V → Hp → VK → Prop := fun x xs H Q => ∃ (p : Addr) (bs : List Bool) (c : Bool), x = .ref p ∧ xs = [.bl c] ∧ SqL K H p (bs.map V.bl) ∧ Q (.int (bs.count c : Nat)) H
def eqb (c : Bool) : Value → Bool := fun v => match v with | .bool b => b == c | _ => false
theorem bools_of : ∀ {bs : List Bool} {us : List Value}, Vals (bs.map V.bl) us → us = bs.map Value.bool
  | [], _, r => by cases r; rfl
  | b :: bs, _, r => by
    cases r with
    | cons h t =>
      rw [bools_of t]
      cases (show _ = Value.bool b from h)
      rfl
theorem mt_bcount {X : Cx} : MtR X "list.count" (rCntB X.K) := by
  intro pins s σ H x xs v us Q I rx rxs h
  obtain ⟨p, bs, c, rfl, rfl, hs, q⟩ := h
  cases rx
  obtain ⟨u, rfl, ru⟩ := rxs.one
  obtain rfl : u = Value.bool c := ru
  obtain ⟨its, rv, ⟨⟨cls, dd, data, sl⟩, n, ho, hc, hdn, hd⟩, hlen⟩ := I.list hs
  simp only at hc hd
  subst hc hd
  have hi := bools_of rv
  refine call_meets PySem.F.slot_list_count ⟨_, ho, rfl⟩ PySem.F.entry_list_count (PySem.F.args_list_count_2 _ _)
    (SeqAt.list_countAt p its.toArray n dd sl (.bool c) (eqb c)) ⟨ho, fun y hy => ?_, ?_⟩
  · have hy : y ∈ its := by simpa using hy
    rw [hi] at hy
    obtain ⟨b, _, rfl⟩ := List.mem_map.mp hy
    have := eqAt_V (A := X.A.in1) (s := s) (y := V.bl b) (x := V.bl c) (u := Value.bool b) (v := Value.bool c) rfl rfl rfl rfl
    have e : eqV (V.bl b) (V.bl c) = eqb c (Value.bool b) := by cases b <;> cases c <;> rfl
    rw [e] at this
    exact this
  · have ec : its.toArray.toList.countP (eqb c) = bs.count c := by
      rw [List.toList_toArray, hi, List.countP_map]
      unfold List.count
      congr 1
    refine ⟨.int (bs.count c : Nat), H, I.tok _, ⟨s.toks, ?_⟩, q⟩
    show Value.int ((its.toArray.toList.countP (eqb c) : Nat) : Int) s.toks = Value.int ((bs.count c : Nat) : Int) s.toks
    rw [ec]
section
variable {X : Cx} (K : PySem.W.Frag) {j : Nat}
theorem k_eqE (room : RoomE j X.A) (h : X.K = K := by rfl) : OpR X (compareOp .Eq) (rEqA K) := h ▸ OpR.or op_eq (op_eqD (hu64E room))
theorem k_reprE (room : RoomE j X.A) (h : X.K = K := by rfl) : CallR X (.builtin "repr") (rRepr K) := h ▸ call_reprD room.g (hu65E room)
theorem k_isX {a D : Addr} {oe : Obj} {dd : Option Addr} (hz : Zc (.ref D) dd oe) (hf : ∃ vs, oe.data = .fields vs) (hp : (a, oe) ∈ X.pn) (h : X.K = K := by rfl) : CallR X (.builtin "isinstance") (rIsX K D a dd) := h ▸ call_isX hp hz hf
theorem k_fldX {a D : Addr} {oe : Obj} {dd : Option Addr} {e : Expr} {te : TE} {pos : Pos} {n : Str} (hz : Zc (.ref D) dd oe) (hf : ∃ vs, oe.data = .fields vs) (hp : (a, oe) ∈ X.pn) (he : PE X e te)
    (hb : attributeBase e n X.env (eval e X.env) = eval e X.env := by rfl) (h : X.K = K := by rfl) : PE X (.Attribute e n pos) (tFldX K D a dd n te) := h ▸ pe_fldX hp hz hf he hb
theorem k_count (h : X.K = K := by rfl) : MtR X "list.count" (rCntB K) := h ▸ mt_bcount
end
def cntG (x : D) (ds : List D) (Φ : D → Prop) : Prop := ∃ (bs : List Bool) (c : Bool), x = .lst (bs.map D.bl) ∧ ds = [.bl c] ∧ Φ (.int (bs.count c : Nat))
theorem rep_bls {K : PySem.W.Frag} {H : Hp} : ∀ {bs : List Bool} {vs : List V}, RepAll K H vs (bs.map D.bl) → vs = bs.map V.bl
  | [], _, r => by cases r; rfl
  | b :: bs, _, r => by
    cases r with
    | cons h t => cases h; rw [rep_bls t]; rfl
theorem mtd_count {K : PySem.W.Frag} : MtD K (rCntB K) cntG := fun H0 H x xs dx ds Φ Q e rx rs ⟨bs, c, hx, hd, g⟩ k => by
  subst hx hd
  obtain ⟨v, rfl, r⟩ := vals_one rs
  cases r
  cases rx with
  | lst h hr => exact ⟨_, bs, c, rfl, rfl, .inl (.inl (by rw [← rep_bls hr]; exact e _ _ h)), fin0 e g (.int _) k⟩
end DL
/-! DL26: == and != where one side is an object with an own __eq__. -/
namespace DL
open PySem PySem.Spec L2
open PyProof.Rows hiding St
section
variable {prog : Program} {w : World} {A : Around} {E : Value → Shared → Prop} {s : Shared} {K : PySem.W.Frag} {x C dx l : Addr} {Q : Fin → Shared → Prop}
theorem dec_tuple (X : K.In s.heap) (hx : s.heap.get? x = some (PySem.W.instObj C dx)) (hs : PySem.W.subIn K (.ref C) (.type "tuple") = some false) (hq : Q (.done (.ret .notImplemented)) s) : wpAny (model prog w) A (Builtin.«tuple.__eq__» ⟨[.ref l, .ref x], []⟩) Q E s := by
  repeat (first | (with_reducible refine wpAny_loadPart_at hx ?_) | (with_reducible refine wpAny_bind ((PySem.W.looks_subIn X hs).here ?_)) | (with_reducible refine (PySem.W.looks_subIn X hs).here ?_) | wp_step)
  exact hq
theorem dec_list (X : K.In s.heap) (hx : s.heap.get? x = some (PySem.W.instObj C dx)) (hs : PySem.W.subIn K (.ref C) (.type "list") = some false) (hq : Q (.done (.ret .notImplemented)) s) : wpAny (model prog w) A (Builtin.«list.__eq__» ⟨[.ref l, .ref x], []⟩) Q E s := by
  repeat (first | (with_reducible refine wpAny_loadPart_at hx ?_) | (with_reducible refine wpAny_bind ((PySem.W.looks_subIn X hs).here ?_)) | (with_reducible refine (PySem.W.looks_subIn X hs).here ?_) | wp_step)
  exact hq
theorem dec_dict (X : K.In s.heap) (hx : s.heap.get? x = some (PySem.W.instObj C dx)) (hs : PySem.W.subIn K (.ref C) (.type "dict") = some false) (hq : Q (.done (.ret .notImplemented)) s) : wpAny (model prog w) A (Builtin.«dict.__eq__» ⟨[.ref l, .ref x], []⟩) Q E s := by
  repeat (first | (with_reducible refine wpAny_loadPart_at hx ?_) | (with_reducible refine wpAny_bind ((PySem.W.looks_subIn X hs).here ?_)) | (with_reducible refine (PySem.W.looks_subIn X hs).here ?_) | wp_step)
  exact hq
theorem dec_str {z : Str} {t : Tok} (hx : s.heap.get? x = some (PySem.W.instObj C dx)) (hq : Q (.done (.ret .notImplemented)) s) : wpAny (model prog w) A (Builtin.«str.__eq__» ⟨[.str z t, .ref x], []⟩) Q E s := by
  wp_walk
  exact hq
theorem dec_int {z : Int} {t : Tok} (hx : s.heap.get? x = some (PySem.W.instObj C dx)) (hq : Q (.done (.ret .notImplemented)) s) : wpAny (model prog w) A (Builtin.«int.__eq__» ⟨[.int z t, .ref x], []⟩) Q E s := by
  wp_walk
  exact hq
theorem dec_bool {z : Bool} (hx : s.heap.get? x = some (PySem.W.instObj C dx)) (hq : Q (.done (.ret .notImplemented)) s) : wpAny (model prog w) A (Builtin.«int.__eq__» ⟨[.bool z, .ref x], []⟩) Q E s := by
  wp_walk
  exact hq
theorem dec_none (hq : Q (.done (.ret .notImplemented)) s) : wpAny (model prog w) A (Builtin.«NoneType.__eq__» ⟨[.none, .ref x], []⟩) Q E s := by
  wp_walk
  exact hq
end
section
variable {prog : Program} {w : World} {A : Around} {E : Value → Shared → Prop} {s : Shared} {K : PySem.W.Frag} {x C f : Addr} {ox : Obj} {od : Option Obj} {u b : Value}
/-- the built-in at u says nothing about x -/
def Declines (prog : Program) (w : World) (A : Around) (E : Value → Shared → Prop) (u : Value) (x : Addr) (s : Shared) : Prop := ∀ Q : Option Value → Shared → Prop, Q none s → wpAny (model prog w) A (tryCompare u "__eq__" (.ref x)) Q E s
theorem dec_of {T id : String} {B : Builtin} (slot : Slot T "__eq__" id) (hT : s.TypeIs u T) (entry : entryFor table id = some B) (args : argsOk id ⟨[u, .ref x], []⟩)
    (body : ∀ (E' : Value → Shared → Prop) (Q : Fin → Shared → Prop), Q (.done (.ret .notImplemented)) s → wpAny (model prog w) A.in1 (B ⟨[u, .ref x], []⟩) Q E' s) : Declines prog w A E u x s := fun Q hq =>
  wpAny_tryCompare_declines hT slot (GQ.call_here slot hT entry args (body _ _ (show _ from ⟨rfl, hq⟩)))
theorem rc_left {T : String} {Q : Value → Shared → Prop} (hu : A.units < cLine) (X : K.In s.heap) (I : PySem.W.InstAt s.heap x ox C od) (hT : s.TypeIs u T) (hsub : PySem.W.subIn K (.ref C) (.type T) = some false)
    (t : Declines prog w A E u x s) (hs : PySem.W.findIn K (.ref C) "__eq__" = some (some (.ref f))) (hf : PySem.W.isFn K (.ref f) = true) (h : wpAny (model prog w) A (call (.ref f) [.ref x, u]) (PySem.W.CmpBack Q) E s) :
    wpAny (model prog w) A (richCompare .Eq u (.ref x)) Q E s := by
  have one : wpAny (model prog w) A (tryCompare (.ref x) (cmpInfo .Eq).2.2 u) (fun r s' => ∃ v, r = some v ∧ Q v s') E s := by
    unfold tryCompare
    refine wpAny_bind (PySem.W.ifBound_K X I hs hf (wpAny_mono h (fun v s' hv => ?_) fun _ _ e => e))
    cases v <;> first | exact hv.elim | exact wpAny_pure ⟨_, rfl, hv⟩
  unfold richCompare
  simp only [hT.oneThing_none]
  refine wpAny_holding (wpAny_bind (wpAny_cRoomFor hu ?_))
  refine wpAny_bind (wpAny_typeOf hT (wpAny_bind (I.type.here ?_)))
  rw [if_pos (show (Value.type T != Value.ref C) = true by rfl)]
  refine wpAny_bind ((PySem.W.looks_subIn X hsub).here ?_)
  simp only [Bool.false_eq_true, if_false, Bool.not_false, if_true]
  refine wpAny_bind (m := tryCompare u _ (.ref x)) (t _ ?_)
  refine wpAny_bind (m := tryCompare (.ref x) _ u) (wpAny_mono one (fun r s' z => ?_) fun _ _ e => e)
  obtain ⟨v, rfl, hq⟩ := z
  exact wpAny_pure hq
/-- x != b: object.__ne__ asks the own __eq__ -/
theorem ne_body {Q : Fin → Shared → Prop} (hu : A.units < cLine) (X : K.In s.heap) (I : PySem.W.InstAt s.heap x ox C od) (hs : PySem.W.findIn K (.ref C) "__eq__" = some (some (.ref f))) (hf : PySem.W.isFn K (.ref f) = true)
    (h : wpAny (model prog w) A (call (.ref f) [.ref x, b]) (fun v s' => ∃ r, v = .bool r ∧ Q (.done (.ret (.bool (!r)))) s') E s) : wpAny (model prog w) A (Builtin.«object.__ne__» ⟨[.ref x, b], []⟩) Q E s := by
  unfold Builtin.«object.__ne__»
  repeat (first
    | with_reducible refine wpAny_cRoomFor hu ?_
    | (refine wpAny_bind (m := callSpecialIfBound? (.ref x) (Str.ofString "__eq__") [b])
        (PySem.W.ifBound_K X I hs hf (wpAny_mono h (fun r s' hr => by
          obtain ⟨b, rfl, hq⟩ := hr
          repeat (first | exact hq | exact wpAny_pure hq | exact wpAny_truthy_bool hq | (refine wpAny_bind (m := truthy (.bool _)) (wpAny_truthy_bool ?_)) | wp_step)) fun _ _ e => e)))
    | wp_step)
theorem try_ne {Q : Option Value → Shared → Prop} (hu : A.units + 1 < cLine) (X : K.In s.heap) (I : PySem.W.InstAt s.heap x ox C od) (hn : PySem.W.findIn K (.ref C) "__ne__" = some (some (.builtin "object.__ne__"))) (ho : PySem.W.subIn K (.ref C) (.type "object") = some true)
    (hs : PySem.W.findIn K (.ref C) "__eq__" = some (some (.ref f))) (hf : PySem.W.isFn K (.ref f) = true)
    (h : wpAny (model prog w) A.in1 (call (.ref f) [.ref x, b]) (fun v s' => ∃ r, v = .bool r ∧ Q (some (.bool (!r))) s') E s) : wpAny (model prog w) A (tryCompare (.ref x) "__ne__" b) Q E s := by
  have body : wpAny (model prog w) A (call (.builtin "object.__ne__") [.ref x, b]) (fun v s' => ∃ r, v = .bool r ∧ Q (some (.bool r)) s') E s := by
    refine wpAny_call (codeAny_call_builtin F.cmp_object.ne.plain F.cmpEntry_ne ?_)
    simp only [checkBuiltinCall, F.cmpKind_ne, F.cmpSplit_ne]
    refine wpAny_bind ?_
    refine wpAny_bind (m := typeOf (.ref x)) (I.type.here ((PySem.W.looks_subIn X ho).here ?_))
    have fin := ne_body (A := A.in1) (Q := fun fin s' => ∃ r, fin = .done (.ret (.bool r)) ∧ Q (some (.bool r)) s') hu X I hs hf (wpAny_mono h (fun v s' ⟨r, e, q⟩ => ⟨r, e, _, rfl, q⟩) fun _ _ e => e)
    have chk : argsOk "object.__ne__" ⟨[.ref x, b], []⟩ := F.cmpArgs_ne _ _
    cases hsig : Manifest.signature? "object.__ne__" with
    | none => exact wpAny_pure (wpAny_mono fin (fun fl s' ⟨r, e, q⟩ => by subst e; exact ⟨r, rfl, q⟩) fun _ _ e => e)
    | some sig =>
      simp only [argsOk, hsig] at chk
      have h2 : Bind.checkArgs "object.__ne__" sig ⟨[.ref x, b], []⟩ = pure () := chk
      show wpAny _ _ (Bind.checkArgs "object.__ne__" sig ⟨[.ref x, b], []⟩) _ _ s
      rw [h2]
      exact wpAny_pure (wpAny_mono fin (fun fl s' ⟨r, e, q⟩ => by subst e; exact ⟨r, rfl, q⟩) fun _ _ e => e)
  unfold tryCompare
  simp only [callSpecialIfBound?, bindSpecialIfBound?]
  refine wpAny_bind (wpAny_holding (wpAny_bind (wpAny_bind (wpAny_bind (I.type.here ((PySem.W.looks_findIn X hn).here ?_))))))
  simp only [F.cmp_object.ne.bind]
  refine wpAny_bind (wpAny_askSetting (wpAny_ite ?_))
  have fin : wpAny (model prog w) A (call (.builtin "object.__ne__") ([.ref x] ++ [b]) >>= fun v => pure (some v)) (fun a s' => wpAny (model prog w) A (match a with
          | some Value.notImplemented => pure none
          | none => pure none
          | some r => pure (some r)) Q E s') E s := wpAny_bind (wpAny_mono body (fun v s' ⟨r, e, q⟩ => by subst e; exact wpAny_pure (wpAny_pure q)) fun _ _ e => e)
  split
  · exact wpAny_bind (wpAny_pure (wpAny_pure fin))
  · exact wpAny_tryCatch (wpAny_bind (wpAny_pure (wpAny_pure fin)))
theorem rc_ne {tb : Value} {Q : Value → Shared → Prop} (hu : A.units + 1 < cLine) (X : K.In s.heap) (I : PySem.W.InstAt s.heap x ox C od) (hb : PySem.W.Looks (model prog w) s.heap (typeOf b) tb) (hnf : PySem.W.notFirst K C tb = true) (hn : PySem.W.findIn K (.ref C) "__ne__" = some (some (.builtin "object.__ne__"))) (ho : PySem.W.subIn K (.ref C) (.type "object") = some true)
    (hs : PySem.W.findIn K (.ref C) "__eq__" = some (some (.ref f))) (hf : PySem.W.isFn K (.ref f) = true)
    (h : wpAny (model prog w) A.in1 (call (.ref f) [.ref x, b]) (fun v s' => ∃ r, v = .bool r ∧ Q (.bool (!r)) s') E s) : wpAny (model prog w) A (richCompare .NotEq (.ref x) b) Q E s := by
  have one := try_ne (Q := fun r s' => ∃ v, r = some (.bool v) ∧ Q (.bool v) s') hu X I hn ho hs hf (wpAny_mono h (fun v s' ⟨r, e, q⟩ => ⟨r, e, _, rfl, q⟩) fun _ _ e => e)
  unfold richCompare
  simp only [oneThing_ref]
  refine wpAny_holding (wpAny_bind (wpAny_cRoomFor (Nat.lt_of_succ_lt hu) ?_))
  refine wpAny_bind (I.type.here (wpAny_bind (hb.here ?_)))
  split
  · rename_i q
    have e : PySem.W.subIn K tb (.ref C) = some false := by
      rcases Bool.or_eq_true_iff.mp hnf with e | e
      · rw [beq_iff_eq.mp e] at q; simp at q
      · exact beq_iff_eq.mp e
    refine wpAny_bind ((PySem.W.looks_subIn X e).here ?_)
    simp only [Bool.false_eq_true, if_false]
    refine wpAny_bind (m := tryCompare (.ref x) _ b) (wpAny_mono one (fun r s' z => ?_) fun _ _ e => e)
    obtain ⟨v, rfl, hq⟩ := z
    exact wpAny_pure hq
  · refine wpAny_bind (wpAny_pure ?_)
    simp only [Bool.false_eq_true, if_false]
    refine wpAny_bind (m := tryCompare (.ref x) _ b) (wpAny_mono one (fun r s' z => ?_) fun _ _ e => e)
    obtain ⟨v, rfl, hq⟩ := z
    exact wpAny_pure hq
end
/-! ### at the heap's level -/
def kinds : List String := ["NoneType", "bool", "int", "str", "tuple", "list", "dict"]
/-- plain data's type -/
inductive BuiV (K : PySem.W.Frag) (H : Hp) : V → String → Prop
  | non : BuiV K H .non "NoneType"
  | bl (b : Bool) : BuiV K H (.bl b) "bool"
  | int (i : Int) : BuiV K H (.int i) "int"
  | str (x : Str) : BuiV K H (.str x) "str"
  | lst {a : Addr} {xs : List V} (h : SqL K H a xs) : BuiV K H (.ref a) "list"
  | tup {a : Addr} {xs : List V} (h : SqT K H a xs) : BuiV K H (.ref a) "tuple"
  | dic {a : Addr} {xs : List (Key × V)} (h : H a = some (.dK xs)) : BuiV K H (.ref a) "dict"
theorem BuiV.kind {K : PySem.W.Frag} {H : Hp} {x : V} {T : String} (h : BuiV K H x T) : T ∈ kinds := by
  cases h <;> simp [kinds]
section
variable {X : Cx} {pins : List (Addr × Obj)} {σ : St} {H : Hp} {s : Shared} {x : V} {u : Value} {T : String} {A : Around}
theorem BuiV.ty (b : BuiV X.K H x T) (I : Inv X pins σ H s) (r : RelV x u) : s.TypeIs u T := by
  cases b with
  | non => cases (show u = Value.none from r); exact PySem.typeIs_none _
  | bl y => cases (show u = Value.bool y from r); exact PySem.typeIs_bool _ _
  | int i => obtain ⟨t, q⟩ := (show ∃ t, u = Value.int i t from r); subst q; exact PySem.typeIs_int _ _ _
  | str z => obtain ⟨t, q⟩ := (show ∃ t, u = Value.str z t from r); subst q; exact PySem.typeIs_str _ _ _
  | @lst a xs h =>
    cases (show u = Value.ref a from r)
    obtain ⟨its, rv, ⟨o, n, e, c, _⟩, _⟩ := I.list h
    exact ⟨o, e, c⟩
  | @tup a xs h =>
    cases (show u = Value.ref a from r)
    obtain ⟨its, rv, tp, _⟩ := I.tuple h
    obtain ⟨o, e, c, _⟩ := tp
    exact ⟨o, e, c⟩
  | @dic a kvs h =>
    cases (show u = Value.ref a from r)
    obtain ⟨_, _, vs, _, o, es, ep, h1, h2, _⟩ := (show ObjOk X.prog X.w H s.heap a (.dK kvs) from I.hok a _ h)
    exact ⟨o, h1, h2.1⟩
theorem looks_ty {M : Model} (h : s.TypeIs u T) : PySem.W.Looks M s.heap (typeOf u) (.type T) := fun A Q E s' k q => by
  refine wpAny_typeOf (T := T) ?_ q
  cases u with
  | ref a =>
    obtain ⟨o, e, c⟩ := h
    exact ⟨o, k _ _ e, c⟩
  | _ => exact h
theorem BuiV.dec {E : Value → Shared → Prop} {C a dx : Addr} (b : BuiV X.K H x T) (I : Inv X pins σ H s) (r : RelV x u) (ha : s.heap.get? a = some (PySem.W.instObj C dx)) (up : ∀ T ∈ kinds, PySem.W.subIn X.K (.ref C) (.type T) = some false) : Declines X.prog X.w A E u a s := by
  have hT := b.ty I r
  cases b with
  | non => cases (show u = Value.none from r); exact dec_of PySem.F.slot_NoneType_eq hT PySem.F.entry_NoneType_eq (PySem.F.args_NoneType_eq_2 _ _) fun E' Q hq => dec_none hq
  | bl y => cases (show u = Value.bool y from r); exact dec_of PySem.F.slot_bool_eq hT PySem.F.entry_int_eq (PySem.F.args_int_eq_2 _ _) fun E' Q hq => dec_bool ha hq
  | int i => obtain ⟨t, q⟩ := (show ∃ t, u = Value.int i t from r); subst q; exact dec_of PySem.F.slot_int_eq hT PySem.F.entry_int_eq (PySem.F.args_int_eq_2 _ _) fun E' Q hq => dec_int ha hq
  | str z => obtain ⟨t, q⟩ := (show ∃ t, u = Value.str z t from r); subst q; exact dec_of PySem.F.slot_str_eq hT PySem.F.entry_str_eq (PySem.F.args_str_eq_2 _ _) fun E' Q hq => dec_str ha hq
  | @lst l xs h =>
    cases (show u = Value.ref l from r)
    exact dec_of PySem.F.slot_list_eq hT PySem.F.entry_list_eq (PySem.F.args_list_eq_2 _ _) fun E' Q hq => dec_list I.kIn ha (up _ (by simp [kinds])) hq
  | @tup l xs h =>
    cases (show u = Value.ref l from r)
    exact dec_of PySem.F.slot_tuple_eq hT PySem.F.entry_tuple_eq (PySem.F.args_tuple_eq_2 _ _) fun E' Q hq => dec_tuple I.kIn ha (up _ (by simp [kinds])) hq
  | @dic l kvs h =>
    cases (show u = Value.ref l from r)
    exact dec_of PySem.F.slot_dict_eq hT PySem.F.entry_dict_eq (PySem.F.args_dict_eq_2 _ _) fun E' Q hq => dec_dict I.kIn ha (up _ (by simp [kinds])) hq
end
/-- a class with an own __eq__, no own __ne__ -/
structure EqOwn (P : Program) (w : World) (K : PySem.W.Frag) (mg : Str → Option Value) (base : Heap) (C : Addr) (k : Nat) (S : DSp) : Prop where
  ex : ∃ f fd ps, Own1 K C "__eq__" f ∧ FnG P w K mg base k f fd ps (lift K S) ∧ Binds K fd ps []
  ne : PySem.W.findIn K (.ref C) "__ne__" = some (some (.builtin "object.__ne__"))
  ob : PySem.W.subIn K (.ref C) (.type "object") = some true
  up : ∀ T ∈ kinds, PySem.W.subIn K (.ref C) (.type T) = some false
  dn : ∀ T ∈ kinds, PySem.W.subIn K (.type T) (.ref C) = some false
/-- x has the own __eq__, y is such an object, or data -/
def rEqL (K : PySem.W.Frag) (C : Addr) (S : DSp) (x y : V) (H : Hp) (R : Bool → Hp → Prop) : Prop := ∃ (a dx : Addr) (fs : List (Str × V)), x = .ref a ∧ H a = some (.ins C dx fs) ∧ ((∃ T, BuiV K H y T) ∨ ∃ (a' dx' : Addr) (fs' : List (Str × V)), y = .ref a' ∧ H a' = some (.ins C dx' fs')) ∧
  lift K S [x, y] H (fun v H' => ∃ b, v = .bl b ∧ R b H') EN
/-- x is data, y has the own __eq__ -/
def rEqR (K : PySem.W.Frag) (C : Addr) (S : DSp) (x y : V) (H : Hp) (R : Bool → Hp → Prop) : Prop := ∃ (a dx : Addr) (fs : List (Str × V)) (T : String), y = .ref a ∧ H a = some (.ins C dx fs) ∧ BuiV K H x T ∧
  lift K S [y, x] H (fun v H' => ∃ b, v = .bl b ∧ R b H') EN
def rEqB (K : PySem.W.Frag) (C : Addr) (S : DSp) (x y : V) (H : Hp) (R : Bool → Hp → Prop) : Prop := rEqL K C S x y H R ∨ rEqR K C S x y H R
section
variable {X : Cx} {j k : Nat} {f C : Addr} {fd : FuncData} {ps : List Str} {S : DSp}
theorem run_eqO {A : Around} {pins : List (Addr × Obj)} {σ : St} {H : Hp} {s : Shared} {a : Addr} {y : V} {u : Value} {R : Bool → Hp → Prop} (F : FnG X.prog X.w X.K X.mg X.base k f fd ps (lift X.K S)) (hb : Binds X.K fd ps []) (room : RoomG k A) (e0 : Env0 X.prog X.w X.K X.mg X.base A X.stack s H)
    (I : Inv X pins σ H s) (ry : RelV y u) (q : lift X.K S [.ref a, y] H (fun v H' => ∃ b, v = .bl b ∧ R b H') EN) :
    wpAny (model X.prog X.w) A (call (.ref f) [.ref a, u]) (fun v s' => ∃ b, v = .bool b ∧ ∃ H', Inv X pins σ H' s' ∧ R b H') X.xe s := by
  refine wpAny_call (codeAny_mono (F.run A X.stack s H ⟨[.ref a, u], []⟩ [.ref a, u] [.ref a, y] _ EN room e0 (by
    have := hb s [.ref a, u] I.kIn (by rw [List.append_nil]; exact F.len _ _ _ _ q)
    simpa using this) (.cons rfl (.cons ry .nil)) q) fun r s2 z => ?_)
  rcases r with er | fl
  · obtain ⟨_, _, _, _, _, _, _, _, _, _, _, _, z⟩ := z; exact z.elim
  · rcases fl with _ | _ | _ | u
    · exact z.elim
    · exact z.elim
    · exact z.elim
    · obtain ⟨v, H2, J2, rv, b, ev, q2⟩ := I.after z
      subst ev
      cases (show u = Value.bool b from rv)
      exact ⟨b, rfl, H2, J2, q2⟩
theorem rc_eqB {A : Around} (c : EqOwn X.prog X.w X.K X.mg X.base C k S) (room : RoomG k A) {pins : List (Addr × Obj)} {σ : St} {H : Hp} {s : Shared} {x y : V} {u v : Value} {R : Bool → Hp → Prop} (e0 : Env0 X.prog X.w X.K X.mg X.base A X.stack s H)
    (I : Inv X pins σ H s) (rx : RelV x u) (ry : RelV y v) (h : rEqB X.K C S x y H R) : wpAny (model X.prog X.w) A (richCompare .Eq u v) (fun v s' => ∃ b, v = .bool b ∧ ∃ H', Inv X pins σ H' s' ∧ R b H') X.xe s := by
  obtain ⟨f, fd, ps, o1, F, hb⟩ := c.ex
  rcases h with ⟨a, dx, fs, rfl, ha, ty, q⟩ | ⟨a, dx, fs, T, rfl, ha, bx, q⟩
  · cases (show u = Value.ref a from rx)
    obtain ⟨mA, O, _⟩ := ins_get I.hok ha
    obtain ⟨od, J, _⟩ := O.look
    obtain ⟨m, hF⟩ := I.fr
    have run := run_eqO F hb room e0 I ry q
    rcases ty with ⟨T, by_⟩ | ⟨a', dx', fs', rfl, ha'⟩
    · exact PySem.W.cmp_K (op := .Eq) (tb := .type T) room.r.units0 hF I.ok.mod.kin J (looks_ty (by_.ty I ry)) (by rw [PySem.W.notFirst, c.dn T by_.kind]; simp) o1.at_ o1.fn (wpAny_mono run (fun r s' ⟨b, e, z⟩ => by subst e; exact ⟨b, rfl, z⟩) fun _ _ e => e)
    · cases (show v = Value.ref a' from ry)
      obtain ⟨mA', O', _⟩ := ins_get I.hok ha'
      obtain ⟨od', J', _⟩ := O'.look
      exact PySem.W.cmp_K (op := .Eq) (tb := .ref C) room.r.units0 hF I.ok.mod.kin J J'.type (by simp [PySem.W.notFirst]) o1.at_ o1.fn (wpAny_mono run (fun r s' ⟨b, e, z⟩ => by subst e; exact ⟨b, rfl, z⟩) fun _ _ e => e)
  · cases (show v = Value.ref a from ry)
    obtain ⟨mA, O, _⟩ := ins_get I.hok ha
    obtain ⟨od, J, _⟩ := O.look
    have run := run_eqO F hb room e0 I rx q
    exact rc_left room.r.units0 I.kIn J (bx.ty I rx) (c.up T bx.kind) (bx.dec I rx O.obj c.up) o1.at_ o1.fn (wpAny_mono run (fun r s' ⟨b, e, z⟩ => by subst e; exact ⟨b, rfl, z⟩) fun _ _ e => e)
theorem rc_neL (c : EqOwn X.prog X.w X.K X.mg X.base C k S) (room : RoomG j X.A) (hj : k + 1 ≤ j) {pins : List (Addr × Obj)} {σ : St} {H : Hp} {s : Shared} {x y : V} {u v : Value} {R : Bool → Hp → Prop}
    (I : Inv X pins σ H s) (rx : RelV x u) (ry : RelV y v) (h : rEqL X.K C S x y H fun b => R (!b)) : wpAny (model X.prog X.w) X.A (richCompare .NotEq u v) (fun v s' => ∃ b, v = .bool b ∧ ∃ H', Inv X pins σ H' s' ∧ R b H') X.xe s := by
  obtain ⟨f, fd, ps, o1, F, hb⟩ := c.ex
  obtain ⟨a, dx, fs, rfl, ha, ty, q⟩ := h
  cases (show u = Value.ref a from rx)
  obtain ⟨mA, O, _⟩ := ins_get I.hok ha
  obtain ⟨od, J, _⟩ := O.look
  have run := run_eqO F hb ((room.mono hj).in1) I.env0.in1 I ry q
  have hu : X.A.units + 1 < cLine := by have := room.r.units; omega
  rcases ty with ⟨T, by_⟩ | ⟨a', dx', fs', rfl, ha'⟩
  · exact rc_ne (tb := .type T) hu I.kIn J (looks_ty (by_.ty I ry)) (by rw [PySem.W.notFirst, c.dn T by_.kind]; simp) c.ne c.ob o1.at_ o1.fn (wpAny_mono run (fun r s' ⟨b, e, z⟩ => ⟨b, e, _, rfl, z⟩) fun _ _ e => e)
  · cases (show v = Value.ref a' from ry)
    obtain ⟨mA', O', _⟩ := ins_get I.hok ha'
    obtain ⟨od', J', _⟩ := O'.look
    exact rc_ne (tb := .ref C) hu I.kIn J J'.type (by simp [PySem.W.notFirst]) c.ne c.ob o1.at_ o1.fn (wpAny_mono run (fun r s' ⟨b, e, z⟩ => ⟨b, e, _, rfl, z⟩) fun _ _ e => e)
def rEqO (K : PySem.W.Frag) (C : Addr) (S : DSp) : R2 := fun x y H Q => rEqB K C S x y H fun b => Q (.bl b)
def rNeO (K : PySem.W.Frag) (C : Addr) (S : DSp) : R2 := fun x y H Q => rEqL K C S x y H fun b => Q (.bl (!b))
theorem op_eqO (c : EqOwn X.prog X.w X.K X.mg X.base C k S) (room : RoomG j X.A) (hj : k ≤ j) : OpR X (compareOp .Eq) (rEqO X.K C S) := by
  intro pins s σ H x y v u Q I rx ry h
  exact wpAny_mono (rc_eqB c (room.mono hj) I.env0 I rx ry h) (fun r s' ⟨b, e, H', J, q⟩ => by subst e; exact ⟨.bl b, H', J, rfl, q⟩) fun _ _ e => e
theorem op_neO (c : EqOwn X.prog X.w X.K X.mg X.base C k S) (room : RoomG j X.A) (hj : k + 1 ≤ j) : OpR X (compareOp .NotEq) (rNeO X.K C S) := by
  intro pins s σ H x y v u Q I rx ry h
  exact wpAny_mono (rc_neL c room hj I rx ry (R := fun b => Q (.bl b)) h) (fun r s' ⟨b, e, H', J, q⟩ => by subst e; exact ⟨.bl b, H', J, rfl, q⟩) fun _ _ e => e
end
end DL
/-! DL27: in a list, by the own __eq__; the same at the level of data. -/
namespace DL
open PySem PySem.Spec L2
open PyProof.Rows hiding St
theorem relV_ref {y : V} {a : Addr} (r : RelV y (.ref a)) : y = .ref a := by
  cases y with
  | ref b => exact congrArg V.ref (by injection (show Value.ref a = Value.ref b from r) with e; exact e.symm)
  | non => cases (show Value.ref a = Value.none from r)
  | bl b => cases (show Value.ref a = Value.bool b from r)
  | int i => obtain ⟨t, e⟩ := (show ∃ t, Value.ref a = Value.int i t from r); cases e
  | str i => obtain ⟨t, e⟩ := (show ∃ t, Value.ref a = Value.str i t from r); cases e
  | _ => first | (obtain ⟨t, e⟩ := r; cases e) | cases r
/-- one == inside in: the same object is equal -/
def EqO1 (K : PySem.W.Frag) (C : Addr) (S : DSp) (x y : V) (H : Hp) (R : Bool → Hp → Prop) : Prop := rEqR K C S x y H R ∨ (rEqL K C S x y H R ∧ ((∃ T, BuiV K H y T) ∨ ∀ a, x = .ref a → y = .ref a → R true H))
theorem EqO1.b {K : PySem.W.Frag} {C : Addr} {S : DSp} {x y : V} {H : Hp} {R : Bool → Hp → Prop} (h : EqO1 K C S x y H R) : rEqB K C S x y H R := h.elim .inr fun h => .inl h.1
def InO (K : PySem.W.Frag) (C : Addr) (S : DSp) (x : V) : List V → Hp → (Bool → Hp → Prop) → Prop
  | [], H, R => R false H
  | v :: vs, H, R => EqO1 K C S v x H fun b H' => Ex H H' ∧ if b = true then R true H' else InO K C S x vs H' R
section
variable {X : Cx} {j k : Nat} {f C : Addr} {fd : FuncData} {ps : List Str} {S : DSp}
theorem eqBoolO {A : Around} (c : EqOwn X.prog X.w X.K X.mg X.base C k S) (room : RoomG k A) {pins : List (Addr × Obj)} {σ : St} {H : Hp} {s : Shared} {x y : V} {u v : Value} {R : Bool → Hp → Prop} (e0 : Env0 X.prog X.w X.K X.mg X.base A X.stack s H)
    (I : Inv X pins σ H s) (rx : RelV x u) (ry : RelV y v) (h : EqO1 X.K C S x y H R) : wpAny (model X.prog X.w) A (eqBool u v) (fun b s' => ∃ H', Inv X pins σ H' s' ∧ R b H') X.xe s := by
  have h2 := h.b
  have rc := rc_eqB c room e0 I rx ry h2
  have no : ∀ {z : V} {a : Addr} {T : String}, BuiV X.K H z T → RelV z (.ref a) → (∃ dx fs, H a = some (.ins C dx fs)) → False := fun bz rz ⟨dx, fs, ha⟩ => by
    obtain ⟨o, e, ec⟩ := bz.ty I rz
    obtain ⟨mA, O, _⟩ := ins_get I.hok ha
    have := O.obj
    rw [e] at this
    obtain rfl := Option.some.inj this
    cases ec
  have same : u = v → R true H := fun e => by
    rcases h with ⟨a, dx, fs, T, rfl, ha, bx, _⟩ | ⟨⟨a, dx, fs, rfl, ha, _⟩, q⟩
    · cases (show v = Value.ref a from ry)
      subst e
      exact (no bx rx ⟨dx, fs, ha⟩).elim
    · cases (show u = Value.ref a from rx)
      subst e
      rcases q with ⟨T, q⟩ | q
      · exact (no q ry ⟨dx, fs, ha⟩).elim
      · exact q a rfl (relV_ref ry)
  unfold eqBool
  refine wpAny_holding ?_
  refine wpAny_ite_split (fun hab => ?_) (fun _ => ?_)
  · exact wpAny_bind (wpAny_rule (wpAny_pure ⟨H, I, same (eq_of_beq hab)⟩))
  have fin : wpAny (model X.prog X.w) A (richCompare .Eq u v >>= fun r => truthOfDropped r) (fun b s' => ∃ H', Inv X pins σ H' s' ∧ R b H') X.xe s := wpAny_bind (wpAny_mono rc (fun r s' ⟨b, e, q⟩ => by subst e; exact wpAny_truthy_bool q) fun _ _ e => e)
  rcases h2 with ⟨a, dx, fs, rfl, _⟩ | ⟨a, dx, fs, T, rfl, ha, bx, _⟩
  · cases (show u = Value.ref a from rx)
    exact fin
  · cases (show v = Value.ref a from ry)
    cases bx with
    | non => cases (show u = Value.none from rx); exact fin
    | bl y => cases (show u = Value.bool y from rx); exact fin
    | int i => obtain ⟨t, q⟩ := (show ∃ t, u = Value.int i t from rx); subst q; exact fin
    | str z => obtain ⟨t, q⟩ := (show ∃ t, u = Value.str z t from rx); subst q; exact fin
    | lst h => cases (show u = Value.ref _ from rx); exact fin
    | tup h => cases (show u = Value.ref _ from rx); exact fin
    | dic h => cases (show u = Value.ref _ from rx); exact fin
abbrev InK (X : Cx) (pins : List (Addr × Obj)) (σ : St) (R : Bool → Hp → Prop) : Result → Shared → Prop := wants (fun v s' => ∃ b, v = .bool b ∧ ∃ H', Inv X pins σ H' s' ∧ R b H') X.xe
theorem in_loopO (c : EqOwn X.prog X.w X.K X.mg X.base C k S) (room : RoomG j X.A) (hj : k + 1 ≤ j) {pins : List (Addr × Obj)} {σ : St} {l : Addr} {xs : List V} {x : V} {u : Value} {R : Bool → Hp → Prop} (rx : RelV x u) :
    ∀ (vs : List V) (i : Nat) (H : Hp) (s : Shared), Inv X pins σ H s → H l = some (.lst xs) → vs = xs.drop i → InO X.K C S x vs H R →
      wpAny (model X.prog X.w) X.A.in1 (Builtin.«list.__contains__.loop» ⟨[.ref l, u, rawInt i], []⟩) (GQ.FinOf X.prog X.w X.A (InK X pins σ R)) (fun e s' => InK X pins σ R (.error e) s') s
  | [], i, H, s, I, hl, hv, q => by
    obtain ⟨z, its, n, r, hl1⟩ := I.hok l _ hl
    have hi : xs.length ≤ i := by
      rcases Nat.lt_or_ge i xs.length with h' | h'
      · rw [List.drop_eq_getElem_cons h'] at hv; cases hv
      · exact h'
    have fin : InK X pins σ R (.ok (.ret (.bool false))) s := ⟨false, rfl, H, I, q⟩
    have hn : its.toArray[((i : Nat) : Int).toNat]? = none := by
      have := r.length
      simp; omega
    clear I
    obtain ⟨hp, g, d, tk, os⟩ := s
    wp_walk using AutoSeq1.wpAny_loadPart' hl1
    rw [hn]
    wp_walk
    exact fin
  | v :: vs, i, H, s, I, hl, hv, q => by
    obtain ⟨z, its, n, r, hl1⟩ := I.hok l _ hl
    have hi : i < xs.length := by
      rcases Nat.lt_or_ge i xs.length with h' | h'
      · exact h'
      · rw [List.drop_of_length_le h'] at hv; cases hv
    rw [List.drop_eq_getElem_cons hi] at hv
    injection hv with hv1 hv2
    obtain ⟨w, hw, rw_⟩ := r.get (List.getElem?_eq_getElem hi)
    rw [← hv1] at rw_
    have hn : its.toArray[((i : Nat) : Int).toNat]? = some w := by simpa using hw
    have step := eqBoolO c ((room.mono hj).in1) I.env0.in1 I rw_ rx q
    clear I
    obtain ⟨hp, g, d, tk, os⟩ := s
    wp_walk using AutoSeq1.wpAny_loadPart' hl1
    rw [hn]
    refine wpAny_bind (wpAny_mono step (fun b s2 h2 => ?_) fun _ _ e => e)
    obtain ⟨H', J, ex, q2⟩ := h2
    have hc : ((i : Int) + 1) = ((i + 1 : Nat) : Int) := by omega
    cases b with
    | true =>
      rw [if_pos rfl] at q2
      have fin : InK X pins σ R (.ok (.ret (.bool true))) s2 := ⟨true, rfl, H', J, q2⟩
      wp_walk
      exact fin
    | false =>
      rw [if_neg Bool.false_ne_true] at q2
      have rec_ := in_loopO c room hj rx vs (i + 1) H' s2 J (ex _ _ hl) hv2 q2
      wp_walk
      rw [hc]
      exact ⟨plainId_quiet MeetsSeq.plain_contains_loop _, codeAny_builtin MeetsSeq.entry_contains_loop (by
        rw [Around.under_plainId MeetsSeq.plain_contains_loop _]
        exact rec_)⟩
theorem list_inO (c : EqOwn X.prog X.w X.K X.mg X.base C k S) (room : RoomG j X.A) (hj : k + 1 ≤ j) {pins : List (Addr × Obj)} {σ : St} {H : Hp} {s : Shared} {l : Addr} {xs : List V} {x : V} {u : Value} {R : Bool → Hp → Prop} (rx : RelV x u) (I : Inv X pins σ H s) (hl : H l = some (.lst xs)) (q : InO X.K C S x xs H R) :
    wpAny (model X.prog X.w) X.A (call (.builtin "list.__contains__") [.ref l, u]) (fun v s' => ∃ b, v = .bool b ∧ ∃ H', Inv X pins σ H' s' ∧ R b H') X.xe s := by
  obtain ⟨z, its, n, r, hl1⟩ := I.hok l _ hl
  refine GQ.call_here PySem.F.slot_list_contains ⟨_, hl1, rfl⟩ PySem.F.entry_list_contains (PySem.F.args_list_contains_2 _ _) ?_
  have rec_ := in_loopO c room hj rx xs 0 H s I hl (by simp) q
  clear I
  obtain ⟨hp, g, d, tk, os⟩ := s
  wp_walk using AutoSeq1.wpAny_loadPart' hl1
  exact ⟨plainId_quiet MeetsSeq.plain_contains_loop _, codeAny_builtin MeetsSeq.entry_contains_loop (by
    rw [Around.under_plainId MeetsSeq.plain_contains_loop _]
    exact rec_)⟩
def rInO (K : PySem.W.Frag) (C : Addr) (S : DSp) (neg : Bool) : R2 := fun x y H Q => ∃ l xs, y = .ref l ∧ H l = some (.lst xs) ∧ InO K C S x xs H fun b => Q (.bl (if neg then !b else b))
theorem op_inO (c : EqOwn X.prog X.w X.K X.mg X.base C k S) (room : RoomG j X.A) (hj : k + 1 ≤ j) : OpR X (compareOp .In) (rInO X.K C S false) := by
  intro pins s σ H x y v u Q I rx ry ⟨l, xs, ey, hl, q⟩
  subst ey
  cases (show u = Value.ref l from ry)
  obtain ⟨z, its, n, r, hl1⟩ := I.hok l _ hl
  show wpAny _ X.A (do return Value.bool (← contains (.ref l) v) : Sem Value) _ _ s
  refine wpAny_bind (wpAny_contains_slot (T := "list") ⟨_, hl1, rfl⟩ PySem.F.slot_list_contains (wpAny_mono (list_inO c room hj rx I hl q) (fun r s' ⟨b, e, H', J, q2⟩ => ?_) fun _ _ e => e))
  subst e
  exact wpAny_truthy_bool (wpAny_pure ⟨.bl b, H', J, rfl, q2⟩)
theorem op_notInO (c : EqOwn X.prog X.w X.K X.mg X.base C k S) (room : RoomG j X.A) (hj : k + 1 ≤ j) : OpR X (compareOp .NotIn) (rInO X.K C S true) := by
  intro pins s σ H x y v u Q I rx ry ⟨l, xs, ey, hl, q⟩
  subst ey
  cases (show u = Value.ref l from ry)
  obtain ⟨z, its, n, r, hl1⟩ := I.hok l _ hl
  show wpAny _ X.A (do return Value.bool (!(← contains (.ref l) v)) : Sem Value) _ _ s
  refine wpAny_bind (wpAny_contains_slot (T := "list") ⟨_, hl1, rfl⟩ PySem.F.slot_list_contains (wpAny_mono (list_inO c room hj rx I hl q) (fun r s' ⟨b, e, H', J, q2⟩ => ?_) fun _ _ e => e))
  subst e
  exact wpAny_truthy_bool (wpAny_pure ⟨.bl (!b), H', J, rfl, q2⟩)
end
section
variable {X : Cx} (K : PySem.W.Frag) {j k : Nat} {C : Addr} {S : DSp}
theorem k_eqO (c : EqOwn X.prog X.w K X.mg X.base C k S) (room : RoomG j X.A) (hj : k ≤ j) (h : X.K = K := by rfl) : OpR X (compareOp .Eq) (fun x y H Q => rEqA K x y H Q ∨ rEqO K C S x y H Q) := by
  subst h; exact OpR.or (k_eq X.K room) (op_eqO c room hj)
theorem k_neO (c : EqOwn X.prog X.w K X.mg X.base C k S) (room : RoomG j X.A) (hj : k + 1 ≤ j) (h : X.K = K := by rfl) : OpR X (compareOp .NotEq) (fun x y H Q => rNeA K x y H Q ∨ rNeO K C S x y H Q) := by
  subst h; exact OpR.or (k_ne X.K room) (op_neO c room hj)
theorem k_inO (c : EqOwn X.prog X.w K X.mg X.base C k S) (room : RoomG j X.A) (hj : k + 1 ≤ j) (h : X.K = K := by rfl) : OpR X (compareOp .In) (rInO K C S false) := by
  subst h; exact op_inO c room hj
theorem k_notInO (c : EqOwn X.prog X.w K X.mg X.base C k S) (room : RoomG j X.A) (hj : k + 1 ≤ j) (h : X.K = K := by rfl) : OpR X (compareOp .NotIn) (rInO K C S true) := by
  subst h; exact op_notInO c room hj
end
/-! ### at the level of data -/
def D.bui : D → Bool
  | .non | .bl _ | .int _ | .str _ | .tup _ | .lst _ | .dic _ | .scr _ => true
  | _ => false
theorem buiV_of {K : PySem.W.Frag} {H0 H : Hp} (e : Ex H0 H) {v : V} {d : D} (r : Rep K H0 v d) (h : d.bui = true) : ∃ T, BuiV K H v T := by
  cases r with
  | non => exact ⟨_, .non⟩
  | bl b => exact ⟨_, .bl b⟩
  | int i => exact ⟨_, .int i⟩
  | str x => exact ⟨_, .str x⟩
  | tup hs _ => exact ⟨_, .tup (sqT_ex e hs)⟩
  | lst hs _ => exact ⟨_, .lst (.inl (.inl (e _ _ hs)))⟩
  | dic hs _ => exact ⟨_, .dic (e _ _ hs)⟩
  | scr hs => exact ⟨_, .lst (sqL_ex e hs)⟩
  | _ => simp [D.bui] at h
def EqGL (C : Addr) (S : DSp) (x y : D) (R : Bool → Prop) : Prop := ∃ fs, x = .ins C fs ∧ (y.bui = true ∨ ∃ fs', y = .ins C fs') ∧ S [x, y] (fun d => ∃ b, d = .bl b ∧ R b) (fun _ => False)
def EqGR (C : Addr) (S : DSp) (x y : D) (R : Bool → Prop) : Prop := x.bui = true ∧ ∃ fs, y = .ins C fs ∧ S [y, x] (fun d => ∃ b, d = .bl b ∧ R b) (fun _ => False)
section
variable {K : PySem.W.Frag} {C : Addr} {S : DSp} {H0 H : Hp} {x y : V} {dx dy : D}
theorem eqL_of {R : Bool → Prop} {Q : Bool → Hp → Prop} (e : Ex H0 H) (rx : Rep K H0 x dx) (ry : Rep K H0 y dy) (g : EqGL C S dx dy R) (k : ∀ b H0' H', R b → PX ⟨H, H0, []⟩ H0' H' → Q b H') : rEqL K C S x y H Q := by
  obtain ⟨fs, rfl, ty, g⟩ := g
  have rx' := rx
  cases rx with
  | ins hp hr =>
    refine ⟨_, _, _, rfl, e _ _ hp, ?_, H0, _, _, fun _ => False, e, .cons rx' (.cons ry .nil), g, fun v d H0' H' ⟨b, ez, hΦ⟩ p rv => by
      subst ez; cases rv
      exact ⟨b, rfl, k b H0' H' hΦ p⟩, fun _ _ _ _ z => z.elim⟩
    rcases ty with ty | ⟨fs', rfl⟩
    · exact .inl (buiV_of e ry ty)
    · cases ry with
      | ins hp' hr' => exact .inr ⟨_, _, _, rfl, e _ _ hp'⟩
theorem eqR_of {R : Bool → Prop} {Q : Bool → Hp → Prop} (e : Ex H0 H) (rx : Rep K H0 x dx) (ry : Rep K H0 y dy) (g : EqGR C S dx dy R) (k : ∀ b H0' H', R b → PX ⟨H, H0, []⟩ H0' H' → Q b H') : rEqR K C S x y H Q := by
  obtain ⟨ty, fs, rfl, g⟩ := g
  have ry' := ry
  obtain ⟨T, bx⟩ := buiV_of e rx ty
  cases ry with
  | ins hp hr =>
    exact ⟨_, _, _, T, rfl, e _ _ hp, bx, H0, _, _, fun _ => False, e, .cons ry' (.cons rx .nil), g, fun v d H0' H' ⟨b, ez, hΦ⟩ p rv => by
      subst ez; cases rv
      exact ⟨b, rfl, k b H0' H' hΦ p⟩, fun _ _ _ _ z => z.elim⟩
def eqOG (C : Addr) (S : DSp) (x y : D) (Φ : D → Prop) : Prop := eqG x y Φ ∨ EqGL C S x y (fun b => Φ (.bl b)) ∨ EqGR C S x y (fun b => Φ (.bl b))
def neOG (C : Addr) (S : DSp) (x y : D) (Φ : D → Prop) : Prop := neG x y Φ ∨ EqGL C S x y (fun b => Φ (.bl (!b)))
theorem opd_eqO : OpD K (fun x y H Q => rEqA K x y H Q ∨ rEqO K C S x y H Q) (eqOG C S) := fun H0 H x y dx dy Φ Q e rx ry g k => by
  rcases g with g | g | g
  · exact .inl (opd_eq H0 H x y dx dy Φ Q e rx ry g k)
  · exact .inr (.inl (eqL_of e rx ry g fun b H0' H' q p => k _ _ _ _ q p (.bl _)))
  · exact .inr (.inr (eqR_of e rx ry g fun b H0' H' q p => k _ _ _ _ q p (.bl _)))
theorem opd_neO : OpD K (fun x y H Q => rNeA K x y H Q ∨ rNeO K C S x y H Q) (neOG C S) := fun H0 H x y dx dy Φ Q e rx ry g k => by
  rcases g with g | g
  · exact .inl (opd_ne H0 H x y dx dy Φ Q e rx ry g k)
  · exact .inr (eqL_of e rx ry g fun b H0' H' q p => k _ _ _ _ q p (.bl _))
/-- one item of a list that in looks through -/
def EqG1 (C : Addr) (S : DSp) (x y : D) (R : Bool → Prop) : Prop := EqGR C S x y R ∨ (EqGL C S x y R ∧ (y.bui = true ∨ ∀ fs fs', x = .ins C fs → y = .ins C fs' → ∃ fld t t', fs.lookup fld = some (.str t) ∧ fs'.lookup fld = some (.str t') ∧ (t = t' → R true)))
def InG (C : Addr) (S : DSp) (x : D) : List D → (Bool → Prop) → Prop
  | [], R => R false
  | d :: ds, R => EqG1 C S d x fun b => if b = true then R true else InG C S x ds R
def inOG (C : Addr) (S : DSp) (neg : Bool) (x y : D) (Φ : D → Prop) : Prop := ∃ ds, y = .lst ds ∧ InG C S x ds fun b => Φ (.bl (if neg then !b else b))
theorem kv_str {f : Str} {t : Str} : ∀ {xs : List (Str × V)} {ds : List (Str × D)}, RepKV K H0 xs ds → ds.lookup f = some (.str t) → xs.lookup f = some (.str t)
  | _, _, .nil, h => by simp at h
  | (k, v) :: _, _, .cons r rs, h => by
    rw [List.lookup_cons] at h ⊢
    cases hk : f == k with
    | true =>
      rw [hk] at h
      have h := Option.some.inj h
      subst h
      cases r
      rfl
    | false => rw [hk] at h; exact kv_str rs h
theorem eq1_of {R : Bool → Prop} {Q : Bool → Hp → Prop} (e : Ex H0 H) (rx : Rep K H0 x dx) (ry : Rep K H0 y dy) (g : EqG1 C S dx dy R) (k : ∀ b H0' H', R b → PX ⟨H, H0, []⟩ H0' H' → Q b H') : EqO1 K C S x y H Q := by
  rcases g with g | ⟨g, q⟩
  · exact .inl (eqR_of e rx ry g k)
  refine .inr ⟨eqL_of e rx ry g k, ?_⟩
  rcases q with q | q
  · exact .inl (buiV_of e ry q)
  obtain ⟨fs, rfl, ty, _⟩ := g
  rcases ty with ty | ⟨fs', rfl⟩
  · exact .inl (buiV_of e ry ty)
  refine .inr fun a ex ey => ?_
  subst ex ey
  cases rx with
  | ins hp hr =>
    cases ry with
    | ins hp' hr' =>
      have := Option.some.inj (hp.symm.trans hp')
      injection this with _ _ e3
      subst e3
      obtain ⟨fld, t, t', h1, h2, h3⟩ := q _ _ rfl rfl
      have z := (kv_str hr h1).symm.trans (kv_str hr' h2)
      injection z with z
      injection z with z
      exact k true H0 H (h3 z) (PX.refl e)
theorem inO_of : ∀ {vs : List V} {ds : List D} {H0 H : Hp} {R : Bool → Prop} {Q : Bool → Hp → Prop}, Ex H0 H → Rep K H0 x dx → RepAll K H0 vs ds → InG C S dx ds R → (∀ b H0' H', R b → PX ⟨H, H0, []⟩ H0' H' → Q b H') → InO K C S x vs H Q
  | _, _, H0, H, _, _, e, _, .nil, g, k => k false H0 H g (PX.refl e)
  | _, _, H0, H, R, Q, e, rx, .cons r rs, g, k => by
    refine eq1_of e r rx g fun b H0' H' q p => ⟨p.ex, ?_⟩
    cases b with
    | true =>
      rw [if_pos rfl] at q ⊢
      exact k true H0' H' q p
    | false =>
      rw [if_neg Bool.false_ne_true] at q ⊢
      exact inO_of p.i (rx.mono p.e0) (rs.mono p.e0) q fun b H0'' H'' q2 p2 => k b H0'' H'' q2 (p.trans p2)
theorem opd_inO {neg : Bool} : OpD K (rInO K C S neg) (inOG C S neg) := fun H0 H x y dx dy Φ Q e rx ry ⟨ds, ed, g⟩ k => by
  subst ed
  cases ry with
  | lst h hs => exact ⟨_, _, rfl, e _ _ h, inO_of e rx hs g fun b H0' H' q p => k _ _ _ _ q p (.bl _)⟩
end
end DL
/-! DL28: t[::-1] of a tuple; small dict displays; isinstance of an own class. -/
namespace DL
open PySem PySem.Spec L2
open PyProof.Rows hiding St
section
open HT
variable {prog : Program} {w : World} {A : Around} {E : Value → Shared → Prop} {s : Shared}
theorem rev_at (n : Nat) : Builtin.Slice.sliceAdjust none none (-1) (n : Int) = ((n : Int) - 1, -1) := rfl
theorem rev_places (n : Nat) : Builtin.Slice.slicePlaces ((n : Int) - 1) (-1) (-1) = n := by
  unfold Builtin.Slice.slicePlaces
  rw [if_neg (by decide)]
  by_cases h : n = 0
  · subst h; rfl
  · rw [if_pos (by omega)]
    have : ((n : Int) - 1 - -1 - 1) / - -1 = (n : Int) - 1 := by
      rw [show (- -1 : Int) = 1 from rfl, Int.ediv_one]
      omega
    rw [this]
    omega
theorem fm_congr {α β : Type} {f g : α → Option β} : ∀ (l : List α), (∀ a ∈ l, f a = g a) → l.filterMap f = l.filterMap g
  | [], _ => rfl
  | a :: l, h => by rw [List.filterMap_cons, List.filterMap_cons, h a List.mem_cons_self, fm_congr l fun b hb => h b (List.mem_cons_of_mem _ hb)]
theorem pick_rev (xs : Array Value) : ((List.range xs.size).filterMap fun (k : Nat) => xs[((xs.size : Int) - 1 + (k : Int) * -1).toNat]?).toArray = xs.toList.reverse.toArray := by
  have e : ∀ k ∈ List.range xs.size, (xs[((xs.size : Int) - 1 + (k : Int) * -1).toNat]?) = xs.toList.reverse[k]? := fun k hk => by
    have hk := List.mem_range.mp hk
    have : ((xs.size : Int) - 1 + (k : Int) * -1).toNat = xs.size - 1 - k := by omega
    rw [this, List.getElem?_reverse (by simpa using hk)]
    simp
  have h2 : ((List.range xs.size).filterMap fun (k : Nat) => xs[((xs.size : Int) - 1 + (k : Int) * -1).toNat]?) = (List.range xs.size).filterMap fun (k : Nat) => xs.toList.reverse[k]? := by
    exact fm_congr _ e
  rw [h2]
  congr 1
  have h3 : ∀ (l : List Value), (List.range l.length).filterMap (fun k => l[k]?) = l := fun l => by
    induction l with
    | nil => rfl
    | cons a l ih =>
      rw [List.length_cons, List.range_succ_eq_map, List.filterMap_cons]
      show a :: _ = _
      rw [List.filterMap_map]
      exact congrArg (a :: ·) ih
  have := h3 xs.toList.reverse
  rw [List.length_reverse, Array.length_toList] at this
  exact this
theorem sliceApplied_rev {sl : Addr} {vl vu vs : Value} {n : Nat} {Q : Int × Int × Nat → Shared → Prop} (hs : s.heap.IsSliceOf sl vl vu vs) (pl : IsPart vl none) (pu : IsPart vu none) (ps : IsPart vs (some (-1)))
    (h : Q ((n : Int) - 1, -1, n) s) : wpAny (model prog w) A (Builtin.Slice.sliceApplied (.ref sl) (pure (n : Int))) Q E s := by
  obtain ⟨os, hos, hcs, hds⟩ := id hs
  unfold Builtin.Slice.sliceApplied Builtin.Slice.sliceFields
  refine wpAny_bind (wpAny_bind (wpAny_field hos hds (x := vl) rfl (wpAny_bind (wpAny_field hos hds (x := vu) rfl (wpAny_bind (wpAny_field hos hds (x := vs) rfl (wpAny_pure ?_)))))))
  refine wpAny_bind (slicePart_ ps ?_)
  show wpAny _ _ (if ((-1 : Int) == 0) = true then _ else _) _ _ s
  rw [if_neg (by decide)]
  refine wpAny_bind (slicePart_ pl (wpAny_bind (slicePart_ pu (wpAny_bind (wpAny_pure ?_)))))
  show wpAny _ _ (match Builtin.Slice.sliceAdjust none none (-1) (n : Int) with | (lo, hi) => pure (lo, (-1 : Int), Builtin.Slice.slicePlaces lo hi (-1))) _ _ s
  rw [rev_at n]
  show wpAny _ _ (pure ((n : Int) - 1, (-1 : Int), Builtin.Slice.slicePlaces ((n : Int) - 1) (-1) (-1))) _ _ s
  rw [rev_places]
  exact wpAny_pure h
theorem getItem_tuple_rev {t sl : Addr} {items : Array Value} {vl vu vs : Value} {Q : Value → Shared → Prop} (ht : IsTup s.heap t items) (hs : s.heap.IsSliceOf sl vl vu vs) (pl : IsPart vl none) (pu : IsPart vu none) (ps : IsPart vs (some (-1)))
    (h : Q (.ref s.heap.objs.size) { s with heap := s.heap.push { cls := .type "tuple", data := .seq items.toList.reverse.toArray } })
    (hsz : items.size ≤ sizeLine) : wpAny (model prog w) A (getItem (.ref t) (.ref sl)) Q E s := by
  have htake : sizeOk (.seq items.toList.reverse.toArray) := by
    show items.toList.reverse.toArray.size ≤ sizeLine
    rw [List.size_toArray, List.length_reverse, Array.length_toList]
    exact hsz
  obtain ⟨os, hos, hcs, hds⟩ := id hs
  have hTs : s.TypeIs (.ref sl) "slice" := ⟨os, hos, hcs⟩
  unfold getItem
  try with_reducible refine wpAny_holding ?_
  first | refine wpAny_bind (wpAny_pure ?_) | skip
  refine wpAny_bind (wpAny_sequenceKey ht.typeIs (by decide) ?_)
  refine wpAny_bind (wpAny_callSpecial?_slot (name := Str.ofString "__getitem__") ht.typeIs PyProof.Rows.slot_tuple_getitem
    (wpAny_call_entry PyProof.Rows.slot_tuple_getitem ht.typeIs entry_tuple_getitem ?_ (args_tuple_getitem _ _)))
  show wpAny _ _ (Builtin.Tuple.tupleItemsOf (.ref t) >>= _) _ _ s
  refine wpAny_bind (tupleItemsOf_ ht ?_)
  refine wpAny_bind (wpAny_typeOf hTs ?_)
  rw [if_pos (by decide)]
  refine wpAny_bind (sliceApplied_rev hs pl pu ps ?_)
  have hno : ¬ ((((items.size : Int) - 1 == 0) && (-1 : Int) == 1 && items.size == items.size) = true) := by
    rw [show ((-1 : Int) == 1) = false from rfl, Bool.and_false, Bool.false_and]
    exact Bool.false_ne_true
  show wpAny _ _ (if (((items.size : Int) - 1 == 0) && (-1 : Int) == 1 && items.size == items.size) = true then _ else _) _ _ s
  rw [if_neg hno, pick_rev]
  first
    | exact wpAny_bind (m := Builtin.Tuple.tupleExact _) (wpAny_newObj_type (wpAny_pure ⟨_, rfl, wpAny_pure h⟩) htake)
    | exact wpAny_bind (m := Builtin.Tuple.tupleExact _) (wpAny_newObj_type (wpAny_bind (wpAny_pure (wpAny_pure ⟨_, rfl, wpAny_pure h⟩))) htake)
    | exact wpAny_bind (wpAny_bind (m := Builtin.Tuple.tupleExact _) (wpAny_newObj_type (wpAny_pure (wpAny_pure ⟨_, rfl, wpAny_pure h⟩)) htake))
    | exact wpAny_bind (wpAny_bind (m := Builtin.Tuple.tupleExact _) (wpAny_newObj_type (wpAny_pure ⟨_, rfl, wpAny_pure h⟩) htake))
end
section
variable {X : Cx}
def tRevT (K : PySem.W.Frag) (te : TE) : TE := fun σ H Q => te σ H fun x H1 => ∃ a xs, x = .ref a ∧ SqT K H1 a xs ∧ ∀ p, H1 p = none → Q (.ref p) (upd H1 p (.tup xs.reverse))
theorem pe_revT {e : Expr} {te : TE} {k : Nat} {p1 p2 p3 pos : Pos} (he : PE X e te) : PE X (.Subscript e (.Slice none none (some (.UnaryOp .USub (.Constant (.int 1) k p1) p2)) p3) pos) (tRevT X.K te) := by
  refine ⟨fun pins s σ H Q I h => ?_⟩
  refine Subscript_ (thn (he.run pins s σ H _ I h) fun v s1 ⟨x, H1, I1, r1, q1⟩ => ?_)
  obtain ⟨a, xs, ex, hx, q⟩ := q1
  subst ex
  cases r1
  have hst : PO X (some (.UnaryOp .USub (.Constant (.int 1) k p1) p2)) (tPart (tUn (rU fun i => .int (-i)) (tC (.int 1)))) := po_some (pe_un un_neg pe_int)
  refine wpAny_Slice (thn (po_none.run pins s1 σ H1 (fun o H2 => o = none ∧ H2 = H1) I1 ⟨rfl, rfl⟩) fun vl s2 ⟨l, H2, I2, pl, el, e2⟩ => ?_)
  subst el e2
  refine thn (po_none.run pins s2 σ H2 (fun o H3 => o = none ∧ H3 = H2) I2 ⟨rfl, rfl⟩) fun vu s3 ⟨u, H3, I3, pu, eu, e3⟩ => ?_
  subst eu e3
  refine thn (hst.run pins s3 σ H3 (fun o H4 => o = some (-1) ∧ H4 = H3) I3 ⟨1, rfl, -1, rfl, rfl, rfl⟩) fun vs s4 ⟨o, H4, I4, ps, eo, e4⟩ => ?_
  subst eo e4
  have I5 : Inv X pins σ H4 { s4 with heap := s4.heap.push { cls := .type "slice", data := .fields #[vl, vu, vs] } } := I4.kept (t' := s4.toks) fun b ob q => Heap.get?_push_of_some _ q
  obtain ⟨its, r, ht, hz⟩ := I5.tuple hx
  have hlen := r.length
  show wpAny (model X.prog X.w) X.A (subscriptTail e (.Slice none none (some (.UnaryOp .USub (.Constant (.int 1) k p1) p2)) p3) (.ref a) (.ref s4.heap.objs.size)) (EP X pins σ Q) X.xe { s4 with heap := s4.heap.push { cls := .type "slice", data := .fields #[vl, vu, vs] } }
  refine tail_any (ops := [.ref a, .ref s4.heap.objs.size]) ht.typeIs (PyProof.Rows.slot_tuple_getitem.lookup) ?_ (by with_unfolding_all rfl)
  refine getItem_tuple_rev ht (Heap.IsSliceOf.new _ vl vu vs) pl pu ps ?_ (by rw [List.size_toArray]; omega)
  rw [show its.toArray.toList.reverse.toArray = its.reverse.toArray by simp]
  refine ⟨.ref _, _, I5.laid (t' := s4.toks) (o := .tup xs.reverse) (fun b ob q => Heap.get?_push_of_some _ q) (Nat.le_refl _) ?_, rfl, q _ (I5.hok.fresh (Nat.le_refl _))⟩
  exact ⟨by rw [List.length_reverse]; exact hz, its.reverse, r.reverse, IsTup.new _ _⟩
end
section
variable {X : Cx} (K : PySem.W.Frag) {e : Expr} {te : TE} {k : Nat} {p1 p2 p3 pos : Pos}
theorem k_revT (he : PE X e te) (h : X.K = K := by rfl) : PE X (.Subscript e (.Slice none none (some (.UnaryOp .USub (.Constant (.int 1) k p1) p2)) p3) pos) (tRevT K te) := h ▸ pe_revT he
end
section
variable {w : Wx} {ρ : Env'} {Φ : D → Env' → Prop} {te : TE}
theorem RepAll.reverse {K : PySem.W.Frag} {H : Hp} : ∀ {xs : List V} {ds : List D}, RepAll K H xs ds → RepAll K H xs.reverse ds.reverse
  | _, _, .nil => .nil
  | _, _, .cons r rs => by
    rw [List.reverse_cons, List.reverse_cons]
    exact (RepAll.reverse rs).append (.cons r .nil)
theorem wE_revT (h : wE w te ρ fun d ρ1 => ∃ l, d = .tup l ∧ Φ (.tup l.reverse) ρ1) : wE w (tRevT w.K te) ρ Φ := fun c H0 H σ Q a x k =>
  h c H0 H σ _ a x fun v d ρ1 H01 H1 ⟨l, e, q⟩ a1 e1 r1 => by
    subst e
    cases r1 with
    | @tup b xs _ hs hr =>
      refine ⟨_, _, rfl, sqT_ex a1.px.i hs, fun p hp => ?_⟩
      have y : PX ⟨H1, H01, []⟩ (upd H01 p (.tup xs.reverse)) (upd H1 p (.tup xs.reverse)) := (PX.refl a1.px.i).new hp
      exact k _ _ ρ1 _ _ q (a1.go y) (e1.trans y.e0) (.tup (.inl (.inl upd_same)) (hr.reverse.mono y.e0))
theorem wE_dnew (q : Φ (.dic []) ρ) : wE w tDNewK ρ Φ := fun c H0 H σ Q a x k p hp => by
  have y : PX ⟨H, H0, []⟩ (upd H0 p (.dK [])) (upd H p (.dK [])) := (PX.refl a.px.i).new hp
  exact k _ _ ρ _ _ q (a.go y) y.e0 (.dic (xs := []) (ds := []) upd_same .nil)
theorem upd_upd {H : Hp} {p : Addr} {o o' : HO} : upd (upd H p o) p o' = upd H p o' := by
  funext b
  by_cases h : b = p
  · subst h; rw [upd_same, upd_same]
  · rw [upd_ne h, upd_ne h, upd_ne h]
theorem wE_disp1 {z : Str} {i : Int} (q : Φ (.dic [(z, .int i)]) ρ) : wE w (tDisp [(tC (.str z), tC (.int i))]) ρ Φ := fun c H0 H σ Q a x k p hp => by
  have y : PX ⟨H, H0, []⟩ (upd H0 p (.dK [(.inr z, .int i)])) (upd H p (.dK [(.inr z, .int i)])) := (PX.refl a.px.i).new hp
  refine ⟨upd_same, [(.inr z, .int i)], rfl, (show 1 ≤ 15 by decide), ?_⟩
  rw [upd_upd]
  exact k _ _ ρ _ _ q (a.go y) y.e0 (.dic (xs := [(z, .int i)]) (ds := [(z, .int i)]) upd_same (.cons (.int i) .nil))
end
section
variable {X : Cx} (K : PySem.W.Frag) {es : List Expr} {pos : Pos} {k : Nat} {gs : TGs} {n : Nat}
theorem k_pgL (hc : X.calm = true) (hg : PGs X es gs) (hn : (assignEach es X.env).length = n := by rfl) (hst : (assignEach es X.env).findIdx? (·.1) = none := by rfl) (h : X.K = K := by rfl) : PG X (.Tuple es k pos) (gLst K n gs) := h ▸ pg_lst hc hg hn hst
end
section
variable {w : Wx} {ρ : Env'}
theorem wG_lstT {n : Nat} {gs : TGs} {d : D} {Ψ : Env' → Prop} (h : ∃ ds, d = .lst ds ∧ ds.length = n ∧ wGs w gs ds ρ Ψ) : wG w (gLst w.K n gs) d ρ Ψ := fun c H0 H σ v Q a x r k => by
  obtain ⟨ds, rfl, hn, q⟩ := h
  cases r with
  | lst hs hr => exact ⟨_, _, rfl, .inl (.inl (a.px.i _ _ hs)), hr.length.trans hn, q c H0 H σ _ Q a x hr k⟩
end
/-! ### isinstance(x, C) -/
structure IsC (K : PySem.W.Frag) (C : Addr) : Prop where
  cl : Cls K C
  ha : PySem.W.findIn K (.ref C) "__class__" = some (some (.builtin "object.__class__"))
  hn : PySem.W.specialIn K (.builtin "object.__class__") "__get__" = some (some (.builtin "getset_descriptor.__get__"))
  ht : PySem.W.takesIn K (.builtin "object.__class__") = some true
  hm : PySem.W.mroIn K C (.type "object") = some true
  dn : ∀ T ∈ kinds, PySem.W.kitOne K (.type T) (.ref C) = some false
def isOG (C : Addr) (ds : List D) (Φ : D → Prop) : Prop := ∃ d, ds = [d, .raw (.ref C)] ∧ ((d.bui = true ∧ Φ (.bl false)) ∨ ∃ fs, d = .ins C fs ∧ Φ (.bl true))
theorem BuiV.tyx {K : PySem.W.Frag} {H : Hp} {x : V} {T : String} (h : BuiV K H x T) : TyX K H x (.type T) := by
  cases h with
  | non => exact .base .non
  | bl b => exact .base (.bl b)
  | int i => exact .base (.int i)
  | str x => exact .base (.str x)
  | lst h =>
    rcases h with (h | ⟨o, h⟩) | ⟨o, its, n, h1, h2, _⟩
    · exact .base (.lst h)
    · exact .base (.frz h)
    · exact .kList h1 h2
  | tup h => exact sqT_ty h
  | dic h => exact .base (.dK h)
theorem cbd_isO {K : PySem.W.Frag} {C : Addr} (I : IsC K C) : CbD K (rIsi K) (isOG C) := fun H0 H xs ds Φ Q e rx ⟨d, hd, g⟩ k => by
  subst hd
  obtain ⟨v, c, rfl, r1, r2⟩ := vals_two rx
  cases r2
  rcases g with ⟨hb, g⟩ | ⟨fs, rfl, g⟩
  · obtain ⟨T, bx⟩ := buiV_of e r1 hb
    exact ⟨v, _, _, .ref C, false, rfl, .own C, bx.tyx, I.dn T bx.kind, fin0 e g (.bl _) k⟩
  · cases r1 with
    | ins hp hr => exact ⟨_, _, .ref C, .ref C, true, rfl, .own C, .base (.ins (e _ _ hp) I.cl I.ha I.hn I.ht I.hm), by unfold PySem.W.kitOne; rw [if_pos (beq_self_eq_true _)], fin0 e g (.bl _) k⟩
theorem kinds_all {p : String → Prop} (a : p "NoneType") (b : p "bool") (c : p "int") (d : p "str") (e : p "tuple") (f : p "list") (g : p "dict") : ∀ T ∈ kinds, p T := fun T h => by
  simp only [kinds, List.mem_cons, List.not_mem_nil, or_false] at h
  rcases h with rfl | rfl | rfl | rfl | rfl | rfl | rfl <;> assumption
theorem kit_no {K : PySem.W.Frag} {C : Addr} {T : String} (h1 : PySem.W.isClsIn K C = true) (h2 : PySem.W.typeIn K (.ref C) = some (.type "type")) (h : PySem.W.subIn K (.type T) (.ref C) = some false) : PySem.W.kitOne K (.type T) (.ref C) = some false := by
  unfold PySem.W.kitOne
  rw [if_neg (show ¬ (Value.type T == Value.ref C) = true from Bool.false_ne_true)]
  show (if ((PySem.W.clsIn K C).isSome && PySem.W.typeIn K (.ref C) == some (.type "type")) = true then PySem.W.subIn K (.type T) (.ref C) else none) = some false
  rw [if_pos (by rw [h2, show (PySem.W.clsIn K C).isSome = true from h1]; rfl)]
  exact h
end DL
/-! DL32: dict displays of names, get. -/
namespace DL
open PySem PySem.Spec L2 LamX
open PyProof.Rows hiding St
theorem k_dget2 {X : Cx} {o e f : Expr} {apos cpos : Pos} {td ty tx : TE} {j : Nat} (room : RoomG j X.A) (ho : PE X o td) (he : PE X e ty) (hf : PE X f tx) (h1 : attributeBase o "get" X.env (eval o X.env) = eval o X.env := by rfl)
    (h2 : ((backTo cpos (starEach [e, f] X.env)).all (fun x => !x.1) && (backToKw cpos (keywordEach [] X.env)).all (fun x => x.1.isSome) && decide (([e, f] : List Expr).length + ([] : List Keyword).length + (if ([] : List Keyword).isEmpty then 0 else 1) < 30)) = true := by rfl)
    (h3 : (apos.endLine == cpos.line) = true := by rfl) (h4 : backTo cpos (starEach [e, f] X.env) = [(false, eval e X.env), (false, eval f X.env)] := by rfl) : PE X (.Call (.Attribute o "get" apos) [e, f] [] cpos) (tDGet2 td ty tx) :=
  pe_dget2 (by have := room.r.units; omega) ho he hf ⟨h1, h2, h3, h4⟩
theorem val_lookup {z : Str} : ∀ xs : List (Str × V), valV (xs.map fun p => ((Sum.inr p.1 : Key), p.2)) (Sum.inr z) = xs.lookup z
  | [] => rfl
  | (k, v) :: xs => by
    rw [List.map_cons, List.lookup_cons]
    by_cases h : z = k
    · rw [valV_pos (by rw [h]), h, beq_self_eq_true]
    · rw [valV_neg (fun e => h (by injection e with e; exact e.symm)), beq_eq_false_iff_ne.mpr h]
      exact val_lookup xs
theorem lookup_rep {K : PySem.W.Frag} {H : Hp} {z : Str} : ∀ {xs : List (Str × V)} {ds : List (Str × D)}, RepKV K H xs ds → (ds.lookup z = none ∧ xs.lookup z = none) ∨ ∃ d v, ds.lookup z = some d ∧ xs.lookup z = some v ∧ Rep K H v d
  | _, _, .nil => .inl ⟨rfl, rfl⟩
  | (k, v) :: _, _, .cons r rs => by
    rw [List.lookup_cons, List.lookup_cons]
    cases hk : z == k with
    | true => exact .inr ⟨_, _, rfl, rfl, r⟩
    | false => exact lookup_rep rs
section
variable {w : Wx} {ρ : Env'} {Φ : D → Env' → Prop} {td ty tx : TE}
theorem wE_dget2 (h : wE w td ρ fun d ρ1 => ∃ l, d = .dic l ∧ wE w ty ρ1 fun k ρ2 => ∃ z, k = .str z ∧ wE w tx ρ2 fun x ρ3 => Φ ((l.lookup z).getD x) ρ3) : wE w (tDGet2 td ty tx) ρ Φ := fun c H0 H σ Q a x k =>
  h c H0 H σ _ a x fun v d ρ1 H01 H1 ⟨l, ed, h2⟩ a1 e1 r1 => by
    subst ed
    cases r1 with
    | @dic b xs _ hp hr =>
      refine ⟨b, rfl, .inl ⟨_, .inl (a1.px.i _ _ hp)⟩, h2 c H01 H1 σ _ a1 x fun v2 d2 ρ2 H02 H2 ⟨z, ez, h3⟩ a2 e2 r2 => ?_⟩
      subst ez
      cases r2
      refine h3 c H02 H2 σ _ a2 x fun v3 d3 ρ3 H03 H3 q a3 e3 r3 => ?_
      have hp3 : H3 b = some (.dK (xs.map fun p => (Sum.inr p.1, p.2))) := a3.px.i _ _ (e3 _ _ (e2 _ _ hp))
      refine ⟨_, .inl ⟨_, Sum.inr z, .inl hp3, rfl, rfl⟩, ?_⟩
      rw [val_lookup]
      rcases lookup_rep (z := z) ((hr.mono e2).mono e3) with ⟨h5, h6⟩ | ⟨d5, v5, h5, h6, r5⟩
      · rw [h6]
        rw [h5] at q
        exact k v3 d3 ρ3 H03 H3 q a3 ((e1.trans e2).trans e3) r3
      · rw [h6]
        rw [h5] at q
        exact k v5 d5 ρ3 H03 H3 q a3 ((e1.trans e2).trans e3) r5
theorem merge3 {k1 k2 k3 : Str} {v1 v2 v3 : V} (h12 : k1 ≠ k2) (h13 : k1 ≠ k3) (h23 : k2 ≠ k3) : mergeK [] [((Sum.inr k1 : Key), v1), (Sum.inr k2, v2), (Sum.inr k3, v3)] = [(Sum.inr k1, v1), (Sum.inr k2, v2), (Sum.inr k3, v3)] := by
  have e1 : ¬ ((Sum.inr k1 : Key) = Sum.inr k2) := fun e => h12 (by injection e)
  have e2 : ¬ ((Sum.inr k1 : Key) = Sum.inr k3) := fun e => h13 (by injection e)
  have e3 : ¬ ((Sum.inr k2 : Key) = Sum.inr k3) := fun e => h23 (by injection e)
  simp [mergeK, putK, e1, e2, e3]
theorem wE_disp3 {k1 k2 k3 : Str} {i1 i2 i3 : Nat} {d1 d2 d3 : D} (h12 : k1 ≠ k2) (h13 : k1 ≠ k3) (h23 : k2 ≠ k3) (h1 : ρ[i1]? = some (some (.dat d1))) (h2 : ρ[i2]? = some (some (.dat d2))) (h3 : ρ[i3]? = some (some (.dat d3))) (q : Φ (.dic [(k1, d1), (k2, d2), (k3, d3)]) ρ) :
    wE w (tDisp [(tC (.str k1), tVar i1), (tC (.str k2), tVar i2), (tC (.str k3), tVar i3)]) ρ Φ := fun c H0 H σ Q a x k p hp => by
  obtain ⟨v1, g1, r1⟩ := a.get h1
  obtain ⟨v2, g2, r2⟩ := a.get h2
  obtain ⟨v3, g3, r3⟩ := a.get h3
  have y : PX ⟨H, H0, []⟩ (upd H0 p (.dK [(.inr k1, v1), (.inr k2, v2), (.inr k3, v3)])) (upd H p (.dK [(.inr k1, v1), (.inr k2, v2), (.inr k3, v3)])) := (PX.refl a.px.i).new hp
  refine ⟨v1, g1, v2, g2, v3, g3, upd_same, [(.inr k1, v1), (.inr k2, v2), (.inr k3, v3)], rfl, (show 3 ≤ 15 by decide), ?_⟩
  rw [upd_upd, merge3 h12 h13 h23]
  exact k _ _ ρ _ _ q (a.go y) y.e0 (.dic (xs := [(k1, v1), (k2, v2), (k3, v3)]) (ds := [(k1, d1), (k2, d2), (k3, d3)]) upd_same (.cons (r1.mono y.e0) (.cons (r2.mono y.e0) (.cons (r3.mono y.e0) .nil))))
end
end DL
/-! DL33: defs whose exceptions have no context (mkN.py writes this from DLg, DL4, DL8, DL12, DL15). -/
namespace DL
open PySem PySem.Spec L2
open PyProof.Rows hiding St
abbrev CXN (P : Program) (w : World) : CXT := L2N.CX P w
section
structure FnN (P : Program) (w : World) (K : PySem.W.Frag) (mg : Str → Option Value) (base : Heap) (k : Nat) (f : Addr) (fd : FuncData) (ps : List Str) (sp : Sp) : Prop where
  len : ∀ vs H Q E, sp vs H Q E → vs.length = ps.length
  run : ∀ (A : Around) (outer : List Env) (s : Shared) (H : Hp) (args : Args) (us : List Value) (vs : List V) (Q : VK) (E : XK), RoomG k A → Env0 P w K mg base A outer s H → BindsTo s fd args (ps.zip us) → Vals vs us → sp vs H Q E →
    codeAny (model P w) A (.call (.ref f) args) (CR (CXN P w) outer P w H s Q E) s
end
section
variable {P : Program} {w : World} {K : PySem.W.Frag} {mg : Str → Option Value} {base : Heap} {f : Addr} {fd : FuncData} {ps : List Str} {sp : Sp}
theorem FnN.mono {j k : Nat} (F : FnN P w K mg base j f fd ps sp) (h : j ≤ k) : FnN P w K mg base k f fd ps sp := ⟨F.len, fun A outer s H args us vs Q E hr => F.run A outer s H args us vs Q E (hr.mono h)⟩
end
section
variable {P : Program} {w : World} {K : PySem.W.Frag} {mg : Str → Option Value} {base : Heap} {f : Addr} {fd : FuncData} {ps : List Str} {sp : Sp}
theorem FnN.imp {k : Nat} {sp' : Sp} (F : FnN P w K mg base k f fd ps sp) (h : ∀ vs H Q E, sp' vs H Q E → sp vs H Q E) : FnN P w K mg base k f fd ps sp' :=
  ⟨fun vs H Q E q => F.len vs H Q E (h _ _ _ _ q), fun A outer s H args us vs Q E hr he hb hv q => F.run A outer s H args us vs Q E hr he hb hv (h _ _ _ _ q)⟩
end
section
variable {P : Program} {w : World} {K : PySem.W.Frag} {mg : Str → Option Value} {base : Heap} {f : Addr} {fd : FuncData} {ps : List Str} {sp : Sp}
theorem fnN_of {k : Nat} {name qual : Str} {params : Arguments} {body : List Stmt} {scope : Scope} {dV kV doc pm cdv ct oc : Value} {an od : Option Addr} {osl : Array (Option Value)} {N : List Str}
    (lk : K.lookup f = some ⟨oc, od, .func (PySem.W.fnOf name qual params body scope dV kV doc pm an cdv ct), osl⟩) (hcd : PySem.W.codeIn K cdv qual = true) (S : FnScope N ps scope) (len : ∀ vs H Q E, sp vs H Q E → vs.length = ps.length)
    (hbody : ∀ (A : Around) (outer : List Env) (s : Shared) (H : Hp) (vs : List V) (Q : VK) (E : XK), RoomG k (A.deeper (envOfC qual scope s.heap.objs.size f cdv)) → sp vs H Q E →
      ∃ t, PSs (cxOf (CXN P w) P w K mg base N qual scope f cdv A outer s H E) body t ∧ t { nx := fun _ H' => Q .non H', rt := Q } (start N vs) H) :
    FnN P w K mg base (k + 1) f (PySem.W.fnOf name qual params body scope dV kV doc pm an cdv ct) ps sp := by
  refine ⟨len, fun A outer s H args us vs Q E room env0 binds rel hs => ?_⟩
  have nvs := len _ _ _ _ hs
  have inK : K.In s.heap := env0.mod.kin.keeps fun b o z => (env0.bs b o z).1
  have noLim : s.heap.NoLimit := env0.mod.nolimit.keeps fun b o z => (env0.bs b o z).1
  have kinds : ∀ y ∈ ps.zip us, scope.names.lookup y.1 = some .local ∨ (scope.names.lookup y.1 = some .cell ∧ ((cellsFrom (s.heap.objs.size + 1) scope.names []).lookup y.1).isSome = true) := fun ⟨n, v⟩ hy =>
    (S.par n (List.of_mem_zip hy).1).imp id fun z => ⟨z, PySem.W.cellsFrom_some _ _ _ (.inl z)⟩
  refine codeAny_call_function room.r.depth (inK _ _ lk) rfl S.co S.gen rfl (PySem.W.codeRec_of inK hcd) (binds _ _ _ _ ?_)
  refine wpAny_newFunctionEnv_cells S.kind kinds fun env ee s1 ic => ?_
  subst ee
  refine ⟨noLim.keeps ic.toInCall.keep, codeAny_func ?_⟩
  obtain ⟨t, ht, hq⟩ := hbody A outer s H vs Q E (room.deeper _) hs
  have I : Inv (cxOf (CXN P w) P w K mg base N qual scope f cdv A outer s H E) [] (start N vs) H s1 := inv_start S room.r.hd env0 nvs rel ic
  refine wpAny_mono (ht.run [] s1 (start N vs) H _ I hq) (fun fl s2 q => ?_) fun e s2 q => q
  cases fl with
  | ret u => obtain ⟨v, σ', H', J, rv, q⟩ := q; exact ⟨v, H', J.os, J.bare, J.base, J.hok, rv, q⟩
  | next => obtain ⟨σ', H', J, q⟩ := q; exact ⟨V.non, H', J.os, J.bare, J.base, J.hok, rfl, q⟩
  | brk => exact (q.elim fun _ z => z.elim fun _ z => z.2).elim
  | cont => exact (q.elim fun _ z => z.elim fun _ z => z.2).elim
end
section
variable {X : Cx} {k : Nat} {f C : Addr} {fd : FuncData} {ps : List Str} {sp : Sp} {dvs : List V} {ds : List Value} {E : XK} {x m : Str} {p pos apos : Pos} {e o : Expr} {es : List Expr} {ta : TE} {t : TA}
theorem backN_of {pins : List (Addr × Obj)} {σ : St} {H : Hp} {s : Shared} {Q : VK} (hx : Passes (CXN X.prog X.w) X E) (I : Inv X pins σ H s) : ∀ r s', CR (CXN X.prog X.w) X.stack X.prog X.w H s Q E r s' →
    (match r with | .ok (.ret v) => EP X pins σ Q v s' | .ok _ => False | .error er => X.xe er s') := fun r s' z => by
  cases r with
  | error er => exact hx pins σ H s er s' I z
  | ok fl =>
    cases fl with
    | ret u => exact I.after z
    | next => exact z
    | brk => exact z
    | cont => exact z
end
section
variable {X : Cx} {k : Nat} {f C : Addr} {fd : FuncData} {ps : List Str} {sp : Sp} {dvs : List V} {ds : List Value} {E : XK} {x m : Str} {p pos apos : Pos} {e o : Expr} {es : List Expr} {ta : TE} {t : TA}
theorem run_fnN {pins : List (Addr × Obj)} {σ : St} {H : Hp} {s : Shared} {Q : VK} {us : List Value} {vs : List V} (F : FnN X.prog X.w X.K X.mg X.base k f fd ps sp) (room : RoomG k X.A) (hb : Binds X.K fd ps ds) (hd : Vals dvs ds) (hx : Passes (CXN X.prog X.w) X E)
    (I : Inv X pins σ H s) (r : Vals vs us) (q : sp (vs ++ dvs) H Q E) : wpAny (model X.prog X.w) X.A (call (.ref f) us) (EP X pins σ Q) X.xe s := by
  have r2 := r.append hd
  have n2 : (us ++ ds).length = ps.length := r2.length.symm.trans (F.len _ _ _ _ q)
  refine wpAny_call (codeAny_mono (F.run X.A X.stack s H ⟨us, []⟩ (us ++ ds) (vs ++ dvs) Q E room I.env0 (hb s us I.kIn n2) r2 q) fun r s' z => ?_)
  have y := backN_of hx I r s' z
  cases r with
  | error er => exact y
  | ok fl => cases fl <;> exact y
end
section
variable {X : Cx} {k : Nat} {f C : Addr} {fd : FuncData} {ps : List Str} {sp : Sp} {dvs : List V} {ds : List Value} {E : XK} {x m : Str} {p pos apos : Pos} {e o : Expr} {es : List Expr} {ta : TE} {t : TA}
theorem pe_callN (F : FnN X.prog X.w X.K X.mg X.base k f fd ps sp) (room : RoomG k X.A) (hg : Gl X x) (hm : X.mg x = some (.ref f)) (hk : PySem.W.keepIn X.K (.ref f) = true) (hb : Binds X.K fd ps ds) (hd : Vals dvs ds) (hx : Passes (CXN X.prog X.w) X E)
    (ha : PA X (e :: es) t) (hdb : (x == ("__debug__" : Str)) = false := by decide) (he : starEach (e :: es) X.env = (false, eval e X.env) :: starEach es X.env := by rfl) (hpl : (backTo pos (starEach es X.env)).any (·.1) = false := by rfl) :
    PE X (.Call (.Name x p) (e :: es) [] pos) (tCall sp dvs E t) :=
  ⟨fun pins s σ H Q I h => wpAny_Call_Name_kw (ld_glob I hg hm (PySem.W.callWith_K (h₀ := X.base) I.ok.mod.kin hk (thn (ha.run pos pins s σ H _ I h) fun us s1 ⟨vs, H1, J, r, q⟩ => ⟨J.kIn, run_fnN F room hb hd hx J r q⟩) he hpl) hdb)⟩
end
section
variable {X : Cx} {k : Nat} {f C : Addr} {fd : FuncData} {ps : List Str} {sp : Sp} {dvs : List V} {ds : List Value} {E : XK} {x m : Str} {p pos apos : Pos} {e o : Expr} {es : List Expr} {ta : TE} {t : TA}
theorem run_makeN {pins : List (Addr × Obj)} {σ : St} {H : Hp} {s : Shared} {Q : VK} {us zs : List Value} {kw : List (Str × Value)} {vs : List V} (M : Mk X.K C f) (F : FnN X.prog X.w X.K X.mg X.base k f fd ps sp) (room : RoomG (k + 1) X.A)
    (hb : ∀ (s : Shared) (u : Value), X.K.In s.heap → BindsTo s fd ⟨u :: us, kw⟩ (ps.zip (u :: zs))) (hx : Passes (CXN X.prog X.w) X E) (I : Inv X pins σ H s) (r : Vals vs zs)
    (q : ∀ x dx, H x = none → H dx = none → dx ≠ x → sp (.ref x :: vs) (upd (upd H dx (.own x)) x (.ins C dx [])) (fun v H2 => v = .non ∧ Q (.ref x) H2) E) :
    wpAny (model X.prog X.w) X.A (call (.ref C) us kw) (EP X pins σ Q) X.xe s := by
  have q1 := q (s.heap.objs.size + 1) s.heap.objs.size (I.hok.fresh (Nat.le_succ _)) (I.hok.fresh (Nat.le_refl _)) (Nat.ne_of_lt (Nat.lt_succ_self _))
  have J := Inv.made (C := C) I
  have r2 : Vals (V.ref (s.heap.objs.size + 1) :: vs) (Value.ref (s.heap.objs.size + 1) :: zs) := .cons rfl r
  refine wpAny_call (make_map (f := f) I.kIn M.makes M.init (beq_iff_eq.mp M.fn) (codeAny_mono (F.run _ X.stack _ _ ⟨Value.ref (s.heap.objs.size + 1) :: us, kw⟩ (Value.ref (s.heap.objs.size + 1) :: zs) _ _ E (room.make C us kw)
    (J.env0.make C us kw) (hb _ _ J.kIn) r2 q1) fun r s' z => ?_))
  have y := backN_of hx J r s' z
  cases r with
  | error er => exact y
  | ok fl =>
    cases fl with
    | ret u => obtain ⟨v, H', J2, rv, ev, q3⟩ := y; subst ev; exact ⟨rv, ⟨V.ref (s.heap.objs.size + 1), H', J2, rfl, q3⟩⟩
    | next => exact y
    | brk => exact y
    | cont => exact y
end
section
variable {X : Cx} {k : Nat} {f C : Addr} {fd : FuncData} {ps : List Str} {sp : Sp} {dvs : List V} {ds : List Value} {E : XK} {x m : Str} {p pos apos : Pos} {e o : Expr} {es : List Expr} {ta : TE} {t : TA}
theorem pe_makeN (M : Mk X.K C f) (F : FnN X.prog X.w X.K X.mg X.base k f fd ps sp) (room : RoomG (k + 1) X.A) (hg : Gl X x) (hm : X.mg x = some (.ref C)) (hb : Binds X.K fd ps ds) (hd : Vals dvs ds) (hx : Passes (CXN X.prog X.w) X E)
    (ha : PA X (e :: es) t) (hdb : (x == ("__debug__" : Str)) = false := by decide) (he : starEach (e :: es) X.env = (false, eval e X.env) :: starEach es X.env := by rfl) (hpl : (backTo pos (starEach es X.env)).any (·.1) = false := by rfl) :
    PE X (.Call (.Name x p) (e :: es) [] pos) (tMake C sp dvs E t) := by
  refine ⟨fun pins s σ H Q I h => wpAny_Call_Name_kw (ld_glob I hg hm (PySem.W.callWith_K (h₀ := X.base) I.ok.mod.kin M.kp (thn (ha.run pos pins s σ H _ I h) fun us s1 ⟨vs, H1, J, r, q⟩ => ⟨J.kIn, ?_⟩) he hpl) hdb)⟩
  have q1 := q (s1.heap.objs.size + 1) s1.heap.objs.size (J.hok.fresh (Nat.le_succ _)) (J.hok.fresh (Nat.le_refl _)) (Nat.ne_of_lt (Nat.lt_succ_self _))
  have n2 : (us ++ ds).length + 1 = ps.length := by
    have z := F.len _ _ _ _ q1
    rw [List.length_cons, (r.append hd).length] at z
    exact z
  exact run_makeN (zs := us ++ ds) (vs := vs ++ dvs) M F room (fun s u ks => hb s (u :: us) ks n2) hx J (r.append hd) q
end
section
variable {P : Program} {w : World} {K : PySem.W.Frag} {mg : Str → Option Value} {base : Heap}
structure CallN (P : Program) (w : World) (K : PySem.W.Frag) (mg : Str → Option Value) (base : Heap) (x : Str) (k : Nat) (S : DSp) : Prop where
  ex : ∃ f fd ps, FnN P w K mg base k f fd ps (lift K S) ∧ mg x = some (.ref f) ∧ PySem.W.keepIn K (.ref f) = true ∧ Binds K fd ps []
end
section
variable {P : Program} {w : World} {K : PySem.W.Frag} {mg : Str → Option Value} {base : Heap}
theorem CallN.mono {x : Str} {j k : Nat} {S : DSp} (c : CallN P w K mg base x j S) (h : j ≤ k) : CallN P w K mg base x k S := let ⟨f, fd, ps, F, r⟩ := c.ex; ⟨f, fd, ps, F.mono h, r⟩
end
section
variable {X : Cx} {k : Nat} {E : XK} {x : Str} {p pos : Pos} {e : Expr} {es : List Expr} {t : TA} {S : DSp}
theorem pe_callND (c : CallN X.prog X.w X.K X.mg X.base x k S) (room : RoomG k X.A) (hx : Passes (CXN X.prog X.w) X E) (ha : PA X (e :: es) t) (hg : Gl X x := by rfl) (hdb : (x == ("__debug__" : Str)) = false := by decide)
    (he : starEach (e :: es) X.env = (false, eval e X.env) :: starEach es X.env := by rfl) (hpl : (backTo pos (starEach es X.env)).any (·.1) = false := by rfl) : PE X (.Call (.Name x p) (e :: es) [] pos) (tCall (lift X.K S) [] E t) := by
  obtain ⟨f, fd, ps, F, hm, hk, hb⟩ := c.ex
  exact pe_callN F room hg hm hk hb .nil hx ha hdb he hpl
end
section
variable {X : Cx} {k n : Nat} {f C q g : Addr} {fd : FuncData} {ps ks : List Str} {ix : List Nat} {dd : List D} {S : DSp} {E : XK} {x m : Str} {p pos apos : Pos} {e o : Expr} {es : List Expr} {kws : List Keyword} {ta : TE} {t tk : TA} {pl : Sem Bool} {mc : Value}
theorem run_makeND {I0 : ISp} {pins : List (Addr × Obj)} {σ : St} {H : Hp} {s : Shared} {Q : VK} {us ws : List Value} {vs zs : List V} (Mx : Mk X.K C f) (F : FnN X.prog X.w X.K X.mg X.base k f fd ps (liftI X.K C I0)) (room : RoomG (k + 1) X.A) (hb : KbG X.K fd ps (n + 1) ks (shiftIx ix) dd) (hx : Passes (CXN X.prog X.w) X E)
    (I : Inv X pins σ H s) (r : Vals vs us) (rz : Vals zs ws) (l1 : vs.length = n) (l2 : zs.length = ks.length) (q : atI X.K I0 C ix dd vs zs H Q E) : wpAny (model X.prog X.w) X.A (call (.ref C) us (ks.zip ws)) (EP X pins σ Q) X.xe s := by
  obtain ⟨dvs, dv, rd, rr, b⟩ := hb.ex
  obtain ⟨H0, ds, es, Φ, Ψ, e, r1, r2, q1, k1, k2⟩ := q
  refine run_makeN (zs := pick ix (us ++ ws ++ dv)) (vs := pick ix (vs ++ zs ++ dvs)) Mx F room (fun s u hk => ?_) hx I (pick_vals ix ((r.append rz).append rd)) fun y dx hy hdx hne => ?_
  · have z := b s (u :: us) ws hk (by rw [List.length_cons, ← r.length, l1]) (rz.length.symm.trans l2)
    rw [show u :: us ++ ws ++ dv = u :: (us ++ ws ++ dv) from rfl, pick_shift] at z
    exact z
  · have hx2 : Ex H (upd (upd H dx (.own y)) y (.ins C dx [])) := fun a o h => by
      have n1 : a ≠ y := ne_of_none h hy
      have n2 : a ≠ dx := ne_of_none h hdx
      rw [upd_ne n1, upd_ne n2]; exact h
    refine ⟨y, dx, _, H, H0, _, _, Ψ, rfl, upd_same, hy, hx2, e, pick_reps ix ((r1.append r2).append (rr H0)), q1, fun fs H0' H' h1 h2 h3 => ⟨rfl, k1 _ _ H0' H' h1 h2 h3⟩, k2⟩
end
section
variable {X : Cx} {k n : Nat} {f C q g : Addr} {fd : FuncData} {ps ks : List Str} {ix : List Nat} {dd : List D} {S : DSp} {E : XK} {x m : Str} {p pos apos : Pos} {e o : Expr} {es : List Expr} {kws : List Keyword} {ta : TE} {t tk : TA} {pl : Sem Bool} {mc : Value}
theorem pe_makeND {I0 : ISp} (Mx : Mk X.K C f) (F : FnN X.prog X.w X.K X.mg X.base k f fd ps (liftI X.K C I0)) (room : RoomG (k + 1) X.A) (hb : KbG X.K fd ps (n + 1) ks (shiftIx ix) dd) (hx : Passes (CXN X.prog X.w) X E) (hm : X.mg x = some (.ref C)) (ha : PA X es t) (hkw : PK X kws tk) (hg : Gl X x)
    (hn : (backTo pos (starEach es X.env)).any (·.1) = false := by rfl) (hall : (backToKw pos (keywordEach kws X.env)).all (·.1.isSome) = true := by rfl) (hks : (backToKw pos (keywordEach kws X.env)).filterMap (·.1) = ks := by rfl) (hdb : (x == ("__debug__" : Str)) = false := by decide) :
    PE X (.Call (.Name x p) es kws pos) (tMakeD X.K C I0 n ks.length ix dd E t tk) := by
  refine ⟨fun pins s σ H Q I h => wpAny_Call_Name_kw (ld_glob I hg hm ?_ hdb)⟩
  refine callWith_any (P := X.K.In) hn hall (PySem.W.keeps_K Mx.kp) (thn (ha.run pos pins s σ H _ I h) fun us s1 ⟨vs, H1, J, r, q⟩ => thn (hkw.run pos pins s1 σ H1 _ J q) fun ws s2 ⟨zs, H2, J2, rz, l1, l2, q2⟩ => ⟨J2.kIn, ?_⟩)
  rw [hks]
  exact run_makeND Mx F room hb hx J2 r rz l1 l2 q2
end
section
variable {P : Program} {w : World} {K : PySem.W.Frag} {mg : Str → Option Value} {base : Heap}
abbrev bodyN (P : Program) (w : World) (K : PySem.W.Frag) (mg : Str → Option Value) (base : Heap) (N : List Str) (qual : Str) (st : Stmt) (f : Addr) (cdv : Value) (A : Around) (outer : List Env) (s : Shared) (H : Hp) (E : XK) : Cx :=
  cxOf (CXN P w) P w K mg base N qual (defScope st) f cdv A outer s H E
end
section
variable {P : Program} {w : World} {K : PySem.W.Frag} {mg : Str → Option Value} {base : Heap}
structure InBodyN (P : Program) (w : World) (k : Nat) (X : Cx) (E : XK) : Prop where
  room : RoomG k X.A
  pass : Passes (CXN P w) X E
  own : PassesOwn (model P w) X.A X.env X.xe
end
section
variable {P : Program} {w : World} {K : PySem.W.Frag} {mg : Str → Option Value} {base : Heap}
theorem fnX_ofN {x qual : Str} {st : Stmt} {f : Addr} {fd : FuncData} {N ps : List Str} {k : Nat} {S : DSp} (F : FunX K x qual st f fd) (Sc : FnScope N ps (defScope st)) (len : ∀ ds Φ Ψ, S ds Φ Ψ → ds.length = ps.length)
    (hbody : ∀ (cdv : Value) (A : Around) (outer : List Env) (s : Shared) (H : Hp) (E : XK), InBodyN P w k (bodyN P w K mg base N qual st f cdv A outer s H E) E →
      ∃ t, PSs (bodyN P w K mg base N qual st f cdv A outer s H E) (defBody st) t ∧ ∀ ds Φ Ψ, S ds Φ Ψ → wS ⟨K, E, Ψ, []⟩ t { nx := fun _ => Φ .non, rt := fun d _ => Φ d } (startE N ds)) :
    FnN P w K mg base (k + 1) f fd ps (lift K S) := by
  obtain ⟨oc, od, dV, kV, doc, pm, an, cdv, ct, osl, rfl, lk, hcd⟩ := F.ex
  refine fnN_of lk hcd Sc (fun vs H Q E ⟨H0, ds, Φ, Ψ, _, r, q, _⟩ => r.length.trans (len ds Φ Ψ q)) fun A outer s H vs Q E room ⟨H0, ds, Φ, Ψ, e, r, q, kq, kx⟩ => ?_
  obtain ⟨t, ht, hw⟩ := hbody cdv A outer s H E ⟨room, L2N.passes_call (L2N.takes_of rfl rfl rfl rfl) fun _ _ _ _ h => h, passes_of rfl⟩
  refine ⟨t, ht, hw ds Φ Ψ q ⟨H, H0, []⟩ _ H0 H _ (at_start e r) ⟨rfl, fun x hx dd H0' H' p rx => kx x dd H0' H' hx p rx⟩ ⟨fun ρ H0' H' σ z a => kq .non .non H0' H' z a.px .non, fun d v ρ H0' H' σ z a rv => kq v d H0' H' z a.px rv, fun _ _ _ _ _ _ _ z => z.elim, fun _ _ _ _ z => z.elim, fun _ _ _ _ z => z.elim⟩⟩
end
section
variable {P : Program} {w : World} {K : PySem.W.Frag} {mg : Str → Option Value} {base : Heap}
theorem fnI_ofN {x qual : Str} {C : Addr} {st : Stmt} {f : Addr} {fd : FuncData} {N ps : List Str} {k : Nat} {S : ISp} (F : FunX K x qual st f fd) (Sc : FnScope N ps (defScope st)) (len : ∀ ds Φ Ψ, S ds Φ Ψ → ds.length + 1 = ps.length)
    (hbody : ∀ (cdv : Value) (A : Around) (outer : List Env) (s : Shared) (H : Hp) (E : XK), InBodyN P w k (bodyN P w K mg base N qual st f cdv A outer s H E) E →
      ∃ t, PSs (bodyN P w K mg base N qual st f cdv A outer s H E) (defBody st) t ∧ ∀ y ds Φ Ψ, S ds Φ Ψ → wS ⟨K, E, Ψ, []⟩ t { nx := fun ρ => ∃ fs, ρ[0]? = some (some (.own (some y) (.ins C fs))) ∧ Φ fs } (startI y C N ds)) :
    FnN P w K mg base (k + 1) f fd ps (liftI K C S) := by
  obtain ⟨oc, od, dV, kV, doc, pm, an, cdv, ct, osl, rfl, lk, hcd⟩ := F.ex
  refine fnN_of lk hcd Sc (fun vs H Q E ⟨y, dx, vs', He, H0, ds, Φ, Ψ, ev, _, _, _, _, r, q, _⟩ => by rw [ev, List.length_cons, r.length]; exact len ds Φ Ψ q) fun A outer s H vs Q E room ⟨y, dx, vs', He, H0, ds, Φ, Ψ, ev, hy, hye, e1, e2, r, q, kq, kx⟩ => ?_
  subst ev
  obtain ⟨t, ht, hw⟩ := hbody cdv A outer s H E ⟨room, L2N.passes_call (L2N.takes_of rfl rfl rfl rfl) fun _ _ _ _ h => h, passes_of rfl⟩
  have h0 : H0 y = none := e2.back hye
  have a : At K ⟨He, H0, []⟩ (startI y C N ds) H0 H (L2.start N (V.ref y :: vs')) := by
    refine ⟨⟨.of e1, .refl _, e2.trans e1, fun _ _ h => h⟩, .nil, [y], ?_, by simp, fun p hp => ?_⟩
    · have z := slots_startI (n := N.length - (ds.length + 1)) (C := C) hy r
      unfold startI L2.start
      rw [List.length_cons, r.length]
      exact z
    · rw [List.mem_singleton.mp hp]; exact ⟨h0, hye⟩
  refine ⟨t, ht, hw y ds Φ Ψ q ⟨He, H0, []⟩ _ H0 H _ a ⟨rfl, fun x hx dd H0' H' p rx => kx x dd H0' H' hx p rx⟩ ⟨fun ρ H0' H' σ ⟨fs, g, z⟩ a' => ?_, fun _ _ _ _ _ _ z => z.elim, fun _ _ _ _ _ _ _ z => z.elim, fun _ _ _ _ z => z.elim, fun _ _ _ _ z => z.elim⟩⟩
  obtain ⟨p, o, g1, g2, _, gt, _⟩ := a'.own g
  obtain ⟨p', o', g1', _, _, _, a2, r2⟩ := a'.freeze g
  rw [g1] at g1'
  cases g1'
  rw [gt y rfl] at r2
  rw [gt y rfl] at a2
  exact kq fs _ _ z a2.px r2
end
section
variable {P : Program} {w : World} {K : PySem.W.Frag} {mg : Str → Option Value} {base : Heap}
theorem CallN.of {x : Str} {k : Nat} {S : DSp} {f : Addr} {fd : FuncData} {ps : List Str} (F : FnN P w K mg base k f fd ps (lift K S)) (hm : mg x = some (.ref f)) (hk : PySem.W.keepIn K (.ref f) = true) (hb : Binds K fd ps []) : CallN P w K mg base x k S := ⟨f, fd, ps, F, hm, hk, hb⟩
end
section
variable {P : Program} {w : World} {K : PySem.W.Frag} {mg : Str → Option Value} {base : Heap}
structure MakeN (P : Program) (w : World) (K : PySem.W.Frag) (mg : Str → Option Value) (base : Heap) (C : Addr) (k : Nat) (I : ISp) (n : Nat) (ks : List Str) (ix : List Nat) (dd : List D) : Prop where
  ex : ∃ f fd ps, Mk K C f ∧ FnN P w K mg base k f fd ps (liftI K C I) ∧ KbG K fd ps (n + 1) ks (shiftIx ix) dd
end
section
variable {X : Cx} {j k n : Nat} {C : Addr} {ks : List Str} {ix : List Nat} {dd : List D} {S : DSp} {I : ISp} {E : XK} {x m : Str} {p pos apos : Pos} {e o : Expr} {es : List Expr} {kws : List Keyword} {ta : TE} {t tk : TA} {pl : Sem Bool}
theorem pe_cdN (c : CallN X.prog X.w X.K X.mg X.base x k S) (room : RoomG j X.A) (hj : k ≤ j) (hx : Passes (CXN X.prog X.w) X E) (ha : PA X (e :: es) t) (hg : Gl X x := by rfl) (hdb : (x == ("__debug__" : Str)) = false := by decide)
    (he : starEach (e :: es) X.env = (false, eval e X.env) :: starEach es X.env := by rfl) (hpl : (backTo pos (starEach es X.env)).any (·.1) = false := by rfl) : PE X (.Call (.Name x p) (e :: es) [] pos) (tCall (lift X.K S) [] E t) := pe_callND c (room.mono hj) hx ha hg hdb he hpl
end
section
variable {X : Cx} {j k n : Nat} {C : Addr} {ks : List Str} {ix : List Nat} {dd : List D} {S : DSp} {I : ISp} {E : XK} {x m : Str} {p pos apos : Pos} {e o : Expr} {es : List Expr} {kws : List Keyword} {ta : TE} {t tk : TA} {pl : Sem Bool}
theorem pe_mkN (c : MakeN X.prog X.w X.K X.mg X.base C k I n ks ix dd) (room : RoomG j X.A) (hj : k + 1 ≤ j) (hx : Passes (CXN X.prog X.w) X E) (hm : X.mg x = some (.ref C)) (ha : PA X es t) (hkw : PK X kws tk) (hg : Gl X x := by rfl)
    (hn : (backTo pos (starEach es X.env)).any (·.1) = false := by rfl) (hall : (backToKw pos (keywordEach kws X.env)).all (·.1.isSome) = true := by rfl) (hks : (backToKw pos (keywordEach kws X.env)).filterMap (·.1) = ks := by rfl) (hdb : (x == ("__debug__" : Str)) = false := by decide) :
    PE X (.Call (.Name x p) es kws pos) (tMakeD X.K C I n ks.length ix dd E t tk) := by
  obtain ⟨f, fd, ps, M, F, hb⟩ := c.ex
  exact pe_makeND M F (room.mono hj) hb hx hm ha hkw hg hn hall hks hdb
end
section
variable {X : Cx} (K : PySem.W.Frag)
variable {o e : Expr} {es : List Expr} {kws : List Keyword} {to te ta : TE} {t tk : TA} {name : Str} {apos cpos pos p tpos px py sp : Pos} {T id : String} {r : V → List V → Hp → VK → Prop} {tg : Expr}
variable {j k n : Nat} {C : Addr} {ks : List Str} {ix : List Nat} {dd : List D} {S : DSp} {I : ISp} {E : XK} {x m : Str} {pl : Sem Bool}
theorem k_cdN (c : CallN X.prog X.w K X.mg X.base x k S) (room : RoomG j X.A) (hj : k ≤ j) (hx : Passes (CXN X.prog X.w) X E) (ha : PA X (e :: es) t) (hg : Gl X x := by rfl) (hdb : (x == ("__debug__" : Str)) = false := by decide)
    (he : starEach (e :: es) X.env = (false, eval e X.env) :: starEach es X.env := by rfl) (hpl : (backTo pos (starEach es X.env)).any (·.1) = false := by rfl) (h : X.K = K := by rfl) : PE X (.Call (.Name x p) (e :: es) [] pos) (tCall (lift K S) [] E t) := by
  subst h; exact pe_cdN c room hj hx ha hg hdb he hpl
end
section
variable {X : Cx} (K : PySem.W.Frag)
variable {o e : Expr} {es : List Expr} {kws : List Keyword} {to te ta : TE} {t tk : TA} {name : Str} {apos cpos pos p tpos px py sp : Pos} {T id : String} {r : V → List V → Hp → VK → Prop} {tg : Expr}
variable {j k n : Nat} {C : Addr} {ks : List Str} {ix : List Nat} {dd : List D} {S : DSp} {I : ISp} {E : XK} {x m : Str} {pl : Sem Bool}
theorem k_mkN (c : MakeN X.prog X.w K X.mg X.base C k I n ks ix dd) (room : RoomG j X.A) (hj : k + 1 ≤ j) (hx : Passes (CXN X.prog X.w) X E) (hm : X.mg x = some (.ref C)) (ha : PA X es t) (hkw : PK X kws tk) (hg : Gl X x := by rfl)
    (hn : (backTo pos (starEach es X.env)).any (·.1) = false := by rfl) (hall : (backToKw pos (keywordEach kws X.env)).all (·.1.isSome) = true := by rfl) (hks : (backToKw pos (keywordEach kws X.env)).filterMap (·.1) = ks := by rfl) (hdb : (x == ("__debug__" : Str)) = false := by decide) (h : X.K = K := by rfl) :
    PE X (.Call (.Name x p) es kws pos) (tMakeD K C I n ks.length ix dd E t tk) := by
  subst h; exact pe_mkN c room hj hx hm ha hkw hg hn hall hks hdb
end
end DL
/-! DL34: raising without context; what such defs are to those who don't ask. -/
namespace DL
open PySem PySem.Spec L2
open PyProof.Rows hiding St
/-- C(e, ..) where nothing is handled: the new exception has no context -/
theorem pmk_oexN {X : Cx} {x : Str} {C fI : Addr} {k : Nat} {fd : FuncData} {ps : List Str} {sp : Sp} {e : Expr} {es : List Expr} {ta : TA} {p pos : Pos} (T : OexC X.K C) (i1 : PySem.W.findIn X.K (.ref C) "__init__" = some (some (.ref fI))) (i2 : PySem.W.typeIn X.K (.ref fI) = some (.type "function"))
    (F : FnOk X.prog X.w X.K X.mg X.base (L2.CX X.prog X.w) k fI fd ps sp) (room : Room (k + 1) X.A) (bd : Binds X.K fd ps []) (hg : Gl X x) (hm : X.mg x = some (.ref C)) (ha : PA X (e :: es) ta) (nd : (x == ("__debug__" : Str)) = false)
    (first : starEach (e :: es) X.env = (false, eval e X.env) :: starEach es X.env) (plain : (backTo pos (starEach es X.env)).any (·.1) = false) : L2N.PMk X (.Call (.Name x p) (e :: es) [] pos) (tMkO C sp [] ta) := fun pins s σ H Q I q0 => by
  refine wpAny_Call_Name_kw (ld_glob I hg hm (PySem.W.callWith_K (h₀ := X.base) I.ok.mod.kin T.kC (thn (ha.run pos pins s σ H _ I q0) fun args ⟨hp, gens, dr, tk, os⟩ ⟨vs, Ha, Ja, rv, small, q1⟩ => ⟨Ja.kIn, ?_⟩) first plain) nd)
  have above : hp.objs.size ≤ hp.objs.size + 1 := Nat.le_add_right _ 1
  have stay : ∀ b o, hp.get? b = some o → ((hp.push (PySem.W.kdv_tup args)).push (PySem.HandSPX.excO C hp.objs.size)).get? b = some o := fun b o z => by
    exact Heap.get?_push_of_some _ (Heap.get?_push_of_some _ z)
  have top : ((hp.push (PySem.W.kdv_tup args)).push (PySem.HandSPX.excO C hp.objs.size)).get? (hp.objs.size + 1) = some (PySem.HandSPX.excO C hp.objs.size) := by heap_get
  have Jb := Ja.laid (t' := tk) (a := hp.objs.size + 1) (o := exo (hp.objs.size + 1) C none) stay above (exo_ok top)
  have want := q1 _ (Ja.hok.fresh above)
  rw [List.append_nil] at want
  have rel : Vals (V.ref (hp.objs.size + 1) :: vs) (Value.ref (hp.objs.size + 1) :: args) := .cons rfl rv
  have cnt := rel.length
  rw [F.len _ _ _ _ want] at cnt
  have bt := bd _ (Value.ref (hp.objs.size + 1) :: args) Jb.kIn (by rw [List.append_nil]; exact cnt.symm)
  rw [List.append_nil] at bt
  have fits : args.length ≤ sizeLine := by rw [← rv.length, sizeLine_eq]; omega
  obtain ⟨_, _, _, _, up, _, _, _, _, _, _, _, _, _, _, atC, vUp⟩ := T.cls
  have go := F.run _ X.stack _ _ ⟨Value.ref (hp.objs.size + 1) :: args, []⟩ _ _ _ (fun _ _ _ => False) (room.make C args []) (Jb.env0.make C args []) bt rel want
  refine wpAny_call (PySem.HandSPX.call_own PySem.F.excBase_ValueError (fun Y => PySem.HandSPX.refsVE_contains Y up vUp) (Ja.kIn _ _ atC) (PySem.W.looks_findIn Ja.kIn i1) (fun self => PySem.W.bind_fn Ja.kIn self i2) fits (codeAny_mono go fun r st z => ?_))
  rcases r with er | fl
  · obtain ⟨_, _, _, _, _, _, _, _, _, _, _, _, z⟩ := z; exact z.elim
  rcases fl with _ | _ | _ | u
  · exact z.elim
  · exact z.elim
  · exact z.elim
  obtain ⟨v, Hc, o2, b2, un, ok2, rz, ez, d, fs, atA, atD, fr, fin⟩ := z
  subst ez
  rcases st with ⟨h2, g2, d2, t2, os'⟩
  obtain ⟨_, G, Jc, kG, gone, obj, away⟩ := mk_end0 (d2 := d2) (t2 := t2) Ja above stay un ok2 o2 b2 atA atD fr
  exact ⟨rz, _, _, _, ⟨G, g2, d2, t2, os'⟩, _, .ref C, some d, rfl, Jc, kG, gone, obj, ⟨rfl, rfl, fun vs hv => by cases hv; rfl⟩, rfl, rfl, away, rfl, b2, raises_own T.exC T.tyC, fin⟩
theorem k_raiseN {X : Cx} (K : PySem.W.Frag) {j : Nat} {C : Addr} {x f : Str} {e : Expr} {es : List Expr} {ta : TA} {E : XK} {p pos pos' : Pos} (c : XMk X.prog X.w K X.mg X.base x f C) (room : RoomG j X.A) (hj : 2 ≤ j) (hc : X.calm = true) (tk : L2N.Takes X fun cls d _ H => E cls d H) (ha : PA X (e :: es) ta)
    (hg : Gl X x := by rfl) (hdb : (x == ("__debug__" : Str)) = false := by decide) (he : starEach (e :: es) X.env = (false, eval e X.env) :: starEach es X.env := by rfl) (hpl : (backTo pos (starEach es X.env)).any (·.1) = false := by rfl) (h : X.K = K := by rfl) :
    PS X (.Raise (some (.Call (.Name x p) (e :: es) [] pos)) none pos') (tRaise K C f E ta) := by
  subst h
  obtain ⟨fI, fd, i1, i2, F, hb⟩ := c.ini
  exact L2N.ps_raise hc tk (pmk_oexN c.T i1 i2 F (room.mono hj).r hb hg c.here ha hdb he hpl)
theorem cxn_cxd {P : Program} {w : World} {outer : List Env} {H : Hp} {s : Shared} {E : XK} {u : Value} {s' : Shared} (h : CXN P w outer H s E u s') : CXD P w outer H s E u s' := by
  obtain ⟨a, B, H', cls, d, e, fl, r⟩ := h
  exact ⟨a, B, H', cls, d, e, L2H.flyingZ_imp (fun o z => L2N.Zn.zc z) fl, r⟩
section
variable {P : Program} {w : World} {K : PySem.W.Frag} {mg : Str → Option Value} {base : Heap}
theorem FnN.g {k : Nat} {f : Addr} {fd : FuncData} {ps : List Str} {sp : Sp} (F : FnN P w K mg base k f fd ps sp) : FnG P w K mg base k f fd ps sp :=
  ⟨F.len, fun A outer s H args us vs Q E hr e0 hb hv q => codeAny_mono (F.run A outer s H args us vs Q E hr e0 hb hv q) fun r s' z => by
    cases r with
    | error e => exact cxn_cxd z
    | ok fl => cases fl <;> exact z⟩
theorem CallN.d {x : Str} {k : Nat} {S : DSp} (c : CallN P w K mg base x k S) : CallD P w K mg base x k S := let ⟨f, fd, ps, F, r⟩ := c.ex; ⟨f, fd, ps, F.g, r⟩
end
/-- a call of a def that raises nothing -/
theorem wE_callE {w : Wx} {ρ : Env'} {Φ : D → Env' → Prop} {ta : TA} {S : DSp} (h : wA w ta ρ fun ds ρ1 => S ds (fun d => Φ d ρ1) (fun _ => False)) : wE w (tCall (lift w.K S) [] EN ta) ρ Φ := fun c H0 H σ Q a x k =>
  h c H0 H σ _ a x fun vs ds ρ1 H01 H1 q a1 e1 r1 => ⟨H01, ds, fun d => Φ d ρ1, fun _ => False, a1.px.i, by rw [List.append_nil]; exact r1, q, fun v d H0' H' z p rv => k v d ρ1 H0' H' z (a1.go p) (e1.trans p.e0) rv, fun _ _ _ _ z => z.elim⟩
end DL
/-! DL35: try .. except (A, B, C): a suite that raises, all that the body raises being caught. -/
namespace DL
open PySem PySem.Spec L2 L2H
open PyProof.Rows hiding St
/-- what such a clause wishes of an exception of the body -/
def wTupX (K : PySem.W.Frag) (cs : List Value) (ts : Addr → Value → Option Addr → TS) (D : Ends) : WX := fun cls d σ H => PySem.W.exmAny K cls cs = some true ∧ ∀ a, H a = none → ts a cls d D σ H
section
variable {X : Cx} {x1 x2 x3 : Str} {c1 c2 c3 : Value} {kk : Nat} {body suite : List Stmt} {b₀ : Stmt} {p1 p2 p3 tp pos pos' : Pos} {tb : WX → TS} {ts : Addr → Value → Option Addr → TS} {Wout : WX}
theorem ps_try_tupX (hs : X.stack = X.env :: X.outer) (hf : X.env.frame = some X.env.locals) (n1 : Names X x1 c1) (n2 : Names X x2 c2) (n3 : Names X x3 c3) (hpa : ∀ hd : Option Value, PassesOwnAt (model X.prog X.w) (X.A.mark hd) X.A X.env X.xe) (tk : L2.Takes X Wout)
    (hb : ∀ (W : WX) (pn : List (Addr × Obj)) (xe : Value → Shared → Prop), L2N.Takes (X.tr pn xe) W → PassesOwn (model X.prog X.w) X.A X.env xe → PSs (X.tr pn xe) body (tb W))
    (hsu : ∀ (a : Addr) (oe : Obj) (cls : Value) (d : Option Addr) (pn : List (Addr × Obj)), L2N.Zn cls d oe → (∃ vs, oe.data = .fields vs) → L2.Takes (suiteX X a ((a, oe) :: pn)) Wout → HotC (suiteX X a ((a, oe) :: pn)) → PSs (suiteX X a ((a, oe) :: pn)) (b₀ :: suite) (ts a cls d)) :
    PS X (.Try body [.ExceptHandler (some (.Tuple [.Name x1 p1, .Name x2 p2, .Name x3 p3] kk tp)) none (b₀ :: suite) pos'] [] [] pos) (fun D σ H => tb (wTupX X.K [c1, c2, c3] ts D) D σ H) := by
  refine ⟨fun pins s σ H D I h => wpAny_Try_except ?_⟩
  have ok := I.ok
  have frames : X.A.frames = some (X.env :: X.outer) := by rw [ok.frames, hs]
  have run := (hb (wTupX X.K [c1, c2, c3] ts D) (X.pn ++ pins) (fun e s₁ => wpAny (model X.prog X.w) X.A (noteFrame e X.env) (fun _ s₂ => wpAny (model X.prog X.w) X.A (setFlight e none) (fun _ s₃ =>
    wpAny (model X.prog X.w) X.A (handleBy e X.env [.ExceptHandler (some (.Tuple [.Name x1 p1, .Name x2 p2, .Name x3 p3] kk tp)) none (b₀ :: suite) pos']) (SP X pins D) X.xe s₃) X.xe s₂) X.xe s₁) (fun u s' xx => ?caught) PassesOwn.looking).run [] s σ H D (I.toTry _) h
  case caught =>
    obtain ⟨a, B, sI, pins', σ', H', cls, d, rfl, J', nb, up, sky, na, os, ag, hb1, hyes⟩ := xx
    have J : Inv X pins σ' H' sI := J'.ofTry ok
    have sky' : Sky B (X.env :: X.outer) a (L2N.Zn cls d) X.env.locals s'.heap := by rw [← hs]; exact sky
    show wpAny (model X.prog X.w) X.A (noteFrame (.ref a) X.env) _ _ _
    refine L2N.Sky.land L2N.Zn.steady frames hf sky' fun h3 fl3 up3 => ?_
    have J3 : Inv X pins σ' H' { s' with heap := h3 } := J.landed nb fl3.1 (up.trans up3) os ag
    obtain ⟨oe3, vs3, he3, hz3, hd3⟩ := fl3.there
    have away : a ∉ frs (X.env :: X.outer) := fun hm => by
      obtain ⟨_, o', e', hnf⟩ := fl3.2.2.1.mem hm
      rw [he3] at e'; cases e'
      exact hnf _ hd3
    have nL : a ≠ X.env.locals := fun z => away (List.mem_filterMap.mpr ⟨X.env, List.mem_cons_self, by rw [hf, z]⟩)
    have nF : a ∉ X.fs := fun hm => by
      obtain ⟨e, he, q⟩ := List.mem_filterMap.mp hm
      exact away (List.mem_filterMap.mpr ⟨e, List.mem_cons_of_mem _ he, q⟩)
    have S3 := J3.suite he3 hd3 na nL nF
    refine wpAny_handleBy_cons (codeAny_handlers_test ?_) (by intro q; cases q)
    have LT : PySem.W.Looks (model X.prog X.w) h3 (typeOf (.ref a)) cls := fun A Q E s k q => wpAny_typeOf_ref (k _ _ he3) (by rw [hz3.1]; exact q)
    have name : ∀ {x : Str} {c : Value} {np : Pos} {Q : Value → Shared → Prop} {E : Value → Shared → Prop}, Names X x c → Q c { s' with heap := h3 } → wpAny (model X.prog X.w) (X.A.mark (some (.ref a))) (eval (.Name x np) X.env) Q E { s' with heap := h3 } := fun {x c np Q E} hc q => by
      obtain ⟨hg, hdbg, hm⟩ := hc
      rcases hm with hm | ⟨hm, hv, hnn⟩
      · exact ld_glob (X := X.suite a ((a, oe3) :: (X.pn ++ pins))) S3 hg hm q hdbg
      · exact ld_blt (X := X.suite a ((a, oe3) :: (X.pn ++ pins))) S3 hg hm hv q hnn hdbg
    refine wpAny_Tuple (wpAny_items_cons (name n1 (wpAny_items_cons (name n2 (wpAny_items_cons (name n3 (wpAny_items_nil ⟨by size_fits, ?_⟩)))))))
    have kp : ∀ q o, h3.get? q = some o → (h3.push { cls := .type "tuple", data := .seq [c1, c2, c3].toArray }).get? q = some o := fun _ _ z => Heap.get?_push_of_some _ z
    refine (PySem.W.exm_tup3 (J3.kIn.keeps kp) (LT.keeps kp) (Heap.get?_push_size h3 rfl) hb1).here (codeAny_handlers_suite ?_)
    refine HandSPX.lands_againZ (flying_kept fl3 kp) fun h4 fl4 up4 => ?_
    have J4 : Inv X pins σ' H' { s' with heap := h4 } := J.landed nb fl4.1 ((up.trans up3).trans ((upTo_kept kp).trans up4)) os ag
    obtain ⟨oe4, vs4, he4, hz4, hd4⟩ := fl4.there
    have S4 := J4.suite he4 hd4 na nL nF
    have tkS : L2.Takes (suiteX X a ((a, oe4) :: (X.pn ++ pins))) Wout := fun u2 s2 ⟨a2, B2, sI2, pn2, σ2, H2, cls2, d2, e2, I2, nb2, up2, sky2, na2, os2, ag2, w2⟩ =>
      tk u2 s2 ⟨a2, B2, sI2, pins, σ2, H2, cls2, d2, e2, unsuiteX I2 ok, nb2, up2, sky2, na2, os2, ag2, w2⟩
    have hot : HotC (suiteX X a ((a, oe4) :: (X.pn ++ pins))) := ⟨(a, oe4), ⟨rfl, vs4, hd4, hz4.2.2 vs4 hd4⟩, List.mem_cons_self⟩
    refine wpAny_mono ((hsu a oe4 cls d (X.pn ++ pins) hz4 ⟨_, hd4⟩ tkS hot).run [] _ _ H' _ (suiteX_of S4) (hyes a na)) (fun f s6 hsp => ?_) (fun e6 s6 z => hpa (some (.ref a)) e6 s6 z)
    rcases f with _ | _ | _ | u
    · obtain ⟨_, _, S6, q6⟩ := hsp; exact ⟨_, _, unsuiteX S6 ok, q6⟩
    · obtain ⟨_, _, S6, q6⟩ := hsp; exact ⟨_, _, unsuiteX S6 ok, q6⟩
    · obtain ⟨_, _, S6, q6⟩ := hsp; exact ⟨_, _, unsuiteX S6 ok, q6⟩
    · obtain ⟨_, _, _, S6, r6, q6⟩ := hsp; exact ⟨_, _, _, unsuiteX S6 ok, r6, q6⟩
  refine wpAny_mono run (fun f s1 hsp => ?_) fun e s1 he => he
  rcases f with _ | _ | _ | u
  · obtain ⟨σ', H', J', q⟩ := hsp; exact wpAny_execs_nil ⟨σ', H', J'.ofTry ok, q⟩
  · obtain ⟨σ', H', J', q⟩ := hsp; exact ⟨σ', H', J'.ofTry ok, q⟩
  · obtain ⟨σ', H', J', q⟩ := hsp; exact ⟨σ', H', J'.ofTry ok, q⟩
  · obtain ⟨v, σ', H', J', r, q⟩ := hsp; exact ⟨v, σ', H', J'.ofTry ok, r, q⟩
end
/-- raise C(e) from None, in such a suite -/
theorem k_raiseH {X : Cx} (K : PySem.W.Frag) {C : Addr} {x f : Str} {e : Expr} {es : List Expr} {ta : TA} {W : WX} {jc : Nat} {p pos cpos pos' : Pos} {fI : Addr} {fd : FuncData} (T : OexC X.K C) (i1 : PySem.W.findIn X.K (.ref C) "__init__" = some (some (.ref fI))) (i2 : PySem.W.typeIn X.K (.ref fI) = some (.type "function"))
    (F : FnH X.prog X.w X.K X.mg X.base (L2.CX X.prog X.w) 1 fI fd ["self", f] (spXI X.K C f)) (hb : Binds X.K fd ["self", f] []) (hm : X.mg x = some (.ref C)) (room : RoomH 2 X.A) (hot : HotC X) (tk : L2.Takes X W) (ha : PA X (e :: es) ta)
    (hg : Gl X x := by rfl) (hdb : (x == ("__debug__" : Str)) = false := by decide) (he : starEach (e :: es) X.env = (false, eval e X.env) :: starEach es X.env := by rfl) (hpl : (backTo pos (starEach es X.env)).any (·.1) = false := by rfl) :
    PS X (.Raise (some (.Call (.Name x p) (e :: es) [] pos)) (some (.Constant .none jc cpos)) pos') (fun _ σ H => tMkO C (spXI X.K C f) [] ta σ H fun cls d H' => W cls d σ H') :=
  ps_raiseHN hot tk (pmk5_oexH T i1 i2 F room hot hb passN hg hm ha hdb he hpl)
end DL
/-! DL36: an object made where the exception is told of the very state (mkS.py writes the first part). -/
namespace DL
open PySem PySem.Spec L2
open PyProof.Rows hiding St
section
variable {X : Cx} {k : Nat} {f C : Addr} {fd : FuncData} {ps : List Str} {sp : Sp} {dvs : List V} {ds : List Value} {E : XK} {x m : Str} {p pos apos : Pos} {e o : Expr} {es : List Expr} {ta : TE} {t : TA}
theorem backS_of {pins : List (Addr × Obj)} {σ : St} {H : Hp} {s : Shared} {Q : VK} (hx : PassesAt (CXN X.prog X.w) X σ E) (I : Inv X pins σ H s) : ∀ r s', CR (CXN X.prog X.w) X.stack X.prog X.w H s Q E r s' →
    (match r with | .ok (.ret v) => EP X pins σ Q v s' | .ok _ => False | .error er => X.xe er s') := fun r s' z => by
  cases r with
  | error er => exact hx pins H s er s' I z
  | ok fl =>
    cases fl with
    | ret u => exact I.after z
    | next => exact z
    | brk => exact z
    | cont => exact z
end
section
variable {X : Cx} {k : Nat} {f C : Addr} {fd : FuncData} {ps : List Str} {sp : Sp} {dvs : List V} {ds : List Value} {E : XK} {x m : Str} {p pos apos : Pos} {e o : Expr} {es : List Expr} {ta : TE} {t : TA}
theorem run_makeS {pins : List (Addr × Obj)} {σ : St} {H : Hp} {s : Shared} {Q : VK} {us zs : List Value} {kw : List (Str × Value)} {vs : List V} (M : Mk X.K C f) (F : FnN X.prog X.w X.K X.mg X.base k f fd ps sp) (room : RoomG (k + 1) X.A)
    (hb : ∀ (s : Shared) (u : Value), X.K.In s.heap → BindsTo s fd ⟨u :: us, kw⟩ (ps.zip (u :: zs))) (hx : PassesAt (CXN X.prog X.w) X σ E) (I : Inv X pins σ H s) (r : Vals vs zs)
    (q : ∀ x dx, H x = none → H dx = none → dx ≠ x → sp (.ref x :: vs) (upd (upd H dx (.own x)) x (.ins C dx [])) (fun v H2 => v = .non ∧ Q (.ref x) H2) E) :
    wpAny (model X.prog X.w) X.A (call (.ref C) us kw) (EP X pins σ Q) X.xe s := by
  have q1 := q (s.heap.objs.size + 1) s.heap.objs.size (I.hok.fresh (Nat.le_succ _)) (I.hok.fresh (Nat.le_refl _)) (Nat.ne_of_lt (Nat.lt_succ_self _))
  have J := Inv.made (C := C) I
  have r2 : Vals (V.ref (s.heap.objs.size + 1) :: vs) (Value.ref (s.heap.objs.size + 1) :: zs) := .cons rfl r
  refine wpAny_call (make_map (f := f) I.kIn M.makes M.init (beq_iff_eq.mp M.fn) (codeAny_mono (F.run _ X.stack _ _ ⟨Value.ref (s.heap.objs.size + 1) :: us, kw⟩ (Value.ref (s.heap.objs.size + 1) :: zs) _ _ E (room.make C us kw)
    (J.env0.make C us kw) (hb _ _ J.kIn) r2 q1) fun r s' z => ?_))
  have y := backS_of hx J r s' z
  cases r with
  | error er => exact y
  | ok fl =>
    cases fl with
    | ret u => obtain ⟨v, H', J2, rv, ev, q3⟩ := y; subst ev; exact ⟨rv, ⟨V.ref (s.heap.objs.size + 1), H', J2, rfl, q3⟩⟩
    | next => exact y
    | brk => exact y
    | cont => exact y
end
section
variable {X : Cx} {k n : Nat} {f C q g : Addr} {fd : FuncData} {ps ks : List Str} {ix : List Nat} {dd : List D} {S : DSp} {E : XK} {x m : Str} {p pos apos : Pos} {e o : Expr} {es : List Expr} {kws : List Keyword} {ta : TE} {t tk : TA} {pl : Sem Bool} {mc : Value}
theorem run_makeSD {I0 : ISp} {pins : List (Addr × Obj)} {σ : St} {H : Hp} {s : Shared} {Q : VK} {us ws : List Value} {vs zs : List V} (Mx : Mk X.K C f) (F : FnN X.prog X.w X.K X.mg X.base k f fd ps (liftI X.K C I0)) (room : RoomG (k + 1) X.A) (hb : KbG X.K fd ps (n + 1) ks (shiftIx ix) dd) (hx : PassesAt (CXN X.prog X.w) X σ E)
    (I : Inv X pins σ H s) (r : Vals vs us) (rz : Vals zs ws) (l1 : vs.length = n) (l2 : zs.length = ks.length) (q : atI X.K I0 C ix dd vs zs H Q E) : wpAny (model X.prog X.w) X.A (call (.ref C) us (ks.zip ws)) (EP X pins σ Q) X.xe s := by
  obtain ⟨dvs, dv, rd, rr, b⟩ := hb.ex
  obtain ⟨H0, ds, es, Φ, Ψ, e, r1, r2, q1, k1, k2⟩ := q
  refine run_makeS (zs := pick ix (us ++ ws ++ dv)) (vs := pick ix (vs ++ zs ++ dvs)) Mx F room (fun s u hk => ?_) hx I (pick_vals ix ((r.append rz).append rd)) fun y dx hy hdx hne => ?_
  · have z := b s (u :: us) ws hk (by rw [List.length_cons, ← r.length, l1]) (rz.length.symm.trans l2)
    rw [show u :: us ++ ws ++ dv = u :: (us ++ ws ++ dv) from rfl, pick_shift] at z
    exact z
  · have hx2 : Ex H (upd (upd H dx (.own y)) y (.ins C dx [])) := fun a o h => by
      have n1 : a ≠ y := ne_of_none h hy
      have n2 : a ≠ dx := ne_of_none h hdx
      rw [upd_ne n1, upd_ne n2]; exact h
    refine ⟨y, dx, _, H, H0, _, _, Ψ, rfl, upd_same, hy, hx2, e, pick_reps ix ((r1.append r2).append (rr H0)), q1, fun fs H0' H' h1 h2 h3 => ⟨rfl, k1 _ _ H0' H' h1 h2 h3⟩, k2⟩
end
section
variable {X : Cx} {k n : Nat} {f C q g : Addr} {fd : FuncData} {ps ks : List Str} {ix : List Nat} {dd : List D} {S : DSp} {E : XK} {x m : Str} {p pos apos : Pos} {e o : Expr} {es : List Expr} {kws : List Keyword} {ta : TE} {t tk : TA} {pl : Sem Bool} {mc : Value}
theorem pe_makeSD {I0 : ISp} (Mx : Mk X.K C f) (F : FnN X.prog X.w X.K X.mg X.base k f fd ps (liftI X.K C I0)) (room : RoomG (k + 1) X.A) (hb : KbG X.K fd ps (n + 1) ks (shiftIx ix) dd) {Es : St → XK} (hx : ∀ σ, PassesAt (CXN X.prog X.w) X σ (Es σ)) (hm : X.mg x = some (.ref C)) (ha : PA X es t) (hkw : PK X kws tk) (hg : Gl X x)
    (hn : (backTo pos (starEach es X.env)).any (·.1) = false := by rfl) (hall : (backToKw pos (keywordEach kws X.env)).all (·.1.isSome) = true := by rfl) (hks : (backToKw pos (keywordEach kws X.env)).filterMap (·.1) = ks := by rfl) (hdb : (x == ("__debug__" : Str)) = false := by decide) :
    PE X (.Call (.Name x p) es kws pos) (fun σ H Q => tMakeD X.K C I0 n ks.length ix dd (Es σ) t tk σ H Q) := by
  refine ⟨fun pins s σ H Q I h => wpAny_Call_Name_kw (ld_glob I hg hm ?_ hdb)⟩
  refine callWith_any (P := X.K.In) hn hall (PySem.W.keeps_K Mx.kp) (thn (ha.run pos pins s σ H _ I h) fun us s1 ⟨vs, H1, J, r, q⟩ => thn (hkw.run pos pins s1 σ H1 _ J q) fun ws s2 ⟨zs, H2, J2, rz, l1, l2, q2⟩ => ⟨J2.kIn, ?_⟩)
  rw [hks]
  exact run_makeSD Mx F room hb (hx σ) J2 r rz l1 l2 q2
end
section
variable {X : Cx} {j k n : Nat} {C : Addr} {ks : List Str} {ix : List Nat} {dd : List D} {S : DSp} {I : ISp} {E : XK} {x m : Str} {p pos apos : Pos} {e o : Expr} {es : List Expr} {kws : List Keyword} {ta : TE} {t tk : TA} {pl : Sem Bool}
theorem pe_mkS (c : MakeN X.prog X.w X.K X.mg X.base C k I n ks ix dd) (room : RoomG j X.A) (hj : k + 1 ≤ j) {Es : St → XK} (hx : ∀ σ, PassesAt (CXN X.prog X.w) X σ (Es σ)) (hm : X.mg x = some (.ref C)) (ha : PA X es t) (hkw : PK X kws tk) (hg : Gl X x := by rfl)
    (hn : (backTo pos (starEach es X.env)).any (·.1) = false := by rfl) (hall : (backToKw pos (keywordEach kws X.env)).all (·.1.isSome) = true := by rfl) (hks : (backToKw pos (keywordEach kws X.env)).filterMap (·.1) = ks := by rfl) (hdb : (x == ("__debug__" : Str)) = false := by decide) :
    PE X (.Call (.Name x p) es kws pos) (fun σ H Q => tMakeD X.K C I n ks.length ix dd (Es σ) t tk σ H Q) := by
  obtain ⟨f, fd, ps, M, F, hb⟩ := c.ex
  exact pe_makeSD M F (room.mono hj) hb hx hm ha hkw hg hn hall hks hdb
end
section
variable {X : Cx} (K : PySem.W.Frag)
variable {o e : Expr} {es : List Expr} {kws : List Keyword} {to te ta : TE} {t tk : TA} {name : Str} {apos cpos pos p tpos px py sp : Pos} {T id : String} {r : V → List V → Hp → VK → Prop} {tg : Expr}
variable {j k n : Nat} {C : Addr} {ks : List Str} {ix : List Nat} {dd : List D} {S : DSp} {I : ISp} {E : XK} {x m : Str} {pl : Sem Bool}
theorem k_mkS (c : MakeN X.prog X.w K X.mg X.base C k I n ks ix dd) (room : RoomG j X.A) (hj : k + 1 ≤ j) {Es : St → XK} (hx : ∀ σ, PassesAt (CXN X.prog X.w) X σ (Es σ)) (hm : X.mg x = some (.ref C)) (ha : PA X es t) (hkw : PK X kws tk) (hg : Gl X x := by rfl)
    (hn : (backTo pos (starEach es X.env)).any (·.1) = false := by rfl) (hall : (backToKw pos (keywordEach kws X.env)).all (·.1.isSome) = true := by rfl) (hks : (backToKw pos (keywordEach kws X.env)).filterMap (·.1) = ks := by rfl) (hdb : (x == ("__debug__" : Str)) = false := by decide) (h : X.K = K := by rfl) :
    PE X (.Call (.Name x p) es kws pos) (fun σ H Q => tMakeD K C I n ks.length ix dd (Es σ) t tk σ H Q) := by
  subst h; exact pe_mkS c room hj hx hm ha hkw hg hn hall hks hdb
end
end DL
/-! DL37: try: return C(..) except (A, B, D): raise X(e) from None. -/
namespace DL
open PySem PySem.Spec L2 L2H
open PyProof.Rows hiding St
def tTryMk (K : PySem.W.Frag) (cs : List Value) (C : Addr) (I : ISp) (n m : Nat) (ix : List Nat) (dd : List D) (t tk : TA) (CX : Addr) (f : Str) (E : XK) (ta : TA) : TS := fun Dn σ H =>
  tRet (fun σ H Q => tMakeD K C I n m ix dd (fun cls d H' => wTupX K cs (fun _ _ _ => tRaise K CX f E ta) Dn cls d σ H') t tk σ H Q) Dn σ H
theorem wS_tryMk {w : Wx} {ρ : Env'} {E : DE} {cs : List Value} {C CX : Addr} {I : ISp} {n m : Nat} {ix : List Nat} {dd : List D} {t tk ta : TA} {f : Str}
    (h : wA w t ρ fun ds ρ1 => wA w tk ρ1 fun es ρ2 => ds.length = n ∧ es.length = m ∧ I (pick ix (ds ++ es ++ dd)) (fun fs => E.rt (.ins C fs) ρ2) (fun x => PySem.W.exmAny w.K (.ref x.C) cs = some true ∧ wA w ta ρ2 fun ds' _ => ∃ d, ds' = [d] ∧ w.X ⟨CX, [(f, d)]⟩)) :
    wS w (tTryMk w.K cs C I n m ix dd t tk CX f w.EX ta) E ρ := fun c Dn H0 H σ a x l =>
  h c H0 H σ _ a x fun vs ds ρ1 H01 H1 h1 a1 e1 r1 => h1 c H01 H1 σ _ a1 x fun zs es ρ2 H02 H2 ⟨l1, l2, q⟩ a2 e2 r2 => ⟨r1.length.trans l1, r2.length.trans l2, H02, ds, es, fun d => E.rt d ρ2, _, a2.px.i, r1.mono e2, r2, q,
    fun v d H0' H' z p rv => l.rt d v ρ2 H0' H' σ z (a2.go p) rv,
    fun y ddx H0' H' ⟨hy, hw⟩ p rx => ⟨hy, fun b hb => wS_raise (E := ⟨fun _ => False, fun _ _ => False, fun _ _ => False, fun _ => False, fun _ => False⟩) hw c Dn H0' H' σ (a2.go p) x ⟨fun _ _ _ _ z => z.elim, fun _ _ _ _ _ _ z => z.elim, fun _ _ _ _ _ _ _ z => z.elim, fun _ _ _ _ z => z.elim, fun _ _ _ _ z => z.elim⟩⟩⟩
/-- the exception's __init__, called while another one is handled -/
structure XMkH (P : Program) (w : World) (K : PySem.W.Frag) (mg : Str → Option Value) (base : Heap) (x f : Str) (C : Addr) : Prop where
  here : mg x = some (.ref C)
  T : OexC K C
  ini : ∃ fI fd, PySem.W.findIn K (.ref C) "__init__" = some (some (.ref fI)) ∧ PySem.W.typeIn K (.ref fI) = some (.type "function") ∧ FnH P w K mg base (L2.CX P w) 1 fI fd ["self", f] (spXI K C f) ∧ Binds K fd ["self", f] []
theorem k_tryMk {X : Cx} (K : PySem.W.Frag) {x1 x2 x3 xn xr f : Str} {c1 c2 c3 : Value} {kk jc j k n : Nat} {p1 p2 p3 tp pos pos' q1 q2 q3 r1 r2 r3 r4 : Pos} {C CX : Addr} {I : ISp} {ix : List Nat} {dd : List D} {es : List Expr} {e : Expr} {es' : List Expr} {t ta : TA} {E : XK}
    (c : MakeN X.prog X.w K X.mg X.base C k I n [] ix dd) (room : RoomG j X.A) (hj : k + 1 ≤ j) (hj2 : 2 ≤ j) (hm : X.mg xn = some (.ref C)) (cr : XMkH X.prog X.w K X.mg X.base xr f CX) (hs : X.stack = X.env :: X.outer) (hf : X.env.frame = some X.env.locals) (n1 : Names X x1 c1) (n2 : Names X x2 c2) (n3 : Names X x3 c3)
    (hpa : ∀ hd : Option Value, PassesOwnAt (model X.prog X.w) (X.A.mark hd) X.A X.env X.xe) (tk : L2.Takes X fun cls d _ H => E cls d H)
    (ha : ∀ (pn : List (Addr × Obj)) (xe : Value → Shared → Prop), PA (X.tr pn xe) es t) (ha2 : ∀ (a : Addr) (pn : List (Addr × Obj)), PA (suiteX X a pn) (e :: es') ta)
    (hg : Gl X xn := by rfl) (hgr : Gl X xr := by rfl) (hdb : (xn == ("__debug__" : Str)) = false := by decide) (hdr : (xr == ("__debug__" : Str)) = false := by decide)
    (hn : (backTo q2 (starEach es X.env)).any (·.1) = false := by rfl) (he : starEach (e :: es') X.env = (false, eval e X.env) :: starEach es' X.env := by rfl) (hpl : (backTo r2 (starEach es' X.env)).any (·.1) = false := by rfl) (h : X.K = K := by rfl) :
    PS X (.Try [.Return (some (.Call (.Name xn q1) es [] q2)) q3] [.ExceptHandler (some (.Tuple [.Name x1 p1, .Name x2 p2, .Name x3 p3] kk tp)) none [.Raise (some (.Call (.Name xr r1) (e :: es') [] r2)) (some (.Constant .none jc r3)) r4] pos'] [] [] pos)
      (tTryMk K [c1, c2, c3] C I n 0 ix dd t tNil CX f E ta) := by
  subst h
  obtain ⟨fI, fd, i1, i2, F, hb⟩ := cr.ini
  exact ps_try_tupX (tb := fun W => tRet (fun σ H Q => tMakeD X.K C I n 0 ix dd (fun cls d H' => W cls d σ H') t tNil σ H Q)) (ts := fun _ _ _ => tRaise X.K CX f E ta) hs hf n1 n2 n3 hpa tk
    (fun W pn xe tkN _ => pss_one (ps_ret (k_mkS (X := X.tr pn xe) X.K c room hj (Es := fun σ cls d H' => W cls d σ H') (fun σ => L2N.passAt tkN σ) hm (ha pn xe) pk_nil hg hn rfl rfl hdb)))
    (fun a oe cls d pn hz hv tkS hot => pss_one (k_raiseH X.K cr.T i1 i2 F hb cr.here (L2H.roomH_mark (room.mono hj2).r _) hot tkS (ha2 a _) hgr hdr he hpl))
end DL
/-! DL38: repr of plain data, flat or not. -/
namespace DL
open PySem PySem.Spec L2
open PyProof.Rows hiding St
def rReprA (K : PySem.W.Frag) : List V → Hp → VK → Prop := fun xs H Q => ∃ (v : V) (d : PyData), xs = [v] ∧ Dp K H v d ∧ d.showable = true ∧ d.hasDict = false ∧ d.depth ≤ 64 ∧ d.shown.length ≤ sizeLine ∧ Q (.str d.shown) H
theorem call_reprA {X : Cx} (hg : X.A.guards = some []) (hu : X.A.units + 65 < cLine) : CallR X (.builtin "repr") (rReprA X.K) := by
  intro pins s σ H xs us Q I r ⟨v, d, e, hd, h1, h2, h3, h4, q⟩
  subst e
  obtain ⟨u, rfl, ru⟩ := vals1 r
  obtain ⟨as, rd⟩ := Dp.reads I d _ _ hd ru
  cases rd with
  | none => exact P.repr_of_none ⟨.str _, H, I.tok _, ⟨_, rfl⟩, q⟩
  | bool b => exact P.repr_of_bool ⟨.str _, H, I.tok _, ⟨_, rfl⟩, q⟩
  | int i t => exact P.repr_of_int (by simpa [PyData.showable] using h1) ⟨.str _, H, I.tok _, ⟨_, rfl⟩, q⟩
  | str x t => exact P.repr_of_str ⟨.str _, H, I.tok _, ⟨_, rfl⟩, q⟩ h4
  | list a b c e => exact repr_of_reads' (.list a b c e) h1 (fun z => by rw [h2] at z; cases z) hg (by omega) (fun _ _ z => z) (fun h' u tk keep => ⟨.str _, H, I.kept keep, ⟨_, rfl⟩, q⟩) h4
  | tuple a b c e => exact repr_of_reads' (.tuple a b c e) h1 (fun z => by rw [h2] at z; cases z) hg (by omega) (fun _ _ z => z) (fun h' u tk keep => ⟨.str _, H, I.kept keep, ⟨_, rfl⟩, q⟩) h4
  | dict a b c e f => exact repr_of_reads' (.dict a b c e f) h1 (fun z => by rw [h2] at z; cases z) hg (by omega) (fun _ _ z => z) (fun h' u tk keep => ⟨.str _, H, I.kept keep, ⟨_, rfl⟩, q⟩) h4
def reprAG (ds : List D) (Φ : D → Prop) : Prop := ∃ d, ds = [d] ∧ Fine 64 350000 d ∧ Φ (.str d.py.shown)
theorem cbd_reprA {K : PySem.W.Frag} : CbD K (rReprA K) reprAG := fun H0 H xs ds Φ Q e rx ⟨d, hd, f, g⟩ k => by
  subst hd
  obtain ⟨v, rfl, r⟩ := vals_one rx
  exact ⟨v, _, rfl, dp_of e r f.p, f.s, noDict_of_pure _ f.p, f.n, Nat.le_trans f.len (by decide), fin0 e g (.str _) k⟩
section
variable {X : Cx} (K : PySem.W.Frag) {j : Nat}
theorem k_reprA (room : RoomG j X.A) (h : X.K = K := by rfl) : CallR X (.builtin "repr") (rReprA K) := h ▸ call_reprA room.g (hu65 room)
theorem k_reprAE (room : RoomE j X.A) (h : X.K = K := by rfl) : CallR X (.builtin "repr") (rReprA K) := h ▸ call_reprA room.g (hu65E room)
end
end DL
/-! DL39: _law_answer(lambda: ..) as one rule. -/
namespace DL
open PySem PySem.Spec L2 LamX
open PyProof.Rows hiding St
/-- the names of such a def, as its scope has them -/
structure AnsS (mg : Str → Option Value) (sg : Scope) (a got n srt x1 x2 x3 : Str) (c1 c2 c3 : Value) : Prop where
  nd : ([a, got, n] : List Str).Nodup
  la : sg.names.lookup a = some .local
  lg : sg.names.lookup got = some .local
  ln : sg.names.lookup n = some .local
  gs : sg.names.lookup srt = some .globalImplicit
  g1 : sg.names.lookup x1 = some .globalImplicit
  g2 : sg.names.lookup x2 = some .globalImplicit
  g3 : sg.names.lookup x3 = some .globalImplicit
  ds : (srt == ("__debug__" : Str)) = false
  d1 : (x1 == ("__debug__" : Str)) = false
  d2 : (x2 == ("__debug__" : Str)) = false
  d3 : (x3 == ("__debug__" : Str)) = false
  da : (a == ("__debug__" : Str)) = false ∧ (a == ("__classdict__" : Str)) = false
  dg : (got == ("__debug__" : Str)) = false ∧ (got == ("__classdict__" : Str)) = false
  dn : (n == ("__debug__" : Str)) = false ∧ (n == ("__classdict__" : Str)) = false
  kd : sg.kind = .function
  m1 : mg x1 = some c1
  m2 : mg x2 = some c2
  m3 : mg x3 = some c3
/-- the def that tells the error, as such a def calls it -/
structure SortB (P : Program) (w : World) (K : PySem.W.Frag) (mg : Str → Option Value) (base : Heap) (x : Str) (k : Nat) (S : ESp) : Prop where
  ex : ∃ f fd p1, FnE P w K mg base k f fd p1 (liftE K S) ∧ mg x = some (.ref f) ∧ PySem.W.keepIn K (.ref f) = true ∧ Binds K fd [p1] []
theorem k_ans {X : Cx} (K : PySem.W.Frag) {T : List (Addr × Str)} {x a got n srt x1 x2 x3 : Str} {c1 c2 c3 : Value} {st : Stmt} {g c P : Addr} {fd : FuncData} {S : ESp} {j k kk j2 : Nat} {p1 p2 p3 p4 q1 q2 q3 tp hp r1 r2 r3 r4 r5 r6 r7 r8 tp2 p lpos pos : Pos} {params : Arguments} {body : Expr} {scope : Scope} {t : XK → TE}
    (F : FunX K x x st g fd) (hm : X.mg x = some (.ref g)) (hk : PySem.W.keepIn K (.ref g) = true) (bd : Binds K fd [a] []) (FS : SortB X.prog X.w K X.mg X.base srt k S) (room : RoomG j X.A) (hj : k + 2 ≤ j) (Sg : FnScope [a, got, n] [a] (defScope st)) (N : AnsS X.mg (defScope st) a got n srt x1 x2 x3 c1 c2 c3)
    (TB : TabB X.base X.mg c P) (hcode : X.env.code = .ref c) (hmT : (P, lamQ X) ∈ T) (hu : ∀ p ∈ T, p.1 = P → p.2 = lamQ X) (L : LamS X.env.scope scope)
    (hbody : ∀ (A : Around) (outer : List Env) (s : Shared) (H : Hp) (E : XK) (f c' : Addr), RoomG k (A.deeper (lamEnv X scope s.heap.objs.size f c')) → PE (lamCx X A outer s H E scope f c') body (t E))
    (hst : defBody st = [.Try [.Assign [.Name got p1] (.Call (.Name a p2) [] [] p3) p4] [.ExceptHandler (some (.Tuple [.Name x1 q1, .Name x2 q2, .Name x3 q3] kk tp)) (some n) [.Return (some (.Call (.Name srt r1) [.Name n r2] [] r3)) r4] hp] [] [] tp2, .Return (some (.List [.Constant (.str "back") j2 r5, .Name got r6] r7)) r8] := by rfl)
    (hdef : defaultsOf params X.env = ([], []) := by rfl) (hbind : ∀ (q : Str) (cl : List (Str × Addr)) (pm cv ctv : Value), bindArgs (PySem.W.kla_fn "<lambda>" q params body scope cl pm cv ctv) ⟨[], []⟩ = pure [] := by intros; rfl) (hg : Gl X x := by rfl) (hdb : (x == ("__debug__" : Str)) = false := by decide) (h : X.K = K := by rfl) :
    PE X (.Call (.Name x p) [.Lambda params body scope lpos] [] pos) (tLamG T (TTans K [c1, c2, c3] (liftE K S)) t) := by
  subst h
  obtain ⟨oc, od, dV, kV, doc, pm, an, cdv, ct, osl, rfl, lk, hcd⟩ := F.ex
  obtain ⟨fS, fdS, pS, FE, hmS, hkS, hbS⟩ := FS.ex
  rw [hst] at lk
  rw [hst] at bd
  exact pe_lamcallG hg hm hk lk hcd bd Sg rfl (.inl N.la) (answer_gives FE hmS hkS hbS N.gs N.ds N.nd N.lg N.ln ⟨N.g1, N.d1, N.m1⟩ ⟨N.g2, N.d2, N.m2⟩ ⟨N.g3, N.d3, N.m3⟩ N.dg N.dn N.kd) TB hcode hmT hu room hj L hdef hbind hbody hdb N.da.1 N.da.2
end DL
/-! DL40: from the top of a text to the law's line, where lambdas are made: their tables stand empty there, and may be filled. -/
namespace DL
open PySem PySem.Spec L2 LamX
open PyProof.Rows hiding St
/-- where the modules' table stands is no place of ours -/
def SysB (base : Heap) : Prop := ∃ m, base.Ns sysModules m
/-- defs that make a lambda: name, code object, table -/
abbrev Tabl := List (Str × Addr × Addr)
def Tabl.T (ts : Tabl) : List (Addr × Str) := ts.map fun t => (t.2.2, t.1 ++ ".<locals>.<lambda>")
def Tabl.ads (ts : Tabl) : List Addr := ts.map fun t => t.2.2
/-- the tables beside what else is known -/
def withT (ts : Tabl) (H : Hp) : Hp := fun b => if b ∈ ts.ads then some (.tbl #[]) else H b
section
variable {P : Program} {w : World} {K : PySem.W.Frag} {mg mb : Str → Option Value} {z : Shared} {scr : Addr} {H : Hp} {items : Array Value} {ts : Tabl}
structure TabsIn (z : Shared) (K : PySem.W.Frag) (mg : Str → Option Value) (ts : Tabl) : Prop where
  tab : ∀ t ∈ ts, PySem.W.CodeHd z.heap t.2.1 t.2.2 ∧ z.heap.get? t.2.2 = some (PySem.W.tabObj #[])
  out : ∀ t ∈ ts, K.lookup t.2.2 = none
  bm : ∃ (bm : Addr) (ob : Obj), mg "__builtins__" = some (.ref bm) ∧ bm ≠ builtinsNs ∧ z.heap.get? bm = some ob ∧ ob.cls = .type "module" ∧ ob.dict = some builtinsNs ∧ ob.data = .plain
/-- what is tracked at the start: the script at most, and the tables -/
structure Asides (z : Shared) (scr : Addr) (items : Array Value) (ts : Tabl) (H : Hp) : Prop where
  at_ : z.heap.get? scr = some { cls := .type "list", data := .seq items }
  tabs : ∀ p ∈ ts.ads, z.heap.get? p = some (PySem.W.tabObj #[])
  one : ∀ b, H b ≠ none → b = scr ∨ b ∈ ts.ads
theorem TabsIn.at_ads (t : TabsIn z K mg ts) : ∀ p ∈ ts.ads, z.heap.get? p = some (PySem.W.tabObj #[]) := fun p hp => by
  obtain ⟨y, hy, rfl⟩ := List.mem_map.mp hp
  exact (t.tab y hy).2
theorem Asides.noneOf (a : Asides z scr items ts H) {b : Addr} {o : Obj} (e : z.heap.get? b = some o) (d : ∀ c, o.data ≠ .seq items c) (d2 : o.data ≠ .fields #[]) : H b = none := by
  rcases hb : H b with _ | u
  · rfl
  · exfalso
    rcases a.one b (by simp [hb]) with q | q
    · subst q
      obtain rfl := Option.some.inj (a.at_.symm.trans e)
      exact d _ rfl
    · obtain rfl := Option.some.inj ((a.tabs b q).symm.trans e)
      exact d2 rfl
theorem Asides.ns (a : Asides z scr items ts H) {b : Addr} {m : Str → Option Value} (n : z.heap.Ns b m) : (hidT z.heap H).Ns b m := by
  obtain ⟨o, es, ep, e, d, r⟩ := n
  exact ⟨o, es, ep, hidT_get e (a.noneOf e (fun c q => by rw [d] at q; cases q) fun q => by rw [d] at q; cases q), d, r⟩
theorem Asides.frag (a : Asides z scr items ts H) (B : Begins z K mg mb) (t : TabsIn z K mg ts) (out : H scr ≠ none → K.lookup scr = none) : K.In (hidT z.heap H) := fun b o e => by
  refine hidT_get (B.frag b o e) ?_
  rcases hb : H b with _ | u
  · rfl
  · exfalso
    rcases a.one b (by simp [hb]) with q | q
    · subst q
      rw [out (by simp [hb])] at e
      cases e
    · obtain ⟨y, hy, rfl⟩ := List.mem_map.mp q
      rw [t.out y hy] at e
      cases e
theorem Asides.env0 (a : Asides z scr items ts H) (B : Begins z K mg mb) (t : TabsIn z K mg ts) (out : H scr ≠ none → K.lookup scr = none) (ok : HOk P w H z.heap) : Env0 P w K mg (hidT z.heap H) callerA [] z H := by
  have lim : (hidT z.heap H).NoLimit := let ⟨mc, h1, h2⟩ := B.lim; ⟨mc, a.ns h1, h2⟩
  exact ⟨rfl, ⟨a.frag B t out, a.ns B.main, ⟨mb, a.ns B.blt, B.boot⟩, lim⟩, fun b o e => of_hidT e, Nat.le_of_eq (hidT_size _ _), trivial, fun b hb => absurd (show b ∈ ([] : List Addr) from hb) (by simp), ok, .of_eq B.gens⟩
theorem not_main {b : Addr} {o : Obj} {m : Str → Option Value} (n : z.heap.Ns mainGlobals m) (e : z.heap.get? b = some o) (d : ∀ es ep, o.data ≠ .dict es ep) : b ≠ mainGlobals := fun q => by
  obtain ⟨o', es, ep, e', d', _⟩ := n
  rw [← q, e] at e'
  exact d es ep (by rw [Option.some.inj e']; exact d')
theorem Asides.tabB (a : Asides z scr items ts H) (B : Begins z K mg mb) (t : TabsIn z K mg ts) : ∀ y ∈ ts, TabB (hidT z.heap H) mg y.2.1 y.2.2 := fun y hy => by
  obtain ⟨cd, em⟩ := t.tab y hy
  refine ⟨?_, ?_, Ne.symm (not_main B.main em fun es ep q => by cases q)⟩
  · obtain ⟨o, vs, file, tf, flags, tg, inF, text, tt, e, r1, r2, r3, r4⟩ := cd
    exact ⟨o, vs, file, tf, flags, tg, inF, text, tt, hidT_get e (a.noneOf e (fun c q => by rw [r2] at q; cases q) fun q => by rw [r2] at q; cases q; simp at r3), r1, r2, r3, r4⟩
  · obtain ⟨bm, ob, b1, b2, b3, b4, b5, b6⟩ := t.bm
    refine ⟨bm, ob, b1, b2, not_main B.main b3 (fun es ep q => by rw [b6] at q; cases q), fun q => ?_, hidT_get b3 (a.noneOf b3 (fun c q => by rw [b6] at q; cases q) fun q => by rw [b6] at q; cases q), b4, b5, b6⟩
    rw [q, em] at b3
    cases b3
    cases b6
theorem withT_at {p : Addr} (h : p ∈ ts.ads) : withT ts H p = some (.tbl #[]) := if_pos h
theorem withT_off {p : Addr} (h : p ∉ ts.ads) : withT ts H p = H p := if_neg h
/-- the law's call, from the law's promise -/
theorem law_atT {k : Nat} {fa : Addr} {fd : FuncData} {x : Str} {S : DSp} {vs : List Value} {ns : List Int} (B : Begins z K mg mb) (sy : SysB z.heap) (t : TabsIn z K mg ts) (at_ : z.heap.get? scr = some { cls := .type "list", data := .seq vs.toArray }) (hi : IntsAre vs ns) (hl : ns.length ≤ 63)
    (room : RoomG k callerA) (F : ∀ base : Heap, K.In base → base.Ns mainGlobals mg → SysB base → (∀ y ∈ ts, TabB base mg y.2.1 y.2.2) → FnG P w K mg base k fa fd [x] (liftT K ts.T S)) (hbind : ∀ (s : Shared) (u : Value), BindsTo s fd ⟨[u], []⟩ [(x, u)])
    (hS : ∀ Φ Ψ, Φ (.bl true) → S [.scr ns] Φ Ψ) :
    codeAny (model P w) callerA (.call (.ref fa) ⟨[.ref scr], []⟩) (fun r s' => r = .ok (.ret (.bool true)) ∧ OldK z.heap s'.heap ∧ s'.os = z.os ∧ AllBare s'.gens) z := by
  have vals := vals_ints hi
  have size : ns.length ≤ sizeLine := Nat.le_trans hl (by decide)
  have scrOff : scr ∉ ts.ads := fun q => by
    have e := (t.at_ads scr q).symm.trans at_
    cases e
  -- H0: the script at most
  have go : ∀ H0 : Hp, L2.Only H0 → SqL K H0 scr (ns.map V.int) → HOk P w H0 z.heap → (∀ b, H0 b ≠ none → b = scr) → (H0 scr ≠ none → K.lookup scr = none) →
      codeAny (model P w) callerA (.call (.ref fa) ⟨[.ref scr], []⟩) (fun r s' => r = .ok (.ret (.bool true)) ∧ OldK z.heap s'.heap ∧ s'.os = z.os ∧ AllBare s'.gens) z := by
    intro H0 only seq ok one out
    have off : ∀ p ∈ ts.ads, H0 p = none := fun p hp => by
      rcases q : H0 p with _ | u
      · rfl
      · exact absurd (one p (by simp [q]) ▸ hp) scrOff
    have ex : Ex H0 (withT ts H0) := fun b o e => by
      by_cases q : b ∈ ts.ads
      · rw [off b q] at e; cases e
      · rw [withT_off q]; exact e
    have a : Asides z scr vs.toArray ts (withT ts H0) := ⟨at_, t.at_ads, fun b h => by
      by_cases q : b ∈ ts.ads
      · exact .inr q
      · rw [withT_off q] at h; exact .inl (one b h)⟩
    have ok2 : HOk P w (withT ts H0) z.heap := fun b u e => by
      by_cases q : b ∈ ts.ads
      · rw [withT_at q] at e
        cases e
        exact t.at_ads b q
      · rw [withT_off q] at e
        refine (ok b u e).stay (fun d v _ q => q) (fun d q => ?_) fun d xs q => ?_
        · exact ex d _ q
        · exact ex d _ q
    have out2 : withT ts H0 scr ≠ none → K.lookup scr = none := by rw [withT_off scrOff]; exact out
    have F1 := F _ (a.frag B t out2) (a.ns B.main) (sy.imp fun m n => a.ns n) (a.tabB B t)
    have tabA : TabA ts.T H0 (withT ts H0) := fun p hp => by
      obtain ⟨y, hy, rfl⟩ := List.mem_map.mp hp
      have q : y.2.2 ∈ ts.ads := List.mem_map.mpr ⟨y, hy, rfl⟩
      exact ⟨TabS.nil (withT_at q), off _ q⟩
    have low : liftT K ts.T S [.ref scr] (withT ts H0) (fun v _ => v = .bl true) EN :=
      ⟨H0, [.scr ns], fun d => d = .bl true, fun _ => False, ex, .cons (.scr seq) .nil, tabA, hS _ _ rfl, fun v d _ _ e _ _ r => by subst e; cases r; rfl, fun _ _ _ _ e => e.elim⟩
    refine codeAny_mono (F1.run callerA [] z (withT ts H0) ⟨[.ref scr], []⟩ [.ref scr] [.ref scr] _ _ room (a.env0 B t out2 ok2) (hbind z _) (.cons rfl .nil) low) fun r s' q => ?_
    rcases r with e | fl
    · obtain ⟨_, _, _, _, _, _, _, _, _, _, _, _, h⟩ := q
      exact h.elim
    rcases fl with _ | _ | _ | u
    · exact False.elim q
    · exact False.elim q
    · exact False.elim q
    obtain ⟨v, H', os, bare, un, ok', rel, q1⟩ := q
    obtain rfl : v = V.bl true := q1
    obtain rfl : u = Value.bool true := rel
    have stays : ∀ b o, b ∉ ts.ads → z.heap.get? b = some o → s'.heap.get? b = some o := fun b o nb e => by
      rcases hb : withT ts H0 b with _ | u
      · exact un.keep b o e hb (fun h => absurd (show b ∈ ([] : List Addr) from h) (by simp)) (by simp)
      · obtain h | ⟨ob, xs, h⟩ := only b
        · rw [withT_off nb, h] at hb; cases hb
        · obtain ⟨e1, _⟩ := ok b _ h
          have h2 : withT ts H0 b = _ := (withT_off nb).trans h
          obtain ⟨e2, _⟩ := ok' b _ (un.frzs b ob _ h2)
          rw [Option.some.inj (e.symm.trans e1)]
          exact e2
    have grown : ∀ y ∈ ts, ∃ more : Array Value, s'.heap.get? y.2.2 = some (PySem.W.tabObj (#[] ++ more)) := fun y hy => by
      obtain ⟨more, q⟩ := un.tbls y.2.2 #[] (withT_at (List.mem_map.mpr ⟨y, hy, rfl⟩))
      exact ⟨more, ok' _ _ q⟩
    refine ⟨rfl, ⟨fun b o e => ?_, fun b o e => ?_⟩, os, bare⟩
    · by_cases hb : b ∈ ts.ads
      · obtain ⟨y, hy, rfl⟩ := List.mem_map.mp hb
        obtain ⟨cd, em⟩ := t.tab y hy
        obtain ⟨more, m⟩ := grown y hy
        obtain rfl := Option.some.inj (em.symm.trans e)
        exact .inr (.inl ⟨(cd.tab em).isCodeTable, rfl, #[], more, rfl, m⟩)
      · exact .inl (stays b o hb e)
    · by_cases hb : b ∈ ts.ads
      · obtain ⟨y, hy, rfl⟩ := List.mem_map.mp hb
        obtain ⟨more, m⟩ := grown y hy
        exact ⟨_, m⟩
      · exact ⟨o, stays b o hb e⟩
  rcases hk : K.lookup scr with _ | o
  · refine go (fun b => if b = scr then some (.frz { cls := .type "list", data := .seq vs.toArray } (.lst (ns.map V.int))) else none) (fun b => ?_) (.inl (.inr ⟨_, if_pos rfl⟩)) (fun b u h => ?_) (fun b h => ?_) fun _ => hk
    · by_cases e : b = scr
      · exact .inr ⟨_, _, if_pos e⟩
      · exact .inl (if_neg e)
    · by_cases e : b = scr
      · subst e
        obtain rfl := Option.some.inj ((if_pos rfl).symm.trans h)
        exact ⟨at_, by rw [List.length_map]; exact size, vs, _, vals, at_⟩
      · exact nomatch (if_neg e).symm.trans h
    · by_cases e : b = scr
      · exact e
      · exact absurd (if_neg e) h
  · obtain rfl := Option.some.inj (at_.symm.trans (B.frag scr o hk))
    exact go (fun _ => none) (fun _ => .inl rfl) (.inr ⟨_, vs.toArray, _, hk, rfl, rfl, rfl, by rw [List.size_toArray, hi.length]; exact size, by simpa using vals⟩) (fun b u h => nomatch (show (none : Option HO) = some u from h)) (fun b h => absurd rfl h) fun h => absurd rfl h
end
/-- the goal that k_head leaves, from the law's promise; xs: the defs that make lambdas -/
theorem walk_GT {l : PySem.W.OpenLaw} {q : Program} {loose : List Str} {XP : (Str → Option Value) → Heap → Prop} {YP : World → Heap → Prop} {d : DefRec} {K : Params → PySem.W.Frag} {S : DSp} {k : Nat} (x : Str) (xs : List Str)
    (hn : l.most = some 63) (hdf : d.params.defaults = []) (room : RoomG k callerA) (hrec : (xs.all fun y => ((recsOf q).find? fun e => e.name == y).isSome) = true) (himp : importsNone q = true)
    (hY : ∀ (w : World) (h : Heap), YP w h → (K w.params).In h)
    (F : ∀ (w : World) (mg : Str → Option Value) (fa : Addr) (h : Heap), (K w.params).In h → h.Ns mainGlobals mg → mg d.name = some (.ref fa) →
      ∃ (fd : FuncData) (ts : Tabl), (∀ t ∈ ts, t.1 ∈ xs ∧ PySem.W.tabIn (K w.params) t.1 = some t.2 ∧ (K w.params).lookup t.2.2 = none) ∧ (∀ (s : Shared) (u : Value), BindsTo s fd ⟨[u], []⟩ [(x, u)]) ∧
        ∀ base : Heap, (K w.params).In base → base.Ns mainGlobals mg → SysB base → (∀ y ∈ ts, TabB base mg y.2.1 y.2.2) → FnG l.prog w (K w.params) mg base k fa fd [x] (liftT (K w.params) ts.T S))
    (hS : ∀ (ns : List Int) Φ Ψ, ns.length ≤ 63 → (∀ n ∈ ns, Bd n) → Φ (.bl true) → S [.scr ns] Φ Ψ) :
    PySem.W.WalkO q loose XP YP l.row.toRowW d [] (fun f vs => PySem.call f vs) := by
  refine Att.attach_callB hn hdf fun w s₀ s₁ mg mb fa o pm cd doc a vs ns G Y ho hd hcd hmg hobj hints hlen hbits hg => ?_
  obtain ⟨fd, ts, ht, hb, hF⟩ := F w mg fa _ (hY w _ Y) G.T.g hmg
  have t : TabsIn s₁ (K w.params) mg ts := ⟨fun y hy => by
    obtain ⟨h1, h2, _⟩ := ht y hy
    obtain ⟨r, hr⟩ := Option.isSome_iff_exists.mp (List.all_eq_true.mp hrec y.1 h1)
    exact PySem.W.tab_of G.T (hY w _ Y) hr h2, fun y hy => (ht y hy).2.2, G.T.bmain⟩
  exact law_atT ⟨hY w _ Y, G.T.g, G.T.b, G.T.builtins, G.T.nolimit, hg⟩ (let ⟨m, n, _⟩ := (G.T.seer himp).mods; ⟨m, n⟩) t hobj hints hlen room hF hb fun Φ Ψ q => hS ns Φ Ψ hlen (fun n hn => bd_of (hbits n hn)) q
end DL
/-! DL41: the def that calls a lambda, put together once. -/
namespace DL
open PySem PySem.Spec L2 LamX
open PyProof.Rows hiding St
structure AnsC (P : Program) (w : World) (K : PySem.W.Frag) (mg : Str → Option Value) (base : Heap) (x : Str) (k : Nat) (cs : List Value) (S : ESp) : Prop where
  ex : ∃ (st : Stmt) (g : Addr) (fd : FuncData) (a got n srt x1 x2 x3 : Str) (c1 c2 c3 : Value) (kk j2 : Nat) (p1 p2 p3 p4 q1 q2 q3 tp hp r1 r2 r3 r4 r5 r6 r7 r8 tp2 : Pos),
    cs = [c1, c2, c3] ∧ FunX K x x st g fd ∧ mg x = some (.ref g) ∧ PySem.W.keepIn K (.ref g) = true ∧ Binds K fd [a] [] ∧ SortB P w K mg base srt k S ∧ FnScope [a, got, n] [a] (defScope st) ∧ AnsS mg (defScope st) a got n srt x1 x2 x3 c1 c2 c3 ∧
    defBody st = [.Try [.Assign [.Name got p1] (.Call (.Name a p2) [] [] p3) p4] [.ExceptHandler (some (.Tuple [.Name x1 q1, .Name x2 q2, .Name x3 q3] kk tp)) (some n) [.Return (some (.Call (.Name srt r1) [.Name n r2] [] r3)) r4] hp] [] [] tp2, .Return (some (.List [.Constant (.str "back") j2 r5, .Name got r6] r7)) r8]
theorem k_ansC {X : Cx} (K : PySem.W.Frag) {T : List (Addr × Str)} {x : Str} {cs : List Value} {c P : Addr} {S : ESp} {j k : Nat} {p lpos pos : Pos} {params : Arguments} {body : Expr} {scope : Scope} {t : XK → TE}
    (A : AnsC X.prog X.w K X.mg X.base x k cs S) (room : RoomG j X.A) (hj : k + 2 ≤ j) (TB : TabB X.base X.mg c P) (hcode : X.env.code = .ref c) (hmT : (P, lamQ X) ∈ T) (hu : ∀ p ∈ T, p.1 = P → p.2 = lamQ X) (L : LamS X.env.scope scope)
    (hbody : ∀ (A : Around) (outer : List Env) (s : Shared) (H : Hp) (E : XK) (f c' : Addr), RoomG k (A.deeper (lamEnv X scope s.heap.objs.size f c')) → PE (lamCx X A outer s H E scope f c') body (t E))
    (hdef : defaultsOf params X.env = ([], []) := by rfl) (hbind : ∀ (q : Str) (cl : List (Str × Addr)) (pm cv ctv : Value), bindArgs (PySem.W.kla_fn "<lambda>" q params body scope cl pm cv ctv) ⟨[], []⟩ = pure [] := by intros; rfl) (hg : Gl X x := by rfl) (hdb : (x == ("__debug__" : Str)) = false := by decide) (h : X.K = K := by rfl) :
    PE X (.Call (.Name x p) [.Lambda params body scope lpos] [] pos) (tLamG T (TTans K cs (liftE K S)) t) := by
  obtain ⟨st, g, fd, a, got, n, srt, x1, x2, x3, c1, c2, c3, kk, j2, p1, p2, p3, p4, q1, q2, q3, tp, hp, r1, r2, r3, r4, r5, r6, r7, r8, tp2, rfl, F, hm, hk, bd, FS, Sg, N, hst⟩ := A.ex
  exact k_ans K F hm hk bd FS room hj Sg N TB hcode hmT hu L hbody hst hdef hbind hg hdb h
end DL
/-! DL42: facts of classes of errors, put together. -/
namespace DL
open PySem PySem.Spec L2 LamX
open PyProof.Rows hiding St
/-- the code object of the def at f -/
def CodeAt (K : PySem.W.Frag) (f c : Addr) : Prop := ∀ (oc : Value) (od : Option Addr) (x qual : Str) (params : Arguments) (body : List Stmt) (scope : Scope) (dV kV doc pm cdv ct : Value) (an : Option Addr) (osl : Array (Option Value)), K.lookup f = some ⟨oc, od, .func (PySem.W.fnOf x qual params body scope dV kV doc pm an cdv ct), osl⟩ → cdv = .ref c
def codeOfO (o : Obj) : Value := match o.data with
  | .func fd => fd.code
  | _ => .none
theorem CodeAt.of {K : PySem.W.Frag} {f c : Addr} {o : Obj} (h : K.lookup f = some o) (e : codeOfO o = .ref c) : CodeAt K f c := fun _ _ _ _ _ _ _ _ _ _ _ _ _ _ _ l =>
  (show codeOfO _ = _ from congrArg codeOfO (Option.some.inj (l.symm.trans h))).trans e
section
variable {P : Program} {w : World} {K : PySem.W.Frag} {mg : Str → Option Value} {base : Heap}
/-- .. while an exception is handled -/
theorem XMkH.of {x f : Str} {st : Stmt} {C : Addr} {N : List Str} (c : XCls K mg x f st C) (Sc : FnScope N ["self", f] (defScope st))
    (hb : ∀ (kV doc pm : Value) (an : Option Addr) (cdv ct : Value) (us : List Value), us.length = 2 → bindArgs (PySem.W.fnOf "__init__" (x ++ ".__init__") (defArgs st) (defBody st) (defScope st) .none kV doc pm an cdv ct) ⟨us, []⟩ = pure (([Str.ofString "self", f] : List Str).zip us))
    (hbody : ∀ (fI : Addr) (cdv : Value) (A : Around) (outer : List Env) (s : Shared) (H : Hp) (E : XK) (p : Addr × Obj), PSs (L2H.cxH (L2.CX P w) P w K mg base N (x ++ ".__init__") (defScope st) fI cdv A outer s H E p) (defBody st) (tOst K f (tVar 0) (tVar 1))) (hs : ∀ a y : V, (L2.start N [a, y])[0]? = some (some a) ∧ (L2.start N [a, y])[1]? = some (some y)) : XMkH P w K mg base x f C := by
  obtain ⟨fI, fd, i1, i2, F⟩ := c.ini
  have bd := F.binds (ps := [Str.ofString "self", f]) hb
  obtain ⟨oc, od, kV, doc, pm, an, cdv, ct, osl, rfl, lk, hcd⟩ := F.ex
  refine ⟨c.here, c.T, fI, _, i1, i2, ?_, bd⟩
  refine L2H.fn_ofH lk hcd Sc (fun vs H Q E ⟨_, _, h, _⟩ => by rw [h]; rfl) fun A outer s H vs Q E p room hot ⟨a, y, e, ha, q⟩ => ?_
  subst e
  have hp := hbody fI cdv A outer s H E p
  obtain ⟨h0, h1⟩ := hs (.ref a) y
  exact ⟨_, hp, y, h1, .ref a, h0, a, C, rfl, c.T, c.no, .inl ⟨ha, fun dx hd hne => q dx hd hne⟩⟩
theorem liftI_imp {C : Addr} {S S' : ISp} (h : ∀ ds Φ Ψ, S' ds Φ Ψ → S ds Φ Ψ) : ∀ vs H Q E, liftI K C S' vs H Q E → liftI K C S vs H Q E :=
  fun vs H Q E ⟨x, dx, vs', He, H0, ds, Φ, Ψ, a, b, c, d, e, f, g, i⟩ => ⟨x, dx, vs', He, H0, ds, Φ, Ψ, a, b, c, d, e, f, h _ _ _ g, i⟩
theorem FnE.mono {j k : Nat} {f : Addr} {fd : FuncData} {p1 : Str} {sp : Value → Option Addr → Hp → VK → Prop} (F : FnE P w K mg base j f fd p1 sp) (h : j ≤ k) : FnE P w K mg base k f fd p1 sp := ⟨fun A outer s H args a oe cls dd Q hr => F.run A outer s H args a oe cls dd Q (hr.mono h)⟩
theorem fun_at {x qual qual' : Str} {st : Stmt} {f : Addr} {fd : FuncData} (e : qual = qual') (F : Fun K x qual' st f fd) : Fun K x qual st f fd := by rw [e]; exact F
end
end DL
/-! DL43: repr of data in which dicts may lie. -/
namespace DL
open PySem PySem.Spec L2
open PyProof.Rows hiding St
mutual
def D.pyq : D → PyData
  | .non => .none
  | .bl b => .bool b
  | .int i => .int i
  | .str x => .str x
  | .tup l => .tuple (pyqAll l)
  | .lst l => .list (pyqAll l)
  | .dic kvs => .dict (pyqKv kvs)
  | .ins _ _ | .pail | .scr _ | .raw _ | .exn _ _ _ | .dik _ | .kd _ _ _ _ => .none
def pyqAll : List D → List PyData
  | [] => []
  | d :: l => d.pyq :: pyqAll l
def pyqKv : List (Str × D) → List (PyData × PyData)
  | [] => []
  | (k, d) :: l => (.str k, d.pyq) :: pyqKv l
end
mutual
def D.pureq : D → Bool
  | .non => true
  | .bl _ => true
  | .int _ => true
  | .str x => PyData.strOk x
  | .tup l => pureqAll l
  | .lst l => pureqAll l
  | .dic kvs => pureqKv kvs
  | .ins _ _ => false
  | .pail => false
  | .scr _ => false
  | .raw _ => false
  | .exn _ _ _ => false
  | .dik _ => false
  | .kd _ _ _ _ => false
def pureqAll : List D → Bool
  | [] => true
  | d :: l => d.pureq && pureqAll l
def pureqKv : List (Str × D) → Bool
  | [] => true
  | (k, d) :: l => PyData.strOk k && d.pureq && pureqKv l
end
mutual
theorem pyq_eq : ∀ d : D, d.pure = true → d.pyq = d.py ∧ d.pureq = true
  | .non, _ => ⟨rfl, rfl⟩
  | .bl _, _ => ⟨rfl, rfl⟩
  | .int _, _ => ⟨rfl, rfl⟩
  | .str x, h => ⟨rfl, h⟩
  | .tup l, h => by
    obtain ⟨a, b⟩ := pyqAll_eq l (by simpa [D.pure] using h)
    exact ⟨by simp only [D.pyq, D.py, a], by simpa only [D.pureq] using b⟩
  | .lst l, h => by
    obtain ⟨a, b⟩ := pyqAll_eq l (by simpa [D.pure] using h)
    exact ⟨by simp only [D.pyq, D.py, a], by simpa only [D.pureq] using b⟩
  | .dic _, h => by simp [D.pure] at h
  | .ins _ _, h => by simp [D.pure] at h
  | .pail, h => by simp [D.pure] at h
  | .scr _, h => by simp [D.pure] at h
  | .raw _, h => by simp [D.pure] at h
  | .exn _ _ _, h => by simp [D.pure] at h
  | .dik _, h => by simp [D.pure] at h
  | .kd _ _ _ _, h => by simp [D.pure] at h
theorem pyqAll_eq : ∀ l : List D, pureAll l = true → pyqAll l = pyAll l ∧ pureqAll l = true
  | [], _ => ⟨rfl, rfl⟩
  | d :: l, h => by
    simp only [pureAll, Bool.and_eq_true] at h
    obtain ⟨a, b⟩ := pyq_eq d h.1
    obtain ⟨c, e⟩ := pyqAll_eq l h.2
    exact ⟨by simp only [pyqAll, pyAll, a, c], by simp only [pureqAll, b, e, Bool.and_self]⟩
end
section
variable {X : Cx} {pins : List (Addr × Obj)} {σ : L2.St} {H : Hp} {s : Shared}
theorem off_sys (I : Inv X pins σ H s) (hs : SysB X.base) {a : Addr} {o : HO} (h : H a = some o) : a ≠ sysModules := fun e => by
  obtain ⟨m, ob, es, ep, g, _⟩ := hs
  have := I.base.free _ _ (I.ok.bs _ _ g).1 (I.ok.bs _ _ g).2 (I.ok.noex _ _ g)
  rw [e, this] at h
  cases h
theorem at_list (I : Inv X pins σ H s) {a : Addr} {xs : List V} (h : H a = some (.lst xs)) : ∃ (its : List Value) (o : Obj) (n : Nat), Vals xs its ∧ s.heap.get? a = some o ∧ o.cls = .type "list" ∧ o.data = .seq its.toArray n := by
  obtain ⟨its, rv, ⟨ob, n, ho, hc, hdn, hd⟩, _⟩ := I.list (show SqL X.K H a xs from .inl (.inl h))
  exact ⟨its, ob, n, rv, ho, hc, hd⟩
theorem at_tup (I : Inv X pins σ H s) {a : Addr} {xs : List V} (h : SqT X.K H a xs) : ∃ (its : List Value) (o : Obj) (n : Nat), Vals xs its ∧ s.heap.get? a = some o ∧ o.cls = .type "tuple" ∧ o.data = .seq its.toArray n := by
  obtain ⟨its, rv, tp, _⟩ := I.tuple h
  obtain ⟨ob, ho, hc, n, hd⟩ := show s.heap.IsTuple a its.toArray from tp
  exact ⟨its, ob, n, rv, ho, hc, hd⟩
/-- the entries of a dict with texts as keys -/
theorem pairs_strs {P : Program} {w : World} : ∀ {es : List DictEntry} {ps : List (Key × Value)} {xs : List (Str × V)}, Pairs (mixKind P w) es ps → KV (xs.map fun p => ((Sum.inr p.1 : Key), p.2)) ps →
    ∃ us : List Value, Vals (xs.map (·.2)) us ∧ es.map (·.val) = us ∧ ∃ ks : List Value, es.map (·.key) = ks ∧ Paired (fun (x : Str) (k : Value) => ∃ t, k = .str x t) (xs.map (·.1)) ks
  | [], _, [], h, r => by cases h; exact ⟨[], .nil, rfl, [], rfl, .nil⟩
  | [], _, _ :: _, h, r => by cases h; cases r
  | e :: es, _, [], h, r => by cases r; cases h
  | e :: es, _, x :: xs, h, r => by
    cases h with
    | cons hk hv h =>
      cases r with
      | cons r1 r =>
        obtain ⟨us, v1, v2, ks, k1, k2⟩ := pairs_strs h r
        obtain ⟨e1, e2⟩ := r1
        simp only at e1 e2
        rw [mixKind_is, ← e1] at hk
        rcases keyIs_shape hk with ⟨i, t, z, _⟩ | ⟨y, t, z, z2⟩
        · cases z
        · cases z
          exact ⟨e.val :: us, .cons (by rw [hv]; exact e2) v1, by rw [List.map_cons, v2], e.key :: ks, by rw [List.map_cons, k1], .cons ⟨t, z2⟩ k2⟩
theorem reads_keys {h : Heap} : ∀ {xs : List Str} {ks : List Value}, Paired (fun (x : Str) (k : Value) => ∃ t, k = .str x t) xs ks → ReadsAll h ks (xs.map PyData.str) []
  | [], _, p => by cases p; exact .nil
  | x :: xs, _, p => by
    cases p with
    | cons h1 h2 =>
      obtain ⟨t, rfl⟩ := h1
      exact ReadsAll.cons (as := []) (bs := []) (.str x t) (reads_keys h2)
theorem pyqKv_fst : ∀ (l : List (Str × D)), (pyqKv l).map (·.1) = (l.map (·.1)).map PyData.str
  | [] => rfl
  | (k, d) :: l => by simp only [pyqKv, List.map_cons, pyqKv_fst l]
theorem repKV_fst {K : PySem.W.Frag} {H0 : Hp} : ∀ {xs : List (Str × V)} {ds : List (Str × D)}, RepKV K H0 xs ds → xs.map (·.1) = ds.map (·.1)
  | _, _, .nil => rfl
  | _, _, .cons _ r => by simp only [List.map_cons, repKV_fst r]
mutual
theorem reads_rep (I : Inv X pins σ H s) (hs : SysB X.base) {H0 : Hp} (e : Ex H0 H) : ∀ {v : V} {d : D} {u : Value}, Rep X.K H0 v d → d.pureq = true → RelV v u → ∃ as, Reads s.heap u d.pyq as ∧ sysModules ∉ as
  | _, _, _, .non, _, r => by cases r; exact ⟨_, .none, by simp⟩
  | _, _, _, .bl b, _, r => by cases r; exact ⟨_, .bool b, by simp⟩
  | _, _, _, .int i, _, r => by obtain ⟨t, rfl⟩ := r; exact ⟨_, .int i t, by simp⟩
  | _, _, _, .str x, _, r => by obtain ⟨t, rfl⟩ := r; exact ⟨_, .str x t, by simp⟩
  | _, _, _, .tup h hr, p, r => by
    cases r
    obtain ⟨its, o, n, rv, g1, g2, g3⟩ := at_tup I (sqT_ex e h)
    obtain ⟨as, ra, na⟩ := reads_all I hs e hr (by simpa only [D.pureq] using p) rv
    exact ⟨as, by simp only [D.pyq]; exact .tuple g1 g2 g3 (by rw [List.toList_toArray]; exact ra), na⟩
  | _, _, _, .lst h hr, p, r => by
    cases r
    obtain ⟨its, o, n, rv, g1, g2, g3⟩ := at_list I (e _ _ h)
    obtain ⟨as, ra, na⟩ := reads_all I hs e hr (by simpa only [D.pureq] using p) rv
    exact ⟨_ :: as, by simp only [D.pyq]; exact .list g1 g2 g3 (by rw [List.toList_toArray]; exact ra), fun z => (List.mem_cons.mp z).elim (fun z => off_sys I hs (e _ _ h) z.symm) na⟩
  | _, _, _, .dic (xs := xs) (ds := ds) h hr, p, r => by
    cases r
    obtain ⟨_, _, vs, kv, o, es, ep, g1, g2, g3, _, ps, _⟩ := dk_of I.hok (e _ _ h)
    obtain ⟨us, v1, v2, ks, k1, k2⟩ := pairs_strs ps kv
    obtain ⟨bs, rb, nb⟩ := reads_kv I hs e hr (by simpa only [D.pureq] using p) v1
    have rk : ReadsAll s.heap (es.toList.map (·.key)) ((pyqKv ds).map (·.1)) [] := by rw [k1, pyqKv_fst, ← repKV_fst hr]; exact reads_keys k2
    exact ⟨_, by simp only [D.pyq]; exact .dict g1 g2.1 g3 rk (by rw [v2]; exact rb), fun z => by
      simp only [List.append_nil, List.cons_append, List.nil_append, List.mem_cons] at z
      exact z.elim (fun z => off_sys I hs (e _ _ h) z.symm) nb⟩
  | _, _, _, .ins _ _, p, _ => by simp [D.pureq] at p
  | _, _, _, .pail _, p, _ => by simp [D.pureq] at p
  | _, _, _, .scr _, p, _ => by simp [D.pureq] at p
  | _, _, _, .raw _, p, _ => by simp [D.pureq] at p
  | _, _, _, .exn _ _, p, _ => by simp [D.pureq] at p
  | _, _, _, .dik _ _, p, _ => by simp [D.pureq] at p
  | _, _, _, .kd _ _, p, _ => by simp [D.pureq] at p
theorem reads_all (I : Inv X pins σ H s) (hs : SysB X.base) {H0 : Hp} (e : Ex H0 H) : ∀ {vs : List V} {ds : List D} {us : List Value}, RepAll X.K H0 vs ds → pureqAll ds = true → Vals vs us → ∃ as, ReadsAll s.heap us (pyqAll ds) as ∧ sysModules ∉ as
  | _, _, _, .nil, _, r => by cases r; exact ⟨_, .nil, by simp⟩
  | _, _, _, .cons h hr, p, r => by
    simp only [pureqAll, Bool.and_eq_true] at p
    cases r with
    | cons r1 r2 =>
      obtain ⟨as, a1, a2⟩ := reads_rep I hs e h p.1 r1
      obtain ⟨bs, b1, b2⟩ := reads_all I hs e hr p.2 r2
      exact ⟨as ++ bs, by simp only [pyqAll]; exact .cons a1 b1, fun z => (List.mem_append.mp z).elim a2 b2⟩
theorem reads_kv (I : Inv X pins σ H s) (hs : SysB X.base) {H0 : Hp} (e : Ex H0 H) : ∀ {xs : List (Str × V)} {ds : List (Str × D)} {us : List Value}, RepKV X.K H0 xs ds → pureqKv ds = true → Vals (xs.map (·.2)) us → ∃ as, ReadsAll s.heap us ((pyqKv ds).map (·.2)) as ∧ sysModules ∉ as
  | _, _, _, .nil, _, r => by cases r; exact ⟨_, .nil, by simp⟩
  | _, _, _, .cons h hr, p, r => by
    simp only [pureqKv, Bool.and_eq_true] at p
    cases r with
    | cons r1 r2 =>
      obtain ⟨as, a1, a2⟩ := reads_rep I hs e h p.1.2 r1
      obtain ⟨bs, b1, b2⟩ := reads_kv I hs e hr p.2 r2
      exact ⟨as ++ bs, by simp only [pyqKv, List.map_cons]; exact .cons a1 b1, fun z => (List.mem_append.mp z).elim a2 b2⟩
end
end
end DL
/-! DL44: what repr tells is a text of right signs. -/
namespace DL
open PySem PySem.Spec L2
open PySem.Builtin.Str (reprChar)
open PyProof.Rows hiding St
/-- all signs are right -/
def Sg (x : Str) : Prop := ∀ c ∈ x.cps.toList, c < 0x110000
theorem sg_iff {x : Str} : PyData.strOk x = true ↔ Sg x := by
  unfold PyData.strOk Sg
  rw [← Array.all_toList, List.all_eq_true]
  simp
theorem Sg.add {x y : Str} (hx : Sg x) (hy : Sg y) : Sg (x ++ y) := fun c hc => by
  have e : (x ++ y).cps.toList = x.cps.toList ++ y.cps.toList := by
    show (x.cps ++ y.cps).toList = _
    simp
  rw [e] at hc
  exact (List.mem_append.mp hc).elim (hx c) (hy c)
theorem sg_lit (s : String) : Sg (Str.ofString s) := fun c hc => by
  rw [Str.ofString_eq_toList] at hc
  have hc : c ∈ s.toList.map Char.toNat := by simpa using hc
  obtain ⟨ch, _, rfl⟩ := List.mem_map.mp hc
  have v := ch.valid
  show ch.val.toNat < 0x110000
  rcases v with h | ⟨_, h⟩
  · have : ch.val.toNat < 0xd800 := h
    omega
  · exact h
theorem sg_char {q c : Nat} (hc : c < 0x110000) : ∀ y ∈ reprChar q c, y < 0x110000 := by
  have dig : ∀ w y, y ∈ (List.replicate (w - ((Nat.toDigits 16 c).map Char.toNat).length) 48 ++ (Nat.toDigits 16 c).map Char.toNat) → y < 0x110000 := fun w y hy => by
    rcases List.mem_append.mp hy with h | h
    · rw [List.eq_of_mem_replicate h]; decide
    · obtain ⟨ch, _, rfl⟩ := List.mem_map.mp h
      have v := ch.valid
      show ch.val.toNat < 0x110000
      rcases v with h | ⟨_, h⟩
      · have : ch.val.toNat < 0xd800 := h
        omega
      · exact h
  intro y hy
  unfold reprChar at hy
  simp only at hy
  split at hy
  · simp only [List.mem_cons, List.not_mem_nil, or_false] at hy; omega
  split at hy
  · simp only [List.mem_cons, List.not_mem_nil, or_false] at hy; omega
  split at hy
  · simp only [List.mem_cons, List.not_mem_nil, or_false] at hy; omega
  split at hy
  · simp only [List.mem_cons, List.not_mem_nil, or_false] at hy; omega
  split at hy
  · simp only [List.mem_cons, List.not_mem_nil, or_false] at hy; omega
  split at hy
  · rcases List.mem_append.mp hy with h | h
    · simp only [List.mem_cons, List.not_mem_nil, or_false] at h; omega
    · exact dig _ _ h
  split at hy
  · rcases List.mem_append.mp hy with h | h
    · simp only [List.mem_cons, List.not_mem_nil, or_false] at h; omega
    · exact dig _ _ h
  · rcases List.mem_append.mp hy with h | h
    · simp only [List.mem_cons, List.not_mem_nil, or_false] at h; omega
    · exact dig _ _ h
theorem sg_fold {q : Nat} : ∀ (l : List Nat) (acc : Array Nat), (∀ c ∈ l, c < 0x110000) → (∀ c ∈ acc.toList, c < 0x110000) → ∀ c ∈ (l.foldl (fun out c => out ++ (reprChar q c).toArray) acc).toList, c < 0x110000
  | [], acc, _, ha => ha
  | x :: l, acc, hl, ha => sg_fold l _ (fun c hc => hl c (List.mem_cons_of_mem _ hc)) fun c hc => by
    have hc : c ∈ acc.toList ++ reprChar q x := by simpa using hc
    exact (List.mem_append.mp hc).elim (ha c) (sg_char (hl x List.mem_cons_self) c)
theorem sg_repr {x : Str} (h : Sg x) : Sg (reprText x) := fun c hc => by
  unfold reprText at hc
  rw [← Array.foldl_toList] at hc
  have q : reprQuote x < 0x110000 := by unfold reprQuote; split <;> decide
  have hc : c ∈ (x.cps.toList.foldl (fun out c => out ++ (reprChar (reprQuote x) c).toArray) #[reprQuote x]).toList ++ [reprQuote x] := by simpa using hc
  rcases List.mem_append.mp hc with h2 | h2
  · exact sg_fold _ _ h (fun c hc => by
      have : c = reprQuote x := by simpa using hc
      rw [this]; exact q) c h2
  · rw [List.mem_singleton.mp h2]; exact q
theorem sg_from : ∀ (ts : List Str) (k : Nat) (acc : Str), Sg acc → (∀ t ∈ ts, Sg t) → Sg (textFrom k acc ts)
  | [], k, acc, ha, _ => ha
  | t :: r, k, acc, ha, h => by
    show Sg (textFrom _ _ r)
    refine sg_from r _ _ ?_ fun t ht => h t (List.mem_cons_of_mem _ ht)
    refine Sg.add ?_ (h t List.mem_cons_self)
    split
    · exact Sg.add ha (sg_lit _)
    · exact ha
theorem sg_join (sep : Str) (hs : Sg sep) : ∀ (ts : List Str), (∀ t ∈ ts, Sg t) → Sg (Str.join sep ts)
  | [], _ => sg_lit ""
  | [t], h => h t List.mem_cons_self
  | t :: u :: r, h => Sg.add (Sg.add (h t List.mem_cons_self) hs) (sg_join sep hs (u :: r) fun t ht => h t (List.mem_cons_of_mem _ ht))
mutual
theorem sg_shown : ∀ d : D, d.pureq = true → Sg d.pyq.shown
  | .non, _ => sg_lit _
  | .bl true, _ => sg_lit _
  | .bl false, _ => sg_lit _
  | .int i, _ => sg_lit _
  | .str x, h => sg_repr (sg_iff.mp h)
  | .tup l, h => by
    have := sg_all l (by simpa only [D.pureq] using h)
    simp only [D.pyq, PyData.shown]
    unfold tupleText
    refine Sg.add (Sg.add (sg_lit _) (sg_join _ (sg_lit _) _ this)) ?_
    split <;> exact sg_lit _
  | .lst l, h => by
    have := sg_all l (by simpa only [D.pureq] using h)
    simp only [D.pyq, PyData.shown]
    unfold listText
    exact Sg.add (sg_from _ _ _ (sg_lit _) this) (sg_lit _)
  | .dic l, h => by
    have := sg_kv l (by simpa only [D.pureq] using h)
    simp only [D.pyq, PyData.shown]
    unfold dictText
    exact Sg.add (Sg.add (sg_lit _) (sg_join _ (sg_lit _) _ this)) (sg_lit _)
  | .ins _ _, h => by simp [D.pureq] at h
  | .pail, h => by simp [D.pureq] at h
  | .scr _, h => by simp [D.pureq] at h
  | .raw _, h => by simp [D.pureq] at h
  | .exn _ _ _, h => by simp [D.pureq] at h
  | .dik _, h => by simp [D.pureq] at h
  | .kd _ _ _ _, h => by simp [D.pureq] at h
theorem sg_all : ∀ l : List D, pureqAll l = true → ∀ t ∈ PyData.shownAll (pyqAll l), Sg t
  | [], _, t, ht => by simp [pyqAll, PyData.shownAll] at ht
  | d :: l, h, t, ht => by
    simp only [pureqAll, Bool.and_eq_true] at h
    simp only [pyqAll, PyData.shownAll, List.mem_cons] at ht
    rcases ht with rfl | ht
    · exact sg_shown d h.1
    · exact sg_all l h.2 t ht
theorem sg_kv : ∀ l : List (Str × D), pureqKv l = true → ∀ t ∈ PyData.shownKv (pyqKv l), Sg t
  | [], _, t, ht => by simp [pyqKv, PyData.shownKv] at ht
  | (k, d) :: l, h, t, ht => by
    simp only [pureqKv, Bool.and_eq_true] at h
    simp only [pyqKv, PyData.shownKv, List.mem_cons] at ht
    rcases ht with rfl | ht
    · refine Sg.add (Sg.add ?_ (sg_lit _)) (sg_shown d h.1.2)
      exact sg_repr (sg_iff.mp h.1.1)
    · exact sg_kv l h.2 t ht
end
/-- data that may be shown, dicts among them: not too deep, not too much -/
structure FineQ (n W : Nat) (d : D) : Prop where
  p : d.pureq = true
  n : d.pyq.depth ≤ n
  w : d.pyq.weight ≤ W
  s : d.pyq.showable = true
  l : d.pyq.leavesShort 45 = true
theorem Fine.q {n W : Nat} {d : D} (h : Fine n W d) : FineQ n W d ∧ d.pyq = d.py := by
  obtain ⟨a, b⟩ := pyq_eq d h.p
  exact ⟨⟨b, by rw [a]; exact h.n, by rw [a]; exact h.w, by rw [a]; exact h.s, by rw [a]; exact h.l⟩, a⟩
theorem FineQ.mono {n W m V : Nat} {d : D} (h : FineQ n W d) (hn : n ≤ m) (hw : W ≤ V) : FineQ m V d := ⟨h.p, Nat.le_trans h.n hn, Nat.le_trans h.w hw, h.s, h.l⟩
theorem FineQ.len {n W : Nat} {d : D} (h : FineQ n W d) : d.pyq.shown.length ≤ 47 * W + 45 := by
  have := PyData.shown_le 45 (by decide) d.pyq h.l
  have w := h.w
  omega
theorem FineQ.ok {n W : Nat} {d : D} (h : FineQ n W d) : PyData.strOk d.pyq.shown = true := sg_iff.mpr (sg_shown d h.p)
def rReprQ (K : PySem.W.Frag) : List V → Hp → VK → Prop := fun xs H Q => ∃ (v : V) (d : D) (H0 : Hp), xs = [v] ∧ Ex H0 H ∧ Rep K H0 v d ∧ d.pureq = true ∧ d.pyq.showable = true ∧ d.pyq.depth ≤ 64 ∧ d.pyq.shown.length ≤ sizeLine ∧ Q (.str d.pyq.shown) H
theorem call_reprQ {X : Cx} (hs : SysB X.base) (hg : X.A.guards = some []) (hu : X.A.units + 65 < cLine) : CallR X (.builtin "repr") (rReprQ X.K) := by
  intro pins s σ H xs us Q I r ⟨v, d, H0, e, ex, rp, h0, h1, h3, h4, q⟩
  subst e
  obtain ⟨u, rfl, ru⟩ := vals1 r
  obtain ⟨as, rd, na⟩ := reads_rep I hs ex rp h0 ru
  generalize d.pyq = y at rd h1 h3 h4 q
  cases rd with
  | none => exact P.repr_of_none ⟨.str _, H, I.tok _, ⟨_, rfl⟩, q⟩
  | bool b => exact P.repr_of_bool ⟨.str _, H, I.tok _, ⟨_, rfl⟩, q⟩
  | int i t => exact P.repr_of_int (by simpa [PyData.showable] using h1) ⟨.str _, H, I.tok _, ⟨_, rfl⟩, q⟩
  | str x t => exact P.repr_of_str ⟨.str _, H, I.tok _, ⟨_, rfl⟩, q⟩ h4
  | list a b c e => exact repr_of_reads' (.list a b c e) h1 (fun _ => na) hg (by omega) (fun _ _ z => z) (fun h' u tk keep => ⟨.str _, H, I.kept keep, ⟨_, rfl⟩, q⟩) h4
  | tuple a b c e => exact repr_of_reads' (.tuple a b c e) h1 (fun _ => na) hg (by omega) (fun _ _ z => z) (fun h' u tk keep => ⟨.str _, H, I.kept keep, ⟨_, rfl⟩, q⟩) h4
  | dict a b c e f => exact repr_of_reads' (.dict a b c e f) h1 (fun _ => na) hg (by omega) (fun _ _ z => z) (fun h' u tk keep => ⟨.str _, H, I.kept keep, ⟨_, rfl⟩, q⟩) h4
def reprQG (ds : List D) (Φ : D → Prop) : Prop := ∃ d, ds = [d] ∧ FineQ 64 350000 d ∧ Φ (.str d.pyq.shown)
theorem cbd_reprQ {K : PySem.W.Frag} : CbD K (rReprQ K) reprQG := fun H0 H xs ds Φ Q e rx ⟨d, hd, f, g⟩ k => by
  subst hd
  obtain ⟨v, rfl, r⟩ := vals_one rx
  exact ⟨v, d, H0, rfl, e, r, f.p, f.s, f.n, Nat.le_trans f.len (by decide), fin0 e g (.str _) k⟩
section
variable {X : Cx} (K : PySem.W.Frag) {j : Nat}
theorem k_reprQ (hs : SysB X.base) (room : RoomG j X.A) (h : X.K = K := by rfl) : CallR X (.builtin "repr") (rReprQ K) := h ▸ call_reprQ hs room.g (hu65 room)
theorem k_reprQE (hs : SysB X.base) (room : RoomE j X.A) (h : X.K = K := by rfl) : CallR X (.builtin "repr") (rReprQ K) := h ▸ call_reprQ hs room.g (hu65E room)
end
end DL
/-! DL45: a tuple of whatever it is beside (). -/
namespace DL
open PySem PySem.Spec L2
open PyProof.Rows hiding St
section
variable {prog : Program} {w : World} {A : Around} {E : Value → Shared → Prop} {s : Shared}
theorem ne_empty {l b : Addr} {its : Array Value} {Q : Value → Shared → Prop} (h1 : s.heap.IsTuple l its) (h2 : s.heap.IsTuple b #[]) (hu : A.units + 1 < cLine) (h : Q (.bool (!(its.size == 0))) s) : wpAny (model prog w) A (compareOp .NotEq (.ref l) (.ref b)) Q E s := by
  obtain ⟨⟨c, dd, dt, sl⟩, ho, hc, n, hd⟩ := id h1
  obtain ⟨⟨c', dd', dt', sl'⟩, ho', hc', n', hd'⟩ := id h2
  simp only at hc hd hc' hd'
  subst hc hd hc' hd'
  have e : (!((List.range (min its.size (#[] : Array Value).size)).all (fun _ => true) && its.size == (#[] : Array Value).size)) = !(its.size == 0) := by simp
  exact wpAny_richCompare_same_room (T := "tuple") (op := .NotEq) ⟨_, ho, rfl⟩ ⟨_, ho', rfl⟩ F.slot_tuple_ne (call_meets F.slot_tuple_ne ⟨_, ho, rfl⟩ F.entry_tuple_ne (F.args_tuple_ne_2 _ _)
    (SeqAt.tuple_neAt l b its #[] n n' dd dd' sl sl' fun _ => true) ⟨ho, ho', fun j _ hj => absurd hj (Nat.not_lt_zero j), show Value.bool (!((List.range (min its.size (#[] : Array Value).size)).all (fun _ => true) && its.size == (#[] : Array Value).size)) ≠ Value.notImplemented ∧ Q (.bool (!((List.range (min its.size (#[] : Array Value).size)).all (fun _ => true) && its.size == (#[] : Array Value).size))) s from ⟨(fun x => nomatch x), by rw [e]; exact h⟩⟩) (by omega)
theorem eq_empty {l b : Addr} {its : Array Value} {Q : Value → Shared → Prop} (h1 : s.heap.IsTuple l its) (h2 : s.heap.IsTuple b #[]) (hu : A.units + 1 < cLine) (h : Q (.bool (its.size == 0)) s) : wpAny (model prog w) A (compareOp .Eq (.ref l) (.ref b)) Q E s := by
  have e : ((List.range (min its.size (#[] : Array Value).size)).all (fun _ => true) && its.size == (#[] : Array Value).size) = (its.size == 0) := by simp
  exact SeqAt.rcIn_tuples (e := fun _ => true) h1 h2 (by omega) (fun j _ hj => absurd hj (Nat.not_lt_zero j)) (by rw [e]; exact h)
end
def rNeT0 (K : PySem.W.Frag) : R2 := fun x y H Q => ∃ (a b : Addr) (xs : List V), x = .ref a ∧ y = .ref b ∧ SqT K H a xs ∧ SqT K H b [] ∧ Q (.bl (!(xs.length == 0))) H
def rEqT0 (K : PySem.W.Frag) : R2 := fun x y H Q => ∃ (a b : Addr) (xs : List V), x = .ref a ∧ y = .ref b ∧ SqT K H a xs ∧ SqT K H b [] ∧ Q (.bl (xs.length == 0)) H
section
variable {X : Cx}
theorem op_neT0 (hu : X.A.units + 64 < cLine) : OpR X (compareOp .NotEq) (rNeT0 X.K) := by
  intro pins s σ H x y v u Q I rx ry ⟨a, b, xs, ex, ey, h1, h2, q⟩
  subst ex ey
  cases rx; cases ry
  obtain ⟨its, rv, tp, _⟩ := I.tuple h1
  obtain ⟨its', rv', tp', _⟩ := I.tuple h2
  cases rv'
  refine ne_empty (s := s) tp tp' (by omega) ⟨.bl _, H, I, ?_, q⟩
  show Value.bool _ = Value.bool _
  rw [List.size_toArray, rv.length]
theorem op_eqT0 (hu : X.A.units + 64 < cLine) : OpR X (compareOp .Eq) (rEqT0 X.K) := by
  intro pins s σ H x y v u Q I rx ry ⟨a, b, xs, ex, ey, h1, h2, q⟩
  subst ex ey
  cases rx; cases ry
  obtain ⟨its, rv, tp, _⟩ := I.tuple h1
  obtain ⟨its', rv', tp', _⟩ := I.tuple h2
  cases rv'
  refine eq_empty (s := s) tp tp' (by omega) ⟨.bl _, H, I, ?_, q⟩
  show Value.bool _ = Value.bool _
  rw [List.size_toArray, rv.length]
theorem k_neT0 (K : PySem.W.Frag) {j : Nat} (room : RoomG j X.A) (h : X.K = K := by rfl) : OpR X (compareOp .NotEq) (rNeT0 K) := h ▸ op_neT0 (hu64 room)
theorem k_eqT0 (K : PySem.W.Frag) {j : Nat} (room : RoomG j X.A) (h : X.K = K := by rfl) : OpR X (compareOp .Eq) (rEqT0 K) := h ▸ op_eqT0 (hu64 room)
end
def neT0G (x y : D) (Φ : D → Prop) : Prop := ∃ l, x = .tup l ∧ y = .tup [] ∧ Φ (.bl (!(l.length == 0)))
def eqT0G (x y : D) (Φ : D → Prop) : Prop := ∃ l, x = .tup l ∧ y = .tup [] ∧ Φ (.bl (l.length == 0))
theorem opd_neT0 {K : PySem.W.Frag} : OpD K (rNeT0 K) neT0G := fun H0 H x y dx dy Φ Q e rx ry ⟨l, ex, ey, g⟩ k => by
  subst ex ey
  cases rx with
  | tup h1 r1 =>
    cases ry with
    | tup h2 r2 =>
      cases r2
      exact ⟨_, _, _, rfl, rfl, sqT_ex e h1, sqT_ex e h2, by rw [r1.length]; exact fin0 e g (.bl _) k⟩
theorem opd_eqT0 {K : PySem.W.Frag} : OpD K (rEqT0 K) eqT0G := fun H0 H x y dx dy Φ Q e rx ry ⟨l, ex, ey, g⟩ k => by
  subst ex ey
  cases rx with
  | tup h1 r1 =>
    cases ry with
    | tup h2 r2 =>
      cases r2
      exact ⟨_, _, _, rfl, rfl, sqT_ex e h1, sqT_ex e h2, by rw [r1.length]; exact fin0 e g (.bl _) k⟩
end DL
/-! DL46: values of any kind, bounded: depth, numbers, weight. -/
namespace DL
open PySem PySem.Spec L2
open PyProof.Rows hiding St
mutual
def D.ib : D → Nat
  | .int i => i.natAbs
  | .tup l => ibAll l
  | .lst l => ibAll l
  | .dic l => ibKv l
  | .non | .bl _ | .str _ | .ins _ _ | .pail | .scr _ | .raw _ | .exn _ _ _ | .dik _ | .kd _ _ _ _ => 0
def ibAll : List D → Nat
  | [] => 0
  | d :: l => max d.ib (ibAll l)
def ibKv : List (Str × D) → Nat
  | [] => 0
  | (_, d) :: l => max d.ib (ibKv l)
end
theorem pureqAll_iff : ∀ {l : List D}, pureqAll l = true ↔ ∀ d ∈ l, d.pureq = true
  | [] => by simp [pureqAll]
  | d :: l => by simp [pureqAll, pureqAll_iff (l := l)]
theorem depthAll_iff {n : Nat} : ∀ {l : List D}, PyData.depthAll (pyqAll l) ≤ n ↔ ∀ d ∈ l, d.pyq.depth ≤ n
  | [] => by simp [pyqAll, PyData.depthAll]
  | d :: l => by simp [pyqAll, PyData.depthAll, depthAll_iff (l := l), Nat.max_le]
theorem ibAll_iff {B : Nat} : ∀ {l : List D}, ibAll l ≤ B ↔ ∀ d ∈ l, d.ib ≤ B
  | [] => by simp [ibAll]
  | d :: l => by simp [ibAll, ibAll_iff (l := l), Nat.max_le]
def wts (l : List D) : Nat := (l.map fun d => d.pyq.weight + 1).sum
theorem weightAll_eq : ∀ l : List D, PyData.weightAll (pyqAll l) = wts l
  | [] => rfl
  | d :: l => by simp only [pyqAll, PyData.weightAll, weightAll_eq l, wts, List.map_cons, List.sum_cons]
theorem wts_append (l r : List D) : wts (l ++ r) = wts l + wts r := by unfold wts; rw [List.map_append, List.sum_append]
theorem wts_cons (d : D) (l : List D) : wts (d :: l) = d.pyq.weight + 1 + wts l := rfl
theorem wts_split {l : List D} {i : Nat} {d : D} (h : l[i]? = some d) : wts l = wts (l.take i) + (d.pyq.weight + 1) + wts (l.drop (i + 1)) := by
  obtain ⟨hi, hd⟩ := List.getElem?_eq_some_iff.mp h
  have e := List.take_append_drop i l
  rw [List.drop_eq_getElem_cons hi, hd] at e
  have := congrArg wts e
  rw [wts_append, wts_cons] at this
  omega
theorem wts_rev (l : List D) : wts l.reverse = wts l := by
  unfold wts
  rw [List.map_reverse, List.sum_reverse]
theorem len_wts : ∀ l : List D, l.length ≤ wts l
  | [] => Nat.le_refl _
  | d :: l => by have := len_wts l; rw [wts_cons, List.length_cons]; omega
/-- plain data, dicts among it: not too deep, its numbers bounded -/
structure Vb (B n : Nat) (d : D) : Prop where
  p : d.pureq = true
  n : d.pyq.depth ≤ n
  b : d.ib ≤ B
theorem Vb.mono {B C n m : Nat} {d : D} (h : Vb B n d) (hB : B ≤ C) (hn : n ≤ m) : Vb C m d := ⟨h.p, Nat.le_trans h.n hn, Nat.le_trans h.b hB⟩
theorem vb_tup {B n : Nat} {l : List D} : Vb B (n + 1) (.tup l) ↔ ∀ d ∈ l, Vb B n d := by
  constructor
  · rintro ⟨a, b, c⟩ d hd
    simp only [D.pureq, pureqAll_iff] at a
    simp only [D.pyq, PyData.depth, Nat.add_le_add_iff_right, depthAll_iff] at b
    simp only [D.ib, ibAll_iff] at c
    exact ⟨a d hd, b d hd, c d hd⟩
  · intro h
    refine ⟨?_, ?_, ?_⟩
    · simp only [D.pureq, pureqAll_iff]; exact fun d hd => (h d hd).p
    · simp only [D.pyq, PyData.depth, Nat.add_le_add_iff_right, depthAll_iff]; exact fun d hd => (h d hd).n
    · simp only [D.ib, ibAll_iff]; exact fun d hd => (h d hd).b
theorem vb_lst {B n : Nat} {l : List D} : Vb B (n + 1) (.lst l) ↔ ∀ d ∈ l, Vb B n d := by
  constructor
  · rintro ⟨a, b, c⟩ d hd
    simp only [D.pureq, pureqAll_iff] at a
    simp only [D.pyq, PyData.depth, Nat.add_le_add_iff_right, depthAll_iff] at b
    simp only [D.ib, ibAll_iff] at c
    exact ⟨a d hd, b d hd, c d hd⟩
  · intro h
    refine ⟨?_, ?_, ?_⟩
    · simp only [D.pureq, pureqAll_iff]; exact fun d hd => (h d hd).p
    · simp only [D.pyq, PyData.depth, Nat.add_le_add_iff_right, depthAll_iff]; exact fun d hd => (h d hd).n
    · simp only [D.ib, ibAll_iff]; exact fun d hd => (h d hd).b
theorem vb_pos {B n : Nat} {l : List D} (h : Vb B n (.tup l)) : ∃ m, n = m + 1 := by
  have := h.n
  simp only [D.pyq, PyData.depth] at this
  exact ⟨n - 1, by omega⟩
theorem vb_int {B n : Nat} {i : Int} (h : i.natAbs ≤ B) : Vb B n (.int i) := ⟨rfl, Nat.zero_le _, h⟩
theorem vb_str {B n : Nat} {x : Str} (h : PyData.strOk x = true) : Vb B n (.str x) := ⟨h, Nat.zero_le _, Nat.zero_le _⟩
theorem wt_tup (l : List D) : (D.tup l).pyq.weight = wts l := by simp only [D.pyq, PyData.weight, weightAll_eq]
theorem wt_lst (l : List D) : (D.lst l).pyq.weight = wts l := by simp only [D.pyq, PyData.weight, weightAll_eq]
theorem wt_int (i : Int) : (D.int i).pyq.weight = if i == 0 then 0 else i.natAbs.log2 + 1 := rfl
theorem big40 : (10 : Nat) ^ 40 < 2 ^ 1900 := by decide +kernel
mutual
theorem vb_leaves : ∀ d : D, d.pureq = true → d.ib < 10 ^ 44 → d.pyq.showable = true ∧ d.pyq.leavesShort 45 = true
  | .non, _, _ => ⟨by simp [D.pyq, PyData.showable], by simp [D.pyq, PyData.leavesShort]⟩
  | .bl _, _, _ => ⟨by simp [D.pyq, PyData.showable], by simp [D.pyq, PyData.leavesShort]⟩
  | .int i, _, h => by
    have h : i.natAbs < 10 ^ 44 := h
    refine ⟨?_, ?_⟩
    · show PyData.showable (.int i) = true
      simp only [PyData.showable, decide_eq_true_eq]
      exact log2_lt (k := 1920) (Nat.lt_trans h (by decide +kernel)) (by decide)
    · show PyData.leavesShort 45 (.int i) = true
      simp only [PyData.leavesShort, decide_eq_true_eq]
      show (Str.ofString (toString i)).length ≤ 45
      rw [PySem.ofString_length]
      exact int_text_length_le10 (k := 44) (by decide) h
  | .str x, h, _ => by
    refine ⟨by simp [D.pyq, PyData.showable], ?_⟩
    show PyData.leavesShort 45 (.str x) = true
    simp only [PyData.leavesShort, List.all_eq_true, decide_eq_true_eq]
    intro c hc
    exact Nat.lt_trans (sg_iff.mp h c hc) (by decide)
  | .tup l, h, b => by
    obtain ⟨a, c⟩ := vb_leavesAll l (by simpa only [D.pureq] using h) (by simpa only [D.ib] using b)
    exact ⟨by simpa only [D.pyq, PyData.showable] using a, by simpa only [D.pyq, PyData.leavesShort] using c⟩
  | .lst l, h, b => by
    obtain ⟨a, c⟩ := vb_leavesAll l (by simpa only [D.pureq] using h) (by simpa only [D.ib] using b)
    exact ⟨by simpa only [D.pyq, PyData.showable] using a, by simpa only [D.pyq, PyData.leavesShort] using c⟩
  | .dic l, h, b => by
    obtain ⟨a, c⟩ := vb_leavesKv l (by simpa only [D.pureq] using h) (by simpa only [D.ib] using b)
    exact ⟨by simpa only [D.pyq, PyData.showable] using a, by simpa only [D.pyq, PyData.leavesShort] using c⟩
  | .ins _ _, h, _ => by simp [D.pureq] at h
  | .pail, h, _ => by simp [D.pureq] at h
  | .scr _, h, _ => by simp [D.pureq] at h
  | .raw _, h, _ => by simp [D.pureq] at h
  | .exn _ _ _, h, _ => by simp [D.pureq] at h
  | .dik _, h, _ => by simp [D.pureq] at h
  | .kd _ _ _ _, h, _ => by simp [D.pureq] at h
theorem vb_leavesAll : ∀ l : List D, pureqAll l = true → ibAll l < 10 ^ 44 → PyData.showableAll (pyqAll l) = true ∧ PyData.leavesShortAll 45 (pyqAll l) = true
  | [], _, _ => ⟨by simp [pyqAll, PyData.showableAll], by simp [pyqAll, PyData.leavesShortAll]⟩
  | d :: l, h, b => by
    simp only [pureqAll, Bool.and_eq_true] at h
    simp only [ibAll] at b
    obtain ⟨a, c⟩ := vb_leaves d h.1 (by omega)
    obtain ⟨e, f⟩ := vb_leavesAll l h.2 (by omega)
    exact ⟨by simp only [pyqAll, PyData.showableAll, a, e, Bool.and_self], by simp only [pyqAll, PyData.leavesShortAll, c, f, Bool.and_self]⟩
theorem vb_leavesKv : ∀ l : List (Str × D), pureqKv l = true → ibKv l < 10 ^ 44 → PyData.showableKv (pyqKv l) = true ∧ PyData.leavesShortKv 45 (pyqKv l) = true
  | [], _, _ => ⟨by simp [pyqKv, PyData.showableKv], by simp [pyqKv, PyData.leavesShortKv]⟩
  | (k, d) :: l, h, b => by
    simp only [pureqKv, Bool.and_eq_true] at h
    simp only [ibKv] at b
    obtain ⟨a, c⟩ := vb_leaves d h.1.2 (by omega)
    obtain ⟨e, f⟩ := vb_leavesKv l h.2 (by omega)
    have kk : PyData.leavesShort 45 (.str k) = true := by
      simp only [PyData.leavesShort, List.all_eq_true, decide_eq_true_eq]
      intro x hx
      exact Nat.lt_trans (sg_iff.mp h.1.1 x hx) (by decide)
    exact ⟨by simp only [pyqKv, PyData.showableKv, PyData.showable, a, e, Bool.and_self], by simp only [pyqKv, PyData.leavesShortKv, kk, c, f, Bool.and_self]⟩
end
theorem Vb.fine {B n W : Nat} {d : D} (h : Vb B n d) (hB : B < 10 ^ 44) (hw : d.pyq.weight ≤ W) : FineQ n W d := by
  obtain ⟨a, b⟩ := vb_leaves d h.p (Nat.lt_of_le_of_lt h.b hB)
  exact ⟨h.p, h.n, hw, a, b⟩
theorem FineQ.tup {n W m : Nat} {l : List D} (h : ∀ d ∈ l, FineQ n W d) (hl : l.length ≤ m) : FineQ (n + 1) (m * (W + 1)) (.tup l) := by
  have w : wts l ≤ l.length * (W + 1) := by
    clear hl
    induction l with
    | nil => exact Nat.zero_le _
    | cons d l ih =>
      have := ih fun x hx => h x (List.mem_cons_of_mem _ hx)
      have hd := (h d List.mem_cons_self).w
      rw [wts_cons, List.length_cons, Nat.add_mul]
      omega
  have key : PyData.showableAll (pyqAll l) = true ∧ PyData.leavesShortAll 45 (pyqAll l) = true := by
    clear hl w
    induction l with
    | nil => exact ⟨by simp [pyqAll, PyData.showableAll], by simp [pyqAll, PyData.leavesShortAll]⟩
    | cons d l ih =>
      obtain ⟨a, b⟩ := ih fun x hx => h x (List.mem_cons_of_mem _ hx)
      have hd := h d List.mem_cons_self
      exact ⟨by simp only [pyqAll, PyData.showableAll, hd.s, a, Bool.and_self], by simp only [pyqAll, PyData.leavesShortAll, hd.l, b, Bool.and_self]⟩
  refine ⟨?_, ?_, ?_, ?_, ?_⟩
  · simp only [D.pureq, pureqAll_iff]; exact fun d hd => (h d hd).p
  · simp only [D.pyq, PyData.depth, Nat.add_le_add_iff_right, depthAll_iff]; exact fun d hd => (h d hd).n
  · rw [wt_tup]; exact Nat.le_trans w (Nat.mul_le_mul_right _ hl)
  · simpa only [D.pyq, PyData.showable] using key.1
  · simpa only [D.pyq, PyData.leavesShort] using key.2
theorem FineQ.lst {n W m : Nat} {l : List D} (h : ∀ d ∈ l, FineQ n W d) (hl : l.length ≤ m) : FineQ (n + 1) (m * (W + 1)) (.lst l) := by
  have t := FineQ.tup h hl
  exact ⟨t.p, t.n, t.w, t.s, t.l⟩
theorem FineQ.str {n W : Nat} {x : Str} (h : PyData.strOk x = true) (hw : x.length ≤ W) : FineQ n W (.str x) := by
  obtain ⟨a, b⟩ := vb_leaves (.str x) h (by show 0 < 10 ^ 44; decide)
  exact ⟨h, Nat.zero_le _, hw, a, b⟩
theorem FineQ.lst2 {n W V : Nat} {x y : D} (hx : FineQ n W x) (hy : FineQ n V y) : FineQ (n + 1) (W + V + 2) (.lst [x, y]) := by
  have a := FineQ.lst (n := n) (W := max W V) (m := 2) (l := [x, y]) (fun d hd => by
    simp only [List.mem_cons, List.not_mem_nil, or_false] at hd
    rcases hd with rfl | rfl
    · exact hx.mono (Nat.le_refl _) (Nat.le_max_left _ _)
    · exact hy.mono (Nat.le_refl _) (Nat.le_max_right _ _)) (by simp)
  have b := hx.w
  have c := hy.w
  exact ⟨a.p, a.n, by rw [wt_lst, wts_cons, wts_cons]; show _ + (_ + 0) ≤ _; omega, a.s, a.l⟩
/-- the word and what repr tells -/
theorem FineQ.told {n W : Nat} {d : D} (h : FineQ n W d) {s : Str} (hs : PyData.strOk s = true) (hl : s.length ≤ 40) : FineQ 1 (47 * W + 87) (.lst [.str s, .str d.pyq.shown]) :=
  ((FineQ.str (n := 0) hs hl).lst2 (FineQ.str (n := 0) h.ok h.len)).mono (Nat.le_refl _) (by omega)
theorem shp_told {n W : Nat} {d : D} (h : FineQ n W d) {s : Str} (hs : PyData.strOk s = true) : Shp 64 (.lst [.str s, .str d.pyq.shown]) := (Shp.lst (n := 63) fun y hy => by
  simp only [List.mem_cons, List.not_mem_nil, or_false] at hy
  rcases hy with rfl | rfl
  · exact .str hs
  · exact .str h.ok)
theorem eqv_told (s t : Str) : D.eqv (.lst [.str s, .str t]) (.lst [.str s, .str t]) = true := by simp [D.eqv, D.py, pyAll, PyData.eqv, PyData.eqvAll]
/-- by looking -/
def vbB (B n W : Nat) (d : D) : Bool := d.pureq && decide (d.pyq.depth ≤ n) && decide (d.ib ≤ B) && decide (d.pyq.weight ≤ W)
theorem vb_of {B n W : Nat} {d : D} (h : vbB B n W d = true) : Vb B n d ∧ d.pyq.weight ≤ W := by
  simp only [vbB, Bool.and_eq_true, decide_eq_true_eq] at h
  exact ⟨⟨h.1.1.1, h.1.1.2, h.1.2⟩, h.2⟩
end DL
/-! DL47: tuple(range(a, b)); a def that calls itself. -/
namespace DL
open PySem PySem.Spec L2
open PyProof.Rows hiding St
theorem wE_tupRg {w : Wx} {ρ : Env'} {Φ : D → Env' → Prop} {ta tb : TE} (h : wE w ta ρ fun d1 ρ1 => wE w tb ρ1 fun d2 ρ2 => ∃ i j : Int, d1 = .int i ∧ d2 = .int j ∧ RgOk i j ∧ Φ (.tup (((List.range (j - i).toNat).map fun k : Nat => i + (k : Int)).map D.int)) ρ2) :
    wE w (tTupRg (tRg2 ta tb)) ρ Φ := fun c H0 H σ Q a x k =>
  h c H0 H σ _ a x fun v d1 ρ1 H01 H1 h1 a1 e1 r1 => h1 c H01 H1 σ _ a1 x fun u d2 ρ2 H02 H2 ⟨i, j, z1, z2, ok, q⟩ a2 e2 r2 => by
    subst z1 z2
    cases r1; cases r2
    refine ⟨i, j, rfl, rfl, ok, fun p hp => ?_⟩
    have y : PX ⟨H2, H02, []⟩ (upd H02 p (.tup (rgV i j))) (upd H2 p (.tup (rgV i j))) := (PX.refl a2.px.i).new hp
    have e : rgV i j = ((List.range (j - i).toNat).map fun k : Nat => i + (k : Int)).map V.int := by unfold rgV; rw [List.map_map]; rfl
    exact k _ _ ρ2 _ _ q (a2.go y) (e1.trans (e2.trans y.e0)) (.tup (.inl (.inl upd_same)) (by rw [e]; exact RepAll.ints _))
section
variable {prog : Program} {w : World} {A : Around} {E : Value → Shared → Prop} {s : Shared}
theorem ne_emptyL {l b : Addr} {its : Array Value} {Q : Value → Shared → Prop} (h1 : s.heap.IsList l its) (h2 : s.heap.IsList b #[]) (hu : A.units + 1 < cLine) (h : Q (.bool (!(its.size == 0))) s) : wpAny (model prog w) A (compareOp .NotEq (.ref l) (.ref b)) Q E s := by
  obtain ⟨⟨c, dd, dt, sl⟩, ho, hc, n, hd⟩ := id h1
  obtain ⟨⟨c', dd', dt', sl'⟩, ho', hc', n', hd'⟩ := id h2
  simp only at hc hd hc' hd'
  subst hc hd hc' hd'
  by_cases hz : its.size = 0
  · have e : (!((List.range its.size).all (fun _ => true))) = !(its.size == 0) := by simp [hz]
    exact wpAny_richCompare_same_room (T := "list") (op := .NotEq) ⟨_, ho, rfl⟩ ⟨_, ho', rfl⟩ F.slot_list_ne (call_meets F.slot_list_ne ⟨_, ho, rfl⟩ F.entry_list_ne (F.args_list_ne_2 _ _)
      (SeqAt.list_neAt l b its #[] n n' dd dd' sl sl' hz fun _ => true) ⟨ho, ho', fun j _ hj => absurd hj (Nat.not_lt_zero j), show Value.bool (!((List.range its.size).all (fun _ => true))) ≠ Value.notImplemented ∧ Q (.bool (!((List.range its.size).all (fun _ => true)))) s from ⟨(fun x => nomatch x), by rw [e]; exact h⟩⟩) (by omega)
  · have e : (!(its.size == 0)) = true := by simp only [beq_eq_false_iff_ne.mpr hz]; rfl
    rw [e] at h
    exact wpAny_richCompare_same_room (T := "list") (op := .NotEq) ⟨_, ho, rfl⟩ ⟨_, ho', rfl⟩ F.slot_list_ne (call_meets F.slot_list_ne ⟨_, ho, rfl⟩ F.entry_list_ne (F.args_list_ne_2 _ _)
      (SeqAt.list_ne_lengthsAt l b its #[] n n' dd dd' sl sl' (by simpa using hz)) ⟨ho, ho', show Value.bool true ≠ Value.notImplemented ∧ Q (.bool true) s from ⟨(fun x => nomatch x), h⟩⟩) (by omega)
end
def rNeL0 (K : PySem.W.Frag) : R2 := fun x y H Q => ∃ (a b : Addr) (xs : List V), x = .ref a ∧ y = .ref b ∧ SqL K H a xs ∧ SqL K H b [] ∧ Q (.bl (!(xs.length == 0))) H
section
variable {X : Cx}
theorem op_neL0 (hu : X.A.units + 64 < cLine) : OpR X (compareOp .NotEq) (rNeL0 X.K) := by
  intro pins s σ H x y v u Q I rx ry ⟨a, b, xs, ex, ey, h1, h2, q⟩
  subst ex ey
  cases rx; cases ry
  obtain ⟨its, rv, li, _⟩ := I.list h1
  obtain ⟨its', rv', li', _⟩ := I.list h2
  cases rv'
  refine ne_emptyL (s := s) li.isList li'.isList (by omega) ⟨.bl _, H, I, ?_, q⟩
  show Value.bool _ = Value.bool _
  rw [List.size_toArray, rv.length]
theorem k_neL0 (K : PySem.W.Frag) {j : Nat} (room : RoomG j X.A) (h : X.K = K := by rfl) : OpR X (compareOp .NotEq) (rNeL0 K) := h ▸ op_neL0 (hu64 room)
end
def neL0G (x y : D) (Φ : D → Prop) : Prop := ∃ l, x = .lst l ∧ y = .lst [] ∧ Φ (.bl (!(l.length == 0)))
theorem opd_neL0 {K : PySem.W.Frag} : OpD K (rNeL0 K) neL0G := fun H0 H x y dx dy Φ Q e rx ry ⟨l, ex, ey, g⟩ k => by
  subst ex ey
  cases rx with
  | lst h1 r1 =>
    cases ry with
    | lst h2 r2 =>
      cases r2
      exact ⟨_, _, _, rfl, rfl, .inl (.inl (e _ _ h1)), .inl (.inl (e _ _ h2)), by rw [r1.length]; exact fin0 e g (.bl _) k⟩
section
variable {P : Program} {w : World} {K : PySem.W.Frag} {mg : Str → Option Value} {base : Heap}
/-- a promise of nothing -/
theorem fnG_none {k : Nat} {f : Addr} {fd : FuncData} {ps : List Str} : FnG P w K mg base k f fd ps (lift K fun _ _ _ => False) :=
  ⟨fun _ _ _ _ ⟨_, _, _, _, _, _, h, _⟩ => h.elim, fun _ _ _ _ _ _ _ _ _ _ _ _ _ ⟨_, _, _, _, _, _, h, _⟩ => h.elim⟩
/-- a def that calls itself: its promise by the depth of what it is handed -/
theorem fnG_rec {x : Str} {k0 : Nat} {f : Addr} {fd : FuncData} {ps : List Str} (S : Nat → DSp) (hm : mg x = some (.ref f)) (hk : PySem.W.keepIn K (.ref f) = true) (hb : Binds K fd ps [])
    (step : ∀ (n : Nat) (S' : DSp), CallD P w K mg base x (k0 + n) S' → (∀ m, n = m + 1 → S' = S m) → FnG P w K mg base (k0 + n + 1) f fd ps (lift K (S n))) : ∀ n, FnG P w K mg base (k0 + n + 1) f fd ps (lift K (S n))
  | 0 => step 0 (fun _ _ _ => False) ⟨f, fd, ps, fnG_none, hm, hk, hb⟩ fun m e => by omega
  | n + 1 => step (n + 1) (S n) ⟨f, fd, ps, (fnG_rec S hm hk hb step n).mono (by omega), hm, hk, hb⟩ fun m e => by
    obtain rfl : n = m := by omega
    rfl
end
end DL
/-! DL48: x in a list of one's own; a sign that is not in a text. -/
namespace DL
open PySem PySem.Spec L2
open PyProof.Rows hiding St
section
variable {w : Wx} {ρ : Env'} {Φ : D → Env' → Prop}
/-- x ? ys, ys one's own, which stays so -/
theorem wE_opOwn {i : Nat} {te : TE} {r : R2} {g : D → D → (D → Prop) → Prop} (o : OpD w.K r g) (h0 : ∃ t ds, ρ[i]? = some (some (.own t (.lst ds))))
    (h : wE w te ρ fun d ρ1 => ∃ t ds, ρ1[i]? = some (some (.own t (.lst ds))) ∧ g d (.lst ds) fun y => ∃ b, y = .bl b ∧ Φ (.bl b) ρ1) : wE w (tOp r te (tVar i)) ρ Φ := fun c H0 H σ Q a x k =>
  h c H0 H σ _ a x fun v d ρ1 H01 H1 ⟨t, ds, g0, gg⟩ a1 e1 r1 => by
    obtain ⟨p, ho, h1, h2, h3, _, rr⟩ := a1.own g0
    refine ⟨.ref p, h1, o H1 H1 v (.ref p) d (.lst ds) (fun y => ∃ b, y = .bl b ∧ Φ (.bl b) ρ1) Q (.refl _) (r1.mono a1.px.i) ?_ gg fun u y H0' H' ⟨b, e, q⟩ yx r' => ?_⟩
    · cases rr with
      | lst hr => exact .lst h2 (hr.mono a1.px.i)
    · subst e
      cases r'
      have y' : PX ⟨H1, H01, []⟩ H01 H' := ⟨yx.e, .refl _, a1.px.i.trans yx.ex, fun _ _ h => h⟩
      exact k _ _ ρ1 H01 H' q (a1.go y') e1 (.bl _)
end
section
variable {w : Wx} {t : TS} {E : DE} {ρ : Env'}
/-- what holds behind a statement, told before what follows -/
theorem wS_then (R : Env' → Prop) (h : wS w t { E with nx := R } ρ) (k : ∀ ρ', R ρ' → E.nx ρ') : wS w t E ρ := wS_mono h k (fun _ _ h => h) (fun _ _ h => h) (fun _ h => h) (fun _ h => h)
theorem wS_ifThen {p : Prop} [Decidable p] (R : Env' → Prop) (h1 : p → wS w t { E with nx := R } ρ) (h2 : ¬ p → R ρ) (k : ∀ ρ', R ρ' → E.nx ρ') : if decide p = true then wS w t E ρ else wS w tNext E ρ := by
  by_cases h : p
  · rw [decide_eq_true h, if_pos rfl]; exact wS_then R (h1 h) k
  · rw [decide_eq_false h, if_neg Bool.false_ne_true]; exact wS_next (k ρ (h2 h))
end
def rNotSign : R2 := fun x y H Q => ∃ (c : Nat) (z : Str), x = .str ⟨#[c]⟩ ∧ y = .str z ∧ Q (.bl (!decide (c ∈ z.cps.toList))) H
def notSignG (x y : D) (Φ : D → Prop) : Prop := ∃ c z, x = .str ⟨#[c]⟩ ∧ y = .str z ∧ Φ (.bl (!decide (c ∈ z.cps.toList)))
theorem opd_notSign {K : PySem.W.Frag} : OpD K rNotSign notSignG := fun H0 H x y dx dy Φ Q e rx ry ⟨c, z, hx, hy, g⟩ k => by
  subst hx hy
  cases rx; cases ry
  exact ⟨c, z, rfl, rfl, fin0 e g (.bl _) k⟩
theorem opr_notSign {X : Cx} : OpR X (compareOp .NotIn) rNotSign := op_notIn_sign
theorem isiG_tr {x : D} {T t : String} {Φ : D → Prop} (ht : tyD x = some t) (hk : knownT T = true) (hb : isB t T = true) (h : Φ (.bl true)) : isiG [x, .raw (.ty T)] Φ := isiG_of ht hk (by rw [hb]; exact h)
theorem isiG_f {x : D} {T t : String} {Φ : D → Prop} (ht : tyD x = some t) (hk : knownT T = true) (hb : isB t T = false) (h : Φ (.bl false)) : isiG [x, .raw (.ty T)] Φ := isiG_of ht hk (by rw [hb]; exact h)
end DL
/-! DL49: sorted(set(xs)), xs a list of ints. -/
namespace DL
open PySem PySem.Spec L2
open PyProof.Rows hiding St
abbrev fresh0 (w : World) : Obj := { cls := .type "set", dict := none, data := .set #[] 0 (.fresh 0 0 (!w.params.followText "set-order")) }
section
variable {P : Program} {w : World} {A : Around} {E : Value → Shared → Prop} {s : Shared} {l : Addr} {items : Array Value} {ns : List Int}
/-- the filling of a new set from a list of ints -/
theorem fill_setL {R : Value → Shared → Prop} (hh : A.handled = none) (hl : s.heap.IsList l items) (hit : IntsAre items.toList ns) (hb : ns.length + 1 < scanBound)
    (k : ∀ h' tk c, SetR w h' s.heap.objs.size (fun j => decide (j ∈ ns)) c → c ≤ ns.length → (∀ b o, s.heap.get? b = some o → h'.get? b = some o) → R .none { s with heap := h', toks := tk }) :
    codeAny (model P w) A (.call (.builtin "set.__init__") ⟨[.ref s.heap.objs.size, .ref l], []⟩) (wants R E) { s with heap := s.heap.push (fresh0 w) } := by
  have hn : items.size = ns.length := by have q := IntsAre.length hit; rw [Array.length_toList] at q; exact q
  have own : (s.heap.push (fresh0 w)).get? s.heap.objs.size = some (fresh0 w) := Heap.get?_push_size _ rfl
  have ty : Shared.TypeIs { s with heap := s.heap.push (fresh0 w) } (.ref s.heap.objs.size) "set" := ⟨_, own, rfl⟩
  refine codeAny_call_builtin F.called_set.init.plain F.entry_set_init (check_set_init_1 ty ?_)
  obtain ⟨ol, hol, hcl, nl, hdl⟩ := hl
  obtain ⟨ocls, od, dt, sl⟩ := ol
  simp only at hcl hdl
  subst hcl; subst hdl
  have at1 : (s.heap.push (fresh0 w)).get? l = some { cls := .type "list", dict := od, data := .seq items nl, slots := sl } := Heap.get?_push_of_some _ hol
  have s1 := F.sub_list_set
  have s2 := F.sub_list_frozenset
  have s3 : (Value.type "list" == Value.type "dict") = false := by decide
  have isl : (s.heap.push (fresh0 w)).IsList l items := ⟨_, at1, rfl, nl, rfl⟩
  have hS := own
  have hol' := at1
  unfold Builtin.«set.__init__» noKeywords Builtin.Frozenset.updateFrom
  generalize hPI : pyIter = PI
  wp_walk
  subst hPI
  refine wpAny_pyIter_list isl ?_
  refine wpAny_bind (wpAny_runValue ?_)
  have low : l < s.heap.objs.size := Heap.lt_size hol
  have up1 : (s.heap.push (fresh0 w)).objs.size = s.heap.objs.size + 1 := Heap.size_push ..
  have quiet : A.in1.in1.handled = none := by simp [hh]
  have ne1 : l ≠ (s.heap.push (fresh0 w)).objs.size := by rw [up1]; exact Nat.ne_of_lt (Nat.lt_succ_of_lt low)
  have off : s.heap.objs.size ∉ [(s.heap.push (fresh0 w)).objs.size, l] := by
    rw [up1]
    intro h
    rcases List.mem_cons.mp h with h | h
    · exact Nat.ne_of_lt (Nat.lt_succ_self _) h
    · exact Nat.ne_of_gt low (List.mem_singleton.mp h)
  have vals : ∀ (i : Nat) (v : Value), items[i]? = some v → ∃ k t, ns[i]? = some k ∧ v = .int k t := fun i v hv => by
    have hi : i < ns.length := by rw [← hn]; exact (Array.getElem?_eq_some_iff.mp hv).1
    obtain ⟨t, e⟩ := PyProof.Rows.IntsAre.int_at hit i v (by rw [Array.getElem?_toList]; exact hv)
    have g : ns[i]? = some ns[i] := List.getElem?_eq_getElem hi
    exact ⟨ns[i], t, g, by rw [e, List.getD_eq_getElem?_getD, g]; rfl⟩
  have own2 : ((s.heap.push (fresh0 w)).push { cls := .type "list_iterator", data := .fields #[.ref l, .int 0 0] }).get? s.heap.objs.size = some (fresh0 w) := Heap.get?_push_of_some _ own
  refine set_update_ints ((Walks.list quiet _ l ne1 items).toS) s.heap.objs.size off ns hn hb vals (items.size - 0) 0 _ (by omega) (Nat.zero_le _) ?h2 ?h0 ?h1
  case h2 => exact ⟨⟨_, Heap.get?_push_size _ rfl, rfl, rfl⟩, isl.push _⟩
  case h0 => exact ⟨0, Nat.le_refl 0, setR_new_at own2⟩
  intro s' c mv hc set
  obtain ⟨h', g', d', tk', os'⟩ := s'
  obtain rfl : g' = s.gens := mv.gens
  obtain rfl : d' = s.drawn := mv.drawn
  obtain rfl : os' = s.os := mv.os
  show wpAny _ _ _ _ _ _
  refine wpAny_pure ?_
  show wpAny _ _ (ret Value.none) _ _ _
  rw [hn] at hc
  refine wpAny_pure (k h' tk' c set hc fun b o e => ?_)
  have lt := Heap.lt_size e
  refine mv.heap b o (fun h => ?_) (Heap.get?_push_of_some _ (Heap.get?_push_of_some _ e))
  rcases List.mem_cons.mp h with h | h
  · exact Nat.ne_of_lt lt h
  · exact Nat.ne_of_lt (Nat.lt_succ_of_lt lt) ((List.mem_singleton.mp h).trans up1)
/-- set(xs) of a list of ints -/
theorem call_setL {Q : Value → Shared → Prop} (hh : A.handled = none) (hl : s.heap.IsList l items) (hit : IntsAre items.toList ns) (hb : ns.length + 1 < scanBound)
    (k : ∀ h' tk c, SetR w h' s.heap.objs.size (fun j => decide (j ∈ ns)) c → c ≤ ns.length → (∀ b o, s.heap.get? b = some o → h'.get? b = some o) → Q (.ref s.heap.objs.size) { s with heap := h', toks := tk }) :
    wpAny (model P w) A (call (.type "set") [.ref l]) Q E s := by
  obtain ⟨_, _, mro⟩ := F.called_set.mro
  have made := F.called_set.made
  have subs := F.called_set.sub
  have notT := F.called_set.notType
  have canC := F.called_set.canCreate
  have tc := F.typeCall_set_1 (.ref l)
  refine wpAny_call (codeAny_of_tree ?_)
  show wpAny _ _ (callAny (.type "set") _) _ _ _
  refine wpAny_pure ⟨Code.quiet_builtin _ (by decide +kernel), codeAny_builtin F.entry_type_call ?_⟩
  rw [Around.under_plain (weight_type_call_type "set" [.ref l] []) rfl]
  repeat (any_goals (first | assumption | wp_step))
  refine codeAny_mono (code_set_led1 (.ref l) (E := E) (Q₁ := fun obj s₁ => obj = .ref s.heap.objs.size ∧ s₁ = { s with heap := s.heap.push (fresh0 w) }) ⟨rfl, rfl⟩) fun r s₁ hr => ?_
  rcases r with e | fl
  · exact hr
  rcases fl with _ | _ | _ | obj
  · exact hr.elim
  · exact hr.elim
  · exact hr.elim
  obtain ⟨rfl, rfl⟩ := hr
  have own : (s.heap.push (fresh0 w)).get? s.heap.objs.size = some (fresh0 w) := Heap.get?_push_size _ rfl
  have ty : Shared.TypeIs { s with heap := s.heap.push (fresh0 w) } (.ref s.heap.objs.size) "set" := ⟨_, own, rfl⟩
  have look := F.called_set.init.lookup
  have bnd := F.called_set.init.bind (.ref s.heap.objs.size)
  repeat (any_goals (first | assumption | wp_step))
  refine codeAny_mono (fill_setL (E := E) (R := fun v s₂ => v = .none ∧ ∃ h' tk c, s₂ = { s with heap := h', toks := tk } ∧ SetR w h' s.heap.objs.size (fun j => decide (j ∈ ns)) c ∧ c ≤ ns.length ∧ ∀ b o, s.heap.get? b = some o → h'.get? b = some o) (by simp [hh]) hl hit hb fun h' tk c a b d => ⟨rfl, h', tk, c, rfl, a, b, d⟩) fun r s₂ hr => ?_
  rcases r with e | fl
  · exact hr
  rcases fl with _ | _ | _ | v
  · exact hr.elim
  · exact hr.elim
  · exact hr.elim
  obtain ⟨rfl, h', tk, c, rfl, a, b, d⟩ := hr
  repeat (any_goals (first | assumption | wp_step))
  exact k h' tk c a b d
end
theorem few_nodup : ∀ (n : Nat) (l : List Int), l.Nodup → (∀ k ∈ l, 0 ≤ k ∧ k < n) → l.length ≤ n
  | 0, l, _, h => by
    cases l with
    | nil => exact Nat.le_refl _
    | cons a l => have := h a List.mem_cons_self; omega
  | n + 1, l, nd, h => by
    have ih := few_nodup n (l.erase (n : Int)) (nd.erase _) fun k hk => by
      have := (List.Nodup.mem_erase_iff nd).mp hk
      have := h k this.2
      omega
    by_cases m : (n : Int) ∈ l
    · rw [List.length_erase_of_mem m] at ih
      omega
    · rw [List.erase_of_not_mem m] at ih
      omega
section
variable {X : Cx}
/-- set(xs), xs a list of ints -/
def rSetOfL (K : PySem.W.Frag) (w : World) : List V → Hp → VK → Prop := fun vs H Q => ∃ (l : Addr) (ns : List Int), vs = [V.ref l] ∧ SqL K H l (ns.map V.int) ∧ ns.length ≤ 4000 ∧
  ∀ (p : Addr) (c : Nat), H p = none → (∀ n : Nat, (∀ k ∈ ns, 0 ≤ k ∧ k < n) → c ≤ n) → Q (.ref p) (upd H p (SetO w p (fun j => decide (j ∈ ns)) c))
theorem cr_setL (hc : X.calm = true) : CallR X (.type "set") (rSetOfL X.K X.w) := by
  intro pins s σ H vs us Q I r h
  obtain ⟨l, ns, rfl, hq, hn, q⟩ := h
  rw [Vals.ref1 r]
  obtain ⟨its, rv, pl, hz⟩ := I.list hq
  have hl : its.toArray.size = ns.length := by rw [List.size_toArray, ← rv.length, List.length_map]
  refine call_setL (I.ok.hd hc) pl.isList (ns := ns) (by simpa using rv.ints) (by unfold scanBound; omega) fun h' tk c R hcn k => ?_
  have free : H s.heap.objs.size = none := I.hok.fresh (Nat.le_refl _)
  refine ⟨.ref s.heap.objs.size, upd H s.heap.objs.size (SetO X.w s.heap.objs.size (fun j => decide (j ∈ ns)) c), I.laid (t' := tk) k (Nat.le_refl _) (setO_new R), rfl, q _ c free fun n hb => ?_⟩
  obtain ⟨o, es, ep, t, _, _, _, _, nd, hm, _, _, hs, _⟩ := R
  rw [← hs, ← Array.length_toList, ← List.length_map (f := keyOf)]
  exact few_nodup n _ nd fun k hk => hb k (of_decide_eq_true ((hm k).mpr hk))
end
section
variable (K : PySem.W.Frag) (w : World)
def rSortSet : List V → Hp → VK → Prop := fun vs H Q => rSetOfL K w vs H fun v H2 => rSortedSet w [v] H2 Q
def sortSetG (ds : List D) (Φ : D → Prop) : Prop := ∃ ns : List Int, ds = [.lst (ns.map D.int)] ∧ ns.length ≤ 4000 ∧ (∀ k ∈ ns, 0 ≤ k ∧ k < 60) ∧ ∀ ms : List Int, ms.Pairwise (· < ·) → (∀ k, k ∈ ms ↔ k ∈ ns) → Φ (.lst (ms.map D.int))
end
theorem cbd_sortSet {K : PySem.W.Frag} {w : World} : CbD K (rSortSet K w) sortSetG := fun H0 H xs ds Φ Q e rx ⟨ns, h, hl, hb, g⟩ k => by
  subst h
  obtain ⟨v, rfl, r⟩ := vals_one rx
  cases r with
  | lst hp hr =>
    rw [hr.ofInts] at hp
    refine ⟨_, ns, rfl, .inl (.inl (e _ _ hp)), by omega, fun p c hn hc => ⟨p, _, c, rfl, upd_same, by have := hc 60 hb; omega, fun ms q pw mem _ hq => ?_⟩⟩
    have y1 : PX ⟨H, H0, []⟩ (upd H0 p (SetO w p (fun j => decide (j ∈ ns)) c)) (upd H p (SetO w p (fun j => decide (j ∈ ns)) c)) := (PX.refl e).new hn
    have y2 := y1.new (o := .lst (ms.map V.int)) hq
    exact k _ _ _ _ (g ms pw fun k => by rw [mem k, decide_eq_true_eq]) y2 (.lst upd_same (RepAll.ints ms))
theorem wE_sortSet {w : Wx} {w0 : World} {t : TE} {ρ : Env'} {Φ : D → Env' → Prop} (h : wE w t ρ fun d ρ1 => ∃ ns : List Int, d = .lst (ns.map D.int) ∧ ns.length ≤ 4000 ∧ (∀ k ∈ ns, 0 ≤ k ∧ k < 60) ∧ ∀ ms : List Int, ms.Pairwise (· < ·) → (∀ k, k ∈ ms ↔ k ∈ ns) → Φ (.lst (ms.map D.int)) ρ1) :
    wE w (tCB (rSortedSet w0) (tCons (tCB (rSetOfL w.K w0) (tCons t tNil)) tNil)) ρ Φ := by
  have := wE_cb (w := w) (ρ := ρ) (Φ := Φ) (cbd_sortSet (K := w.K) (w := w0)) (t' := tCons t tNil) (wA_cons (wE_mono h fun d ρ1 ⟨ns, e, hl, hb, g⟩ => wA_nil ⟨ns, by rw [e], hl, hb, g⟩))
  exact this
/-- names.index(name) -/
theorem k_index {X : Cx} (K : PySem.W.Frag) (h : X.K = K := by rfl) : MtR X "list.index" (rIndex K) := h ▸ mt_index
def indexG (x : D) (ds : List D) (Φ : D → Prop) : Prop := ∃ (ys : List Str) (z : Str) (j : Nat), x = .lst (ys.map .str) ∧ ds = [.str z] ∧ ys[j]? = some z ∧ (∀ m < j, ys[m]? ≠ some z) ∧ Φ (.int (j : Nat))
theorem mtd_index {K : PySem.W.Frag} : MtD K (rIndex K) indexG := fun H0 H x xs dx ds Φ Q e rx rs ⟨ys, z, j, hx, hd, hj, hno, g⟩ k => by
  subst hx hd
  obtain ⟨v, rfl, r⟩ := vals_one rs
  cases r
  cases rx with
  | lst hp hr =>
    rw [hr.ofStrs] at hp
    refine ⟨_, ys.map V.str, .str z, j, .str z, rfl, rfl, .inl (.inl (e _ _ hp)), rfl, List.all_eq_true.mpr fun v hv => ?_, by rw [List.getElem?_map, hj]; rfl, by show (z == z) = true; exact beq_self_eq_true z, fun m z' hm hz => ?_, fin0 e g (.int _) k⟩
    · obtain ⟨y, _, rfl⟩ := List.mem_map.mp hv
      rfl
    · rw [List.getElem?_map] at hz
      obtain ⟨y, hy, rfl⟩ := Option.map_eq_some_iff.mp hz
      have := hno m hm
      rw [hy] at this
      show (y == z) = false
      exact beq_eq_false_iff_ne.mpr fun h => this (by rw [h])
theorem k_setL {X : Cx} (K : PySem.W.Frag) (hc : X.calm = true) (h : X.K = K := by rfl) : CallR X (.type "set") (rSetOfL K X.w) := h ▸ cr_setL hc
theorem bb_sorted : bootBuiltins "sorted" = some (.builtin "sorted") := by decide +kernel
theorem bb_set : bootBuiltins "set" = some (.type "set") := by decide +kernel
theorem k_revL {X : Cx} (K : PySem.W.Frag) {e : Expr} {te : TE} {k : Nat} {p1 p2 p3 pos : Pos} (he : PE X e te) (h : X.K = K := by rfl) : PE X (.Subscript e (.Slice none none (some (.UnaryOp .USub (.Constant (.int 1) k p1) p2)) p3) pos) (tRevL K te) := h ▸ pe_revL he
theorem wE_revL {w : Wx} {ρ : Env'} {Φ : D → Env' → Prop} {te : TE} (h : wE w te ρ fun d ρ1 => ∃ l, d = .lst l ∧ Φ (.lst l.reverse) ρ1) : wE w (tRevL w.K te) ρ Φ := fun c H0 H σ Q a x k =>
  h c H0 H σ _ a x fun v d ρ1 H01 H1 ⟨l, e, q⟩ a1 e1 r1 => by
    subst e
    cases r1 with
    | @lst b xs _ hp hr =>
      refine ⟨_, _, rfl, .inl (.inl (a1.px.i _ _ hp)), fun p hn => ?_⟩
      have y : PX ⟨H1, H01, []⟩ (upd H01 p (.lst xs.reverse)) (upd H1 p (.lst xs.reverse)) := (PX.refl a1.px.i).new hn
      exact k _ _ ρ1 _ _ q (a1.go y) (e1.trans y.e0) (.lst upd_same (hr.reverse.mono y.e0))
end DL
/-! DL50: a * b, where a list or a tuple is repeated, too. -/
namespace DL
open PySem PySem.Spec L2
open PyProof.Rows hiding St
section
variable {K : PySem.W.Frag}
def rMulA (K : PySem.W.Frag) : R2 := fun x y H Q => rMul x y H Q ∨ rRep x y H Q ∨ rRepT K x y H Q
theorem opr_mulA {X : Cx} : OpR X (binaryOp .Mult) (rMulA X.K) := fun pins s σ H x y v u Q I rx ry h => by
  rcases h with h | h | h
  · exact opr_mul pins s σ H x y v u Q I rx ry h
  · exact op_rep pins s σ H x y v u Q I rx ry h
  · exact op_repT pins s σ H x y v u Q I rx ry h
theorem k_mulA {X : Cx} (K : PySem.W.Frag) (h : X.K = K := by rfl) : OpR X (binaryOp .Mult) (rMulA K) := h ▸ opr_mulA
theorem repAll_rep {H : Hp} {xs : List V} {ds : List D} (r : RepAll K H xs ds) : ∀ n : Nat, RepAll K H (List.replicate n xs).flatten (List.replicate n ds).flatten
  | 0 => .nil
  | n + 1 => by
    rw [List.replicate_succ, List.replicate_succ, List.flatten_cons, List.flatten_cons]
    exact r.append (repAll_rep r n)
def mulAG (x y : D) (Φ : D → Prop) : Prop := match x, y with
  | .int i, .int j => MulC i j ∧ Φ (.int (i * j))
  | .lst l, .int k => 0 ≤ k ∧ k ≤ 1000 ∧ l.length ≤ 1000 ∧ Φ (.lst (List.replicate k.toNat l).flatten)
  | .tup l, .int k => l ≠ [] ∧ 2 ≤ k ∧ k ≤ 1000 ∧ l.length ≤ 1000 ∧ Φ (.tup (List.replicate k.toNat l).flatten)
  | _, _ => False
theorem opd_mulA : OpD K (rMulA K) mulAG := fun H0 H x y dx dy Φ Q e rx ry h k => by
  cases rx <;> cases ry <;> first
    | exact h.elim
    | exact .inl (opd_mul (K := K) H0 H _ _ _ _ Φ Q e (.int _) (.int _) h k)
    | skip
  case lst.int h1 r1 j =>
    obtain ⟨k0, k1, hl, q⟩ := h
    refine .inr (.inl ⟨_, _, _, rfl, rfl, e _ _ h1, by omega, by omega, ?_, finL e q (repAll_rep r1 _) k⟩)
    rw [r1.length, sizeLine_eq]
    have := Nat.mul_le_mul hl (show j.toNat ≤ 1000 by omega)
    omega
  case tup.int h1 r1 j =>
    obtain ⟨hn, k0, k1, hl, q⟩ := h
    refine .inr (.inr ⟨_, _, _, rfl, rfl, sqT_ex e h1, fun z => hn ?_, k0, k1, by rw [r1.length]; exact hl, finT e q (repAll_rep r1 _) k⟩)
    subst z
    cases r1
    rfl
theorem mulAG_t {l : List D} {k : Int} {Φ : D → Prop} (h1 : l ≠ []) (h2 : 2 ≤ k) (h3 : k ≤ 1000) (h4 : l.length ≤ 1000) (q : Φ (.tup (List.replicate k.toNat l).flatten)) : mulAG (.tup l) (.int k) Φ := ⟨h1, h2, h3, h4, q⟩
theorem mulAG_l {l : List D} {k : Int} {Φ : D → Prop} (h2 : 0 ≤ k) (h3 : k ≤ 1000) (h4 : l.length ≤ 1000) (q : Φ (.lst (List.replicate k.toNat l).flatten)) : mulAG (.lst l) (.int k) Φ := ⟨h2, h3, h4, q⟩
end
end DL
/-! DL51: comprehensions with two fors. -/
namespace DL
open PySem PySem.Spec L2
open PyProof.Rows hiding St
theorem hide_hide (ρ : Env') : hide (hide ρ) = hide ρ := by
  unfold hide
  rw [List.map_map]
  refine List.map_congr_left fun x _ => ?_
  rcases x with _ | (_ | _) <;> rfl
theorem At.again {K : PySem.W.Frag} {c : Ctx} {ρ : Env'} {H0 H H0' H' : Hp} {σ : St} (a : At K c ρ H0 H σ) (e0 : Ex H0 H0') (e1 : Ex H0' H') (t : TabA c.T H0' H') : At K ⟨H', H0', c.T⟩ (hide ρ) H0' H' σ := by
  obtain ⟨os, s, _, _⟩ := a.sl
  exact ⟨PX.refl e1, t, [], (s.hide).mono e0 (fun _ h => nomatch h), List.nodup_nil, fun _ h => nomatch h⟩
theorem only_use {g : TG} {vs : List Nat} (hon : Only g vs) {v : V} {σ : St} {H : Hp} {Q : St → Hp → Prop} (h : g v (wipe σ vs) H Q) : g v (wipe σ vs) H fun σ' H' => wipe σ' vs = wipe σ vs ∧ Q σ' H' := by
  have s2 := hon _ _ _ _ h
  rw [wipe_wipe] at s2
  exact s2
theorem wE_lc2 {w : Wx} {ρ : Env'} {Φ : D → Env' → Prop} {wi wi1 : TI} {g g1 : TG} {tt tt1 : TT} {te : TE} {vs vs1 : List Nat} (hon : Only g vs) (hon1 : Only g1 vs1)
    (h : wI w wi ρ fun ds ρ1 => ∃ I : Nat → List D → Prop, I 0 [] ∧ (∀ i d acc, ds[i]? = some d → I i acc → wG w.quiet g d (wipeE (hide ρ1) vs) fun ρ2 => wT w.quiet tt ρ2 fun b ρ3 =>
      if b = true then wI w.quiet wi1 ρ3 fun ds1 ρ4 => ∃ I1 : Nat → List D → Prop, I1 0 acc ∧ (∀ j d1 acc1, ds1[j]? = some d1 → I1 j acc1 → acc1.length < 1000000 ∧ wG w.quiet g1 d1 (wipeE (hide ρ4) vs1) fun ρ5 => wT w.quiet tt1 ρ5 fun b ρ6 =>
          if b = true then wE w.quiet te ρ6 fun y _ => I1 (j + 1) (acc1 ++ [y]) else I1 (j + 1) acc1) ∧ (∀ acc1, I1 ds1.length acc1 → I (i + 1) acc1)
      else I (i + 1) acc) ∧ (∀ acc, I ds.length acc → Φ (.lst acc) ρ1)) : wE w (tLc2 wi g tt wi1 g1 tt1 te vs vs1) ρ Φ := fun c H0 H σ Q a x k => by
  refine h c H0 H σ _ a x fun J ds ρ1 H01 H1 ⟨I, i0, step, done⟩ a1 e1 go stop yld => ?_
  intro Dl hD
  have hD0 : H01 Dl = none := a1.px.i.back hD
  have known : ∀ {H : Hp} {us : List V}, H Dl = some (.lst us) → H Dl ≠ none := fun e z => by rw [e] at z; cases z
  have tabD : ∀ {H : Hp} {us us' : List V}, H Dl = some (.lst us) → ∀ b o, H b = some o → (∀ xs, o ≠ .lst xs) → (∀ xs, o ≠ .dK xs) → (∀ C dx xs, o ≠ .ins C dx xs) → upd H Dl (.lst us') b = some o := fun {H us us'} e b o hb n1 _ _ => by
    have hne : b ≠ Dl := fun z => by
      rw [z, e] at hb
      cases hb
      exact n1 _ rfl
    exact (upd_ne hne).trans hb
  let St1 : (List D → Prop) → Hp → Hp → Prop := fun I H0' H' => ∃ us acc, PX ⟨H1, H01, c.T⟩ H0' H' ∧ TabA c.T H0' H' ∧ H' Dl = some (.lst us) ∧ H0' Dl = none ∧ RepAll w.K H0' us acc ∧ I acc
  refine ⟨fun i m H' => m = ds.length - i ∧ i ≤ ds.length ∧ ∃ H0', St1 (I i) H0' H',
    ⟨_, rfl, Nat.zero_le _, H01, [], [], (PX.refl a1.px.i).change hD0 hD, a1.tab.keep (ext_both (Ex.new hD)) (fun _ h _ => h), upd_same, hD0, .nil, i0⟩, ?_⟩
  rintro i m H' ⟨rfl, hi, H0', us, acc, p, tb, hl, h0, r, hI⟩
  by_cases hlt : i < ds.length
  · refine .inr ⟨go i H0' H' p.e0 p.i hlt, fun H'' => ∃ H0', St1 (I (i + 1)) H0' H'', fun H'' ⟨H0', q⟩ => ⟨ds.length - (i + 1), by omega, rfl, hlt, H0', q⟩, fun v H2 y => ?_⟩
    obtain ⟨d, H02, hd, p2, r2⟩ := yld i H0' H' v H2 p.e0 p.i hlt y
    have P2 := p.trans p2
    have l2 : H2 Dl = some (.lst us) := p2.ex _ _ hl
    have n2 : H02 Dl = none := p2.n Dl (known hl) h0
    have tb2 : TabA c.T H02 H2 := tb.keep (ext_both p2.ex) fun q h1 ⟨ps, h2⟩ => p2.n q (by show H' q ≠ none; rw [h2]; exact nofun) h1
    have aw : At w.quiet.K ⟨H2, H02, c.T⟩ (wipeE (hide ρ1) vs) H02 H2 (wipe σ vs) := ((a1.goT P2 tb2).freshT).wiped vs
    have ql : XLink w.quiet ⟨H2, H02, c.T⟩ := quiet_link x.t
    refine only_use hon ?_
    refine step i d acc hd hI ⟨H2, H02, c.T⟩ H02 H2 (wipe σ vs) v _ aw ql r2 fun ρ3 H03 H3 σ3 q3 a3 e3 => ?_
    refine q3 ⟨H2, H02, c.T⟩ H03 H3 σ3 _ a3 ql fun b ρ4 H04 H4 q4 a4 e4 => ?_
    have l4 : H4 Dl = some (.lst us) := a4.px.e.lst l2
    have n4 : H04 Dl = none := a4.px.n Dl (known l2) n2
    cases b with
    | false =>
      rw [if_neg Bool.false_ne_true] at q4 ⊢
      exact ⟨H04, us, acc, P2.transT a4.px, a4.tab, l4, n4, r.mono (p2.e0.trans a4.px.e0), q4⟩
    | true =>
      rw [if_pos rfl] at q4 ⊢
      refine q4 ⟨H2, H02, c.T⟩ H04 H4 σ3 _ a4 ql fun J1 ds1 ρ5 H05 H5 ⟨I1, i10, step1, done1⟩ a5 e5 go1 stop1 yld1 => ?_
      have l5 : H5 Dl = some (.lst us) := a5.px.e.lst l2
      have n5 : H05 Dl = none := a5.px.n Dl (known l2) n2
      have P5 : PX ⟨H1, H01, c.T⟩ H05 H5 := P2.transT a5.px
      refine ⟨fun j k H' => k = ds1.length - j ∧ j ≤ ds1.length ∧ ∃ H0', Ex H05 H0' ∧ St1 (I1 j) H0' H', ⟨_, rfl, Nat.zero_le _, H05, .refl _, us, acc, P5, a5.tab, l5, n5, r.mono (p2.e0.trans a5.px.e0), i10⟩, ?_⟩
      rintro j kk H' ⟨rfl, hj, H0', e05, us, acc, p, tb, hl, h0, r, hI⟩
      by_cases hlt1 : j < ds1.length
      · refine .inr ⟨go1 j H0' H' e05 p.i hlt1, fun H'' => ∃ H0', Ex H05 H0' ∧ St1 (I1 (j + 1)) H0' H'', fun H'' ⟨H0', q⟩ => ⟨ds1.length - (j + 1), by omega, rfl, hlt1, H0', q⟩, fun v H6 y => ?_⟩
        obtain ⟨d1, H06, hd1, p6, r6⟩ := yld1 j H0' H' v H6 e05 p.i hlt1 y
        have P6 := p.trans p6
        have l6 : H6 Dl = some (.lst us) := p6.ex _ _ hl
        have n6 : H06 Dl = none := p6.n Dl (known hl) h0
        have tb6 : TabA c.T H06 H6 := tb.keep (ext_both p6.ex) fun q h1 ⟨ps, h2⟩ => p6.n q (by show H' q ≠ none; rw [h2]; exact nofun) h1
        have aw6 : At w.quiet.K ⟨H6, H06, c.T⟩ (wipeE (hide ρ5) vs1) H06 H6 (wipe σ3 vs1) := ((a5.again (e05.trans p6.e0) P6.i tb6)).wiped vs1
        have ql6 : XLink w.quiet ⟨H6, H06, c.T⟩ := quiet_link x.t
        obtain ⟨room, stp⟩ := step1 j d1 acc hd1 hI
        refine only_use hon1 ?_
        refine stp ⟨H6, H06, c.T⟩ H06 H6 (wipe σ3 vs1) v _ aw6 ql6 r6 fun ρ7 H07 H7 σ7 q7 a7 e7 => ?_
        refine q7 ⟨H6, H06, c.T⟩ H07 H7 σ7 _ a7 ql6 fun b ρ8 H08 H8 q8 a8 e8 => ?_
        have l8 : H8 Dl = some (.lst us) := a8.px.e.lst l6
        have n8 : H08 Dl = none := a8.px.n Dl (known l6) n6
        cases b with
        | false =>
          rw [if_neg Bool.false_ne_true] at q8 ⊢
          exact ⟨H08, e05.trans (p6.e0.trans a8.px.e0), us, acc, P6.transT a8.px, a8.tab, l8, n8, r.mono (p6.e0.trans a8.px.e0), q8⟩
        | true =>
          rw [if_pos rfl] at q8 ⊢
          refine q8 ⟨H6, H06, c.T⟩ H08 H8 σ7 _ a8 ql6 fun yv yd ρ9 H09 H9 q9 a9 e9 r9 => ?_
          have l9 : H9 Dl = some (.lst us) := a9.px.e.lst l6
          have n9 : H09 Dl = none := a9.px.n Dl (known l6) n6
          have P9 : PX ⟨H1, H01, c.T⟩ H09 H9 := P6.transT a9.px
          exact ⟨us, l9, len_lt (by rw [r.length]; exact room), H09, e05.trans (p6.e0.trans a9.px.e0), us ++ [yv], acc ++ [yd], P9.change n9 hD, a9.tab.keep (tabD l9) (fun _ h _ => h), upd_same, n9, (r.mono (p6.e0.trans a9.px.e0)).append (.cons r9 .nil), q9⟩
      · have e : j = ds1.length := by omega
        subst e
        exact .inl ⟨stop1 H0' H' e05 p.i, H0', us, acc, p, tb, hl, h0, r, done1 acc hI⟩
  · have e : i = ds.length := by omega
    subst e
    have P := p.learn hl h0 hD
    have tb' : TabA c.T (upd H0' Dl (.lst us)) H' := tb.keep (fun _ _ h _ _ _ => h) fun q h1 ⟨ps, h2⟩ => by
      have hne : q ≠ Dl := fun z => by rw [z, hl] at h2; cases h2
      exact (upd_ne hne).trans h1
    refine .inl ⟨stop H0' H' p.e0 p.i, k _ (.lst acc) ρ1 _ H' (done acc hI) (a1.goT P tb') (e1.trans P.e0) (.lst upd_same (r.mono (Ex.new h0)))⟩
/-- [k x y for x in xs for y in ys x] -/
theorem wE_lc2M {α β : Type} {w : Wx} {ρ : Env'} {Φ : D → Env' → Prop} {wi wi1 : TI} {g g1 : TG} {te : TE} {vs vs1 : List Nat} (hon : Only g vs) (hon1 : Only g1 vs1) (f : α → D) (f1 : β → D) (ys : α → List β) (k : α → β → D)
    (h : wI w wi ρ fun ds ρ1 => ∃ xs : List α, ds = xs.map f ∧ (xs.flatMap ys).length ≤ 1000000 ∧ (∀ x ∈ xs, wG w.quiet g (f x) (wipeE (hide ρ1) vs) fun ρ2 => wI w.quiet wi1 ρ2 fun ds1 ρ4 => ds1 = (ys x).map f1 ∧
      ∀ y ∈ ys x, wG w.quiet g1 (f1 y) (wipeE (hide ρ4) vs1) fun ρ5 => wE w.quiet te ρ5 fun z _ => z = k x y) ∧ Φ (.lst (xs.flatMap fun x => (ys x).map (k x))) ρ1) : wE w (tLc2 wi g tYes wi1 g1 tYes te vs vs1) ρ Φ := by
  have lenEq : ∀ xs : List α, (xs.flatMap fun x => (ys x).map (k x)).length = (xs.flatMap ys).length := fun xs => by
    rw [List.length_flatMap, List.length_flatMap]
    refine congrArg List.sum (List.map_congr_left fun x _ => List.length_map _)
  refine wE_lc2 hon hon1 fun c H0 H σ R a x q => h c H0 H σ R a x fun J ds ρ' H0' H' ⟨xs, e, hz, step, fin⟩ => q J ds ρ' H0' H' ⟨fun i acc => acc = (xs.take i).flatMap fun x => (ys x).map (k x), rfl, fun i d acc hd hacc => ?_, fun acc hacc => ?_⟩
  · subst e
    obtain ⟨x, hx, rfl⟩ := get_map hd
    have en := take_next hx
    refine fun c H0 H σ v Q a l r k' => step x (mem_get hx) c H0 H σ v Q a l r fun ρ2 H01 H1 σ1 z => k' ρ2 H01 H1 σ1 (wT_yes (ifT ?_))
    refine fun c H0 H σ R a l k' => z c H0 H σ R a l fun J ds ρ' H0' H' ⟨ed, st⟩ => k' J ds ρ' H0' H' ⟨fun j acc1 => acc1 = acc ++ ((ys x).take j).map (k x), by simp, fun j d1 acc1 hd1 hacc1 => ?_, fun acc1 hacc1 => ?_⟩
    · subst ed
      obtain ⟨y, hy, rfl⟩ := get_map hd1
      refine ⟨?_, fun c H0 H σ v Q a l r k' => st y (mem_get hy) c H0 H σ v Q a l r fun ρ2 H01 H1 σ1 z => k' ρ2 H01 H1 σ1 (wT_yes (ifT (wE_mono z fun yd _ ey => ?_)))⟩
      · rw [hacc1, hacc, List.length_append, lenEq, List.length_map]
        have hj : j < (ys x).length := (List.getElem?_eq_some_iff.mp hy).1
        have h1 : ((xs.take i).flatMap ys).length + (ys x).length ≤ (xs.flatMap ys).length := by
          have : ((xs.take (i + 1)).flatMap ys).length ≤ (xs.flatMap ys).length := by
            conv => rhs; rw [← List.take_append_drop (i + 1) xs, List.flatMap_append, List.length_append]
            exact Nat.le_add_right _ _
          rw [en, List.flatMap_append, List.length_append] at this
          simpa using this
        have := List.length_take_le j (ys x)
        have h2 : ((ys x).take j).length = j := by rw [List.length_take]; omega
        omega
      · show acc1 ++ [yd] = _
        rw [hacc1, ey, take_next hy, List.map_append, List.append_assoc]
        rfl
    · subst ed
      rw [hacc1, hacc, en, List.flatMap_append, List.length_map, List.take_length]
      simp
  · subst e
    rw [hacc, List.length_map, List.take_length]
    exact fin
end DL
/-! DL52: calls of defs with keywords; sum. -/
namespace DL
open PySem PySem.Spec L2
open PyProof.Rows hiding St
/-- the def x, n values by place, the others by the keywords ks -/
structure CallK (P : Program) (w : World) (K : PySem.W.Frag) (mg : Str → Option Value) (base : Heap) (x : Str) (k : Nat) (S : DSp) (n : Nat) (ks : List Str) (ix : List Nat) : Prop where
  ex : ∃ f fd ps, FnG P w K mg base k f fd ps (lift K S) ∧ mg x = some (.ref f) ∧ PySem.W.keepIn K (.ref f) = true ∧ KbG K fd ps n ks ix []
theorem k_ck {X : Cx} (K : PySem.W.Frag) {j k n : Nat} {ks : List Str} {ix : List Nat} {S : DSp} {E : XK} {x : Str} {p pos : Pos} {es : List Expr} {kws : List Keyword} {t tk : TA} (c : CallK X.prog X.w K X.mg X.base x k S n ks ix) (room : RoomG j X.A) (hj : k ≤ j) (hx : Passes (CXD X.prog X.w) X E) (ha : PA X es t) (hkw : PK X kws tk) (hg : Gl X x := by rfl)
    (hn : (backTo pos (starEach es X.env)).any (·.1) = false := by rfl) (hall : (backToKw pos (keywordEach kws X.env)).all (·.1.isSome) = true := by rfl) (hks : (backToKw pos (keywordEach kws X.env)).filterMap (·.1) = ks := by rfl) (hdb : (x == ("__debug__" : Str)) = false := by decide) (h : X.K = K := by rfl) :
    PE X (.Call (.Name x p) es kws pos) (tCallD K S n ks.length ix [] E t tk) := by
  subst h
  obtain ⟨f, fd, ps, F, hm, hk, hb⟩ := c.ex
  exact pe_fnD F (room.mono hj) hb hx hm hk ha hkw hg hn hall hks hdb
/-! ### sum of a list or a tuple of ints -/
section
variable {prog : Program} {w : World} {A : Around} {E : Value → Shared → Prop} {s : Shared} {l : Addr} {its : List Value} {ns : List Int} {Q : Value → Shared → Prop}
theorem iter_intTup {xs : Array (Int × Tok)} (hl : s.heap.IsTuple l (intItems xs))
    (h : ∀ s₂ : Shared, s₂ = { s with heap := s.heap.push { cls := .type "tuple_iterator", data := .fields #[.ref l, .int 0 0] } } →
      (s₂.heap.IsTupleIter s.heap.objs.size l 0 ∧ s₂.heap.IsTuple l (intItems xs)) → (∀ b ∈ [s.heap.objs.size, l], b < s₂.heap.objs.size) → l ≠ s.heap.objs.size → Q (.ref s.heap.objs.size) s₂) :
    wpAny (model prog w) A (pyIter (.ref l)) Q E s := by
  have hlt : l < s.heap.objs.size := by obtain ⟨_, e, _⟩ := hl; exact Heap.lt_size e
  refine wpAny_pyIter_tuple hl (h _ rfl ⟨⟨_, Heap.get?_push_size _ rfl, rfl, rfl⟩, hl.push _⟩ (fun b hb => ?_) (Nat.ne_of_lt hlt))
  show b < (s.heap.push _).objs.size
  rw [Heap.size_push]
  rcases List.mem_cons.mp hb with rfl | hb
  · exact Nat.lt_succ_self _
  · rcases List.mem_cons.mp hb with rfl | hb
    · exact Nat.lt_succ_of_lt hlt
    · cases hb
theorem old_keptT {h' : Heap} (hk : ∀ b o, b ∉ [s.heap.objs.size] → (s.heap.push { cls := .type "tuple_iterator", data := .fields #[.ref l, .int 0 0] }).get? b = some o → h'.get? b = some o) :
    ∀ b o, s.heap.get? b = some o → h'.get? b = some o := fun b o e => by
  refine hk b o (fun hm => ?_) (Heap.get?_push_of_some _ e)
  rcases List.mem_cons.mp hm with e1 | hm
  · exact absurd (e1 ▸ Heap.lt_size e) (Nat.lt_irrefl _)
  · cases hm
theorem sum_rawT (hh : A.handled = none) (hl : s.heap.IsTuple l its.toArray) (hi : IntsAre its ns)
    (h : ∀ h' tk t', (∀ b o, s.heap.get? b = some o → h'.get? b = some o) → Q (.int ns.sum t') { s with heap := h', toks := tk }) : wpAny (model prog w) A (call (.builtin "sum") [.ref l]) Q E s := by
  obtain ⟨xs, e⟩ := hi.allInts.items
  have hn : numsOf (intItems xs).toList = ns := by rw [← e]; exact hi.numsOf
  rw [nums_intItems] at hn
  rw [e] at hl
  refine call_sum_walkG (iter_intTup hl fun s₂ e st hfp hlI => ?_)
  subst e
  refine ⟨_, _, _, _, _, _, numAt xs, rfl, Walks.tuple (A := A.in1) hh _ l hlI (intItems xs), st, hfp, (fun _ _ => intItems_at), fun h' tk t' hk => ?_⟩
  have := h h' tk t' (old_keptT hk)
  rw [show (intItems xs).size = xs.size by simp [intItems], preSum_eq, List.take_of_length_le (by simp), hn]
  exact this
end
def rSumT (K : PySem.W.Frag) : List V → Hp → VK → Prop := fun vs H Q => ∃ (a : Addr) (ns : List Int), vs = [V.ref a] ∧ SqT K H a (ns.map V.int) ∧ Q (.int ns.sum) H
theorem cr_sumT {X : Cx} (hc : X.calm = true) : CallR X (.builtin "sum") (rSumT X.K) := by
  intro pins s σ H vs us Q I r h
  obtain ⟨a, ns, rfl, hs, q⟩ := h
  obtain ⟨its, rv, hl, _⟩ := I.tuple hs
  rw [Vals.ref1 r]
  exact sum_rawT (I.ok.hd hc) hl rv.ints fun h' tk t' hk => ⟨.int _, H, I.kept hk, ⟨_, rfl⟩, q⟩
def rSumA (K : PySem.W.Frag) : List V → Hp → VK → Prop := fun vs H Q => rSum K vs H Q ∨ rSumT K vs H Q
theorem k_sumA {X : Cx} (K : PySem.W.Frag) (hc : X.calm = true) (h : X.K = K := by rfl) : CallR X (.builtin "sum") (rSumA K) := h ▸ CallR.or (cr_sum hc) (cr_sumT hc)
def sumG (ds : List D) (Φ : D → Prop) : Prop := ∃ ns : List Int, (ds = [.lst (ns.map .int)] ∨ ds = [.tup (ns.map .int)]) ∧ Φ (.int ns.sum)
theorem cbd_sum {K : PySem.W.Frag} : CbD K (rSumA K) sumG := fun H0 H xs ds Φ Q e rx ⟨ns, h, q⟩ k => by
  rcases h with h | h
  · subst h
    obtain ⟨v, rfl, r⟩ := vals_one rx
    cases r with
    | lst hp hr => rw [hr.ofInts] at hp; exact .inl ⟨_, ns, rfl, .inl (.inl (e _ _ hp)), fin0 e q (.int _) k⟩
  · subst h
    obtain ⟨v, rfl, r⟩ := vals_one rx
    cases r with
    | tup hp hr => rw [hr.ofInts] at hp; exact .inr ⟨_, ns, rfl, sqT_ex e hp, fin0 e q (.int _) k⟩
theorem sumG_t {ns : List Int} {Φ : D → Prop} (q : Φ (.int ns.sum)) : sumG [.tup (ns.map .int)] Φ := ⟨ns, .inr rfl, q⟩
theorem sumG_l {ns : List Int} {Φ : D → Prop} (q : Φ (.int ns.sum)) : sumG [.lst (ns.map .int)] Φ := ⟨ns, .inl rfl, q⟩
end DL
/-! DL53: the end of a law without lambdas that needs to know of sys. -/
namespace DL
open PySem PySem.Spec L2 PySem.W
open PyProof.Rows hiding St
theorem liftT_nil {K : PySem.W.Frag} {S : DSp} {vs : List V} {H : Hp} {Q : VK} {E : XK} (h : liftT K [] S vs H Q E) : lift K S vs H Q E := by
  obtain ⟨H0, ds, Φ, Ψ, e, r, _, s, k1, k2⟩ := h
  exact ⟨H0, ds, Φ, Ψ, e, r, s, fun v d H0' H' h p r => k1 v d H0' H' h p TabA.nil r, k2⟩
theorem walk_GS {l : PySem.W.OpenLaw} {q : Program} {loose : List Str} {XP : (Str → Option Value) → Heap → Prop} {YP : World → Heap → Prop} {d : DefRec} {K : Params → PySem.W.Frag} {S : DSp} {k : Nat} (x : Str)
    (hn : l.most = some 63) (hdf : d.params.defaults = []) (room : RoomG k callerA) (himp : importsNone q = true)
    (hY : ∀ (w : World) (h : Heap), YP w h → (K w.params).In h)
    (F : ∀ (w : World) (mg : Str → Option Value) (fa : Addr) (h : Heap), (K w.params).In h → h.Ns mainGlobals mg → mg d.name = some (.ref fa) →
      ∃ fd : FuncData, (∀ (s : Shared) (u : Value), BindsTo s fd ⟨[u], []⟩ [(x, u)]) ∧
        ∀ base : Heap, (K w.params).In base → base.Ns mainGlobals mg → SysB base → FnG l.prog w (K w.params) mg base k fa fd [x] (lift (K w.params) S))
    (hS : ∀ (ns : List Int) Φ Ψ, ns.length ≤ 63 → (∀ n ∈ ns, Bd n) → Φ (.bl true) → S [.scr ns] Φ Ψ) :
    PySem.W.WalkO q loose XP YP l.row.toRowW d [] (fun f vs => PySem.call f vs) :=
  walk_GT x [] hn hdf room rfl himp hY (fun w mg fa h X G hm => by
    obtain ⟨fd, hb, hF⟩ := F w mg fa h X G hm
    exact ⟨fd, [], (fun t ht => nomatch ht), hb, fun base a b c _ => (hF base a b c).imp fun _ _ _ _ => liftT_nil⟩) hS
end DL
/-! DL54: lcm, sorted(.., reverse=True) of ints, zip of two lists. -/
namespace DL
open PySem PySem.Spec L2
open PyProof.Rows hiding St
section
variable {prog : Program} {w : World} {A : Around} {E : Value → Shared → Prop} {s : Shared} {Q : Value → Shared → Prop} {a b : Int} {t u : Tok}
theorem lcm_one (a b : Nat) : (Nat.lcm 1 a).lcm b = Nat.lcm a b := by rw [Nat.lcm_one_left]
theorem lcm_run (ha : a.natAbs < 2 ^ 1000) (hb : b.natAbs < 2 ^ 1000) (h : Q (.int ((Nat.lcm a.natAbs b.natAbs : Nat) : Int) s.toks) { s with toks := s.toks + 1 }) : wpAny (model prog w) A (call (.builtin "math.lcm") [.int a t, .int b u]) Q E s := by
  have h1 : (max 1 a.natAbs).log2 ≤ 999 := PySem.W.mg_log (by
    show max 1 a.natAbs < 2 ^ 1000
    exact Nat.max_lt.mpr ⟨Nat.one_lt_two_pow (by decide), ha⟩)
  have h2 : (max a.natAbs b.natAbs).log2 ≤ 999 := PySem.W.mg_log (by
    show max a.natAbs b.natAbs < 2 ^ 1000
    exact Nat.max_lt.mpr ⟨ha, hb⟩)
  have e := lcm_one a.natAbs b.natAbs
  have hl : Nat.lcm a.natAbs b.natAbs ≤ a.natAbs * b.natAbs := Nat.div_le_self _ _
  have hm : a.natAbs * b.natAbs < 2 ^ 2000 := by
    have := Nat.mul_lt_mul'' ha hb
    rw [← Nat.pow_add] at this
    exact this
  have hsz : ((((Nat.lcm 1 a.natAbs).lcm b.natAbs : Nat) : Int)).natAbs.log2 < bitsLine := by
    rw [e, Int.natAbs_natCast]
    have := PySem.W.mg_log (n := Nat.lcm a.natAbs b.natAbs) (k := 1999) (Nat.lt_of_le_of_lt hl hm)
    exact Nat.lt_of_le_of_lt this (by decide)
  refine PySem.call_function_meets PySem.W.MGF.kind_lcm PySem.W.MGF.plain_lcm PySem.W.MGF.entry_lcm (PySem.W.MGF.args_lcm _ _) (PySem.W.mg_run_lcm a t b u (by omega) (by omega) hsz).meets ?_
  rw [e]
  exact h
end
def rLcm : List V → Hp → VK → Prop := fun vs H Q => ∃ a b : Int, vs = [.int a, .int b] ∧ a.natAbs < 2 ^ 1000 ∧ b.natAbs < 2 ^ 1000 ∧ Q (.int ((Nat.lcm a.natAbs b.natAbs : Nat) : Int)) H
theorem k_lcm {X : Cx} : CallR X (.builtin "math.lcm") rLcm := by
  intro pins s σ H vs us Q I r h
  obtain ⟨a, b, rfl, ha, hb, q⟩ := h
  obtain ⟨t, u, rfl⟩ := Vals.int2 r
  exact lcm_run ha hb ⟨.int _, H, I.tok _, ⟨_, rfl⟩, q⟩
def lcmG (ds : List D) (Φ : D → Prop) : Prop := ∃ a b : Int, ds = [.int a, .int b] ∧ a.natAbs < 2 ^ 1000 ∧ b.natAbs < 2 ^ 1000 ∧ Φ (.int ((Nat.lcm a.natAbs b.natAbs : Nat) : Int))
theorem cbd_lcm {K : PySem.W.Frag} : CbD K rLcm lcmG := fun H0 H xs ds Φ Q e rx ⟨a, b, h, ha, hb, q⟩ k => by
  subst h
  obtain ⟨v, c, rfl, r1, r2⟩ := vals_two rx
  cases r1
  cases r2
  exact ⟨a, b, rfl, ha, hb, fin0 e q (.int _) k⟩
theorem k_sortedRev {X : Cx} (K : PySem.W.Frag) (h : X.K = K := by rfl) : CallRK X (.builtin "sorted") [Str.ofString "reverse"] (rSortedKw K true [.bl true]) := h ▸ cr_sortedRev
theorem wE_sortRev {w : Wx} {ρ : Env'} {Φ : D → Env' → Prop} {t tk : TA} (h : wA w t ρ fun ds ρ1 => wA w tk ρ1 fun es ρ2 => es = [.bl true] ∧ ∃ ns : List Int, ds = [.lst (ns.map .int)] ∧ ∀ ns' : List Int, ns'.Perm ns → ns'.Pairwise (· ≥ ·) → Φ (.lst (ns'.map .int)) ρ2) :
    wE w (tCKw (rSortedKw w.K true [.bl true]) t tk) ρ Φ := fun c H0 H σ Q a x k =>
  h c H0 H σ _ a x fun vs ds ρ1 H01 H1 h1 a1 e1 r1 => h1 c H01 H1 σ _ a1 x fun zs es ρ2 H02 H2 ⟨ee, ns, ed, q⟩ a2 e2 r2 => by
    subst ee ed
    obtain ⟨v, rfl, r⟩ := vals_one r1
    obtain ⟨z, rfl, rz⟩ := vals_one r2
    cases rz
    cases r with
    | lst hp hr =>
      rw [hr.ofInts] at hp
      refine ⟨_, ns, rfl, rfl, .inl (.inl (a2.px.i _ _ (e2 _ _ hp))), fun ns' p h1 h2 hn => ?_⟩
      have y2 : PX ⟨H2, H02, []⟩ (upd H02 p (.lst (ns'.map V.int))) (upd H2 p (.lst (ns'.map V.int))) := (PX.refl a2.px.i).new hn
      exact k _ _ ρ2 _ _ (q ns' h1 h2) (a2.go y2) ((e1.trans e2).trans y2.e0) (.lst upd_same (RepAll.ints ns'))
theorem wI_zipL {w : Wx} {ρ : Env'} {ta : TA} {Φ : List D → Env' → Prop} (h : wA w ta ρ fun ds ρ1 => ∃ l1 l2, ds = [.lst l1, .lst l2] ∧ Φ (zipD l1 l2) ρ1) : wI w (RZ.iZipA w.K ta) ρ Φ := fun c H0 H σ R a x k =>
  h c H0 H σ _ a x fun vs ds ρ1 H01 H1 ⟨l1, l2, e, q⟩ a1 e1 r1 => by
    subst e
    cases r1 with
    | cons r rs =>
      cases rs with
      | cons r' rs =>
        cases rs
        cases r with
        | lst hp hr =>
          cases r' with
          | lst hp' hr' =>
            have hl : (zipD l1 l2).length = min l1.length l2.length := List.length_zipWith
            have sq : ∀ {H : Hp} {p : Addr} {us : List V}, H p = some (.lst us) → SqL w.K H p us := fun h => .inl (.inl h)
            refine ⟨_, _, _, _, rfl, .inl ⟨sq (a1.px.i _ _ hp), sq (a1.px.i _ _ hp'), k _ _ ρ1 H01 H1 q a1 e1 (fun i Ha Hb e j lt => ?_) (fun Ha Hb e j => ⟨_, _, sq ((e.trans j) _ _ hp), sq ((e.trans j) _ _ hp'), ?_⟩) (fun i Ha Hb x Hc e j lt y => ?_)⟩⟩
            · have h1 := hr.length
              have h2 := hr'.length
              exact ⟨_, _, _, _, sq ((e.trans j) _ _ hp), sq ((e.trans j) _ _ hp'), List.getElem?_eq_getElem (by omega), List.getElem?_eq_getElem (by omega)⟩
            · rw [hl, hr.length, hr'.length]; omega
            · obtain ⟨T, xv, yv, y1, y2, y3, y4, y5⟩ := y
              subst y1 y3
              obtain ⟨d, g1, g2⟩ := hr.getV (y4 _ (sq ((e.trans j) _ _ hp)))
              obtain ⟨d', g1', g2'⟩ := hr'.getV (y5 _ (sq ((e.trans j) _ _ hp')))
              have nx := (PX.refl (T := []) j).new (o := .tup [xv, yv]) y2
              refine ⟨.tup [d, d'], _, ?_, nx, .tup (.inl (.inl upd_same)) (.cons (g2.mono (e.trans nx.e0)) (.cons (g2'.mono (e.trans nx.e0)) .nil))⟩
              unfold zipD
              rw [List.getElem?_zipWith, g1, g1']
end DL
/-! DL55: a module's constant that is a tuple. -/
namespace DL
open PySem PySem.Spec L2
open PyProof.Rows hiding St
structure GTup (K : PySem.W.Frag) (mg : Str → Option Value) (x : Str) (a : Addr) (xs : List V) : Prop where
  m : mg x = some (.ref a)
  t : ∃ (o : Obj) (its : Array Value) (n : Nat), K.lookup a = some o ∧ o.cls = .type "tuple" ∧ o.data = .seq its n ∧ its.size ≤ sizeLine ∧ Vals xs its.toList
def tGT (a : Addr) : TE := tC (.ref a)
theorem pe_gt {X : Cx} {x : Str} {pos : Pos} {K : PySem.W.Frag} {a : Addr} {xs : List V} (c : GTup K X.mg x a xs) (hg : Gl X x := by rfl) (hd : (x == ("__debug__" : Str)) = false := by decide) : PE X (.Name x pos) (tGT a) := pe_glob hg c.m rfl hd
theorem wE_gt {w : Wx} {K : PySem.W.Frag} {mg : Str → Option Value} {x : Str} {a : Addr} {xs : List V} {ds : List D} {Φ : D → Env' → Prop} {ρ : Env'} (c : GTup K mg x a xs) (r : ∀ H, RepAll K H xs ds) (q : Φ (.tup ds) ρ) (hK : w.K = K := by rfl) : wE w (tGT a) ρ Φ := by
  subst hK
  exact fun _ H0 H _ _ ha _ k => k _ _ ρ H0 H q ha (.refl _) (.tup (.inr c.t) (r H0))
end DL
/-! DL56: x in t, t a tuple of plain data. -/
namespace DL
open PySem PySem.Spec L2
open PyProof.Rows hiding St
section
variable {X : Cx} {K : PySem.W.Frag}
def rInT (K : PySem.W.Frag) : R2 := fun x y H Q => ∃ d ds, Dp K H x d ∧ Dp K H y (.tuple ds) ∧ SeqAt.shaped d = true ∧ SeqAt.shaped (.tuple ds) = true ∧ Q (.bl (ds.any fun z => PyData.eqv z d)) H
theorem op_inT (hu : X.A.units + 65 < cLine) : OpR X (compareOp .In) (rInT X.K) := by
  intro pins s σ H x y v u Q I rx ry h
  obtain ⟨d, ds, hd, he, sd, se, q⟩ := h
  obtain ⟨as, r1⟩ := Dp.reads I d x v hd rx
  obtain ⟨bs, r2⟩ := Dp.reads I (.tuple ds) y u he ry
  exact SeqAt.in_tuple_reads r2 r1 (SeqAt.canLay_of_shaped se) (SeqAt.canLay_of_shaped sd) (room_in_shaped sd hu) ⟨.bl _, H, I, rfl, q⟩
theorem k_inT (K : PySem.W.Frag) {k : Nat} (r : RoomG k X.A) (h : X.K = K := by rfl) : OpR X (compareOp .In) (rInT K) := h ▸ op_inT (hu65 r)
def inTG (x y : D) (Φ : D → Prop) : Prop := ∃ l, y = .tup l ∧ Shp 64 x ∧ Shp 64 (.tup l) ∧ Φ (.bl (l.any fun z => D.eqv z x))
theorem any_py {p : PyData → Bool} : ∀ l : List D, (pyAll l).any p = l.any fun z => p z.py
  | [] => rfl
  | d :: l => by simp only [pyAll, List.any_cons, any_py l]
theorem opd_inT : OpD K (rInT K) inTG := fun H0 H x y dx dy Φ Q e rx ry ⟨l, hy, sx, sy, g⟩ k => by
  subst hy
  refine ⟨dx.py, pyAll l, dp_of e rx sx.p, dp_of e ry sy.p, sx.shaped (Nat.le_refl _), sy.shaped (Nat.le_refl _), ?_⟩
  rw [any_py]
  exact fin0 e g (.bl _) k
theorem eqvAll_ints : ∀ a b : List Int, PyData.eqvAll (pyAll (a.map D.int)) (pyAll (b.map D.int)) = decide (a = b)
  | [], [] => by simp [pyAll, PyData.eqvAll]
  | [], _ :: _ => by simp [pyAll, PyData.eqvAll]
  | _ :: _, [] => by simp [pyAll, PyData.eqvAll]
  | x :: a, y :: b => by
    have ih := eqvAll_ints a b
    have e := eqv_i (a := x) (c := y)
    unfold D.eqv at e
    rw [List.map_cons, List.map_cons]
    simp only [pyAll, PyData.eqvAll, ih, e]
    rw [Bool.eq_iff_iff]
    simp
theorem eqv_ints (a b : List Int) : D.eqv (.tup (a.map D.int)) (.tup (b.map D.int)) = decide (a = b) := by
  unfold D.eqv
  simp only [D.py, PyData.eqv]
  exact eqvAll_ints a b
theorem shp_ints (a : List Int) : Shp 63 (.tup (a.map D.int)) := Shp.tup (n := 62) fun d hd => by
  obtain ⟨x, _, rfl⟩ := List.mem_map.mp hd
  exact Shp.int
theorem inTG_ints {t : List Int} {l : List (List Int)} {Φ : D → Prop} (h : Φ (.bl (decide (t ∈ l)))) : inTG (.tup (t.map D.int)) (.tup (l.map fun t => .tup (t.map D.int))) Φ := by
  refine ⟨_, rfl, (shp_ints t).mono (by decide), Shp.tup (n := 63) fun d hd => ?_, ?_⟩
  · obtain ⟨x, _, rfl⟩ := List.mem_map.mp hd
    exact shp_ints x
  · rw [show ((l.map fun t => D.tup (t.map D.int)).any fun z => D.eqv z (.tup (t.map D.int))) = decide (t ∈ l) by
      rw [List.any_map, Bool.eq_iff_iff, List.any_eq_true, decide_eq_true_eq]
      constructor
      · rintro ⟨x, hx, h⟩
        have h : D.eqv (.tup (x.map D.int)) (.tup (t.map D.int)) = true := h
        rw [eqv_ints, decide_eq_true_eq] at h
        rw [← h]; exact hx
      · intro h
        exact ⟨t, h, by show D.eqv (.tup (t.map D.int)) (.tup (t.map D.int)) = true; rw [eqv_ints, decide_eq_true rfl]⟩]
    exact h
end
end DL
/-! DL57: gcd; fractions in lowest terms. -/
namespace DL
open PySem PySem.Spec L2
open PyProof.Rows hiding St
theorem k_gcd {X : Cx} : CallR X (.builtin "math.gcd") rGcd := cr_gcd
def gcdG (ds : List D) (Φ : D → Prop) : Prop := ∃ a b : Int, ds = [.int a, .int b] ∧ Φ (.int ((Nat.gcd a.natAbs b.natAbs : Nat) : Int))
theorem cbd_gcd {K : PySem.W.Frag} : CbD K rGcd gcdG := fun H0 H xs ds Φ Q e rx ⟨a, b, h, q⟩ k => by
  subst h
  obtain ⟨v, c, rfl, r1, r2⟩ := vals_two rx
  cases r1
  cases r2
  exact ⟨a, b, rfl, fin0 e q (.int _) k⟩
def fracI (p : Int × Int) : Int × Int := (p.1 / (Nat.gcd p.1.natAbs p.2.natAbs : Nat), p.2 / (Nat.gcd p.1.natAbs p.2.natAbs : Nat))
theorem frac_nat {a b c d : Nat} (hb : 0 < b) (hd : 0 < d) (h : a * d = c * b) : a / Nat.gcd a b = c / Nat.gcd c d ∧ b / Nat.gcd a b = d / Nat.gcd c d := by
  have g1 : 0 < Nat.gcd a b := Nat.gcd_pos_of_pos_right _ hb
  have g2 : 0 < Nat.gcd c d := Nat.gcd_pos_of_pos_right _ hd
  obtain ⟨x, hx⟩ := Nat.gcd_dvd_left a b
  obtain ⟨y, hy⟩ := Nat.gcd_dvd_right a b
  obtain ⟨u, hu⟩ := Nat.gcd_dvd_left c d
  obtain ⟨v, hv⟩ := Nat.gcd_dvd_right c d
  have co1 := Nat.coprime_div_gcd_div_gcd g1
  have co2 := Nat.coprime_div_gcd_div_gcd g2
  have ex : a / Nat.gcd a b = x := by conv => lhs; arg 1; rw [hx]
                                      exact Nat.mul_div_cancel_left _ g1
  have ey : b / Nat.gcd a b = y := by conv => lhs; arg 1; rw [hy]
                                      exact Nat.mul_div_cancel_left _ g1
  have eu : c / Nat.gcd c d = u := by conv => lhs; arg 1; rw [hu]
                                      exact Nat.mul_div_cancel_left _ g2
  have ev : d / Nat.gcd c d = v := by conv => lhs; arg 1; rw [hv]
                                      exact Nat.mul_div_cancel_left _ g2
  rw [ex, ey] at co1
  rw [eu, ev] at co2
  rw [ex, ey, eu, ev]
  generalize Nat.gcd a b = g at *
  generalize Nat.gcd c d = k at *
  subst hx hy hu hv
  have h2 : x * v = u * y := by
    have e1 : g * x * (k * v) = (g * k) * (x * v) := by simp only [Nat.mul_assoc, Nat.mul_comm, Nat.mul_left_comm]
    have e2 : k * u * (g * y) = (g * k) * (u * y) := by simp only [Nat.mul_assoc, Nat.mul_comm, Nat.mul_left_comm]
    rw [e1, e2] at h
    exact Nat.eq_of_mul_eq_mul_left (Nat.mul_pos g1 g2) h
  have vy : v ∣ y := co2.symm.dvd_of_dvd_mul_left (by rw [← h2]; exact Nat.dvd_mul_left _ _)
  have yv : y ∣ v := co1.symm.dvd_of_dvd_mul_left (by rw [h2]; exact Nat.dvd_mul_left _ _)
  have e : y = v := Nat.dvd_antisymm yv vy
  subst e
  have y0 : 0 < y := Nat.pos_of_mul_pos_left hb
  exact ⟨Nat.eq_of_mul_eq_mul_right y0 h2, rfl⟩
theorem frac_eq {p q : Int × Int} (p1 : 0 ≤ p.1) (p2 : 1 ≤ p.2) (q1 : 0 ≤ q.1) (q2 : 1 ≤ q.2) (h : p.1 * q.2 = q.1 * p.2) : fracI p = fracI q := by
  obtain ⟨a, b⟩ := p
  obtain ⟨c, d⟩ := q
  obtain ⟨a, rfl⟩ := Int.eq_ofNat_of_zero_le p1
  obtain ⟨b, rfl⟩ := Int.eq_ofNat_of_zero_le (show 0 ≤ b by simp at p2; omega)
  obtain ⟨c, rfl⟩ := Int.eq_ofNat_of_zero_le q1
  obtain ⟨d, rfl⟩ := Int.eq_ofNat_of_zero_le (show 0 ≤ d by simp at q2; omega)
  have h' : a * d = c * b := by
    have h : (a : Int) * d = c * b := h
    exact_mod_cast h
  have p2 : (1 : Int) ≤ (b : Int) := p2
  have q2 : (1 : Int) ≤ (d : Int) := q2
  obtain ⟨e1, e2⟩ := frac_nat (by omega) (by omega) h'
  unfold fracI
  simp only [Int.natAbs_natCast]
  rw [← Int.natCast_ediv, ← Int.natCast_ediv, ← Int.natCast_ediv, ← Int.natCast_ediv, e1, e2]
end DL
/-! DL58: min, max of a list of ints. -/
namespace DL
open PySem PySem.Spec L2
open PyProof.Rows hiding St
theorem k_minL {X : Cx} (K : PySem.W.Frag) (hc : X.calm = true) (h : X.K = K := by rfl) : CallR X (.builtin "min") (rMin K) := h ▸ cr_min hc
theorem k_maxL {X : Cx} (K : PySem.W.Frag) (hc : X.calm = true) (h : X.K = K := by rfl) : CallR X (.builtin "max") (rMax K) := h ▸ cr_max hc
def minLG (ds : List D) (Φ : D → Prop) : Prop := ∃ ns : List Int, ds = [.lst (ns.map .int)] ∧ 0 < ns.length ∧ ∀ m ∈ ns, (∀ y ∈ ns, m ≤ y) → Φ (.int m)
def maxLG (ds : List D) (Φ : D → Prop) : Prop := ∃ ns : List Int, ds = [.lst (ns.map .int)] ∧ 0 < ns.length ∧ ∀ m ∈ ns, (∀ y ∈ ns, y ≤ m) → Φ (.int m)
theorem cbd_minL {K : PySem.W.Frag} : CbD K (rMin K) minLG := fun H0 H xs ds Φ Q e rx ⟨ns, h, hl, q⟩ k => by
  subst h
  obtain ⟨v, rfl, r⟩ := vals_one rx
  cases r with
  | lst hp hr => rw [hr.ofInts] at hp; exact ⟨_, ns, rfl, .inl (.inl (e _ _ hp)), hl, fun m hm hle => fin0 e (q m hm hle) (.int _) k⟩
theorem cbd_maxL {K : PySem.W.Frag} : CbD K (rMax K) maxLG := fun H0 H xs ds Φ Q e rx ⟨ns, h, hl, q⟩ k => by
  subst h
  obtain ⟨v, rfl, r⟩ := vals_one rx
  cases r with
  | lst hp hr => rw [hr.ofInts] at hp; exact ⟨_, ns, rfl, .inl (.inl (e _ _ hp)), hl, fun m hm hle => fin0 e (q m hm hle) (.int _) k⟩
theorem minLG_i {ns : List Int} {Φ : D → Prop} (hl : 0 < ns.length) (h : ∀ m ∈ ns, (∀ y ∈ ns, m ≤ y) → Φ (.int m)) : minLG [.lst (ns.map .int)] Φ := ⟨ns, rfl, hl, h⟩
theorem maxLG_i {ns : List Int} {Φ : D → Prop} (hl : 0 < ns.length) (h : ∀ m ∈ ns, (∀ y ∈ ns, y ≤ m) → Φ (.int m)) : maxLG [.lst (ns.map .int)] Φ := ⟨ns, rfl, hl, h⟩
end DL
/-! DL59: sorted(list of tuples of ints); a, b = list(range(n)), []. -/
namespace DL
open PySem PySem.Spec L2
open PyProof.Rows hiding St
def rSortTT (K : PySem.W.Frag) : List V → Hp → VK → Prop := fun vs H Q => ∃ (d : Nat) (B : Int), 1 ≤ d ∧ rSortU K d B vs H Q
theorem k_sortTT {X : Cx} (K : PySem.W.Frag) (h : X.K = K := by rfl) : CallR X (.builtin "sorted") (rSortTT K) := h ▸ fun pins s σ H vs us Q I r ⟨d, B, hd, h⟩ => cr_sortT hd pins s σ H vs us Q I r h
def itD (t : List Int) : D := .tup (t.map D.int)
def sortTG (ds : List D) (Φ : D → Prop) : Prop := ∃ (ts : List (List Int)) (d : Nat) (B : Int), ds = [.lst (ts.map itD)] ∧ 1 ≤ d ∧ ts.length < 64 ∧ (∀ t ∈ ts, t.length = d ∧ TS.Bd B t) ∧
  ∀ us : List (List Int), us.Perm ts → us.Pairwise (fun a b => TS.code B a ≤ TS.code B b) → Φ (.lst (us.map itD))
theorem perm_lift {α β : Type} {f : α → β} {ys zs : List β} (h : ys.Perm zs) : ∀ L : List α, zs = L.map f → ∃ L' : List α, L'.Perm L ∧ L'.map f = ys := by
  induction h with
  | nil =>
    intro L e
    exact ⟨L, .refl _, e.symm⟩
  | cons x h ih =>
    intro L e
    match L, e with
    | a :: L, e =>
      rw [List.map_cons, List.cons.injEq] at e
      obtain ⟨L', p, q⟩ := ih L e.2
      exact ⟨a :: L', p.cons a, by rw [List.map_cons, q, e.1]⟩
  | swap x y l =>
    intro L e
    match L, e with
    | a :: b :: L, e =>
      rw [List.map_cons, List.map_cons, List.cons.injEq, List.cons.injEq] at e
      exact ⟨b :: a :: L, .swap a b L, by rw [List.map_cons, List.map_cons, ← e.1, ← e.2.1, ← e.2.2]⟩
  | trans h1 h2 ih1 ih2 =>
    intro L e
    obtain ⟨L2, p2, q2⟩ := ih2 L e
    obtain ⟨L1, p1, q1⟩ := ih1 L2 q2.symm
    exact ⟨L1, p1.trans p2, q1⟩
theorem rep_pairs {K : PySem.W.Frag} {H : Hp} : ∀ {vs : List V} {ts : List (List Int)}, RepAll K H vs (ts.map itD) → ∃ L : List (V × List Int), L.map (·.1) = vs ∧ L.map (·.2) = ts ∧ ∀ p ∈ L, Rep K H p.1 (itD p.2)
  | _, [], .nil => ⟨[], rfl, rfl, fun p hp => by cases hp⟩
  | _, t :: ts, .cons (v := v) h hs => by
    obtain ⟨L, e1, e2, r⟩ := rep_pairs hs
    refine ⟨(v, t) :: L, by rw [List.map_cons, e1], by rw [List.map_cons, e2], fun p hp => ?_⟩
    rcases List.mem_cons.mp hp with rfl | hp
    · exact h
    · exact r p hp
theorem pairs_rep {K : PySem.W.Frag} {H : Hp} : ∀ {L : List (V × List Int)}, (∀ p ∈ L, Rep K H p.1 (itD p.2)) → RepAll K H (L.map (·.1)) ((L.map (·.2)).map itD)
  | [], _ => .nil
  | p :: L, h => .cons (h p List.mem_cons_self) (pairs_rep fun q hq => h q (List.mem_cons_of_mem _ hq))
theorem rep_tupI {K : PySem.W.Frag} {H : Hp} {v : V} {t : List Int} (r : Rep K H v (itD t)) : TupI K H v t := by
  unfold itD at r
  cases r with
  | tup hs hr => rw [hr.ofInts] at hs; exact ⟨_, rfl, hs⟩
theorem cbd_sortT {K : PySem.W.Frag} : CbD K (rSortTT K) sortTG := fun H0 H xs ds Φ Q e rx ⟨ts, d, B, h, hd, h64, hb, q⟩ k => by
  subst h
  obtain ⟨v, rfl, r⟩ := vals_one rx
  cases r with
  | lst hp hr =>
    obtain ⟨L, e1, e2, rL⟩ := rep_pairs hr
    subst e1 e2
    have up : ∀ p ∈ L, TupI K H p.1 p.2 := fun p hp => rep_tupI ((rL p hp).mono e)
    refine ⟨d, B, hd, _, L.map (·.1), rfl, .inl (.inl (e _ _ hp)), by rw [List.length_map] at h64 ⊢; exact h64, fun x hx => ?_, fun ys p hy hw hn => ?_⟩
    · obtain ⟨y, hy, rfl⟩ := List.mem_map.mp hx
      have := hb y.2 (List.mem_map_of_mem hy)
      exact ⟨y.2, up y hy, this.1, this.2⟩
    · obtain ⟨L', pL, eL⟩ := perm_lift (f := fun x : V × List Int => x.1) hy L rfl
      subst eL
      have rL' : ∀ p ∈ L', Rep K H0 p.1 (itD p.2) := fun p hp => rL p (pL.mem_iff.mp hp)
      refine finL e (q (L'.map (·.2)) (pL.map _) ?_) (pairs_rep rL') k p hn
      rw [List.pairwise_map] at hw ⊢
      exact hw.imp_of_mem fun {a b} ha hb h => h a.2 b.2 (up a (pL.mem_iff.mp ha)) (up b (pL.mem_iff.mp hb))
/-- a, b = list(range(n)), [] -/
theorem wS_parRgOwn {w : Wx} {E : DE} {ρ : Env'} {i j : Nat} {ta : TE} (h : wE w ta ρ fun d ρ1 => ∃ n : Nat, d = .int (n : Int) ∧ n ≤ 1000000 ∧ E.nx ((ρ1.set i (some (.own none (.lst ((List.range n).map fun k : Nat => D.int (k : Int)))))).set j (some (.own none (.lst []))))) :
    wS w (tPar i j (tCons (tLstRg (tRg1 ta)) (tCons (tLst tNil) tNil))) E ρ := fun c Dn H0 H σ a x l =>
  h c H0 H σ _ a x fun v d ρ1 H01 H1 ⟨n, ed, hn, q⟩ a1 e1 r1 => by
    subst ed
    cases r1
    have ev : rgV 0 (n : Int) = ((List.range n).map fun k : Nat => (k : Int)).map V.int := by
      unfold rgV
      rw [List.map_map, show ((n : Int) - 0).toNat = n by omega]
      refine List.map_congr_left fun k _ => ?_
      show V.int (0 + (k : Int)) = V.int (k : Int)
      rw [Int.zero_add]
    have e2 : ((List.range n).map fun k : Nat => D.int (k : Int)) = ((List.range n).map fun k : Nat => (k : Int)).map D.int := by rw [List.map_map]; rfl
    refine ⟨_, rfl, RgOk.of_le (Int.le_refl _) (by omega) (by decide) (by omega), fun p hp => ⟨Nat.zero_le _, fun p' hp' => ⟨_, _, rfl, l.nx _ _ _ _ q ((a1.setOwn hp (.lst (by rw [ev, e2]; exact RepAll.ints _)) i).setOwn hp' (.lst .nil) j)⟩⟩⟩
/-- the same, where a block reads one of the names -/
theorem wS_asgRgOwn {w : Wx} {E : DE} {ρ : Env'} {i j : Nat} {ta : TE} (h : wE w ta ρ fun d ρ1 => ∃ n : Nat, d = .int (n : Int) ∧ n ≤ 1000000 ∧ E.nx ((ρ1.set i (some (.own none (.lst ((List.range n).map fun k : Nat => D.int (k : Int)))))).set j (some (.own none (.lst []))))) :
    wS w (tAsg (tTup (tCons (tLstRg (tRg1 ta)) (tCons (tLst tNil) tNil))) (gTup w.K 2 (gCons (gName i) (gCons (gName j) gNil)))) E ρ := fun c Dn H0 H σ a x l =>
  h c H0 H σ _ a x fun v d ρ1 H01 H1 ⟨n, ed, hn, q⟩ a1 e1 r1 => by
    subst ed
    cases r1
    have ev : rgV 0 (n : Int) = ((List.range n).map fun k : Nat => (k : Int)).map V.int := by
      unfold rgV
      rw [List.map_map, show ((n : Int) - 0).toNat = n by omega]
      refine List.map_congr_left fun k _ => ?_
      show V.int (0 + (k : Int)) = V.int (k : Int)
      rw [Int.zero_add]
    have e2 : ((List.range n).map fun k : Nat => D.int (k : Int)) = ((List.range n).map fun k : Nat => (k : Int)).map D.int := by rw [List.map_map]; rfl
    refine ⟨_, rfl, RgOk.of_le (Int.le_refl _) (by omega) (by decide) (by omega), fun p hp => ⟨Nat.zero_le _, fun p' hp' => ⟨by rw [sizeLine_eq]; exact Nat.le_of_ble_eq_true rfl, fun t ht => ?_⟩⟩⟩
    have r : RepAll w.K H01 (rgV 0 (n : Int)) ((List.range n).map fun k : Nat => D.int (k : Int)) := by rw [ev, e2]; exact RepAll.ints _
    have b := (a1.setOwn hp (.lst r) i).setOwn hp' (.lst .nil) j
    have y := (PX.refl (T := []) b.px.i).new (o := .tup [.ref p, .ref p']) ht
    exact ⟨t, _, rfl, .inl (.inl upd_same), rfl, _, _, rfl, _, _, rfl, rfl, l.nx _ _ _ _ q (b.go y)⟩
end DL
/-! DL60: while; dicts whose keys are ints: comprehensions, d[i]. -/
namespace DL
open PySem PySem.Spec L2
open PyProof.Rows hiding St
theorem wS_while {w : Wx} {E : DE} {ρ : Env'} {tc : TT} {tb : TS} (I : Nat → Env' → Prop) (h0 : ∃ m, I m ρ)
    (step : ∀ m ρ, I m ρ → wT w tc ρ fun b ρ1 => if b = true then wS w tb { nx := fun ρ' => ∃ m', m' < m ∧ I m' ρ', ct := fun ρ' => ∃ m', m' < m ∧ I m' ρ', bk := E.nx, rt := E.rt, ro := E.ro } ρ1 else E.nx ρ1) : wS w (tWhile tc tb) E ρ := fun c Dn H0 H σ a x l => by
  obtain ⟨m0, i0⟩ := h0
  refine ⟨fun m σ H => ∃ ρ H0, I m ρ ∧ At w.K c ρ H0 H σ, ⟨m0, ρ, H0, i0, a⟩, fun m σ H ⟨ρ, H0, hI, a⟩ => step m ρ hI c H0 H σ _ a x fun b ρ1 H01 H1 q a1 e1 => ?_⟩
  cases b with
  | false =>
    rw [if_neg Bool.false_ne_true] at q ⊢
    exact l.nx _ _ _ _ q a1
  | true =>
    rw [if_pos rfl] at q ⊢
    exact ⟨fun σ' H' => ∃ m', m' < m ∧ ∃ ρ' H0', I m' ρ' ∧ At w.K c ρ' H0' H' σ', fun σ' H' ⟨m', l, r⟩ => ⟨m', l, r⟩, q c _ H01 H1 σ a1 x ⟨fun ρ' H0' H' σ' ⟨m', lt, i⟩ a' => ⟨m', lt, ρ', H0', i, a'⟩, l.rt, l.ro, l.nx, fun ρ' H0' H' σ' ⟨m', lt, i⟩ a' => ⟨m', lt, ρ', H0', i, a'⟩⟩⟩
theorem RepIV.append {K : PySem.W.Frag} {H : Hp} : ∀ {vs ws : List (Int × V)} {ds es : List (Int × D)}, RepIV K H vs ds → RepIV K H ws es → RepIV K H (vs ++ ws) (ds ++ es)
  | _, _, _, _, .nil, h => h
  | _, _, _, _, .cons h hs, h' => .cons h (hs.append h')
theorem RepIV.length {K : PySem.W.Frag} {H : Hp} : ∀ {vs : List (Int × V)} {ds : List (Int × D)}, RepIV K H vs ds → vs.length = ds.length
  | _, _, .nil => rfl
  | _, _, .cons _ h => by simp [h.length]
theorem RepIV.keys {K : PySem.W.Frag} {H : Hp} : ∀ {vs : List (Int × V)} {ds : List (Int × D)}, RepIV K H vs ds → vs.map (·.1) = ds.map (·.1)
  | _, _, .nil => rfl
  | _, _, .cons _ h => by simp [h.keys]
theorem RepIV.lookup {K : PySem.W.Frag} {H : Hp} {i : Int} : ∀ {vs : List (Int × V)} {ds : List (Int × D)} {z : D}, RepIV K H vs ds → ds.lookup i = some z → ∃ v, valV (vs.map fun p => ((Sum.inl p.1 : Key), p.2)) (Sum.inl i) = some v ∧ Rep K H v z
  | _, _, _, .nil, e => by simp at e
  | _, _, z, .cons (k := k) (v := v) h hs, e => by
    rw [List.lookup_cons] at e
    by_cases q : i = k
    · subst q
      rw [beq_self_eq_true] at e
      cases e
      exact ⟨v, by unfold valV; rw [List.map_cons, List.find?_cons_of_pos (by simp)]; rfl, h⟩
    · rw [beq_eq_false_iff_ne.mpr q] at e
      obtain ⟨u, h1, h2⟩ := hs.lookup e
      refine ⟨u, ?_, h2⟩
      unfold valV at h1 ⊢
      rw [List.map_cons, List.find?_cons_of_neg (by simp; exact fun z => q z.symm)]
      exact h1
/-- d[i] -/
theorem wE_dgetI {w : Wx} {ρ : Env'} {Φ : D → Env' → Prop} {td ty : TE} (h : wE w td ρ fun d ρ1 => wE w ty ρ1 fun y ρ2 => ∃ l i z, d = .dik l ∧ y = .int i ∧ l.lookup i = some z ∧ Φ z ρ2) : wE w (tDGet td ty) ρ Φ := fun c H0 H σ Q a x k =>
  h c H0 H σ _ a x fun v d ρ1 H01 H1 h1 a1 e1 r1 => h1 c H01 H1 σ _ a1 x fun u y ρ2 H02 H2 ⟨l, i, z, ed, ey, hl, q⟩ a2 e2 r2 => by
    subst ed ey
    cases r2
    cases r1 with
    | dik hp hr =>
      obtain ⟨v, h1, h2⟩ := hr.lookup hl
      refine ⟨_, v, rfl, .inl ⟨_, Sum.inl i, .inl (a2.px.i _ _ (e2 _ _ hp)), rfl, h1.symm⟩, k v z ρ2 H02 H2 q a2 (e1.trans e2) (h2.mono e2)⟩
theorem ExN.dk {T : List (Addr × Str)} {H H' : Hp} {a : Addr} {us : List (Key × V)} (x : ExN T H H') (h : H a = some (.dK us)) : H' a = some (.dK us) := (x a _ h).elim id fun ⟨_, _, _, e, _⟩ => nomatch e
theorem putK_new {us : List (Int × V)} {k : Int} {v : V} (h : k ∉ us.map (·.1)) : putK (us.map fun p => ((Sum.inl p.1 : Key), p.2)) (Sum.inl k) v = (us ++ [(k, v)]).map fun p => ((Sum.inl p.1 : Key), p.2) := by
  unfold putK
  rw [if_neg, List.map_append]
  · rfl
  · rw [List.any_eq_true]
    rintro ⟨x, hx, e⟩
    obtain ⟨y, hy, rfl⟩ := List.mem_map.mp hx
    rw [decide_eq_true_eq] at e
    exact h (List.mem_map.mpr ⟨y, hy, Sum.inl.inj e⟩)
/-- {k x: v x for x in xs}, keys ints, each once -/
theorem wE_dcM {α : Type} {w : Wx} {ρ : Env'} {Φ : D → Env' → Prop} {wi : TI} {g : TG} {tk tv : TE} {vs : List Nat} (hon : Only g vs) (f : α → D) (kf : α → Int) (vf : α → D)
    (h : wI w wi ρ fun ds ρ1 => ∃ xs : List α, ds = xs.map f ∧ xs.length ≤ 1000000 ∧ (xs.map kf).Nodup ∧ (∀ x ∈ xs, wG w.quiet g (f x) (wipeE (hide ρ1) vs) fun ρ2 => wE w.quiet tk ρ2 fun y ρ3 => y = .int (kf x) ∧ wE w.quiet tv ρ3 fun z _ => z = vf x) ∧
      Φ (.dik (xs.map fun x => (kf x, vf x))) ρ1) : wE w (tDc wi g tYes tk tv vs) ρ Φ := fun c H0 H σ Q a x k => by
  refine h c H0 H σ _ a x fun J ds ρ1 H01 H1 ⟨xs, eds, hz, hnd, step, done⟩ a1 e1 go stop yld => ?_
  subst eds
  rw [List.length_map] at go stop
  intro Dl hD
  have hD0 : H01 Dl = none := a1.px.i.back hD
  let dk : List (Int × V) → HO := fun us => .dK (us.map fun p => ((Sum.inl p.1 : Key), p.2))
  refine ⟨fun i m H' => m = xs.length - i ∧ i ≤ xs.length ∧ ∃ H0' us, PX ⟨H1, H01, c.T⟩ H0' H' ∧ TabA c.T H0' H' ∧ H' Dl = some (dk us) ∧ H0' Dl = none ∧ RepIV w.K H0' us ((xs.take i).map fun x => (kf x, vf x)),
    ⟨_, rfl, Nat.zero_le _, H01, [], (PX.refl a1.px.i).change hD0 hD, a1.tab.keep (ext_both (Ex.new hD)) (fun _ h _ => h), upd_same, hD0, .nil⟩, ?_⟩
  rintro i m H' ⟨rfl, hi, H0', us, p, tb, hl, h0, r⟩
  have known : ∀ {H : Hp} {us : List (Int × V)}, H Dl = some (dk us) → H Dl ≠ none := fun e z => by rw [e] at z; cases z
  have tabD : ∀ {H : Hp} {us : List (Int × V)} {us' : List (Key × V)}, H Dl = some (dk us) → ∀ b o, H b = some o → (∀ xs, o ≠ .lst xs) → (∀ xs, o ≠ .dK xs) → (∀ C dx xs, o ≠ .ins C dx xs) → upd H Dl (.dK us') b = some o := fun {H us us'} e b o hb _ n2 _ => by
    have hne : b ≠ Dl := fun z => by
      rw [z, e] at hb
      cases hb
      exact n2 _ rfl
    exact (upd_ne hne).trans hb
  by_cases hlt : i < xs.length
  · have hx := List.getElem?_eq_getElem hlt
    have hxm := List.getElem_mem hlt
    generalize xs[i] = xi at hx hxm
    have en := take_next hx
    refine .inr ⟨go i H0' H' p.e0 p.i hlt, fun H'' => ∃ H0' us, PX ⟨H1, H01, c.T⟩ H0' H'' ∧ TabA c.T H0' H'' ∧ H'' Dl = some (dk us) ∧ H0' Dl = none ∧ RepIV w.K H0' us ((xs.take (i + 1)).map fun x => (kf x, vf x)),
      fun H'' ⟨H0', us, q⟩ => ⟨xs.length - (i + 1), by omega, rfl, hlt, H0', us, q⟩, fun v H2 y => ?_⟩
    obtain ⟨d, H02, hd, p2, r2⟩ := yld i H0' H' v H2 p.e0 p.i (by rw [List.length_map]; exact hlt) y
    have hd' : d = f xi := by
      rw [List.getElem?_map, hx] at hd
      exact (Option.some.inj hd).symm
    subst hd'
    have P2 := p.trans p2
    have l2 : H2 Dl = some (dk us) := p2.ex _ _ hl
    have n2 : H02 Dl = none := p2.n Dl (known hl) h0
    have tb2 : TabA c.T H02 H2 := tb.keep (ext_both p2.ex) fun q h1 ⟨ps, h2⟩ => p2.n q (by show H' q ≠ none; rw [h2]; exact nofun) h1
    have aw : At w.quiet.K ⟨H2, H02, c.T⟩ (wipeE (hide ρ1) vs) H02 H2 (wipe σ vs) := ((a1.goT P2 tb2).freshT).wiped vs
    have ql : XLink w.quiet ⟨H2, H02, c.T⟩ := quiet_link x.t
    refine only_use hon ?_
    refine step xi hxm ⟨H2, H02, c.T⟩ H02 H2 (wipe σ vs) v _ aw ql r2 fun ρ3 H03 H3 σ3 q3 a3 e3 => ?_
    show tk σ3 H3 _
    refine q3 ⟨H2, H02, c.T⟩ H03 H3 σ3 _ a3 ql fun yv yd ρ4 H04 H4 ⟨ey, q4⟩ a4 e4 r4 => ?_
    subst ey
    cases r4
    refine q4 ⟨H2, H02, c.T⟩ H04 H4 σ3 _ a4 ql fun zv zd ρ5 H05 H5 ez a5 e5 r5 => ?_
    subst ez
    have l5 : H5 Dl = some (dk us) := a5.px.e.dk l2
    have n5 : H05 Dl = none := a5.px.n Dl (known l2) n2
    have P5 : PX ⟨H1, H01, c.T⟩ H05 H5 := P2.transT a5.px
    have fresh : kf xi ∉ us.map (·.1) := by
      rw [r.keys, List.map_map]
      intro hm
      obtain ⟨z, hz, e⟩ := List.mem_map.mp hm
      obtain ⟨j, hj⟩ := List.getElem?_of_mem hz
      have hji : j < i := by have := (List.getElem?_eq_some_iff.mp hj).1; rw [List.length_take] at this; omega
      rw [List.getElem?_take_of_lt hji] at hj
      have h1 : (xs.map kf)[j]? = some (kf xi) := by rw [List.getElem?_map, hj]; exact congrArg some e
      have h2 : (xs.map kf)[i]? = some (kf xi) := by rw [List.getElem?_map, hx]; rfl
      have := nodup_inj hnd h1 h2
      omega
    refine ⟨_, Sum.inl (kf xi), rfl, l5, len_lt (by rw [List.length_map, r.length, List.length_map, List.length_take]; omega), H05, us ++ [(kf xi, zv)], ?_⟩
    rw [putK_new fresh]
    refine ⟨P5.change n5 hD, a5.tab.keep (tabD l5) (fun _ h _ => h), upd_same, n5, ?_⟩
    rw [en, List.map_append]
    exact (r.mono (p2.e0.trans a5.px.e0)).append (.cons r5 .nil)
  · have e : i = xs.length := by omega
    subst e
    have P := p.learn hl h0 hD
    have tb' : TabA c.T (upd H0' Dl (dk us)) H' := tb.keep (fun _ _ h _ _ _ => h) fun q h1 ⟨ps, h2⟩ => by
      have hne : q ≠ Dl := fun z => by rw [z, hl] at h2; cases h2
      exact (upd_ne hne).trans h1
    rw [List.take_length] at r
    exact .inl ⟨stop H0' H' p.e0 p.i, k _ _ ρ1 _ H' done (a1.goT P tb') (e1.trans P.e0) (.dik upd_same (r.mono (Ex.new h0)))⟩
end DL
/-! DL61: a dict of one's own whose keys are pairs of an int and a tuple of ints. -/
namespace DL
open PySem PySem.Spec L2
open PyProof.Rows hiding St
theorem kyN_inj : ∀ {k k' : Ky}, kyN k = kyN k' → k = k' := by
  have nums : ∀ {a b : List Int}, a.map NestedKey.num = b.map NestedKey.num → a = b := by
    intro a
    induction a with
    | nil => intro b h; cases b with
      | nil => rfl
      | cons _ _ => cases h
    | cons x a ih => intro b h; cases b with
      | nil => cases h
      | cons y b =>
        rw [List.map_cons, List.map_cons, List.cons.injEq] at h
        rw [NestedKey.num.inj h.1, ih h.2]
  intro k k' h
  unfold kyN at h
  have h := NestedKey.tup.inj h
  rw [List.cons.injEq, List.cons.injEq] at h
  exact Prod.ext (NestedKey.num.inj h.1) (nums (NestedKey.tup.inj h.2.1))
abbrev rawK (xs : List (Ky × Addr × Addr)) : List (NestedKey × Addr × Value) := xs.map fun x => (kyN x.1, x.2.1, Value.ref x.2.2)
theorem atKey_raw (k : Ky) : ∀ xs : List (Ky × Addr × Addr), atKey (rawK xs) (kyN k) = (xs.find? fun x => decide (x.1 = k)).map fun x => (x.2.1, Value.ref x.2.2)
  | [] => rfl
  | x :: xs => by
    have ih := atKey_raw k xs
    unfold atKey at ih ⊢
    unfold rawK at ih ⊢
    rw [List.map_cons]
    by_cases h : x.1 = k
    · rw [List.find?_cons_of_pos (by simp [h]), List.find?_cons_of_pos (by simp [h])]
      rfl
    · rw [List.find?_cons_of_neg (by simp; exact fun z => h (kyN_inj z)), List.find?_cons_of_neg (by simp [h])]
      exact ih
section
variable {X : Cx} {pins : List (Addr × Obj)} {σ : St} {H : Hp} {s : Shared}
theorem nest_ints {h : Heap} : ∀ {ns : List Int} {its : List Value}, Vals (ns.map V.int) its → NestedAll h (ns.map .num) its
  | [], _, .nil => .nil
  | n :: ns, _, .cons r rs => by
    obtain ⟨t, rfl⟩ := r
    exact .cons (.int _ _) (nest_ints rs)
theorem depth_ky (k : Ky) : (kyN k).depth ≤ 8 := by
  have h : ∀ ns : List Int, NestedKey.depthAll (ns.map .num) ≤ 1 := by
    intro ns
    induction ns with
    | nil => decide
    | cons n ns ih => simp [NestedKey.depthAll, NestedKey.depth] at ih ⊢; omega
  have := h k.2
  simp [kyN, NestedKey.depth, NestedKey.depthAll] at this ⊢
  omega
theorem key_is (I : Inv X pins σ H s) {k : Ky} {a : Addr} (h : KyAt X.K H k a) : (nestedKind X.prog X.w).is s.heap (kyN k) a := by
  obtain ⟨a2, h1, h2⟩ := h
  obtain ⟨i1, r1, t1, _⟩ := I.tuple h1
  obtain ⟨i2, r2, t2, _⟩ := I.tuple h2
  obtain ⟨o1, g1, c1, n1, d1⟩ := t1
  obtain ⟨o2, g2, c2, n2, d2⟩ := t2
  refine ⟨.tup g1 c1 d1 ?_, depth_ky k⟩
  rw [List.toList_toArray]
  cases r1 with
  | cons r rs =>
    obtain ⟨t, rfl⟩ := r
    cases rs with
    | cons r rs =>
      cases r
      cases rs
      refine .cons (.int _ _) (.cons (.tup g2 c2 d2 ?_) .nil)
      rw [List.toList_toArray]
      exact nest_ints r2
theorem kd_of (I : Inv X pins σ H s) {p : Addr} {xs : List (Ky × Addr × Addr)} (h : H p = some (KdO X.prog X.w p xs)) (hk : ∀ e ∈ xs, KyAt X.K H e.1 e.2.1) : (p == sysModules) = false ∧ s.heap.DictOfH (nestedKind X.prog X.w) p (rawK xs) := by
  have ⟨⟨hs, o, es, ep, h1, h2, h3, h4, h5⟩, _, _⟩ := I.hok p _ h
  refine ⟨hs, o, es, ep, h1, h2, h3, h4, fun y hy => ?_, ?_⟩
  · obtain ⟨e, he, rfl⟩ := List.mem_map.mp hy
    exact key_is I (hk e he)
  · unfold rawK
    rw [List.map_map, List.nodup_iff_pairwise_ne, List.pairwise_map]
    rw [List.nodup_iff_pairwise_ne, List.pairwise_map] at h5
    exact h5.imp fun {a b} h e => h (kyN_inj e)
theorem kd_new {P : Program} {w : World} {H : Hp} {h : Heap} {p : Addr} {xs : List (Ky × Addr × Addr)} (hs : (p == sysModules) = false) (hd : h.DictOfH (nestedKind P w) p (rawK xs)) : ObjOk P w H h p (KdO P w p xs) := by
  obtain ⟨o, es, ep, h1, h2, h3, h4, _, h5⟩ := hd
  have h6 : (xs.map (·.1)).Nodup := by
    unfold rawK at h5
    rw [List.map_map, List.nodup_iff_pairwise_ne, List.pairwise_map] at h5
    rw [List.nodup_iff_pairwise_ne, List.pairwise_map]
    exact h5.imp fun {a b} h e => h (by show kyN _ = kyN _; rw [e])
  exact ⟨⟨hs, o, es, ep, h1, h2, h3, h4, h6⟩, ⟨o, h1⟩, fun h1' h2' ⟨a, o', es', ep', b, c⟩ k => ⟨a, o', es', ep', k o' b, c⟩⟩
end
section
variable {X : Cx} {K : PySem.W.Frag}
/-- {} for such keys -/
def tDNewN (P : Program) (w : World) : TE := fun _ H Q => ∀ p, H p = none → Q (.ref p) (upd H p (KdO P w p []))
theorem pe_dnewN {pos : Pos} : PE X (.Dict [] [] pos) (tDNewN X.prog X.w) := ⟨fun pins s σ H Q I h =>
  wpAny_Dict_empty ⟨.ref s.heap.objs.size, _, I.laid (a := s.heap.objs.size) (o := KdO X.prog X.w s.heap.objs.size []) (t' := s.toks) (fun _ _ q => Heap.get?_push_of_some _ q) (Nat.le_refl _) (kd_new (beq_eq_false_iff_ne.mpr (Nat.ne_of_gt I.big)) (Heap.DictOfH.new s.heap)), rfl, h _ (I.hok.fresh (Nat.le_refl _))⟩⟩
/-- k not in d -/
def rKdNot (K : PySem.W.Frag) (P : Program) (w : World) : R2 := fun x y H Q => ∃ (p a : Addr) (k : Ky) (xs : List (Ky × Addr × Addr)), x = .ref a ∧ y = .ref p ∧ H p = some (KdO P w p xs) ∧ KyAt K H k a ∧ (∀ e ∈ xs, KyAt K H e.1 e.2.1) ∧ Q (.bl (!(xs.find? fun e => decide (e.1 = k)).isSome)) H
theorem op_kdNot (hu : X.A.units + 64 < cLine) : OpR X (compareOp .NotIn) (rKdNot X.K X.prog X.w) := by
  intro pins s σ H x y v u Q I rx ry ⟨p, a, k, xs, ex, ey, hp, ha, hk, q⟩
  subst ex ey
  cases rx; cases ry
  obtain ⟨hs, hd⟩ := kd_of I hp hk
  refine wpAny_notIn_heap (show X.A.units + 1 + 8 < cLine by omega) (key_is I ha) hs hd ⟨.bl _, H, I.tok _, ?_, q⟩
  rw [atKey_raw, Option.isSome_map]
  rfl
theorem k_kdNot (K : PySem.W.Frag) {j : Nat} (room : RoomG j X.A) (h : X.K = K := by rfl) : OpR X (compareOp .NotIn) (rKdNot K X.prog X.w) := h ▸ op_kdNot (hu64 room)
/-- d[k] -/
def tKdGet (K : PySem.W.Frag) (P : Program) (w : World) (td ty : TE) : TE := fun σ H Q => td σ H fun x H1 => ty σ H1 fun y H2 => ∃ (p a b : Addr) (k : Ky) (xs : List (Ky × Addr × Addr)) (e : Ky × Addr × Addr), x = .ref p ∧ y = .ref a ∧ H2 p = some (KdO P w p xs) ∧ KyAt K H2 k a ∧ (∀ e ∈ xs, KyAt K H2 e.1 e.2.1) ∧ (xs.find? fun e => decide (e.1 = k)) = some e ∧ Q (.ref e.2.2) H2
theorem pe_kdGet {o i : Expr} {pos : Pos} {td ty : TE} (hu : X.A.units + 64 < cLine) (ho : PE X o td) (hi : PE X i ty) (hs : NoSl i) : PE X (.Subscript o i pos) (tKdGet X.K X.prog X.w td ty) := by
  refine ⟨fun pins s σ H Q I h => ?_⟩
  refine subD_of PySem.F.slot_dict_getitem.lookup hs (thn (ho.run pins s σ H _ I h) fun u s1 ⟨x, H1, I1, rx, q1⟩ => thn (hi.run pins s1 σ H1 _ I1 q1) fun iv s2 ⟨y, H2, I2, ry, p, a, b, k, xs, e, ex, ey, hp, ha, hk, he, q⟩ => ?_)
  subst ex ey
  cases (show u = Value.ref p from rx)
  cases (show iv = Value.ref a from ry)
  obtain ⟨_, hd⟩ := kd_of I2 hp hk
  refine ⟨hd.typeIs, wpAny_getItem_heap (p := (e.2.1, Value.ref e.2.2)) (show X.A.units + 1 + 8 < cLine by omega) (key_is I2 ha) hd (by rw [atKey_raw, he]; rfl) ⟨.ref e.2.2, H2, I2.tok _, rfl, q⟩⟩
theorem k_kdGet (K : PySem.W.Frag) {o i : Expr} {pos : Pos} {td ty : TE} {j : Nat} (room : RoomG j X.A) (ho : PE X o td) (hi : PE X i ty) (hs : NoSl i) (h : X.K = K := by rfl) : PE X (.Subscript o i pos) (tKdGet K X.prog X.w td ty) := h ▸ pe_kdGet (hu64 room) ho hi hs
/-- d[k] = v, k new -/
def rKdSet (K : PySem.W.Frag) (P : Program) (w : World) : TSet := fun o i v H Q => ∃ (p a b : Addr) (k : Ky) (xs : List (Ky × Addr × Addr)), o = .ref p ∧ i = .ref a ∧ v = .ref b ∧ H p = some (KdO P w p xs) ∧ KyAt K H k a ∧ (∀ e ∈ xs, KyAt K H e.1 e.2.1) ∧ (xs.find? fun e => decide (e.1 = k)) = none ∧ xs.length ≤ sizeLine ∧ Q (upd H p (KdO P w p (xs ++ [(k, a, b)])))
theorem set_kd (hu : X.A.units + 64 < cLine) : PSet X (rKdSet X.K X.prog X.w) := by
  intro pins s σ H o i v ov iv u Q I ro ri rv ⟨p, a, b, k, xs, eo, ei, ev, hp, ha, hk, hn, hz, q⟩
  subst eo ei ev
  cases ro; cases ri; cases rv
  obtain ⟨hs, hd⟩ := kd_of I hp hk
  refine wpAny_setItem_heap (show X.A.units + 1 + 8 < cLine by omega) (key_is I ha) hd (fun h' hm hb => ?_) (by unfold rawK; rw [List.length_map]; exact hz)
  have en : storedH (rawK xs) (kyN k) a (.ref b) = rawK (xs ++ [(k, a, b)]) := by
    rw [storedH_new (by rw [atKey_raw, hn]; rfl)]
    unfold rawK
    rw [List.map_append]
    rfl
  rw [en] at hm
  refine ⟨_, d_write I (by rw [hp]; trivial) hb (let ⟨o, _, _, ho, _⟩ := hm; ⟨o, ho⟩) (kd_new hs hm), q⟩
theorem k_setKd (K : PySem.W.Frag) {j : Nat} (room : RoomG j X.A) (h : X.K = K := by rfl) : PSet X (rKdSet K X.prog X.w) := h ▸ set_kd (hu64 room)
end
/-! over data -/
def kyD (k : Ky) : D := .tup [.int k.1, .tup (k.2.map .int)]
theorem ky_rep {K : PySem.W.Frag} {H : Hp} {v : V} {k : Ky} (r : Rep K H v (kyD k)) : ∃ a, v = .ref a ∧ KyAt K H k a := by
  unfold kyD at r
  cases r with
  | tup hs hr =>
    cases hr with
    | cons r1 rr =>
      cases rr with
      | cons r2 rr =>
        cases rr
        cases r1
        cases r2 with
        | tup h2 hr2 => rw [hr2.ofInts] at h2; exact ⟨_, rfl, _, hs, h2⟩
section
variable {K : PySem.W.Frag} {H H' : Hp}
theorem RepNV.all : ∀ {xs : List (Ky × Addr × Addr)} {ds : List (Ky × D)}, RepNV K H xs ds → ∀ e ∈ xs, KyAt K H e.1 e.2.1
  | _, _, .nil, e, h => by cases h
  | _, _, .cons hk _ hs, e, h => by
    rcases List.mem_cons.mp h with rfl | h
    · exact hk
    · exact hs.all e h
theorem RepNV.length : ∀ {xs : List (Ky × Addr × Addr)} {ds : List (Ky × D)}, RepNV K H xs ds → xs.length = ds.length
  | _, _, .nil => rfl
  | _, _, .cons _ _ h => by simp [h.length]
theorem RepNV.find (k : Ky) : ∀ {xs : List (Ky × Addr × Addr)} {ds : List (Ky × D)}, RepNV K H xs ds → (∀ z, ds.lookup k = some z → ∃ e, xs.find? (fun e => decide (e.1 = k)) = some e ∧ Rep K H (.ref e.2.2) z) ∧ (ds.lookup k = none → xs.find? (fun e => decide (e.1 = k)) = none)
  | _, _, .nil => ⟨fun z h => by simp at h, fun _ => rfl⟩
  | _, _, .cons (k := k') (a := a) (b := b) hk r hs => by
    have ih := hs.find k
    by_cases h : k' = k
    · subst h
      rw [List.lookup_cons, beq_self_eq_true]
      exact ⟨fun z e => by cases e; exact ⟨_, List.find?_cons_of_pos (by simp), r⟩, fun e => by cases e⟩
    · rw [List.lookup_cons, beq_eq_false_iff_ne.mpr (fun z => h z.symm), List.find?_cons_of_neg (by simpa using h)]
      exact ih
theorem RepNV.append : ∀ {xs ys : List (Ky × Addr × Addr)} {ds es : List (Ky × D)}, RepNV K H xs ds → RepNV K H ys es → RepNV K H (xs ++ ys) (ds ++ es)
  | _, _, _, _, .nil, h => h
  | _, _, _, _, .cons hk r hs, h => .cons hk r (hs.append h)
end
section
variable {w : Wx} {ρ : Env'} {P : Program} {w0 : World}
theorem At.setOwnT {K : PySem.W.Frag} {c : Ctx} {H0 H : Hp} {σ : St} {p : Addr} {o : HO} {ds : D} (a : At K c ρ H0 H σ) (hp : H p = none) (r : RepO K H0 o ds) (i : Nat) : At K c (ρ.set i (some (.own (some p) ds))) H0 (upd H p o) (σ.set i (some (.ref p))) := by
  obtain ⟨os, s, nd, f⟩ := a.sl
  have h0 : H0 p = none := a.px.i.back hp
  have hc : c.He p = none := a.px.e.back hp
  have own : p ∉ os := fun hm => s.known p hm hp
  have s1 : Slots K H0 (upd H p o) ρ σ os := s.mono (.refl _) fun q hq => upd_ne fun e => own (e ▸ hq)
  obtain ⟨os', s', h1, h2⟩ := s1.setOwn (t := some p) (fun q z => Option.some.inj z) upd_same r i
  exact ⟨a.px.change h0 hc, a.tab.keep (ext_both (Ex.new hp)) fun _ h _ => h, os', s', h2 nd own, fun q hq => (h1 q hq).elim (fun e => e ▸ ⟨h0, hc⟩) (f q)⟩
/-- d = {} -/
theorem wS_asgKd {E : DE} {i : Nat} (h : ∀ p, E.nx (ρ.set i (some (.own (some p) (.kd P w0 p []))))) : wS w (tAsg (tDNewN P w0) (gName i)) E ρ := fun c Dn H0 H σ a x l =>
  fun p hp => l.nx _ _ _ _ (h p) (a.setOwnT hp (.kd .nil) i)
theorem own_kd {K : PySem.W.Frag} {H0 : Hp} {o : HO} {p : Addr} {l : List (Ky × D)} (r : RepO K H0 o (.kd P w0 p l)) : ∃ xs, o = KdO P w0 p xs ∧ RepNV K H0 xs l := by
  cases r with
  | kd h => exact ⟨_, rfl, h⟩
/-- k not in d -/
theorem wE_kdNot {i : Nat} {te : TE} {Φ : D → Env' → Prop} (h0 : ∃ p l, ρ[i]? = some (some (.own (some p) (.kd P w0 p l)))) (h : wE w te ρ fun d ρ1 => ∃ k p l, d = kyD k ∧ ρ1[i]? = some (some (.own (some p) (.kd P w0 p l))) ∧ Φ (.bl (!(l.lookup k).isSome)) ρ1) : wE w (tOp (rKdNot w.K P w0) te (tVar i)) ρ Φ := fun c H0 H σ Q a x k' =>
  h c H0 H σ _ a x fun v d ρ1 H01 H1 ⟨k, p, l, ed, g, q⟩ a1 e1 r1 => by
    subst ed
    obtain ⟨av, rfl, hk⟩ := ky_rep r1
    obtain ⟨p', o, h1, h2, h3, ht, r⟩ := a1.own g
    obtain rfl := ht p rfl
    obtain ⟨xs, rfl, rn⟩ := own_kd r
    refine ⟨_, h1, _, av, k, xs, rfl, rfl, h2, kyAt_ex a1.px.i hk, fun e he => kyAt_ex a1.px.i (rn.all e he), ?_⟩
    have eb : (xs.find? fun e => decide (e.1 = k)).isSome = (l.lookup k).isSome := by
      have f := rn.find k
      cases hl : l.lookup k with
      | none => rw [f.2 hl]; rfl
      | some z => obtain ⟨e, he, _⟩ := f.1 z hl; rw [he]; rfl
    rw [eb]
    exact k' _ _ ρ1 H01 H1 q a1 e1 (.bl _)
/-- d[k] -/
theorem wE_kdGet {i : Nat} {te : TE} {Φ : D → Env' → Prop} (h0 : ∃ p l, ρ[i]? = some (some (.own (some p) (.kd P w0 p l)))) (h : wE w te ρ fun d ρ1 => ∃ k p l z, d = kyD k ∧ ρ1[i]? = some (some (.own (some p) (.kd P w0 p l))) ∧ l.lookup k = some z ∧ Φ z ρ1) : wE w (tKdGet w.K P w0 (tVar i) te) ρ Φ := fun c H0 H σ Q a x k' => by
  obtain ⟨p0, l0, h0⟩ := h0
  obtain ⟨q0, o0, g1, _⟩ := a.own h0
  refine ⟨_, g1, h c H0 H σ _ a x fun v d ρ1 H01 H1 ⟨k, p, l, z, ed, g, hl, q⟩ a1 e1 r1 => ?_⟩
  subst ed
  obtain ⟨av, rfl, hk⟩ := ky_rep r1
  obtain ⟨p', o, h1, h2, h3, ht, r⟩ := a1.own g
  rw [g1] at h1
  cases h1
  obtain rfl := ht p rfl
  obtain ⟨xs, rfl, rn⟩ := own_kd r
  obtain ⟨e, he, rz⟩ := (rn.find k).1 z hl
  exact ⟨_, av, av, k, xs, e, rfl, rfl, h2, kyAt_ex a1.px.i hk, fun e he => kyAt_ex a1.px.i (rn.all e he), he, k' _ _ ρ1 H01 H1 q a1 e1 rz⟩
/-- d[k] = v, k new -/
theorem wG_kdSet {i : Nat} {ti : TE} {d : D} {Ψ : Env' → Prop} (hT : w.T = []) (hd : ∃ ds, d = .tup ds) (h0 : ∃ p l, ρ[i]? = some (some (.own (some p) (.kd P w0 p l))))
    (h : wE w ti ρ fun dk ρ1 => ∃ k p l, dk = kyD k ∧ ρ1[i]? = some (some (.own (some p) (.kd P w0 p l))) ∧ l.lookup k = none ∧ l.length ≤ 1000000 ∧ Ψ (ρ1.set i (some (.own (some p) (.kd P w0 p (l ++ [(k, d)])))))) : wG w (gSub (tVar i) ti (rKdSet w.K P w0)) d ρ Ψ := fun c H0 H σ v Q a x r k' => by
  obtain ⟨ds, rfl⟩ := hd
  obtain ⟨p0, l0, h0⟩ := h0
  obtain ⟨q0, o0, g1, _⟩ := a.own h0
  refine ⟨_, g1, h c H0 H σ _ a x fun vk dk ρ1 H01 H1 ⟨k, p, l, ed, g, hl, hz, q⟩ a1 e1 r1 => ?_⟩
  subst ed
  obtain ⟨av, rfl, hk⟩ := ky_rep r1
  obtain ⟨p', o, h1, h2, h3, ht, ro⟩ := a1.own g
  rw [g1] at h1
  cases h1
  obtain rfl := ht p rfl
  obtain ⟨xs, rfl, rn⟩ := own_kd ro
  have rv := r.mono e1
  obtain ⟨b, rfl⟩ : ∃ b, v = .ref b := by cases r with | tup _ _ => exact ⟨_, rfl⟩
  exact ⟨_, av, b, k, xs, rfl, rfl, rfl, h2, kyAt_ex a1.px.i hk, fun e he => kyAt_ex a1.px.i (rn.all e he), (rn.find k).2 hl, len_ok (by rw [rn.length]; exact hz), k' _ H01 _ σ q (a1.turn g g1 (.kd (rn.append (.cons hk rv .nil))) (.inl (by rw [x.t]; exact hT))) e1⟩
end
end DL
/-! DL62: sorted(set(t)), t a tuple of ints. -/
namespace DL
open PySem PySem.Spec L2
open PyProof.Rows hiding St
section
variable {X : Cx}
def rSetOfTu (K : PySem.W.Frag) (w : World) : List V → Hp → VK → Prop := fun vs H Q => ∃ (l : Addr) (ns : List Int), vs = [V.ref l] ∧ SqT K H l (ns.map V.int) ∧ ns.length ≤ 4000 ∧
  ∀ (p : Addr) (c : Nat), H p = none → (∀ n : Nat, (∀ k ∈ ns, 0 ≤ k ∧ k < n) → c ≤ n) → Q (.ref p) (upd H p (SetO w p (fun j => decide (j ∈ ns)) c))
theorem cr_setTu (hc : X.calm = true) : CallR X (.type "set") (rSetOfTu X.K X.w) := by
  intro pins s σ H vs us Q I r h
  obtain ⟨l, ns, rfl, hq, hn, q⟩ := h
  rw [Vals.ref1 r]
  obtain ⟨its, rv, pl, hz⟩ := I.tuple hq
  refine call_set_tupI ns (I.ok.hd hc) pl (by simpa using rv.ints) (by unfold scanBound; omega) fun h' tk c R hcn k => ?_
  have free : H s.heap.objs.size = none := I.hok.fresh (Nat.le_refl _)
  refine ⟨.ref s.heap.objs.size, upd H s.heap.objs.size (SetO X.w s.heap.objs.size (fun j => decide (j ∈ ns)) c), I.laid (t' := tk) k (Nat.le_refl _) (setO_new R), rfl, q _ c free fun n hb => ?_⟩
  obtain ⟨o, es, ep, t, _, _, _, _, nd, hm, _, _, hs, _⟩ := R
  rw [← hs, ← Array.length_toList, ← List.length_map (f := keyOf)]
  exact few_nodup n _ nd fun k hk => hb k (of_decide_eq_true ((hm k).mpr hk))
theorem k_setTu (K : PySem.W.Frag) (hc : X.calm = true) (h : X.K = K := by rfl) : CallR X (.type "set") (rSetOfTu K X.w) := h ▸ cr_setTu hc
end
def rSortSetT (K : PySem.W.Frag) (w : World) : List V → Hp → VK → Prop := fun vs H Q => rSetOfTu K w vs H fun v H2 => rSortedSet w [v] H2 Q
def sortSetTG (ds : List D) (Φ : D → Prop) : Prop := ∃ ns : List Int, ds = [.tup (ns.map D.int)] ∧ ns.length ≤ 4000 ∧ (∀ k ∈ ns, 0 ≤ k ∧ k < 60) ∧ ∀ ms : List Int, ms.Pairwise (· < ·) → (∀ k, k ∈ ms ↔ k ∈ ns) → Φ (.lst (ms.map D.int))
theorem cbd_sortSetT {K : PySem.W.Frag} {w : World} : CbD K (rSortSetT K w) sortSetTG := fun H0 H xs ds Φ Q e rx ⟨ns, h, hl, hb, g⟩ k => by
  subst h
  obtain ⟨v, rfl, r⟩ := vals_one rx
  cases r with
  | tup hp hr =>
    rw [hr.ofInts] at hp
    refine ⟨_, ns, rfl, sqT_ex e hp, by omega, fun p c hn hc => ⟨p, _, c, rfl, upd_same, by have := hc 60 hb; omega, fun ms q pw mem _ hq => ?_⟩⟩
    have y1 : PX ⟨H, H0, []⟩ (upd H0 p (SetO w p (fun j => decide (j ∈ ns)) c)) (upd H p (SetO w p (fun j => decide (j ∈ ns)) c)) := (PX.refl e).new hn
    have y2 := y1.new (o := .lst (ms.map V.int)) hq
    exact k _ _ _ _ (g ms pw fun k => by rw [mem k, decide_eq_true_eq]) y2 (.lst upd_same (RepAll.ints ms))
theorem wE_sortSetT {w : Wx} {w0 : World} {t : TE} {ρ : Env'} {Φ : D → Env' → Prop} (h : wE w t ρ fun d ρ1 => ∃ ns : List Int, d = .tup (ns.map D.int) ∧ ns.length ≤ 4000 ∧ (∀ k ∈ ns, 0 ≤ k ∧ k < 60) ∧ ∀ ms : List Int, ms.Pairwise (· < ·) → (∀ k, k ∈ ms ↔ k ∈ ns) → Φ (.lst (ms.map D.int)) ρ1) :
    wE w (tCB (rSortedSet w0) (tCons (tCB (rSetOfTu w.K w0) (tCons t tNil)) tNil)) ρ Φ := by
  have := wE_cb (w := w) (ρ := ρ) (Φ := Φ) (cbd_sortSetT (K := w.K) (w := w0)) (t' := tCons t tNil) (wA_cons (wE_mono h fun d ρ1 ⟨ns, e, hl, hb, g⟩ => wA_nil ⟨ns, by rw [e], hl, hb, g⟩))
  exact this
/-- negation of an int, floor division, as Python's -(-a // b): the least integer that is at least a / b -/
def cdivI (a b : Int) : Int := -(-a / b)
theorem cdiv_le {a b n : Int} (hb : 0 < b) : cdivI a b ≤ n ↔ a ≤ n * b := by
  unfold cdivI
  constructor
  · intro h
    have h1 : -n ≤ -a / b := by omega
    have := (Int.le_ediv_iff_mul_le hb).mp h1
    rw [Int.neg_mul] at this
    omega
  · intro h
    have : -n ≤ -a / b := (Int.le_ediv_iff_mul_le hb).mpr (by rw [Int.neg_mul]; omega)
    omega
theorem cdiv_ge {a b : Int} (hb : 0 < b) : a ≤ cdivI a b * b := (cdiv_le hb).mp (Int.le_refl _)
theorem hu2 {k : Nat} {A : Around} (r : RoomG k A) : A.units + 1 < cLine := by have := r.r.un; omega
def fdivWG : D → D → (D → Prop) → Prop := intG CDivW fun i j => .int (i / j)
theorem opd_fdivW {K : PySem.W.Frag} : OpD K (rI CDivW fun i j => .int (i / j)) fdivWG := opd_int fun _ _ _ => .int _
theorem fdivWG_i {a c : Int} {Φ : D → Prop} (h : CDivW a c) (q : Φ (.int (a / c))) : fdivWG (.int a) (.int c) Φ := ⟨h, q⟩
theorem cdivW {a c : Int} (h0 : 0 < c) (h : c.natAbs < 2 ^ 8000) : CDivW a c := ⟨h0, by
  have := PySem.W.mg_log (n := c.natAbs) (k := 7999) h
  omega⟩
end DL
/-! DL63: try: a() except (A, B, C) as e with the telling in place, [] behind it. -/
namespace DL
open PySem PySem.Spec L2 LamX
open PyProof.Rows hiding St
/-- the telling in place: as of the exception, else [] -/
def TTcgt (K : PySem.W.Frag) (cs : List Value) (sp : Value → Option Addr → Hp → VK → Prop) : (XK → Hp → VK → Prop) → Hp → VK → Prop := fun tl H Q =>
  tl (fun cls d H' => PySem.W.exmAny K cls cs = some true ∧ sp cls d H' Q) H (fun _ H' => ∀ p, H' p = none → Q (.ref p) (upd H' p (.lst [])))
def tsOf (ts0 : Addr → Addr → Addr → TS) : Addr → Value → Option Addr → TS := fun a cls d => match cls, d with
  | .ref D', some d => ts0 a D' d
  | _, _ => fun _ _ _ => False
theorem slots_skip {K : PySem.W.Frag} {H0 H : Hp} : ∀ {rest : List Str} {σ : L2.St}, σ.length = rest.length → Slots K H0 H (rest.map fun _ => none) σ []
  | [], [], _ => .nil
  | _ :: _, _ :: _, h => .skip (slots_skip (by simpa using h))
theorem slots_exn {K : PySem.W.Frag} {H0 H : Hp} {d0 d1 : Str} {rest : List Str} {σ : L2.St} {b : Addr} {d : D} (h : σ.length = (d0 :: d1 :: rest).length) (r : Rep K H0 (.ref b) d) : Slots K H0 H (none :: some (.dat d) :: rest.map fun _ => none) (σ.set 1 (some (.ref b))) [] := by
  match σ, h with
  | x :: y :: σ, h => exact .skip (.dat r (slots_skip (by simpa using h)))
/-- the def that calls a lambda so -/
structure CgtC (P : Program) (w : World) (K : PySem.W.Frag) (mg : Str → Option Value) (base : Heap) (x : Str) (k : Nat) (cs : List Value) (S : ESp) : Prop where
  ex : ∃ (st : Stmt) (g : Addr) (fd : FuncData) (a : Str) (Ng : List Str), FunX K x x st g fd ∧ mg x = some (.ref g) ∧ PySem.W.keepIn K (.ref g) = true ∧ Binds K fd [a] [] ∧ FnScope Ng [a] (defScope st) ∧ Ng[0]? = some a ∧ (defScope st).names.lookup a = some .local ∧ (a == ("__debug__" : Str)) = false ∧ (a == ("__classdict__" : Str)) = false ∧
    ∀ (X : Cx) (cdg : Value) (q : Str), X.prog = P → X.w = w → X.K = K → X.mg = mg → X.base = base → GivesG X k Ng x (defScope st) g cdg (defBody st) a q (TTcgt K cs (liftE K S))
section
variable {P : Program} {w : World} {K : PySem.W.Frag} {mg : Str → Option Value} {base : Heap}
theorem cgt_of {x a n x1 x2 x3 : Str} {rest : List Str} {c1 c2 c3 : Value} {st : Stmt} {g : Addr} {fd : FuncData} {S : ESp} {k kk : Nat} {b₀ : Stmt} {suite : List Stmt} {p2 p3 p4 q1 q2 q3 tp hp r7 r8 tp2 : Pos} {ts0 : Addr → Addr → Addr → TS}
    (F : FunX K x x st g fd) (hm : mg x = some (.ref g)) (hk : PySem.W.keepIn K (.ref g) = true) (bd : Binds K fd [a] []) (Sg : FnScope (a :: n :: rest) [a] (defScope st))
    (la : (defScope st).names.lookup a = some .local) (ln : (defScope st).names.lookup n = some .local) (da : (a == ("__debug__" : Str)) = false ∧ (a == ("__classdict__" : Str)) = false)
    (n1 : (defScope st).names.lookup x1 = some .globalImplicit ∧ (x1 == ("__debug__" : Str)) = false ∧ mg x1 = some c1) (n2 : (defScope st).names.lookup x2 = some .globalImplicit ∧ (x2 == ("__debug__" : Str)) = false ∧ mg x2 = some c2) (n3 : (defScope st).names.lookup x3 = some .globalImplicit ∧ (x3 == ("__debug__" : Str)) = false ∧ mg x3 = some c3)
    (hst : defBody st = [.Try [.Expr (.Call (.Name a p2) [] [] p3) p4] [.ExceptHandler (some (.Tuple [.Name x1 q1, .Name x2 q2, .Name x3 q3] kk tp)) (some n) (b₀ :: suite) hp] [] [] tp2, .Return (some (.List [] r7)) r8])
    (hsu : ∀ (cdg : Value) (A : Around) (outer : List Env) (s : Shared) (H : Hp) (a' : Addr) (oe : Obj) (D' d : Addr) (pn : List (Addr × Obj)), Zc (.ref D') (some d) oe → (∃ vs, oe.data = .fields vs) → RoomE k ((cxOf (CXD P w) P w K mg base (a :: n :: rest) x (defScope st) g cdg A outer s H EN).suite a' ((a', oe) :: pn)).A →
      PSs ((cxOf (CXD P w) P w K mg base (a :: n :: rest) x (defScope st) g cdg A outer s H EN).suite a' ((a', oe) :: pn)) (b₀ :: suite) (ts0 a' D' d))
    (hw : ∀ (a' D' d : Addr) (fs : List (Str × D)) (Φ : D → Prop), S ⟨D', fs⟩ Φ → wS ⟨K, EN, fun _ => False, []⟩ (ts0 a' D' d) { nx := fun _ => False, rt := fun d _ => Φ d } (none :: some (.dat (.exn a' d fs)) :: rest.map fun _ => none)) :
    CgtC P w K mg base x k [c1, c2, c3] S := by
  refine ⟨st, g, fd, a, a :: n :: rest, F, hm, hk, bd, Sg, rfl, la, da.1, da.2, ?_⟩
  intro X cdg q e1 e2 e3 e4 e5
  subst e1 e2 e3 e4 e5
  rw [hst]
  intro f c' s H Q tl room act hc h
  refine ⟨_, pss_cons (ps_try_asT (X := cxOf (CXD X.prog X.w) X.prog X.w X.K X.mg X.base (a :: n :: rest) x (defScope st) g cdg X.A X.stack s H EN) (i := 1) (c1 := c1) (c2 := c2) (c3 := c3)
      (tb := fun W D σ H => ∃ Ech : XK, (∀ cls d σ' H', Ech cls d H' → W cls d σ' H') ∧ tDrop (fun σZ HZ Q => ∃ Q0 : VK, (σZ[0]? = some (some (V.ref f)) ∧ HZ c' = some (CodeO c' q) ∧ tl Ech HZ Q0) ∧ ∀ v H', Q0 v H' → Q v H') D σ H)
      (ts := tsOf ts0) rfl rfl Sg.nd rfl ln ⟨n1.1, n1.2.1, .inl n1.2.2⟩ ⟨n2.1, n2.2.1, .inl n2.2.2⟩ ⟨n3.1, n3.2.1, .inl n3.2.2⟩ (fun W pn xe tk _ => ?hb) (fun a' oe cls d pn hz hv => ?hsu)) (pss_one (ps_ret (pe_lst pa_nil))), ?fin⟩
  case hb =>
    refine ⟨fun pins s' σ H' D I ⟨Ech, hW, h'⟩ => ?_⟩
    exact (pss_one (ps_expr (act W pn xe Ech p2 p3 tk hW).weak)).run pins s' σ H' D I h'
  case hsu =>
    have no : ∀ {tt : TS}, (∀ D σ H, tt D σ H → False) → PSs ((cxOf (CXD X.prog X.w) X.prog X.w X.K X.mg X.base (a :: n :: rest) x (defScope st) g cdg X.A X.stack s H EN).suite a' ((a', oe) :: pn)) (b₀ :: suite) tt := fun h => ⟨fun pins s σ H D I z => (h _ _ _ z).elim⟩
    unfold tsOf
    split
    · exact hsu cdg X.A X.stack s H a' oe _ _ pn hz hv ⟨⟨(room.r.mono (Nat.le_succ k)).dp, (room.r.mono (Nat.le_succ k)).un⟩, room.g⟩
    · exact no fun _ _ _ z => z
  case fin =>
    refine ⟨fun cls d H' => PySem.W.exmAny X.K cls [c1, c2, c3] = some true ∧ liftE X.K S cls d H' Q, fun cls d σ' H' ⟨e1, e2⟩ => ⟨e1, fun hl b hb => ?_⟩, _, ⟨rfl, hc, h⟩, fun v H' hq => ?_⟩
    · obtain ⟨H0, y, Φ, e, ec, ⟨d0, vs, ed, hx, rk⟩, q, kq⟩ := e2
      subst ec ed
      exact hw b y.C d0 y.fs Φ q ⟨H', H0, []⟩ _ H0 H' _ ⟨PX.refl e, .nil, [], slots_exn hl (.exn hx rk), List.nodup_nil, fun _ h => nomatch h⟩ ⟨rfl, fun _ h => h.elim⟩ ⟨fun ρ H0' H' σ z a => z.elim, fun d v ρ H0' H' σ z a rv => kq v d H0' H' z a.px rv, fun _ _ _ _ _ _ _ z => z.elim, fun _ _ _ _ z => z.elim, fun _ _ _ _ z => z.elim⟩
    · exact ⟨(show 0 ≤ sizeLine by decide), hq⟩
end
theorem k_cgtC {X : Cx} (K : PySem.W.Frag) {T : List (Addr × Str)} {x : Str} {cs : List Value} {c P : Addr} {S : ESp} {j k : Nat} {p lpos pos : Pos} {params : Arguments} {body : Expr} {scope : Scope} {t : XK → TE}
    (A : CgtC X.prog X.w K X.mg X.base x k cs S) (room : RoomG j X.A) (hj : k + 2 ≤ j) (TB : TabB X.base X.mg c P) (hcode : X.env.code = .ref c) (hmT : (P, lamQ X) ∈ T) (hu : ∀ p ∈ T, p.1 = P → p.2 = lamQ X) (L : LamS X.env.scope scope)
    (hbody : ∀ (A : Around) (outer : List Env) (s : Shared) (H : Hp) (E : XK) (f c' : Addr), RoomG k (A.deeper (lamEnv X scope s.heap.objs.size f c')) → PE (lamCx X A outer s H E scope f c') body (t E))
    (hdef : defaultsOf params X.env = ([], []) := by rfl) (hbind : ∀ (q : Str) (cl : List (Str × Addr)) (pm cv ctv : Value), bindArgs (PySem.W.kla_fn "<lambda>" q params body scope cl pm cv ctv) ⟨[], []⟩ = pure [] := by intros; rfl) (hg : Gl X x := by rfl) (hdb : (x == ("__debug__" : Str)) = false := by decide) (h : X.K = K := by rfl) :
    PE X (.Call (.Name x p) [.Lambda params body scope lpos] [] pos) (tLamG T (TTcgt K cs (liftE K S)) t) := by
  subst h
  obtain ⟨st, g, fd, a, Ng, F, hm, hk, bd, Sg, hN, la, d1, d2, G⟩ := A.ex
  obtain ⟨oc, od, dV, kV, doc, pm, an, cdv, ct, osl, rfl, lk, hcd⟩ := F.ex
  exact pe_lamcallG hg hm hk lk hcd bd Sg hN (.inl la) (G X cdv (lamQ X) rfl rfl rfl rfl rfl) TB hcode hmT hu room hj L hdef hbind hbody hdb d1 d2
section
variable {w : Wx} {ρ : Env'} {Φ : D → Env' → Prop}
/-- _law_caught(lambda: e) -/
theorem wE_cgt {S : ESp} {cs : List Value} {t : XK → TE} (h : ∀ EX, wE ⟨w.K, EX, fun x => PySem.W.exmAny w.K (.ref x.C) cs = some true ∧ S x (fun d => Φ d ρ), []⟩ (t EX) (hide ρ) fun _ _ => Φ (.lst []) ρ) :
    wE w (tLamG w.T (TTcgt w.K cs (liftE w.K S)) t) ρ Φ := fun c H0 H σ Q a x k => by
  have tb : TabA w.T H0 H := x.t ▸ a.tab
  refine ⟨tabs_of tb, fun H1 g => ?_⟩
  have y1 : PX ⟨H, H0, w.T⟩ H0 H1 := ⟨g.e, .refl _, g.x H0 a.px.i fun p hp => (tb p hp).2, fun p _ h => h⟩
  have tb1 : TabA w.T H0 H1 := fun p hp => ⟨g.t p hp, (tb p hp).2⟩
  have a1 : At w.K c ρ H0 H1 σ := by
    have := y1
    rw [← x.t] at this tb1
    exact a.goT this tb1
  have back : ∀ {v d H0' H'}, Φ d ρ → PX ⟨H1, H0, []⟩ H0' H' → Rep w.K H0' v d → Q v H' := fun {v d H0' H'} hΦ p r => k v d ρ H0' H' hΦ (a1.go p) p.e0 r
  refine h _ ⟨H1, H0, []⟩ H0 H1 σ _ a1.fresh ⟨rfl, fun y ⟨hy, hS⟩ dd H0' H' p rx => ⟨hy, H0', y, fun d => Φ d ρ, p.i, rfl, rx, hS, fun v d H0'' H'' hΦ p2 r => back hΦ (p.trans p2) r⟩⟩ fun v d ρ' H0' H' hΦ a2 e2 r p hp => ?_
  have y2 : PX ⟨H', H0', []⟩ (upd H0' p (.lst [])) (upd H' p (.lst [])) := (PX.refl a2.px.i).new hp
  exact back hΦ (a2.px.trans y2) (.lst upd_same .nil)
end
section
variable {X : Cx} (K : PySem.W.Frag) {j : Nat}
theorem k_neE (room : RoomE j X.A) (h : X.K = K := by rfl) : OpR X (compareOp .NotEq) (rNeA K) := h ▸ OpR.or op_ne (op_neD (hu64E room))
end
/-- bools.index(b) -/
def indexB (x : D) (ds : List D) (Φ : D → Prop) : Prop := ∃ (bs : List Bool) (c : Bool) (j : Nat), x = .lst (bs.map D.bl) ∧ ds = [.bl c] ∧ bs[j]? = some c ∧ (∀ m < j, bs[m]? ≠ some c) ∧ Φ (.int (j : Nat))
theorem mtd_indexB {K : PySem.W.Frag} : MtD K (rIndex K) indexB := fun H0 H x xs dx ds Φ Q e rx rs ⟨bs, c, j, hx, hd, hj, hno, g⟩ k => by
  subst hx hd
  obtain ⟨v, rfl, r⟩ := vals_one rs
  cases r
  cases rx with
  | lst hp hr =>
    rw [rep_bls hr] at hp
    refine ⟨_, bs.map V.bl, .bl c, j, .bl c, rfl, rfl, .inl (.inl (e _ _ hp)), rfl, List.all_eq_true.mpr fun v hv => ?_, by rw [List.getElem?_map, hj]; rfl, by show (c == c) = true; exact beq_self_eq_true c, fun m z' hm hz => ?_, fin0 e g (.int _) k⟩
    · obtain ⟨y, _, rfl⟩ := List.mem_map.mp hv
      rfl
    · rw [List.getElem?_map] at hz
      obtain ⟨y, hy, rfl⟩ := Option.map_eq_some_iff.mp hz
      have := hno m hm
      rw [hy] at this
      show (y == c) = false
      exact beq_eq_false_iff_ne.mpr fun h => this (by rw [h])
/-! any(list of bools) -/
theorem k_any1 {X : Cx} (K : PySem.W.Frag) (hc : X.calm = true) (h : X.K = K := by rfl) : CallR X (.builtin "any") (rAny K) := h ▸ cr_any hc
theorem bb_any : bootBuiltins "any" = some (.builtin "any") := by decide +kernel
def anyG (ds : List D) (Φ : D → Prop) : Prop := ∃ bs : List Bool, ds = [.lst (bs.map D.bl)] ∧ Φ (.bl (bs.any id))
theorem cbd_any {K : PySem.W.Frag} : CbD K (rAny K) anyG := fun H0 H xs ds Φ Q e rx ⟨bs, h, g⟩ k => by
  subst h
  obtain ⟨v, rfl, r⟩ := vals_one rx
  cases r with
  | lst hp hr => rw [hr.ofBools] at hp; exact ⟨_, bs, rfl, .inl (.inl (e _ _ hp)), fin0 e g (.bl _) k⟩
theorem anyG_map {α : Type} {l : List α} {q : α → Bool} {Φ : D → Prop} (h : Φ (.bl (l.any q))) : anyG [.lst (l.map fun x => .bl (q x))] Φ := ⟨l.map q, by rw [List.map_map]; rfl, by rw [List.any_map]; exact h⟩
/-! sorted(set(t)), t a tuple of few ints of any size -/
section
variable {X : Cx}
def rSetOfTv (K : PySem.W.Frag) (w : World) : List V → Hp → VK → Prop := fun vs H Q => ∃ (l : Addr) (ns : List Int), vs = [V.ref l] ∧ SqT K H l (ns.map V.int) ∧ ns.length ≤ 60 ∧
  ∀ (p : Addr) (c : Nat), H p = none → c ≤ ns.length → Q (.ref p) (upd H p (SetO w p (fun j => decide (j ∈ ns)) c))
theorem cr_setTv (hc : X.calm = true) : CallR X (.type "set") (rSetOfTv X.K X.w) := by
  intro pins s σ H vs us Q I r h
  obtain ⟨l, ns, rfl, hq, hn, q⟩ := h
  rw [Vals.ref1 r]
  obtain ⟨its, rv, pl, hz⟩ := I.tuple hq
  refine call_set_tupI ns (I.ok.hd hc) pl (by simpa using rv.ints) (by unfold scanBound; omega) fun h' tk c R hcn k => ?_
  have free : H s.heap.objs.size = none := I.hok.fresh (Nat.le_refl _)
  exact ⟨.ref s.heap.objs.size, upd H s.heap.objs.size (SetO X.w s.heap.objs.size (fun j => decide (j ∈ ns)) c), I.laid (t' := tk) k (Nat.le_refl _) (setO_new R), rfl, q _ c free hcn⟩
theorem k_setTv (K : PySem.W.Frag) (hc : X.calm = true) (h : X.K = K := by rfl) : CallR X (.type "set") (rSetOfTv K X.w) := h ▸ cr_setTv hc
end
def rSortSetV (K : PySem.W.Frag) (w : World) : List V → Hp → VK → Prop := fun vs H Q => rSetOfTv K w vs H fun v H2 => rSortedSet w [v] H2 Q
def sortSetVG (ds : List D) (Φ : D → Prop) : Prop := ∃ ns : List Int, ds = [.tup (ns.map D.int)] ∧ ns.length ≤ 60 ∧ ∀ ms : List Int, ms.Pairwise (· < ·) → (∀ k, k ∈ ms ↔ k ∈ ns) → Φ (.lst (ms.map D.int))
theorem cbd_sortSetV {K : PySem.W.Frag} {w : World} : CbD K (rSortSetV K w) sortSetVG := fun H0 H xs ds Φ Q e rx ⟨ns, h, hl, g⟩ k => by
  subst h
  obtain ⟨v, rfl, r⟩ := vals_one rx
  cases r with
  | tup hp hr =>
    rw [hr.ofInts] at hp
    refine ⟨_, ns, rfl, sqT_ex e hp, hl, fun p c hn hc => ⟨p, _, c, rfl, upd_same, by omega, fun ms q pw mem _ hq => ?_⟩⟩
    have y1 : PX ⟨H, H0, []⟩ (upd H0 p (SetO w p (fun j => decide (j ∈ ns)) c)) (upd H p (SetO w p (fun j => decide (j ∈ ns)) c)) := (PX.refl e).new hn
    have y2 := y1.new (o := .lst (ms.map V.int)) hq
    exact k _ _ _ _ (g ms pw fun k => by rw [mem k, decide_eq_true_eq]) y2 (.lst upd_same (RepAll.ints ms))
theorem wE_sortSetV {w : Wx} {w0 : World} {t : TE} {ρ : Env'} {Φ : D → Env' → Prop} (h : wE w t ρ fun d ρ1 => ∃ ns : List Int, d = .tup (ns.map D.int) ∧ ns.length ≤ 60 ∧ ∀ ms : List Int, ms.Pairwise (· < ·) → (∀ k, k ∈ ms ↔ k ∈ ns) → Φ (.lst (ms.map D.int)) ρ1) :
    wE w (tCB (rSortedSet w0) (tCons (tCB (rSetOfTv w.K w0) (tCons t tNil)) tNil)) ρ Φ := by
  have := wE_cb (w := w) (ρ := ρ) (Φ := Φ) (cbd_sortSetV (K := w.K) (w := w0)) (t' := tCons t tNil) (wA_cons (wE_mono h fun d ρ1 ⟨ns, e, hl, g⟩ => wA_nil ⟨ns, by rw [e], hl, g⟩))
  exact this
/-- a list of ints stands as its members do, each once and rising, when it rises; and only then -/
theorem up_alone : ∀ {ms ns : List Int}, ms.Pairwise (· < ·) → ns.Pairwise (· < ·) → (∀ k, k ∈ ms ↔ k ∈ ns) → ms = ns
  | [], [], _, _, _ => rfl
  | [], b :: _, _, _, h => absurd ((h b).mpr List.mem_cons_self) (by simp)
  | a :: _, [], _, _, h => absurd ((h a).mp List.mem_cons_self) (by simp)
  | a :: ms, b :: ns, p, q, h => by
    obtain ⟨p1, p2⟩ := List.pairwise_cons.mp p
    obtain ⟨q1, q2⟩ := List.pairwise_cons.mp q
    have e : a = b := by
      rcases List.mem_cons.mp ((h a).mp List.mem_cons_self) with e | e
      · exact e
      · rcases List.mem_cons.mp ((h b).mpr List.mem_cons_self) with e2 | e2
        · exact e2.symm
        · have := p1 _ e2; have := q1 _ e; omega
    subst e
    rw [up_alone p2 q2 fun k => ⟨fun hk => ?_, fun hk => ?_⟩]
    · rcases List.mem_cons.mp ((h k).mp (List.mem_cons_of_mem _ hk)) with e | e
      · have := p1 _ hk; omega
      · exact e
    · rcases List.mem_cons.mp ((h k).mpr (List.mem_cons_of_mem _ hk)) with e | e
      · have := q1 _ hk; omega
      · exact e
end DL
namespace DL
open PySem PySem.Spec L2
open PyProof.Rows hiding St
def topS (i : Nat) : Stmt := PySem.Challenge.pw_restballots_k36_errors_of_rules.main.body.getD i (.Pass ⟨0, 0, 0, 0⟩)
local macro_rules | `(tactic| walk_at "dl1") => `(tactic| first
  | with_reducible refine wS_seq ?_
  | with_reducible refine wS_if ?_
  | with_reducible refine wS_next ?_
  | with_reducible refine wS_retN ?_
  | with_reducible refine wS_ret ?_
  | ((with_reducible show wS _ (tDrop (tBM _ _ rAppend (tVar _) _)) _ _); refine wS_append ?_ ⟨_, _, rfl⟩)
  | with_reducible refine wS_raise ?_
  | with_reducible refine wS_tryMk ?_
  | with_reducible refine wS_drop ?_
  | with_reducible refine wS_fld ?_
  | with_reducible refine wS_asgOwn ?_
  | with_reducible refine wS_asgKd ?_
  | with_reducible refine wS_asgRgOwn ?_
  | with_reducible refine wS_asg ?_
  | with_reducible refine wS_brk ?_
  | with_reducible refine wS_cont ?_
  | with_reducible refine wG_name ?_
  | ((with_reducible refine wG_tup ?_); refine ⟨_, rfl, rfl, ?_⟩)
  | ((with_reducible refine wG_lstT ?_); refine ⟨_, rfl, rfl, ?_⟩)
  | ((with_reducible show wG _ (gSub (tVar _) _ rSetL) _ _ _); refine wG_subOwn ⟨_, _, rfl⟩ ?_)
  | with_reducible refine wGs_cons ?_
  | with_reducible refine wGs_nil ?_
  | with_reducible refine wT_not ?_
  | with_reducible refine wT_and ?_
  | with_reducible refine wT_or ?_
  | with_reducible refine wT_test ?_
  | with_reducible refine wT_B ?_
  | with_reducible refine wT_yes ?_
  | with_reducible refine wA_nil ?_
  | with_reducible refine wA_cons ?_)
local macro_rules | `(tactic| walk_at "dl2") => `(tactic| first
  | ((with_reducible show wE _ (tVar _) _ _); (first | refine wE_var rfl ?_ | refine wE_give rfl ?_))
  | with_reducible refine wE_int ?_
  | with_reducible refine wE_str ?_
  | with_reducible refine wE_bl ?_
  | with_reducible refine wE_non ?_
  | with_reducible refine wE_raw ?_
  | with_reducible refine wE_andV ?_
  | with_reducible refine wE_orV ?_
  | with_reducible refine wE_notV ?_
  | with_reducible refine wE_if ?_
  | with_reducible refine wE_tup ?_
  | with_reducible refine wE_lst ?_
  | with_reducible refine wE_call ?_
  | with_reducible refine wE_callE ?_
  | with_reducible refine wE_callT ?_
  | with_reducible refine wE_op opd_add ?_
  | with_reducible refine wE_op opd_sub ?_
  | with_reducible refine wE_op opd_mul ?_
  | with_reducible refine wE_op opd_mulA ?_
  | with_reducible refine wE_op opd_mod ?_
  | with_reducible refine wE_op opd_fdiv ?_
  | with_reducible refine wE_op opd_fdivW ?_
  | with_reducible refine wE_op opd_pow ?_
  | with_reducible refine wE_op opd_lt ?_
  | with_reducible refine wE_op opd_le ?_
  | with_reducible refine wE_op opd_gt ?_
  | with_reducible refine wE_op opd_ge ?_
  | with_reducible refine wE_op opd_eq ?_
  | with_reducible refine wE_op opd_ne ?_
  | with_reducible refine wE_op opd_neT0 ?_
  | with_reducible refine wE_op opd_neL0 ?_
  | with_reducible refine wE_op opd_eqT0 ?_
  | ((with_reducible show wE _ (tOp (rIx _) (tVar _) _) _ _); refine wE_ixOwn ⟨_, _, rfl⟩ ?_)
  | with_reducible refine wE_op opd_ix ?_
  | with_reducible refine wE_chain opd_le opd_le ?_
  | ((with_reducible show wE _ (tCB (rLen _) (tCons (tVar _) tNil)) _ _); refine wE_lenOwn cbd_lenO rfl ?_ ?_)
  | with_reducible refine wE_cb cbd_len ?_
  | with_reducible refine wE_cb cbd_isi ?_
  | with_reducible refine wE_cb cbd_all ?_
  | with_reducible refine wE_cb cbd_any ?_
  | with_reducible refine wE_cb cbd_sum ?_
  | with_reducible refine wE_cb cbd_lcm ?_
  | with_reducible refine wE_sortRev ?_
  | with_reducible refine wE_callD ?_
  | with_reducible refine wE_cb cbd_tup ?_
  | with_reducible refine wE_cb cbd_list ?_
  | with_reducible refine wE_cb cbd_str ?_
  | with_reducible refine wE_cb cbd_int ?_
  | with_reducible refine wE_cb cbd_abs ?_
  | with_reducible refine wE_cb cbd_min2 ?_
  | with_reducible refine wE_cb cbd_max2 ?_
  | with_reducible refine wE_cb cbd_minL ?_
  | with_reducible refine wE_cb cbd_maxL ?_
  | with_reducible refine wE_cb cbd_sortT ?_
  | with_reducible refine wE_dgetI ?_
  | ((with_reducible show wE _ (tOp (rKdNot _ _ _) _ (tVar _)) _ _); refine wE_kdNot ⟨_, _, rfl⟩ ?_)
  | ((with_reducible show wE _ (tKdGet _ _ _ (tVar _) _) _ _); refine wE_kdGet ⟨_, _, rfl⟩ ?_)
  | with_reducible refine wE_cb cbd_repr ?_
  | with_reducible refine wE_cb cbd_reprA ?_
  | with_reducible refine wE_cb cbd_reprQ ?_
  | with_reducible refine wE_cb cbd_isX ?_
  | with_reducible refine wE_fldX ?_
  | with_reducible refine wE_mt mtd_count ty_of ?_
  | with_reducible refine wE_mt mtd_index ty_of ?_
  | with_reducible refine wE_sortSet ?_
  | with_reducible refine wE_sortSetV ?_
  | with_reducible refine wE_sortSetT ?_
  | with_reducible refine wE_cb cbd_divmod ?_
  | with_reducible refine wE_un und_neg ?_
  | with_reducible refine wE_sl sld_sl ?_
  | with_reducible refine wO_none ?_
  | with_reducible refine wO_some ?_
  | with_reducible refine wE_op opd_is ?_
  | with_reducible refine wE_op opd_not ?_
  | with_reducible refine wE_op opd_sign ?_
  | with_reducible refine wE_op opd_notSign ?_
  | with_reducible refine wE_mt mtd_joinK ty_of ?_
  | with_reducible refine wE_mt mtd_splitK ty_of ?_
  | with_reducible refine wE_mt0 mtd_strB ty_of ?_
  | with_reducible refine wE_joined ?_
  | with_reducible refine wJ_cons ?_
  | with_reducible refine wJ_nil ?_
  | with_reducible refine wE_fmt ?_
  | with_reducible refine wE_propD ?_
  | with_reducible refine wE_fld ?_
  | with_reducible refine wE_cb cbd_strO ?_
  | with_reducible refine wE_cb cbd_lenOwn ?_
  | with_reducible refine wE_cb cbd_boolOwn ?_
  | with_reducible refine wE_makeD ?_
  | with_reducible refine wE_methD ?_
  | with_reducible refine wE_cmethD ?_
  | ((with_reducible show wS _ (tPar _ _ (tCons (tLst _) (tCons (tC (V.int _)) tNil))) _ _); refine wS_parOwnC (by decide) ?_)
  | with_reducible refine wS_parRgOwn ?_
  | with_reducible refine wS_par ?_
  | ((with_reducible show wE _ (tBM _ _ rPopAt (tVar _) _) _ _); refine wE_pop ?_ ⟨_, _, rfl⟩)
  | with_reducible refine wE_op opd_eqO ?_
  | with_reducible refine wE_op opd_neO ?_
  | with_reducible refine wE_op opd_inO ?_
  | with_reducible refine wE_revT ?_
  | with_reducible refine wE_revL ?_
  | with_reducible refine wE_tupRg ?_
  | with_reducible refine wE_dnew ?_
  | with_reducible refine wE_dget2 ?_
  | with_reducible refine wE_disp1 ?_
  | ((with_reducible show wE _ (tOp (rIn _ _) _ (tVar _)) _ _); refine wE_opOwn opd_inS ⟨_, _, rfl⟩ ?_)
  | with_reducible refine wE_op opd_inS ?_)
local macro_rules | `(tactic| walk_at "dl3") => `(tactic| first
  | with_reducible refine ifT ?_
  | with_reducible refine ifF ?_
  | with_reducible refine ifNT ?_
  | with_reducible refine ifNF ?_
  | ((with_reducible show if decide _ = true then _ else _); (first | refine ifP (by first | assumption | omega | decide) ?_ | refine ifN (by first | assumption | omega | decide) ?_))
  | ((with_reducible show if (!decide _) = true then _ else _); (first | refine ifNP (by first | assumption | omega | decide) ?_ | refine ifNN (by first | assumption | omega | decide) ?_))
  | ((with_reducible show ∃ (_ : Option Addr) (_ : Int), _); refine ⟨_, _, _, _, rfl, rfl, rfl, ?_⟩)
  | ((with_reducible show (_ : D) = _ ∧ _); with_reducible refine And.intro rfl ?_)
  | with_reducible refine ex_bl ?_
  | with_reducible refine And.intro isTy_s ?_
  | with_reducible refine str0G_s ?_
  | with_reducible refine isG_t ?_
  | with_reducible refine isG_n ?_
  | with_reducible refine isG_s ?_
  | with_reducible refine ex_int ?_
  | with_reducible refine ex_str ?_
  | with_reducible refine leG_i ?_
  | with_reducible refine ltG_i ?_
  | with_reducible refine gtG_i ?_
  | with_reducible refine geG_i ?_
  | with_reducible refine subG_i ?_
  | with_reducible refine addG_i ?_
  | with_reducible refine eqG_i ?_
  | with_reducible refine neG_i ?_
  | with_reducible refine eqG_ss ?_
  | with_reducible refine neG_ss ?_
  | with_reducible refine eqG_bb ?_
  | with_reducible refine neG_bb ?_
  | with_reducible refine unG_i ?_
  | with_reducible refine lenG_l ?_
  | with_reducible refine lenG_t ?_
  | with_reducible refine lenG_c ?_
  | with_reducible refine tupG_l ?_
  | with_reducible refine tupG_t ?_
  | with_reducible refine listG_l ?_
  | with_reducible refine listG_t ?_
  | with_reducible refine intOfG_i ?_
  | with_reducible refine strG_s ?_
  | with_reducible refine minG_i ?_
  | with_reducible refine maxG_i ?_
  | with_reducible refine absG_i ?_
  | with_reducible refine isiG_int ?_
  | with_reducible refine isiG_intb ?_
  | with_reducible refine isiG_str ?_
  | with_reducible refine isiG_tup ?_
  | with_reducible refine slG_l ?_
  | with_reducible refine slG_t ?_
  | with_reducible refine slG_c ?_
  | ((with_reducible show modG (.int _) (.int _) _); refine modG_i (by first | decide | omega) ?_)
  | ((with_reducible show fdivG (.int _) (.int _) _); refine fdivG_i (by first | decide | omega) (by first | decide | omega) ?_)
  | ((with_reducible show powG (.int _) (.int _) _); refine powG_i ⟨by decide, by decide, by decide⟩ ?_)
  | ((with_reducible show mulG (.int _) (.int _) _); refine mulG_i (by first | exact MulC.right (by decide) (by decide) | exact MulC.left (by decide) (by decide) | exact MulC.left (by omega) (by omega) | exact MulC.right (by omega) (by omega)) ?_)
  | ((with_reducible show mulAG (.int _) (.int _) _); refine And.intro (by first | exact MulC.right (by decide) (by decide) | exact MulC.left (by decide) (by decide) | exact MulC.left (by omega) (by omega) | exact MulC.right (by omega) (by omega)) ?_)
  | ((with_reducible show mulAG (.tup (_ :: _)) (.int _) _); refine mulAG_t (List.cons_ne_nil _ _) (by decide) (by decide) (by simp) ?_)
  | ((with_reducible show mulAG (.lst _) (.int _) _); refine mulAG_l (by decide) (by decide) (by simp) ?_)
  | ((with_reducible show ixG (.lst _) (.int 0) _); refine ixG_l0 rfl ?_)
  | ((with_reducible show ixG (.lst _) (.int 1) _); refine ixG_l1 rfl ?_)
  | ((with_reducible show ixG (.lst _) (.int 2) _); refine ixG_l2 rfl ?_)
  | ((with_reducible show ixG (.lst _) (.int 3) _); refine ixG_l3 rfl ?_)
  | ((with_reducible show ixG (.tup _) (.int 0) _); refine ixG_t0 rfl ?_)
  | ((with_reducible show ixG (.tup _) (.int 1) _); refine ixG_t1 rfl ?_)
  | ((with_reducible show ixG (.tup _) (.int 2) _); refine ixG_t2 rfl ?_)
  | ((with_reducible show ixG (.tup _) (.int 3) _); refine ixG_t3 rfl ?_)
  | ((with_reducible show ixG (.tup (_ :: _)) (.int _) _); refine ixG_t rfl ?_)
  | ((with_reducible show ixG (.lst (_ :: _)) (.int _) _); refine ixG_l rfl ?_))
local macro_rules | `(tactic| walk_at "dl") => `(tactic| repeat (first | walk_at "dl1" | walk_at "dl2" | walk_at "dl3"))
local macro_rules | `(tactic| walk_at "dl1o") => `(tactic| first
  | with_reducible refine wS_seq ?_
  | with_reducible refine wS_if ?_
  | with_reducible refine wS_next ?_
  | with_reducible refine wS_retN ?_
  | with_reducible refine wS_retOwn ?_
  | ((with_reducible show wS _ (tDrop (tBM _ _ rAppend (tVar _) _)) _ _); refine wS_append ?_ ⟨_, _, rfl⟩)
  | with_reducible refine wS_raise ?_
  | with_reducible refine wS_tryMk ?_
  | with_reducible refine wS_drop ?_
  | with_reducible refine wS_fld ?_
  | with_reducible refine wS_asgOwn ?_
  | with_reducible refine wS_asgKd ?_
  | with_reducible refine wS_asgRgOwn ?_
  | with_reducible refine wS_asg ?_
  | with_reducible refine wS_brk ?_
  | with_reducible refine wS_cont ?_
  | with_reducible refine wG_name ?_
  | ((with_reducible refine wG_tup ?_); refine ⟨_, rfl, rfl, ?_⟩)
  | ((with_reducible refine wG_lstT ?_); refine ⟨_, rfl, rfl, ?_⟩)
  | ((with_reducible show wG _ (gSub (tVar _) _ rSetL) _ _ _); refine wG_subOwn ⟨_, _, rfl⟩ ?_)
  | with_reducible refine wGs_cons ?_
  | with_reducible refine wGs_nil ?_
  | with_reducible refine wT_not ?_
  | with_reducible refine wT_and ?_
  | with_reducible refine wT_or ?_
  | with_reducible refine wT_test ?_
  | with_reducible refine wT_B ?_
  | with_reducible refine wT_yes ?_
  | with_reducible refine wA_nil ?_
  | with_reducible refine wA_cons ?_)
local macro_rules | `(tactic| walk_at "dlo") => `(tactic| repeat (first | walk_at "dl1o" | walk_at "dl2" | walk_at "dl3"))
local macro_rules | `(tactic| walk_at "dls") => `(tactic| repeat (first | walk_at "dl1" | walk_at "dl2" | walk_at "dl3" | (with_reducible show List.length _ ≤ _ ∧ _; refine And.intro (by simp; done) ?_)))
local macro_rules | `(tactic| walk_at "dlt") => `(tactic| repeat (first | walk_at "dl1" | walk_at "dl2" | walk_at "dl3" | refine isiG_tr rfl (by decide) (by decide) ?_ | refine isiG_f rfl (by decide) (by decide) ?_ | (with_reducible show List.length _ ≤ _ ∧ _; refine And.intro (by simp; done) ?_)))

/-! ### kinds, of values of any kind -/
mutual
/-- plain data, of bounded sizes -/
def okD : D → Bool
  | .non => true
  | .bl _ => true
  | .int _ => true
  | .str x => decide (x.length ≤ 1000000) && PyData.strOk x
  | .tup l => decide (l.length ≤ 1000000) && okAll l
  | .lst l => decide (l.length ≤ 1000000) && okAll l
  | .dic _ => true
  | .ins _ _ => false
  | .pail => false
  | .scr _ => false
  | .raw _ => false
  | .exn _ _ _ => false
  | .dik _ => false
  | .kd _ _ _ _ => false
def okAll : List D → Bool
  | [] => true
  | d :: l => okD d && okAll l
end
theorem okAll_mem : ∀ {l : List D}, okAll l = true → ∀ d ∈ l, okD d = true
  | [], _, _, h => by cases h
  | a :: l, h, d, hd => by
    simp only [okAll, Bool.and_eq_true] at h
    rcases List.mem_cons.mp hd with e | e
    · rw [e]; exact h.1
    · exact okAll_mem h.2 d e
theorem okAll_of : ∀ {l : List D}, (∀ d ∈ l, okD d = true) → okAll l = true
  | [], _ => rfl
  | a :: l, h => by
    simp only [okAll, Bool.and_eq_true]
    exact ⟨h a List.mem_cons_self, okAll_of fun d hd => h d (List.mem_cons_of_mem _ hd)⟩
theorem ok_tup {l : List D} (h : okD (.tup l) = true) : l.length ≤ 1000000 ∧ ∀ d ∈ l, okD d = true := by
  simp only [okD, Bool.and_eq_true, decide_eq_true_eq] at h
  exact ⟨h.1, okAll_mem h.2⟩
theorem if_no {b : Bool} {A B : Prop} (h : b = false) (q : B) : if b = true then A else B := by rw [h, if_neg Bool.false_ne_true]; exact q
theorem if_yes {b : Bool} {A B : Prop} (h : b = true) (q : A) : if b = true then A else B := by rw [h, if_pos rfl]; exact q
def gInt : D → Bool
  | .int _ => true
  | _ => false
def gBet (d : D) (lo hi : Int) : Bool := match d with
  | .int i => decide (lo ≤ i) && decide (i ≤ hi)
  | _ => false
def gIdx (d : D) (n : Int) : Bool := match d with
  | .int i => decide (0 ≤ i) && decide (i < n)
  | _ => false
def gTupN (d : D) (n : Int) : Bool := match d with
  | .tup l => decide ((l.length : Int) = n)
  | _ => false
local macro_rules | `(tactic| walk_at "dlk") => `(tactic| repeat (first | walk_at "dl1" | walk_at "dl2" | walk_at "dl3" | refine isiG_tr rfl (by decide) (by decide) ?_ | refine isiG_f rfl (by decide) (by decide) ?_))
/-! ### the mathematics of nights -/
def letters : Str := "abcdefghijklmnopqrstuvwxyz"
def lettersD : Str := "abcdefghijklmnopqrstuvwxyz0123456789"
structure NameOk (z : Str) : Prop where
  l1 : 1 ≤ z.length
  l8 : z.length ≤ 8
  hd : ∃ c, z.cps.toList[0]? = some c ∧ c ∈ letters.cps.toList
  al : ∀ c ∈ z.cps.toList, c ∈ lettersD.cps.toList
theorem lettersD_small : ∀ c ∈ lettersD.cps.toList, c < 128 := by decide +kernel
theorem NameOk.ok {z : Str} (h : NameOk z) : PyData.strOk z = true := by
  simp only [PyData.strOk, Array.all_eq_true', decide_eq_true_eq]
  intro c hc
  exact Nat.lt_trans (lettersD_small c (h.al c (by simpa using hc))) (by decide)
structure DivOk (ns : List Int) : Prop where
  l1 : 1 ≤ ns.length
  l2 : ns.length ≤ 12
  b : ∀ n ∈ ns, 1 ≤ n ∧ n ≤ 100
  up : ns.Pairwise (· < ·)
structure FolkOk (l : List (Str × Int)) : Prop where
  l1 : 1 ≤ l.length
  l2 : l.length ≤ 6
  b : ∀ p ∈ l, NameOk p.1 ∧ 0 ≤ p.2 ∧ p.2 ≤ 1000000
  nd : (l.map (·.1)).Nodup
structure HeapOk (names : List Str) (p : Int × List Str) : Prop where
  b1 : 0 ≤ p.1
  b2 : p.1 ≤ 1000000
  ne : p.2 ≠ []
  sub : p.2.Sublist names
structure HeapsOk (names : List Str) (l : List (Int × List Str)) : Prop where
  l2 : l.length ≤ 6
  b : ∀ p ∈ l, HeapOk names p
def partyD (p : Str × Int) : D := .tup [.str p.1, .int p.2]
def pileD (p : Int × List Str) : D := .tup [.int p.1, .tup (p.2.map .str)]
def divsD (ns : List Int) : D := .tup (ns.map .int)
def folkD (l : List (Str × Int)) : D := .tup (l.map partyD)
def heapsD (l : List (Int × List Str)) : D := .tup (l.map pileD)
theorem allG_map {α : Type} {xs : List α} {q : α → Bool} {Φ : D → Prop} (h : Φ (.bl (xs.all q))) : allG [.lst (xs.map fun x => .bl (q x))] Φ := ⟨xs.map q, by rw [List.map_map]; rfl, by rw [List.all_map]; exact h⟩
section
variable {P : Program} {w : World} {K : PySem.W.Frag} {mg : Str → Option Value} {base : Heap} {f : Addr} {fd : FuncData}
def G_is_integer : DSp := fun ds Φ _ => ∃ d, ds = [d] ∧ okD d = true ∧ Φ (.bl (gInt d))
abbrev s_is_integer : Stmt := topS 14
abbrev N_is_integer : List Str := ["value"]
theorem sc_is_integer : FnScope N_is_integer ["value"] (defScope s_is_integer) := ⟨rfl, rfl, rfl, by decide +kernel, rfl, by decide +kernel, by decide +kernel⟩

theorem ok_is_integer (F : FunX K "is_integer" "is_integer" s_is_integer f fd) (B : Blt mg) : FnG P w K mg base 1 f fd ["value"] (lift K G_is_integer) := by
  refine fnX_of F sc_is_integer (fun ds Φ Ψ ⟨_, h, _⟩ => by rw [h]; rfl) fun cdv A outer s H E b => ⟨_, (pss_one (ps_ret (pe_and (pe_callB (k_isi K) (by rfl) B.isinstance bb_isinstance (pa_cons (pv 0) (pa_cons (pe_bty B.int bb_int) pa_nil))) (pe_one (pe_not (pe_callB (k_isi K) (by rfl) B.isinstance bb_isinstance (pa_cons (pv 0) (pa_cons (pe_bty B.bool bb_bool) pa_nil)))))))), fun ds Φ Ψ ⟨d, h, hd, q⟩ => ?_⟩
  subst h
  show wS _ _ _ [some (.dat _)]
  cases d <;> first | (simp [okD] at hd; done) | skip
  all_goals walk_at "dlk"
  all_goals exact q
def G_is_between : DSp := fun ds Φ _ => ∃ (d : D) (lo hi : Int), ds = [d, .int lo, .int hi] ∧ okD d = true ∧ Φ (.bl (gBet d lo hi))
abbrev s_is_between : Stmt := topS 15
abbrev N_is_between : List Str := ["value", "least", "most"]
theorem sc_is_between : FnScope N_is_between ["value", "least", "most"] (defScope s_is_between) := ⟨rfl, rfl, rfl, by decide +kernel, rfl, by decide +kernel, by decide +kernel⟩

theorem ok_is_between (F : FunX K "is_between" "is_between" s_is_between f fd) (c_is_integer : CallD P w K mg base "is_integer" 1 G_is_integer) : FnG P w K mg base 2 f fd ["value", "least", "most"] (lift K G_is_between) := by
  refine fnX_of F sc_is_between (fun ds Φ Ψ ⟨_, _, _, h, _⟩ => by rw [h]; rfl) fun cdv A outer s H E b => ⟨_, (pss_one (ps_ret (pe_and (k_cd K c_is_integer (by exact b.room) (by decide) b.pass (pa_cons (pv 0) pa_nil)) (pe_one (pe_chain op_le op_le (pv 1) (pv 0) (pv 2)))))), fun ds Φ Ψ ⟨d, lo, hi, h, hd, q⟩ => ?_⟩
  subst h
  show wS _ _ _ [some (.dat _), some (.dat _), some (.dat _)]
  walk_at "dl"
  refine ⟨d, rfl, hd, ?_⟩
  walk_at "dl"
  cases d <;> first | (simp [okD] at hd; done) | skip
  all_goals first | exact if_no rfl q | skip
  refine if_yes rfl ?_
  rename_i i _
  change Φ (.bl (decide (lo ≤ i) && decide (i ≤ hi))) at q
  by_cases h1 : lo ≤ i
  · rw [decide_eq_true h1, Bool.true_and] at q
    walk_at "dl"
    exact q
  · rw [decide_eq_false h1, Bool.false_and] at q
    walk_at "dl"
    exact q
def nameB (z : Str) : Bool := decide (1 ≤ z.length) && decide (z.length ≤ 8) && ((z.cps.toList.head?).any fun c => decide (c ∈ letters.cps.toList)) && z.cps.toList.all fun c => decide (c ∈ lettersD.cps.toList)
def gName : D → Bool
  | .str z => nameB z
  | _ => false
end


local macro_rules | `(tactic| walk_at "dlk") => `(tactic| repeat (first | walk_at "dl1" | walk_at "dl2" | walk_at "dl3" | refine isiG_tr rfl (by decide) (by decide) ?_ | refine isiG_f rfl (by decide) (by decide) ?_))
section
variable {P : Program} {w : World} {K : PySem.W.Frag} {mg : Str → Option Value} {base : Heap} {f : Addr} {fd : FuncData}
/-- a row of whole numbers -/
def dInt : D → Int
  | .int i => i
  | _ => 0
def upI (ns : List Int) : Bool := (ns.zip (ns.drop 1)).all fun p => decide (p.1 < p.2)
def gDivs : D → Bool
  | .tup l => decide (1 ≤ l.length) && decide (l.length ≤ 12) && (l.all fun d => gBet d 1 100) && upI (l.map dInt)
  | _ => false
theorem ints_all {lo hi : Int} : ∀ {l : List D}, (l.all fun d => gBet d lo hi) = true → l = (l.map dInt).map D.int
  | [], _ => rfl
  | d :: l, h => by
    rw [List.all_cons, Bool.and_eq_true] at h
    obtain ⟨h1, h2⟩ := h
    rw [List.map_cons, List.map_cons, ← ints_all h2]
    cases d <;> first | (exact absurd h1 Bool.false_ne_true) | rfl
def G_is_divisors : DSp := fun ds Φ _ => ∃ d, ds = [d] ∧ okD d = true ∧ Φ (.bl (gDivs d))
abbrev s_is_divisors : Stmt := topS 16
abbrev N_is_divisors : List Str := ["value", "item", "low", "high"]
theorem sc_is_divisors : FnScope N_is_divisors ["value"] (defScope s_is_divisors) := ⟨rfl, rfl, rfl, by decide +kernel, rfl, by decide +kernel, by decide +kernel⟩

theorem ok_is_divisors (F : FunX K "is_divisors" "is_divisors" s_is_divisors f fd) (B : Blt mg) (c_MOST_SEATS : GInt mg "MOST_SEATS" 12) (c_MOST_DIVISOR : GInt mg "MOST_DIVISOR" 100) (c_is_between : CallD P w K mg base "is_between" 2 G_is_between) : FnG P w K mg base 3 f fd ["value"] (lift K G_is_divisors) := by
  refine fnX_of F sc_is_divisors (fun ds Φ Ψ ⟨_, h, _⟩ => by rw [h]; rfl) fun cdv A outer s H E b => ⟨_, (pss_cons (ps_if (PW.pt (pw_or (pt_not (pt_val (pe_callB (k_isi K) (by rfl) B.isinstance bb_isinstance (pa_cons (pv 0) (pa_cons (pe_bty B.tuple bb_tuple) pa_nil))))) (pw_or1 (pt_not (pt_chain op_le op_le pe_int (pe_callB (k_len K) (by rfl) B.len bb_len (pa_cons (pv 0) pa_nil)) (pe_gi c_MOST_SEATS)))))) (pss_one (ps_ret pe_bl)) pss_nil)
 (pss_cons (ps_if (pt_not (pt_val (pe_callB (k_all K rfl) (by rfl) B.all bb_all (pa_cons (pe_lc (own := [("item", 1)]) rfl sc_is_divisors.nd (k_any K (pv 0)) (blkOk_by (own := [("item", 1)]) (N := N_is_divisors) (sc := defScope s_is_divisors) (by decide +kernel))  (fun _ _ _ _ _ => (pg_name (i := 1) sc_is_divisors.nd rfl (by first | exact .inl rfl | exact .inr rfl))) (fun _ _ _ _ _ => pts_nil) (fun _ _ _ _ _ => (k_cd K c_is_between (by exact b.room) (by decide) passN (pa_cons (pv 1) (pa_cons pe_int (pa_cons (pe_gi c_MOST_DIVISOR) pa_nil)))))) pa_nil)))) (pss_one (ps_ret pe_bl)) pss_nil)
 (pss_one (ps_ret (pe_callB (k_all K rfl) (by rfl) B.all bb_all (pa_cons (pe_lc (own := [("low", 2), ("high", 3)]) rfl sc_is_divisors.nd (k_zip K (by rfl) B.zip (pa_cons (pv 0) (pa_cons (pe_slice (k_sl K) (pv 0) (po_some pe_int) po_none) pa_nil))) (blkOk_by (own := [("low", 2), ("high", 3)]) (N := N_is_divisors) (sc := defScope s_is_divisors) (by decide +kernel))  (fun _ _ _ _ _ => (k_pg K (n := 2) rfl (pgs_cons (pg_name (i := 2) sc_is_divisors.nd rfl (by first | exact .inl rfl | exact .inr rfl)) (pgs_cons (pg_name (i := 3) sc_is_divisors.nd rfl (by first | exact .inl rfl | exact .inr rfl)) pgs_nil)))) (fun _ _ _ _ _ => pts_nil) (fun _ _ _ _ _ => (pe_cmpR op_lt (pv 2) (pv 3) (nomark _)))) pa_nil)))))), fun ds Φ Ψ ⟨d, h, hd, q⟩ => ?_⟩
  subst h
  show wS _ _ _ [some (.dat _), none, none, none]
  cases d <;> first | (simp [okD] at hd; done) | skip
  all_goals first | (walk_at "dlk"; exact q; done) | skip
  rename_i l _
  obtain ⟨hz, hok⟩ := ok_tup hd
  change Φ (.bl (decide (1 ≤ l.length) && decide (l.length ≤ 12) && (l.all fun d => gBet d 1 100) && upI (l.map dInt))) at q
  by_cases l1 : 1 ≤ l.length
  · rw [decide_eq_true l1, Bool.true_and] at q
    by_cases l2 : l.length ≤ 12
    · rw [decide_eq_true l2, Bool.true_and] at q
      walk_at "dlk"
      refine wE_lcM (only_name List.mem_cons_self) (fun d : D => d) (fun d => .bl (gBet d 1 100)) (wI_any ?_)
      walk_at "dlk"
      refine ⟨_, rfl, l, (List.map_id' _).symm, by omega, fun d hm => ?_, ?_⟩
      · walk_at "dlk"
        exact ⟨d, 1, 100, rfl, hok d hm, rfl⟩
      walk_at "dlk"
      refine allG_map (q := fun d => gBet d 1 100) ?_
      by_cases ha : (l.all fun d => gBet d 1 100) = true
      · rw [ha, Bool.true_and] at q
        rw [ha]
        have e := ints_all ha
        generalize hns : l.map dInt = ns at e q
        subst e
        have hln : (ns.map D.int).length = ns.length := List.length_map _
        walk_at "dlk"
        refine wE_lcM (only_pair List.mem_cons_self (List.mem_cons_of_mem _ List.mem_cons_self)) (fun p : Int × Int => .tup [.int p.1, .int p.2]) (fun p => .bl (decide (p.1 < p.2))) (wI_zipT ?_)
        walk_at "dlk"
        refine ⟨_, _, rfl, ns.zip (ns.drop 1), ?_, by rw [List.length_zip]; omega, fun p hp => ?_, ?_⟩
        · rw [cut_from1, ← List.map_drop, zipD_map]
        · walk_at "dlk"
          rfl
        walk_at "dlk"
        exact allG_map q
      · have ha := (Bool.not_eq_true _).mp ha
        rw [ha, Bool.false_and] at q
        rw [ha]
        walk_at "dlk"
        exact q
    · rw [decide_eq_false l2, Bool.false_and, Bool.false_and] at q
      walk_at "dlk"
      exact q
  · rw [decide_eq_false l1, Bool.false_and, Bool.false_and, Bool.false_and] at q
    walk_at "dlk"
    exact q
end


/-! ### rows of divisors, held against one another -/
theorem up_ok : ∀ {ns : List Int}, upI ns = true ↔ ns.Pairwise (· < ·)
  | [] => by simp [upI]
  | [a] => by simp [upI]
  | a :: b :: l => by
    have ih := up_ok (ns := b :: l)
    have e : upI (a :: b :: l) = (decide (a < b) && upI (b :: l)) := rfl
    rw [e, Bool.and_eq_true, ih, List.pairwise_cons (a := a), decide_eq_true_eq]
    constructor
    · rintro ⟨h1, h2⟩
      refine ⟨fun x hx => ?_, h2⟩
      rcases List.mem_cons.mp hx with rfl | hx
      · exact h1
      · exact Int.lt_trans h1 ((List.pairwise_cons.mp h2).1 x hx)
    · rintro ⟨h1, h2⟩
      exact ⟨h1 b List.mem_cons_self, h2⟩
theorem dInt_map (ns : List Int) : (ns.map D.int).map dInt = ns := by rw [List.map_map]; exact List.map_id' _
theorem divs_ok {ns : List Int} : gDivs (divsD ns) = true ↔ DivOk ns := by
  unfold divsD gDivs
  simp only [Bool.and_eq_true, decide_eq_true_eq, List.length_map, dInt_map, up_ok, List.all_map]
  constructor
  · rintro ⟨⟨⟨h1, h2⟩, h3⟩, h4⟩
    refine ⟨h1, h2, fun n hn => ?_, h4⟩
    have := List.all_eq_true.mp h3 n hn
    simp only [Function.comp_apply, gBet, Bool.and_eq_true, decide_eq_true_eq] at this
    exact this
  · rintro ⟨h1, h2, h3, h4⟩
    refine ⟨⟨⟨h1, h2⟩, List.all_eq_true.mpr fun n hn => ?_⟩, h4⟩
    have := h3 n hn
    simp only [Function.comp_apply, gBet, Bool.and_eq_true, decide_eq_true_eq]
    exact this
def divsOf : D → List Int
  | .tup l => l.map dInt
  | _ => []
theorem divs_of {x : D} (h : gDivs x = true) : x = divsD (divsOf x) ∧ DivOk (divsOf x) := by
  have e : x = divsD (divsOf x) := by
    cases x <;> first | (exact absurd h Bool.false_ne_true) | skip
    rename_i l
    have h2 := h
    simp only [gDivs, Bool.and_eq_true] at h2
    exact congrArg D.tup (ints_all h2.1.2)
  refine ⟨e, divs_ok.mp ?_⟩
  rw [← e]
  exact h
theorem divs_right {ns : List Int} (h : DivOk ns) : gDivs (divsD ns) = true ∧ divsOf (divsD ns) = ns := ⟨divs_ok.mpr h, dInt_map ns⟩
def lenD : D → Nat
  | .tup l => l.length
  | _ => 0
/-- the error that two rows, and a number of parties, give -/
def rulesErr (CD CN CO : Addr) (x y z : D) : Option Exn :=
  if gDivs x = true then (if gDivs y = true then (if gBet z 2 6 = true then (if lenD x = lenD y then none else some ⟨CO, [("given", y)]⟩) else some ⟨CN, [("given", z)]⟩) else some ⟨CD, [("given", y)]⟩) else some ⟨CD, [("given", x)]⟩
structure RulesOk (ns ms : List Int) (k : Int) : Prop where
  a : DivOk ns
  b : DivOk ms
  l : ms.length = ns.length
  k2 : 2 ≤ k
  k6 : k ≤ 6
theorem bet_int {v : D} {lo hi : Int} (h : gBet v lo hi = true) : v = .int (dInt v) ∧ lo ≤ dInt v ∧ dInt v ≤ hi := by
  cases v <;> first | (cases h; done) | skip
  simp only [gBet, Bool.and_eq_true, decide_eq_true_eq] at h
  exact ⟨rfl, h⟩
theorem lenD_divs (ns : List Int) : lenD (divsD ns) = ns.length := List.length_map _
theorem rules_none {CD CN CO : Addr} {x y z : D} (h : rulesErr CD CN CO x y z = none) : ∃ ns ms k, x = divsD ns ∧ y = divsD ms ∧ z = .int k ∧ RulesOk ns ms k := by
  unfold rulesErr at h
  split at h
  · rename_i h1
    split at h
    · rename_i h2
      split at h
      · rename_i h3
        split at h
        · rename_i h4
          obtain ⟨e1, d1⟩ := divs_of h1
          obtain ⟨e2, d2⟩ := divs_of h2
          obtain ⟨e3, k2, k6⟩ := bet_int h3
          rw [e1, e2, lenD_divs, lenD_divs] at h4
          exact ⟨_, _, _, e1, e2, e3, d1, d2, h4.symm, k2, k6⟩
        · cases h
      · cases h
    · cases h
  · cases h
theorem rules_right {CD CN CO : Addr} {ns ms : List Int} {k : Int} (h : RulesOk ns ms k) : rulesErr CD CN CO (divsD ns) (divsD ms) (.int k) = none := by
  unfold rulesErr
  rw [if_pos (divs_right h.a).1, if_pos (divs_right h.b).1, if_pos (by show (decide (2 ≤ k) && decide (k ≤ 6)) = true; rw [decide_eq_true h.k2, decide_eq_true h.k6]; rfl), if_pos (by rw [lenD_divs, lenD_divs, h.l])]
/-- all pairs of numbers -/
def prs (n : Nat) : List (Int × Int) := (List.range n).flatMap fun i => (List.range (n - 1 - i)).map fun (j : Nat) => ((1 : Int) + (i : Int), (1 : Int) + (i : Int) + 1 + (j : Int))
def nearB (n : Nat) (k : Int) (p : Int × Int) : Bool := if k = 2 then decide (p.1 + p.2 = (n : Int) + 1) else decide (p.1 + p.2 ≤ (n : Int) + 1)
def numsFor (n : Nat) (k : Int) : List (Int × Int) := (prs n).filter (nearB n k)
def pairD (p : Int × Int) : D := .tup [.int p.1, .int p.2]
/-- the divisor with this number -/
def at1 (ns : List Int) (k : Int) : Int := ns.getD (k - 1).toNat 0
/-- the rows part at this pair -/
def partB (ns ms : List Int) (p : Int × Int) : Bool := !decide (at1 ns p.1 * at1 ms p.2 = at1 ms p.1 * at1 ns p.2)
def partsAt (ns ms : List Int) (k : Int) : List (Int × Int) := (numsFor ns.length k).filter (partB ns ms)
def pairsD (l : List (Int × Int)) : D := .tup (l.map pairD)
theorem prs_mem {n : Nat} {p : Int × Int} (h : p ∈ prs n) : 1 ≤ p.1 ∧ p.1 < p.2 ∧ p.2 ≤ n := by
  unfold prs at h
  obtain ⟨i, hi, h⟩ := List.mem_flatMap.mp h
  obtain ⟨j, hj, rfl⟩ := List.mem_map.mp h
  have := List.mem_range.mp hi
  have := List.mem_range.mp hj
  refine ⟨?_, ?_, ?_⟩ <;> simp only <;> omega
theorem nums_mem {n : Nat} {k : Int} {p : Int × Int} (h : p ∈ numsFor n k) : 1 ≤ p.1 ∧ p.1 < p.2 ∧ p.2 ≤ n := prs_mem (List.mem_filter.mp h).1
theorem prs_len {n : Nat} (h : n ≤ 12) : (prs n).length ≤ 66 := by
  match n, h with
  | 0, _ => decide
  | 1, _ => decide
  | 2, _ => decide
  | 3, _ => decide
  | 4, _ => decide
  | 5, _ => decide
  | 6, _ => decide
  | 7, _ => decide
  | 8, _ => decide
  | 9, _ => decide
  | 10, _ => decide
  | 11, _ => decide
  | 12, _ => decide
  | n + 13, h => omega
theorem at1_get {ns : List Int} {k : Int} (h1 : 1 ≤ k) (h2 : k ≤ ns.length) : ns[(k - 1).toNat]? = some (at1 ns k) := by
  have : (k - 1).toNat < ns.length := by omega
  unfold at1
  rw [List.getD_eq_getElem?_getD, List.getElem?_eq_getElem this]
  rfl
theorem at1_mem {ns : List Int} {k : Int} (h1 : 1 ≤ k) (h2 : k ≤ ns.length) : at1 ns k ∈ ns := List.mem_of_getElem? (at1_get h1 h2)
theorem at1_bd {ns : List Int} (h : DivOk ns) {k : Int} (h1 : 1 ≤ k) (h2 : k ≤ ns.length) : 1 ≤ at1 ns k ∧ at1 ns k ≤ 100 := h.b _ (at1_mem h1 h2)
theorem at1_up {ns : List Int} (h : DivOk ns) {j k : Int} (h1 : 1 ≤ j) (h2 : j < k) (h3 : k ≤ ns.length) : at1 ns j < at1 ns k := by
  have a1 := at1_get (ns := ns) h1 (by omega)
  have a2 := at1_get (ns := ns) (k := k) (by omega) h3
  obtain ⟨l1, e1⟩ := List.getElem?_eq_some_iff.mp a1
  obtain ⟨l2, e2⟩ := List.getElem?_eq_some_iff.mp a2
  rw [← e1, ← e2]
  exact List.pairwise_iff_getElem.mp h.up _ _ l1 l2 (by omega)
section
variable {P : Program} {w : World} {K : PySem.W.Frag} {mg : Str → Option Value} {base : Heap} {f CD CN CO : Addr} {fd : FuncData}
def G_check_divisors (CD : Addr) : DSp := fun ds Φ Ψ => ∃ d, ds = [d] ∧ okD d = true ∧ if gDivs d = true then Φ .non else Ψ ⟨CD, [("given", d)]⟩
abbrev s_check_divisors : Stmt := topS 18
abbrev N_check_divisors : List Str := ["divisors"]
theorem sc_check_divisors : FnScope N_check_divisors ["divisors"] (defScope s_check_divisors) := ⟨rfl, rfl, rfl, by decide +kernel, rfl, by decide +kernel, by decide +kernel⟩

theorem ok_check_divisors (F : FunX K "check_divisors" "check_divisors" s_check_divisors f fd) (c_is_divisors : CallD P w K mg base "is_divisors" 3 G_is_divisors) (c_InvalidDivisors : XMk P w K mg base "InvalidDivisors" "given" CD) : FnG P w K mg base 4 f fd ["divisors"] (lift K (G_check_divisors CD)) := by
  refine fnX_of F sc_check_divisors (fun ds Φ Ψ ⟨_, h, _⟩ => by rw [h]; rfl) fun cdv A outer s H E b => ⟨_, (pss_one (ps_if (pt_not (pt_val (k_cd K c_is_divisors (by exact b.room) (by decide) b.pass (pa_cons (pv 0) pa_nil)))) (pss_one (k_raise K c_InvalidDivisors (by exact b.room) (by decide) rfl (takes_of rfl rfl rfl rfl) (pa_cons (pv 0) pa_nil))) pss_nil)), fun ds Φ Ψ ⟨d, h, hd, q⟩ => ?_⟩
  subst h
  show wS _ _ _ [some (.dat _)]
  walk_at "dlt"
  refine ⟨d, rfl, hd, ?_⟩
  walk_at "dlt"
  cases hg : gDivs d with
  | true =>
    rw [hg, if_pos rfl] at q
    walk_at "dlt"
    exact q
  | false =>
    rw [hg, if_neg Bool.false_ne_true] at q
    refine if_yes rfl ?_
    walk_at "dlt"
    exact ⟨_, rfl, q⟩
def G_check_same_seats (CO : Addr) : DSp := fun ds Φ Ψ => ∃ ns ms, ds = [divsD ns, divsD ms] ∧ DivOk ns ∧ DivOk ms ∧ if ns.length = ms.length then Φ .non else Ψ ⟨CO, [("given", divsD ms)]⟩
abbrev s_check_same_seats : Stmt := topS 20
abbrev N_check_same_seats : List Str := ["one", "other"]
theorem sc_check_same_seats : FnScope N_check_same_seats ["one", "other"] (defScope s_check_same_seats) := ⟨rfl, rfl, rfl, by decide +kernel, rfl, by decide +kernel, by decide +kernel⟩

theorem ok_check_same_seats (F : FunX K "check_same_seats" "check_same_seats" s_check_same_seats f fd) (B : Blt mg) (c_OtherSeats : XMk P w K mg base "OtherSeats" "given" CO) : FnG P w K mg base 4 f fd ["one", "other"] (lift K (G_check_same_seats CO)) := by
  refine fnX_of F sc_check_same_seats (fun ds Φ Ψ ⟨_, _, h, _⟩ => by rw [h]; rfl) fun cdv A outer s H E b => ⟨_, (pss_one (ps_if (pt_cmpR (k_ne K (by exact b.room)) (pe_callB (k_len K) (by rfl) B.len bb_len (pa_cons (pv 0) pa_nil)) (pe_callB (k_len K) (by rfl) B.len bb_len (pa_cons (pv 1) pa_nil)) (nomark _)) (pss_one (k_raise K c_OtherSeats (by exact b.room) (by decide) rfl (takes_of rfl rfl rfl rfl) (pa_cons (pv 1) pa_nil))) pss_nil)), fun ds Φ Ψ ⟨ns, ms, h, dn, dm, q⟩ => ?_⟩
  subst h
  show wS _ _ _ [some (.dat _), some (.dat _)]
  unfold divsD at q ⊢
  have l1 := dn.l2
  have l2 := dm.l2
  walk_at "dlt"
  rw [List.length_map, List.length_map]
  by_cases e : ns.length = ms.length
  · rw [if_pos e] at q
    rw [decide_eq_true (by omega)]
    walk_at "dlt"
    exact q
  · rw [if_neg e] at q
    rw [decide_eq_false (by omega)]
    walk_at "dlt"
    exact ⟨_, rfl, q⟩
def G_check_rules (CD CN CO : Addr) : DSp := fun ds Φ Ψ => ∃ x y z, ds = [x, y, z] ∧ okD x = true ∧ okD y = true ∧ okD z = true ∧ (match rulesErr CD CN CO x y z with | some e => Ψ e | none => Φ .non)
abbrev s_check_rules : Stmt := topS 21
abbrev N_check_rules : List Str := ["one", "other", "many"]
theorem sc_check_rules : FnScope N_check_rules ["one", "other", "many"] (defScope s_check_rules) := ⟨rfl, rfl, rfl, by decide +kernel, rfl, by decide +kernel, by decide +kernel⟩

theorem ok_check_rules (F : FunX K "check_rules" "check_rules" s_check_rules f fd) (c_MOST_PARTIES : GInt mg "MOST_PARTIES" 6) (c_check_divisors : CallD P w K mg base "check_divisors" 4 (G_check_divisors CD)) (c_is_between : CallD P w K mg base "is_between" 2 G_is_between) (c_check_same_seats : CallD P w K mg base "check_same_seats" 4 (G_check_same_seats CO))
    (c_InvalidNumber : XMk P w K mg base "InvalidNumber" "given" CN) : FnG P w K mg base 5 f fd ["one", "other", "many"] (lift K (G_check_rules CD CN CO)) := by
  refine fnX_of F sc_check_rules (fun ds Φ Ψ ⟨_, _, _, h, _⟩ => by rw [h]; rfl) fun cdv A outer s H E b => ⟨_, (pss_cons (ps_expr (k_cd K c_check_divisors (by exact b.room) (by decide) b.pass (pa_cons (pv 0) pa_nil)))
 (pss_cons (ps_expr (k_cd K c_check_divisors (by exact b.room) (by decide) b.pass (pa_cons (pv 1) pa_nil)))
 (pss_cons (ps_if (pt_not (pt_val (k_cd K c_is_between (by exact b.room) (by decide) b.pass (pa_cons (pv 2) (pa_cons pe_int (pa_cons (pe_gi c_MOST_PARTIES) pa_nil)))))) (pss_one (k_raise K c_InvalidNumber (by exact b.room) (by decide) rfl (takes_of rfl rfl rfl rfl) (pa_cons (pv 2) pa_nil))) pss_nil)
 (pss_one (ps_expr (k_cd K c_check_same_seats (by exact b.room) (by decide) b.pass (pa_cons (pv 0) (pa_cons (pv 1) pa_nil)))))))), fun ds Φ Ψ ⟨x, y, z, h, hx, hy, hz, q⟩ => ?_⟩
  subst h
  show wS _ _ _ [some (.dat _), some (.dat _), some (.dat _)]
  unfold rulesErr at q
  walk_at "dlt"
  refine ⟨x, rfl, hx, ?_⟩
  by_cases h1 : gDivs x = true
  case neg =>
    rw [if_neg h1] at q ⊢
    exact q
  rw [if_pos h1] at q ⊢
  walk_at "dlt"
  refine ⟨y, rfl, hy, ?_⟩
  by_cases h2 : gDivs y = true
  case neg =>
    rw [if_neg h2] at q ⊢
    exact q
  rw [if_pos h2] at q ⊢
  walk_at "dlt"
  refine ⟨z, 2, 6, rfl, hz, ?_⟩
  walk_at "dlt"
  cases h3 : gBet z 2 6 with
  | false =>
    rw [h3, if_neg Bool.false_ne_true] at q
    refine if_yes rfl ?_
    walk_at "dlt"
    exact ⟨_, rfl, q⟩
  | true =>
    rw [h3, if_pos rfl] at q
    refine if_no rfl ?_
    walk_at "dlt"
    obtain ⟨e1, d1⟩ := divs_of h1
    obtain ⟨e2, d2⟩ := divs_of h2
    refine ⟨divsOf x, divsOf y, by rw [← e1, ← e2], d1, d2, ?_⟩
    rw [← e2]
    have el : (lenD x = lenD y) ↔ (divsOf x).length = (divsOf y).length := by rw [← lenD_divs, ← lenD_divs, ← e1, ← e2]
    by_cases h4 : lenD x = lenD y
    · rw [if_pos h4] at q
      rw [if_pos (el.mp h4)]
      exact q
    · rw [if_neg h4] at q
      rw [if_neg fun h => h4 (el.mpr h)]
      exact q
def S_is_below : DSp := fun ds Φ _ => ∃ a c d e : Int, ds = [.tup [.int a, .int c], .tup [.int d, .int e]] ∧ (-(2 ^ 64) < c ∧ c < 2 ^ 64) ∧ (-(2 ^ 64) < e ∧ e < 2 ^ 64) ∧ Φ (.bl (decide (a * e < d * c)))
abbrev s_is_below : Stmt := topS 23
abbrev N_is_below : List Str := ["one", "other"]
theorem sc_is_below : FnScope N_is_below ["one", "other"] (defScope s_is_below) := ⟨rfl, rfl, rfl, by decide +kernel, rfl, by decide +kernel, by decide +kernel⟩

theorem ok_is_below (F : FunX K "is_below" "is_below" s_is_below f fd) (B : Blt mg) : FnG P w K mg base 1 f fd ["one", "other"] (lift K S_is_below) := by
  refine fnX_of F sc_is_below (fun ds Φ Ψ ⟨_, _, _, _, h, _⟩ => by rw [h]; rfl) fun cdv A outer s H E b => ⟨_, (pss_one (ps_ret (pe_cmpR op_lt (pe_op opr_mul (pe_ix (k_ix K) (pv 0) pe_int (fun _ _ => rfl)) (pe_ix (k_ix K) (pv 1) pe_int (fun _ _ => rfl))) (pe_op opr_mul (pe_ix (k_ix K) (pv 1) pe_int (fun _ _ => rfl)) (pe_ix (k_ix K) (pv 0) pe_int (fun _ _ => rfl))) (nomark _)))), fun ds Φ Ψ ⟨a, c, d, e, h, hc, he, q⟩ => ?_⟩
  subst h
  show wS _ _ _ [some (.dat _), some (.dat _)]
  obtain ⟨c1, c2⟩ := hc
  obtain ⟨e1, e2⟩ := he
  walk_at "dlt"
  exact q
def S_numbers_for : DSp := fun ds Φ _ => ∃ (n : Nat) (k : Int), ds = [.int n, .int k] ∧ n ≤ 12 ∧ Φ (.lst ((numsFor n k).map pairD))
abbrev s_numbers_for : Stmt := topS 25
abbrev N_numbers_for : List Str := ["seats", "many", "pairs", "low", "high"]
theorem sc_numbers_for : FnScope N_numbers_for ["seats", "many"] (defScope s_numbers_for) := ⟨rfl, rfl, rfl, by decide +kernel, rfl, by decide +kernel, by decide +kernel⟩

theorem ok_numbers_for (F : FunX K "numbers_for" "numbers_for" s_numbers_for f fd) (B : Blt mg) : FnG P w K mg base 1 f fd ["seats", "many"] (lift K S_numbers_for) := by
  refine fnX_of F sc_numbers_for (fun ds Φ Ψ ⟨_, _, h, _⟩ => by rw [h]; rfl) fun cdv A outer s H E b => ⟨_, (pss_cons (ps_setLc2 (i := 2) (own := [("low", 3), ("high", 4)]) (vs1 := [4]) rfl sc_numbers_for.nd rfl rfl (sw_true rfl rfl rfl (by decide +kernel)) (pi_range2 (by rfl) B.range (pa_cons pe_int (pa_cons (pe_op (k_add K) (pv 0) pe_int) pa_nil))) (blkOk_by (own := [("low", 3), ("high", 4)]) (N := N_numbers_for) (sc := defScope s_numbers_for) (by decide +kernel)) (by decide) (fun _ _ _ _ _ => (pg_name (i := 3) sc_numbers_for.nd rfl (by first | exact .inl rfl | exact .inr rfl))) (fun _ _ _ _ _ => pts_nil) (fun _ _ _ _ _ => (pi_range2 (by rfl) B.range (pa_cons (pe_op (k_add K) (pv 3) pe_int) (pa_cons (pe_op (k_add K) (pv 0) pe_int) pa_nil)))) (fun _ _ _ _ _ => (pg_name (i := 4) sc_numbers_for.nd rfl (by first | exact .inl rfl | exact .inr rfl))) (fun _ _ _ _ _ => pts_nil) (fun _ _ _ _ _ => (pe_tup (pa_cons (pv 3) (pa_cons (pv 4) pa_nil)))))
 (pss_cons (ps_if (pt_cmpR (k_eq K (by exact b.room)) (pv 1) pe_int (nomark _)) (pss_one (ps_ret (pe_lc (own := [("low", 3), ("high", 4)]) rfl sc_numbers_for.nd (k_any K (pv 2)) (blkOk_by (own := [("low", 3), ("high", 4)]) (N := N_numbers_for) (sc := defScope s_numbers_for) (by decide +kernel))  (fun _ _ _ _ _ => (k_pg K (n := 2) rfl (pgs_cons (pg_name (i := 3) sc_numbers_for.nd rfl (by first | exact .inl rfl | exact .inr rfl)) (pgs_cons (pg_name (i := 4) sc_numbers_for.nd rfl (by first | exact .inl rfl | exact .inr rfl)) pgs_nil)))) (fun _ _ _ _ _ => (pts_one (pt_cmpR (k_eq K (by exact b.room)) (pe_op (k_add K) (pv 3) (pv 4)) (pe_op (k_add K) (pv 0) pe_int) (nomark _)))) (fun _ _ _ _ _ => (pe_tup (pa_cons (pv 3) (pa_cons (pv 4) pa_nil))))))) pss_nil)
 (pss_one (ps_ret (pe_lc (own := [("low", 3), ("high", 4)]) rfl sc_numbers_for.nd (k_any K (pv 2)) (blkOk_by (own := [("low", 3), ("high", 4)]) (N := N_numbers_for) (sc := defScope s_numbers_for) (by decide +kernel))  (fun _ _ _ _ _ => (k_pg K (n := 2) rfl (pgs_cons (pg_name (i := 3) sc_numbers_for.nd rfl (by first | exact .inl rfl | exact .inr rfl)) (pgs_cons (pg_name (i := 4) sc_numbers_for.nd rfl (by first | exact .inl rfl | exact .inr rfl)) pgs_nil)))) (fun _ _ _ _ _ => (pts_one (pt_cmpR op_le (pe_op (k_add K) (pv 3) (pv 4)) (pe_op (k_add K) (pv 0) pe_int) (nomark _)))) (fun _ _ _ _ _ => (pe_tup (pa_cons (pv 3) (pa_cons (pv 4) pa_nil))))))))), fun ds Φ Ψ ⟨n, k, h, hn, q⟩ => ?_⟩
  subst h
  show wS _ _ _ [some (.dat _), some (.dat _), none, none, none]
  walk_at "dlt"
  refine wE_lc2M (only_name (by simp)) (only_name (by simp)) (fun i : Nat => .int (1 + (i : Int))) D.int (fun i => (List.range (n - 1 - i)).map fun (j : Nat) => (1 : Int) + (i : Int) + 1 + (j : Int)) (fun i j => pairD ((1 : Int) + (i : Int), j)) (wI_range2 ?_)
  walk_at "dlt"
  have ep : ((List.range n).flatMap fun x => ((List.range (n - 1 - x)).map fun (j : Nat) => (1 : Int) + (x : Int) + 1 + (j : Int)).map fun y => pairD ((1 : Int) + (x : Int), y)) = (prs n).map pairD := by
    unfold prs
    rw [List.map_flatMap]
    refine congrArg (fun g => List.flatMap g (List.range n)) (funext fun i => ?_)
    rw [List.map_map, List.map_map]
    rfl
  refine ⟨_, _, rfl, by omega, List.range n, by unfold rangeD; rw [show ((n : Int) + 1 - 1).toNat = n by omega], ?_, fun i hi => ?_, ?_⟩
  · have := prs_len hn
    have e2 := congrArg List.length ep
    rw [List.length_flatMap, List.length_map] at e2
    rw [List.length_flatMap]
    simp only [List.length_map] at e2 ⊢
    omega
  · have hi := List.mem_range.mp hi
    walk_at "dlt"
    refine wI_range2 ?_
    walk_at "dlt"
    refine ⟨_, _, rfl, by omega, ?_, fun j hj => ?_⟩
    · unfold rangeD
      rw [show ((n : Int) + 1 - (1 + (i : Int) + 1)).toNat = n - 1 - i by omega, List.map_map]
      rfl
    · walk_at "dlt"
      rfl
  rw [ep]
  walk_at "dlt"
  have pl := prs_len hn
  have fil : ∀ r : Int × Int → Bool, ((prs n).filter r).length ≤ 66 := fun r => Nat.le_trans (List.length_filter_le _ _) pl
  refine ifD (fun h2 => ?_) (fun h2 => ?_)
  · have eq : numsFor n k = (prs n).filter fun p => decide (p.1 + p.2 = (n : Int) + 1) := List.filter_congr fun p _ => by unfold nearB; rw [if_pos h2]
    rw [eq] at q
    walk_at "dlt"
    refine wE_lcF (only_pair (by simp) (by simp)) pairD pairD (fun p => decide (p.1 + p.2 = (n : Int) + 1)) (wI_any ?_)
    walk_at "dlt"
    refine ⟨_, rfl, prs n, rfl, by omega, fun p hp => ?_, ?_⟩
    · walk_at "dlt"
      refine ⟨rfl, fun _ => ?_⟩
      walk_at "dlt"
      rfl
    walk_at "dlt"
    exact q
  · have eq : numsFor n k = (prs n).filter fun p => decide (p.1 + p.2 ≤ (n : Int) + 1) := List.filter_congr fun p _ => by unfold nearB; rw [if_neg h2]
    rw [eq] at q
    walk_at "dlt"
    refine wE_lcF (only_pair (by simp) (by simp)) pairD pairD (fun p => decide (p.1 + p.2 ≤ (n : Int) + 1)) (wI_any ?_)
    walk_at "dlt"
    refine ⟨_, rfl, prs n, rfl, by omega, fun p hp => ?_, ?_⟩
    · walk_at "dlt"
      refine ⟨rfl, fun _ => ?_⟩
      walk_at "dlt"
      rfl
    walk_at "dlt"
    exact q
def S_quotient_at : DSp := fun ds Φ _ => ∃ ns p, ds = [divsD ns, pairD p] ∧ 1 ≤ p.1 ∧ p.1 ≤ ns.length ∧ 1 ≤ p.2 ∧ p.2 ≤ ns.length ∧ Φ (.tup [.int (at1 ns p.1), .int (at1 ns p.2)])
abbrev s_quotient_at : Stmt := topS 26
abbrev N_quotient_at : List Str := ["row", "pair"]
theorem sc_quotient_at : FnScope N_quotient_at ["row", "pair"] (defScope s_quotient_at) := ⟨rfl, rfl, rfl, by decide +kernel, rfl, by decide +kernel, by decide +kernel⟩

theorem ok_quotient_at (F : FunX K "quotient_at" "quotient_at" s_quotient_at f fd) : FnG P w K mg base 1 f fd ["row", "pair"] (lift K S_quotient_at) := by
  refine fnX_of F sc_quotient_at (fun ds Φ Ψ ⟨_, _, h, _⟩ => by rw [h]; rfl) fun cdv A outer s H E b => ⟨_, (pss_one (ps_ret (pe_tup (pa_cons (pe_ix (k_ix K) (pv 0) (pe_op op_sub (pe_ix (k_ix K) (pv 1) pe_int (fun _ _ => rfl)) pe_int) (fun _ _ => rfl)) (pa_cons (pe_ix (k_ix K) (pv 0) (pe_op op_sub (pe_ix (k_ix K) (pv 1) pe_int (fun _ _ => rfl)) pe_int) (fun _ _ => rfl)) pa_nil))))), fun ds Φ Ψ ⟨ns, p, h, h1, h2, h3, h4, q⟩ => ?_⟩
  subst h
  show wS _ _ _ [some (.dat _), some (.dat _)]
  have g : ∀ k : Int, 1 ≤ k → k ≤ ns.length → L2.atI (ns.map D.int) (k - 1) = some (.int (at1 ns k)) := fun k k1 k2 => by
    rw [show k - 1 = (((k - 1).toNat : Nat) : Int) by omega]
    exact L2.atI_nat (by rw [List.getElem?_map, at1_get k1 k2]; rfl)
  unfold divsD pairD
  walk_at "dlt"
  refine ixG_t (g _ h1 h2) ?_
  walk_at "dlt"
  refine ixG_t (g _ h3 h4) ?_
  walk_at "dlt"
  exact q
def G_parting_pairs (CD CN CO : Addr) : DSp := fun ds Φ Ψ => ∃ x y z, ds = [x, y, z] ∧ okD x = true ∧ okD y = true ∧ okD z = true ∧ (match rulesErr CD CN CO x y z with | some e => Ψ e | none => Φ (pairsD (partsAt (divsOf x) (divsOf y) (dInt z))))
abbrev s_parting_pairs : Stmt := topS 27
abbrev N_parting_pairs : List Str := ["one", "other", "many", "pairs", "pair", "here", "there"]
theorem sc_parting_pairs : FnScope N_parting_pairs ["one", "other", "many"] (defScope s_parting_pairs) := ⟨rfl, rfl, rfl, by decide +kernel, rfl, by decide +kernel, by decide +kernel⟩

theorem ok_parting_pairs (F : FunX K "parting_pairs" "parting_pairs" s_parting_pairs f fd) (B : Blt mg) (c_check_rules : CallD P w K mg base "check_rules" 5 (G_check_rules CD CN CO)) (c_numbers_for : CallD P w K mg base "numbers_for" 1 S_numbers_for) (c_quotient_at : CallD P w K mg base "quotient_at" 1 S_quotient_at) (c_is_below : CallD P w K mg base "is_below" 1 S_is_below) :
    FnG P w K mg base 6 f fd ["one", "other", "many"] (lift K (G_parting_pairs CD CN CO)) := by
  refine fnX_of F sc_parting_pairs (fun ds Φ Ψ ⟨_, _, _, h, _⟩ => by rw [h]; rfl) fun cdv A outer s H E b => ⟨_, (pss_cons (ps_expr (k_cd K c_check_rules (by exact b.room) (by decide) b.pass (pa_cons (pv 0) (pa_cons (pv 1) (pa_cons (pv 2) pa_nil)))))
 (pss_cons (ps_set (i := 3) sc_parting_pairs.nd rfl (by first | exact .inl rfl | exact .inr rfl) (pe_lst pa_nil))
 (pss_cons (ps_for b.own rfl (k_any K (k_cd K c_numbers_for (by exact b.room) (by decide) b.pass (pa_cons (pe_callB (k_len K) (by rfl) B.len bb_len (pa_cons (pv 0) pa_nil)) (pa_cons (pv 2) pa_nil)))) (pg_name (i := 4) sc_parting_pairs.nd rfl (by first | exact .inl rfl | exact .inr rfl)) (pss_cons (ps_set (i := 5) sc_parting_pairs.nd rfl (by first | exact .inl rfl | exact .inr rfl) (k_cd K c_quotient_at (by exact b.room) (by decide) b.pass (pa_cons (pv 0) (pa_cons (pv 4) pa_nil))))
 (pss_cons (ps_set (i := 6) sc_parting_pairs.nd rfl (by first | exact .inl rfl | exact .inr rfl) (k_cd K c_quotient_at (by exact b.room) (by decide) b.pass (pa_cons (pv 1) (pa_cons (pv 4) pa_nil))))
 (pss_one (ps_if (PW.pt (pw_or (pt_val (k_cd K c_is_below (by exact b.room) (by decide) b.pass (pa_cons (pv 5) (pa_cons (pv 6) pa_nil)))) (pw_or1 (pt_val (k_cd K c_is_below (by exact b.room) (by decide) b.pass (pa_cons (pv 6) (pa_cons (pv 5) pa_nil))))))) (pss_one (ps_expr (k_bm K PySem.F.plainAttrs_list PySem.F.slot_list_append PySem.F.type_list_append mt_append (pv 3) (pa_cons (pv 4) pa_nil)))) pss_nil)))))
 (pss_one (ps_ret (pe_callTy (k_tup K) (by rfl) B.tuple bb_tuple (pa_cons (pv 3) pa_nil))))))), fun ds Φ Ψ ⟨x, y, z, h, hx, hy, hz, q⟩ => ?_⟩
  subst h
  show wS _ _ _ [some (.dat _), some (.dat _), some (.dat _), none, none, none, none]
  walk_at "dlt"
  refine ⟨x, y, z, rfl, hx, hy, hz, ?_⟩
  cases hr : rulesErr CD CN CO x y z with
  | some e =>
    rw [hr] at q
    exact q
  | none =>
    rw [hr] at q
    obtain ⟨ns, ms, k, rfl, rfl, rfl, ro⟩ := rules_none hr
    rw [(divs_right ro.a).2, (divs_right ro.b).2] at q
    have q : Φ (pairsD (partsAt ns ms k)) := q
    have l2 := ro.a.l2
    have ll := ro.l
    walk_at "dlt"
    show wS _ _ _ [some (.dat (.tup (ns.map D.int))), some (.dat (.tup (ms.map D.int))), some (.dat (.int k)), some (.own none (.lst [])), none, none, none]
    have pl : (numsFor ns.length k).length ≤ 66 := Nat.le_trans (List.length_filter_le _ _) (prs_len l2)
    refine wS_forT pairD (fun i ρ' => ∃ y4 y5 y6 : Option Sl, ρ' = [some (.dat (.tup (ns.map D.int))), some (.dat (.tup (ms.map D.int))), some (.dat (.int k)), some (.own none (.lst ((((numsFor ns.length k).take i).filter (partB ns ms)).map pairD))), y4, y5, y6]) (wI_any ?_)
    walk_at "dlt"
    rw [List.length_map]
    refine ⟨ns.length, k, rfl, by omega, ?_⟩
    walk_at "dlt"
    refine ⟨_, rfl, numsFor ns.length k, rfl, ⟨_, _, _, rfl⟩, fun i p ρ' hi ⟨y4, y5, y6, e⟩ => ?_, fun ρ' ⟨y4, y5, y6, e⟩ => ?_⟩
    · subst e
      obtain ⟨p1, p2, p3⟩ := nums_mem (List.mem_of_getElem? hi)
      have il := (List.getElem?_eq_some_iff.mp hi).1
      obtain ⟨b1, b2⟩ := at1_bd ro.a p1 (by omega)
      obtain ⟨b3, b4⟩ := at1_bd ro.a (k := p.2) (by omega) p3
      obtain ⟨b5, b6⟩ := at1_bd ro.b p1 (by omega)
      obtain ⟨b7, b8⟩ := at1_bd ro.b (k := p.2) (by omega) (by omega)
      have en := take_next hi
      walk_at "dlt"
      refine ⟨ns, p, rfl, by omega, by omega, by omega, by omega, ?_⟩
      walk_at "dlt"
      refine ⟨ms, p, rfl, by omega, by omega, by omega, by omega, ?_⟩
      have eb : partB ns ms p = !decide (at1 ns p.1 * at1 ms p.2 = at1 ms p.1 * at1 ns p.2) := rfl
      generalize at1 ns p.1 = u1 at *
      generalize at1 ns p.2 = u2 at *
      generalize at1 ms p.1 = v1 at *
      generalize at1 ms p.2 = v2 at *
      generalize hm1 : u1 * v2 = m1 at *
      generalize hm2 : v1 * u2 = m2 at *
      have tl : (((numsFor ns.length k).take i).filter (partB ns ms)).length ≤ 66 := Nat.le_trans (List.length_filter_le _ _) (by rw [List.length_take]; omega)
      have yes : partB ns ms p = true → (((numsFor ns.length k).take (i + 1)).filter (partB ns ms)).map pairD = (((numsFor ns.length k).take i).filter (partB ns ms)).map pairD ++ [pairD p] := fun h => by
        rw [en, List.filter_append, List.map_append, List.filter_cons_of_pos h]
        rfl
      have no : partB ns ms p = false → (((numsFor ns.length k).take (i + 1)).filter (partB ns ms)).map pairD = (((numsFor ns.length k).take i).filter (partB ns ms)).map pairD := fun h => by
        rw [en, List.filter_append, List.map_append, List.filter_cons_of_neg (by rw [h]; exact Bool.false_ne_true)]
        simp
      rw [eb] at yes no
      walk_at "dlt"
      refine ⟨u1, u2, v1, v2, rfl, by omega, by omega, ?_⟩
      rw [hm1, hm2]
      by_cases c1 : m1 < m2
      · rw [decide_eq_true c1]
        walk_at "dlt"
        refine ⟨_, _, rfl, by rw [List.length_map]; omega, _, _, _, (congrArg (fun z => [_, _, _, some (Sl.own none (.lst z)), _, _, _]) (yes (by rw [decide_eq_false (by omega)]; rfl)).symm)⟩
      · rw [decide_eq_false c1]
        walk_at "dlt"
        refine ⟨v1, v2, u1, u2, rfl, by omega, by omega, ?_⟩
        rw [hm1, hm2]
        by_cases c2 : m2 < m1
        · rw [decide_eq_true c2]
          walk_at "dlt"
          refine ⟨_, _, rfl, by rw [List.length_map]; omega, _, _, _, (congrArg (fun z => [_, _, _, some (Sl.own none (.lst z)), _, _, _]) (yes (by rw [decide_eq_false (by omega)]; rfl)).symm)⟩
        · rw [decide_eq_false c2]
          walk_at "dlt"
          exact ⟨_, _, _, (congrArg (fun z => [_, _, _, some (Sl.own none (.lst z)), _, _, _]) (no (by rw [decide_eq_true (by omega)]; rfl)).symm)⟩
    · subst e
      rw [List.take_length] at *
      walk_at "dlt"
      exact q
end


/-! ### counts that part two rows -/
def leftOf (ns : List Int) (p : Int × Int) : Int := (ns.length : Int) + 1 - p.1 - p.2
def cntsOf (ns : List Int) (p : Int × Int) : List Int := [at1 ns p.1, at1 ns p.2, if 0 < leftOf ns p then at1 ns (leftOf ns p) else 0, 0, 0, 0]
def tabOf (ns ms : List Int) (p : Int × Int) : List Int := if at1 ns p.1 * at1 ms p.2 < at1 ms p.1 * at1 ns p.2 then [p.1, p.2 - 1, leftOf ns p, 0, 0, 0] else [p.1 - 1, p.2, leftOf ns p, 0, 0, 0]
def intsD (l : List Int) : D := .tup (l.map D.int)
def showD (ns ms : List Int) (k : Int) : D := match partsAt ns ms k with
  | [] => .non
  | p :: _ => .tup [intsD ((cntsOf ns p).take k.toNat), intsD ((tabOf ns ms p).take k.toNat)]
theorem parts_mem {ns ms : List Int} {k : Int} {p : Int × Int} (h : p ∈ partsAt ns ms k) : p ∈ numsFor ns.length k := (List.mem_filter.mp h).1
theorem nums_sum {n : Nat} {k : Int} {p : Int × Int} (h : p ∈ numsFor n k) : (if k = 2 then p.1 + p.2 = (n : Int) + 1 else p.1 + p.2 ≤ (n : Int) + 1) := by
  have := (List.mem_filter.mp h).2
  unfold nearB at this
  by_cases e : k = 2
  · rw [if_pos e] at this ⊢; exact of_decide_eq_true this
  · rw [if_neg e] at this ⊢; exact of_decide_eq_true this
section
variable {P : Program} {w : World} {K : PySem.W.Frag} {mg : Str → Option Value} {base : Heap} {f CD CN CO : Addr} {fd : FuncData}
def G_are_alike (CD CN CO : Addr) : DSp := fun ds Φ Ψ => ∃ x y z, ds = [x, y, z] ∧ okD x = true ∧ okD y = true ∧ okD z = true ∧ (match rulesErr CD CN CO x y z with | some e => Ψ e | none => Φ (.bl (decide (partsAt (divsOf x) (divsOf y) (dInt z) = []))))
abbrev s_are_alike : Stmt := topS 28
abbrev N_are_alike : List Str := ["one", "other", "many"]
theorem sc_are_alike : FnScope N_are_alike ["one", "other", "many"] (defScope s_are_alike) := ⟨rfl, rfl, rfl, by decide +kernel, rfl, by decide +kernel, by decide +kernel⟩

theorem parts_len {ns ms : List Int} {k : Int} (h : ns.length ≤ 12) : (partsAt ns ms k).length ≤ 66 := Nat.le_trans (List.length_filter_le _ _) (Nat.le_trans (List.length_filter_le _ _) (prs_len h))
theorem ok_are_alike (F : FunX K "are_alike" "are_alike" s_are_alike f fd) (B : Blt mg) (c_parting_pairs : CallD P w K mg base "parting_pairs" 6 (G_parting_pairs CD CN CO)) : FnG P w K mg base 7 f fd ["one", "other", "many"] (lift K (G_are_alike CD CN CO)) := by
  refine fnX_of F sc_are_alike (fun ds Φ Ψ ⟨_, _, _, h, _⟩ => by rw [h]; rfl) fun cdv A outer s H E b => ⟨_, (pss_one (ps_ret (pe_cmpR (k_eq K (by exact b.room)) (pe_callB (k_len K) (by rfl) B.len bb_len (pa_cons (k_cd K c_parting_pairs (by exact b.room) (by decide) b.pass (pa_cons (pv 0) (pa_cons (pv 1) (pa_cons (pv 2) pa_nil)))) pa_nil)) pe_int (nomark _)))), fun ds Φ Ψ ⟨x, y, z, h, hx, hy, hz, q⟩ => ?_⟩
  subst h
  show wS _ _ _ [some (.dat _), some (.dat _), some (.dat _)]
  walk_at "dlt"
  refine ⟨x, y, z, rfl, hx, hy, hz, ?_⟩
  cases hr : rulesErr CD CN CO x y z with
  | some e =>
    rw [hr] at q
    exact q
  | none =>
    rw [hr] at q
    obtain ⟨ns, ms, k, rfl, rfl, rfl, ro⟩ := rules_none hr
    rw [(divs_right ro.a).2, (divs_right ro.b).2] at q ⊢
    have pl := parts_len (ns := ns) (ms := ms) (k := k) ro.a.l2
    show wA _ _ _ _
    unfold pairsD
    walk_at "dlt"
    rw [List.length_map]
    have q : Φ (.bl (decide (partsAt ns ms k = []))) := q
    change Φ (.bl (decide (((partsAt ns ms k).length : Int) = 0)))
    by_cases e : partsAt ns ms k = []
    · rw [decide_eq_true e] at q
      rw [e, decide_eq_true (by rfl)]
      exact q
    · rw [decide_eq_false e] at q
      rw [decide_eq_false fun h => e (List.length_eq_zero_iff.mp (by omega))]
      exact q
def G_parting_counts (CD CN CO : Addr) : DSp := fun ds Φ Ψ => ∃ x y z, ds = [x, y, z] ∧ okD x = true ∧ okD y = true ∧ okD z = true ∧ (match rulesErr CD CN CO x y z with | some e => Ψ e | none => Φ (showD (divsOf x) (divsOf y) (dInt z)))
abbrev s_parting_counts : Stmt := topS 29
abbrev N_parting_counts : List Str := ["one", "other", "many", "pairs", "low", "high", "left", "counts", "table"]
theorem sc_parting_counts : FnScope N_parting_counts ["one", "other", "many"] (defScope s_parting_counts) := ⟨rfl, rfl, rfl, by decide +kernel, rfl, by decide +kernel, by decide +kernel⟩

theorem ok_parting_counts (F : FunX K "parting_counts" "parting_counts" s_parting_counts f fd) (B : Blt mg) (c_parting_pairs : CallD P w K mg base "parting_pairs" 6 (G_parting_pairs CD CN CO)) (c_quotient_at : CallD P w K mg base "quotient_at" 1 S_quotient_at) (c_is_below : CallD P w K mg base "is_below" 1 S_is_below) :
    FnG P w K mg base 7 f fd ["one", "other", "many"] (lift K (G_parting_counts CD CN CO)) := by
  refine fnX_of F sc_parting_counts (fun ds Φ Ψ ⟨_, _, _, h, _⟩ => by rw [h]; rfl) fun cdv A outer s H E b => ⟨_, (pss_cons (ps_set (i := 3) sc_parting_counts.nd rfl (by first | exact .inl rfl | exact .inr rfl) (k_cd K c_parting_pairs (by exact b.room) (by decide) b.pass (pa_cons (pv 0) (pa_cons (pv 1) (pa_cons (pv 2) pa_nil)))))
 (pss_cons (ps_if (pt_cmpR (k_eq K (by exact b.room)) (pe_callB (k_len K) (by rfl) B.len bb_len (pa_cons (pv 3) pa_nil)) pe_int (nomark _)) (pss_one (ps_ret pe_non)) pss_nil)
 (pss_cons (ps_asg (pe_ix (k_ix K) (pv 3) pe_int (fun _ _ => rfl)) (k_pg K (n := 2) rfl (pgs_cons (pg_name (i := 4) sc_parting_counts.nd rfl (by first | exact .inl rfl | exact .inr rfl)) (pgs_cons (pg_name (i := 5) sc_parting_counts.nd rfl (by first | exact .inl rfl | exact .inr rfl)) pgs_nil))))
 (pss_cons (ps_set (i := 6) sc_parting_counts.nd rfl (by first | exact .inl rfl | exact .inr rfl) (pe_op op_sub (pe_op op_sub (pe_op (k_add K) (pe_callB (k_len K) (by rfl) B.len bb_len (pa_cons (pv 0) pa_nil)) pe_int) (pv 4)) (pv 5)))
 (pss_cons (ps_set (i := 7) sc_parting_counts.nd rfl (by first | exact .inl rfl | exact .inr rfl) (pe_lst (pa_cons (pe_ix (k_ix K) (pv 0) (pe_op op_sub (pv 4) pe_int) (fun _ _ => rfl)) (pa_cons (pe_ix (k_ix K) (pv 0) (pe_op op_sub (pv 5) pe_int) (fun _ _ => rfl)) (pa_cons (pe_ifExp (pt_cmpR op_gt (pv 6) pe_int (nomark _)) (pe_ix (k_ix K) (pv 0) (pe_op op_sub (pv 6) pe_int) (fun _ _ => rfl)) pe_int) (pa_cons pe_int (pa_cons pe_int (pa_cons pe_int pa_nil))))))))
 (pss_cons (ps_if (pt_val (k_cd K c_is_below (by exact b.room) (by decide) b.pass (pa_cons (k_cd K c_quotient_at (by exact b.room) (by decide) b.pass (pa_cons (pv 0) (pa_cons (pe_ix (k_ix K) (pv 3) pe_int (fun _ _ => rfl)) pa_nil))) (pa_cons (k_cd K c_quotient_at (by exact b.room) (by decide) b.pass (pa_cons (pv 1) (pa_cons (pe_ix (k_ix K) (pv 3) pe_int (fun _ _ => rfl)) pa_nil))) pa_nil)))) (pss_one (ps_set (i := 8) sc_parting_counts.nd rfl (by first | exact .inl rfl | exact .inr rfl) (pe_lst (pa_cons (pv 4) (pa_cons (pe_op op_sub (pv 5) pe_int) (pa_cons (pv 6) (pa_cons pe_int (pa_cons pe_int (pa_cons pe_int pa_nil))))))))) (pss_one (ps_set (i := 8) sc_parting_counts.nd rfl (by first | exact .inl rfl | exact .inr rfl) (pe_lst (pa_cons (pe_op op_sub (pv 4) pe_int) (pa_cons (pv 5) (pa_cons (pv 6) (pa_cons pe_int (pa_cons pe_int (pa_cons pe_int pa_nil))))))))))
 (pss_one (ps_ret (pe_tup (pa_cons (pe_callTy (k_tup K) (by rfl) B.tuple bb_tuple (pa_cons (pe_slice (k_sl K) (pv 7) po_none (po_some (pv 2))) pa_nil)) (pa_cons (pe_callTy (k_tup K) (by rfl) B.tuple bb_tuple (pa_cons (pe_slice (k_sl K) (pv 8) po_none (po_some (pv 2))) pa_nil)) pa_nil))))))))))), fun ds Φ Ψ ⟨x, y, z, h, hx, hy, hz, q⟩ => ?_⟩
  subst h
  show wS _ _ _ [some (.dat _), some (.dat _), some (.dat _), none, none, none, none, none, none]
  walk_at "dlt"
  refine ⟨x, y, z, rfl, hx, hy, hz, ?_⟩
  cases hr : rulesErr CD CN CO x y z with
  | some e =>
    rw [hr] at q
    exact q
  | none =>
    rw [hr] at q
    obtain ⟨ns, ms, k, rfl, rfl, rfl, ro⟩ := rules_none hr
    rw [(divs_right ro.a).2, (divs_right ro.b).2] at q ⊢
    have q : Φ (showD ns ms k) := q
    have pl := parts_len (ns := ns) (ms := ms) (k := k) ro.a.l2
    have l2 := ro.a.l2
    have ll := ro.l
    have k2 := ro.k2
    have k6 := ro.k6
    show wG _ _ (.tup ((partsAt ns ms k).map pairD)) _ _
    unfold showD at q
    cases hp : partsAt ns ms k with
    | nil =>
      rw [hp] at q
      walk_at "dlt"
      exact q
    | cons p l =>
      rw [hp] at q pl
      have pm : p ∈ numsFor ns.length k := parts_mem (ms := ms) (by rw [hp]; exact List.mem_cons_self)
      obtain ⟨p1, p2, p3⟩ := nums_mem pm
      have ps := nums_sum pm
      have sum : p.1 + p.2 ≤ (ns.length : Int) + 1 := by split at ps <;> omega
      obtain ⟨b1, b2⟩ := at1_bd ro.a p1 (by omega)
      obtain ⟨b3, b4⟩ := at1_bd ro.a (k := p.2) (by omega) p3
      obtain ⟨b5, b6⟩ := at1_bd ro.b p1 (by omega)
      obtain ⟨b7, b8⟩ := at1_bd ro.b (k := p.2) (by omega) (by omega)
      have g : ∀ j : Int, 1 ≤ j → j ≤ ns.length → L2.atI (ns.map D.int) (j - 1) = some (.int (at1 ns j)) := fun j k1 k2 => by
        rw [show j - 1 = (((j - 1).toNat : Nat) : Int) by omega]
        exact L2.atI_nat (by rw [List.getElem?_map, at1_get k1 k2]; rfl)
      walk_at "dlt"
      show wS _ _ _ [some (.dat (.tup (ns.map D.int))), some (.dat (.tup (ms.map D.int))), some (.dat (.int k)), some (.dat (.tup (.tup [.int p.1, .int p.2] :: l.map pairD))), none, none, none, none, none]
      walk_at "dlt"
      rw [List.length_map]
      have ek : k = ((k.toNat : Nat) : Int) := by omega
      have q : Φ (.tup [intsD ((cntsOf ns p).take k.toNat), intsD ((tabOf ns ms p).take k.toNat)]) := q
      have el : leftOf ns p = (ns.length : Int) + 1 - p.1 - p.2 := rfl
      unfold cntsOf at q
      by_cases c3 : 0 < leftOf ns p
      · rw [if_pos c3] at q
        rw [el] at c3
        refine ixG_t (g _ p1 (by omega)) ?_
        walk_at "dlt"
        refine ixG_t (g _ (by omega) p3) ?_
        walk_at "dlt"
        refine ixG_t (g _ (by omega) (by omega)) ?_
        walk_at "dlt"
        refine ⟨ns, p, rfl, p1, by omega, by omega, p3, ?_⟩
        walk_at "dlt"
        refine ⟨ms, p, rfl, p1, by omega, by omega, by omega, ?_⟩
        walk_at "dlt"
        refine ⟨_, _, _, _, rfl, by omega, by omega, ?_⟩
        unfold tabOf at q
        by_cases c4 : at1 ns p.1 * at1 ms p.2 < at1 ms p.1 * at1 ns p.2
        · rw [decide_eq_true c4]
          rw [if_pos c4] at q
          walk_at "dlt"
          rw [ek, cut_to, cut_to]
          simp only [intsD, List.map_take] at q
          exact q
        · rw [decide_eq_false c4]
          rw [if_neg c4] at q
          walk_at "dlt"
          rw [ek, cut_to, cut_to]
          simp only [intsD, List.map_take] at q
          exact q
      · rw [if_neg c3] at q
        rw [el] at c3
        refine ixG_t (g _ p1 (by omega)) ?_
        walk_at "dlt"
        refine ixG_t (g _ (by omega) p3) ?_
        walk_at "dlt"
        refine ⟨ns, p, rfl, p1, by omega, by omega, p3, ?_⟩
        walk_at "dlt"
        refine ⟨ms, p, rfl, p1, by omega, by omega, by omega, ?_⟩
        walk_at "dlt"
        refine ⟨_, _, _, _, rfl, by omega, by omega, ?_⟩
        unfold tabOf at q
        by_cases c4 : at1 ns p.1 * at1 ms p.2 < at1 ms p.1 * at1 ns p.2
        · rw [decide_eq_true c4]
          rw [if_pos c4] at q
          walk_at "dlt"
          rw [ek, cut_to, cut_to]
          simp only [intsD, List.map_take] at q
          exact q
        · rw [decide_eq_false c4]
          rw [if_neg c4] at q
          walk_at "dlt"
          rw [ek, cut_to, cut_to]
          simp only [intsD, List.map_take] at q
          exact q
end


/-! ### the law's own draws (purses) -/
section
variable {P : Program} {w : World} {K : PySem.W.Frag} {mg : Str → Option Value} {base : Heap} {f C : Addr} {fd : FuncData}
def BdOk (n : Int) : Prop := n.natAbs < 2 ^ Bits
def S_begunR : RSp := fun ds Φ => ∃ (ns : List Int) (t : Int), ds = [.scr ns, .int t] ∧ 0 ≤ t ∧ t < 100 ∧ (∀ n ∈ ns, BdOk n) ∧ ∀ i j l, PB i j → Φ [.int i, .int j, .int l]
def S_begun : DSp := fun ds Φ _ => ∃ (ns : List Int) (t : Int), ds = [.scr ns, .int t] ∧ 0 ≤ t ∧ t < 100 ∧ (∀ n ∈ ns, BdOk n) ∧ Φ .pail
abbrev s_l_purse : Stmt := topS 32
abbrev N_l_purse : List Str := ["_law_script", "_law_k", "_law_cell", "_law_digits", "_law_seed"]
theorem sc_l_purse : FnScope N_l_purse ["_law_script", "_law_k"] (defScope s_l_purse) := ⟨rfl, rfl, rfl, by decide +kernel, rfl, by decide +kernel, by decide +kernel⟩

theorem okR_begun (F : FunX K "_law_purse" "_law_purse" s_l_purse f fd) (B : Blt mg) : FnG P w K mg base 1 f fd ["_law_script", "_law_k"] (liftR K S_begunR) := by
  refine fnR_of F sc_l_purse (fun ds Φ ⟨_, _, h, _⟩ => by rw [h]; rfl) fun cdv A outer s H E b => ⟨_, (pss_cons (ps_if (pt_cmpR op_lt (pv 1) (pe_callB (k_len K) (by rfl) B.len bb_len (pa_cons (pv 0) pa_nil)) (nomark _)) (pss_cons (ps_set (i := 2) sc_l_purse.nd rfl (by first | exact .inl rfl | exact .inr rfl) (pe_ix (k_ix K) (pv 0) (pv 1) (fun _ _ => rfl)))
 (pss_cons (ps_set (i := 3) sc_l_purse.nd rfl (by first | exact .inl rfl | exact .inr rfl) (pe_ifExp (PW.pt (pw_or (pt_cmpR op_lt (pv 2) pe_int (nomark _)) (pw_or1 (pt_cmpR op_ge (pv 2) (pe_op op_pow pe_int pe_int) (nomark _))))) (pe_callB call_abs (by rfl) B.abs bb_abs (pa_cons (pv 2) pa_nil)) pe_int))
 (pss_one (ps_ret (pe_lst (pa_cons (pv 3) (pa_cons (pe_op op_mod (pe_callTy callr_int (by rfl) B.int bb_int (pa_cons (pe_op (k_add K) (pe_op (k_add K) (pe_op opr_mul (pv 2) pe_int) (pe_op opr_mul pe_int (pv 1))) pe_int) pa_nil)) pe_int) (pa_cons pe_int pa_nil)))))))) pss_nil)
 (pss_cons (ps_set (i := 4) sc_l_purse.nd rfl (by first | exact .inl rfl | exact .inr rfl) (pe_op (k_add K) (pe_op opr_mul pe_int (pv 1)) pe_int))
 (pss_cons (ps_for b.own rfl (k_any K (pe_slice (k_sl K) (pv 0) po_none (po_some pe_int))) (pg_name (i := 2) sc_l_purse.nd rfl (by first | exact .inl rfl | exact .inr rfl)) (pss_one (ps_set (i := 4) sc_l_purse.nd rfl (by first | exact .inl rfl | exact .inr rfl) (pe_op op_mod (pe_callTy callr_int (by rfl) B.int bb_int (pa_cons (pe_op (k_add K) (pe_op opr_mul (pv 4) pe_int) (pv 2)) pa_nil)) pe_int))))
 (pss_one (ps_ret (pe_lst (pa_cons pe_int (pa_cons (pv 4) (pa_cons pe_int pa_nil))))))))), fun ds Φ ⟨ns, t, h, t0, t1, hb, q⟩ => ?_⟩
  subst h
  obtain ⟨t, rfl⟩ : ∃ k : Nat, t = k := ⟨t.toNat, by omega⟩
  show wS _ _ _ [some (.dat _), some (.dat _), none, none, none]
  walk_at "dlo"
  refine ifD (fun hz => ?_) (fun hz => ?_)
  · walk_at "dlo"
    have hl : t < ns.length := by omega
    refine ixG_c (L2.atI_nat (List.getElem?_eq_getElem hl)) ?_
    have hc := hb _ (List.getElem_mem hl)
    generalize ns[t] = own at hc
    have m0 := Int.emod_nonneg (own * 39373 + 104723 * (t : Int) + 17) (show (2147483629 : Int) ≠ 0 by decide)
    have m1 := Int.emod_lt_of_pos (own * 39373 + 104723 * (t : Int) + 17) (show (0 : Int) < 2147483629 by decide)
    have fin : ∀ i : Int, 0 ≤ i → [D.int i, .int ((own * 39373 + 104723 * (t : Int) + 17) % 2147483629), .int 0].length ≤ 1000000 ∧ Φ [D.int i, .int ((own * 39373 + 104723 * (t : Int) + 17) % 2147483629), .int 0] := fun i hi => ⟨by simp, q _ _ _ ⟨hi, m0, by omega⟩⟩
    walk_at "dlo"
    refine ifD (fun hz => ?_) (fun hz => ?_)
    · walk_at "dlo"
      exact fin _ (by rw [if_pos hz]; omega)
    · walk_at "dlo"
      refine ifD (fun hy => ?_) (fun hy => ?_)
      · walk_at "dlo"
        exact fin _ (by rw [if_neg hz]; omega)
      · walk_at "dlo"
        exact fin 0 (by omega)
  · walk_at "dlo"
    refine wS_forT D.int (fun _ ρ' => ∃ (st : Int) (x : Option Sl), 0 ≤ st ∧ st < 2147483648 ∧ ρ' = [some (.dat (.scr ns)), some (.dat (.int (t : Nat))), x, none, some (.dat (.int st))]) (wI_any ?_)
    walk_at "dlo"
    refine ⟨_, rfl, cutD ns none (some 4), rfl, ⟨_, _, by omega, by omega, rfl⟩, fun i n ρ' hi ⟨st, x, s0, s1, e⟩ => ?_, fun ρ' ⟨st, x, s0, s1, e⟩ => ?_⟩
    · subst e
      walk_at "dlo"
      refine ⟨_, _, ?_, ?_, rfl⟩
      · exact Int.emod_nonneg _ (by decide)
      · have := Int.emod_lt_of_pos (st * 48271 + n) (show (0 : Int) < 2147483587 by decide)
        omega
    subst e
    walk_at "dlo"
    exact ⟨by simp, q _ _ _ ⟨by omega, s0, s1⟩⟩
theorem ok_begun (F : FunX K "_law_purse" "_law_purse" s_l_purse f fd) (B : Blt mg) : FnG P w K mg base 1 f fd ["_law_script", "_law_k"] (lift K S_begun) :=
  fnPR_of (okR_begun F B) (fun ds Φ Ψ ⟨_, _, h, _⟩ => by rw [h]; rfl) fun ds Φ Ψ ⟨ns, t, h, t0, t1, hb, q⟩ => ⟨ns, t, h, t0, t1, hb, fun i j l pb => ⟨q, i, j, l, rfl, pb⟩⟩
def M_cast : MSp := fun ms ds Φ => ∃ i j l m : Int, ms = [.int i, .int j, .int l] ∧ PB i j ∧ ds = [.int m] ∧ 0 < m ∧ m < 1073741824 ∧ ∀ c i' j' l', 0 ≤ c → c < m → PB i' j' → Φ (.int c) [.int i', .int j', .int l']
def P_cast : PSp := fun ns Φ => ∃ m, ns = [m] ∧ 0 < m ∧ m < 1073741824 ∧ ∀ c, 0 ≤ c → c < m → Φ (.int c)
abbrev s_l_draw : Stmt := topS 33
abbrev N_l_draw : List Str := ["_law_purse_here", "_law_size", "_law_seed", "_law_by", "_law_digit"]
theorem sc_l_draw : FnScope N_l_draw ["_law_purse_here", "_law_size"] (defScope s_l_draw) := ⟨rfl, rfl, rfl, by decide +kernel, rfl, by decide +kernel, by decide +kernel⟩

theorem okM_cast (F : FunX K "_law_draw" "_law_draw" s_l_draw f fd) (B : Blt mg) : FnG P w K mg base 1 f fd ["_law_purse_here", "_law_size"] (liftM K M_cast) := by
  refine fnM_of F sc_l_draw (fun ms ds Φ ⟨_, _, _, _, _, _, h, _⟩ => by rw [h]; rfl) fun cdv A outer s H E b => ⟨_, (pss_cons (ps_par (i := 2) (j := 3) rfl sc_l_draw.nd rfl rfl (by decide) rfl rfl (pa_cons (pe_ix (k_ix K) (pv 0) pe_int (fun _ _ => rfl)) (pa_cons (pe_op (k_add K) (pe_op op_mod (pe_callTy callr_int (by rfl) B.int bb_int (pa_cons (pe_ix (k_ix K) (pv 0) pe_int (fun _ _ => rfl)) pa_nil)) pe_int) pe_int) pa_nil)) rfl)
 (pss_cons (ps_asg (pe_op (k_add K) (pe_ix (k_ix K) (pv 0) pe_int (fun _ _ => rfl)) pe_int) (pg_sub (pv 0) pe_int set_list))
 (pss_cons (ps_asg (pe_op op_mod (pe_callTy callr_int (by rfl) B.int bb_int (pa_cons (pe_op (k_add K) (pe_op (k_add K) (pe_op opr_mul (pv 2) (pv 3)) (pe_op opr_mul pe_int (pe_ix (k_ix K) (pv 0) pe_int (fun _ _ => rfl)))) pe_int) pa_nil)) pe_int) (pg_sub (pv 0) pe_int set_list))
 (pss_cons (ps_if (pt_cmpR op_gt (pe_ix (k_ix K) (pv 0) pe_int (fun _ _ => rfl)) pe_int (nomark _)) (pss_cons (ps_asg (pe_callB k_divmod (by rfl) B.divmod bb_divmod (pa_cons (pe_ix (k_ix K) (pv 0) pe_int (fun _ _ => rfl)) (pa_cons (pv 1) pa_nil))) (k_pg K (n := 2) rfl (pgs_cons (pg_sub (pv 0) pe_int set_list) (pgs_cons (pg_name (i := 4) sc_l_draw.nd rfl (by first | exact .inl rfl | exact .inr rfl)) pgs_nil))))
 (pss_one (ps_ret (pv 4)))) pss_nil)
 (pss_one (ps_ret (pe_op op_mod (pe_callTy callr_int (by rfl) B.int bb_int (pa_cons (pe_op op_fdiv (pe_ix (k_ix K) (pv 0) pe_int (fun _ _ => rfl)) pe_int) pa_nil)) (pv 1)))))))), fun y ms ds Φ ⟨i, j, l, m, h, pb, h2, m0, m1, q⟩ => ?_⟩
  subst h h2
  obtain ⟨p1, p2, p3⟩ := pb
  show wS _ _ _ [some (.own (some y) (.lst [.int i, .int j, .int l])), some (.dat (.int m)), none, none, none]
  have j0 := Int.emod_nonneg j (show (40009 : Int) ≠ 0 by decide)
  have j1 := Int.emod_lt_of_pos j (show (0 : Int) < 40009 by decide)
  walk_at "dl"
  refine ⟨_, _, rfl, ?_⟩
  walk_at "dl"
  have m2 : ∀ z : Int, 0 ≤ z % 2147483629 ∧ z % 2147483629 < 2147483648 := fun z => by omega
  refine ifD (fun hz => ?_) (fun hz => ?_)
  · walk_at "dl"
    refine divmodG_i m0 m1 ?_
    walk_at "dl"
    exact ⟨_, rfl, q _ _ _ _ (Int.emod_nonneg _ (by omega)) (Int.emod_lt_of_pos _ m0) ⟨Int.ediv_nonneg p1 (by omega), (m2 _).1, (m2 _).2⟩⟩
  · walk_at "dl"
    exact ⟨_, rfl, q _ _ _ _ (Int.emod_nonneg _ (by omega)) (Int.emod_lt_of_pos _ m0) ⟨p1, (m2 _).1, (m2 _).2⟩⟩
theorem ok_cast (F : FunX K "_law_draw" "_law_draw" s_l_draw f fd) (B : Blt mg) : FnG P w K mg base 1 f fd ["_law_purse_here", "_law_size"] (lift K (pailS P_cast)) :=
  fnP_of (okM_cast F B) (fun i j l ns Φ pb ⟨m, e, m0, m1, q⟩ => ⟨i, j, l, m, rfl, pb, by rw [e]; rfl, m0, m1, fun c i' j' l' c0 c1 pb' => ⟨q c c0 c1, i', j', l', rfl, pb'⟩⟩) fun ns Φ ⟨m, e, _⟩ => by rw [e]; rfl
/-- one number drawn -/
theorem use_cast {n : Int} {Φ : D → Prop} {Ψ : Exn → Prop} (h0 : 0 < n) (h1 : n < 1073741824) (h : ∀ c : Nat, (c : Int) < n → Φ (.int c)) : pailS P_cast [.pail, .int n] Φ Ψ :=
  ⟨[n], rfl, n, rfl, h0, h1, fun c c0 c1 => by
    obtain ⟨k, rfl⟩ : ∃ k : Nat, c = k := ⟨c.toNat, by omega⟩
    exact h k c1⟩
def S_any_of : DSp := fun ds Φ _ => ∃ l, ds = [.pail, .lst l] ∧ 0 < l.length ∧ l.length < 1000000 ∧ ∀ x ∈ l, Φ x
abbrev s_l_pick : Stmt := topS 34
abbrev N_l_pick : List Str := ["_law_purse_here", "_law_menu"]
theorem sc_l_pick : FnScope N_l_pick ["_law_purse_here", "_law_menu"] (defScope s_l_pick) := ⟨rfl, rfl, rfl, by decide +kernel, rfl, by decide +kernel, by decide +kernel⟩

theorem ok_any_of (F : FunX K "_law_pick" "_law_pick" s_l_pick f fd) (B : Blt mg) (c_l_draw : CallD P w K mg base "_law_draw" 1 (pailS P_cast)) : FnG P w K mg base 2 f fd ["_law_purse_here", "_law_menu"] (lift K S_any_of) := by
  refine fnX_of F sc_l_pick (fun ds Φ Ψ ⟨_, h, _⟩ => by rw [h]; rfl) fun cdv A outer s H E b => ⟨_, (pss_one (ps_ret (pe_ix (k_ix K) (pv 1) (k_cd K c_l_draw (by exact b.room) (by decide) b.pass (pa_cons (pv 0) (pa_cons (pe_callB (k_len K) (by rfl) B.len bb_len (pa_cons (pv 1) pa_nil)) pa_nil))) (fun _ _ => rfl)))), fun ds Φ Ψ ⟨l, h, h0, h1, q⟩ => ?_⟩
  subst h
  show wS _ _ _ [some (.dat _), some (.dat _)]
  walk_at "dl"
  refine use_cast (by omega) (by omega) fun c hc => ?_
  have hl : c < l.length := by omega
  walk_at "dl"
  exact ixG_l (L2.atI_nat (List.getElem?_eq_getElem hl)) (q _ (List.getElem_mem hl))
end


/-! ### rows that the law draws; its own looks -/
section
variable {P : Program} {w : World} {K : PySem.W.Frag} {mg : Str → Option Value} {base : Heap} {f C : Addr} {fd : FuncData}
structure RowOk (m : Nat) (ns : List Int) : Prop where
  l1 : 1 ≤ ns.length
  l2 : ns.length ≤ m
  b : ∀ n ∈ ns, 1 ≤ n ∧ n ≤ 5 * m
  up : ns.Pairwise (· < ·)
theorem RowOk.div {m : Nat} {ns : List Int} (h : RowOk m ns) (hm : m ≤ 12) : DivOk ns := ⟨h.l1, by have := h.l2; omega, fun n hn => by have := h.b n hn; omega, h.up⟩
/-- a row under way -/
structure RowUp (i : Nat) (last : Int) (ns : List Int) : Prop where
  l : ns.length = i
  b : ∀ n ∈ ns, 1 ≤ n ∧ n ≤ last
  up : ns.Pairwise (· < ·)
  l0 : 0 ≤ last
theorem RowUp.next {i : Nat} {last y : Int} {ns : List Int} (h : RowUp i last ns) (hy : 1 ≤ y) : RowUp (i + 1) (last + y) (ns ++ [last + y]) := by
  have l0 := h.l0
  refine ⟨by rw [List.length_append, h.l]; rfl, fun n hn => ?_, ?_, by omega⟩
  · rcases List.mem_append.mp hn with h1 | h1
    · have := h.b n h1; omega
    · rw [List.mem_singleton.mp h1]; omega
  · rw [List.pairwise_append]
    refine ⟨h.up, List.pairwise_singleton _ _, fun a ha c hc => ?_⟩
    have := h.b a ha
    rw [List.mem_singleton.mp hc]; omega
def S_row : DSp := fun ds Φ _ => ∃ m : Nat, ds = [.pail, .int m] ∧ 1 ≤ m ∧ m ≤ 12 ∧ ∀ ns, RowOk m ns → Φ (divsD ns)
abbrev s_l_row : Stmt := topS 35
abbrev N_l_row : List Str := ["_law_purse_here", "_law_most_seats", "_law_found", "_law_last", "_law_k"]
theorem sc_l_row : FnScope N_l_row ["_law_purse_here", "_law_most_seats"] (defScope s_l_row) := ⟨rfl, rfl, rfl, by decide +kernel, rfl, by decide +kernel, by decide +kernel⟩

theorem ok_row (F : FunX K "_law_row" "_law_row" s_l_row f fd) (B : Blt mg) (c_l_draw : CallD P w K mg base "_law_draw" 1 (pailS P_cast)) (c_l_pick : CallD P w K mg base "_law_pick" 2 S_any_of) : FnG P w K mg base 3 f fd ["_law_purse_here", "_law_most_seats"] (lift K S_row) := by
  refine fnX_of F sc_l_row (fun ds Φ Ψ ⟨_, h, _⟩ => by rw [h]; rfl) fun cdv A outer s H E b => ⟨_, (pss_cons (ps_par (i := 2) (j := 3) rfl sc_l_row.nd rfl rfl (by decide) rfl rfl (pa_cons (pe_lst pa_nil) (pa_cons pe_int pa_nil)) rfl)
 (pss_cons (ps_for b.own rfl (pi_range1 (by rfl) B.range (pa_cons (pe_op (k_add K) pe_int (k_cd K c_l_draw (by exact b.room) (by decide) b.pass (pa_cons (pv 0) (pa_cons (pv 1) pa_nil)))) pa_nil)) (pg_name (i := 4) sc_l_row.nd rfl (by first | exact .inl rfl | exact .inr rfl)) (pss_cons (ps_set (i := 3) sc_l_row.nd rfl (by first | exact .inl rfl | exact .inr rfl) (pe_op (k_add K) (pv 3) (k_cd K c_l_pick (by exact b.room) (by decide) b.pass (pa_cons (pv 0) (pa_cons (pe_lst (pa_cons pe_int (pa_cons pe_int (pa_cons pe_int (pa_cons pe_int (pa_cons (pe_op (k_add K) pe_int (k_cd K c_l_draw (by exact b.room) (by decide) b.pass (pa_cons (pv 0) (pa_cons pe_int pa_nil)))) pa_nil)))))) pa_nil)))))
 (pss_one (ps_expr (k_bm K PySem.F.plainAttrs_list PySem.F.slot_list_append PySem.F.type_list_append mt_append (pv 2) (pa_cons (pv 3) pa_nil))))))
 (pss_one (ps_ret (pe_callTy (k_tup K) (by rfl) B.tuple bb_tuple (pa_cons (pv 2) pa_nil)))))), fun ds Φ Ψ ⟨m, h, m1, m2, q⟩ => ?_⟩
  subst h
  show wS _ _ _ [some (.dat _), some (.dat _), none, none, none]
  walk_at "dlt"
  refine wS_forT (fun i : Nat => .int (0 + (i : Int))) (fun i ρ' => ∃ (ns : List Int) (last : Int) (x : Option Sl), ρ' = [some (.dat .pail), some (.dat (.int m)), some (.own none (.lst (ns.map .int))), some (.dat (.int last)), x] ∧ RowUp i last ns ∧ last ≤ 5 * i) (wI_range1 ?_)
  walk_at "dlt"
  refine use_cast (by omega) (by omega) fun c hc => ?_
  walk_at "dlt"
  refine ⟨_, rfl, by omega, List.range (1 + c), by unfold rangeD; rw [show ((1 : Int) + (c : Int) - 0).toNat = 1 + c by omega], ⟨[], 0, _, rfl, ⟨rfl, (fun _ h => nomatch h), List.Pairwise.nil, by omega⟩, by omega⟩, fun i _ ρ' hi ⟨ns, last, x, e, ru, hl⟩ => ?_, fun ρ' ⟨ns, last, x, e, ru, hl⟩ => ?_⟩
  · subst e
    have hi' : i < 1 + c := by have := (List.getElem?_eq_some_iff.mp hi).1; simpa using this
    walk_at "dlt"
    refine use_cast (by decide) (by decide) fun d hd => ?_
    walk_at "dlt"
    refine ⟨_, rfl, by simp, by simp, fun y hy => ?_⟩
    obtain ⟨y, rfl, y1, y5⟩ : ∃ z : Int, y = .int z ∧ 1 ≤ z ∧ z ≤ 5 := by
      simp only [List.mem_cons, List.not_mem_nil, or_false] at hy
      rcases hy with rfl | rfl | rfl | rfl | rfl
      · exact ⟨_, rfl, by decide, by decide⟩
      · exact ⟨_, rfl, by decide, by decide⟩
      · exact ⟨_, rfl, by decide, by decide⟩
      · exact ⟨_, rfl, by decide, by decide⟩
      · exact ⟨_, rfl, by omega, by omega⟩
    walk_at "dlt"
    refine ⟨_, _, rfl, by rw [List.length_map, ru.l]; omega, ns ++ [last + y], last + y, _, (by rw [List.map_append]; rfl), ru.next y1, by omega⟩
  · subst e
    rw [List.length_range] at ru hl
    walk_at "dlt"
    exact q ns ⟨by have := ru.l; omega, by have := ru.l; omega, fun n hn => by have := ru.b n hn; omega, ru.up⟩
theorem div_range {n : Nat} {f : Nat → Int} (h1 : 1 ≤ n) (h2 : n ≤ 12) (b : ∀ j < n, 1 ≤ f j ∧ f j ≤ 100) (up : ∀ i j, i < j → j < n → f i < f j) : DivOk ((List.range n).map f) := by
  refine ⟨by rw [List.length_map, List.length_range]; exact h1, by rw [List.length_map, List.length_range]; exact h2, fun x hx => ?_, ?_⟩
  · obtain ⟨j, hj, rfl⟩ := List.mem_map.mp hx
    exact b j (List.mem_range.mp hj)
  · rw [List.pairwise_map]
    refine List.pairwise_iff_getElem.mpr fun i j hi hj hij => ?_
    rw [List.getElem_range, List.getElem_range]
    rw [List.length_range] at hj
    exact up _ _ hij hj
theorem row_at {m : Nat} {ns : List Int} (h : RowOk m ns) (hm : m ≤ 12) {j : Nat} (hj : j < ns.length) : ns[j]? = some (at1 ns ((j : Int) + 1)) ∧ 1 ≤ at1 ns ((j : Int) + 1) ∧ at1 ns ((j : Int) + 1) ≤ 5 * m := by
  have g := at1_get (ns := ns) (k := (j : Int) + 1) (by omega) (by omega)
  rw [show ((j : Int) + 1 - 1).toNat = j by omega] at g
  have := h.b _ (List.mem_of_getElem? g)
  exact ⟨g, this⟩
theorem row_up {m : Nat} {ns : List Int} (h : RowOk m ns) (hm : m ≤ 12) {i j : Nat} (hij : i < j) (hj : j < ns.length) : at1 ns ((i : Int) + 1) < at1 ns ((j : Int) + 1) := at1_up (h.div hm) (by omega) (by omega) (by omega)
def S_mate : DSp := fun ds Φ _ => ∃ ns, ds = [.pail, divsD ns] ∧ RowOk 6 ns ∧ ∀ ms, DivOk ms → ms.length = ns.length → Φ (divsD ms)
end


/-! ### values of any kind, drawn -/
mutual
theorem okD_vb : ∀ d : D, d.pureq = true → d.pyq.weight ≤ 1000000 → okD d = true
  | .non, _, _ => rfl
  | .bl _, _, _ => rfl
  | .int _, _, _ => rfl
  | .str x, h, w => by
    simp only [okD, Bool.and_eq_true, decide_eq_true_eq]
    exact ⟨w, h⟩
  | .tup l, h, w => by
    rw [wt_tup] at w
    simp only [okD, Bool.and_eq_true, decide_eq_true_eq]
    exact ⟨Nat.le_trans (len_wts l) w, okAll_vb l (by simpa only [D.pureq] using h) w⟩
  | .lst l, h, w => by
    rw [wt_lst] at w
    simp only [okD, Bool.and_eq_true, decide_eq_true_eq]
    exact ⟨Nat.le_trans (len_wts l) w, okAll_vb l (by simpa only [D.pureq] using h) w⟩
  | .dic _, _, _ => rfl
  | .ins _ _, h, _ => by simp [D.pureq] at h
  | .pail, h, _ => by simp [D.pureq] at h
  | .scr _, h, _ => by simp [D.pureq] at h
  | .raw _, h, _ => by simp [D.pureq] at h
  | .exn _ _ _, h, _ => by simp [D.pureq] at h
  | .dik _, h, _ => by simp [D.pureq] at h
  | .kd _ _ _ _, h, _ => by simp [D.pureq] at h
theorem okAll_vb : ∀ l : List D, pureqAll l = true → wts l ≤ 1000000 → okAll l = true
  | [], _, _ => rfl
  | d :: l, h, w => by
    simp only [pureqAll, Bool.and_eq_true] at h
    rw [wts_cons] at w
    simp only [okAll, Bool.and_eq_true]
    exact ⟨okD_vb d h.1 (by omega), okAll_vb l h.2 (by omega)⟩
end
section
variable {P : Program} {w : World} {K : PySem.W.Frag} {mg : Str → Option Value} {base : Heap} {f C : Addr} {fd : FuncData}
end


/-! ### one row favours the smaller parties more; the law's looks at divisors -/
section
variable {P : Program} {w : World} {K : PySem.W.Frag} {mg : Str → Option Value} {base : Heap} {f CD CN CO : Addr} {fd : FuncData}
/-- the error that two rows alone give -/
def twoErr (CD CO : Addr) (x y : D) : Option Exn :=
  if gDivs x = true then (if gDivs y = true then (if lenD x = lenD y then none else some ⟨CO, [("given", y)]⟩) else some ⟨CD, [("given", y)]⟩) else some ⟨CD, [("given", x)]⟩
def G_favours (CD CO : Addr) : DSp := fun ds Φ Ψ => ∃ x y, ds = [x, y] ∧ okD x = true ∧ okD y = true ∧ (match twoErr CD CO x y with | some e => Ψ e | none => ∀ b, Φ (.bl b))
abbrev s_favours : Stmt := topS 30
abbrev N_favours : List Str := ["one", "other", "pairs", "pair"]
theorem sc_favours : FnScope N_favours ["one", "other"] (defScope s_favours) := ⟨rfl, rfl, rfl, by decide +kernel, rfl, by decide +kernel, by decide +kernel⟩

theorem ok_favours (F : FunX K "favours" "favours" s_favours f fd) (B : Blt mg) (n_any : mg "any" = none) (c_check_divisors : CallD P w K mg base "check_divisors" 4 (G_check_divisors CD)) (c_check_same_seats : CallD P w K mg base "check_same_seats" 4 (G_check_same_seats CO)) (c_numbers_for : CallD P w K mg base "numbers_for" 1 S_numbers_for) (c_quotient_at : CallD P w K mg base "quotient_at" 1 S_quotient_at) (c_is_below : CallD P w K mg base "is_below" 1 S_is_below) :
    FnG P w K mg base 6 f fd ["one", "other"] (lift K (G_favours CD CO)) := by
  refine fnX_of F sc_favours (fun ds Φ Ψ ⟨_, _, h, _⟩ => by rw [h]; rfl) fun cdv A outer s H E b => ⟨_, (pss_cons (ps_expr (k_cd K c_check_divisors (by exact b.room) (by decide) b.pass (pa_cons (pv 0) pa_nil)))
 (pss_cons (ps_expr (k_cd K c_check_divisors (by exact b.room) (by decide) b.pass (pa_cons (pv 1) pa_nil)))
 (pss_cons (ps_expr (k_cd K c_check_same_seats (by exact b.room) (by decide) b.pass (pa_cons (pv 0) (pa_cons (pv 1) pa_nil))))
 (pss_cons (ps_set (i := 2) sc_favours.nd rfl (by first | exact .inl rfl | exact .inr rfl) (k_cd K c_numbers_for (by exact b.room) (by decide) b.pass (pa_cons (pe_callB (k_len K) (by rfl) B.len bb_len (pa_cons (pv 0) pa_nil)) (pa_cons pe_int pa_nil))))
 (pss_one (ps_ret (pe_not (pe_callB (k_any1 K rfl) (by rfl) n_any bb_any (pa_cons (pe_lc (own := [("pair", 3)]) rfl sc_favours.nd (k_any K (pv 2)) (blkOk_by (own := [("pair", 3)]) (N := N_favours) (sc := defScope s_favours) (by decide +kernel))  (fun _ _ _ _ _ => (pg_name (i := 3) sc_favours.nd rfl (by first | exact .inl rfl | exact .inr rfl))) (fun _ _ _ _ _ => pts_nil) (fun _ _ _ _ _ => (k_cd K c_is_below (by exact b.room) (by decide) passN (pa_cons (k_cd K c_quotient_at (by exact b.room) (by decide) passN (pa_cons (pv 1) (pa_cons (pv 3) pa_nil))) (pa_cons (k_cd K c_quotient_at (by exact b.room) (by decide) passN (pa_cons (pv 0) (pa_cons (pv 3) pa_nil))) pa_nil))))) pa_nil))))))))), fun ds Φ Ψ ⟨x, y, h, hx, hy, q⟩ => ?_⟩
  subst h
  show wS _ _ _ [some (.dat _), some (.dat _), none, none]
  walk_at "dlt"
  refine ⟨x, rfl, hx, ?_⟩
  unfold twoErr at q
  by_cases h1 : gDivs x = true
  · rw [if_pos h1] at q ⊢
    walk_at "dlt"
    refine ⟨y, rfl, hy, ?_⟩
    by_cases h2 : gDivs y = true
    · rw [if_pos h2] at q ⊢
      obtain ⟨e1, d1⟩ := divs_of h1
      obtain ⟨e2, d2⟩ := divs_of h2
      generalize divsOf x = ns at e1 d1
      generalize divsOf y = ms at e2 d2
      subst e1 e2
      rw [lenD_divs, lenD_divs] at q
      walk_at "dlt"
      refine ⟨ns, ms, rfl, d1, d2, ?_⟩
      by_cases h3 : ns.length = ms.length
      · rw [if_pos h3] at q ⊢
        have l2 := d1.l2
        show wS _ _ _ [some (.dat (.tup (ns.map D.int))), some (.dat (.tup (ms.map D.int))), none, none]
        walk_at "dlt"
        rw [List.length_map]
        refine ⟨ns.length, 2, rfl, l2, ?_⟩
        have pl : (numsFor ns.length 2).length ≤ 66 := Nat.le_trans (List.length_filter_le _ _) (prs_len l2)
        walk_at "dlt"
        refine wE_lcM (only_name List.mem_cons_self) pairD (fun p => .bl (decide (at1 ms p.1 * at1 ns p.2 < at1 ns p.1 * at1 ms p.2))) (wI_any ?_)
        walk_at "dlt"
        refine ⟨_, rfl, numsFor ns.length 2, rfl, by omega, fun p hp => ?_, ?_⟩
        · obtain ⟨p1, p2, p3⟩ := nums_mem hp
          obtain ⟨b3, b4⟩ := at1_bd d1 (k := p.2) (by omega) p3
          obtain ⟨b7, b8⟩ := at1_bd d2 (k := p.2) (by omega) (by omega)
          walk_at "dlt"
          refine ⟨ms, p, rfl, p1, by omega, by omega, by omega, ?_⟩
          walk_at "dlt"
          refine ⟨ns, p, rfl, p1, by omega, by omega, by omega, ?_⟩
          walk_at "dlt"
          refine ⟨_, _, _, _, rfl, ⟨by omega, by omega⟩, ⟨by omega, by omega⟩, ?_⟩
          rfl
        · walk_at "dlt"
          refine anyG_map ?_
          walk_at "dlt"
          exact q _
      · rw [if_neg h3] at q ⊢
        exact q
    · rw [if_neg h2] at q ⊢
      exact q
  · rw [if_neg h1] at q ⊢
    exact q
def S_are_divisors : DSp := fun ds Φ _ => ∃ d, ds = [d] ∧ okD d = true ∧ Φ (.bl (gDivs d))
abbrev s_l_are_divisors : Stmt := topS 39
abbrev N_l_are_divisors : List Str := ["_law_value", "_law_d"]
theorem sc_l_are_divisors : FnScope N_l_are_divisors ["_law_value"] (defScope s_l_are_divisors) := ⟨rfl, rfl, rfl, by decide +kernel, rfl, by decide +kernel, by decide +kernel⟩

theorem up_set {ns ms : List Int} (h : ms.Pairwise (· < ·)) (m : ∀ k, k ∈ ms ↔ k ∈ ns) : decide (ns = ms) = upI ns := by
  by_cases u : upI ns = true
  · rw [u, decide_eq_true (up_alone (up_ok.mp u) h fun k => (m k).symm)]
  · rw [(Bool.not_eq_true _).mp u]
    exact decide_eq_false fun e => u (up_ok.mpr (e ▸ h))
theorem eqv_intl (xs ys : List Int) : D.eqv (.lst (xs.map .int)) (.lst (ys.map .int)) = decide (xs = ys) := by
  simp only [D.eqv, D.py, PyData.eqv]
  exact eqvAll_ints xs ys
theorem shp_intl (ns : List Int) : Shp 64 (.lst (ns.map D.int)) := Shp.lst (n := 63) fun d hd => by
  obtain ⟨n, _, rfl⟩ := List.mem_map.mp hd
  exact .int
theorem ok_are_divisors (F : FunX K "_law_are_divisors" "_law_are_divisors" s_l_are_divisors f fd) (B : Blt mg) (n_sorted : mg "sorted" = none) (n_set : mg "set" = none) : FnG P w K mg base 1 f fd ["_law_value"] (lift K S_are_divisors) := by
  refine fnX_of F sc_l_are_divisors (fun ds Φ Ψ ⟨_, h, _⟩ => by rw [h]; rfl) fun cdv A outer s H E b => ⟨_, (pss_cons (ps_if (PW.pt (pw_or (pt_not (pt_val (pe_callB (k_isi K) (by rfl) B.isinstance bb_isinstance (pa_cons (pv 0) (pa_cons (pe_bty B.tuple bb_tuple) pa_nil))))) (pw_or1 (pt_not (pt_chain op_le op_le pe_int (pe_callB (k_len K) (by rfl) B.len bb_len (pa_cons (pv 0) pa_nil)) pe_int))))) (pss_one (ps_ret pe_bl)) pss_nil)
 (pss_cons (ps_if (pt_cmpR (k_neL0 K (by exact b.room)) (pe_lc (own := [("_law_d", 1)]) rfl sc_l_are_divisors.nd (k_any K (pv 0)) (blkOk_by (own := [("_law_d", 1)]) (N := N_l_are_divisors) (sc := defScope s_l_are_divisors) (by decide +kernel))  (fun _ _ _ _ _ => (pg_name (i := 1) sc_l_are_divisors.nd rfl (by first | exact .inl rfl | exact .inr rfl))) (fun _ _ _ _ _ => (pts_one (PW.pt (pw_or (pt_not (pt_val (pe_callB (k_isi K) (by rfl) B.isinstance bb_isinstance (pa_cons (pv 1) (pa_cons (pe_bty B.int bb_int) pa_nil))))) (pw_or (pt_val (pe_callB (k_isi K) (by rfl) B.isinstance bb_isinstance (pa_cons (pv 1) (pa_cons (pe_bty B.bool bb_bool) pa_nil)))) (pw_or1 (pt_not (pt_chain op_le op_le pe_int (pv 1) pe_int)))))))) (fun _ _ _ _ _ => (pv 1))) (pe_lst pa_nil) (nomark _)) (pss_one (ps_ret pe_bl)) pss_nil)
 (pss_one (ps_ret (pe_cmpR (k_eq K (by exact b.room)) (pe_callTy (k_list K) (by rfl) B.list bb_list (pa_cons (pv 0) pa_nil)) (pe_callB (cr_sortedSet rfl) (by rfl) n_sorted bb_sorted (pa_cons (pe_callTy (k_setTv K rfl) (by rfl) n_set bb_set (pa_cons (pv 0) pa_nil)) pa_nil)) (nomark _)))))), fun ds Φ Ψ ⟨d, h, hd, q⟩ => ?_⟩
  subst h
  show wS _ _ _ [some (.dat _), none]
  cases d <;> first | (simp [okD] at hd; done) | skip
  all_goals first | (walk_at "dlt"; exact q; done) | skip
  rename_i l _
  obtain ⟨hz, hok⟩ := ok_tup hd
  have out : ∀ b, b = gDivs (.tup l) → Φ (.bl b) := fun b e => e ▸ q
  have gd : gDivs (.tup l) = (decide (1 ≤ l.length) && decide (l.length ≤ 12) && (l.all fun d => gBet d 1 100) && upI (l.map dInt)) := rfl
  walk_at "dlt"
  refine ifD (fun h1 => ?a1) (fun h1 => ?b1)
  case b1 =>
    walk_at "dlt"
    exact out _ (by rw [gd, decide_eq_false (by omega)]; rfl)
  walk_at "dlt"
  refine ifND (fun h2 => ?a2) (fun h2 => ?b2)
  case b2 =>
    walk_at "dlt"
    exact out _ (by rw [gd, decide_eq_true (by omega), decide_eq_false (by omega)]; rfl)
  walk_at "dlt"
  refine wE_lcF (only_name List.mem_cons_self) (fun d : D => d) (fun d => d) (fun d => !(gBet d 1 100)) (wI_any ?_)
  walk_at "dlt"
  refine ⟨_, rfl, l, (List.map_id' l).symm, by omega, fun x hx => ?_, ?_⟩
  · have hox := hok x hx
    cases x <;> first | (simp [okD] at hox; done) | skip
    all_goals first | (walk_at "dlt"; refine ⟨rfl, fun _ => ?_⟩; walk_at "dlt"; rfl; done) | skip
    rename_i n
    walk_at "dlt"
    refine ifD (fun a1 => ?a3) (fun a1 => ?b3)
    case b3 =>
      walk_at "dlt"
      refine ⟨by show true = !(decide (1 ≤ n) && decide (n ≤ 100)); rw [decide_eq_false a1]; rfl, fun _ => ?_⟩
      walk_at "dlt"
      rfl
    walk_at "dlt"
    refine ⟨by show (!decide (n ≤ 100)) = !(decide (1 ≤ n) && decide (n ≤ 100)); rw [decide_eq_true a1]; rfl, fun _ => ?_⟩
    walk_at "dlt"
    rfl
  walk_at "dlt"
  refine ⟨_, rfl, rfl, ?_⟩
  rw [List.map_id']
  by_cases hf : l.filter (fun d => !(gBet d 1 100)) = []
  case neg =>
    refine ⟨_, rfl, if_yes (by rw [show ((l.filter fun d => !(gBet d 1 100)).length == 0) = false from beq_eq_false_iff_ne.mpr fun z => hf (List.length_eq_zero_iff.mp z)]; rfl) ?_⟩
    walk_at "dlt"
    refine out _ ?_
    have : (l.all fun d => gBet d 1 100) = false := by
      rw [Bool.eq_false_iff]
      intro z
      rw [List.all_eq_true] at z
      exact hf (List.filter_eq_nil_iff.mpr fun d hd => by rw [z d hd]; exact Bool.false_ne_true)
    rw [gd, this, Bool.and_false, Bool.false_and]
  have hall : (l.all fun d => gBet d 1 100) = true := by
    rw [List.all_eq_true]
    intro d hd
    have := List.filter_eq_nil_iff.mp hf d hd
    simpa using this
  have el := ints_all hall
  refine ⟨_, rfl, if_no (by rw [hf]; rfl) ?_⟩
  rw [gd, hall, decide_eq_true (by omega), decide_eq_true (by omega)] at out
  generalize hns : l.map dInt = ns at el out
  have lns : l.length = ns.length := by rw [← hns, List.length_map]
  rw [el]
  walk_at "dlt"
  refine ⟨ns, rfl, by omega, fun ms up mem => ?_⟩
  walk_at "dlt"
  refine eqG_of (shp_intl ns) (shp_intl ms) ?_
  rw [eqv_intl]
  exact out _ (up_set up mem)
/-! the error told -/
def kindW (j : Nat) : Str := ([("NotANight" : Str), "InvalidTable", "InvalidBloc", "InvalidNumber", "InvalidDivisors", "OtherSeats"] : List Str).getD j ""
structure KindC (K : PySem.W.Frag) (C0 C1 C2 C3 C4 C5 BB BN BA C : Addr) (j : Nat) : Prop where
  x : XIs K C
  g : PySem.W.findIn K (.ref C) "given" = some none
  k0 : PySem.W.kitOne K (.ref C) (.ref C0) = some (decide (j = 0))
  k1 : PySem.W.kitOne K (.ref C) (.ref C1) = some (decide (j = 1))
  k2 : PySem.W.kitOne K (.ref C) (.ref C2) = some (decide (j = 2))
  k3 : PySem.W.kitOne K (.ref C) (.ref C3) = some (decide (j = 3))
  k4 : PySem.W.kitOne K (.ref C) (.ref C4) = some (decide (j = 4))
  k5 : PySem.W.kitOne K (.ref C) (.ref C5) = some (decide (j = 5))
  b : PySem.W.kitOne K (.ref C) (.ref BB) = some true
  n : PySem.W.kitOne K (.ref C) (.ref BN) = some false
  a : PySem.W.kitOne K (.ref C) (.ref BA) = some false
end
section
variable {P : Program} {w : World} {K : PySem.W.Frag} {mg : Str → Option Value} {base : Heap} {f C0 C1 C2 C3 C4 C5 BB BN BA : Addr} {fd : FuncData}
def S_caught (K : PySem.W.Frag) (C0 C1 C2 C3 C4 C5 BB BN BA : Addr) : ESp := fun x Φ => ∃ C j d, x = ⟨C, [("given", d)]⟩ ∧ j < 6 ∧ KindC K C0 C1 C2 C3 C4 C5 BB BN BA C j ∧ FineQ 64 350000 d ∧ Φ (.lst [.str (kindW j), .str d.pyq.shown])
abbrev s_l_caught : Stmt := topS 37
abbrev N_l_caught : List Str := ["_law_act", "e", "_law_some_here", "_law_plain", "_law_words"]
theorem sc_l_caught : FnScope N_l_caught ["_law_act"] (defScope s_l_caught) := ⟨rfl, rfl, rfl, by decide +kernel, rfl, by decide +kernel, by decide +kernel⟩

local macro_rules | `(tactic| walk_at "dli") => `(tactic| repeat (first | (with_reducible refine wE_mt mtd_indexB ty_of ?_) | walk_at "dl1" | walk_at "dl2" | walk_at "dl3"))
theorem ok_caught (F : FunX K "_law_caught" "_law_caught" s_l_caught f fd) (B : Blt mg) (SY : SysB base) (hm : mg "_law_caught" = some (.ref f)) (hk : PySem.W.keepIn K (.ref f) = true) (bd : Binds K fd ["_law_act"] []) (c_BadValue : mg "BadValue" = some (.ref BB)) (c_BadName : mg "BadName" = some (.ref BN)) (c_NoAnswer : mg "NoAnswer" = some (.ref BA))
    (c_NotANight : mg "NotANight" = some (.ref C0)) (c_InvalidTable : mg "InvalidTable" = some (.ref C1)) (c_InvalidBloc : mg "InvalidBloc" = some (.ref C2)) (c_InvalidNumber : XMk P w K mg base "InvalidNumber" "given" C3) (c_InvalidDivisors : XMk P w K mg base "InvalidDivisors" "given" C4) (c_OtherSeats : XMk P w K mg base "OtherSeats" "given" C5) :
    CgtC P w K mg base "_law_caught" 8 [.ref BB, .ref BN, .ref BA] (S_caught K C0 C1 C2 C3 C4 C5 BB BN BA) := by
  refine cgt_of F hm hk bd sc_l_caught rfl rfl ⟨by decide, by decide⟩ ⟨rfl, by decide, c_BadValue⟩ ⟨rfl, by decide, c_BadName⟩ ⟨rfl, by decide, c_NoAnswer⟩ rfl
    (fun cdg A outer s H a oe D' d pn hz hv room => (pss_cons (ps_set (i := 2) sc_l_caught.nd rfl (by first | exact .inl rfl | exact .inr rfl) (pe_lst (pa_cons (pe_callB (k_isX K hz hv (by first | exact List.mem_cons_self | assumption)) (by rfl) B.isinstance bb_isinstance (pa_cons (pv 1) (pa_cons (pe_gcls c_NotANight) pa_nil))) (pa_cons (pe_callB (k_isX K hz hv (by first | exact List.mem_cons_self | assumption)) (by rfl) B.isinstance bb_isinstance (pa_cons (pv 1) (pa_cons (pe_gcls c_InvalidTable) pa_nil))) (pa_cons (pe_callB (k_isX K hz hv (by first | exact List.mem_cons_self | assumption)) (by rfl) B.isinstance bb_isinstance (pa_cons (pv 1) (pa_cons (pe_gcls c_InvalidBloc) pa_nil))) pa_nil)))))
 (pss_cons (ps_set (i := 2) sc_l_caught.nd rfl (by first | exact .inl rfl | exact .inr rfl) (pe_op (k_add K) (pv 2) (pe_lst (pa_cons (pe_callB (k_isX K hz hv (by first | exact List.mem_cons_self | assumption)) (by rfl) B.isinstance bb_isinstance (pa_cons (pv 1) (pa_cons (pe_gcls c_InvalidNumber.here) pa_nil))) (pa_cons (pe_callB (k_isX K hz hv (by first | exact List.mem_cons_self | assumption)) (by rfl) B.isinstance bb_isinstance (pa_cons (pv 1) (pa_cons (pe_gcls c_InvalidDivisors.here) pa_nil))) (pa_cons (pe_callB (k_isX K hz hv (by first | exact List.mem_cons_self | assumption)) (by rfl) B.isinstance bb_isinstance (pa_cons (pv 1) (pa_cons (pe_gcls c_OtherSeats.here) pa_nil))) pa_nil))))))
 (pss_cons (ps_set (i := 3) sc_l_caught.nd rfl (by first | exact .inl rfl | exact .inr rfl) (pe_lst (pa_cons (pe_callB (k_isX K hz hv (by first | exact List.mem_cons_self | assumption)) (by rfl) B.isinstance bb_isinstance (pa_cons (pv 1) (pa_cons (pe_gcls c_BadValue) pa_nil))) (pa_cons (pe_callB (k_isX K hz hv (by first | exact List.mem_cons_self | assumption)) (by rfl) B.isinstance bb_isinstance (pa_cons (pv 1) (pa_cons (pe_gcls c_BadName) pa_nil))) (pa_cons (pe_callB (k_isX K hz hv (by first | exact List.mem_cons_self | assumption)) (by rfl) B.isinstance bb_isinstance (pa_cons (pv 1) (pa_cons (pe_gcls c_NoAnswer) pa_nil))) pa_nil)))))
 (pss_cons (ps_if (PW.pt (pw_or (pt_cmpR (k_neE K room) (k_bm K PySem.F.plainAttrs_list PySem.F.slot_list_count PySem.F.type_list_count (k_count K) (pv 2) (pa_cons pe_bl pa_nil)) pe_int (nomark _)) (pw_or1 (pt_cmpR (k_neE K room) (pv 3) (pe_lst (pa_cons pe_bl (pa_cons pe_bl (pa_cons pe_bl pa_nil)))) (nomark _))))) (pss_one (ps_ret (pe_lst (pa_cons pe_str (pa_cons pe_str pa_nil))))) pss_nil)
 (pss_cons (ps_set (i := 4) sc_l_caught.nd rfl (by first | exact .inl rfl | exact .inr rfl) (pe_lst (pa_cons pe_str (pa_cons pe_str (pa_cons pe_str (pa_cons pe_str (pa_cons pe_str (pa_cons pe_str pa_nil))))))))
 (pss_one (ps_ret (pe_lst (pa_cons (pe_ix (k_ix K) (pv 4) (k_bm K PySem.F.plainAttrs_list PySem.F.slot_list_index PySem.F.type_list_index (k_index K) (pv 2) (pa_cons pe_bl pa_nil)) (fun _ _ => rfl)) (pa_cons (pe_callB (k_reprQE K SY room) (by rfl) B.repr bb_repr (pa_cons (k_fldX K hz hv (by first | exact List.mem_cons_self | assumption) (pv 1)) pa_nil)) pa_nil))))))))))) fun a D' dd fs Φ ⟨C, j, d, ex, hj, Z, hf, q⟩ => ?_
  injection ex with ex1 ex2
  subst ex1 ex2
  show wS _ _ _ [none, some (.dat _), none, none, none]
  walk_at "dli"
  refine ⟨_, _, _, _, rfl, Z.x, rfl, Z.k0, ?_⟩
  walk_at "dli"
  refine ⟨_, _, _, _, rfl, Z.x, rfl, Z.k1, ?_⟩
  walk_at "dli"
  refine ⟨_, _, _, _, rfl, Z.x, rfl, Z.k2, ?_⟩
  walk_at "dli"
  refine ⟨by simp, ?_⟩
  walk_at "dli"
  refine ⟨_, _, _, _, rfl, Z.x, rfl, Z.k3, ?_⟩
  walk_at "dli"
  refine ⟨_, _, _, _, rfl, Z.x, rfl, Z.k4, ?_⟩
  walk_at "dli"
  refine ⟨_, _, _, _, rfl, Z.x, rfl, Z.k5, ?_⟩
  walk_at "dli"
  refine ⟨by simp, ?_⟩
  refine addG_l (by simp) ?_
  walk_at "dli"
  refine ⟨_, _, _, _, rfl, Z.x, rfl, Z.b, ?_⟩
  walk_at "dli"
  refine ⟨_, _, _, _, rfl, Z.x, rfl, Z.n, ?_⟩
  walk_at "dli"
  refine ⟨_, _, _, _, rfl, Z.x, rfl, Z.a, ?_⟩
  walk_at "dli"
  refine ⟨by simp, ?_⟩
  walk_at "dli"
  refine ⟨rfl, ?_⟩
  walk_at "dli"
  refine ⟨[decide (j = 0), decide (j = 1), decide (j = 2), decide (j = 3), decide (j = 4), decide (j = 5)], true, rfl, rfl, ?_⟩
  rw [show [decide (j = 0), decide (j = 1), decide (j = 2), decide (j = 3), decide (j = 4), decide (j = 5)].count true = 1 by
    match j, hj with
    | 0, _ => rfl
    | 1, _ => rfl
    | 2, _ => rfl
    | 3, _ => rfl
    | 4, _ => rfl
    | 5, _ => rfl]
  walk_at "dli"
  have sh : Shp 64 (.lst [.bl true, .bl false, .bl false]) := Shp.lst (n := 63) fun d hd => by
    simp only [List.mem_cons, List.not_mem_nil, or_false] at hd
    rcases hd with rfl | rfl | rfl <;> exact .bl
  refine ⟨by simp, neG_of sh sh ?_⟩
  rw [show (!D.eqv (.lst [.bl true, .bl false, .bl false]) (.lst [.bl true, .bl false, .bl false])) = false from rfl]
  refine ⟨_, rfl, if_no rfl ?_⟩
  walk_at "dli"
  refine ⟨by simp, ?_⟩
  walk_at "dli"
  refine ⟨rfl, ?_⟩
  walk_at "dli"
  refine ⟨[decide (j = 0), decide (j = 1), decide (j = 2), decide (j = 3), decide (j = 4), decide (j = 5)], true, j, rfl, rfl, ?_, ?_, ?_⟩
  · match j, hj with
    | 0, _ => rfl
    | 1, _ => rfl
    | 2, _ => rfl
    | 3, _ => rfl
    | 4, _ => rfl
    | 5, _ => rfl
  · match j, hj with
    | 0, _ => exact fun m hm => absurd hm (Nat.not_lt_zero m)
    | 1, _ => decide
    | 2, _ => decide
    | 3, _ => decide
    | 4, _ => decide
    | 5, _ => decide
  have hix : ([("NotANight" : Str), "InvalidTable", "InvalidBloc", "InvalidNumber", "InvalidDivisors", "OtherSeats"].map D.str)[j]? = some (.str (kindW j)) := by
    match j, hj with
    | 0, _ => rfl
    | 1, _ => rfl
    | 2, _ => rfl
    | 3, _ => rfl
    | 4, _ => rfl
    | 5, _ => rfl
  refine ⟨none, (j : Int), _, _, rfl, rfl, L2.atI_nat hix, ?_⟩
  walk_at "dli"
  refine ⟨Z.x, Z.g, _, _, rfl, rfl, ?_⟩
  walk_at "dli"
  refine ⟨_, rfl, hf, ?_⟩
  walk_at "dli"
  refine ⟨by simp, ?_⟩
  exact q
/-! the first of the errors that are due -/
def dueD : Option (Str × Str) → D
  | none => .lst []
  | some p => .lst [.str p.1, .str p.2]
def firstD (l : List (Option (Str × Str))) : Option (Str × Str) := (l.filterMap id).head?
def isDue (o : Option (Str × Str)) : Bool := o.isSome
def S_first : DSp := fun ds Φ _ => ∃ l : List (Option (Str × Str)), ds = [.lst (l.map dueD)] ∧ l.length ≤ 60 ∧ Φ (dueD (firstD l))
abbrev s_l_first : Stmt := topS 38
abbrev N_l_first : List Str := ["_law_dues", "_law_due"]
theorem sc_l_first : FnScope N_l_first ["_law_dues"] (defScope s_l_first) := ⟨rfl, rfl, rfl, by decide +kernel, rfl, by decide +kernel, by decide +kernel⟩

theorem first_filter (l : List (Option (Str × Str))) : ∃ r, (l.filter isDue).map dueD ++ [D.lst []] = dueD (firstD l) :: r := by
  induction l with
  | nil => exact ⟨[], rfl⟩
  | cons o l ih =>
    cases o with
    | none => exact ih
    | some p => exact ⟨(l.filter isDue).map dueD ++ [D.lst []], rfl⟩
theorem ok_first (F : FunX K "_law_first" "_law_first" s_l_first f fd) (B : Blt mg) : FnG P w K mg base 1 f fd ["_law_dues"] (lift K S_first) := by
  refine fnX_of F sc_l_first (fun ds Φ Ψ ⟨_, h, _⟩ => by rw [h]; rfl) fun cdv A outer s H E b => ⟨_, (pss_one (ps_ret (pe_ix (k_ix K) (pe_op (k_add K) (pe_lc (own := [("_law_due", 1)]) rfl sc_l_first.nd (k_any K (pv 0)) (blkOk_by (own := [("_law_due", 1)]) (N := N_l_first) (sc := defScope s_l_first) (by decide +kernel))  (fun _ _ _ _ _ => (pg_name (i := 1) sc_l_first.nd rfl (by first | exact .inl rfl | exact .inr rfl))) (fun _ _ _ _ _ => (pts_one (pt_cmpR (k_neL0 K (by exact b.room)) (pv 1) (pe_lst pa_nil) (nomark _)))) (fun _ _ _ _ _ => (pv 1))) (pe_lst (pa_cons (pe_lst pa_nil) pa_nil))) pe_int (fun _ _ => rfl)))), fun ds Φ Ψ ⟨l, h, hl, q⟩ => ?_⟩
  subst h
  show wS _ _ _ [some (.dat _), none]
  walk_at "dlt"
  refine wE_lcF (only_name List.mem_cons_self) dueD dueD isDue (wI_any ?_)
  walk_at "dlt"
  refine ⟨_, rfl, l, rfl, by omega, fun o ho => ?_, ?_⟩
  · walk_at "dlt"
    cases o with
    | none =>
      refine ⟨_, rfl, rfl, _, rfl, rfl, fun h => (Bool.false_ne_true h).elim⟩
    | some p =>
      refine ⟨_, rfl, rfl, _, rfl, rfl, fun _ => ?_⟩
      walk_at "dlt"
      rfl
  walk_at "dlt"
  obtain ⟨r, hr⟩ := first_filter l
  have fl : (l.filter isDue).length ≤ l.length := List.length_filter_le _ _
  refine addG_l (by simp only [List.length_map, List.length_cons, List.length_nil]; omega) ?_
  rw [hr]
  walk_at "dlt"
  exact q
end


/-! what is drawn -/
section
variable {P : Program} {w : World} {K : PySem.W.Frag} {mg : Str → Option Value} {base : Heap} {f : Addr} {fd : FuncData}
structure AnyD (d : D) : Prop where
  ok : okD d = true
  f : FineQ 20 3500 d
theorem any_vb {d : D} {W : Nat} (h : vbB (10 ^ 39) 5 W d = true) (hW : W ≤ 3500) : AnyD d := by
  obtain ⟨a, b⟩ := vb_of h
  exact ⟨okD_vb d a.p (by omega), (a.fine (Nat.pow_lt_pow_right (by decide) (by decide)) b).mono (by decide) hW⟩
theorem any_int {i : Int} (h : -101 ≤ i ∧ i ≤ 101) : FineQ 0 8 (.int i) := by
  have v : Vb 101 0 (.int i) := ⟨rfl, Nat.zero_le _, by show i.natAbs ≤ 101; omega⟩
  refine v.fine (by decide) ?_
  by_cases h0 : i = 0
  · subst h0; decide
  · have h1 : i.natAbs < 2 ^ 7 := by have : (2 : Nat) ^ 7 = 128 := rfl; omega
    have h2 : i.natAbs.log2 < 7 := (Nat.log2_lt (Int.natAbs_ne_zero.mpr h0)).mpr h1
    simp only [D.pyq, PyData.weight]
    split <;> omega
theorem ok_ints {l : List Int} : okAll (l.map D.int) = true := by
  induction l with
  | nil => rfl
  | cons i l ih => rw [List.map_cons, okAll, ih]; rfl
theorem any_ints {l : List Int} (h : ∀ i ∈ l, -101 ≤ i ∧ i ≤ 101) (hl : l.length ≤ 20) : AnyD (.tup (l.map D.int)) := by
  refine ⟨?_, (FineQ.tup (n := 0) (W := 8) (m := 20) (fun d hd => ?_) (by rw [List.length_map]; exact hl)).mono (by decide) (by decide)⟩
  · rw [okD, ok_ints, List.length_map, decide_eq_true (by omega)]; rfl
  · obtain ⟨i, hi, rfl⟩ := List.mem_map.mp hd
    exact any_int (h i hi)
theorem any_row {ns : List Int} (h : RowOk 3 ns) : ∀ i ∈ ns, -101 ≤ i ∧ i ≤ 101 := fun i hi => by have := h.b i hi; omega
theorem any_rg {i j : Int} (h : -101 ≤ i ∧ j ≤ 102) (hl : (j - i).toNat ≤ 20) : AnyD (.tup (((List.range (j - i).toNat).map fun k : Nat => i + (k : Int)).map D.int)) := any_ints (fun x hx => by
  obtain ⟨k, hk, rfl⟩ := List.mem_map.mp hx
  have := List.mem_range.mp hk
  omega) (by rw [List.length_map, List.length_range]; exact hl)
theorem any_one {ns : List Int} (h : RowOk 3 ns) : AnyD (.tup [.tup (ns.map D.int)]) := by
  have r : AnyD (.tup (ns.map D.int)) := any_ints (any_row h) (Nat.le_trans h.l2 (by decide))
  have f0 : FineQ 1 60 (.tup (ns.map D.int)) := (FineQ.tup (n := 0) (W := 8) (m := 3) (fun d hd => by
    obtain ⟨i, hi, rfl⟩ := List.mem_map.mp hd
    exact any_int (any_row h i hi)) (by rw [List.length_map]; exact h.l2)).mono (by decide) (by decide)
  refine ⟨?_, (FineQ.tup (n := 1) (W := 60) (m := 1) (fun d hd => ?_) (by simp)).mono (by decide) (by decide)⟩
  · have := r.ok
    simp [okD, okAll] at this ⊢
    exact this
  · rw [List.mem_singleton.mp hd]; exact f0
def S_some : DSp := fun ds Φ _ => ds = [.pail] ∧ ∀ d, AnyD d → Φ d
abbrev s_l_some : Stmt := topS 40
abbrev N_l_some : List Str := ["_law_purse_here", "_law_row_here", "_law_bad"]
theorem sc_l_some : FnScope N_l_some ["_law_purse_here"] (defScope s_l_some) := ⟨rfl, rfl, rfl, by decide +kernel, rfl, by decide +kernel, by decide +kernel⟩

theorem ok_some (F : FunX K "_law_some" "_law_some" s_l_some f fd) (B : Blt mg) (c_l_row : CallD P w K mg base "_law_row" 3 S_row) (c_l_pick : CallD P w K mg base "_law_pick" 2 S_any_of) : FnG P w K mg base 4 f fd ["_law_purse_here"] (lift K S_some) := by
  refine fnX_of F sc_l_some (fun ds Φ Ψ ⟨h, _⟩ => by rw [h]; rfl) fun cdv A outer s H E b => ⟨_, (pss_cons (ps_set (i := 1) sc_l_some.nd rfl (by first | exact .inl rfl | exact .inr rfl) (k_cd K c_l_row (by exact b.room) (by decide) b.pass (pa_cons (pv 0) (pa_cons pe_int pa_nil))))
 (pss_cons (ps_set (i := 2) sc_l_some.nd rfl (by first | exact .inl rfl | exact .inr rfl) (pe_lst (pa_cons pe_non (pa_cons (pe_tup pa_nil) (pa_cons pe_int (pa_cons pe_str (pa_cons (pe_lst (pa_cons pe_int (pa_cons pe_int pa_nil))) (pa_cons (pe_op (k_add K) (pe_tup (pa_cons pe_int pa_nil)) (pv 1)) (pa_cons (pe_op (k_add K) (pv 1) (pe_slice (k_sl K) (pv 1) (po_some (pe_un un_neg pe_int)) po_none)) (pa_cons (pe_op (k_add K) (k_revT K (pv 1)) (pe_tup (pa_cons pe_int pa_nil))) (pa_cons (pe_tup (pa_cons pe_bl (pa_cons pe_int pa_nil))) (pa_cons (pe_tup (pa_cons pe_int (pa_cons pe_str pa_nil))) (pa_cons (pe_tup (pa_cons pe_int (pa_cons pe_int pa_nil))) pa_nil)))))))))))))
 (pss_cons (ps_set (i := 2) sc_l_some.nd rfl (by first | exact .inl rfl | exact .inr rfl) (pe_op (k_add K) (pv 2) (pe_lst (pa_cons (pe_tup (pa_cons pe_non pa_nil)) (pa_cons (pe_tup (pa_cons (pv 1) pa_nil)) (pa_cons pe_dnewK (pa_cons (pe_tupRg rfl (by rfl) B.tuple (prg_2 (by rfl) B.range pe_int pe_int)) (pa_cons (pe_tup (pa_cons (pe_un un_neg pe_int) (pa_cons pe_int pa_nil))) (pa_cons (pe_tup (pa_cons pe_int (pa_cons pe_int pa_nil))) pa_nil)))))))))
 (pss_one (ps_ret (k_cd K c_l_pick (by exact b.room) (by decide) b.pass (pa_cons (pv 0) (pa_cons (pe_lst (pa_cons (pv 1) (pa_cons (pv 1) (pa_cons (pv 1) (pa_cons (pe_tup (pa_cons pe_int pa_nil)) (pa_cons (pe_tupRg rfl (by rfl) B.tuple (prg_2 (by rfl) B.range pe_int pe_int)) (pa_cons (k_cd K c_l_pick (by exact b.room) (by decide) b.pass (pa_cons (pv 0) (pa_cons (pv 2) pa_nil))) pa_nil))))))) pa_nil)))))))), fun ds Φ Ψ ⟨h, q⟩ => ?_⟩
  subst h
  show wS _ _ _ [some (.dat _), none, none]
  walk_at "dlt"
  refine ⟨3, rfl, by decide, by decide, fun ns hr => ?_⟩
  have l3 : ns.length ≤ 3 := hr.l2
  have hne : ns.map D.int ≠ [] := fun h => by have := hr.l1; rw [List.map_eq_nil_iff.mp h] at this; exact absurd this (by decide)
  have hcut : cutD (ns.map D.int) (some (-1)) none = (ns.drop (ns.length - 1)).map D.int := by rw [cut_last hne, List.length_map, List.map_drop]
  unfold divsD
  walk_at "dlt"
  refine addG_t (by simp only [List.length_cons, List.length_nil, List.length_map]; omega) ?_
  walk_at "dlt"
  rw [hcut]
  refine addG_t (by simp only [List.length_drop, List.length_map]; omega) ?_
  walk_at "dlt"
  refine ⟨_, rfl, ?_⟩
  walk_at "dlt"
  refine addG_t (by simp only [List.length_cons, List.length_nil, List.length_reverse, List.length_map]; omega) ?_
  repeat (first | walk_at "dl1" | walk_at "dl2" | walk_at "dl3" | (refine And.intro (by simp; done) ?_) | (refine addG_l (by simp; done) ?_))
  refine ⟨1, 14, rfl, rfl, RgOk.of_le (by decide) (by decide) (by decide) (by decide), ?_⟩
  repeat (first | walk_at "dl1" | walk_at "dl2" | walk_at "dl3" | (refine And.intro (by simp; done) ?_) | (refine addG_l (by simp; done) ?_))
  refine ⟨89, 101, rfl, rfl, RgOk.of_le (by decide) (by decide) (by decide) (by decide), ?_⟩
  walk_at "dlt"
  refine ⟨_, rfl, by simp, by simp, fun x hx => ?_⟩
  have ax : AnyD x := by
    simp only [List.cons_append, List.nil_append, List.mem_cons, List.not_mem_nil, or_false] at hx
    rcases hx with rfl | rfl | rfl | rfl | rfl | rfl | rfl | rfl | rfl | rfl | rfl | rfl | rfl | rfl | rfl | rfl | rfl
    · exact any_vb (W := 200) (by decide +kernel) (by decide)
    · exact any_vb (W := 200) (by decide +kernel) (by decide)
    · exact any_vb (W := 200) (by decide +kernel) (by decide)
    · exact any_vb (W := 200) (by decide +kernel) (by decide)
    · exact any_vb (W := 200) (by decide +kernel) (by decide)
    · exact any_ints (l := 0 :: ns) (fun i hi => by
        rcases List.mem_cons.mp hi with rfl | hi
        · decide
        · exact any_row hr i hi) (by rw [List.length_cons]; omega)
    · rw [← List.map_append]
      exact any_ints (fun i hi => by
        rcases List.mem_append.mp hi with hi | hi
        · exact any_row hr i hi
        · exact any_row hr i (List.mem_of_mem_drop hi)) (by rw [List.length_append, List.length_drop]; omega)
    · rw [← List.map_reverse, show [D.int 1] = [(1 : Int)].map D.int from rfl, ← List.map_append]
      exact any_ints (fun i hi => by
        rcases List.mem_append.mp hi with hi | hi
        · exact any_row hr i (List.mem_reverse.mp hi)
        · rw [List.mem_singleton.mp hi]; decide) (by rw [List.length_append, List.length_reverse]; simp only [List.length_cons, List.length_nil]; omega)
    · exact any_vb (W := 200) (by decide +kernel) (by decide)
    · exact any_vb (W := 200) (by decide +kernel) (by decide)
    · exact any_vb (W := 200) (by decide +kernel) (by decide)
    · exact any_vb (W := 200) (by decide +kernel) (by decide)
    · exact any_one hr
    · exact any_vb (W := 200) (by decide +kernel) (by decide)
    · exact any_rg (by decide) (by decide)
    · exact any_vb (W := 200) (by decide +kernel) (by decide)
    · exact any_vb (W := 200) (by decide +kernel) (by decide)
  walk_at "dlt"
  refine ⟨_, rfl, by simp, by simp, fun y hy => ?_⟩
  refine q y ?_
  have rw1 : AnyD (.tup (ns.map D.int)) := any_ints (any_row hr) (Nat.le_trans hr.l2 (by decide))
  simp only [List.mem_cons, List.not_mem_nil, or_false] at hy
  rcases hy with rfl | rfl | rfl | rfl | rfl | rfl
  · exact rw1
  · exact rw1
  · exact rw1
  · exact any_vb (W := 200) (by decide +kernel) (by decide)
  · exact any_rg (by decide) (by decide)
  · exact ax
end


/-! the errors of rules: what the law asks -/
section
variable {P : Program} {w : World} {K : PySem.W.Frag} {mg : Str → Option Value} {base : Heap} {c Pt f C0 C1 C2 C3 C4 C5 BB BN BA : Addr} {fd : FuncData}
def dueOf (d : D) : Option (Str × Str) := if gDivs d = true then none else some ("InvalidDivisors", d.pyq.shown)
def manyD : List D := [.int 2, .int 3, .int 4, .int 6, .int 1, .int 7, .int 0, .int (-2), .bl true, .non, .str "2", .tup [.int 2], .lst [], .dic []]
theorem any_many : ∀ z ∈ manyD, AnyD z := fun z hz => by
  have h : vbB (10 ^ 39) 5 200 z = true := List.all_eq_true.mp (show manyD.all (vbB (10 ^ 39) 5 200) = true by decide +kernel) z hz
  exact any_vb h (by decide)
theorem pick_if {b : Bool} {w : Wx} {ρ : Env'} {i j : Nat} {x y : D} {Φ : D → Env' → Prop} (hx : ρ[i]? = some (some (.dat x))) (hy : ρ[j]? = some (some (.dat y))) (h : ∀ z, (z = x ∨ z = y) → Φ z ρ) : if b = true then wE w (tVar i) ρ Φ else wE w (tVar j) ρ Φ := by
  split
  · exact wE_var hx (h x (.inl rfl))
  · exact wE_var hy (h y (.inr rfl))
theorem fits_key {w : Wx} {z : D} {x0 x1 x2 x3 x5 x6 x7 x8 x9 x10 x11 : Option Sl} {Φ : D → Env' → Prop} (hz : okD z = true) (q : Φ (.bl (gBet z 2 6)) [x0, x1, x2, x3, some (.dat z), x5, x6, x7, x8, x9, x10, x11]) :
    wE w (tAndV (tCB (rIsi w.K) (tCons (tVar 4) (tCons (tC (V.ty "int")) tNil))) (tAndV (tNotV (tCB (rIsi w.K) (tCons (tVar 4) (tCons (tC (V.ty "bool")) tNil)))) (tChain (rI0 fun i j => V.bl (decide (i ≤ j))) (rI0 fun i j => V.bl (decide (i ≤ j))) (tC (V.int 2)) (tVar 4) (tC (V.int 6))))) [x0, x1, x2, x3, some (.dat z), x5, x6, x7, x8, x9, x10, x11] Φ := by
  cases z <;> first | (simp [okD] at hz; done) | skip
  all_goals first | (walk_at "dlt"; exact q; done) | skip
  rename_i n
  walk_at "dlt"
  refine ifD (fun h => ?_) (fun h => ?_)
  · walk_at "dlt"
    have e : gBet (.int n) 2 6 = (decide (2 ≤ n) && decide (n ≤ 6)) := rfl
    rw [e, decide_eq_true h] at q
    exact q
  · walk_at "dlt"
    have e : gBet (.int n) 2 6 = (decide (2 ≤ n) && decide (n ≤ 6)) := rfl
    rw [e, decide_eq_false h] at q
    exact q
/-- what is due of a number, of two rows -/
def numDue (z : D) : Option (Str × Str) := if gBet z 2 6 = true then none else some ("InvalidNumber", z.pyq.shown)
def seatDue (x y : D) : Option (Str × Str) := if gDivs x = true ∧ gDivs y = true ∧ lenD x ≠ lenD y then some ("OtherSeats", y.pyq.shown) else none
theorem told_rules {x y z : D} {Φ : D → Prop} (Z3 : KindC K C0 C1 C2 C3 C4 C5 BB BN BA C3 3) (Z4 : KindC K C0 C1 C2 C3 C4 C5 BB BN BA C4 4) (Z5 : KindC K C0 C1 C2 C3 C4 C5 BB BN BA C5 5)
    (X3 : PySem.W.exmAny K (.ref C3) [.ref BB, .ref BN, .ref BA] = some true) (X4 : PySem.W.exmAny K (.ref C4) [.ref BB, .ref BN, .ref BA] = some true) (X5 : PySem.W.exmAny K (.ref C5) [.ref BB, .ref BN, .ref BA] = some true) (ax : AnyD x) (ay : AnyD y) (az : AnyD z)
    (h : Φ (dueD (firstD [dueOf x, dueOf y, numDue z, seatDue x y]))) : (match rulesErr C4 C3 C5 x y z with | some e => PySem.W.exmAny K (.ref e.C) [.ref BB, .ref BN, .ref BA] = some true ∧ S_caught K C0 C1 C2 C3 C4 C5 BB BN BA e Φ | none => Φ (.lst [])) := by
  have fx := ax.f.mono (m := 64) (V := 350000) (by decide) (by decide)
  have fy := ay.f.mono (m := 64) (V := 350000) (by decide) (by decide)
  have fz := az.f.mono (m := 64) (V := 350000) (by decide) (by decide)
  unfold rulesErr
  unfold dueOf numDue seatDue at h
  by_cases h1 : gDivs x = true
  case neg =>
    simp only [if_neg h1] at h ⊢
    exact ⟨X4, _, 4, x, rfl, by decide, Z4, fx, h⟩
  by_cases h2 : gDivs y = true
  case neg =>
    simp only [if_pos h1, if_neg h2] at h ⊢
    exact ⟨X4, _, 4, y, rfl, by decide, Z4, fy, h⟩
  by_cases h3 : gBet z 2 6 = true
  case neg =>
    simp only [if_pos h1, if_pos h2, if_neg h3] at h ⊢
    exact ⟨X3, _, 3, z, rfl, by decide, Z3, fz, h⟩
  by_cases h4 : lenD x = lenD y
  · have n4 : ¬ (gDivs x = true ∧ gDivs y = true ∧ lenD x ≠ lenD y) := fun q => q.2.2 h4
    simp only [if_pos h1, if_pos h2, if_pos h3, if_pos h4, if_neg n4] at h ⊢
    exact h
  · have n4 : gDivs x = true ∧ gDivs y = true ∧ lenD x ≠ lenD y := ⟨h1, h2, h4⟩
    simp only [if_pos h1, if_pos h2, if_pos h3, if_neg h4, if_pos n4] at h ⊢
    exact ⟨X5, _, 5, y, rfl, by decide, Z5, fy, h⟩
theorem told_two {x y : D} {Φ : D → Prop} (Z4 : KindC K C0 C1 C2 C3 C4 C5 BB BN BA C4 4) (Z5 : KindC K C0 C1 C2 C3 C4 C5 BB BN BA C5 5)
    (X4 : PySem.W.exmAny K (.ref C4) [.ref BB, .ref BN, .ref BA] = some true) (X5 : PySem.W.exmAny K (.ref C5) [.ref BB, .ref BN, .ref BA] = some true) (ax : AnyD x) (ay : AnyD y)
    (h : Φ (dueD (firstD [dueOf x, dueOf y, seatDue x y]))) : (match twoErr C4 C5 x y with | some e => PySem.W.exmAny K (.ref e.C) [.ref BB, .ref BN, .ref BA] = some true ∧ S_caught K C0 C1 C2 C3 C4 C5 BB BN BA e Φ | none => ∀ _ : Bool, Φ (.lst [])) := by
  have fx := ax.f.mono (m := 64) (V := 350000) (by decide) (by decide)
  have fy := ay.f.mono (m := 64) (V := 350000) (by decide) (by decide)
  unfold twoErr
  unfold dueOf seatDue at h
  by_cases h1 : gDivs x = true
  case neg =>
    simp only [if_neg h1] at h ⊢
    exact ⟨X4, _, 4, x, rfl, by decide, Z4, fx, h⟩
  by_cases h2 : gDivs y = true
  case neg =>
    simp only [if_pos h1, if_neg h2] at h ⊢
    exact ⟨X4, _, 4, y, rfl, by decide, Z4, fy, h⟩
  by_cases h4 : lenD x = lenD y
  · have n4 : ¬ (gDivs x = true ∧ gDivs y = true ∧ lenD x ≠ lenD y) := fun q => q.2.2 h4
    simp only [if_pos h1, if_pos h2, if_pos h4, if_neg n4] at h ⊢
    exact fun _ => h
  · have n4 : gDivs x = true ∧ gDivs y = true ∧ lenD x ≠ lenD y := ⟨h1, h2, h4⟩
    simp only [if_pos h1, if_pos h2, if_neg h4, if_pos n4] at h ⊢
    exact ⟨X5, _, 5, y, rfl, by decide, Z5, fy, h⟩
theorem num_key {w : Wx} {z : D} {x0 x1 x2 x3 x5 x6 x8 x9 x10 x11 : Option Sl} {Φ : D → Env' → Prop} (az : AnyD z) (q : Φ (dueD (numDue z)) [x0, x1, x2, x3, some (.dat z), x5, x6, some (.dat (.bl (gBet z 2 6))), x8, x9, x10, x11]) :
    wE w (tIf (tB (tVar 7)) (tLst tNil) (tLst (tCons (tC (V.str "InvalidNumber")) (tCons (tCB (rReprQ w.K) (tCons (tVar 4) tNil)) tNil)))) [x0, x1, x2, x3, some (.dat z), x5, x6, some (.dat (.bl (gBet z 2 6))), x8, x9, x10, x11] Φ := by
  unfold numDue at q
  walk_at "dlt"
  by_cases h : gBet z 2 6 = true
  · rw [if_pos h] at q ⊢
    walk_at "dlt"
    exact q
  · rw [if_neg h] at q ⊢
    walk_at "dlt"
    refine ⟨_, rfl, az.f.mono (by decide) (by decide), ?_⟩
    walk_at "dlt"
    exact q
theorem eqv_dues (x y : D) : D.eqv (.lst ([x, y].map fun d => dueD (dueOf d))) (.lst [.lst [], .lst []]) = (gDivs x && gDivs y) := by
  unfold dueOf
  by_cases h1 : gDivs x = true <;> by_cases h2 : gDivs y = true <;> simp [h1, h2, dueD, D.eqv, D.py, pyAll, PyData.eqv, PyData.eqvAll]
def okDue (o : Option (Str × Str)) : Prop := ∀ p, o = some p → PyData.strOk p.1 = true ∧ PyData.strOk p.2 = true
theorem shp_due {o : Option (Str × Str)} {n : Nat} (h : okDue o) : Shp (n + 1) (dueD o) := by
  cases o with
  | none => exact Shp.lst fun d hd => nomatch hd
  | some p =>
    refine Shp.lst fun d hd => ?_
    simp only [List.mem_cons, List.not_mem_nil, or_false] at hd
    rcases hd with rfl | rfl
    · exact .str (h p rfl).1
    · exact .str (h p rfl).2
theorem shp_dues {l : List D} (h : ∀ d ∈ l, ∃ o, okDue o ∧ d = dueD o) : Shp 64 (.lst l) := Shp.lst (n := 63) fun d hd => by
  obtain ⟨o, ho, rfl⟩ := h d hd
  exact shp_due ho
theorem due_div {x : D} (ax : AnyD x) : okDue (dueOf x) := fun p h => by
  unfold dueOf at h
  split at h
  · cases h
  · cases h; exact ⟨(show PyData.strOk _ = true from by first | exact (by decide +kernel : PyData.strOk ("InvalidDivisors" : Str) = true) | exact (by decide +kernel : PyData.strOk ("InvalidNumber" : Str) = true)), ax.f.ok⟩
theorem due_num {x : D} (ax : AnyD x) : okDue (numDue x) := fun p h => by
  unfold numDue at h
  split at h
  · cases h
  · cases h; exact ⟨(show PyData.strOk _ = true from by first | exact (by decide +kernel : PyData.strOk ("InvalidDivisors" : Str) = true) | exact (by decide +kernel : PyData.strOk ("InvalidNumber" : Str) = true)), ax.f.ok⟩
theorem due_seat {x y : D} (ay : AnyD y) : okDue (seatDue x y) := fun p h => by
  unfold seatDue at h
  split at h
  · cases h; exact ⟨(by decide +kernel : PyData.strOk ("OtherSeats" : Str) = true), ay.f.ok⟩
  · cases h
theorem due_first {l : List (Option (Str × Str))} (h : ∀ o ∈ l, okDue o) : okDue (firstD l) := fun p hp => by
  have := List.mem_of_mem_head? hp
  obtain ⟨o, ho, e⟩ := List.mem_filterMap.mp this
  exact h o ho p e
theorem eqv_due (o : Option (Str × Str)) : D.eqv (dueD o) (dueD o) = true := by
  cases o with
  | none => rfl
  | some p => exact eqv_told p.1 p.2
theorem eqv_rep (o : Option (Str × Str)) : ∀ n : Nat, PyData.eqvAll (pyAll (List.replicate n (dueD o))) (pyAll (List.replicate n (dueD o))) = true
  | 0 => by simp [pyAll, PyData.eqvAll]
  | n + 1 => by
    have e : PyData.eqv (dueD o).py (dueD o).py = true := eqv_due o
    simp only [List.replicate_succ, pyAll, PyData.eqvAll, e, eqv_rep o n, Bool.and_self]
theorem neG_same {o : Option (Str × Str)} {n : Nat} {l m : List D} {Φ : D → Prop} (ok : okDue o) (el : l = List.replicate n (dueD o)) (em : m = List.replicate n (dueD o)) (h : Φ (.bl false)) : neG (.lst l) (.lst m) Φ := by
  subst el em
  have sh : Shp 64 (.lst (List.replicate n (dueD o))) := shp_dues fun d hd => ⟨o, ok, List.eq_of_mem_replicate hd⟩
  refine neG_of sh sh ?_
  rw [show D.eqv (.lst (List.replicate n (dueD o))) (.lst (List.replicate n (dueD o))) = true by simp only [D.eqv, D.py, PyData.eqv]; exact eqv_rep o n]
  exact h
theorem seat_key {w : Wx} {x y : D} {x0 x1 x4 x6 x7 x8 x9 x10 x11 : Option Sl} {Φ : D → Env' → Prop} (ax : AnyD x) (ay : AnyD y) (q : Φ (dueD (seatDue x y)) [x0, x1, some (.dat x), some (.dat y), x4, some (.dat (.lst ([x, y].map fun d => dueD (dueOf d)))), x6, x7, x8, x9, x10, x11]) :
    wE w (tIf (tOr (tTest (tOp (rNeA w.K) (tVar 5) (tLst (tCons (tLst tNil) (tCons (tLst tNil) tNil))))) (tTest (tOp (rEqA w.K) (tCB (rLen w.K) (tCons (tVar 2) tNil)) (tCB (rLen w.K) (tCons (tVar 3) tNil))))) (tLst tNil) (tLst (tCons (tC (V.str "OtherSeats")) (tCons (tCB (rReprQ w.K) (tCons (tVar 3) tNil)) tNil))))
      [x0, x1, some (.dat x), some (.dat y), x4, some (.dat (.lst ([x, y].map fun d => dueD (dueOf d)))), x6, x7, x8, x9, x10, x11] Φ := by
  unfold seatDue at q
  walk_at "dlt"
  refine neG_of (shp_dues fun d hd => ?_) (shp_dues fun d hd => ?_) ?_
  · obtain ⟨v, hv, rfl⟩ := List.mem_map.mp hd
    simp only [List.mem_cons, List.not_mem_nil, or_false] at hv
    rcases hv with rfl | rfl
    · exact ⟨_, due_div ax, rfl⟩
    · exact ⟨_, due_div ay, rfl⟩
  · simp only [List.mem_cons, List.not_mem_nil, or_false] at hd
    rcases hd with rfl | rfl
    · exact ⟨none, (fun p h => nomatch h), rfl⟩
    · exact ⟨none, (fun p h => nomatch h), rfl⟩
  rw [eqv_dues]
  by_cases h1 : gDivs x = true
  case neg =>
    rw [(Bool.not_eq_true _).mp h1]
    rw [if_neg fun z => h1 z.1] at q
    refine ⟨_, rfl, if_yes rfl ?_⟩
    walk_at "dlt"
    exact q
  by_cases h2 : gDivs y = true
  case neg =>
    rw [(Bool.not_eq_true _).mp h2]
    rw [if_neg fun z => h2 z.2.1] at q
    refine ⟨_, rfl, if_yes (by cases gDivs x <;> rfl) ?_⟩
    walk_at "dlt"
    exact q
  refine ⟨_, rfl, if_no (by rw [h1, h2]; rfl) ?_⟩
  obtain ⟨e1, d1⟩ := divs_of h1
  obtain ⟨e2, d2⟩ := divs_of h2
  have fy := ay.f
  generalize divsOf x = ns at e1 d1
  generalize divsOf y = ms at e2 d2
  subst e1 e2
  rw [lenD_divs, lenD_divs] at q
  have m1 := d1.l2
  have m2 := d2.l2
  have g1 : gDivs (.tup (ns.map D.int)) = true := h1
  have g2 : gDivs (.tup (ms.map D.int)) = true := h2
  unfold divsD at q ⊢
  walk_at "dlt"
  rw [List.length_map, List.length_map]
  refine ifD (fun h => ?_) (fun h => ?_)
  · rw [if_neg fun z => z.2.2 (by omega)] at q
    walk_at "dlt"
    exact q
  · rw [if_pos ⟨g1, g2, fun z => h (by omega)⟩] at q
    walk_at "dlt"
    refine ⟨_, rfl, fy.mono (by decide) (by decide), ?_⟩
    walk_at "dlt"
    exact q
local macro_rules | `(tactic| walk_at "dlf") => `(tactic| repeat (first | (refine fits_key (by assumption) ?_) | (refine num_key (by assumption) ?_) | (refine seat_key (by assumption) (by assumption) ?_) | walk_at "dl1" | walk_at "dl2" | walk_at "dl3" | refine isiG_tr rfl (by decide) (by decide) ?_ | refine isiG_f rfl (by decide) (by decide) ?_ | (with_reducible show List.length _ ≤ _ ∧ _; refine And.intro (by simp; done) ?_)))
def S_right : DSp := fun ds Φ _ => ds = [.pail] ∧ Φ (.bl true)
abbrev s_l_right : Stmt := topS 41
abbrev N_l_right : List Str := ["_law_purse_here", "_law_turn", "_law_row_here", "_law_mate", "_law_many", "_law_dues", "_law_each", "_law_fits", "_law_number_due", "_law_other_due", "_law_three", "_law_told"]
theorem sc_l_right : FnScope N_l_right ["_law_purse_here"] (defScope s_l_right) := ⟨rfl, rfl, rfl, by decide +kernel, rfl, by decide +kernel, by decide +kernel⟩

theorem ok_right (F : FunX K "_law_right" "_law_right" s_l_right f fd) (B : Blt mg) (SY : SysB base) (hcd : CodeAt K f c) {T : List (Addr × Str)} (hT : (Pt, (Str.ofString "_law_right" ++ ".<locals>.<lambda>" : Str)) ∈ T) (hTu : ∀ p ∈ T, p.1 = Pt → p.2 = (Str.ofString "_law_right" ++ ".<locals>.<lambda>" : Str)) (TB : LamX.TabB base mg c Pt)
    (c_l_some : CallD P w K mg base "_law_some" 4 S_some) (c_l_draw : CallD P w K mg base "_law_draw" 1 (pailS P_cast)) (c_l_pick : CallD P w K mg base "_law_pick" 2 S_any_of) (c_l_are_divisors : CallD P w K mg base "_law_are_divisors" 1 S_are_divisors) (c_l_first : CallD P w K mg base "_law_first" 1 S_first)
    (c_parting_pairs : CallD P w K mg base "parting_pairs" 6 (G_parting_pairs C4 C3 C5)) (c_parting_counts : CallD P w K mg base "parting_counts" 7 (G_parting_counts C4 C3 C5)) (c_favours : CallD P w K mg base "favours" 6 (G_favours C4 C5))
    (c_are_alikeK : CallK P w K mg base "are_alike" 7 (G_are_alike C4 C3 C5) 0 ["many", "other", "one"] [2, 1, 0]) (c_parting_pairsK : CallK P w K mg base "parting_pairs" 6 (G_parting_pairs C4 C3 C5) 0 ["many", "other", "one"] [2, 1, 0]) (c_favoursK : CallK P w K mg base "favours" 6 (G_favours C4 C5) 0 ["other", "one"] [1, 0])
    (c_l_caught : CgtC P w K mg base "_law_caught" 8 [.ref BB, .ref BN, .ref BA] (S_caught K C0 C1 C2 C3 C4 C5 BB BN BA)) (Z3 : KindC K C0 C1 C2 C3 C4 C5 BB BN BA C3 3) (Z4 : KindC K C0 C1 C2 C3 C4 C5 BB BN BA C4 4) (Z5 : KindC K C0 C1 C2 C3 C4 C5 BB BN BA C5 5)
    (X3 : PySem.W.exmAny K (.ref C3) [.ref BB, .ref BN, .ref BA] = some true) (X4 : PySem.W.exmAny K (.ref C4) [.ref BB, .ref BN, .ref BA] = some true) (X5 : PySem.W.exmAny K (.ref C5) [.ref BB, .ref BN, .ref BA] = some true) : FnG P w K mg base 11 f fd ["_law_purse_here"] (liftT K T S_right) := by
  refine fnX_ofT F sc_l_right (fun ds Φ Ψ ⟨h, _⟩ => by rw [h]; rfl) fun cdv A outer s H E b ⟨_, _, _, _, _, _, _, _, _, lk⟩ => ?_
  obtain rfl := hcd _ _ _ _ _ _ _ _ _ _ _ _ _ _ _ lk
  have hcode : (bodyX P w K mg base N_l_right "_law_right" s_l_right f (.ref c) A outer s H E).env.code = .ref c := rfl
  have eq : lamQ (bodyX P w K mg base N_l_right "_law_right" s_l_right f (.ref c) A outer s H E) = (Str.ofString "_law_right" ++ ".<locals>.<lambda>" : Str) := by
    show (Str.ofString "_law_right" ++ ".<locals>." ++ "<lambda>" : Str) = _
    decide +kernel
  have hmT : (Pt, lamQ (bodyX P w K mg base N_l_right "_law_right" s_l_right f (.ref c) A outer s H E)) ∈ T := by rw [eq]; exact hT
  have hu : ∀ p ∈ T, p.1 = Pt → p.2 = lamQ (bodyX P w K mg base N_l_right "_law_right" s_l_right f (.ref c) A outer s H E) := by rw [eq]; exact hTu
  refine ⟨_, (pss_cons (ps_for b.own rfl (pi_range1 (by rfl) B.range (pa_cons pe_int pa_nil)) (pg_name (i := 1) sc_l_right.nd rfl (by first | exact .inl rfl | exact .inr rfl)) (pss_cons (ps_asg (pe_tup (pa_cons (k_cd K c_l_some (by exact b.room) (by decide) b.pass (pa_cons (pv 0) pa_nil)) (pa_cons (k_cd K c_l_some (by exact b.room) (by decide) b.pass (pa_cons (pv 0) pa_nil)) pa_nil))) (k_pg K (n := 2) rfl (pgs_cons (pg_name (i := 2) sc_l_right.nd rfl (by first | exact .inl rfl | exact .inr rfl)) (pgs_cons (pg_name (i := 3) sc_l_right.nd rfl (by first | exact .inl rfl | exact .inr rfl)) pgs_nil))))
 (pss_cons (ps_set (i := 3) sc_l_right.nd rfl (by first | exact .inl rfl | exact .inr rfl) (pe_ifExp (pt_cmpR (k_eq K (by exact b.room)) (k_cd K c_l_draw (by exact b.room) (by decide) b.pass (pa_cons (pv 0) (pa_cons pe_int pa_nil))) pe_int (nomark _)) (pv 2) (pv 3)))
 (pss_cons (ps_set (i := 4) sc_l_right.nd rfl (by first | exact .inl rfl | exact .inr rfl) (k_cd K c_l_pick (by exact b.room) (by decide) b.pass (pa_cons (pv 0) (pa_cons (pe_lst (pa_cons pe_int (pa_cons pe_int (pa_cons pe_int (pa_cons pe_int (pa_cons pe_int (pa_cons pe_int (pa_cons pe_int (pa_cons (pe_un un_neg pe_int) (pa_cons pe_bl (pa_cons pe_non (pa_cons pe_str (pa_cons (pe_tup (pa_cons pe_int pa_nil)) (pa_cons (pe_lst pa_nil) (pa_cons pe_dnewK pa_nil))))))))))))))) pa_nil))))
 (pss_cons (ps_setLc (i := 5) (own := [("_law_each", 6)]) rfl sc_l_right.nd rfl rfl (sw_true rfl rfl rfl (by decide +kernel)) (k_any K (pe_lst (pa_cons (pv 2) (pa_cons (pv 3) pa_nil)))) (blkOk_by (own := [("_law_each", 6)]) (N := N_l_right) (sc := defScope s_l_right) (by decide +kernel))  (fun _ _ _ _ _ => (pg_name (i := 6) sc_l_right.nd rfl (by first | exact .inl rfl | exact .inr rfl))) (fun _ _ _ _ _ => pts_nil) (fun _ _ _ _ _ => (pe_ifExp (pt_val (k_cd K c_l_are_divisors (by exact b.room) (by decide) passN (pa_cons (pv 6) pa_nil))) (pe_lst pa_nil) (pe_lst (pa_cons pe_str (pa_cons (pe_callB (k_reprQ K SY (by exact b.room)) (by rfl) B.repr bb_repr (pa_cons (pv 6) pa_nil)) pa_nil))))))
 (pss_cons (ps_set (i := 7) sc_l_right.nd rfl (by first | exact .inl rfl | exact .inr rfl) (pe_and (pe_callB (k_isi K) (by rfl) B.isinstance bb_isinstance (pa_cons (pv 4) (pa_cons (pe_bty B.int bb_int) pa_nil))) (pe_and (pe_not (pe_callB (k_isi K) (by rfl) B.isinstance bb_isinstance (pa_cons (pv 4) (pa_cons (pe_bty B.bool bb_bool) pa_nil)))) (pe_one (pe_chain op_le op_le pe_int (pv 4) pe_int)))))
 (pss_cons (ps_set (i := 8) sc_l_right.nd rfl (by first | exact .inl rfl | exact .inr rfl) (pe_ifExp (pt_val (pv 7)) (pe_lst pa_nil) (pe_lst (pa_cons pe_str (pa_cons (pe_callB (k_reprQ K SY (by exact b.room)) (by rfl) B.repr bb_repr (pa_cons (pv 4) pa_nil)) pa_nil)))))
 (pss_cons (ps_set (i := 9) sc_l_right.nd rfl (by first | exact .inl rfl | exact .inr rfl) (pe_ifExp (PW.pt (pw_or (pt_cmpR (k_ne K (by exact b.room)) (pv 5) (pe_lst (pa_cons (pe_lst pa_nil) (pa_cons (pe_lst pa_nil) pa_nil))) (nomark _)) (pw_or1 (pt_cmpR (k_eq K (by exact b.room)) (pe_callB (k_len K) (by rfl) B.len bb_len (pa_cons (pv 2) pa_nil)) (pe_callB (k_len K) (by rfl) B.len bb_len (pa_cons (pv 3) pa_nil)) (nomark _))))) (pe_lst pa_nil) (pe_lst (pa_cons pe_str (pa_cons (pe_callB (k_reprQ K SY (by exact b.room)) (by rfl) B.repr bb_repr (pa_cons (pv 3) pa_nil)) pa_nil)))))
 (pss_cons (ps_set (i := 10) sc_l_right.nd rfl (by first | exact .inl rfl | exact .inr rfl) (k_cd K c_l_first (by exact b.room) (by decide) b.pass (pa_cons (pe_op (k_add K) (pv 5) (pe_lst (pa_cons (pv 8) (pa_cons (pv 9) pa_nil)))) pa_nil)))
 (pss_cons (ps_set (i := 11) sc_l_right.nd rfl (by first | exact .inl rfl | exact .inr rfl) (pe_lst (pa_cons (k_cgtC K c_l_caught (by exact b.room) (by decide) TB hcode hmT hu (LamX.lamS_by (by show LamX.lamSB (defScope s_l_right) _ = true; decide +kernel)) (fun _ _ _ _ _ _ _ room => (k_cd K c_parting_pairs (by exact room) (by decide) (passes_call (takes_of rfl rfl rfl rfl) fun _ _ _ _ h => h) (pa_cons (pv 2) (pa_cons (pv 3) (pa_cons (pv 4) pa_nil)))))) pa_nil)))
 (pss_cons (ps_expr (k_bm K PySem.F.plainAttrs_list PySem.F.slot_list_append PySem.F.type_list_append mt_append (pv 11) (pa_cons (k_cgtC K c_l_caught (by exact b.room) (by decide) TB hcode hmT hu (LamX.lamS_by (by show LamX.lamSB (defScope s_l_right) _ = true; decide +kernel)) (fun _ _ _ _ _ _ _ room => (k_ck K c_are_alikeK (by exact room) (by decide) (passes_call (takes_of rfl rfl rfl rfl) fun _ _ _ _ h => h) pa_nil (pk_cons (pv 4) (pk_cons (pv 3) (pk_cons (pv 2) pk_nil)))))) pa_nil)))
 (pss_cons (ps_expr (k_bm K PySem.F.plainAttrs_list PySem.F.slot_list_append PySem.F.type_list_append mt_append (pv 11) (pa_cons (k_cgtC K c_l_caught (by exact b.room) (by decide) TB hcode hmT hu (LamX.lamS_by (by show LamX.lamSB (defScope s_l_right) _ = true; decide +kernel)) (fun _ _ _ _ _ _ _ room => (k_cd K c_parting_counts (by exact room) (by decide) (passes_call (takes_of rfl rfl rfl rfl) fun _ _ _ _ h => h) (pa_cons (pv 2) (pa_cons (pv 3) (pa_cons (pv 4) pa_nil)))))) pa_nil)))
 (pss_cons (ps_expr (k_bm K PySem.F.plainAttrs_list PySem.F.slot_list_append PySem.F.type_list_append mt_append (pv 11) (pa_cons (k_cgtC K c_l_caught (by exact b.room) (by decide) TB hcode hmT hu (LamX.lamS_by (by show LamX.lamSB (defScope s_l_right) _ = true; decide +kernel)) (fun _ _ _ _ _ _ _ room => (k_ck K c_parting_pairsK (by exact room) (by decide) (passes_call (takes_of rfl rfl rfl rfl) fun _ _ _ _ h => h) pa_nil (pk_cons (pv 4) (pk_cons (pv 3) (pk_cons (pv 2) pk_nil)))))) pa_nil)))
 (pss_cons (ps_if (pt_cmpR (k_ne K (by exact b.room)) (pv 11) (pe_op (k_mulA K) (pe_lst (pa_cons (pv 10) pa_nil)) pe_int) (nomark _)) (pss_one (ps_ret pe_bl)) pss_nil)
 (pss_cons (ps_set (i := 11) sc_l_right.nd rfl (by first | exact .inl rfl | exact .inr rfl) (pe_lst (pa_cons (k_cgtC K c_l_caught (by exact b.room) (by decide) TB hcode hmT hu (LamX.lamS_by (by show LamX.lamSB (defScope s_l_right) _ = true; decide +kernel)) (fun _ _ _ _ _ _ _ room => (k_cd K c_favours (by exact room) (by decide) (passes_call (takes_of rfl rfl rfl rfl) fun _ _ _ _ h => h) (pa_cons (pv 2) (pa_cons (pv 3) pa_nil))))) pa_nil)))
 (pss_cons (ps_expr (k_bm K PySem.F.plainAttrs_list PySem.F.slot_list_append PySem.F.type_list_append mt_append (pv 11) (pa_cons (k_cgtC K c_l_caught (by exact b.room) (by decide) TB hcode hmT hu (LamX.lamS_by (by show LamX.lamSB (defScope s_l_right) _ = true; decide +kernel)) (fun _ _ _ _ _ _ _ room => (k_ck K c_favoursK (by exact room) (by decide) (passes_call (takes_of rfl rfl rfl rfl) fun _ _ _ _ h => h) pa_nil (pk_cons (pv 3) (pk_cons (pv 2) pk_nil))))) pa_nil)))
 (pss_one (ps_if (pt_cmpR (k_ne K (by exact b.room)) (pv 11) (pe_op (k_mulA K) (pe_lst (pa_cons (k_cd K c_l_first (by exact b.room) (by decide) b.pass (pa_cons (pe_op (k_add K) (pv 5) (pe_lst (pa_cons (pv 9) pa_nil))) pa_nil)) pa_nil)) pe_int) (nomark _)) (pss_one (ps_ret pe_bl)) pss_nil))))))))))))))))))
 (pss_one (ps_ret pe_bl))), fun ds Φ Ψ ⟨h, q⟩ => ?_⟩
  subst h
  show wS _ _ _ [some (.dat _), none, none, none, none, none, none, none, none, none, none, none]
  walk_at "dlt"
  refine wS_forT (fun i : Nat => .int (0 + (i : Int))) (fun _ ρ' => ∃ x1 x2 x3 x4 x5 x6 x7 x8 x9 x10 x11 : Option Sl, ρ' = [some (.dat .pail), x1, x2, x3, x4, x5, x6, x7, x8, x9, x10, x11]) (wI_range1 ?_)
  walk_at "dlt"
  refine ⟨_, rfl, by decide, List.range 10, rfl, ⟨_, _, _, _, _, _, _, _, _, _, _, rfl⟩, fun i _ ρ' hi ⟨x1, x2, x3, x4, x5, x6, x7, x8, x9, x10, x11, e⟩ => ?_, fun ρ' ⟨x1, x2, x3, x4, x5, x6, x7, x8, x9, x10, x11, e⟩ => ?_⟩
  · subst e
    walk_at "dlt"
    refine ⟨rfl, fun x ax => ?_⟩
    walk_at "dlt"
    refine ⟨rfl, fun y0 ay0 => ?_⟩
    walk_at "dlt"
    refine use_cast (by decide) (by decide) fun d hd => ?_
    walk_at "dlt"
    refine pick_if (i := 2) (j := 3) (x := x) (y := y0) rfl rfl fun y hy => ?_
    have ay : AnyD y := by rcases hy with rfl | rfl <;> assumption
    clear hy
    walk_at "dlt"
    refine ⟨_, rfl, by simp, by simp, fun z hz => ?_⟩
    have az : AnyD z := any_many z hz
    clear hz
    have oz := az.ok
    walk_at "dlt"
    refine wE_lcM (only_name List.mem_cons_self) (fun d : D => d) (fun d => dueD (dueOf d)) (wI_any ?_)
    walk_at "dlt"
    refine ⟨_, rfl, [x, y], rfl, by simp, fun v hv => ?_, ?_⟩
    · have av : AnyD v := by
        simp only [List.mem_cons, List.not_mem_nil, or_false] at hv
        rcases hv with rfl | rfl <;> assumption
      walk_at "dlt"
      refine ⟨v, rfl, av.ok, ?_⟩
      unfold dueOf
      cases hg : gDivs v with
      | true =>
        refine ⟨_, rfl, if_yes rfl ?_⟩
        walk_at "dlt"
        rfl
      | false =>
        refine ⟨_, rfl, if_no rfl ?_⟩
        walk_at "dlt"
        refine ⟨_, rfl, av.f.mono (by decide) (by decide), ?_⟩
        walk_at "dlt"
        rfl
    walk_at "dlf"
    refine addG_l (by simp) ?_
    walk_at "dlf"
    refine ⟨[dueOf x, dueOf y, numDue z, seatDue x y], rfl, by simp, ?_⟩
    have told : ∀ {Φ : D → Prop}, Φ (dueD (firstD [dueOf x, dueOf y, numDue z, seatDue x y])) → (match rulesErr C4 C3 C5 x y z with | some e => PySem.W.exmAny K (.ref e.C) [.ref BB, .ref BN, .ref BA] = some true ∧ S_caught K C0 C1 C2 C3 C4 C5 BB BN BA e Φ | none => Φ (.lst [])) := fun h => told_rules Z3 Z4 Z5 X3 X4 X5 ax ay az h
    have ok4 : okDue (firstD [dueOf x, dueOf y, numDue z, seatDue x y]) := due_first fun o ho => by
      simp only [List.mem_cons, List.not_mem_nil, or_false] at ho
      rcases ho with rfl | rfl | rfl | rfl
      · exact due_div ax
      · exact due_div ay
      · exact due_num az
      · exact due_seat ay
    have told2 : ∀ {Φ : D → Prop}, Φ (dueD (firstD [dueOf x, dueOf y, seatDue x y])) → (match twoErr C4 C5 x y with | some e => PySem.W.exmAny K (.ref e.C) [.ref BB, .ref BN, .ref BA] = some true ∧ S_caught K C0 C1 C2 C3 C4 C5 BB BN BA e Φ | none => ∀ _ : Bool, Φ (.lst [])) := fun h => told_two Z4 Z5 X4 X5 ax ay h
    have ok2 : okDue (firstD [dueOf x, dueOf y, seatDue x y]) := due_first fun o ho => by
      simp only [List.mem_cons, List.not_mem_nil, or_false] at ho
      rcases ho with rfl | rfl | rfl
      · exact due_div ax
      · exact due_div ay
      · exact due_seat ay
    generalize hX2 : firstD [dueOf x, dueOf y, seatDue x y] = o2 at told2 ok2
    generalize hX : firstD [dueOf x, dueOf y, numDue z, seatDue x y] = o4 at told ok4
    walk_at "dlt"
    refine wE_cgt fun EX => ?_
    show wE _ _ [some (.dat .pail), _, some (.dat x), some (.dat y), some (.dat z), _, _, _, _, _, _, _] _
    walk_at "dlt"
    refine ⟨x, y, z, rfl, ax.ok, ay.ok, az.ok, told ?_⟩
    walk_at "dlt"
    refine wE_cgt fun EX => ?_
    show wE _ _ [some (.dat .pail), _, some (.dat x), some (.dat y), some (.dat z), _, _, _, _, _, _, _] _
    walk_at "dlt"
    refine ⟨rfl, rfl, x, y, z, rfl, ax.ok, ay.ok, az.ok, told ?_⟩
    refine ⟨_, _, rfl, by simp, ?_⟩
    walk_at "dlt"
    refine wE_cgt fun EX => ?_
    show wE _ _ [some (.dat .pail), _, some (.dat x), some (.dat y), some (.dat z), _, _, _, _, _, _, _] _
    walk_at "dlt"
    refine ⟨x, y, z, rfl, ax.ok, ay.ok, az.ok, told ?_⟩
    refine ⟨_, _, rfl, by simp, ?_⟩
    walk_at "dlt"
    refine wE_cgt fun EX => ?_
    show wE _ _ [some (.dat .pail), _, some (.dat x), some (.dat y), some (.dat z), _, _, _, _, _, _, _] _
    walk_at "dlt"
    refine ⟨rfl, rfl, x, y, z, rfl, ax.ok, ay.ok, az.ok, told ?_⟩
    refine ⟨_, _, rfl, by simp, ?_⟩
    walk_at "dlt"
    refine neG_same (n := 4) ok4 rfl rfl ?_
    refine ⟨_, rfl, if_no rfl ?_⟩
    walk_at "dlt"
    refine wE_cgt fun EX => ?_
    show wE _ _ [some (.dat .pail), _, some (.dat x), some (.dat y), some (.dat z), _, _, _, _, _, _, _] _
    walk_at "dlt"
    refine ⟨x, y, rfl, ax.ok, ay.ok, told2 ?_⟩
    walk_at "dlt"
    refine wE_cgt fun EX => ?_
    show wE _ _ [some (.dat .pail), _, some (.dat x), some (.dat y), some (.dat z), _, _, _, _, _, _, _] _
    walk_at "dlt"
    refine ⟨rfl, rfl, x, y, rfl, ax.ok, ay.ok, told2 ?_⟩
    refine ⟨_, _, rfl, by simp, ?_⟩
    walk_at "dlt"
    refine addG_l (by simp) ?_
    walk_at "dlt"
    refine ⟨[dueOf x, dueOf y, seatDue x y], rfl, by simp, ?_⟩
    rw [hX2]
    walk_at "dlt"
    refine neG_same (n := 2) ok2 rfl rfl ?_
    refine ⟨_, rfl, if_no rfl ?_⟩
    walk_at "dlt"
    exact ⟨_, _, _, _, _, _, _, _, _, _, _, rfl⟩
  · subst e
    walk_at "dlt"
    exact q
def S_law : DSp := fun ds Φ _ => ∃ ns : List Int, ds = [.scr ns] ∧ ns.length ≤ 63 ∧ (∀ n ∈ ns, BdOk n) ∧ Φ (.bl true)
abbrev s_law : Stmt := topS 42
abbrev N_law : List Str := ["_law_script", "_law_k"]
theorem sc_law : FnScope N_law ["_law_script"] (defScope s_law) := ⟨rfl, rfl, rfl, by decide +kernel, rfl, by decide +kernel, by decide +kernel⟩

theorem ok_law (F : FunX K "law" "law" s_law f fd) (B : Blt mg) {T : List (Addr × Str)} (c_l_right : CallT P w K mg base T "_law_right" 11 S_right) (c_l_purse : CallD P w K mg base "_law_purse" 1 S_begun) : FnG P w K mg base 12 f fd ["_law_script"] (liftT K T S_law) := by
  refine fnX_ofT F sc_law (fun ds Φ Ψ ⟨_, h, _⟩ => by rw [h]; rfl) fun cdv A outer s H E b _ => ⟨_, (pss_cons (ps_for b.own rfl (pi_range1 (by rfl) B.range (pa_cons (pe_callB (call_max2 rfl) (by rfl) B.max bb_max (pa_cons pe_int (pa_cons (pe_callB (call_min2 rfl) (by rfl) B.min bb_min (pa_cons (pe_callB (k_len K) (by rfl) B.len bb_len (pa_cons (pv 0) pa_nil)) (pa_cons pe_int pa_nil))) pa_nil))) pa_nil)) (pg_name (i := 1) sc_law.nd rfl (by first | exact .inl rfl | exact .inr rfl)) (pss_one (ps_if (pt_not (pt_val (k_ct K c_l_right (by exact b.room) (by decide) b.pass (pa_cons (k_cd K c_l_purse (by exact b.room) (by decide) b.pass (pa_cons (pv 0) (pa_cons (pv 1) pa_nil))) pa_nil)))) (pss_one (ps_ret pe_bl)) pss_nil)))
 (pss_one (ps_ret pe_bl))), fun ds Φ Ψ ⟨ns, h, hl, hb, q⟩ => ?_⟩
  subst h
  show wS _ _ _ [some (.dat _), none]
  walk_at "dlt"
  refine wS_forT (fun i : Nat => .int (0 + (i : Int))) (fun _ ρ' => ∃ x : Option Sl, ρ' = [some (.dat (.scr ns)), x]) (wI_range1 ?_)
  walk_at "dlt"
  generalize hn : (if (if (6 : Int) < (ns.length : Int) then (6 : Int) else (ns.length : Int)) > 2 then (if (6 : Int) < (ns.length : Int) then (6 : Int) else (ns.length : Int)) else 2) = n
  have n5 : 0 ≤ n ∧ n ≤ 6 := by subst hn; split <;> split <;> omega
  refine ⟨_, rfl, by omega, List.range n.toNat, by unfold rangeD; rw [Int.sub_zero], ⟨_, rfl⟩, fun i _ ρ' hi ⟨x, e⟩ => ?_, fun ρ' ⟨x, e⟩ => ?_⟩
  · subst e
    obtain ⟨hil, hx0⟩ := List.getElem?_eq_some_iff.mp hi
    rw [List.length_range] at hil
    rw [List.getElem_range] at hx0
    subst hx0
    walk_at "dlt"
    refine ⟨ns, _, rfl, by omega, by omega, hb, ?_⟩
    walk_at "dlt"
    refine ⟨rfl, ?_⟩
    walk_at "dlt"
    exact ⟨_, rfl⟩
  · subst e
    walk_at "dlt"
    exact q
end

section
variable {P : Program} {w : World} {K : PySem.W.Frag} {mg : Str → Option Value} {base : Heap}
abbrev s_InvalidDivisors___init : Stmt := inClass (topS 2) 0
abbrev N_InvalidDivisors___init : List Str := ["self", "given"]
theorem sc_InvalidDivisors___init : FnScope N_InvalidDivisors___init ["self", "given"] (defScope s_InvalidDivisors___init) := ⟨rfl, rfl, rfl, by decide +kernel, rfl, by decide +kernel, by decide +kernel⟩
theorem mk_InvalidDivisors {C : Addr} (cx : XCls K mg "InvalidDivisors" "given" s_InvalidDivisors___init C) : XMk P w K mg base "InvalidDivisors" "given" C := XMk.of (N := N_InvalidDivisors___init) cx sc_InvalidDivisors___init (fun _ _ _ _ _ _ us hl => match us, hl with | [_, _], _ => rfl) (fun fI cdv A outer s H E => pss_one (ps_ost (pv 0) (pv 1))) (fun a y => ⟨rfl, rfl⟩)
abbrev s_InvalidNumber___init : Stmt := inClass (topS 5) 0
abbrev N_InvalidNumber___init : List Str := ["self", "given"]
theorem sc_InvalidNumber___init : FnScope N_InvalidNumber___init ["self", "given"] (defScope s_InvalidNumber___init) := ⟨rfl, rfl, rfl, by decide +kernel, rfl, by decide +kernel, by decide +kernel⟩
theorem mk_InvalidNumber {C : Addr} (cx : XCls K mg "InvalidNumber" "given" s_InvalidNumber___init C) : XMk P w K mg base "InvalidNumber" "given" C := XMk.of (N := N_InvalidNumber___init) cx sc_InvalidNumber___init (fun _ _ _ _ _ _ us hl => match us, hl with | [_, _], _ => rfl) (fun fI cdv A outer s H E => pss_one (ps_ost (pv 0) (pv 1))) (fun a y => ⟨rfl, rfl⟩)
abbrev s_OtherSeats___init : Stmt := inClass (topS 7) 0
abbrev N_OtherSeats___init : List Str := ["self", "given"]
theorem sc_OtherSeats___init : FnScope N_OtherSeats___init ["self", "given"] (defScope s_OtherSeats___init) := ⟨rfl, rfl, rfl, by decide +kernel, rfl, by decide +kernel, by decide +kernel⟩
theorem mk_OtherSeats {C : Addr} (cx : XCls K mg "OtherSeats" "given" s_OtherSeats___init C) : XMk P w K mg base "OtherSeats" "given" C := XMk.of (N := N_OtherSeats___init) cx sc_OtherSeats___init (fun _ _ _ _ _ _ us hl => match us, hl with | [_, _], _ => rfl) (fun fI cdv A outer s H E => pss_one (ps_ost (pv 0) (pv 1))) (fun a y => ⟨rfl, rfl⟩)
end
section
variable {P : Program} {w : World} {K : PySem.W.Frag} {mg : Str → Option Value} {h : Heap} {C fa : Addr}
theorem all_k36 (X : K.In h) (G : h.Ns mainGlobals mg) (hfa : mg "law" = some (.ref fa))
    {C_BadValue : Addr}
    {C_BadName : Addr}
    {C_NoAnswer : Addr}
    {C_NotANight : Addr}
    {C_InvalidTable : Addr}
    {C_InvalidBloc : Addr}
    {C_InvalidDivisors : Addr} {nm_InvalidDivisors q_InvalidDivisors : Str} {N_InvalidDivisors : Addr} {bs_InvalidDivisors : List Value} {sn_InvalidDivisors : List Str} {sub_InvalidDivisors : List Value} {ab_InvalidDivisors : Bool} {col_InvalidDivisors : Option Bool} {dd_InvalidDivisors : Option Addr} {m0_InvalidDivisors m1_InvalidDivisors m2_InvalidDivisors m3_InvalidDivisors m5_InvalidDivisors : Option Value}
    {f_e_InvalidDivisors : Addr} {od_e_InvalidDivisors an_e_InvalidDivisors : Option Addr} {sl_e_InvalidDivisors : Array (Option Value)} {oc_e_InvalidDivisors kV_e_InvalidDivisors dc_e_InvalidDivisors pm_e_InvalidDivisors cd_e_InvalidDivisors ct_e_InvalidDivisors : Value}
    {C_InvalidNumber : Addr} {nm_InvalidNumber q_InvalidNumber : Str} {N_InvalidNumber : Addr} {bs_InvalidNumber : List Value} {sn_InvalidNumber : List Str} {sub_InvalidNumber : List Value} {ab_InvalidNumber : Bool} {col_InvalidNumber : Option Bool} {dd_InvalidNumber : Option Addr} {m0_InvalidNumber m1_InvalidNumber m2_InvalidNumber m3_InvalidNumber m5_InvalidNumber : Option Value}
    {f_e_InvalidNumber : Addr} {od_e_InvalidNumber an_e_InvalidNumber : Option Addr} {sl_e_InvalidNumber : Array (Option Value)} {oc_e_InvalidNumber kV_e_InvalidNumber dc_e_InvalidNumber pm_e_InvalidNumber cd_e_InvalidNumber ct_e_InvalidNumber : Value}
    {C_OtherSeats : Addr} {nm_OtherSeats q_OtherSeats : Str} {N_OtherSeats : Addr} {bs_OtherSeats : List Value} {sn_OtherSeats : List Str} {sub_OtherSeats : List Value} {ab_OtherSeats : Bool} {col_OtherSeats : Option Bool} {dd_OtherSeats : Option Addr} {m0_OtherSeats m1_OtherSeats m2_OtherSeats m3_OtherSeats m5_OtherSeats : Option Value}
    {f_e_OtherSeats : Addr} {od_e_OtherSeats an_e_OtherSeats : Option Addr} {sl_e_OtherSeats : Array (Option Value)} {oc_e_OtherSeats kV_e_OtherSeats dc_e_OtherSeats pm_e_OtherSeats cd_e_OtherSeats ct_e_OtherSeats : Value}
    {t_MOST_SEATS : Tok}
    {t_MOST_DIVISOR : Tok}
    {t_MOST_PARTIES : Tok}
    {cc_c_law_right Pt_c_law_right : Addr}
    {f_c_is_integer : Addr} {od_c_is_integer an_c_is_integer : Option Addr} {sl_c_is_integer : Array (Option Value)} {oc_c_is_integer kV_c_is_integer dc_c_is_integer pm_c_is_integer cd_c_is_integer ct_c_is_integer : Value}
    {f_c_is_between : Addr} {od_c_is_between an_c_is_between : Option Addr} {sl_c_is_between : Array (Option Value)} {oc_c_is_between kV_c_is_between dc_c_is_between pm_c_is_between cd_c_is_between ct_c_is_between : Value}
    {f_c_is_divisors : Addr} {od_c_is_divisors an_c_is_divisors : Option Addr} {sl_c_is_divisors : Array (Option Value)} {oc_c_is_divisors kV_c_is_divisors dc_c_is_divisors pm_c_is_divisors cd_c_is_divisors ct_c_is_divisors : Value}
    {f_c_check_divisors : Addr} {od_c_check_divisors an_c_check_divisors : Option Addr} {sl_c_check_divisors : Array (Option Value)} {oc_c_check_divisors kV_c_check_divisors dc_c_check_divisors pm_c_check_divisors cd_c_check_divisors ct_c_check_divisors : Value}
    {f_c_check_same_seats : Addr} {od_c_check_same_seats an_c_check_same_seats : Option Addr} {sl_c_check_same_seats : Array (Option Value)} {oc_c_check_same_seats kV_c_check_same_seats dc_c_check_same_seats pm_c_check_same_seats cd_c_check_same_seats ct_c_check_same_seats : Value}
    {f_c_check_rules : Addr} {od_c_check_rules an_c_check_rules : Option Addr} {sl_c_check_rules : Array (Option Value)} {oc_c_check_rules kV_c_check_rules dc_c_check_rules pm_c_check_rules cd_c_check_rules ct_c_check_rules : Value}
    {f_c_is_below : Addr} {od_c_is_below an_c_is_below : Option Addr} {sl_c_is_below : Array (Option Value)} {oc_c_is_below kV_c_is_below dc_c_is_below pm_c_is_below cd_c_is_below ct_c_is_below : Value}
    {f_c_numbers_for : Addr} {od_c_numbers_for an_c_numbers_for : Option Addr} {sl_c_numbers_for : Array (Option Value)} {oc_c_numbers_for kV_c_numbers_for dc_c_numbers_for pm_c_numbers_for cd_c_numbers_for ct_c_numbers_for : Value}
    {f_c_quotient_at : Addr} {od_c_quotient_at an_c_quotient_at : Option Addr} {sl_c_quotient_at : Array (Option Value)} {oc_c_quotient_at kV_c_quotient_at dc_c_quotient_at pm_c_quotient_at cd_c_quotient_at ct_c_quotient_at : Value}
    {f_c_parting_pairs : Addr} {od_c_parting_pairs an_c_parting_pairs : Option Addr} {sl_c_parting_pairs : Array (Option Value)} {oc_c_parting_pairs kV_c_parting_pairs dc_c_parting_pairs pm_c_parting_pairs cd_c_parting_pairs ct_c_parting_pairs : Value}
    {f_c_are_alike : Addr} {od_c_are_alike an_c_are_alike : Option Addr} {sl_c_are_alike : Array (Option Value)} {oc_c_are_alike kV_c_are_alike dc_c_are_alike pm_c_are_alike cd_c_are_alike ct_c_are_alike : Value}
    {f_c_parting_counts : Addr} {od_c_parting_counts an_c_parting_counts : Option Addr} {sl_c_parting_counts : Array (Option Value)} {oc_c_parting_counts kV_c_parting_counts dc_c_parting_counts pm_c_parting_counts cd_c_parting_counts ct_c_parting_counts : Value}
    {f_c_favours : Addr} {od_c_favours an_c_favours : Option Addr} {sl_c_favours : Array (Option Value)} {oc_c_favours kV_c_favours dc_c_favours pm_c_favours cd_c_favours ct_c_favours : Value}
    {f_c_law_purse : Addr} {od_c_law_purse an_c_law_purse : Option Addr} {sl_c_law_purse : Array (Option Value)} {oc_c_law_purse kV_c_law_purse dc_c_law_purse pm_c_law_purse cd_c_law_purse ct_c_law_purse : Value}
    {f_c_law_draw : Addr} {od_c_law_draw an_c_law_draw : Option Addr} {sl_c_law_draw : Array (Option Value)} {oc_c_law_draw kV_c_law_draw dc_c_law_draw pm_c_law_draw cd_c_law_draw ct_c_law_draw : Value}
    {f_c_law_pick : Addr} {od_c_law_pick an_c_law_pick : Option Addr} {sl_c_law_pick : Array (Option Value)} {oc_c_law_pick kV_c_law_pick dc_c_law_pick pm_c_law_pick cd_c_law_pick ct_c_law_pick : Value}
    {f_c_law_row : Addr} {od_c_law_row an_c_law_row : Option Addr} {sl_c_law_row : Array (Option Value)} {oc_c_law_row kV_c_law_row dc_c_law_row pm_c_law_row cd_c_law_row ct_c_law_row : Value}
    {f_c_law_caught : Addr} {od_c_law_caught an_c_law_caught : Option Addr} {sl_c_law_caught : Array (Option Value)} {oc_c_law_caught kV_c_law_caught dc_c_law_caught pm_c_law_caught cd_c_law_caught ct_c_law_caught : Value}
    {f_c_law_first : Addr} {od_c_law_first an_c_law_first : Option Addr} {sl_c_law_first : Array (Option Value)} {oc_c_law_first kV_c_law_first dc_c_law_first pm_c_law_first cd_c_law_first ct_c_law_first : Value}
    {f_c_law_are_divisors : Addr} {od_c_law_are_divisors an_c_law_are_divisors : Option Addr} {sl_c_law_are_divisors : Array (Option Value)} {oc_c_law_are_divisors kV_c_law_are_divisors dc_c_law_are_divisors pm_c_law_are_divisors cd_c_law_are_divisors ct_c_law_are_divisors : Value}
    {f_c_law_some : Addr} {od_c_law_some an_c_law_some : Option Addr} {sl_c_law_some : Array (Option Value)} {oc_c_law_some kV_c_law_some dc_c_law_some pm_c_law_some cd_c_law_some ct_c_law_some : Value}
    {f_c_law_right : Addr} {od_c_law_right an_c_law_right : Option Addr} {sl_c_law_right : Array (Option Value)} {oc_c_law_right kV_c_law_right dc_c_law_right pm_c_law_right ct_c_law_right : Value}
    {f_c_law : Addr} {od_c_law an_c_law : Option Addr} {sl_c_law : Array (Option Value)} {oc_c_law kV_c_law dc_c_law pm_c_law cd_c_law ct_c_law : Value}
    (e_BadValue_a : PySem.W.nsIn K mainGlobals "BadValue" = some (some (.ref C_BadValue)))
    (e_BadName_a : PySem.W.nsIn K mainGlobals "BadName" = some (some (.ref C_BadName)))
    (e_NoAnswer_a : PySem.W.nsIn K mainGlobals "NoAnswer" = some (some (.ref C_NoAnswer)))
    (e_NotANight_a : PySem.W.nsIn K mainGlobals "NotANight" = some (some (.ref C_NotANight)))
    (e_InvalidTable_a : PySem.W.nsIn K mainGlobals "InvalidTable" = some (some (.ref C_InvalidTable)))
    (e_InvalidBloc_a : PySem.W.nsIn K mainGlobals "InvalidBloc" = some (some (.ref C_InvalidBloc)))
    (e_InvalidDivisors_a : PySem.W.nsIn K mainGlobals "InvalidDivisors" = some (some (.ref C_InvalidDivisors)))
    (e_InvalidDivisors_L : K.lookup C_InvalidDivisors = some (excClassObj nm_InvalidDivisors q_InvalidDivisors C_InvalidDivisors N_InvalidDivisors bs_InvalidDivisors [.ref C_BadValue, .type "ValueError", .type "Exception", .type "BaseException", .type "object"] true sn_InvalidDivisors sub_InvalidDivisors ab_InvalidDivisors col_InvalidDivisors dd_InvalidDivisors m0_InvalidDivisors m1_InvalidDivisors m2_InvalidDivisors m3_InvalidDivisors m5_InvalidDivisors "ValueError.__new__"))
    (e_InvalidDivisors_sa : PySem.W.findIn K (.ref C_InvalidDivisors) "__setattr__" = some (some (.builtin "object.__setattr__")))
    (e_InvalidDivisors_ex : PySem.W.subIn K (.ref C_InvalidDivisors) (.type "BaseException") = some true)
    (e_InvalidDivisors_ty : PySem.W.typeIn K (.ref C_InvalidDivisors) = some (.type "type"))
    (e_InvalidDivisors_kC : PySem.W.keepIn K (.ref C_InvalidDivisors) = true)
    (e_InvalidDivisors_no : PySem.W.findIn K (.ref C_InvalidDivisors) "given" = some none)
    (e_InvalidDivisors_i : PySem.W.findIn K (.ref C_InvalidDivisors) "__init__" = some (some (.ref f_e_InvalidDivisors)))
    (e_InvalidDivisors_it : PySem.W.typeIn K (.ref f_e_InvalidDivisors) = some (.type "function"))
    (e_InvalidDivisors_l : K.lookup f_e_InvalidDivisors = some ⟨oc_e_InvalidDivisors, od_e_InvalidDivisors, .func (PySem.W.fnOf "__init__" "InvalidDivisors.__init__" (defArgs s_InvalidDivisors___init) (defBody s_InvalidDivisors___init) (defScope s_InvalidDivisors___init) .none kV_e_InvalidDivisors dc_e_InvalidDivisors pm_e_InvalidDivisors an_e_InvalidDivisors cd_e_InvalidDivisors ct_e_InvalidDivisors), sl_e_InvalidDivisors⟩)
    (e_InvalidDivisors_c : PySem.W.codeIn K cd_e_InvalidDivisors "InvalidDivisors.__init__" = true)
    (e_InvalidDivisors_k : PySem.W.keepIn K (.ref f_e_InvalidDivisors) = true)
    (e_InvalidNumber_a : PySem.W.nsIn K mainGlobals "InvalidNumber" = some (some (.ref C_InvalidNumber)))
    (e_InvalidNumber_L : K.lookup C_InvalidNumber = some (excClassObj nm_InvalidNumber q_InvalidNumber C_InvalidNumber N_InvalidNumber bs_InvalidNumber [.ref C_BadValue, .type "ValueError", .type "Exception", .type "BaseException", .type "object"] true sn_InvalidNumber sub_InvalidNumber ab_InvalidNumber col_InvalidNumber dd_InvalidNumber m0_InvalidNumber m1_InvalidNumber m2_InvalidNumber m3_InvalidNumber m5_InvalidNumber "ValueError.__new__"))
    (e_InvalidNumber_sa : PySem.W.findIn K (.ref C_InvalidNumber) "__setattr__" = some (some (.builtin "object.__setattr__")))
    (e_InvalidNumber_ex : PySem.W.subIn K (.ref C_InvalidNumber) (.type "BaseException") = some true)
    (e_InvalidNumber_ty : PySem.W.typeIn K (.ref C_InvalidNumber) = some (.type "type"))
    (e_InvalidNumber_kC : PySem.W.keepIn K (.ref C_InvalidNumber) = true)
    (e_InvalidNumber_no : PySem.W.findIn K (.ref C_InvalidNumber) "given" = some none)
    (e_InvalidNumber_i : PySem.W.findIn K (.ref C_InvalidNumber) "__init__" = some (some (.ref f_e_InvalidNumber)))
    (e_InvalidNumber_it : PySem.W.typeIn K (.ref f_e_InvalidNumber) = some (.type "function"))
    (e_InvalidNumber_l : K.lookup f_e_InvalidNumber = some ⟨oc_e_InvalidNumber, od_e_InvalidNumber, .func (PySem.W.fnOf "__init__" "InvalidNumber.__init__" (defArgs s_InvalidNumber___init) (defBody s_InvalidNumber___init) (defScope s_InvalidNumber___init) .none kV_e_InvalidNumber dc_e_InvalidNumber pm_e_InvalidNumber an_e_InvalidNumber cd_e_InvalidNumber ct_e_InvalidNumber), sl_e_InvalidNumber⟩)
    (e_InvalidNumber_c : PySem.W.codeIn K cd_e_InvalidNumber "InvalidNumber.__init__" = true)
    (e_InvalidNumber_k : PySem.W.keepIn K (.ref f_e_InvalidNumber) = true)
    (e_OtherSeats_a : PySem.W.nsIn K mainGlobals "OtherSeats" = some (some (.ref C_OtherSeats)))
    (e_OtherSeats_L : K.lookup C_OtherSeats = some (excClassObj nm_OtherSeats q_OtherSeats C_OtherSeats N_OtherSeats bs_OtherSeats [.ref C_BadValue, .type "ValueError", .type "Exception", .type "BaseException", .type "object"] true sn_OtherSeats sub_OtherSeats ab_OtherSeats col_OtherSeats dd_OtherSeats m0_OtherSeats m1_OtherSeats m2_OtherSeats m3_OtherSeats m5_OtherSeats "ValueError.__new__"))
    (e_OtherSeats_sa : PySem.W.findIn K (.ref C_OtherSeats) "__setattr__" = some (some (.builtin "object.__setattr__")))
    (e_OtherSeats_ex : PySem.W.subIn K (.ref C_OtherSeats) (.type "BaseException") = some true)
    (e_OtherSeats_ty : PySem.W.typeIn K (.ref C_OtherSeats) = some (.type "type"))
    (e_OtherSeats_kC : PySem.W.keepIn K (.ref C_OtherSeats) = true)
    (e_OtherSeats_no : PySem.W.findIn K (.ref C_OtherSeats) "given" = some none)
    (e_OtherSeats_i : PySem.W.findIn K (.ref C_OtherSeats) "__init__" = some (some (.ref f_e_OtherSeats)))
    (e_OtherSeats_it : PySem.W.typeIn K (.ref f_e_OtherSeats) = some (.type "function"))
    (e_OtherSeats_l : K.lookup f_e_OtherSeats = some ⟨oc_e_OtherSeats, od_e_OtherSeats, .func (PySem.W.fnOf "__init__" "OtherSeats.__init__" (defArgs s_OtherSeats___init) (defBody s_OtherSeats___init) (defScope s_OtherSeats___init) .none kV_e_OtherSeats dc_e_OtherSeats pm_e_OtherSeats an_e_OtherSeats cd_e_OtherSeats ct_e_OtherSeats), sl_e_OtherSeats⟩)
    (e_OtherSeats_c : PySem.W.codeIn K cd_e_OtherSeats "OtherSeats.__init__" = true)
    (e_OtherSeats_k : PySem.W.keepIn K (.ref f_e_OtherSeats) = true)
    (h_InvalidNumber_c : PySem.W.isClsIn K C_InvalidNumber = true)
    (h_InvalidNumber_c2 : PySem.W.hasDictIn K C_InvalidNumber = true)
    (h_InvalidNumber_ga : PySem.W.findIn K (.ref C_InvalidNumber) "__getattribute__" = some (some (.builtin "BaseException.__getattribute__")))
    (h_InvalidNumber_gg : PySem.W.findIn K (.ref C_InvalidNumber) "__getattr__" = some none)
    (h_InvalidNumber_cl : PySem.W.findIn K (.ref C_InvalidNumber) "__class__" = some (some (.builtin "object.__class__")))
    (h_InvalidNumber_mr : PySem.W.mroIn K C_InvalidNumber (.type "object") = some true)
    (h_InvalidDivisors_c : PySem.W.isClsIn K C_InvalidDivisors = true)
    (h_InvalidDivisors_c2 : PySem.W.hasDictIn K C_InvalidDivisors = true)
    (h_InvalidDivisors_ga : PySem.W.findIn K (.ref C_InvalidDivisors) "__getattribute__" = some (some (.builtin "BaseException.__getattribute__")))
    (h_InvalidDivisors_gg : PySem.W.findIn K (.ref C_InvalidDivisors) "__getattr__" = some none)
    (h_InvalidDivisors_cl : PySem.W.findIn K (.ref C_InvalidDivisors) "__class__" = some (some (.builtin "object.__class__")))
    (h_InvalidDivisors_mr : PySem.W.mroIn K C_InvalidDivisors (.type "object") = some true)
    (h_OtherSeats_c : PySem.W.isClsIn K C_OtherSeats = true)
    (h_OtherSeats_c2 : PySem.W.hasDictIn K C_OtherSeats = true)
    (h_OtherSeats_ga : PySem.W.findIn K (.ref C_OtherSeats) "__getattribute__" = some (some (.builtin "BaseException.__getattribute__")))
    (h_OtherSeats_gg : PySem.W.findIn K (.ref C_OtherSeats) "__getattr__" = some none)
    (h_OtherSeats_cl : PySem.W.findIn K (.ref C_OtherSeats) "__class__" = some (some (.builtin "object.__class__")))
    (h_OtherSeats_mr : PySem.W.mroIn K C_OtherSeats (.type "object") = some true)
    (h_sp : PySem.W.specialIn K (.builtin "object.__class__") "__get__" = some (some (.builtin "getset_descriptor.__get__")))
    (h_tk : PySem.W.takesIn K (.builtin "object.__class__") = some true)
    (kt_InvalidNumber_NotANight : PySem.W.kitOne K (.ref C_InvalidNumber) (.ref C_NotANight) = some false)
    (kt_InvalidNumber_InvalidTable : PySem.W.kitOne K (.ref C_InvalidNumber) (.ref C_InvalidTable) = some false)
    (kt_InvalidNumber_InvalidBloc : PySem.W.kitOne K (.ref C_InvalidNumber) (.ref C_InvalidBloc) = some false)
    (kt_InvalidNumber_InvalidNumber : PySem.W.kitOne K (.ref C_InvalidNumber) (.ref C_InvalidNumber) = some true)
    (kt_InvalidNumber_InvalidDivisors : PySem.W.kitOne K (.ref C_InvalidNumber) (.ref C_InvalidDivisors) = some false)
    (kt_InvalidNumber_OtherSeats : PySem.W.kitOne K (.ref C_InvalidNumber) (.ref C_OtherSeats) = some false)
    (kt_InvalidNumber_BadValue : PySem.W.kitOne K (.ref C_InvalidNumber) (.ref C_BadValue) = some true)
    (kt_InvalidNumber_BadName : PySem.W.kitOne K (.ref C_InvalidNumber) (.ref C_BadName) = some false)
    (kt_InvalidNumber_NoAnswer : PySem.W.kitOne K (.ref C_InvalidNumber) (.ref C_NoAnswer) = some false)
    (xm_InvalidNumber : PySem.W.exmAny K (.ref C_InvalidNumber) [.ref C_BadValue, .ref C_BadName, .ref C_NoAnswer] = some true)
    (kt_InvalidDivisors_NotANight : PySem.W.kitOne K (.ref C_InvalidDivisors) (.ref C_NotANight) = some false)
    (kt_InvalidDivisors_InvalidTable : PySem.W.kitOne K (.ref C_InvalidDivisors) (.ref C_InvalidTable) = some false)
    (kt_InvalidDivisors_InvalidBloc : PySem.W.kitOne K (.ref C_InvalidDivisors) (.ref C_InvalidBloc) = some false)
    (kt_InvalidDivisors_InvalidNumber : PySem.W.kitOne K (.ref C_InvalidDivisors) (.ref C_InvalidNumber) = some false)
    (kt_InvalidDivisors_InvalidDivisors : PySem.W.kitOne K (.ref C_InvalidDivisors) (.ref C_InvalidDivisors) = some true)
    (kt_InvalidDivisors_OtherSeats : PySem.W.kitOne K (.ref C_InvalidDivisors) (.ref C_OtherSeats) = some false)
    (kt_InvalidDivisors_BadValue : PySem.W.kitOne K (.ref C_InvalidDivisors) (.ref C_BadValue) = some true)
    (kt_InvalidDivisors_BadName : PySem.W.kitOne K (.ref C_InvalidDivisors) (.ref C_BadName) = some false)
    (kt_InvalidDivisors_NoAnswer : PySem.W.kitOne K (.ref C_InvalidDivisors) (.ref C_NoAnswer) = some false)
    (xm_InvalidDivisors : PySem.W.exmAny K (.ref C_InvalidDivisors) [.ref C_BadValue, .ref C_BadName, .ref C_NoAnswer] = some true)
    (kt_OtherSeats_NotANight : PySem.W.kitOne K (.ref C_OtherSeats) (.ref C_NotANight) = some false)
    (kt_OtherSeats_InvalidTable : PySem.W.kitOne K (.ref C_OtherSeats) (.ref C_InvalidTable) = some false)
    (kt_OtherSeats_InvalidBloc : PySem.W.kitOne K (.ref C_OtherSeats) (.ref C_InvalidBloc) = some false)
    (kt_OtherSeats_InvalidNumber : PySem.W.kitOne K (.ref C_OtherSeats) (.ref C_InvalidNumber) = some false)
    (kt_OtherSeats_InvalidDivisors : PySem.W.kitOne K (.ref C_OtherSeats) (.ref C_InvalidDivisors) = some false)
    (kt_OtherSeats_OtherSeats : PySem.W.kitOne K (.ref C_OtherSeats) (.ref C_OtherSeats) = some true)
    (kt_OtherSeats_BadValue : PySem.W.kitOne K (.ref C_OtherSeats) (.ref C_BadValue) = some true)
    (kt_OtherSeats_BadName : PySem.W.kitOne K (.ref C_OtherSeats) (.ref C_BadName) = some false)
    (kt_OtherSeats_NoAnswer : PySem.W.kitOne K (.ref C_OtherSeats) (.ref C_NoAnswer) = some false)
    (xm_OtherSeats : PySem.W.exmAny K (.ref C_OtherSeats) [.ref C_BadValue, .ref C_BadName, .ref C_NoAnswer] = some true)
    (b_len : PySem.W.nsIn K mainGlobals "len" = some none)
    (b_isinstance : PySem.W.nsIn K mainGlobals "isinstance" = some none)
    (b_int : PySem.W.nsIn K mainGlobals "int" = some none)
    (b_bool : PySem.W.nsIn K mainGlobals "bool" = some none)
    (b_str : PySem.W.nsIn K mainGlobals "str" = some none)
    (b_tuple : PySem.W.nsIn K mainGlobals "tuple" = some none)
    (b_list : PySem.W.nsIn K mainGlobals "list" = some none)
    (b_all : PySem.W.nsIn K mainGlobals "all" = some none)
    (b_sum : PySem.W.nsIn K mainGlobals "sum" = some none)
    (b_min : PySem.W.nsIn K mainGlobals "min" = some none)
    (b_max : PySem.W.nsIn K mainGlobals "max" = some none)
    (b_abs : PySem.W.nsIn K mainGlobals "abs" = some none)
    (b_range : PySem.W.nsIn K mainGlobals "range" = some none)
    (b_enumerate : PySem.W.nsIn K mainGlobals "enumerate" = some none)
    (b_zip : PySem.W.nsIn K mainGlobals "zip" = some none)
    (b_repr : PySem.W.nsIn K mainGlobals "repr" = some none)
    (b_divmod : PySem.W.nsIn K mainGlobals "divmod" = some none)
    (b_sorted : PySem.W.nsIn K mainGlobals "sorted" = some none)
    (b_set : PySem.W.nsIn K mainGlobals "set" = some none)
    (b_any : PySem.W.nsIn K mainGlobals "any" = some none)
    (g_MOST_SEATS : PySem.W.nsIn K mainGlobals "MOST_SEATS" = some (some (.int 12 t_MOST_SEATS)))
    (g_MOST_DIVISOR : PySem.W.nsIn K mainGlobals "MOST_DIVISOR" = some (some (.int 100 t_MOST_DIVISOR)))
    (g_MOST_PARTIES : PySem.W.nsIn K mainGlobals "MOST_PARTIES" = some (some (.int 6 t_MOST_PARTIES)))
    (tb_c_law_right : PySem.W.tabIn K "_law_right" = some (cc_c_law_right, Pt_c_law_right))
    (to_c_law_right : K.lookup Pt_c_law_right = none)
    (c_is_integer_a : PySem.W.nsIn K mainGlobals "is_integer" = some (some (.ref f_c_is_integer)))
    (c_is_integer_l : K.lookup f_c_is_integer = some ⟨oc_c_is_integer, od_c_is_integer, .func (PySem.W.fnOf "is_integer" "is_integer" (defArgs s_is_integer) (defBody s_is_integer) (defScope s_is_integer) .none kV_c_is_integer dc_c_is_integer pm_c_is_integer an_c_is_integer cd_c_is_integer ct_c_is_integer), sl_c_is_integer⟩)
    (c_is_integer_c : PySem.W.codeIn K cd_c_is_integer "is_integer" = true)
    (c_is_integer_k : PySem.W.keepIn K (.ref f_c_is_integer) = true)
    (c_is_between_a : PySem.W.nsIn K mainGlobals "is_between" = some (some (.ref f_c_is_between)))
    (c_is_between_l : K.lookup f_c_is_between = some ⟨oc_c_is_between, od_c_is_between, .func (PySem.W.fnOf "is_between" "is_between" (defArgs s_is_between) (defBody s_is_between) (defScope s_is_between) .none kV_c_is_between dc_c_is_between pm_c_is_between an_c_is_between cd_c_is_between ct_c_is_between), sl_c_is_between⟩)
    (c_is_between_c : PySem.W.codeIn K cd_c_is_between "is_between" = true)
    (c_is_between_k : PySem.W.keepIn K (.ref f_c_is_between) = true)
    (c_is_divisors_a : PySem.W.nsIn K mainGlobals "is_divisors" = some (some (.ref f_c_is_divisors)))
    (c_is_divisors_l : K.lookup f_c_is_divisors = some ⟨oc_c_is_divisors, od_c_is_divisors, .func (PySem.W.fnOf "is_divisors" "is_divisors" (defArgs s_is_divisors) (defBody s_is_divisors) (defScope s_is_divisors) .none kV_c_is_divisors dc_c_is_divisors pm_c_is_divisors an_c_is_divisors cd_c_is_divisors ct_c_is_divisors), sl_c_is_divisors⟩)
    (c_is_divisors_c : PySem.W.codeIn K cd_c_is_divisors "is_divisors" = true)
    (c_is_divisors_k : PySem.W.keepIn K (.ref f_c_is_divisors) = true)
    (c_check_divisors_a : PySem.W.nsIn K mainGlobals "check_divisors" = some (some (.ref f_c_check_divisors)))
    (c_check_divisors_l : K.lookup f_c_check_divisors = some ⟨oc_c_check_divisors, od_c_check_divisors, .func (PySem.W.fnOf "check_divisors" "check_divisors" (defArgs s_check_divisors) (defBody s_check_divisors) (defScope s_check_divisors) .none kV_c_check_divisors dc_c_check_divisors pm_c_check_divisors an_c_check_divisors cd_c_check_divisors ct_c_check_divisors), sl_c_check_divisors⟩)
    (c_check_divisors_c : PySem.W.codeIn K cd_c_check_divisors "check_divisors" = true)
    (c_check_divisors_k : PySem.W.keepIn K (.ref f_c_check_divisors) = true)
    (c_check_same_seats_a : PySem.W.nsIn K mainGlobals "check_same_seats" = some (some (.ref f_c_check_same_seats)))
    (c_check_same_seats_l : K.lookup f_c_check_same_seats = some ⟨oc_c_check_same_seats, od_c_check_same_seats, .func (PySem.W.fnOf "check_same_seats" "check_same_seats" (defArgs s_check_same_seats) (defBody s_check_same_seats) (defScope s_check_same_seats) .none kV_c_check_same_seats dc_c_check_same_seats pm_c_check_same_seats an_c_check_same_seats cd_c_check_same_seats ct_c_check_same_seats), sl_c_check_same_seats⟩)
    (c_check_same_seats_c : PySem.W.codeIn K cd_c_check_same_seats "check_same_seats" = true)
    (c_check_same_seats_k : PySem.W.keepIn K (.ref f_c_check_same_seats) = true)
    (c_check_rules_a : PySem.W.nsIn K mainGlobals "check_rules" = some (some (.ref f_c_check_rules)))
    (c_check_rules_l : K.lookup f_c_check_rules = some ⟨oc_c_check_rules, od_c_check_rules, .func (PySem.W.fnOf "check_rules" "check_rules" (defArgs s_check_rules) (defBody s_check_rules) (defScope s_check_rules) .none kV_c_check_rules dc_c_check_rules pm_c_check_rules an_c_check_rules cd_c_check_rules ct_c_check_rules), sl_c_check_rules⟩)
    (c_check_rules_c : PySem.W.codeIn K cd_c_check_rules "check_rules" = true)
    (c_check_rules_k : PySem.W.keepIn K (.ref f_c_check_rules) = true)
    (c_is_below_a : PySem.W.nsIn K mainGlobals "is_below" = some (some (.ref f_c_is_below)))
    (c_is_below_l : K.lookup f_c_is_below = some ⟨oc_c_is_below, od_c_is_below, .func (PySem.W.fnOf "is_below" "is_below" (defArgs s_is_below) (defBody s_is_below) (defScope s_is_below) .none kV_c_is_below dc_c_is_below pm_c_is_below an_c_is_below cd_c_is_below ct_c_is_below), sl_c_is_below⟩)
    (c_is_below_c : PySem.W.codeIn K cd_c_is_below "is_below" = true)
    (c_is_below_k : PySem.W.keepIn K (.ref f_c_is_below) = true)
    (c_numbers_for_a : PySem.W.nsIn K mainGlobals "numbers_for" = some (some (.ref f_c_numbers_for)))
    (c_numbers_for_l : K.lookup f_c_numbers_for = some ⟨oc_c_numbers_for, od_c_numbers_for, .func (PySem.W.fnOf "numbers_for" "numbers_for" (defArgs s_numbers_for) (defBody s_numbers_for) (defScope s_numbers_for) .none kV_c_numbers_for dc_c_numbers_for pm_c_numbers_for an_c_numbers_for cd_c_numbers_for ct_c_numbers_for), sl_c_numbers_for⟩)
    (c_numbers_for_c : PySem.W.codeIn K cd_c_numbers_for "numbers_for" = true)
    (c_numbers_for_k : PySem.W.keepIn K (.ref f_c_numbers_for) = true)
    (c_quotient_at_a : PySem.W.nsIn K mainGlobals "quotient_at" = some (some (.ref f_c_quotient_at)))
    (c_quotient_at_l : K.lookup f_c_quotient_at = some ⟨oc_c_quotient_at, od_c_quotient_at, .func (PySem.W.fnOf "quotient_at" "quotient_at" (defArgs s_quotient_at) (defBody s_quotient_at) (defScope s_quotient_at) .none kV_c_quotient_at dc_c_quotient_at pm_c_quotient_at an_c_quotient_at cd_c_quotient_at ct_c_quotient_at), sl_c_quotient_at⟩)
    (c_quotient_at_c : PySem.W.codeIn K cd_c_quotient_at "quotient_at" = true)
    (c_quotient_at_k : PySem.W.keepIn K (.ref f_c_quotient_at) = true)
    (c_parting_pairs_a : PySem.W.nsIn K mainGlobals "parting_pairs" = some (some (.ref f_c_parting_pairs)))
    (c_parting_pairs_l : K.lookup f_c_parting_pairs = some ⟨oc_c_parting_pairs, od_c_parting_pairs, .func (PySem.W.fnOf "parting_pairs" "parting_pairs" (defArgs s_parting_pairs) (defBody s_parting_pairs) (defScope s_parting_pairs) .none kV_c_parting_pairs dc_c_parting_pairs pm_c_parting_pairs an_c_parting_pairs cd_c_parting_pairs ct_c_parting_pairs), sl_c_parting_pairs⟩)
    (c_parting_pairs_c : PySem.W.codeIn K cd_c_parting_pairs "parting_pairs" = true)
    (c_parting_pairs_k : PySem.W.keepIn K (.ref f_c_parting_pairs) = true)
    (c_are_alike_a : PySem.W.nsIn K mainGlobals "are_alike" = some (some (.ref f_c_are_alike)))
    (c_are_alike_l : K.lookup f_c_are_alike = some ⟨oc_c_are_alike, od_c_are_alike, .func (PySem.W.fnOf "are_alike" "are_alike" (defArgs s_are_alike) (defBody s_are_alike) (defScope s_are_alike) .none kV_c_are_alike dc_c_are_alike pm_c_are_alike an_c_are_alike cd_c_are_alike ct_c_are_alike), sl_c_are_alike⟩)
    (c_are_alike_c : PySem.W.codeIn K cd_c_are_alike "are_alike" = true)
    (c_are_alike_k : PySem.W.keepIn K (.ref f_c_are_alike) = true)
    (c_parting_counts_a : PySem.W.nsIn K mainGlobals "parting_counts" = some (some (.ref f_c_parting_counts)))
    (c_parting_counts_l : K.lookup f_c_parting_counts = some ⟨oc_c_parting_counts, od_c_parting_counts, .func (PySem.W.fnOf "parting_counts" "parting_counts" (defArgs s_parting_counts) (defBody s_parting_counts) (defScope s_parting_counts) .none kV_c_parting_counts dc_c_parting_counts pm_c_parting_counts an_c_parting_counts cd_c_parting_counts ct_c_parting_counts), sl_c_parting_counts⟩)
    (c_parting_counts_c : PySem.W.codeIn K cd_c_parting_counts "parting_counts" = true)
    (c_parting_counts_k : PySem.W.keepIn K (.ref f_c_parting_counts) = true)
    (c_favours_a : PySem.W.nsIn K mainGlobals "favours" = some (some (.ref f_c_favours)))
    (c_favours_l : K.lookup f_c_favours = some ⟨oc_c_favours, od_c_favours, .func (PySem.W.fnOf "favours" "favours" (defArgs s_favours) (defBody s_favours) (defScope s_favours) .none kV_c_favours dc_c_favours pm_c_favours an_c_favours cd_c_favours ct_c_favours), sl_c_favours⟩)
    (c_favours_c : PySem.W.codeIn K cd_c_favours "favours" = true)
    (c_favours_k : PySem.W.keepIn K (.ref f_c_favours) = true)
    (c_law_purse_a : PySem.W.nsIn K mainGlobals "_law_purse" = some (some (.ref f_c_law_purse)))
    (c_law_purse_l : K.lookup f_c_law_purse = some ⟨oc_c_law_purse, od_c_law_purse, .func (PySem.W.fnOf "_law_purse" "_law_purse" (defArgs s_l_purse) (defBody s_l_purse) (defScope s_l_purse) .none kV_c_law_purse dc_c_law_purse pm_c_law_purse an_c_law_purse cd_c_law_purse ct_c_law_purse), sl_c_law_purse⟩)
    (c_law_purse_c : PySem.W.codeIn K cd_c_law_purse "_law_purse" = true)
    (c_law_purse_k : PySem.W.keepIn K (.ref f_c_law_purse) = true)
    (c_law_draw_a : PySem.W.nsIn K mainGlobals "_law_draw" = some (some (.ref f_c_law_draw)))
    (c_law_draw_l : K.lookup f_c_law_draw = some ⟨oc_c_law_draw, od_c_law_draw, .func (PySem.W.fnOf "_law_draw" "_law_draw" (defArgs s_l_draw) (defBody s_l_draw) (defScope s_l_draw) .none kV_c_law_draw dc_c_law_draw pm_c_law_draw an_c_law_draw cd_c_law_draw ct_c_law_draw), sl_c_law_draw⟩)
    (c_law_draw_c : PySem.W.codeIn K cd_c_law_draw "_law_draw" = true)
    (c_law_draw_k : PySem.W.keepIn K (.ref f_c_law_draw) = true)
    (c_law_pick_a : PySem.W.nsIn K mainGlobals "_law_pick" = some (some (.ref f_c_law_pick)))
    (c_law_pick_l : K.lookup f_c_law_pick = some ⟨oc_c_law_pick, od_c_law_pick, .func (PySem.W.fnOf "_law_pick" "_law_pick" (defArgs s_l_pick) (defBody s_l_pick) (defScope s_l_pick) .none kV_c_law_pick dc_c_law_pick pm_c_law_pick an_c_law_pick cd_c_law_pick ct_c_law_pick), sl_c_law_pick⟩)
    (c_law_pick_c : PySem.W.codeIn K cd_c_law_pick "_law_pick" = true)
    (c_law_pick_k : PySem.W.keepIn K (.ref f_c_law_pick) = true)
    (c_law_row_a : PySem.W.nsIn K mainGlobals "_law_row" = some (some (.ref f_c_law_row)))
    (c_law_row_l : K.lookup f_c_law_row = some ⟨oc_c_law_row, od_c_law_row, .func (PySem.W.fnOf "_law_row" "_law_row" (defArgs s_l_row) (defBody s_l_row) (defScope s_l_row) .none kV_c_law_row dc_c_law_row pm_c_law_row an_c_law_row cd_c_law_row ct_c_law_row), sl_c_law_row⟩)
    (c_law_row_c : PySem.W.codeIn K cd_c_law_row "_law_row" = true)
    (c_law_row_k : PySem.W.keepIn K (.ref f_c_law_row) = true)
    (c_law_caught_a : PySem.W.nsIn K mainGlobals "_law_caught" = some (some (.ref f_c_law_caught)))
    (c_law_caught_l : K.lookup f_c_law_caught = some ⟨oc_c_law_caught, od_c_law_caught, .func (PySem.W.fnOf "_law_caught" "_law_caught" (defArgs s_l_caught) (defBody s_l_caught) (defScope s_l_caught) .none kV_c_law_caught dc_c_law_caught pm_c_law_caught an_c_law_caught cd_c_law_caught ct_c_law_caught), sl_c_law_caught⟩)
    (c_law_caught_c : PySem.W.codeIn K cd_c_law_caught "_law_caught" = true)
    (c_law_caught_k : PySem.W.keepIn K (.ref f_c_law_caught) = true)
    (c_law_first_a : PySem.W.nsIn K mainGlobals "_law_first" = some (some (.ref f_c_law_first)))
    (c_law_first_l : K.lookup f_c_law_first = some ⟨oc_c_law_first, od_c_law_first, .func (PySem.W.fnOf "_law_first" "_law_first" (defArgs s_l_first) (defBody s_l_first) (defScope s_l_first) .none kV_c_law_first dc_c_law_first pm_c_law_first an_c_law_first cd_c_law_first ct_c_law_first), sl_c_law_first⟩)
    (c_law_first_c : PySem.W.codeIn K cd_c_law_first "_law_first" = true)
    (c_law_first_k : PySem.W.keepIn K (.ref f_c_law_first) = true)
    (c_law_are_divisors_a : PySem.W.nsIn K mainGlobals "_law_are_divisors" = some (some (.ref f_c_law_are_divisors)))
    (c_law_are_divisors_l : K.lookup f_c_law_are_divisors = some ⟨oc_c_law_are_divisors, od_c_law_are_divisors, .func (PySem.W.fnOf "_law_are_divisors" "_law_are_divisors" (defArgs s_l_are_divisors) (defBody s_l_are_divisors) (defScope s_l_are_divisors) .none kV_c_law_are_divisors dc_c_law_are_divisors pm_c_law_are_divisors an_c_law_are_divisors cd_c_law_are_divisors ct_c_law_are_divisors), sl_c_law_are_divisors⟩)
    (c_law_are_divisors_c : PySem.W.codeIn K cd_c_law_are_divisors "_law_are_divisors" = true)
    (c_law_are_divisors_k : PySem.W.keepIn K (.ref f_c_law_are_divisors) = true)
    (c_law_some_a : PySem.W.nsIn K mainGlobals "_law_some" = some (some (.ref f_c_law_some)))
    (c_law_some_l : K.lookup f_c_law_some = some ⟨oc_c_law_some, od_c_law_some, .func (PySem.W.fnOf "_law_some" "_law_some" (defArgs s_l_some) (defBody s_l_some) (defScope s_l_some) .none kV_c_law_some dc_c_law_some pm_c_law_some an_c_law_some cd_c_law_some ct_c_law_some), sl_c_law_some⟩)
    (c_law_some_c : PySem.W.codeIn K cd_c_law_some "_law_some" = true)
    (c_law_some_k : PySem.W.keepIn K (.ref f_c_law_some) = true)
    (c_law_right_a : PySem.W.nsIn K mainGlobals "_law_right" = some (some (.ref f_c_law_right)))
    (c_law_right_l : K.lookup f_c_law_right = some ⟨oc_c_law_right, od_c_law_right, .func (PySem.W.fnOf "_law_right" "_law_right" (defArgs s_l_right) (defBody s_l_right) (defScope s_l_right) .none kV_c_law_right dc_c_law_right pm_c_law_right an_c_law_right (.ref cc_c_law_right) ct_c_law_right), sl_c_law_right⟩)
    (c_law_right_c : PySem.W.codeIn K (.ref cc_c_law_right) "_law_right" = true)
    (c_law_right_k : PySem.W.keepIn K (.ref f_c_law_right) = true)
    (c_law_a : PySem.W.nsIn K mainGlobals "law" = some (some (.ref f_c_law)))
    (c_law_l : K.lookup f_c_law = some ⟨oc_c_law, od_c_law, .func (PySem.W.fnOf "law" "law" (defArgs s_law) (defBody s_law) (defScope s_law) .none kV_c_law dc_c_law pm_c_law an_c_law cd_c_law ct_c_law), sl_c_law⟩)
    (c_law_c : PySem.W.codeIn K cd_c_law "law" = true)
    (c_law_k : PySem.W.keepIn K (.ref f_c_law) = true)
    : ∃ (fd : FuncData) (ts : Tabl), (∀ t ∈ ts, t.1 ∈ (["_law_right"] : List Str) ∧ PySem.W.tabIn K t.1 = some t.2 ∧ K.lookup t.2.2 = none) ∧ (∀ (s : Shared) (v : Value), BindsTo s fd ⟨[v], []⟩ [("_law_script", v)]) ∧ ∀ base : Heap, K.In base → base.Ns mainGlobals mg → SysB base → (∀ y ∈ ts, LamX.TabB base mg y.2.1 y.2.2) → FnG P w K mg base 12 fa fd ["_law_script"] (liftT K ts.T S_law) := by
  have e := hfa.symm.trans (PySem.W.mg_of X G c_law_a)
  have e2 : f_c_law = fa := by cases e; rfl
  subst e2
  have B : Blt mg := ⟨PySem.W.mg_none_of X G b_len, PySem.W.mg_none_of X G b_isinstance, PySem.W.mg_none_of X G b_int, PySem.W.mg_none_of X G b_bool, PySem.W.mg_none_of X G b_str, PySem.W.mg_none_of X G b_tuple, PySem.W.mg_none_of X G b_list, PySem.W.mg_none_of X G b_all, PySem.W.mg_none_of X G b_sum, PySem.W.mg_none_of X G b_min, PySem.W.mg_none_of X G b_max, PySem.W.mg_none_of X G b_abs, PySem.W.mg_none_of X G b_range, PySem.W.mg_none_of X G b_enumerate, PySem.W.mg_none_of X G b_zip, PySem.W.mg_none_of X G b_repr, PySem.W.mg_none_of X G b_divmod⟩
  have n_sorted : mg "sorted" = none := PySem.W.mg_none_of X G b_sorted
  have n_set : mg "set" = none := PySem.W.mg_none_of X G b_set
  have n_any : mg "any" = none := PySem.W.mg_none_of X G b_any
  have c_MOST_SEATS : GInt mg "MOST_SEATS" 12 := ⟨t_MOST_SEATS, PySem.W.mg_of X G g_MOST_SEATS⟩
  have c_MOST_DIVISOR : GInt mg "MOST_DIVISOR" 100 := ⟨t_MOST_DIVISOR, PySem.W.mg_of X G g_MOST_DIVISOR⟩
  have c_MOST_PARTIES : GInt mg "MOST_PARTIES" 6 := ⟨t_MOST_PARTIES, PySem.W.mg_of X G g_MOST_PARTIES⟩
  have c_BadValue := PySem.W.mg_of X G e_BadValue_a
  have c_BadName := PySem.W.mg_of X G e_BadName_a
  have c_NoAnswer := PySem.W.mg_of X G e_NoAnswer_a
  have c_NotANight := PySem.W.mg_of X G e_NotANight_a
  have c_InvalidTable := PySem.W.mg_of X G e_InvalidTable_a
  have c_InvalidBloc := PySem.W.mg_of X G e_InvalidBloc_a
  have x_InvalidDivisors : XCls K mg "InvalidDivisors" "given" s_InvalidDivisors___init C_InvalidDivisors := ⟨PySem.W.mg_of X G e_InvalidDivisors_a, ⟨⟨_, _, _, _, _, _, _, _, _, _, _, _, _, _, _, e_InvalidDivisors_L, rfl⟩, e_InvalidDivisors_sa, e_InvalidDivisors_ex, e_InvalidDivisors_ty, e_InvalidDivisors_kC⟩, e_InvalidDivisors_no, _, _, e_InvalidDivisors_i, e_InvalidDivisors_it, fun_at (by decide +kernel) (fun_mk e_InvalidDivisors_l e_InvalidDivisors_c e_InvalidDivisors_k)⟩
  have x_InvalidNumber : XCls K mg "InvalidNumber" "given" s_InvalidNumber___init C_InvalidNumber := ⟨PySem.W.mg_of X G e_InvalidNumber_a, ⟨⟨_, _, _, _, _, _, _, _, _, _, _, _, _, _, _, e_InvalidNumber_L, rfl⟩, e_InvalidNumber_sa, e_InvalidNumber_ex, e_InvalidNumber_ty, e_InvalidNumber_kC⟩, e_InvalidNumber_no, _, _, e_InvalidNumber_i, e_InvalidNumber_it, fun_at (by decide +kernel) (fun_mk e_InvalidNumber_l e_InvalidNumber_c e_InvalidNumber_k)⟩
  have x_OtherSeats : XCls K mg "OtherSeats" "given" s_OtherSeats___init C_OtherSeats := ⟨PySem.W.mg_of X G e_OtherSeats_a, ⟨⟨_, _, _, _, _, _, _, _, _, _, _, _, _, _, _, e_OtherSeats_L, rfl⟩, e_OtherSeats_sa, e_OtherSeats_ex, e_OtherSeats_ty, e_OtherSeats_kC⟩, e_OtherSeats_no, _, _, e_OtherSeats_i, e_OtherSeats_it, fun_at (by decide +kernel) (fun_mk e_OtherSeats_l e_OtherSeats_c e_OtherSeats_k)⟩
  have h_InvalidNumber : XIs K C_InvalidNumber := ⟨h_InvalidNumber_c, h_InvalidNumber_c2, h_InvalidNumber_ga, h_InvalidNumber_gg, e_InvalidNumber_ex, h_InvalidNumber_cl, h_sp, h_tk, h_InvalidNumber_mr⟩
  have h_InvalidDivisors : XIs K C_InvalidDivisors := ⟨h_InvalidDivisors_c, h_InvalidDivisors_c2, h_InvalidDivisors_ga, h_InvalidDivisors_gg, e_InvalidDivisors_ex, h_InvalidDivisors_cl, h_sp, h_tk, h_InvalidDivisors_mr⟩
  have h_OtherSeats : XIs K C_OtherSeats := ⟨h_OtherSeats_c, h_OtherSeats_c2, h_OtherSeats_ga, h_OtherSeats_gg, e_OtherSeats_ex, h_OtherSeats_cl, h_sp, h_tk, h_OtherSeats_mr⟩
  have d_c_is_integer : DefAt K "is_integer" "is_integer" s_is_integer f_c_is_integer .none _ := ⟨_, _, _, _, _, _, _, _, _, rfl, c_is_integer_l, c_is_integer_c⟩
  have m_c_is_integer : ModAt K mg "is_integer" s_is_integer f_c_is_integer _ := ⟨d_c_is_integer, PySem.W.mg_of X G c_is_integer_a, c_is_integer_k⟩
  have d_c_is_between : DefAt K "is_between" "is_between" s_is_between f_c_is_between .none _ := ⟨_, _, _, _, _, _, _, _, _, rfl, c_is_between_l, c_is_between_c⟩
  have m_c_is_between : ModAt K mg "is_between" s_is_between f_c_is_between _ := ⟨d_c_is_between, PySem.W.mg_of X G c_is_between_a, c_is_between_k⟩
  have d_c_is_divisors : DefAt K "is_divisors" "is_divisors" s_is_divisors f_c_is_divisors .none _ := ⟨_, _, _, _, _, _, _, _, _, rfl, c_is_divisors_l, c_is_divisors_c⟩
  have m_c_is_divisors : ModAt K mg "is_divisors" s_is_divisors f_c_is_divisors _ := ⟨d_c_is_divisors, PySem.W.mg_of X G c_is_divisors_a, c_is_divisors_k⟩
  have d_c_check_divisors : DefAt K "check_divisors" "check_divisors" s_check_divisors f_c_check_divisors .none _ := ⟨_, _, _, _, _, _, _, _, _, rfl, c_check_divisors_l, c_check_divisors_c⟩
  have m_c_check_divisors : ModAt K mg "check_divisors" s_check_divisors f_c_check_divisors _ := ⟨d_c_check_divisors, PySem.W.mg_of X G c_check_divisors_a, c_check_divisors_k⟩
  have d_c_check_same_seats : DefAt K "check_same_seats" "check_same_seats" s_check_same_seats f_c_check_same_seats .none _ := ⟨_, _, _, _, _, _, _, _, _, rfl, c_check_same_seats_l, c_check_same_seats_c⟩
  have m_c_check_same_seats : ModAt K mg "check_same_seats" s_check_same_seats f_c_check_same_seats _ := ⟨d_c_check_same_seats, PySem.W.mg_of X G c_check_same_seats_a, c_check_same_seats_k⟩
  have d_c_check_rules : DefAt K "check_rules" "check_rules" s_check_rules f_c_check_rules .none _ := ⟨_, _, _, _, _, _, _, _, _, rfl, c_check_rules_l, c_check_rules_c⟩
  have m_c_check_rules : ModAt K mg "check_rules" s_check_rules f_c_check_rules _ := ⟨d_c_check_rules, PySem.W.mg_of X G c_check_rules_a, c_check_rules_k⟩
  have d_c_is_below : DefAt K "is_below" "is_below" s_is_below f_c_is_below .none _ := ⟨_, _, _, _, _, _, _, _, _, rfl, c_is_below_l, c_is_below_c⟩
  have m_c_is_below : ModAt K mg "is_below" s_is_below f_c_is_below _ := ⟨d_c_is_below, PySem.W.mg_of X G c_is_below_a, c_is_below_k⟩
  have d_c_numbers_for : DefAt K "numbers_for" "numbers_for" s_numbers_for f_c_numbers_for .none _ := ⟨_, _, _, _, _, _, _, _, _, rfl, c_numbers_for_l, c_numbers_for_c⟩
  have m_c_numbers_for : ModAt K mg "numbers_for" s_numbers_for f_c_numbers_for _ := ⟨d_c_numbers_for, PySem.W.mg_of X G c_numbers_for_a, c_numbers_for_k⟩
  have d_c_quotient_at : DefAt K "quotient_at" "quotient_at" s_quotient_at f_c_quotient_at .none _ := ⟨_, _, _, _, _, _, _, _, _, rfl, c_quotient_at_l, c_quotient_at_c⟩
  have m_c_quotient_at : ModAt K mg "quotient_at" s_quotient_at f_c_quotient_at _ := ⟨d_c_quotient_at, PySem.W.mg_of X G c_quotient_at_a, c_quotient_at_k⟩
  have d_c_parting_pairs : DefAt K "parting_pairs" "parting_pairs" s_parting_pairs f_c_parting_pairs .none _ := ⟨_, _, _, _, _, _, _, _, _, rfl, c_parting_pairs_l, c_parting_pairs_c⟩
  have m_c_parting_pairs : ModAt K mg "parting_pairs" s_parting_pairs f_c_parting_pairs _ := ⟨d_c_parting_pairs, PySem.W.mg_of X G c_parting_pairs_a, c_parting_pairs_k⟩
  have d_c_are_alike : DefAt K "are_alike" "are_alike" s_are_alike f_c_are_alike .none _ := ⟨_, _, _, _, _, _, _, _, _, rfl, c_are_alike_l, c_are_alike_c⟩
  have m_c_are_alike : ModAt K mg "are_alike" s_are_alike f_c_are_alike _ := ⟨d_c_are_alike, PySem.W.mg_of X G c_are_alike_a, c_are_alike_k⟩
  have d_c_parting_counts : DefAt K "parting_counts" "parting_counts" s_parting_counts f_c_parting_counts .none _ := ⟨_, _, _, _, _, _, _, _, _, rfl, c_parting_counts_l, c_parting_counts_c⟩
  have m_c_parting_counts : ModAt K mg "parting_counts" s_parting_counts f_c_parting_counts _ := ⟨d_c_parting_counts, PySem.W.mg_of X G c_parting_counts_a, c_parting_counts_k⟩
  have d_c_favours : DefAt K "favours" "favours" s_favours f_c_favours .none _ := ⟨_, _, _, _, _, _, _, _, _, rfl, c_favours_l, c_favours_c⟩
  have m_c_favours : ModAt K mg "favours" s_favours f_c_favours _ := ⟨d_c_favours, PySem.W.mg_of X G c_favours_a, c_favours_k⟩
  have d_c_law_purse : DefAt K "_law_purse" "_law_purse" s_l_purse f_c_law_purse .none _ := ⟨_, _, _, _, _, _, _, _, _, rfl, c_law_purse_l, c_law_purse_c⟩
  have m_c_law_purse : ModAt K mg "_law_purse" s_l_purse f_c_law_purse _ := ⟨d_c_law_purse, PySem.W.mg_of X G c_law_purse_a, c_law_purse_k⟩
  have d_c_law_draw : DefAt K "_law_draw" "_law_draw" s_l_draw f_c_law_draw .none _ := ⟨_, _, _, _, _, _, _, _, _, rfl, c_law_draw_l, c_law_draw_c⟩
  have m_c_law_draw : ModAt K mg "_law_draw" s_l_draw f_c_law_draw _ := ⟨d_c_law_draw, PySem.W.mg_of X G c_law_draw_a, c_law_draw_k⟩
  have d_c_law_pick : DefAt K "_law_pick" "_law_pick" s_l_pick f_c_law_pick .none _ := ⟨_, _, _, _, _, _, _, _, _, rfl, c_law_pick_l, c_law_pick_c⟩
  have m_c_law_pick : ModAt K mg "_law_pick" s_l_pick f_c_law_pick _ := ⟨d_c_law_pick, PySem.W.mg_of X G c_law_pick_a, c_law_pick_k⟩
  have d_c_law_row : DefAt K "_law_row" "_law_row" s_l_row f_c_law_row .none _ := ⟨_, _, _, _, _, _, _, _, _, rfl, c_law_row_l, c_law_row_c⟩
  have m_c_law_row : ModAt K mg "_law_row" s_l_row f_c_law_row _ := ⟨d_c_law_row, PySem.W.mg_of X G c_law_row_a, c_law_row_k⟩
  have d_c_law_caught : DefAt K "_law_caught" "_law_caught" s_l_caught f_c_law_caught .none _ := ⟨_, _, _, _, _, _, _, _, _, rfl, c_law_caught_l, c_law_caught_c⟩
  have m_c_law_caught : ModAt K mg "_law_caught" s_l_caught f_c_law_caught _ := ⟨d_c_law_caught, PySem.W.mg_of X G c_law_caught_a, c_law_caught_k⟩
  have d_c_law_first : DefAt K "_law_first" "_law_first" s_l_first f_c_law_first .none _ := ⟨_, _, _, _, _, _, _, _, _, rfl, c_law_first_l, c_law_first_c⟩
  have m_c_law_first : ModAt K mg "_law_first" s_l_first f_c_law_first _ := ⟨d_c_law_first, PySem.W.mg_of X G c_law_first_a, c_law_first_k⟩
  have d_c_law_are_divisors : DefAt K "_law_are_divisors" "_law_are_divisors" s_l_are_divisors f_c_law_are_divisors .none _ := ⟨_, _, _, _, _, _, _, _, _, rfl, c_law_are_divisors_l, c_law_are_divisors_c⟩
  have m_c_law_are_divisors : ModAt K mg "_law_are_divisors" s_l_are_divisors f_c_law_are_divisors _ := ⟨d_c_law_are_divisors, PySem.W.mg_of X G c_law_are_divisors_a, c_law_are_divisors_k⟩
  have d_c_law_some : DefAt K "_law_some" "_law_some" s_l_some f_c_law_some .none _ := ⟨_, _, _, _, _, _, _, _, _, rfl, c_law_some_l, c_law_some_c⟩
  have m_c_law_some : ModAt K mg "_law_some" s_l_some f_c_law_some _ := ⟨d_c_law_some, PySem.W.mg_of X G c_law_some_a, c_law_some_k⟩
  have d_c_law_right : DefAt K "_law_right" "_law_right" s_l_right f_c_law_right .none _ := ⟨_, _, _, _, _, _, _, _, _, rfl, c_law_right_l, c_law_right_c⟩
  have m_c_law_right : ModAt K mg "_law_right" s_l_right f_c_law_right _ := ⟨d_c_law_right, PySem.W.mg_of X G c_law_right_a, c_law_right_k⟩
  have k_c_law_right : CodeAt K f_c_law_right cc_c_law_right := CodeAt.of c_law_right_l rfl
  have d_c_law : DefAt K "law" "law" s_law f_c_law .none _ := ⟨_, _, _, _, _, _, _, _, _, rfl, c_law_l, c_law_c⟩
  have m_c_law : ModAt K mg "law" s_law f_c_law _ := ⟨d_c_law, PySem.W.mg_of X G c_law_a, c_law_k⟩
  refine ⟨PySem.W.fnOf "law" "law" (defArgs s_law) (defBody s_law) (defScope s_law) .none kV_c_law dc_c_law pm_c_law an_c_law cd_c_law ct_c_law, [("_law_right", cc_c_law_right, Pt_c_law_right)], fun t ht => ?_, fun s v => .of_eq rfl, fun base _ _ SY TB => ?_⟩
  · simp only [List.mem_cons, List.not_mem_nil, or_false] at ht
    rcases ht with rfl <;> exact ⟨by simp, by assumption, by assumption⟩
  have hT_c_law_right : (Pt_c_law_right, (Str.ofString "_law_right" ++ ".<locals>.<lambda>" : Str)) ∈ Tabl.T [("_law_right", cc_c_law_right, Pt_c_law_right)] := List.mem_cons_self
  have hu_c_law_right : ∀ p ∈ Tabl.T [("_law_right", cc_c_law_right, Pt_c_law_right)], p.1 = Pt_c_law_right → p.2 = (Str.ofString "_law_right" ++ ".<locals>.<lambda>" : Str) := fun p hp e => by rw [List.mem_singleton.mp hp]
  have TB_c_law_right := TB _ List.mem_cons_self
  have c_InvalidDivisors := mk_InvalidDivisors (P := P) (w := w) (base := base) x_InvalidDivisors
  have c_InvalidNumber := mk_InvalidNumber (P := P) (w := w) (base := base) x_InvalidNumber
  have c_OtherSeats := mk_OtherSeats (P := P) (w := w) (base := base) x_OtherSeats
  have c_is_integer := m_c_is_integer.call (ok_is_integer (P := P) (w := w) (base := base) m_c_is_integer.d.fx B) (fun _ _ _ _ _ _ us hl => match us, hl with | [_], _ => rfl)
  have c_is_between := m_c_is_between.call (ok_is_between (P := P) (w := w) (base := base) m_c_is_between.d.fx c_is_integer) (fun _ _ _ _ _ _ us hl => match us, hl with | [_, _, _], _ => rfl)
  have c_is_divisors := m_c_is_divisors.call (ok_is_divisors (P := P) (w := w) (base := base) m_c_is_divisors.d.fx B c_MOST_SEATS c_MOST_DIVISOR c_is_between) (fun _ _ _ _ _ _ us hl => match us, hl with | [_], _ => rfl)
  have c_check_divisors := m_c_check_divisors.call (ok_check_divisors (P := P) (w := w) (base := base) m_c_check_divisors.d.fx c_is_divisors c_InvalidDivisors) (fun _ _ _ _ _ _ us hl => match us, hl with | [_], _ => rfl)
  have c_check_same_seats := m_c_check_same_seats.call (ok_check_same_seats (P := P) (w := w) (base := base) m_c_check_same_seats.d.fx B c_OtherSeats) (fun _ _ _ _ _ _ us hl => match us, hl with | [_, _], _ => rfl)
  have c_check_rules := m_c_check_rules.call (ok_check_rules (P := P) (w := w) (base := base) m_c_check_rules.d.fx c_MOST_PARTIES c_check_divisors c_is_between c_check_same_seats c_InvalidNumber) (fun _ _ _ _ _ _ us hl => match us, hl with | [_, _, _], _ => rfl)
  have c_is_below := m_c_is_below.call (ok_is_below (P := P) (w := w) (base := base) m_c_is_below.d.fx B) (fun _ _ _ _ _ _ us hl => match us, hl with | [_, _], _ => rfl)
  have c_numbers_for := m_c_numbers_for.call (ok_numbers_for (P := P) (w := w) (base := base) m_c_numbers_for.d.fx B) (fun _ _ _ _ _ _ us hl => match us, hl with | [_, _], _ => rfl)
  have c_quotient_at := m_c_quotient_at.call (ok_quotient_at (P := P) (w := w) (base := base) m_c_quotient_at.d.fx ) (fun _ _ _ _ _ _ us hl => match us, hl with | [_, _], _ => rfl)
  have c_parting_pairs := m_c_parting_pairs.call (ok_parting_pairs (P := P) (w := w) (base := base) m_c_parting_pairs.d.fx B c_check_rules c_numbers_for c_quotient_at c_is_below) (fun _ _ _ _ _ _ us hl => match us, hl with | [_, _, _], _ => rfl)
  have c_are_alike := m_c_are_alike.call (ok_are_alike (P := P) (w := w) (base := base) m_c_are_alike.d.fx B c_parting_pairs) (fun _ _ _ _ _ _ us hl => match us, hl with | [_, _, _], _ => rfl)
  have c_parting_counts := m_c_parting_counts.call (ok_parting_counts (P := P) (w := w) (base := base) m_c_parting_counts.d.fx B c_parting_pairs c_quotient_at c_is_below) (fun _ _ _ _ _ _ us hl => match us, hl with | [_, _, _], _ => rfl)
  have c_parting_pairsK : CallK P w K mg base "parting_pairs" _ _ 0 ["many", "other", "one"] [2, 1, 0] := ⟨_, _, _, (ok_parting_pairs (P := P) (w := w) (base := base) m_c_parting_pairs.d.fx B c_check_rules c_numbers_for c_quotient_at c_is_below), m_c_parting_pairs.m, m_c_parting_pairs.k, m_c_parting_pairs.d.kb fun _ _ _ _ _ _ us ws h1 h2 => match us, h1, ws, h2 with | [], _, [_, _, _], _ => rfl⟩
  have c_are_alikeK : CallK P w K mg base "are_alike" _ _ 0 ["many", "other", "one"] [2, 1, 0] := ⟨_, _, _, (ok_are_alike (P := P) (w := w) (base := base) m_c_are_alike.d.fx B c_parting_pairs), m_c_are_alike.m, m_c_are_alike.k, m_c_are_alike.d.kb fun _ _ _ _ _ _ us ws h1 h2 => match us, h1, ws, h2 with | [], _, [_, _, _], _ => rfl⟩
  have c_favours := m_c_favours.call (ok_favours (P := P) (w := w) (base := base) m_c_favours.d.fx B  n_any c_check_divisors c_check_same_seats c_numbers_for c_quotient_at c_is_below) (fun _ _ _ _ _ _ us hl => match us, hl with | [_, _], _ => rfl)
  have c_favoursK : CallK P w K mg base "favours" _ _ 0 ["other", "one"] [1, 0] := ⟨_, _, _, (ok_favours (P := P) (w := w) (base := base) m_c_favours.d.fx B  n_any c_check_divisors c_check_same_seats c_numbers_for c_quotient_at c_is_below), m_c_favours.m, m_c_favours.k, m_c_favours.d.kb fun _ _ _ _ _ _ us ws h1 h2 => match us, h1, ws, h2 with | [], _, [_, _], _ => rfl⟩
  have c_law_purse := m_c_law_purse.call (ok_begun (P := P) (w := w) (base := base) m_c_law_purse.d.fx B) (fun _ _ _ _ _ _ us hl => match us, hl with | [_, _], _ => rfl)
  have c_law_draw := m_c_law_draw.call (ok_cast (P := P) (w := w) (base := base) m_c_law_draw.d.fx B) (fun _ _ _ _ _ _ us hl => match us, hl with | [_, _], _ => rfl)
  have c_law_pick := m_c_law_pick.call (ok_any_of (P := P) (w := w) (base := base) m_c_law_pick.d.fx B c_law_draw) (fun _ _ _ _ _ _ us hl => match us, hl with | [_, _], _ => rfl)
  have c_law_row := m_c_law_row.call (ok_row (P := P) (w := w) (base := base) m_c_law_row.d.fx B c_law_draw c_law_pick) (fun _ _ _ _ _ _ us hl => match us, hl with | [_, _], _ => rfl)
  have c_law_caught : CgtC P w K mg base "_law_caught" 8 [.ref C_BadValue, .ref C_BadName, .ref C_NoAnswer] (S_caught K C_NotANight C_InvalidTable C_InvalidBloc C_InvalidNumber C_InvalidDivisors C_OtherSeats C_BadValue C_BadName C_NoAnswer) := ok_caught (P := P) (w := w) (base := base) m_c_law_caught.d.fx B SY m_c_law_caught.m m_c_law_caught.k (m_c_law_caught.d.binds (fun _ _ _ _ _ _ us hl => match us, hl with | [_], _ => rfl)) c_BadValue c_BadName c_NoAnswer c_NotANight c_InvalidTable c_InvalidBloc c_InvalidNumber c_InvalidDivisors c_OtherSeats
  have c_law_first := m_c_law_first.call (ok_first (P := P) (w := w) (base := base) m_c_law_first.d.fx B) (fun _ _ _ _ _ _ us hl => match us, hl with | [_], _ => rfl)
  have c_law_are_divisors := m_c_law_are_divisors.call (ok_are_divisors (P := P) (w := w) (base := base) m_c_law_are_divisors.d.fx B  n_sorted  n_set) (fun _ _ _ _ _ _ us hl => match us, hl with | [_], _ => rfl)
  have c_law_some := m_c_law_some.call (ok_some (P := P) (w := w) (base := base) m_c_law_some.d.fx B c_law_row c_law_pick) (fun _ _ _ _ _ _ us hl => match us, hl with | [_], _ => rfl)
  have Z_InvalidNumber : KindC K C_NotANight C_InvalidTable C_InvalidBloc C_InvalidNumber C_InvalidDivisors C_OtherSeats C_BadValue C_BadName C_NoAnswer C_InvalidNumber 3 := ⟨h_InvalidNumber, e_InvalidNumber_no, kt_InvalidNumber_NotANight, kt_InvalidNumber_InvalidTable, kt_InvalidNumber_InvalidBloc, kt_InvalidNumber_InvalidNumber, kt_InvalidNumber_InvalidDivisors, kt_InvalidNumber_OtherSeats, kt_InvalidNumber_BadValue, kt_InvalidNumber_BadName, kt_InvalidNumber_NoAnswer⟩
  have Z_InvalidDivisors : KindC K C_NotANight C_InvalidTable C_InvalidBloc C_InvalidNumber C_InvalidDivisors C_OtherSeats C_BadValue C_BadName C_NoAnswer C_InvalidDivisors 4 := ⟨h_InvalidDivisors, e_InvalidDivisors_no, kt_InvalidDivisors_NotANight, kt_InvalidDivisors_InvalidTable, kt_InvalidDivisors_InvalidBloc, kt_InvalidDivisors_InvalidNumber, kt_InvalidDivisors_InvalidDivisors, kt_InvalidDivisors_OtherSeats, kt_InvalidDivisors_BadValue, kt_InvalidDivisors_BadName, kt_InvalidDivisors_NoAnswer⟩
  have Z_OtherSeats : KindC K C_NotANight C_InvalidTable C_InvalidBloc C_InvalidNumber C_InvalidDivisors C_OtherSeats C_BadValue C_BadName C_NoAnswer C_OtherSeats 5 := ⟨h_OtherSeats, e_OtherSeats_no, kt_OtherSeats_NotANight, kt_OtherSeats_InvalidTable, kt_OtherSeats_InvalidBloc, kt_OtherSeats_InvalidNumber, kt_OtherSeats_InvalidDivisors, kt_OtherSeats_OtherSeats, kt_OtherSeats_BadValue, kt_OtherSeats_BadName, kt_OtherSeats_NoAnswer⟩
  have c_law_right : CallT P w K mg base (Tabl.T [("_law_right", cc_c_law_right, Pt_c_law_right)]) "_law_right" _ _ := ⟨_, _, _, (ok_right (P := P) (w := w) (base := base) m_c_law_right.d.fx B  SY  k_c_law_right  hT_c_law_right  hu_c_law_right  TB_c_law_right c_law_some c_law_draw c_law_pick c_law_are_divisors c_law_first c_parting_pairs c_parting_counts c_favours  c_are_alikeK  c_parting_pairsK  c_favoursK c_law_caught  Z_InvalidNumber  Z_InvalidDivisors  Z_OtherSeats  xm_InvalidNumber  xm_InvalidDivisors  xm_OtherSeats), m_c_law_right.m, m_c_law_right.k, m_c_law_right.d.binds (fun _ _ _ _ _ _ us hl => match us, hl with | [_], _ => rfl)⟩
  exact ok_law m_c_law.d.fx B c_law_right c_law_purse
end
end DL
open PySem PySem.W PyProof.Rows
set_option maxRecDepth 100000 in
set_option maxHeartbeats 0 in
theorem PySem.Challenge.cw_restballots_k36_errors_of_rules_holds : PySem.Challenge.rw_restballots_k36_errors_of_rules.Holds := by
  w_on; o_law; k_head; (case hw => w_witness2)
  k_fill
  refine DL.walk_GT (l := PySem.Challenge.rw_restballots_k36_errors_of_rules) (k := 12) (S := DL.S_law) "_law_script" ["_law_right"] rfl rfl ⟨⟨rfl, by decide, by decide⟩, rfl⟩ (by decide +kernel) (by decide +kernel) (fun w h Y => by first | exact PySem.W.kIn_of Y | exact PySem.W.km_in_of Y) ?F ?S
  case S => exact fun ns Φ Ψ h1 h2 h3 => ⟨ns, rfl, h1, h2, h3⟩
  case F =>
    intro w mg fa h KX G hmg
    refine' DL.all_k36 KX G hmg ?z_e_BadValue_a ?z_e_BadName_a ?z_e_NoAnswer_a ?z_e_NotANight_a ?z_e_InvalidTable_a ?z_e_InvalidBloc_a ?z_e_InvalidDivisors_a ?z_e_InvalidDivisors_L ?z_e_InvalidDivisors_sa ?z_e_InvalidDivisors_ex ?z_e_InvalidDivisors_ty ?z_e_InvalidDivisors_kC ?z_e_InvalidDivisors_no ?z_e_InvalidDivisors_i ?z_e_InvalidDivisors_it ?z_e_InvalidDivisors_l ?z_e_InvalidDivisors_c ?z_e_InvalidDivisors_k ?z_e_InvalidNumber_a ?z_e_InvalidNumber_L ?z_e_InvalidNumber_sa ?z_e_InvalidNumber_ex ?z_e_InvalidNumber_ty ?z_e_InvalidNumber_kC ?z_e_InvalidNumber_no ?z_e_InvalidNumber_i ?z_e_InvalidNumber_it ?z_e_InvalidNumber_l ?z_e_InvalidNumber_c ?z_e_InvalidNumber_k ?z_e_OtherSeats_a ?z_e_OtherSeats_L ?z_e_OtherSeats_sa ?z_e_OtherSeats_ex ?z_e_OtherSeats_ty ?z_e_OtherSeats_kC ?z_e_OtherSeats_no ?z_e_OtherSeats_i ?z_e_OtherSeats_it ?z_e_OtherSeats_l ?z_e_OtherSeats_c ?z_e_OtherSeats_k ?z_h_InvalidNumber_c ?z_h_InvalidNumber_c2 ?z_h_InvalidNumber_ga ?z_h_InvalidNumber_gg ?z_h_InvalidNumber_cl ?z_h_InvalidNumber_mr ?z_h_InvalidDivisors_c ?z_h_InvalidDivisors_c2 ?z_h_InvalidDivisors_ga ?z_h_InvalidDivisors_gg ?z_h_InvalidDivisors_cl ?z_h_InvalidDivisors_mr ?z_h_OtherSeats_c ?z_h_OtherSeats_c2 ?z_h_OtherSeats_ga ?z_h_OtherSeats_gg ?z_h_OtherSeats_cl ?z_h_OtherSeats_mr ?z_h_sp ?z_h_tk ?z_kt_InvalidNumber_NotANight ?z_kt_InvalidNumber_InvalidTable ?z_kt_InvalidNumber_InvalidBloc ?z_kt_InvalidNumber_InvalidNumber ?z_kt_InvalidNumber_InvalidDivisors ?z_kt_InvalidNumber_OtherSeats ?z_kt_InvalidNumber_BadValue ?z_kt_InvalidNumber_BadName ?z_kt_InvalidNumber_NoAnswer ?z_xm_InvalidNumber ?z_kt_InvalidDivisors_NotANight ?z_kt_InvalidDivisors_InvalidTable ?z_kt_InvalidDivisors_InvalidBloc ?z_kt_InvalidDivisors_InvalidNumber ?z_kt_InvalidDivisors_InvalidDivisors ?z_kt_InvalidDivisors_OtherSeats ?z_kt_InvalidDivisors_BadValue ?z_kt_InvalidDivisors_BadName ?z_kt_InvalidDivisors_NoAnswer ?z_xm_InvalidDivisors ?z_kt_OtherSeats_NotANight ?z_kt_OtherSeats_InvalidTable ?z_kt_OtherSeats_InvalidBloc ?z_kt_OtherSeats_InvalidNumber ?z_kt_OtherSeats_InvalidDivisors ?z_kt_OtherSeats_OtherSeats ?z_kt_OtherSeats_BadValue ?z_kt_OtherSeats_BadName ?z_kt_OtherSeats_NoAnswer ?z_xm_OtherSeats ?z_b_len ?z_b_isinstance ?z_b_int ?z_b_bool ?z_b_str ?z_b_tuple ?z_b_list ?z_b_all ?z_b_sum ?z_b_min ?z_b_max ?z_b_abs ?z_b_range ?z_b_enumerate ?z_b_zip ?z_b_repr ?z_b_divmod ?z_b_sorted ?z_b_set ?z_b_any ?z_g_MOST_SEATS ?z_g_MOST_DIVISOR ?z_g_MOST_PARTIES ?z_tb_c_law_right ?z_to_c_law_right ?z_c_is_integer_a ?z_c_is_integer_l ?z_c_is_integer_c ?z_c_is_integer_k ?z_c_is_between_a ?z_c_is_between_l ?z_c_is_between_c ?z_c_is_between_k ?z_c_is_divisors_a ?z_c_is_divisors_l ?z_c_is_divisors_c ?z_c_is_divisors_k ?z_c_check_divisors_a ?z_c_check_divisors_l ?z_c_check_divisors_c ?z_c_check_divisors_k ?z_c_check_same_seats_a ?z_c_check_same_seats_l ?z_c_check_same_seats_c ?z_c_check_same_seats_k ?z_c_check_rules_a ?z_c_check_rules_l ?z_c_check_rules_c ?z_c_check_rules_k ?z_c_is_below_a ?z_c_is_below_l ?z_c_is_below_c ?z_c_is_below_k ?z_c_numbers_for_a ?z_c_numbers_for_l ?z_c_numbers_for_c ?z_c_numbers_for_k ?z_c_quotient_at_a ?z_c_quotient_at_l ?z_c_quotient_at_c ?z_c_quotient_at_k ?z_c_parting_pairs_a ?z_c_parting_pairs_l ?z_c_parting_pairs_c ?z_c_parting_pairs_k ?z_c_are_alike_a ?z_c_are_alike_l ?z_c_are_alike_c ?z_c_are_alike_k ?z_c_parting_counts_a ?z_c_parting_counts_l ?z_c_parting_counts_c ?z_c_parting_counts_k ?z_c_favours_a ?z_c_favours_l ?z_c_favours_c ?z_c_favours_k ?z_c_law_purse_a ?z_c_law_purse_l ?z_c_law_purse_c ?z_c_law_purse_k ?z_c_law_draw_a ?z_c_law_draw_l ?z_c_law_draw_c ?z_c_law_draw_k ?z_c_law_pick_a ?z_c_law_pick_l ?z_c_law_pick_c ?z_c_law_pick_k ?z_c_law_row_a ?z_c_law_row_l ?z_c_law_row_c ?z_c_law_row_k ?z_c_law_caught_a ?z_c_law_caught_l ?z_c_law_caught_c ?z_c_law_caught_k ?z_c_law_first_a ?z_c_law_first_l ?z_c_law_first_c ?z_c_law_first_k ?z_c_law_are_divisors_a ?z_c_law_are_divisors_l ?z_c_law_are_divisors_c ?z_c_law_are_divisors_k ?z_c_law_some_a ?z_c_law_some_l ?z_c_law_some_c ?z_c_law_some_k ?z_c_law_right_a ?z_c_law_right_l ?z_c_law_right_c ?z_c_law_right_k ?z_c_law_a ?z_c_law_l ?z_c_law_c ?z_c_law_k
    (case z_e_BadValue_a => k_is)
    (case z_e_BadName_a => k_is)
    (case z_e_NoAnswer_a => k_is)
    (case z_e_NotANight_a => k_is)
    (case z_e_InvalidTable_a => k_is)
    (case z_e_InvalidBloc_a => k_is)
    (case z_e_InvalidDivisors_a => k_is)
    (case z_e_InvalidDivisors_L => k_is)
    (case z_e_InvalidDivisors_sa => k_is)
    (case z_e_InvalidDivisors_ex => k_is)
    (case z_e_InvalidDivisors_ty => k_is)
    (case z_e_InvalidDivisors_kC => k_is)
    (case z_e_InvalidDivisors_no => k_is)
    (case z_e_InvalidDivisors_i => k_is)
    (case z_e_InvalidDivisors_it => k_is)
    (case z_e_InvalidDivisors_l => k_is)
    (case z_e_InvalidDivisors_c => k_is)
    (case z_e_InvalidDivisors_k => k_is)
    (case z_e_InvalidNumber_a => k_is)
    (case z_e_InvalidNumber_L => k_is)
    (case z_e_InvalidNumber_sa => k_is)
    (case z_e_InvalidNumber_ex => k_is)
    (case z_e_InvalidNumber_ty => k_is)
    (case z_e_InvalidNumber_kC => k_is)
    (case z_e_InvalidNumber_no => k_is)
    (case z_e_InvalidNumber_i => k_is)
    (case z_e_InvalidNumber_it => k_is)
    (case z_e_InvalidNumber_l => k_is)
    (case z_e_InvalidNumber_c => k_is)
    (case z_e_InvalidNumber_k => k_is)
    (case z_e_OtherSeats_a => k_is)
    (case z_e_OtherSeats_L => k_is)
    (case z_e_OtherSeats_sa => k_is)
    (case z_e_OtherSeats_ex => k_is)
    (case z_e_OtherSeats_ty => k_is)
    (case z_e_OtherSeats_kC => k_is)
    (case z_e_OtherSeats_no => k_is)
    (case z_e_OtherSeats_i => k_is)
    (case z_e_OtherSeats_it => k_is)
    (case z_e_OtherSeats_l => k_is)
    (case z_e_OtherSeats_c => k_is)
    (case z_e_OtherSeats_k => k_is)
    (case z_h_InvalidNumber_c => k_is)
    (case z_h_InvalidNumber_c2 => k_is)
    (case z_h_InvalidNumber_ga => k_is)
    (case z_h_InvalidNumber_gg => k_is)
    (case z_h_InvalidNumber_cl => k_is)
    (case z_h_InvalidNumber_mr => k_is)
    (case z_h_InvalidDivisors_c => k_is)
    (case z_h_InvalidDivisors_c2 => k_is)
    (case z_h_InvalidDivisors_ga => k_is)
    (case z_h_InvalidDivisors_gg => k_is)
    (case z_h_InvalidDivisors_cl => k_is)
    (case z_h_InvalidDivisors_mr => k_is)
    (case z_h_OtherSeats_c => k_is)
    (case z_h_OtherSeats_c2 => k_is)
    (case z_h_OtherSeats_ga => k_is)
    (case z_h_OtherSeats_gg => k_is)
    (case z_h_OtherSeats_cl => k_is)
    (case z_h_OtherSeats_mr => k_is)
    (case z_h_sp => k_is)
    (case z_h_tk => k_is)
    (case z_kt_InvalidNumber_NotANight => first | kit_is | kts_exm)
    (case z_kt_InvalidNumber_InvalidTable => first | kit_is | kts_exm)
    (case z_kt_InvalidNumber_InvalidBloc => first | kit_is | kts_exm)
    (case z_kt_InvalidNumber_InvalidNumber => first | kit_is | kts_exm)
    (case z_kt_InvalidNumber_InvalidDivisors => first | kit_is | kts_exm)
    (case z_kt_InvalidNumber_OtherSeats => first | kit_is | kts_exm)
    (case z_kt_InvalidNumber_BadValue => first | kit_is | kts_exm)
    (case z_kt_InvalidNumber_BadName => first | kit_is | kts_exm)
    (case z_kt_InvalidNumber_NoAnswer => first | kit_is | kts_exm)
    (case z_xm_InvalidNumber => first | kit_is | kts_exm)
    (case z_kt_InvalidDivisors_NotANight => first | kit_is | kts_exm)
    (case z_kt_InvalidDivisors_InvalidTable => first | kit_is | kts_exm)
    (case z_kt_InvalidDivisors_InvalidBloc => first | kit_is | kts_exm)
    (case z_kt_InvalidDivisors_InvalidNumber => first | kit_is | kts_exm)
    (case z_kt_InvalidDivisors_InvalidDivisors => first | kit_is | kts_exm)
    (case z_kt_InvalidDivisors_OtherSeats => first | kit_is | kts_exm)
    (case z_kt_InvalidDivisors_BadValue => first | kit_is | kts_exm)
    (case z_kt_InvalidDivisors_BadName => first | kit_is | kts_exm)
    (case z_kt_InvalidDivisors_NoAnswer => first | kit_is | kts_exm)
    (case z_xm_InvalidDivisors => first | kit_is | kts_exm)
    (case z_kt_OtherSeats_NotANight => first | kit_is | kts_exm)
    (case z_kt_OtherSeats_InvalidTable => first | kit_is | kts_exm)
    (case z_kt_OtherSeats_InvalidBloc => first | kit_is | kts_exm)
    (case z_kt_OtherSeats_InvalidNumber => first | kit_is | kts_exm)
    (case z_kt_OtherSeats_InvalidDivisors => first | kit_is | kts_exm)
    (case z_kt_OtherSeats_OtherSeats => first | kit_is | kts_exm)
    (case z_kt_OtherSeats_BadValue => first | kit_is | kts_exm)
    (case z_kt_OtherSeats_BadName => first | kit_is | kts_exm)
    (case z_kt_OtherSeats_NoAnswer => first | kit_is | kts_exm)
    (case z_xm_OtherSeats => first | kit_is | kts_exm)
    (case z_b_len => k_is)
    (case z_b_isinstance => k_is)
    (case z_b_int => k_is)
    (case z_b_bool => k_is)
    (case z_b_str => k_is)
    (case z_b_tuple => k_is)
    (case z_b_list => k_is)
    (case z_b_all => k_is)
    (case z_b_sum => k_is)
    (case z_b_min => k_is)
    (case z_b_max => k_is)
    (case z_b_abs => k_is)
    (case z_b_range => k_is)
    (case z_b_enumerate => k_is)
    (case z_b_zip => k_is)
    (case z_b_repr => k_is)
    (case z_b_divmod => k_is)
    (case z_b_sorted => k_is)
    (case z_b_set => k_is)
    (case z_b_any => k_is)
    (case z_g_MOST_SEATS => k_is)
    (case z_g_MOST_DIVISOR => k_is)
    (case z_g_MOST_PARTIES => k_is)
    (case z_tb_c_law_right => first | k_is | rfl)
    (case z_to_c_law_right => first | k_is | rfl)
    (case z_c_is_integer_a => k_is)
    (case z_c_is_integer_l => k_is)
    (case z_c_is_integer_c => k_is)
    (case z_c_is_integer_k => k_is)
    (case z_c_is_between_a => k_is)
    (case z_c_is_between_l => k_is)
    (case z_c_is_between_c => k_is)
    (case z_c_is_between_k => k_is)
    (case z_c_is_divisors_a => k_is)
    (case z_c_is_divisors_l => k_is)
    (case z_c_is_divisors_c => k_is)
    (case z_c_is_divisors_k => k_is)
    (case z_c_check_divisors_a => k_is)
    (case z_c_check_divisors_l => k_is)
    (case z_c_check_divisors_c => k_is)
    (case z_c_check_divisors_k => k_is)
    (case z_c_check_same_seats_a => k_is)
    (case z_c_check_same_seats_l => k_is)
    (case z_c_check_same_seats_c => k_is)
    (case z_c_check_same_seats_k => k_is)
    (case z_c_check_rules_a => k_is)
    (case z_c_check_rules_l => k_is)
    (case z_c_check_rules_c => k_is)
    (case z_c_check_rules_k => k_is)
    (case z_c_is_below_a => k_is)
    (case z_c_is_below_l => k_is)
    (case z_c_is_below_c => k_is)
    (case z_c_is_below_k => k_is)
    (case z_c_numbers_for_a => k_is)
    (case z_c_numbers_for_l => k_is)
    (case z_c_numbers_for_c => k_is)
    (case z_c_numbers_for_k => k_is)
    (case z_c_quotient_at_a => k_is)
    (case z_c_quotient_at_l => k_is)
    (case z_c_quotient_at_c => k_is)
    (case z_c_quotient_at_k => k_is)
    (case z_c_parting_pairs_a => k_is)
    (case z_c_parting_pairs_l => k_is)
    (case z_c_parting_pairs_c => k_is)
    (case z_c_parting_pairs_k => k_is)
    (case z_c_are_alike_a => k_is)
    (case z_c_are_alike_l => k_is)
    (case z_c_are_alike_c => k_is)
    (case z_c_are_alike_k => k_is)
    (case z_c_parting_counts_a => k_is)
    (case z_c_parting_counts_l => k_is)
    (case z_c_parting_counts_c => k_is)
    (case z_c_parting_counts_k => k_is)
    (case z_c_favours_a => k_is)
    (case z_c_favours_l => k_is)
    (case z_c_favours_c => k_is)
    (case z_c_favours_k => k_is)
    (case z_c_law_purse_a => k_is)
    (case z_c_law_purse_l => k_is)
    (case z_c_law_purse_c => k_is)
    (case z_c_law_purse_k => k_is)
    (case z_c_law_draw_a => k_is)
    (case z_c_law_draw_l => k_is)
    (case z_c_law_draw_c => k_is)
    (case z_c_law_draw_k => k_is)
    (case z_c_law_pick_a => k_is)
    (case z_c_law_pick_l => k_is)
    (case z_c_law_pick_c => k_is)
    (case z_c_law_pick_k => k_is)
    (case z_c_law_row_a => k_is)
    (case z_c_law_row_l => k_is)
    (case z_c_law_row_c => k_is)
    (case z_c_law_row_k => k_is)
    (case z_c_law_caught_a => k_is)
    (case z_c_law_caught_l => k_is)
    (case z_c_law_caught_c => k_is)
    (case z_c_law_caught_k => k_is)
    (case z_c_law_first_a => k_is)
    (case z_c_law_first_l => k_is)
    (case z_c_law_first_c => k_is)
    (case z_c_law_first_k => k_is)
    (case z_c_law_are_divisors_a => k_is)
    (case z_c_law_are_divisors_l => k_is)
    (case z_c_law_are_divisors_c => k_is)
    (case z_c_law_are_divisors_k => k_is)
    (case z_c_law_some_a => k_is)
    (case z_c_law_some_l => k_is)
    (case z_c_law_some_c => k_is)
    (case z_c_law_some_k => k_is)
    (case z_c_law_right_a => k_is)
    (case z_c_law_right_l => k_is)
    (case z_c_law_right_c => k_is)
    (case z_c_law_right_k => k_is)
    (case z_c_law_a => k_is)
    (case z_c_law_l => k_is)
    (case z_c_law_c => k_is)
    (case z_c_law_k => k_is)
