import PyProof.Rows.All
import Wide.All
import OpenK.AllK
import Wide.FinOn
import HandS.ForMost
import HandS.ForExc
import HandS.Walk
import HandS.Zip
import HandS.TupAny
import HandS.IsInst
import HandS.Defaults
import HandS.MakeKw
import HandS.Property
import HandS.FStr
import HandS.Wide
import HandS.WideBits
import HandS.EndBits
import HandS.StrMore
import HandS.TryOnly
import HandS.ClsMeth
import HandS.RaiseMore
import KE.KCallOwn
import PyProof.Draws
import PyProof.ReprReads
import PyProof.ReprRoads
import PyProof.ReprLen
import HandS.Lambda
import KE.KDictKeyed
import KE.KeyNested
import HandS.ExcInit
import HandS.HotCalls
import KE.KExcIs
import HandS.ExcField
import KE.KTryMore
import HandS.SetFor
import PyProof.FactsAll.tuple_1
import PyProof.FactsAll.list_1
import PyProof.FactsAll.dict_1
import PyProof.FactsAll.str_1
import PyProof.FactsAll.int_1
import PyProof.FactsAll.bool_1
import PyProof.FactsAll.NoneType_1
import PyProof.InstEq
import HandS.OwnEq
import HandS.Dict
import HandS.Style
import HandS.ExcCtx
import HandS.ExcInitHot
import HandS.RaiseFrom
import HandS.SuiteRaise
import HandS.EndTab
import KE.KNest
import PyProof.NeKinds
import PyProof.FactsAll.tuple_2
import KE.KEqNest
import HandS.Conv
import PyProof.FactsAll.list_2
import HandS.Strs
import HandS.TupMul
import HandS.Gcd
import HandS.SortKw
import HandS.Deep
import HandS.List
import HandS.TupSets
import HandS.DictComp
import PyProof.DictRoadsH
import KE.GoesZip
import PyProof.Rows.SortShellK
import HandS.Flow
import PySem.Challenge.RW_restballots_k13_tables_refused
set_option Elab.async false
set_option linter.all false
set_option maxRecDepth 100000
set_option maxHeartbeats 4000000
/-! DL0: what the layer lacks: enumerate of a tuple, a walk over whatever it is, repr of data. -/
namespace DL
open PySem PySem.Spec L2
open PyProof.Rows hiding St
section
variable {prog : Program} {w : World} {A : Around} {E : Value → Shared → Prop} {s : Shared}
theorem drawsT (hh : A.handled = none) {cur home : Addr} (apart : home ≠ cur) (its : Array Value) :
    Draws prog w A cur [cur, home] its.size (fun k u => its[k]? = some u) (fun k hp => hp.IsTupleIter cur home k ∧ hp.IsTuple home its) where
  live := fun _ _ q => let ⟨ob, e, _⟩ := q.1; ⟨ob, e⟩
  frame := fun _ _ _ q keep => ⟨q.1.at fun ob e => keep cur (by simp) ob e, q.2.at fun ob e => keep home (by simp) ob e⟩
  item := fun k s Q E lt q fin => by
    refine RZ.nextOf_tuple_item q.1 q.2 (x := its[k]) (by simp [lt]) fun hp2 c2 same => ?_
    exact fin _ hp2 s.toks (by simp [lt]) ⟨c2, q.2.extBut same.extBut apart⟩ same
  done := fun s Q E q fin => RZ.nextOf_tuple_end hh q.1 q.2 (by simp) fin
theorem meetsT (home : Addr) (its : Array Value) (n : Nat) (dd : Option Addr) (sl : Array (Option Value)) :
    Meets (Builtin.«enumerate.__new__» ⟨[.type "enumerate", .ref home], []⟩) (fun _ R s => s.heap.get? home = some { cls := .type "tuple", dict := dd, data := .seq its n, slots := sl } ∧
      R (.ok (.ret (.ref (s.heap.push { cls := .type "tuple_iterator", data := .fields #[.ref home, .int 0 0] }).objs.size)))
        { s with heap := (s.heap.push { cls := .type "tuple_iterator", data := .fields #[.ref home, .int 0 0] }).push { cls := .type "enumerate", data := .fields #[.none, .bool false, .ref s.heap.objs.size, rawInt 0, .none, .none] } }) :=
  .of_wp fun prog w A R s at_home => by
    obtain ⟨hp, gs, dr, tk, os⟩ := s; obtain ⟨at_home, fin⟩ := at_home
    have sub := sub_enumerate
    have isT : Heap.IsTuple (Shared.heap ⟨hp, gs, dr, tk, os⟩) home its := ⟨_, at_home, rfl, n, rfl⟩
    wp_walk using AutoSeq1.wpAny_loadPart' at_home
    refine wpAny_stack_any fun st => wpAny_pure ?_
    split
    · rename_i c _ _ _ _ _
      cases (c == Value.type "enumerate")
      · wp_walk using AutoSeq1.wpAny_loadPart' at_home, wpAny_pyIter_tuple isT
        exact ⟨_, rfl, fin⟩
      · wp_walk using AutoSeq1.wpAny_loadPart' at_home, wpAny_pyIter_tuple isT
        exact ⟨_, rfl, fin⟩
    · wp_walk using AutoSeq1.wpAny_loadPart' at_home, wpAny_pyIter_tuple isT
      exact ⟨_, rfl, fin⟩
theorem call_enumT {home : Addr} {its : Array Value} {Q : Value → Shared → Prop} (isT : s.heap.IsTuple home its)
    (fin : ∀ hp2, IsEnum hp2 (s.heap.objs.size + 1) s.heap.objs.size 0 .none → hp2.IsTupleIter s.heap.objs.size home 0 → hp2.objs.size = s.heap.objs.size + 2 →
      (∀ b ob, s.heap.get? b = some ob → hp2.get? b = some ob) → Q (.ref (s.heap.objs.size + 1)) { s with heap := hp2 }) :
    wpAny (model prog w) A (call (.type "enumerate") [.ref home]) Q E s := by
  obtain ⟨⟨cl, dd, dt, sl⟩, at_home, hcl, n, hdt⟩ := isT
  have hcl' : cl = .type "tuple" := hcl
  have hdt' : dt = .seq its n := hdt
  subst hcl' hdt'
  refine callType_new F.called_enumerate (by decide) (F.typeCall_enumerate_1 _) (F.newCall_enumerate_1 _) (fun ob => F.args_object_init_2 ob _) F.entry_enumerate_new (meetsT home its n dd sl) ⟨at_home, ?_⟩
  have sz : (s.heap.push { cls := .type "tuple_iterator", data := .fields #[.ref home, .int 0 0] }).objs.size = s.heap.objs.size + 1 := Heap.size_push ..
  show _ ∧ _
  rw [sz]
  have en : IsEnum ((s.heap.push { cls := .type "tuple_iterator", data := .fields #[.ref home, .int 0 0] }).push
      { cls := .type "enumerate", data := .fields #[.none, .bool false, .ref s.heap.objs.size, rawInt 0, .none, .none] }) (s.heap.objs.size + 1) s.heap.objs.size 0 .none := by
    have q := Heap.get?_push_size (s.heap.push { cls := .type "tuple_iterator", data := .fields #[.ref home, .int 0 0] })
      (o := { cls := .type "enumerate", data := .fields #[.none, .bool false, .ref s.heap.objs.size, rawInt 0, .none, .none] }) rfl
    rw [sz] at q; exact q
  refine ⟨⟨_, en, rfl⟩, fin _ en ⟨_, Heap.get?_push_of_some _ (Heap.get?_push_size _ rfl), rfl, rfl⟩ (by rw [Heap.size_push, sz]) fun b ob x => Heap.get?_push_of_some _ (Heap.get?_push_of_some _ x)⟩
end
/-- the items of the tuple at a, numbered -/
def IteT (K : PySem.W.Frag) (a : Addr) : It :=
  ⟨fun k H => ∃ xs x, SqT K H a xs ∧ xs[k]? = some x, fun k H v H' => ∃ T x, v = .ref T ∧ H T = none ∧ H' = upd H T (.tup [.int (k : Nat), x]) ∧ ∀ xs, SqT K H a xs → xs[k]? = some x, fun k H => ∃ xs, SqT K H a xs ∧ xs.length = k⟩
theorem turn_enumT {P : Program} {w : World} {K : PySem.W.Frag} {elts : List Expr} {kk : Nat} {tpos : Pos} (a en cur : Addr) (hac : a ≠ cur) (hae : a ≠ en) :
    Turn P w K (.Tuple elts kk tpos) (IteT K a) [en, cur] en (fun k hp => (∃ old, IsEnum hp en cur ((k : Nat) : Int) old) ∧ hp.IsTupleIter cur a k ∧ en ≠ cur) where
  mem := by simp
  obj := fun k hp st b hb => by
    obtain ⟨⟨old, e1⟩, ⟨ob, e2, _, d2⟩, _⟩ := st
    rcases (show b = en ∨ b = cur by simpa using hb) with z | z
    · subst z; exact ⟨_, e1, fun v q => nomatch q⟩
    · subst z; exact ⟨ob, e2, fun v q => by rw [d2] at q; cases q⟩
  keep := fun k hp hp2 st keep => by
    obtain ⟨⟨old, e1⟩, e2, ne⟩ := st
    exact ⟨⟨old, keep en (by simp) _ e1⟩, e2.at fun ob q => keep cur (by simp) ob q, ne⟩
  item := by
    intro X hP hw hK hc k pins s σ H E I hf st hg
    subst hP hw hK
    obtain ⟨⟨old, e1⟩, e2, ne⟩ := st
    obtain ⟨xs, x, hs, hx⟩ := hg
    obtain ⟨its, rv, tp, _⟩ := I.tuple hs
    obtain ⟨u, hu, ru⟩ := rv.get hx
    have lt1 : en < s.heap.objs.size := Heap.lt_size e1
    have lt2 : cur < s.heap.objs.size := by obtain ⟨_, q, _⟩ := e2; exact Heap.lt_size q
    have hk : k < its.toArray.size := by simpa using (List.getElem?_eq_some_iff.mp hu).1
    refine wpAny_pyNext_enum_itemD (drawsT (A := X.A.in1) (I.ok.hd hc) hac its.toArray) e1 ⟨e2, tp⟩ hk ne (by simp [ne, hae.symm]) fun y hp2 tk hy out st2 hT sz keep => ?_
    have hy' : y = u := by
      have z : its.toArray[k]? = some u := by simpa using hu
      rw [z] at hy
      exact (Option.some.inj hy).symm
    subst hy'
    refine ⟨_, rfl, wpAny_letOwnedTupleGo_enum (s := { s with heap := hp2, toks := tk + 1 }) out fun hp3 e3 same => ?_⟩
    have hT2 : hp3.get? s.heap.objs.size = some { cls := .type "tuple", data := .seq #[.int k tk, y] } := (same.2 _ (Nat.ne_of_gt lt1)).trans hT
    have new : ObjOk X.prog X.w (upd H s.heap.objs.size (.tup [.int (k : Nat), x])) hp3 s.heap.objs.size (.tup [.int (k : Nat), x]) :=
      ⟨(show 2 ≤ sizeLine by decide), [.int k tk, y], .cons ⟨_, rfl⟩ (.cons ru .nil), ⟨_, hT2, rfl, _, rfl⟩⟩
    have J : Inv X pins σ (upd H s.heap.objs.size (.tup [.int (k : Nat), x])) { s with heap := hp3, toks := tk + 1 } :=
      I.turnedNew (ch := [en, cur]) (fun b ob hb q => (same.2 b (fun z => hb (by simp [z]))).trans (keep b ob (fun z => hb (by simp [z])) (fun z => hb (by simp [z])) q)) hf (Nat.le_refl _) new
    refine ⟨.ref s.heap.objs.size, _, J, rfl, ⟨_, x, rfl, I.hok.fresh (Nat.le_refl _), rfl, fun ys hy => by rw [I.tuple_inj hy hs]; exact hx⟩, ⟨⟨y, ?_⟩, st2.1.at fun ob q => (same.2 cur (Ne.symm ne)).trans q, ne⟩, fun b hb => ?_⟩
    · have q : ((k + 1 : Nat) : Int) = (k : Int) + 1 := by omega
      rw [q]; exact e3
    · have lt : b < s.heap.objs.size := by
        rcases (show b = en ∨ b = cur by simpa using hb) with z | z
        · subst z; exact lt1
        · subst z; exact lt2
      rw [upd_ne (Nat.ne_of_lt lt)]
      exact (hf b hb).1
  done := by
    intro X hP hw hK hc k pins s σ H E I hf st hg
    subst hP hw hK
    obtain ⟨⟨old, e1⟩, e2, ne⟩ := st
    obtain ⟨xs, hs, hx⟩ := hg
    obtain ⟨its, rv, tp, _⟩ := I.tuple hs
    obtain ⟨f0, f1, f2, f3, f4, f5⟩ := hf cur (by simp)
    have hl : its.toArray.size = k := by rw [List.size_toArray, ← rv.length]; exact hx
    subst hl
    exact wpAny_pyNext_enum_endD (drawsT (A := X.A.in1) (I.ok.hd hc) hac its.toArray) e1 ⟨e2, tp⟩ fun hp2 eb => ⟨rfl, I.turned (t' := s.toks) (fun b ob hb q => eb b ob hb q) f0 f1 f3 f4 f5⟩
  self := fun A k s Q E st fin => let ⟨⟨_, e1⟩, _⟩ := st; wpAny_pyIter_enum e1 fin
section
variable {X : Cx} {tg : Expr}
/-- enumerate(tuple) -/
def iEnumT (K : PySem.W.Frag) (ta : TA) : TI := fun σ H R => ta σ H fun vs H1 => ∃ a xs, vs = [.ref a] ∧ SqT K H1 a xs ∧ R (IteT K a) H1
theorem pi_enumT {e : Expr} {ta : TA} {p pos tpos : Pos} {elts : List Expr} {kk : Nat} (hg : Gl X "enumerate") (hm : X.mg "enumerate" = none) (ha : PA X [e] ta) (hs : starEach [e] X.env = [(false, eval e X.env)] := by rfl) :
    PI X (.Tuple elts kk tpos) (.Call (.Name "enumerate" p) [e] [] pos) (iEnumT X.K ta) := by
  refine ⟨fun pins s σ H R I h => Call_ (ld_blt I hg hm PyProof.Rows.boot_enumerate (PyProof.Rows.callWith_type1 (thn (ha.run pos pins s σ H _ I h) fun us s1 ⟨vs, H1, J, rs, q⟩ => ?_) hs rfl))⟩
  obtain ⟨a, xs, ev, hq, q⟩ := q
  subst ev
  cases rs with
  | cons r0 rr =>
    cases rr
    cases r0
    obtain ⟨its, rv, tp, _⟩ := J.tuple hq
    obtain ⟨ob, at_a, _⟩ := id tp
    have lt := Heap.lt_size at_a
    refine call_enumT (show s1.heap.IsTuple a its.toArray from tp) fun hp2 e1 e2 sz keep => wpAny_pyIter_enum e1 ?_
    have J2 : Inv X pins σ H1 { s1 with heap := hp2 } := J.kept (t' := s1.toks) keep
    refine ⟨s1.heap.objs.size + 1, [s1.heap.objs.size + 1, s1.heap.objs.size], _, _, H1, rfl, J2, turn_enumT a (s1.heap.objs.size + 1) s1.heap.objs.size (Nat.ne_of_lt lt) (Nat.ne_of_lt (Nat.lt_succ_of_lt lt)), ⟨⟨.none, e1⟩, e2, Nat.succ_ne_self _⟩, fun b hb => ?_, q⟩
    have le : s1.heap.objs.size ≤ b := by
      rcases (show b = s1.heap.objs.size + 1 ∨ b = s1.heap.objs.size by simpa using hb) with z | z
      · subst z; exact Nat.le_add_right _ _
      · subst z; exact Nat.le_refl _
    exact J.fpOk le (J.hok.fresh le)
/-- a list, a tuple, a text: whatever it is -/
def iAny (K : PySem.W.Frag) (te : TE) : TI := fun σ H R => te σ H fun x H1 => (∃ a, x = .ref a ∧ (∃ xs, SqL K H1 a xs) ∧ R (Itl K a) H1) ∨ (∃ a, x = .ref a ∧ (∃ xs, SqT K H1 a xs) ∧ R (Itt K a) H1) ∨ ∃ z, x = .str z ∧ R (Its z) H1
theorem pi_any {e : Expr} {te : TE} (he : PE X e te) : PI X tg e (iAny X.K te) := by
  refine ⟨fun pins s σ H R I h => thn (he.run pins s σ H _ I h) fun u s1 ⟨x, H1, J, r, q⟩ => ?_⟩
  rcases q with ⟨a, ex, ⟨xs, hq⟩, q⟩ | ⟨a, ex, ⟨xs, hq⟩, q⟩ | ⟨z, ex, q⟩
  · subst ex; cases r
    obtain ⟨its, rv, li, _⟩ := J.list hq
    exact wpAny_pyIter_list li.isList (pi_one (tk := s1.toks) J _ (turn_list a _) ⟨_, Heap.get?_push_size _ rfl, rfl, rfl⟩ q)
  · subst ex; cases r
    obtain ⟨its, rv, tp, _⟩ := J.tuple hq
    exact wpAny_pyIter_tuple (show s1.heap.IsTuple a its.toArray from tp) (pi_one (tk := s1.toks) J _ (turn_tuple a _) ⟨_, Heap.get?_push_size _ rfl, rfl, rfl⟩ q)
  · subst ex
    obtain ⟨t, rfl⟩ := r
    cases ascii : z.cps.all (· < 128)
    · exact wpAny_pyIter_wide ascii (pi_one (tk := s1.toks) J _ (turn_str _ z t "str_iterator" (.inr rfl)) ⟨_, Heap.get?_push_size _ rfl, rfl, rfl⟩ q)
    · exact wpAny_pyIter_ascii ascii (pi_one (tk := s1.toks) J _ (turn_str _ z t "str_ascii_iterator" (.inl rfl)) ⟨_, Heap.get?_push_size _ rfl, rfl, rfl⟩ q)
end
end DL
/-! DLg: defs that know that no repr is under way around them (so that repr of a list tells what is in it). -/
namespace DL
open PySem PySem.Spec L2
open PyProof.Rows hiding St
/-- room for k calls, no repr under way -/
structure RoomG (k : Nat) (A : Around) : Prop where
  r : Room k A
  g : A.guards = some []
theorem RoomG.mono {j k : Nat} {A : Around} (x : RoomG k A) (h : j ≤ k) : RoomG j A := ⟨x.r.mono h, x.g⟩
theorem RoomG.deeper {k : Nat} {A : Around} (x : RoomG (k + 1) A) (env : Env) : RoomG k (A.deeper env) := ⟨x.r.deeper env, x.g⟩
theorem RoomG.in1 {k : Nat} {A : Around} (x : RoomG (k + 1) A) : RoomG k A.in1 := ⟨x.r.in1, x.g⟩
theorem make_guards {A : Around} {C : Addr} {us : List Value} {kw : List (Str × Value)} : (A.under (.builtin "type.__call__" ⟨.ref C :: us, kw⟩)).guards = A.guards := by
  have h : (Code.builtin "type.__call__" ⟨.ref C :: us, kw⟩).isGuard = false := by
    show guardIds.contains "type.__call__" = false
    decide +kernel
  simp only [Around.under, Code.guards, h]
  cases A.guards <;> rfl
theorem RoomG.make {k : Nat} {A : Around} (x : RoomG (k + 1) A) (C : Addr) (us : List Value) (kw : List (Str × Value)) : RoomG k (A.under (.builtin "type.__call__" ⟨.ref C :: us, kw⟩)) :=
  ⟨x.r.make C us kw, make_guards.trans x.g⟩
abbrev CXD (P : Program) (w : World) : CXT := L2.CX P w
structure FnG (P : Program) (w : World) (K : PySem.W.Frag) (mg : Str → Option Value) (base : Heap) (k : Nat) (f : Addr) (fd : FuncData) (ps : List Str) (sp : Sp) : Prop where
  len : ∀ vs H Q E, sp vs H Q E → vs.length = ps.length
  run : ∀ (A : Around) (outer : List Env) (s : Shared) (H : Hp) (args : Args) (us : List Value) (vs : List V) (Q : VK) (E : XK), RoomG k A → Env0 P w K mg base A outer s H → BindsTo s fd args (ps.zip us) → Vals vs us → sp vs H Q E →
    codeAny (model P w) A (.call (.ref f) args) (CR (CXD P w) outer P w H s Q E) s
section
variable {P : Program} {w : World} {K : PySem.W.Frag} {mg : Str → Option Value} {base : Heap} {f : Addr} {fd : FuncData} {ps : List Str} {sp : Sp}
theorem FnG.mono {j k : Nat} (F : FnG P w K mg base j f fd ps sp) (h : j ≤ k) : FnG P w K mg base k f fd ps sp := ⟨F.len, fun A outer s H args us vs Q E hr => F.run A outer s H args us vs Q E (hr.mono h)⟩
theorem FnG.imp {k : Nat} {sp' : Sp} (F : FnG P w K mg base k f fd ps sp) (h : ∀ vs H Q E, sp' vs H Q E → sp vs H Q E) : FnG P w K mg base k f fd ps sp' :=
  ⟨fun vs H Q E q => F.len vs H Q E (h _ _ _ _ q), fun A outer s H args us vs Q E hr he hb hv q => F.run A outer s H args us vs Q E hr he hb hv (h _ _ _ _ q)⟩
/-- a def by its body -/
theorem fnG_of {k : Nat} {name qual : Str} {params : Arguments} {body : List Stmt} {scope : Scope} {dV kV doc pm cdv ct oc : Value} {an od : Option Addr} {osl : Array (Option Value)} {N : List Str}
    (lk : K.lookup f = some ⟨oc, od, .func (PySem.W.fnOf name qual params body scope dV kV doc pm an cdv ct), osl⟩) (hcd : PySem.W.codeIn K cdv qual = true) (S : FnScope N ps scope) (len : ∀ vs H Q E, sp vs H Q E → vs.length = ps.length)
    (hbody : ∀ (A : Around) (outer : List Env) (s : Shared) (H : Hp) (vs : List V) (Q : VK) (E : XK), RoomG k (A.deeper (envOfC qual scope s.heap.objs.size f cdv)) → sp vs H Q E →
      ∃ t, PSs (cxOf (CXD P w) P w K mg base N qual scope f cdv A outer s H E) body t ∧ t { nx := fun _ H' => Q .non H', rt := Q } (start N vs) H) :
    FnG P w K mg base (k + 1) f (PySem.W.fnOf name qual params body scope dV kV doc pm an cdv ct) ps sp := by
  refine ⟨len, fun A outer s H args us vs Q E room env0 binds rel hs => ?_⟩
  have nvs := len _ _ _ _ hs
  have inK : K.In s.heap := env0.mod.kin.keeps fun b o z => (env0.bs b o z).1
  have noLim : s.heap.NoLimit := env0.mod.nolimit.keeps fun b o z => (env0.bs b o z).1
  have kinds : ∀ y ∈ ps.zip us, scope.names.lookup y.1 = some .local ∨ (scope.names.lookup y.1 = some .cell ∧ ((cellsFrom (s.heap.objs.size + 1) scope.names []).lookup y.1).isSome = true) := fun ⟨n, v⟩ hy =>
    (S.par n (List.of_mem_zip hy).1).imp id fun z => ⟨z, PySem.W.cellsFrom_some _ _ _ (.inl z)⟩
  refine codeAny_call_function room.r.depth (inK _ _ lk) rfl S.co S.gen rfl (PySem.W.codeRec_of inK hcd) (binds _ _ _ _ ?_)
  refine wpAny_newFunctionEnv_cells S.kind kinds fun env ee s1 ic => ?_
  subst ee
  refine ⟨noLim.keeps ic.toInCall.keep, codeAny_func ?_⟩
  obtain ⟨t, ht, hq⟩ := hbody A outer s H vs Q E (room.deeper _) hs
  have I : Inv (cxOf (CXD P w) P w K mg base N qual scope f cdv A outer s H E) [] (start N vs) H s1 := inv_start S room.r.hd env0 nvs rel ic
  refine wpAny_mono (ht.run [] s1 (start N vs) H _ I hq) (fun fl s2 q => ?_) fun e s2 q => q
  cases fl with
  | ret u => obtain ⟨v, σ', H', J, rv, q⟩ := q; exact ⟨v, H', J.os, J.bare, J.base, J.hok, rv, q⟩
  | next => obtain ⟨σ', H', J, q⟩ := q; exact ⟨V.non, H', J.os, J.bare, J.base, J.hok, rfl, q⟩
  | brk => exact (q.elim fun _ z => z.elim fun _ z => z.2).elim
  | cont => exact (q.elim fun _ z => z.elim fun _ z => z.2).elim
end
section
variable {X : Cx} {k : Nat} {f C : Addr} {fd : FuncData} {ps : List Str} {sp : Sp} {dvs : List V} {ds : List Value} {E : XK} {x m : Str} {p pos apos : Pos} {e o : Expr} {es : List Expr} {ta : TE} {t : TA}
theorem back_of {pins : List (Addr × Obj)} {σ : St} {H : Hp} {s : Shared} {Q : VK} (hx : Passes (CXD X.prog X.w) X E) (I : Inv X pins σ H s) : ∀ r s', CR (CXD X.prog X.w) X.stack X.prog X.w H s Q E r s' →
    (match r with | .ok (.ret v) => EP X pins σ Q v s' | .ok _ => False | .error er => X.xe er s') := fun r s' z => by
  cases r with
  | error er => exact hx pins σ H s er s' I z
  | ok fl =>
    cases fl with
    | ret u => exact I.after z
    | next => exact z
    | brk => exact z
    | cont => exact z
theorem run_fnG {pins : List (Addr × Obj)} {σ : St} {H : Hp} {s : Shared} {Q : VK} {us : List Value} {vs : List V} (F : FnG X.prog X.w X.K X.mg X.base k f fd ps sp) (room : RoomG k X.A) (hb : Binds X.K fd ps ds) (hd : Vals dvs ds) (hx : Passes (CXD X.prog X.w) X E)
    (I : Inv X pins σ H s) (r : Vals vs us) (q : sp (vs ++ dvs) H Q E) : wpAny (model X.prog X.w) X.A (call (.ref f) us) (EP X pins σ Q) X.xe s := by
  have r2 := r.append hd
  have n2 : (us ++ ds).length = ps.length := r2.length.symm.trans (F.len _ _ _ _ q)
  refine wpAny_call (codeAny_mono (F.run X.A X.stack s H ⟨us, []⟩ (us ++ ds) (vs ++ dvs) Q E room I.env0 (hb s us I.kIn n2) r2 q) fun r s' z => ?_)
  have y := back_of hx I r s' z
  cases r with
  | error er => exact y
  | ok fl => cases fl <;> exact y
theorem pe_callG (F : FnG X.prog X.w X.K X.mg X.base k f fd ps sp) (room : RoomG k X.A) (hg : Gl X x) (hm : X.mg x = some (.ref f)) (hk : PySem.W.keepIn X.K (.ref f) = true) (hb : Binds X.K fd ps ds) (hd : Vals dvs ds) (hx : Passes (CXD X.prog X.w) X E)
    (ha : PA X (e :: es) t) (hdb : (x == ("__debug__" : Str)) = false := by decide) (he : starEach (e :: es) X.env = (false, eval e X.env) :: starEach es X.env := by rfl) (hpl : (backTo pos (starEach es X.env)).any (·.1) = false := by rfl) :
    PE X (.Call (.Name x p) (e :: es) [] pos) (tCall sp dvs E t) :=
  ⟨fun pins s σ H Q I h => wpAny_Call_Name_kw (ld_glob I hg hm (PySem.W.callWith_K (h₀ := X.base) I.ok.mod.kin hk (thn (ha.run pos pins s σ H _ I h) fun us s1 ⟨vs, H1, J, r, q⟩ => ⟨J.kIn, run_fnG F room hb hd hx J r q⟩) he hpl) hdb)⟩
/-- C(..), C(.., k = v): the values as they stand in the call, then the keywords' -/
theorem run_makeG {pins : List (Addr × Obj)} {σ : St} {H : Hp} {s : Shared} {Q : VK} {us zs : List Value} {kw : List (Str × Value)} {vs : List V} (M : Mk X.K C f) (F : FnG X.prog X.w X.K X.mg X.base k f fd ps sp) (room : RoomG (k + 1) X.A)
    (hb : ∀ (s : Shared) (u : Value), X.K.In s.heap → BindsTo s fd ⟨u :: us, kw⟩ (ps.zip (u :: zs))) (hx : Passes (CXD X.prog X.w) X E) (I : Inv X pins σ H s) (r : Vals vs zs)
    (q : ∀ x dx, H x = none → H dx = none → dx ≠ x → sp (.ref x :: vs) (upd (upd H dx (.own x)) x (.ins C dx [])) (fun v H2 => v = .non ∧ Q (.ref x) H2) E) :
    wpAny (model X.prog X.w) X.A (call (.ref C) us kw) (EP X pins σ Q) X.xe s := by
  have q1 := q (s.heap.objs.size + 1) s.heap.objs.size (I.hok.fresh (Nat.le_succ _)) (I.hok.fresh (Nat.le_refl _)) (Nat.ne_of_lt (Nat.lt_succ_self _))
  have J := Inv.made (C := C) I
  have r2 : Vals (V.ref (s.heap.objs.size + 1) :: vs) (Value.ref (s.heap.objs.size + 1) :: zs) := .cons rfl r
  refine wpAny_call (make_map (f := f) I.kIn M.makes M.init (beq_iff_eq.mp M.fn) (codeAny_mono (F.run _ X.stack _ _ ⟨Value.ref (s.heap.objs.size + 1) :: us, kw⟩ (Value.ref (s.heap.objs.size + 1) :: zs) _ _ E (room.make C us kw)
    (J.env0.make C us kw) (hb _ _ J.kIn) r2 q1) fun r s' z => ?_))
  have y := back_of hx J r s' z
  cases r with
  | error er => exact y
  | ok fl =>
    cases fl with
    | ret u => obtain ⟨v, H', J2, rv, ev, q3⟩ := y; subst ev; exact ⟨rv, ⟨V.ref (s.heap.objs.size + 1), H', J2, rfl, q3⟩⟩
    | next => exact y
    | brk => exact y
    | cont => exact y
/-- o.f, a property -/
theorem pe_propG {g a : Addr} (he : PE X e ta) (c : Cls X.K C) (hp : PropOf X.K C x a g) (F : FnG X.prog X.w X.K X.mg X.base k g fd ps sp) (room : RoomG (k + 1) X.A) (hb : Binds X.K fd ps ds) (hd : Vals dvs ds) (hx : Passes (CXD X.prog X.w) X.nox E)
    (hab : attributeBase e x X.env (eval e X.env) = eval e X.env) : PE X (.Attribute e x pos) (tProp C sp dvs E ta) := by
  refine ⟨fun pins s σ H Q I h => attr_of hab (thn (he.run pins s σ H _ I h) fun u s1 ⟨y, H1, J, ry, b, dx, fs, ey, eb, q⟩ => ?_)⟩
  subst ey
  obtain rfl : u = Value.ref b := ry
  obtain ⟨mA, O, _, _, _, _⟩ := ins_get J.hok eb
  obtain ⟨od, at_b, _⟩ := O.look
  obtain ⟨rest, isRec⟩ := hp.rec_
  have J1 := J.tok (s1.toks + 1)
  have n2 : ([Value.ref b] ++ ds).length = ps.length := by
    rw [← F.len _ _ _ _ q]
    show ds.length + 1 = dvs.length + 1
    rw [hd.length]
  have isCl : (PySem.W.clsIn X.K C).isSome = true := by
    obtain ⟨cd, z, _⟩ := PySem.W.any_some c.hd
    rw [z]; rfl
  refine PySem.W.get_bind J.kIn at_b (PySem.W.plainGet_of (c.get x)).1 (PySem.W.findObj_data isCl hp.at_ hp.get hp.tak) (PySem.W.plainGet_of (c.get x)).2 (wpAny_call (PySem.W.prop_get (s := { s1 with toks := s1.toks + 1 }) J.kIn isRec ?_))
  refine codeAny_mono (F.run X.A.in1 X.stack { s1 with toks := s1.toks + 1 } H1 ⟨[.ref b], []⟩ (.ref b :: ds) (.ref b :: dvs) Q E room.in1 J1.env0.in1 (hb _ [.ref b] J1.kIn n2) (.cons rfl hd) q) fun r s2 z => ?_
  cases r with
  | error er => exact (hx pins σ H1 { s1 with toks := s1.toks + 1 } er s2 (J1.wish _) z).elim
  | ok fl =>
    cases fl with
    | ret u =>
      obtain ⟨v, H2, J2, rv, q2⟩ := J1.after z
      show wpAny _ _ (handedOut u) _ _ _
      rw [PySem.W.handedOut_of (handed_of rv)]
      exact wpAny_pure ⟨v, H2, J2, rv, q2⟩
    | next => exact z.elim
    | brk => exact z.elim
    | cont => exact z.elim
end
end DL
/-! DL: a program logic over plain data, on top of the abstract heap: values are trees of data; a def's promise speaks of trees alone. -/
namespace DL
open PySem PySem.Spec L2
open PyProof.Rows hiding St
/-- data: what a value is, whatever the addresses -/
inductive D where
  | non
  | bl (b : Bool)
  | int (i : Int)
  | str (x : Str)
  | tup (l : List D)
  | lst (l : List D)
  | dic (l : List (Str × D))
  | ins (C : Addr) (fs : List (Str × D))
  | pail
  | scr (ns : List Int)
  | raw (v : V)
  | exn (a d : Addr) (fs : List (Str × D))
  /-- a dict whose keys are ints -/
  | dik (l : List (Int × D))
  /-- a dict at p whose keys are pairs of an int and a tuple of ints -/
  | kd (P : Program) (w : World) (p : Addr) (l : List ((Int × List Int) × D))
def Ex (H H' : Hp) : Prop := ∀ a o, H a = some o → H' a = some o
theorem Ex.refl (H : Hp) : Ex H H := fun _ _ h => h
theorem Ex.trans {H H1 H2 : Hp} (x : Ex H H1) (y : Ex H1 H2) : Ex H H2 := fun a o h => y a o (x a o h)
theorem Ex.new {H : Hp} {p : Addr} {o : HO} (h : H p = none) : Ex H (upd H p o) := fun a u e => (upd_ne (ne_of_none e h)).trans e
/-- an address that H does not know may hold anything -/
theorem Ex.aside {H H' : Hp} {p : Addr} {o : HO} (x : Ex H H') (h : H p = none) : Ex H (upd H' p o) := fun a u e => (upd_ne (ne_of_none e h)).trans (x a u e)
/-- both learn of it -/
theorem Ex.both {H H' : Hp} {p : Addr} {o : HO} (x : Ex H H') : Ex (upd H p o) (upd H' p o) := fun a u e => by
  by_cases q : a = p
  · subst q; rw [upd_same] at e ⊢; exact e
  · rw [upd_ne q] at e ⊢; exact x a u e
/-- the smaller one learns what the greater one knows -/
theorem Ex.learn {H H' : Hp} {p : Addr} {o : HO} (x : Ex H H') (h : H' p = some o) : Ex (upd H p o) H' := fun a u e => by
  by_cases q : a = p
  · subst q; rw [upd_same] at e; exact h.trans e
  · rw [upd_ne q] at e; exact x a u e
theorem Ex.back {H H' : Hp} {p : Addr} (x : Ex H H') (h : H' p = none) : H p = none := by
  cases q : H p with
  | none => rfl
  | some o => rw [x p o q] at h; cases h
/-- a list that draws numbers: three ints, the first one not below 0, the second one small -/
def PB (i j : Int) : Prop := 0 ≤ i ∧ 0 ≤ j ∧ j < 2147483648
def PailP (a : Addr) : HO := .ext fun h => ∃ (i j k : Int) (t u v : Tok) (n : Nat), PB i j ∧ h.get? a = some { cls := .type "list", data := .seq #[.int i t, .int j u, .int k v] n }
abbrev Ky := Int × List Int
def kyN (k : Ky) : NestedKey := .tup [.num k.1, .tup (k.2.map .num)]
/-- a dict with such keys, as its object alone tells it: each key with the place of its tuple, and the place of its value -/
def KdO (P : Program) (w : World) (d : Addr) (xs : List (Ky × Addr × Addr)) : HO := .ext fun h => (d == sysModules) = false ∧ ∃ o es ep, h.get? d = some o ∧ o.ExactDict ∧ o.data = .dict es ep ∧ es.toList = (xs.map fun x => (kyN x.1, x.2.1, Value.ref x.2.2)).map (entryOfKey (nestedKind P w)) ∧ (xs.map (·.1)).Nodup
/-- the tuple of such a key -/
def KyAt (K : PySem.W.Frag) (H : Hp) (k : Ky) (a : Addr) : Prop := ∃ a2, SqT K H a [V.int k.1, V.ref a2] ∧ SqT K H a2 (k.2.map V.int)
mutual
inductive Rep (K : PySem.W.Frag) (H : Hp) : V → D → Prop
  | non : Rep K H .non .non
  | bl (b : Bool) : Rep K H (.bl b) (.bl b)
  | int (i : Int) : Rep K H (.int i) (.int i)
  | str (x : Str) : Rep K H (.str x) (.str x)
  | tup {a : Addr} {xs : List V} {ds : List D} : SqT K H a xs → RepAll K H xs ds → Rep K H (.ref a) (.tup ds)
  | lst {a : Addr} {xs : List V} {ds : List D} : H a = some (.lst xs) → RepAll K H xs ds → Rep K H (.ref a) (.lst ds)
  | dic {a : Addr} {xs : List (Str × V)} {ds : List (Str × D)} : H a = some (.dK (xs.map fun p => (Sum.inr p.1, p.2))) → RepKV K H xs ds → Rep K H (.ref a) (.dic ds)
  | ins {a C dx : Addr} {xs : List (Str × V)} {ds : List (Str × D)} : H a = some (.ins C dx xs) → RepKV K H xs ds → Rep K H (.ref a) (.ins C ds)
  | pail {a : Addr} : H a = some (PailP a) → Rep K H (.ref a) .pail
  | scr {a : Addr} {ns : List Int} : SqL K H a (ns.map V.int) → Rep K H (.ref a) (.scr ns)
  | raw (v : V) : Rep K H v (.raw v)
  | exn {a d : Addr} {xs : List (Str × V)} {ds : List (Str × D)} : H d = some (.xd xs) → RepKV K H xs ds → Rep K H (.ref a) (.exn a d ds)
  | dik {a : Addr} {xs : List (Int × V)} {ds : List (Int × D)} : H a = some (.dK (xs.map fun p => (Sum.inl p.1, p.2))) → RepIV K H xs ds → Rep K H (.ref a) (.dik ds)
  | kd {P : Program} {w : World} {a p : Addr} {xs : List (Ky × Addr × Addr)} {ds : List (Ky × D)} : H a = some (KdO P w p xs) → RepNV K H xs ds → Rep K H (.ref a) (.kd P w p ds)
inductive RepAll (K : PySem.W.Frag) (H : Hp) : List V → List D → Prop
  | nil : RepAll K H [] []
  | cons {v : V} {vs : List V} {d : D} {ds : List D} : Rep K H v d → RepAll K H vs ds → RepAll K H (v :: vs) (d :: ds)
inductive RepKV (K : PySem.W.Frag) (H : Hp) : List (Str × V) → List (Str × D) → Prop
  | nil : RepKV K H [] []
  | cons {k : Str} {v : V} {vs : List (Str × V)} {d : D} {ds : List (Str × D)} : Rep K H v d → RepKV K H vs ds → RepKV K H ((k, v) :: vs) ((k, d) :: ds)
inductive RepIV (K : PySem.W.Frag) (H : Hp) : List (Int × V) → List (Int × D) → Prop
  | nil : RepIV K H [] []
  | cons {k : Int} {v : V} {vs : List (Int × V)} {d : D} {ds : List (Int × D)} : Rep K H v d → RepIV K H vs ds → RepIV K H ((k, v) :: vs) ((k, d) :: ds)
inductive RepNV (K : PySem.W.Frag) (H : Hp) : List (Ky × Addr × Addr) → List (Ky × D) → Prop
  | nil : RepNV K H [] []
  | cons {k : Ky} {a b : Addr} {vs : List (Ky × Addr × Addr)} {d : D} {ds : List (Ky × D)} : KyAt K H k a → Rep K H (.ref b) d → RepNV K H vs ds → RepNV K H ((k, a, b) :: vs) ((k, d) :: ds)
end
theorem sqL_ex {K : PySem.W.Frag} {H H' : Hp} {a : Addr} {xs : List V} (e : Ex H H') (h : SqL K H a xs) : SqL K H' a xs := by
  rcases h with (h | ⟨o, h⟩) | h
  · exact .inl (.inl (e _ _ h))
  · exact .inl (.inr ⟨o, e _ _ h⟩)
  · exact .inr h
theorem sqT_ex {K : PySem.W.Frag} {H H' : Hp} {a : Addr} {xs : List V} (e : Ex H H') (h : SqT K H a xs) : SqT K H' a xs := by
  rcases h with (h | ⟨o, h⟩) | h
  · exact .inl (.inl (e _ _ h))
  · exact .inl (.inr ⟨o, e _ _ h⟩)
  · exact .inr h
theorem kyAt_ex {K : PySem.W.Frag} {H H' : Hp} {k : Ky} {a : Addr} (e : Ex H H') (h : KyAt K H k a) : KyAt K H' k a := let ⟨a2, h1, h2⟩ := h; ⟨a2, sqT_ex e h1, sqT_ex e h2⟩
section
variable {K : PySem.W.Frag} {H H' : Hp}
mutual
theorem Rep.mono (e : Ex H H') : ∀ {v : V} {d : D}, Rep K H v d → Rep K H' v d
  | _, _, .non => .non
  | _, _, .bl b => .bl b
  | _, _, .int i => .int i
  | _, _, .str x => .str x
  | _, _, .tup h hs => .tup (sqT_ex e h) (RepAll.mono e hs)
  | _, _, .lst h hs => .lst (e _ _ h) (RepAll.mono e hs)
  | _, _, .dic h hs => .dic (e _ _ h) (RepKV.mono e hs)
  | _, _, .ins h hs => .ins (e _ _ h) (RepKV.mono e hs)
  | _, _, .pail h => .pail (e _ _ h)
  | _, _, .scr h => .scr (sqL_ex e h)
  | _, _, .raw v => .raw v
  | _, _, .exn h hs => .exn (e _ _ h) (RepKV.mono e hs)
  | _, _, .dik h hs => .dik (e _ _ h) (RepIV.mono e hs)
  | _, _, .kd h hs => .kd (e _ _ h) (RepNV.mono e hs)
theorem RepAll.mono (e : Ex H H') : ∀ {vs : List V} {ds : List D}, RepAll K H vs ds → RepAll K H' vs ds
  | _, _, .nil => .nil
  | _, _, .cons h hs => .cons (Rep.mono e h) (RepAll.mono e hs)
theorem RepKV.mono (e : Ex H H') : ∀ {vs : List (Str × V)} {ds : List (Str × D)}, RepKV K H vs ds → RepKV K H' vs ds
  | _, _, .nil => .nil
  | _, _, .cons h hs => .cons (Rep.mono e h) (RepKV.mono e hs)
theorem RepIV.mono (e : Ex H H') : ∀ {vs : List (Int × V)} {ds : List (Int × D)}, RepIV K H vs ds → RepIV K H' vs ds
  | _, _, .nil => .nil
  | _, _, .cons h hs => .cons (Rep.mono e h) (RepIV.mono e hs)
theorem RepNV.mono (e : Ex H H') : ∀ {vs : List (Ky × Addr × Addr)} {ds : List (Ky × D)}, RepNV K H vs ds → RepNV K H' vs ds
  | _, _, .nil => .nil
  | _, _, .cons hk h hs => .cons (kyAt_ex e hk) (Rep.mono e h) (RepNV.mono e hs)
end
theorem RepAll.length : ∀ {vs : List V} {ds : List D}, RepAll K H vs ds → vs.length = ds.length
  | _, _, .nil => rfl
  | _, _, .cons _ h => by simp [h.length]
theorem RepAll.append : ∀ {vs ws : List V} {ds es : List D}, RepAll K H vs ds → RepAll K H ws es → RepAll K H (vs ++ ws) (ds ++ es)
  | _, _, _, _, .nil, h => h
  | _, _, _, _, .cons h hs, h' => .cons h (hs.append h')
theorem RepAll.get : ∀ {vs : List V} {ds : List D} {i : Nat} {d : D}, RepAll K H vs ds → ds[i]? = some d → ∃ v, vs[i]? = some v ∧ Rep K H v d
  | _, _, _, _, .nil, e => by simp at e
  | _, _, 0, _, .cons h _, e => by simp at e; subst e; exact ⟨_, rfl, h⟩
  | _, _, i + 1, d, .cons _ hs, e => by
    obtain ⟨v, h1, h2⟩ := hs.get (i := i) (d := d) (by simpa using e)
    exact ⟨v, by simpa using h1, h2⟩
theorem RepAll.getV : ∀ {vs : List V} {ds : List D} {i : Nat} {v : V}, RepAll K H vs ds → vs[i]? = some v → ∃ d, ds[i]? = some d ∧ Rep K H v d
  | _, _, _, _, .nil, e => by simp at e
  | _, _, 0, _, .cons h _, e => by simp at e; subst e; exact ⟨_, rfl, h⟩
  | _, _, i + 1, v, .cons _ hs, e => by
    obtain ⟨d, h1, h2⟩ := hs.getV (i := i) (v := v) (by simpa using e)
    exact ⟨d, by simpa using h1, h2⟩
theorem RepAll.take : ∀ {vs : List V} {ds : List D} (n : Nat), RepAll K H vs ds → RepAll K H (vs.take n) (ds.take n)
  | _, _, 0, _ => .nil
  | _, _, _ + 1, .nil => .nil
  | _, _, n + 1, .cons h hs => .cons h (hs.take n)
theorem RepAll.drop : ∀ {vs : List V} {ds : List D} (n : Nat), RepAll K H vs ds → RepAll K H (vs.drop n) (ds.drop n)
  | _, _, 0, h => h
  | _, _, _ + 1, .nil => .nil
  | _, _, n + 1, .cons _ hs => hs.drop n
theorem RepAll.erase : ∀ {vs : List V} {ds : List D} (n : Nat), RepAll K H vs ds → RepAll K H (vs.eraseIdx n) (ds.eraseIdx n)
  | _, _, _, .nil => .nil
  | _, _, 0, .cons _ hs => hs
  | _, _, n + 1, .cons h hs => .cons h (hs.erase n)
theorem RepAll.ints : ∀ (ns : List Int), RepAll K H (ns.map V.int) (ns.map D.int)
  | [] => .nil
  | _ :: ns => .cons (.int _) (RepAll.ints ns)
theorem RepAll.ofInts : ∀ {vs : List V} {ns : List Int}, RepAll K H vs (ns.map D.int) → vs = ns.map V.int
  | _, [], .nil => rfl
  | _, _ :: ns, .cons (.int _) hs => by rw [List.map_cons, RepAll.ofInts hs]
theorem RepAll.strs : ∀ (ns : List Str), RepAll K H (ns.map V.str) (ns.map D.str)
  | [] => .nil
  | _ :: ns => .cons (.str _) (RepAll.strs ns)
theorem RepAll.ofStrs : ∀ {vs : List V} {ns : List Str}, RepAll K H vs (ns.map D.str) → vs = ns.map V.str
  | _, [], .nil => rfl
  | _, _ :: ns, .cons (.str _) hs => by rw [List.map_cons, RepAll.ofStrs hs]
theorem RepAll.ofBools : ∀ {vs : List V} {ns : List Bool}, RepAll K H vs (ns.map D.bl) → vs = ns.map V.bl
  | _, [], .nil => rfl
  | _, _ :: ns, .cons (.bl _) hs => by rw [List.map_cons, RepAll.ofBools hs]
theorem RepKV.lookup : ∀ {vs : List (Str × V)} {ds : List (Str × D)} {f : Str} {d : D}, RepKV K H vs ds → ds.lookup f = some d → ∃ v, vs.lookup f = some v ∧ Rep K H v d
  | _, _, _, _, .nil, e => by simp at e
  | _, _, f, d, .cons (k := k) h hs, e => by
    rw [List.lookup_cons] at e
    cases q : f == k with
    | true => rw [q] at e; cases e; exact ⟨_, by rw [List.lookup_cons, q], h⟩
    | false =>
      rw [q] at e
      obtain ⟨v, h1, h2⟩ := hs.lookup e
      exact ⟨v, by rw [List.lookup_cons, q]; exact h1, h2⟩
theorem RepKV.length : ∀ {vs : List (Str × V)} {ds : List (Str × D)}, RepKV K H vs ds → vs.length = ds.length
  | _, _, .nil => rfl
  | _, _, .cons _ h => by simp [h.length]
end
/-! ### slots and heaps -/
inductive Sl where
  /-- data that is never changed again -/
  | dat (d : D)
  /-- a list, a dict, an object of the def's own, which nobody else knows: it may change -/
  | own (t : Option Addr) (d : D)
abbrev Env' := List (Option Sl)
/-- what stands at an address, as data -/
inductive RepO (K : PySem.W.Frag) (H : Hp) : HO → D → Prop
  | lst {xs : List V} {ds : List D} : RepAll K H xs ds → RepO K H (.lst xs) (.lst ds)
  | dic {xs : List (Str × V)} {ds : List (Str × D)} : RepKV K H xs ds → RepO K H (.dK (xs.map fun p => (Sum.inr p.1, p.2))) (.dic ds)
  | ins {C dx : Addr} {xs : List (Str × V)} {ds : List (Str × D)} : RepKV K H xs ds → RepO K H (.ins C dx xs) (.ins C ds)
  | dik {xs : List (Int × V)} {ds : List (Int × D)} : RepIV K H xs ds → RepO K H (.dK (xs.map fun p => (Sum.inl p.1, p.2))) (.dik ds)
  | kd {P : Program} {w : World} {p : Addr} {xs : List (Ky × Addr × Addr)} {ds : List (Ky × D)} : RepNV K H xs ds → RepO K H (KdO P w p xs) (.kd P w p ds)
theorem RepO.mono {K : PySem.W.Frag} {H H' : Hp} (e : Ex H H') : ∀ {o : HO} {d : D}, RepO K H o d → RepO K H' o d
  | _, _, .lst h => .lst (h.mono e)
  | _, _, .dic h => .dic (h.mono e)
  | _, _, .ins h => .ins (h.mono e)
  | _, _, .dik h => .dik (h.mono e)
  | _, _, .kd h => .kd (h.mono e)
theorem RepO.rep {K : PySem.W.Frag} {H : Hp} {p : Addr} (hp : H p = none) : ∀ {o : HO} {d : D}, RepO K H o d → Rep K (upd H p o) (.ref p) d
  | _, _, .lst h => .lst upd_same (h.mono (Ex.new hp))
  | _, _, .dic h => .dic upd_same (h.mono (Ex.new hp))
  | _, _, .ins h => .ins upd_same (h.mono (Ex.new hp))
  | _, _, .dik h => .dik upd_same (h.mono (Ex.new hp))
  | _, _, .kd h => .kd upd_same (h.mono (Ex.new hp))
/-- the entry: the heap, and the part of it that promises speak of -/
structure Ctx where
  He : Hp
  H0 : Hp
  /-- tables of code objects, which may grow -/
  T : List (Addr × Str)
/-- what is known stays; tables may grow, if T says so -/
def ExN (T : List (Addr × Str)) (H H' : Hp) : Prop := ∀ a o, H a = some o → H' a = some o ∨ (T ≠ [] ∧ ∃ ps ps', o = .tbl ps ∧ H' a = some (.tbl ps'))
section
variable {T : List (Addr × Str)} {H H' H2 : Hp} {p : Addr} {o : HO}
theorem ExN.of (x : Ex H H') : ExN T H H' := fun a u e => .inl (x a u e)
theorem ExN.ex (x : ExN [] H H') : Ex H H' := fun a u e => (x a u e).elim id fun z => absurd rfl z.1
theorem ExN.refl : ExN T H H := fun _ _ e => .inl e
theorem ExN.trans (x : ExN T H H') (y : ExN T H' H2) : ExN T H H2 := fun a u e => by
  rcases x a u e with q | ⟨n, ps, ps', e1, q⟩
  · exact y a u q
  · rcases y a _ q with z | ⟨_, qs, qs', e2, z⟩
    · exact .inr ⟨n, ps, ps', e1, z⟩
    · exact .inr ⟨n, ps, qs', e1, z⟩
theorem ExN.some' (x : ExN T H H') (h : H p ≠ none) : H' p ≠ none := by
  cases q : H p with
  | none => exact absurd q h
  | some u =>
    rcases x p u q with z | ⟨_, _, _, _, z⟩ <;> rw [z] <;> exact fun z => by cases z
theorem ExN.back (x : ExN T H H') (h : H' p = none) : H p = none := by
  cases q : H p with
  | none => rfl
  | some u => exact absurd h (x.some' (by rw [q]; exact fun z => by cases z))
theorem ExN.aside (x : ExN T H H') (h : H p = none) : ExN T H (upd H' p o) := fun a u e => by
  rw [upd_ne (ne_of_none e h)]
  exact x a u e
end
structure PX (c : Ctx) (H0 H : Hp) : Prop where
  e : ExN c.T c.He H
  e0 : Ex c.H0 H0
  i : Ex H0 H
  n : ∀ p, c.He p ≠ none → c.H0 p = none → H0 p = none
theorem PX.refl {T : List (Addr × Str)} {H0 H : Hp} (i : Ex H0 H) : PX ⟨H, H0, T⟩ H0 H := ⟨.refl, .refl _, i, fun _ _ h => h⟩
theorem PX.ex {He Hz H0 H : Hp} (x : PX ⟨He, Hz, []⟩ H0 H) : Ex He H := x.e.ex
theorem PX.trans {c : Ctx} {H0 H H0' H' : Hp} (x : PX c H0 H) (y : PX ⟨H, H0, []⟩ H0' H') : PX c H0' H' :=
  ⟨x.e.trans (.of y.ex), x.e0.trans y.e0, y.i, fun p h1 h2 => y.n p (x.e.some' h1) (x.n p h1 h2)⟩
theorem PX.transT {c : Ctx} {H0 H H0' H' : Hp} (x : PX c H0 H) (y : PX ⟨H, H0, c.T⟩ H0' H') : PX c H0' H' :=
  ⟨x.e.trans y.e, x.e0.trans y.e0, y.i, fun p h1 h2 => y.n p (x.e.some' h1) (x.n p h1 h2)⟩
/-- the heap stays, the part learns of a thing that was new to the entry -/
theorem PX.learn {c : Ctx} {H0 H : Hp} {p : Addr} {o : HO} (x : PX c H0 H) (h : H p = some o) (h0 : H0 p = none) (hc : c.He p = none) : PX c (upd H0 p o) H :=
  ⟨x.e, fun a u e => (upd_ne (ne_of_none (x.e0 a u e) h0)).trans (x.e0 a u e), x.i.learn h, fun q h1 h2 => by
    by_cases e : q = p
    · subst e; exact absurd hc h1
    · rw [upd_ne e]; exact x.n q h1 h2⟩
/-- a new thing that both know -/
theorem PX.new {c : Ctx} {H0 H : Hp} {p : Addr} {o : HO} (x : PX c H0 H) (h : H p = none) : PX c (upd H0 p o) (upd H p o) :=
  ⟨x.e.aside (x.e.back h), x.e0.aside (x.e0.back (x.i.back h)), x.i.both, fun q h1 h2 => by
    by_cases e : q = p
    · subst e; exact absurd (x.e.back h) h1
    · rw [upd_ne e]; exact x.n q h1 h2⟩
/-- a thing that the part does not know, and that the entry did not know, changes -/
theorem PX.change {c : Ctx} {H0 H : Hp} {p : Addr} {o : HO} (x : PX c H0 H) (h0 : H0 p = none) (hc : c.He p = none) : PX c H0 (upd H p o) :=
  ⟨x.e.aside hc, x.e0, x.i.aside h0, x.n⟩
inductive Slots (K : PySem.W.Frag) (H0 H : Hp) : Env' → St → List Addr → Prop
  | nil : Slots K H0 H [] [] []
  | skip {ρ : Env'} {σ : St} {os : List Addr} {x : Option V} : Slots K H0 H ρ σ os → Slots K H0 H (none :: ρ) (x :: σ) os
  | dat {ρ : Env'} {σ : St} {os : List Addr} {v : V} {d : D} : Rep K H0 v d → Slots K H0 H ρ σ os → Slots K H0 H (some (.dat d) :: ρ) (some v :: σ) os
  | own {ρ : Env'} {σ : St} {os : List Addr} {p : Addr} {o : HO} {t : Option Addr} {d : D} : (∀ q, t = some q → p = q) → H p = some o → RepO K H0 o d → Slots K H0 H ρ σ os → Slots K H0 H (some (.own t d) :: ρ) (some (.ref p) :: σ) (p :: os)
section
variable {K : PySem.W.Frag} {H0 H H0' H' : Hp}
/-- the part grows, the lists of one's own stay -/
theorem Slots.mono (e0 : Ex H0 H0') : ∀ {ρ : Env'} {σ : St} {os : List Addr}, Slots K H0 H ρ σ os → (∀ p ∈ os, H' p = H p) → Slots K H0' H' ρ σ os
  | _, _, _, .nil, _ => .nil
  | _, _, _, .skip h, k => .skip (h.mono e0 k)
  | _, _, _, .dat r h, k => .dat (r.mono e0) (h.mono e0 k)
  | _, _, _, .own ht hp r h, k => .own ht ((k _ List.mem_cons_self).trans hp) (r.mono e0) (h.mono e0 fun p hp => k p (List.mem_cons_of_mem _ hp))
theorem Slots.get : ∀ {ρ : Env'} {σ : St} {os : List Addr} {i : Nat} {d : D}, Slots K H0 H ρ σ os → ρ[i]? = some (some (.dat d)) → ∃ v, σ[i]? = some (some v) ∧ Rep K H0 v d
  | _, _, _, _, _, .nil, e => by simp at e
  | _, _, _, 0, _, .skip h, e => by simp at e
  | _, _, _, i + 1, d, .skip h, e => by obtain ⟨v, h1, h2⟩ := h.get (i := i) (d := d) (by simpa using e); exact ⟨v, by simpa using h1, h2⟩
  | _, _, _, 0, d, .dat r h, e => by simp at e; subst e; exact ⟨_, rfl, r⟩
  | _, _, _, i + 1, d, .dat r h, e => by obtain ⟨v, h1, h2⟩ := h.get (i := i) (d := d) (by simpa using e); exact ⟨v, by simpa using h1, h2⟩
  | _, _, _, 0, d, .own _ _ _ h, e => by simp at e
  | _, _, _, i + 1, d, .own _ _ _ h, e => by obtain ⟨v, h1, h2⟩ := h.get (i := i) (d := d) (by simpa using e); exact ⟨v, by simpa using h1, h2⟩
theorem Slots.getOwn : ∀ {ρ : Env'} {σ : St} {os : List Addr} {i : Nat} {t : Option Addr} {d : D}, Slots K H0 H ρ σ os → ρ[i]? = some (some (.own t d)) → ∃ p o, σ[i]? = some (some (.ref p)) ∧ p ∈ os ∧ (∀ q, t = some q → p = q) ∧ H p = some o ∧ RepO K H0 o d
  | _, _, _, _, _, _, .nil, e => by simp at e
  | _, _, _, 0, _, _, .skip h, e => by simp at e
  | _, _, _, i + 1, t, d, .skip h, e => by obtain ⟨p, o, h1, h2⟩ := h.getOwn (i := i) (t := t) (d := d) (by simpa using e); exact ⟨p, o, by simpa using h1, h2⟩
  | _, _, _, 0, t, d, .dat r h, e => by simp at e
  | _, _, _, i + 1, t, d, .dat r h, e => by obtain ⟨p, o, h1, h2⟩ := h.getOwn (i := i) (t := t) (d := d) (by simpa using e); exact ⟨p, o, by simpa using h1, h2⟩
  | _, _, _, 0, t, d, .own ht hp r h, e => by simp at e; obtain ⟨rfl, rfl⟩ := e; exact ⟨_, _, rfl, List.mem_cons_self, ht, hp, r⟩
  | _, _, _, i + 1, t, d, .own _ _ _ h, e => by obtain ⟨p, o, h1, hm, h2⟩ := h.getOwn (i := i) (t := t) (d := d) (by simpa using e); exact ⟨p, o, by simpa using h1, List.mem_cons_of_mem _ hm, h2⟩
/-- a slot is given a value -/
theorem Slots.setDat {v : V} {d : D} (r : Rep K H0 v d) : ∀ {ρ : Env'} {σ : St} {os : List Addr} (i : Nat), Slots K H0 H ρ σ os → ∃ os', Slots K H0 H (ρ.set i (some (.dat d))) (σ.set i (some v)) os' ∧ os'.Sublist os
  | _, _, _, _, .nil => ⟨[], .nil, .slnil⟩
  | _, _, _, 0, .skip h => ⟨_, .dat r h, .refl _⟩
  | _, _, _, i + 1, .skip h => let ⟨os', h1, h2⟩ := h.setDat r i; ⟨os', .skip h1, h2⟩
  | _, _, _, 0, .dat _ h => ⟨_, .dat r h, .refl _⟩
  | _, _, _, i + 1, .dat r' h => let ⟨os', h1, h2⟩ := h.setDat r i; ⟨os', .dat r' h1, h2⟩
  | _, _, _, 0, .own _ _ _ h => ⟨_, .dat r h, List.sublist_cons_self _ _⟩
  | _, _, _, i + 1, .own ht hp r' h => let ⟨os', h1, h2⟩ := h.setDat r i; ⟨_ :: os', .own ht hp r' h1, .cons_cons _ h2⟩
/-- .. a list of its own -/
theorem Slots.setOwn {p : Addr} {o : HO} {t : Option Addr} {ds : D} (ht : ∀ q, t = some q → p = q) (hp : H p = some o) (r : RepO K H0 o ds) : ∀ {ρ : Env'} {σ : St} {os : List Addr} (i : Nat), Slots K H0 H ρ σ os → ∃ os', Slots K H0 H (ρ.set i (some (.own t ds))) (σ.set i (some (.ref p))) os' ∧ (∀ q ∈ os', q = p ∨ q ∈ os) ∧ (os.Nodup → p ∉ os → os'.Nodup)
  | _, _, _, _, .nil => ⟨[], .nil, fun _ h => (by cases h), fun _ _ => List.nodup_nil⟩
  | _, _, _, 0, .skip h => ⟨_, .own ht hp r h, fun q hq => List.mem_cons.mp hq, fun n m => List.nodup_cons.mpr ⟨m, n⟩⟩
  | _, _, _, i + 1, .skip h => let ⟨os', h1, h2, h3⟩ := h.setOwn ht hp r i; ⟨os', .skip h1, h2, h3⟩
  | _, _, _, 0, .dat _ h => ⟨_, .own ht hp r h, fun q hq => List.mem_cons.mp hq, fun n m => List.nodup_cons.mpr ⟨m, n⟩⟩
  | _, _, _, i + 1, .dat r' h => let ⟨os', h1, h2, h3⟩ := h.setOwn ht hp r i; ⟨os', .dat r' h1, h2, h3⟩
  | _, _, _, 0, .own _ _ _ h => ⟨_, .own ht hp r h, fun q hq => (List.mem_cons.mp hq).imp id (List.mem_cons_of_mem _), fun n m => List.nodup_cons.mpr ⟨fun z => m (List.mem_cons_of_mem _ z), (List.nodup_cons.mp n).2⟩⟩
  | _, _, _, i + 1, .own (p := p') ht' hp' r' h => let ⟨os', h1, h2, h3⟩ := h.setOwn ht hp r i; ⟨p' :: os', .own ht' hp' r' h1, fun q hq => (List.mem_cons.mp hq).elim (fun e => .inr (e ▸ List.mem_cons_self)) fun m => (h2 q m).imp id (List.mem_cons_of_mem _),
      fun n m => List.nodup_cons.mpr ⟨fun z => (h2 p' z).elim (fun e => m (e ▸ List.mem_cons_self)) (List.nodup_cons.mp n).1, h3 (List.nodup_cons.mp n).2 fun z => m (List.mem_cons_of_mem _ z)⟩⟩
/-- the list of one's own in slot i has changed -/
theorem Slots.turn {p : Addr} {o : HO} {t : Option Addr} {ds ds' : D} (r : RepO K H0 o ds') : ∀ {ρ : Env'} {σ : St} {os : List Addr} {i : Nat}, Slots K H0 H ρ σ os → os.Nodup → ρ[i]? = some (some (.own t ds)) → σ[i]? = some (some (.ref p)) →
    Slots K H0 (upd H p o) (ρ.set i (some (.own t ds'))) σ os
  | _, _, _, _, .nil, _, e, _ => by simp at e
  | _, _, _, 0, .skip h, _, e, _ => by simp at e
  | _, _, _, i + 1, .skip h, n, e, e2 => .skip (h.turn r n (by simpa using e) (by simpa using e2))
  | _, _, _, 0, .dat _ h, _, e, _ => by simp at e
  | _, _, _, i + 1, .dat r' h, n, e, e2 => .dat r' (h.turn r n (by simpa using e) (by simpa using e2))
  | _, _, _, 0, .own ht hp _ h, n, e, e2 => by
    simp at e e2; subst e2; obtain ⟨rfl, rfl⟩ := e
    exact .own ht upd_same r (h.mono (.refl _) fun q hq => upd_ne fun z => (List.nodup_cons.mp n).1 (z ▸ hq))
  | _, _, _, i + 1, .own (p := p') ht hp r' h, n, e, e2 => by
    have e' := e
    have e2' := e2
    rw [List.getElem?_cons_succ] at e' e2'
    obtain ⟨q, ws, h1, hm, _⟩ := h.getOwn e'
    rw [e2'] at h1
    cases h1
    have hne : p' ≠ p := fun z => (List.nodup_cons.mp n).1 (by rw [z]; exact hm)
    exact .own ht ((upd_ne hne).trans hp) r' (h.turn r (List.nodup_cons.mp n).2 e' e2')
theorem Slots.known : ∀ {ρ : Env'} {σ : St} {os : List Addr}, Slots K H0 H ρ σ os → ∀ p ∈ os, H p ≠ none
  | _, _, _, .nil, _, h => by cases h
  | _, _, _, .skip h, p, m => h.known p m
  | _, _, _, .dat _ h, p, m => h.known p m
  | _, _, _, .own _ hp _ h, p, m => by
    rcases List.mem_cons.mp m with e | m
    · subst e; rw [hp]; exact fun z => by cases z
    · exact h.known p m
theorem Slots.ownAt : ∀ {ρ : Env'} {σ : St} {os : List Addr}, Slots K H0 H ρ σ os → ∀ p ∈ os, ∃ (t : D) (o : HO) (d : D), H p = some o ∧ RepO K H0 o d
  | _, _, _, .nil, _, h => by cases h
  | _, _, _, .skip h, p, m => h.ownAt p m
  | _, _, _, .dat _ h, p, m => h.ownAt p m
  | _, _, _, .own (d := d) _ hp r h, p, m => by
    rcases List.mem_cons.mp m with e | m
    · subst e; exact ⟨d, _, _, hp, r⟩
    · exact h.ownAt p m
/-- the list of one's own in slot i is given away: it will not change any more -/
theorem Slots.freeze {p : Addr} {o : HO} {t : Option Addr} {d : D} (h0 : H0 p = none) (r : RepO K H0 o d) : ∀ {ρ : Env'} {σ : St} {os : List Addr} {i : Nat}, Slots K H0 H ρ σ os → os.Nodup → ρ[i]? = some (some (.own t d)) → σ[i]? = some (some (.ref p)) →
    ∃ os', Slots K (upd H0 p o) H (ρ.set i (some (.dat d))) σ os' ∧ os'.Sublist os ∧ p ∉ os'
  | _, _, _, _, .nil, _, e, _ => by simp at e
  | _, _, _, 0, .skip h, _, e, _ => by simp at e
  | _, _, _, i + 1, .skip h, n, e, e2 => let ⟨os', h1, h2, h3⟩ := h.freeze h0 r n (by simpa using e) (by simpa using e2); ⟨os', .skip h1, h2, h3⟩
  | _, _, _, 0, .dat _ h, _, e, _ => by simp at e
  | _, _, _, i + 1, .dat r' h, n, e, e2 => let ⟨os', h1, h2, h3⟩ := h.freeze h0 r n (by simpa using e) (by simpa using e2); ⟨os', .dat (r'.mono (Ex.new h0)) h1, h2, h3⟩
  | _, _, _, 0, .own _ hp _ h, n, e, e2 => by
    simp at e2; subst e2
    exact ⟨_, .dat (r.rep h0) (h.mono (Ex.new h0) fun _ _ => rfl), List.sublist_cons_self _ _, (List.nodup_cons.mp n).1⟩
  | _, _, _, i + 1, .own (p := p') ht hp r' h, n, e, e2 => by
    have e' := e
    have e2' := e2
    rw [List.getElem?_cons_succ] at e' e2'
    obtain ⟨q, ws, h1, hm, _⟩ := h.getOwn e'
    rw [e2'] at h1
    cases h1
    obtain ⟨os', g1, g2, g3⟩ := h.freeze h0 r (List.nodup_cons.mp n).2 e' e2'
    exact ⟨p' :: os', .own ht hp (r'.mono (Ex.new h0)) g1, .cons_cons _ g2, fun z => (List.mem_cons.mp z).elim (fun q => (List.nodup_cons.mp n).1 (by rw [← q]; exact hm)) g3⟩
/-- what is one's own is hidden -/
def hide : Env' → Env' := fun ρ => ρ.map fun x => match x with | some (.own _ _) => none | y => y
theorem Slots.hide : ∀ {ρ : Env'} {σ : St} {os : List Addr}, Slots K H0 H ρ σ os → Slots K H0 H (DL.hide ρ) σ []
  | _, _, _, .nil => .nil
  | _, _, _, .skip h => .skip h.hide
  | _, _, _, .dat r h => .dat r h.hide
  | _, _, _, .own _ _ _ h => .skip h.hide
end
/-- the tables that may grow stand there, out of the promises' reach -/
def TabA (T : List (Addr × Str)) (H0 H : Hp) : Prop := ∀ p ∈ T, LamX.TabS H p.1 p.2 ∧ H0 p.1 = none
theorem TabA.nil {H0 H : Hp} : TabA [] H0 H := fun _ h => nomatch h
theorem TabS.keep {H H' : Hp} {P : Addr} {q : Str} (t : LamX.TabS H P q) (e : ∀ b o, H b = some o → (∀ xs, o ≠ .lst xs) → (∀ xs, o ≠ .dK xs) → (∀ C dx xs, o ≠ .ins C dx xs) → H' b = some o) : LamX.TabS H' P q := by
  obtain ⟨ps, h1, h2, h3⟩ := t
  refine ⟨ps, e _ _ h1 (fun _ => nofun) (fun _ => nofun) (fun _ _ _ => nofun), h2, fun pos cv hc => ?_⟩
  obtain ⟨c, h4, h5⟩ := h3 pos cv hc
  exact ⟨c, h4, e _ _ h5 (fun _ z => by unfold LamX.CodeO at z; cases z) (fun _ z => by unfold LamX.CodeO at z; cases z) (fun _ _ _ z => by unfold LamX.CodeO at z; cases z)⟩
theorem TabA.keep {T : List (Addr × Str)} {H0 H H0' H' : Hp} (t : TabA T H0 H) (e : ∀ b o, H b = some o → (∀ xs, o ≠ .lst xs) → (∀ xs, o ≠ .dK xs) → (∀ C dx xs, o ≠ .ins C dx xs) → H' b = some o) (n : ∀ p, H0 p = none → (∃ ps, H p = some (.tbl ps)) → H0' p = none) : TabA T H0' H' := fun p hp => by
  obtain ⟨h1, h2⟩ := t p hp
  exact ⟨TabS.keep h1 e, n _ h2 (let ⟨ps, z, _⟩ := h1; ⟨ps, z⟩)⟩
structure At (K : PySem.W.Frag) (c : Ctx) (ρ : Env') (H0 H : Hp) (σ : St) : Prop where
  px : PX c H0 H
  tab : TabA c.T H0 H
  sl : ∃ os, Slots K H0 H ρ σ os ∧ os.Nodup ∧ ∀ p ∈ os, H0 p = none ∧ c.He p = none
section
variable {K : PySem.W.Frag} {c : Ctx} {ρ : Env'} {H0 H H0' H' : Hp} {σ : St}
theorem RepO.notTbl {o : HO} {d : D} (r : RepO K H0 o d) (ps : Array Value) : o ≠ .tbl ps := by
  cases r <;> exact nofun
theorem ext_both (e : Ex H H') : ∀ b o, H b = some o → (∀ xs, o ≠ .lst xs) → (∀ xs, o ≠ .dK xs) → (∀ C dx xs, o ≠ .ins C dx xs) → H' b = some o := fun b o h _ _ _ => e b o h
/-- all that stands stays: what is one's own, too -/
theorem At.go (a : At K c ρ H0 H σ) (y : PX ⟨H, H0, []⟩ H0' H') : At K c ρ H0' H' σ := by
  obtain ⟨os, s, nd, f⟩ := a.sl
  have own := s.known
  have same : ∀ p ∈ os, H' p = H p := fun p hp => by
    cases q : H p with
    | none => exact absurd q (own p hp)
    | some o => exact y.ex p o q
  exact ⟨a.px.trans y, a.tab.keep (ext_both y.ex) fun p h1 ⟨ps, h2⟩ => y.n p (by show H p ≠ none; rw [h2]; exact nofun) h1, os, s.mono y.e0 same, nd, fun p hp => ⟨y.n p (own p hp) (f p hp).1, (f p hp).2⟩⟩
/-- .. but for tables, which grow -/
theorem At.goT (a : At K c ρ H0 H σ) (y : PX ⟨H, H0, c.T⟩ H0' H') (t : TabA c.T H0' H') : At K c ρ H0' H' σ := by
  obtain ⟨os, s, nd, f⟩ := a.sl
  have own := s.known
  have same : ∀ p ∈ os, H' p = H p := fun p hp => by
    cases q : H p with
    | none => exact absurd q (own p hp)
    | some o =>
      rcases y.e p o q with z | ⟨_, ps, _, e1, _⟩
      · exact z
      · obtain ⟨_, o', _, h2, r⟩ := s.ownAt p hp
        rw [q] at h2
        cases h2
        exact absurd e1 (r.notTbl ps)
  exact ⟨a.px.transT y, t, os, s.mono y.e0 same, nd, fun p hp => ⟨y.n p (own p hp) (f p hp).1, (f p hp).2⟩⟩
/-- the entry is taken here: what is one's own is hidden -/
theorem At.fresh (a : At K c ρ H0 H σ) : At K ⟨H, H0, []⟩ (hide ρ) H0 H σ := by
  obtain ⟨os, s, _⟩ := a.sl
  exact ⟨PX.refl a.px.i, .nil, [], s.hide, List.nodup_nil, fun _ h => nomatch h⟩
theorem At.freshT (a : At K c ρ H0 H σ) : At K ⟨H, H0, c.T⟩ (hide ρ) H0 H σ := by
  obtain ⟨os, s, _⟩ := a.sl
  exact ⟨PX.refl a.px.i, a.tab, [], s.hide, List.nodup_nil, fun _ h => nomatch h⟩
/-- the entry's part is taken here, its heap is not -/
theorem At.part (a : At K c ρ H0 H σ) : At K ⟨c.He, H0, c.T⟩ ρ H0 H σ := by
  obtain ⟨os, s, nd, f⟩ := a.sl
  exact ⟨⟨a.px.e, .refl _, a.px.i, fun _ _ h => h⟩, a.tab, os, s, nd, f⟩
theorem PX.unpart (x : PX c H0 H) (y : PX ⟨c.He, H0, c.T⟩ H0' H') : PX c H0' H' := ⟨y.e, x.e0.trans y.e0, y.i, fun p h1 h2 => y.n p h1 (x.n p h1 h2)⟩
theorem At.unpart {ρ' : Env'} {σ' : St} (x : PX c H0 H) (y : At K ⟨c.He, H0, c.T⟩ ρ' H0' H' σ') : At K c ρ' H0' H' σ' := ⟨x.unpart y.px, y.tab, y.sl⟩
theorem At.setDat {v : V} {d : D} (a : At K c ρ H0 H σ) (r : Rep K H0 v d) (i : Nat) : At K c (ρ.set i (some (.dat d))) H0 H (σ.set i (some v)) := by
  obtain ⟨os, s, nd, f⟩ := a.sl
  obtain ⟨os', s', sub⟩ := s.setDat r i
  exact ⟨a.px, a.tab, os', s', nd.sublist sub, fun p hp => f p (sub.subset hp)⟩
theorem At.setOwn {p : Addr} {o : HO} {ds : D} (a : At K c ρ H0 H σ) (hp : H p = none) (r : RepO K H0 o ds) (i : Nat) : At K c (ρ.set i (some (.own none ds))) H0 (upd H p o) (σ.set i (some (.ref p))) := by
  obtain ⟨os, s, nd, f⟩ := a.sl
  have h0 : H0 p = none := a.px.i.back hp
  have hc : c.He p = none := a.px.e.back hp
  have own : p ∉ os := fun hm => s.known p hm hp
  have s1 : Slots K H0 (upd H p o) ρ σ os := s.mono (.refl _) fun q hq => upd_ne fun e => own (e ▸ hq)
  obtain ⟨os', s', h1, h2⟩ := s1.setOwn (t := none) (fun _ z => by cases z) upd_same r i
  exact ⟨a.px.change h0 hc, a.tab.keep (ext_both (Ex.new hp)) fun _ h _ => h, os', s', h2 nd own, fun q hq => (h1 q hq).elim (fun e => e ▸ ⟨h0, hc⟩) (f q)⟩
/-- one's own is given away -/
theorem At.freeze {i : Nat} {t : Option Addr} {d : D} (a : At K c ρ H0 H σ) (h : ρ[i]? = some (some (.own t d))) : ∃ p o, σ[i]? = some (some (.ref p)) ∧ H p = some o ∧ H0 p = none ∧ c.He p = none ∧ At K c (ρ.set i (some (.dat d))) (upd H0 p o) H σ ∧ Rep K (upd H0 p o) (.ref p) d := by
  obtain ⟨os, s, nd, f⟩ := a.sl
  obtain ⟨p, o, h1, hm, _, h2, r⟩ := s.getOwn h
  obtain ⟨h0, hc⟩ := f p hm
  obtain ⟨os', s', sub, hn⟩ := s.freeze h0 r nd h h1
  refine ⟨p, o, h1, h2, h0, hc, ⟨a.px.learn h2 h0 hc, a.tab.keep (fun _ _ h _ _ _ => h) fun q hq ⟨ps, z⟩ => ?_, os', s', nd.sublist sub, fun q hq => ?_⟩, r.rep h0⟩
  · have hne : q ≠ p := fun e => by
      rw [e, h2] at z
      exact r.notTbl ps (Option.some.inj z)
    exact (upd_ne hne).trans hq
  · obtain ⟨g1, g2⟩ := f q (sub.subset hq)
    have hne : q ≠ p := fun e => hn (by rw [← e]; exact hq)
    exact ⟨(upd_ne hne).trans g1, g2⟩
/-- one's own changes -/
theorem At.turn {i : Nat} {t : Option Addr} {d d' : D} {p : Addr} {o' : HO} (a : At K c ρ H0 H σ) (h : ρ[i]? = some (some (.own t d))) (hp : σ[i]? = some (some (.ref p))) (r : RepO K H0 o' d') (nk : c.T = [] ∨ ∀ P w p l, d ≠ .kd P w p l := by exact .inr (fun _ _ _ _ => nofun)) : At K c (ρ.set i (some (.own t d'))) H0 (upd H p o') σ := by
  obtain ⟨os, s, nd, f⟩ := a.sl
  obtain ⟨q, o, h1, hm, _, h2, ro⟩ := s.getOwn h
  rw [hp] at h1
  cases h1
  obtain ⟨h0, hc⟩ := f p hm
  refine ⟨a.px.change h0 hc, ?_, os, s.turn r nd h hp, nd, f⟩
  rcases nk with nk | nk
  · rw [nk]; exact TabA.nil
  refine a.tab.keep (fun b u hb n1 n2 n3 => ?_) fun _ h _ => h
  have hne : b ≠ p := fun e => by
    rw [e, h2] at hb
    cases hb
    cases ro with
    | lst _ => exact n1 _ rfl
    | dic _ => exact n2 _ rfl
    | ins _ => exact n3 _ _ _ rfl
    | dik _ => exact n2 _ rfl
    | kd _ => exact nk _ _ _ _ rfl
  exact (upd_ne hne).trans hb
theorem At.own {i : Nat} {t : Option Addr} {d : D} (a : At K c ρ H0 H σ) (h : ρ[i]? = some (some (.own t d))) : ∃ p o, σ[i]? = some (some (.ref p)) ∧ H p = some o ∧ H0 p = none ∧ (∀ q, t = some q → p = q) ∧ RepO K H0 o d := by
  obtain ⟨os, s, nd, f⟩ := a.sl
  obtain ⟨p, o, h1, hm, ht, h2, r⟩ := s.getOwn h
  exact ⟨p, o, h1, h2, (f p hm).1, ht, r⟩
theorem At.get {i : Nat} {d : D} (a : At K c ρ H0 H σ) (h : ρ[i]? = some (some (.dat d))) : ∃ v, σ[i]? = some (some v) ∧ Rep K H0 v d := by
  obtain ⟨os, s, nd, f⟩ := a.sl
  exact s.get h
end
end DL
namespace DL
open PySem PySem.Spec L2
open PyProof.Rows hiding St
/-- an exception: its class, its attributes -/
structure Exn where
  C : Addr
  fs : List (Str × D)
def RepX (K : PySem.W.Frag) (H0 H : Hp) (x : Exn) (dd : Option Addr) : Prop := ∃ d vs, dd = some d ∧ H0 d = some (.xd vs) ∧ RepKV K H0 vs x.fs
/-- where one stands: the written part, what is wanted of an exception (of heaps, of data) -/
structure Wx where
  K : PySem.W.Frag
  EX : XK
  X : Exn → Prop
  T : List (Addr × Str)
structure XLink (w : Wx) (c : Ctx) : Prop where
  t : c.T = w.T
  l : ∀ x, w.X x → ∀ dd H0 H, PX c H0 H → RepX w.K H0 H x dd → w.EX (.ref x.C) dd H
theorem XLink.part {w : Wx} {c : Ctx} {H0 H : Hp} (l : XLink w c) (x : PX c H0 H) : XLink w ⟨c.He, H0, c.T⟩ := ⟨l.t, fun y hy dd H0' H' p r => l.l y hy dd H0' H' (x.unpart p) r⟩
/-! ### what expressions, tests, arguments come to -/
def wE (w : Wx) (te : TE) (ρ : Env') (Φ : D → Env' → Prop) : Prop := ∀ (c : Ctx) (H0 H : Hp) (σ : St) (Q : VK), At w.K c ρ H0 H σ → XLink w c →
  (∀ v d ρ' H0' H', Φ d ρ' → At w.K c ρ' H0' H' σ → Ex H0 H0' → Rep w.K H0' v d → Q v H') → te σ H Q
def wT (w : Wx) (tt : TT) (ρ : Env') (Φ : Bool → Env' → Prop) : Prop := ∀ (c : Ctx) (H0 H : Hp) (σ : St) (Q : Bool → Hp → Prop), At w.K c ρ H0 H σ → XLink w c →
  (∀ b ρ' H0' H', Φ b ρ' → At w.K c ρ' H0' H' σ → Ex H0 H0' → Q b H') → tt σ H Q
def wA (w : Wx) (ta : TA) (ρ : Env') (Φ : List D → Env' → Prop) : Prop := ∀ (c : Ctx) (H0 H : Hp) (σ : St) (Q : List V → Hp → Prop), At w.K c ρ H0 H σ → XLink w c →
  (∀ vs ds ρ' H0' H', Φ ds ρ' → At w.K c ρ' H0' H' σ → Ex H0 H0' → RepAll w.K H0' vs ds → Q vs H') → ta σ H Q
def wO (w : Wx) (to : TO) (ρ : Env') (Φ : Option Int → Env' → Prop) : Prop := ∀ (c : Ctx) (H0 H : Hp) (σ : St) (Q : Option Int → Hp → Prop), At w.K c ρ H0 H σ → XLink w c →
  (∀ o ρ' H0' H', Φ o ρ' → At w.K c ρ' H0' H' σ → Ex H0 H0' → Q o H') → to σ H Q
section
variable {w : Wx} {ρ : Env'} {Φ : D → Env' → Prop} {ΦB : Bool → Env' → Prop} {ΦA : List D → Env' → Prop} {ta tb te tc : TE} {t u : TT} {r : R2}
theorem wE_mono {Ψ : D → Env' → Prop} (h : wE w te ρ Φ) (k : ∀ d ρ', Φ d ρ' → Ψ d ρ') : wE w te ρ Ψ := fun c H0 H σ Q a x q => h c H0 H σ Q a x fun v d ρ' H0' H' p => q v d ρ' H0' H' (k d ρ' p)
theorem wE_var {i : Nat} {d : D} (h : ρ[i]? = some (some (.dat d))) (q : Φ d ρ) : wE w (tVar i) ρ Φ := fun c H0 H σ Q a x k => by
  obtain ⟨v, h1, r⟩ := a.get h
  exact ⟨v, h1, k v d ρ H0 H q a (.refl _) r⟩
/-- one's own, given away -/
theorem wE_give {i : Nat} {t : Option Addr} {d : D} (h : ρ[i]? = some (some (.own t d))) (q : Φ d (ρ.set i (some (.dat d)))) : wE w (tVar i) ρ Φ := fun c H0 H σ Q a x k => by
  obtain ⟨p, o, h1, _, h0, _, a', r⟩ := a.freeze h
  exact ⟨.ref p, h1, k _ d _ _ H q a' (Ex.new h0) r⟩
theorem wE_non (q : Φ .non ρ) : wE w (tC .non) ρ Φ := fun c H0 H σ Q a x k => k _ _ ρ H0 H q a (.refl _) .non
theorem wE_bl {b : Bool} (q : Φ (.bl b) ρ) : wE w (tC (.bl b)) ρ Φ := fun c H0 H σ Q a x k => k _ _ ρ H0 H q a (.refl _) (.bl b)
theorem wE_int {i : Int} (q : Φ (.int i) ρ) : wE w (tC (.int i)) ρ Φ := fun c H0 H σ Q a x k => k _ _ ρ H0 H q a (.refl _) (.int i)
theorem wE_str {s : Str} (q : Φ (.str s) ρ) : wE w (tC (.str s)) ρ Φ := fun c H0 H σ Q a x k => k _ _ ρ H0 H q a (.refl _) (.str s)
theorem wE_raw {v : V} (q : Φ (.raw v) ρ) : wE w (tC v) ρ Φ := fun c H0 H σ Q a x k => k _ _ ρ H0 H q a (.refl _) (.raw v)
/-- an operation on two values, as one on data -/
def OpD (K : PySem.W.Frag) (r : R2) (g : D → D → (D → Prop) → Prop) : Prop := ∀ (H0 H : Hp) (x y : V) (dx dy : D) (Φ : D → Prop) (Q : VK), Ex H0 H → Rep K H0 x dx → Rep K H0 y dy → g dx dy Φ →
  (∀ v d H0' H', Φ d → PX ⟨H, H0, []⟩ H0' H' → Rep K H0' v d → Q v H') → r x y H Q
def UnD (K : PySem.W.Frag) (r : V → Hp → VK → Prop) (g : D → (D → Prop) → Prop) : Prop := ∀ (H0 H : Hp) (x : V) (dx : D) (Φ : D → Prop) (Q : VK), Ex H0 H → Rep K H0 x dx → g dx Φ →
  (∀ v d H0' H', Φ d → PX ⟨H, H0, []⟩ H0' H' → Rep K H0' v d → Q v H') → r x H Q
def CbD (K : PySem.W.Frag) (r : List V → Hp → VK → Prop) (g : List D → (D → Prop) → Prop) : Prop := ∀ (H0 H : Hp) (xs : List V) (ds : List D) (Φ : D → Prop) (Q : VK), Ex H0 H → RepAll K H0 xs ds → g ds Φ →
  (∀ v d H0' H', Φ d → PX ⟨H, H0, []⟩ H0' H' → Rep K H0' v d → Q v H') → r xs H Q
def MtD (K : PySem.W.Frag) (r : V → List V → Hp → VK → Prop) (g : D → List D → (D → Prop) → Prop) : Prop := ∀ (H0 H : Hp) (x : V) (xs : List V) (dx : D) (ds : List D) (Φ : D → Prop) (Q : VK), Ex H0 H → Rep K H0 x dx → RepAll K H0 xs ds → g dx ds Φ →
  (∀ v d H0' H', Φ d → PX ⟨H, H0, []⟩ H0' H' → Rep K H0' v d → Q v H') → r x xs H Q
def SlD (K : PySem.W.Frag) (r : V → Option Int → Option Int → Hp → VK → Prop) (g : D → Option Int → Option Int → (D → Prop) → Prop) : Prop := ∀ (H0 H : Hp) (x : V) (dx : D) (lo hi : Option Int) (Φ : D → Prop) (Q : VK), Ex H0 H → Rep K H0 x dx → g dx lo hi Φ →
  (∀ v d H0' H', Φ d → PX ⟨H, H0, []⟩ H0' H' → Rep K H0' v d → Q v H') → r x lo hi H Q
theorem wE_op {g : D → D → (D → Prop) → Prop} (o : OpD w.K r g) (h : wE w ta ρ fun dx ρ1 => wE w tb ρ1 fun dy ρ2 => g dx dy fun d => Φ d ρ2) : wE w (tOp r ta tb) ρ Φ := fun c H0 H σ Q a x k =>
  h c H0 H σ _ a x fun vx dx ρ1 H01 H1 h1 a1 e1 r1 => h1 c H01 H1 σ _ a1 x fun vy dy ρ2 H02 H2 h2 a2 e2 r2 => o H02 H2 vx vy dx dy _ Q a2.px.i (r1.mono e2) r2 h2 fun v d H0' H' q p r => k v d ρ2 H0' H' q (a2.go p) ((e1.trans e2).trans p.e0) r
theorem wE_un {ru : V → Hp → VK → Prop} {g : D → (D → Prop) → Prop} (o : UnD w.K ru g) (h : wE w ta ρ fun dx ρ1 => g dx fun d => Φ d ρ1) : wE w (tUn ru ta) ρ Φ := fun c H0 H σ Q a x k =>
  h c H0 H σ _ a x fun vx dx ρ1 H01 H1 h1 a1 e1 r1 => o H01 H1 vx dx _ Q a1.px.i r1 h1 fun v d H0' H' q p r => k v d ρ1 H0' H' q (a1.go p) (e1.trans p.e0) r
theorem wE_cb {rc : List V → Hp → VK → Prop} {t' : TA} {g : List D → (D → Prop) → Prop} (o : CbD w.K rc g) (h : wA w t' ρ fun ds ρ1 => g ds fun d => Φ d ρ1) : wE w (tCB rc t') ρ Φ := fun c H0 H σ Q a x k =>
  h c H0 H σ _ a x fun vx dx ρ1 H01 H1 h1 a1 e1 r1 => o H01 H1 vx dx _ Q a1.px.i r1 h1 fun v d H0' H' q p r => k v d ρ1 H0' H' q (a1.go p) (e1.trans p.e0) r
/-- the data of a built-in type -/
def isTy (T : String) : D → Bool
  | .str _ => T == "str"
  | .lst _ => T == "list"
  | .dic _ => T == "dict"
  | _ => false
theorem wE_mt0 {T : String} {rm : V → List V → Hp → VK → Prop} {g : D → List D → (D → Prop) → Prop} (o : MtD w.K rm g) (ty : ∀ H0 H v d, Ex H0 H → Rep w.K H0 v d → isTy T d = true → tyV w.K T v H)
    (h : wE w ta ρ fun dx ρ1 => isTy T dx = true ∧ g dx [] fun d => Φ d ρ1) : wE w (tBM0 w.K T rm ta) ρ Φ := fun c H0 H σ Q a x k =>
  h c H0 H σ _ a x fun vx dx ρ1 H01 H1 h1 a1 e1 r1 => ⟨ty _ _ _ _ a1.px.i r1 h1.1, o H01 H1 vx [] dx [] _ Q a1.px.i r1 .nil h1.2 fun v d H0' H' q p r => k v d ρ1 H0' H' q (a1.go p) (e1.trans p.e0) r⟩
theorem wE_mt {T : String} {t' : TA} {rm : V → List V → Hp → VK → Prop} {g : D → List D → (D → Prop) → Prop} (o : MtD w.K rm g) (ty : ∀ H0 H v d, Ex H0 H → Rep w.K H0 v d → isTy T d = true → tyV w.K T v H)
    (h : wE w ta ρ fun dx ρ1 => isTy T dx = true ∧ wA w t' ρ1 fun ds ρ2 => g dx ds fun d => Φ d ρ2) : wE w (tBM w.K T rm ta t') ρ Φ := fun c H0 H σ Q a x k =>
  h c H0 H σ _ a x fun vx dx ρ1 H01 H1 h1 a1 e1 r1 => ⟨ty _ _ _ _ a1.px.i r1 h1.1, h1.2 c H01 H1 σ _ a1 x fun vs ds ρ2 H02 H2 h2 a2 e2 r2 => o H02 H2 vx vs dx ds _ Q a2.px.i (r1.mono e2) r2 h2 fun v d H0' H' q p r => k v d ρ2 H0' H' q (a2.go p) ((e1.trans e2).trans p.e0) r⟩
theorem wO_none {Φo : Option Int → Env' → Prop} (q : Φo none ρ) : wO w tNoPart ρ Φo := fun c H0 H σ Q a x k => k none ρ H0 H q a (.refl _)
theorem wO_some {Φo : Option Int → Env' → Prop} (h : wE w ta ρ fun d ρ1 => ∃ i, d = .int i ∧ Φo (some i) ρ1) : wO w (tPart ta) ρ Φo := fun c H0 H σ Q a x k =>
  h c H0 H σ _ a x fun vx dx ρ1 H01 H1 ⟨i, e, h1⟩ a1 e1 r1 => by
    subst e; cases r1
    exact ⟨i, rfl, k (some i) ρ1 H01 H1 h1 a1 e1⟩
theorem wE_sl {rs : V → Option Int → Option Int → Hp → VK → Prop} {tl th : TO} {g : D → Option Int → Option Int → (D → Prop) → Prop} (o : SlD w.K rs g) (h : wE w ta ρ fun dx ρ1 => wO w tl ρ1 fun lo ρ2 => wO w th ρ2 fun hi ρ3 => g dx lo hi fun d => Φ d ρ3) : wE w (tSl rs ta tl th) ρ Φ := fun c H0 H σ Q a x k =>
  h c H0 H σ _ a x fun vx dx ρ1 H01 H1 h1 a1 e1 r1 => h1 c H01 H1 σ _ a1 x fun lo ρ2 H02 H2 h2 a2 e2 => h2 c H02 H2 σ _ a2 x fun hi ρ3 H03 H3 h3 a3 e3 =>
    o H03 H3 vx dx lo hi _ Q a3.px.i (r1.mono (e2.trans e3)) h3 fun v d H0' H' q p r => k v d ρ3 H0' H' q (a3.go p) ((e1.trans (e2.trans e3)).trans p.e0) r
/-! tests -/
theorem wT_test (h : wE w te ρ fun d ρ1 => ∃ b, d = .bl b ∧ ΦB b ρ1) : wT w (tTest te) ρ ΦB := fun c H0 H σ Q a x k =>
  h c H0 H σ _ a x fun v d ρ1 H01 H1 ⟨b, e, q⟩ a1 e1 r1 => by subst e; cases r1; exact ⟨b, rfl, k b ρ1 H01 H1 q a1 e1⟩
theorem wT_B (h : wE w te ρ fun d ρ1 => ∃ b, d = .bl b ∧ ΦB b ρ1) : wT w (tB te) ρ ΦB := fun c H0 H σ Q a x k =>
  h c H0 H σ _ a x fun v d ρ1 H01 H1 ⟨b, e, q⟩ a1 e1 r1 => by subst e; cases r1; exact ⟨b, rfl, k b ρ1 H01 H1 q a1 e1⟩
theorem wT_and (h : wT w t ρ fun b ρ1 => if b = true then wT w u ρ1 ΦB else ΦB false ρ1) : wT w (tAnd t u) ρ ΦB := fun c H0 H σ Q a x k =>
  h c H0 H σ _ a x fun b ρ1 H01 H1 q a1 e1 => by
    cases b with
    | true => rw [if_pos rfl] at q ⊢; exact q c H01 H1 σ Q a1 x fun b ρ2 H02 H2 q2 a2 e2 => k b ρ2 H02 H2 q2 a2 (e1.trans e2)
    | false => rw [if_neg Bool.false_ne_true] at q ⊢; exact k false ρ1 H01 H1 q a1 e1
theorem wT_or (h : wT w t ρ fun b ρ1 => if b = true then ΦB true ρ1 else wT w u ρ1 ΦB) : wT w (tOr t u) ρ ΦB := fun c H0 H σ Q a x k =>
  h c H0 H σ _ a x fun b ρ1 H01 H1 q a1 e1 => by
    cases b with
    | true => rw [if_pos rfl] at q ⊢; exact k true ρ1 H01 H1 q a1 e1
    | false => rw [if_neg Bool.false_ne_true] at q ⊢; exact q c H01 H1 σ Q a1 x fun b ρ2 H02 H2 q2 a2 e2 => k b ρ2 H02 H2 q2 a2 (e1.trans e2)
theorem wT_not (h : wT w t ρ fun b ρ1 => ΦB (!b) ρ1) : wT w (tNot t) ρ ΦB := fun c H0 H σ Q a x k =>
  h c H0 H σ _ a x fun b ρ1 H01 H1 q a1 e1 => k (!b) ρ1 H01 H1 q a1 e1
theorem wT_yes (q : ΦB true ρ) : wT w tYes ρ ΦB := fun c H0 H σ Q a x k => k true ρ H0 H q a (.refl _)
theorem wE_andV (h : wE w ta ρ fun d ρ1 => ∃ b, d = .bl b ∧ if b = true then wE w tb ρ1 Φ else Φ (.bl false) ρ1) : wE w (tAndV ta tb) ρ Φ := fun c H0 H σ Q a x k =>
  h c H0 H σ _ a x fun v d ρ1 H01 H1 ⟨b, e, q⟩ a1 e1 r1 => by
    subst e; cases r1
    refine ⟨b, rfl, ?_⟩
    cases b with
    | true => rw [if_pos rfl] at q ⊢; exact q c H01 H1 σ Q a1 x fun v d ρ2 H02 H2 q2 a2 e2 => k v d ρ2 H02 H2 q2 a2 (e1.trans e2)
    | false => rw [if_neg Bool.false_ne_true] at q ⊢; exact k _ _ ρ1 H01 H1 q a1 e1 (.bl false)
theorem wE_notV (h : wE w ta ρ fun d ρ1 => ∃ b, d = .bl b ∧ Φ (.bl (!b)) ρ1) : wE w (tNotV ta) ρ Φ := fun c H0 H σ Q a x k =>
  h c H0 H σ _ a x fun v d ρ1 H01 H1 ⟨b, e, q⟩ a1 e1 r1 => by subst e; cases r1; exact ⟨b, rfl, k _ _ ρ1 H01 H1 q a1 e1 (.bl _)⟩
theorem wE_if (h : wT w t ρ fun b ρ1 => if b = true then wE w ta ρ1 Φ else wE w tb ρ1 Φ) : wE w (tIf t ta tb) ρ Φ := fun c H0 H σ Q a x k =>
  h c H0 H σ _ a x fun b ρ1 H01 H1 q a1 e1 => by
    cases b with
    | true => rw [if_pos rfl] at q ⊢; exact q c H01 H1 σ Q a1 x fun v d ρ2 H02 H2 q2 a2 e2 => k v d ρ2 H02 H2 q2 a2 (e1.trans e2)
    | false => rw [if_neg Bool.false_ne_true] at q ⊢; exact q c H01 H1 σ Q a1 x fun v d ρ2 H02 H2 q2 a2 e2 => k v d ρ2 H02 H2 q2 a2 (e1.trans e2)
/-- a < b < c -/
theorem wE_chain {r' : R2} {g g' : D → D → (D → Prop) → Prop} (o : OpD w.K r g) (o' : OpD w.K r' g')
    (h : wE w ta ρ fun dx ρ1 => wE w tb ρ1 fun dy ρ2 => g dx dy fun d => ∃ b, d = .bl b ∧ if b = true then wE w tc ρ2 fun dz ρ3 => g' dy dz fun d => Φ d ρ3 else Φ (.bl false) ρ2) : wE w (tChain r r' ta tb tc) ρ Φ := fun c H0 H σ Q a x k =>
  h c H0 H σ _ a x fun vx dx ρ1 H01 H1 h1 a1 e1 r1 => h1 c H01 H1 σ _ a1 x fun vy dy ρ2 H02 H2 h2 a2 e2 r2 => o H02 H2 vx vy dx dy _ _ a2.px.i (r1.mono e2) r2 h2 fun v d H03 H3 ⟨b, e, q⟩ p r => by
    subst e; cases r
    refine ⟨b, rfl, ?_⟩
    have a3 := a2.go p
    cases b with
    | true =>
      rw [if_pos rfl] at q ⊢
      exact q c H03 H3 σ _ a3 x fun vz dz ρ3 H04 H4 h4 a4 e4 r4 => o' H04 H4 vy vz dy dz _ Q a4.px.i (r2.mono (p.e0.trans e4)) r4 h4 fun v d H0' H' q' p' r' => k v d ρ3 H0' H' q' (a4.go p') (((e1.trans e2).trans (p.e0.trans e4)).trans p'.e0) r'
    | false => rw [if_neg Bool.false_ne_true] at q ⊢; exact k _ _ ρ2 H03 H3 q a3 ((e1.trans e2).trans p.e0) (.bl false)
/-! arguments, tuples, lists -/
theorem wA_nil (q : ΦA [] ρ) : wA w tNil ρ ΦA := fun c H0 H σ Q a x k => k [] [] ρ H0 H q a (.refl _) .nil
theorem wA_cons {tr : TA} (h : wE w ta ρ fun d ρ1 => wA w tr ρ1 fun ds ρ2 => ΦA (d :: ds) ρ2) : wA w (tCons ta tr) ρ ΦA := fun c H0 H σ Q a x k =>
  h c H0 H σ _ a x fun v d ρ1 H01 H1 h1 a1 e1 r1 => h1 c H01 H1 σ _ a1 x fun vs ds ρ2 H02 H2 h2 a2 e2 r2 => k (v :: vs) (d :: ds) ρ2 H02 H2 h2 a2 (e1.trans e2) (.cons (r1.mono e2) r2)
theorem len_ok {n : Nat} (h : n ≤ 1000000) : n ≤ sizeLine := Nat.le_trans h (by decide)
theorem len_lt {n : Nat} (h : n < 1000000) : n < sizeLine := Nat.lt_of_lt_of_le h (by decide)
theorem wE_tup {t' : TA} (h : wA w t' ρ fun ds ρ1 => ds.length ≤ 1000000 ∧ Φ (.tup ds) ρ1) : wE w (tTup t') ρ Φ := fun c H0 H σ Q a x k =>
  h c H0 H σ _ a x fun vs ds ρ1 H01 H1 h1 a1 e1 r1 => ⟨len_ok (by rw [r1.length]; exact h1.1), fun p hp => by
    have y : PX ⟨H1, H01, []⟩ (upd H01 p (.tup vs)) (upd H1 p (.tup vs)) := (PX.refl a1.px.i).new hp
    exact k _ _ ρ1 _ _ h1.2 (a1.go y) (e1.trans y.e0) (.tup (.inl (.inl upd_same)) (r1.mono y.e0))⟩
theorem wE_lst {t' : TA} (h : wA w t' ρ fun ds ρ1 => ds.length ≤ 1000000 ∧ Φ (.lst ds) ρ1) : wE w (tLst t') ρ Φ := fun c H0 H σ Q a x k =>
  h c H0 H σ _ a x fun vs ds ρ1 H01 H1 h1 a1 e1 r1 => ⟨len_ok (by rw [r1.length]; exact h1.1), fun p hp => by
    have y : PX ⟨H1, H01, []⟩ (upd H01 p (.lst vs)) (upd H1 p (.lst vs)) := (PX.refl a1.px.i).new hp
    exact k _ _ ρ1 _ _ h1.2 (a1.go y) (e1.trans y.e0) (.lst upd_same (r1.mono y.e0))⟩
/-- o.f -/
theorem wE_fld {f : Str} (h : wE w te ρ fun d ρ1 => ∃ C fs x, d = .ins C fs ∧ Cls w.K C ∧ NoAttr w.K C f ∧ fs.lookup f = some x ∧ Φ x ρ1) : wE w (tFld w.K te f) ρ Φ := fun c H0 H σ Q a x k =>
  h c H0 H σ _ a x fun v d ρ1 H01 H1 ⟨C, fs, y, e, hc, hn, hl, q⟩ a1 e1 r1 => by
    subst e
    cases r1 with
    | ins hp hk =>
      obtain ⟨u, h1, r⟩ := hk.lookup hl
      exact ⟨_, C, _, _, u, rfl, a1.px.i _ _ hp, hc, hn, h1, k u y ρ1 H01 H1 q a1 e1 r⟩
end
end DL
namespace DL
open PySem PySem.Spec L2
open PyProof.Rows hiding St
/-! ### statements -/
/-- what is wanted behind a statement, of data -/
structure DE where
  nx : Env' → Prop
  rt : D → Env' → Prop := fun _ _ => False
  /-- a new list, nobody's yet, is returned -/
  ro : List D → Env' → Prop := fun _ _ => False
  bk : Env' → Prop := fun _ => False
  ct : Env' → Prop := fun _ => False
structure Link (w : Wx) (c : Ctx) (Dn : Ends) (E : DE) : Prop where
  nx : ∀ ρ H0 H σ, E.nx ρ → At w.K c ρ H0 H σ → Dn.nx σ H
  rt : ∀ d v ρ H0 H σ, E.rt d ρ → At w.K c ρ H0 H σ → Rep w.K H0 v d → Dn.rt v H
  ro : ∀ ds p us ρ H0 H σ, E.ro ds ρ → At w.K c ρ H0 H σ → H0 p = none → c.He p = none → H p = some (.lst us) → RepAll w.K H0 us ds → Dn.rt (.ref p) H
  bk : ∀ ρ H0 H σ, E.bk ρ → At w.K c ρ H0 H σ → Dn.bk σ H
  ct : ∀ ρ H0 H σ, E.ct ρ → At w.K c ρ H0 H σ → Dn.ct σ H
def wS (w : Wx) (ts : TS) (E : DE) (ρ : Env') : Prop := ∀ (c : Ctx) (Dn : Ends) (H0 H : Hp) (σ : St), At w.K c ρ H0 H σ → XLink w c → Link w c Dn E → ts Dn σ H
/-- a target of an assignment -/
def wG (w : Wx) (g : TG) (d : D) (ρ : Env') (Φ : Env' → Prop) : Prop := ∀ (c : Ctx) (H0 H : Hp) (σ : St) (v : V) (Q : St → Hp → Prop), At w.K c ρ H0 H σ → XLink w c → Rep w.K H0 v d →
  (∀ ρ' H0' H' σ', Φ ρ' → At w.K c ρ' H0' H' σ' → Ex H0 H0' → Q σ' H') → g v σ H Q
def wGs (w : Wx) (g : TGs) (ds : List D) (ρ : Env') (Φ : Env' → Prop) : Prop := ∀ (c : Ctx) (H0 H : Hp) (σ : St) (vs : List V) (Q : St → Hp → Prop), At w.K c ρ H0 H σ → XLink w c → RepAll w.K H0 vs ds →
  (∀ ρ' H0' H' σ', Φ ρ' → At w.K c ρ' H0' H' σ' → Ex H0 H0' → Q σ' H') → g vs σ H Q
section
variable {w : Wx} {ρ : Env'} {E : DE} {Φ : D → Env' → Prop} {te ta tb : TE} {t u : TS} {g : TG}
theorem wS_mono {E' : DE} (h : wS w t E ρ) (k1 : ∀ ρ, E.nx ρ → E'.nx ρ) (k2 : ∀ d ρ, E.rt d ρ → E'.rt d ρ) (k5 : ∀ d ρ, E.ro d ρ → E'.ro d ρ) (k3 : ∀ ρ, E.bk ρ → E'.bk ρ) (k4 : ∀ ρ, E.ct ρ → E'.ct ρ) : wS w t E' ρ := fun c Dn H0 H σ a x l =>
  h c Dn H0 H σ a x ⟨fun ρ H0 H σ q => l.nx ρ H0 H σ (k1 ρ q), fun d v ρ H0 H σ q => l.rt d v ρ H0 H σ (k2 d ρ q), fun ds p us ρ H0 H σ q => l.ro ds p us ρ H0 H σ (k5 ds ρ q), fun ρ H0 H σ q => l.bk ρ H0 H σ (k3 ρ q), fun ρ H0 H σ q => l.ct ρ H0 H σ (k4 ρ q)⟩
theorem wS_seq (h : wS w t { E with nx := fun ρ1 => wS w u E ρ1 } ρ) : wS w (tSeq t u) E ρ := fun c Dn H0 H σ a x l =>
  h c { Dn with nx := u Dn } H0 H σ a x ⟨fun ρ1 H01 H1 σ1 q a1 => q c Dn H01 H1 σ1 a1 x l, l.rt, l.ro, l.bk, l.ct⟩
theorem wS_next (q : E.nx ρ) : wS w tNext E ρ := fun c Dn H0 H σ a x l => l.nx ρ H0 H σ q a
theorem wS_drop (h : wE w te ρ fun _ ρ1 => E.nx ρ1) : wS w (tDrop te) E ρ := fun c Dn H0 H σ a x l => h c H0 H σ _ a x fun v d ρ1 H01 H1 q a1 e1 r1 => l.nx ρ1 H01 H1 σ q a1
theorem wS_ret (h : wE w te ρ fun d ρ' => E.rt d ρ') : wS w (tRet te) E ρ := fun c Dn H0 H σ a x l => h c H0 H σ _ a x fun v d ρ1 H01 H1 q a1 e1 r1 => l.rt d v ρ1 H01 H1 σ q a1 r1
theorem wS_retOwn {t' : TA} (h : wA w t' ρ fun ds ρ1 => ds.length ≤ 1000000 ∧ E.ro ds ρ1) : wS w (tRet (tLst t')) E ρ := fun c Dn H0 H σ a x l =>
  h c H0 H σ _ a x fun vs ds ρ1 H01 H1 ⟨hz, q⟩ a1 e1 r1 => ⟨len_ok (by rw [r1.length]; exact hz), fun p hp => l.ro ds p vs ρ1 H01 _ σ q (a1.go ((PX.refl a1.px.i).change (a1.px.i.back hp) hp)) (a1.px.i.back hp) (a1.px.e.back hp) upd_same r1⟩
theorem wS_if {tt : TT} (h : wT w tt ρ fun b ρ1 => if b = true then wS w t E ρ1 else wS w u E ρ1) : wS w (tIfS tt t u) E ρ := fun c Dn H0 H σ a x l =>
  h c H0 H σ _ a x fun b ρ1 H01 H1 q a1 e1 => by
    cases b with
    | true => rw [if_pos rfl] at q ⊢; exact q c Dn H01 H1 σ a1 x l
    | false => rw [if_neg Bool.false_ne_true] at q ⊢; exact q c Dn H01 H1 σ a1 x l
theorem wS_asg (h : wE w te ρ fun d ρ1 => wG w g d ρ1 E.nx) : wS w (tAsg te g) E ρ := fun c Dn H0 H σ a x l =>
  h c H0 H σ _ a x fun v d ρ1 H01 H1 q a1 e1 r1 => q c H01 H1 σ v _ a1 x r1 fun ρ2 H02 H2 σ2 q2 a2 _ => l.nx ρ2 H02 H2 σ2 q2 a2
theorem wG_name {i : Nat} {d : D} {Ψ : Env' → Prop} (q : Ψ (ρ.set i (some (.dat d)))) : wG w (gName i) d ρ Ψ := fun c H0 H σ v Q a x r k => k _ H0 H _ q (a.setDat r i) (.refl _)
theorem wG_tup {n : Nat} {gs : TGs} {d : D} {Ψ : Env' → Prop} (h : ∃ ds, d = .tup ds ∧ ds.length = n ∧ wGs w gs ds ρ Ψ) : wG w (gTup w.K n gs) d ρ Ψ := fun c H0 H σ v Q a x r k => by
  obtain ⟨ds, rfl, hn, q⟩ := h
  cases r with
  | tup hs hr => exact ⟨_, _, rfl, sqT_ex a.px.i hs, hr.length.trans hn, q c H0 H σ _ Q a x hr k⟩
theorem wGs_nil {Ψ : Env' → Prop} (q : Ψ ρ) : wGs w gNil [] ρ Ψ := fun c H0 H σ vs Q a x r k => by
  cases r
  exact ⟨rfl, k ρ H0 H σ q a (.refl _)⟩
theorem wGs_cons {gs : TGs} {d : D} {ds : List D} {Ψ : Env' → Prop} (h : wG w g d ρ fun ρ1 => wGs w gs ds ρ1 Ψ) : wGs w (gCons g gs) (d :: ds) ρ Ψ := fun c H0 H σ vs Q a x r k => by
  cases r with
  | cons r1 rs => exact ⟨_, _, rfl, h c H0 H σ _ _ a x r1 fun ρ1 H01 H1 σ1 q a1 e1 => q c H01 H1 σ1 _ Q a1 x (rs.mono e1) fun ρ2 H02 H2 σ2 q2 a2 e2 => k ρ2 H02 H2 σ2 q2 a2 (e1.trans e2)⟩
/-- x = [..], the list one's own -/
theorem wS_asgOwn {i : Nat} {t' : TA} (h : wA w t' ρ fun ds ρ1 => ds.length ≤ 1000000 ∧ E.nx (ρ1.set i (some (.own none (.lst ds))))) : wS w (tAsg (tLst t') (gName i)) E ρ := fun c Dn H0 H σ a x l =>
  h c H0 H σ _ a x fun vs ds ρ1 H01 H1 ⟨hz, q⟩ a1 e1 r1 => ⟨len_ok (by rw [r1.length]; exact hz), fun p hp => l.nx _ _ _ _ q (a1.setOwn hp (.lst r1) i)⟩
theorem own_lst {K : PySem.W.Frag} {H0 : Hp} {o : HO} {ds : List D} (r : RepO K H0 o (.lst ds)) : ∃ vs, o = .lst vs ∧ RepAll K H0 vs ds := by
  cases r with
  | lst h => exact ⟨_, rfl, h⟩
/-- x.append(e), x one's own -/
theorem wS_append {i : Nat} (h : wE w te ρ fun d ρ1 => ∃ t ds, ρ1[i]? = some (some (.own t (.lst ds))) ∧ ds.length < 1000000 ∧ E.nx (ρ1.set i (some (.own t (.lst (ds ++ [d])))))) (h0 : ∃ t ds, ρ[i]? = some (some (.own t (.lst ds)))) : wS w (tDrop (tBM w.K "list" rAppend (tVar i) (tCons te tNil))) E ρ := fun c Dn H0 H σ a x l => by
  obtain ⟨t0, ds0, h0⟩ := h0
  obtain ⟨p, o, h1, h2, _, _, r⟩ := a.own h0
  obtain ⟨vs0, rfl, r0⟩ := own_lst r
  refine ⟨.ref p, h1, .inl ⟨rfl, _, .inl (.inl h2)⟩, h c H0 H σ _ a x fun v d ρ1 H01 H1 ⟨t1, ds, g0, hz, q⟩ a1 e1 r1 => ?_⟩
  obtain ⟨p', o, g1, g2, _, _, r⟩ := a1.own g0
  rw [h1] at g1
  cases g1
  obtain ⟨vs, rfl, r2⟩ := own_lst r
  exact ⟨p, vs, v, rfl, rfl, g2, len_lt (by rw [r2.length]; exact hz), l.nx _ _ _ _ q (a1.turn g0 h1 (.lst (r2.append (.cons r1 .nil))))⟩
theorem seqIndex_nat {i n : Nat} (h : i < n) : seqIndex? (i : Int) n = some i := by
  unfold seqIndex?
  first
    | (simp; omega)
    | (rw [if_pos (by omega)]; simp)
/-- x.pop(i), x one's own -/
theorem wE_pop {i : Nat} {ti : TE} (h : wE w ti ρ fun d ρ1 => ∃ (t : Option Addr) (j : Nat) (ds : List D) (y : D), d = .int (j : Int) ∧ ρ1[i]? = some (some (.own t (.lst ds))) ∧ ds.length ≤ 1000000 ∧ ds[j]? = some y ∧ Φ y (ρ1.set i (some (.own t (.lst (ds.eraseIdx j)))))) (h0 : ∃ t ds, ρ[i]? = some (some (.own t (.lst ds)))) :
    wE w (tBM w.K "list" rPopAt (tVar i) (tCons ti tNil)) ρ Φ := fun c H0 H σ Q a x k => by
  obtain ⟨t0, ds0, h0⟩ := h0
  obtain ⟨p, o, h1, h2, _, _, r⟩ := a.own h0
  obtain ⟨vs0, rfl, r0⟩ := own_lst r
  refine ⟨.ref p, h1, .inl ⟨rfl, _, .inl (.inl h2)⟩, h c H0 H σ _ a x fun v d ρ1 H01 H1 ⟨t1, j, ds, y, e, g0, hz, hj, q⟩ a1 e1 r1 => ?_⟩
  subst e
  cases r1
  obtain ⟨p', o, g1, g2, _, _, r⟩ := a1.own g0
  rw [h1] at g1
  cases g1
  obtain ⟨vs, rfl, r2⟩ := own_lst r
  obtain ⟨yv, hy, ry⟩ := r2.get hj
  have hjl : j < ds.length := (List.getElem?_eq_some_iff.mp hj).1
  exact ⟨p, vs, (j : Int), j, yv, rfl, rfl, g2, by omega, by omega, seqIndex_nat (by rw [r2.length]; exact hjl), hy, k yv y _ H01 _ q (a1.turn g0 h1 (.lst (r2.erase j))) e1 ry⟩
/-- len(x), x[k] of one's own: it stays one's own -/
theorem wE_lenOwn {i : Nat} {t : Option Addr} {ds : List D} {rl : List V → Hp → VK → Prop} (o : CbD w.K rl fun as Ψ => ∃ es, as = [.lst es] ∧ es.length ≤ 1000000 ∧ Ψ (.int es.length)) (h : ρ[i]? = some (some (.own t (.lst ds)))) (hz : ds.length ≤ 1000000) (q : Φ (.int ds.length) ρ) :
    wE w (tCB rl (tCons (tVar i) tNil)) ρ Φ := fun c H0 H σ Q a x k => by
  obtain ⟨p, ho, h1, h2, h0, _, r⟩ := a.own h
  refine ⟨.ref p, h1, o H H [.ref p] [.lst ds] (fun d => d = .int ds.length) Q (.refl _) (.cons ?_ .nil) ⟨ds, rfl, hz, rfl⟩ fun v d H0' H' e y r' => ?_⟩
  · cases r with
    | lst hr => exact .lst h2 (hr.mono a.px.i)
  · subst e
    cases r'
    have y' : PX ⟨H, H0, []⟩ H0 H' := ⟨y.e, .refl _, a.px.i.trans y.ex, fun _ _ h => h⟩
    exact k _ _ ρ H0 H' q (a.go y') (.refl _) (.int _)
end
/-! ### loops -/
/-- what a for walks: the items, all of them data -/
def wI (w : Wx) (wi : TI) (ρ : Env') (Φ : List D → Env' → Prop) : Prop := ∀ (c : Ctx) (H0 H : Hp) (σ : St) (R : It → Hp → Prop), At w.K c ρ H0 H σ → XLink w c →
  (∀ (J : It) (ds : List D) ρ' H0' H', Φ ds ρ' → At w.K c ρ' H0' H' σ → Ex H0 H0' →
    (∀ i H01 H1, Ex H0' H01 → Ex H01 H1 → i < ds.length → J.go i H1) → (∀ H01 H1, Ex H0' H01 → Ex H01 H1 → J.stop ds.length H1) →
    (∀ i H01 H1 x H2, Ex H0' H01 → Ex H01 H1 → i < ds.length → J.yld i H1 x H2 → ∃ d H02, ds[i]? = some d ∧ PX ⟨H1, H01, []⟩ H02 H2 ∧ Rep w.K H02 x d) → R J H') → wi σ H R
section
variable {w : Wx} {ρ : Env'} {E : DE} {te ta tb : TE} {ts : TS} {g : TG}
theorem wS_for {wi : TI} (h : wI w wi ρ fun ds ρ1 => ∃ I : Nat → Env' → Prop, I 0 ρ1 ∧ (∀ i d ρ', ds[i]? = some d → I i ρ' → wG w g d ρ' fun ρ2 => wS w ts { nx := I (i + 1), ct := I (i + 1), bk := E.nx, rt := E.rt, ro := E.ro } ρ2) ∧ (∀ ρ', I ds.length ρ' → E.nx ρ')) :
    wS w (tFor wi g ts) E ρ := fun c Dn H0 H σ a x l => by
  refine h c H0 H σ _ a x fun J ds ρ1 H01 H1 ⟨I, i0, step, done⟩ a1 e1 go stop yld => ?_
  have x2 := x.part a1.px
  refine ⟨fun i m σ' H' => m = ds.length - i ∧ i ≤ ds.length ∧ ∃ ρ' H0', I i ρ' ∧ At w.K ⟨c.He, H01, c.T⟩ ρ' H0' H' σ', ⟨_, rfl, Nat.zero_le _, ρ1, H01, i0, a1.part⟩, ?_⟩
  rintro i m σ' H' ⟨rfl, hi, ρ', H0', hI, a'⟩
  by_cases hlt : i < ds.length
  · refine .inr ⟨go i H0' H' a'.px.e0 a'.px.i hlt, fun σ2 H2 => ∃ ρ2 H02, I (i + 1) ρ2 ∧ At w.K ⟨c.He, H01, c.T⟩ ρ2 H02 H2 σ2, fun σ2 H2 ⟨ρ2, H02, q, a2⟩ => ⟨ds.length - (i + 1), by omega, rfl, hlt, ρ2, H02, q, a2⟩, fun v H2 y => ?_⟩
    obtain ⟨d, H02, hd, p2, r2⟩ := yld i H0' H' v H2 a'.px.e0 a'.px.i hlt y
    refine step i d ρ' hd hI ⟨c.He, H01, c.T⟩ H02 H2 σ' v _ (a'.go p2) x2 r2 fun ρ3 H03 H3 σ3 q3 a3 _ => ?_
    refine q3 ⟨c.He, H01, c.T⟩ _ H03 H3 σ3 a3 x2 ⟨fun ρ4 H04 H4 σ4 q4 a4 => ⟨ρ4, H04, q4, a4⟩, fun d v ρ4 H04 H4 σ4 q4 a4 r4 => l.rt d v ρ4 H04 H4 σ4 q4 (At.unpart a1.px a4) r4, fun ds p us ρ4 H04 H4 σ4 q4 a4 g1 g2 g3 g4 => l.ro ds p us ρ4 H04 H4 σ4 q4 (At.unpart a1.px a4) g1 g2 g3 g4, fun ρ4 H04 H4 σ4 q4 a4 => l.nx ρ4 H04 H4 σ4 q4 (At.unpart a1.px a4), fun ρ4 H04 H4 σ4 q4 a4 => ⟨ρ4, H04, q4, a4⟩⟩
  · have e : i = ds.length := by omega
    subst e
    exact .inl ⟨stop H0' H' a'.px.e0 a'.px.i, l.nx ρ' H0' H' σ' (done ρ' hI) (At.unpart a1.px a')⟩
end
/-! ### comprehensions -/
theorem get_wipe {σ : St} {k : Nat} : ∀ (vs : List Nat), k ∉ vs → (wipe σ vs)[k]? = σ[k]?
  | [], _ => rfl
  | v :: vs, h => by
    have h1 : v ≠ k := fun e => h (by rw [e]; exact List.mem_cons_self)
    unfold wipe
    rw [List.getElem?_set_ne h1]
    exact get_wipe vs fun m => h (List.mem_cons_of_mem _ m)
theorem get_wiped {σ : St} {k : Nat} : ∀ (vs : List Nat), k ∈ vs → (wipe σ vs)[k]? = if k < σ.length then some none else none
  | [], h => by cases h
  | v :: vs, h => by
    unfold wipe
    by_cases e : v = k
    · subst e
      by_cases hl : v < σ.length
      · rw [if_pos hl, List.getElem?_set_self (by rw [wipe_length]; exact hl)]
      · rw [if_neg hl]
        exact List.getElem?_eq_none (by rw [List.length_set, wipe_length]; omega)
    · rw [List.getElem?_set_ne e]
      exact get_wiped vs ((List.mem_cons.mp h).resolve_left fun q => e q.symm)
theorem wipe_set {σ : St} {i : Nat} {x : Option V} {vs : List Nat} (h : i ∈ vs) : wipe (σ.set i x) vs = wipe σ vs := by
  apply List.ext_getElem?
  intro k
  by_cases hk : k ∈ vs
  · rw [get_wiped vs hk, get_wiped vs hk, List.length_set]
  · rw [get_wipe vs hk, get_wipe vs hk, List.getElem?_set_ne (fun e : i = k => hk (by rw [← e]; exact h))]
theorem wipe_wipe {σ : St} {vs : List Nat} : wipe (wipe σ vs) vs = wipe σ vs := by
  apply List.ext_getElem?
  intro k
  by_cases hk : k ∈ vs
  · rw [get_wiped vs hk, get_wiped vs hk, wipe_length]
  · rw [get_wipe vs hk]
/-- a target that stores in these slots alone -/
def Only (g : TG) (vs : List Nat) : Prop := ∀ v σ H (Q : St → Hp → Prop), g v σ H Q → g v σ H fun σ' H' => wipe σ' vs = wipe σ vs ∧ Q σ' H'
def OnlyS (g : TGs) (vs : List Nat) : Prop := ∀ v σ H (Q : St → Hp → Prop), g v σ H Q → g v σ H fun σ' H' => wipe σ' vs = wipe σ vs ∧ Q σ' H'
theorem only_name {i : Nat} {vs : List Nat} (h : i ∈ vs) : Only (gName i) vs := fun _ _ _ _ q => ⟨wipe_set h, q⟩
theorem onlyS_nil {vs : List Nat} : OnlyS gNil vs := fun _ _ _ _ q => ⟨q.1, rfl, q.2⟩
theorem onlyS_cons {g : TG} {gs : TGs} {vs : List Nat} (mg : ∀ v σ H (Q Q' : St → Hp → Prop), (∀ σ' H', Q σ' H' → Q' σ' H') → g v σ H Q → g v σ H Q') (mgs : ∀ v σ H (Q Q' : St → Hp → Prop), (∀ σ' H', Q σ' H' → Q' σ' H') → gs v σ H Q → gs v σ H Q')
    (h1 : Only g vs) (h2 : OnlyS gs vs) : OnlyS (gCons g gs) vs := fun v σ H Q q => by
  obtain ⟨x, r, e, q⟩ := q
  refine ⟨x, r, e, mg _ _ _ _ _ (fun σ' H' ⟨ez, z⟩ => ?_) (h1 _ _ _ _ q)⟩
  exact mgs _ _ _ _ _ (fun σ2 H2 ⟨e2, z2⟩ => ⟨e2.trans ez, z2⟩) (h2 _ _ _ _ z)
theorem only_tup {K : PySem.W.Frag} {n : Nat} {gs : TGs} {vs : List Nat} (h : OnlyS gs vs) : Only (gTup K n gs) vs := fun v σ H Q q => by
  obtain ⟨a, xs, e, hs, hl, q⟩ := q
  exact ⟨a, xs, e, hs, hl, h _ _ _ _ q⟩
theorem mono_name {i : Nat} : ∀ v σ H (Q Q' : St → Hp → Prop), (∀ σ' H', Q σ' H' → Q' σ' H') → gName i v σ H Q → gName i v σ H Q' := fun _ _ _ _ _ k q => k _ _ q
theorem mono_nil : ∀ v σ H (Q Q' : St → Hp → Prop), (∀ σ' H', Q σ' H' → Q' σ' H') → gNil v σ H Q → gNil v σ H Q' := fun _ _ _ _ _ k q => ⟨q.1, k _ _ q.2⟩
theorem mono_consN {i : Nat} {gs : TGs} (m : ∀ v σ H (Q Q' : St → Hp → Prop), (∀ σ' H', Q σ' H' → Q' σ' H') → gs v σ H Q → gs v σ H Q') : ∀ v σ H (Q Q' : St → Hp → Prop), (∀ σ' H', Q σ' H' → Q' σ' H') → gCons (gName i) gs v σ H Q → gCons (gName i) gs v σ H Q' :=
  fun _ _ _ _ _ k q => by obtain ⟨x, r, e, q⟩ := q; exact ⟨x, r, e, m _ _ _ _ _ k q⟩
/-- (i, j) -/
theorem only_pair {K : PySem.W.Frag} {i j : Nat} {vs : List Nat} (h1 : i ∈ vs) (h2 : j ∈ vs) : Only (gTup K 2 (gCons (gName i) (gCons (gName j) gNil))) vs :=
  only_tup (onlyS_cons mono_name (mono_consN mono_nil) (only_name h1) (onlyS_cons mono_name mono_nil (only_name h2) onlyS_nil))
def wipeE (ρ : Env') : List Nat → Env'
  | [] => ρ
  | j :: r => (wipeE ρ r).set j none
section
variable {K : PySem.W.Frag} {H0 H : Hp} {c : Ctx}
theorem Slots.setNone : ∀ {ρ : Env'} {σ : St} {os : List Addr} (i : Nat), Slots K H0 H ρ σ os → ∃ os', Slots K H0 H (ρ.set i none) (σ.set i none) os' ∧ os'.Sublist os
  | _, _, _, _, .nil => ⟨[], .nil, .slnil⟩
  | _, _, _, 0, .skip h => ⟨_, .skip h, .refl _⟩
  | _, _, _, i + 1, .skip h => let ⟨os', h1, h2⟩ := h.setNone i; ⟨os', .skip h1, h2⟩
  | _, _, _, 0, .dat _ h => ⟨_, .skip h, .refl _⟩
  | _, _, _, i + 1, .dat r' h => let ⟨os', h1, h2⟩ := h.setNone i; ⟨os', .dat r' h1, h2⟩
  | _, _, _, 0, .own _ _ _ h => ⟨_, .skip h, List.sublist_cons_self _ _⟩
  | _, _, _, i + 1, .own ht hp r' h => let ⟨os', h1, h2⟩ := h.setNone i; ⟨_ :: os', .own ht hp r' h1, .cons_cons _ h2⟩
theorem At.wiped {ρ : Env'} {σ : St} (a : At K c ρ H0 H σ) : ∀ vs : List Nat, At K c (wipeE ρ vs) H0 H (wipe σ vs)
  | [] => a
  | v :: vs => by
    obtain ⟨os, s, nd, f⟩ := (a.wiped vs).sl
    obtain ⟨os', s', sub⟩ := s.setNone v
    exact ⟨a.px, a.tab, os', s', nd.sublist sub, fun p hp => f p (sub.subset hp)⟩
end
/-- where nothing is raised -/
abbrev Wx.quiet (w : Wx) : Wx := ⟨w.K, fun _ _ _ => False, fun _ => False, w.T⟩
theorem quiet_link {w : Wx} {c : Ctx} (h : c.T = w.T) : XLink w.quiet c := ⟨h, fun _ h => h.elim⟩
theorem ExN.lst {T : List (Addr × Str)} {H H' : Hp} {a : Addr} {us : List V} (x : ExN T H H') (h : H a = some (.lst us)) : H' a = some (.lst us) := (x a _ h).elim id fun ⟨_, _, _, e, _⟩ => nomatch e
/-- [e for target in items if test]: I i acc, acc made of the first i items -/
theorem wE_lc {w : Wx} {ρ : Env'} {Φ : D → Env' → Prop} {wi : TI} {g : TG} {tt : TT} {te : TE} {vs : List Nat} (hon : Only g vs)
    (h : wI w wi ρ fun ds ρ1 => ds.length ≤ 1000000 ∧ ∃ I : Nat → List D → Prop, I 0 [] ∧ (∀ i d acc, ds[i]? = some d → I i acc → wG w.quiet g d (wipeE (hide ρ1) vs) fun ρ2 => wT w.quiet tt ρ2 fun b ρ3 =>
      if b = true then wE w.quiet te ρ3 fun y _ => I (i + 1) (acc ++ [y]) else I (i + 1) acc) ∧ (∀ acc, acc.length ≤ ds.length → I ds.length acc → Φ (.lst acc) ρ1)) : wE w (tLc wi g tt te vs) ρ Φ := fun c H0 H σ Q a x k => by
  refine h c H0 H σ _ a x fun J ds ρ1 H01 H1 ⟨hz, I, i0, step, done⟩ a1 e1 go stop yld => ?_
  intro Dl hD
  have hD0 : H01 Dl = none := a1.px.i.back hD
  refine ⟨fun i m H' => m = ds.length - i ∧ i ≤ ds.length ∧ ∃ H0' us acc, PX ⟨H1, H01, c.T⟩ H0' H' ∧ TabA c.T H0' H' ∧ H' Dl = some (.lst us) ∧ H0' Dl = none ∧ RepAll w.K H0' us acc ∧ acc.length ≤ i ∧ I i acc,
    ⟨_, rfl, Nat.zero_le _, H01, [], [], (PX.refl a1.px.i).change hD0 hD, a1.tab.keep (ext_both (Ex.new hD)) (fun _ h _ => h), upd_same, hD0, .nil, Nat.zero_le _, i0⟩, ?_⟩
  rintro i m H' ⟨rfl, hi, H0', us, acc, p, tb, hl, h0, r, hn, hI⟩
  have known : ∀ {H : Hp} {us : List V}, H Dl = some (.lst us) → H Dl ≠ none := fun e z => by rw [e] at z; cases z
  have tabD : ∀ {H : Hp} {us us' : List V}, H Dl = some (.lst us) → ∀ b o, H b = some o → (∀ xs, o ≠ .lst xs) → (∀ xs, o ≠ .dK xs) → (∀ C dx xs, o ≠ .ins C dx xs) → upd H Dl (.lst us') b = some o := fun {H us us'} e b o hb n1 _ _ => by
    have hne : b ≠ Dl := fun z => by
      rw [z, e] at hb
      cases hb
      exact n1 _ rfl
    exact (upd_ne hne).trans hb
  by_cases hlt : i < ds.length
  · refine .inr ⟨go i H0' H' p.e0 p.i hlt, fun H'' => ∃ H0' us acc, PX ⟨H1, H01, c.T⟩ H0' H'' ∧ TabA c.T H0' H'' ∧ H'' Dl = some (.lst us) ∧ H0' Dl = none ∧ RepAll w.K H0' us acc ∧ acc.length ≤ i + 1 ∧ I (i + 1) acc,
      fun H'' ⟨H0', us, acc, q⟩ => ⟨ds.length - (i + 1), by omega, rfl, hlt, H0', us, acc, q⟩, fun v H2 y => ?_⟩
    obtain ⟨d, H02, hd, p2, r2⟩ := yld i H0' H' v H2 p.e0 p.i hlt y
    have P2 := p.trans p2
    have l2 : H2 Dl = some (.lst us) := p2.ex _ _ hl
    have n2 : H02 Dl = none := p2.n Dl (known hl) h0
    have tb2 : TabA c.T H02 H2 := tb.keep (ext_both p2.ex) fun q h1 ⟨ps, h2⟩ => p2.n q (by show H' q ≠ none; rw [h2]; exact nofun) h1
    have aw : At w.quiet.K ⟨H2, H02, c.T⟩ (wipeE (hide ρ1) vs) H02 H2 (wipe σ vs) := ((a1.goT P2 tb2).freshT).wiped vs
    have ql : XLink w.quiet ⟨H2, H02, c.T⟩ := quiet_link x.t
    have s := step i d acc hd hI ⟨H2, H02, c.T⟩ H02 H2 (wipe σ vs) v (fun σ2 H2' => tt σ2 H2' fun b H3 => if b = true then te σ2 H3 fun y H4 => ∃ acc, H4 Dl = some (.lst acc) ∧ acc.length < sizeLine ∧
      (∃ H0' us ac, PX ⟨H1, H01, c.T⟩ H0' (upd H4 Dl (.lst (acc ++ [y]))) ∧ TabA c.T H0' (upd H4 Dl (.lst (acc ++ [y]))) ∧ (upd H4 Dl (.lst (acc ++ [y]))) Dl = some (.lst us) ∧ H0' Dl = none ∧ RepAll w.K H0' us ac ∧ ac.length ≤ i + 1 ∧ I (i + 1) ac)
      else (∃ H0' us ac, PX ⟨H1, H01, c.T⟩ H0' H3 ∧ TabA c.T H0' H3 ∧ H3 Dl = some (.lst us) ∧ H0' Dl = none ∧ RepAll w.K H0' us ac ∧ ac.length ≤ i + 1 ∧ I (i + 1) ac)) aw ql r2 fun ρ3 H03 H3 σ3 q3 a3 e3 => ?_
    · have s2 := hon _ _ _ _ s
      rw [wipe_wipe] at s2
      exact s2
    · refine q3 ⟨H2, H02, c.T⟩ H03 H3 σ3 _ a3 ql fun b ρ4 H04 H4 q4 a4 e4 => ?_
      cases b with
      | true =>
        rw [if_pos rfl] at q4 ⊢
        refine q4 ⟨H2, H02, c.T⟩ H04 H4 σ3 _ a4 ql fun yv yd ρ5 H05 H5 q5 a5 e5 r5 => ?_
        have l5 : H5 Dl = some (.lst us) := a5.px.e.lst l2
        have n5 : H05 Dl = none := a5.px.n Dl (known l2) n2
        have P5 : PX ⟨H1, H01, c.T⟩ H05 H5 := P2.transT a5.px
        refine ⟨us, l5, len_lt (by rw [r.length]; omega), H05, us ++ [yv], acc ++ [yd], P5.change n5 hD, a5.tab.keep (tabD l5) (fun _ h _ => h), upd_same, n5, (r.mono (p2.e0.trans a5.px.e0)).append (.cons r5 .nil), by rw [List.length_append]; simp; omega, q5⟩
      | false =>
        rw [if_neg Bool.false_ne_true] at q4 ⊢
        exact ⟨H04, us, acc, P2.transT a4.px, a4.tab, a4.px.e.lst l2, a4.px.n Dl (known l2) n2, r.mono (p2.e0.trans a4.px.e0), by omega, q4⟩
  · have e : i = ds.length := by omega
    subst e
    have P := p.learn hl h0 hD
    have tb' : TabA c.T (upd H0' Dl (.lst us)) H' := tb.keep (fun _ _ h _ _ _ => h) fun q h1 ⟨ps, h2⟩ => by
      have hne : q ≠ Dl := fun z => by rw [z, hl] at h2; cases h2
      exact (upd_ne hne).trans h1
    refine .inl ⟨stop H0' H' p.e0 p.i, k _ (.lst acc) ρ1 _ H' (done acc hn hI) (a1.goT P tb') (e1.trans P.e0) (.lst upd_same (r.mono (Ex.new h0)))⟩
end DL
namespace DL
open PySem PySem.Spec L2
open PyProof.Rows hiding St
/-! ### promises over data -/
abbrev DSp := List D → (D → Prop) → (Exn → Prop) → Prop
/-- a promise over data, as one over heaps -/
def lift (K : PySem.W.Frag) (S : DSp) : Sp := fun vs H Q E => ∃ (H0 : Hp) (ds : List D) (Φ : D → Prop) (Ψ : Exn → Prop), Ex H0 H ∧ RepAll K H0 vs ds ∧ S ds Φ Ψ ∧
  (∀ v d H0' H', Φ d → PX ⟨H, H0, []⟩ H0' H' → Rep K H0' v d → Q v H') ∧ (∀ x dd H0' H', Ψ x → PX ⟨H, H0, []⟩ H0' H' → RepX K H0' H' x dd → E (.ref x.C) dd H')
def startE (N : List Str) (ds : List D) : Env' := (ds.map fun d => some (.dat d)) ++ List.replicate (N.length - ds.length) none
theorem slots_none {K : PySem.W.Frag} {H0 H : Hp} : ∀ n : Nat, Slots K H0 H (List.replicate n none) (List.replicate n none) []
  | 0 => .nil
  | n + 1 => .skip (slots_none n)
theorem slots_start {K : PySem.W.Frag} {H0 H : Hp} {n : Nat} : ∀ {vs : List V} {ds : List D}, RepAll K H0 vs ds → Slots K H0 H ((ds.map fun d => some (.dat d)) ++ List.replicate n none) (vs.map some ++ List.replicate n none) []
  | _, _, .nil => slots_none n
  | _, _, .cons r rs => .dat r (slots_start rs)
theorem at_start {K : PySem.W.Frag} {H0 H : Hp} {N : List Str} {vs : List V} {ds : List D} (e : Ex H0 H) (r : RepAll K H0 vs ds) : At K ⟨H, H0, []⟩ (startE N ds) H0 H (L2.start N vs) := by
  refine ⟨PX.refl e, .nil, [], ?_, List.nodup_nil, fun _ h => nomatch h⟩
  unfold startE L2.start
  rw [r.length]
  exact slots_start r
section
variable {P : Program} {w : World} {K : PySem.W.Frag} {mg : Str → Option Value} {base : Heap}
/-- a def of the text that keeps a promise over data -/
structure CallD (P : Program) (w : World) (K : PySem.W.Frag) (mg : Str → Option Value) (base : Heap) (x : Str) (k : Nat) (S : DSp) : Prop where
  ex : ∃ f fd ps, FnG P w K mg base k f fd ps (lift K S) ∧ mg x = some (.ref f) ∧ PySem.W.keepIn K (.ref f) = true ∧ Binds K fd ps []
end
section
variable {X : Cx} {k : Nat} {E : XK} {x : Str} {p pos : Pos} {e : Expr} {es : List Expr} {t : TA} {S : DSp}
theorem pe_callD (c : CallD X.prog X.w X.K X.mg X.base x k S) (room : RoomG k X.A) (hx : Passes (CXD X.prog X.w) X E) (ha : PA X (e :: es) t) (hg : Gl X x := by rfl) (hdb : (x == ("__debug__" : Str)) = false := by decide)
    (he : starEach (e :: es) X.env = (false, eval e X.env) :: starEach es X.env := by rfl) (hpl : (backTo pos (starEach es X.env)).any (·.1) = false := by rfl) : PE X (.Call (.Name x p) (e :: es) [] pos) (tCall (lift X.K S) [] E t) := by
  obtain ⟨f, fd, ps, F, hm, hk, hb⟩ := c.ex
  exact pe_callG F room hg hm hk hb .nil hx ha hdb he hpl
end
section
variable {w : Wx} {ρ : Env'} {Φ : D → Env' → Prop} {ta : TA} {S : DSp}
theorem wE_call (h : wA w ta ρ fun ds ρ1 => S ds (fun d => Φ d ρ1) w.X) : wE w (tCall (lift w.K S) [] w.EX ta) ρ Φ := fun c H0 H σ Q a x k =>
  h c H0 H σ _ a x fun vs ds ρ1 H01 H1 q a1 e1 r1 => ⟨H01, ds, fun d => Φ d ρ1, w.X, a1.px.i, by rw [List.append_nil]; exact r1, q,
    fun v d H0' H' z p rv => k v d ρ1 H0' H' z (a1.go p) (e1.trans p.e0) rv, fun y dd H0' H' z p rx => x.l y z dd H0' H' (a1.px.trans p) rx⟩
end
/-! ### what is walked -/
def itemsD : D → Option (List D)
  | .lst l => some l
  | .tup l => some l
  | .str s => some (s.cps.toList.map fun c => .str ⟨#[c]⟩)
  | _ => none
def rangeD (lo hi : Int) : List D := (List.range (hi - lo).toNat).map fun (i : Nat) => D.int (lo + (i : Int))
def enumD (l : List D) : List D := List.zipWith (fun (i : Nat) (d : D) => D.tup [D.int (i : Int), d]) (List.range l.length) l
section
variable {w : Wx} {ρ : Env'} {Φ : List D → Env' → Prop} {te : TE} {ta : TA}
theorem yield_at {K : PySem.W.Frag} {H0' H01 H1 : Hp} {xs : List V} {ds : List D} {i : Nat} {x : V} {H2 : Hp} (hr : RepAll K H0' xs ds) (e : Ex H0' H01) (j : Ex H01 H1) (y : YAt xs i H1 x H2) : ∃ d H02, ds[i]? = some d ∧ PX ⟨H1, H01, []⟩ H02 H2 ∧ Rep K H02 x d := by
  obtain ⟨e1, e2⟩ := y
  subst e1
  obtain ⟨d, h1, h2⟩ := hr.getV e2
  exact ⟨d, H01, h1, PX.refl j, h2.mono e⟩
theorem wI_any (h : wE w te ρ fun d ρ1 => ∃ ds, itemsD d = some ds ∧ Φ ds ρ1) : wI w (iAny w.K te) ρ Φ := fun c H0 H σ R a x k =>
  h c H0 H σ _ a x fun v d ρ1 H01 H1 ⟨ds, hi, q⟩ a1 e1 r1 => by
    cases r1 with
    | lst hp hr =>
      cases hi
      exact .inl ⟨_, rfl, ⟨_, .inl (.inl (a1.px.i _ _ hp))⟩, k _ _ ρ1 H01 H1 q a1 e1
        (fun i Ha Hb e j lt => (walk_list (K := w.K)).goes i Hb (by rw [hr.length]; exact lt) (.inl (.inl (j _ _ (e _ _ hp))))) (fun Ha Hb e j => by rw [← hr.length]; exact (walk_list (K := w.K)).stops Hb (.inl (.inl (j _ _ (e _ _ hp)))))
        (fun i Ha Hb x Hc e j lt y => yield_at hr e j ((walk_list (K := w.K)).yields i Hb x Hc (by rw [hr.length]; exact lt) (.inl (.inl (j _ _ (e _ _ hp)))) y))⟩
    | tup hp hr =>
      cases hi
      exact .inr (.inl ⟨_, rfl, ⟨_, sqT_ex a1.px.i hp⟩, k _ _ ρ1 H01 H1 q a1 e1
        (fun i Ha Hb e j lt => (walk_tup (K := w.K)).goes i Hb (by rw [hr.length]; exact lt) (sqT_ex (e.trans j) hp)) (fun Ha Hb e j => by rw [← hr.length]; exact (walk_tup (K := w.K)).stops Hb (sqT_ex (e.trans j) hp))
        (fun i Ha Hb x Hc e j lt y => yield_at hr e j ((walk_tup (K := w.K)).yields i Hb x Hc (by rw [hr.length]; exact lt) (sqT_ex (e.trans j) hp) y))⟩)
    | str z =>
      cases hi
      have hl : (z.cps.toList.map fun c => D.str ⟨#[c]⟩).length = z.cps.size := by rw [List.length_map]; simp
      refine .inr (.inr ⟨z, rfl, k _ _ ρ1 H01 H1 q a1 e1 (fun i Ha Hb e j lt => walk_str.goes i Hb (by rw [← hl]; exact lt) trivial) (fun Ha Hb e j => by rw [hl]; exact walk_str.stops Hb trivial) (fun i Ha Hb x Hc e j lt y => ?_)⟩)
      obtain ⟨y1, ch, y2, y3⟩ := walk_str.yields i Hb x Hc (by rw [← hl]; exact lt) trivial y
      subst y1 y3
      refine ⟨.str ⟨#[ch]⟩, Ha, ?_, PX.refl j, .str _⟩
      rw [List.getElem?_map, Array.getElem?_toList, y2]
      rfl
    | _ => cases hi
theorem wI_range1 (h : wA w ta ρ fun ds ρ1 => ∃ j : Int, ds = [.int j] ∧ (-1000000 ≤ j ∧ j ≤ 1000000) ∧ Φ (rangeD 0 j) ρ1) : wI w (iRng1 ta) ρ Φ := fun c H0 H σ R a x k =>
  h c H0 H σ _ a x fun vs ds ρ1 H01 H1 ⟨j, e, hj, q⟩ a1 e1 r1 => by
    subst e
    cases r1 with
    | cons r rs =>
      cases rs; cases r
      have hl : (rangeD 0 j).length = j.toNat := by unfold rangeD; rw [List.length_map, List.length_range]; omega
      refine ⟨j, rfl, by omega, by omega, k _ _ ρ1 H01 H1 q a1 e1 (fun i Ha Hb e j' lt => walk_range.goes i Hb (by rw [← hl]; exact lt) trivial) (fun Ha Hb e j' => by rw [hl]; exact walk_range.stops Hb trivial) (fun i Ha Hb x Hc e j' lt y => ?_)⟩
      obtain ⟨y1, y2⟩ := walk_range.yields i Hb x Hc (by rw [← hl]; exact lt) trivial y
      subst y1 y2
      refine ⟨.int (0 + (i : Int)), Ha, ?_, PX.refl j', .int _⟩
      rw [hl] at lt
      unfold rangeD
      rw [List.getElem?_map, List.getElem?_range (by omega)]
      rfl
theorem wI_range2 (h : wA w ta ρ fun ds ρ1 => ∃ i j : Int, ds = [.int i, .int j] ∧ (-1000000 ≤ i ∧ i ≤ 1000000 ∧ -1000000 ≤ j ∧ j ≤ 1000000) ∧ Φ (rangeD i j) ρ1) : wI w (iRng2 ta) ρ Φ := fun c H0 H σ R a x k =>
  h c H0 H σ _ a x fun vs ds ρ1 H01 H1 ⟨m, j, e, hj, q⟩ a1 e1 r1 => by
    subst e
    cases r1 with
    | cons r rs =>
      cases rs with
      | cons r2 rs =>
        cases rs; cases r; cases r2
        have hl : (rangeD m j).length = (j - m).toNat := by unfold rangeD; rw [List.length_map, List.length_range]
        refine ⟨m, j, rfl, by omega, k _ _ ρ1 H01 H1 q a1 e1 (fun i Ha Hb e j' lt => walk_range.goes i Hb (by rw [← hl]; exact lt) trivial) (fun Ha Hb e j' => by rw [hl]; exact walk_range.stops Hb trivial) (fun i Ha Hb x Hc e j' lt y => ?_)⟩
        obtain ⟨y1, y2⟩ := walk_range.yields i Hb x Hc (by rw [← hl]; exact lt) trivial y
        subst y1 y2
        refine ⟨.int (m + (i : Int)), Ha, ?_, PX.refl j', .int _⟩
        rw [hl] at lt
        unfold rangeD
        rw [List.getElem?_map, List.getElem?_range lt]
        rfl
theorem wI_enumT (h : wA w ta ρ fun ds ρ1 => ∃ l, ds = [.tup l] ∧ Φ (enumD l) ρ1) : wI w (iEnumT w.K ta) ρ Φ := fun c H0 H σ R a x k =>
  h c H0 H σ _ a x fun vs ds ρ1 H01 H1 ⟨l, e, q⟩ a1 e1 r1 => by
    subst e
    cases r1 with
    | cons r rs =>
      cases rs
      cases r with
      | tup hp hr =>
        have hl : (enumD l).length = l.length := by unfold enumD; rw [List.length_zipWith, List.length_range]; omega
        refine ⟨_, _, rfl, sqT_ex a1.px.i hp, k _ _ ρ1 H01 H1 q a1 e1 (fun i Ha Hb e j lt => ?_) (fun Ha Hb e j => ⟨_, sqT_ex (e.trans j) hp, by rw [hl]; exact hr.length⟩) (fun i Ha Hb x Hc e j lt y => ?_)⟩
        · exact ⟨_, _, sqT_ex (e.trans j) hp, List.getElem?_eq_getElem (by rw [hr.length]; rw [hl] at lt; exact lt)⟩
        · obtain ⟨T, xv, y1, y2, y3, y4⟩ := y
          subst y1 y3
          obtain ⟨d, g1, g2⟩ := hr.getV (y4 _ (sqT_ex (e.trans j) hp))
          have nx := (PX.refl (T := []) j).new (o := .tup [.int (i : Nat), xv]) y2
          refine ⟨.tup [.int (i : Nat), d], _, ?_, nx, .tup (.inl (.inl upd_same)) (.cons (.int _) (.cons (g2.mono (e.trans nx.e0)) .nil))⟩
          unfold enumD
          rw [List.getElem?_zipWith, List.getElem?_range (by rw [hl] at lt; exact lt), g1]
def zipD (l1 l2 : List D) : List D := List.zipWith (fun x y => .tup [x, y]) l1 l2
theorem wI_zipT (h : wA w ta ρ fun ds ρ1 => ∃ l1 l2, ds = [.tup l1, .tup l2] ∧ Φ (zipD l1 l2) ρ1) : wI w (RZ.iZipA w.K ta) ρ Φ := fun c H0 H σ R a x k =>
  h c H0 H σ _ a x fun vs ds ρ1 H01 H1 ⟨l1, l2, e, q⟩ a1 e1 r1 => by
    subst e
    cases r1 with
    | cons r rs =>
      cases rs with
      | cons r' rs =>
        cases rs
        cases r with
        | tup hp hr =>
          cases r' with
          | tup hp' hr' =>
            have hl : (zipD l1 l2).length = min l1.length l2.length := List.length_zipWith
            refine ⟨_, _, _, _, rfl, .inr ⟨sqT_ex a1.px.i hp, sqT_ex a1.px.i hp', k _ _ ρ1 H01 H1 q a1 e1 (fun i Ha Hb e j lt => ?_) (fun Ha Hb e j => ⟨_, _, sqT_ex (e.trans j) hp, sqT_ex (e.trans j) hp', ?_⟩) (fun i Ha Hb x Hc e j lt y => ?_)⟩⟩
            · have h1 := hr.length
              have h2 := hr'.length
              exact ⟨_, _, _, _, sqT_ex (e.trans j) hp, sqT_ex (e.trans j) hp', List.getElem?_eq_getElem (by omega), List.getElem?_eq_getElem (by omega)⟩
            · rw [hl, hr.length, hr'.length]; omega
            · obtain ⟨T, xv, yv, y1, y2, y3, y4, y5⟩ := y
              subst y1 y3
              obtain ⟨d, g1, g2⟩ := hr.getV (y4 _ (sqT_ex (e.trans j) hp))
              obtain ⟨d', g1', g2'⟩ := hr'.getV (y5 _ (sqT_ex (e.trans j) hp'))
              have nx := (PX.refl (T := []) j).new (o := .tup [xv, yv]) y2
              refine ⟨.tup [d, d'], _, ?_, nx, .tup (.inl (.inl upd_same)) (.cons (g2.mono (e.trans nx.e0)) (.cons (g2'.mono (e.trans nx.e0)) .nil))⟩
              unfold zipD
              rw [List.getElem?_zipWith, g1, g1']
end
end DL
namespace DL
open PySem PySem.Spec L2
open PyProof.Rows hiding St
/-! ### operators over data -/
section
variable {K : PySem.W.Frag}
theorem fin0 {H0 H : Hp} {v : V} {d : D} {Φ : D → Prop} {Q : VK} (e : Ex H0 H) (q : Φ d) (r : Rep K H0 v d) (k : ∀ v d H0' H', Φ d → PX ⟨H, H0, []⟩ H0' H' → Rep K H0' v d → Q v H') : Q v H := k v d H0 H q (PX.refl e) r
theorem finL {H0 H : Hp} {xs : List V} {ds : List D} {Φ : D → Prop} {Q : VK} (e : Ex H0 H) (q : Φ (.lst ds)) (r : RepAll K H0 xs ds) (k : ∀ v d H0' H', Φ d → PX ⟨H, H0, []⟩ H0' H' → Rep K H0' v d → Q v H') : ∀ p, H p = none → Q (.ref p) (upd H p (.lst xs)) := fun p hp => by
  have y : PX ⟨H, H0, []⟩ (upd H0 p (.lst xs)) (upd H p (.lst xs)) := (PX.refl e).new hp
  exact k _ _ _ _ q y (.lst upd_same (r.mono y.e0))
theorem finT {H0 H : Hp} {xs : List V} {ds : List D} {Φ : D → Prop} {Q : VK} (e : Ex H0 H) (q : Φ (.tup ds)) (r : RepAll K H0 xs ds) (k : ∀ v d H0' H', Φ d → PX ⟨H, H0, []⟩ H0' H' → Rep K H0' v d → Q v H') : ∀ p, H p = none → Q (.ref p) (upd H p (.tup xs)) := fun p hp => by
  have y : PX ⟨H, H0, []⟩ (upd H0 p (.tup xs)) (upd H p (.tup xs)) := (PX.refl e).new hp
  exact k _ _ _ _ q y (.tup (.inl (.inl upd_same)) (r.mono y.e0))
/-! a + b -/
def rAdd (K : PySem.W.Frag) : R2 := fun x y H Q => (rI0 fun i j => .int (i + j)) x y H Q ∨ (∃ i j, x = .str i ∧ y = .str j ∧ i.length + j.length ≤ sizeLine ∧ Q (.str (i ++ j)) H) ∨ rCat x y H Q ∨ rCatA K x y H Q
def addG (x y : D) (Φ : D → Prop) : Prop := match x, y with
  | .int i, .int j => Φ (.int (i + j))
  | .str i, .str j => i.length + j.length ≤ 1000000 ∧ Φ (.str (i ++ j))
  | .lst l, .lst m => l.length + m.length ≤ 1000000 ∧ Φ (.lst (l ++ m))
  | .tup l, .tup m => l.length + m.length ≤ 1000000 ∧ Φ (.tup (l ++ m))
  | _, _ => False
theorem opd_add : OpD K (rAdd K) addG := fun H0 H x y dx dy Φ Q e rx ry g k => by
  cases rx <;> cases ry <;> first
    | exact g.elim
    | exact .inl ⟨_, _, rfl, rfl, fin0 e g (.int _) k⟩
    | exact .inr (.inl ⟨_, _, rfl, rfl, len_ok g.1, fin0 e g.2 (.str _) k⟩)
    | (rename_i h1 r1 _ _ _ h2 r2; exact .inr (.inr (.inl ⟨_, _, _, _, rfl, rfl, e _ _ h1, e _ _ h2, len_ok (by rw [r1.length, r2.length]; exact g.1), finL e g.2 (r1.append r2) k⟩)))
    | (rename_i h1 r1 _ _ _ h2 r2
       refine .inr (.inr (.inr ⟨_, _, _, _, rfl, rfl, sqT_ex e h1, sqT_ex e h2, len_ok (by rw [r1.length, r2.length]; exact g.1), fun z => ?_, fun _ z => ?_, fun _ _ => finT e g.2 (r1.append r2) k⟩))
       · subst z; cases r1; exact fin0 e (by have := g.2; rwa [List.nil_append] at this) (.tup h2 r2) k
       · subst z; cases r2; exact fin0 e (by have := g.2; rwa [List.append_nil] at this) (.tup h1 r1) k)
/-! ints -/
def intG (C : Int → Int → Prop) (f : Int → Int → D) (x y : D) (Φ : D → Prop) : Prop := match x, y with
  | .int i, .int j => C i j ∧ Φ (f i j)
  | _, _ => False
def intG0 (f : Int → Int → D) (x y : D) (Φ : D → Prop) : Prop := match x, y with
  | .int i, .int j => Φ (f i j)
  | _, _ => False
theorem opd_int {C : Int → Int → Prop} {f : Int → Int → D} {g : Int → Int → V} (hr : ∀ H i j, Rep K H (g i j) (f i j)) : OpD K (rI C g) (intG C f) := fun H0 H x y dx dy Φ Q e rx ry h k => by
  cases rx <;> cases ry <;> first
    | exact h.elim
    | exact ⟨_, _, rfl, rfl, h.1, fin0 e h.2 (hr _ _ _) k⟩
theorem opd_int0 {f : Int → Int → D} {g : Int → Int → V} (hr : ∀ H i j, Rep K H (g i j) (f i j)) : OpD K (rI0 g) (intG0 f) := fun H0 H x y dx dy Φ Q e rx ry h k => by
  cases rx <;> cases ry <;> first
    | exact h.elim
    | exact ⟨_, _, rfl, rfl, fin0 e h (hr _ _ _) k⟩
def subG : D → D → (D → Prop) → Prop := intG0 fun i j => .int (i - j)
def fdivG : D → D → (D → Prop) → Prop := intG CDiv fun i j => .int (i / j)
def modG : D → D → (D → Prop) → Prop := intG (fun _ j => 0 < j) fun i j => .int (i % j)
def powG : D → D → (D → Prop) → Prop := intG CPow fun i j => .int (i ^ j.toNat)
def ltG : D → D → (D → Prop) → Prop := intG0 fun i j => .bl (decide (i < j))
def leG : D → D → (D → Prop) → Prop := intG0 fun i j => .bl (decide (i ≤ j))
def gtG : D → D → (D → Prop) → Prop := intG0 fun i j => .bl (decide (j < i))
def geG : D → D → (D → Prop) → Prop := intG0 fun i j => .bl (decide (j ≤ i))
theorem opd_sub : OpD K (rI0 fun i j => .int (i - j)) subG := opd_int0 fun _ _ _ => .int _
theorem opd_fdiv : OpD K (rI CDiv fun i j => .int (i / j)) fdivG := opd_int fun _ _ _ => .int _
theorem opd_mod : OpD K (rI (fun _ j => 0 < j) fun i j => .int (i % j)) modG := opd_int fun _ _ _ => .int _
theorem opd_pow : OpD K (rI CPow fun i j => .int (i ^ j.toNat)) powG := opd_int fun _ _ _ => .int _
theorem opd_lt : OpD K (rI0 fun i j => .bl (decide (i < j))) ltG := opd_int0 fun _ _ _ => .bl _
theorem opd_le : OpD K (rI0 fun i j => .bl (decide (i ≤ j))) leG := opd_int0 fun _ _ _ => .bl _
theorem opd_gt : OpD K (rI0 fun i j => .bl (decide (j < i))) gtG := opd_int0 fun _ _ _ => .bl _
theorem opd_ge : OpD K (rI0 fun i j => .bl (decide (j ≤ i))) geG := opd_int0 fun _ _ _ => .bl _
/-- a * b: one of both small, or both together of at most so many bits -/
def MulC (i j : Int) : Prop := CMul i j ∨ CMulX i j
def rMul : R2 := fun x y H Q => rI CMul (fun i j => .int (i * j)) x y H Q ∨ rI CMulX (fun i j => .int (i * j)) x y H Q
def mulG : D → D → (D → Prop) → Prop := intG MulC fun i j => .int (i * j)
theorem opd_mul : OpD K rMul mulG := fun H0 H x y dx dy Φ Q e rx ry h k => by
  cases rx <;> cases ry <;> first
    | exact h.elim
    | (rcases h.1 with c | c
       · exact .inl ⟨_, _, rfl, rfl, c, fin0 e h.2 (.int _) k⟩
       · exact .inr ⟨_, _, rfl, rfl, c, fin0 e h.2 (.int _) k⟩)
theorem MulC.left {i j : Int} (h1 : -(2 ^ 64) < i) (h2 : i < 2 ^ 64) : MulC i j := .inl (.inl ⟨h1, h2⟩)
theorem MulC.right {i j : Int} (h1 : -(2 ^ 64) < j) (h2 : j < 2 ^ 64) : MulC i j := .inl (.inr ⟨h1, h2⟩)
theorem MulC.bits {i j : Int} {a b : Nat} (ha : i.natAbs < 2 ^ a) (hb : j.natAbs < 2 ^ b) (h : a + b ≤ 134217728) : MulC i j := .inr (mulx_ok ha hb h)
def unG (f : Int → D) (x : D) (Φ : D → Prop) : Prop := match x with
  | .int i => Φ (f i)
  | _ => False
theorem und_neg : UnD K (rU fun i => .int (-i)) (unG fun i => .int (-i)) := fun H0 H x dx Φ Q e rx h k => by
  cases rx <;> first
    | exact h.elim
    | exact ⟨_, rfl, fin0 e h (.int _) k⟩
/-! data as such -/
mutual
def D.py : D → PyData
  | .non => .none
  | .bl b => .bool b
  | .int i => .int i
  | .str x => .str x
  | .tup l => .tuple (pyAll l)
  | .lst l => .list (pyAll l)
  | .dic _ | .ins _ _ | .pail | .scr _ | .raw _ | .exn _ _ _ | .dik _ | .kd _ _ _ _ => .none
def pyAll : List D → List PyData
  | [] => []
  | d :: l => d.py :: pyAll l
end
mutual
def D.pure : D → Bool
  | .non => true
  | .bl _ => true
  | .int _ => true
  | .str x => PyData.strOk x
  | .tup l => pureAll l
  | .lst l => pureAll l
  | .dic _ => false
  | .ins _ _ => false
  | .pail => false
  | .scr _ => false
  | .raw _ => false
  | .exn _ _ _ => false
  | .dik _ => false
  | .kd _ _ _ _ => false
def pureAll : List D → Bool
  | [] => true
  | d :: l => d.pure && pureAll l
end
mutual
theorem dp_of {H0 H : Hp} (e : Ex H0 H) : ∀ {v : V} {d : D}, Rep K H0 v d → d.pure = true → Dp K H v d.py
  | _, _, .non, _ => .non
  | _, _, .bl b, _ => .bl b
  | _, _, .int i, _ => .int i
  | _, _, .str x, _ => .str x
  | _, _, .tup h hs, p => .tup (sqT_ex e h) (dpAll_of e hs (by simpa [D.pure] using p))
  | _, _, .lst h hs, p => .lst (.inl (.inl (e _ _ h))) (dpAll_of e hs (by simpa [D.pure] using p))
  | _, _, .dic _ _, p => by simp [D.pure] at p
  | _, _, .dik _ _, p => by simp [D.pure] at p
  | _, _, .kd _ _, p => by simp [D.pure] at p
  | _, _, .ins _ _, p => by simp [D.pure] at p
  | _, _, .pail _, p => by simp [D.pure] at p
  | _, _, .scr _, p => by simp [D.pure] at p
  | _, _, .raw _, p => by simp [D.pure] at p
  | _, _, .exn _ _, p => by simp [D.pure] at p
theorem dpAll_of {H0 H : Hp} (e : Ex H0 H) : ∀ {vs : List V} {ds : List D}, RepAll K H0 vs ds → pureAll ds = true → DpAll K H vs (pyAll ds)
  | _, _, .nil, _ => .nil
  | _, _, .cons h hs, p => by
    have p' := p
    simp only [pureAll, Bool.and_eq_true] at p'
    exact .cons (dp_of e h p'.1) (dpAll_of e hs p'.2)
end
mutual
theorem canLay_of_pure : ∀ d : D, d.pure = true → d.py.canLay0 = true
  | .non, _ => by simp [D.py, PyData.canLay0]
  | .bl _, _ => by simp [D.py, PyData.canLay0]
  | .int _, _ => by simp [D.py, PyData.canLay0]
  | .str x, h => by simpa [D.py, D.pure, PyData.canLay0] using h
  | .tup l, h => by simpa [D.py, PyData.canLay0] using canLayAll_of_pure l (by simpa [D.pure] using h)
  | .lst l, h => by simpa [D.py, PyData.canLay0] using canLayAll_of_pure l (by simpa [D.pure] using h)
  | .dic _, h => by simp [D.pure] at h
  | .ins _ _, h => by simp [D.pure] at h
  | .pail, h => by simp [D.pure] at h
  | .scr _, h => by simp [D.pure] at h
  | .raw _, h => by simp [D.pure] at h
  | .exn _ _ _, h => by simp [D.pure] at h
  | .dik _, h => by simp [D.pure] at h
  | .kd _ _ _ _, h => by simp [D.pure] at h
theorem canLayAll_of_pure : ∀ l : List D, pureAll l = true → PyData.canLayAll0 (pyAll l) = true
  | [], _ => by simp [pyAll, PyData.canLayAll0]
  | d :: l, h => by
    simp only [pureAll, Bool.and_eq_true] at h
    simp only [pyAll, PyData.canLayAll0, canLay_of_pure d h.1, canLayAll_of_pure l h.2, Bool.and_self]
end
/-- how deep, how heavy -/
def D.dep (d : D) : Nat := d.py.depth
/-- data that == looks at: not too deep -/
structure Shp (n : Nat) (d : D) : Prop where
  p : d.pure = true
  n : d.dep ≤ n
theorem Shp.shaped {n : Nat} {d : D} (h : Shp n d) (hn : n ≤ 64) : SeqAt.shaped d.py = true := by
  unfold SeqAt.shaped
  rw [canLay_of_pure d h.p, Bool.true_and]
  exact decide_eq_true (Nat.le_trans h.n hn)
theorem Shp.mono {n m : Nat} {d : D} (h : Shp n d) (hn : n ≤ m) : Shp m d := ⟨h.p, Nat.le_trans h.n hn⟩
theorem Shp.bl {n : Nat} {b : Bool} : Shp n (.bl b) := ⟨rfl, Nat.zero_le _⟩
theorem Shp.int {n : Nat} {i : Int} : Shp n (.int i) := ⟨rfl, Nat.zero_le _⟩
theorem Shp.str {n : Nat} {x : Str} (h : PyData.strOk x = true) : Shp n (.str x) := ⟨h, Nat.zero_le _⟩
theorem shpAll {n : Nat} : ∀ {l : List D}, (∀ d ∈ l, Shp n d) → pureAll l = true ∧ PyData.depthAll (pyAll l) ≤ n
  | [], _ => ⟨rfl, Nat.zero_le _⟩
  | d :: l, h => by
    obtain ⟨a, b⟩ := shpAll fun x hx => h x (List.mem_cons_of_mem _ hx)
    have c := h d List.mem_cons_self
    refine ⟨by simp only [pureAll, c.p, a, Bool.and_self], ?_⟩
    simp only [pyAll, PyData.depthAll]
    exact Nat.max_le.mpr ⟨c.n, b⟩
theorem Shp.tup {n : Nat} {l : List D} (h : ∀ d ∈ l, Shp n d) : Shp (n + 1) (.tup l) := by
  obtain ⟨a, b⟩ := shpAll h
  exact ⟨by simpa only [D.pure] using a, by simpa only [D.dep, D.py, PyData.depth] using Nat.succ_le_succ b⟩
theorem Shp.lst {n : Nat} {l : List D} (h : ∀ d ∈ l, Shp n d) : Shp (n + 1) (.lst l) := by
  obtain ⟨a, b⟩ := shpAll h
  exact ⟨by simpa only [D.pure] using a, by simpa only [D.dep, D.py, PyData.depth] using Nat.succ_le_succ b⟩
/-- a == b of data -/
def D.eqv (a b : D) : Bool := PyData.eqv a.py b.py
def rEqA (K : PySem.W.Frag) : R2 := fun x y H Q => rEq x y H Q ∨ rEqD K x y H Q
def rNeA (K : PySem.W.Frag) : R2 := fun x y H Q => rNe x y H Q ∨ rNeD K x y H Q
def eqG (x y : D) (Φ : D → Prop) : Prop := (∃ a b, x = .str a ∧ y = .str b ∧ Φ (.bl (decide (a = b)))) ∨ (Shp 64 x ∧ Shp 64 y ∧ Φ (.bl (D.eqv x y)))
def neG (x y : D) (Φ : D → Prop) : Prop := (∃ a b, x = .str a ∧ y = .str b ∧ Φ (.bl (!decide (a = b)))) ∨ (Shp 64 x ∧ Shp 64 y ∧ Φ (.bl (!D.eqv x y)))
theorem dec_strV {a b : Str} : decide (V.str a = V.str b) = decide (a = b) := by rw [Bool.eq_iff_iff]; simp
theorem opd_eq : OpD K (rEqA K) eqG := fun H0 H x y dx dy Φ Q e rx ry g k => by
  rcases g with ⟨a, b, hx, hy, g⟩ | g
  · subst hx hy
    cases rx; cases ry
    exact .inl ⟨rfl, by rw [dec_strV]; exact fin0 e g (.bl _) k⟩
  · exact .inr ⟨_, _, dp_of e rx g.1.p, dp_of e ry g.2.1.p, g.1.shaped (Nat.le_refl _), g.2.1.shaped (Nat.le_refl _), fin0 e g.2.2 (.bl _) k⟩
theorem opd_ne : OpD K (rNeA K) neG := fun H0 H x y dx dy Φ Q e rx ry g k => by
  rcases g with ⟨a, b, hx, hy, g⟩ | g
  · subst hx hy
    cases rx; cases ry
    exact .inl ⟨rfl, by rw [dec_strV]; exact fin0 e g (.bl _) k⟩
  · exact .inr ⟨_, _, dp_of e rx g.1.p, dp_of e ry g.2.1.p, g.1.shaped (Nat.le_refl _), g.2.1.shaped (Nat.le_refl _), fin0 e g.2.2 (.bl _) k⟩
/-! is None -/
def D.isNon : D → Option Bool
  | .non => some true
  | .raw _ => none
  | _ => some false
def rIsN : R2 := fun x y H Q => y = .non ∧ Q (.bl (decide (x = .non))) H
def isG (x y : D) (Φ : D → Prop) : Prop := ∃ b, x.isNon = some b ∧ y = .non ∧ Φ (.bl b)
theorem non_of {H : Hp} {v : V} {d : D} {b : Bool} (r : Rep K H v d) (h : d.isNon = some b) : decide (v = .non) = b := by
  cases r <;> simp [D.isNon] at h <;> subst h <;> simp
theorem opd_is : OpD K rIsN isG := fun H0 H x y dx dy Φ Q e rx ry ⟨b, hb, ey, g⟩ k => by
  subst ey; cases ry
  refine ⟨rfl, ?_⟩
  rw [non_of rx hb]
  exact fin0 e g (.bl _) k
end
end DL
namespace DL
open PySem PySem.Spec L2
open PyProof.Rows hiding St
/-! ### subscripts, slices, calls, methods over data -/
theorem RepAll.atI {K : PySem.W.Frag} {H : Hp} {vs : List V} {ds : List D} {i : Int} {d : D} (r : RepAll K H vs ds) (h : L2.atI ds i = some d) : ∃ v, L2.atI vs i = some v ∧ Rep K H v d := by
  unfold L2.atI at h ⊢
  rw [r.length]
  cases e : ixN ds.length i with
  | none => rw [e] at h; cases h
  | some j => rw [e] at h; exact r.get h
def ixG (x y : D) (Φ : D → Prop) : Prop := match x, y with
  | .lst l, .int i => ∃ d, L2.atI l i = some d ∧ Φ d
  | .tup l, .int i => ∃ d, L2.atI l i = some d ∧ Φ d
  | .scr l, .int i => ∃ n, L2.atI l i = some n ∧ Φ (.int n)
  | .str z, .int i => z.length ≤ 1000000 ∧ ∃ c, L2.atI z.cps.toList i = some c ∧ Φ (.str ⟨#[c]⟩)
  | _, _ => False
theorem atI_map {α β : Type} (f : α → β) {xs : List α} {i : Int} {v : α} (h : L2.atI xs i = some v) : L2.atI (xs.map f) i = some (f v) := by
  unfold L2.atI at h ⊢
  rw [List.length_map]
  cases e : ixN xs.length i with
  | none => rw [e] at h; cases h
  | some j => rw [e] at h; show (xs.map f)[j]? = _; rw [List.getElem?_map, show xs[j]? = some v from h]; rfl
section
variable {K : PySem.W.Frag}
theorem opd_ix : OpD K (rIx K) ixG := fun H0 H x y dx dy Φ Q e rx ry g k => by
  cases rx <;> cases ry <;> first
    | exact g.elim
    | (obtain ⟨d, h1, h2⟩ := g; rename_i hp hr _; obtain ⟨v, h3, h4⟩ := hr.atI h1; exact .inl ⟨_, _, _, v, rfl, rfl, .inl (.inl (e _ _ hp)), h3, fin0 e h2 h4 k⟩)
    | (obtain ⟨d, h1, h2⟩ := g; rename_i hp hr _; obtain ⟨v, h3, h4⟩ := hr.atI h1; exact .inr (.inl ⟨_, _, _, v, rfl, rfl, sqT_ex e hp, h3, fin0 e h2 h4 k⟩))
    | (obtain ⟨n, h1, h2⟩ := g; rename_i hp _; exact .inl ⟨_, _, _, _, rfl, rfl, sqL_ex e hp, atI_map V.int h1, fin0 e h2 (.int _) k⟩)
    | (obtain ⟨hz, c, h1, h2⟩ := g; exact .inr (.inr ⟨_, _, _, rfl, rfl, len_ok hz, h1, fin0 e h2 (.str _) k⟩))
/-- xs[lo:hi] -/
def cutD {α : Type} (xs : List α) (lo hi : Option Int) : List α := (xs.drop (HT.sIx xs.length 0 lo)).take (HT.sIx xs.length xs.length hi - HT.sIx xs.length 0 lo)
theorem cut_map {α β : Type} (f : α → β) (xs : List α) (lo hi : Option Int) : cutD (xs.map f) lo hi = (cutD xs lo hi).map f := by
  unfold cutD
  rw [List.length_map, List.map_take, List.map_drop]
theorem cut_rep {H : Hp} {vs : List V} {ds : List D} (r : RepAll K H vs ds) (lo hi : Option Int) : RepAll K H (cutV vs lo hi) (cutD ds lo hi) := by
  unfold cutV cutD
  rw [r.length]
  exact (r.drop _).take _
theorem cut_all {α : Type} {xs : List α} {lo hi : Option Int} (h : HT.sIx xs.length 0 lo = 0 ∧ HT.sIx xs.length xs.length hi = xs.length) : cutD xs lo hi = xs := by
  unfold cutD
  rw [h.1, h.2, List.drop_zero, Nat.sub_zero, List.take_length]
def rSl (K : PySem.W.Frag) : V → Option Int → Option Int → Hp → VK → Prop := fun x lo hi H Q => rSlL K x lo hi H Q ∨ rSlA K x lo hi H Q ∨ rSlS x lo hi H Q
def slG (x : D) (lo hi : Option Int) (Φ : D → Prop) : Prop := match x with
  | .lst l => Φ (.lst (cutD l lo hi))
  | .tup l => Φ (.tup (cutD l lo hi))
  | .scr l => Φ (.lst ((cutD l lo hi).map D.int))
  | .str z => z.length ≤ 1000000 ∧ Φ (.str (cutS z lo hi))
  | _ => False
theorem sld_sl : SlD K (rSl K) slG := fun H0 H x dx lo hi Φ Q e rx g k => by
  cases rx <;> first
    | exact g.elim
    | (rename_i hp hr; exact .inl ⟨_, _, rfl, .inl (.inl (e _ _ hp)), finL e g (cut_rep hr lo hi) k⟩)
    | (rename_i hp hr
       refine .inr (.inl ⟨_, _, rfl, sqT_ex e hp, fun z => ?_, fun _ => finT e g (cut_rep hr lo hi) k⟩)
       have z' := z
       rw [hr.length] at z'
       have q : Φ (.tup _) := g
       rw [cut_all z'] at q
       exact fin0 e q (.tup hp hr) k)
    | (rename_i hp
       refine .inl ⟨_, _, rfl, sqL_ex e hp, finL e (ds := (cutD _ lo hi).map D.int) g ?_ k⟩
       rw [show cutV (List.map V.int _) lo hi = cutD (List.map V.int _) lo hi from rfl, cut_map]
       exact RepAll.ints _)
    | exact .inr (.inr ⟨_, rfl, len_ok g.1, fin0 e g.2 (.str _) k⟩)
/-! len -/
def lenG (ds : List D) (Φ : D → Prop) : Prop := match ds with
  | [.lst l] => Φ (.int l.length)
  | [.tup l] => Φ (.int l.length)
  | [.scr l] => Φ (.int l.length)
  | [.str z] => z.length ≤ 1000000 ∧ Φ (.int z.length)
  | [.dic l] => Φ (.int l.length)
  | _ => False
def rLen (K : PySem.W.Frag) : List V → Hp → VK → Prop := fun xs H Q => (∃ x n, xs = [x] ∧ LenV K x H n ∧ Q (.int n) H) ∨ ∃ a kvs, xs = [V.ref a] ∧ H a = some (.dK kvs) ∧ Q (.int kvs.length) H
theorem cbd_len : CbD K (rLen K) lenG := fun H0 H xs ds Φ Q e rx g k => by
  cases rx with
  | nil => exact g.elim
  | cons r rs =>
    cases rs with
    | cons _ _ => cases r <;> exact g.elim
    | nil =>
      cases r <;> first
        | exact g.elim
        | (rename_i hp hr; exact .inl ⟨_, _, rfl, .inl ⟨_, .inl (.inl (e _ _ hp)), rfl⟩, by rw [hr.length]; exact fin0 e g (.int _) k⟩)
        | (rename_i hp hr; exact .inl ⟨_, _, rfl, .inr ⟨_, sqT_ex e hp, rfl⟩, by rw [hr.length]; exact fin0 e g (.int _) k⟩)
        | (rename_i hp; exact .inl ⟨_, _, rfl, .inl ⟨_, sqL_ex e hp, rfl⟩, by rw [List.length_map]; exact fin0 e g (.int _) k⟩)
        | exact .inl ⟨_, _, rfl, ⟨len_ok g.1, rfl⟩, fin0 e g.2 (.int _) k⟩
        | (rename_i hp hr; exact .inr ⟨_, _, rfl, e _ _ hp, by rw [List.length_map, hr.length]; exact fin0 e g (.int _) k⟩)
/-! list, tuple -/
def rListOf (K : PySem.W.Frag) : List V → Hp → VK → Prop := fun xs H Q => ∃ p ys, xs = [.ref p] ∧ (SqL K H p ys ∨ SqT K H p ys) ∧ ∀ l, H l = none → Q (.ref l) (upd H l (.lst ys))
def listG (ds : List D) (Φ : D → Prop) : Prop := match ds with
  | [.lst l] => Φ (.lst l)
  | [.tup l] => Φ (.lst l)
  | [.scr l] => Φ (.lst (l.map D.int))
  | _ => False
theorem cbd_list : CbD K (rListOf K) listG := fun H0 H xs ds Φ Q e rx g k => by
  cases rx with
  | nil => exact g.elim
  | cons r rs =>
    cases rs with
    | cons _ _ => cases r <;> exact g.elim
    | nil =>
      cases r <;> first
        | exact g.elim
        | (rename_i hp hr; exact ⟨_, _, rfl, .inl (.inl (.inl (e _ _ hp))), finL e g hr k⟩)
        | (rename_i hp hr; exact ⟨_, _, rfl, .inr (sqT_ex e hp), finL e g hr k⟩)
        | (rename_i hp; exact ⟨_, _, rfl, .inl (sqL_ex e hp), finL e g (RepAll.ints _) k⟩)
def rTupOf (K : PySem.W.Frag) : List V → Hp → VK → Prop := fun xs H Q => ∃ p ys, xs = [.ref p] ∧ ((SqL K H p ys ∧ ∀ l, H l = none → Q (.ref l) (upd H l (.tup ys))) ∨ (SqT K H p ys ∧ Q (.ref p) H))
def tupG (ds : List D) (Φ : D → Prop) : Prop := match ds with
  | [.lst l] => Φ (.tup l)
  | [.tup l] => Φ (.tup l)
  | [.scr l] => Φ (.tup (l.map D.int))
  | _ => False
theorem cbd_tup : CbD K (rTupOf K) tupG := fun H0 H xs ds Φ Q e rx g k => by
  cases rx with
  | nil => exact g.elim
  | cons r rs =>
    cases rs with
    | cons _ _ => cases r <;> exact g.elim
    | nil =>
      cases r <;> first
        | exact g.elim
        | (rename_i hp hr; exact ⟨_, _, rfl, .inl ⟨.inl (.inl (e _ _ hp)), finT e g hr k⟩⟩)
        | (rename_i hp hr; exact ⟨_, _, rfl, .inr ⟨sqT_ex e hp, fin0 e g (.tup hp hr) k⟩⟩)
        | (rename_i hp; exact ⟨_, _, rfl, .inl ⟨sqL_ex e hp, finT e g (RepAll.ints _) k⟩⟩)
/-! str, int, abs, min, max, all, sum, divmod -/
theorem vals_one {H : Hp} {xs : List V} {d : D} (r : RepAll K H xs [d]) : ∃ v, xs = [v] ∧ Rep K H v d := by
  cases r with
  | cons r rs => cases rs; exact ⟨_, rfl, r⟩
theorem vals_two {H : Hp} {xs : List V} {d d' : D} (r : RepAll K H xs [d, d']) : ∃ v v', xs = [v, v'] ∧ Rep K H v d ∧ Rep K H v' d' := by
  cases r with
  | cons r rs => obtain ⟨v', rfl, r'⟩ := vals_one rs; exact ⟨_, _, rfl, r, r'⟩
def rStr : List V → Hp → VK → Prop := fun xs H Q => (∃ i, xs = [.int i] ∧ i.natAbs.log2 < 1920 ∧ Q (.str (toString i)) H) ∨ ∃ a, xs = [.str a] ∧ Q (.str a) H
def strG (ds : List D) (Φ : D → Prop) : Prop := match ds with
  | [.int i] => i.natAbs.log2 < 1920 ∧ Φ (.str (toString i))
  | [.str a] => Φ (.str a)
  | _ => False
theorem cbd_str : CbD K rStr strG := fun H0 H xs ds Φ Q e rx g k => by
  cases rx with
  | nil => exact g.elim
  | cons r rs =>
    cases rs with
    | cons _ _ => cases r <;> exact g.elim
    | nil =>
      cases r <;> first
        | exact g.elim
        | exact .inl ⟨_, rfl, g.1, fin0 e g.2 (.str _) k⟩
        | exact .inr ⟨_, rfl, fin0 e g (.str _) k⟩
def rInt : List V → Hp → VK → Prop := fun xs H Q => ((∃ i, xs = [.int i] ∧ Q (.int i) H) ∨ ∃ k, xs = [.bl k] ∧ Q (.int (if k then 1 else 0)) H) ∨ ∃ a n, xs = [.str a] ∧ PySem.intText? a = some n ∧ a.length ≤ 640 ∧ Q (.int n) H
def intOfG (ds : List D) (Φ : D → Prop) : Prop := match ds with
  | [.int i] => Φ (.int i)
  | [.bl b] => Φ (.int (if b then 1 else 0))
  | [.str a] => ∃ n, PySem.intText? a = some n ∧ a.length ≤ 640 ∧ Φ (.int n)
  | _ => False
theorem cbd_int : CbD K rInt intOfG := fun H0 H xs ds Φ Q e rx g k => by
  cases rx with
  | nil => exact g.elim
  | cons r rs =>
    cases rs with
    | cons _ _ => cases r <;> exact g.elim
    | nil =>
      cases r <;> first
        | exact g.elim
        | exact .inl (.inl ⟨_, rfl, fin0 e g (.int _) k⟩)
        | exact .inl (.inr ⟨_, rfl, fin0 e g (.int _) k⟩)
        | (obtain ⟨n, h1, h2, h3⟩ := g; exact .inr ⟨_, n, rfl, h1, h2, fin0 e h3 (.int _) k⟩)
def int1G (f : Int → D) (ds : List D) (Φ : D → Prop) : Prop := match ds with
  | [.int i] => Φ (f i)
  | _ => False
def int2G (f : Int → Int → D) (ds : List D) (Φ : D → Prop) : Prop := match ds with
  | [.int i, .int j] => Φ (f i j)
  | _ => False
theorem cbd_abs : CbD K (fun xs H Q => ∃ i, xs = [.int i] ∧ Q (.int (if i < 0 then -i else i)) H) (int1G fun i => .int (if i < 0 then -i else i)) := fun H0 H xs ds Φ Q e rx g k => by
  cases rx with
  | nil => exact g.elim
  | cons r rs =>
    cases rs with
    | cons _ _ => cases r <;> exact g.elim
    | nil =>
      cases r <;> first
        | exact g.elim
        | exact ⟨_, rfl, fin0 e g (.int _) k⟩
theorem cbd_int2 {f : Int → Int → D} {h : Int → Int → V} (hr : ∀ H i j, Rep K H (h i j) (f i j)) : CbD K (fun xs H Q => ∃ i j, xs = [.int i, .int j] ∧ Q (h i j) H) (int2G f) := fun H0 H xs ds Φ Q e rx g k => by
  cases rx with
  | nil => exact g.elim
  | cons r rs =>
    cases rs with
    | nil => cases r <;> exact g.elim
    | cons r' rs =>
      cases rs with
      | cons _ _ => cases r <;> cases r' <;> exact g.elim
      | nil =>
        cases r <;> cases r' <;> first
          | exact g.elim
          | exact ⟨_, _, rfl, fin0 e g (hr _ _ _) k⟩
theorem cbd_min2 : CbD K (fun xs H Q => ∃ i j, xs = [.int i, .int j] ∧ Q (.int (if j < i then j else i)) H) (int2G fun i j => .int (if j < i then j else i)) := cbd_int2 fun _ _ _ => .int _
theorem cbd_max2 : CbD K (fun xs H Q => ∃ i j, xs = [.int i, .int j] ∧ Q (.int (if j > i then j else i)) H) (int2G fun i j => .int (if j > i then j else i)) := cbd_int2 fun _ _ _ => .int _
def allG (ds : List D) (Φ : D → Prop) : Prop := ∃ bs : List Bool, ds = [.lst (bs.map D.bl)] ∧ Φ (.bl (bs.all id))
theorem cbd_all : CbD K (rAll K) allG := fun H0 H xs ds Φ Q e rx ⟨bs, h, g⟩ k => by
  subst h
  obtain ⟨v, rfl, r⟩ := vals_one rx
  cases r with
  | lst hp hr => rw [hr.ofBools] at hp; exact ⟨_, bs, rfl, .inl (.inl (e _ _ hp)), fin0 e g (.bl _) k⟩
/-! methods -/
def joinG (x : D) (ds : List D) (Φ : D → Prop) : Prop := ∃ a ys, x = .str a ∧ (ds = [.lst (ys.map D.str)] ∨ ds = [.tup (ys.map D.str)]) ∧ (ys.map (·.length)).sum + ys.length * a.length ≤ 1000000 ∧ Φ (.str (Txt.join a ys))
theorem mtd_join : MtD K (fun x xs H Q => ∃ a p, ∃ ys : List Str, x = .str a ∧ xs = [.ref p] ∧ (SqL K H p (ys.map V.str) ∨ SqT K H p (ys.map V.str)) ∧ (ys.map (·.length)).sum + ys.length * a.length ≤ 16777216 ∧ Q (.str (Txt.join a ys)) H) joinG :=
  fun H0 H x xs dx ds Φ Q e rx rs ⟨a, ys, hx, hd, hz, g⟩ k => by
    subst hx
    cases rx
    rcases hd with hd | hd
    · subst hd
      obtain ⟨v, rfl, r⟩ := vals_one rs
      cases r with
      | lst hp hr => rw [hr.ofStrs] at hp; exact ⟨a, _, ys, rfl, rfl, .inl (.inl (.inl (e _ _ hp))), by omega, fin0 e g (.str _) k⟩
    · subst hd
      obtain ⟨v, rfl, r⟩ := vals_one rs
      cases r with
      | tup hp hr => rw [hr.ofStrs] at hp; exact ⟨a, _, ys, rfl, rfl, .inr (sqT_ex e hp), by omega, fin0 e g (.str _) k⟩
def splitG (x : D) (ds : List D) (Φ : D → Prop) : Prop := ∃ a b, x = .str a ∧ ds = [.str b] ∧ (b.length == 0) = false ∧ a.length ≤ 1000000 ∧ Φ (.lst ((Txt.split a b).map D.str))
theorem mtd_split : MtD K (fun x xs H Q => ∃ a b, x = .str a ∧ xs = [.str b] ∧ (b.length == 0) = false ∧ a.length + 2 ≤ sizeLine ∧ rNewStrs (Txt.split a b) H Q) splitG :=
  fun H0 H x xs dx ds Φ Q e rx rs ⟨a, b, hx, hd, hz, hl, g⟩ k => by
    subst hx hd
    cases rx
    obtain ⟨v, rfl, r⟩ := vals_one rs
    cases r
    exact ⟨a, b, rfl, rfl, hz, Nat.le_trans (Nat.add_le_add_right hl 2) (by decide), finL e g (RepAll.strs _) k⟩
def str0G (f : Str → D) (x : D) (ds : List D) (Φ : D → Prop) : Prop := match x, ds with
  | .str a, [] => Φ (f a)
  | _, _ => False
theorem mtd_str0 {f : Str → Bool} : MtD K (fun x xs H Q => ∃ a, x = .str a ∧ xs = [] ∧ True ∧ Q (.bl (f a)) H) (str0G fun a => .bl (f a)) :=
  fun H0 H x xs dx ds Φ Q e rx rs g k => by
    cases rx <;> cases rs <;> first
      | exact g.elim
      | exact ⟨_, rfl, rfl, trivial, fin0 e g (.bl _) k⟩
theorem ty_of {T : String} (H0 H : Hp) (v : V) (d : D) (e : Ex H0 H) (r : Rep K H0 v d) (h : isTy T d = true) : tyV K T v H := by
  cases r with
  | str x => exact beq_iff_eq.mp (show (T == "str") = true from h)
  | lst hp hr => exact .inl ⟨beq_iff_eq.mp (show (T == "list") = true from h), _, .inl (.inl (e _ _ hp))⟩
  | dic hp hr => exact .inr (.inr (.inl ⟨beq_iff_eq.mp (show (T == "dict") = true from h), .inl ⟨_, e _ _ hp⟩⟩))
  | _ => cases h
end
end DL
namespace DL
open PySem PySem.Spec L2
open PyProof.Rows hiding St
/-! ### calls in general: values in the order of the call, keywords behind them, defaults behind these; picked by place -/
def pick {α : Type} (ix : List Nat) (l : List α) : List α := ix.filterMap fun i => l[i]?
theorem pick_vals : ∀ (ix : List Nat) {vs : List V} {us : List Value}, Vals vs us → Vals (pick ix vs) (pick ix us)
  | [], _, _, _ => .nil
  | i :: ix, vs, us, r => by
    unfold pick
    rw [List.filterMap_cons, List.filterMap_cons]
    cases e : vs[i]? with
    | none =>
      have e2 : us[i]? = none := by
        rw [List.getElem?_eq_none_iff] at e ⊢
        rw [← r.length]; exact e
      rw [e2]
      exact pick_vals ix r
    | some v =>
      obtain ⟨u, hu, ru⟩ := r.get e
      rw [hu]
      exact .cons ru (pick_vals ix r)
theorem pick_reps {K : PySem.W.Frag} {H : Hp} : ∀ (ix : List Nat) {vs : List V} {ds : List D}, RepAll K H vs ds → RepAll K H (pick ix vs) (pick ix ds)
  | [], _, _, _ => .nil
  | i :: ix, vs, ds, r => by
    unfold pick
    rw [List.filterMap_cons, List.filterMap_cons]
    cases e : ds[i]? with
    | none =>
      have e2 : vs[i]? = none := by
        rw [List.getElem?_eq_none_iff] at e ⊢
        rw [r.length]; exact e
      rw [e2]
      exact pick_reps ix r
    | some d =>
      obtain ⟨v, hv, rv⟩ := r.get e
      rw [hv]
      exact .cons rv (pick_reps ix r)
/-- n values, keywords ks, and the defaults dd make the parameters, by place -/
structure KbG (K : PySem.W.Frag) (fd : FuncData) (ps : List Str) (n : Nat) (ks : List Str) (ix : List Nat) (dd : List D) : Prop where
  ex : ∃ (dvs : List V) (dv : List Value), Vals dvs dv ∧ (∀ H, RepAll K H dvs dd) ∧ ∀ (s : Shared) (us ws : List Value), K.In s.heap → us.length = n → ws.length = ks.length → BindsTo s fd ⟨us, ks.zip ws⟩ (ps.zip (pick ix (us ++ ws ++ dv)))
theorem KbG.of {K : PySem.W.Frag} {fd : FuncData} {ps : List Str} {n : Nat} {ks : List Str} {ix : List Nat} {dd : List D} {dvs : List V} {dv : List Value} (h1 : Vals dvs dv) (h2 : ∀ H, RepAll K H dvs dd)
    (h3 : ∀ (s : Shared) (us ws : List Value), K.In s.heap → us.length = n → ws.length = ks.length → BindsTo s fd ⟨us, ks.zip ws⟩ (ps.zip (pick ix (us ++ ws ++ dv)))) : KbG K fd ps n ks ix dd := ⟨_, _, h1, h2, h3⟩
/-- values, then keywords' values -/
def tArgs (t tk : TA) (n m : Nat) (Q : List V → List V → Hp → Prop) : St → Hp → Prop := fun σ H => t σ H fun vs H1 => tk σ H1 fun zs H2 => vs.length = n ∧ zs.length = m ∧ Q vs zs H2
section
variable {M : Model} {A : Around} {E : Value → Shared → Prop} {s : Shared}
theorem evalArgs_any {f : Value} {args : List (Bool × Sem Value)} {keywords : List (Option Str × Sem Value)} {Q : Args → Shared → Prop} (hn : args.any (·.1) = false) (hall : keywords.all (·.1.isSome) = true)
    (h : wpAny M A (spliced args) (fun vs s1 => wpAny M A (evalAll (keywords.map (·.2))) (fun ks s2 => Q ⟨vs, (keywords.filterMap (·.1)).zip ks⟩ s2) E s1) E s) : wpAny M A (evalArgs f true args keywords) Q E s := by
  match args, hn, h with
  | [], _, h =>
    unfold evalArgs
    show wpAny M A (spliced [] >>= _) Q E s
    refine wpAny_bind (wpAny_mono h (fun vs s1 h1 => ?_) fun _ _ x => x)
    refine wpAny_holding ?_
    simp only [hall, if_true]
    exact wpAny_bind (wpAny_mono h1 (fun ks s2 h2 => wpAny_bind (wpAny_pure (wpAny_pure h2))) fun _ _ x => x)
  | (false, x) :: rest, _, h => exact evalArgs_kw hall h
  | (true, x) :: rest, hn, _ => cases hn
theorem callWith_any {P : Heap → Prop} {pos : Pos} {f : Value} {first : List Value} {Q : Value → Shared → Prop} {args : List (Bool × Sem Value)} {keywords : List (Option Str × Sem Value)} (hn : args.any (·.1) = false) (hall : keywords.all (·.1.isSome) = true)
    (hk : ∀ h, P h → ∃ k, (k = PySem.Keeper.frame ∨ k = PySem.Keeper.machine ∨ k = PySem.Keeper.boundFrame) ∧ PySem.W.Looks M h (keeperOf f) k)
    (h : wpAny M A (spliced args) (fun vs s1 => wpAny M A (evalAll (keywords.map (·.2))) (fun ks s2 => P s2.heap ∧ wpAny M A (call f (first ++ vs) ((keywords.filterMap (·.1)).zip ks)) Q E s2) E s1) E s) : wpAny M A (callWith pos f first args keywords) Q E s := by
  refine PySem.W.callWith_of ?_ hk (evalArgs_any hn hall h)
  rw [hn, Bool.false_or]
  rw [List.any_eq_false]
  intro x hx
  have := List.all_eq_true.mp hall x hx
  cases h : x.1 with
  | none => rw [h] at this; cases this
  | some _ => simp
end
section
variable {X : Cx} {k n : Nat} {f C q g : Addr} {fd : FuncData} {ps ks : List Str} {ix : List Nat} {dd : List D} {S : DSp} {E : XK} {x m : Str} {p pos apos : Pos} {e o : Expr} {es : List Expr} {kws : List Keyword} {ta : TE} {t tk : TA} {pl : Sem Bool} {mc : Value}
/-- no exception -/
abbrev EN : XK := fun _ _ _ => False
theorem passN {P : Program} {w : World} : Passes (CXD P w) X EN := fun _ _ _ _ _ _ _ ⟨_, _, _, _, _, _, _, _, _, _, _, _, h⟩ => h.elim
/-- a promise over data at given values, keywords' values, defaults -/
def atD (K : PySem.W.Frag) (S : DSp) (ix : List Nat) (dd : List D) (vs zs : List V) (H : Hp) (Q : VK) (E : XK) : Prop := ∃ (H0 : Hp) (ds es : List D) (Φ : D → Prop) (Ψ : Exn → Prop), Ex H0 H ∧ RepAll K H0 vs ds ∧ RepAll K H0 zs es ∧ S (pick ix (ds ++ es ++ dd)) Φ Ψ ∧
  (∀ v d H0' H', Φ d → PX ⟨H, H0, []⟩ H0' H' → Rep K H0' v d → Q v H') ∧ (∀ x dd H0' H', Ψ x → PX ⟨H, H0, []⟩ H0' H' → RepX K H0' H' x dd → E (.ref x.C) dd H')
theorem code_fnD {pins : List (Addr × Obj)} {σ : St} {H : Hp} {s : Shared} {Q : VK} {us ws : List Value} {vs zs : List V} (F : FnG X.prog X.w X.K X.mg X.base k f fd ps (lift X.K S)) (room : RoomG k X.A) (hb : KbG X.K fd ps n ks ix dd) (hx : Passes (CXD X.prog X.w) X E)
    (I : Inv X pins σ H s) (r : Vals vs us) (rz : Vals zs ws) (l1 : vs.length = n) (l2 : zs.length = ks.length) (q : atD X.K S ix dd vs zs H Q E) : codeAny (model X.prog X.w) X.A (.call (.ref f) ⟨us, ks.zip ws⟩) (wants (EP X pins σ Q) X.xe) s := by
  obtain ⟨dvs, dv, rd, rr, b⟩ := hb.ex
  obtain ⟨H0, ds, es, Φ, Ψ, e, r1, r2, q1, k1, k2⟩ := q
  refine codeAny_mono (F.run X.A X.stack s H ⟨us, ks.zip ws⟩ _ (pick ix (vs ++ zs ++ dvs)) Q E room I.env0 (b s us ws I.kIn (r.length.symm.trans l1) (rz.length.symm.trans l2)) (pick_vals ix ((r.append rz).append rd))
    ⟨H0, _, Φ, Ψ, e, pick_reps ix ((r1.append r2).append (rr H0)), q1, k1, k2⟩) fun r s' z => ?_
  have y := back_of hx I r s' z
  cases r with
  | error er => exact y
  | ok fl => cases fl <;> exact y
theorem run_fnD {pins : List (Addr × Obj)} {σ : St} {H : Hp} {s : Shared} {Q : VK} {us ws : List Value} {vs zs : List V} (F : FnG X.prog X.w X.K X.mg X.base k f fd ps (lift X.K S)) (room : RoomG k X.A) (hb : KbG X.K fd ps n ks ix dd) (hx : Passes (CXD X.prog X.w) X E)
    (I : Inv X pins σ H s) (r : Vals vs us) (rz : Vals zs ws) (l1 : vs.length = n) (l2 : zs.length = ks.length) (q : atD X.K S ix dd vs zs H Q E) : wpAny (model X.prog X.w) X.A (call (.ref f) us (ks.zip ws)) (EP X pins σ Q) X.xe s :=
  wpAny_call (code_fnD F room hb hx I r rz l1 l2 q)
/-- f(..) -/
def tCallD (K : PySem.W.Frag) (S : DSp) (n m : Nat) (ix : List Nat) (dd : List D) (E : XK) (t tk : TA) : TE := fun σ H Q => tArgs t tk n m (fun vs zs H1 => atD K S ix dd vs zs H1 Q E) σ H
theorem pe_fnD (F : FnG X.prog X.w X.K X.mg X.base k f fd ps (lift X.K S)) (room : RoomG k X.A) (hb : KbG X.K fd ps n ks ix dd) (hx : Passes (CXD X.prog X.w) X E) (hm : X.mg x = some (.ref f)) (hk : PySem.W.keepIn X.K (.ref f) = true) (ha : PA X es t) (hkw : PK X kws tk) (hg : Gl X x)
    (hn : (backTo pos (starEach es X.env)).any (·.1) = false := by rfl) (hall : (backToKw pos (keywordEach kws X.env)).all (·.1.isSome) = true := by rfl) (hks : (backToKw pos (keywordEach kws X.env)).filterMap (·.1) = ks := by rfl) (hdb : (x == ("__debug__" : Str)) = false := by decide) :
    PE X (.Call (.Name x p) es kws pos) (tCallD X.K S n ks.length ix dd E t tk) := by
  refine ⟨fun pins s σ H Q I h => wpAny_Call_Name_kw (ld_glob I hg hm ?_ hdb)⟩
  refine callWith_any (P := X.K.In) hn hall (PySem.W.keeps_K hk) (thn (ha.run pos pins s σ H _ I h) fun us s1 ⟨vs, H1, J, r, q⟩ => thn (hkw.run pos pins s1 σ H1 _ J q) fun ws s2 ⟨zs, H2, J2, rz, l1, l2, q2⟩ => ⟨J2.kIn, ?_⟩)
  rw [hks]
  exact run_fnD F room hb hx J2 r rz l1 l2 q2
/-- the promise of __init__: from the arguments to the attributes -/
abbrev ISp := List D → (List (Str × D) → Prop) → (Exn → Prop) → Prop
def liftI (K : PySem.W.Frag) (C : Addr) (S : ISp) : Sp := fun vs H Q E => ∃ (x dx : Addr) (vs' : List V) (He H0 : Hp) (ds : List D) (Φ : List (Str × D) → Prop) (Ψ : Exn → Prop), vs = .ref x :: vs' ∧ H x = some (.ins C dx []) ∧ He x = none ∧ Ex He H ∧ Ex H0 He ∧ RepAll K H0 vs' ds ∧ S ds Φ Ψ ∧
  (∀ fs H0' H', Φ fs → PX ⟨He, H0, []⟩ H0' H' → Rep K H0' (.ref x) (.ins C fs) → Q .non H') ∧ (∀ y dd H0' H', Ψ y → PX ⟨He, H0, []⟩ H0' H' → RepX K H0' H' y dd → E (.ref y.C) dd H')
/-- C(..) -/
def atI (K : PySem.W.Frag) (S : ISp) (C : Addr) (ix : List Nat) (dd : List D) (vs zs : List V) (H : Hp) (Q : VK) (E : XK) : Prop := ∃ (H0 : Hp) (ds es : List D) (Φ : D → Prop) (Ψ : Exn → Prop), Ex H0 H ∧ RepAll K H0 vs ds ∧ RepAll K H0 zs es ∧ S (pick ix (ds ++ es ++ dd)) (fun fs => Φ (.ins C fs)) Ψ ∧
  (∀ v d H0' H', Φ d → PX ⟨H, H0, []⟩ H0' H' → Rep K H0' v d → Q v H') ∧ (∀ x dd H0' H', Ψ x → PX ⟨H, H0, []⟩ H0' H' → RepX K H0' H' x dd → E (.ref x.C) dd H')
def tMakeD (K : PySem.W.Frag) (C : Addr) (S : ISp) (n m : Nat) (ix : List Nat) (dd : List D) (E : XK) (t tk : TA) : TE := fun σ H Q => tArgs t tk n m (fun vs zs H1 => atI K S C ix dd vs zs H1 Q E) σ H
/-- how an __init__ takes its values: self first -/
def shiftIx (ix : List Nat) : List Nat := 0 :: ix.map (· + 1)
theorem pick_shift {α : Type} (ix : List Nat) (a : α) (l : List α) : pick (shiftIx ix) (a :: l) = a :: pick ix l := by
  unfold pick shiftIx
  rw [List.filterMap_cons]
  simp only [List.getElem?_cons_zero, List.filterMap_map]
  congr 1
theorem run_makeD {I0 : ISp} {pins : List (Addr × Obj)} {σ : St} {H : Hp} {s : Shared} {Q : VK} {us ws : List Value} {vs zs : List V} (Mx : Mk X.K C f) (F : FnG X.prog X.w X.K X.mg X.base k f fd ps (liftI X.K C I0)) (room : RoomG (k + 1) X.A) (hb : KbG X.K fd ps (n + 1) ks (shiftIx ix) dd) (hx : Passes (CXD X.prog X.w) X E)
    (I : Inv X pins σ H s) (r : Vals vs us) (rz : Vals zs ws) (l1 : vs.length = n) (l2 : zs.length = ks.length) (q : atI X.K I0 C ix dd vs zs H Q E) : wpAny (model X.prog X.w) X.A (call (.ref C) us (ks.zip ws)) (EP X pins σ Q) X.xe s := by
  obtain ⟨dvs, dv, rd, rr, b⟩ := hb.ex
  obtain ⟨H0, ds, es, Φ, Ψ, e, r1, r2, q1, k1, k2⟩ := q
  refine run_makeG (zs := pick ix (us ++ ws ++ dv)) (vs := pick ix (vs ++ zs ++ dvs)) Mx F room (fun s u hk => ?_) hx I (pick_vals ix ((r.append rz).append rd)) fun y dx hy hdx hne => ?_
  · have z := b s (u :: us) ws hk (by rw [List.length_cons, ← r.length, l1]) (rz.length.symm.trans l2)
    rw [show u :: us ++ ws ++ dv = u :: (us ++ ws ++ dv) from rfl, pick_shift] at z
    exact z
  · have hx2 : Ex H (upd (upd H dx (.own y)) y (.ins C dx [])) := fun a o h => by
      have n1 : a ≠ y := ne_of_none h hy
      have n2 : a ≠ dx := ne_of_none h hdx
      rw [upd_ne n1, upd_ne n2]; exact h
    refine ⟨y, dx, _, H, H0, _, _, Ψ, rfl, upd_same, hy, hx2, e, pick_reps ix ((r1.append r2).append (rr H0)), q1, fun fs H0' H' h1 h2 h3 => ⟨rfl, k1 _ _ H0' H' h1 h2 h3⟩, k2⟩
theorem pe_makeD {I0 : ISp} (Mx : Mk X.K C f) (F : FnG X.prog X.w X.K X.mg X.base k f fd ps (liftI X.K C I0)) (room : RoomG (k + 1) X.A) (hb : KbG X.K fd ps (n + 1) ks (shiftIx ix) dd) (hx : Passes (CXD X.prog X.w) X E) (hm : X.mg x = some (.ref C)) (ha : PA X es t) (hkw : PK X kws tk) (hg : Gl X x)
    (hn : (backTo pos (starEach es X.env)).any (·.1) = false := by rfl) (hall : (backToKw pos (keywordEach kws X.env)).all (·.1.isSome) = true := by rfl) (hks : (backToKw pos (keywordEach kws X.env)).filterMap (·.1) = ks := by rfl) (hdb : (x == ("__debug__" : Str)) = false := by decide) :
    PE X (.Call (.Name x p) es kws pos) (tMakeD X.K C I0 n ks.length ix dd E t tk) := by
  refine ⟨fun pins s σ H Q I h => wpAny_Call_Name_kw (ld_glob I hg hm ?_ hdb)⟩
  refine callWith_any (P := X.K.In) hn hall (PySem.W.keeps_K Mx.kp) (thn (ha.run pos pins s σ H _ I h) fun us s1 ⟨vs, H1, J, r, q⟩ => thn (hkw.run pos pins s1 σ H1 _ J q) fun ws s2 ⟨zs, H2, J2, rz, l1, l2, q2⟩ => ⟨J2.kIn, ?_⟩)
  rw [hks]
  exact run_makeD Mx F room hb hx J2 r rz l1 l2 q2
/-- c(..), the slot i holding the class at C -/
def tMakeL (K : PySem.W.Frag) (i : Nat) (C : Addr) (S : ISp) (n m : Nat) (ix : List Nat) (dd : List D) (E : XK) (t tk : TA) : TE := fun σ H Q => σ[i]? = some (some (.ref C)) ∧ tMakeD K C S n m ix dd E t tk σ H Q
theorem pe_makeL {I0 : ISp} (i : Nat) (Mx : Mk X.K C f) (F : FnG X.prog X.w X.K X.mg X.base k f fd ps (liftI X.K C I0)) (room : RoomG (k + 1) X.A) (hb : KbG X.K fd ps (n + 1) ks (shiftIx ix) dd) (hx : Passes (CXD X.prog X.w) X E) (ha : PA X es t) (hkw : PK X kws tk) (hN : X.N[i]? = some x := by rfl) (hv : Vis X.env.scope x := by first | exact Or.inl rfl | exact Or.inr (Or.inl rfl) | exact Or.inr (Or.inr rfl))
    (hn : (backTo pos (starEach es X.env)).any (·.1) = false := by rfl) (hall : (backToKw pos (keywordEach kws X.env)).all (·.1.isSome) = true := by rfl) (hks : (backToKw pos (keywordEach kws X.env)).filterMap (·.1) = ks := by rfl) (hdb : (x == ("__debug__" : Str)) = false := by decide) (hcd : (x == ("__classdict__" : Str)) = false := by decide) :
    PE X (.Call (.Name x p) es kws pos) (tMakeL X.K i C I0 n ks.length ix dd E t tk) := by
  refine ⟨fun pins s σ H Q I h => wpAny_Call_Name_kw (thn ((pe_var (pos := p) hN hv hdb hcd).run pins s σ H (fun v H1 => v = .ref C ∧ H1 = H) I ⟨.ref C, h.1, rfl, rfl⟩) fun u s0 ⟨v, H', J0, r0, q0⟩ => ?_)⟩
  obtain ⟨rfl, rfl⟩ := q0
  cases r0
  refine callWith_any (P := X.K.In) hn hall (PySem.W.keeps_K Mx.kp) (thn (ha.run pos pins s0 σ _ _ J0 h.2) fun us s1 ⟨vs, H1, J, r, q⟩ => thn (hkw.run pos pins s1 σ H1 _ J q) fun ws s2 ⟨zs, H2, J2, rz, l1, l2, q2⟩ => ⟨J2.kIn, ?_⟩)
  rw [hks]
  exact run_makeD Mx F room hb hx J2 r rz l1 l2 q2
/-- C.m(..), a class method -/
def tCMethD (K : PySem.W.Frag) (C : Addr) (S : DSp) (n j : Nat) (ix : List Nat) (dd : List D) (E : XK) (ta : TE) (t tk : TA) : TE := fun σ H Q => ta σ H fun x H1 => x = .ref C ∧ tArgs t tk n j (fun vs zs H2 => atD K S (shiftIx ix) dd (x :: vs) zs H2 Q E) σ H1
theorem pe_cmethD {r0 : Addr} (he : PE X o ta) (c : ClX.CRead X.K C mc) (hm : ClX.CMet X.K C mc m r0 g) (F : FnG X.prog X.w X.K X.mg X.base k g fd ps (lift X.K S)) (room : RoomG k X.A) (hb : KbG X.K fd ps (n + 1) ks (shiftIx ix) dd) (hx : Passes (CXD X.prog X.w) X E) (ha : PA X es t) (hkw : PK X kws tk)
    (hn : (backTo pos (starEach es X.env)).any (·.1) = false := by rfl) (hall : (backToKw pos (keywordEach kws X.env)).all (·.1.isSome) = true := by rfl) (hks : (backToKw pos (keywordEach kws X.env)).filterMap (·.1) = ks := by rfl)
    (ht : eval (.Call (.Attribute o m apos) es kws pos) X.env = (do
      let u ← eval o X.env
      standAt apos.atName
      let (g, first) ← holding [u] (getMethod u m pl)
      callWith pos g first (backTo pos (starEach es X.env)) (backToKw pos (keywordEach kws X.env))) := by rfl) :
    PE X (.Call (.Attribute o m apos) es kws pos) (tCMethD X.K C S n ks.length ix dd E ta t tk) := by
  refine ⟨fun pins s σ H Q I h => PySem.W.methodCall_KW (pl := pl) (thn (he.run pins s σ H _ I h) fun u s1 ⟨y, H1, J, ry, ey, q⟩ => ?_) ht⟩
  subst ey
  obtain rfl : u = Value.ref C := ry
  refine ClX.getmethcm_ok J c hm fun s2 J2 => ?_
  refine callWith_any (P := PySem.W.MethP X.K s1.heap.objs.size g (.ref C)) hn hall (PySem.W.keeps_M hm.fi) (thn (ha.run pos _ s2 σ H1 _ J2 q) fun us s3 ⟨vs, H2, J3, r, q2⟩ => thn (hkw.run pos _ s3 σ H2 _ J3 q2) fun ws s4 ⟨zs, H3, J4, rz, l1, l2, q3⟩ => ⟨⟨ClX.pin_at J4, J4.kIn⟩, ?_⟩)
  rw [hks]
  exact thn (wpAny_call (PySem.W.method_call (ClX.pin_at J4) (code_fnD (us := .ref C :: us) (vs := .ref C :: vs) F room hb hx J4 (.cons rfl r) rz (by rw [List.length_cons, l1]) l2 q3))) fun _ _ y => ClX.unpinE y
end
end DL
namespace DL
open PySem PySem.Spec L2
open PyProof.Rows hiding St
/-! ### the calls' readings over data -/
section
variable {w : Wx} {ρ : Env'} {Φ : D → Env' → Prop} {t tk : TA} {ta te : TE} {S : DSp} {I : ISp} {n m : Nat} {ix : List Nat} {dd : List D}
/-- keywords' values are like arguments -/
theorem wE_callD (h : wA w t ρ fun ds ρ1 => wA w tk ρ1 fun es ρ2 => ds.length = n ∧ es.length = m ∧ S (pick ix (ds ++ es ++ dd)) (fun d => Φ d ρ2) w.X) : wE w (tCallD w.K S n m ix dd w.EX t tk) ρ Φ := fun c H0 H σ Q a x k =>
  h c H0 H σ _ a x fun vs ds ρ1 H01 H1 h1 a1 e1 r1 => h1 c H01 H1 σ _ a1 x fun zs es ρ2 H02 H2 ⟨l1, l2, q⟩ a2 e2 r2 => ⟨r1.length.trans l1, r2.length.trans l2, H02, ds, es, fun d => Φ d ρ2, w.X, a2.px.i, r1.mono e2, r2, q,
    fun v d H0' H' z p rv => k v d ρ2 H0' H' z (a2.go p) ((e1.trans e2).trans p.e0) rv, fun y dd H0' H' z p rx => x.l y z dd H0' H' (a2.px.trans p) rx⟩
theorem wE_makeD {C : Addr} (h : wA w t ρ fun ds ρ1 => wA w tk ρ1 fun es ρ2 => ds.length = n ∧ es.length = m ∧ I (pick ix (ds ++ es ++ dd)) (fun fs => Φ (.ins C fs) ρ2) w.X) : wE w (tMakeD w.K C I n m ix dd w.EX t tk) ρ Φ := fun c H0 H σ Q a x k =>
  h c H0 H σ _ a x fun vs ds ρ1 H01 H1 h1 a1 e1 r1 => h1 c H01 H1 σ _ a1 x fun zs es ρ2 H02 H2 ⟨l1, l2, q⟩ a2 e2 r2 => ⟨r1.length.trans l1, r2.length.trans l2, H02, ds, es, fun d => Φ d ρ2, w.X, a2.px.i, r1.mono e2, r2, q,
    fun v d H0' H' z p rv => k v d ρ2 H0' H' z (a2.go p) ((e1.trans e2).trans p.e0) rv, fun y dd H0' H' z p rx => x.l y z dd H0' H' (a2.px.trans p) rx⟩
theorem wE_makeL {i : Nat} {C : Addr} (hi : ρ[i]? = some (some (.dat (.raw (.ref C))))) (h : wE w (tMakeD w.K C I n m ix dd w.EX t tk) ρ Φ) : wE w (tMakeL w.K i C I n m ix dd w.EX t tk) ρ Φ := fun c H0 H σ Q a x k => by
  obtain ⟨v, h1, r⟩ := a.get hi
  cases r
  exact ⟨h1, h c H0 H σ Q a x k⟩
theorem wE_cmethD {C : Addr} (h : wE w ta ρ fun d ρ0 => d = .raw (.ref C) ∧ wA w t ρ0 fun ds ρ1 => wA w tk ρ1 fun es ρ2 => ds.length = n ∧ es.length = m ∧ S (pick (shiftIx ix) (.raw (.ref C) :: ds ++ es ++ dd)) (fun d => Φ d ρ2) w.X) :
    wE w (tCMethD w.K C S n m ix dd w.EX ta t tk) ρ Φ := fun c H0 H σ Q a x k =>
  h c H0 H σ _ a x fun v d ρ0 H00 H0h ⟨ed, h⟩ a0 e0 r0 => by
    subst ed
    cases r0
    exact ⟨rfl, h c H00 H0h σ _ a0 x fun vs ds ρ1 H01 H1 h1 a1 e1 r1 => h1 c H01 H1 σ _ a1 x fun zs es ρ2 H02 H2 ⟨l1, l2, q⟩ a2 e2 r2 => ⟨r1.length.trans l1, r2.length.trans l2, H02, .raw (.ref C) :: ds, es, fun d => Φ d ρ2, w.X, a2.px.i,
        .cons (.raw _) (r1.mono e2), r2, q, fun v d H0' H' z p rv => k v d ρ2 H0' H' z (a2.go p) ((e0.trans (e1.trans e2)).trans p.e0) rv, fun y dd H0' H' z p rx => x.l y z dd H0' H' (a2.px.trans p) rx⟩⟩
/-- a property: nothing is raised in it -/
theorem wE_propD {C : Addr} (h : wE w te ρ fun d ρ1 => ∃ fs, d = .ins C fs ∧ S [.ins C fs] (fun d => Φ d ρ1) (fun _ => False)) : wE w (tProp C (lift w.K S) [] EN te) ρ Φ := fun c H0 H σ Q a x k =>
  h c H0 H σ _ a x fun v d ρ1 H01 H1 ⟨fs, ed, q⟩ a1 e1 r1 => by
    subst ed
    cases r1 with
    | ins hp hk =>
      exact ⟨_, _, _, rfl, a1.px.i _ _ hp, H01, [.ins C fs], fun d => Φ d ρ1, fun _ => False, a1.px.i, .cons (.ins hp hk) .nil, q, fun v d H0' H' z p rv => k v d ρ1 H0' H' z (a1.go p) (e1.trans p.e0) rv, fun _ _ _ _ z => z.elim⟩
/-! texts put together -/
def fmtG (x : D) (Φ : D → Prop) : Prop := match x with
  | .str y => y.length ≤ 1000000 ∧ Φ (.str y)
  | .int i => i.natAbs.log2 < 1920 ∧ Φ (.str (toString i))
  | _ => False
theorem wE_fmt (h : wE w te ρ fun d ρ1 => fmtG d fun d' => Φ d' ρ1) : wE w (tFmt te) ρ Φ := fun c H0 H σ Q a x k =>
  h c H0 H σ _ a x fun v d ρ1 H01 H1 q a1 e1 r1 => by
    cases r1 <;> first
      | exact q.elim
      | exact .inl ⟨_, rfl, len_ok q.1, k _ _ ρ1 H01 H1 q.2 a1 e1 (.str _)⟩
      | exact .inr ⟨_, rfl, q.1, k _ _ ρ1 H01 H1 q.2 a1 e1 (.str _)⟩
def wJ (w : Wx) : List TE → Str → Env' → (Str → Env' → Prop) → Prop
  | [], acc, ρ, Φ => Φ acc ρ
  | t :: ts, acc, ρ, Φ => wE w t ρ fun d ρ1 => ∃ y, d = .str y ∧ (acc ++ y).length ≤ 1000000 ∧ wJ w ts (acc ++ y) ρ1 Φ
theorem wJ_run : ∀ (ts : List TE) (acc : Str) (ρ : Env') (Φ : Str → Env' → Prop), wJ w ts acc ρ Φ → ∀ (c : Ctx) (H0 H : Hp) (σ : St) (Q : Str → Hp → Prop), At w.K c ρ H0 H σ → XLink w c →
    (∀ out ρ' H0' H', Φ out ρ' → At w.K c ρ' H0' H' σ → Ex H0 H0' → Q out H') → tJs ts acc σ H Q
  | [], acc, ρ, Φ, h, c, H0, H, σ, Q, a, x, k => k acc ρ H0 H h a (.refl _)
  | t :: ts, acc, ρ, Φ, h, c, H0, H, σ, Q, a, x, k => h c H0 H σ _ a x fun v d ρ1 H01 H1 ⟨y, ed, hz, q⟩ a1 e1 r1 => by
    subst ed
    cases r1
    exact ⟨y, rfl, len_ok hz, wJ_run ts _ ρ1 Φ q c H01 H1 σ Q a1 x fun out ρ' H0' H' z a' e' => k out ρ' H0' H' z a' (e1.trans e')⟩
theorem wE_joined {ts : List TE} (h : wJ w ts Str.empty ρ fun out ρ' => Φ (.str out) ρ') : wE w (fun σ H Q => tJs ts Str.empty σ H fun out H1 => Q (.str out) H1) ρ Φ := fun c H0 H σ Q a x k =>
  wJ_run ts _ ρ _ h c H0 H σ _ a x fun out ρ' H0' H' z a' e' => k _ _ ρ' H0' H' z a' e' (.str _)
end
/-! ### statements -/
section
variable {w : Wx} {ρ : Env'} {E : DE} {ts : TS}
/-- a, b = e, f -/
theorem wS_par {i j : Nat} {t : TA} (h : wA w t ρ fun ds ρ1 => ∃ d1 d2, ds = [d1, d2] ∧ E.nx ((ρ1.set i (some (.dat d1))).set j (some (.dat d2)))) : wS w (tPar i j t) E ρ := fun c Dn H0 H σ a x l =>
  h c H0 H σ _ a x fun vs ds ρ1 H01 H1 ⟨d1, d2, e, q⟩ a1 e1 r1 => by
    subst e
    obtain ⟨v1, v2, rfl, g1, g2⟩ := vals_two r1
    exact ⟨v1, v2, rfl, l.nx _ _ _ _ q ((a1.setDat g1 i).setDat g2 j)⟩
/-- a, b = [..], 0: the list one's own -/
theorem wS_parOwnC {i j : Nat} {t : TA} {z : Int} (hij : i ≠ j) (h : wA w t ρ fun ds ρ1 => ds.length ≤ 1000000 ∧ E.nx ((ρ1.set i (some (.own none (.lst ds)))).set j (some (.dat (.int z))))) : wS w (tPar i j (tCons (tLst t) (tCons (tC (.int z)) tNil))) E ρ := fun c Dn H0 H σ a x l =>
  h c H0 H σ _ a x fun vs ds ρ1 H01 H1 ⟨hz, q⟩ a1 e1 r1 => ⟨len_ok (by rw [r1.length]; exact hz), fun p hp => ⟨_, _, rfl, l.nx _ _ _ _ q ((a1.setOwn hp (.lst r1) i).setDat (.int z) j)⟩⟩
/-! self.f = e, self being one's own -/
def putD (f : Str) (v : D) : List (Str × D) → List (Str × D)
  | [] => [(f, v)]
  | (g, x) :: r => if g = f then (g, v) :: r else (g, x) :: putD f v r
theorem repKV_put {K : PySem.W.Frag} {H : Hp} {f : Str} {v : V} {d : D} (r : Rep K H v d) : ∀ {vs : List (Str × V)} {ds : List (Str × D)}, RepKV K H vs ds → RepKV K H (putF f v vs) (putD f d ds)
  | _, _, .nil => .cons r .nil
  | _, _, .cons (k := k) h hs => by
    unfold putF putD
    by_cases e : k = f
    · rw [if_pos e, if_pos e]; exact .cons r hs
    · rw [if_neg e, if_neg e]; exact .cons h (repKV_put r hs)
theorem own_ins {K : PySem.W.Frag} {H0 : Hp} {o : HO} {C : Addr} {fs : List (Str × D)} (r : RepO K H0 o (.ins C fs)) : ∃ dx vs, o = .ins C dx vs ∧ RepKV K H0 vs fs := by
  cases r with
  | ins h => exact ⟨_, _, rfl, h⟩
theorem wS_fld {i : Nat} {f : Str} {te : TE} (h : wE w te ρ fun d ρ1 => ∃ t C fs, ρ1[i]? = some (some (.own t (.ins C fs))) ∧ Cls w.K C ∧ NoAttr w.K C f ∧ fs.length < 1000 ∧ E.nx (ρ1.set i (some (.own t (.ins C (putD f d fs)))))) : wS w (sFld w.K (tVar i) te f) E ρ := fun c Dn H0 H σ a x l =>
  h c H0 H σ _ a x fun v d ρ1 H01 H1 ⟨t, C, fs, g, c1, c2, hz, q⟩ a1 e1 r1 => by
    obtain ⟨p, o, h1, h2, _, _, r⟩ := a1.own g
    obtain ⟨dx, vs, rfl, r2⟩ := own_ins r
    exact ⟨.ref p, h1, p, C, dx, vs, rfl, h2, c1, c2, by rw [r2.length]; exact hz, l.nx _ _ _ _ q (a1.turn g h1 (.ins (repKV_put r1 r2)))⟩
end
/-! ### defs -/
structure FunX (K : PySem.W.Frag) (x qual : Str) (st : Stmt) (f : Addr) (fd : FuncData) : Prop where
  ex : ∃ (oc : Value) (od : Option Addr) (dV kV doc pm : Value) (an : Option Addr) (cdv ct : Value) (osl : Array (Option Value)),
    fd = PySem.W.fnOf x qual (defArgs st) (defBody st) (defScope st) dV kV doc pm an cdv ct ∧ K.lookup f = some ⟨oc, od, .func fd, osl⟩ ∧ PySem.W.codeIn K cdv qual = true
section
variable {P : Program} {w : World} {K : PySem.W.Frag} {mg : Str → Option Value} {base : Heap}
/-- where a def's body stands -/
abbrev bodyX (P : Program) (w : World) (K : PySem.W.Frag) (mg : Str → Option Value) (base : Heap) (N : List Str) (qual : Str) (st : Stmt) (f : Addr) (cdv : Value) (A : Around) (outer : List Env) (s : Shared) (H : Hp) (E : XK) : Cx :=
  cxOf (CXD P w) P w K mg base N qual (defScope st) f cdv A outer s H E
structure InBody (P : Program) (w : World) (k : Nat) (X : Cx) (E : XK) : Prop where
  room : RoomG k X.A
  pass : Passes (CXD P w) X E
  own : PassesOwn (model P w) X.A X.env X.xe
/-- THE RULE for a def -/
theorem fnX_of {x qual : Str} {st : Stmt} {f : Addr} {fd : FuncData} {N ps : List Str} {k : Nat} {S : DSp} (F : FunX K x qual st f fd) (Sc : FnScope N ps (defScope st)) (len : ∀ ds Φ Ψ, S ds Φ Ψ → ds.length = ps.length)
    (hbody : ∀ (cdv : Value) (A : Around) (outer : List Env) (s : Shared) (H : Hp) (E : XK), InBody P w k (bodyX P w K mg base N qual st f cdv A outer s H E) E →
      ∃ t, PSs (bodyX P w K mg base N qual st f cdv A outer s H E) (defBody st) t ∧ ∀ ds Φ Ψ, S ds Φ Ψ → wS ⟨K, E, Ψ, []⟩ t { nx := fun _ => Φ .non, rt := fun d _ => Φ d } (startE N ds)) :
    FnG P w K mg base (k + 1) f fd ps (lift K S) := by
  obtain ⟨oc, od, dV, kV, doc, pm, an, cdv, ct, osl, rfl, lk, hcd⟩ := F.ex
  refine fnG_of lk hcd Sc (fun vs H Q E ⟨H0, ds, Φ, Ψ, _, r, q, _⟩ => r.length.trans (len ds Φ Ψ q)) fun A outer s H vs Q E room ⟨H0, ds, Φ, Ψ, e, r, q, kq, kx⟩ => ?_
  obtain ⟨t, ht, hw⟩ := hbody cdv A outer s H E ⟨room, passes_call (takes_of rfl rfl rfl rfl) fun _ _ _ _ h => h, passes_of rfl⟩
  refine ⟨t, ht, hw ds Φ Ψ q ⟨H, H0, []⟩ _ H0 H _ (at_start e r) ⟨rfl, fun x hx dd H0' H' p rx => kx x dd H0' H' hx p rx⟩ ⟨fun ρ H0' H' σ z a => kq .non .non H0' H' z a.px .non, fun d v ρ H0' H' σ z a rv => kq v d H0' H' z a.px rv, fun _ _ _ _ _ _ _ z => z.elim, fun _ _ _ _ z => z.elim, fun _ _ _ _ z => z.elim⟩⟩
def startI (x C : Addr) (N : List Str) (ds : List D) : Env' := some (.own (some x) (.ins C [])) :: ((ds.map fun d => some (.dat d)) ++ List.replicate (N.length - (ds.length + 1)) none)
theorem slots_startI {H0 H : Hp} {n : Nat} {x C dx : Addr} {vs : List V} {ds : List D} (hx : H x = some (.ins C dx [])) (r : RepAll K H0 vs ds) :
    Slots K H0 H (some (.own (some x) (.ins C [])) :: ((ds.map fun d => some (.dat d)) ++ List.replicate n none)) (some (.ref x) :: (vs.map some ++ List.replicate n none)) [x] :=
  .own (fun q e => by cases e; rfl) hx (.ins .nil) (slots_start r)
/-- .. for an __init__: the attributes -/
theorem fnI_of {x qual : Str} {C : Addr} {st : Stmt} {f : Addr} {fd : FuncData} {N ps : List Str} {k : Nat} {S : ISp} (F : FunX K x qual st f fd) (Sc : FnScope N ps (defScope st)) (len : ∀ ds Φ Ψ, S ds Φ Ψ → ds.length + 1 = ps.length)
    (hbody : ∀ (cdv : Value) (A : Around) (outer : List Env) (s : Shared) (H : Hp) (E : XK), InBody P w k (bodyX P w K mg base N qual st f cdv A outer s H E) E →
      ∃ t, PSs (bodyX P w K mg base N qual st f cdv A outer s H E) (defBody st) t ∧ ∀ y ds Φ Ψ, S ds Φ Ψ → wS ⟨K, E, Ψ, []⟩ t { nx := fun ρ => ∃ fs, ρ[0]? = some (some (.own (some y) (.ins C fs))) ∧ Φ fs } (startI y C N ds)) :
    FnG P w K mg base (k + 1) f fd ps (liftI K C S) := by
  obtain ⟨oc, od, dV, kV, doc, pm, an, cdv, ct, osl, rfl, lk, hcd⟩ := F.ex
  refine fnG_of lk hcd Sc (fun vs H Q E ⟨y, dx, vs', He, H0, ds, Φ, Ψ, ev, _, _, _, _, r, q, _⟩ => by rw [ev, List.length_cons, r.length]; exact len ds Φ Ψ q) fun A outer s H vs Q E room ⟨y, dx, vs', He, H0, ds, Φ, Ψ, ev, hy, hye, e1, e2, r, q, kq, kx⟩ => ?_
  subst ev
  obtain ⟨t, ht, hw⟩ := hbody cdv A outer s H E ⟨room, passes_call (takes_of rfl rfl rfl rfl) fun _ _ _ _ h => h, passes_of rfl⟩
  have h0 : H0 y = none := e2.back hye
  have a : At K ⟨He, H0, []⟩ (startI y C N ds) H0 H (L2.start N (V.ref y :: vs')) := by
    refine ⟨⟨.of e1, .refl _, e2.trans e1, fun _ _ h => h⟩, .nil, [y], ?_, by simp, fun p hp => ?_⟩
    · have z := slots_startI (n := N.length - (ds.length + 1)) (C := C) hy r
      unfold startI L2.start
      rw [List.length_cons, r.length]
      exact z
    · rw [List.mem_singleton.mp hp]; exact ⟨h0, hye⟩
  refine ⟨t, ht, hw y ds Φ Ψ q ⟨He, H0, []⟩ _ H0 H _ a ⟨rfl, fun x hx dd H0' H' p rx => kx x dd H0' H' hx p rx⟩ ⟨fun ρ H0' H' σ ⟨fs, g, z⟩ a' => ?_, fun _ _ _ _ _ _ z => z.elim, fun _ _ _ _ _ _ _ z => z.elim, fun _ _ _ _ z => z.elim, fun _ _ _ _ z => z.elim⟩⟩
  obtain ⟨p, o, g1, g2, _, gt, _⟩ := a'.own g
  obtain ⟨p', o', g1', _, _, _, a2, r2⟩ := a'.freeze g
  rw [g1] at g1'
  cases g1'
  rw [gt y rfl] at r2
  rw [gt y rfl] at a2
  exact kq fs _ _ z a2.px r2
end
end DL
namespace DL
open PySem PySem.Spec L2
open PyProof.Rows hiding St
/-! ### a def that changes the list it is handed -/
abbrev MSp := List D → List D → (D → List D → Prop) → Prop
def liftM (K : PySem.W.Frag) (S : MSp) : Sp := fun vs H Q _ => ∃ (x : Addr) (vs' us : List V) (He H0 : Hp) (ms ds : List D) (Φ : D → List D → Prop), vs = .ref x :: vs' ∧ H x = some (.lst us) ∧ He x = none ∧ Ex He H ∧ Ex H0 He ∧ RepAll K H0 us ms ∧ RepAll K H0 vs' ds ∧ S ms ds Φ ∧
  (∀ v d us' ms' H0' H', Φ d ms' → PX ⟨He, H0, []⟩ H0' H' → H0' x = none → H' x = some (.lst us') → RepAll K H0' us' ms' → Rep K H0' v d → Q v H')
def startM (x : Addr) (ms : List D) (N : List Str) (ds : List D) : Env' := some (.own (some x) (.lst ms)) :: ((ds.map fun d => some (.dat d)) ++ List.replicate (N.length - (ds.length + 1)) none)
section
variable {P : Program} {w : World} {K : PySem.W.Frag} {mg : Str → Option Value} {base : Heap}
theorem fnM_of {x qual : Str} {st : Stmt} {f : Addr} {fd : FuncData} {N ps : List Str} {k : Nat} {S : MSp} (F : FunX K x qual st f fd) (Sc : FnScope N ps (defScope st)) (len : ∀ ms ds Φ, S ms ds Φ → ds.length + 1 = ps.length)
    (hbody : ∀ (cdv : Value) (A : Around) (outer : List Env) (s : Shared) (H : Hp) (E : XK), InBody P w k (bodyX P w K mg base N qual st f cdv A outer s H E) E →
      ∃ t, PSs (bodyX P w K mg base N qual st f cdv A outer s H E) (defBody st) t ∧ ∀ y ms ds Φ, S ms ds Φ → wS ⟨K, E, fun _ => False, []⟩ t { nx := fun ρ => ∃ ms', ρ[0]? = some (some (.own (some y) (.lst ms'))) ∧ Φ .non ms', rt := fun d ρ => ∃ ms', ρ[0]? = some (some (.own (some y) (.lst ms'))) ∧ Φ d ms' } (startM y ms N ds)) :
    FnG P w K mg base (k + 1) f fd ps (liftM K S) := by
  obtain ⟨oc, od, dV, kV, doc, pm, an, cdv, ct, osl, rfl, lk, hcd⟩ := F.ex
  refine fnG_of lk hcd Sc (fun vs H Q E ⟨y, vs', us, He, H0, ms, ds, Φ, ev, _, _, _, _, _, r, q, _⟩ => by rw [ev, List.length_cons, r.length]; exact len ms ds Φ q) fun A outer s H vs Q E room ⟨y, vs', us, He, H0, ms, ds, Φ, ev, hy, hye, e1, e2, rm, r, q, kq⟩ => ?_
  subst ev
  obtain ⟨t, ht, hw⟩ := hbody cdv A outer s H E ⟨room, passes_call (takes_of rfl rfl rfl rfl) fun _ _ _ _ h => h, passes_of rfl⟩
  have h0 : H0 y = none := e2.back hye
  have a : At K ⟨He, H0, []⟩ (startM y ms N ds) H0 H (L2.start N (V.ref y :: vs')) := by
    refine ⟨⟨.of e1, .refl _, e2.trans e1, fun _ _ h => h⟩, .nil, [y], ?_, by simp, fun p hp => ?_⟩
    · unfold startM L2.start
      rw [List.length_cons, r.length]
      exact .own (fun q e => by cases e; rfl) hy (.lst rm) (slots_start r)
    · rw [List.mem_singleton.mp hp]; exact ⟨h0, hye⟩
  have fin : ∀ d v ρ H0' H' σ, (∃ ms', ρ[0]? = some (some (.own (some y) (.lst ms'))) ∧ Φ d ms') → At K ⟨He, H0, []⟩ ρ H0' H' σ → Rep K H0' v d → Q v H' := fun d v ρ H0' H' σ ⟨ms', g, z⟩ a' rv => by
    obtain ⟨p, o, g1, g2, g3, gt, g4⟩ := a'.own g
    obtain ⟨us', rfl, r2⟩ := own_lst g4
    rw [gt y rfl] at g2 g3
    exact kq v d us' ms' H0' H' z a'.px g3 g2 r2 rv
  refine ⟨t, ht, hw y ms ds Φ q ⟨He, H0, []⟩ _ H0 H _ a ⟨rfl, fun _ hx => hx.elim⟩ ⟨fun ρ H0' H' σ z a' => fin _ _ ρ H0' H' σ z a' .non, fun d v ρ H0' H' σ z a' rv => fin d v ρ H0' H' σ z a' rv, fun _ _ _ _ _ _ _ z => z.elim, fun _ _ _ _ z => z.elim, fun _ _ _ _ z => z.elim⟩⟩
end
/-! reading and writing such a list -/
section
variable {w : Wx} {ρ : Env'} {Φ : D → Env' → Prop} {te ti : TE}
/-- x[j], x one's own, its item data -/
theorem wE_ixOwn {i : Nat} (h0 : ∃ t ds, ρ[i]? = some (some (.own t (.lst ds)))) (h : wE w ti ρ fun d ρ1 => ∃ t j ds y, d = .int j ∧ ρ1[i]? = some (some (.own t (.lst ds))) ∧ L2.atI ds j = some y ∧ Φ y ρ1) : wE w (tOp (rIx w.K) (tVar i) ti) ρ Φ := fun c H0 H σ Q a x k => by
  obtain ⟨t0, ds0, h0⟩ := h0
  obtain ⟨p, o, h1, _⟩ := a.own h0
  refine ⟨.ref p, h1, h c H0 H σ _ a x fun v d ρ1 H01 H1 ⟨t, j, ds, y, e, g, hj, q⟩ a1 e1 r1 => ?_⟩
  subst e
  cases r1
  obtain ⟨p', o', g1, g2, _, _, g3⟩ := a1.own g
  rw [h1] at g1
  cases g1
  obtain ⟨us, rfl, r2⟩ := own_lst g3
  obtain ⟨u, hu, ru⟩ := r2.atI hj
  exact .inl ⟨_, us, j, u, rfl, rfl, .inl (.inl g2), hu, k u y ρ1 H01 H1 q a1 e1 ru⟩
theorem RepAll.set {K : PySem.W.Frag} {H : Hp} {v : V} {d : D} (r : Rep K H v d) : ∀ {vs : List V} {ds : List D} (j : Nat), RepAll K H vs ds → RepAll K H (vs.set j v) (ds.set j d)
  | _, _, _, .nil => .nil
  | _, _, 0, .cons _ hs => .cons r hs
  | _, _, j + 1, .cons h hs => .cons h (hs.set r j)
/-- x[j] = .., x one's own -/
theorem wG_subOwn {i : Nat} {d : D} {Ψ : Env' → Prop} (h0 : ∃ t ds, ρ[i]? = some (some (.own t (.lst ds)))) (h : wE w ti ρ fun dj ρ1 => ∃ t j n ds, dj = .int j ∧ ρ1[i]? = some (some (.own t (.lst ds))) ∧ ixN ds.length j = some n ∧ Ψ (ρ1.set i (some (.own t (.lst (ds.set n d)))))) :
    wG w (gSub (tVar i) ti rSetL) d ρ Ψ := fun c H0 H σ v Q a x r k => by
  obtain ⟨t0, ds0, h0⟩ := h0
  obtain ⟨p, o, h1, _⟩ := a.own h0
  refine ⟨.ref p, h1, h c H0 H σ _ a x fun vj dj ρ1 H01 H1 ⟨t, j, n, ds, e, g, hj, q⟩ a1 e1 r1 => ?_⟩
  subst e
  cases r1
  obtain ⟨p', o', g1, g2, _, _, g3⟩ := a1.own g
  rw [h1] at g1
  cases g1
  obtain ⟨us, rfl, r2⟩ := own_lst g3
  exact ⟨p, us, j, n, rfl, rfl, g2, by rw [r2.length]; exact hj, k _ H01 _ σ q (a1.turn g h1 (.lst (r2.set (r.mono e1) n))) e1⟩
end
/-! ### the list that draws numbers, as something of which nothing but that is known -/
theorem objOk_view {P : Program} {w : World} {H H2 : Hp} {h : Heap} (k1 : ∀ q y, H q = some (.own y) → H2 q = some (.own y)) (k2 : ∀ q xs, H q = some (.tup xs) → H2 q = some (.tup xs)) {a : Addr} : ∀ {o : HO}, ObjOk P w H h a o → ObjOk P w H2 h a o
  | .lst _, x => x
  | .tup _, x => x
  | .dK _, x => x
  | .dT _, x => let ⟨x1, x2, xs, p, r⟩ := x; ⟨x1, x2, xs, L2.Paired.mapP p fun _ _ ⟨z1, z2, z3⟩ => ⟨z1, k2 _ _ z2, z3⟩, r⟩
  | .set _ _, x => x
  | .ins _ _ _, x => ⟨k1 _ _ x.1, x.2⟩
  | .own _, x => x
  | .xd _, x => x
  | .rng _ _, x => x
  | .frz _ _, x => ⟨x.1, objOk_view k1 k2 x.2⟩
  | .tbl _, x => x
  | .met _ _, x => x
  | .ext _, x => x
abbrev PSp := List Int → (D → Prop) → Prop
/-- a promise about the list that draws numbers: it is handed one, and whole numbers -/
def pailS (SP : PSp) : DSp := fun ds Φ _ => ∃ ns : List Int, ds = .pail :: ns.map D.int ∧ SP ns Φ
theorem seq3 {its : List Value} {i j k : Int} (r : Vals [V.int i, V.int j, V.int k] its) : ∃ t u v, its = [.int i t, .int j u, .int k v] := by
  cases r with
  | cons r0 r =>
    cases r with
    | cons r1 r =>
      cases r with
      | cons r2 r =>
        cases r
        obtain ⟨t, rfl⟩ := r0
        obtain ⟨u, rfl⟩ := r1
        obtain ⟨v, rfl⟩ := r2
        exact ⟨t, u, v, rfl⟩
theorem fnP_of {P : Program} {w : World} {K : PySem.W.Frag} {mg : Str → Option Value} {base : Heap} {k : Nat} {f : Addr} {fd : FuncData} {ps : List Str} {SM : MSp} {SP : PSp} (F : FnG P w K mg base k f fd ps (liftM K SM))
    (hS : ∀ i j l ns Φ, PB i j → SP ns Φ → SM [.int i, .int j, .int l] (ns.map D.int) fun d ms => Φ d ∧ ∃ i' j' l', ms = [.int i', .int j', .int l'] ∧ PB i' j') (len : ∀ ns Φ, SP ns Φ → ns.length + 1 = ps.length) : FnG P w K mg base k f fd ps (lift K (pailS SP)) := by
  refine ⟨fun vs H Q E ⟨H0, ds, Φ, Ψ, _, r, ⟨ns, e, q⟩, _⟩ => by rw [r.length, e, List.length_cons, List.length_map]; exact len ns Φ q, fun A outer s H args us vs Q E room env0 binds rel ⟨H0, ds, Φ, Ψ, e0, r, ⟨ns, e, q⟩, kq, kx⟩ => ?_⟩
  subst e
  cases r with
  | @cons v vs' _ _ r0 r =>
    cases r0 with
    | @pail x hx =>
      have ev := r.ofInts
      subst ev
      have hH := e0 _ _ hx
      obtain ⟨⟨i, j, l, t, u, v, n, pb, hob⟩, _, _⟩ : ObjOk P w H s.heap x (PailP x) := env0.hok x _ hH
      generalize hH1 : upd H x (.lst [.int i, .int j, .int l]) = H1
      have at_x : H1 x = some (.lst [.int i, .int j, .int l]) := by rw [← hH1]; exact upd_same
      have at_ne : ∀ {b}, b ≠ x → H1 b = H b := fun hb => by rw [← hH1]; exact upd_ne hb
      have none1 : ∀ {b}, H b = none → H1 b = none := fun {b} hb => by
        rw [at_ne fun z => by rw [z, hH] at hb; cases hb]; exact hb
      have env1 : Env0 P w K mg base A outer s H1 := by
        refine ⟨env0.frames, env0.mod, fun b o z => ⟨(env0.bs b o z).1, none1 (env0.bs b o z).2⟩, env0.bsz, env0.funs, fun b hb => none1 (env0.frf b hb), fun b o hb => ?_, env0.bare⟩
        by_cases eb : b = x
        · subst eb
          rw [at_x] at hb
          cases hb
          exact ⟨(by show 3 ≤ sizeLine; decide), [.int i t, .int j u, .int l v], n, .cons ⟨_, rfl⟩ (.cons ⟨_, rfl⟩ (.cons ⟨_, rfl⟩ .nil)), hob⟩
        · rw [at_ne eb] at hb
          exact objOk_view (fun q y hq => by rw [at_ne fun z => by rw [z, hH] at hq; cases hq]; exact hq) (fun q y hq => by rw [at_ne fun z => by rw [z, hH] at hq; cases hq]; exact hq) (env0.hok b o hb)
      let He : Hp := fun b => if b = x then none else H b
      let Hz : Hp := fun b => if b = x then none else H0 b
      have he_ne : ∀ {b}, b ≠ x → He b = H b := fun hb => if_neg hb
      have hz_ne : ∀ {b}, b ≠ x → Hz b = H0 b := fun hb => if_neg hb
      have he_x : He x = none := if_pos rfl
      have hz_x : Hz x = none := if_pos rfl
      have exa : Ex He H1 := fun b o hb => by
        by_cases eb : b = x
        · rw [eb, he_x] at hb; cases hb
        · rw [he_ne eb] at hb; rw [at_ne eb]; exact hb
      have exb : Ex Hz He := fun b o hb => by
        by_cases eb : b = x
        · rw [eb, hz_x] at hb; cases hb
        · rw [hz_ne eb] at hb; rw [he_ne eb]; exact e0 b o hb
      refine codeAny_mono (F.run A outer s H1 args us _ (fun v H' => (∃ i' j' l', H' x = some (.lst [.int i', .int j', .int l']) ∧ PB i' j') ∧ Q v (upd H' x (PailP x))) EN room env1 binds rel
        ⟨x, _, _, He, Hz, _, _, _, rfl, at_x, he_x, exa, exb, .cons (.int i) (.cons (.int j) (.cons (.int l) .nil)), RepAll.ints ns, hS i j l ns Φ pb q, fun v d us' ms' H0' H' ⟨hΦ, i', j', l', em, pb'⟩ px h0x hx' rm rv => ?_⟩) fun r s' z => ?_
      · subst em
        have eu : us' = [.int i', .int j', .int l'] := RepAll.ofInts (ns := [i', j', l']) rm
        subst eu
        refine ⟨⟨i', j', l', hx', pb'⟩, kq v d (upd H0' x (PailP x)) (upd H' x (PailP x)) hΦ ⟨.of fun b o hb => ?_, fun b o hb => ?_, px.i.both, fun b h1 h2 => ?_⟩ (rv.mono (Ex.new h0x))⟩
        · by_cases eb : b = x
          · subst eb
            have hb' : H b = some o := hb
            rw [hH] at hb'; cases hb'; exact upd_same
          · rw [upd_ne eb]; exact px.ex b o (by show He b = some o; rw [he_ne eb]; exact hb)
        · by_cases eb : b = x
          · subst eb
            have hb' : H0 b = some o := hb
            rw [hx] at hb'; cases hb'; exact upd_same
          · rw [upd_ne eb]; exact px.e0 b o (by show Hz b = some o; rw [hz_ne eb]; exact hb)
        · have h2' : H0 b = none := h2
          have eb : b ≠ x := fun z => by rw [z, hx] at h2'; cases h2'
          rw [upd_ne eb]
          exact px.n b (by show He b ≠ none; rw [he_ne eb]; exact h1) (by show Hz b = none; rw [hz_ne eb]; exact h2)
      · cases r with
        | error er => obtain ⟨_, _, _, _, _, _, _, _, _, _, _, _, z⟩ := z; exact z.elim
        | ok fl =>
          cases fl with
          | ret uv =>
            obtain ⟨v', H', os, bare, un, hok, rv, ⟨i', j', l', hx', pb'⟩, qv⟩ := z
            refine ⟨v', upd H' x (PailP x), os, bare, ⟨fun b o h1 h2 => un.keep b o h1 (none1 h2), fun b o h1 h2 => un.slot b o h1 (none1 h2), fun b o h1 h2 h3 => ?_, un.there, fun b xs h1 => ?_, fun b o u h1 => ?_, fun b ps h1 => ?_⟩, fun b o hb => ?_, rv, qv⟩
            · have eb : b ≠ x := fun z => by rw [z, hH] at h2; cases h2
              rw [upd_ne eb]; exact un.free b o h1 (none1 h2) h3
            · have eb : b ≠ x := fun z => by rw [z, hH] at h1; cases h1
              rw [upd_ne eb]; exact un.tups b xs (by rw [at_ne eb]; exact h1)
            · have eb : b ≠ x := fun z => by rw [z, hH] at h1; cases h1
              rw [upd_ne eb]; exact un.frzs b o u (by rw [at_ne eb]; exact h1)
            · have eb : b ≠ x := fun z => by rw [z, hH] at h1; cases h1
              obtain ⟨more, hm⟩ := un.tbls b ps (by rw [at_ne eb]; exact h1)
              exact ⟨more, by rw [upd_ne eb]; exact hm⟩
            · by_cases eb : b = x
              · subst eb
                rw [upd_same] at hb
                cases hb
                obtain ⟨_, its, n', rs, ho⟩ : ObjOk P w H' s'.heap b (.lst [.int i', .int j', .int l']) := hok b _ hx'
                obtain ⟨t', u', v'', rfl⟩ := seq3 rs
                exact ⟨⟨i', j', l', t', u', v'', n', pb', ho⟩, ⟨_, ho⟩, fun h1 h2 ⟨i, j, k, t, u, v, n, hp, g⟩ z => ⟨i, j, k, t, u, v, n, hp, z _ g⟩⟩
              · rw [upd_ne eb] at hb
                exact objOk_view (fun q y hq => by rw [upd_ne fun z => by rw [z, hx'] at hq; cases hq]; exact hq) (fun q y hq => by rw [upd_ne fun z => by rw [z, hx'] at hq; cases hq]; exact hq) (hok b o hb)
          | next => exact z.elim
          | brk => exact z.elim
          | cont => exact z.elim
/-! ### a def that returns a new list, nobody's yet -/
abbrev RSp := List D → (List D → Prop) → Prop
def liftR (K : PySem.W.Frag) (S : RSp) : Sp := fun vs H Q _ => ∃ (H0 : Hp) (ds : List D) (Φ : List D → Prop), Ex H0 H ∧ RepAll K H0 vs ds ∧ S ds Φ ∧
  (∀ p us ms H0' H', Φ ms → PX ⟨H, H0, []⟩ H0' H' → H0' p = none → H p = none → H' p = some (.lst us) → RepAll K H0' us ms → Q (.ref p) H')
section
variable {P : Program} {w : World} {K : PySem.W.Frag} {mg : Str → Option Value} {base : Heap}
theorem fnR_of {x qual : Str} {st : Stmt} {f : Addr} {fd : FuncData} {N ps : List Str} {k : Nat} {S : RSp} (F : FunX K x qual st f fd) (Sc : FnScope N ps (defScope st)) (len : ∀ ds Φ, S ds Φ → ds.length = ps.length)
    (hbody : ∀ (cdv : Value) (A : Around) (outer : List Env) (s : Shared) (H : Hp) (E : XK), InBody P w k (bodyX P w K mg base N qual st f cdv A outer s H E) E →
      ∃ t, PSs (bodyX P w K mg base N qual st f cdv A outer s H E) (defBody st) t ∧ ∀ ds Φ, S ds Φ → wS ⟨K, E, fun _ => False, []⟩ t { nx := fun _ => False, ro := fun ms _ => Φ ms } (startE N ds)) :
    FnG P w K mg base (k + 1) f fd ps (liftR K S) := by
  obtain ⟨oc, od, dV, kV, doc, pm, an, cdv, ct, osl, rfl, lk, hcd⟩ := F.ex
  refine fnG_of lk hcd Sc (fun vs H Q E ⟨H0, ds, Φ, _, r, q, _⟩ => r.length.trans (len ds Φ q)) fun A outer s H vs Q E room ⟨H0, ds, Φ, e, r, q, kq⟩ => ?_
  obtain ⟨t, ht, hw⟩ := hbody cdv A outer s H E ⟨room, passes_call (takes_of rfl rfl rfl rfl) fun _ _ _ _ h => h, passes_of rfl⟩
  refine ⟨t, ht, hw ds Φ q ⟨H, H0, []⟩ _ H0 H _ (at_start e r) ⟨rfl, fun _ hx => hx.elim⟩ ⟨fun _ _ _ _ z => z.elim, fun _ _ _ _ _ _ z => z.elim, fun ms p us ρ H0' H' σ z a g1 g2 g3 g4 => kq p us ms H0' H' z a.px g1 g2 g3 g4, fun _ _ _ _ z => z.elim, fun _ _ _ _ z => z.elim⟩⟩
/-- .. three ints that draw: nothing but that is known of it -/
theorem fnPR_of {k : Nat} {f : Addr} {fd : FuncData} {ps : List Str} {S : RSp} {S' : DSp} (F : FnG P w K mg base k f fd ps (liftR K S)) (len : ∀ ds Φ Ψ, S' ds Φ Ψ → ds.length = ps.length)
    (hS : ∀ ds Φ Ψ, S' ds Φ Ψ → S ds fun ms => Φ .pail ∧ ∃ i j l, ms = [.int i, .int j, .int l] ∧ PB i j) : FnG P w K mg base k f fd ps (lift K S') := by
  refine ⟨fun vs H Q E ⟨H0, ds, Φ, Ψ, _, r, q, _⟩ => r.length.trans (len ds Φ Ψ q), fun A outer s H args us vs Q E room env0 binds rel ⟨H0, ds, Φ, Ψ, e0, r, q, kq, kx⟩ => ?_⟩
  refine codeAny_mono (F.run A outer s H args us vs (fun v H' => ∃ x i j l, v = .ref x ∧ H' x = some (.lst [.int i, .int j, .int l]) ∧ PB i j ∧ H x = none ∧ Q v (upd H' x (PailP x))) EN room env0 binds rel
    ⟨H0, ds, _, e0, r, hS ds Φ Ψ q, fun x us' ms H0' H' ⟨hΦ, i, j, l, em, pb⟩ px h0 hn hx' rm => ?_⟩) fun r s' z => ?_
  · subst em
    have eu : us' = [.int i, .int j, .int l] := RepAll.ofInts (ns := [i, j, l]) rm
    subst eu
    refine ⟨x, i, j, l, rfl, hx', pb, hn, kq _ _ (upd H0' x (PailP x)) (upd H' x (PailP x)) hΦ ⟨.of fun b o hb => ?_, fun b o hb => ?_, px.i.both, fun b h1 h2 => ?_⟩ (.pail upd_same)⟩
    · rw [upd_ne (ne_of_none hb hn)]; exact px.ex b o hb
    · have hb' : H0 b = some o := hb
      rw [upd_ne (ne_of_none (e0 b o hb') hn)]; exact px.e0 b o hb
    · have eb : b ≠ x := fun z => h1 (by rw [z]; exact hn)
      rw [upd_ne eb]; exact px.n b h1 h2
  · cases r with
    | error er => obtain ⟨_, _, _, _, _, _, _, _, _, _, _, _, z⟩ := z; exact z.elim
    | ok fl =>
      cases fl with
      | ret uv =>
        obtain ⟨v', H', os, bare, un, hok, rv, x, i, j, l, ev, hx', pb, hn, qv⟩ := z
        refine ⟨v', upd H' x (PailP x), os, bare, ⟨un.keep, un.slot, fun b o h1 h2 h3 => ?_, un.there, fun b xs h1 => ?_, fun b o u h1 => ?_, fun b ps h1 => ?_⟩, fun b o hb => ?_, rv, qv⟩
        · have hb := un.free b o h1 h2 h3
          rw [upd_ne fun z => by rw [z, hx'] at hb; cases hb]; exact hb
        · rw [upd_ne (ne_of_none h1 hn)]; exact un.tups b xs h1
        · rw [upd_ne (ne_of_none h1 hn)]; exact un.frzs b o u h1
        · obtain ⟨more, hm⟩ := un.tbls b ps h1
          exact ⟨more, by rw [upd_ne (ne_of_none h1 hn)]; exact hm⟩
        · by_cases eb : b = x
          · subst eb
            rw [upd_same] at hb
            cases hb
            obtain ⟨_, its, n', rs, ho⟩ : ObjOk P w H' s'.heap b (.lst [.int i, .int j, .int l]) := hok b _ hx'
            obtain ⟨t', u', v'', rfl⟩ := seq3 rs
            exact ⟨⟨i, j, l, t', u', v'', n', pb, ho⟩, ⟨_, ho⟩, fun h1 h2 ⟨i, j, k, t, u, v, n, hp, g⟩ z => ⟨i, j, k, t, u, v, n, hp, z _ g⟩⟩
          · rw [upd_ne eb] at hb
            exact objOk_view (fun q y hq => by rw [upd_ne fun z => by rw [z, hx'] at hq; cases hq]; exact hq) (fun q y hq => by rw [upd_ne fun z => by rw [z, hx'] at hq; cases hq]; exact hq) (hok b o hb)
      | next => exact z.elim
      | brk => exact z.elim
      | cont => exact z.elim
end
end DL
namespace DL
open PySem PySem.Spec L2
open PyProof.Rows hiding St
/-! ### repr of data -/
theorem log2_lt {a k : Nat} (h : a < 2 ^ k) (hk : 0 < k) : a.log2 < k := by
  by_cases e : a = 0
  · subst e; exact hk
  · exact (Nat.log2_lt e).mpr h
/-! ### isinstance -/
def tyD : D → Option String
  | .non => some "NoneType"
  | .bl _ => some "bool"
  | .int _ => some "int"
  | .str _ => some "str"
  | .tup _ => some "tuple"
  | .lst _ => some "list"
  | .dic _ => some "dict"
  | .scr _ => none
  | .ins _ _ => none
  | .pail => none
  | .raw _ => none
  | .exn _ _ _ => none
  | .dik _ => none
  | .kd _ _ _ _ => none
/-- of these types bool alone has another one above it -/
def isB (t T : String) : Bool := t == T || (t == "bool" && T == "int")
def knownT (T : String) : Bool := T == "int" || T == "bool" || T == "str" || T == "tuple" || T == "list" || T == "dict"
theorem kit_known {K : PySem.W.Frag} {t T : String} (ht : t = "NoneType" ∨ knownT t = true) (hT : knownT T = true) : PySem.W.kitOne K (.type t) (.type T) = some (isB t T) := by
  simp only [knownT, Bool.or_eq_true, beq_iff_eq] at ht hT
  rcases ht with rfl | ((((rfl | rfl) | rfl) | rfl) | rfl) | rfl <;> rcases hT with ((((rfl | rfl) | rfl) | rfl) | rfl) | rfl <;> exact kit_ty (by decide +kernel)
def isiG (ds : List D) (Φ : D → Prop) : Prop := ∃ x t T, ds = [x, .raw (.ty T)] ∧ tyD x = some t ∧ knownT T = true ∧ Φ (.bl (isB t T))
theorem ty_known {x : D} {t : String} (h : tyD x = some t) : t = "NoneType" ∨ knownT t = true := by
  cases x <;> simp [tyD] at h <;> subst h <;> first
    | exact .inl rfl
    | exact .inr (by decide)
theorem sqT_ty {K : PySem.W.Frag} {H : Hp} {a : Addr} {xs : List V} (h : SqT K H a xs) : TyX K H (.ref a) (.type "tuple") := by
  rcases h with (h | ⟨o, h⟩) | ⟨o, its, n, h1, h2, _⟩
  · exact .base (.tup h)
  · exact .fTuple h
  · exact .kTuple h1 h2
theorem cbd_isi {K : PySem.W.Frag} : CbD K (rIsi K) isiG := fun H0 H xs ds Φ Q e rx ⟨x, t, T, hd, h1, h2, g⟩ k => by
  subst hd
  obtain ⟨v, c, rfl, r1, r2⟩ := vals_two rx
  cases r2
  refine ⟨v, .ty T, .type t, .type T, isB t T, rfl, .ty T, ?_, kit_known (ty_known h1) h2, fin0 e g (.bl _) k⟩
  cases r1 <;> simp [tyD] at h1 <;> subst h1 <;> first
    | exact .base .non
    | exact .base (.bl _)
    | exact .base (.int _)
    | exact .base (.str _)
    | exact sqT_ty (sqT_ex e (by assumption))
    | exact .base (.lst (e _ _ (by assumption)))
    | exact .base (.dK (e _ _ (by assumption)))
/-! ### a, *b = a list -/
def gStar (K : PySem.W.Frag) (i j : Nat) : TG := fun v σ H Q => ∃ a x xs, v = .ref a ∧ SqL K H a (x :: xs) ∧ (x :: xs).length ≤ sizeLine ∧ ∀ p, H p = none → Q ((σ.set i (some x)).set j (some (.ref p))) (upd H p (.lst xs))
theorem walksS_shift {prog : Program} {w : World} {A : Around} {I : Addr} {fp wr : List Addr} {G : Array GenState → Array GenState → Prop} {n : Nat} {P : Nat → Value → Prop} {St : Nat → Shared → Prop} (W : WalksS prog w A I fp wr G (n + 1) P St) :
    WalksS prog w A I fp wr G n (fun i => P (i + 1)) (fun i => St (i + 1)) where
  sub := W.sub
  grefl := W.grefl
  gtrans := W.gtrans
  frame := fun i => W.frame (i + 1)
  item := fun i s Q E h => W.item (i + 1) s Q E (Nat.succ_lt_succ h)
  done := fun s => W.done s
  self := fun i => W.self (i + 1)
section
variable {X : Cx} {pos px py sp : Pos} {x y : Str} {i j kk : Nat}
theorem items_eq {vs : List Value} {v : Value} {acc : Array Value} (h : ItemsOf (fun i u => (v :: vs)[i + 1]? = some u) acc vs.length) : acc.toList = vs := by
  obtain ⟨h1, h2⟩ := h
  apply List.ext_getElem?
  intro k
  by_cases hk : k < vs.length
  · have hk' : k < acc.size := by omega
    have e : acc[k]? = some acc[k] := by simp [hk']
    have := h2 k _ e
    simp at this
    rw [Array.getElem?_toList, e, ← this]
  · rw [List.getElem?_eq_none (by simp; omega), List.getElem?_eq_none (by omega)]
theorem pg_star (hc : X.calm = true) (hN : X.N.Nodup) (hi : X.N[i]? = some x) (hj : X.N[j]? = some y) (hx : Loc X.env.scope x) (hy : Loc X.env.scope y)
    (hf : X.fn x = true ∨ X.env.scope.names.lookup x = some .local := by first | exact .inl rfl | exact .inr rfl) (hf2 : X.fn y = true ∨ X.env.scope.names.lookup y = some .local := by first | exact .inl rfl | exact .inr rfl) :
    PG X (.Tuple [.Name x px, .Starred (.Name y py) sp] kk pos) (gStar X.K i j) := by
  refine ⟨fun pins s σ H v u Q I r ⟨a, z, zs, ev, hq, hz, q⟩ => ?_⟩
  subst ev
  cases r
  obtain ⟨its, rv, pl, _⟩ := I.list hq
  cases rv with
  | @cons _ uz _ us rz rs =>
  have hh := I.ok.hd hc
  have hl : s.heap.IsList a (uz :: us).toArray := pl.isList
  have hlt : a ≠ s.heap.objs.size := by obtain ⟨o, ho, _⟩ := hl; exact Nat.ne_of_lt (Heap.lt_size ho)
  have hlt' : a < s.heap.objs.size := by obtain ⟨o, ho, _⟩ := hl; exact Heap.lt_size ho
  rw [PyProof.Rows.assign_Tuple]
  refine wpAny_bind (wpAny_standAt ?_)
  unfold unpack
  refine wpAny_bind (wpAny_holding ?_)
  show wpAny _ _ (unpackItems (.ref a) 2 (some 1)) _ _ _
  unfold unpackItems
  refine wpAny_bind ?_
  · unfold notIterableAtAll
    refine wpAny_bind (wpAny_specialOf hl.typeIs PySem.F.slot_list_iter.lookup ?_)
    refine wpAny_pure ?_
    simp only [Bool.false_eq_true, if_false]
    refine wpAny_bind (wpAny_holding (wpAny_pyIter_list hl ?_))
    refine wpAny_bind (wpAny_holding (PySem.W.kun_draw hlt 1 0 _ _ ⟨_, Heap.get?_push_size _ rfl, rfl, rfl⟩ (hl.push _) (by simp) fun h1 hit1 hs1 => ?_))
    have e1 : List.take 1 (List.drop 0 (uz :: us).toArray.toList) = [uz] := by simp
    rw [e1]
    simp only [List.length_cons, List.length_nil, Nat.zero_add, Nat.lt_irrefl, if_false]
    have hl1 : h1.IsList a (uz :: us).toArray := (hl.push _).extBut hs1.extBut hlt
    have keep1 : ∀ b o, s.heap.get? b = some o → h1.get? b = some o := fun b o e => (hs1.2 b (Nat.ne_of_lt (Heap.lt_size e))).trans (Heap.get?_push_of_some _ e)
    have sz1 : s.heap.objs.size < h1.objs.size := by obtain ⟨o, ho, _⟩ := hit1; exact Heap.lt_size ho
    have W0 := (Walks.list (prog := X.prog) (w := X.w) (A := X.A.in1) hh s.heap.objs.size a hlt (uz :: us).toArray).toS
    have W1 := walksS_shift (n := us.length) (by simpa using W0)
    have hzs : us.length ≤ sizeLine := by
      have := rs.length
      simp only [List.length_cons] at hz
      omega
    refine wpAny_bind (wpAny_holding (wpAny_collect_iter (.inr (.inr (.inl rfl))) W1 (fun i s' q => ?_) ⟨hit1, hl1⟩ (fun b hb => ?_) List.mem_cons_self (fun s' acc mv it => ?_) hzs))
    · obtain ⟨⟨o, ho, hcl, _⟩, _⟩ := q
      exact ⟨o, ho, hcl⟩
    · rcases (show b = s.heap.objs.size ∨ b = a by simpa using hb) with e | e
      · subst e; exact sz1
      · subst e; exact Nat.lt_trans hlt' sz1
    · rw [items_eq it]
      simp only [Nat.sub_self, Nat.not_lt_zero, if_false, Nat.sub_zero, List.take_length, List.drop_length, List.append_nil]
      have keep2 : ∀ b o, s.heap.get? b = some o → s'.heap.get? b = some o := fun b o e => mv.heap b o (fun hb => Nat.lt_irrefl _ ((List.mem_singleton.mp hb) ▸ Heap.lt_size e)) (keep1 b o e)
      have es' : s' = { s with heap := s'.heap, toks := s'.toks } := by
        obtain ⟨hp, gs, dr, tk, os⟩ := s'
        have g1 := mv.gens
        have g2 := mv.drawn
        have g3 := mv.os
        simp only at g1 g2 g3
        subst g1 g2 g3
        rfl
      have I2 : Inv X pins σ H s' := by
        rw [es']
        exact I.kept keep2
      refine wpAny_bind (wpAny_newList (wpAny_pure ?_))
      have hn : H s'.heap.objs.size = none := I2.hok.fresh (Nat.le_refl _)
      have I3 : Inv X pins σ (upd H s'.heap.objs.size (.lst zs)) { s' with heap := s'.heap.push { cls := .type "list", data := .seq us.toArray } } :=
        I2.laid (t' := s'.toks) (fun b o e => Heap.get?_push_of_some _ e) (Nat.le_refl _) ⟨by rw [rs.length]; exact hzs, us, 0, rs, Heap.get?_push_size _ rfl⟩
      show wpAny _ _ (assignInOrder [assign (.Name x px) X.env, assign (.Name y py) X.env] [uz, .ref s'.heap.objs.size]) _ _ _
      refine assignInOrder_cons (wpAny_assign_Name (store_ok I3 hN hi hx rz (fun s4 I4 => ?_) hf))
      refine assignInOrder_cons (wpAny_assign_Name (store_ok I4 hN hj hy (show RelV (.ref _) (.ref s'.heap.objs.size) from rfl) (fun s5 I5 => ?_) hf2))
      exact assignInOrder_nil ⟨_, _, I5, q _ hn⟩
end
theorem wG_star {w : Wx} {ρ : Env'} {i j : Nat} {d : D} {Ψ : Env' → Prop} (h : ∃ x xs, d = .lst (x :: xs) ∧ (x :: xs).length ≤ 1000000 ∧ Ψ ((ρ.set i (some (.dat x))).set j (some (.dat (.lst xs))))) : wG w (gStar w.K i j) d ρ Ψ := fun c H0 H σ v Q a lx r k => by
  obtain ⟨x, xs, rfl, hz, q⟩ := h
  cases r with
  | @lst p vs _ hp hr =>
    have hr' := hr
    cases hr with
    | @cons v0 vs0 _ _ r0 rs =>
      refine ⟨_, _, _, rfl, .inl (.inl (a.px.i _ _ hp)), len_ok (by rw [hr'.length]; exact hz), fun p' hp' => ?_⟩
      have y : PX ⟨H, H0, []⟩ (upd H0 p' (.lst vs0)) (upd H p' (.lst vs0)) := (PX.refl a.px.i).new hp'
      have a1 := a.go y
      exact k _ _ _ _ q ((a1.setDat (r0.mono y.e0) i).setDat (.lst upd_same (rs.mono y.e0)) j) y.e0
end DL
namespace DL
open PySem PySem.Spec L2
open PyProof.Rows hiding St
/-! ### an own __str__ -/
structure Own1 (K : PySem.W.Frag) (C : Addr) (m : Str) (f : Addr) : Prop where
  at_ : PySem.W.findIn K (.ref C) m = some (some (.ref f))
  fn : PySem.W.isFn K (.ref f) = true
def rStrO (K : PySem.W.Frag) (C : Addr) (S : DSp) : List V → Hp → VK → Prop := fun xs H Q => ∃ (a dx : Addr) (fs : List (Str × V)), xs = [.ref a] ∧ H a = some (.ins C dx fs) ∧ lift K S [.ref a] H (fun v H' => ∃ z, v = .str z ∧ Q v H') EN
section
variable {X : Cx} {k : Nat} {f C : Addr} {fd : FuncData} {ps : List Str} {S : DSp}
theorem call_strO (o1 : Own1 X.K C "__str__" f) (F : FnG X.prog X.w X.K X.mg X.base k f fd ps (lift X.K S)) (hb : Binds X.K fd ps []) (room : RoomG (k + 2) X.A) : CallR X (.type "str") (rStrO X.K C S) := by
  intro pins s σ H xs us Q I r ⟨a, dx, fs, e, ha, q⟩
  subst e
  obtain ⟨u, rfl, ru⟩ := vals1 r
  obtain rfl : u = Value.ref a := ru
  obtain ⟨mA, O, _⟩ := ins_get I.hok ha
  obtain ⟨od, J, _⟩ := O.look
  have room2 : RoomG k X.A.in1.in1 := ⟨(room.r.in1).in1, room.g⟩
  refine PySem.W.kso_call (by have := room2.r.un; omega) I.kIn J o1.at_ o1.fn (wpAny_call (codeAny_mono (F.run X.A.in1.in1 X.stack s H ⟨[.ref a], []⟩ [.ref a] [.ref a] _ EN room2 I.env0.in1.in1 (by
    have := hb s [.ref a] I.kIn (by rw [List.append_nil]; exact F.len _ _ _ _ q)
    simpa using this) (.cons rfl .nil) q) fun r s2 z => ?_))
  cases r with
  | error er => obtain ⟨_, _, _, _, _, _, _, _, _, _, _, _, z⟩ := z; exact z.elim
  | ok fl =>
    cases fl with
    | ret u =>
      obtain ⟨v, H2, J2, rv, y, ev, q2⟩ := I.after z
      subst ev
      obtain ⟨t, rfl⟩ := rv
      exact ⟨.str y, H2, J2, ⟨_, rfl⟩, q2⟩
    | next => exact z.elim
    | brk => exact z.elim
    | cont => exact z.elim
def strOG (C : Addr) (S : DSp) (ds : List D) (Φ : D → Prop) : Prop := ∃ fs, ds = [.ins C fs] ∧ S [.ins C fs] (fun d => ∃ z, d = .str z ∧ Φ d) (fun _ => False)
theorem cbd_strO {K : PySem.W.Frag} : CbD K (rStrO K C S) (strOG C S) := fun H0 H xs ds Φ Q e rx ⟨fs, hd, g⟩ k => by
  subst hd
  obtain ⟨v, rfl, r⟩ := vals_one rx
  cases r with
  | ins hp hr =>
    exact ⟨_, _, _, rfl, e _ _ hp, H0, [.ins C fs], _, fun _ => False, e, .cons (.ins hp hr) .nil, g, fun v d H0' H' ⟨z, ez, hΦ⟩ p rv => by
      subst ez; cases rv
      exact ⟨z, rfl, k _ _ H0' H' hΦ p (.str _)⟩, fun _ _ _ _ z => z.elim⟩
end
end DL
namespace DL
open PySem PySem.Spec L2
open PyProof.Rows hiding St
/-! ### the built-ins' names are the built-ins -/
structure Blt (mg : Str → Option Value) : Prop where
  len : mg "len" = none
  isinstance : mg "isinstance" = none
  int : mg "int" = none
  bool : mg "bool" = none
  str : mg "str" = none
  tuple : mg "tuple" = none
  list : mg "list" = none
  all : mg "all" = none
  sum : mg "sum" = none
  min : mg "min" = none
  max : mg "max" = none
  abs : mg "abs" = none
  range : mg "range" = none
  enumerate : mg "enumerate" = none
  zip : mg "zip" = none
  repr : mg "repr" = none
  divmod : mg "divmod" = none
theorem bb_len : bootBuiltins "len" = some (.builtin "len") := by decide +kernel
theorem bb_isinstance : bootBuiltins "isinstance" = some (.builtin "isinstance") := by decide +kernel
theorem bb_all : bootBuiltins "all" = some (.builtin "all") := by decide +kernel
theorem bb_sum : bootBuiltins "sum" = some (.builtin "sum") := by decide +kernel
theorem bb_min : bootBuiltins "min" = some (.builtin "min") := by decide +kernel
theorem bb_max : bootBuiltins "max" = some (.builtin "max") := by decide +kernel
theorem bb_abs : bootBuiltins "abs" = some (.builtin "abs") := by decide +kernel
theorem bb_repr : bootBuiltins "repr" = some (.builtin "repr") := by decide +kernel
theorem bb_divmod : bootBuiltins "divmod" = some (.builtin "divmod") := by decide +kernel
theorem bb_int : bootBuiltins "int" = some (.type "int") := by decide +kernel
theorem bb_bool : bootBuiltins "bool" = some (.type "bool") := by decide +kernel
theorem bb_str : bootBuiltins "str" = some (.type "str") := by decide +kernel
theorem bb_tuple : bootBuiltins "tuple" = some (.type "tuple") := by decide +kernel
theorem bb_list : bootBuiltins "list" = some (.type "list") := by decide +kernel
section
variable {X : Cx} {x : Str} {pos p : Pos} {e : Expr} {es : List Expr} {t : TA}
theorem pe_bty {T : String} (hm : X.mg x = none) (hv : bootBuiltins x = some (.type T)) (hg : Gl X x := by rfl) (hn : x ≠ "__name__" := by decide) (hd : (x == ("__debug__" : Str)) = false := by decide) : PE X (.Name x pos) (tC (.ty T)) := pe_bltn hg hm hv rfl hn hd
/-- a module's constant -/
def GInt (mg : Str → Option Value) (x : Str) (i : Int) : Prop := ∃ t, mg x = some (.int i t)
def GStr (mg : Str → Option Value) (x : Str) (z : Str) : Prop := ∃ t, mg x = some (.str z t)
theorem pe_gi {i : Int} (c : GInt X.mg x i) (hg : Gl X x := by rfl) (hd : (x == ("__debug__" : Str)) = false := by decide) : PE X (.Name x pos) (tC (.int i)) := by
  obtain ⟨t, h⟩ := c
  exact pe_glob hg h ⟨t, rfl⟩ hd
theorem pe_gs {z : Str} (c : GStr X.mg x z) (hg : Gl X x := by rfl) (hd : (x == ("__debug__" : Str)) = false := by decide) : PE X (.Name x pos) (tC (.str z)) := by
  obtain ⟨t, h⟩ := c
  exact pe_glob hg h ⟨t, rfl⟩ hd
theorem pe_gcls {C : Addr} (c : X.mg x = some (.ref C)) (hg : Gl X x := by rfl) (hd : (x == ("__debug__" : Str)) = false := by decide) : PE X (.Name x pos) (tC (.ref C)) := pe_glob hg c rfl hd
/-! the operators of all kinds of data -/
theorem opr_add : OpR X (binaryOp .Add) (rAdd X.K) := OpR.or op_add (OpR.or op_add_str (OpR.or op_cat op_catA))
theorem opr_mul : OpR X (binaryOp .Mult) rMul := OpR.or op_mul op_mulX
theorem slr_sl : SlR X (rSl X.K) := SlR.or sl_list (SlR.or sl_tupA sl_str)
theorem callr_len : CallR X (.builtin "len") (rLen X.K) := CallR.or call_len call_lenD
theorem callr_str : CallR X (.type "str") rStr := CallR.or call_str_int SkE.call_str_str
theorem callr_int : CallR X (.type "int") rInt := CallR.or call_int1 call_int_str
theorem hu64 {k : Nat} {A : Around} (r : RoomG k A) : A.units + 64 < cLine := by have := r.r.un; omega
theorem hu65 {k : Nat} {A : Around} (r : RoomG k A) : A.units + 65 < cLine := by have := r.r.un; omega
end
/-! ### what the text has, as callers see it -/
section
variable {P : Program} {w : World} {K : PySem.W.Frag} {mg : Str → Option Value} {base : Heap}
theorem CallD.of {x : Str} {k : Nat} {S : DSp} {f : Addr} {fd : FuncData} {ps : List Str} (F : FnG P w K mg base k f fd ps (lift K S)) (hm : mg x = some (.ref f)) (hk : PySem.W.keepIn K (.ref f) = true) (hb : Binds K fd ps []) : CallD P w K mg base x k S := ⟨f, fd, ps, F, hm, hk, hb⟩
/-- the class x at C makes objects; n values, keywords ks, defaults dd -/
structure MakeB (P : Program) (w : World) (K : PySem.W.Frag) (mg : Str → Option Value) (base : Heap) (C : Addr) (k : Nat) (I : ISp) (n : Nat) (ks : List Str) (ix : List Nat) (dd : List D) : Prop where
  ex : ∃ f fd ps, Mk K C f ∧ FnG P w K mg base k f fd ps (liftI K C I) ∧ KbG K fd ps (n + 1) ks (shiftIx ix) dd
/-- C.m, a class method -/
structure CMethB (P : Program) (w : World) (K : PySem.W.Frag) (mg : Str → Option Value) (base : Heap) (C : Addr) (m : Str) (k : Nat) (S : DSp) (n : Nat) (ks : List Str) (ix : List Nat) (dd : List D) : Prop where
  ex : ∃ mc r g fd ps, ClX.CRead K C mc ∧ ClX.CMet K C mc m r g ∧ FnG P w K mg base k g fd ps (lift K S) ∧ KbG K fd ps (n + 1) ks (shiftIx ix) dd
/-- C.m, a property -/
structure PropB (P : Program) (w : World) (K : PySem.W.Frag) (mg : Str → Option Value) (base : Heap) (C : Addr) (m : Str) (k : Nat) (S : DSp) : Prop where
  ex : ∃ a g fd ps, Cls K C ∧ PropOf K C m a g ∧ FnG P w K mg base k g fd ps (lift K S) ∧ Binds K fd ps []
/-- an own __str__ -/
structure StrB (P : Program) (w : World) (K : PySem.W.Frag) (mg : Str → Option Value) (base : Heap) (C : Addr) (k : Nat) (S : DSp) : Prop where
  ex : ∃ f fd ps, Own1 K C "__str__" f ∧ FnG P w K mg base k f fd ps (lift K S) ∧ Binds K fd ps []
end
section
variable {X : Cx} {j k n : Nat} {C : Addr} {ks : List Str} {ix : List Nat} {dd : List D} {S : DSp} {I : ISp} {E : XK} {x m : Str} {p pos apos : Pos} {e o : Expr} {es : List Expr} {kws : List Keyword} {ta : TE} {t tk : TA} {pl : Sem Bool}
theorem pe_cd (c : CallD X.prog X.w X.K X.mg X.base x k S) (room : RoomG j X.A) (hj : k ≤ j) (hx : Passes (CXD X.prog X.w) X E) (ha : PA X (e :: es) t) (hg : Gl X x := by rfl) (hdb : (x == ("__debug__" : Str)) = false := by decide)
    (he : starEach (e :: es) X.env = (false, eval e X.env) :: starEach es X.env := by rfl) (hpl : (backTo pos (starEach es X.env)).any (·.1) = false := by rfl) : PE X (.Call (.Name x p) (e :: es) [] pos) (tCall (lift X.K S) [] E t) := pe_callD c (room.mono hj) hx ha hg hdb he hpl
theorem pe_mk (c : MakeB X.prog X.w X.K X.mg X.base C k I n ks ix dd) (room : RoomG j X.A) (hj : k + 1 ≤ j) (hx : Passes (CXD X.prog X.w) X E) (hm : X.mg x = some (.ref C)) (ha : PA X es t) (hkw : PK X kws tk) (hg : Gl X x := by rfl)
    (hn : (backTo pos (starEach es X.env)).any (·.1) = false := by rfl) (hall : (backToKw pos (keywordEach kws X.env)).all (·.1.isSome) = true := by rfl) (hks : (backToKw pos (keywordEach kws X.env)).filterMap (·.1) = ks := by rfl) (hdb : (x == ("__debug__" : Str)) = false := by decide) :
    PE X (.Call (.Name x p) es kws pos) (tMakeD X.K C I n ks.length ix dd E t tk) := by
  obtain ⟨f, fd, ps, M, F, hb⟩ := c.ex
  exact pe_makeD M F (room.mono hj) hb hx hm ha hkw hg hn hall hks hdb
theorem pe_mkL (i : Nat) (c : MakeB X.prog X.w X.K X.mg X.base C k I n ks ix dd) (room : RoomG j X.A) (hj : k + 1 ≤ j) (hx : Passes (CXD X.prog X.w) X E) (ha : PA X es t) (hkw : PK X kws tk) (hN : X.N[i]? = some x := by rfl) (hv : Vis X.env.scope x := by first | exact Or.inl rfl | exact Or.inr (Or.inl rfl) | exact Or.inr (Or.inr rfl))
    (hn : (backTo pos (starEach es X.env)).any (·.1) = false := by rfl) (hall : (backToKw pos (keywordEach kws X.env)).all (·.1.isSome) = true := by rfl) (hks : (backToKw pos (keywordEach kws X.env)).filterMap (·.1) = ks := by rfl) (hdb : (x == ("__debug__" : Str)) = false := by decide) (hcd : (x == ("__classdict__" : Str)) = false := by decide) :
    PE X (.Call (.Name x p) es kws pos) (tMakeL X.K i C I n ks.length ix dd E t tk) := by
  obtain ⟨f, fd, ps, M, F, hb⟩ := c.ex
  exact pe_makeL i M F (room.mono hj) hb hx ha hkw hN hv hn hall hks hdb hcd
theorem pe_cm (c : CMethB X.prog X.w X.K X.mg X.base C m k S n ks ix dd) (room : RoomG j X.A) (hj : k ≤ j) (hx : Passes (CXD X.prog X.w) X E) (he : PE X o ta) (ha : PA X es t) (hkw : PK X kws tk)
    (hn : (backTo pos (starEach es X.env)).any (·.1) = false := by rfl) (hall : (backToKw pos (keywordEach kws X.env)).all (·.1.isSome) = true := by rfl) (hks : (backToKw pos (keywordEach kws X.env)).filterMap (·.1) = ks := by rfl)
    (ht : eval (.Call (.Attribute o m apos) es kws pos) X.env = (do
      let u ← eval o X.env
      standAt apos.atName
      let (g, first) ← holding [u] (getMethod u m pl)
      callWith pos g first (backTo pos (starEach es X.env)) (backToKw pos (keywordEach kws X.env))) := by rfl) :
    PE X (.Call (.Attribute o m apos) es kws pos) (tCMethD X.K C S n ks.length ix dd E ta t tk) := by
  obtain ⟨mc, r, g, fd, ps, c, M, F, hb⟩ := c.ex
  exact pe_cmethD (pl := pl) he c M F (room.mono hj) hb hx ha hkw hn hall hks ht
theorem pe_pr (c : PropB X.prog X.w X.K X.mg X.base C m k S) (room : RoomG j X.A) (hj : k + 1 ≤ j) (he : PE X e ta) (hab : attributeBase e m X.env (eval e X.env) = eval e X.env := by rfl) : PE X (.Attribute e m pos) (tProp C (lift X.K S) [] EN ta) := by
  obtain ⟨a, g, fd, ps, c, M, F, hb⟩ := c.ex
  exact pe_propG he c M F (room.mono hj) hb .nil passN hab
theorem callr_strO (c : StrB X.prog X.w X.K X.mg X.base C k S) (room : RoomG j X.A) (hj : k + 2 ≤ j) : CallR X (.type "str") (rStrO X.K C S) := by
  obtain ⟨f, fd, ps, o, F, hb⟩ := c.ex
  exact call_strO o F hb (room.mono hj)
end
end DL
namespace DL
open PySem PySem.Spec L2
open PyProof.Rows hiding St
theorem ifT {A B : Prop} (h : A) : if true = true then A else B := by rw [if_pos rfl]; exact h
theorem ifF {A B : Prop} (h : B) : if false = true then A else B := by rw [if_neg Bool.false_ne_true]; exact h
theorem ifP {p : Prop} [Decidable p] {A B : Prop} (hp : p) (h : A) : if decide p = true then A else B := by rw [decide_eq_true hp]; exact ifT h
theorem ifN {p : Prop} [Decidable p] {A B : Prop} (hp : ¬ p) (h : B) : if decide p = true then A else B := by rw [decide_eq_false hp]; exact ifF h
theorem ifD {p : Prop} [Decidable p] {A B : Prop} (h1 : p → A) (h2 : ¬ p → B) : if decide p = true then A else B := by
  by_cases hp : p
  · exact ifP hp (h1 hp)
  · exact ifN hp (h2 hp)
theorem ifNP {p : Prop} [Decidable p] {A B : Prop} (hp : p) (h : B) : if (!decide p) = true then A else B := by rw [decide_eq_true hp]; exact ifF h
theorem ifNN {p : Prop} [Decidable p] {A B : Prop} (hp : ¬ p) (h : A) : if (!decide p) = true then A else B := by rw [decide_eq_false hp]; exact ifT h
theorem ifND {p : Prop} [Decidable p] {A B : Prop} (h1 : p → B) (h2 : ¬ p → A) : if (!decide p) = true then A else B := by
  by_cases hp : p
  · exact ifNP hp (h1 hp)
  · exact ifNN hp (h2 hp)
theorem ifNT {A B : Prop} (h : B) : if (!true) = true then A else B := ifF h
theorem ifNF {A B : Prop} (h : A) : if (!false) = true then A else B := ifT h
theorem ex_bl {b : Bool} {P : Bool → Prop} (h : P b) : ∃ c, D.bl b = .bl c ∧ P c := ⟨b, rfl, h⟩
theorem ex_int {b : Int} {P : Int → Prop} (h : P b) : ∃ c, D.int b = .int c ∧ P c := ⟨b, rfl, h⟩
theorem ex_str {b : Str} {P : Str → Prop} (h : P b) : ∃ c, D.str b = .str c ∧ P c := ⟨b, rfl, h⟩
section
variable {a c : Int} {Φ : D → Prop} {x y : Str} {l m : List D}
theorem leG_i (h : Φ (.bl (decide (a ≤ c)))) : leG (.int a) (.int c) Φ := h
theorem ltG_i (h : Φ (.bl (decide (a < c)))) : ltG (.int a) (.int c) Φ := h
theorem gtG_i (h : Φ (.bl (decide (c < a)))) : gtG (.int a) (.int c) Φ := h
theorem geG_i (h : Φ (.bl (decide (c ≤ a)))) : geG (.int a) (.int c) Φ := h
theorem subG_i (h : Φ (.int (a - c))) : subG (.int a) (.int c) Φ := h
theorem addG_i (h : Φ (.int (a + c))) : addG (.int a) (.int c) Φ := h
theorem addG_s (hz : x.length + y.length ≤ 1000000) (h : Φ (.str (x ++ y))) : addG (.str x) (.str y) Φ := ⟨hz, h⟩
theorem addG_l (hz : l.length + m.length ≤ 1000000) (h : Φ (.lst (l ++ m))) : addG (.lst l) (.lst m) Φ := ⟨hz, h⟩
theorem addG_t (hz : l.length + m.length ≤ 1000000) (h : Φ (.tup (l ++ m))) : addG (.tup l) (.tup m) Φ := ⟨hz, h⟩
theorem mulG_i (hc : MulC a c) (h : Φ (.int (a * c))) : mulG (.int a) (.int c) Φ := ⟨hc, h⟩
theorem modG_i (hc : 0 < c) (h : Φ (.int (a % c))) : modG (.int a) (.int c) Φ := ⟨hc, h⟩
theorem fdivG_i (h1 : 0 < c) (h2 : c < 1073741824) (h : Φ (.int (a / c))) : fdivG (.int a) (.int c) Φ := ⟨⟨h1, h2⟩, h⟩
theorem powG_i (hc : CPow a c) (h : Φ (.int (a ^ c.toNat))) : powG (.int a) (.int c) Φ := ⟨hc, h⟩
theorem unG_i {f : Int → D} (h : Φ (f a)) : unG f (.int a) Φ := h
theorem lenG_l (h : Φ (.int l.length)) : lenG [.lst l] Φ := h
theorem lenG_t (h : Φ (.int l.length)) : lenG [.tup l] Φ := h
theorem lenG_c {l : List Int} (h : Φ (.int l.length)) : lenG [.scr l] Φ := h
theorem lenG_s (hz : x.length ≤ 1000000) (h : Φ (.int x.length)) : lenG [.str x] Φ := ⟨hz, h⟩
theorem tupG_l (h : Φ (.tup l)) : tupG [.lst l] Φ := h
theorem listG_t (h : Φ (.lst l)) : listG [.tup l] Φ := h
theorem intOfG_i (h : Φ (.int a)) : intOfG [.int a] Φ := h
theorem strG_i (hz : a.natAbs.log2 < 1920) (h : Φ (.str (toString a))) : strG [.int a] Φ := ⟨hz, h⟩
theorem strG_s (h : Φ (.str x)) : strG [.str x] Φ := h
theorem minG_i (h : Φ (.int (if c < a then c else a))) : int2G (fun i j => .int (if j < i then j else i)) [.int a, .int c] Φ := h
theorem maxG_i (h : Φ (.int (if c > a then c else a))) : int2G (fun i j => .int (if j > i then j else i)) [.int a, .int c] Φ := h
theorem absG_i {f : Int → D} (h : Φ (f a)) : int1G f [.int a] Φ := h
theorem isiG_of {x : D} {T t : String} (ht : tyD x = some t) (hk : knownT T = true) (h : Φ (.bl (isB t T))) : isiG [x, .raw (.ty T)] Φ := ⟨x, t, T, rfl, ht, hk, h⟩
theorem isiG_int (h : Φ (.bl true)) : isiG [.int a, .raw (.ty "int")] Φ := ⟨_, _, _, rfl, rfl, by decide, h⟩
theorem isiG_intb (h : Φ (.bl false)) : isiG [.int a, .raw (.ty "bool")] Φ := ⟨_, _, _, rfl, rfl, by decide, h⟩
theorem isiG_str (h : Φ (.bl true)) : isiG [.str x, .raw (.ty "str")] Φ := ⟨_, _, _, rfl, rfl, by decide, h⟩
theorem isiG_tup (h : Φ (.bl true)) : isiG [.tup l, .raw (.ty "tuple")] Φ := ⟨_, _, _, rfl, rfl, by decide, h⟩
theorem ixG_l {d : D} (hi : L2.atI l a = some d) (h : Φ d) : ixG (.lst l) (.int a) Φ := ⟨d, hi, h⟩
theorem ixG_t {d : D} (hi : L2.atI l a = some d) (h : Φ d) : ixG (.tup l) (.int a) Φ := ⟨d, hi, h⟩
theorem ixG_c {l : List Int} {n : Int} (hi : L2.atI l a = some n) (h : Φ (.int n)) : ixG (.scr l) (.int a) Φ := ⟨n, hi, h⟩
theorem ixG_s {c : Nat} (hz : x.length ≤ 1000000) (hi : L2.atI x.cps.toList a = some c) (h : Φ (.str ⟨#[c]⟩)) : ixG (.str x) (.int a) Φ := ⟨hz, c, hi, h⟩
theorem slG_l {lo hi : Option Int} (h : Φ (.lst (cutD l lo hi))) : slG (.lst l) lo hi Φ := h
theorem slG_t {lo hi : Option Int} (h : Φ (.tup (cutD l lo hi))) : slG (.tup l) lo hi Φ := h
theorem slG_c {l : List Int} {lo hi : Option Int} (h : Φ (.lst ((cutD l lo hi).map D.int))) : slG (.scr l) lo hi Φ := h
theorem eqG_of {d e : D} (h1 : Shp 64 d) (h2 : Shp 64 e) (h : Φ (.bl (D.eqv d e))) : eqG d e Φ := .inr ⟨h1, h2, h⟩
theorem neG_of {d e : D} (h1 : Shp 64 d) (h2 : Shp 64 e) (h : Φ (.bl (!D.eqv d e))) : neG d e Φ := .inr ⟨h1, h2, h⟩
theorem eqv_i : D.eqv (.int a) (.int c) = decide (a = c) := by simp only [D.eqv, D.py, PyData.eqv]; rw [Bool.eq_iff_iff]; simp
theorem eqG_i (h : Φ (.bl (decide (a = c)))) : eqG (.int a) (.int c) Φ := .inr ⟨.int, .int, by rw [eqv_i]; exact h⟩
theorem neG_i (h : Φ (.bl (!decide (a = c)))) : neG (.int a) (.int c) Φ := .inr ⟨.int, .int, by rw [eqv_i]; exact h⟩
theorem eqG_ss (h : Φ (.bl (decide (x = y)))) : eqG (.str x) (.str y) Φ := .inl ⟨x, y, rfl, rfl, h⟩
theorem neG_ss (h : Φ (.bl (!decide (x = y)))) : neG (.str x) (.str y) Φ := .inl ⟨x, y, rfl, rfl, h⟩
end
end DL
namespace DL
open PySem PySem.Spec L2
open PyProof.Rows hiding St
/-! ### comprehensions over typed lists -/
section
variable {α β : Type} {w : Wx} {ρ : Env'} {Φ : D → Env' → Prop} {wi : TI} {g : TG} {tt : TT} {te : TE} {vs : List Nat}
theorem get_map {f : α → D} {xs : List α} {i : Nat} {d : D} (h : (xs.map f)[i]? = some d) : ∃ x, xs[i]? = some x ∧ d = f x := by
  rw [List.getElem?_map] at h
  cases e : xs[i]? with
  | none => rw [e] at h; cases h
  | some x => rw [e] at h; cases h; exact ⟨x, rfl, rfl⟩
theorem mem_get {xs : List α} {i : Nat} {x : α} (h : xs[i]? = some x) : x ∈ xs := List.mem_of_getElem? h
theorem take_next {xs : List α} {i : Nat} {x : α} (h : xs[i]? = some x) : xs.take (i + 1) = xs.take i ++ [x] := by
  obtain ⟨hl, rfl⟩ := List.getElem?_eq_some_iff.mp h
  exact List.take_succ_eq_append_getElem hl
/-- [e for x in xs if t] -/
theorem wE_lcF (hon : Only g vs) (f k : α → D) (p : α → Bool) (h : wI w wi ρ fun ds ρ1 => ∃ xs : List α, ds = xs.map f ∧ xs.length ≤ 1000000 ∧
    (∀ x ∈ xs, wG w.quiet g (f x) (wipeE (hide ρ1) vs) fun ρ2 => wT w.quiet tt ρ2 fun b ρ3 => b = p x ∧ (b = true → wE w.quiet te ρ3 fun y _ => y = k x)) ∧ Φ (.lst ((xs.filter p).map k)) ρ1) : wE w (tLc wi g tt te vs) ρ Φ := by
  refine wE_lc hon fun c H0 H σ R a x q => h c H0 H σ R a x fun J ds ρ' H0' H' ⟨xs, e, hz, step, fin⟩ => q J ds ρ' H0' H' ⟨by rw [e, List.length_map]; exact hz, fun i acc => acc = ((xs.take i).filter p).map k, rfl, fun i d acc hd hacc => ?_, fun acc _ hacc => ?_⟩
  · subst e
    obtain ⟨x, hx, rfl⟩ := get_map hd
    refine fun c H0 H σ v Q a l r k' => step x (mem_get hx) c H0 H σ v Q a l r fun ρ2 H01 H1 σ1 z => k' ρ2 H01 H1 σ1 fun c H0 H σ Q a l k'' => z c H0 H σ Q a l fun b ρ3 H02 H2 ⟨e1, z2⟩ => k'' b ρ3 H02 H2 ?_
    have en := take_next hx
    cases b with
    | true =>
      refine ifT (wE_mono (z2 rfl) fun y _ ey => ?_)
      show acc ++ [y] = _
      rw [hacc, ey, en, List.filter_append, List.map_append]
      simp [← e1]
    | false =>
      refine ifF ?_
      show acc = _
      rw [hacc, en, List.filter_append, List.map_append]
      simp [← e1]
  · subst e
    rw [hacc, List.length_map, List.take_length]
    exact fin
/-- [e for x in xs] -/
theorem wE_lcM (hon : Only g vs) (f k : α → D) (h : wI w wi ρ fun ds ρ1 => ∃ xs : List α, ds = xs.map f ∧ xs.length ≤ 1000000 ∧
    (∀ x ∈ xs, wG w.quiet g (f x) (wipeE (hide ρ1) vs) fun ρ2 => wE w.quiet te ρ2 fun y _ => y = k x) ∧ Φ (.lst (xs.map k)) ρ1) : wE w (tLc wi g tYes te vs) ρ Φ := by
  refine wE_lcF hon f k (fun _ => true) fun c H0 H σ R a x q => h c H0 H σ R a x fun J ds ρ' H0' H' ⟨xs, e, hz, step, fin⟩ => q J ds ρ' H0' H' ⟨xs, e, hz, fun x hx => ?_, ?_⟩
  · exact fun c H0 H σ v Q a l r k' => step x hx c H0 H σ v Q a l r fun ρ2 H01 H1 σ1 z => k' ρ2 H01 H1 σ1 (wT_yes ⟨rfl, fun _ => z⟩)
  · have : xs.filter (fun _ => true) = xs := by simp
    rw [this]; exact fin
/-- the two lists are as long, and P of each two -/
def Rel (P : α → β → Prop) (xs : List α) (bs : List β) : Prop := bs.length = xs.length ∧ ∀ (i : Nat) x b, xs[i]? = some x → bs[i]? = some b → P x b
theorem Rel.all {P : α → β → Prop} {xs : List α} {bs : List β} (r : Rel P xs bs) {b : β} (h : b ∈ bs) : ∃ x ∈ xs, P x b := by
  obtain ⟨i, hi⟩ := List.getElem?_of_mem h
  have : i < xs.length := by rw [← r.1]; exact (List.getElem?_eq_some_iff.mp hi).1
  exact ⟨xs[i], List.getElem_mem this, r.2 i _ _ (List.getElem?_eq_getElem this) hi⟩
/-- [e for x in xs], what e comes to being drawn -/
theorem wE_lcR (hon : Only g vs) (f : α → D) (k : β → D) (P : α → β → Prop) (h : wI w wi ρ fun ds ρ1 => ∃ xs : List α, ds = xs.map f ∧ xs.length ≤ 1000000 ∧
    (∀ x ∈ xs, wG w.quiet g (f x) (wipeE (hide ρ1) vs) fun ρ2 => wE w.quiet te ρ2 fun y _ => ∃ b, y = k b ∧ P x b) ∧ ∀ bs : List β, Rel P xs bs → Φ (.lst (bs.map k)) ρ1) : wE w (tLc wi g tYes te vs) ρ Φ := by
  refine wE_lc hon fun c H0 H σ R a x q => h c H0 H σ R a x fun J ds ρ' H0' H' ⟨xs, e, hz, step, fin⟩ => q J ds ρ' H0' H' ⟨by rw [e, List.length_map]; exact hz, fun i acc => ∃ bs : List β, acc = bs.map k ∧ Rel P (xs.take i) bs, ⟨[], rfl, rfl, fun i x b h => by simp at h⟩, fun i d acc hd ⟨bs, hacc, hr⟩ => ?_, fun acc _ ⟨bs, hacc, hr⟩ => ?_⟩
  · subst e
    obtain ⟨x, hx, rfl⟩ := get_map hd
    refine fun c H0 H σ v Q a l r k' => step x (mem_get hx) c H0 H σ v Q a l r fun ρ2 H01 H1 σ1 z => k' ρ2 H01 H1 σ1 (wT_yes (by
      refine ifT (wE_mono z fun y _ ⟨b, ey, hp⟩ => ?_)
      refine ⟨bs ++ [b], by rw [hacc, ey, List.map_append]; rfl, ?_⟩
      have en := take_next hx
      rw [en]
      refine ⟨by rw [List.length_append, List.length_append, hr.1]; rfl, fun j x' b' h1 h2 => ?_⟩
      have hl := hr.1
      by_cases hj : j < (xs.take i).length
      · rw [List.getElem?_append_left hj] at h1
        rw [List.getElem?_append_left (by omega)] at h2
        exact hr.2 j x' b' h1 h2
      · rw [List.getElem?_append_right (by omega)] at h1
        rw [List.getElem?_append_right (by omega)] at h2
        have e0 : j - (xs.take i).length = 0 := by
          have z : j - (xs.take i).length < 1 := (List.getElem?_eq_some_iff.mp h1).1
          omega
        rw [e0] at h1
        rw [hl, e0] at h2
        simp at h1 h2
        subst h1 h2
        exact hp))
  · subst e
    rw [hacc]
    rw [List.length_map, List.take_length] at hr
    exact fin bs hr
end
/-! ### in, of texts -/
section
variable {K : PySem.W.Frag}
theorem flat_strs : ∀ zs : List Str, (zs.map V.str).all flatV = true
  | [] => rfl
  | z :: zs => by rw [List.map_cons, List.all_cons, flat_strs zs]; rfl
theorem inV_strs (z : Str) : ∀ (zs : List Str), inV (.str z) (zs.map V.str) = decide (z ∈ zs)
  | [] => rfl
  | y :: zs => by
    have ih := inV_strs z zs
    unfold inV at ih ⊢
    rw [List.map_cons, List.any_cons, ih]
    show (y == z || decide (z ∈ zs)) = decide (z ∈ y :: zs)
    rw [Bool.eq_iff_iff]
    simp only [Bool.or_eq_true, beq_iff_eq, decide_eq_true_eq, List.mem_cons]
    exact or_congr_left eq_comm
def inSG (neg : Bool) (x y : D) (Φ : D → Prop) : Prop := ∃ (z : Str) (zs : List Str), x = .str z ∧ (y = .tup (zs.map D.str) ∨ y = .lst (zs.map D.str)) ∧ Φ (.bl (if neg = true then !decide (z ∈ zs) else decide (z ∈ zs)))
theorem opd_inS {neg : Bool} : OpD K (rIn K neg) (inSG neg) := fun H0 H x y dx dy Φ Q e rx ry ⟨z, zs, hx, hy, g⟩ k => by
  subst hx
  cases rx
  rcases hy with hy | hy
  · subst hy
    cases ry with
    | tup hp hr =>
      rw [hr.ofStrs] at hp
      refine ⟨_, _, rfl, .inr (sqT_ex e hp), rfl, flat_strs zs, ?_⟩
      rw [inV_strs]
      exact fin0 e g (.bl _) k
  · subst hy
    cases ry with
    | lst hp hr =>
      rw [hr.ofStrs] at hp
      refine ⟨_, _, rfl, .inl (.inl (.inl (e _ _ hp))), rfl, flat_strs zs, ?_⟩
      rw [inV_strs]
      exact fin0 e g (.bl _) k
def rSign : R2 := fun x y H Q => ∃ (c : Nat) (z : Str), x = .str ⟨#[c]⟩ ∧ y = .str z ∧ Q (.bl (decide (c ∈ z.cps.toList))) H
def signG (x y : D) (Φ : D → Prop) : Prop := ∃ c z, x = .str ⟨#[c]⟩ ∧ y = .str z ∧ Φ (.bl (decide (c ∈ z.cps.toList)))
theorem opd_sign : OpD K rSign signG := fun H0 H x y dx dy Φ Q e rx ry ⟨c, z, hx, hy, g⟩ k => by
  subst hx hy
  cases rx; cases ry
  exact ⟨c, z, rfl, rfl, fin0 e g (.bl _) k⟩
theorem opr_sign {X : Cx} : OpR X (compareOp .In) rSign := op_in_sign
end
/-! ### walks over typed lists -/
theorem zipD_map {α β : Type} (f : α → D) (g : β → D) : ∀ (xs : List α) (ys : List β), zipD (xs.map f) (ys.map g) = (xs.zip ys).map fun p => .tup [f p.1, g p.2]
  | [], _ => by simp [zipD]
  | _ :: _, [] => by simp [zipD]
  | x :: xs, y :: ys => by
    have := zipD_map f g xs ys
    unfold zipD at this ⊢
    simp only [List.map_cons, List.zipWith_cons_cons, List.zip_cons_cons, this]
theorem enumD_get {α : Type} {f : α → D} {xs : List α} {i : Nat} {d : D} (h : (enumD (xs.map f))[i]? = some d) : ∃ x, xs[i]? = some x ∧ d = .tup [.int (i : Int), f x] := by
  unfold enumD at h
  rw [List.getElem?_zipWith] at h
  by_cases hi : i < xs.length
  · rw [List.getElem?_range (by rw [List.length_map]; exact hi), List.getElem?_map, List.getElem?_eq_getElem hi] at h
    cases h
    exact ⟨_, List.getElem?_eq_getElem hi, rfl⟩
  · rw [List.getElem?_eq_none (l := xs.map f) (by rw [List.length_map]; omega)] at h
    cases h2 : (List.range (xs.map f).length)[i]? <;> rw [h2] at h <;> cases h
theorem cut_from1 {α : Type} (xs : List α) : cutD xs (some 1) none = xs.drop 1 := by
  unfold cutD
  have e1 : HT.sIx xs.length 0 (some (1 : Int)) = min 1 xs.length := HT.sIx_nat _ _ 1
  rw [e1, HT.sIx_none]
  have : xs.length - min 1 xs.length = (xs.drop (min 1 xs.length)).length := by rw [List.length_drop]
  rw [this, List.take_length]
  cases xs with
  | nil => rfl
  | cons a l => simp
theorem cut_to {α : Type} (xs : List α) (k : Nat) : cutD xs none (some (k : Int)) = xs.take k := by
  unfold cutD
  rw [HT.sIx_none, HT.sIx_nat, List.drop_zero, Nat.sub_zero]
  rcases Nat.le_total k xs.length with h | h
  · rw [Nat.min_eq_left h]
  · rw [Nat.min_eq_right h, List.take_of_length_le (Nat.le_refl _), List.take_of_length_le h]
end DL
namespace DL
open PySem PySem.Spec L2
open PyProof.Rows hiding St
/-! ### the rules with the written part named -/
section
variable {X : Cx} (K : PySem.W.Frag)
theorem k_add (h : X.K = K := by rfl) : OpR X (binaryOp .Add) (rAdd K) := h ▸ opr_add
theorem k_eq {k : Nat} (r : RoomG k X.A) (h : X.K = K := by rfl) : OpR X (compareOp .Eq) (rEqA K) := h ▸ OpR.or op_eq (op_eqD (hu64 r))
theorem k_ne {k : Nat} (r : RoomG k X.A) (h : X.K = K := by rfl) : OpR X (compareOp .NotEq) (rNeA K) := h ▸ OpR.or op_ne (op_neD (hu64 r))
theorem k_in (h : X.K = K := by rfl) : OpR X (compareOp .In) (rIn K false) := h ▸ op_in_seq
theorem k_ix (h : X.K = K := by rfl) : IxR X (rIx K) := h ▸ ix_seq
theorem k_sl (h : X.K = K := by rfl) : SlR X (rSl K) := h ▸ slr_sl
theorem k_len (h : X.K = K := by rfl) : CallR X (.builtin "len") (rLen K) := h ▸ callr_len
theorem k_isi (h : X.K = K := by rfl) : CallR X (.builtin "isinstance") (rIsi K) := h ▸ call_isi
theorem k_all (hc : X.calm = true) (h : X.K = K := by rfl) : CallR X (.builtin "all") (rAll K) := h ▸ cr_all hc
theorem k_list (h : X.K = K := by rfl) : CallR X (.type "list") (rListOf K) := h ▸ call_list_of
theorem k_tup (h : X.K = K := by rfl) : CallR X (.type "tuple") (rTupOf K) := h ▸ call_tuple_of
theorem k_strO {C : Addr} {j k : Nat} {S : DSp} (c : StrB X.prog X.w K X.mg X.base C k S) (room : RoomG j X.A) (hj : k + 2 ≤ j) (h : X.K = K := by rfl) : CallR X (.type "str") (rStrO K C S) := by
  subst h; exact callr_strO c room hj
section
variable {o e : Expr} {es : List Expr} {kws : List Keyword} {to te ta : TE} {t tk : TA} {name : Str} {apos cpos pos p tpos px py sp : Pos} {T id : String} {r : V → List V → Hp → VK → Prop} {tg : Expr}
theorem k_bm0 (pa : PlainAttrs T) (slot : Slot T name id) (hty : typeOf (.builtin id) = pure (.type "method_descriptor")) (hm : MtR X id r) (ho : PE X o to)
    (hbase : attributeBase o name X.env (eval o X.env) = eval o X.env := by rfl) (hline : (apos.endLine == cpos.line) = true := by rfl) (h : X.K = K := by rfl) : PE X (.Call (.Attribute o name apos) [] [] cpos) (tBM0 K T r to) := h ▸ pe_bm0 pa slot hty hm ho hbase hline
theorem k_bm (pa : PlainAttrs T) (slot : Slot T name id) (hty : typeOf (.builtin id) = pure (.type "method_descriptor")) (hm : MtR X id r) (ho : PE X o to) (ha : PA X (e :: es) t)
    (hbase : attributeBase o name X.env (eval o X.env) = eval o X.env := by rfl)
    (hfew : ((backTo cpos (starEach (e :: es) X.env)).all (fun x => !x.1) && (backToKw cpos (keywordEach [] X.env)).all (fun x => x.1.isSome)
      && decide ((e :: es).length + ([] : List Keyword).length + (if ([] : List Keyword).isEmpty then 0 else 1) < 30)) = true := by rfl)
    (hline : (apos.endLine == cpos.line) = true := by rfl) (hs : starEach (e :: es) X.env = (false, eval e X.env) :: starEach es X.env := by rfl) (hplain : (backTo cpos (starEach es X.env)).any (·.1) = false := by rfl) (h : X.K = K := by rfl) :
    PE X (.Call (.Attribute o name apos) (e :: es) [] cpos) (tBM K T r to t) := h ▸ pe_bm pa slot hty hm ho ha hbase hfew hline hs hplain
theorem k_pg {k : Nat} {gs : TGs} {n : Nat} (hc : X.calm = true) (hg : PGs X es gs) (hn : (assignEach es X.env).length = n := by rfl) (hst : (assignEach es X.env).findIdx? (·.1) = none := by rfl) (h : X.K = K := by rfl) : PG X (.Tuple es k pos) (gTup K n gs) := h ▸ pg_tup hc hg hn hst
theorem k_any (he : PE X e te) (h : X.K = K := by rfl) : PI X tg e (iAny K te) := h ▸ pi_any he
theorem k_enum {elts : List Expr} {kk : Nat} (hg : Gl X "enumerate") (hm : X.mg "enumerate" = none) (ha : PA X [e] t) (hs : starEach [e] X.env = [(false, eval e X.env)] := by rfl) (h : X.K = K := by rfl) : PI X (.Tuple elts kk tpos) (.Call (.Name "enumerate" p) [e] [] pos) (iEnumT K t) := h ▸ pi_enumT hg hm ha hs
theorem k_zip {e2 : Expr} {elts : List Expr} {kk : Nat} (hg : Gl X "zip") (hm : X.mg "zip" = none) (ha : PA X [e, e2] t) (hs : starEach [e, e2] X.env = (false, eval e X.env) :: starEach [e2] X.env := by rfl) (hpl : (backTo pos (starEach [e2] X.env)).any (·.1) = false := by rfl) (h : X.K = K := by rfl) :
    PI X (.Tuple elts kk tpos) (.Call (.Name "zip" p) [e, e2] [] pos) (RZ.iZipA K t) := h ▸ RZ.pi_zipA hg hm ha hs hpl
theorem k_fld {f : Str} (he : PE X e te) (hb : attributeBase e f X.env (eval e X.env) = eval e X.env := by rfl) (h : X.K = K := by rfl) : PE X (.Attribute e f pos) (tFld K te f) := h ▸ pe_fld he hb
theorem k_sfld {f : Str} {value : Expr} {pos' : Pos} {tv : TE} (ha : PE X o ta) (hv : PE X value tv) (hs : swapsWith value (some (.Attribute o f pos')) pos.line X.env = pure false := by rfl) (h : X.K = K := by rfl) : PS X (.Assign [.Attribute o f pos'] value pos) (sFld K ta tv f) := h ▸ ps_fld ha hv hs
theorem k_star {x y : Str} {i j kk : Nat} (hc : X.calm = true) (hN : X.N.Nodup) (hi : X.N[i]? = some x) (hj : X.N[j]? = some y) (hx : Loc X.env.scope x) (hy : Loc X.env.scope y)
    (hf : X.fn x = true ∨ X.env.scope.names.lookup x = some .local := by first | exact .inl rfl | exact .inr rfl) (hf2 : X.fn y = true ∨ X.env.scope.names.lookup y = some .local := by first | exact .inl rfl | exact .inr rfl) (h : X.K = K := by rfl) :
    PG X (.Tuple [.Name x px, .Starred (.Name y py) sp] kk pos) (gStar K i j) := h ▸ pg_star hc hN hi hj hx hy hf hf2
variable {j k n : Nat} {C : Addr} {ks : List Str} {ix : List Nat} {dd : List D} {S : DSp} {I : ISp} {E : XK} {x m : Str} {pl : Sem Bool}
theorem k_cd (c : CallD X.prog X.w K X.mg X.base x k S) (room : RoomG j X.A) (hj : k ≤ j) (hx : Passes (CXD X.prog X.w) X E) (ha : PA X (e :: es) t) (hg : Gl X x := by rfl) (hdb : (x == ("__debug__" : Str)) = false := by decide)
    (he : starEach (e :: es) X.env = (false, eval e X.env) :: starEach es X.env := by rfl) (hpl : (backTo pos (starEach es X.env)).any (·.1) = false := by rfl) (h : X.K = K := by rfl) : PE X (.Call (.Name x p) (e :: es) [] pos) (tCall (lift K S) [] E t) := by
  subst h; exact pe_cd c room hj hx ha hg hdb he hpl
theorem k_mk (c : MakeB X.prog X.w K X.mg X.base C k I n ks ix dd) (room : RoomG j X.A) (hj : k + 1 ≤ j) (hx : Passes (CXD X.prog X.w) X E) (hm : X.mg x = some (.ref C)) (ha : PA X es t) (hkw : PK X kws tk) (hg : Gl X x := by rfl)
    (hn : (backTo pos (starEach es X.env)).any (·.1) = false := by rfl) (hall : (backToKw pos (keywordEach kws X.env)).all (·.1.isSome) = true := by rfl) (hks : (backToKw pos (keywordEach kws X.env)).filterMap (·.1) = ks := by rfl) (hdb : (x == ("__debug__" : Str)) = false := by decide) (h : X.K = K := by rfl) :
    PE X (.Call (.Name x p) es kws pos) (tMakeD K C I n ks.length ix dd E t tk) := by
  subst h; exact pe_mk c room hj hx hm ha hkw hg hn hall hks hdb
theorem k_mkL (i : Nat) (c : MakeB X.prog X.w K X.mg X.base C k I n ks ix dd) (room : RoomG j X.A) (hj : k + 1 ≤ j) (hx : Passes (CXD X.prog X.w) X E) (ha : PA X es t) (hkw : PK X kws tk) (hN : X.N[i]? = some x := by rfl) (hv : Vis X.env.scope x := by first | exact Or.inl rfl | exact Or.inr (Or.inl rfl) | exact Or.inr (Or.inr rfl))
    (hn : (backTo pos (starEach es X.env)).any (·.1) = false := by rfl) (hall : (backToKw pos (keywordEach kws X.env)).all (·.1.isSome) = true := by rfl) (hks : (backToKw pos (keywordEach kws X.env)).filterMap (·.1) = ks := by rfl) (hdb : (x == ("__debug__" : Str)) = false := by decide) (hcd : (x == ("__classdict__" : Str)) = false := by decide) (h : X.K = K := by rfl) :
    PE X (.Call (.Name x p) es kws pos) (tMakeL K i C I n ks.length ix dd E t tk) := by
  subst h; exact pe_mkL i c room hj hx ha hkw hN hv hn hall hks hdb hcd
theorem k_cm (c : CMethB X.prog X.w K X.mg X.base C m k S n ks ix dd) (room : RoomG j X.A) (hj : k ≤ j) (hx : Passes (CXD X.prog X.w) X E) (he : PE X o ta) (ha : PA X es t) (hkw : PK X kws tk)
    (hn : (backTo pos (starEach es X.env)).any (·.1) = false := by rfl) (hall : (backToKw pos (keywordEach kws X.env)).all (·.1.isSome) = true := by rfl) (hks : (backToKw pos (keywordEach kws X.env)).filterMap (·.1) = ks := by rfl)
    (ht : eval (.Call (.Attribute o m apos) es kws pos) X.env = (do
      let u ← eval o X.env
      standAt apos.atName
      let (g, first) ← holding [u] (getMethod u m pl)
      callWith pos g first (backTo pos (starEach es X.env)) (backToKw pos (keywordEach kws X.env))) := by rfl) (h : X.K = K := by rfl) :
    PE X (.Call (.Attribute o m apos) es kws pos) (tCMethD K C S n ks.length ix dd E ta t tk) := by
  subst h; exact pe_cm (pl := pl) c room hj hx he ha hkw hn hall hks ht
theorem k_pr (c : PropB X.prog X.w K X.mg X.base C m k S) (room : RoomG j X.A) (hj : k + 1 ≤ j) (he : PE X e ta) (hab : attributeBase e m X.env (eval e X.env) = eval e X.env := by rfl) (h : X.K = K := by rfl) : PE X (.Attribute e m pos) (tProp C (lift K S) [] EN ta) := by
  subst h; exact pe_pr c room hj he hab
end
end
end DL
namespace DL
open PySem PySem.Spec L2
open PyProof.Rows hiding St
def rJoin (K : PySem.W.Frag) : V → List V → Hp → VK → Prop := fun x xs H Q => ∃ a p, ∃ ys : List Str, x = .str a ∧ xs = [.ref p] ∧ (SqL K H p (ys.map V.str) ∨ SqT K H p (ys.map V.str)) ∧ (ys.map (·.length)).sum + ys.length * a.length ≤ 16777216 ∧ Q (.str (Txt.join a ys)) H
def rSplit : V → List V → Hp → VK → Prop := fun x xs H Q => ∃ a b, x = .str a ∧ xs = [.str b] ∧ (b.length == 0) = false ∧ a.length + 2 ≤ sizeLine ∧ rNewStrs (Txt.split a b) H Q
def rStrB (f : Str → Bool) : V → List V → Hp → VK → Prop := fun x xs H Q => ∃ a, x = .str a ∧ xs = [] ∧ True ∧ Q (.bl (f a)) H
section
variable {X : Cx} (K : PySem.W.Frag)
theorem k_join (h : X.K = K := by rfl) : MtR X "str.join" (rJoin K) := h ▸ mt_join
theorem k_split : MtR X "str.split" rSplit := mt_split
theorem k_isdigit : MtR X "str.isdigit" (rStrB Txt.isdigit) := mt_isdigit
theorem k_isascii : MtR X "str.isascii" (rStrB Txt.isascii) := mt_isascii
end
section
variable {K : PySem.W.Frag}
theorem mtd_joinK : MtD K (rJoin K) joinG := mtd_join
theorem mtd_splitK : MtD K rSplit splitG := mtd_split
theorem mtd_strB {f : Str → Bool} : MtD K (rStrB f) (str0G fun a => .bl (f a)) := mtd_str0
end
theorem isTy_s {x : Str} : isTy "str" (.str x) = true := by show ("str" == "str") = true; decide
theorem str0G_s {f : Str → D} {x : Str} {Φ : D → Prop} (h : Φ (f x)) : str0G f (.str x) [] Φ := h
theorem cbd_lenO {K : PySem.W.Frag} : CbD K (rLen K) fun as Ψ => ∃ es, as = [.lst es] ∧ es.length ≤ 1000000 ∧ Ψ (.int es.length) := fun H0 H xs ds Φ Q e r ⟨es, h, _, q⟩ k => by
  subst h
  exact cbd_len H0 H xs _ Φ Q e r q k
theorem isG_t {l : List D} {Φ : D → Prop} (h : Φ (.bl false)) : isG (.tup l) .non Φ := ⟨false, rfl, rfl, h⟩
theorem isG_n {Φ : D → Prop} (h : Φ (.bl true)) : isG .non .non Φ := ⟨true, rfl, rfl, h⟩
theorem joinG_l {a : Str} {ys : List Str} {Φ : D → Prop} (hz : (ys.map (·.length)).sum + ys.length * a.length ≤ 1000000) (h : Φ (.str (Txt.join a ys))) : joinG (.str a) [.lst (ys.map D.str)] Φ := ⟨a, ys, rfl, .inl rfl, hz, h⟩
theorem joinG_t {a : Str} {ys : List Str} {Φ : D → Prop} (hz : (ys.map (·.length)).sum + ys.length * a.length ≤ 1000000) (h : Φ (.str (Txt.join a ys))) : joinG (.str a) [.tup (ys.map D.str)] Φ := ⟨a, ys, rfl, .inr rfl, hz, h⟩
theorem splitG_s {a b : Str} {Φ : D → Prop} (hb : (b.length == 0) = false) (hz : a.length ≤ 1000000) (h : Φ (.lst ((Txt.split a b).map D.str))) : splitG (.str a) [.str b] Φ := ⟨a, b, rfl, rfl, hb, hz, h⟩
/-- for over a typed list -/
theorem wS_forT {α : Type} (f : α → D) (I : Nat → Env' → Prop) {w : Wx} {ρ : Env'} {E : DE} {wi : TI} {g : TG} {ts : TS} (h : wI w wi ρ fun ds ρ1 => ∃ xs : List α, ds = xs.map f ∧ I 0 ρ1 ∧
    (∀ i x ρ', xs[i]? = some x → I i ρ' → wG w g (f x) ρ' fun ρ2 => wS w ts { nx := I (i + 1), ct := I (i + 1), bk := E.nx, rt := E.rt, ro := E.ro } ρ2) ∧ (∀ ρ', I xs.length ρ' → E.nx ρ')) : wS w (tFor wi g ts) E ρ :=
  wS_for fun c H0 H σ R a x q => h c H0 H σ R a x fun J ds ρ' H0' H' ⟨xs, e, i0, step, fin⟩ => q J ds ρ' H0' H' ⟨I, i0, fun i d ρ2 hd hI => by
    subst e
    obtain ⟨y, hy, rfl⟩ := get_map hd
    exact step i y ρ2 hy hI, fun ρ2 hI => fin ρ2 (by rw [e, List.length_map] at hI; exact hI)⟩
theorem inSG_t {z : Str} {zs : List Str} {Φ : D → Prop} (h : Φ (.bl (decide (z ∈ zs)))) : inSG false (.str z) (.tup (zs.map D.str)) Φ := ⟨z, zs, rfl, .inl rfl, h⟩
theorem nodup_inj {α : Type} : ∀ {l : List α}, l.Nodup → ∀ {i j : Nat} {x : α}, l[i]? = some x → l[j]? = some x → i = j
  | [], _, i, j, x, h, _ => by simp at h
  | a :: l, nd, i, j, x, h1, h2 => by
    have nd' := List.nodup_cons.mp nd
    cases i with
    | zero =>
      cases j with
      | zero => rfl
      | succ j => simp at h1 h2; subst h1; exact absurd (List.mem_of_getElem? h2) nd'.1
    | succ i =>
      cases j with
      | zero => simp at h1 h2; subst h2; exact absurd (List.mem_of_getElem? h1) nd'.1
      | succ j => simp at h1 h2; rw [nodup_inj nd'.2 h1 h2]
theorem cut_from {α : Type} (xs : List α) (k : Nat) : cutD xs (some (k : Int)) none = xs.drop k := by
  unfold cutD
  rw [HT.sIx_nat, HT.sIx_none]
  have : xs.length - min k xs.length = (xs.drop (min k xs.length)).length := by rw [List.length_drop]
  rw [this, List.take_length]
  rcases Nat.le_total k xs.length with h | h
  · rw [Nat.min_eq_left h]
  · rw [Nat.min_eq_right h, List.drop_of_length_le (Nat.le_refl _), List.drop_of_length_le h]
theorem ixG_l0 {l : List D} {d : D} {Φ : D → Prop} (hi : l[0]? = some d) (h : Φ d) : ixG (.lst l) (.int 0) Φ := ⟨d, L2.atI_nat (j := 0) hi, h⟩
theorem ixG_l1 {l : List D} {d : D} {Φ : D → Prop} (hi : l[1]? = some d) (h : Φ d) : ixG (.lst l) (.int 1) Φ := ⟨d, L2.atI_nat (j := 1) hi, h⟩
theorem ixG_l2 {l : List D} {d : D} {Φ : D → Prop} (hi : l[2]? = some d) (h : Φ d) : ixG (.lst l) (.int 2) Φ := ⟨d, L2.atI_nat (j := 2) hi, h⟩
theorem ixG_t0 {l : List D} {d : D} {Φ : D → Prop} (hi : l[0]? = some d) (h : Φ d) : ixG (.tup l) (.int 0) Φ := ⟨d, L2.atI_nat (j := 0) hi, h⟩
theorem ixG_t1 {l : List D} {d : D} {Φ : D → Prop} (hi : l[1]? = some d) (h : Φ d) : ixG (.tup l) (.int 1) Φ := ⟨d, L2.atI_nat (j := 1) hi, h⟩
/-- where nothing is raised, nothing need be said of what is raised -/
theorem wE_quiet {w : Wx} {te : TE} {ρ : Env'} {Φ : D → Env' → Prop} (h : wE w.quiet te ρ Φ) : wE w te ρ Φ := fun c H0 H σ Q a x k => h c H0 H σ Q a (quiet_link x.t) k
end DL
namespace DL
open PySem PySem.Spec L2
open PyProof.Rows hiding St
def rDivmod : List V → Hp → VK → Prop := fun xs H Q => ∃ i j, xs = [.int i, .int j] ∧ CDiv i j ∧ ∀ p, H p = none → Q (.ref p) (upd H p (.tup [.int (i / j), .int (i % j)]))
theorem k_divmod {X : Cx} : CallR X (.builtin "divmod") rDivmod := call_divmod
def divmodG (ds : List D) (Φ : D → Prop) : Prop := match ds with
  | [.int i, .int j] => CDiv i j ∧ Φ (.tup [.int (i / j), .int (i % j)])
  | _ => False
theorem cbd_divmod {K : PySem.W.Frag} : CbD K rDivmod divmodG := fun H0 H xs ds Φ Q e rx g k => by
  cases rx with
  | nil => exact g.elim
  | cons r rs =>
    cases rs with
    | nil => cases r <;> exact g.elim
    | cons r' rs =>
      cases rs with
      | cons _ _ => cases r <;> cases r' <;> exact g.elim
      | nil =>
        cases r <;> cases r' <;> first
          | exact g.elim
          | exact ⟨_, _, rfl, g.1, finT e g.2 (.cons (.int _) (.cons (.int _) .nil)) k⟩
theorem divmodG_i {a c : Int} {Φ : D → Prop} (h1 : 0 < c) (h2 : c < 1073741824) (h : Φ (.tup [.int (a / c), .int (a % c)])) : divmodG [.int a, .int c] Φ := ⟨⟨h1, h2⟩, h⟩
/-- so many bits all numbers of a script have at most -/
def Bits : Nat := 1048576
theorem bits_two : Bits + Bits ≤ 134217728 := by decide
/-- two ways to a value, one way on -/
theorem ifE {p : Prop} [Decidable p] {w : Wx} {ta tb : TE} {ρ : Env'} {Φ : D → Env' → Prop} (R : D → Env' → Prop) (k : ∀ d ρ', R d ρ' → Φ d ρ') (h1 : p → wE w ta ρ R) (h2 : ¬ p → wE w tb ρ R) : if decide p = true then wE w ta ρ Φ else wE w tb ρ Φ := by
  by_cases hp : p
  · exact ifP hp (wE_mono (h1 hp) k)
  · exact ifN hp (wE_mono (h2 hp) k)
theorem cut_last {α : Type} {xs : List α} (h : xs ≠ []) : cutD xs (some (-1)) none = xs.drop (xs.length - 1) := by
  unfold cutD
  have hl : 0 < xs.length := List.length_pos_iff.mpr h
  have e : HT.sIx xs.length 0 (some (-1 : Int)) = xs.length - 1 := by
    show (if (-1 : Int) < 0 then ((-1 : Int) + (xs.length : Int)).toNat else min (-1 : Int).toNat xs.length) = xs.length - 1
    rw [if_pos (by decide)]
    omega
  rw [e, HT.sIx_none]
  have : xs.length - (xs.length - 1) = (xs.drop (xs.length - 1)).length := by rw [List.length_drop]
  rw [this, List.take_length]
theorem perm_erase {α : Type} : ∀ {l : List α} {j : Nat} {y : α}, l[j]? = some y → (y :: l.eraseIdx j).Perm l
  | [], j, y, h => by simp at h
  | a :: l, 0, y, h => by simp at h; subst h; exact List.Perm.refl _
  | a :: l, j + 1, y, h => by
    have ih := perm_erase (l := l) (j := j) (y := y) (by simpa using h)
    show (y :: a :: l.eraseIdx j).Perm (a :: l)
    exact (List.Perm.swap a y _).trans (ih.cons a)
theorem neG_nil {zs : List Str} {Φ : D → Prop} (h1 : ∀ z ∈ zs, PyData.strOk z = true) (h : Φ (.bl (!decide (zs = [])))) : neG (.lst (zs.map D.str)) (.lst []) Φ := by
  refine neG_of ((Shp.lst (n := 63) fun d hd => ?_)) ((Shp.lst (n := 63) fun d hd => by cases hd)) ?_
  · obtain ⟨z, hz, rfl⟩ := List.mem_map.mp hd
    exact .str (h1 z hz)
  · cases zs with
    | nil => exact h
    | cons z zs => exact h
end DL
/-! DL18: from the top of a text to the law's line. -/
namespace DL
open PySem PySem.Spec L2
open PyProof.Rows hiding St
/-! ### where the law starts: the heap behind the top, the script aside -/
section
variable {P : Program} {w : World} {K : PySem.W.Frag} {mg mb : Str → Option Value} {z : Shared} {scr : Addr} {H : Hp} {items : Array Value}
structure Begins (z : Shared) (K : PySem.W.Frag) (mg mb : Str → Option Value) : Prop where
  frag : K.In z.heap
  main : z.heap.Ns mainGlobals mg
  blt : z.heap.Ns builtinsNs mb
  boot : ∀ y : Str, y ≠ "__name__" → mb y = bootBuiltins y
  lim : z.heap.NoLimit
  gens : z.gens = #[]
end
def Bd (n : Int) : Prop := n.natAbs < 2 ^ Bits
theorem bd_of {n : Int} (h : Builtin.Int.intBits n ≤ 1048576) : Bd n := by
  unfold Bd
  unfold Builtin.Int.intBits at h
  by_cases e : n = 0
  · subst e; exact Nat.two_pow_pos _
  · have e' : (n == 0) = false := by simpa using e
    rw [e'] at h
    have h2 : n.natAbs.log2 + 1 ≤ Bits := h
    exact Nat.lt_of_lt_of_le (Nat.lt_log2_self (n := n.natAbs)) (Nat.pow_le_pow_right (by decide) h2)
/-! ### what the top has written -/
section
variable {K : PySem.W.Frag} {mg : Str → Option Value} {h : Heap}
/-- a def of the text at f -/
structure DefAt (K : PySem.W.Frag) (x qual : Str) (st : Stmt) (f : Addr) (dV : Value) (fd : FuncData) : Prop where
  ex : ∃ (oc : Value) (od : Option Addr) (kV doc pm : Value) (an : Option Addr) (cdv ct : Value) (osl : Array (Option Value)),
    fd = PySem.W.fnOf x qual (defArgs st) (defBody st) (defScope st) dV kV doc pm an cdv ct ∧ K.lookup f = some ⟨oc, od, .func fd, osl⟩ ∧ PySem.W.codeIn K cdv qual = true
theorem DefAt.fx {x qual : Str} {st : Stmt} {f : Addr} {dV : Value} {fd : FuncData} (D : DefAt K x qual st f dV fd) : FunX K x qual st f fd :=
  let ⟨oc, od, kV, doc, pm, an, cdv, ct, osl, h⟩ := D.ex; ⟨oc, od, dV, kV, doc, pm, an, cdv, ct, osl, h⟩
theorem DefAt.binds {x qual : Str} {st : Stmt} {f : Addr} {fd : FuncData} {ps : List Str} (D : DefAt K x qual st f .none fd)
    (h : ∀ (kV doc pm : Value) (an : Option Addr) (cdv ct : Value) (us : List Value), us.length = ps.length → bindArgs (PySem.W.fnOf x qual (defArgs st) (defBody st) (defScope st) .none kV doc pm an cdv ct) ⟨us, []⟩ = pure (ps.zip us)) : Binds K fd ps [] := by
  obtain ⟨oc, od, kV, doc, pm, an, cdv, ct, osl, rfl, lk, hcd⟩ := D.ex
  exact .all (h kV doc pm an cdv ct)
/-- a call that gives all values by place or by name, whatever the defaults are -/
theorem DefAt.kb {x qual : Str} {st : Stmt} {f : Addr} {dV : Value} {fd : FuncData} {ps : List Str} {n : Nat} {ks : List Str} {ix : List Nat} (D : DefAt K x qual st f dV fd)
    (h : ∀ (kV doc pm : Value) (an : Option Addr) (cdv ct : Value) (us ws : List Value), us.length = n → ws.length = ks.length → bindArgs (PySem.W.fnOf x qual (defArgs st) (defBody st) (defScope st) dV kV doc pm an cdv ct) ⟨us, ks.zip ws⟩ = pure (ps.zip (pick ix (us ++ ws)))) : KbG K fd ps n ks ix [] := by
  obtain ⟨oc, od, kV, doc, pm, an, cdv, ct, osl, rfl, lk, hcd⟩ := D.ex
  refine .of (dvs := []) (dv := []) .nil (fun _ => .nil) fun s us ws _ h1 h2 => ?_
  rw [List.append_nil]
  exact .of_eq (h kV doc pm an cdv ct us ws h1 h2)
/-- .. a def with defaults, which the call may give or leave -/
theorem DefAt.kbD {x qual : Str} {st : Stmt} {f T : Addr} {o : Obj} {its dv : List Value} {dvs : List V} {dd : List D} {m : Nat} {fd : FuncData} {ps : List Str} {n : Nat} {ks : List Str} {ix : List Nat} (D : DefAt K x qual st f (.ref T) fd)
    (lT : K.lookup T = some o) (oT : o.data = .seq its.toArray m) (h1 : Vals dvs dv) (h2 : ∀ H, RepAll K H dvs dd)
    (h : ∀ (kV doc pm : Value) (an : Option Addr) (cdv ct : Value) (us ws : List Value), us.length = n → ws.length = ks.length →
      ∃ k, bindArgs (PySem.W.fnOf x qual (defArgs st) (defBody st) (defScope st) (.ref T) kV doc pm an cdv ct) ⟨us, ks.zip ws⟩ = seqItems? (.ref T) >>= k ∧ k (some its.toArray) = pure (ps.zip (pick ix (us ++ ws ++ dv)))) : KbG K fd ps n ks ix dd := by
  obtain ⟨oc, od, kV, doc, pm, an, cdv, ct, osl, rfl, lk, hcd⟩ := D.ex
  refine .of h1 h2 fun s us ws X l1 l2 => ?_
  obtain ⟨k, e1, e2⟩ := h kV doc pm an cdv ct us ws l1 l2
  refine BindsTo.of_looks fun M => ?_
  rw [e1]
  exact looks_items X lT oT (.of_pure e2)
/-- a def of the module: it can be called by its name -/
structure ModAt (K : PySem.W.Frag) (mg : Str → Option Value) (x : Str) (st : Stmt) (f : Addr) (fd : FuncData) : Prop where
  d : DefAt K x x st f .none fd
  m : mg x = some (.ref f)
  k : PySem.W.keepIn K (.ref f) = true
theorem ModAt.call {P : Program} {w : World} {base : Heap} {x : Str} {st : Stmt} {f : Addr} {fd : FuncData} {ps : List Str} {k : Nat} {S : DSp} (M : ModAt K mg x st f fd) (F : FnG P w K mg base k f fd ps (lift K S))
    (h : ∀ (kV doc pm : Value) (an : Option Addr) (cdv ct : Value) (us : List Value), us.length = ps.length → bindArgs (PySem.W.fnOf x x (defArgs st) (defBody st) (defScope st) .none kV doc pm an cdv ct) ⟨us, []⟩ = pure (ps.zip us)) : CallD P w K mg base x k S :=
  .of F M.m M.k (M.d.binds h)
end
end DL
/-! DL19: len and bool of an object whose class has an own __len__. -/
namespace DL
open PySem PySem.Spec L2
open PyProof.Rows hiding St
section
variable {prog : Program} {w : World} {A : Around} {E : Value → Shared → Prop} {s : Shared} {K : PySem.W.Frag} {x C f : Addr} {ox : Obj} {od : Option Obj}
/-- what the own __len__ gives back -/
abbrev LenV' (Q : Int → Shared → Prop) : Value → Shared → Prop := fun v s' => ∃ (n : Nat) (u : Tok), v = .int (n : Int) u ∧ n < 2 ^ 62 ∧ Q (n : Int) s'
theorem len_bodyO {Q : Value → Shared → Prop} (X : K.In s.heap) (I : PySem.W.InstAt s.heap x ox C od) (hs : PySem.W.findIn K (.ref C) "__len__" = some (some (.ref f))) (hf : PySem.W.isFn K (.ref f) = true)
    (h : wpAny (model prog w) A (call (.ref f) [.ref x]) (LenV' fun n s' => Q (.int n s'.toks) { s' with toks := s'.toks + 1 }) E s) :
    wpAny (model prog w) A (Builtin.«len» ⟨[.ref x], []⟩) (fun fin s' => ∃ v, fin = .done (.ret v) ∧ Q v s') E s := by
  unfold Builtin.«len»
  refine wpAny_bind (m := oneArg "len" _) (wpAny_pure (wpAny_bind (m := callSpecial? (.ref x) (Str.ofString "__len__")) (PySem.W.special_fn X I hs (beq_iff_eq.mp hf) (wpAny_mono h ?_ fun _ _ y => y))))
  rintro _ s' ⟨n, u, rfl, hn, hq⟩
  refine wpAny_bind (wpAny_holding (wpAny_pure (wpAny_bind (wpAny_letGo ?_))))
  show wpAny _ _ (if ((n : Nat) : Int) < 0 then _ else _) _ _ _
  rw [if_neg (show ¬ ((n : Nat) : Int) < 0 by omega)]
  show wpAny _ _ (if ((n : Nat) : Int) ≥ 2 ^ 63 then _ else _) _ _ _
  rw [if_neg (show ¬ ((n : Nat) : Int) ≥ 2 ^ 63 by omega)]
  exact wpAny_bind (wpAny_mkInt (wpAny_pure ⟨.int n s'.toks, rfl, hq⟩))
end
def rLenO (K : PySem.W.Frag) (C : Addr) (S : DSp) : List V → Hp → VK → Prop := fun xs H Q => ∃ (a dx : Addr) (fs : List (Str × V)), xs = [.ref a] ∧ H a = some (.ins C dx fs) ∧ lift K S [.ref a] H (fun v H' => ∃ n : Nat, v = .int n ∧ n < 2 ^ 62 ∧ Q (.int n) H') EN
/-- an own __len__, no own __bool__ -/
structure LenB (P : Program) (w : World) (K : PySem.W.Frag) (mg : Str → Option Value) (base : Heap) (C : Addr) (k : Nat) (S : DSp) : Prop where
  ex : ∃ f fd ps, Own1 K C "__len__" f ∧ FnG P w K mg base k f fd ps (lift K S) ∧ Binds K fd ps []
  nb : PySem.W.findIn K (.ref C) "__bool__" = some none
section
variable {X : Cx} {j k : Nat} {f C : Addr} {fd : FuncData} {ps : List Str} {S : DSp}
theorem run_lenO {A : Around} {pins : List (Addr × Obj)} {σ : St} {H : Hp} {s : Shared} {a : Addr} {R : Nat → Hp → Prop} (F : FnG X.prog X.w X.K X.mg X.base k f fd ps (lift X.K S)) (hb : Binds X.K fd ps []) (room : RoomG k A) (e0 : Env0 X.prog X.w X.K X.mg X.base A X.stack s H)
    (I : Inv X pins σ H s) (q : lift X.K S [.ref a] H (fun v H' => ∃ n : Nat, v = .int n ∧ n < 2 ^ 62 ∧ R n H') EN) :
    wpAny (model X.prog X.w) A (call (.ref f) [.ref a]) (fun v s' => ∃ (n : Nat) (u : Tok), v = .int (n : Int) u ∧ n < 2 ^ 62 ∧ ∃ H', Inv X pins σ H' s' ∧ R n H') X.xe s := by
  refine wpAny_call (codeAny_mono (F.run A X.stack s H ⟨[.ref a], []⟩ [.ref a] [.ref a] _ EN room e0 (by
    have := hb s [.ref a] I.kIn (by rw [List.append_nil]; exact F.len _ _ _ _ q)
    simpa using this) (.cons rfl .nil) q) fun r s2 z => ?_)
  rcases r with er | fl
  · obtain ⟨_, _, _, _, _, _, _, _, _, _, _, _, z⟩ := z; exact z.elim
  · rcases fl with _ | _ | _ | u
    · exact z.elim
    · exact z.elim
    · exact z.elim
    · obtain ⟨v, H2, J2, rv, n, ev, hn, q2⟩ := I.after z
      subst ev
      obtain ⟨t, rfl⟩ := rv
      exact ⟨n, t, rfl, hn, H2, J2, q2⟩
theorem call_lenO (c : LenB X.prog X.w X.K X.mg X.base C k S) (room : RoomG j X.A) (hj : k + 2 ≤ j) : CallR X (.builtin "len") (rLenO X.K C S) := by
  intro pins s σ H xs us Q I r ⟨a, dx, fs, e, ha, q⟩
  obtain ⟨f, fd, ps, o1, F, hb⟩ := c.ex
  subst e
  obtain ⟨u, rfl, ru⟩ := vals1 r
  obtain rfl : u = Value.ref a := ru
  obtain ⟨mA, O, _⟩ := ins_get I.hok ha
  obtain ⟨od, J, _⟩ := O.look
  refine Calls.call_function_entry kind_len plain_len entry_len (args_len1 _) (len_bodyO I.kIn J o1.at_ o1.fn (wpAny_mono (run_lenO F hb ((room.mono (Nat.le_trans (Nat.le_succ _) hj)).in1) I.env0.in1 I q) ?_ fun _ _ y => y))
  rintro v s' ⟨n, u, rfl, hn, H2, J2, q2⟩
  exact ⟨n, u, rfl, hn, .int n, H2, J2.tok _, ⟨_, rfl⟩, q2⟩
end
section
variable {X : Cx} (K : PySem.W.Frag) {j k : Nat} {C : Addr} {S : DSp}
theorem k_lenO (c : LenB X.prog X.w K X.mg X.base C k S) (room : RoomG j X.A) (hj : k + 2 ≤ j) (h : X.K = K := by rfl) : CallR X (.builtin "len") (rLenO K C S) := by
  subst h; exact call_lenO c room hj
end
def lenOG (C : Addr) (S : DSp) (ds : List D) (Φ : D → Prop) : Prop := ∃ fs, ds = [.ins C fs] ∧ S [.ins C fs] (fun d => ∃ n : Nat, d = .int n ∧ n < 2 ^ 62 ∧ Φ (.int n)) (fun _ => False)
theorem cbd_lenOwn {K : PySem.W.Frag} {C : Addr} {S : DSp} : CbD K (rLenO K C S) (lenOG C S) := fun H0 H xs ds Φ Q e rx ⟨fs, hd, g⟩ k => by
  subst hd
  obtain ⟨v, rfl, r⟩ := vals_one rx
  cases r with
  | ins hp hr =>
    exact ⟨_, _, _, rfl, e _ _ hp, H0, [.ins C fs], _, fun _ => False, e, .cons (.ins hp hr) .nil, g, fun v d H0' H' ⟨n, ez, hn, hΦ⟩ p rv => by
      subst ez; cases rv
      exact ⟨n, rfl, hn, k _ _ H0' H' hΦ p (.int _)⟩, fun _ _ _ _ z => z.elim⟩
theorem wJ_cons {w : Wx} {t : TE} {ts : List TE} {acc : Str} {ρ : Env'} {Φ : Str → Env' → Prop} (h : wE w t ρ fun d ρ1 => ∃ y, d = .str y ∧ (acc ++ y).length ≤ 1000000 ∧ wJ w ts (acc ++ y) ρ1 Φ) : wJ w (t :: ts) acc ρ Φ := h
theorem wJ_nil {w : Wx} {acc : Str} {ρ : Env'} {Φ : Str → Env' → Prop} (h : Φ acc ρ) : wJ w [] acc ρ Φ := h
end DL
/-! DL20: defs around which tables of code objects may grow. -/
namespace DL
open PySem PySem.Spec L2
open PyProof.Rows hiding St
/-- a promise over data, of a def that may fill tables -/
def liftT (K : PySem.W.Frag) (T : List (Addr × Str)) (S : DSp) : Sp := fun vs H Q E => ∃ (H0 : Hp) (ds : List D) (Φ : D → Prop) (Ψ : Exn → Prop), Ex H0 H ∧ RepAll K H0 vs ds ∧ TabA T H0 H ∧ S ds Φ Ψ ∧
  (∀ v d H0' H', Φ d → PX ⟨H, H0, T⟩ H0' H' → TabA T H0' H' → Rep K H0' v d → Q v H') ∧ (∀ x dd H0' H', Ψ x → PX ⟨H, H0, T⟩ H0' H' → RepX K H0' H' x dd → E (.ref x.C) dd H')
theorem at_startT {K : PySem.W.Frag} {T : List (Addr × Str)} {H0 H : Hp} {N : List Str} {vs : List V} {ds : List D} (e : Ex H0 H) (tb : TabA T H0 H) (r : RepAll K H0 vs ds) : At K ⟨H, H0, T⟩ (startE N ds) H0 H (L2.start N vs) := by
  refine ⟨PX.refl e, tb, [], ?_, List.nodup_nil, fun _ h => nomatch h⟩
  unfold startE L2.start
  rw [r.length]
  exact slots_start r
section
variable {P : Program} {w : World} {K : PySem.W.Frag} {mg : Str → Option Value} {base : Heap} {T : List (Addr × Str)}
theorem fnX_ofT {x qual : Str} {st : Stmt} {f : Addr} {fd : FuncData} {N ps : List Str} {k : Nat} {S : DSp} (F : FunX K x qual st f fd) (Sc : FnScope N ps (defScope st)) (len : ∀ ds Φ Ψ, S ds Φ Ψ → ds.length = ps.length)
    (hbody : ∀ (cdv : Value) (A : Around) (outer : List Env) (s : Shared) (H : Hp) (E : XK), InBody P w k (bodyX P w K mg base N qual st f cdv A outer s H E) E → (∃ oc od osl dV kV doc pm an ct, K.lookup f = some ⟨oc, od, .func (PySem.W.fnOf x qual (defArgs st) (defBody st) (defScope st) dV kV doc pm an cdv ct), osl⟩) →
      ∃ t, PSs (bodyX P w K mg base N qual st f cdv A outer s H E) (defBody st) t ∧ ∀ ds Φ Ψ, S ds Φ Ψ → wS ⟨K, E, Ψ, T⟩ t { nx := fun _ => Φ .non, rt := fun d _ => Φ d } (startE N ds)) :
    FnG P w K mg base (k + 1) f fd ps (liftT K T S) := by
  obtain ⟨oc, od, dV, kV, doc, pm, an, cdv, ct, osl, rfl, lk, hcd⟩ := F.ex
  refine fnG_of lk hcd Sc (fun vs H Q E ⟨H0, ds, Φ, Ψ, _, r, _, q, _⟩ => r.length.trans (len ds Φ Ψ q)) fun A outer s H vs Q E room ⟨H0, ds, Φ, Ψ, e, r, tb, q, kq, kx⟩ => ?_
  obtain ⟨t, ht, hw⟩ := hbody cdv A outer s H E ⟨room, passes_call (takes_of rfl rfl rfl rfl) fun _ _ _ _ h => h, passes_of rfl⟩ ⟨_, _, _, _, _, _, _, _, _, lk⟩
  refine ⟨t, ht, hw ds Φ Ψ q ⟨H, H0, T⟩ _ H0 H _ (at_startT e tb r) ⟨rfl, fun x hx dd H0' H' p rx => kx x dd H0' H' hx p rx⟩ ⟨fun ρ H0' H' σ z a => kq .non .non H0' H' z a.px a.tab .non, fun d v ρ H0' H' σ z a rv => kq v d H0' H' z a.px a.tab rv, fun _ _ _ _ _ _ _ z => z.elim, fun _ _ _ _ z => z.elim, fun _ _ _ _ z => z.elim⟩⟩
structure CallT (P : Program) (w : World) (K : PySem.W.Frag) (mg : Str → Option Value) (base : Heap) (T : List (Addr × Str)) (x : Str) (k : Nat) (S : DSp) : Prop where
  ex : ∃ f fd ps, FnG P w K mg base k f fd ps (liftT K T S) ∧ mg x = some (.ref f) ∧ PySem.W.keepIn K (.ref f) = true ∧ Binds K fd ps []
end
theorem k_ct {X : Cx} (K : PySem.W.Frag) {T : List (Addr × Str)} {j k : Nat} {E : XK} {x : Str} {p pos : Pos} {e : Expr} {es : List Expr} {t : TA} {S : DSp} (c : CallT X.prog X.w K X.mg X.base T x k S) (room : RoomG j X.A) (hj : k ≤ j) (hx : Passes (CXD X.prog X.w) X E) (ha : PA X (e :: es) t)
    (hg : Gl X x := by rfl) (hdb : (x == ("__debug__" : Str)) = false := by decide) (he : starEach (e :: es) X.env = (false, eval e X.env) :: starEach es X.env := by rfl) (hpl : (backTo pos (starEach es X.env)).any (·.1) = false := by rfl) (h : X.K = K := by rfl) : PE X (.Call (.Name x p) (e :: es) [] pos) (tCall (liftT K T S) [] E t) := by
  subst h
  obtain ⟨f, fd, ps, F, hm, hk, hb⟩ := c.ex
  exact pe_callG F (room.mono hj) hg hm hk hb .nil hx ha hdb he hpl
theorem wE_callT {w : Wx} {ρ : Env'} {Φ : D → Env' → Prop} {ta : TA} {S : DSp} (h : wA w ta ρ fun ds ρ1 => S ds (fun d => Φ d ρ1) w.X) : wE w (tCall (liftT w.K w.T S) [] w.EX ta) ρ Φ := fun c H0 H σ Q a x k =>
  h c H0 H σ _ a x fun vs ds ρ1 H01 H1 q a1 e1 r1 => by
    obtain ⟨ct, cl⟩ := x
    refine ⟨H01, ds, fun d => Φ d ρ1, w.X, a1.px.i, by rw [List.append_nil]; exact r1, by rw [← ct]; exact a1.tab, q, fun v d H0' H' z p tb rv => ?_, fun y dd H0' H' z p rx => ?_⟩
    · rw [← ct] at p tb
      exact k v d ρ1 H0' H' z (a1.goT p tb) (e1.trans p.e0) rv
    · rw [← ct] at p
      exact cl y z dd H0' H' (a1.px.transT p) rx
end DL
/-! DL21: own exceptions with one attribute, raised. -/
namespace DL
open PySem PySem.Spec L2
open PyProof.Rows hiding St
/-- __init__(self, f): self.f = f, of a new exception -/
def spXI (K : PySem.W.Frag) (C : Addr) (f : Str) : Sp := fun vs H Q _ => ∃ (a : Addr) (y : V), vs = [.ref a, y] ∧ H a = some (exo a C none) ∧ ∀ dx, H dx = none → dx ≠ a → Q .non (upd (upd H dx (exd dx [(f, y)])) a (exo a C (some dx)))
/-- the class at C, its __init__ at fI -/
structure XCls (K : PySem.W.Frag) (mg : Str → Option Value) (x f : Str) (st : Stmt) (C : Addr) : Prop where
  here : mg x = some (.ref C)
  T : OexC K C
  no : PySem.W.findIn K (.ref C) f = some none
  ini : ∃ fI fd, PySem.W.findIn K (.ref C) "__init__" = some (some (.ref fI)) ∧ PySem.W.typeIn K (.ref fI) = some (.type "function") ∧ Fun K "__init__" (x ++ ".__init__") st fI fd
section
variable {P : Program} {w : World} {K : PySem.W.Frag} {mg : Str → Option Value} {base : Heap}
/-- the class makes exceptions: (what callers see) -/
structure XMk (P : Program) (w : World) (K : PySem.W.Frag) (mg : Str → Option Value) (base : Heap) (x f : Str) (C : Addr) : Prop where
  here : mg x = some (.ref C)
  T : OexC K C
  ini : ∃ fI fd, PySem.W.findIn K (.ref C) "__init__" = some (some (.ref fI)) ∧ PySem.W.typeIn K (.ref fI) = some (.type "function") ∧ FnOk P w K mg base (L2.CX P w) 1 fI fd ["self", f] (spXI K C f) ∧ Binds K fd ["self", f] []
end
/-- raise C(e) -/
def tRaise (K : PySem.W.Frag) (C : Addr) (f : Str) (E : XK) (ta : TA) : TS := fun _ σ H => tMkO C (spXI K C f) [] ta σ H fun cls d H' => E cls d H'
theorem k_raise {X : Cx} (K : PySem.W.Frag) {j : Nat} {C : Addr} {x f : Str} {e : Expr} {es : List Expr} {ta : TA} {E : XK} {p pos pos' : Pos} (c : XMk X.prog X.w K X.mg X.base x f C) (room : RoomG j X.A) (hj : 2 ≤ j) (hc : X.calm = true) (tk : Takes X fun cls d _ H => E cls d H) (ha : PA X (e :: es) ta)
    (hg : Gl X x := by rfl) (hdb : (x == ("__debug__" : Str)) = false := by decide) (he : starEach (e :: es) X.env = (false, eval e X.env) :: starEach es X.env := by rfl) (hpl : (backTo pos (starEach es X.env)).any (·.1) = false := by rfl) (h : X.K = K := by rfl) :
    PS X (.Raise (some (.Call (.Name x p) (e :: es) [] pos)) none pos') (tRaise K C f E ta) := by
  subst h
  obtain ⟨fI, fd, i1, i2, F, hb⟩ := c.ini
  exact ps_raise hc tk (pmk_oex c.T i1 i2 F (room.mono hj).r hb .nil passN hg c.here ha hdb he hpl)
theorem wS_raise {w : Wx} {ρ : Env'} {E : DE} {C : Addr} {f : Str} {ta : TA} (h : wA w ta ρ fun ds _ => ∃ d, ds = [d] ∧ w.X ⟨C, [(f, d)]⟩) : wS w (tRaise w.K C f w.EX ta) E ρ := fun c Dn H0 H σ a x l =>
  h c H0 H σ _ a x fun vs ds ρ1 H01 H1 ⟨d, e, q⟩ a1 e1 r1 => by
    subst e
    obtain ⟨v, rfl, r⟩ := vals_one r1
    refine ⟨by simp, fun b hb => ⟨b, v, rfl, upd_same, fun dx hd hne => ⟨rfl, dx, [(f, v)], upd_same, ?_, ?_, ?_⟩⟩⟩
    · rw [upd_ne hne, upd_same]
    · rwa [upd_ne hne] at hd
    · have hd1 : H1 dx = none := by rwa [upd_ne hne] at hd
      have eq : upd (del (upd (upd (upd H1 b (exo b C none)) dx (exd dx [(f, v)])) b (exo b C (some dx))) b) dx (.xd [(f, v)]) = upd H1 dx (.xd [(f, v)]) := by
        funext a'
        by_cases ed : a' = dx
        · rw [ed, upd_same, upd_same]
        · rw [upd_ne ed, upd_ne ed]
          by_cases eb : a' = b
          · rw [eb, del_same, hb]
          · rw [del_ne eb, upd_ne eb, upd_ne ed, upd_ne eb]
      rw [eq]
      have y := a1.px.new (o := .xd [(f, v)]) hd1
      exact x.l _ q (some dx) _ _ y ⟨dx, [(f, v)], rfl, upd_same, .cons (r.mono (Ex.new (a1.px.i.back hd1))) .nil⟩
section
variable {P : Program} {w : World} {K : PySem.W.Frag} {mg : Str → Option Value} {base : Heap}
theorem XMk.of {x f : Str} {st : Stmt} {C : Addr} {N : List Str} (c : XCls K mg x f st C) (Sc : FnScope N ["self", f] (defScope st))
    (hb : ∀ (kV doc pm : Value) (an : Option Addr) (cdv ct : Value) (us : List Value), us.length = 2 → bindArgs (PySem.W.fnOf "__init__" (x ++ ".__init__") (defArgs st) (defBody st) (defScope st) .none kV doc pm an cdv ct) ⟨us, []⟩ = pure (([Str.ofString "self", f] : List Str).zip us))
    (hbody : ∀ (fI : Addr) (cdv : Value) (A : Around) (outer : List Env) (s : Shared) (H : Hp) (E : XK), PSs (cxOf (L2.CX P w) P w K mg base N (x ++ ".__init__") (defScope st) fI cdv A outer s H E) (defBody st) (tOst K f (tVar 0) (tVar 1))) (hs : ∀ a y : V, (L2.start N [a, y])[0]? = some (some a) ∧ (L2.start N [a, y])[1]? = some (some y)) : XMk P w K mg base x f C := by
  obtain ⟨fI, fd, i1, i2, F⟩ := c.ini
  refine ⟨c.here, c.T, fI, fd, i1, i2, ?_, F.binds (ps := [Str.ofString "self", f]) hb⟩
  refine F.okX Sc (fun vs H Q E ⟨_, _, h, _⟩ => by rw [h]; rfl) fun cdv A outer s H vs Q E room ⟨a, y, e, ha, q⟩ => ?_
  subst e
  have hp := hbody fI cdv A outer s H E
  obtain ⟨h0, h1⟩ := hs (.ref a) y
  exact ⟨_, hp, y, h1, .ref a, h0, a, C, rfl, c.T, c.no, .inl ⟨ha, fun dx hd hne => q dx hd hne⟩⟩
end
end DL
/-! DL22: a def that is handed the exception that is being handled. -/
namespace DL
open PySem PySem.Spec L2
open PyProof.Rows hiding St
structure RoomE (k : Nat) (A : Around) : Prop where
  r : L2H.RoomH k A
  g : A.guards = some []
theorem RoomE.mono {j k : Nat} {A : Around} (x : RoomE k A) (h : j ≤ k) : RoomE j A := ⟨x.r.mono h, x.g⟩
/-- what is known of the exception that is handled -/
structure Held (A : Around) (a : Addr) (oe : Obj) (cls : Value) (dd : Option Addr) : Prop where
  h : A.handled = some (.ref a)
  z : Zc cls dd oe
  f : ∃ vs, oe.data = .fields vs
/-- the def at f is called by the handled exception alone -/
structure FnE (P : Program) (w : World) (K : PySem.W.Frag) (mg : Str → Option Value) (base : Heap) (k : Nat) (f : Addr) (fd : FuncData) (p1 : Str) (sp : Value → Option Addr → Hp → VK → Prop) : Prop where
  run : ∀ (A : Around) (outer : List Env) (s : Shared) (H : Hp) (args : Args) (a : Addr) (oe : Obj) (cls : Value) (dd : Option Addr) (Q : VK), RoomE k A → Held A a oe cls dd → L2H.PinOk outer H s (a, oe) → Env0 P w K mg base A outer s H →
    BindsTo s fd args [(p1, .ref a)] → sp cls dd H Q → codeAny (model P w) A (.call (.ref f) args) (CR (CXD P w) outer P w H s Q EN) s
theorem fnE_of {P : Program} {w : World} {K : PySem.W.Frag} {mg : Str → Option Value} {base : Heap} {k : Nat} {f : Addr} {name qual p1 : Str} {params : Arguments} {body : List Stmt} {scope : Scope} {dV kV doc pm cdv ct oc : Value} {an od : Option Addr}
    {osl : Array (Option Value)} {N : List Str} {sp : Value → Option Addr → Hp → VK → Prop} (lk : K.lookup f = some ⟨oc, od, .func (PySem.W.fnOf name qual params body scope dV kV doc pm an cdv ct), osl⟩) (hcd : PySem.W.codeIn K cdv qual = true) (S : FnScope N [p1] scope)
    (hbody : ∀ (A : Around) (outer : List Env) (s : Shared) (H : Hp) (a : Addr) (oe : Obj) (cls : Value) (dd : Option Addr) (Q : VK), Held A a oe cls dd → RoomE k (A.deeper (envOfC qual scope s.heap.objs.size f cdv)) → sp cls dd H Q →
      ∃ t, PSs (L2H.cxH (CXD P w) P w K mg base N qual scope f cdv A outer s H EN (a, oe)) body t ∧ t { nx := fun _ H' => Q .non H', rt := Q } (L2.start N [.ref a]) H) :
    FnE P w K mg base (k + 1) f (PySem.W.fnOf name qual params body scope dV kV doc pm an cdv ct) p1 sp := by
  refine ⟨fun A outer s H args a oe cls dd Q room hd pin e0 binds hsp => ?_⟩
  have inK : K.In s.heap := e0.mod.kin.keeps fun b o z => (e0.bs b o z).1
  have noLim : s.heap.NoLimit := e0.mod.nolimit.keeps fun b o z => (e0.bs b o z).1
  have kinds : ∀ y ∈ [(p1, Value.ref a)], scope.names.lookup y.1 = some .local ∨ (scope.names.lookup y.1 = some .cell ∧ ((cellsFrom (s.heap.objs.size + 1) scope.names []).lookup y.1).isSome = true) := fun y hy => by
    rw [List.mem_singleton.mp hy]
    exact (S.par p1 List.mem_cons_self).imp id fun z => ⟨z, PySem.W.cellsFrom_some _ _ _ (.inl z)⟩
  refine codeAny_call_function room.r.depth (inK _ _ lk) rfl S.co S.gen rfl (PySem.W.codeRec_of inK hcd) (binds _ _ _ _ ?_)
  refine wpAny_newFunctionEnv_cells S.kind kinds fun env ee s1 x => ?_
  subst ee
  refine ⟨noLim.keeps x.toInCall.keep, codeAny_func ?_⟩
  obtain ⟨t, ht, hq⟩ := hbody A outer s H a oe cls dd Q hd ⟨room.r.deeper _, room.g⟩ hsp
  have I := L2H.inv_startH (CX := CXD P w) (E := EN) S pin e0 (vs := [.ref a]) (us := [.ref a]) rfl (.cons rfl .nil) x
  refine wpAny_mono (ht.run [] s1 (L2.start N [.ref a]) H _ I hq) (fun fl s' hs => ?_) fun e s' hs => hs
  rcases fl with _ | _ | _ | u
  · obtain ⟨σ', H', J, q⟩ := hs; exact ⟨V.non, H', J.os, J.bare, J.base, J.hok, rfl, q⟩
  · exact (hs.elim fun _ z => z.elim fun _ z => z.2).elim
  · exact (hs.elim fun _ z => z.elim fun _ z => z.2).elim
  · obtain ⟨v, σ', H', J, rv, q⟩ := hs; exact ⟨v, H', J.os, J.bare, J.base, J.hok, rv, q⟩
/-- f(e) within the suite that handles e -/
def tSort (K : PySem.W.Frag) (a : Addr) (cls : Value) (dd : Option Addr) (sp : Value → Option Addr → Hp → VK → Prop) (t : TA) : TE := fun σ H Q => t σ H fun vs H1 => vs = [.ref a] ∧ sp cls dd H1 Q
theorem pe_sort {X : Cx} {a : Addr} {oe : Obj} {cls : Value} {dd : Option Addr} {pn : List (Addr × Obj)} {j k : Nat} {f : Addr} {fd : FuncData} {p1 x : Str} {sp : Value → Option Addr → Hp → VK → Prop} {e : Expr} {t : TA} {p pos : Pos}
    (F : FnE X.prog X.w X.K X.mg X.base k f fd p1 sp) (room : RoomE j (X.suite a ((a, oe) :: pn)).A) (hj : k ≤ j) (hz : Zc cls dd oe) (hf : ∃ vs, oe.data = .fields vs) (hm : X.mg x = some (.ref f)) (hk : PySem.W.keepIn X.K (.ref f) = true) (hb : Binds X.K fd [p1] [])
    (ha : PA (X.suite a ((a, oe) :: pn)) [e] t) (hg : Gl X x := by rfl) (hdb : (x == ("__debug__" : Str)) = false := by decide) (he : starEach [e] X.env = [(false, eval e X.env)] := by rfl) : PE (X.suite a ((a, oe) :: pn)) (.Call (.Name x p) [e] [] pos) (tSort X.K a cls dd sp t) := by
  refine ⟨fun pins s σ H Q I h => ?_⟩
  refine wpAny_Call_Name_kw (ld_glob I hg hm (PySem.W.callWith_K (h₀ := X.base) I.ok.mod.kin hk (thn (ha.run pos pins s σ H _ I h) fun us s1 ⟨vs, H1, J, r, ev, q⟩ => ⟨J.kIn, ?_⟩) he rfl) hdb)
  subst ev
  cases r with
  | cons r rr =>
    cases rr
    cases r
    have P1 := J.pin (a, oe) (List.mem_append_left _ List.mem_cons_self)
    have pin : L2H.PinOk X.stack H1 s1 (a, oe) := ⟨P1.1, P1.2.1, fun hm => (List.mem_cons.mp (J.stkSub a hm)).elim P1.2.2.1 P1.2.2.2.1, P1.2.2.2.2⟩
    refine wpAny_call (codeAny_mono (F.run _ X.stack s1 H1 ⟨[.ref a], []⟩ a oe cls dd Q (room.mono hj) ⟨rfl, hz, hf⟩ pin J.env0 (hb s1 [.ref a] J.kIn rfl) q) fun r s' hq => ?_)
    rcases r with er | fl
    · obtain ⟨_, _, _, _, _, _, _, _, _, _, _, _, z⟩ := hq; exact z.elim
    · rcases fl with _ | _ | _ | u
      · exact hq.elim
      · exact hq.elim
      · exact hq.elim
      · exact J.after hq
/-! within such a def -/
section
variable {P : Program} {w : World} {K : PySem.W.Frag} {mg : Str → Option Value} {base : Heap} {N : List Str} {qual : Str} {scope : Scope} {f : Addr} {cdv : Value} {A : Around} {outer : List Env} {s : Shared} {H : Hp} {a D' : Addr} {oe : Obj} {dd : Option Addr} {x : Str}
/-- the class at D, as far as isinstance and its instances' attributes go -/
structure XIs (K : PySem.W.Frag) (D : Addr) : Prop where
  c : (PySem.W.clsIn K D).isSome = true
  c2 : PySem.W.hasDictIn K D = true
  ga : PySem.W.findIn K (.ref D) "__getattribute__" = some (some (.builtin "BaseException.__getattribute__"))
  gg : PySem.W.findIn K (.ref D) "__getattr__" = some none
  sb : PySem.W.subIn K (.ref D) (.type "BaseException") = some true
  cl : PySem.W.findIn K (.ref D) "__class__" = some (some (.builtin "object.__class__"))
  sp : PySem.W.specialIn K (.builtin "object.__class__") "__get__" = some (some (.builtin "getset_descriptor.__get__"))
  tk : PySem.W.takesIn K (.builtin "object.__class__") = some true
  mr : PySem.W.mroIn K D (.type "object") = some true
theorem inst_pin {X : Cx} {pins : List (Addr × Obj)} {σ : L2.St} {H1 : Hp} {s1 : Shared} (I : Inv X pins σ H1 s1) (hp : (a, oe) ∈ X.pn) (hz : Zc (.ref D') dd oe) (hf : ∃ vs, oe.data = .fields vs) {d : Addr} (ed : dd = some d) {fs : List (Str × V)} (hd : H1 d = some (.xd fs)) :
    ∃ od, PySem.W.InstAt s1.heap a oe D' (some od) ∧ ∀ n v, fs.lookup n = some v → ∃ u, PySem.W.lookIn n od = some (some u) ∧ RelV v u := by
  obtain ⟨hget, _⟩ := I.pin (a, oe) (List.mem_append_left _ hp)
  obtain ⟨vs, hv⟩ := hf
  have hx : ObjOk X.prog X.w H1 s1.heap d (.xd fs) := I.hok d _ hd
  obtain ⟨mA, hns, hr⟩ := hx
  obtain ⟨od, ho, hl⟩ := lookIn_ns hns
  refine ⟨od, ⟨hget, hz.1, by unfold PySem.W.notCls; rw [hv] <;> rfl, by rw [hz.2, ed]; exact ho⟩, fun n v l => ?_⟩
  obtain ⟨u, hu, ru⟩ := RelO.some_of (v := v) (o := mA n) (by rw [← l]; exact hr n)
  exact ⟨u, by rw [hl, hu], ru⟩
end
end DL
/-! DL23: isinstance(e, C), e.f of the handled exception, in such a def; its promise over data. -/
namespace DL
open PySem PySem.Spec L2
open PyProof.Rows hiding St
/-- isinstance(e, c): c a class (of one's own or a built-in one) -/
def rIsX (K : PySem.W.Frag) (D a : Addr) (dd : Option Addr) : List V → Hp → VK → Prop := fun xs H Q => ∃ (c : V) (cv : Value) (b : Bool) (d : Addr) (fs : List (Str × V)), xs = [.ref a, c] ∧ XIs K D ∧ (∀ u, RelV c u → u = cv) ∧ PySem.W.kitOne K (.ref D) cv = some b ∧ dd = some d ∧ H d = some (.xd fs) ∧ Q (.bl b) H
theorem call_isX {X : Cx} {a D : Addr} {oe : Obj} {dd : Option Addr} (hp : (a, oe) ∈ X.pn) (hz : Zc (.ref D) dd oe) (hf : ∃ vs, oe.data = .fields vs) : CallR X (.builtin "isinstance") (rIsX X.K D a dd) := by
  intro pins s σ H xs us Q I r ⟨c, cv, b, d, fs, e, C, hcv, hk, ed, hd, q⟩
  subst e
  cases r with
  | cons rx rr =>
    cases rr with
    | cons rt rr =>
      cases rr
      cases rx
      have ec := hcv _ rt
      subst ec
      obtain ⟨od, J, _⟩ := inst_pin I hp hz hf ed hd
      exact PySem.W.kia_one (PySem.W.kitx_exc C.c C.ga C.gg C.sb C.cl C.sp C.tk C.mr) I.kIn J hk (fun z => nomatch z) fun tk => ⟨.bl b, H, I.kept (t' := tk) fun _ _ z => z, rfl, q⟩
/-- e.f -/
def tFldX (K : PySem.W.Frag) (D a : Addr) (dd : Option Addr) (f : Str) (te : TE) : TE := fun σ H Q => te σ H fun x H1 => x = .ref a ∧ XIs K D ∧ PySem.W.findIn K (.ref D) f = some none ∧ ∃ (d : Addr) (fs : List (Str × V)) (v : V), dd = some d ∧ H1 d = some (.xd fs) ∧ fs.lookup f = some v ∧ Q v H1
theorem pe_fldX {X : Cx} {a D : Addr} {oe : Obj} {dd : Option Addr} {e : Expr} {te : TE} {pos : Pos} {n : Str} (hp : (a, oe) ∈ X.pn) (hz : Zc (.ref D) dd oe) (hf : ∃ vs, oe.data = .fields vs) (he : PE X e te)
    (hb : attributeBase e n X.env (eval e X.env) = eval e X.env := by rfl) : PE X (.Attribute e n pos) (tFldX X.K D a dd n te) := by
  refine ⟨fun pins s σ H Q I h => attr_of hb (thn (he.run pins s σ H _ I h) fun u s1 ⟨x, H1, I1, rx, ex, C, hno, d, fs, v, ed, ea, l, q⟩ => ?_)⟩
  subst ex
  obtain rfl : u = Value.ref a := rx
  obtain ⟨od, J, hl⟩ := inst_pin I1 hp hz hf ed ea
  obtain ⟨u, hu, ru⟩ := hl n v l
  exact HandSPX.exc_get I1.kIn J C.ga C.gg C.sb (PySem.W.findObj_own C.c2 hno rfl hu) (handed_of ru) ⟨v, H1, I1.tok _, ru, q⟩
/-! ### over data -/
/-- the promise of such a def: of the exception's class and attributes -/
abbrev ESp := Exn → (D → Prop) → Prop
def liftE (K : PySem.W.Frag) (S : ESp) : Value → Option Addr → Hp → VK → Prop := fun cls dd H Q => ∃ (H0 : Hp) (x : Exn) (Φ : D → Prop), Ex H0 H ∧ cls = .ref x.C ∧ RepX K H0 H x dd ∧ S x Φ ∧ ∀ v d H0' H', Φ d → PX ⟨H, H0, []⟩ H0' H' → Rep K H0' v d → Q v H'
/-- a class in isinstance's second place -/
def clsV : D → Option Value
  | .raw (.ref a) => some (.ref a)
  | .raw (.ty T) => some (.type T)
  | _ => none
theorem clsV_rel {K : PySem.W.Frag} {H : Hp} {y : D} {cv : Value} {c : V} (h : clsV y = some cv) (r : Rep K H c y) : ∀ u, RelV c u → u = cv := by
  cases r with
  | raw =>
    cases c <;> simp [clsV] at h <;> subst h <;> intro u ru <;> exact ru
  | _ => simp [clsV] at h
def isXG (K : PySem.W.Frag) (D' a d : Addr) (ds : List D) (Φ : D → Prop) : Prop := ∃ fs y cv b, ds = [.exn a d fs, y] ∧ XIs K D' ∧ clsV y = some cv ∧ PySem.W.kitOne K (.ref D') cv = some b ∧ Φ (.bl b)
theorem cbd_isX {K : PySem.W.Frag} {D' a d : Addr} : CbD K (rIsX K D' a (some d)) (isXG K D' a d) := fun H0 H xs ds Φ Q e rx ⟨fs, y, cv, b, hd, hX, h1, h2, g⟩ k => by
  subst hd
  obtain ⟨v, c, rfl, r1, r2⟩ := vals_two rx
  cases r1 with
  | exn hp hr => exact ⟨c, cv, b, d, _, rfl, hX, clsV_rel h1 r2, h2, rfl, e _ _ hp, fin0 e g (.bl _) k⟩
theorem wE_fldX {w : Wx} {ρ : Env'} {Φ : D → Env' → Prop} {te : TE} {f : Str} {D' a d : Addr} (h : wE w te ρ fun dx ρ1 => XIs w.K D' ∧ PySem.W.findIn w.K (.ref D') f = some none ∧ ∃ fs y, dx = .exn a d fs ∧ fs.lookup f = some y ∧ Φ y ρ1) : wE w (tFldX w.K D' a (some d) f te) ρ Φ := fun c H0 H σ Q at' x k =>
  h c H0 H σ _ at' x fun v dx ρ1 H01 H1 ⟨hX, hno, fs, y, ed, hl, q⟩ a1 e1 r1 => by
    subst ed
    cases r1 with
    | exn hp hr =>
      obtain ⟨u, h1, r⟩ := hr.lookup hl
      exact ⟨rfl, hX, hno, d, _, u, rfl, a1.px.i _ _ hp, h1, k u y ρ1 H01 H1 q a1 e1 r⟩
/-- THE RULE for such a def -/
theorem fnX_ofE {P : Program} {w : World} {K : PySem.W.Frag} {mg : Str → Option Value} {base : Heap} {x qual p1 : Str} {st : Stmt} {f : Addr} {fd : FuncData} {N : List Str} {k : Nat} {S : ESp} (F : FunX K x qual st f fd) (Sc : FnScope N [p1] (defScope st))
    (hbody : ∀ (cdv : Value) (A : Around) (outer : List Env) (s : Shared) (H : Hp) (a d : Addr) (oe : Obj) (D' : Addr), Zc (.ref D') (some d) oe → (∃ vs, oe.data = .fields vs) → RoomE k (A.deeper (envOfC qual (defScope st) s.heap.objs.size f cdv)) →
      ∃ t, PSs (L2H.cxH (CXD P w) P w K mg base N qual (defScope st) f cdv A outer s H EN (a, oe)) (defBody st) t ∧ ∀ fs Φ, S ⟨D', fs⟩ Φ → wS ⟨K, EN, fun _ => False, []⟩ t { nx := fun _ => Φ .non, rt := fun d _ => Φ d } (startE N [.exn a d fs])) :
    FnE P w K mg base (k + 1) f fd p1 (liftE K S) := by
  obtain ⟨oc, od, dV, kV, doc, pm, an, cdv, ct, osl, rfl, lk, hcd⟩ := F.ex
  refine fnE_of lk hcd Sc fun A outer s H a oe cls dd Q hd room ⟨H0, y, Φ, e, ec, ⟨d, vs, ed, hx, rk⟩, q, kq⟩ => ?_
  subst ec ed
  obtain ⟨t, ht, hw⟩ := hbody cdv A outer s H a d oe y.C hd.z hd.f room
  exact ⟨t, ht, hw y.fs Φ q ⟨H, H0, []⟩ _ H0 H _ (at_start e (.cons (.exn hx rk) .nil)) ⟨rfl, fun _ h => h.elim⟩ ⟨fun ρ H0' H' σ z a => kq .non .non H0' H' z a.px .non, fun d v ρ H0' H' σ z a rv => kq v d H0' H' z a.px rv, fun _ _ _ _ _ _ _ z => z.elim, fun _ _ _ _ z => z.elim, fun _ _ _ _ z => z.elim⟩⟩
end DL
/-! DL24: try .. except (A, B, C) as e, all that is raised being caught. -/
namespace DL
open PySem PySem.Spec L2
open PyProof.Rows hiding St
theorem flying_kept {B h h' : Heap} {l : List Env} {e : Addr} {Z : Obj → Prop} (fl : HandSPX.FlyingZ B l e Z h) (k : ∀ b o, h.get? b = some o → h'.get? b = some o) : HandSPX.FlyingZ B l e Z h' := by
  obtain ⟨f1, f2, f3, oe, vs, T, oT, ts, he, hz, hd, h1, hnT, hTe, hT, hdT, h3⟩ := fl
  exact ⟨fun b o q => k _ _ (f1 b o q), f2, f3.of_keeps fun b o hb _ => ⟨o, k _ _ hb, rfl⟩, oe, vs, T, oT, ts, k _ _ he, hz, hd, h1, hnT, hTe, k _ _ hT, hdT, h3⟩
theorem upTo_kept {h h' : Heap} (k : ∀ b o, h.get? b = some o → h'.get? b = some o) : h.UpToSlots h' := fun b o e _ => ⟨o.slots, k b o e⟩
/-- what such a clause wishes of an exception of the body -/
def wAsT (K : PySem.W.Frag) (cs : List Value) (n i : Nat) (ts : Addr → Value → Option Addr → TS) (D : Ends) : WX := fun cls d σ H =>
  PySem.W.exmAny K cls cs = some true ∧ (σ.length = n → ∀ a, H a = none → ts a cls d { nx := fun σ' H' => D.nx (σ'.set i none) H', rt := D.rt, bk := fun σ' H' => D.bk (σ'.set i none) H', ct := fun σ' H' => D.ct (σ'.set i none) H' } (σ.set i (some (.ref a))) H)
section
variable {X : Cx} {x1 x2 x3 n : Str} {c1 c2 c3 : Value} {i kk : Nat} {body suite : List Stmt} {b₀ : Stmt} {p1 p2 p3 tp pos pos' : Pos} {tb : WX → TS} {ts : Addr → Value → Option Addr → TS}
theorem ps_try_asT (hs : X.stack = X.env :: X.outer) (hf : X.env.frame = some X.env.locals) (hN : X.N.Nodup) (hi : X.N[i]? = some n) (hln : X.env.kindOf n = some .local) (n1 : Names X x1 c1) (n2 : Names X x2 c2) (n3 : Names X x3 c3)
    (hb : ∀ (W : WX) (pn : List (Addr × Obj)) (xe : Value → Shared → Prop), Takes (X.tr pn xe) W → PassesOwn (model X.prog X.w) X.A X.env xe → PSs (X.tr pn xe) body (tb W))
    (hsu : ∀ (a : Addr) (oe : Obj) (cls : Value) (d : Option Addr) (pn : List (Addr × Obj)), Zc cls d oe → (∃ vs, oe.data = .fields vs) → PSs (X.suite a ((a, oe) :: pn)) (b₀ :: suite) (ts a cls d)) :
    PS X (.Try body [.ExceptHandler (some (.Tuple [.Name x1 p1, .Name x2 p2, .Name x3 p3] kk tp)) (some n) (b₀ :: suite) pos'] [] [] pos) (fun D σ H => tb (wAsT X.K [c1, c2, c3] X.N.length i ts D) D σ H) := by
  refine ⟨fun pins s σ H D I h => wpAny_Try_except ?_⟩
  have ok := I.ok
  have frames : X.A.frames = some (X.env :: X.outer) := by rw [ok.frames, hs]
  have run := (hb (wAsT X.K [c1, c2, c3] X.N.length i ts D) (X.pn ++ pins) (fun e s₁ => wpAny (model X.prog X.w) X.A (noteFrame e X.env) (fun _ s₂ => wpAny (model X.prog X.w) X.A (setFlight e none) (fun _ s₃ =>
    wpAny (model X.prog X.w) X.A (handleBy e X.env [.ExceptHandler (some (.Tuple [.Name x1 p1, .Name x2 p2, .Name x3 p3] kk tp)) (some n) (b₀ :: suite) pos']) (SP X pins D) X.xe s₃) X.xe s₂) X.xe s₁) (fun u s' xx => ?caught) PassesOwn.looking).run [] s σ H D (I.toTry _) h
  case caught =>
    obtain ⟨a, B, sI, pins', σ', H', cls, d, rfl, J', nb, up, sky, na, os, ag, hb1, hyes⟩ := xx
    have J : Inv X pins σ' H' sI := J'.ofTry ok
    have sky' : Sky B (X.env :: X.outer) a (Zc cls d) X.env.locals s'.heap := by rw [← hs]; exact sky
    show wpAny (model X.prog X.w) X.A (noteFrame (.ref a) X.env) _ _ _
    refine Sky.land Zc.steady frames hf sky' fun h3 fl3 up3 => ?_
    have J3 : Inv X pins σ' H' { s' with heap := h3 } := J.landed nb fl3.1 (up.trans up3) os ag
    obtain ⟨oe3, vs3, he3, hz3, hd3⟩ := fl3.there
    have away : a ∉ frs (X.env :: X.outer) := fun hm => by
      obtain ⟨_, o', e', hnf⟩ := fl3.2.2.1.mem hm
      rw [he3] at e'; cases e'
      exact hnf _ hd3
    have nL : a ≠ X.env.locals := fun z => away (List.mem_filterMap.mpr ⟨X.env, List.mem_cons_self, by rw [hf, z]⟩)
    have nF : a ∉ X.fs := fun hm => by
      obtain ⟨e, he, q⟩ := List.mem_filterMap.mp hm
      exact away (List.mem_filterMap.mpr ⟨e, List.mem_cons_of_mem _ he, q⟩)
    have S3 := J3.suite he3 hd3 na nL nF
    refine wpAny_handleBy_cons (codeAny_handlers_test ?_) (by intro q; cases q)
    have LT : PySem.W.Looks (model X.prog X.w) h3 (typeOf (.ref a)) cls := fun A Q E s k q => wpAny_typeOf_ref (k _ _ he3) (by rw [hz3.1]; exact q)
    have name : ∀ {x : Str} {c : Value} {np : Pos} {Q : Value → Shared → Prop} {E : Value → Shared → Prop}, Names X x c → Q c { s' with heap := h3 } → wpAny (model X.prog X.w) (X.A.mark (some (.ref a))) (eval (.Name x np) X.env) Q E { s' with heap := h3 } := fun {x c np Q E} hc q => by
      obtain ⟨hg, hdbg, hm⟩ := hc
      rcases hm with hm | ⟨hm, hv, hnn⟩
      · exact ld_glob (X := X.suite a ((a, oe3) :: (X.pn ++ pins))) S3 hg hm q hdbg
      · exact ld_blt (X := X.suite a ((a, oe3) :: (X.pn ++ pins))) S3 hg hm hv q hnn hdbg
    refine wpAny_Tuple (wpAny_items_cons (name n1 (wpAny_items_cons (name n2 (wpAny_items_cons (name n3 (wpAny_items_nil ⟨by size_fits, ?_⟩)))))))
    have kp : ∀ q o, h3.get? q = some o → (h3.push { cls := .type "tuple", data := .seq [c1, c2, c3].toArray }).get? q = some o := fun _ _ z => Heap.get?_push_of_some _ z
    refine (PySem.W.exm_tup3 (J3.kIn.keeps kp) (LT.keeps kp) (Heap.get?_push_size h3 rfl) hb1).here (codeAny_handlers_suite_as ?_)
    refine HandSPX.lands_againZ (flying_kept fl3 kp) fun h4 fl4 up4 => ?_
    have J4 : Inv X pins σ' H' { s' with heap := h4 } := J.landed nb fl4.1 ((up.trans up3).trans ((upTo_kept kp).trans up4)) os ag
    obtain ⟨oe4, vs4, he4, hz4, hd4⟩ := fl4.there
    have S4 := J4.suite he4 hd4 na nL nF
    refine store_ok (X := X.suite a ((a, oe4) :: (X.pn ++ pins))) (v := .ref a) S4 hN hi (.inl hln) rfl (fun s5 S5 => ?_) (.inr hln)
    refine wpAny_mono ((hsu a oe4 cls d (X.pn ++ pins) hz4 ⟨_, hd4⟩).run [] s5 _ H' _ S5 (hyes J.len a na)) (fun f s6 hsp => ?_) (fun _ _ z => False.elim z)
    have gone : ∀ {σ6 : L2.St} {H6 : Hp} {Q : Shared → Prop}, Inv (X.suite a ((a, oe4) :: (X.pn ++ pins))) [] σ6 H6 s6 → (∀ s7, Inv X pins (σ6.set i none) H6 s7 → Q s7) →
        wpAny (model X.prog X.w) X.A (do bindName X.env n .none; unbindBehindTheSuite X.env n pos') (fun _ s7 => Q s7) X.xe s6 := fun {σ6 H6 Q} S6 hq => gone_ok (S6.unsuite ok) hN hi hln hq
    rcases f with _ | _ | _ | u
    · obtain ⟨_, _, S6, q6⟩ := hsp; exact gone S6 fun s7 J7 => ⟨_, _, J7, q6⟩
    · obtain ⟨_, _, S6, q6⟩ := hsp; exact gone S6 fun s7 J7 => ⟨_, _, J7, q6⟩
    · obtain ⟨_, _, S6, q6⟩ := hsp; exact gone S6 fun s7 J7 => ⟨_, _, J7, q6⟩
    · obtain ⟨_, _, _, S6, r6, q6⟩ := hsp; exact gone S6 fun s7 J7 => ⟨_, _, _, J7, r6, q6⟩
  refine wpAny_mono run (fun f s1 hsp => ?_) fun e s1 he => he
  rcases f with _ | _ | _ | u
  · obtain ⟨σ', H', J', q⟩ := hsp; exact wpAny_execs_nil ⟨σ', H', J'.ofTry ok, q⟩
  · obtain ⟨σ', H', J', q⟩ := hsp; exact ⟨σ', H', J'.ofTry ok, q⟩
  · obtain ⟨σ', H', J', q⟩ := hsp; exact ⟨σ', H', J'.ofTry ok, q⟩
  · obtain ⟨v, σ', H', J', r, q⟩ := hsp; exact ⟨v, σ', H', J'.ofTry ok, r, q⟩
end
end DL
/-! DL25: a lambda without parameters, handed to a def that calls it. -/
namespace DL
open PySem PySem.Spec L2 LamX
open PyProof.Rows hiding St
section
variable {X : Cx} {pins : List (Addr × Obj)} {σ : L2.St} {H : Hp} {s : Shared}
abbrev lamQ (X : Cx) : Str := X.env.qual ++ "<lambda>"
/-- the lambda is made: what is known stays, tables grow -/
theorem lam_makeN {T : List (Addr × Str)} {c P : Addr} {params : Arguments} {body : Expr} {scope : Scope} {pos : Pos} {E : Value → Shared → Prop} {Q : Value → Shared → Prop} (I : Inv X pins σ H s) (TB : TabB X.base X.mg c P) (hcode : X.env.code = .ref c)
    (hm : (P, lamQ X) ∈ T) (hu : ∀ p ∈ T, p.1 = P → p.2 = lamQ X) (hT : Tabs T H) (hdef : defaultsOf params X.env = ([], [])) (hfree : ∀ y ∈ scope.names, y.2 = .free → ∃ c, X.env.cells.lookup y.1 = some c)
    (h : ∀ (f c' : Addr) (pm ctv : Value) (H1 : Hp) (s' : Shared), Inv X pins σ H1 s' → ExN T H H1 → (∀ b, H1 b = none → H b = none) → Tabs T H1 → (∀ H0 : Hp, Ex H0 H → (∀ p ∈ T, H0 p.1 = none) → Ex H0 H1) →
      s'.heap.get? f = some (PySem.W.kla_obj "<lambda>" (lamQ X) params body scope (cloFrom X.env.cells scope.names []) pm c' ctv) → H1 f = none → f ∉ frs X.stack → H1 c' = some (CodeO c' (lamQ X)) → Q (.ref f) s') :
    wpAny (model X.prog X.w) X.A (eval (.Lambda params body scope pos) X.env) Q E s := by
  have nT : T ≠ [] := List.ne_nil_of_mem hm
  refine PySem.W.kla_eval hdef ?_
  obtain ⟨ps, hP, ht, ha⟩ := hT _ hm
  have hP' : s.heap.get? P = some { cls := .none, data := .fields ps } := I.hok P _ hP
  have nofr : ∀ f, s.heap.objs.size ≤ f → f ∉ frs X.stack := fun f hf z => (List.mem_cons.mp (I.stkSub _ z)).elim (fun e => by
    have h1 := I.lt
    rw [← e] at h1
    exact Nat.lt_irrefl _ (Nat.lt_of_lt_of_le h1 hf)) fun e => I.nofs hf e
  have bP : s.heap.BuiltinsAt X.mg P := TB.bm.keeps I.bk
  cases hc : codeAmong pos ps.toList with
  | some cv =>
    obtain ⟨c', e, hco⟩ := ha pos cv hc
    subst e
    refine PySem.W.kla_makeFunctionHit (mg := X.mg) (c := c) (P := P) (ps := ps) (closure_ok hfree) I.ok.glob (I.mod.glob.keeps I.bk) hcode (TB.code.keeps I.bk) hP' ht hc bP fun ctv h' tk hx hsz => ?_
    have I1 := I.kept (t' := tk) (h' := h'.push (PySem.W.kla_obj "<lambda>" (lamQ X) params body scope (cloFrom X.env.cells scope.names []) ((X.mg "__name__").getD .none) c' ctv)) fun b o e => Heap.get?_push_of_some _ (hx b o e)
    exact h h'.objs.size c' _ ctv H _ I1 .refl (fun _ z => z) hT (fun _ e _ => e) (Heap.get?_push_size _ rfl) (I.hok.fresh hsz) (nofr _ hsz) hco
  | none =>
    refine PySem.W.kla_makeFunction (mg := X.mg) (c := c) (P := P) (ps := ps) (closure_ok hfree) I.ok.glob (I.mod.glob.keeps I.bk) hcode (TB.code.keeps I.bk) hP' ht hc TB.gP bP fun c' ctv h' tk hx hge hlt hrec htb => ?_
    obtain ⟨c2, oc, vs, t, e2, hoc, hd, hv⟩ := hrec
    cases e2
    have nC : H c' = none := I.hok.fresh hge
    have hsz : s.heap.objs.size ≤ h'.objs.size := Nat.le_trans hge (Nat.le_of_lt hlt)
    have I1 := inv_table (t' := tk) (q := lamQ X) (more := #[rawInt pos.line, rawInt pos.col, .ref c']) (h' := h'.push (PySem.W.kla_obj "<lambda>" (lamQ X) params body scope (cloFrom X.env.cells scope.names []) ((X.mg "__name__").getD .none) c' ctv)) I hP
      (fun b o hb e => Heap.get?_push_of_some _ (hx b o hb e)) (Heap.get?_push_of_some _ htb) hge ⟨oc, vs, t, Heap.get?_push_of_some _ hoc, hd, hv⟩
    generalize hH1 : upd (upd H P (.tbl (ps ++ #[rawInt pos.line, rawInt pos.col, .ref c']))) c' (CodeO c' (lamQ X)) = H1 at I1
    have atP : H1 P = some (.tbl (ps ++ #[rawInt pos.line, rawInt pos.col, .ref c'])) := by rw [← hH1, upd_ne (ne_of_none hP nC), upd_same]
    have atC : H1 c' = some (CodeO c' (lamQ X)) := by rw [← hH1, upd_same]
    have other : ∀ b, b ≠ P → b ≠ c' → H1 b = H b := fun b z1 z2 => by rw [← hH1, upd_ne z2, upd_ne z1]
    have keep : ∀ b o, H b = some o → b ≠ P → H1 b = some o := fun b o e z => by rw [other b z (ne_of_none e nC)]; exact e
    have notP : ∀ b o, H b = some o → (∀ qs, o ≠ .tbl qs) → b ≠ P := fun b o e n z => by
      rw [z, hP] at e
      exact n ps (Option.some.inj e).symm
    have eL : (ps ++ #[rawInt pos.line, rawInt pos.col, .ref c']).toList = ps.toList ++ [rawInt pos.line, rawInt pos.col, .ref c'] := by simp
    refine h h'.objs.size c' _ ctv H1 _ I1 (fun b o e => ?_) (fun b e => ?_) (fun p hp => ?_) (fun H0 e0 n0 b o e => ?_) (Heap.get?_push_size _ rfl) ?_ (nofr _ hsz) atC
    · by_cases hb : b = P
      · rw [hb, hP] at e
        cases e
        exact .inr ⟨nT, _, _, rfl, by rw [hb]; exact atP⟩
      · exact .inl (keep b o e hb)
    · have z1 : b ≠ P := fun z => by rw [z, atP] at e; cases e
      have z2 : b ≠ c' := fun z => by rw [z, atC] at e; cases e
      rw [← other b z1 z2]; exact e
    · by_cases hb : p.1 = P
      · rw [hu p hp hb, hb]
        refine ⟨_, atP, by rw [eL]; exact PySem.TriplesOk_snoc _ _ _ _ ht, fun p' cv hcv => ?_⟩
        rw [eL] at hcv
        rcases among_app _ ht hcv with z | z
        · obtain ⟨c0, e1, e2⟩ := ha p' cv z
          exact ⟨c0, e1, keep _ _ e2 (notP _ _ e2 codeO_ne)⟩
        · exact ⟨c', z, atC⟩
      · obtain ⟨ps', a1, a2, a3⟩ := hT p hp
        refine ⟨ps', keep _ _ a1 hb, a2, fun p' cv hcv => ?_⟩
        obtain ⟨c0, e1, e2⟩ := a3 p' cv hcv
        exact ⟨c0, e1, keep _ _ e2 (notP _ _ e2 codeO_ne)⟩
    · have hb : b ≠ P := fun z => by
        have := n0 _ hm
        rw [z] at e
        rw [show H0 P = none from this] at e
        cases e
      exact keep b o (e0 b o e) hb
    · have n1 : h'.objs.size ≠ c' := Nat.ne_of_gt hlt
      have n2 : h'.objs.size ≠ P := Nat.ne_of_gt (Nat.lt_of_lt_of_le (Heap.lt_size hP') hsz)
      rw [other _ n2 n1]
      exact I.hok.fresh hsz
/-- x(), in the def that got the lambda -/
theorem pe_actG {CXg : CXT} {Eg : XK} {Ng : List Str} {qg : Str} {sg : Scope} {g f c' : Addr} {cdg pm ctv : Value} {params : Arguments} {body : Expr} {scope : Scope} {k i : Nat} {a : Str} {pn : List (Addr × Obj)} {xe : Value → Shared → Prop} {W : WX} {E : XK} {tb : TE} {p1 p2 : Pos}
    (I : Inv X pins σ H s) (L : LamS X.env.scope scope) (hf : s.heap.get? f = some (PySem.W.kla_obj "<lambda>" (lamQ X) params body scope (cloFrom X.env.cells scope.names []) pm c' ctv)) (hfn : H f = none) (hfr : f ∉ frs X.stack)
    (hbind : bindArgs (PySem.W.kla_fn "<lambda>" (lamQ X) params body scope (cloFrom X.env.cells scope.names []) pm (.ref c') ctv) ⟨[], []⟩ = pure [])
    (tk : Takes ((cxOf CXg X.prog X.w X.K X.mg X.base Ng qg sg g cdg X.A X.stack s H Eg).tr pn xe) W) (hW : ∀ cls d σ' H', E cls d H' → W cls d σ' H') (room : RoomG (k + 1) (X.A.deeper (envOfC qg sg s.heap.objs.size g cdg)))
    (hbody : ∀ (A : Around) (outer : List Env) (s : Shared) (H : Hp), RoomG k (A.deeper (lamEnv X scope s.heap.objs.size f c')) → PE (lamCx X A outer s H E scope f c') body tb)
    (hN : Ng[i]? = some a) (hv : Vis sg a) (hd : (a == ("__debug__" : Str)) = false := by decide) (hcd : (a == ("__classdict__" : Str)) = false := by decide) :
    PE ((cxOf CXg X.prog X.w X.K X.mg X.base Ng qg sg g cdg X.A X.stack s H Eg).tr pn xe) (.Call (.Name a p1) [] [] p2)
      (fun σZ HZ Q => σZ[i]? = some (some (.ref f)) ∧ HZ c' = some (CodeO c' (lamQ X)) ∧ tb σ HZ Q) := by
  refine ⟨fun pinsZ sZ σZ HZ Q IZ ⟨hs, hc, ht⟩ => ?_⟩
  refine wpAny_Call_Name_kw (thn ((pe_var (pos := p1) (i := i) hN hv hd hcd).run pinsZ sZ σZ HZ (fun v H1 => v = .ref f ∧ H1 = HZ) IZ ⟨.ref f, hs, rfl, rfl⟩) fun u s1 ⟨v, H1, I1, r1, q1⟩ => ?_)
  obtain ⟨rfl, rfl⟩ := q1
  obtain rfl : u = Value.ref f := r1
  have of1 := I1.base.keep f _ hf hfn hfr (fun z => nomatch (show f ∈ ([] : List Addr) from z))
  refine PySem.W.callWith_F0 ⟨_, _, _, _, of1⟩ ?_
  have un : Un (frs X.stack) [] H H1 s.heap s1.heap := I1.base
  obtain ⟨⟨oc, vs, t, hoc, hdc, hvc⟩, _, _⟩ := I1.hok c' _ hc
  have rc : codeAny (model X.prog X.w) (X.A.deeper (envOfC qg sg s.heap.objs.size g cdg)) (.call (.ref f) ⟨[], []⟩) (CR (CXD X.prog X.w) (envOfC qg sg s.heap.objs.size g cdg :: X.stack) X.prog X.w H1 s1 Q E) s1 := by
    refine PySem.W.kla_callFunE room.r.depth of1 rfl L.co L.gen rfl ⟨c', oc, vs, t, rfl, hoc, hdc, hvc⟩ ?_
    rw [hbind]
    refine wpAny_pure (wpAny_newFunctionEnv (fun y hy => (L.own y hy).2) (fun y hy => absurd hy (by simp)) (fun h₁ hns hsb => ⟨I1.nolimit.fresh _ hsb, ?_⟩) L.kind)
    show codeAny _ _ (.expr body (lamEnv X scope s1.heap.objs.size f c')) _ _
    have kp : ∀ b o, s1.heap.get? b = some o → h₁.get? b = some o := fun b o e => hsb.extBut b o (Nat.ne_of_lt (Heap.lt_size e)) (Heap.get?_push_of_some _ e)
    have J := lam_start2 (A := X.A.deeper (envOfC qg sg s.heap.objs.size g cdg)) (outer := envOfC qg sg s.heap.objs.size g cdg :: X.stack) (E := E) (f := f) (c' := c') (tk := s1.toks + ([] : List (Str × Value)).length) I L I1.env0 room.r.hd un hns kp
    refine PySem.W.kla_codeExpr (wpAny_mono ((hbody _ _ s1 H1 (room.deeper _)).run [] _ _ H1 Q J ht) (fun v s' hq => ?_) fun e s' hq => hq)
    obtain ⟨w', H', J', rv, q⟩ := hq
    exact ⟨w', H', J'.os, J'.bare, J'.base, J'.hok, rv, q⟩
  have hx : Passes (CXD X.prog X.w) ((cxOf CXg X.prog X.w X.K X.mg X.base Ng qg sg g cdg X.A X.stack s H Eg).tr pn xe) E := passes_call tk hW
  refine wpAny_call (codeAny_mono rc fun r s' hq => ?_)
  rcases r with e | fl
  · exact hx pinsZ σZ H1 s1 e s' I1 hq
  · rcases fl with _ | _ | _ | u
    · exact False.elim hq
    · exact False.elim hq
    · exact False.elim hq
    · exact I1.after hq
end
end DL
/-! DL29: a call with a lambda; the def that calls it and tells the error. -/
namespace DL
open PySem PySem.Spec L2 LamX
open PyProof.Rows hiding St
/-- what a lambda's making leaves -/
structure TabGrow (T : List (Addr × Str)) (H H1 : Hp) : Prop where
  e : ExN T H H1
  n : ∀ b, H1 b = none → H b = none
  t : Tabs T H1
  x : ∀ H0 : Hp, Ex H0 H → (∀ p ∈ T, H0 p.1 = none) → Ex H0 H1
/-- the def at g, what it makes of the lambda that it is handed -/
def GivesG (X : Cx) (k : Nat) (Ng : List Str) (x : Str) (sg : Scope) (g : Addr) (cdg : Value) (bg : List Stmt) (a q : Str) (TT : (XK → Hp → VK → Prop) → Hp → VK → Prop) : Prop :=
  ∀ (f c' : Addr) (s : Shared) (H : Hp) (Q : VK) (tl : XK → Hp → VK → Prop), RoomG (k + 1) (X.A.deeper (envOfC x sg s.heap.objs.size g cdg)) →
    (∀ (W : WX) (pn : List (Addr × Obj)) (xe : Value → Shared → Prop) (E : XK) (p1 p2 : Pos), Takes ((cxOf (CXD X.prog X.w) X.prog X.w X.K X.mg X.base Ng x sg g cdg X.A X.stack s H EN).tr pn xe) W → (∀ cls d σ' H', E cls d H' → W cls d σ' H') →
      PE ((cxOf (CXD X.prog X.w) X.prog X.w X.K X.mg X.base Ng x sg g cdg X.A X.stack s H EN).tr pn xe) (.Call (.Name a p1) [] [] p2) (fun σZ HZ Q => σZ[0]? = some (some (.ref f)) ∧ HZ c' = some (CodeO c' q) ∧ tl E HZ Q)) →
    H c' = some (CodeO c' q) → TT tl H Q →
    ∃ t, PSs (cxOf (CXD X.prog X.w) X.prog X.w X.K X.mg X.base Ng x sg g cdg X.A X.stack s H EN) bg t ∧ t { nx := fun _ H' => Q .non H', rt := Q } (L2.start Ng [.ref f]) H
def tLamG (T : List (Addr × Str)) (TT : (XK → Hp → VK → Prop) → Hp → VK → Prop) (t : XK → TE) : TE := fun σ H Q => Tabs T H ∧ ∀ H1, TabGrow T H H1 → TT (fun E H' Q' => t E σ H' Q') H1 Q
section
variable {X : Cx}
theorem _root_.L2.PE.weak {e : Expr} {te : TE} (h : PE X e te) : PE X e (fun σ H Q => ∃ Q0 : VK, te σ H Q0 ∧ ∀ v H', Q0 v H' → Q v H') :=
  ⟨fun pins s σ H Q I ⟨Q0, q, k⟩ => wpAny_mono (h.run pins s σ H Q0 I q) (fun u s1 ⟨v, H1, J, r, z⟩ => ⟨v, H1, J, r, k v H1 z⟩) fun _ _ z => z⟩
theorem pe_lamcallG {T : List (Addr × Str)} {TT : (XK → Hp → VK → Prop) → Hp → VK → Prop} {x a : Str} {g c P : Addr} {j k : Nat} {pg : Arguments} {bg : List Stmt} {sg : Scope} {dV kV doc pm cdv ct oc : Value} {an od : Option Addr} {osl : Array (Option Value)} {Ng : List Str}
    {params : Arguments} {body : Expr} {scope : Scope} {t : XK → TE} {p lpos pos : Pos} (hg : Gl X x) (hm : X.mg x = some (.ref g)) (hk : PySem.W.keepIn X.K (.ref g) = true)
    (lk : X.K.lookup g = some ⟨oc, od, .func (PySem.W.fnOf x x pg bg sg dV kV doc pm an cdv ct), osl⟩) (hcg : PySem.W.codeIn X.K cdv x = true) (hb : L2.Binds X.K (PySem.W.fnOf x x pg bg sg dV kV doc pm an cdv ct) [a] []) (Sg : FnScope Ng [a] sg) (hNg : Ng[0]? = some a) (hva : Vis sg a)
    (hG : GivesG X k Ng x sg g cdv bg a (lamQ X) TT) (TB : TabB X.base X.mg c P) (hcode : X.env.code = .ref c) (hmT : (P, lamQ X) ∈ T) (hu : ∀ p ∈ T, p.1 = P → p.2 = lamQ X) (room : RoomG j X.A) (hj : k + 2 ≤ j) (L : LamS X.env.scope scope) (hdef : defaultsOf params X.env = ([], []))
    (hbind : ∀ (q : Str) (cl : List (Str × Addr)) (pm cv ctv : Value), bindArgs (PySem.W.kla_fn "<lambda>" q params body scope cl pm cv ctv) ⟨[], []⟩ = pure [])
    (hbody : ∀ (A : Around) (outer : List Env) (s : Shared) (H : Hp) (E : XK) (f c' : Addr), RoomG k (A.deeper (lamEnv X scope s.heap.objs.size f c')) → PE (lamCx X A outer s H E scope f c') body (t E))
    (hdb : (x == ("__debug__" : Str)) = false := by decide) (hd : (a == ("__debug__" : Str)) = false := by decide) (hcd : (a == ("__classdict__" : Str)) = false := by decide) :
    PE X (.Call (.Name x p) [.Lambda params body scope lpos] [] pos) (tLamG T TT t) := by
  refine ⟨fun pins s σ H Q I ⟨hT, h⟩ => ?_⟩
  have room2 := room.mono hj
  refine wpAny_Call_Name_kw (ld_glob I hg hm (PySem.W.callWith_K (h₀ := X.base) I.ok.mod.kin hk ?_ (by rfl) (by rfl)) hdb)
  show wpAny _ _ (spliced ((false, eval (.Lambda params body scope lpos) X.env) :: backTo pos (starEach [] X.env))) _ _ s
  refine Calls.spliced_cons (lam_makeN I TB hcode hmT hu hT hdef (L.has I.ok) fun f c' pm' ctv H1 s' I1 e1 n1 T1 x1 hf hfn hfr hco => Calls.spliced_nil ⟨I1.kIn, ?_⟩)
  have run : codeAny (model X.prog X.w) X.A (.call (.ref g) ⟨[.ref f], []⟩) (CR (CXD X.prog X.w) X.stack X.prog X.w H1 s' Q EN) s' :=
    run_ofS (N := Ng) (ps := [a]) (us := [.ref f]) (vs := [.ref f]) lk hcg Sg room2.r I1.env0 (hb s' [.ref f] I1.kIn rfl) (.cons rfl .nil) rfl fun r2 =>
      hG f c' s' H1 Q (fun E H' Q' => t E σ H' Q') ⟨r2, room.g⟩ (fun W pn xe E p1 p2 tk hW => pe_actG (i := 0) I1 L hf hfn hfr (hbind _ _ _ _ _) tk hW ⟨r2, room.g⟩ (fun A outer s H r3 => hbody A outer s H E f c' r3) hNg hva hd hcd) hco (h H1 ⟨e1, n1, T1, x1⟩)
  refine wpAny_call (codeAny_mono run fun r s2 z => ?_)
  rcases r with er | fl
  · obtain ⟨_, _, _, _, _, _, _, _, _, _, _, _, z⟩ := z; exact z.elim
  · rcases fl with _ | _ | _ | u
    · exact z.elim
    · exact z.elim
    · exact z.elim
    · exact I1.after z
/-- got = a(); else the error's telling -/
def TTans (K : PySem.W.Frag) (cs : List Value) (sp : Value → Option Addr → Hp → VK → Prop) : (XK → Hp → VK → Prop) → Hp → VK → Prop := fun tl H Q =>
  tl (fun cls d H' => PySem.W.exmAny K cls cs = some true ∧ sp cls d H' Q) H (fun v H' => ∀ p, H' p = none → Q (.ref p) (upd H' p (.lst [.str "back", v])))
theorem answer_gives {k kk j2 : Nat} {x a got n srt q x1 x2 x3 : Str} {c1 c2 c3 : Value} {sg : Scope} {g fS : Addr} {fdS : FuncData} {pS : Str} {sp : Value → Option Addr → Hp → VK → Prop} {cdg : Value} {p1 p2 p3 p4 q1 q2 q3 tp hp r1 r2 r3 r4 r5 r6 r7 r8 tp2 : Pos}
    (FS : FnE X.prog X.w X.K X.mg X.base k fS fdS pS sp) (hmS : X.mg srt = some (.ref fS)) (hkS : PySem.W.keepIn X.K (.ref fS) = true) (hbS : Binds X.K fdS [pS] []) (hglS : sg.names.lookup srt = some .globalImplicit) (hdS : (srt == ("__debug__" : Str)) = false)
    (nd : ([a, got, n] : List Str).Nodup) (hg1 : sg.names.lookup got = some .local) (hg2 : sg.names.lookup n = some .local)
    (n1 : sg.names.lookup x1 = some .globalImplicit ∧ (x1 == ("__debug__" : Str)) = false ∧ X.mg x1 = some c1) (n2 : sg.names.lookup x2 = some .globalImplicit ∧ (x2 == ("__debug__" : Str)) = false ∧ X.mg x2 = some c2) (n3 : sg.names.lookup x3 = some .globalImplicit ∧ (x3 == ("__debug__" : Str)) = false ∧ X.mg x3 = some c3)
    (dg : (got == ("__debug__" : Str)) = false ∧ (got == ("__classdict__" : Str)) = false) (dn : (n == ("__debug__" : Str)) = false ∧ (n == ("__classdict__" : Str)) = false) (kd : sg.kind = .function) :
    GivesG X k [a, got, n] x sg g cdg [.Try [.Assign [.Name got p1] (.Call (.Name a p2) [] [] p3) p4] [.ExceptHandler (some (.Tuple [.Name x1 q1, .Name x2 q2, .Name x3 q3] kk tp)) (some n) [.Return (some (.Call (.Name srt r1) [.Name n r2] [] r3)) r4] hp] [] [] tp2, .Return (some (.List [.Constant (.str "back") j2 r5, .Name got r6] r7)) r8] a q (TTans X.K [c1, c2, c3] sp) := by
  intro f c' s H Q tl room act hc h
  refine ⟨_, pss_cons (ps_try_asT (X := cxOf (CXD X.prog X.w) X.prog X.w X.K X.mg X.base [a, got, n] x sg g cdg X.A X.stack s H EN) (i := 2) (c1 := c1) (c2 := c2) (c3 := c3) (tb := fun W D σ H => ∃ Ech : XK, (∀ cls d σ' H', Ech cls d H' → W cls d σ' H') ∧ tAsg (fun σZ HZ Q => ∃ Q0 : VK, (σZ[0]? = some (some (V.ref f)) ∧ HZ c' = some (CodeO c' q) ∧ tl Ech HZ Q0) ∧ ∀ v H', Q0 v H' → Q v H') (gName 1) D σ H)
      (ts := fun a' cls d => tRet (tSort X.K a' cls d sp (tCons (tVar 2) tNil))) rfl rfl nd rfl hg2 ⟨n1.1, n1.2.1, .inl n1.2.2⟩ ⟨n2.1, n2.2.1, .inl n2.2.2⟩ ⟨n3.1, n3.2.1, .inl n3.2.2⟩ (fun W pn xe tk _ => ?hb) (fun a' oe cls d pn hz hv => ?hsu)) (pss_one (ps_ret (pe_lst (pa_cons pe_str (pa_cons (pe_var (i := 1) rfl (.inl hg1) dg.1 dg.2) pa_nil))))), ?fin⟩
  case hb =>
    refine ⟨fun pins s' σ H' D I ⟨Ech, hW, h'⟩ => ?_⟩
    exact (pss_one (ps_set (i := 1) nd rfl (.inl hg1) (act W pn xe Ech p2 p3 tk hW).weak)).run pins s' σ H' D I h'
  case hsu =>
    have pv2 : PA ((cxOf (CXD X.prog X.w) X.prog X.w X.K X.mg X.base [a, got, n] x sg g cdg X.A X.stack s H EN).suite a' ((a', oe) :: pn)) [.Name n r2] (tCons (tVar 2) tNil) := pa_cons (pe_var (i := 2) rfl (.inl hg2) dn.1 dn.2) pa_nil
    exact pss_one (ps_ret (pe_sort FS (j := k) ⟨⟨(room.r.mono (Nat.le_succ k)).dp, (room.r.mono (Nat.le_succ k)).un⟩, room.g⟩ (Nat.le_refl _) hz hv hmS hkS hbS pv2 hglS hdS))
  case fin =>
    refine ⟨fun cls d H' => PySem.W.exmAny X.K cls [c1, c2, c3] = some true ∧ sp cls d H' Q, fun cls d σ' H' ⟨e1, e2⟩ => ⟨e1, fun hl b hb => ?_⟩, _, ⟨rfl, hc, h⟩, fun v H' hq => ?_⟩
    · have l3 : σ'.length = 3 := hl
      exact ⟨.ref b, by rw [List.getElem?_set_self (by rw [l3]; decide)], rfl, e2⟩
    · exact ⟨v, rfl, (show 2 ≤ sizeLine by decide), hq⟩
end
end DL
/-! DL30: the same over data. -/
namespace DL
open PySem PySem.Spec L2 LamX
open PyProof.Rows hiding St
section
variable {w : Wx} {ρ : Env'} {Φ : D → Env' → Prop}
theorem tabs_of {T : List (Addr × Str)} {H0 H : Hp} (t : TabA T H0 H) : Tabs T H := fun p hp => (t p hp).1
/-- _law_answer(lambda: e) -/
theorem wE_ans {S : ESp} {cs : List Value} {t : XK → TE} (h : ∀ EX, wE ⟨w.K, EX, fun x => PySem.W.exmAny w.K (.ref x.C) cs = some true ∧ S x (fun d => Φ d ρ), []⟩ (t EX) (hide ρ) fun d _ => Φ (.lst [.str "back", d]) ρ) :
    wE w (tLamG w.T (TTans w.K cs (liftE w.K S)) t) ρ Φ := fun c H0 H σ Q a x k => by
  have tb : TabA w.T H0 H := x.t ▸ a.tab
  refine ⟨tabs_of tb, fun H1 g => ?_⟩
  have y1 : PX ⟨H, H0, w.T⟩ H0 H1 := ⟨g.e, .refl _, g.x H0 a.px.i fun p hp => (tb p hp).2, fun p _ h => h⟩
  have tb1 : TabA w.T H0 H1 := fun p hp => ⟨g.t p hp, (tb p hp).2⟩
  have a1 : At w.K c ρ H0 H1 σ := by
    have := y1
    rw [← x.t] at this tb1
    exact a.goT this tb1
  have back : ∀ {v d H0' H'}, Φ d ρ → PX ⟨H1, H0, []⟩ H0' H' → Rep w.K H0' v d → Q v H' := fun {v d H0' H'} hΦ p r => k v d ρ H0' H' hΦ (a1.go p) p.e0 r
  refine h _ ⟨H1, H0, []⟩ H0 H1 σ _ a1.fresh ⟨rfl, fun y ⟨hy, hS⟩ dd H0' H' p rx => ⟨hy, H0', y, fun d => Φ d ρ, p.i, rfl, rx, hS, fun v d H0'' H'' hΦ p2 r => back hΦ (p.trans p2) r⟩⟩ fun v d ρ' H0' H' hΦ a2 e2 r p hp => ?_
  have y2 : PX ⟨H', H0', []⟩ (upd H0' p (.lst [.str "back", v])) (upd H' p (.lst [.str "back", v])) := (PX.refl a2.px.i).new hp
  exact back hΦ (a2.px.trans y2) (.lst upd_same (.cons (.str _) (.cons (r.mono y2.e0) .nil)))
end
end DL
/-! DL31: the def that tells the error: its rules. -/
namespace DL
open PySem PySem.Spec L2 LamX
open PyProof.Rows hiding St
theorem hu64E {k : Nat} {A : Around} (r : RoomE k A) : A.units + 64 < cLine := by have := r.r.un; omega
theorem hu65E {k : Nat} {A : Around} (r : RoomE k A) : A.units + 65 < cLine := by have := r.r.un; omega
/-- list.count(b) of a list of True and False -/
def rCntB (K : PySem.W.Frag) : V → List V → Hp → VK → Prop := fun x xs H Q => ∃ (p : Addr) (bs : List Bool) (c : Bool), x = .ref p ∧ xs = [.bl c] ∧ SqL K H p (bs.map V.bl) ∧ Q (.int (bs.count c : Nat)) H
def eqb (c : Bool) : Value → Bool := fun v => match v with | .bool b => b == c | _ => false
theorem bools_of : ∀ {bs : List Bool} {us : List Value}, Vals (bs.map V.bl) us → us = bs.map Value.bool
  | [], _, r => by cases r; rfl
  | b :: bs, _, r => by
    cases r with
    | cons h t =>
      rw [bools_of t]
      cases (show _ = Value.bool b from h)
      rfl
theorem mt_bcount {X : Cx} : MtR X "list.count" (rCntB X.K) := by
  intro pins s σ H x xs v us Q I rx rxs h
  obtain ⟨p, bs, c, rfl, rfl, hs, q⟩ := h
  cases rx
  obtain ⟨u, rfl, ru⟩ := rxs.one
  obtain rfl : u = Value.bool c := ru
  obtain ⟨its, rv, ⟨⟨cls, dd, data, sl⟩, n, ho, hc, hdn, hd⟩, hlen⟩ := I.list hs
  simp only at hc hd
  subst hc hd
  have hi := bools_of rv
  refine call_meets PySem.F.slot_list_count ⟨_, ho, rfl⟩ PySem.F.entry_list_count (PySem.F.args_list_count_2 _ _)
    (SeqAt.list_countAt p its.toArray n dd sl (.bool c) (eqb c)) ⟨ho, fun y hy => ?_, ?_⟩
  · have hy : y ∈ its := by simpa using hy
    rw [hi] at hy
    obtain ⟨b, _, rfl⟩ := List.mem_map.mp hy
    have := eqAt_V (A := X.A.in1) (s := s) (y := V.bl b) (x := V.bl c) (u := Value.bool b) (v := Value.bool c) rfl rfl rfl rfl
    have e : eqV (V.bl b) (V.bl c) = eqb c (Value.bool b) := by cases b <;> cases c <;> rfl
    rw [e] at this
    exact this
  · have ec : its.toArray.toList.countP (eqb c) = bs.count c := by
      rw [List.toList_toArray, hi, List.countP_map]
      unfold List.count
      congr 1
    refine ⟨.int (bs.count c : Nat), H, I.tok _, ⟨s.toks, ?_⟩, q⟩
    show Value.int ((its.toArray.toList.countP (eqb c) : Nat) : Int) s.toks = Value.int ((bs.count c : Nat) : Int) s.toks
    rw [ec]
section
variable {X : Cx} (K : PySem.W.Frag) {j : Nat}
theorem k_eqE (room : RoomE j X.A) (h : X.K = K := by rfl) : OpR X (compareOp .Eq) (rEqA K) := h ▸ OpR.or op_eq (op_eqD (hu64E room))
theorem k_isX {a D : Addr} {oe : Obj} {dd : Option Addr} (hz : Zc (.ref D) dd oe) (hf : ∃ vs, oe.data = .fields vs) (hp : (a, oe) ∈ X.pn) (h : X.K = K := by rfl) : CallR X (.builtin "isinstance") (rIsX K D a dd) := h ▸ call_isX hp hz hf
theorem k_fldX {a D : Addr} {oe : Obj} {dd : Option Addr} {e : Expr} {te : TE} {pos : Pos} {n : Str} (hz : Zc (.ref D) dd oe) (hf : ∃ vs, oe.data = .fields vs) (hp : (a, oe) ∈ X.pn) (he : PE X e te)
    (hb : attributeBase e n X.env (eval e X.env) = eval e X.env := by rfl) (h : X.K = K := by rfl) : PE X (.Attribute e n pos) (tFldX K D a dd n te) := h ▸ pe_fldX hp hz hf he hb
theorem k_count (h : X.K = K := by rfl) : MtR X "list.count" (rCntB K) := h ▸ mt_bcount
end
def cntG (x : D) (ds : List D) (Φ : D → Prop) : Prop := ∃ (bs : List Bool) (c : Bool), x = .lst (bs.map D.bl) ∧ ds = [.bl c] ∧ Φ (.int (bs.count c : Nat))
theorem rep_bls {K : PySem.W.Frag} {H : Hp} : ∀ {bs : List Bool} {vs : List V}, RepAll K H vs (bs.map D.bl) → vs = bs.map V.bl
  | [], _, r => by cases r; rfl
  | b :: bs, _, r => by
    cases r with
    | cons h t => cases h; rw [rep_bls t]; rfl
theorem mtd_count {K : PySem.W.Frag} : MtD K (rCntB K) cntG := fun H0 H x xs dx ds Φ Q e rx rs ⟨bs, c, hx, hd, g⟩ k => by
  subst hx hd
  obtain ⟨v, rfl, r⟩ := vals_one rs
  cases r
  cases rx with
  | lst h hr => exact ⟨_, bs, c, rfl, rfl, .inl (.inl (by rw [← rep_bls hr]; exact e _ _ h)), fin0 e g (.int _) k⟩
end DL
/-! DL26: == and != where one side is an object with an own __eq__. -/
namespace DL
open PySem PySem.Spec L2
open PyProof.Rows hiding St
/-! ### at the heap's level -/
def kinds : List String := ["NoneType", "bool", "int", "str", "tuple", "list", "dict"]
/-- plain data's type -/
inductive BuiV (K : PySem.W.Frag) (H : Hp) : V → String → Prop
  | non : BuiV K H .non "NoneType"
  | bl (b : Bool) : BuiV K H (.bl b) "bool"
  | int (i : Int) : BuiV K H (.int i) "int"
  | str (x : Str) : BuiV K H (.str x) "str"
  | lst {a : Addr} {xs : List V} (h : SqL K H a xs) : BuiV K H (.ref a) "list"
  | tup {a : Addr} {xs : List V} (h : SqT K H a xs) : BuiV K H (.ref a) "tuple"
  | dic {a : Addr} {xs : List (Key × V)} (h : H a = some (.dK xs)) : BuiV K H (.ref a) "dict"
theorem BuiV.kind {K : PySem.W.Frag} {H : Hp} {x : V} {T : String} (h : BuiV K H x T) : T ∈ kinds := by
  cases h <;> simp [kinds]
section
variable {X : Cx} {pins : List (Addr × Obj)} {σ : St} {H : Hp} {s : Shared} {x : V} {u : Value} {T : String} {A : Around}
end
end DL
/-! DL27: in a list, by the own __eq__; the same at the level of data. -/
namespace DL
open PySem PySem.Spec L2
open PyProof.Rows hiding St
/-! ### at the level of data -/
def D.bui : D → Bool
  | .non | .bl _ | .int _ | .str _ | .tup _ | .lst _ | .dic _ | .scr _ => true
  | _ => false
theorem buiV_of {K : PySem.W.Frag} {H0 H : Hp} (e : Ex H0 H) {v : V} {d : D} (r : Rep K H0 v d) (h : d.bui = true) : ∃ T, BuiV K H v T := by
  cases r with
  | non => exact ⟨_, .non⟩
  | bl b => exact ⟨_, .bl b⟩
  | int i => exact ⟨_, .int i⟩
  | str x => exact ⟨_, .str x⟩
  | tup hs _ => exact ⟨_, .tup (sqT_ex e hs)⟩
  | lst hs _ => exact ⟨_, .lst (.inl (.inl (e _ _ hs)))⟩
  | dic hs _ => exact ⟨_, .dic (e _ _ hs)⟩
  | scr hs => exact ⟨_, .lst (sqL_ex e hs)⟩
  | _ => simp [D.bui] at h
end DL
/-! DL28: t[::-1] of a tuple; small dict displays; isinstance of an own class. -/
namespace DL
open PySem PySem.Spec L2
open PyProof.Rows hiding St
section
open HT
variable {prog : Program} {w : World} {A : Around} {E : Value → Shared → Prop} {s : Shared}
theorem rev_at (n : Nat) : Builtin.Slice.sliceAdjust none none (-1) (n : Int) = ((n : Int) - 1, -1) := rfl
theorem rev_places (n : Nat) : Builtin.Slice.slicePlaces ((n : Int) - 1) (-1) (-1) = n := by
  unfold Builtin.Slice.slicePlaces
  rw [if_neg (by decide)]
  by_cases h : n = 0
  · subst h; rfl
  · rw [if_pos (by omega)]
    have : ((n : Int) - 1 - -1 - 1) / - -1 = (n : Int) - 1 := by
      rw [show (- -1 : Int) = 1 from rfl, Int.ediv_one]
      omega
    rw [this]
    omega
theorem fm_congr {α β : Type} {f g : α → Option β} : ∀ (l : List α), (∀ a ∈ l, f a = g a) → l.filterMap f = l.filterMap g
  | [], _ => rfl
  | a :: l, h => by rw [List.filterMap_cons, List.filterMap_cons, h a List.mem_cons_self, fm_congr l fun b hb => h b (List.mem_cons_of_mem _ hb)]
theorem pick_rev (xs : Array Value) : ((List.range xs.size).filterMap fun (k : Nat) => xs[((xs.size : Int) - 1 + (k : Int) * -1).toNat]?).toArray = xs.toList.reverse.toArray := by
  have e : ∀ k ∈ List.range xs.size, (xs[((xs.size : Int) - 1 + (k : Int) * -1).toNat]?) = xs.toList.reverse[k]? := fun k hk => by
    have hk := List.mem_range.mp hk
    have : ((xs.size : Int) - 1 + (k : Int) * -1).toNat = xs.size - 1 - k := by omega
    rw [this, List.getElem?_reverse (by simpa using hk)]
    simp
  have h2 : ((List.range xs.size).filterMap fun (k : Nat) => xs[((xs.size : Int) - 1 + (k : Int) * -1).toNat]?) = (List.range xs.size).filterMap fun (k : Nat) => xs.toList.reverse[k]? := by
    exact fm_congr _ e
  rw [h2]
  congr 1
  have h3 : ∀ (l : List Value), (List.range l.length).filterMap (fun k => l[k]?) = l := fun l => by
    induction l with
    | nil => rfl
    | cons a l ih =>
      rw [List.length_cons, List.range_succ_eq_map, List.filterMap_cons]
      show a :: _ = _
      rw [List.filterMap_map]
      exact congrArg (a :: ·) ih
  have := h3 xs.toList.reverse
  rw [List.length_reverse, Array.length_toList] at this
  exact this
theorem sliceApplied_rev {sl : Addr} {vl vu vs : Value} {n : Nat} {Q : Int × Int × Nat → Shared → Prop} (hs : s.heap.IsSliceOf sl vl vu vs) (pl : IsPart vl none) (pu : IsPart vu none) (ps : IsPart vs (some (-1)))
    (h : Q ((n : Int) - 1, -1, n) s) : wpAny (model prog w) A (Builtin.Slice.sliceApplied (.ref sl) (pure (n : Int))) Q E s := by
  obtain ⟨os, hos, hcs, hds⟩ := id hs
  unfold Builtin.Slice.sliceApplied Builtin.Slice.sliceFields
  refine wpAny_bind (wpAny_bind (wpAny_field hos hds (x := vl) rfl (wpAny_bind (wpAny_field hos hds (x := vu) rfl (wpAny_bind (wpAny_field hos hds (x := vs) rfl (wpAny_pure ?_)))))))
  refine wpAny_bind (slicePart_ ps ?_)
  show wpAny _ _ (if ((-1 : Int) == 0) = true then _ else _) _ _ s
  rw [if_neg (by decide)]
  refine wpAny_bind (slicePart_ pl (wpAny_bind (slicePart_ pu (wpAny_bind (wpAny_pure ?_)))))
  show wpAny _ _ (match Builtin.Slice.sliceAdjust none none (-1) (n : Int) with | (lo, hi) => pure (lo, (-1 : Int), Builtin.Slice.slicePlaces lo hi (-1))) _ _ s
  rw [rev_at n]
  show wpAny _ _ (pure ((n : Int) - 1, (-1 : Int), Builtin.Slice.slicePlaces ((n : Int) - 1) (-1) (-1))) _ _ s
  rw [rev_places]
  exact wpAny_pure h
theorem getItem_tuple_rev {t sl : Addr} {items : Array Value} {vl vu vs : Value} {Q : Value → Shared → Prop} (ht : IsTup s.heap t items) (hs : s.heap.IsSliceOf sl vl vu vs) (pl : IsPart vl none) (pu : IsPart vu none) (ps : IsPart vs (some (-1)))
    (h : Q (.ref s.heap.objs.size) { s with heap := s.heap.push { cls := .type "tuple", data := .seq items.toList.reverse.toArray } })
    (hsz : items.size ≤ sizeLine) : wpAny (model prog w) A (getItem (.ref t) (.ref sl)) Q E s := by
  have htake : sizeOk (.seq items.toList.reverse.toArray) := by
    show items.toList.reverse.toArray.size ≤ sizeLine
    rw [List.size_toArray, List.length_reverse, Array.length_toList]
    exact hsz
  obtain ⟨os, hos, hcs, hds⟩ := id hs
  have hTs : s.TypeIs (.ref sl) "slice" := ⟨os, hos, hcs⟩
  unfold getItem
  try with_reducible refine wpAny_holding ?_
  first | refine wpAny_bind (wpAny_pure ?_) | skip
  refine wpAny_bind (wpAny_sequenceKey ht.typeIs (by decide) ?_)
  refine wpAny_bind (wpAny_callSpecial?_slot (name := Str.ofString "__getitem__") ht.typeIs PyProof.Rows.slot_tuple_getitem
    (wpAny_call_entry PyProof.Rows.slot_tuple_getitem ht.typeIs entry_tuple_getitem ?_ (args_tuple_getitem _ _)))
  show wpAny _ _ (Builtin.Tuple.tupleItemsOf (.ref t) >>= _) _ _ s
  refine wpAny_bind (tupleItemsOf_ ht ?_)
  refine wpAny_bind (wpAny_typeOf hTs ?_)
  rw [if_pos (by decide)]
  refine wpAny_bind (sliceApplied_rev hs pl pu ps ?_)
  have hno : ¬ ((((items.size : Int) - 1 == 0) && (-1 : Int) == 1 && items.size == items.size) = true) := by
    rw [show ((-1 : Int) == 1) = false from rfl, Bool.and_false, Bool.false_and]
    exact Bool.false_ne_true
  show wpAny _ _ (if (((items.size : Int) - 1 == 0) && (-1 : Int) == 1 && items.size == items.size) = true then _ else _) _ _ s
  rw [if_neg hno, pick_rev]
  first
    | exact wpAny_bind (m := Builtin.Tuple.tupleExact _) (wpAny_newObj_type (wpAny_pure ⟨_, rfl, wpAny_pure h⟩) htake)
    | exact wpAny_bind (m := Builtin.Tuple.tupleExact _) (wpAny_newObj_type (wpAny_bind (wpAny_pure (wpAny_pure ⟨_, rfl, wpAny_pure h⟩))) htake)
    | exact wpAny_bind (wpAny_bind (m := Builtin.Tuple.tupleExact _) (wpAny_newObj_type (wpAny_pure (wpAny_pure ⟨_, rfl, wpAny_pure h⟩)) htake))
    | exact wpAny_bind (wpAny_bind (m := Builtin.Tuple.tupleExact _) (wpAny_newObj_type (wpAny_pure ⟨_, rfl, wpAny_pure h⟩) htake))
end
section
variable {X : Cx}
def tRevT (K : PySem.W.Frag) (te : TE) : TE := fun σ H Q => te σ H fun x H1 => ∃ a xs, x = .ref a ∧ SqT K H1 a xs ∧ ∀ p, H1 p = none → Q (.ref p) (upd H1 p (.tup xs.reverse))
theorem pe_revT {e : Expr} {te : TE} {k : Nat} {p1 p2 p3 pos : Pos} (he : PE X e te) : PE X (.Subscript e (.Slice none none (some (.UnaryOp .USub (.Constant (.int 1) k p1) p2)) p3) pos) (tRevT X.K te) := by
  refine ⟨fun pins s σ H Q I h => ?_⟩
  refine Subscript_ (thn (he.run pins s σ H _ I h) fun v s1 ⟨x, H1, I1, r1, q1⟩ => ?_)
  obtain ⟨a, xs, ex, hx, q⟩ := q1
  subst ex
  cases r1
  have hst : PO X (some (.UnaryOp .USub (.Constant (.int 1) k p1) p2)) (tPart (tUn (rU fun i => .int (-i)) (tC (.int 1)))) := po_some (pe_un un_neg pe_int)
  refine wpAny_Slice (thn (po_none.run pins s1 σ H1 (fun o H2 => o = none ∧ H2 = H1) I1 ⟨rfl, rfl⟩) fun vl s2 ⟨l, H2, I2, pl, el, e2⟩ => ?_)
  subst el e2
  refine thn (po_none.run pins s2 σ H2 (fun o H3 => o = none ∧ H3 = H2) I2 ⟨rfl, rfl⟩) fun vu s3 ⟨u, H3, I3, pu, eu, e3⟩ => ?_
  subst eu e3
  refine thn (hst.run pins s3 σ H3 (fun o H4 => o = some (-1) ∧ H4 = H3) I3 ⟨1, rfl, -1, rfl, rfl, rfl⟩) fun vs s4 ⟨o, H4, I4, ps, eo, e4⟩ => ?_
  subst eo e4
  have I5 : Inv X pins σ H4 { s4 with heap := s4.heap.push { cls := .type "slice", data := .fields #[vl, vu, vs] } } := I4.kept (t' := s4.toks) fun b ob q => Heap.get?_push_of_some _ q
  obtain ⟨its, r, ht, hz⟩ := I5.tuple hx
  have hlen := r.length
  show wpAny (model X.prog X.w) X.A (subscriptTail e (.Slice none none (some (.UnaryOp .USub (.Constant (.int 1) k p1) p2)) p3) (.ref a) (.ref s4.heap.objs.size)) (EP X pins σ Q) X.xe { s4 with heap := s4.heap.push { cls := .type "slice", data := .fields #[vl, vu, vs] } }
  refine tail_any (ops := [.ref a, .ref s4.heap.objs.size]) ht.typeIs (PyProof.Rows.slot_tuple_getitem.lookup) ?_ (by with_unfolding_all rfl)
  refine getItem_tuple_rev ht (Heap.IsSliceOf.new _ vl vu vs) pl pu ps ?_ (by rw [List.size_toArray]; omega)
  rw [show its.toArray.toList.reverse.toArray = its.reverse.toArray by simp]
  refine ⟨.ref _, _, I5.laid (t' := s4.toks) (o := .tup xs.reverse) (fun b ob q => Heap.get?_push_of_some _ q) (Nat.le_refl _) ?_, rfl, q _ (I5.hok.fresh (Nat.le_refl _))⟩
  exact ⟨by rw [List.length_reverse]; exact hz, its.reverse, r.reverse, IsTup.new _ _⟩
end
section
variable {X : Cx} (K : PySem.W.Frag) {e : Expr} {te : TE} {k : Nat} {p1 p2 p3 pos : Pos}
theorem k_revT (he : PE X e te) (h : X.K = K := by rfl) : PE X (.Subscript e (.Slice none none (some (.UnaryOp .USub (.Constant (.int 1) k p1) p2)) p3) pos) (tRevT K te) := h ▸ pe_revT he
end
section
variable {w : Wx} {ρ : Env'} {Φ : D → Env' → Prop} {te : TE}
theorem RepAll.reverse {K : PySem.W.Frag} {H : Hp} : ∀ {xs : List V} {ds : List D}, RepAll K H xs ds → RepAll K H xs.reverse ds.reverse
  | _, _, .nil => .nil
  | _, _, .cons r rs => by
    rw [List.reverse_cons, List.reverse_cons]
    exact (RepAll.reverse rs).append (.cons r .nil)
theorem wE_revT (h : wE w te ρ fun d ρ1 => ∃ l, d = .tup l ∧ Φ (.tup l.reverse) ρ1) : wE w (tRevT w.K te) ρ Φ := fun c H0 H σ Q a x k =>
  h c H0 H σ _ a x fun v d ρ1 H01 H1 ⟨l, e, q⟩ a1 e1 r1 => by
    subst e
    cases r1 with
    | @tup b xs _ hs hr =>
      refine ⟨_, _, rfl, sqT_ex a1.px.i hs, fun p hp => ?_⟩
      have y : PX ⟨H1, H01, []⟩ (upd H01 p (.tup xs.reverse)) (upd H1 p (.tup xs.reverse)) := (PX.refl a1.px.i).new hp
      exact k _ _ ρ1 _ _ q (a1.go y) (e1.trans y.e0) (.tup (.inl (.inl upd_same)) (hr.reverse.mono y.e0))
theorem wE_dnew (q : Φ (.dic []) ρ) : wE w tDNewK ρ Φ := fun c H0 H σ Q a x k p hp => by
  have y : PX ⟨H, H0, []⟩ (upd H0 p (.dK [])) (upd H p (.dK [])) := (PX.refl a.px.i).new hp
  exact k _ _ ρ _ _ q (a.go y) y.e0 (.dic (xs := []) (ds := []) upd_same .nil)
theorem upd_upd {H : Hp} {p : Addr} {o o' : HO} : upd (upd H p o) p o' = upd H p o' := by
  funext b
  by_cases h : b = p
  · subst h; rw [upd_same, upd_same]
  · rw [upd_ne h, upd_ne h, upd_ne h]
theorem wE_disp1 {z : Str} {i : Int} (q : Φ (.dic [(z, .int i)]) ρ) : wE w (tDisp [(tC (.str z), tC (.int i))]) ρ Φ := fun c H0 H σ Q a x k p hp => by
  have y : PX ⟨H, H0, []⟩ (upd H0 p (.dK [(.inr z, .int i)])) (upd H p (.dK [(.inr z, .int i)])) := (PX.refl a.px.i).new hp
  refine ⟨upd_same, [(.inr z, .int i)], rfl, (show 1 ≤ 15 by decide), ?_⟩
  rw [upd_upd]
  exact k _ _ ρ _ _ q (a.go y) y.e0 (.dic (xs := [(z, .int i)]) (ds := [(z, .int i)]) upd_same (.cons (.int i) .nil))
end
/-! ### isinstance(x, C) -/
structure IsC (K : PySem.W.Frag) (C : Addr) : Prop where
  cl : Cls K C
  ha : PySem.W.findIn K (.ref C) "__class__" = some (some (.builtin "object.__class__"))
  hn : PySem.W.specialIn K (.builtin "object.__class__") "__get__" = some (some (.builtin "getset_descriptor.__get__"))
  ht : PySem.W.takesIn K (.builtin "object.__class__") = some true
  hm : PySem.W.mroIn K C (.type "object") = some true
  dn : ∀ T ∈ kinds, PySem.W.kitOne K (.type T) (.ref C) = some false
def isOG (C : Addr) (ds : List D) (Φ : D → Prop) : Prop := ∃ d, ds = [d, .raw (.ref C)] ∧ ((d.bui = true ∧ Φ (.bl false)) ∨ ∃ fs, d = .ins C fs ∧ Φ (.bl true))
theorem BuiV.tyx {K : PySem.W.Frag} {H : Hp} {x : V} {T : String} (h : BuiV K H x T) : TyX K H x (.type T) := by
  cases h with
  | non => exact .base .non
  | bl b => exact .base (.bl b)
  | int i => exact .base (.int i)
  | str x => exact .base (.str x)
  | lst h =>
    rcases h with (h | ⟨o, h⟩) | ⟨o, its, n, h1, h2, _⟩
    · exact .base (.lst h)
    · exact .base (.frz h)
    · exact .kList h1 h2
  | tup h => exact sqT_ty h
  | dic h => exact .base (.dK h)
theorem cbd_isO {K : PySem.W.Frag} {C : Addr} (I : IsC K C) : CbD K (rIsi K) (isOG C) := fun H0 H xs ds Φ Q e rx ⟨d, hd, g⟩ k => by
  subst hd
  obtain ⟨v, c, rfl, r1, r2⟩ := vals_two rx
  cases r2
  rcases g with ⟨hb, g⟩ | ⟨fs, rfl, g⟩
  · obtain ⟨T, bx⟩ := buiV_of e r1 hb
    exact ⟨v, _, _, .ref C, false, rfl, .own C, bx.tyx, I.dn T bx.kind, fin0 e g (.bl _) k⟩
  · cases r1 with
    | ins hp hr => exact ⟨_, _, .ref C, .ref C, true, rfl, .own C, .base (.ins (e _ _ hp) I.cl I.ha I.hn I.ht I.hm), by unfold PySem.W.kitOne; rw [if_pos (beq_self_eq_true _)], fin0 e g (.bl _) k⟩
theorem kinds_all {p : String → Prop} (a : p "NoneType") (b : p "bool") (c : p "int") (d : p "str") (e : p "tuple") (f : p "list") (g : p "dict") : ∀ T ∈ kinds, p T := fun T h => by
  simp only [kinds, List.mem_cons, List.not_mem_nil, or_false] at h
  rcases h with rfl | rfl | rfl | rfl | rfl | rfl | rfl <;> assumption
theorem kit_no {K : PySem.W.Frag} {C : Addr} {T : String} (h1 : PySem.W.isClsIn K C = true) (h2 : PySem.W.typeIn K (.ref C) = some (.type "type")) (h : PySem.W.subIn K (.type T) (.ref C) = some false) : PySem.W.kitOne K (.type T) (.ref C) = some false := by
  unfold PySem.W.kitOne
  rw [if_neg (show ¬ (Value.type T == Value.ref C) = true from Bool.false_ne_true)]
  show (if ((PySem.W.clsIn K C).isSome && PySem.W.typeIn K (.ref C) == some (.type "type")) = true then PySem.W.subIn K (.type T) (.ref C) else none) = some false
  rw [if_pos (by rw [h2, show (PySem.W.clsIn K C).isSome = true from h1]; rfl)]
  exact h
end DL
/-! DL32: dict displays of names, get. -/
/-! DL33: defs whose exceptions have no context (mkN.py writes this from DLg, DL4, DL8, DL12, DL15). -/
namespace DL
open PySem PySem.Spec L2
open PyProof.Rows hiding St
section
end
section
variable {P : Program} {w : World} {K : PySem.W.Frag} {mg : Str → Option Value} {base : Heap} {f : Addr} {fd : FuncData} {ps : List Str} {sp : Sp}
end
section
variable {P : Program} {w : World} {K : PySem.W.Frag} {mg : Str → Option Value} {base : Heap} {f : Addr} {fd : FuncData} {ps : List Str} {sp : Sp}
end
section
variable {P : Program} {w : World} {K : PySem.W.Frag} {mg : Str → Option Value} {base : Heap}
end
section
variable {P : Program} {w : World} {K : PySem.W.Frag} {mg : Str → Option Value} {base : Heap}
end
section
variable {P : Program} {w : World} {K : PySem.W.Frag} {mg : Str → Option Value} {base : Heap}
end
end DL
/-! DL34: raising without context; what such defs are to those who don't ask. -/
namespace DL
open PySem PySem.Spec L2
open PyProof.Rows hiding St
section
variable {P : Program} {w : World} {K : PySem.W.Frag} {mg : Str → Option Value} {base : Heap}
end
end DL
/-! DL35: try .. except (A, B, C): a suite that raises, all that the body raises being caught. -/
/-! DL36: an object made where the exception is told of the very state (mkS.py writes the first part). -/
/-! DL37: try: return C(..) except (A, B, D): raise X(e) from None. -/
namespace DL
open PySem PySem.Spec L2 L2H
open PyProof.Rows hiding St
end DL
/-! DL38: repr of plain data, flat or not. -/
/-! DL39: _law_answer(lambda: ..) as one rule. -/
namespace DL
open PySem PySem.Spec L2 LamX
open PyProof.Rows hiding St
/-- the names of such a def, as its scope has them -/
structure AnsS (mg : Str → Option Value) (sg : Scope) (a got n srt x1 x2 x3 : Str) (c1 c2 c3 : Value) : Prop where
  nd : ([a, got, n] : List Str).Nodup
  la : sg.names.lookup a = some .local
  lg : sg.names.lookup got = some .local
  ln : sg.names.lookup n = some .local
  gs : sg.names.lookup srt = some .globalImplicit
  g1 : sg.names.lookup x1 = some .globalImplicit
  g2 : sg.names.lookup x2 = some .globalImplicit
  g3 : sg.names.lookup x3 = some .globalImplicit
  ds : (srt == ("__debug__" : Str)) = false
  d1 : (x1 == ("__debug__" : Str)) = false
  d2 : (x2 == ("__debug__" : Str)) = false
  d3 : (x3 == ("__debug__" : Str)) = false
  da : (a == ("__debug__" : Str)) = false ∧ (a == ("__classdict__" : Str)) = false
  dg : (got == ("__debug__" : Str)) = false ∧ (got == ("__classdict__" : Str)) = false
  dn : (n == ("__debug__" : Str)) = false ∧ (n == ("__classdict__" : Str)) = false
  kd : sg.kind = .function
  m1 : mg x1 = some c1
  m2 : mg x2 = some c2
  m3 : mg x3 = some c3
/-- the def that tells the error, as such a def calls it -/
structure SortB (P : Program) (w : World) (K : PySem.W.Frag) (mg : Str → Option Value) (base : Heap) (x : Str) (k : Nat) (S : ESp) : Prop where
  ex : ∃ f fd p1, FnE P w K mg base k f fd p1 (liftE K S) ∧ mg x = some (.ref f) ∧ PySem.W.keepIn K (.ref f) = true ∧ Binds K fd [p1] []
theorem k_ans {X : Cx} (K : PySem.W.Frag) {T : List (Addr × Str)} {x a got n srt x1 x2 x3 : Str} {c1 c2 c3 : Value} {st : Stmt} {g c P : Addr} {fd : FuncData} {S : ESp} {j k kk j2 : Nat} {p1 p2 p3 p4 q1 q2 q3 tp hp r1 r2 r3 r4 r5 r6 r7 r8 tp2 p lpos pos : Pos} {params : Arguments} {body : Expr} {scope : Scope} {t : XK → TE}
    (F : FunX K x x st g fd) (hm : X.mg x = some (.ref g)) (hk : PySem.W.keepIn K (.ref g) = true) (bd : Binds K fd [a] []) (FS : SortB X.prog X.w K X.mg X.base srt k S) (room : RoomG j X.A) (hj : k + 2 ≤ j) (Sg : FnScope [a, got, n] [a] (defScope st)) (N : AnsS X.mg (defScope st) a got n srt x1 x2 x3 c1 c2 c3)
    (TB : TabB X.base X.mg c P) (hcode : X.env.code = .ref c) (hmT : (P, lamQ X) ∈ T) (hu : ∀ p ∈ T, p.1 = P → p.2 = lamQ X) (L : LamS X.env.scope scope)
    (hbody : ∀ (A : Around) (outer : List Env) (s : Shared) (H : Hp) (E : XK) (f c' : Addr), RoomG k (A.deeper (lamEnv X scope s.heap.objs.size f c')) → PE (lamCx X A outer s H E scope f c') body (t E))
    (hst : defBody st = [.Try [.Assign [.Name got p1] (.Call (.Name a p2) [] [] p3) p4] [.ExceptHandler (some (.Tuple [.Name x1 q1, .Name x2 q2, .Name x3 q3] kk tp)) (some n) [.Return (some (.Call (.Name srt r1) [.Name n r2] [] r3)) r4] hp] [] [] tp2, .Return (some (.List [.Constant (.str "back") j2 r5, .Name got r6] r7)) r8] := by rfl)
    (hdef : defaultsOf params X.env = ([], []) := by rfl) (hbind : ∀ (q : Str) (cl : List (Str × Addr)) (pm cv ctv : Value), bindArgs (PySem.W.kla_fn "<lambda>" q params body scope cl pm cv ctv) ⟨[], []⟩ = pure [] := by intros; rfl) (hg : Gl X x := by rfl) (hdb : (x == ("__debug__" : Str)) = false := by decide) (h : X.K = K := by rfl) :
    PE X (.Call (.Name x p) [.Lambda params body scope lpos] [] pos) (tLamG T (TTans K [c1, c2, c3] (liftE K S)) t) := by
  subst h
  obtain ⟨oc, od, dV, kV, doc, pm, an, cdv, ct, osl, rfl, lk, hcd⟩ := F.ex
  obtain ⟨fS, fdS, pS, FE, hmS, hkS, hbS⟩ := FS.ex
  rw [hst] at lk
  rw [hst] at bd
  exact pe_lamcallG hg hm hk lk hcd bd Sg rfl (.inl N.la) (answer_gives FE hmS hkS hbS N.gs N.ds N.nd N.lg N.ln ⟨N.g1, N.d1, N.m1⟩ ⟨N.g2, N.d2, N.m2⟩ ⟨N.g3, N.d3, N.m3⟩ N.dg N.dn N.kd) TB hcode hmT hu room hj L hdef hbind hbody hdb N.da.1 N.da.2
end DL
/-! DL40: from the top of a text to the law's line, where lambdas are made: their tables stand empty there, and may be filled. -/
namespace DL
open PySem PySem.Spec L2 LamX
open PyProof.Rows hiding St
/-- where the modules' table stands is no place of ours -/
def SysB (base : Heap) : Prop := ∃ m, base.Ns sysModules m
/-- defs that make a lambda: name, code object, table -/
abbrev Tabl := List (Str × Addr × Addr)
def Tabl.T (ts : Tabl) : List (Addr × Str) := ts.map fun t => (t.2.2, t.1 ++ ".<locals>.<lambda>")
def Tabl.ads (ts : Tabl) : List Addr := ts.map fun t => t.2.2
/-- the tables beside what else is known -/
def withT (ts : Tabl) (H : Hp) : Hp := fun b => if b ∈ ts.ads then some (.tbl #[]) else H b
section
variable {P : Program} {w : World} {K : PySem.W.Frag} {mg mb : Str → Option Value} {z : Shared} {scr : Addr} {H : Hp} {items : Array Value} {ts : Tabl}
structure TabsIn (z : Shared) (K : PySem.W.Frag) (mg : Str → Option Value) (ts : Tabl) : Prop where
  tab : ∀ t ∈ ts, PySem.W.CodeHd z.heap t.2.1 t.2.2 ∧ z.heap.get? t.2.2 = some (PySem.W.tabObj #[])
  out : ∀ t ∈ ts, K.lookup t.2.2 = none
  bm : ∃ (bm : Addr) (ob : Obj), mg "__builtins__" = some (.ref bm) ∧ bm ≠ builtinsNs ∧ z.heap.get? bm = some ob ∧ ob.cls = .type "module" ∧ ob.dict = some builtinsNs ∧ ob.data = .plain
/-- what is tracked at the start: the script at most, and the tables -/
structure Asides (z : Shared) (scr : Addr) (items : Array Value) (ts : Tabl) (H : Hp) : Prop where
  at_ : z.heap.get? scr = some { cls := .type "list", data := .seq items }
  tabs : ∀ p ∈ ts.ads, z.heap.get? p = some (PySem.W.tabObj #[])
  one : ∀ b, H b ≠ none → b = scr ∨ b ∈ ts.ads
theorem TabsIn.at_ads (t : TabsIn z K mg ts) : ∀ p ∈ ts.ads, z.heap.get? p = some (PySem.W.tabObj #[]) := fun p hp => by
  obtain ⟨y, hy, rfl⟩ := List.mem_map.mp hp
  exact (t.tab y hy).2
theorem Asides.noneOf (a : Asides z scr items ts H) {b : Addr} {o : Obj} (e : z.heap.get? b = some o) (d : ∀ c, o.data ≠ .seq items c) (d2 : o.data ≠ .fields #[]) : H b = none := by
  rcases hb : H b with _ | u
  · rfl
  · exfalso
    rcases a.one b (by simp [hb]) with q | q
    · subst q
      obtain rfl := Option.some.inj (a.at_.symm.trans e)
      exact d _ rfl
    · obtain rfl := Option.some.inj ((a.tabs b q).symm.trans e)
      exact d2 rfl
theorem Asides.ns (a : Asides z scr items ts H) {b : Addr} {m : Str → Option Value} (n : z.heap.Ns b m) : (hidT z.heap H).Ns b m := by
  obtain ⟨o, es, ep, e, d, r⟩ := n
  exact ⟨o, es, ep, hidT_get e (a.noneOf e (fun c q => by rw [d] at q; cases q) fun q => by rw [d] at q; cases q), d, r⟩
theorem Asides.frag (a : Asides z scr items ts H) (B : Begins z K mg mb) (t : TabsIn z K mg ts) (out : H scr ≠ none → K.lookup scr = none) : K.In (hidT z.heap H) := fun b o e => by
  refine hidT_get (B.frag b o e) ?_
  rcases hb : H b with _ | u
  · rfl
  · exfalso
    rcases a.one b (by simp [hb]) with q | q
    · subst q
      rw [out (by simp [hb])] at e
      cases e
    · obtain ⟨y, hy, rfl⟩ := List.mem_map.mp q
      rw [t.out y hy] at e
      cases e
theorem Asides.env0 (a : Asides z scr items ts H) (B : Begins z K mg mb) (t : TabsIn z K mg ts) (out : H scr ≠ none → K.lookup scr = none) (ok : HOk P w H z.heap) : Env0 P w K mg (hidT z.heap H) callerA [] z H := by
  have lim : (hidT z.heap H).NoLimit := let ⟨mc, h1, h2⟩ := B.lim; ⟨mc, a.ns h1, h2⟩
  exact ⟨rfl, ⟨a.frag B t out, a.ns B.main, ⟨mb, a.ns B.blt, B.boot⟩, lim⟩, fun b o e => of_hidT e, Nat.le_of_eq (hidT_size _ _), trivial, fun b hb => absurd (show b ∈ ([] : List Addr) from hb) (by simp), ok, .of_eq B.gens⟩
theorem not_main {b : Addr} {o : Obj} {m : Str → Option Value} (n : z.heap.Ns mainGlobals m) (e : z.heap.get? b = some o) (d : ∀ es ep, o.data ≠ .dict es ep) : b ≠ mainGlobals := fun q => by
  obtain ⟨o', es, ep, e', d', _⟩ := n
  rw [← q, e] at e'
  exact d es ep (by rw [Option.some.inj e']; exact d')
theorem Asides.tabB (a : Asides z scr items ts H) (B : Begins z K mg mb) (t : TabsIn z K mg ts) : ∀ y ∈ ts, TabB (hidT z.heap H) mg y.2.1 y.2.2 := fun y hy => by
  obtain ⟨cd, em⟩ := t.tab y hy
  refine ⟨?_, ?_, Ne.symm (not_main B.main em fun es ep q => by cases q)⟩
  · obtain ⟨o, vs, file, tf, flags, tg, inF, text, tt, e, r1, r2, r3, r4⟩ := cd
    exact ⟨o, vs, file, tf, flags, tg, inF, text, tt, hidT_get e (a.noneOf e (fun c q => by rw [r2] at q; cases q) fun q => by rw [r2] at q; cases q; simp at r3), r1, r2, r3, r4⟩
  · obtain ⟨bm, ob, b1, b2, b3, b4, b5, b6⟩ := t.bm
    refine ⟨bm, ob, b1, b2, not_main B.main b3 (fun es ep q => by rw [b6] at q; cases q), fun q => ?_, hidT_get b3 (a.noneOf b3 (fun c q => by rw [b6] at q; cases q) fun q => by rw [b6] at q; cases q), b4, b5, b6⟩
    rw [q, em] at b3
    cases b3
    cases b6
theorem withT_at {p : Addr} (h : p ∈ ts.ads) : withT ts H p = some (.tbl #[]) := if_pos h
theorem withT_off {p : Addr} (h : p ∉ ts.ads) : withT ts H p = H p := if_neg h
/-- the law's call, from the law's promise -/
theorem law_atT {k : Nat} {fa : Addr} {fd : FuncData} {x : Str} {S : DSp} {vs : List Value} {ns : List Int} (B : Begins z K mg mb) (sy : SysB z.heap) (t : TabsIn z K mg ts) (at_ : z.heap.get? scr = some { cls := .type "list", data := .seq vs.toArray }) (hi : IntsAre vs ns) (hl : ns.length ≤ 63)
    (room : RoomG k callerA) (F : ∀ base : Heap, K.In base → base.Ns mainGlobals mg → SysB base → (∀ y ∈ ts, TabB base mg y.2.1 y.2.2) → FnG P w K mg base k fa fd [x] (liftT K ts.T S)) (hbind : ∀ (s : Shared) (u : Value), BindsTo s fd ⟨[u], []⟩ [(x, u)])
    (hS : ∀ Φ Ψ, Φ (.bl true) → S [.scr ns] Φ Ψ) :
    codeAny (model P w) callerA (.call (.ref fa) ⟨[.ref scr], []⟩) (fun r s' => r = .ok (.ret (.bool true)) ∧ OldK z.heap s'.heap ∧ s'.os = z.os ∧ AllBare s'.gens) z := by
  have vals := vals_ints hi
  have size : ns.length ≤ sizeLine := Nat.le_trans hl (by decide)
  have scrOff : scr ∉ ts.ads := fun q => by
    have e := (t.at_ads scr q).symm.trans at_
    cases e
  -- H0: the script at most
  have go : ∀ H0 : Hp, L2.Only H0 → SqL K H0 scr (ns.map V.int) → HOk P w H0 z.heap → (∀ b, H0 b ≠ none → b = scr) → (H0 scr ≠ none → K.lookup scr = none) →
      codeAny (model P w) callerA (.call (.ref fa) ⟨[.ref scr], []⟩) (fun r s' => r = .ok (.ret (.bool true)) ∧ OldK z.heap s'.heap ∧ s'.os = z.os ∧ AllBare s'.gens) z := by
    intro H0 only seq ok one out
    have off : ∀ p ∈ ts.ads, H0 p = none := fun p hp => by
      rcases q : H0 p with _ | u
      · rfl
      · exact absurd (one p (by simp [q]) ▸ hp) scrOff
    have ex : Ex H0 (withT ts H0) := fun b o e => by
      by_cases q : b ∈ ts.ads
      · rw [off b q] at e; cases e
      · rw [withT_off q]; exact e
    have a : Asides z scr vs.toArray ts (withT ts H0) := ⟨at_, t.at_ads, fun b h => by
      by_cases q : b ∈ ts.ads
      · exact .inr q
      · rw [withT_off q] at h; exact .inl (one b h)⟩
    have ok2 : HOk P w (withT ts H0) z.heap := fun b u e => by
      by_cases q : b ∈ ts.ads
      · rw [withT_at q] at e
        cases e
        exact t.at_ads b q
      · rw [withT_off q] at e
        refine (ok b u e).stay (fun d v _ q => q) (fun d q => ?_) fun d xs q => ?_
        · exact ex d _ q
        · exact ex d _ q
    have out2 : withT ts H0 scr ≠ none → K.lookup scr = none := by rw [withT_off scrOff]; exact out
    have F1 := F _ (a.frag B t out2) (a.ns B.main) (sy.imp fun m n => a.ns n) (a.tabB B t)
    have tabA : TabA ts.T H0 (withT ts H0) := fun p hp => by
      obtain ⟨y, hy, rfl⟩ := List.mem_map.mp hp
      have q : y.2.2 ∈ ts.ads := List.mem_map.mpr ⟨y, hy, rfl⟩
      exact ⟨TabS.nil (withT_at q), off _ q⟩
    have low : liftT K ts.T S [.ref scr] (withT ts H0) (fun v _ => v = .bl true) EN :=
      ⟨H0, [.scr ns], fun d => d = .bl true, fun _ => False, ex, .cons (.scr seq) .nil, tabA, hS _ _ rfl, fun v d _ _ e _ _ r => by subst e; cases r; rfl, fun _ _ _ _ e => e.elim⟩
    refine codeAny_mono (F1.run callerA [] z (withT ts H0) ⟨[.ref scr], []⟩ [.ref scr] [.ref scr] _ _ room (a.env0 B t out2 ok2) (hbind z _) (.cons rfl .nil) low) fun r s' q => ?_
    rcases r with e | fl
    · obtain ⟨_, _, _, _, _, _, _, _, _, _, _, _, h⟩ := q
      exact h.elim
    rcases fl with _ | _ | _ | u
    · exact False.elim q
    · exact False.elim q
    · exact False.elim q
    obtain ⟨v, H', os, bare, un, ok', rel, q1⟩ := q
    obtain rfl : v = V.bl true := q1
    obtain rfl : u = Value.bool true := rel
    have stays : ∀ b o, b ∉ ts.ads → z.heap.get? b = some o → s'.heap.get? b = some o := fun b o nb e => by
      rcases hb : withT ts H0 b with _ | u
      · exact un.keep b o e hb (fun h => absurd (show b ∈ ([] : List Addr) from h) (by simp)) (by simp)
      · obtain h | ⟨ob, xs, h⟩ := only b
        · rw [withT_off nb, h] at hb; cases hb
        · obtain ⟨e1, _⟩ := ok b _ h
          have h2 : withT ts H0 b = _ := (withT_off nb).trans h
          obtain ⟨e2, _⟩ := ok' b _ (un.frzs b ob _ h2)
          rw [Option.some.inj (e.symm.trans e1)]
          exact e2
    have grown : ∀ y ∈ ts, ∃ more : Array Value, s'.heap.get? y.2.2 = some (PySem.W.tabObj (#[] ++ more)) := fun y hy => by
      obtain ⟨more, q⟩ := un.tbls y.2.2 #[] (withT_at (List.mem_map.mpr ⟨y, hy, rfl⟩))
      exact ⟨more, ok' _ _ q⟩
    refine ⟨rfl, ⟨fun b o e => ?_, fun b o e => ?_⟩, os, bare⟩
    · by_cases hb : b ∈ ts.ads
      · obtain ⟨y, hy, rfl⟩ := List.mem_map.mp hb
        obtain ⟨cd, em⟩ := t.tab y hy
        obtain ⟨more, m⟩ := grown y hy
        obtain rfl := Option.some.inj (em.symm.trans e)
        exact .inr (.inl ⟨(cd.tab em).isCodeTable, rfl, #[], more, rfl, m⟩)
      · exact .inl (stays b o hb e)
    · by_cases hb : b ∈ ts.ads
      · obtain ⟨y, hy, rfl⟩ := List.mem_map.mp hb
        obtain ⟨more, m⟩ := grown y hy
        exact ⟨_, m⟩
      · exact ⟨o, stays b o hb e⟩
  rcases hk : K.lookup scr with _ | o
  · refine go (fun b => if b = scr then some (.frz { cls := .type "list", data := .seq vs.toArray } (.lst (ns.map V.int))) else none) (fun b => ?_) (.inl (.inr ⟨_, if_pos rfl⟩)) (fun b u h => ?_) (fun b h => ?_) fun _ => hk
    · by_cases e : b = scr
      · exact .inr ⟨_, _, if_pos e⟩
      · exact .inl (if_neg e)
    · by_cases e : b = scr
      · subst e
        obtain rfl := Option.some.inj ((if_pos rfl).symm.trans h)
        exact ⟨at_, by rw [List.length_map]; exact size, vs, _, vals, at_⟩
      · exact nomatch (if_neg e).symm.trans h
    · by_cases e : b = scr
      · exact e
      · exact absurd (if_neg e) h
  · obtain rfl := Option.some.inj (at_.symm.trans (B.frag scr o hk))
    exact go (fun _ => none) (fun _ => .inl rfl) (.inr ⟨_, vs.toArray, _, hk, rfl, rfl, rfl, by rw [List.size_toArray, hi.length]; exact size, by simpa using vals⟩) (fun b u h => nomatch (show (none : Option HO) = some u from h)) (fun b h => absurd rfl h) fun h => absurd rfl h
end
/-- the goal that k_head leaves, from the law's promise; xs: the defs that make lambdas -/
theorem walk_GT {l : PySem.W.OpenLaw} {q : Program} {loose : List Str} {XP : (Str → Option Value) → Heap → Prop} {YP : World → Heap → Prop} {d : DefRec} {K : Params → PySem.W.Frag} {S : DSp} {k : Nat} (x : Str) (xs : List Str)
    (hn : l.most = some 63) (hdf : d.params.defaults = []) (room : RoomG k callerA) (hrec : (xs.all fun y => ((recsOf q).find? fun e => e.name == y).isSome) = true) (himp : importsNone q = true)
    (hY : ∀ (w : World) (h : Heap), YP w h → (K w.params).In h)
    (F : ∀ (w : World) (mg : Str → Option Value) (fa : Addr) (h : Heap), (K w.params).In h → h.Ns mainGlobals mg → mg d.name = some (.ref fa) →
      ∃ (fd : FuncData) (ts : Tabl), (∀ t ∈ ts, t.1 ∈ xs ∧ PySem.W.tabIn (K w.params) t.1 = some t.2 ∧ (K w.params).lookup t.2.2 = none) ∧ (∀ (s : Shared) (u : Value), BindsTo s fd ⟨[u], []⟩ [(x, u)]) ∧
        ∀ base : Heap, (K w.params).In base → base.Ns mainGlobals mg → SysB base → (∀ y ∈ ts, TabB base mg y.2.1 y.2.2) → FnG l.prog w (K w.params) mg base k fa fd [x] (liftT (K w.params) ts.T S))
    (hS : ∀ (ns : List Int) Φ Ψ, ns.length ≤ 63 → (∀ n ∈ ns, Bd n) → Φ (.bl true) → S [.scr ns] Φ Ψ) :
    PySem.W.WalkO q loose XP YP l.row.toRowW d [] (fun f vs => PySem.call f vs) := by
  refine Att.attach_callB hn hdf fun w s₀ s₁ mg mb fa o pm cd doc a vs ns G Y ho hd hcd hmg hobj hints hlen hbits hg => ?_
  obtain ⟨fd, ts, ht, hb, hF⟩ := F w mg fa _ (hY w _ Y) G.T.g hmg
  have t : TabsIn s₁ (K w.params) mg ts := ⟨fun y hy => by
    obtain ⟨h1, h2, _⟩ := ht y hy
    obtain ⟨r, hr⟩ := Option.isSome_iff_exists.mp (List.all_eq_true.mp hrec y.1 h1)
    exact PySem.W.tab_of G.T (hY w _ Y) hr h2, fun y hy => (ht y hy).2.2, G.T.bmain⟩
  exact law_atT ⟨hY w _ Y, G.T.g, G.T.b, G.T.builtins, G.T.nolimit, hg⟩ (let ⟨m, n, _⟩ := (G.T.seer himp).mods; ⟨m, n⟩) t hobj hints hlen room hF hb fun Φ Ψ q => hS ns Φ Ψ hlen (fun n hn => bd_of (hbits n hn)) q
end DL
/-! DL41: the def that calls a lambda, put together once. -/
namespace DL
open PySem PySem.Spec L2 LamX
open PyProof.Rows hiding St
structure AnsC (P : Program) (w : World) (K : PySem.W.Frag) (mg : Str → Option Value) (base : Heap) (x : Str) (k : Nat) (cs : List Value) (S : ESp) : Prop where
  ex : ∃ (st : Stmt) (g : Addr) (fd : FuncData) (a got n srt x1 x2 x3 : Str) (c1 c2 c3 : Value) (kk j2 : Nat) (p1 p2 p3 p4 q1 q2 q3 tp hp r1 r2 r3 r4 r5 r6 r7 r8 tp2 : Pos),
    cs = [c1, c2, c3] ∧ FunX K x x st g fd ∧ mg x = some (.ref g) ∧ PySem.W.keepIn K (.ref g) = true ∧ Binds K fd [a] [] ∧ SortB P w K mg base srt k S ∧ FnScope [a, got, n] [a] (defScope st) ∧ AnsS mg (defScope st) a got n srt x1 x2 x3 c1 c2 c3 ∧
    defBody st = [.Try [.Assign [.Name got p1] (.Call (.Name a p2) [] [] p3) p4] [.ExceptHandler (some (.Tuple [.Name x1 q1, .Name x2 q2, .Name x3 q3] kk tp)) (some n) [.Return (some (.Call (.Name srt r1) [.Name n r2] [] r3)) r4] hp] [] [] tp2, .Return (some (.List [.Constant (.str "back") j2 r5, .Name got r6] r7)) r8]
theorem k_ansC {X : Cx} (K : PySem.W.Frag) {T : List (Addr × Str)} {x : Str} {cs : List Value} {c P : Addr} {S : ESp} {j k : Nat} {p lpos pos : Pos} {params : Arguments} {body : Expr} {scope : Scope} {t : XK → TE}
    (A : AnsC X.prog X.w K X.mg X.base x k cs S) (room : RoomG j X.A) (hj : k + 2 ≤ j) (TB : TabB X.base X.mg c P) (hcode : X.env.code = .ref c) (hmT : (P, lamQ X) ∈ T) (hu : ∀ p ∈ T, p.1 = P → p.2 = lamQ X) (L : LamS X.env.scope scope)
    (hbody : ∀ (A : Around) (outer : List Env) (s : Shared) (H : Hp) (E : XK) (f c' : Addr), RoomG k (A.deeper (lamEnv X scope s.heap.objs.size f c')) → PE (lamCx X A outer s H E scope f c') body (t E))
    (hdef : defaultsOf params X.env = ([], []) := by rfl) (hbind : ∀ (q : Str) (cl : List (Str × Addr)) (pm cv ctv : Value), bindArgs (PySem.W.kla_fn "<lambda>" q params body scope cl pm cv ctv) ⟨[], []⟩ = pure [] := by intros; rfl) (hg : Gl X x := by rfl) (hdb : (x == ("__debug__" : Str)) = false := by decide) (h : X.K = K := by rfl) :
    PE X (.Call (.Name x p) [.Lambda params body scope lpos] [] pos) (tLamG T (TTans K cs (liftE K S)) t) := by
  obtain ⟨st, g, fd, a, got, n, srt, x1, x2, x3, c1, c2, c3, kk, j2, p1, p2, p3, p4, q1, q2, q3, tp, hp, r1, r2, r3, r4, r5, r6, r7, r8, tp2, rfl, F, hm, hk, bd, FS, Sg, N, hst⟩ := A.ex
  exact k_ans K F hm hk bd FS room hj Sg N TB hcode hmT hu L hbody hst hdef hbind hg hdb h
end DL
/-! DL42: facts of classes of errors, put together. -/
namespace DL
open PySem PySem.Spec L2 LamX
open PyProof.Rows hiding St
/-- the code object of the def at f -/
def CodeAt (K : PySem.W.Frag) (f c : Addr) : Prop := ∀ (oc : Value) (od : Option Addr) (x qual : Str) (params : Arguments) (body : List Stmt) (scope : Scope) (dV kV doc pm cdv ct : Value) (an : Option Addr) (osl : Array (Option Value)), K.lookup f = some ⟨oc, od, .func (PySem.W.fnOf x qual params body scope dV kV doc pm an cdv ct), osl⟩ → cdv = .ref c
def codeOfO (o : Obj) : Value := match o.data with
  | .func fd => fd.code
  | _ => .none
theorem CodeAt.of {K : PySem.W.Frag} {f c : Addr} {o : Obj} (h : K.lookup f = some o) (e : codeOfO o = .ref c) : CodeAt K f c := fun _ _ _ _ _ _ _ _ _ _ _ _ _ _ _ l =>
  (show codeOfO _ = _ from congrArg codeOfO (Option.some.inj (l.symm.trans h))).trans e
section
variable {P : Program} {w : World} {K : PySem.W.Frag} {mg : Str → Option Value} {base : Heap}
theorem FnE.mono {j k : Nat} {f : Addr} {fd : FuncData} {p1 : Str} {sp : Value → Option Addr → Hp → VK → Prop} (F : FnE P w K mg base j f fd p1 sp) (h : j ≤ k) : FnE P w K mg base k f fd p1 sp := ⟨fun A outer s H args a oe cls dd Q hr => F.run A outer s H args a oe cls dd Q (hr.mono h)⟩
theorem fun_at {x qual qual' : Str} {st : Stmt} {f : Addr} {fd : FuncData} (e : qual = qual') (F : Fun K x qual' st f fd) : Fun K x qual st f fd := by rw [e]; exact F
end
end DL
/-! DL43: repr of data in which dicts may lie. -/
namespace DL
open PySem PySem.Spec L2
open PyProof.Rows hiding St
mutual
def D.pyq : D → PyData
  | .non => .none
  | .bl b => .bool b
  | .int i => .int i
  | .str x => .str x
  | .tup l => .tuple (pyqAll l)
  | .lst l => .list (pyqAll l)
  | .dic kvs => .dict (pyqKv kvs)
  | .ins _ _ | .pail | .scr _ | .raw _ | .exn _ _ _ | .dik _ | .kd _ _ _ _ => .none
def pyqAll : List D → List PyData
  | [] => []
  | d :: l => d.pyq :: pyqAll l
def pyqKv : List (Str × D) → List (PyData × PyData)
  | [] => []
  | (k, d) :: l => (.str k, d.pyq) :: pyqKv l
end
mutual
def D.pureq : D → Bool
  | .non => true
  | .bl _ => true
  | .int _ => true
  | .str x => PyData.strOk x
  | .tup l => pureqAll l
  | .lst l => pureqAll l
  | .dic kvs => pureqKv kvs
  | .ins _ _ => false
  | .pail => false
  | .scr _ => false
  | .raw _ => false
  | .exn _ _ _ => false
  | .dik _ => false
  | .kd _ _ _ _ => false
def pureqAll : List D → Bool
  | [] => true
  | d :: l => d.pureq && pureqAll l
def pureqKv : List (Str × D) → Bool
  | [] => true
  | (k, d) :: l => PyData.strOk k && d.pureq && pureqKv l
end
section
variable {X : Cx} {pins : List (Addr × Obj)} {σ : L2.St} {H : Hp} {s : Shared}
theorem off_sys (I : Inv X pins σ H s) (hs : SysB X.base) {a : Addr} {o : HO} (h : H a = some o) : a ≠ sysModules := fun e => by
  obtain ⟨m, ob, es, ep, g, _⟩ := hs
  have := I.base.free _ _ (I.ok.bs _ _ g).1 (I.ok.bs _ _ g).2 (I.ok.noex _ _ g)
  rw [e, this] at h
  cases h
theorem at_list (I : Inv X pins σ H s) {a : Addr} {xs : List V} (h : H a = some (.lst xs)) : ∃ (its : List Value) (o : Obj) (n : Nat), Vals xs its ∧ s.heap.get? a = some o ∧ o.cls = .type "list" ∧ o.data = .seq its.toArray n := by
  obtain ⟨its, rv, ⟨ob, n, ho, hc, hdn, hd⟩, _⟩ := I.list (show SqL X.K H a xs from .inl (.inl h))
  exact ⟨its, ob, n, rv, ho, hc, hd⟩
theorem at_tup (I : Inv X pins σ H s) {a : Addr} {xs : List V} (h : SqT X.K H a xs) : ∃ (its : List Value) (o : Obj) (n : Nat), Vals xs its ∧ s.heap.get? a = some o ∧ o.cls = .type "tuple" ∧ o.data = .seq its.toArray n := by
  obtain ⟨its, rv, tp, _⟩ := I.tuple h
  obtain ⟨ob, ho, hc, n, hd⟩ := show s.heap.IsTuple a its.toArray from tp
  exact ⟨its, ob, n, rv, ho, hc, hd⟩
/-- the entries of a dict with texts as keys -/
theorem pairs_strs {P : Program} {w : World} : ∀ {es : List DictEntry} {ps : List (Key × Value)} {xs : List (Str × V)}, Pairs (mixKind P w) es ps → KV (xs.map fun p => ((Sum.inr p.1 : Key), p.2)) ps →
    ∃ us : List Value, Vals (xs.map (·.2)) us ∧ es.map (·.val) = us ∧ ∃ ks : List Value, es.map (·.key) = ks ∧ Paired (fun (x : Str) (k : Value) => ∃ t, k = .str x t) (xs.map (·.1)) ks
  | [], _, [], h, r => by cases h; exact ⟨[], .nil, rfl, [], rfl, .nil⟩
  | [], _, _ :: _, h, r => by cases h; cases r
  | e :: es, _, [], h, r => by cases r; cases h
  | e :: es, _, x :: xs, h, r => by
    cases h with
    | cons hk hv h =>
      cases r with
      | cons r1 r =>
        obtain ⟨us, v1, v2, ks, k1, k2⟩ := pairs_strs h r
        obtain ⟨e1, e2⟩ := r1
        simp only at e1 e2
        rw [mixKind_is, ← e1] at hk
        rcases keyIs_shape hk with ⟨i, t, z, _⟩ | ⟨y, t, z, z2⟩
        · cases z
        · cases z
          exact ⟨e.val :: us, .cons (by rw [hv]; exact e2) v1, by rw [List.map_cons, v2], e.key :: ks, by rw [List.map_cons, k1], .cons ⟨t, z2⟩ k2⟩
theorem reads_keys {h : Heap} : ∀ {xs : List Str} {ks : List Value}, Paired (fun (x : Str) (k : Value) => ∃ t, k = .str x t) xs ks → ReadsAll h ks (xs.map PyData.str) []
  | [], _, p => by cases p; exact .nil
  | x :: xs, _, p => by
    cases p with
    | cons h1 h2 =>
      obtain ⟨t, rfl⟩ := h1
      exact ReadsAll.cons (as := []) (bs := []) (.str x t) (reads_keys h2)
theorem pyqKv_fst : ∀ (l : List (Str × D)), (pyqKv l).map (·.1) = (l.map (·.1)).map PyData.str
  | [] => rfl
  | (k, d) :: l => by simp only [pyqKv, List.map_cons, pyqKv_fst l]
theorem repKV_fst {K : PySem.W.Frag} {H0 : Hp} : ∀ {xs : List (Str × V)} {ds : List (Str × D)}, RepKV K H0 xs ds → xs.map (·.1) = ds.map (·.1)
  | _, _, .nil => rfl
  | _, _, .cons _ r => by simp only [List.map_cons, repKV_fst r]
mutual
theorem reads_rep (I : Inv X pins σ H s) (hs : SysB X.base) {H0 : Hp} (e : Ex H0 H) : ∀ {v : V} {d : D} {u : Value}, Rep X.K H0 v d → d.pureq = true → RelV v u → ∃ as, Reads s.heap u d.pyq as ∧ sysModules ∉ as
  | _, _, _, .non, _, r => by cases r; exact ⟨_, .none, by simp⟩
  | _, _, _, .bl b, _, r => by cases r; exact ⟨_, .bool b, by simp⟩
  | _, _, _, .int i, _, r => by obtain ⟨t, rfl⟩ := r; exact ⟨_, .int i t, by simp⟩
  | _, _, _, .str x, _, r => by obtain ⟨t, rfl⟩ := r; exact ⟨_, .str x t, by simp⟩
  | _, _, _, .tup h hr, p, r => by
    cases r
    obtain ⟨its, o, n, rv, g1, g2, g3⟩ := at_tup I (sqT_ex e h)
    obtain ⟨as, ra, na⟩ := reads_all I hs e hr (by simpa only [D.pureq] using p) rv
    exact ⟨as, by simp only [D.pyq]; exact .tuple g1 g2 g3 (by rw [List.toList_toArray]; exact ra), na⟩
  | _, _, _, .lst h hr, p, r => by
    cases r
    obtain ⟨its, o, n, rv, g1, g2, g3⟩ := at_list I (e _ _ h)
    obtain ⟨as, ra, na⟩ := reads_all I hs e hr (by simpa only [D.pureq] using p) rv
    exact ⟨_ :: as, by simp only [D.pyq]; exact .list g1 g2 g3 (by rw [List.toList_toArray]; exact ra), fun z => (List.mem_cons.mp z).elim (fun z => off_sys I hs (e _ _ h) z.symm) na⟩
  | _, _, _, .dic (xs := xs) (ds := ds) h hr, p, r => by
    cases r
    obtain ⟨_, _, vs, kv, o, es, ep, g1, g2, g3, _, ps, _⟩ := dk_of I.hok (e _ _ h)
    obtain ⟨us, v1, v2, ks, k1, k2⟩ := pairs_strs ps kv
    obtain ⟨bs, rb, nb⟩ := reads_kv I hs e hr (by simpa only [D.pureq] using p) v1
    have rk : ReadsAll s.heap (es.toList.map (·.key)) ((pyqKv ds).map (·.1)) [] := by rw [k1, pyqKv_fst, ← repKV_fst hr]; exact reads_keys k2
    exact ⟨_, by simp only [D.pyq]; exact .dict g1 g2.1 g3 rk (by rw [v2]; exact rb), fun z => by
      simp only [List.append_nil, List.cons_append, List.nil_append, List.mem_cons] at z
      exact z.elim (fun z => off_sys I hs (e _ _ h) z.symm) nb⟩
  | _, _, _, .ins _ _, p, _ => by simp [D.pureq] at p
  | _, _, _, .pail _, p, _ => by simp [D.pureq] at p
  | _, _, _, .scr _, p, _ => by simp [D.pureq] at p
  | _, _, _, .raw _, p, _ => by simp [D.pureq] at p
  | _, _, _, .exn _ _, p, _ => by simp [D.pureq] at p
  | _, _, _, .dik _ _, p, _ => by simp [D.pureq] at p
  | _, _, _, .kd _ _, p, _ => by simp [D.pureq] at p
theorem reads_all (I : Inv X pins σ H s) (hs : SysB X.base) {H0 : Hp} (e : Ex H0 H) : ∀ {vs : List V} {ds : List D} {us : List Value}, RepAll X.K H0 vs ds → pureqAll ds = true → Vals vs us → ∃ as, ReadsAll s.heap us (pyqAll ds) as ∧ sysModules ∉ as
  | _, _, _, .nil, _, r => by cases r; exact ⟨_, .nil, by simp⟩
  | _, _, _, .cons h hr, p, r => by
    simp only [pureqAll, Bool.and_eq_true] at p
    cases r with
    | cons r1 r2 =>
      obtain ⟨as, a1, a2⟩ := reads_rep I hs e h p.1 r1
      obtain ⟨bs, b1, b2⟩ := reads_all I hs e hr p.2 r2
      exact ⟨as ++ bs, by simp only [pyqAll]; exact .cons a1 b1, fun z => (List.mem_append.mp z).elim a2 b2⟩
theorem reads_kv (I : Inv X pins σ H s) (hs : SysB X.base) {H0 : Hp} (e : Ex H0 H) : ∀ {xs : List (Str × V)} {ds : List (Str × D)} {us : List Value}, RepKV X.K H0 xs ds → pureqKv ds = true → Vals (xs.map (·.2)) us → ∃ as, ReadsAll s.heap us ((pyqKv ds).map (·.2)) as ∧ sysModules ∉ as
  | _, _, _, .nil, _, r => by cases r; exact ⟨_, .nil, by simp⟩
  | _, _, _, .cons h hr, p, r => by
    simp only [pureqKv, Bool.and_eq_true] at p
    cases r with
    | cons r1 r2 =>
      obtain ⟨as, a1, a2⟩ := reads_rep I hs e h p.1.2 r1
      obtain ⟨bs, b1, b2⟩ := reads_kv I hs e hr p.2 r2
      exact ⟨as ++ bs, by simp only [pyqKv, List.map_cons]; exact .cons a1 b1, fun z => (List.mem_append.mp z).elim a2 b2⟩
end
end
end DL
/-! DL44: what repr tells is a text of right signs. -/
namespace DL
open PySem PySem.Spec L2
open PySem.Builtin.Str (reprChar)
open PyProof.Rows hiding St
/-- all signs are right -/
def Sg (x : Str) : Prop := ∀ c ∈ x.cps.toList, c < 0x110000
theorem sg_iff {x : Str} : PyData.strOk x = true ↔ Sg x := by
  unfold PyData.strOk Sg
  rw [← Array.all_toList, List.all_eq_true]
  simp
theorem Sg.add {x y : Str} (hx : Sg x) (hy : Sg y) : Sg (x ++ y) := fun c hc => by
  have e : (x ++ y).cps.toList = x.cps.toList ++ y.cps.toList := by
    show (x.cps ++ y.cps).toList = _
    simp
  rw [e] at hc
  exact (List.mem_append.mp hc).elim (hx c) (hy c)
theorem sg_lit (s : String) : Sg (Str.ofString s) := fun c hc => by
  rw [Str.ofString_eq_toList] at hc
  have hc : c ∈ s.toList.map Char.toNat := by simpa using hc
  obtain ⟨ch, _, rfl⟩ := List.mem_map.mp hc
  have v := ch.valid
  show ch.val.toNat < 0x110000
  rcases v with h | ⟨_, h⟩
  · have : ch.val.toNat < 0xd800 := h
    omega
  · exact h
theorem sg_char {q c : Nat} (hc : c < 0x110000) : ∀ y ∈ reprChar q c, y < 0x110000 := by
  have dig : ∀ w y, y ∈ (List.replicate (w - ((Nat.toDigits 16 c).map Char.toNat).length) 48 ++ (Nat.toDigits 16 c).map Char.toNat) → y < 0x110000 := fun w y hy => by
    rcases List.mem_append.mp hy with h | h
    · rw [List.eq_of_mem_replicate h]; decide
    · obtain ⟨ch, _, rfl⟩ := List.mem_map.mp h
      have v := ch.valid
      show ch.val.toNat < 0x110000
      rcases v with h | ⟨_, h⟩
      · have : ch.val.toNat < 0xd800 := h
        omega
      · exact h
  intro y hy
  unfold reprChar at hy
  simp only at hy
  split at hy
  · simp only [List.mem_cons, List.not_mem_nil, or_false] at hy; omega
  split at hy
  · simp only [List.mem_cons, List.not_mem_nil, or_false] at hy; omega
  split at hy
  · simp only [List.mem_cons, List.not_mem_nil, or_false] at hy; omega
  split at hy
  · simp only [List.mem_cons, List.not_mem_nil, or_false] at hy; omega
  split at hy
  · simp only [List.mem_cons, List.not_mem_nil, or_false] at hy; omega
  split at hy
  · rcases List.mem_append.mp hy with h | h
    · simp only [List.mem_cons, List.not_mem_nil, or_false] at h; omega
    · exact dig _ _ h
  split at hy
  · rcases List.mem_append.mp hy with h | h
    · simp only [List.mem_cons, List.not_mem_nil, or_false] at h; omega
    · exact dig _ _ h
  · rcases List.mem_append.mp hy with h | h
    · simp only [List.mem_cons, List.not_mem_nil, or_false] at h; omega
    · exact dig _ _ h
theorem sg_fold {q : Nat} : ∀ (l : List Nat) (acc : Array Nat), (∀ c ∈ l, c < 0x110000) → (∀ c ∈ acc.toList, c < 0x110000) → ∀ c ∈ (l.foldl (fun out c => out ++ (reprChar q c).toArray) acc).toList, c < 0x110000
  | [], acc, _, ha => ha
  | x :: l, acc, hl, ha => sg_fold l _ (fun c hc => hl c (List.mem_cons_of_mem _ hc)) fun c hc => by
    have hc : c ∈ acc.toList ++ reprChar q x := by simpa using hc
    exact (List.mem_append.mp hc).elim (ha c) (sg_char (hl x List.mem_cons_self) c)
theorem sg_repr {x : Str} (h : Sg x) : Sg (reprText x) := fun c hc => by
  unfold reprText at hc
  rw [← Array.foldl_toList] at hc
  have q : reprQuote x < 0x110000 := by unfold reprQuote; split <;> decide
  have hc : c ∈ (x.cps.toList.foldl (fun out c => out ++ (reprChar (reprQuote x) c).toArray) #[reprQuote x]).toList ++ [reprQuote x] := by simpa using hc
  rcases List.mem_append.mp hc with h2 | h2
  · exact sg_fold _ _ h (fun c hc => by
      have : c = reprQuote x := by simpa using hc
      rw [this]; exact q) c h2
  · rw [List.mem_singleton.mp h2]; exact q
theorem sg_from : ∀ (ts : List Str) (k : Nat) (acc : Str), Sg acc → (∀ t ∈ ts, Sg t) → Sg (textFrom k acc ts)
  | [], k, acc, ha, _ => ha
  | t :: r, k, acc, ha, h => by
    show Sg (textFrom _ _ r)
    refine sg_from r _ _ ?_ fun t ht => h t (List.mem_cons_of_mem _ ht)
    refine Sg.add ?_ (h t List.mem_cons_self)
    split
    · exact Sg.add ha (sg_lit _)
    · exact ha
theorem sg_join (sep : Str) (hs : Sg sep) : ∀ (ts : List Str), (∀ t ∈ ts, Sg t) → Sg (Str.join sep ts)
  | [], _ => sg_lit ""
  | [t], h => h t List.mem_cons_self
  | t :: u :: r, h => Sg.add (Sg.add (h t List.mem_cons_self) hs) (sg_join sep hs (u :: r) fun t ht => h t (List.mem_cons_of_mem _ ht))
mutual
theorem sg_shown : ∀ d : D, d.pureq = true → Sg d.pyq.shown
  | .non, _ => sg_lit _
  | .bl true, _ => sg_lit _
  | .bl false, _ => sg_lit _
  | .int i, _ => sg_lit _
  | .str x, h => sg_repr (sg_iff.mp h)
  | .tup l, h => by
    have := sg_all l (by simpa only [D.pureq] using h)
    simp only [D.pyq, PyData.shown]
    unfold tupleText
    refine Sg.add (Sg.add (sg_lit _) (sg_join _ (sg_lit _) _ this)) ?_
    split <;> exact sg_lit _
  | .lst l, h => by
    have := sg_all l (by simpa only [D.pureq] using h)
    simp only [D.pyq, PyData.shown]
    unfold listText
    exact Sg.add (sg_from _ _ _ (sg_lit _) this) (sg_lit _)
  | .dic l, h => by
    have := sg_kv l (by simpa only [D.pureq] using h)
    simp only [D.pyq, PyData.shown]
    unfold dictText
    exact Sg.add (Sg.add (sg_lit _) (sg_join _ (sg_lit _) _ this)) (sg_lit _)
  | .ins _ _, h => by simp [D.pureq] at h
  | .pail, h => by simp [D.pureq] at h
  | .scr _, h => by simp [D.pureq] at h
  | .raw _, h => by simp [D.pureq] at h
  | .exn _ _ _, h => by simp [D.pureq] at h
  | .dik _, h => by simp [D.pureq] at h
  | .kd _ _ _ _, h => by simp [D.pureq] at h
theorem sg_all : ∀ l : List D, pureqAll l = true → ∀ t ∈ PyData.shownAll (pyqAll l), Sg t
  | [], _, t, ht => by simp [pyqAll, PyData.shownAll] at ht
  | d :: l, h, t, ht => by
    simp only [pureqAll, Bool.and_eq_true] at h
    simp only [pyqAll, PyData.shownAll, List.mem_cons] at ht
    rcases ht with rfl | ht
    · exact sg_shown d h.1
    · exact sg_all l h.2 t ht
theorem sg_kv : ∀ l : List (Str × D), pureqKv l = true → ∀ t ∈ PyData.shownKv (pyqKv l), Sg t
  | [], _, t, ht => by simp [pyqKv, PyData.shownKv] at ht
  | (k, d) :: l, h, t, ht => by
    simp only [pureqKv, Bool.and_eq_true] at h
    simp only [pyqKv, PyData.shownKv, List.mem_cons] at ht
    rcases ht with rfl | ht
    · refine Sg.add (Sg.add ?_ (sg_lit _)) (sg_shown d h.1.2)
      exact sg_repr (sg_iff.mp h.1.1)
    · exact sg_kv l h.2 t ht
end
/-- data that may be shown, dicts among them: not too deep, not too much -/
structure FineQ (n W : Nat) (d : D) : Prop where
  p : d.pureq = true
  n : d.pyq.depth ≤ n
  w : d.pyq.weight ≤ W
  s : d.pyq.showable = true
  l : d.pyq.leavesShort 45 = true
theorem FineQ.mono {n W m V : Nat} {d : D} (h : FineQ n W d) (hn : n ≤ m) (hw : W ≤ V) : FineQ m V d := ⟨h.p, Nat.le_trans h.n hn, Nat.le_trans h.w hw, h.s, h.l⟩
theorem FineQ.len {n W : Nat} {d : D} (h : FineQ n W d) : d.pyq.shown.length ≤ 47 * W + 45 := by
  have := PyData.shown_le 45 (by decide) d.pyq h.l
  have w := h.w
  omega
theorem FineQ.ok {n W : Nat} {d : D} (h : FineQ n W d) : PyData.strOk d.pyq.shown = true := sg_iff.mpr (sg_shown d h.p)
def rReprQ (K : PySem.W.Frag) : List V → Hp → VK → Prop := fun xs H Q => ∃ (v : V) (d : D) (H0 : Hp), xs = [v] ∧ Ex H0 H ∧ Rep K H0 v d ∧ d.pureq = true ∧ d.pyq.showable = true ∧ d.pyq.depth ≤ 64 ∧ d.pyq.shown.length ≤ sizeLine ∧ Q (.str d.pyq.shown) H
theorem call_reprQ {X : Cx} (hs : SysB X.base) (hg : X.A.guards = some []) (hu : X.A.units + 65 < cLine) : CallR X (.builtin "repr") (rReprQ X.K) := by
  intro pins s σ H xs us Q I r ⟨v, d, H0, e, ex, rp, h0, h1, h3, h4, q⟩
  subst e
  obtain ⟨u, rfl, ru⟩ := vals1 r
  obtain ⟨as, rd, na⟩ := reads_rep I hs ex rp h0 ru
  generalize d.pyq = y at rd h1 h3 h4 q
  cases rd with
  | none => exact P.repr_of_none ⟨.str _, H, I.tok _, ⟨_, rfl⟩, q⟩
  | bool b => exact P.repr_of_bool ⟨.str _, H, I.tok _, ⟨_, rfl⟩, q⟩
  | int i t => exact P.repr_of_int (by simpa [PyData.showable] using h1) ⟨.str _, H, I.tok _, ⟨_, rfl⟩, q⟩
  | str x t => exact P.repr_of_str ⟨.str _, H, I.tok _, ⟨_, rfl⟩, q⟩ h4
  | list a b c e => exact repr_of_reads' (.list a b c e) h1 (fun _ => na) hg (by omega) (fun _ _ z => z) (fun h' u tk keep => ⟨.str _, H, I.kept keep, ⟨_, rfl⟩, q⟩) h4
  | tuple a b c e => exact repr_of_reads' (.tuple a b c e) h1 (fun _ => na) hg (by omega) (fun _ _ z => z) (fun h' u tk keep => ⟨.str _, H, I.kept keep, ⟨_, rfl⟩, q⟩) h4
  | dict a b c e f => exact repr_of_reads' (.dict a b c e f) h1 (fun _ => na) hg (by omega) (fun _ _ z => z) (fun h' u tk keep => ⟨.str _, H, I.kept keep, ⟨_, rfl⟩, q⟩) h4
def reprQG (ds : List D) (Φ : D → Prop) : Prop := ∃ d, ds = [d] ∧ FineQ 64 350000 d ∧ Φ (.str d.pyq.shown)
theorem cbd_reprQ {K : PySem.W.Frag} : CbD K (rReprQ K) reprQG := fun H0 H xs ds Φ Q e rx ⟨d, hd, f, g⟩ k => by
  subst hd
  obtain ⟨v, rfl, r⟩ := vals_one rx
  exact ⟨v, d, H0, rfl, e, r, f.p, f.s, f.n, Nat.le_trans f.len (by decide), fin0 e g (.str _) k⟩
section
variable {X : Cx} (K : PySem.W.Frag) {j : Nat}
theorem k_reprQ (hs : SysB X.base) (room : RoomG j X.A) (h : X.K = K := by rfl) : CallR X (.builtin "repr") (rReprQ K) := h ▸ call_reprQ hs room.g (hu65 room)
theorem k_reprQE (hs : SysB X.base) (room : RoomE j X.A) (h : X.K = K := by rfl) : CallR X (.builtin "repr") (rReprQ K) := h ▸ call_reprQ hs room.g (hu65E room)
end
end DL
/-! DL45: a tuple of whatever it is beside (). -/
namespace DL
open PySem PySem.Spec L2
open PyProof.Rows hiding St
section
variable {prog : Program} {w : World} {A : Around} {E : Value → Shared → Prop} {s : Shared}
theorem ne_empty {l b : Addr} {its : Array Value} {Q : Value → Shared → Prop} (h1 : s.heap.IsTuple l its) (h2 : s.heap.IsTuple b #[]) (hu : A.units + 1 < cLine) (h : Q (.bool (!(its.size == 0))) s) : wpAny (model prog w) A (compareOp .NotEq (.ref l) (.ref b)) Q E s := by
  obtain ⟨⟨c, dd, dt, sl⟩, ho, hc, n, hd⟩ := id h1
  obtain ⟨⟨c', dd', dt', sl'⟩, ho', hc', n', hd'⟩ := id h2
  simp only at hc hd hc' hd'
  subst hc hd hc' hd'
  have e : (!((List.range (min its.size (#[] : Array Value).size)).all (fun _ => true) && its.size == (#[] : Array Value).size)) = !(its.size == 0) := by simp
  exact wpAny_richCompare_same_room (T := "tuple") (op := .NotEq) ⟨_, ho, rfl⟩ ⟨_, ho', rfl⟩ F.slot_tuple_ne (call_meets F.slot_tuple_ne ⟨_, ho, rfl⟩ F.entry_tuple_ne (F.args_tuple_ne_2 _ _)
    (SeqAt.tuple_neAt l b its #[] n n' dd dd' sl sl' fun _ => true) ⟨ho, ho', fun j _ hj => absurd hj (Nat.not_lt_zero j), show Value.bool (!((List.range (min its.size (#[] : Array Value).size)).all (fun _ => true) && its.size == (#[] : Array Value).size)) ≠ Value.notImplemented ∧ Q (.bool (!((List.range (min its.size (#[] : Array Value).size)).all (fun _ => true) && its.size == (#[] : Array Value).size))) s from ⟨(fun x => nomatch x), by rw [e]; exact h⟩⟩) (by omega)
end
def rNeT0 (K : PySem.W.Frag) : R2 := fun x y H Q => ∃ (a b : Addr) (xs : List V), x = .ref a ∧ y = .ref b ∧ SqT K H a xs ∧ SqT K H b [] ∧ Q (.bl (!(xs.length == 0))) H
section
variable {X : Cx}
theorem op_neT0 (hu : X.A.units + 64 < cLine) : OpR X (compareOp .NotEq) (rNeT0 X.K) := by
  intro pins s σ H x y v u Q I rx ry ⟨a, b, xs, ex, ey, h1, h2, q⟩
  subst ex ey
  cases rx; cases ry
  obtain ⟨its, rv, tp, _⟩ := I.tuple h1
  obtain ⟨its', rv', tp', _⟩ := I.tuple h2
  cases rv'
  refine ne_empty (s := s) tp tp' (by omega) ⟨.bl _, H, I, ?_, q⟩
  show Value.bool _ = Value.bool _
  rw [List.size_toArray, rv.length]
theorem k_neT0 (K : PySem.W.Frag) {j : Nat} (room : RoomG j X.A) (h : X.K = K := by rfl) : OpR X (compareOp .NotEq) (rNeT0 K) := h ▸ op_neT0 (hu64 room)
end
def neT0G (x y : D) (Φ : D → Prop) : Prop := ∃ l, x = .tup l ∧ y = .tup [] ∧ Φ (.bl (!(l.length == 0)))
theorem opd_neT0 {K : PySem.W.Frag} : OpD K (rNeT0 K) neT0G := fun H0 H x y dx dy Φ Q e rx ry ⟨l, ex, ey, g⟩ k => by
  subst ex ey
  cases rx with
  | tup h1 r1 =>
    cases ry with
    | tup h2 r2 =>
      cases r2
      exact ⟨_, _, _, rfl, rfl, sqT_ex e h1, sqT_ex e h2, by rw [r1.length]; exact fin0 e g (.bl _) k⟩
end DL
/-! DL46: values of any kind, bounded: depth, numbers, weight. -/
namespace DL
open PySem PySem.Spec L2
open PyProof.Rows hiding St
mutual
def D.ib : D → Nat
  | .int i => i.natAbs
  | .tup l => ibAll l
  | .lst l => ibAll l
  | .dic l => ibKv l
  | .non | .bl _ | .str _ | .ins _ _ | .pail | .scr _ | .raw _ | .exn _ _ _ | .dik _ | .kd _ _ _ _ => 0
def ibAll : List D → Nat
  | [] => 0
  | d :: l => max d.ib (ibAll l)
def ibKv : List (Str × D) → Nat
  | [] => 0
  | (_, d) :: l => max d.ib (ibKv l)
end
theorem pureqAll_iff : ∀ {l : List D}, pureqAll l = true ↔ ∀ d ∈ l, d.pureq = true
  | [] => by simp [pureqAll]
  | d :: l => by simp [pureqAll, pureqAll_iff (l := l)]
theorem depthAll_iff {n : Nat} : ∀ {l : List D}, PyData.depthAll (pyqAll l) ≤ n ↔ ∀ d ∈ l, d.pyq.depth ≤ n
  | [] => by simp [pyqAll, PyData.depthAll]
  | d :: l => by simp [pyqAll, PyData.depthAll, depthAll_iff (l := l), Nat.max_le]
theorem ibAll_iff {B : Nat} : ∀ {l : List D}, ibAll l ≤ B ↔ ∀ d ∈ l, d.ib ≤ B
  | [] => by simp [ibAll]
  | d :: l => by simp [ibAll, ibAll_iff (l := l), Nat.max_le]
def wts (l : List D) : Nat := (l.map fun d => d.pyq.weight + 1).sum
theorem weightAll_eq : ∀ l : List D, PyData.weightAll (pyqAll l) = wts l
  | [] => rfl
  | d :: l => by simp only [pyqAll, PyData.weightAll, weightAll_eq l, wts, List.map_cons, List.sum_cons]
theorem wts_append (l r : List D) : wts (l ++ r) = wts l + wts r := by unfold wts; rw [List.map_append, List.sum_append]
theorem wts_cons (d : D) (l : List D) : wts (d :: l) = d.pyq.weight + 1 + wts l := rfl
theorem wts_split {l : List D} {i : Nat} {d : D} (h : l[i]? = some d) : wts l = wts (l.take i) + (d.pyq.weight + 1) + wts (l.drop (i + 1)) := by
  obtain ⟨hi, hd⟩ := List.getElem?_eq_some_iff.mp h
  have e := List.take_append_drop i l
  rw [List.drop_eq_getElem_cons hi, hd] at e
  have := congrArg wts e
  rw [wts_append, wts_cons] at this
  omega
theorem wts_rev (l : List D) : wts l.reverse = wts l := by
  unfold wts
  rw [List.map_reverse, List.sum_reverse]
theorem len_wts : ∀ l : List D, l.length ≤ wts l
  | [] => Nat.le_refl _
  | d :: l => by have := len_wts l; rw [wts_cons, List.length_cons]; omega
/-- plain data, dicts among it: not too deep, its numbers bounded -/
structure Vb (B n : Nat) (d : D) : Prop where
  p : d.pureq = true
  n : d.pyq.depth ≤ n
  b : d.ib ≤ B
theorem Vb.mono {B C n m : Nat} {d : D} (h : Vb B n d) (hB : B ≤ C) (hn : n ≤ m) : Vb C m d := ⟨h.p, Nat.le_trans h.n hn, Nat.le_trans h.b hB⟩
theorem vb_tup {B n : Nat} {l : List D} : Vb B (n + 1) (.tup l) ↔ ∀ d ∈ l, Vb B n d := by
  constructor
  · rintro ⟨a, b, c⟩ d hd
    simp only [D.pureq, pureqAll_iff] at a
    simp only [D.pyq, PyData.depth, Nat.add_le_add_iff_right, depthAll_iff] at b
    simp only [D.ib, ibAll_iff] at c
    exact ⟨a d hd, b d hd, c d hd⟩
  · intro h
    refine ⟨?_, ?_, ?_⟩
    · simp only [D.pureq, pureqAll_iff]; exact fun d hd => (h d hd).p
    · simp only [D.pyq, PyData.depth, Nat.add_le_add_iff_right, depthAll_iff]; exact fun d hd => (h d hd).n
    · simp only [D.ib, ibAll_iff]; exact fun d hd => (h d hd).b
theorem vb_lst {B n : Nat} {l : List D} : Vb B (n + 1) (.lst l) ↔ ∀ d ∈ l, Vb B n d := by
  constructor
  · rintro ⟨a, b, c⟩ d hd
    simp only [D.pureq, pureqAll_iff] at a
    simp only [D.pyq, PyData.depth, Nat.add_le_add_iff_right, depthAll_iff] at b
    simp only [D.ib, ibAll_iff] at c
    exact ⟨a d hd, b d hd, c d hd⟩
  · intro h
    refine ⟨?_, ?_, ?_⟩
    · simp only [D.pureq, pureqAll_iff]; exact fun d hd => (h d hd).p
    · simp only [D.pyq, PyData.depth, Nat.add_le_add_iff_right, depthAll_iff]; exact fun d hd => (h d hd).n
    · simp only [D.ib, ibAll_iff]; exact fun d hd => (h d hd).b
theorem vb_pos {B n : Nat} {l : List D} (h : Vb B n (.tup l)) : ∃ m, n = m + 1 := by
  have := h.n
  simp only [D.pyq, PyData.depth] at this
  exact ⟨n - 1, by omega⟩
theorem vb_int {B n : Nat} {i : Int} (h : i.natAbs ≤ B) : Vb B n (.int i) := ⟨rfl, Nat.zero_le _, h⟩
theorem wt_tup (l : List D) : (D.tup l).pyq.weight = wts l := by simp only [D.pyq, PyData.weight, weightAll_eq]
theorem wt_lst (l : List D) : (D.lst l).pyq.weight = wts l := by simp only [D.pyq, PyData.weight, weightAll_eq]
theorem wt_int (i : Int) : (D.int i).pyq.weight = if i == 0 then 0 else i.natAbs.log2 + 1 := rfl
mutual
theorem vb_leaves : ∀ d : D, d.pureq = true → d.ib < 10 ^ 44 → d.pyq.showable = true ∧ d.pyq.leavesShort 45 = true
  | .non, _, _ => ⟨by simp [D.pyq, PyData.showable], by simp [D.pyq, PyData.leavesShort]⟩
  | .bl _, _, _ => ⟨by simp [D.pyq, PyData.showable], by simp [D.pyq, PyData.leavesShort]⟩
  | .int i, _, h => by
    have h : i.natAbs < 10 ^ 44 := h
    refine ⟨?_, ?_⟩
    · show PyData.showable (.int i) = true
      simp only [PyData.showable, decide_eq_true_eq]
      exact log2_lt (k := 1920) (Nat.lt_trans h (by decide +kernel)) (by decide)
    · show PyData.leavesShort 45 (.int i) = true
      simp only [PyData.leavesShort, decide_eq_true_eq]
      show (Str.ofString (toString i)).length ≤ 45
      rw [PySem.ofString_length]
      exact int_text_length_le10 (k := 44) (by decide) h
  | .str x, h, _ => by
    refine ⟨by simp [D.pyq, PyData.showable], ?_⟩
    show PyData.leavesShort 45 (.str x) = true
    simp only [PyData.leavesShort, List.all_eq_true, decide_eq_true_eq]
    intro c hc
    exact Nat.lt_trans (sg_iff.mp h c hc) (by decide)
  | .tup l, h, b => by
    obtain ⟨a, c⟩ := vb_leavesAll l (by simpa only [D.pureq] using h) (by simpa only [D.ib] using b)
    exact ⟨by simpa only [D.pyq, PyData.showable] using a, by simpa only [D.pyq, PyData.leavesShort] using c⟩
  | .lst l, h, b => by
    obtain ⟨a, c⟩ := vb_leavesAll l (by simpa only [D.pureq] using h) (by simpa only [D.ib] using b)
    exact ⟨by simpa only [D.pyq, PyData.showable] using a, by simpa only [D.pyq, PyData.leavesShort] using c⟩
  | .dic l, h, b => by
    obtain ⟨a, c⟩ := vb_leavesKv l (by simpa only [D.pureq] using h) (by simpa only [D.ib] using b)
    exact ⟨by simpa only [D.pyq, PyData.showable] using a, by simpa only [D.pyq, PyData.leavesShort] using c⟩
  | .ins _ _, h, _ => by simp [D.pureq] at h
  | .pail, h, _ => by simp [D.pureq] at h
  | .scr _, h, _ => by simp [D.pureq] at h
  | .raw _, h, _ => by simp [D.pureq] at h
  | .exn _ _ _, h, _ => by simp [D.pureq] at h
  | .dik _, h, _ => by simp [D.pureq] at h
  | .kd _ _ _ _, h, _ => by simp [D.pureq] at h
theorem vb_leavesAll : ∀ l : List D, pureqAll l = true → ibAll l < 10 ^ 44 → PyData.showableAll (pyqAll l) = true ∧ PyData.leavesShortAll 45 (pyqAll l) = true
  | [], _, _ => ⟨by simp [pyqAll, PyData.showableAll], by simp [pyqAll, PyData.leavesShortAll]⟩
  | d :: l, h, b => by
    simp only [pureqAll, Bool.and_eq_true] at h
    simp only [ibAll] at b
    obtain ⟨a, c⟩ := vb_leaves d h.1 (by omega)
    obtain ⟨e, f⟩ := vb_leavesAll l h.2 (by omega)
    exact ⟨by simp only [pyqAll, PyData.showableAll, a, e, Bool.and_self], by simp only [pyqAll, PyData.leavesShortAll, c, f, Bool.and_self]⟩
theorem vb_leavesKv : ∀ l : List (Str × D), pureqKv l = true → ibKv l < 10 ^ 44 → PyData.showableKv (pyqKv l) = true ∧ PyData.leavesShortKv 45 (pyqKv l) = true
  | [], _, _ => ⟨by simp [pyqKv, PyData.showableKv], by simp [pyqKv, PyData.leavesShortKv]⟩
  | (k, d) :: l, h, b => by
    simp only [pureqKv, Bool.and_eq_true] at h
    simp only [ibKv] at b
    obtain ⟨a, c⟩ := vb_leaves d h.1.2 (by omega)
    obtain ⟨e, f⟩ := vb_leavesKv l h.2 (by omega)
    have kk : PyData.leavesShort 45 (.str k) = true := by
      simp only [PyData.leavesShort, List.all_eq_true, decide_eq_true_eq]
      intro x hx
      exact Nat.lt_trans (sg_iff.mp h.1.1 x hx) (by decide)
    exact ⟨by simp only [pyqKv, PyData.showableKv, PyData.showable, a, e, Bool.and_self], by simp only [pyqKv, PyData.leavesShortKv, kk, c, f, Bool.and_self]⟩
end
theorem Vb.fine {B n W : Nat} {d : D} (h : Vb B n d) (hB : B < 10 ^ 44) (hw : d.pyq.weight ≤ W) : FineQ n W d := by
  obtain ⟨a, b⟩ := vb_leaves d h.p (Nat.lt_of_le_of_lt h.b hB)
  exact ⟨h.p, h.n, hw, a, b⟩
theorem FineQ.str {n W : Nat} {x : Str} (h : PyData.strOk x = true) (hw : x.length ≤ W) : FineQ n W (.str x) := by
  obtain ⟨a, b⟩ := vb_leaves (.str x) h (by show 0 < 10 ^ 44; decide)
  exact ⟨h, Nat.zero_le _, hw, a, b⟩
theorem shp_told {n W : Nat} {d : D} (h : FineQ n W d) {s : Str} (hs : PyData.strOk s = true) : Shp 64 (.lst [.str s, .str d.pyq.shown]) := (Shp.lst (n := 63) fun y hy => by
  simp only [List.mem_cons, List.not_mem_nil, or_false] at hy
  rcases hy with rfl | rfl
  · exact .str hs
  · exact .str h.ok)
theorem eqv_told (s t : Str) : D.eqv (.lst [.str s, .str t]) (.lst [.str s, .str t]) = true := by simp [D.eqv, D.py, pyAll, PyData.eqv, PyData.eqvAll]
/-- by looking -/
def vbB (B n W : Nat) (d : D) : Bool := d.pureq && decide (d.pyq.depth ≤ n) && decide (d.ib ≤ B) && decide (d.pyq.weight ≤ W)
theorem vb_of {B n W : Nat} {d : D} (h : vbB B n W d = true) : Vb B n d ∧ d.pyq.weight ≤ W := by
  simp only [vbB, Bool.and_eq_true, decide_eq_true_eq] at h
  exact ⟨⟨h.1.1.1, h.1.1.2, h.1.2⟩, h.2⟩
end DL
/-! DL47: tuple(range(a, b)); a def that calls itself. -/
namespace DL
open PySem PySem.Spec L2
open PyProof.Rows hiding St
section
variable {P : Program} {w : World} {K : PySem.W.Frag} {mg : Str → Option Value} {base : Heap}
/-- a promise of nothing -/
theorem fnG_none {k : Nat} {f : Addr} {fd : FuncData} {ps : List Str} : FnG P w K mg base k f fd ps (lift K fun _ _ _ => False) :=
  ⟨fun _ _ _ _ ⟨_, _, _, _, _, _, h, _⟩ => h.elim, fun _ _ _ _ _ _ _ _ _ _ _ _ _ ⟨_, _, _, _, _, _, h, _⟩ => h.elim⟩
/-- a def that calls itself: its promise by the depth of what it is handed -/
theorem fnG_rec {x : Str} {k0 : Nat} {f : Addr} {fd : FuncData} {ps : List Str} (S : Nat → DSp) (hm : mg x = some (.ref f)) (hk : PySem.W.keepIn K (.ref f) = true) (hb : Binds K fd ps [])
    (step : ∀ (n : Nat) (S' : DSp), CallD P w K mg base x (k0 + n) S' → (∀ m, n = m + 1 → S' = S m) → FnG P w K mg base (k0 + n + 1) f fd ps (lift K (S n))) : ∀ n, FnG P w K mg base (k0 + n + 1) f fd ps (lift K (S n))
  | 0 => step 0 (fun _ _ _ => False) ⟨f, fd, ps, fnG_none, hm, hk, hb⟩ fun m e => by omega
  | n + 1 => step (n + 1) (S n) ⟨f, fd, ps, (fnG_rec S hm hk hb step n).mono (by omega), hm, hk, hb⟩ fun m e => by
    obtain rfl : n = m := by omega
    rfl
end
end DL
/-! DL48: x in a list of one's own; a sign that is not in a text. -/
namespace DL
open PySem PySem.Spec L2
open PyProof.Rows hiding St
section
variable {w : Wx} {t : TS} {E : DE} {ρ : Env'}
/-- what holds behind a statement, told before what follows -/
theorem wS_then (R : Env' → Prop) (h : wS w t { E with nx := R } ρ) (k : ∀ ρ', R ρ' → E.nx ρ') : wS w t E ρ := wS_mono h k (fun _ _ h => h) (fun _ _ h => h) (fun _ h => h) (fun _ h => h)
end
theorem isiG_tr {x : D} {T t : String} {Φ : D → Prop} (ht : tyD x = some t) (hk : knownT T = true) (hb : isB t T = true) (h : Φ (.bl true)) : isiG [x, .raw (.ty T)] Φ := isiG_of ht hk (by rw [hb]; exact h)
theorem isiG_f {x : D} {T t : String} {Φ : D → Prop} (ht : tyD x = some t) (hk : knownT T = true) (hb : isB t T = false) (h : Φ (.bl false)) : isiG [x, .raw (.ty T)] Φ := isiG_of ht hk (by rw [hb]; exact h)
end DL
/-! DL49: sorted(set(xs)), xs a list of ints. -/
namespace DL
open PySem PySem.Spec L2
open PyProof.Rows hiding St
theorem bb_sorted : bootBuiltins "sorted" = some (.builtin "sorted") := by decide +kernel
end DL
/-! DL50: a * b, where a list or a tuple is repeated, too. -/
namespace DL
open PySem PySem.Spec L2
open PyProof.Rows hiding St
section
variable {K : PySem.W.Frag}
def rMulA (K : PySem.W.Frag) : R2 := fun x y H Q => rMul x y H Q ∨ rRep x y H Q ∨ rRepT K x y H Q
theorem opr_mulA {X : Cx} : OpR X (binaryOp .Mult) (rMulA X.K) := fun pins s σ H x y v u Q I rx ry h => by
  rcases h with h | h | h
  · exact opr_mul pins s σ H x y v u Q I rx ry h
  · exact op_rep pins s σ H x y v u Q I rx ry h
  · exact op_repT pins s σ H x y v u Q I rx ry h
theorem k_mulA {X : Cx} (K : PySem.W.Frag) (h : X.K = K := by rfl) : OpR X (binaryOp .Mult) (rMulA K) := h ▸ opr_mulA
theorem repAll_rep {H : Hp} {xs : List V} {ds : List D} (r : RepAll K H xs ds) : ∀ n : Nat, RepAll K H (List.replicate n xs).flatten (List.replicate n ds).flatten
  | 0 => .nil
  | n + 1 => by
    rw [List.replicate_succ, List.replicate_succ, List.flatten_cons, List.flatten_cons]
    exact r.append (repAll_rep r n)
def mulAG (x y : D) (Φ : D → Prop) : Prop := match x, y with
  | .int i, .int j => MulC i j ∧ Φ (.int (i * j))
  | .lst l, .int k => 0 ≤ k ∧ k ≤ 1000 ∧ l.length ≤ 1000 ∧ Φ (.lst (List.replicate k.toNat l).flatten)
  | .tup l, .int k => l ≠ [] ∧ 2 ≤ k ∧ k ≤ 1000 ∧ l.length ≤ 1000 ∧ Φ (.tup (List.replicate k.toNat l).flatten)
  | _, _ => False
theorem opd_mulA : OpD K (rMulA K) mulAG := fun H0 H x y dx dy Φ Q e rx ry h k => by
  cases rx <;> cases ry <;> first
    | exact h.elim
    | exact .inl (opd_mul (K := K) H0 H _ _ _ _ Φ Q e (.int _) (.int _) h k)
    | skip
  case lst.int h1 r1 j =>
    obtain ⟨k0, k1, hl, q⟩ := h
    refine .inr (.inl ⟨_, _, _, rfl, rfl, e _ _ h1, by omega, by omega, ?_, finL e q (repAll_rep r1 _) k⟩)
    rw [r1.length, sizeLine_eq]
    have := Nat.mul_le_mul hl (show j.toNat ≤ 1000 by omega)
    omega
  case tup.int h1 r1 j =>
    obtain ⟨hn, k0, k1, hl, q⟩ := h
    refine .inr (.inr ⟨_, _, _, rfl, rfl, sqT_ex e h1, fun z => hn ?_, k0, k1, by rw [r1.length]; exact hl, finT e q (repAll_rep r1 _) k⟩)
    subst z
    cases r1
    rfl
theorem mulAG_l {l : List D} {k : Int} {Φ : D → Prop} (h2 : 0 ≤ k) (h3 : k ≤ 1000) (h4 : l.length ≤ 1000) (q : Φ (.lst (List.replicate k.toNat l).flatten)) : mulAG (.lst l) (.int k) Φ := ⟨h2, h3, h4, q⟩
end
end DL
/-! DL51: comprehensions with two fors. -/
namespace DL
open PySem PySem.Spec L2
open PyProof.Rows hiding St
theorem At.again {K : PySem.W.Frag} {c : Ctx} {ρ : Env'} {H0 H H0' H' : Hp} {σ : St} (a : At K c ρ H0 H σ) (e0 : Ex H0 H0') (e1 : Ex H0' H') (t : TabA c.T H0' H') : At K ⟨H', H0', c.T⟩ (hide ρ) H0' H' σ := by
  obtain ⟨os, s, _, _⟩ := a.sl
  exact ⟨PX.refl e1, t, [], (s.hide).mono e0 (fun _ h => nomatch h), List.nodup_nil, fun _ h => nomatch h⟩
theorem only_use {g : TG} {vs : List Nat} (hon : Only g vs) {v : V} {σ : St} {H : Hp} {Q : St → Hp → Prop} (h : g v (wipe σ vs) H Q) : g v (wipe σ vs) H fun σ' H' => wipe σ' vs = wipe σ vs ∧ Q σ' H' := by
  have s2 := hon _ _ _ _ h
  rw [wipe_wipe] at s2
  exact s2
theorem wE_lc2 {w : Wx} {ρ : Env'} {Φ : D → Env' → Prop} {wi wi1 : TI} {g g1 : TG} {tt tt1 : TT} {te : TE} {vs vs1 : List Nat} (hon : Only g vs) (hon1 : Only g1 vs1)
    (h : wI w wi ρ fun ds ρ1 => ∃ I : Nat → List D → Prop, I 0 [] ∧ (∀ i d acc, ds[i]? = some d → I i acc → wG w.quiet g d (wipeE (hide ρ1) vs) fun ρ2 => wT w.quiet tt ρ2 fun b ρ3 =>
      if b = true then wI w.quiet wi1 ρ3 fun ds1 ρ4 => ∃ I1 : Nat → List D → Prop, I1 0 acc ∧ (∀ j d1 acc1, ds1[j]? = some d1 → I1 j acc1 → acc1.length < 1000000 ∧ wG w.quiet g1 d1 (wipeE (hide ρ4) vs1) fun ρ5 => wT w.quiet tt1 ρ5 fun b ρ6 =>
          if b = true then wE w.quiet te ρ6 fun y _ => I1 (j + 1) (acc1 ++ [y]) else I1 (j + 1) acc1) ∧ (∀ acc1, I1 ds1.length acc1 → I (i + 1) acc1)
      else I (i + 1) acc) ∧ (∀ acc, I ds.length acc → Φ (.lst acc) ρ1)) : wE w (tLc2 wi g tt wi1 g1 tt1 te vs vs1) ρ Φ := fun c H0 H σ Q a x k => by
  refine h c H0 H σ _ a x fun J ds ρ1 H01 H1 ⟨I, i0, step, done⟩ a1 e1 go stop yld => ?_
  intro Dl hD
  have hD0 : H01 Dl = none := a1.px.i.back hD
  have known : ∀ {H : Hp} {us : List V}, H Dl = some (.lst us) → H Dl ≠ none := fun e z => by rw [e] at z; cases z
  have tabD : ∀ {H : Hp} {us us' : List V}, H Dl = some (.lst us) → ∀ b o, H b = some o → (∀ xs, o ≠ .lst xs) → (∀ xs, o ≠ .dK xs) → (∀ C dx xs, o ≠ .ins C dx xs) → upd H Dl (.lst us') b = some o := fun {H us us'} e b o hb n1 _ _ => by
    have hne : b ≠ Dl := fun z => by
      rw [z, e] at hb
      cases hb
      exact n1 _ rfl
    exact (upd_ne hne).trans hb
  let St1 : (List D → Prop) → Hp → Hp → Prop := fun I H0' H' => ∃ us acc, PX ⟨H1, H01, c.T⟩ H0' H' ∧ TabA c.T H0' H' ∧ H' Dl = some (.lst us) ∧ H0' Dl = none ∧ RepAll w.K H0' us acc ∧ I acc
  refine ⟨fun i m H' => m = ds.length - i ∧ i ≤ ds.length ∧ ∃ H0', St1 (I i) H0' H',
    ⟨_, rfl, Nat.zero_le _, H01, [], [], (PX.refl a1.px.i).change hD0 hD, a1.tab.keep (ext_both (Ex.new hD)) (fun _ h _ => h), upd_same, hD0, .nil, i0⟩, ?_⟩
  rintro i m H' ⟨rfl, hi, H0', us, acc, p, tb, hl, h0, r, hI⟩
  by_cases hlt : i < ds.length
  · refine .inr ⟨go i H0' H' p.e0 p.i hlt, fun H'' => ∃ H0', St1 (I (i + 1)) H0' H'', fun H'' ⟨H0', q⟩ => ⟨ds.length - (i + 1), by omega, rfl, hlt, H0', q⟩, fun v H2 y => ?_⟩
    obtain ⟨d, H02, hd, p2, r2⟩ := yld i H0' H' v H2 p.e0 p.i hlt y
    have P2 := p.trans p2
    have l2 : H2 Dl = some (.lst us) := p2.ex _ _ hl
    have n2 : H02 Dl = none := p2.n Dl (known hl) h0
    have tb2 : TabA c.T H02 H2 := tb.keep (ext_both p2.ex) fun q h1 ⟨ps, h2⟩ => p2.n q (by show H' q ≠ none; rw [h2]; exact nofun) h1
    have aw : At w.quiet.K ⟨H2, H02, c.T⟩ (wipeE (hide ρ1) vs) H02 H2 (wipe σ vs) := ((a1.goT P2 tb2).freshT).wiped vs
    have ql : XLink w.quiet ⟨H2, H02, c.T⟩ := quiet_link x.t
    refine only_use hon ?_
    refine step i d acc hd hI ⟨H2, H02, c.T⟩ H02 H2 (wipe σ vs) v _ aw ql r2 fun ρ3 H03 H3 σ3 q3 a3 e3 => ?_
    refine q3 ⟨H2, H02, c.T⟩ H03 H3 σ3 _ a3 ql fun b ρ4 H04 H4 q4 a4 e4 => ?_
    have l4 : H4 Dl = some (.lst us) := a4.px.e.lst l2
    have n4 : H04 Dl = none := a4.px.n Dl (known l2) n2
    cases b with
    | false =>
      rw [if_neg Bool.false_ne_true] at q4 ⊢
      exact ⟨H04, us, acc, P2.transT a4.px, a4.tab, l4, n4, r.mono (p2.e0.trans a4.px.e0), q4⟩
    | true =>
      rw [if_pos rfl] at q4 ⊢
      refine q4 ⟨H2, H02, c.T⟩ H04 H4 σ3 _ a4 ql fun J1 ds1 ρ5 H05 H5 ⟨I1, i10, step1, done1⟩ a5 e5 go1 stop1 yld1 => ?_
      have l5 : H5 Dl = some (.lst us) := a5.px.e.lst l2
      have n5 : H05 Dl = none := a5.px.n Dl (known l2) n2
      have P5 : PX ⟨H1, H01, c.T⟩ H05 H5 := P2.transT a5.px
      refine ⟨fun j k H' => k = ds1.length - j ∧ j ≤ ds1.length ∧ ∃ H0', Ex H05 H0' ∧ St1 (I1 j) H0' H', ⟨_, rfl, Nat.zero_le _, H05, .refl _, us, acc, P5, a5.tab, l5, n5, r.mono (p2.e0.trans a5.px.e0), i10⟩, ?_⟩
      rintro j kk H' ⟨rfl, hj, H0', e05, us, acc, p, tb, hl, h0, r, hI⟩
      by_cases hlt1 : j < ds1.length
      · refine .inr ⟨go1 j H0' H' e05 p.i hlt1, fun H'' => ∃ H0', Ex H05 H0' ∧ St1 (I1 (j + 1)) H0' H'', fun H'' ⟨H0', q⟩ => ⟨ds1.length - (j + 1), by omega, rfl, hlt1, H0', q⟩, fun v H6 y => ?_⟩
        obtain ⟨d1, H06, hd1, p6, r6⟩ := yld1 j H0' H' v H6 e05 p.i hlt1 y
        have P6 := p.trans p6
        have l6 : H6 Dl = some (.lst us) := p6.ex _ _ hl
        have n6 : H06 Dl = none := p6.n Dl (known hl) h0
        have tb6 : TabA c.T H06 H6 := tb.keep (ext_both p6.ex) fun q h1 ⟨ps, h2⟩ => p6.n q (by show H' q ≠ none; rw [h2]; exact nofun) h1
        have aw6 : At w.quiet.K ⟨H6, H06, c.T⟩ (wipeE (hide ρ5) vs1) H06 H6 (wipe σ3 vs1) := ((a5.again (e05.trans p6.e0) P6.i tb6)).wiped vs1
        have ql6 : XLink w.quiet ⟨H6, H06, c.T⟩ := quiet_link x.t
        obtain ⟨room, stp⟩ := step1 j d1 acc hd1 hI
        refine only_use hon1 ?_
        refine stp ⟨H6, H06, c.T⟩ H06 H6 (wipe σ3 vs1) v _ aw6 ql6 r6 fun ρ7 H07 H7 σ7 q7 a7 e7 => ?_
        refine q7 ⟨H6, H06, c.T⟩ H07 H7 σ7 _ a7 ql6 fun b ρ8 H08 H8 q8 a8 e8 => ?_
        have l8 : H8 Dl = some (.lst us) := a8.px.e.lst l6
        have n8 : H08 Dl = none := a8.px.n Dl (known l6) n6
        cases b with
        | false =>
          rw [if_neg Bool.false_ne_true] at q8 ⊢
          exact ⟨H08, e05.trans (p6.e0.trans a8.px.e0), us, acc, P6.transT a8.px, a8.tab, l8, n8, r.mono (p6.e0.trans a8.px.e0), q8⟩
        | true =>
          rw [if_pos rfl] at q8 ⊢
          refine q8 ⟨H6, H06, c.T⟩ H08 H8 σ7 _ a8 ql6 fun yv yd ρ9 H09 H9 q9 a9 e9 r9 => ?_
          have l9 : H9 Dl = some (.lst us) := a9.px.e.lst l6
          have n9 : H09 Dl = none := a9.px.n Dl (known l6) n6
          have P9 : PX ⟨H1, H01, c.T⟩ H09 H9 := P6.transT a9.px
          exact ⟨us, l9, len_lt (by rw [r.length]; exact room), H09, e05.trans (p6.e0.trans a9.px.e0), us ++ [yv], acc ++ [yd], P9.change n9 hD, a9.tab.keep (tabD l9) (fun _ h _ => h), upd_same, n9, (r.mono (p6.e0.trans a9.px.e0)).append (.cons r9 .nil), q9⟩
      · have e : j = ds1.length := by omega
        subst e
        exact .inl ⟨stop1 H0' H' e05 p.i, H0', us, acc, p, tb, hl, h0, r, done1 acc hI⟩
  · have e : i = ds.length := by omega
    subst e
    have P := p.learn hl h0 hD
    have tb' : TabA c.T (upd H0' Dl (.lst us)) H' := tb.keep (fun _ _ h _ _ _ => h) fun q h1 ⟨ps, h2⟩ => by
      have hne : q ≠ Dl := fun z => by rw [z, hl] at h2; cases h2
      exact (upd_ne hne).trans h1
    refine .inl ⟨stop H0' H' p.e0 p.i, k _ (.lst acc) ρ1 _ H' (done acc hI) (a1.goT P tb') (e1.trans P.e0) (.lst upd_same (r.mono (Ex.new h0)))⟩
/-- [k x y for x in xs for y in ys x] -/
theorem wE_lc2M {α β : Type} {w : Wx} {ρ : Env'} {Φ : D → Env' → Prop} {wi wi1 : TI} {g g1 : TG} {te : TE} {vs vs1 : List Nat} (hon : Only g vs) (hon1 : Only g1 vs1) (f : α → D) (f1 : β → D) (ys : α → List β) (k : α → β → D)
    (h : wI w wi ρ fun ds ρ1 => ∃ xs : List α, ds = xs.map f ∧ (xs.flatMap ys).length ≤ 1000000 ∧ (∀ x ∈ xs, wG w.quiet g (f x) (wipeE (hide ρ1) vs) fun ρ2 => wI w.quiet wi1 ρ2 fun ds1 ρ4 => ds1 = (ys x).map f1 ∧
      ∀ y ∈ ys x, wG w.quiet g1 (f1 y) (wipeE (hide ρ4) vs1) fun ρ5 => wE w.quiet te ρ5 fun z _ => z = k x y) ∧ Φ (.lst (xs.flatMap fun x => (ys x).map (k x))) ρ1) : wE w (tLc2 wi g tYes wi1 g1 tYes te vs vs1) ρ Φ := by
  have lenEq : ∀ xs : List α, (xs.flatMap fun x => (ys x).map (k x)).length = (xs.flatMap ys).length := fun xs => by
    rw [List.length_flatMap, List.length_flatMap]
    refine congrArg List.sum (List.map_congr_left fun x _ => List.length_map _)
  refine wE_lc2 hon hon1 fun c H0 H σ R a x q => h c H0 H σ R a x fun J ds ρ' H0' H' ⟨xs, e, hz, step, fin⟩ => q J ds ρ' H0' H' ⟨fun i acc => acc = (xs.take i).flatMap fun x => (ys x).map (k x), rfl, fun i d acc hd hacc => ?_, fun acc hacc => ?_⟩
  · subst e
    obtain ⟨x, hx, rfl⟩ := get_map hd
    have en := take_next hx
    refine fun c H0 H σ v Q a l r k' => step x (mem_get hx) c H0 H σ v Q a l r fun ρ2 H01 H1 σ1 z => k' ρ2 H01 H1 σ1 (wT_yes (ifT ?_))
    refine fun c H0 H σ R a l k' => z c H0 H σ R a l fun J ds ρ' H0' H' ⟨ed, st⟩ => k' J ds ρ' H0' H' ⟨fun j acc1 => acc1 = acc ++ ((ys x).take j).map (k x), by simp, fun j d1 acc1 hd1 hacc1 => ?_, fun acc1 hacc1 => ?_⟩
    · subst ed
      obtain ⟨y, hy, rfl⟩ := get_map hd1
      refine ⟨?_, fun c H0 H σ v Q a l r k' => st y (mem_get hy) c H0 H σ v Q a l r fun ρ2 H01 H1 σ1 z => k' ρ2 H01 H1 σ1 (wT_yes (ifT (wE_mono z fun yd _ ey => ?_)))⟩
      · rw [hacc1, hacc, List.length_append, lenEq, List.length_map]
        have hj : j < (ys x).length := (List.getElem?_eq_some_iff.mp hy).1
        have h1 : ((xs.take i).flatMap ys).length + (ys x).length ≤ (xs.flatMap ys).length := by
          have : ((xs.take (i + 1)).flatMap ys).length ≤ (xs.flatMap ys).length := by
            conv => rhs; rw [← List.take_append_drop (i + 1) xs, List.flatMap_append, List.length_append]
            exact Nat.le_add_right _ _
          rw [en, List.flatMap_append, List.length_append] at this
          simpa using this
        have := List.length_take_le j (ys x)
        have h2 : ((ys x).take j).length = j := by rw [List.length_take]; omega
        omega
      · show acc1 ++ [yd] = _
        rw [hacc1, ey, take_next hy, List.map_append, List.append_assoc]
        rfl
    · subst ed
      rw [hacc1, hacc, en, List.flatMap_append, List.length_map, List.take_length]
      simp
  · subst e
    rw [hacc, List.length_map, List.take_length]
    exact fin
end DL
/-! DL52: calls of defs with keywords; sum. -/
namespace DL
open PySem PySem.Spec L2
open PyProof.Rows hiding St
/-- the def x, n values by place, the others by the keywords ks -/
structure CallK (P : Program) (w : World) (K : PySem.W.Frag) (mg : Str → Option Value) (base : Heap) (x : Str) (k : Nat) (S : DSp) (n : Nat) (ks : List Str) (ix : List Nat) : Prop where
  ex : ∃ f fd ps, FnG P w K mg base k f fd ps (lift K S) ∧ mg x = some (.ref f) ∧ PySem.W.keepIn K (.ref f) = true ∧ KbG K fd ps n ks ix []
theorem k_ck {X : Cx} (K : PySem.W.Frag) {j k n : Nat} {ks : List Str} {ix : List Nat} {S : DSp} {E : XK} {x : Str} {p pos : Pos} {es : List Expr} {kws : List Keyword} {t tk : TA} (c : CallK X.prog X.w K X.mg X.base x k S n ks ix) (room : RoomG j X.A) (hj : k ≤ j) (hx : Passes (CXD X.prog X.w) X E) (ha : PA X es t) (hkw : PK X kws tk) (hg : Gl X x := by rfl)
    (hn : (backTo pos (starEach es X.env)).any (·.1) = false := by rfl) (hall : (backToKw pos (keywordEach kws X.env)).all (·.1.isSome) = true := by rfl) (hks : (backToKw pos (keywordEach kws X.env)).filterMap (·.1) = ks := by rfl) (hdb : (x == ("__debug__" : Str)) = false := by decide) (h : X.K = K := by rfl) :
    PE X (.Call (.Name x p) es kws pos) (tCallD K S n ks.length ix [] E t tk) := by
  subst h
  obtain ⟨f, fd, ps, F, hm, hk, hb⟩ := c.ex
  exact pe_fnD F (room.mono hj) hb hx hm hk ha hkw hg hn hall hks hdb
/-! ### sum of a list or a tuple of ints -/
section
variable {prog : Program} {w : World} {A : Around} {E : Value → Shared → Prop} {s : Shared} {l : Addr} {its : List Value} {ns : List Int} {Q : Value → Shared → Prop}
theorem iter_intTup {xs : Array (Int × Tok)} (hl : s.heap.IsTuple l (intItems xs))
    (h : ∀ s₂ : Shared, s₂ = { s with heap := s.heap.push { cls := .type "tuple_iterator", data := .fields #[.ref l, .int 0 0] } } →
      (s₂.heap.IsTupleIter s.heap.objs.size l 0 ∧ s₂.heap.IsTuple l (intItems xs)) → (∀ b ∈ [s.heap.objs.size, l], b < s₂.heap.objs.size) → l ≠ s.heap.objs.size → Q (.ref s.heap.objs.size) s₂) :
    wpAny (model prog w) A (pyIter (.ref l)) Q E s := by
  have hlt : l < s.heap.objs.size := by obtain ⟨_, e, _⟩ := hl; exact Heap.lt_size e
  refine wpAny_pyIter_tuple hl (h _ rfl ⟨⟨_, Heap.get?_push_size _ rfl, rfl, rfl⟩, hl.push _⟩ (fun b hb => ?_) (Nat.ne_of_lt hlt))
  show b < (s.heap.push _).objs.size
  rw [Heap.size_push]
  rcases List.mem_cons.mp hb with rfl | hb
  · exact Nat.lt_succ_self _
  · rcases List.mem_cons.mp hb with rfl | hb
    · exact Nat.lt_succ_of_lt hlt
    · cases hb
theorem old_keptT {h' : Heap} (hk : ∀ b o, b ∉ [s.heap.objs.size] → (s.heap.push { cls := .type "tuple_iterator", data := .fields #[.ref l, .int 0 0] }).get? b = some o → h'.get? b = some o) :
    ∀ b o, s.heap.get? b = some o → h'.get? b = some o := fun b o e => by
  refine hk b o (fun hm => ?_) (Heap.get?_push_of_some _ e)
  rcases List.mem_cons.mp hm with e1 | hm
  · exact absurd (e1 ▸ Heap.lt_size e) (Nat.lt_irrefl _)
  · cases hm
theorem sum_rawT (hh : A.handled = none) (hl : s.heap.IsTuple l its.toArray) (hi : IntsAre its ns)
    (h : ∀ h' tk t', (∀ b o, s.heap.get? b = some o → h'.get? b = some o) → Q (.int ns.sum t') { s with heap := h', toks := tk }) : wpAny (model prog w) A (call (.builtin "sum") [.ref l]) Q E s := by
  obtain ⟨xs, e⟩ := hi.allInts.items
  have hn : numsOf (intItems xs).toList = ns := by rw [← e]; exact hi.numsOf
  rw [nums_intItems] at hn
  rw [e] at hl
  refine call_sum_walkG (iter_intTup hl fun s₂ e st hfp hlI => ?_)
  subst e
  refine ⟨_, _, _, _, _, _, numAt xs, rfl, Walks.tuple (A := A.in1) hh _ l hlI (intItems xs), st, hfp, (fun _ _ => intItems_at), fun h' tk t' hk => ?_⟩
  have := h h' tk t' (old_keptT hk)
  rw [show (intItems xs).size = xs.size by simp [intItems], preSum_eq, List.take_of_length_le (by simp), hn]
  exact this
end
def rSumT (K : PySem.W.Frag) : List V → Hp → VK → Prop := fun vs H Q => ∃ (a : Addr) (ns : List Int), vs = [V.ref a] ∧ SqT K H a (ns.map V.int) ∧ Q (.int ns.sum) H
theorem cr_sumT {X : Cx} (hc : X.calm = true) : CallR X (.builtin "sum") (rSumT X.K) := by
  intro pins s σ H vs us Q I r h
  obtain ⟨a, ns, rfl, hs, q⟩ := h
  obtain ⟨its, rv, hl, _⟩ := I.tuple hs
  rw [Vals.ref1 r]
  exact sum_rawT (I.ok.hd hc) hl rv.ints fun h' tk t' hk => ⟨.int _, H, I.kept hk, ⟨_, rfl⟩, q⟩
def rSumA (K : PySem.W.Frag) : List V → Hp → VK → Prop := fun vs H Q => rSum K vs H Q ∨ rSumT K vs H Q
theorem k_sumA {X : Cx} (K : PySem.W.Frag) (hc : X.calm = true) (h : X.K = K := by rfl) : CallR X (.builtin "sum") (rSumA K) := h ▸ CallR.or (cr_sum hc) (cr_sumT hc)
def sumG (ds : List D) (Φ : D → Prop) : Prop := ∃ ns : List Int, (ds = [.lst (ns.map .int)] ∨ ds = [.tup (ns.map .int)]) ∧ Φ (.int ns.sum)
theorem cbd_sum {K : PySem.W.Frag} : CbD K (rSumA K) sumG := fun H0 H xs ds Φ Q e rx ⟨ns, h, q⟩ k => by
  rcases h with h | h
  · subst h
    obtain ⟨v, rfl, r⟩ := vals_one rx
    cases r with
    | lst hp hr => rw [hr.ofInts] at hp; exact .inl ⟨_, ns, rfl, .inl (.inl (e _ _ hp)), fin0 e q (.int _) k⟩
  · subst h
    obtain ⟨v, rfl, r⟩ := vals_one rx
    cases r with
    | tup hp hr => rw [hr.ofInts] at hp; exact .inr ⟨_, ns, rfl, sqT_ex e hp, fin0 e q (.int _) k⟩
theorem sumG_t {ns : List Int} {Φ : D → Prop} (q : Φ (.int ns.sum)) : sumG [.tup (ns.map .int)] Φ := ⟨ns, .inr rfl, q⟩
theorem sumG_l {ns : List Int} {Φ : D → Prop} (q : Φ (.int ns.sum)) : sumG [.lst (ns.map .int)] Φ := ⟨ns, .inl rfl, q⟩
end DL
/-! DL53: the end of a law without lambdas that needs to know of sys. -/
/-! DL54: lcm, sorted(.., reverse=True) of ints, zip of two lists. -/
namespace DL
open PySem PySem.Spec L2
open PyProof.Rows hiding St
section
variable {prog : Program} {w : World} {A : Around} {E : Value → Shared → Prop} {s : Shared} {Q : Value → Shared → Prop} {a b : Int} {t u : Tok}
theorem lcm_one (a b : Nat) : (Nat.lcm 1 a).lcm b = Nat.lcm a b := by rw [Nat.lcm_one_left]
theorem lcm_run (ha : a.natAbs < 2 ^ 1000) (hb : b.natAbs < 2 ^ 1000) (h : Q (.int ((Nat.lcm a.natAbs b.natAbs : Nat) : Int) s.toks) { s with toks := s.toks + 1 }) : wpAny (model prog w) A (call (.builtin "math.lcm") [.int a t, .int b u]) Q E s := by
  have h1 : (max 1 a.natAbs).log2 ≤ 999 := PySem.W.mg_log (by
    show max 1 a.natAbs < 2 ^ 1000
    exact Nat.max_lt.mpr ⟨Nat.one_lt_two_pow (by decide), ha⟩)
  have h2 : (max a.natAbs b.natAbs).log2 ≤ 999 := PySem.W.mg_log (by
    show max a.natAbs b.natAbs < 2 ^ 1000
    exact Nat.max_lt.mpr ⟨ha, hb⟩)
  have e := lcm_one a.natAbs b.natAbs
  have hl : Nat.lcm a.natAbs b.natAbs ≤ a.natAbs * b.natAbs := Nat.div_le_self _ _
  have hm : a.natAbs * b.natAbs < 2 ^ 2000 := by
    have := Nat.mul_lt_mul'' ha hb
    rw [← Nat.pow_add] at this
    exact this
  have hsz : ((((Nat.lcm 1 a.natAbs).lcm b.natAbs : Nat) : Int)).natAbs.log2 < bitsLine := by
    rw [e, Int.natAbs_natCast]
    have := PySem.W.mg_log (n := Nat.lcm a.natAbs b.natAbs) (k := 1999) (Nat.lt_of_le_of_lt hl hm)
    exact Nat.lt_of_le_of_lt this (by decide)
  refine PySem.call_function_meets PySem.W.MGF.kind_lcm PySem.W.MGF.plain_lcm PySem.W.MGF.entry_lcm (PySem.W.MGF.args_lcm _ _) (PySem.W.mg_run_lcm a t b u (by omega) (by omega) hsz).meets ?_
  rw [e]
  exact h
end
def rLcm : List V → Hp → VK → Prop := fun vs H Q => ∃ a b : Int, vs = [.int a, .int b] ∧ a.natAbs < 2 ^ 1000 ∧ b.natAbs < 2 ^ 1000 ∧ Q (.int ((Nat.lcm a.natAbs b.natAbs : Nat) : Int)) H
theorem k_lcm {X : Cx} : CallR X (.builtin "math.lcm") rLcm := by
  intro pins s σ H vs us Q I r h
  obtain ⟨a, b, rfl, ha, hb, q⟩ := h
  obtain ⟨t, u, rfl⟩ := Vals.int2 r
  exact lcm_run ha hb ⟨.int _, H, I.tok _, ⟨_, rfl⟩, q⟩
def lcmG (ds : List D) (Φ : D → Prop) : Prop := ∃ a b : Int, ds = [.int a, .int b] ∧ a.natAbs < 2 ^ 1000 ∧ b.natAbs < 2 ^ 1000 ∧ Φ (.int ((Nat.lcm a.natAbs b.natAbs : Nat) : Int))
theorem cbd_lcm {K : PySem.W.Frag} : CbD K rLcm lcmG := fun H0 H xs ds Φ Q e rx ⟨a, b, h, ha, hb, q⟩ k => by
  subst h
  obtain ⟨v, c, rfl, r1, r2⟩ := vals_two rx
  cases r1
  cases r2
  exact ⟨a, b, rfl, ha, hb, fin0 e q (.int _) k⟩
theorem k_sortedRev {X : Cx} (K : PySem.W.Frag) (h : X.K = K := by rfl) : CallRK X (.builtin "sorted") [Str.ofString "reverse"] (rSortedKw K true [.bl true]) := h ▸ cr_sortedRev
theorem wE_sortRev {w : Wx} {ρ : Env'} {Φ : D → Env' → Prop} {t tk : TA} (h : wA w t ρ fun ds ρ1 => wA w tk ρ1 fun es ρ2 => es = [.bl true] ∧ ∃ ns : List Int, ds = [.lst (ns.map .int)] ∧ ∀ ns' : List Int, ns'.Perm ns → ns'.Pairwise (· ≥ ·) → Φ (.lst (ns'.map .int)) ρ2) :
    wE w (tCKw (rSortedKw w.K true [.bl true]) t tk) ρ Φ := fun c H0 H σ Q a x k =>
  h c H0 H σ _ a x fun vs ds ρ1 H01 H1 h1 a1 e1 r1 => h1 c H01 H1 σ _ a1 x fun zs es ρ2 H02 H2 ⟨ee, ns, ed, q⟩ a2 e2 r2 => by
    subst ee ed
    obtain ⟨v, rfl, r⟩ := vals_one r1
    obtain ⟨z, rfl, rz⟩ := vals_one r2
    cases rz
    cases r with
    | lst hp hr =>
      rw [hr.ofInts] at hp
      refine ⟨_, ns, rfl, rfl, .inl (.inl (a2.px.i _ _ (e2 _ _ hp))), fun ns' p h1 h2 hn => ?_⟩
      have y2 : PX ⟨H2, H02, []⟩ (upd H02 p (.lst (ns'.map V.int))) (upd H2 p (.lst (ns'.map V.int))) := (PX.refl a2.px.i).new hn
      exact k _ _ ρ2 _ _ (q ns' h1 h2) (a2.go y2) ((e1.trans e2).trans y2.e0) (.lst upd_same (RepAll.ints ns'))
theorem wI_zipL {w : Wx} {ρ : Env'} {ta : TA} {Φ : List D → Env' → Prop} (h : wA w ta ρ fun ds ρ1 => ∃ l1 l2, ds = [.lst l1, .lst l2] ∧ Φ (zipD l1 l2) ρ1) : wI w (RZ.iZipA w.K ta) ρ Φ := fun c H0 H σ R a x k =>
  h c H0 H σ _ a x fun vs ds ρ1 H01 H1 ⟨l1, l2, e, q⟩ a1 e1 r1 => by
    subst e
    cases r1 with
    | cons r rs =>
      cases rs with
      | cons r' rs =>
        cases rs
        cases r with
        | lst hp hr =>
          cases r' with
          | lst hp' hr' =>
            have hl : (zipD l1 l2).length = min l1.length l2.length := List.length_zipWith
            have sq : ∀ {H : Hp} {p : Addr} {us : List V}, H p = some (.lst us) → SqL w.K H p us := fun h => .inl (.inl h)
            refine ⟨_, _, _, _, rfl, .inl ⟨sq (a1.px.i _ _ hp), sq (a1.px.i _ _ hp'), k _ _ ρ1 H01 H1 q a1 e1 (fun i Ha Hb e j lt => ?_) (fun Ha Hb e j => ⟨_, _, sq ((e.trans j) _ _ hp), sq ((e.trans j) _ _ hp'), ?_⟩) (fun i Ha Hb x Hc e j lt y => ?_)⟩⟩
            · have h1 := hr.length
              have h2 := hr'.length
              exact ⟨_, _, _, _, sq ((e.trans j) _ _ hp), sq ((e.trans j) _ _ hp'), List.getElem?_eq_getElem (by omega), List.getElem?_eq_getElem (by omega)⟩
            · rw [hl, hr.length, hr'.length]; omega
            · obtain ⟨T, xv, yv, y1, y2, y3, y4, y5⟩ := y
              subst y1 y3
              obtain ⟨d, g1, g2⟩ := hr.getV (y4 _ (sq ((e.trans j) _ _ hp)))
              obtain ⟨d', g1', g2'⟩ := hr'.getV (y5 _ (sq ((e.trans j) _ _ hp')))
              have nx := (PX.refl (T := []) j).new (o := .tup [xv, yv]) y2
              refine ⟨.tup [d, d'], _, ?_, nx, .tup (.inl (.inl upd_same)) (.cons (g2.mono (e.trans nx.e0)) (.cons (g2'.mono (e.trans nx.e0)) .nil))⟩
              unfold zipD
              rw [List.getElem?_zipWith, g1, g1']
end DL
/-! DL55: a module's constant that is a tuple. -/
namespace DL
open PySem PySem.Spec L2
open PyProof.Rows hiding St
structure GTup (K : PySem.W.Frag) (mg : Str → Option Value) (x : Str) (a : Addr) (xs : List V) : Prop where
  m : mg x = some (.ref a)
  t : ∃ (o : Obj) (its : Array Value) (n : Nat), K.lookup a = some o ∧ o.cls = .type "tuple" ∧ o.data = .seq its n ∧ its.size ≤ sizeLine ∧ Vals xs its.toList
def tGT (a : Addr) : TE := tC (.ref a)
theorem pe_gt {X : Cx} {x : Str} {pos : Pos} {K : PySem.W.Frag} {a : Addr} {xs : List V} (c : GTup K X.mg x a xs) (hg : Gl X x := by rfl) (hd : (x == ("__debug__" : Str)) = false := by decide) : PE X (.Name x pos) (tGT a) := pe_glob hg c.m rfl hd
theorem wE_gt {w : Wx} {K : PySem.W.Frag} {mg : Str → Option Value} {x : Str} {a : Addr} {xs : List V} {ds : List D} {Φ : D → Env' → Prop} {ρ : Env'} (c : GTup K mg x a xs) (r : ∀ H, RepAll K H xs ds) (q : Φ (.tup ds) ρ) (hK : w.K = K := by rfl) : wE w (tGT a) ρ Φ := by
  subst hK
  exact fun _ H0 H _ _ ha _ k => k _ _ ρ H0 H q ha (.refl _) (.tup (.inr c.t) (r H0))
end DL
/-! DL56: x in t, t a tuple of plain data. -/
/-! DL57: gcd; fractions in lowest terms. -/
namespace DL
open PySem PySem.Spec L2
open PyProof.Rows hiding St
theorem k_gcd {X : Cx} : CallR X (.builtin "math.gcd") rGcd := cr_gcd
def gcdG (ds : List D) (Φ : D → Prop) : Prop := ∃ a b : Int, ds = [.int a, .int b] ∧ Φ (.int ((Nat.gcd a.natAbs b.natAbs : Nat) : Int))
theorem cbd_gcd {K : PySem.W.Frag} : CbD K rGcd gcdG := fun H0 H xs ds Φ Q e rx ⟨a, b, h, q⟩ k => by
  subst h
  obtain ⟨v, c, rfl, r1, r2⟩ := vals_two rx
  cases r1
  cases r2
  exact ⟨a, b, rfl, fin0 e q (.int _) k⟩
def fracI (p : Int × Int) : Int × Int := (p.1 / (Nat.gcd p.1.natAbs p.2.natAbs : Nat), p.2 / (Nat.gcd p.1.natAbs p.2.natAbs : Nat))
end DL
/-! DL58: min, max of a list of ints. -/
/-! DL59: sorted(list of tuples of ints); a, b = list(range(n)), []. -/
/-! DL60: while; dicts whose keys are ints: comprehensions, d[i]. -/
namespace DL
open PySem PySem.Spec L2
open PyProof.Rows hiding St
end DL
/-! DL61: a dict of one's own whose keys are pairs of an int and a tuple of ints. -/
namespace DL
open PySem PySem.Spec L2
open PyProof.Rows hiding St
/-! over data -/
section
variable {K : PySem.W.Frag} {H H' : Hp}
end
end DL
/-! DL62: sorted(set(t)), t a tuple of ints. -/
/-! DL63: try: a() except (A, B, C) as e with the telling in place, [] behind it. -/
/-! DL64: zip of a list with a tuple, of a tuple with a list. -/
namespace DL
open PySem PySem.Spec L2
open PyProof.Rows hiding St
/-! zip(a, b), called -/
abbrev cT : Value := .type "tuple_iterator"
/-! over data -/
end DL
/-! DL65: sorted(list of words), words compared by <. -/
/-! DL66: <<, >>, &, |, bit_length; ints as conditions; all(list of ints and bools). -/
/-! DL67: sorted(tuple of words); xs = [..] * n, x one's own. -/
/-! DL68: x not in t, t a tuple of plain data. -/
/-! DL69: list(range(n)) as a value. -/
/-! DL70: while .. and (x := e) op f. -/
/-! DL71: a call that looks at what is one's own and gives back a plain value; xs = list(e), one's own. -/
/-! DL72: numbers.index(n); a list of whatever it is == []. -/
namespace DL
open PySem PySem.Spec L2
open PyProof.Rows hiding St
section
variable {prog : Program} {w : World} {A : Around} {E : Value → Shared → Prop} {s : Shared}
theorem eq_emptyL {l b : Addr} {its : Array Value} {Q : Value → Shared → Prop} (h1 : s.heap.IsList l its) (h2 : s.heap.IsList b #[]) (hu : A.units < cLine) (h : Q (.bool (its.size == 0)) s) : wpAny (model prog w) A (compareOp .Eq (.ref l) (.ref b)) Q E s := by
  by_cases hz : its.size = 0
  · refine SeqAt.eq_listAt (e := fun _ => true) h1 h2 hz hu (fun j _ hj => absurd hj (Nat.not_lt_zero j)) ?_
    rw [hz] at h ⊢
    exact h
  · rw [beq_eq_false_iff_ne.mpr hz] at h
    exact SeqAt.eq_list_lengthsAt h1 h2 (by simpa using hz) hu h
end
def rEqL0 (K : PySem.W.Frag) : R2 := fun x y H Q => ∃ (a b : Addr) (xs : List V), x = .ref a ∧ y = .ref b ∧ SqL K H a xs ∧ SqL K H b [] ∧ Q (.bl (xs.length == 0)) H
section
variable {X : Cx}
theorem op_eqL0 (hu : X.A.units + 64 < cLine) : OpR X (compareOp .Eq) (rEqL0 X.K) := by
  intro pins s σ H x y v u Q I rx ry ⟨a, b, xs, ex, ey, h1, h2, q⟩
  subst ex ey
  cases rx; cases ry
  obtain ⟨its, rv, li, _⟩ := I.list h1
  obtain ⟨its', rv', li', _⟩ := I.list h2
  cases rv'
  refine eq_emptyL (s := s) li.isList li'.isList (by omega) ⟨.bl _, H, I, ?_, q⟩
  show Value.bool _ = Value.bool _
  rw [List.size_toArray, rv.length]
theorem k_eqL0 (K : PySem.W.Frag) {j : Nat} (room : RoomG j X.A) (h : X.K = K := by rfl) : OpR X (compareOp .Eq) (rEqL0 K) := h ▸ op_eqL0 (hu64 room)
end
def eqL0G (x y : D) (Φ : D → Prop) : Prop := ∃ l, x = .lst l ∧ y = .lst [] ∧ Φ (.bl (l.length == 0))
theorem opd_eqL0 {K : PySem.W.Frag} : OpD K (rEqL0 K) eqL0G := fun H0 H x y dx dy Φ Q e rx ry ⟨l, ex, ey, g⟩ k => by
  subst ex ey
  cases rx with
  | lst h1 r1 =>
    cases ry with
    | lst h2 r2 =>
      cases r2
      exact ⟨_, _, _, rfl, rfl, .inl (.inl (e _ _ h1)), .inl (.inl (e _ _ h2)), by rw [r1.length]; exact fin0 e g (.bl _) k⟩
end DL
/-! DL73: a dict of three lengths, keyed by words, read at once. -/
namespace DL
open PySem PySem.Spec L2
open PyProof.Rows hiding St
def topS (i : Nat) : Stmt := PySem.Challenge.pw_restballots_k13_tables_refused.main.body.getD i (.Pass ⟨0, 0, 0, 0⟩)
local macro_rules | `(tactic| walk_at "dl1") => `(tactic| first
  | with_reducible refine wS_seq ?_
  | with_reducible refine wS_if ?_
  | with_reducible refine wS_next ?_
  | with_reducible refine wS_ret ?_
  | ((with_reducible show wS _ (tDrop (tBM _ _ rAppend (tVar _) _)) _ _); refine wS_append ?_ ⟨_, _, rfl⟩)
  | with_reducible refine wS_raise ?_
  | with_reducible refine wS_drop ?_
  | with_reducible refine wS_fld ?_
  | with_reducible refine wS_asgOwn ?_
  | with_reducible refine wS_asg ?_
  | with_reducible refine wG_name ?_
  | ((with_reducible refine wG_tup ?_); refine ⟨_, rfl, rfl, ?_⟩)
  | ((with_reducible show wG _ (gSub (tVar _) _ rSetL) _ _ _); refine wG_subOwn ⟨_, _, rfl⟩ ?_)
  | with_reducible refine wGs_cons ?_
  | with_reducible refine wGs_nil ?_
  | with_reducible refine wT_not ?_
  | with_reducible refine wT_and ?_
  | with_reducible refine wT_or ?_
  | with_reducible refine wT_test ?_
  | with_reducible refine wT_B ?_
  | with_reducible refine wT_yes ?_
  | with_reducible refine wA_nil ?_
  | with_reducible refine wA_cons ?_)
local macro_rules | `(tactic| walk_at "dl2") => `(tactic| first
  | ((with_reducible show wE _ (tVar _) _ _); (first | refine wE_var rfl ?_ | refine wE_give rfl ?_))
  | with_reducible refine wE_int ?_
  | with_reducible refine wE_str ?_
  | with_reducible refine wE_bl ?_
  | with_reducible refine wE_non ?_
  | with_reducible refine wE_raw ?_
  | with_reducible refine wE_andV ?_
  | with_reducible refine wE_notV ?_
  | with_reducible refine wE_if ?_
  | with_reducible refine wE_tup ?_
  | with_reducible refine wE_lst ?_
  | with_reducible refine wE_call ?_
  | with_reducible refine wE_callT ?_
  | with_reducible refine wE_op opd_add ?_
  | with_reducible refine wE_op opd_sub ?_
  | with_reducible refine wE_op opd_mul ?_
  | with_reducible refine wE_op opd_mulA ?_
  | with_reducible refine wE_op opd_mod ?_
  | with_reducible refine wE_op opd_fdiv ?_
  | with_reducible refine wE_op opd_pow ?_
  | with_reducible refine wE_op opd_lt ?_
  | with_reducible refine wE_op opd_le ?_
  | with_reducible refine wE_op opd_gt ?_
  | with_reducible refine wE_op opd_ge ?_
  | with_reducible refine wE_op opd_eq ?_
  | with_reducible refine wE_op opd_ne ?_
  | with_reducible refine wE_op opd_neT0 ?_
  | with_reducible refine wE_op opd_eqL0 ?_
  | ((with_reducible show wE _ (tOp (rIx _) (tVar _) _) _ _); refine wE_ixOwn ⟨_, _, rfl⟩ ?_)
  | with_reducible refine wE_op opd_ix ?_
  | with_reducible refine wE_chain opd_le opd_le ?_
  | ((with_reducible show wE _ (tCB (rLen _) (tCons (tVar _) tNil)) _ _); refine wE_lenOwn cbd_lenO rfl ?_ ?_)
  | with_reducible refine wE_cb cbd_len ?_
  | with_reducible refine wE_cb cbd_isi ?_
  | with_reducible refine wE_cb cbd_all ?_
  | with_reducible refine wE_cb cbd_sum ?_
  | with_reducible refine wE_cb cbd_lcm ?_
  | with_reducible refine wE_sortRev ?_
  | with_reducible refine wE_callD ?_
  | with_reducible refine wE_cb cbd_tup ?_
  | with_reducible refine wE_cb cbd_list ?_
  | with_reducible refine wE_cb cbd_str ?_
  | with_reducible refine wE_cb cbd_int ?_
  | with_reducible refine wE_cb cbd_abs ?_
  | with_reducible refine wE_cb cbd_min2 ?_
  | with_reducible refine wE_cb cbd_max2 ?_
  | with_reducible refine wE_cb cbd_reprQ ?_
  | with_reducible refine wE_cb cbd_isX ?_
  | with_reducible refine wE_fldX ?_
  | with_reducible refine wE_mt mtd_count ty_of ?_
  | with_reducible refine wE_cb cbd_divmod ?_
  | with_reducible refine wE_un und_neg ?_
  | with_reducible refine wE_sl sld_sl ?_
  | with_reducible refine wO_none ?_
  | with_reducible refine wO_some ?_
  | with_reducible refine wE_op opd_is ?_
  | with_reducible refine wE_op opd_sign ?_
  | with_reducible refine wE_mt mtd_joinK ty_of ?_
  | with_reducible refine wE_mt mtd_splitK ty_of ?_
  | with_reducible refine wE_mt0 mtd_strB ty_of ?_
  | with_reducible refine wE_joined ?_
  | with_reducible refine wJ_cons ?_
  | with_reducible refine wJ_nil ?_
  | with_reducible refine wE_fmt ?_
  | with_reducible refine wE_propD ?_
  | with_reducible refine wE_fld ?_
  | with_reducible refine wE_cb cbd_strO ?_
  | with_reducible refine wE_cb cbd_lenOwn ?_
  | with_reducible refine wE_makeD ?_
  | with_reducible refine wE_cmethD ?_
  | ((with_reducible show wS _ (tPar _ _ (tCons (tLst _) (tCons (tC (V.int _)) tNil))) _ _); refine wS_parOwnC (by decide) ?_)
  | with_reducible refine wS_par ?_
  | ((with_reducible show wE _ (tBM _ _ rPopAt (tVar _) _) _ _); refine wE_pop ?_ ⟨_, _, rfl⟩)
  | with_reducible refine wE_revT ?_
  | with_reducible refine wE_dnew ?_
  | with_reducible refine wE_disp1 ?_
  | with_reducible refine wE_op opd_inS ?_)
local macro_rules | `(tactic| walk_at "dl3") => `(tactic| first
  | with_reducible refine ifT ?_
  | with_reducible refine ifF ?_
  | with_reducible refine ifNT ?_
  | with_reducible refine ifNF ?_
  | ((with_reducible show if decide _ = true then _ else _); (first | refine ifP (by first | assumption | omega | decide) ?_ | refine ifN (by first | assumption | omega | decide) ?_))
  | ((with_reducible show if (!decide _) = true then _ else _); (first | refine ifNP (by first | assumption | omega | decide) ?_ | refine ifNN (by first | assumption | omega | decide) ?_))
  | ((with_reducible show ∃ (_ : Option Addr) (_ : Int), _); refine ⟨_, _, _, _, rfl, rfl, rfl, ?_⟩)
  | ((with_reducible show (_ : D) = _ ∧ _); with_reducible refine And.intro rfl ?_)
  | with_reducible refine ex_bl ?_
  | with_reducible refine And.intro isTy_s ?_
  | with_reducible refine str0G_s ?_
  | with_reducible refine isG_t ?_
  | with_reducible refine isG_n ?_
  | with_reducible refine ex_int ?_
  | with_reducible refine ex_str ?_
  | with_reducible refine leG_i ?_
  | with_reducible refine ltG_i ?_
  | with_reducible refine gtG_i ?_
  | with_reducible refine geG_i ?_
  | with_reducible refine subG_i ?_
  | with_reducible refine addG_i ?_
  | with_reducible refine eqG_i ?_
  | with_reducible refine neG_i ?_
  | with_reducible refine eqG_ss ?_
  | with_reducible refine neG_ss ?_
  | with_reducible refine unG_i ?_
  | with_reducible refine lenG_l ?_
  | with_reducible refine lenG_t ?_
  | with_reducible refine lenG_c ?_
  | with_reducible refine tupG_l ?_
  | with_reducible refine listG_t ?_
  | with_reducible refine intOfG_i ?_
  | with_reducible refine strG_s ?_
  | with_reducible refine minG_i ?_
  | with_reducible refine maxG_i ?_
  | with_reducible refine absG_i ?_
  | with_reducible refine isiG_int ?_
  | with_reducible refine isiG_intb ?_
  | with_reducible refine isiG_str ?_
  | with_reducible refine isiG_tup ?_
  | with_reducible refine slG_l ?_
  | with_reducible refine slG_t ?_
  | with_reducible refine slG_c ?_
  | ((with_reducible show modG (.int _) (.int _) _); refine modG_i (by first | decide | omega) ?_)
  | ((with_reducible show fdivG (.int _) (.int _) _); refine fdivG_i (by first | decide | omega) (by first | decide | omega) ?_)
  | ((with_reducible show powG (.int _) (.int _) _); refine powG_i ⟨by decide, by decide, by decide⟩ ?_)
  | ((with_reducible show mulG (.int _) (.int _) _); refine mulG_i (by first | exact MulC.right (by decide) (by decide) | exact MulC.left (by decide) (by decide) | exact MulC.left (by omega) (by omega) | exact MulC.right (by omega) (by omega)) ?_)
  | ((with_reducible show mulAG (.int _) (.int _) _); refine And.intro (by first | exact MulC.right (by decide) (by decide) | exact MulC.left (by decide) (by decide) | exact MulC.left (by omega) (by omega) | exact MulC.right (by omega) (by omega)) ?_)
  | ((with_reducible show mulAG (.lst _) (.int _) _); refine mulAG_l (by decide) (by decide) (by simp) ?_)
  | ((with_reducible show ixG (.lst _) (.int 0) _); refine ixG_l0 rfl ?_)
  | ((with_reducible show ixG (.lst _) (.int 1) _); refine ixG_l1 rfl ?_)
  | ((with_reducible show ixG (.lst _) (.int 2) _); refine ixG_l2 rfl ?_)
  | ((with_reducible show ixG (.tup _) (.int 0) _); refine ixG_t0 rfl ?_)
  | ((with_reducible show ixG (.tup _) (.int 1) _); refine ixG_t1 rfl ?_)
  | ((with_reducible show ixG (.tup (_ :: _)) (.int _) _); refine ixG_t rfl ?_)
  | ((with_reducible show ixG (.lst (_ :: _)) (.int _) _); refine ixG_l rfl ?_))
local macro_rules | `(tactic| walk_at "dl") => `(tactic| repeat (first | walk_at "dl1" | walk_at "dl2" | walk_at "dl3"))
local macro_rules | `(tactic| walk_at "dl1o") => `(tactic| first
  | with_reducible refine wS_seq ?_
  | with_reducible refine wS_if ?_
  | with_reducible refine wS_next ?_
  | with_reducible refine wS_retOwn ?_
  | ((with_reducible show wS _ (tDrop (tBM _ _ rAppend (tVar _) _)) _ _); refine wS_append ?_ ⟨_, _, rfl⟩)
  | with_reducible refine wS_raise ?_
  | with_reducible refine wS_drop ?_
  | with_reducible refine wS_fld ?_
  | with_reducible refine wS_asgOwn ?_
  | with_reducible refine wS_asg ?_
  | with_reducible refine wG_name ?_
  | ((with_reducible refine wG_tup ?_); refine ⟨_, rfl, rfl, ?_⟩)
  | ((with_reducible show wG _ (gSub (tVar _) _ rSetL) _ _ _); refine wG_subOwn ⟨_, _, rfl⟩ ?_)
  | with_reducible refine wGs_cons ?_
  | with_reducible refine wGs_nil ?_
  | with_reducible refine wT_not ?_
  | with_reducible refine wT_and ?_
  | with_reducible refine wT_or ?_
  | with_reducible refine wT_test ?_
  | with_reducible refine wT_B ?_
  | with_reducible refine wT_yes ?_
  | with_reducible refine wA_nil ?_
  | with_reducible refine wA_cons ?_)
local macro_rules | `(tactic| walk_at "dlo") => `(tactic| repeat (first | walk_at "dl1o" | walk_at "dl2" | walk_at "dl3"))
local macro_rules | `(tactic| walk_at "dlt") => `(tactic| repeat (first | walk_at "dl1" | walk_at "dl2" | walk_at "dl3" | refine isiG_tr rfl (by decide) (by decide) ?_ | refine isiG_f rfl (by decide) (by decide) ?_ | (with_reducible show List.length _ ≤ _ ∧ _; refine And.intro (by simp; done) ?_)))
section
variable {P : Program} {w : World} {K : PySem.W.Frag} {mg : Str → Option Value} {base : Heap} {f : Addr} {fd : FuncData}
/-! ### kinds, of values that are right -/
def S_is_integer : DSp := fun ds Φ _ => ∃ i, ds = [.int i] ∧ Φ (.bl true)
abbrev s_is_integer : Stmt := topS 21
abbrev N_is_integer : List Str := ["value"]
theorem sc_is_integer : FnScope N_is_integer ["value"] (defScope s_is_integer) := ⟨rfl, rfl, rfl, by decide +kernel, rfl, by decide +kernel, by decide +kernel⟩
theorem ok_is_integer (F : FunX K "is_integer" "is_integer" s_is_integer f fd) (B : Blt mg) : FnG P w K mg base 1 f fd ["value"] (lift K S_is_integer) := by
  refine fnX_of F sc_is_integer (fun ds Φ Ψ ⟨_, h, _⟩ => by rw [h]; rfl) fun cdv A outer s H E b => ⟨_, (pss_one (ps_ret (pe_and (pe_callB (k_isi K) (by rfl) B.isinstance bb_isinstance (pa_cons (pv 0) (pa_cons (pe_bty B.int bb_int) pa_nil))) (pe_one (pe_not (pe_callB (k_isi K) (by rfl) B.isinstance bb_isinstance (pa_cons (pv 0) (pa_cons (pe_bty B.bool bb_bool) pa_nil)))))))), fun ds Φ Ψ ⟨i, h, q⟩ => ?_⟩
  subst h
  show wS _ _ _ [some (.dat _)]
  walk_at "dl"
  exact q
def S_is_between : DSp := fun ds Φ _ => ∃ i lo hi : Int, ds = [.int i, .int lo, .int hi] ∧ lo ≤ i ∧ i ≤ hi ∧ Φ (.bl true)
abbrev s_is_between : Stmt := topS 22
abbrev N_is_between : List Str := ["value", "least", "most"]
theorem sc_is_between : FnScope N_is_between ["value", "least", "most"] (defScope s_is_between) := ⟨rfl, rfl, rfl, by decide +kernel, rfl, by decide +kernel, by decide +kernel⟩
theorem ok_is_between (F : FunX K "is_between" "is_between" s_is_between f fd) (c_is_integer : CallD P w K mg base "is_integer" 1 S_is_integer) : FnG P w K mg base 2 f fd ["value", "least", "most"] (lift K S_is_between) := by
  refine fnX_of F sc_is_between (fun ds Φ Ψ ⟨_, _, _, h, _⟩ => by rw [h]; rfl) fun cdv A outer s H E b => ⟨_, (pss_one (ps_ret (pe_and (k_cd K c_is_integer (by exact b.room) (by decide) b.pass (pa_cons (pv 0) pa_nil)) (pe_one (pe_chain op_le op_le (pv 1) (pv 0) (pv 2)))))), fun ds Φ Ψ ⟨i, lo, hi, h, h1, h2, q⟩ => ?_⟩
  subst h
  show wS _ _ _ [some (.dat _), some (.dat _), some (.dat _)]
  walk_at "dl"
  refine ⟨_, rfl, ?_⟩
  walk_at "dl"
  rw [decide_eq_true h2]
  exact q
end
/-! ### the mathematics of nights -/
def letters : Str := "abcdefghijklmnopqrstuvwxyz"
def lettersD : Str := "abcdefghijklmnopqrstuvwxyz0123456789"
structure NameOk (z : Str) : Prop where
  l1 : 1 ≤ z.length
  l8 : z.length ≤ 8
  hd : ∃ c, z.cps.toList[0]? = some c ∧ c ∈ letters.cps.toList
  al : ∀ c ∈ z.cps.toList, c ∈ lettersD.cps.toList
theorem lettersD_small : ∀ c ∈ lettersD.cps.toList, c < 128 := by decide +kernel
theorem NameOk.ok {z : Str} (h : NameOk z) : PyData.strOk z = true := by
  simp only [PyData.strOk, Array.all_eq_true', decide_eq_true_eq]
  intro c hc
  exact Nat.lt_trans (lettersD_small c (h.al c (by simpa using hc))) (by decide)
structure DivOk (ns : List Int) : Prop where
  l1 : 1 ≤ ns.length
  l2 : ns.length ≤ 12
  b : ∀ n ∈ ns, 1 ≤ n ∧ n ≤ 100
  up : ns.Pairwise (· < ·)
structure FolkOk (l : List (Str × Int)) : Prop where
  l1 : 1 ≤ l.length
  l2 : l.length ≤ 6
  b : ∀ p ∈ l, NameOk p.1 ∧ 0 ≤ p.2 ∧ p.2 ≤ 1000000
  nd : (l.map (·.1)).Nodup
structure HeapOk (names : List Str) (p : Int × List Str) : Prop where
  b1 : 0 ≤ p.1
  b2 : p.1 ≤ 1000000
  ne : p.2 ≠ []
  sub : p.2.Sublist names
structure HeapsOk (names : List Str) (l : List (Int × List Str)) : Prop where
  l2 : l.length ≤ 6
  b : ∀ p ∈ l, HeapOk names p
def partyD (p : Str × Int) : D := .tup [.str p.1, .int p.2]
def pileD (p : Int × List Str) : D := .tup [.int p.1, .tup (p.2.map .str)]
def divsD (ns : List Int) : D := .tup (ns.map .int)
def folkD (l : List (Str × Int)) : D := .tup (l.map partyD)
def heapsD (l : List (Int × List Str)) : D := .tup (l.map pileD)
theorem allG_map {α : Type} {xs : List α} {q : α → Bool} {Φ : D → Prop} (h : Φ (.bl (xs.all q))) : allG [.lst (xs.map fun x => .bl (q x))] Φ := ⟨xs.map q, by rw [List.map_map]; rfl, by rw [List.all_map]; exact h⟩
section
variable {P : Program} {w : World} {K : PySem.W.Frag} {mg : Str → Option Value} {base : Heap} {f : Addr} {fd : FuncData}
def S_is_tuple_of : DSp := fun ds Φ _ => ∃ (l : List D) (n : Int), ds = [.tup l, .int n] ∧ (l.length : Int) = n ∧ Φ (.bl true)
abbrev s_is_tuple_of : Stmt := topS 23
abbrev N_is_tuple_of : List Str := ["value", "many"]
theorem sc_is_tuple_of : FnScope N_is_tuple_of ["value", "many"] (defScope s_is_tuple_of) := ⟨rfl, rfl, rfl, by decide +kernel, rfl, by decide +kernel, by decide +kernel⟩
theorem ok_is_tuple_of (F : FunX K "is_tuple_of" "is_tuple_of" s_is_tuple_of f fd) (B : Blt mg) : FnG P w K mg base 1 f fd ["value", "many"] (lift K S_is_tuple_of) := by
  refine fnX_of F sc_is_tuple_of (fun ds Φ Ψ ⟨_, _, h, _⟩ => by rw [h]; rfl) fun cdv A outer s H E b => ⟨_, (pss_one (ps_ret (pe_and (pe_callB (k_isi K) (by rfl) B.isinstance bb_isinstance (pa_cons (pv 0) (pa_cons (pe_bty B.tuple bb_tuple) pa_nil))) (pe_one (pe_cmpR (k_eq K (by exact b.room)) (pe_callB (k_len K) (by rfl) B.len bb_len (pa_cons (pv 0) pa_nil)) (pv 1) (nomark _)))))), fun ds Φ Ψ ⟨l, n, h, hn, q⟩ => ?_⟩
  subst h
  show wS _ _ _ [some (.dat _), some (.dat _)]
  walk_at "dl"
  rw [decide_eq_true hn]
  exact q
def S_is_name : DSp := fun ds Φ _ => ∃ z, ds = [.str z] ∧ NameOk z ∧ Φ (.bl true)
abbrev s_is_name : Stmt := topS 24
abbrev N_is_name : List Str := ["value", "sign"]
theorem sc_is_name : FnScope N_is_name ["value"] (defScope s_is_name) := ⟨rfl, rfl, rfl, by decide +kernel, rfl, by decide +kernel, by decide +kernel⟩
theorem ok_is_name (F : FunX K "is_name" "is_name" s_is_name f fd) (B : Blt mg) (c_MOST_LETTERS : GInt mg "MOST_LETTERS" 8) (c_LETTERS : GStr mg "LETTERS" letters) (c_LETTERS_AND_DIGITS : GStr mg "LETTERS_AND_DIGITS" lettersD) : FnG P w K mg base 1 f fd ["value"] (lift K S_is_name) := by
  refine fnX_of F sc_is_name (fun ds Φ Ψ ⟨_, h, _⟩ => by rw [h]; rfl) fun cdv A outer s H E b => ⟨_, (pss_cons (ps_if (PW.pt (pw_or (pt_not (pt_val (pe_callB (k_isi K) (by rfl) B.isinstance bb_isinstance (pa_cons (pv 0) (pa_cons (pe_bty B.str bb_str) pa_nil))))) (pw_or1 (pt_not (pt_chain op_le op_le pe_int (pe_callB (k_len K) (by rfl) B.len bb_len (pa_cons (pv 0) pa_nil)) (pe_gi c_MOST_LETTERS)))))) (pss_one (ps_ret pe_bl)) pss_nil)
 (pss_one (ps_ret (pe_and (pe_cmpR opr_sign (pe_ix (k_ix K) (pv 0) pe_int (fun _ _ => rfl)) (pe_gs c_LETTERS) (by with_unfolding_all rfl)) (pe_one (pe_callB (k_all K rfl) (by rfl) B.all bb_all (pa_cons (pe_lc (own := [("sign", 1)]) rfl sc_is_name.nd (k_any K (pv 0)) (blkOk_by (own := [("sign", 1)]) (N := N_is_name) (sc := defScope s_is_name) (by decide +kernel))  (fun _ _ _ _ _ => (pg_name (i := 1) sc_is_name.nd rfl (by first | exact .inl rfl | exact .inr rfl))) (fun _ _ _ _ _ => pts_nil) (fun _ _ _ _ _ => (pe_cmpR opr_sign (pv 1) (pe_gs c_LETTERS_AND_DIGITS) (by with_unfolding_all rfl)))) pa_nil))))))), fun ds Φ Ψ ⟨z, h, hn, q⟩ => ?_⟩
  subst h
  have n1 := hn.l1
  have n2 := hn.l8
  show wS _ _ _ [some (.dat _), none]
  walk_at "dl"
  refine lenG_s (by omega) ?_
  walk_at "dl"
  obtain ⟨c0, h0, h0'⟩ := hn.hd
  refine ixG_s (by omega) (L2.atI_nat h0) ?_
  walk_at "dl"
  refine ⟨c0, _, rfl, rfl, ?_⟩
  walk_at "dl"
  refine wE_lcM (only_name List.mem_cons_self) (fun c => .str ⟨#[c]⟩) (fun c => .bl (decide (c ∈ lettersD.cps.toList))) (wI_any ?_)
  walk_at "dl"
  have hl : z.cps.toList.length = z.length := by simp [Str.length]
  refine ⟨_, rfl, z.cps.toList, rfl, by omega, fun c hc => ?_, ?_⟩
  · walk_at "dl"
    exact ⟨c, _, rfl, rfl, rfl⟩
  · walk_at "dl"
    refine allG_map ?_
    rw [List.all_eq_true.mpr fun c hc => decide_eq_true (hn.al c hc)]
    exact q
theorem all_up {ns : List Int} (h : ns.Pairwise (· < ·)) : ((ns.zip (ns.drop 1)).all fun p => decide (p.1 < p.2)) = true := by
  induction ns with
  | nil => rfl
  | cons a l ih =>
    cases l with
    | nil => rfl
    | cons b l =>
      have h2 := List.pairwise_cons.mp h
      have := ih h2.2
      show (decide (a < b) && ((b :: l).zip l).all fun p => decide (p.1 < p.2)) = true
      rw [decide_eq_true (h2.1 b List.mem_cons_self), Bool.true_and]
      exact this
def S_is_divisors : DSp := fun ds Φ _ => ∃ ns, ds = [divsD ns] ∧ DivOk ns ∧ Φ (.bl true)
abbrev s_is_divisors : Stmt := topS 25
abbrev N_is_divisors : List Str := ["value", "item", "low", "high"]
theorem sc_is_divisors : FnScope N_is_divisors ["value"] (defScope s_is_divisors) := ⟨rfl, rfl, rfl, by decide +kernel, rfl, by decide +kernel, by decide +kernel⟩
theorem ok_is_divisors (F : FunX K "is_divisors" "is_divisors" s_is_divisors f fd) (B : Blt mg) (c_MOST_SEATS : GInt mg "MOST_SEATS" 12) (c_MOST_DIVISOR : GInt mg "MOST_DIVISOR" 100) (c_is_between : CallD P w K mg base "is_between" 2 S_is_between) : FnG P w K mg base 3 f fd ["value"] (lift K S_is_divisors) := by
  refine fnX_of F sc_is_divisors (fun ds Φ Ψ ⟨_, h, _⟩ => by rw [h]; rfl) fun cdv A outer s H E b => ⟨_, (pss_cons (ps_if (PW.pt (pw_or (pt_not (pt_val (pe_callB (k_isi K) (by rfl) B.isinstance bb_isinstance (pa_cons (pv 0) (pa_cons (pe_bty B.tuple bb_tuple) pa_nil))))) (pw_or1 (pt_not (pt_chain op_le op_le pe_int (pe_callB (k_len K) (by rfl) B.len bb_len (pa_cons (pv 0) pa_nil)) (pe_gi c_MOST_SEATS)))))) (pss_one (ps_ret pe_bl)) pss_nil)
 (pss_cons (ps_if (pt_not (pt_val (pe_callB (k_all K rfl) (by rfl) B.all bb_all (pa_cons (pe_lc (own := [("item", 1)]) rfl sc_is_divisors.nd (k_any K (pv 0)) (blkOk_by (own := [("item", 1)]) (N := N_is_divisors) (sc := defScope s_is_divisors) (by decide +kernel))  (fun _ _ _ _ _ => (pg_name (i := 1) sc_is_divisors.nd rfl (by first | exact .inl rfl | exact .inr rfl))) (fun _ _ _ _ _ => pts_nil) (fun _ _ _ _ _ => (k_cd K c_is_between (by exact b.room) (by decide) passN (pa_cons (pv 1) (pa_cons pe_int (pa_cons (pe_gi c_MOST_DIVISOR) pa_nil)))))) pa_nil)))) (pss_one (ps_ret pe_bl)) pss_nil)
 (pss_one (ps_ret (pe_callB (k_all K rfl) (by rfl) B.all bb_all (pa_cons (pe_lc (own := [("low", 2), ("high", 3)]) rfl sc_is_divisors.nd (k_zip K (by rfl) B.zip (pa_cons (pv 0) (pa_cons (pe_slice (k_sl K) (pv 0) (po_some pe_int) po_none) pa_nil))) (blkOk_by (own := [("low", 2), ("high", 3)]) (N := N_is_divisors) (sc := defScope s_is_divisors) (by decide +kernel))  (fun _ _ _ _ _ => (k_pg K (n := 2) rfl (pgs_cons (pg_name (i := 2) sc_is_divisors.nd rfl (by first | exact .inl rfl | exact .inr rfl)) (pgs_cons (pg_name (i := 3) sc_is_divisors.nd rfl (by first | exact .inl rfl | exact .inr rfl)) pgs_nil)))) (fun _ _ _ _ _ => pts_nil) (fun _ _ _ _ _ => (pe_cmpR op_lt (pv 2) (pv 3) (nomark _)))) pa_nil)))))), fun ds Φ Ψ ⟨ns, h, hn, q⟩ => ?_⟩
  subst h
  have n1 := hn.l1
  have n2 := hn.l2
  have hl : (ns.map D.int).length = ns.length := List.length_map _
  show wS _ _ _ [some (.dat _), none, none, none]
  unfold divsD
  walk_at "dl"
  refine wE_lcM (only_name List.mem_cons_self) D.int (fun _ => .bl true) (wI_any ?_)
  walk_at "dl"
  refine ⟨_, rfl, ns, rfl, by omega, fun n hm => ?_, ?_⟩
  · walk_at "dl"
    exact ⟨n, 1, 100, rfl, (hn.b n hm).1, (hn.b n hm).2, rfl⟩
  walk_at "dl"
  refine allG_map (q := fun _ => true) ?_
  rw [List.all_eq_true.mpr fun _ _ => rfl]
  walk_at "dl"
  refine wE_lcM (only_pair List.mem_cons_self (List.mem_cons_of_mem _ List.mem_cons_self)) (fun p : Int × Int => .tup [.int p.1, .int p.2]) (fun p => .bl (decide (p.1 < p.2))) (wI_zipT ?_)
  walk_at "dl"
  refine ⟨_, _, rfl, ns.zip (ns.drop 1), ?_, by rw [List.length_zip]; omega, fun p hp => ?_, ?_⟩
  · rw [cut_from1, ← List.map_drop, zipD_map]
  · walk_at "dl"
    rfl
  walk_at "dl"
  refine allG_map ?_
  rw [all_up hn.up]
  exact q
def S_is_party : DSp := fun ds Φ _ => ∃ p, ds = [partyD p] ∧ NameOk p.1 ∧ 0 ≤ p.2 ∧ p.2 ≤ 1000000 ∧ Φ (.bl true)
abbrev s_is_party : Stmt := topS 26
abbrev N_is_party : List Str := ["value"]
theorem sc_is_party : FnScope N_is_party ["value"] (defScope s_is_party) := ⟨rfl, rfl, rfl, by decide +kernel, rfl, by decide +kernel, by decide +kernel⟩
theorem ok_is_party (F : FunX K "is_party" "is_party" s_is_party f fd) (c_MOST_COUNT : GInt mg "MOST_COUNT" 1000000) (c_is_tuple_of : CallD P w K mg base "is_tuple_of" 1 S_is_tuple_of) (c_is_name : CallD P w K mg base "is_name" 1 S_is_name) (c_is_between : CallD P w K mg base "is_between" 2 S_is_between) : FnG P w K mg base 3 f fd ["value"] (lift K S_is_party) := by
  refine fnX_of F sc_is_party (fun ds Φ Ψ ⟨_, h, _⟩ => by rw [h]; rfl) fun cdv A outer s H E b => ⟨_, (pss_one (ps_ret (pe_and (k_cd K c_is_tuple_of (by exact b.room) (by decide) b.pass (pa_cons (pv 0) (pa_cons pe_int pa_nil))) (pe_and (k_cd K c_is_name (by exact b.room) (by decide) b.pass (pa_cons (pe_ix (k_ix K) (pv 0) pe_int (fun _ _ => rfl)) pa_nil)) (pe_one (k_cd K c_is_between (by exact b.room) (by decide) b.pass (pa_cons (pe_ix (k_ix K) (pv 0) pe_int (fun _ _ => rfl)) (pa_cons pe_int (pa_cons (pe_gi c_MOST_COUNT) pa_nil))))))))), fun ds Φ Ψ ⟨p, h, h1, h2, h3, q⟩ => ?_⟩
  subst h
  show wS _ _ _ [some (.dat _)]
  unfold partyD
  walk_at "dl"
  refine ⟨_, _, rfl, rfl, ?_⟩
  walk_at "dl"
  refine ⟨_, rfl, h1, ?_⟩
  walk_at "dl"
  exact ⟨_, _, _, rfl, h2, h3, q⟩
/-- the names of a group, picked from all names -/
theorem pick_sub {ns names : List Str} (h : ns.Sublist names) (nd : names.Nodup) : names.filter (fun x => decide (x ∈ ns)) = ns := by
  induction h with
  | slnil => rfl
  | @cons l₁ l₂ a h ih =>
    have h2 := List.nodup_cons.mp nd
    have hn : a ∉ l₁ := fun z => h2.1 (h.subset z)
    rw [List.filter_cons, if_neg (by simpa using hn), ih h2.2]
  | @cons_cons l₁ l₂ a h ih =>
    have h2 := List.nodup_cons.mp nd
    rw [List.filter_cons, if_pos (by simp)]
    congr 1
    rw [← ih h2.2]
    refine List.filter_congr fun x hx => ?_
    have hne : x ≠ a := fun e => h2.1 (e ▸ hx)
    rw [ih h2.2]
    simp [hne]
theorem eqv_strs : ∀ zs : List Str, PyData.eqvAll (pyAll (zs.map D.str)) (pyAll (zs.map D.str)) = true
  | [] => rfl
  | z :: zs => by
    have := eqv_strs zs
    simp only [List.map_cons, pyAll, D.py, PyData.eqvAll, PyData.eqv, this, beq_self_eq_true, Bool.and_self]
theorem shp_strs {n : Nat} {zs : List Str} (h : ∀ z ∈ zs, PyData.strOk z = true) : ∀ d ∈ zs.map D.str, Shp n d := fun d hd => by
  obtain ⟨z, hz, rfl⟩ := List.mem_map.mp hd
  exact .str (h z hz)
def S_is_group : DSp := fun ds Φ _ => ∃ zs names, ds = [.tup (zs.map .str), .tup (names.map .str)] ∧ zs ≠ [] ∧ zs.Sublist names ∧ names.Nodup ∧ (∀ z ∈ names, PyData.strOk z = true) ∧ names.length ≤ 6 ∧ Φ (.bl true)
abbrev s_is_group : Stmt := topS 27
abbrev N_is_group : List Str := ["value", "names", "item", "name"]
theorem sc_is_group : FnScope N_is_group ["value", "names"] (defScope s_is_group) := ⟨rfl, rfl, rfl, by decide +kernel, rfl, by decide +kernel, by decide +kernel⟩
theorem ok_is_group (F : FunX K "is_group" "is_group" s_is_group f fd) (B : Blt mg) : FnG P w K mg base 1 f fd ["value", "names"] (lift K S_is_group) := by
  refine fnX_of F sc_is_group (fun ds Φ Ψ ⟨_, _, h, _⟩ => by rw [h]; rfl) fun cdv A outer s H E b => ⟨_, (pss_cons (ps_if (PW.pt (pw_or (pt_not (pt_val (pe_callB (k_isi K) (by rfl) B.isinstance bb_isinstance (pa_cons (pv 0) (pa_cons (pe_bty B.tuple bb_tuple) pa_nil))))) (pw_or1 (pt_cmpR (k_eq K (by exact b.room)) (pe_callB (k_len K) (by rfl) B.len bb_len (pa_cons (pv 0) pa_nil)) pe_int (nomark _))))) (pss_one (ps_ret pe_bl)) pss_nil)
 (pss_cons (ps_if (pt_not (pt_val (pe_callB (k_all K rfl) (by rfl) B.all bb_all (pa_cons (pe_lc (own := [("item", 2)]) rfl sc_is_group.nd (k_any K (pv 0)) (blkOk_by (own := [("item", 2)]) (N := N_is_group) (sc := defScope s_is_group) (by decide +kernel))  (fun _ _ _ _ _ => (pg_name (i := 2) sc_is_group.nd rfl (by first | exact .inl rfl | exact .inr rfl))) (fun _ _ _ _ _ => pts_nil) (fun _ _ _ _ _ => (pe_callB (k_isi K) (by rfl) B.isinstance bb_isinstance (pa_cons (pv 2) (pa_cons (pe_bty B.str bb_str) pa_nil))))) pa_nil)))) (pss_one (ps_ret pe_bl)) pss_nil)
 (pss_one (ps_ret (pe_cmpR (k_eq K (by exact b.room)) (pe_callTy (k_list K) (by rfl) B.list bb_list (pa_cons (pv 0) pa_nil)) (pe_lc (own := [("name", 3)]) rfl sc_is_group.nd (k_any K (pv 1)) (blkOk_by (own := [("name", 3)]) (N := N_is_group) (sc := defScope s_is_group) (by decide +kernel))  (fun _ _ _ _ _ => (pg_name (i := 3) sc_is_group.nd rfl (by first | exact .inl rfl | exact .inr rfl))) (fun _ _ _ _ _ => (pts_one (pt_cmpR (k_in K) (pv 3) (pv 0) (by with_unfolding_all rfl)))) (fun _ _ _ _ _ => (pv 3))) (nomark _)))))), fun ds Φ Ψ ⟨zs, names, h, h1, h2, h3, h4, h5, q⟩ => ?_⟩
  subst h
  have hl : (zs.map D.str).length = zs.length := List.length_map _
  have hz := h2.length_le
  have hp : 0 < zs.length := List.length_pos_iff.mpr h1
  show wS _ _ _ [some (.dat _), some (.dat _), none, none]
  walk_at "dl"
  refine wE_lcM (only_name List.mem_cons_self) D.str (fun _ => .bl true) (wI_any ?_)
  walk_at "dl"
  refine ⟨_, rfl, zs, rfl, by omega, fun n hm => ?_, ?_⟩
  · walk_at "dl"
    rfl
  walk_at "dl"
  refine allG_map (q := fun _ => true) ?_
  rw [List.all_eq_true.mpr fun _ _ => rfl]
  walk_at "dl"
  refine wE_lcF (only_name List.mem_cons_self) D.str D.str (fun x => decide (x ∈ zs)) (wI_any ?_)
  walk_at "dl"
  refine ⟨_, rfl, names, rfl, by omega, fun x hm => ?_, ?_⟩
  · walk_at "dl"
    refine ⟨x, zs, rfl, .inl rfl, ?_⟩
    walk_at "dl"
    refine ⟨rfl, fun _ => ?_⟩
    walk_at "dl"
    rfl
  rw [pick_sub h2 h3]
  have hs := shp_strs (n := 63) fun z hz => h4 z (h2.subset hz)
  refine eqG_of ((Shp.lst hs).mono (by decide)) ((Shp.lst hs).mono (by decide)) ?_
  have e : D.eqv (.lst (zs.map D.str)) (.lst (zs.map D.str)) = true := by
    simp only [D.eqv, D.py, PyData.eqv]
    exact eqv_strs zs
  rw [e]
  exact q
def S_is_pile : DSp := fun ds Φ _ => ∃ p names, ds = [pileD p, .tup (names.map .str)] ∧ HeapOk names p ∧ names.Nodup ∧ (∀ z ∈ names, PyData.strOk z = true) ∧ names.length ≤ 6 ∧ Φ (.bl true)
abbrev s_is_pile : Stmt := topS 28
abbrev N_is_pile : List Str := ["value", "names"]
theorem sc_is_pile : FnScope N_is_pile ["value", "names"] (defScope s_is_pile) := ⟨rfl, rfl, rfl, by decide +kernel, rfl, by decide +kernel, by decide +kernel⟩
theorem ok_is_pile (F : FunX K "is_pile" "is_pile" s_is_pile f fd) (c_MOST_COUNT : GInt mg "MOST_COUNT" 1000000) (c_is_tuple_of : CallD P w K mg base "is_tuple_of" 1 S_is_tuple_of) (c_is_group : CallD P w K mg base "is_group" 1 S_is_group) (c_is_between : CallD P w K mg base "is_between" 2 S_is_between) : FnG P w K mg base 3 f fd ["value", "names"] (lift K S_is_pile) := by
  refine fnX_of F sc_is_pile (fun ds Φ Ψ ⟨_, _, h, _⟩ => by rw [h]; rfl) fun cdv A outer s H E b => ⟨_, (pss_one (ps_ret (pe_and (k_cd K c_is_tuple_of (by exact b.room) (by decide) b.pass (pa_cons (pv 0) (pa_cons pe_int pa_nil))) (pe_and (k_cd K c_is_between (by exact b.room) (by decide) b.pass (pa_cons (pe_ix (k_ix K) (pv 0) pe_int (fun _ _ => rfl)) (pa_cons pe_int (pa_cons (pe_gi c_MOST_COUNT) pa_nil)))) (pe_one (k_cd K c_is_group (by exact b.room) (by decide) b.pass (pa_cons (pe_ix (k_ix K) (pv 0) pe_int (fun _ _ => rfl)) (pa_cons (pv 1) pa_nil)))))))), fun ds Φ Ψ ⟨p, names, h, h1, h2, h3, h4, q⟩ => ?_⟩
  subst h
  show wS _ _ _ [some (.dat _), some (.dat _)]
  unfold pileD
  walk_at "dl"
  refine ⟨_, _, rfl, rfl, ?_⟩
  walk_at "dl"
  refine ⟨_, _, _, rfl, h1.b1, h1.b2, ?_⟩
  walk_at "dl"
  exact ⟨_, _, rfl, h1.ne, h1.sub, h2, h3, h4, q⟩
def S_names_of : DSp := fun ds Φ _ => ∃ l, ds = [folkD l] ∧ l.length ≤ 1000000 ∧ Φ (.tup (l.map fun p => .str p.1))
abbrev s_names_of : Stmt := topS 32
abbrev N_names_of : List Str := ["parties", "name", "_"]
theorem sc_names_of : FnScope N_names_of ["parties"] (defScope s_names_of) := ⟨rfl, rfl, rfl, by decide +kernel, rfl, by decide +kernel, by decide +kernel⟩
theorem ok_names_of (F : FunX K "names_of" "names_of" s_names_of f fd) (B : Blt mg) : FnG P w K mg base 1 f fd ["parties"] (lift K S_names_of) := by
  refine fnX_of F sc_names_of (fun ds Φ Ψ ⟨_, h, _⟩ => by rw [h]; rfl) fun cdv A outer s H E b => ⟨_, (pss_one (ps_ret (pe_callTy (k_tup K) (by rfl) B.tuple bb_tuple (pa_cons (pe_lc (own := [("name", 1), ("_", 2)]) rfl sc_names_of.nd (k_any K (pv 0)) (blkOk_by (own := [("name", 1), ("_", 2)]) (N := N_names_of) (sc := defScope s_names_of) (by decide +kernel))  (fun _ _ _ _ _ => (k_pg K (n := 2) rfl (pgs_cons (pg_name (i := 1) sc_names_of.nd rfl (by first | exact .inl rfl | exact .inr rfl)) (pgs_cons (pg_name (i := 2) sc_names_of.nd rfl (by first | exact .inl rfl | exact .inr rfl)) pgs_nil)))) (fun _ _ _ _ _ => pts_nil) (fun _ _ _ _ _ => (pv 1))) pa_nil)))), fun ds Φ Ψ ⟨l, h, hl, q⟩ => ?_⟩
  subst h
  show wS _ _ _ [some (.dat _), none, none]
  unfold folkD
  walk_at "dl"
  refine wE_lcM (only_pair List.mem_cons_self (List.mem_cons_of_mem _ List.mem_cons_self)) partyD (fun p => .str p.1) (wI_any ?_)
  walk_at "dl"
  refine ⟨_, rfl, l, rfl, hl, fun p hp => ?_, ?_⟩
  · unfold partyD
    walk_at "dl"
    rfl
  walk_at "dl"
  exact q
end
/-! ### texts of nights -/
abbrev strN (i : Int) : Str := Str.ofString (toString i)
theorem strN_len {i : Int} (h : i.natAbs < 10 ^ 12) : (strN i).length ≤ 13 := PyData.shown_int_le h
theorem joinL_len (S : List Nat) : ∀ l : List (List Nat), (TL.joinL S l).length ≤ (l.map List.length).sum + l.length * S.length
  | [] => Nat.zero_le _
  | [x] => by simp [TL.joinL]
  | x :: y :: r => by
    have := joinL_len S (y :: r)
    simp only [TL.joinL, List.length_append, List.map_cons, List.sum_cons, List.length_cons] at this ⊢
    rw [Nat.add_mul] at this ⊢
    rw [Nat.add_mul]
    omega
theorem join_len (a : Str) (ys : List Str) : (Txt.join a ys).length ≤ (ys.map (·.length)).sum + ys.length * a.length := by
  have h := joinL_len (TL.tl a) (ys.map TL.tl)
  rw [← TL.tl_join, ← TL.join_eq, ← TL.len_tl, List.length_map, ← TL.len_tl, List.map_map] at h
  have e : (List.length ∘ TL.tl) = fun y : Str => y.length := by funext y; exact (TL.len_tl y).symm
  rw [e] at h
  exact h
theorem sum_le {m : Nat} : ∀ {ys : List Str}, (∀ y ∈ ys, y.length ≤ m) → (ys.map (·.length)).sum ≤ ys.length * m
  | [], _ => Nat.zero_le _
  | y :: ys, h => by
    have h1 := sum_le fun z hz => h z (List.mem_cons_of_mem _ hz)
    have h2 := h y List.mem_cons_self
    simp only [List.map_cons, List.sum_cons, List.length_cons, Nat.add_mul]
    omega
theorem join_ok {a : Str} {ys : List Str} {m n k : Nat} (h : ∀ y ∈ ys, y.length ≤ m) (hn : ys.length ≤ n) (hk : a.length ≤ k) : (ys.map (·.length)).sum + ys.length * a.length ≤ n * (m + k) := by
  have h1 := sum_le h
  have h2 : ys.length * m + ys.length * a.length ≤ n * (m + k) := by
    rw [← Nat.mul_add]
    exact Nat.mul_le_mul hn (by omega)
  omega
def divRow (ns : List Int) : Str := Txt.join " " ("divisors" :: ns.map strN)
def partyRow (p : Str × Int) : Str := Str.empty ++ "party " ++ p.1 ++ " " ++ strN p.2
def pileRow (p : Int × List Str) : Str := Str.empty ++ "pile " ++ strN p.1 ++ " " ++ Txt.join " " p.2
def textOf (ns : List Int) (folk : List (Str × Int)) (heaps : List (Int × List Str)) : Str := Txt.join "\n" (divRow ns :: (folk.map partyRow ++ heaps.map pileRow))
/-- what a night is made of -/
structure PartsOk (ns : List Int) (folk : List (Str × Int)) (heaps : List (Int × List Str)) : Prop where
  d : DivOk ns
  f : FolkOk folk
  h : HeapsOk (folk.map (·.1)) heaps
theorem divRow_ok {ns : List Int} (h : DivOk ns) : (("divisors" :: ns.map strN : List Str).map (·.length)).sum + ("divisors" :: ns.map strN : List Str).length * (Str.ofString " ").length ≤ 182 :=
  join_ok (m := 13) (n := 13) (k := 1) (fun y hy => by
    rcases List.mem_cons.mp hy with e | e
    · subst e; decide +kernel
    · obtain ⟨n, hn, rfl⟩ := List.mem_map.mp e
      have := h.b n hn
      exact strN_len (by omega)) (by have := h.l2; simp; omega) (by decide +kernel)
theorem divRow_len {ns : List Int} (h : DivOk ns) : (divRow ns).length ≤ 182 := Nat.le_trans (join_len _ _) (divRow_ok h)
theorem lit_party : (Str.ofString "party ").length = 6 := by decide +kernel
theorem lit_pile : (Str.ofString "pile ").length = 5 := by decide +kernel
theorem lit_sp : (Str.ofString " ").length = 1 := by decide +kernel
theorem lit_e : Str.empty.length = 0 := rfl
theorem heap_names {names : List Str} {p : Int × List Str} (h : HeapOk names p) (hn : ∀ z ∈ names, NameOk z) (hl : names.length ≤ 6) : (∀ z ∈ p.2, NameOk z) ∧ p.2.length ≤ 6 := ⟨fun z hz => hn z (h.sub.subset hz), Nat.le_trans h.sub.length_le hl⟩
theorem heapJoin_ok {l : List Str} (h : ∀ z ∈ l, NameOk z) (hl : l.length ≤ 6) : (l.map (·.length)).sum + l.length * (Str.ofString " ").length ≤ 54 := join_ok (m := 8) (n := 6) (k := 1) (fun y hy => (h y hy).l8) hl (by decide +kernel)
theorem heapJoin_len {l : List Str} (h : ∀ z ∈ l, NameOk z) (hl : l.length ≤ 6) : (Txt.join " " l).length ≤ 54 := Nat.le_trans (join_len _ _) (heapJoin_ok h hl)
theorem partyRow_len {p : Str × Int} (h : NameOk p.1) (h1 : 0 ≤ p.2) (h2 : p.2 ≤ 1000000) : (partyRow p).length ≤ 100 := by
  have a := h.l8
  have b := strN_len (i := p.2) (by omega)
  unfold partyRow
  simp only [Str.length_append, lit_party, lit_sp, lit_e]
  omega
theorem pileRow_len {p : Int × List Str} (h1 : 0 ≤ p.1) (h2 : p.1 ≤ 1000000) (h : ∀ z ∈ p.2, NameOk z) (hl : p.2.length ≤ 6) : (pileRow p).length ≤ 100 := by
  have a := heapJoin_len h hl
  have b := strN_len (i := p.1) (by omega)
  unfold pileRow
  simp only [Str.length_append, lit_pile, lit_sp, lit_e]
  omega
theorem FolkOk.names {l : List (Str × Int)} (h : FolkOk l) : ∀ z ∈ l.map (·.1), NameOk z := fun z hz => by
  obtain ⟨p, hp, rfl⟩ := List.mem_map.mp hz
  exact (h.b p hp).1
theorem FolkOk.len {l : List (Str × Int)} (h : FolkOk l) : (l.map (·.1)).length ≤ 6 := by rw [List.length_map]; exact h.l2
theorem rows_le {ns folk heaps} (h : PartsOk ns folk heaps) : ∀ y ∈ (divRow ns :: (folk.map partyRow ++ heaps.map pileRow)), y.length ≤ 182 := fun y hy => by
  rcases List.mem_cons.mp hy with e | e
  · subst e; exact divRow_len h.d
  · rcases List.mem_append.mp e with e | e
    · obtain ⟨p, hp, rfl⟩ := List.mem_map.mp e
      obtain ⟨a, b, c⟩ := h.f.b p hp
      exact Nat.le_trans (partyRow_len a b c) (by decide)
    · obtain ⟨p, hp, rfl⟩ := List.mem_map.mp e
      have q := h.h.b p hp
      obtain ⟨a, b⟩ := heap_names q h.f.names h.f.len
      exact Nat.le_trans (pileRow_len q.b1 q.b2 a b) (by decide)
theorem rows_n {ns folk heaps} (h : PartsOk ns folk heaps) : (divRow ns :: (folk.map partyRow ++ heaps.map pileRow)).length ≤ 13 := by
  have a := h.f.l2
  have b := h.h.l2
  simp
  omega
theorem text_ok {ns folk heaps} (h : PartsOk ns folk heaps) : ((divRow ns :: (folk.map partyRow ++ heaps.map pileRow)).map (·.length)).sum + (divRow ns :: (folk.map partyRow ++ heaps.map pileRow)).length * (Str.ofString "\n").length ≤ 2379 := join_ok (m := 182) (n := 13) (k := 1) (rows_le h) (rows_n h) (by decide +kernel)
theorem text_len {ns folk heaps} (h : PartsOk ns folk heaps) : (textOf ns folk heaps).length ≤ 2379 := Nat.le_trans (join_len _ _) (text_ok h)
theorem fmtG_s {y : Str} {Φ : D → Prop} (hz : y.length ≤ 1000000) (h : Φ (.str y)) : fmtG (.str y) Φ := ⟨hz, h⟩
theorem fmtG_i {i : Int} {Φ : D → Prop} (hz : i.natAbs.log2 < 1920) (h : Φ (.str (strN i))) : fmtG (.int i) Φ := ⟨hz, h⟩
theorem small_log {i : Int} (h : i.natAbs < 10 ^ 12) : i.natAbs.log2 < 1920 := log2_lt (k := 1920) (Nat.lt_of_lt_of_le h (by decide +kernel)) (by decide)
section
variable {P : Program} {w : World} {K : PySem.W.Frag} {mg : Str → Option Value} {base : Heap} {f : Addr} {fd : FuncData}
def S_check_divisors : DSp := fun ds Φ _ => ∃ ns, ds = [divsD ns] ∧ DivOk ns ∧ Φ .non
abbrev s_check_divisors : Stmt := topS 33
abbrev N_check_divisors : List Str := ["divisors"]
theorem sc_check_divisors : FnScope N_check_divisors ["divisors"] (defScope s_check_divisors) := ⟨rfl, rfl, rfl, by decide +kernel, rfl, by decide +kernel, by decide +kernel⟩
theorem ok_check_divisors (F : FunX K "check_divisors" "check_divisors" s_check_divisors f fd) (c_is_divisors : CallD P w K mg base "is_divisors" 3 S_is_divisors) : FnG P w K mg base 4 f fd ["divisors"] (lift K S_check_divisors) := by
  refine fnX_of F sc_check_divisors (fun ds Φ Ψ ⟨_, h, _⟩ => by rw [h]; rfl) fun cdv A outer s H E b => ⟨_, (pss_one (ps_if (pt_not (pt_val (k_cd K c_is_divisors (by exact b.room) (by decide) b.pass (pa_cons (pv 0) pa_nil)))) (pss_one ps_never) pss_nil)), fun ds Φ Ψ ⟨ns, h, hn, q⟩ => ?_⟩
  subst h
  show wS _ _ _ [some (.dat _)]
  walk_at "dl"
  refine ⟨ns, rfl, hn, ?_⟩
  walk_at "dl"
  exact q
theorem fresh_name {l : List (Str × Int)} (nd : (l.map (·.1)).Nodup) {i : Nat} {p : Str × Int} (hi : l[i]? = some p) : p.1 ∉ (l.take i).map (·.1) := fun hm => by
  obtain ⟨q, hq, e⟩ := List.mem_map.mp hm
  obtain ⟨j, hj⟩ := List.getElem?_of_mem hq
  have hjl := (List.getElem?_eq_some_iff.mp hj).1
  have hji : j < i := by rw [List.length_take] at hjl; omega
  rw [List.getElem?_take_of_lt hji] at hj
  have h1 : (l.map (·.1))[j]? = some q.1 := by rw [List.getElem?_map, hj]; rfl
  have h2 : (l.map (·.1))[i]? = some p.1 := by rw [List.getElem?_map, hi]; rfl
  rw [e] at h1
  have := nodup_inj nd h1 h2
  omega
def S_check_parties : DSp := fun ds Φ _ => ∃ l, ds = [folkD l] ∧ FolkOk l ∧ Φ .non
abbrev s_check_parties : Stmt := topS 34
abbrev N_check_parties : List Str := ["parties", "index", "party"]
theorem sc_check_parties : FnScope N_check_parties ["parties"] (defScope s_check_parties) := ⟨rfl, rfl, rfl, by decide +kernel, rfl, by decide +kernel, by decide +kernel⟩
theorem ok_check_parties (F : FunX K "check_parties" "check_parties" s_check_parties f fd) (B : Blt mg) (c_MOST_PARTIES : GInt mg "MOST_PARTIES" 6) (c_is_party : CallD P w K mg base "is_party" 3 S_is_party) (c_names_of : CallD P w K mg base "names_of" 1 S_names_of) : FnG P w K mg base 4 f fd ["parties"] (lift K S_check_parties) := by
  refine fnX_of F sc_check_parties (fun ds Φ Ψ ⟨_, h, _⟩ => by rw [h]; rfl) fun cdv A outer s H E b => ⟨_, (pss_cons (ps_if (PW.pt (pw_or (pt_not (pt_val (pe_callB (k_isi K) (by rfl) B.isinstance bb_isinstance (pa_cons (pv 0) (pa_cons (pe_bty B.tuple bb_tuple) pa_nil))))) (pw_or1 (pt_cmpR (k_eq K (by exact b.room)) (pe_callB (k_len K) (by rfl) B.len bb_len (pa_cons (pv 0) pa_nil)) pe_int (nomark _))))) (pss_one ps_never) pss_nil)
 (pss_one (ps_for b.own rfl (k_enum K (by rfl) B.enumerate (pa_cons (pv 0) pa_nil)) (k_pg K (n := 2) rfl (pgs_cons (pg_name (i := 1) sc_check_parties.nd rfl (by first | exact .inl rfl | exact .inr rfl)) (pgs_cons (pg_name (i := 2) sc_check_parties.nd rfl (by first | exact .inl rfl | exact .inr rfl)) pgs_nil))) (pss_one (ps_if (PW.pt (pw_or (pt_cmpR (k_eq K (by exact b.room)) (pv 1) (pe_gi c_MOST_PARTIES) (nomark _)) (pw_or (pt_not (pt_val (k_cd K c_is_party (by exact b.room) (by decide) b.pass (pa_cons (pv 2) pa_nil)))) (pw_or1 (pt_cmpR (k_in K) (pe_ix (k_ix K) (pv 2) pe_int (fun _ _ => rfl)) (k_cd K c_names_of (by exact b.room) (by decide) b.pass (pa_cons (pe_slice (k_sl K) (pv 0) po_none (po_some (pv 1))) pa_nil)) (by with_unfolding_all rfl)))))) (pss_one ps_never) pss_nil))))), fun ds Φ Ψ ⟨l, h, hl, q⟩ => ?_⟩
  subst h
  have n1 := hl.l1
  have n2 := hl.l2
  have hm : (l.map partyD).length = l.length := List.length_map _
  show wS _ _ _ [some (.dat _), none, none]
  unfold folkD
  walk_at "dl"
  refine wS_for (wI_enumT ?_)
  walk_at "dl"
  refine ⟨_, rfl, fun _ ρ' => ∃ x y, ρ' = [some (.dat (.tup (l.map partyD))), x, y], ⟨_, _, rfl⟩, fun i d ρ' hd ⟨x, y, e⟩ => ?_, fun ρ' ⟨x, y, e⟩ => q⟩
  subst e
  obtain ⟨p, hp, rfl⟩ := enumD_get hd
  have hi : i < l.length := (List.getElem?_eq_some_iff.mp hp).1
  obtain ⟨b1, b2, b3⟩ := hl.b p (mem_get hp)
  walk_at "dl"
  refine ⟨p, rfl, b1, b2, b3, ?_⟩
  unfold partyD
  walk_at "dl"
  rw [show D.tup (cutD (List.map (fun p => D.tup [D.str p.fst, D.int p.snd]) l) none (some ((i : Nat) : Int))) = folkD (l.take i) by rw [cut_to, ← List.map_take]; rfl]
  refine ⟨l.take i, rfl, by rw [List.length_take]; omega, ?_⟩
  walk_at "dl"
  rw [show List.map (fun p : Str × Int => D.str p.fst) (List.take i l) = ((l.take i).map (·.1)).map D.str by rw [List.map_map]; rfl]
  refine inSG_t ?_
  rw [decide_eq_false (fresh_name hl.nd hp)]
  walk_at "dl"
  exact ⟨_, _, rfl⟩
def S_check_piles : DSp := fun ds Φ _ => ∃ l names, ds = [heapsD l, .tup (names.map .str)] ∧ HeapsOk names l ∧ names.Nodup ∧ (∀ z ∈ names, PyData.strOk z = true) ∧ names.length ≤ 6 ∧ Φ .non
abbrev s_check_piles : Stmt := topS 35
abbrev N_check_piles : List Str := ["piles", "names", "index", "pile"]
theorem sc_check_piles : FnScope N_check_piles ["piles", "names"] (defScope s_check_piles) := ⟨rfl, rfl, rfl, by decide +kernel, rfl, by decide +kernel, by decide +kernel⟩
theorem ok_check_piles (F : FunX K "check_piles" "check_piles" s_check_piles f fd) (B : Blt mg) (c_MOST_PILES : GInt mg "MOST_PILES" 6) (c_is_pile : CallD P w K mg base "is_pile" 3 S_is_pile) : FnG P w K mg base 4 f fd ["piles", "names"] (lift K S_check_piles) := by
  refine fnX_of F sc_check_piles (fun ds Φ Ψ ⟨_, _, h, _⟩ => by rw [h]; rfl) fun cdv A outer s H E b => ⟨_, (pss_cons (ps_if (pt_not (pt_val (pe_callB (k_isi K) (by rfl) B.isinstance bb_isinstance (pa_cons (pv 0) (pa_cons (pe_bty B.tuple bb_tuple) pa_nil))))) (pss_one ps_never) pss_nil)
 (pss_one (ps_for b.own rfl (k_enum K (by rfl) B.enumerate (pa_cons (pv 0) pa_nil)) (k_pg K (n := 2) rfl (pgs_cons (pg_name (i := 2) sc_check_piles.nd rfl (by first | exact .inl rfl | exact .inr rfl)) (pgs_cons (pg_name (i := 3) sc_check_piles.nd rfl (by first | exact .inl rfl | exact .inr rfl)) pgs_nil))) (pss_one (ps_if (PW.pt (pw_or (pt_cmpR (k_eq K (by exact b.room)) (pv 2) (pe_gi c_MOST_PILES) (nomark _)) (pw_or1 (pt_not (pt_val (k_cd K c_is_pile (by exact b.room) (by decide) b.pass (pa_cons (pv 3) (pa_cons (pv 1) pa_nil)))))))) (pss_one ps_never) pss_nil))))), fun ds Φ Ψ ⟨l, names, h, hl, h1, h2, h3, q⟩ => ?_⟩
  subst h
  have n2 := hl.l2
  have hm : (l.map pileD).length = l.length := List.length_map _
  show wS _ _ _ [some (.dat _), some (.dat _), none, none]
  unfold heapsD
  walk_at "dl"
  refine wS_for (wI_enumT ?_)
  walk_at "dl"
  refine ⟨_, rfl, fun _ ρ' => ∃ x y, ρ' = [some (.dat (.tup (l.map pileD))), some (.dat (.tup (names.map .str))), x, y], ⟨_, _, rfl⟩, fun i d ρ' hd ⟨x, y, e⟩ => ?_, fun ρ' ⟨x, y, e⟩ => q⟩
  subst e
  obtain ⟨p, hp, rfl⟩ := enumD_get hd
  have hi : i < l.length := (List.getElem?_eq_some_iff.mp hp).1
  walk_at "dl"
  refine ⟨p, names, rfl, hl.b p (mem_get hp), h1, h2, h3, ?_⟩
  walk_at "dl"
  exact ⟨_, _, rfl⟩
end
section
variable {P : Program} {w : World} {K : PySem.W.Frag} {mg : Str → Option Value} {base : Heap} {f : Addr} {fd : FuncData}
def S_text_of : DSp := fun ds Φ _ => ∃ ns folk heaps, ds = [divsD ns, folkD folk, heapsD heaps] ∧ PartsOk ns folk heaps ∧ Φ (.str (textOf ns folk heaps))
abbrev s_text_of : Stmt := topS 40
abbrev N_text_of : List Str := ["divisors", "parties", "piles", "rows", "number", "name", "count", "size", "names"]
theorem sc_text_of : FnScope N_text_of ["divisors", "parties", "piles"] (defScope s_text_of) := ⟨rfl, rfl, rfl, by decide +kernel, rfl, by decide +kernel, by decide +kernel⟩
theorem ok_text_of (F : FunX K "text_of" "text_of" s_text_of f fd) (B : Blt mg) : FnG P w K mg base 1 f fd ["divisors", "parties", "piles"] (lift K S_text_of) := by
  refine fnX_of F sc_text_of (fun ds Φ Ψ ⟨_, _, _, h, _⟩ => by rw [h]; rfl) fun cdv A outer s H E b => ⟨_, (pss_cons (ps_set (i := 3) sc_text_of.nd rfl (by first | exact .inl rfl | exact .inr rfl) (pe_lst (pa_cons (k_bm K PySem.F.plainAttrs_str PySem.F.slot_str_join PySem.F.type_str_join (k_join K) pe_str (pa_cons (pe_op (k_add K) (pe_lst (pa_cons pe_str pa_nil)) (pe_lc (own := [("number", 4)]) rfl sc_text_of.nd (k_any K (pv 0)) (blkOk_by (own := [("number", 4)]) (N := N_text_of) (sc := defScope s_text_of) (by decide +kernel))  (fun _ _ _ _ _ => (pg_name (i := 4) sc_text_of.nd rfl (by first | exact .inl rfl | exact .inr rfl))) (fun _ _ _ _ _ => pts_nil) (fun _ _ _ _ _ => (pe_callTy callr_str (by rfl) B.str bb_str (pa_cons (pv 4) pa_nil))))) pa_nil)) pa_nil)))
 (pss_cons (ps_for b.own rfl (k_any K (pv 1)) (k_pg K (n := 2) rfl (pgs_cons (pg_name (i := 5) sc_text_of.nd rfl (by first | exact .inl rfl | exact .inr rfl)) (pgs_cons (pg_name (i := 6) sc_text_of.nd rfl (by first | exact .inl rfl | exact .inr rfl)) pgs_nil))) (pss_one (ps_expr (k_bm K PySem.F.plainAttrs_list PySem.F.slot_list_append PySem.F.type_list_append mt_append (pv 3) (pa_cons (pe_joined (PJ.cons pe_str (PJ.cons (pe_fmt (pv 5)) (PJ.cons pe_str (PJ.cons (pe_fmt (pv 6)) PJ.nil))))) pa_nil)))))
 (pss_cons (ps_for b.own rfl (k_any K (pv 2)) (k_pg K (n := 2) rfl (pgs_cons (pg_name (i := 7) sc_text_of.nd rfl (by first | exact .inl rfl | exact .inr rfl)) (pgs_cons (pg_name (i := 8) sc_text_of.nd rfl (by first | exact .inl rfl | exact .inr rfl)) pgs_nil))) (pss_one (ps_expr (k_bm K PySem.F.plainAttrs_list PySem.F.slot_list_append PySem.F.type_list_append mt_append (pv 3) (pa_cons (pe_op (k_add K) (pe_joined (PJ.cons pe_str (PJ.cons (pe_fmt (pv 7)) (PJ.cons pe_str PJ.nil)))) (k_bm K PySem.F.plainAttrs_str PySem.F.slot_str_join PySem.F.type_str_join (k_join K) pe_str (pa_cons (pv 8) pa_nil))) pa_nil)))))
 (pss_one (ps_ret (k_bm K PySem.F.plainAttrs_str PySem.F.slot_str_join PySem.F.type_str_join (k_join K) pe_str (pa_cons (pv 3) pa_nil))))))), fun ds Φ Ψ ⟨ns, folk, heaps, h, hp, q⟩ => ?_⟩
  subst h
  have d2 := hp.d.l2
  have f2 := hp.f.l2
  have h2 := hp.h.l2
  show wS _ _ _ [some (.dat _), some (.dat _), some (.dat _), none, none, none, none, none, none]
  unfold divsD folkD heapsD
  walk_at "dl"
  refine ⟨by simp, ?_⟩
  refine wE_lcM (only_name List.mem_cons_self) D.int (fun n => .str (strN n)) (wI_any ?_)
  walk_at "dl"
  refine ⟨_, rfl, ns, rfl, by omega, fun n hm => ?_, ?_⟩
  · have := hp.d.b n hm
    walk_at "dl"
    refine strG_i (small_log (by omega)) ?_
    walk_at "dl"
    rfl
  refine addG_l (by simp; omega) ?_
  walk_at "dl"
  rw [show [D.str "divisors"] ++ List.map (fun n => D.str (strN n)) ns = (("divisors" :: ns.map strN : List Str)).map D.str by rw [List.map_cons, List.map_map]; rfl]
  refine joinG_l (Nat.le_trans (divRow_ok hp.d) (by decide)) ?_
  walk_at "dl"
  refine ⟨by simp, ?_⟩
  walk_at "dl"
  refine wS_forT partyD (fun i ρ' => ∃ x y z u v, ρ' = [some (.dat (.tup (ns.map D.int))), some (.dat (.tup (folk.map partyD))), some (.dat (.tup (heaps.map pileD))), some (.own none (.lst ((divRow ns :: (folk.take i).map partyRow).map D.str))), x, y, z, u, v]) (wI_any ?_)
  walk_at "dl"
  refine ⟨_, rfl, folk, rfl, ⟨_, _, _, _, _, rfl⟩, fun i p ρ' hi ⟨x, y, z, u, v, e⟩ => ?_, fun ρ' ⟨x, y, z, u, v, e⟩ => ?_⟩
  · subst e
    have hil : i < folk.length := (List.getElem?_eq_some_iff.mp hi).1
    obtain ⟨b1, b2, b3⟩ := hp.f.b p (mem_get hi)
    have l1 := b1.l8
    have l2 := strN_len (i := p.2) (by omega)
    unfold partyD
    walk_at "dl"
    refine ⟨by simp only [Str.length_append, lit_e, lit_party]; decide, ?_⟩
    walk_at "dl"
    refine fmtG_s (by omega) ?_
    walk_at "dl"
    refine ⟨by simp only [Str.length_append, lit_e, lit_party]; omega, ?_⟩
    walk_at "dl"
    refine ⟨by simp only [Str.length_append, lit_e, lit_party, lit_sp]; omega, ?_⟩
    walk_at "dl"
    refine fmtG_i (small_log (by omega)) ?_
    walk_at "dl"
    refine ⟨by simp only [Str.length_append, lit_e, lit_party, lit_sp]; omega, ?_⟩
    walk_at "dl"
    refine ⟨_, _, rfl, by simp; omega, ?_⟩
    rw [show List.map D.str (divRow ns :: List.map partyRow (List.take (i + 1) folk)) = List.map D.str (divRow ns :: List.map partyRow (List.take i folk)) ++ [D.str (partyRow p)] by rw [take_next hi]; simp]
    exact ⟨_, _, _, _, _, rfl⟩
  · subst e
    rw [List.take_length]
    walk_at "dl"
    refine wS_forT pileD (fun i ρ' => ∃ x y z u v, ρ' = [some (.dat (.tup (ns.map D.int))), some (.dat (.tup (folk.map partyD))), some (.dat (.tup (heaps.map pileD))), some (.own none (.lst ((divRow ns :: (folk.map partyRow ++ (heaps.take i).map pileRow)).map D.str))), x, y, z, u, v]) (wI_any ?_)
    walk_at "dl"
    refine ⟨_, rfl, heaps, rfl, ⟨_, _, _, _, _, by rw [List.take_zero, List.map_nil, List.append_nil]⟩, fun i p ρ' hi ⟨x, y, z, u, v, e⟩ => ?_, fun ρ' ⟨x, y, z, u, v, e⟩ => ?_⟩
    · subst e
      have hil : i < heaps.length := (List.getElem?_eq_some_iff.mp hi).1
      have hq := hp.h.b p (mem_get hi)
      obtain ⟨b1, b2⟩ := heap_names hq hp.f.names hp.f.len
      have b3 := hq.b1
      have b4 := hq.b2
      have l1 := heapJoin_len b1 b2
      have l2 := strN_len (i := p.1) (by omega)
      unfold pileD
      walk_at "dl"
      refine ⟨by simp only [Str.length_append, lit_e, lit_pile]; decide, ?_⟩
      walk_at "dl"
      refine fmtG_i (small_log (by omega)) ?_
      walk_at "dl"
      refine ⟨by simp only [Str.length_append, lit_e, lit_pile]; omega, ?_⟩
      walk_at "dl"
      refine ⟨by simp only [Str.length_append, lit_e, lit_pile, lit_sp]; omega, ?_⟩
      walk_at "dl"
      refine joinG_t (Nat.le_trans (heapJoin_ok b1 b2) (by decide)) ?_
      refine addG_s (by simp only [Str.length_append, lit_e, lit_pile, lit_sp]; omega) ?_
      refine ⟨_, _, rfl, by simp; omega, ?_⟩
      rw [show List.map D.str (divRow ns :: (List.map partyRow folk ++ List.map pileRow (List.take (i + 1) heaps))) = List.map D.str (divRow ns :: (List.map partyRow folk ++ List.map pileRow (List.take i heaps))) ++ [D.str (pileRow p)] by rw [take_next hi]; simp]
      exact ⟨_, _, _, _, _, rfl⟩
    · subst e
      rw [List.take_length]
      walk_at "dl"
      refine joinG_l (Nat.le_trans (text_ok hp) (by decide)) q
end
/-! ### texts read back -/
open TL in
theorem tl_lit (s : String) : tl (Str.ofString s) = s.toList.map Char.toNat := tl_ofString s
open TL in
theorem strN_tl {i : Int} (h : 0 ≤ i) : tl (strN i) = numL i.toNat := by
  have e : i = ((i.toNat : Nat) : Int) := by omega
  rw [e]
  exact tl_num _
/-- a word of a text: letters and digits -/
def Word (z : Str) : Prop := ∀ c ∈ TL.tl z, 48 ≤ c ∧ c < 128
theorem word_name {z : Str} (h : NameOk z) : Word z := fun c hc => by
  have hm := h.al c (by simpa [TL.tl] using hc)
  have : ∀ c ∈ lettersD.cps.toList, 48 ≤ c ∧ c < 128 := by decide +kernel
  exact this c hm
theorem word_num {i : Int} (h : 0 ≤ i) : Word (strN i) := fun c hc => by
  rw [strN_tl h] at hc
  have := TL.numL_digits i.toNat c hc
  omega
theorem word_lit (s : String) (h : ∀ c ∈ s.toList.map Char.toNat, 48 ≤ c ∧ c < 128) : Word (Str.ofString s) := fun c hc => h c (by rw [← tl_lit]; exact hc)
theorem word_divisors : Word "divisors" := word_lit _ (by decide +kernel)
theorem word_party : Word "party" := word_lit _ (by decide +kernel)
theorem word_pile : Word "pile" := word_lit _ (by decide +kernel)
theorem Word.ok {z : Str} (h : Word z) : PyData.strOk z = true := by
  simp only [PyData.strOk, Array.all_eq_true', decide_eq_true_eq]
  intro c hc
  exact Nat.lt_trans (h c (by simpa [TL.tl] using hc)).2 (by decide)
theorem joinL_mem {S : List Nat} {c : Nat} : ∀ {l : List (List Nat)}, c ∈ TL.joinL S l → c ∈ S ∨ ∃ p ∈ l, c ∈ p
  | [], h => by cases h
  | [p], h => .inr ⟨p, List.mem_cons_self, h⟩
  | p :: q :: r, h => by
    rcases List.mem_append.mp h with h | h
    · exact .inr ⟨p, List.mem_cons_self, h⟩
    · rcases List.mem_append.mp h with h | h
      · exact .inl h
      · rcases joinL_mem h with h | ⟨x, hx, h⟩
        · exact .inl h
        · exact .inr ⟨x, List.mem_cons_of_mem _ hx, h⟩
theorem row_split {ws : List Str} (h : ∀ z ∈ ws, Word z) (hne : ws ≠ []) : Txt.split (Txt.join " " ws) " " = ws :=
  TL.split_join (s := 32) (S := []) (by rw [tl_lit]; decide) (by decide +kernel) hne fun p hp hm => by have := h p hp 32 hm; omega
theorem row_free {ws : List Str} (h : ∀ z ∈ ws, Word z) : 10 ∉ TL.tl (Txt.join " " ws) := fun hm => by
  rw [TL.join_eq, TL.tl_join] at hm
  rcases joinL_mem hm with h1 | ⟨p, hp, h1⟩
  · rw [tl_lit] at h1
    exact absurd h1 (by decide)
  · obtain ⟨z, hz, rfl⟩ := List.mem_map.mp hp
    have := h z hz 10 h1
    omega
def divW (ns : List Int) : List Str := "divisors" :: ns.map strN
def partyW (p : Str × Int) : List Str := ["party", p.1, strN p.2]
def pileW (p : Int × List Str) : List Str := "pile" :: strN p.1 :: p.2
open TL in
theorem partyRow_eq (p : Str × Int) : partyRow p = Txt.join " " (partyW p) := by
  refine ext_tl ?_
  unfold partyRow partyW
  rw [join_eq, tl_join]
  simp only [List.map_cons, List.map_nil, joinL, tl_append, List.append_assoc]
  rw [show tl (Str.ofString "party ") = tl (Str.ofString "party") ++ tl (Str.ofString " ") by rw [tl_lit, tl_lit, tl_lit]; decide]
  rw [show tl Str.empty = [] from rfl, List.nil_append, List.append_assoc]
open TL in
theorem joinL_cons {S p : List Nat} {l : List (List Nat)} (h : l ≠ []) : joinL S (p :: l) = p ++ (S ++ joinL S l) := by
  cases l with
  | nil => exact absurd rfl h
  | cons q r => rfl
open TL in
theorem pileRow_eq {p : Int × List Str} (h : p.2 ≠ []) : pileRow p = Txt.join " " (pileW p) := by
  refine ext_tl ?_
  unfold pileRow pileW
  rw [join_eq, join_eq]
  simp only [tl_join, tl_append, List.map_cons, List.append_assoc]
  rw [joinL_cons (by simp), joinL_cons (by simpa using h)]
  rw [show tl (Str.ofString "pile ") = tl (Str.ofString "pile") ++ tl (Str.ofString " ") by rw [tl_lit, tl_lit, tl_lit]; decide]
  rw [show tl Str.empty = [] from rfl, List.nil_append, List.append_assoc]
def wordsOf (ns : List Int) (folk : List (Str × Int)) (heaps : List (Int × List Str)) : List (List Str) := divW ns :: (folk.map partyW ++ heaps.map pileW)
theorem words_ok {ns folk heaps} (h : PartsOk ns folk heaps) : ∀ ws ∈ wordsOf ns folk heaps, (∀ z ∈ ws, Word z) ∧ ws ≠ [] := fun ws hw => by
  rcases List.mem_cons.mp hw with e | e
  · subst e
    refine ⟨fun z hz => ?_, by simp [divW]⟩
    rcases List.mem_cons.mp hz with e | e
    · subst e; exact word_divisors
    · obtain ⟨n, hn, rfl⟩ := List.mem_map.mp e
      exact word_num (by have := h.d.b n hn; omega)
  · rcases List.mem_append.mp e with e | e
    · obtain ⟨p, hp, rfl⟩ := List.mem_map.mp e
      obtain ⟨a, b, c⟩ := h.f.b p hp
      refine ⟨fun z hz => ?_, by simp [partyW]⟩
      rcases List.mem_cons.mp hz with e | e
      · subst e; exact word_party
      · rcases List.mem_cons.mp e with e | e
        · subst e; exact word_name a
        · rw [List.mem_singleton.mp e]; exact word_num b
    · obtain ⟨p, hp, rfl⟩ := List.mem_map.mp e
      have q := h.h.b p hp
      obtain ⟨a, _⟩ := heap_names q h.f.names h.f.len
      refine ⟨fun z hz => ?_, by simp [pileW]⟩
      rcases List.mem_cons.mp hz with e | e
      · subst e; exact word_pile
      · rcases List.mem_cons.mp e with e | e
        · subst e; exact word_num q.b1
        · exact word_name (a z e)
theorem textOf_eq {ns folk heaps} (h : PartsOk ns folk heaps) : textOf ns folk heaps = Txt.join "\n" ((wordsOf ns folk heaps).map (Txt.join " ")) := by
  have e1 : folk.map partyRow = folk.map (Txt.join " " ∘ partyW) := List.map_congr_left fun p _ => partyRow_eq p
  have e2 : heaps.map pileRow = heaps.map (Txt.join " " ∘ pileW) := List.map_congr_left fun p hp => pileRow_eq (h.h.b p hp).ne
  unfold textOf wordsOf
  rw [e1, e2, List.map_cons, List.map_append, List.map_map, List.map_map]
  rfl
theorem text_split {ns folk heaps} (h : PartsOk ns folk heaps) : Txt.split (textOf ns folk heaps) "\n" = (wordsOf ns folk heaps).map (Txt.join " ") := by
  rw [textOf_eq h]
  refine TL.split_join (s := 10) (S := []) (by rw [tl_lit]; decide) (by decide +kernel) (by simp [wordsOf]) fun p hp => ?_
  obtain ⟨ws, hw, rfl⟩ := List.mem_map.mp hp
  exact row_free (words_ok h ws hw).1
/-! numbers -/
theorem num_digit : ∀ k < 10, Unicode.isDigit (48 + k) = true := by decide +kernel
theorem num_isdigit {i : Int} (h : 0 ≤ i) : Txt.isdigit (strN i) = true := by
  unfold Txt.isdigit
  have hl : 0 < (strN i).length := by
    rw [TL.len_tl, strN_tl h]
    exact List.length_pos_iff.mpr (TL.numL_ne _)
  rw [decide_eq_true hl, Bool.true_and]
  simp only [Array.all_eq_true']
  intro c hc
  have hm : c ∈ TL.tl (strN i) := by simpa [TL.tl] using hc
  rw [strN_tl h] at hm
  have := TL.numL_digits i.toNat c hm
  have := num_digit (c - 48) (by omega)
  rwa [show 48 + (c - 48) = c by omega] at this
theorem num_isascii {i : Int} (h : 0 ≤ i) : Txt.isascii (strN i) = true := by
  unfold Txt.isascii
  simp only [Array.all_eq_true', decide_eq_true_eq]
  intro c hc
  exact (word_num h c (by simpa [TL.tl] using hc)).2
theorem num_head : ∀ (n : Nat), 1 ≤ n → ∀ c, (TL.numL n)[0]? = some c → c ≠ 48 := fun n => by
  induction n using Nat.strongRecOn with
  | ind n ih =>
    intro hn c hc
    by_cases h : n < 10
    · rw [TL.numL_lt h] at hc
      simp at hc
      omega
    · rw [TL.numL_step (by omega)] at hc
      have hne := TL.numL_ne (n / 10)
      have hl : 0 < (TL.numL (n / 10)).length := List.length_pos_iff.mpr hne
      rw [List.getElem?_append_left hl] at hc
      exact ih (n / 10) (by omega) (by omega) c hc
theorem num_len1 {n : Nat} (h : n < 10) : (TL.numL n).length = 1 := by rw [TL.numL_lt h]; rfl
section
variable {P : Program} {w : World} {K : PySem.W.Frag} {mg : Str → Option Value} {base : Heap} {f : Addr} {fd : FuncData}
def S_number_in : DSp := fun ds Φ _ => ∃ i : Int, ds = [.str (strN i)] ∧ 0 ≤ i ∧ i ≤ 1000000 ∧ Φ (.int i)
abbrev s_number_in : Stmt := topS 38
abbrev N_number_in : List Str := ["word"]
theorem sc_number_in : FnScope N_number_in ["word"] (defScope s_number_in) := ⟨rfl, rfl, rfl, by decide +kernel, rfl, by decide +kernel, by decide +kernel⟩
theorem ok_number_in (F : FunX K "number_in" "number_in" s_number_in f fd) (B : Blt mg) (c_MOST_DIGITS : GInt mg "MOST_DIGITS" 7) : FnG P w K mg base 1 f fd ["word"] (lift K S_number_in) := by
  refine fnX_of F sc_number_in (fun ds Φ Ψ ⟨_, h, _⟩ => by rw [h]; rfl) fun cdv A outer s H E b => ⟨_, (pss_cons (ps_if (PW.pt (pw_or (pt_cmpR op_gt (pe_callB (k_len K) (by rfl) B.len bb_len (pa_cons (pv 0) pa_nil)) (pe_gi c_MOST_DIGITS) (nomark _)) (pw_or (pt_not (pt_val (k_bm0 K PySem.F.plainAttrs_str PySem.F.slot_str_isdigit PySem.F.type_str_isdigit k_isdigit (pv 0)))) (pw_or1 (pt_not (pt_val (k_bm0 K PySem.F.plainAttrs_str PySem.F.slot_str_isascii PySem.F.type_str_isascii k_isascii (pv 0)))))))) (pss_one (ps_ret pe_non)) pss_nil)
 (pss_cons (ps_if (PW.pt (pw_and (pt_cmpR (k_eq K (by exact b.room)) (pe_ix (k_ix K) (pv 0) pe_int (fun _ _ => rfl)) pe_str (nomark _)) (pw_and1 (pt_cmpR op_gt (pe_callB (k_len K) (by rfl) B.len bb_len (pa_cons (pv 0) pa_nil)) pe_int (nomark _))))) (pss_one (ps_ret pe_non)) pss_nil)
 (pss_one (ps_ret (pe_callTy callr_int (by rfl) B.int bb_int (pa_cons (pv 0) pa_nil)))))), fun ds Φ Ψ ⟨i, h, h0, h1, q⟩ => ?_⟩
  subst h
  have hl : (strN i).length ≤ 7 := by rw [TL.len_tl, strN_tl h0]; exact TL.numL_len (by decide) (by omega)
  have hp : 0 < (TL.tl (strN i)).length := by rw [strN_tl h0]; exact List.length_pos_iff.mpr (TL.numL_ne _)
  obtain ⟨c, hc⟩ : ∃ c, (TL.tl (strN i))[0]? = some c := ⟨_, List.getElem?_eq_getElem hp⟩
  have hcw := word_num h0 c (List.mem_of_getElem? hc)
  have fin : intOfG [D.str (strN i)] Φ := by
    refine ⟨i, ?_, by omega, q⟩
    have e : strN i = Str.ofString (toString ((i.toNat : Nat) : Int)) := by rw [show ((i.toNat : Nat) : Int) = i by omega]
    rw [e, TL.int_num (by rw [← strN_tl h0, ← TL.len_tl]; omega)]
    congr 1
    omega
  show wS _ _ _ [some (.dat _)]
  walk_at "dl"
  refine lenG_s (by omega) ?_
  walk_at "dl"
  rw [num_isdigit h0]
  walk_at "dl"
  rw [num_isascii h0]
  walk_at "dl"
  refine ixG_s (by omega) (L2.atI_nat hc) ?_
  walk_at "dl"
  refine ifD (fun hz => ?_) (fun hz => ?_)
  · walk_at "dl"
    refine lenG_s (by omega) ?_
    walk_at "dl"
    refine ifN (fun hlt => ?_) ?_
    · have hc48 : c = 48 := by
        have := congrArg TL.tl hz
        rw [tl_lit] at this
        simpa [TL.tl] using this
      by_cases hs : i.toNat < 10
      · have := num_len1 hs
        rw [← strN_tl h0, ← TL.len_tl] at this
        omega
      · rw [strN_tl h0] at hc
        exact num_head _ (by omega) c hc hc48
    walk_at "dl"
    exact fin
  · walk_at "dl"
    exact fin
end
section
variable {P : Program} {w : World} {K : PySem.W.Frag} {mg : Str → Option Value} {base : Heap} {f : Addr} {fd : FuncData}
abbrev wordsD (ws : List Str) : D := .lst (ws.map .str)
def partsD (ns : List Int) (folk : List (Str × Int)) (heaps : List (Int × List Str)) : D := .tup [divsD ns, folkD folk, heapsD heaps]
def S_parts_in : DSp := fun ds Φ _ => ∃ ns folk heaps, ds = [.str (textOf ns folk heaps)] ∧ PartsOk ns folk heaps ∧ Φ (partsD ns folk heaps)
abbrev s_parts_in : Stmt := topS 39
abbrev N_parts_in : List Str := ["text", "first", "rows", "row", "parties", "piles", "words", "word"]
theorem sc_parts_in : FnScope N_parts_in ["text"] (defScope s_parts_in) := ⟨rfl, rfl, rfl, by decide +kernel, rfl, by decide +kernel, by decide +kernel⟩
theorem ok_parts_in (F : FunX K "parts_in" "parts_in" s_parts_in f fd) (B : Blt mg) (c_number_in : CallD P w K mg base "number_in" 1 S_number_in) : FnG P w K mg base 2 f fd ["text"] (lift K S_parts_in) := by
  refine fnX_of F sc_parts_in (fun ds Φ Ψ ⟨_, _, _, h, _⟩ => by rw [h]; rfl) fun cdv A outer s H E b => ⟨_, (pss_cons (ps_asg (pe_lc (own := [("row", 3)]) rfl sc_parts_in.nd (k_any K (k_bm K PySem.F.plainAttrs_str PySem.F.slot_str_split PySem.F.type_str_split k_split (pv 0) (pa_cons pe_str pa_nil))) (blkOk_by (own := [("row", 3)]) (N := N_parts_in) (sc := defScope s_parts_in) (by decide +kernel))  (fun _ _ _ _ _ => (pg_name (i := 3) sc_parts_in.nd rfl (by first | exact .inl rfl | exact .inr rfl))) (fun _ _ _ _ _ => pts_nil) (fun _ _ _ _ _ => (k_bm K PySem.F.plainAttrs_str PySem.F.slot_str_split PySem.F.type_str_split k_split (pv 3) (pa_cons pe_str pa_nil)))) (k_star K (i := 1) (j := 2) rfl sc_parts_in.nd rfl rfl (by first | exact .inl rfl | exact .inr rfl) (by first | exact .inl rfl | exact .inr rfl)))
 (pss_cons (ps_if (pt_cmpR (k_ne K (by exact b.room)) (pe_ix (k_ix K) (pv 1) pe_int (fun _ _ => rfl)) pe_str (nomark _)) (pss_one (ps_ret pe_non)) pss_nil)
 (pss_cons (ps_set (i := 4) sc_parts_in.nd rfl (by first | exact .inl rfl | exact .inr rfl) (pe_lst pa_nil))
 (pss_cons (ps_set (i := 5) sc_parts_in.nd rfl (by first | exact .inl rfl | exact .inr rfl) (pe_lst pa_nil))
 (pss_cons (ps_for b.own rfl (k_any K (pv 2)) (pg_name (i := 6) sc_parts_in.nd rfl (by first | exact .inl rfl | exact .inr rfl)) (pss_one (ps_if (PW.pt (pw_and (pt_cmpR (k_eq K (by exact b.room)) (pe_ix (k_ix K) (pv 6) pe_int (fun _ _ => rfl)) pe_str (nomark _)) (pw_and (pt_cmpR (k_eq K (by exact b.room)) (pe_callB (k_len K) (by rfl) B.len bb_len (pa_cons (pv 6) pa_nil)) pe_int (nomark _)) (pw_and1 (pt_cmpR (k_eq K (by exact b.room)) (pe_callB (k_len K) (by rfl) B.len bb_len (pa_cons (pv 5) pa_nil)) pe_int (nomark _)))))) (pss_one (ps_expr (k_bm K PySem.F.plainAttrs_list PySem.F.slot_list_append PySem.F.type_list_append mt_append (pv 4) (pa_cons (pe_tup (pa_cons (pe_ix (k_ix K) (pv 6) pe_int (fun _ _ => rfl)) (pa_cons (k_cd K c_number_in (by exact b.room) (by decide) b.pass (pa_cons (pe_ix (k_ix K) (pv 6) pe_int (fun _ _ => rfl)) pa_nil)) pa_nil))) pa_nil)))) (pss_one (ps_if (PW.pt (pw_and (pt_cmpR (k_eq K (by exact b.room)) (pe_ix (k_ix K) (pv 6) pe_int (fun _ _ => rfl)) pe_str (nomark _)) (pw_and1 (pt_cmpR op_gt (pe_callB (k_len K) (by rfl) B.len bb_len (pa_cons (pv 6) pa_nil)) pe_int (nomark _))))) (pss_one (ps_expr (k_bm K PySem.F.plainAttrs_list PySem.F.slot_list_append PySem.F.type_list_append mt_append (pv 5) (pa_cons (pe_tup (pa_cons (k_cd K c_number_in (by exact b.room) (by decide) b.pass (pa_cons (pe_ix (k_ix K) (pv 6) pe_int (fun _ _ => rfl)) pa_nil)) (pa_cons (pe_callTy (k_tup K) (by rfl) B.tuple bb_tuple (pa_cons (pe_slice (k_sl K) (pv 6) (po_some pe_int) po_none) pa_nil)) pa_nil))) pa_nil)))) (pss_one (ps_ret pe_non)))))))
 (pss_one (ps_ret (pe_tup (pa_cons (pe_callTy (k_tup K) (by rfl) B.tuple bb_tuple (pa_cons (pe_lc (own := [("word", 7)]) rfl sc_parts_in.nd (k_any K (pe_slice (k_sl K) (pv 1) (po_some pe_int) po_none)) (blkOk_by (own := [("word", 7)]) (N := N_parts_in) (sc := defScope s_parts_in) (by decide +kernel))  (fun _ _ _ _ _ => (pg_name (i := 7) sc_parts_in.nd rfl (by first | exact .inl rfl | exact .inr rfl))) (fun _ _ _ _ _ => pts_nil) (fun _ _ _ _ _ => (k_cd K c_number_in (by exact b.room) (by decide) passN (pa_cons (pv 7) pa_nil)))) pa_nil)) (pa_cons (pe_callTy (k_tup K) (by rfl) B.tuple bb_tuple (pa_cons (pv 4) pa_nil)) (pa_cons (pe_callTy (k_tup K) (by rfl) B.tuple bb_tuple (pa_cons (pv 5) pa_nil)) pa_nil))))))))))), fun ds Φ Ψ ⟨ns, folk, heaps, h, hp, q⟩ => ?_⟩
  subst h
  have hz := text_len hp
  have d2 := hp.d.l2
  have f2 := hp.f.l2
  have h2 := hp.h.l2
  have wl : (wordsOf ns folk heaps).length ≤ 13 := by simp [wordsOf]; omega
  show wS _ _ _ [some (.dat _), none, none, none, none, none, none, none]
  walk_at "dl"
  refine wE_lcM (only_name List.mem_cons_self) (fun ws => .str (Txt.join " " ws)) wordsD (wI_any ?_)
  walk_at "dl"
  refine splitG_s (by decide +kernel) (by omega) ?_
  rw [text_split hp]
  refine ⟨_, rfl, wordsOf ns folk heaps, by rw [List.map_map]; rfl, by omega, fun ws hw => ?_, ?_⟩
  · obtain ⟨hw1, hw2⟩ := words_ok hp ws hw
    walk_at "dl"
    refine splitG_s (by decide +kernel) ?_ ?_
    · have hm : Txt.join " " ws ∈ (divRow ns :: (folk.map partyRow ++ heaps.map pileRow)) := by
        have e := textOf_eq hp
        have e2 : (wordsOf ns folk heaps).map (Txt.join " ") = divRow ns :: (folk.map partyRow ++ heaps.map pileRow) := by
          unfold wordsOf
          rw [List.map_cons, List.map_append, List.map_map, List.map_map]
          have e1 : folk.map partyRow = folk.map (Txt.join " " ∘ partyW) := List.map_congr_left fun p _ => partyRow_eq p
          have e2 : heaps.map pileRow = heaps.map (Txt.join " " ∘ pileW) := List.map_congr_left fun p hp' => pileRow_eq (hp.h.b p hp').ne
          rw [e1, e2]
          rfl
        rw [← e2]
        exact List.mem_map_of_mem hw
      have := rows_le hp _ hm
      omega
    · rw [row_split hw1 hw2]
  refine wG_star ⟨_, _, rfl, by simp; omega, ?_⟩
  walk_at "dl"
  walk_at "dl"
  refine ⟨Nat.zero_le _, ?_⟩
  walk_at "dl"
  refine ⟨Nat.zero_le _, ?_⟩
  walk_at "dl"
  refine wS_forT wordsD (fun i ρ' => ∃ x y, ρ' = [some (.dat (.str (textOf ns folk heaps))), some (.dat (wordsD (divW ns))), some (.dat (.lst ((folk.map partyW ++ heaps.map pileW).map wordsD))), none, some (.own none (.lst ((folk.take i).map partyD))), some (.own none (.lst ((heaps.take (i - folk.length)).map pileD))), x, y]) (wI_any ?_)
  walk_at "dl"
  refine ⟨_, rfl, folk.map partyW ++ heaps.map pileW, rfl, ⟨_, _, by rw [List.take_zero, Nat.zero_sub, List.take_zero]; rfl⟩, fun i ws ρ' hi ⟨x, y, e⟩ => ?_, fun ρ' ⟨x, y, e⟩ => ?_⟩
  · subst e
    by_cases hf : i < folk.length
    · rw [List.getElem?_append_left (by rw [List.length_map]; exact hf), List.getElem?_map] at hi
      obtain ⟨p, hpi⟩ : ∃ p, folk[i]? = some p := ⟨_, List.getElem?_eq_getElem hf⟩
      rw [hpi] at hi
      cases hi
      obtain ⟨b1, b2, b3⟩ := hp.f.b p (mem_get hpi)
      have e0 : i - folk.length = 0 := by omega
      have e1 : i + 1 - folk.length = 0 := by omega
      rw [e0, List.take_zero]
      walk_at "dl"
      refine ifP rfl ?_
      walk_at "dl"
      · exact Nat.zero_le _
      walk_at "dl"
      refine ⟨p.2, rfl, b2, b3, ?_⟩
      walk_at "dl"
      refine ⟨by simp, _, _, rfl, by simp; omega, ?_⟩
      rw [e1, show List.map partyD (List.take (i + 1) folk) = List.map partyD (List.take i folk) ++ [partyD p] by rw [take_next hpi, List.map_append]; rfl, List.take_zero]
      exact ⟨_, _, rfl⟩
    · rw [List.getElem?_append_right (by rw [List.length_map]; omega), List.length_map, List.getElem?_map] at hi
      obtain ⟨p, hpi⟩ : ∃ p, heaps[i - folk.length]? = some p := by
        cases e : heaps[i - folk.length]? with
        | none => rw [e] at hi; cases hi
        | some p => exact ⟨p, rfl⟩
      rw [hpi] at hi
      cases hi
      have hq := hp.h.b p (mem_get hpi)
      have hpl := (List.getElem?_eq_some_iff.mp hpi).1
      have hne : 1 ≤ p.2.length := List.length_pos_iff.mpr hq.ne
      have e1 : i + 1 - folk.length = i - folk.length + 1 := by omega
      have e2 : folk.take (i + 1) = folk := List.take_of_length_le (by omega)
      have e3 : folk.take i = folk := List.take_of_length_le (by omega)
      rw [e3]
      walk_at "dl"
      walk_at "dl"
      refine ifP (by simp [pileW]; omega) ?_
      walk_at "dl"
      refine ⟨p.1, rfl, hq.b1, hq.b2, ?_⟩
      walk_at "dl"
      rw [show cutD (List.map D.str (pileW p)) (some 2) none = List.map D.str p.2 from (cut_from _ 2).trans (by rw [← List.map_drop]; rfl)]
      walk_at "dl"
      refine ⟨by simp, _, _, rfl, by simp; omega, ?_⟩
      rw [e1, e2, show List.map pileD (List.take (i - folk.length + 1) heaps) = List.map pileD (List.take (i - folk.length) heaps) ++ [pileD p] by rw [take_next hpi, List.map_append]; rfl]
      exact ⟨_, _, rfl⟩
  · subst e
    have el : (folk.map partyW ++ heaps.map pileW).length = folk.length + heaps.length := by simp
    have e2 : folk.take (folk.length + heaps.length) = folk := List.take_of_length_le (by omega)
    have e3 : heaps.take (folk.length + heaps.length - folk.length) = heaps := List.take_of_length_le (by omega)
    rw [el, e2, e3]
    walk_at "dl"
    refine wE_lcM (only_name List.mem_cons_self) (fun n => .str (strN n)) D.int (wI_any ?_)
    walk_at "dl"
    rw [show cutD (List.map D.str (divW ns)) (some 1) none = List.map D.str (ns.map strN) from (cut_from _ 1).trans (by rw [← List.map_drop]; rfl)]
    refine ⟨_, rfl, ns, by rw [List.map_map]; rfl, by omega, fun n hn => ?_, ?_⟩
    · have := hp.d.b n hn
      walk_at "dl"
      exact ⟨n, rfl, by omega, by omega, rfl⟩
    walk_at "dl"
    exact ⟨by simp, q⟩
end
/-! ### the class -/
structure NightC (K : PySem.W.Frag) (C : Addr) : Prop where
  cl : Cls K C
  nD : NoAttr K C "_divisors"
  nP : NoAttr K C "_parties"
  nH : NoAttr K C "_piles"
  nT : NoAttr K C "_text"
def nightF (ns : List Int) (folk : List (Str × Int)) (heaps : List (Int × List Str)) : List (Str × D) := [("_divisors", divsD ns), ("_parties", folkD folk), ("_piles", heapsD heaps), ("_text", .str (textOf ns folk heaps))]
theorem ne1 : ¬ (Str.ofString "_divisors" = Str.ofString "_parties") := by decide +kernel
theorem ne2 : ¬ (Str.ofString "_divisors" = Str.ofString "_piles") := by decide +kernel
theorem ne3 : ¬ (Str.ofString "_divisors" = Str.ofString "_text") := by decide +kernel
theorem ne4 : ¬ (Str.ofString "_parties" = Str.ofString "_piles") := by decide +kernel
theorem ne5 : ¬ (Str.ofString "_parties" = Str.ofString "_text") := by decide +kernel
theorem ne6 : ¬ (Str.ofString "_piles" = Str.ofString "_text") := by decide +kernel
theorem put_night (a b c d : D) : putD "_text" d (putD "_piles" c (putD "_parties" b (putD "_divisors" a []))) = [(Str.ofString "_divisors", a), (Str.ofString "_parties", b), (Str.ofString "_piles", c), (Str.ofString "_text", d)] := by
  simp only [putD, if_neg ne1, if_neg ne2, if_neg ne3, if_neg ne4, if_neg ne5, if_neg ne6]
theorem lk_div {ns folk heaps} : (nightF ns folk heaps).lookup (Str.ofString "_divisors") = some (divsD ns) := by
  unfold nightF
  rw [List.lookup_cons, beq_self_eq_true]
theorem lk_par {ns folk heaps} : (nightF ns folk heaps).lookup (Str.ofString "_parties") = some (folkD folk) := by
  unfold nightF
  rw [List.lookup_cons, beq_eq_false_iff_ne.mpr (fun e => ne1 e.symm), List.lookup_cons, beq_self_eq_true]
theorem lk_pil {ns folk heaps} : (nightF ns folk heaps).lookup (Str.ofString "_piles") = some (heapsD heaps) := by
  unfold nightF
  rw [List.lookup_cons, beq_eq_false_iff_ne.mpr (fun e => ne2 e.symm), List.lookup_cons, beq_eq_false_iff_ne.mpr (fun e => ne4 e.symm), List.lookup_cons, beq_self_eq_true]
theorem lk_txt {ns folk heaps} : (nightF ns folk heaps).lookup (Str.ofString "_text") = some (D.str (textOf ns folk heaps)) := by
  unfold nightF
  rw [List.lookup_cons, beq_eq_false_iff_ne.mpr (fun e => ne3 e.symm), List.lookup_cons, beq_eq_false_iff_ne.mpr (fun e => ne5 e.symm), List.lookup_cons, beq_eq_false_iff_ne.mpr (fun e => ne6 e.symm), List.lookup_cons, beq_self_eq_true]
section
variable {P : Program} {w : World} {K : PySem.W.Frag} {mg : Str → Option Value} {base : Heap} {f C : Addr} {fd : FuncData}
def S_init : ISp := fun ds Φ _ => ∃ ns folk heaps, ds = [divsD ns, folkD folk, heapsD heaps] ∧ PartsOk ns folk heaps ∧ Φ (nightF ns folk heaps)
abbrev s_Night___init : Stmt := inClass (topS 42) 0
abbrev N_Night___init : List Str := ["self", "divisors", "parties", "piles"]
theorem sc_Night___init : FnScope N_Night___init ["self", "divisors", "parties", "piles"] (defScope s_Night___init) := ⟨rfl, rfl, rfl, by decide +kernel, rfl, by decide +kernel, by decide +kernel⟩
theorem ok_init (F : FunX K "__init__" "Night.__init__" s_Night___init f fd) (T : NightC K C) (c_check_divisors : CallD P w K mg base "check_divisors" 4 S_check_divisors) (c_check_parties : CallD P w K mg base "check_parties" 4 S_check_parties) (c_check_piles : CallD P w K mg base "check_piles" 4 S_check_piles)
    (c_names_of : CallD P w K mg base "names_of" 1 S_names_of) (c_text_of : CallD P w K mg base "text_of" 1 S_text_of) : FnG P w K mg base 5 f fd ["self", "divisors", "parties", "piles"] (liftI K C S_init) := by
  refine fnI_of F sc_Night___init (fun ds Φ Ψ ⟨_, _, _, h, _⟩ => by rw [h]; rfl) fun cdv A outer s H E b => ⟨_, (pss_cons (ps_expr (k_cd K c_check_divisors (by exact b.room) (by decide) b.pass (pa_cons (pv 1) pa_nil)))
 (pss_cons (ps_expr (k_cd K c_check_parties (by exact b.room) (by decide) b.pass (pa_cons (pv 2) pa_nil)))
 (pss_cons (ps_expr (k_cd K c_check_piles (by exact b.room) (by decide) b.pass (pa_cons (pv 3) (pa_cons (k_cd K c_names_of (by exact b.room) (by decide) b.pass (pa_cons (pv 2) pa_nil)) pa_nil))))
 (pss_cons (k_sfld K (pv 0) (pv 1))
 (pss_cons (k_sfld K (pv 0) (pv 2))
 (pss_cons (k_sfld K (pv 0) (pv 3))
 (pss_one (k_sfld K (pv 0) (k_cd K c_text_of (by exact b.room) (by decide) b.pass (pa_cons (pv 1) (pa_cons (pv 2) (pa_cons (pv 3) pa_nil)))))))))))), fun y ds Φ Ψ ⟨ns, folk, heaps, h, hp, q⟩ => ?_⟩
  subst h
  have f2 := hp.f.l2
  show wS _ _ _ [some (.own (some y) (.ins C [])), some (.dat (divsD ns)), some (.dat (folkD folk)), some (.dat (heapsD heaps))]
  walk_at "dl"
  refine ⟨ns, rfl, hp.d, ?_⟩
  walk_at "dl"
  refine ⟨folk, rfl, hp.f, ?_⟩
  walk_at "dl"
  refine ⟨folk, rfl, by omega, ?_⟩
  walk_at "dl"
  refine ⟨heaps, folk.map (·.1), by rw [List.map_map]; rfl, hp.h, hp.f.nd, fun z hz => (hp.f.names z hz).ok, hp.f.len, ?_⟩
  walk_at "dl"
  refine ⟨_, _, _, rfl, T.cl, T.nD, by decide, ?_⟩
  walk_at "dl"
  refine ⟨_, _, _, rfl, T.cl, T.nP, by simp [putD], ?_⟩
  walk_at "dl"
  refine ⟨_, _, _, rfl, T.cl, T.nH, by simp only [putD, if_neg ne1]; show 2 < 1000; decide, ?_⟩
  walk_at "dl"
  refine ⟨ns, folk, heaps, rfl, hp, ?_⟩
  refine ⟨_, _, _, rfl, T.cl, T.nT, by simp only [putD, if_neg ne1, if_neg ne2, if_neg ne4]; show 3 < 1000; decide, ?_⟩
  exact ⟨_, rfl, by rw [put_night]; exact q⟩
def S_getD (C : Addr) : DSp := fun ds Φ _ => ∃ ns folk heaps, ds = [.ins C (nightF ns folk heaps)] ∧ Φ (divsD ns)
def S_getP (C : Addr) : DSp := fun ds Φ _ => ∃ ns folk heaps, ds = [.ins C (nightF ns folk heaps)] ∧ Φ (folkD folk)
def S_getH (C : Addr) : DSp := fun ds Φ _ => ∃ ns folk heaps, ds = [.ins C (nightF ns folk heaps)] ∧ Φ (heapsD heaps)
def S_getT (C : Addr) : DSp := fun ds Φ _ => ∃ ns folk heaps, ds = [.ins C (nightF ns folk heaps)] ∧ Φ (.str (textOf ns folk heaps))
abbrev s_Night_divisors : Stmt := inClass (topS 42) 2
abbrev N_Night_divisors : List Str := ["self"]
theorem sc_Night_divisors : FnScope N_Night_divisors ["self"] (defScope s_Night_divisors) := ⟨rfl, rfl, rfl, by decide +kernel, rfl, by decide +kernel, by decide +kernel⟩
theorem ok_getD (F : FunX K "divisors" "Night.divisors" s_Night_divisors f fd) (T : NightC K C) : FnG P w K mg base 1 f fd ["self"] (lift K (S_getD C)) := by
  refine fnX_of F sc_Night_divisors (fun ds Φ Ψ ⟨_, _, _, h, _⟩ => by rw [h]; rfl) fun cdv A outer s H E b => ⟨_, (pss_one (ps_ret (k_fld K (pv 0)))), fun ds Φ Ψ ⟨ns, folk, heaps, h, q⟩ => ?_⟩
  subst h
  show wS _ _ _ [some (.dat _)]
  walk_at "dl"
  exact ⟨_, _, _, rfl, T.cl, T.nD, lk_div, q⟩
abbrev s_Night_parties : Stmt := inClass (topS 42) 3
abbrev N_Night_parties : List Str := ["self"]
theorem sc_Night_parties : FnScope N_Night_parties ["self"] (defScope s_Night_parties) := ⟨rfl, rfl, rfl, by decide +kernel, rfl, by decide +kernel, by decide +kernel⟩
theorem ok_getP (F : FunX K "parties" "Night.parties" s_Night_parties f fd) (T : NightC K C) : FnG P w K mg base 1 f fd ["self"] (lift K (S_getP C)) := by
  refine fnX_of F sc_Night_parties (fun ds Φ Ψ ⟨_, _, _, h, _⟩ => by rw [h]; rfl) fun cdv A outer s H E b => ⟨_, (pss_one (ps_ret (k_fld K (pv 0)))), fun ds Φ Ψ ⟨ns, folk, heaps, h, q⟩ => ?_⟩
  subst h
  show wS _ _ _ [some (.dat _)]
  walk_at "dl"
  exact ⟨_, _, _, rfl, T.cl, T.nP, lk_par, q⟩
abbrev s_Night_piles : Stmt := inClass (topS 42) 4
abbrev N_Night_piles : List Str := ["self"]
theorem sc_Night_piles : FnScope N_Night_piles ["self"] (defScope s_Night_piles) := ⟨rfl, rfl, rfl, by decide +kernel, rfl, by decide +kernel, by decide +kernel⟩
theorem ok_getH (F : FunX K "piles" "Night.piles" s_Night_piles f fd) (T : NightC K C) : FnG P w K mg base 1 f fd ["self"] (lift K (S_getH C)) := by
  refine fnX_of F sc_Night_piles (fun ds Φ Ψ ⟨_, _, _, h, _⟩ => by rw [h]; rfl) fun cdv A outer s H E b => ⟨_, (pss_one (ps_ret (k_fld K (pv 0)))), fun ds Φ Ψ ⟨ns, folk, heaps, h, q⟩ => ?_⟩
  subst h
  show wS _ _ _ [some (.dat _)]
  walk_at "dl"
  exact ⟨_, _, _, rfl, T.cl, T.nH, lk_pil, q⟩
abbrev s_Night___str : Stmt := inClass (topS 42) 8
abbrev N_Night___str : List Str := ["self"]
theorem sc_Night___str : FnScope N_Night___str ["self"] (defScope s_Night___str) := ⟨rfl, rfl, rfl, by decide +kernel, rfl, by decide +kernel, by decide +kernel⟩
theorem ok_str (F : FunX K "__str__" "Night.__str__" s_Night___str f fd) (T : NightC K C) (B : Blt mg) : FnG P w K mg base 1 f fd ["self"] (lift K (S_getT C)) := by
  refine fnX_of F sc_Night___str (fun ds Φ Ψ ⟨_, _, _, h, _⟩ => by rw [h]; rfl) fun cdv A outer s H E b => ⟨_, (pss_one (ps_ret (pe_callTy callr_str (by rfl) B.str bb_str (pa_cons (k_fld K (pv 0)) pa_nil)))), fun ds Φ Ψ ⟨ns, folk, heaps, h, q⟩ => ?_⟩
  subst h
  show wS _ _ _ [some (.dat _)]
  walk_at "dl"
  refine ⟨_, _, _, rfl, T.cl, T.nT, lk_txt, ?_⟩
  walk_at "dl"
  exact q
def S_read (C : Addr) : DSp := fun ds Φ _ => ∃ ns folk heaps, ds = [.raw (.ref C), .str (textOf ns folk heaps)] ∧ PartsOk ns folk heaps ∧ Φ (.ins C (nightF ns folk heaps))
abbrev s_Night_read : Stmt := inClass (topS 42) 1
abbrev N_Night_read : List Str := ["cls", "text", "parts", "divisors", "parties", "piles"]
theorem sc_Night_read : FnScope N_Night_read ["cls", "text"] (defScope s_Night_read) := ⟨rfl, rfl, rfl, by decide +kernel, rfl, by decide +kernel, by decide +kernel⟩
theorem ok_read (F : FunX K "read" "Night.read" s_Night_read f fd) (B : Blt mg) (c_parts_in : CallD P w K mg base "parts_in" 2 S_parts_in) (c_mkNight3 : MakeB P w K mg base C 5 S_init 3 [] [0, 1, 2] []) : FnG P w K mg base 7 f fd ["cls", "text"] (lift K (S_read C)) := by
  refine fnX_of F sc_Night_read (fun ds Φ Ψ ⟨_, _, _, h, _⟩ => by rw [h]; rfl) fun cdv A outer s H E b => ⟨_, (pss_cons (ps_set (i := 2) sc_Night_read.nd rfl (by first | exact .inl rfl | exact .inr rfl) (pe_ifExp (pt_val (pe_callB (k_isi K) (by rfl) B.isinstance bb_isinstance (pa_cons (pv 1) (pa_cons (pe_bty B.str bb_str) pa_nil)))) (k_cd K c_parts_in (by exact b.room) (by decide) b.pass (pa_cons (pv 1) pa_nil)) pe_non))
 (pss_cons (ps_if (pt_cmpR op_isN (pv 2) pe_non (nomark _)) (pss_one ps_never) pss_nil)
 (pss_cons (ps_asg (pv 2) (k_pg K (n := 3) rfl (pgs_cons (pg_name (i := 3) sc_Night_read.nd rfl (by first | exact .inl rfl | exact .inr rfl)) (pgs_cons (pg_name (i := 4) sc_Night_read.nd rfl (by first | exact .inl rfl | exact .inr rfl)) (pgs_cons (pg_name (i := 5) sc_Night_read.nd rfl (by first | exact .inl rfl | exact .inr rfl)) pgs_nil)))))
 (pss_one (ps_try_thru0 (pss_one (ps_ret (k_mkL K 0 c_mkNight3 (by exact b.room) (by decide) passN (pa_cons (pv 3) (pa_cons (pv 4) (pa_cons (pv 5) pa_nil))) pk_nil)))))))), fun ds Φ Ψ ⟨ns, folk, heaps, h, hp, q⟩ => ?_⟩
  subst h
  show wS _ _ _ [some (.dat _), some (.dat _), none, none, none, none]
  walk_at "dl"
  refine ⟨ns, folk, heaps, rfl, hp, ?_⟩
  unfold partsD
  walk_at "dl"
  refine wE_quiet (wE_makeL rfl ?_)
  walk_at "dl"
  exact ⟨rfl, rfl, ns, folk, heaps, rfl, hp, q⟩
end
/-! ### the law's own draws -/
section
variable {P : Program} {w : World} {K : PySem.W.Frag} {mg : Str → Option Value} {base : Heap} {f C : Addr} {fd : FuncData}
def BdOk (n : Int) : Prop := n.natAbs < 2 ^ Bits
def S_begunR : RSp := fun ds Φ => ∃ (ns : List Int) (t : Int), ds = [.scr ns, .int t] ∧ 0 ≤ t ∧ t < 100 ∧ (∀ n ∈ ns, BdOk n) ∧ ∀ i j l, PB i j → Φ [.int i, .int j, .int l]
def S_begun : DSp := fun ds Φ _ => ∃ (ns : List Int) (t : Int), ds = [.scr ns, .int t] ∧ 0 ≤ t ∧ t < 100 ∧ (∀ n ∈ ns, BdOk n) ∧ Φ .pail
abbrev s_l_begun : Stmt := topS 68
abbrev N_l_begun : List Str := ["_law_script", "_law_turn", "_law_own", "_law_state", "_law_cell", "_law_mixed"]
theorem sc_l_begun : FnScope N_l_begun ["_law_script", "_law_turn"] (defScope s_l_begun) := ⟨rfl, rfl, rfl, by decide +kernel, rfl, by decide +kernel, by decide +kernel⟩
theorem okR_begun (F : FunX K "_law_begun" "_law_begun" s_l_begun f fd) (B : Blt mg) : FnG P w K mg base 1 f fd ["_law_script", "_law_turn"] (liftR K S_begunR) := by
  refine fnR_of F sc_l_begun (fun ds Φ ⟨_, _, h, _⟩ => by rw [h]; rfl) fun cdv A outer s H E b => ⟨_, (pss_cons (ps_set (i := 2) sc_l_begun.nd rfl (by first | exact .inl rfl | exact .inr rfl) (pe_ifExp (pt_cmpR op_lt (pv 1) (pe_callB (k_len K) (by rfl) B.len bb_len (pa_cons (pv 0) pa_nil)) (nomark _)) (pe_ix (k_ix K) (pv 0) (pv 1) (fun _ _ => rfl)) pe_int))
 (pss_cons (ps_set (i := 3) sc_l_begun.nd rfl (by first | exact .inl rfl | exact .inr rfl) (pe_op (k_add K) pe_int (pe_op opr_mul pe_int (pv 1))))
 (pss_cons (ps_for b.own rfl (k_any K (pe_slice (k_sl K) (pv 0) po_none (po_some pe_int))) (pg_name (i := 4) sc_l_begun.nd rfl (by first | exact .inl rfl | exact .inr rfl)) (pss_one (ps_set (i := 3) sc_l_begun.nd rfl (by first | exact .inl rfl | exact .inr rfl) (pe_op op_mod (pe_callTy callr_int (by rfl) B.int bb_int (pa_cons (pe_op (k_add K) (pe_op (k_add K) (pe_op opr_mul (pv 3) pe_int) (pe_op opr_mul (pv 4) pe_int)) pe_int) pa_nil)) pe_int))))
 (pss_cons (ps_set (i := 5) sc_l_begun.nd rfl (by first | exact .inl rfl | exact .inr rfl) (pe_op op_mod (pe_callTy callr_int (by rfl) B.int bb_int (pa_cons (pe_op (k_add K) (pe_op (k_add K) (pe_op opr_mul (pv 3) pe_int) (pe_op opr_mul (pv 2) (pv 2))) (pe_op opr_mul pe_int (pv 1))) pa_nil)) pe_int))
 (pss_one (ps_ret (pe_lst (pa_cons (pe_ifExp (PW.pt (pw_or (pt_cmpR op_lt (pv 2) pe_int (nomark _)) (pw_or1 (pt_cmpR op_ge (pv 2) (pe_op op_pow pe_int pe_int) (nomark _))))) (pe_callB call_abs (by rfl) B.abs bb_abs (pa_cons (pv 2) pa_nil)) pe_int) (pa_cons (pv 5) (pa_cons pe_int pa_nil)))))))))), fun ds Φ ⟨ns, t, h, t0, t1, hb, q⟩ => ?_⟩
  subst h
  obtain ⟨t, rfl⟩ : ∃ k : Nat, t = k := ⟨t.toNat, by omega⟩
  show wS _ _ _ [some (.dat _), some (.dat _), none, none, none, none]
  walk_at "dlo"
  refine ifE (fun d ρ' => ∃ own : Int, d = .int own ∧ BdOk own ∧ ρ' = [some (.dat (.scr ns)), some (.dat (.int (t : Nat))), none, none, none, none]) (fun d ρ' ⟨own, e1, ho, e2⟩ => ?_) (fun hz => ?_) (fun hz => ?_)
  · subst e1 e2
    walk_at "dlo"
    refine wS_forT D.int (fun _ ρ' => ∃ (st : Int) (x : Option Sl), 0 ≤ st ∧ st < 2147483648 ∧ ρ' = [some (.dat (.scr ns)), some (.dat (.int (t : Nat))), some (.dat (.int own)), some (.dat (.int st)), x, none]) (wI_any ?_)
    walk_at "dlo"
    refine ⟨_, rfl, cutD ns none (some 6), rfl, ⟨_, _, by omega, by omega, rfl⟩, fun i n ρ' hi ⟨st, x, s0, s1, e⟩ => ?_, fun ρ' ⟨st, x, s0, s1, e⟩ => ?_⟩
    · subst e
      walk_at "dlo"
      refine ⟨_, _, ?_, ?_, rfl⟩
      · exact Int.emod_nonneg _ (by decide)
      · have := Int.emod_lt_of_pos (st * 30269 + n * 7 + 13) (show (0 : Int) < 2147483629 by decide)
        omega
    subst e
    walk_at "dlo"
    refine mulG_i (MulC.bits ho ho bits_two) ?_
    walk_at "dlo"
    have m0 := Int.emod_nonneg (st * 53 + own * own + 17 * (t : Int)) (show (2147483629 : Int) ≠ 0 by decide)
    have m1 := Int.emod_lt_of_pos (st * 53 + own * own + 17 * (t : Int)) (show (0 : Int) < 2147483629 by decide)
    have fin : ∀ i : Int, 0 ≤ i → [D.int i, .int ((st * 53 + own * own + 17 * (t : Int)) % 2147483629), .int 0].length ≤ 1000000 ∧ Φ [D.int i, .int ((st * 53 + own * own + 17 * (t : Int)) % 2147483629), .int 0] := fun i hi => ⟨by simp, q _ _ _ ⟨hi, m0, by omega⟩⟩
    refine ifD (fun hz => ?_) (fun hz => ?_)
    · walk_at "dlo"
      exact fin _ (by rw [if_pos hz]; omega)
    · walk_at "dlo"
      refine ifD (fun hy => ?_) (fun hy => ?_)
      · walk_at "dlo"
        exact fin _ (by rw [if_neg hz]; omega)
      · walk_at "dlo"
        exact fin 0 (by omega)
  · walk_at "dlo"
    have hl : t < ns.length := by omega
    refine ixG_c (L2.atI_nat (List.getElem?_eq_getElem hl)) ?_
    exact ⟨_, rfl, hb _ (List.getElem_mem hl), rfl⟩
  · walk_at "dlo"
    exact ⟨by unfold BdOk; exact Nat.two_pow_pos _, rfl⟩
theorem ok_begun (F : FunX K "_law_begun" "_law_begun" s_l_begun f fd) (B : Blt mg) : FnG P w K mg base 1 f fd ["_law_script", "_law_turn"] (lift K S_begun) :=
  fnPR_of (okR_begun F B) (fun ds Φ Ψ ⟨_, _, h, _⟩ => by rw [h]; rfl) fun ds Φ Ψ ⟨ns, t, h, t0, t1, hb, q⟩ => ⟨ns, t, h, t0, t1, hb, fun i j l pb => ⟨q, i, j, l, rfl, pb⟩⟩
def M_cast : MSp := fun ms ds Φ => ∃ i j l m : Int, ms = [.int i, .int j, .int l] ∧ PB i j ∧ ds = [.int m] ∧ 0 < m ∧ m < 1073741824 ∧ ∀ c i' j' l', 0 ≤ c → c < m → PB i' j' → Φ (.int c) [.int i', .int j', .int l']
def P_cast : PSp := fun ns Φ => ∃ m, ns = [m] ∧ 0 < m ∧ m < 1073741824 ∧ ∀ c, 0 ≤ c → c < m → Φ (.int c)
abbrev s_l_cast : Stmt := topS 69
abbrev N_l_cast : List Str := ["_law_pail", "_law_many", "_law_figure", "_law_state"]
theorem sc_l_cast : FnScope N_l_cast ["_law_pail", "_law_many"] (defScope s_l_cast) := ⟨rfl, rfl, rfl, by decide +kernel, rfl, by decide +kernel, by decide +kernel⟩
theorem okM_cast (F : FunX K "_law_cast" "_law_cast" s_l_cast f fd) (B : Blt mg) : FnG P w K mg base 1 f fd ["_law_pail", "_law_many"] (liftM K M_cast) := by
  refine fnM_of F sc_l_cast (fun ms ds Φ ⟨_, _, _, _, _, _, h, _⟩ => by rw [h]; rfl) fun cdv A outer s H E b => ⟨_, (pss_cons (ps_if (pt_cmpR op_gt (pe_ix (k_ix K) (pv 0) pe_int (fun _ _ => rfl)) pe_int (nomark _)) (pss_cons (ps_asg (pe_callB k_divmod (by rfl) B.divmod bb_divmod (pa_cons (pe_ix (k_ix K) (pv 0) pe_int (fun _ _ => rfl)) (pa_cons (pv 1) pa_nil))) (k_pg K (n := 2) rfl (pgs_cons (pg_sub (pv 0) pe_int set_list) (pgs_cons (pg_name (i := 2) sc_l_cast.nd rfl (by first | exact .inl rfl | exact .inr rfl)) pgs_nil))))
 (pss_one (ps_ret (pv 2)))) pss_nil)
 (pss_cons (ps_asg (pe_op (k_add K) (pe_ix (k_ix K) (pv 0) pe_int (fun _ _ => rfl)) pe_int) (pg_sub (pv 0) pe_int set_list))
 (pss_cons (ps_set (i := 3) sc_l_cast.nd rfl (by first | exact .inl rfl | exact .inr rfl) (pe_op op_mod (pe_callTy callr_int (by rfl) B.int bb_int (pa_cons (pe_op (k_add K) (pe_op (k_add K) (pe_op opr_mul (pe_ix (k_ix K) (pv 0) pe_int (fun _ _ => rfl)) (pe_op (k_add K) pe_int (pe_op opr_mul pe_int (pe_ix (k_ix K) (pv 0) pe_int (fun _ _ => rfl))))) (pe_op opr_mul pe_int (pe_ix (k_ix K) (pv 0) pe_int (fun _ _ => rfl)))) pe_int) pa_nil)) pe_int))
 (pss_cons (ps_asg (pe_op op_mod (pe_callTy callr_int (by rfl) B.int bb_int (pa_cons (pe_op (k_add K) (pe_op (k_add K) (pe_op opr_mul (pv 3) pe_int) (pe_op opr_mul pe_int (pe_ix (k_ix K) (pv 0) pe_int (fun _ _ => rfl)))) pe_int) pa_nil)) pe_int) (pg_sub (pv 0) pe_int set_list))
 (pss_one (ps_ret (pe_op op_mod (pe_callTy callr_int (by rfl) B.int bb_int (pa_cons (pe_op op_fdiv (pe_ix (k_ix K) (pv 0) pe_int (fun _ _ => rfl)) pe_int) pa_nil)) (pv 1)))))))), fun y ms ds Φ ⟨i, j, l, m, h, pb, h2, m0, m1, q⟩ => ?_⟩
  subst h h2
  obtain ⟨p1, p2, p3⟩ := pb
  show wS _ _ _ [some (.own (some y) (.lst [.int i, .int j, .int l])), some (.dat (.int m)), none, none]
  walk_at "dl"
  refine ifD (fun hz => ?_) (fun hz => ?_)
  · walk_at "dl"
    refine divmodG_i m0 m1 ?_
    walk_at "dl"
    exact ⟨_, rfl, q _ _ _ _ (Int.emod_nonneg _ (by omega)) (Int.emod_lt_of_pos _ m0) ⟨Int.ediv_nonneg p1 (by omega), p2, p3⟩⟩
  · walk_at "dl"
    have m2 : ∀ z : Int, 0 ≤ z % 2147483587 ∧ z % 2147483587 < 2147483648 := fun z => by omega
    exact ⟨_, rfl, q _ _ _ _ (Int.emod_nonneg _ (by omega)) (Int.emod_lt_of_pos _ m0) ⟨p1, (m2 _).1, (m2 _).2⟩⟩
theorem ok_cast (F : FunX K "_law_cast" "_law_cast" s_l_cast f fd) (B : Blt mg) : FnG P w K mg base 1 f fd ["_law_pail", "_law_many"] (lift K (pailS P_cast)) :=
  fnP_of (okM_cast F B) (fun i j l ns Φ pb ⟨m, e, m0, m1, q⟩ => ⟨i, j, l, m, rfl, pb, by rw [e]; rfl, m0, m1, fun c i' j' l' c0 c1 pb' => ⟨q c c0 c1, i', j', l', rfl, pb'⟩⟩) fun ns Φ ⟨m, e, _⟩ => by rw [e]; rfl
end
section
variable {P : Program} {w : World} {K : PySem.W.Frag} {mg : Str → Option Value} {base : Heap} {f C : Addr} {fd : FuncData}
/-- one number drawn -/
theorem use_cast {n : Int} {Φ : D → Prop} {Ψ : Exn → Prop} (h0 : 0 < n) (h1 : n < 1073741824) (h : ∀ c : Nat, (c : Int) < n → Φ (.int c)) : pailS P_cast [.pail, .int n] Φ Ψ :=
  ⟨[n], rfl, n, rfl, h0, h1, fun c c0 c1 => by
    obtain ⟨k, rfl⟩ : ∃ k : Nat, c = k := ⟨c.toNat, by omega⟩
    exact h k c1⟩
def S_any_of : DSp := fun ds Φ _ => ∃ l, ds = [.pail, .lst l] ∧ 0 < l.length ∧ l.length < 1000000 ∧ ∀ x ∈ l, Φ x
abbrev s_l_any_of : Stmt := topS 70
abbrev N_l_any_of : List Str := ["_law_pail", "_law_some_here"]
theorem sc_l_any_of : FnScope N_l_any_of ["_law_pail", "_law_some_here"] (defScope s_l_any_of) := ⟨rfl, rfl, rfl, by decide +kernel, rfl, by decide +kernel, by decide +kernel⟩
theorem ok_any_of (F : FunX K "_law_any_of" "_law_any_of" s_l_any_of f fd) (B : Blt mg) (c_l_cast : CallD P w K mg base "_law_cast" 1 (pailS P_cast)) : FnG P w K mg base 2 f fd ["_law_pail", "_law_some_here"] (lift K S_any_of) := by
  refine fnX_of F sc_l_any_of (fun ds Φ Ψ ⟨_, h, _⟩ => by rw [h]; rfl) fun cdv A outer s H E b => ⟨_, (pss_one (ps_ret (pe_ix (k_ix K) (pv 1) (k_cd K c_l_cast (by exact b.room) (by decide) b.pass (pa_cons (pv 0) (pa_cons (pe_callB (k_len K) (by rfl) B.len bb_len (pa_cons (pv 1) pa_nil)) pa_nil))) (fun _ _ => rfl)))), fun ds Φ Ψ ⟨l, h, h0, h1, q⟩ => ?_⟩
  subst h
  show wS _ _ _ [some (.dat _), some (.dat _)]
  walk_at "dl"
  refine use_cast (by omega) (by omega) fun c hc => ?_
  have hl : c < l.length := by omega
  walk_at "dl"
  exact ixG_l (L2.atI_nat (List.getElem?_eq_getElem hl)) (q _ (List.getElem_mem hl))
def menu0 : List Str := ["a", "red", "blue", "gold", "pile", "party", "divisors", "b9", "zzzzzzzz", "x1", "none", "m0000000"]
def nameOkB (z : Str) : Bool := decide (1 ≤ z.length) && decide (z.length ≤ 8) && (match z.cps.toList with | [] => false | c :: _ => decide (c ∈ letters.cps.toList)) && z.cps.toList.all fun c => decide (c ∈ lettersD.cps.toList)
theorem nameOk_of {z : Str} (h : nameOkB z = true) : NameOk z := by
  simp only [nameOkB, Bool.and_eq_true, decide_eq_true_eq, List.all_eq_true] at h
  obtain ⟨⟨⟨h1, h2⟩, h3⟩, h4⟩ := h
  refine ⟨h1, h2, ?_, h4⟩
  cases e : z.cps.toList with
  | nil => rw [e] at h3; cases h3
  | cons c r => rw [e] at h3; exact ⟨c, rfl, by simpa using h3⟩
theorem menu0_ok : ∀ z ∈ menu0, NameOk z := fun z hz => nameOk_of ((List.all_eq_true.mp (by decide +kernel : menu0.all nameOkB = true)) z hz)
theorem menu0_nd : menu0.Nodup := by decide +kernel
structure TagsOk (names : List Str) : Prop where
  nd : names.Nodup
  ok : ∀ z ∈ names, NameOk z
  mn : ∀ z ∈ names, z ∈ menu0
def S_tags : DSp := fun ds Φ _ => ∃ k : Nat, ds = [.pail, .int k] ∧ k ≤ 12 ∧ ∀ names, names.length = k → TagsOk names → Φ (.lst (names.map .str))
abbrev s_l_tags : Stmt := topS 72
abbrev N_l_tags : List Str := ["_law_pail", "_law_many", "_law_menu", "_law_found", "_law_k"]
theorem sc_l_tags : FnScope N_l_tags ["_law_pail", "_law_many"] (defScope s_l_tags) := ⟨rfl, rfl, rfl, by decide +kernel, rfl, by decide +kernel, by decide +kernel⟩
theorem map_erase {α β : Type} (f : α → β) : ∀ (l : List α) (j : Nat), (l.map f).eraseIdx j = (l.eraseIdx j).map f
  | [], _ => rfl
  | _ :: _, 0 => rfl
  | a :: l, j + 1 => by
    show f a :: (l.map f).eraseIdx j = f a :: (l.eraseIdx j).map f
    rw [map_erase f l j]
theorem perm_move {found cur : List Str} {j : Nat} {y : Str} (hj : cur[j]? = some y) (h : TagsOk (found ++ cur)) : TagsOk ((found ++ [y]) ++ cur.eraseIdx j) := by
  have hp := perm_erase hj
  have hp2 : ((found ++ [y]) ++ cur.eraseIdx j).Perm (found ++ cur) := by
    rw [List.append_assoc]
    exact (List.Perm.refl found).append hp
  exact ⟨hp2.nodup_iff.mpr h.nd, fun z hz => h.ok z (hp2.mem_iff.mp hz), fun z hz => h.mn z (hp2.mem_iff.mp hz)⟩
theorem ok_tags (F : FunX K "_law_tags" "_law_tags" s_l_tags f fd) (B : Blt mg) (c_l_cast : CallD P w K mg base "_law_cast" 1 (pailS P_cast)) : FnG P w K mg base 2 f fd ["_law_pail", "_law_many"] (lift K S_tags) := by
  refine fnX_of F sc_l_tags (fun ds Φ Ψ ⟨_, h, _⟩ => by rw [h]; rfl) fun cdv A outer s H E b => ⟨_, (pss_cons (ps_set (i := 2) sc_l_tags.nd rfl (by first | exact .inl rfl | exact .inr rfl) (pe_lst (pa_cons pe_str (pa_cons pe_str (pa_cons pe_str (pa_cons pe_str (pa_cons pe_str (pa_cons pe_str (pa_cons pe_str (pa_cons pe_str (pa_cons pe_str (pa_cons pe_str (pa_cons pe_str (pa_cons pe_str pa_nil))))))))))))))
 (pss_cons (ps_set (i := 3) sc_l_tags.nd rfl (by first | exact .inl rfl | exact .inr rfl) (pe_lst pa_nil))
 (pss_cons (ps_for b.own rfl (pi_range1 (by rfl) B.range (pa_cons (pv 1) pa_nil)) (pg_name (i := 4) sc_l_tags.nd rfl (by first | exact .inl rfl | exact .inr rfl)) (pss_one (ps_expr (k_bm K PySem.F.plainAttrs_list PySem.F.slot_list_append PySem.F.type_list_append mt_append (pv 3) (pa_cons (k_bm K PySem.F.plainAttrs_list PySem.F.slot_list_pop PySem.F.type_list_pop mt_popAt (pv 2) (pa_cons (k_cd K c_l_cast (by exact b.room) (by decide) b.pass (pa_cons (pv 0) (pa_cons (pe_callB (k_len K) (by rfl) B.len bb_len (pa_cons (pv 2) pa_nil)) pa_nil))) pa_nil)) pa_nil)))))
 (pss_one (ps_ret (pv 3)))))), fun ds Φ Ψ ⟨k, h, hk, q⟩ => ?_⟩
  subst h
  show wS _ _ _ [some (.dat _), some (.dat _), none, none, none]
  walk_at "dl"
  refine ⟨by simp, ?_⟩
  walk_at "dl"
  refine ⟨by simp, ?_⟩
  walk_at "dl"
  refine wS_forT (fun i : Nat => .int (0 + (i : Int))) (fun i ρ' => ∃ (cur found : List Str) (x : Option Sl), ρ' = [some (.dat .pail), some (.dat (.int k)), some (.own none (.lst (cur.map .str))), some (.own none (.lst (found.map .str))), x] ∧ cur.length + i = 12 ∧ found.length = i ∧ TagsOk (found ++ cur)) (wI_range1 ?_)
  walk_at "dl"
  refine ⟨_, rfl, by omega, List.range k, by unfold rangeD; rw [show ((k : Int) - 0).toNat = k by omega], ⟨menu0, [], _, rfl, rfl, rfl, menu0_nd, menu0_ok, fun z hz => hz⟩, fun i x ρ' hi ⟨cur, found, y, e, l1, l2, tg⟩ => ?_, fun ρ' ⟨cur, found, y, e, l1, l2, tg⟩ => ?_⟩
  · subst e
    have hcm : (cur.map D.str).length = cur.length := List.length_map _
    have hfm : (found.map D.str).length = found.length := List.length_map _
    have hik : i < k := by have := (List.getElem?_eq_some_iff.mp hi).1; simpa using this
    walk_at "dl"
    · omega
    walk_at "dl"
    refine use_cast (by omega) (by omega) fun c hc => ?_
    walk_at "dl"
    have hcl : c < cur.length := by omega
    refine ⟨_, c, _, .str cur[c], rfl, rfl, by omega, by rw [List.getElem?_map, List.getElem?_eq_getElem hcl]; rfl, ?_⟩
    refine ⟨_, _, rfl, by omega, ?_⟩
    rw [map_erase D.str cur c, show List.map D.str found ++ [D.str cur[c]] = List.map D.str (found ++ [cur[c]]) by rw [List.map_append]; rfl]
    exact ⟨cur.eraseIdx c, found ++ [cur[c]], _, rfl, by rw [List.length_eraseIdx_of_lt hcl]; omega, by rw [List.length_append]; exact congrArg (· + 1) l2, perm_move (List.getElem?_eq_getElem hcl) tg⟩
  · subst e
    walk_at "dl"
    rw [List.length_range] at l2
    exact q found l2 ⟨(List.nodup_append.mp tg.nd).1, fun z hz => tg.ok z (List.mem_append_left _ hz), fun z hz => tg.mn z (List.mem_append_left _ hz)⟩
end
section
variable {P : Program} {w : World} {K : PySem.W.Frag} {mg : Str → Option Value} {base : Heap} {f C : Addr} {fd : FuncData}
def S_rising : DSp := fun ds Φ _ => ∃ k : Nat, ds = [.pail, .int k] ∧ 1 ≤ k ∧ k ≤ 12 ∧ ∀ ns, DivOk ns → ns.length ≤ k → Φ (divsD ns)
abbrev s_l_rising : Stmt := topS 73
abbrev N_l_rising : List Str := ["_law_pail", "_law_most_here", "_law_found", "_law_last", "_law_wide", "_law_k"]
theorem sc_l_rising : FnScope N_l_rising ["_law_pail", "_law_most_here"] (defScope s_l_rising) := ⟨rfl, rfl, rfl, by decide +kernel, rfl, by decide +kernel, by decide +kernel⟩
theorem ok_rising (F : FunX K "_law_rising" "_law_rising" s_l_rising f fd) (B : Blt mg) (c_l_cast : CallD P w K mg base "_law_cast" 1 (pailS P_cast)) (c_l_any_of : CallD P w K mg base "_law_any_of" 2 S_any_of) : FnG P w K mg base 3 f fd ["_law_pail", "_law_most_here"] (lift K S_rising) := by
  refine fnX_of F sc_l_rising (fun ds Φ Ψ ⟨_, h, _⟩ => by rw [h]; rfl) fun cdv A outer s H E b => ⟨_, (pss_cons (ps_par (i := 2) (j := 3) rfl sc_l_rising.nd rfl rfl (by decide) rfl rfl (pa_cons (pe_lst pa_nil) (pa_cons pe_int pa_nil)) rfl)
 (pss_cons (ps_set (i := 4) sc_l_rising.nd rfl (by first | exact .inl rfl | exact .inr rfl) (k_cd K c_l_any_of (by exact b.room) (by decide) b.pass (pa_cons (pv 0) (pa_cons (pe_lst (pa_cons pe_int (pa_cons pe_int (pa_cons pe_int (pa_cons pe_int pa_nil))))) pa_nil))))
 (pss_cons (ps_for b.own rfl (pi_range1 (by rfl) B.range (pa_cons (pe_op (k_add K) pe_int (k_cd K c_l_cast (by exact b.room) (by decide) b.pass (pa_cons (pv 0) (pa_cons (pv 1) pa_nil)))) pa_nil)) (pg_name (i := 5) sc_l_rising.nd rfl (by first | exact .inl rfl | exact .inr rfl)) (pss_cons (ps_set (i := 3) sc_l_rising.nd rfl (by first | exact .inl rfl | exact .inr rfl) (pe_op (k_add K) (pe_op (k_add K) (pv 3) pe_int) (k_cd K c_l_cast (by exact b.room) (by decide) b.pass (pa_cons (pv 0) (pa_cons (pv 4) pa_nil)))))
 (pss_one (ps_expr (k_bm K PySem.F.plainAttrs_list PySem.F.slot_list_append PySem.F.type_list_append mt_append (pv 2) (pa_cons (pv 3) pa_nil))))))
 (pss_one (ps_ret (pe_callTy (k_tup K) (by rfl) B.tuple bb_tuple (pa_cons (pv 2) pa_nil))))))), fun ds Φ Ψ ⟨k, h, k1, k2, q⟩ => ?_⟩
  subst h
  show wS _ _ _ [some (.dat _), some (.dat _), none, none, none, none]
  walk_at "dl"
  refine ⟨Nat.zero_le _, ?_⟩
  walk_at "dl"
  refine ⟨by simp, ?_⟩
  walk_at "dl"
  refine ⟨_, rfl, by simp, by simp, fun x hx => ?_⟩
  obtain ⟨wd, rfl, w1, w8⟩ : ∃ wd : Int, x = .int wd ∧ 1 ≤ wd ∧ wd ≤ 8 := by
    simp only [List.mem_cons, List.not_mem_nil, or_false] at hx
    rcases hx with rfl | rfl | rfl | rfl <;> exact ⟨_, rfl, by decide, by decide⟩
  walk_at "dl"
  refine wS_forT (fun i : Nat => .int (0 + (i : Int))) (fun i ρ' => ∃ (ns : List Int) (last : Int) (x : Option Sl), ρ' = [some (.dat .pail), some (.dat (.int k)), some (.own none (.lst (ns.map .int))), some (.dat (.int last)), some (.dat (.int wd)), x] ∧ ns.length = i ∧ 0 ≤ last ∧ last ≤ 8 * i ∧ (∀ n ∈ ns, 1 ≤ n ∧ n ≤ last) ∧ ns.Pairwise (· < ·)) (wI_range1 ?_)
  walk_at "dl"
  refine use_cast (by omega) (by omega) fun c hc => ?_
  walk_at "dl"
  refine ⟨_, rfl, by omega, List.range (1 + c), by unfold rangeD; rw [show (1 + (c : Int) - 0).toNat = 1 + c by omega], ⟨[], 0, _, rfl, rfl, by omega, by omega, fun n hn => by simp at hn, .nil⟩, fun i x ρ' hi ⟨ns, last, y, e, l1, l2, l3, l4, l5⟩ => ?_, fun ρ' ⟨ns, last, y, e, l1, l2, l3, l4, l5⟩ => ?_⟩
  · subst e
    have hik : i < 1 + c := by have := (List.getElem?_eq_some_iff.mp hi).1; simpa using this
    have hm : (ns.map D.int).length = ns.length := List.length_map _
    walk_at "dl"
    refine use_cast (by omega) (by omega) fun c2 hc2 => ?_
    walk_at "dl"
    refine ⟨_, _, rfl, by omega, ?_⟩
    rw [show List.map D.int ns ++ [D.int (last + 1 + (c2 : Int))] = List.map D.int (ns ++ [last + 1 + (c2 : Int)]) by rw [List.map_append]; rfl]
    refine ⟨_, last + 1 + (c2 : Int), _, rfl, by rw [List.length_append]; exact congrArg (· + 1) l1, by omega, by omega, fun n hn => ?_, ?_⟩
    · rcases List.mem_append.mp hn with h | h
      · have := l4 n h; omega
      · rw [List.mem_singleton.mp h]; omega
    · refine List.pairwise_append.mpr ⟨l5, List.pairwise_singleton _ _, fun a ha z hz => ?_⟩
      rw [List.mem_singleton.mp hz]
      have := l4 a ha
      omega
  · subst e
    rw [List.length_range] at l1 l3
    walk_at "dl"
    exact q ns ⟨by omega, by omega, fun n hn => by have := l4 n hn; omega, l5⟩ (by omega)
def S_amount : DSp := fun ds Φ _ => ∃ t : Int, ds = [.pail, .int t] ∧ 0 ≤ t ∧ t ≤ 1000000 ∧ ∀ a, 0 ≤ a → a ≤ t → Φ (.int a)
abbrev s_l_amount : Stmt := topS 74
abbrev N_l_amount : List Str := ["_law_pail", "_law_top", "_law_small_here", "_law_wide", "_law_found"]
theorem sc_l_amount : FnScope N_l_amount ["_law_pail", "_law_top"] (defScope s_l_amount) := ⟨rfl, rfl, rfl, by decide +kernel, rfl, by decide +kernel, by decide +kernel⟩
theorem ok_amount (F : FunX K "_law_amount" "_law_amount" s_l_amount f fd) (B : Blt mg) (c_l_cast : CallD P w K mg base "_law_cast" 1 (pailS P_cast)) (c_l_any_of : CallD P w K mg base "_law_any_of" 2 S_any_of) : FnG P w K mg base 3 f fd ["_law_pail", "_law_top"] (lift K S_amount) := by
  refine fnX_of F sc_l_amount (fun ds Φ Ψ ⟨_, h, _⟩ => by rw [h]; rfl) fun cdv A outer s H E b => ⟨_, (pss_cons (ps_par (i := 2) (j := 3) rfl sc_l_amount.nd rfl rfl (by decide) rfl rfl (pa_cons (k_cd K c_l_cast (by exact b.room) (by decide) b.pass (pa_cons (pv 0) (pa_cons pe_int pa_nil))) (pa_cons (k_cd K c_l_cast (by exact b.room) (by decide) b.pass (pa_cons (pv 0) (pa_cons pe_int pa_nil))) pa_nil)) rfl)
 (pss_cons (ps_set (i := 4) sc_l_amount.nd rfl (by first | exact .inl rfl | exact .inr rfl) (k_cd K c_l_any_of (by exact b.room) (by decide) b.pass (pa_cons (pv 0) (pa_cons (pe_lst (pa_cons pe_int (pa_cons pe_int (pa_cons pe_int (pa_cons pe_int (pa_cons (pv 2) (pa_cons (pv 3) (pa_cons (k_cd K c_l_cast (by exact b.room) (by decide) b.pass (pa_cons (pv 0) (pa_cons (pe_op (k_add K) (pv 1) pe_int) pa_nil))) (pa_cons (pv 1) pa_nil))))))))) pa_nil))))
 (pss_one (ps_ret (pe_callB (call_min2 rfl) (by rfl) B.min bb_min (pa_cons (pv 1) (pa_cons (pv 4) pa_nil))))))), fun ds Φ Ψ ⟨t, h, t0, t1, q⟩ => ?_⟩
  subst h
  show wS _ _ _ [some (.dat _), some (.dat _), none, none, none]
  walk_at "dl"
  refine use_cast (by omega) (by omega) fun c1 h1 => ?_
  walk_at "dl"
  refine use_cast (by omega) (by omega) fun c2 h2 => ?_
  walk_at "dl"
  refine ⟨_, _, rfl, ?_⟩
  walk_at "dl"
  refine use_cast (by omega) (by omega) fun c3 h3 => ?_
  walk_at "dl"
  refine ⟨by simp, ?_⟩
  walk_at "dl"
  refine ⟨_, rfl, by simp, by simp, fun x hx => ?_⟩
  obtain ⟨a, rfl, a0⟩ : ∃ a : Int, x = .int a ∧ 0 ≤ a := by
    simp only [List.mem_cons, List.not_mem_nil, or_false] at hx
    rcases hx with rfl | rfl | rfl | rfl | rfl | rfl | rfl | rfl <;> exact ⟨_, rfl, by omega⟩
  walk_at "dl"
  refine q _ ?_ ?_
  · split <;> omega
  · split <;> omega
def S_heap : DSp := fun ds Φ _ => ∃ tags, ds = [.pail, .lst (tags.map .str)] ∧ TagsOk tags ∧ 1 ≤ tags.length ∧ tags.length ≤ 6 ∧ ∀ p, HeapOk tags p → Φ (pileD p)
abbrev s_l_heap : Stmt := topS 75
abbrev N_l_heap : List Str := ["_law_pail", "_law_tags_here", "_law_some_here", "_law_tag"]
theorem sc_l_heap : FnScope N_l_heap ["_law_pail", "_law_tags_here"] (defScope s_l_heap) := ⟨rfl, rfl, rfl, by decide +kernel, rfl, by decide +kernel, by decide +kernel⟩
theorem ok_heap (F : FunX K "_law_heap" "_law_heap" s_l_heap f fd) (B : Blt mg) (c_l_cast : CallD P w K mg base "_law_cast" 1 (pailS P_cast)) (c_l_amount : CallD P w K mg base "_law_amount" 3 S_amount) : FnG P w K mg base 4 f fd ["_law_pail", "_law_tags_here"] (lift K S_heap) := by
  refine fnX_of F sc_l_heap (fun ds Φ Ψ ⟨_, h, _⟩ => by rw [h]; rfl) fun cdv A outer s H E b => ⟨_, (pss_cons (ps_set (i := 2) sc_l_heap.nd rfl (by first | exact .inl rfl | exact .inr rfl) (pe_lst pa_nil))
 (pss_cons (ps_for b.own rfl (k_any K (pv 1)) (pg_name (i := 3) sc_l_heap.nd rfl (by first | exact .inl rfl | exact .inr rfl)) (pss_one (ps_if (pt_cmpR (k_eq K (by exact b.room)) (k_cd K c_l_cast (by exact b.room) (by decide) b.pass (pa_cons (pv 0) (pa_cons pe_int pa_nil))) pe_int (nomark _)) (pss_one (ps_expr (k_bm K PySem.F.plainAttrs_list PySem.F.slot_list_append PySem.F.type_list_append mt_append (pv 2) (pa_cons (pv 3) pa_nil)))) pss_nil)))
 (pss_one (ps_ret (pe_tup (pa_cons (k_cd K c_l_amount (by exact b.room) (by decide) b.pass (pa_cons (pv 0) (pa_cons (pe_op op_pow pe_int pe_int) pa_nil))) (pa_cons (pe_callTy (k_tup K) (by rfl) B.tuple bb_tuple (pa_cons (pe_ifExp (pt_cmpR (k_ne K (by exact b.room)) (pv 2) (pe_lst pa_nil) (nomark _)) (pv 2) (pe_slice (k_sl K) (pv 1) (po_some (pe_un un_neg pe_int)) po_none)) pa_nil)) pa_nil))))))), fun ds Φ Ψ ⟨tags, h, tg, t1, t6, q⟩ => ?_⟩
  subst h
  show wS _ _ _ [some (.dat _), some (.dat _), none, none]
  walk_at "dl"
  refine ⟨Nat.zero_le _, ?_⟩
  walk_at "dl"
  refine wS_forT D.str (fun i ρ' => ∃ (sub : List Str) (x : Option Sl), ρ' = [some (.dat .pail), some (.dat (.lst (tags.map .str))), some (.own none (.lst (sub.map .str))), x] ∧ sub.Sublist (tags.take i)) (wI_any ?_)
  walk_at "dl"
  refine ⟨_, rfl, tags, rfl, ⟨[], _, rfl, .slnil⟩, fun i z ρ' hi ⟨sub, x, e, hs⟩ => ?_, fun ρ' ⟨sub, x, e, hs⟩ => ?_⟩
  · subst e
    have hl : sub.length ≤ 6 := by
      have a := hs.length_le
      rw [List.length_take] at a
      omega
    have hm : (sub.map D.str).length = sub.length := List.length_map _
    have en := take_next hi
    walk_at "dl"
    refine use_cast (by omega) (by omega) fun c hc => ?_
    walk_at "dl"
    refine ifD (fun hz => ?_) (fun hz => ?_)
    · walk_at "dl"
      refine ⟨_, _, rfl, by omega, ?_⟩
      rw [show List.map D.str sub ++ [D.str z] = List.map D.str (sub ++ [z]) by rw [List.map_append]; rfl]
      exact ⟨_, _, rfl, by rw [en]; exact hs.append (List.Sublist.refl _)⟩
    · walk_at "dl"
      exact ⟨_, _, rfl, by rw [en]; exact hs.trans (List.sublist_append_left _ _)⟩
  · subst e
    rw [List.take_length] at hs
    walk_at "dl"
    refine ⟨_, rfl, by decide, by decide, fun a a0 a1' => ?_⟩
    have a1 : a ≤ 1000000 := a1'
    walk_at "dl"
    refine ⟨Nat.zero_le _, neG_nil (fun z hz => (tg.ok z (hs.subset hz)).ok) ?_⟩
    walk_at "dl"
    refine ifND (fun hz => ?_) (fun hz => ?_)
    · walk_at "dl"
      rw [show (-1 : Int) = -1 from rfl, cut_last (by simpa using List.length_pos_iff.mp t1), ← List.map_drop]
      refine ⟨by simp, q (a, tags.drop ((tags.map D.str).length - 1)) ⟨a0, by omega, ?_, List.drop_sublist _ _⟩⟩
      intro he
      have := congrArg List.length he
      simp at this
      omega
    · walk_at "dl"
      exact ⟨by simp, q (a, sub) ⟨a0, by omega, hz, hs⟩⟩
end
section
variable {P : Program} {w : World} {K : PySem.W.Frag} {mg : Str → Option Value} {base : Heap} {f C : Addr} {fd : FuncData}
abbrev partsL (ns : List Int) (folk : List (Str × Int)) (heaps : List (Int × List Str)) : D := .lst [divsD ns, folkD folk, heapsD heaps]
def S_parts : DSp := fun ds Φ _ => ds = [.pail] ∧ ∀ ns folk heaps, PartsOk ns folk heaps → Φ (partsL ns folk heaps)
theorem rel_names {names : List Str} {l : List (Str × Int)} (r : Rel (fun z p => p.1 = z ∧ 0 ≤ p.2 ∧ p.2 ≤ 1000000) names l) : l.map (·.1) = names := by
  apply List.ext_getElem?
  intro i
  by_cases hi : i < names.length
  · have hl : i < l.length := by rw [r.1]; exact hi
    rw [List.getElem?_map, List.getElem?_eq_getElem hl, List.getElem?_eq_getElem hi]
    exact congrArg some (r.2 i _ _ (List.getElem?_eq_getElem hi) (List.getElem?_eq_getElem hl)).1
  · rw [List.getElem?_eq_none (by rw [List.length_map, r.1]; omega), List.getElem?_eq_none (by omega)]
abbrev s_l_parts : Stmt := topS 76
abbrev N_l_parts : List Str := ["_law_pail", "_law_tags_here", "_law_folk", "_law_tag", "_law_k"]
theorem sc_l_parts : FnScope N_l_parts ["_law_pail"] (defScope s_l_parts) := ⟨rfl, rfl, rfl, by decide +kernel, rfl, by decide +kernel, by decide +kernel⟩
theorem ok_parts (F : FunX K "_law_parts" "_law_parts" s_l_parts f fd) (B : Blt mg) (c_l_cast : CallD P w K mg base "_law_cast" 1 (pailS P_cast)) (c_l_tags : CallD P w K mg base "_law_tags" 2 S_tags) (c_l_amount : CallD P w K mg base "_law_amount" 3 S_amount) (c_l_rising : CallD P w K mg base "_law_rising" 3 S_rising)
    (c_l_heap : CallD P w K mg base "_law_heap" 4 S_heap) : FnG P w K mg base 5 f fd ["_law_pail"] (lift K S_parts) := by
  refine fnX_of F sc_l_parts (fun ds Φ Ψ ⟨h, _⟩ => by rw [h]; rfl) fun cdv A outer s H E b => ⟨_, (pss_cons (ps_set (i := 1) sc_l_parts.nd rfl (by first | exact .inl rfl | exact .inr rfl) (k_cd K c_l_tags (by exact b.room) (by decide) b.pass (pa_cons (pv 0) (pa_cons (pe_op (k_add K) pe_int (k_cd K c_l_cast (by exact b.room) (by decide) b.pass (pa_cons (pv 0) (pa_cons pe_int pa_nil)))) pa_nil))))
 (pss_cons (ps_set (i := 2) sc_l_parts.nd rfl (by first | exact .inl rfl | exact .inr rfl) (pe_callTy (k_tup K) (by rfl) B.tuple bb_tuple (pa_cons (pe_lc (own := [("_law_tag", 3)]) rfl sc_l_parts.nd (k_any K (pv 1)) (blkOk_by (own := [("_law_tag", 3)]) (N := N_l_parts) (sc := defScope s_l_parts) (by decide +kernel))  (fun _ _ _ _ _ => (pg_name (i := 3) sc_l_parts.nd rfl (by first | exact .inl rfl | exact .inr rfl))) (fun _ _ _ _ _ => pts_nil) (fun _ _ _ _ _ => (pe_tup (pa_cons (pv 3) (pa_cons (k_cd K c_l_amount (by exact b.room) (by decide) passN (pa_cons (pv 0) (pa_cons (pe_op op_pow pe_int pe_int) pa_nil))) pa_nil))))) pa_nil)))
 (pss_one (ps_ret (pe_lst (pa_cons (k_cd K c_l_rising (by exact b.room) (by decide) b.pass (pa_cons (pv 0) (pa_cons pe_int pa_nil))) (pa_cons (pv 2) (pa_cons (pe_callTy (k_tup K) (by rfl) B.tuple bb_tuple (pa_cons (pe_lc (own := [("_law_k", 4)]) rfl sc_l_parts.nd (pi_range1 (by rfl) B.range (pa_cons (k_cd K c_l_cast (by exact b.room) (by decide) b.pass (pa_cons (pv 0) (pa_cons pe_int pa_nil))) pa_nil)) (blkOk_by (own := [("_law_k", 4)]) (N := N_l_parts) (sc := defScope s_l_parts) (by decide +kernel))  (fun _ _ _ _ _ => (pg_name (i := 4) sc_l_parts.nd rfl (by first | exact .inl rfl | exact .inr rfl))) (fun _ _ _ _ _ => pts_nil) (fun _ _ _ _ _ => (k_cd K c_l_heap (by exact b.room) (by decide) passN (pa_cons (pv 0) (pa_cons (pv 1) pa_nil))))) pa_nil)) pa_nil)))))))), fun ds Φ Ψ ⟨h, q⟩ => ?_⟩
  subst h
  show wS _ _ _ [some (.dat _), none, none, none, none]
  walk_at "dl"
  refine use_cast (by omega) (by omega) fun c hc => ?_
  walk_at "dl"
  refine ⟨1 + c, by rw [show (1 : Int) + (c : Int) = ((1 + c : Nat) : Int) by omega], by omega, fun names nl tg => ?_⟩
  walk_at "dl"
  refine wE_lcR (only_name List.mem_cons_self) D.str partyD (fun z p => p.1 = z ∧ 0 ≤ p.2 ∧ p.2 ≤ 1000000) (wI_any ?_)
  walk_at "dl"
  refine ⟨_, rfl, names, rfl, by omega, fun z hz => ?_, fun folk hr => ?_⟩
  · walk_at "dl"
    refine ⟨_, rfl, by decide, by decide, fun a a0 a1 => ?_⟩
    walk_at "dl"
    exact ⟨by simp, (z, a), rfl, rfl, a0, a1⟩
  have hn := rel_names hr
  have hlen := hr.1
  have hf : FolkOk folk := ⟨by omega, by omega, fun p hp => by
    obtain ⟨z, hz, e, p0, p1⟩ := hr.all hp
    exact ⟨by rw [e]; exact tg.ok z hz, p0, p1⟩, by rw [hn]; exact tg.nd⟩
  walk_at "dl"
  refine ⟨12, rfl, by decide, by decide, fun ns hd _ => ?_⟩
  walk_at "dl"
  refine wE_lcR (only_name List.mem_cons_self) (fun i : Nat => .int (0 + (i : Int))) pileD (fun _ p => HeapOk names p) (wI_range1 ?_)
  walk_at "dl"
  refine use_cast (by omega) (by omega) fun m hm => ?_
  walk_at "dl"
  refine ⟨_, rfl, by omega, List.range m, by unfold rangeD; rw [show ((m : Int) - 0).toNat = m by omega], by rw [List.length_range]; omega, fun i hi => ?_, fun heaps hr2 => ?_⟩
  · walk_at "dl"
    exact ⟨names, rfl, tg, by omega, by omega, fun p hp => ⟨p, rfl, hp⟩⟩
  walk_at "dl"
  have hl2 := hr2.1
  rw [List.length_range] at hl2
  exact ⟨by simp, q ns folk heaps ⟨hd, hf, by rw [hn]; exact ⟨by omega, fun p hp => by obtain ⟨_, _, h⟩ := hr2.all hp; exact h⟩⟩⟩
end
/-! ### the same texts, the same parts -/
abbrev Tri := List Int × List (Str × Int) × List (Int × List Str)
abbrev TriOk (t : Tri) : Prop := PartsOk t.1 t.2.1 t.2.2
abbrev triD (t : Tri) : D := .lst [divsD t.1, folkD t.2.1, heapsD t.2.2]
abbrev triT (t : Tri) : Str := textOf t.1 t.2.1 t.2.2
/-! the same data -/
theorem eqv_list {α : Type} {f : α → D} (h : ∀ x y, D.eqv (f x) (f y) = true ↔ x = y) : ∀ xs ys : List α, PyData.eqvAll (pyAll (xs.map f)) (pyAll (ys.map f)) = true ↔ xs = ys
  | [], [] => by simp [pyAll, PyData.eqvAll]
  | [], _ :: _ => by simp [pyAll, PyData.eqvAll]
  | _ :: _, [] => by simp [pyAll, PyData.eqvAll]
  | x :: xs, y :: ys => by
    have ih := eqv_list h xs ys
    have hx := h x y
    unfold D.eqv at hx
    simp only [List.map_cons, pyAll, PyData.eqvAll, Bool.and_eq_true, List.cons.injEq, ih, hx]
theorem eqv_tup {α : Type} {f : α → D} (h : ∀ x y, D.eqv (f x) (f y) = true ↔ x = y) (xs ys : List α) : D.eqv (.tup (xs.map f)) (.tup (ys.map f)) = true ↔ xs = ys := by
  unfold D.eqv
  simp only [D.py, PyData.eqv]
  exact eqv_list h xs ys
theorem eqv_int (x y : Int) : D.eqv (.int x) (.int y) = true ↔ x = y := by rw [eqv_i]; simp
theorem eqv_str (x y : Str) : D.eqv (.str x) (.str y) = true ↔ x = y := by simp [D.eqv, D.py, PyData.eqv]
theorem eqv_tup2 {a b c d : D} : D.eqv (.tup [a, b]) (.tup [c, d]) = true ↔ D.eqv a c = true ∧ D.eqv b d = true := by simp [D.eqv, D.py, pyAll, PyData.eqv, PyData.eqvAll]
theorem eqv_pile (p q : Int × List Str) : D.eqv (pileD p) (pileD q) = true ↔ p = q := by
  unfold pileD
  rw [eqv_tup2, eqv_int, eqv_tup eqv_str]
  exact Prod.ext_iff.symm
/-! it may be shown -/
section
variable {P : Program} {w : World} {K : PySem.W.Frag} {mg : Str → Option Value} {base : Heap} {f C : Addr} {fd : FuncData}
def S_sheet : DSp := fun ds Φ _ => ∃ t : Tri, ds = [triD t] ∧ TriOk t ∧ Φ (.str (triT t))
theorem partyRow_alt (p : Str × Int) : Str.ofString "party " ++ p.1 ++ Str.ofString " " ++ strN p.2 = partyRow p := by
  refine TL.ext_tl ?_
  unfold partyRow
  simp only [TL.tl_append]
  rfl
abbrev s_l_sheet : Stmt := topS 77
abbrev N_l_sheet : List Str := ["_law_parts_here", "_law_rows", "_law_each", "_law_tag", "_law_many", "_law_some_here"]
theorem sc_l_sheet : FnScope N_l_sheet ["_law_parts_here"] (defScope s_l_sheet) := ⟨rfl, rfl, rfl, by decide +kernel, rfl, by decide +kernel, by decide +kernel⟩
theorem ok_sheet (F : FunX K "_law_sheet" "_law_sheet" s_l_sheet f fd) (B : Blt mg) : FnG P w K mg base 1 f fd ["_law_parts_here"] (lift K S_sheet) := by
  refine fnX_of F sc_l_sheet (fun ds Φ Ψ ⟨_, h, _⟩ => by rw [h]; rfl) fun cdv A outer s H E b => ⟨_, (pss_cons (ps_set (i := 1) sc_l_sheet.nd rfl (by first | exact .inl rfl | exact .inr rfl) (pe_lst (pa_cons (k_bm K PySem.F.plainAttrs_str PySem.F.slot_str_join PySem.F.type_str_join (k_join K) pe_str (pa_cons (pe_op (k_add K) (pe_lst (pa_cons pe_str pa_nil)) (pe_lc (own := [("_law_each", 2)]) rfl sc_l_sheet.nd (k_any K (pe_ix (k_ix K) (pv 0) pe_int (fun _ _ => rfl))) (blkOk_by (own := [("_law_each", 2)]) (N := N_l_sheet) (sc := defScope s_l_sheet) (by decide +kernel))  (fun _ _ _ _ _ => (pg_name (i := 2) sc_l_sheet.nd rfl (by first | exact .inl rfl | exact .inr rfl))) (fun _ _ _ _ _ => pts_nil) (fun _ _ _ _ _ => (pe_callTy callr_str (by rfl) B.str bb_str (pa_cons (pv 2) pa_nil))))) pa_nil)) pa_nil)))
 (pss_cons (ps_set (i := 1) sc_l_sheet.nd rfl (by first | exact .inl rfl | exact .inr rfl) (pe_op (k_add K) (pv 1) (pe_lc (own := [("_law_tag", 3), ("_law_many", 4)]) rfl sc_l_sheet.nd (k_any K (pe_ix (k_ix K) (pv 0) pe_int (fun _ _ => rfl))) (blkOk_by (own := [("_law_tag", 3), ("_law_many", 4)]) (N := N_l_sheet) (sc := defScope s_l_sheet) (by decide +kernel))  (fun _ _ _ _ _ => (k_pg K (n := 2) rfl (pgs_cons (pg_name (i := 3) sc_l_sheet.nd rfl (by first | exact .inl rfl | exact .inr rfl)) (pgs_cons (pg_name (i := 4) sc_l_sheet.nd rfl (by first | exact .inl rfl | exact .inr rfl)) pgs_nil)))) (fun _ _ _ _ _ => pts_nil) (fun _ _ _ _ _ => (pe_op (k_add K) (pe_op (k_add K) (pe_op (k_add K) pe_str (pv 3)) pe_str) (pe_callTy callr_str (by rfl) B.str bb_str (pa_cons (pv 4) pa_nil)))))))
 (pss_one (ps_ret (k_bm K PySem.F.plainAttrs_str PySem.F.slot_str_join PySem.F.type_str_join (k_join K) pe_str (pa_cons (pe_op (k_add K) (pv 1) (pe_lc (own := [("_law_many", 4), ("_law_some_here", 5)]) rfl sc_l_sheet.nd (k_any K (pe_ix (k_ix K) (pv 0) pe_int (fun _ _ => rfl))) (blkOk_by (own := [("_law_many", 4), ("_law_some_here", 5)]) (N := N_l_sheet) (sc := defScope s_l_sheet) (by decide +kernel))  (fun _ _ _ _ _ => (k_pg K (n := 2) rfl (pgs_cons (pg_name (i := 4) sc_l_sheet.nd rfl (by first | exact .inl rfl | exact .inr rfl)) (pgs_cons (pg_name (i := 5) sc_l_sheet.nd rfl (by first | exact .inl rfl | exact .inr rfl)) pgs_nil)))) (fun _ _ _ _ _ => pts_nil) (fun _ _ _ _ _ => (k_bm K PySem.F.plainAttrs_str PySem.F.slot_str_join PySem.F.type_str_join (k_join K) pe_str (pa_cons (pe_op (k_add K) (pe_lst (pa_cons pe_str (pa_cons (pe_callTy callr_str (by rfl) B.str bb_str (pa_cons (pv 4) pa_nil)) pa_nil))) (pe_callTy (k_list K) (by rfl) B.list bb_list (pa_cons (pv 5) pa_nil))) pa_nil))))) pa_nil)))))), fun ds Φ Ψ ⟨⟨ns, folk, heaps⟩, h, hp, q⟩ => ?_⟩
  subst h
  have hp : PartsOk ns folk heaps := hp
  have d2 := hp.d.l2
  have f2 := hp.f.l2
  have h2 := hp.h.l2
  show wS _ _ _ [some (.dat _), none, none, none, none, none]
  unfold triD divsD folkD heapsD
  walk_at "dl"
  refine ⟨by simp, ?_⟩
  refine wE_lcM (only_name List.mem_cons_self) D.int (fun n => .str (strN n)) (wI_any ?_)
  walk_at "dl"
  refine ⟨_, rfl, ns, rfl, by omega, fun n hm => ?_, ?_⟩
  · have := hp.d.b n hm
    walk_at "dl"
    refine strG_i (small_log (by omega)) ?_
    walk_at "dl"
    rfl
  refine addG_l (by simp; omega) ?_
  walk_at "dl"
  rw [show [D.str "divisors"] ++ List.map (fun n => D.str (strN n)) ns = (("divisors" :: ns.map strN : List Str)).map D.str by rw [List.map_cons, List.map_map]; rfl]
  refine joinG_l (Nat.le_trans (divRow_ok hp.d) (by decide)) ?_
  walk_at "dl"
  refine ⟨by simp, ?_⟩
  walk_at "dl"
  refine wE_lcM (only_pair List.mem_cons_self (List.mem_cons_of_mem _ List.mem_cons_self)) partyD (fun p => .str (partyRow p)) (wI_any ?_)
  walk_at "dl"
  refine ⟨_, rfl, folk, rfl, by omega, fun p hpm => ?_, ?_⟩
  · obtain ⟨b1, b2, b3⟩ := hp.f.b p hpm
    have l1 := b1.l8
    have l2 := strN_len (i := p.2) (by omega)
    have l3 : (Str.ofString (toString p.2)).length ≤ 13 := l2
    unfold partyD
    walk_at "dl"
    refine addG_s (by simp only [lit_party]; omega) ?_
    walk_at "dl"
    refine addG_s (by simp only [Str.length_append, lit_party, lit_sp]; omega) ?_
    walk_at "dl"
    refine strG_i (small_log (by omega)) ?_
    refine addG_s (by simp only [Str.length_append, lit_party, lit_sp]; omega) ?_
    rw [partyRow_alt]
  refine addG_l (by simp; omega) ?_
  walk_at "dl"
  refine wE_lcM (only_pair List.mem_cons_self (List.mem_cons_of_mem _ List.mem_cons_self)) pileD (fun p => .str (pileRow p)) (wI_any ?_)
  walk_at "dl"
  refine ⟨_, rfl, heaps, rfl, by omega, fun p hpm => ?_, ?_⟩
  · have hq := hp.h.b p hpm
    obtain ⟨b1, b2⟩ := heap_names hq hp.f.names hp.f.len
    have b3 := hq.b1
    have b4 := hq.b2
    have l2 := strN_len (i := p.1) (by omega)
    unfold pileD
    walk_at "dl"
    refine strG_i (small_log (by omega)) ?_
    walk_at "dl"
    refine ⟨by simp, ?_⟩
    walk_at "dl"
    refine addG_l (by simp; omega) ?_
    walk_at "dl"
    rw [show [D.str (Str.ofString "pile"), D.str (strN p.1)] ++ List.map D.str p.2 = (pileW p).map D.str from rfl]
    refine joinG_l ?_ ?_
    · refine Nat.le_trans (join_ok (m := 13) (n := 8) (k := 1) (fun y hy => ?_) (by simp [pileW]; omega) (by decide +kernel)) (by decide)
      rcases List.mem_cons.mp hy with e | e
      · subst e; decide +kernel
      · rcases List.mem_cons.mp e with e | e
        · subst e; exact l2
        · have := (b1 y e).l8; omega
    · rw [pileRow_eq hq.ne]
  refine addG_l (by simp; omega) ?_
  walk_at "dl"
  rw [show ([D.str (Txt.join (Str.ofString " ") (Str.ofString "divisors" :: List.map strN ns))] ++ List.map (fun p => D.str (partyRow p)) folk ++ List.map (fun p => D.str (pileRow p)) heaps) = (divRow ns :: (folk.map partyRow ++ heaps.map pileRow)).map D.str by
    rw [List.map_cons, List.map_append, List.map_map, List.map_map]
    rfl]
  refine joinG_l (Nat.le_trans (text_ok hp) (by decide)) q
def S_of (C : Addr) : DSp := fun ds Φ _ => ∃ t : Tri, ds = [triD t] ∧ TriOk t ∧ Φ (.ins C (nightF t.1 t.2.1 t.2.2))
abbrev s_l_of : Stmt := topS 78
abbrev N_l_of : List Str := ["_law_parts_here"]
theorem sc_l_of : FnScope N_l_of ["_law_parts_here"] (defScope s_l_of) := ⟨rfl, rfl, rfl, by decide +kernel, rfl, by decide +kernel, by decide +kernel⟩
theorem ok_of (F : FunX K "_law_of" "_law_of" s_l_of f fd) (c_Night : mg "Night" = some (.ref C)) (c_mkNight3 : MakeB P w K mg base C 5 S_init 3 [] [0, 1, 2] []) : FnG P w K mg base 7 f fd ["_law_parts_here"] (lift K (S_of C)) := by
  refine fnX_of F sc_l_of (fun ds Φ Ψ ⟨_, h, _⟩ => by rw [h]; rfl) fun cdv A outer s H E b => ⟨_, (pss_one (ps_ret (k_mk K c_mkNight3 (by exact b.room) (by decide) b.pass c_Night (pa_cons (pe_ix (k_ix K) (pv 0) pe_int (fun _ _ => rfl)) (pa_cons (pe_ix (k_ix K) (pv 0) pe_int (fun _ _ => rfl)) (pa_cons (pe_ix (k_ix K) (pv 0) pe_int (fun _ _ => rfl)) pa_nil))) pk_nil))), fun ds Φ Ψ ⟨t, h, hp, q⟩ => ?_⟩
  subst h
  show wS _ _ _ [some (.dat _)]
  walk_at "dl"
  exact ⟨rfl, rfl, t.1, t.2.1, t.2.2, rfl, hp, q⟩
end
section
variable {P : Program} {w : World} {K : PySem.W.Frag} {mg : Str → Option Value} {base : Heap} {f C : Addr} {fd : FuncData}
abbrev nightD (C : Addr) (t : Tri) : D := .ins C (nightF t.1 t.2.1 t.2.2)
theorem use_parts {Φ : D → Prop} {Ψ : Exn → Prop} (h : ∀ t : Tri, TriOk t → Φ (triD t)) : S_parts [.pail] Φ Ψ := ⟨rfl, fun ns folk heaps hp => h (ns, folk, heaps) hp⟩
def S_getS (C : Addr) : DSp := fun ds Φ _ => ∃ t : Tri, ds = [nightD C t] ∧ Φ (.int t.1.length)
def S_getL (C : Addr) : DSp := fun ds Φ _ => ∃ t : Tri, ds = [nightD C t] ∧ Φ (.int t.2.1.length)
abbrev s_Night_seats : Stmt := inClass (topS 42) 6
abbrev N_Night_seats : List Str := ["self"]
theorem sc_Night_seats : FnScope N_Night_seats ["self"] (defScope s_Night_seats) := ⟨rfl, rfl, rfl, by decide +kernel, rfl, by decide +kernel, by decide +kernel⟩
theorem ok_getS (F : FunX K "seats" "Night.seats" s_Night_seats f fd) (T : NightC K C) (B : Blt mg) : FnG P w K mg base 1 f fd ["self"] (lift K (S_getS C)) := by
  refine fnX_of F sc_Night_seats (fun ds Φ Ψ ⟨_, h, _⟩ => by rw [h]; rfl) fun cdv A outer s H E b => ⟨_, (pss_one (ps_ret (pe_callB (k_len K) (by rfl) B.len bb_len (pa_cons (k_fld K (pv 0)) pa_nil)))), fun ds Φ Ψ ⟨t, h, q⟩ => ?_⟩
  subst h
  show wS _ _ _ [some (.dat _)]
  walk_at "dl"
  refine ⟨_, _, _, rfl, T.cl, T.nD, lk_div, ?_⟩
  unfold divsD
  walk_at "dl"
  rw [List.length_map]
  exact q
abbrev s_Night___len : Stmt := inClass (topS 42) 7
abbrev N_Night___len : List Str := ["self"]
theorem sc_Night___len : FnScope N_Night___len ["self"] (defScope s_Night___len) := ⟨rfl, rfl, rfl, by decide +kernel, rfl, by decide +kernel, by decide +kernel⟩
theorem ok_getL (F : FunX K "__len__" "Night.__len__" s_Night___len f fd) (T : NightC K C) (B : Blt mg) : FnG P w K mg base 1 f fd ["self"] (lift K (S_getL C)) := by
  refine fnX_of F sc_Night___len (fun ds Φ Ψ ⟨_, h, _⟩ => by rw [h]; rfl) fun cdv A outer s H E b => ⟨_, (pss_one (ps_ret (pe_callB (k_len K) (by rfl) B.len bb_len (pa_cons (k_fld K (pv 0)) pa_nil)))), fun ds Φ Ψ ⟨t, h, q⟩ => ?_⟩
  subst h
  show wS _ _ _ [some (.dat _)]
  walk_at "dl"
  refine ⟨_, _, _, rfl, T.cl, T.nP, lk_par, ?_⟩
  unfold folkD
  walk_at "dl"
  rw [List.length_map]
  exact q
theorem no_piles {t : Tri} (h : TriOk t) : PartsOk t.1 t.2.1 [] := ⟨h.d, h.f, ⟨Nat.zero_le _, fun p hp => by cases hp⟩⟩
theorem shp_pile {n : Nat} {names : List Str} {p : Int × List Str} (h : HeapOk names p) (hn : ∀ z ∈ names, NameOk z) : Shp (n + 2) (pileD p) :=
  Shp.tup fun d hd => by
    simp only [List.mem_cons, List.not_mem_nil, or_false] at hd
    rcases hd with rfl | rfl
    · exact .int
    · exact Shp.tup (shp_strs fun z hz => (hn z (h.sub.subset hz)).ok)
theorem shp_heaps {t : Tri} (h : TriOk t) : Shp 64 (heapsD t.2.2) := (Shp.tup (n := 2) fun d hd => by
  obtain ⟨p, hp, rfl⟩ := List.mem_map.mp hd
  exact shp_pile (n := 0) (h.h.b p hp) h.f.names).mono (by decide)
theorem eqv_none {t : Tri} : D.eqv (heapsD t.2.2) (.tup []) = decide (t.2.2 = []) := by
  have := eqv_tup (f := pileD) eqv_pile t.2.2 []
  unfold heapsD
  rw [Bool.eq_iff_iff, decide_eq_true_eq]
  exact this
/-- one of the ways to make a night -/
def S_built (C : Addr) : DSp := fun ds Φ _ => ∃ t : Tri, ds = [.pail, triD t] ∧ TriOk t ∧ Φ (nightD C t)
abbrev s_l_built : Stmt := topS 79
abbrev N_l_built : List Str := ["_law_pail", "_law_parts_here", "_law_way"]
theorem sc_l_built : FnScope N_l_built ["_law_pail", "_law_parts_here"] (defScope s_l_built) := ⟨rfl, rfl, rfl, by decide +kernel, rfl, by decide +kernel, by decide +kernel⟩
theorem ok_built (F : FunX K "_law_built" "_law_built" s_l_built f fd) (c_Night : mg "Night" = some (.ref C)) (c_l_cast : CallD P w K mg base "_law_cast" 1 (pailS P_cast)) (c_l_sheet : CallD P w K mg base "_law_sheet" 1 S_sheet) (c_l_of : CallD P w K mg base "_law_of" 7 (S_of C))
    (c_mkNight0_parties_divisors : MakeB P w K mg base C 5 S_init 0 ["parties", "divisors"] [1, 0, 2] [.tup []]) (c_mkNight0_piles_parties_divisors : MakeB P w K mg base C 5 S_init 0 ["piles", "parties", "divisors"] [2, 1, 0] [])
    (c_cm_read : CMethB P w K mg base C "read" 7 (S_read C) 1 [] [0] []) : FnG P w K mg base 8 f fd ["_law_pail", "_law_parts_here"] (lift K (S_built C)) := by
  refine fnX_of F sc_l_built (fun ds Φ Ψ ⟨_, h, _⟩ => by rw [h]; rfl) fun cdv A outer s H E b => ⟨_, (pss_cons (ps_set (i := 2) sc_l_built.nd rfl (by first | exact .inl rfl | exact .inr rfl) (k_cd K c_l_cast (by exact b.room) (by decide) b.pass (pa_cons (pv 0) (pa_cons pe_int pa_nil))))
 (pss_cons (ps_if (pt_cmpR (k_eq K (by exact b.room)) (pv 2) pe_int (nomark _)) (pss_one (ps_ret (k_cd K c_l_of (by exact b.room) (by decide) b.pass (pa_cons (pv 1) pa_nil)))) pss_nil)
 (pss_cons (ps_if (PW.pt (pw_and (pt_cmpR (k_eq K (by exact b.room)) (pv 2) pe_int (nomark _)) (pw_and1 (pt_cmpR (k_eq K (by exact b.room)) (pe_ix (k_ix K) (pv 1) pe_int (fun _ _ => rfl)) (pe_tup pa_nil) (nomark _))))) (pss_one (ps_ret (k_mk K c_mkNight0_parties_divisors (by exact b.room) (by decide) b.pass c_Night pa_nil (pk_cons (pe_ix (k_ix K) (pv 1) pe_int (fun _ _ => rfl)) (pk_cons (pe_ix (k_ix K) (pv 1) pe_int (fun _ _ => rfl)) pk_nil))))) pss_nil)
 (pss_cons (ps_if (pt_cmpR (k_eq K (by exact b.room)) (pv 2) pe_int (nomark _)) (pss_one (ps_ret (k_mk K c_mkNight0_piles_parties_divisors (by exact b.room) (by decide) b.pass c_Night pa_nil (pk_cons (pe_ix (k_ix K) (pv 1) pe_int (fun _ _ => rfl)) (pk_cons (pe_ix (k_ix K) (pv 1) pe_int (fun _ _ => rfl)) (pk_cons (pe_ix (k_ix K) (pv 1) pe_int (fun _ _ => rfl)) pk_nil)))))) pss_nil)
 (pss_one (ps_ret (k_cm K c_cm_read (by exact b.room) (by decide) b.pass (pe_gcls c_Night) (pa_cons (k_cd K c_l_sheet (by exact b.room) (by decide) b.pass (pa_cons (pv 1) pa_nil)) pa_nil) pk_nil))))))), fun ds Φ Ψ ⟨t, h, ht, q⟩ => ?_⟩
  subst h
  show wS _ _ _ [some (.dat _), some (.dat _), none]
  walk_at "dl"
  refine use_cast (by omega) (by omega) fun c hc => ?_
  walk_at "dl"
  refine ifD (fun hz => ?_) (fun hz => ?_)
  · walk_at "dl"
    exact ⟨t, rfl, ht, q⟩
  walk_at "dl"
  refine ifD (fun hy => ?_) (fun hy => ?_)
  · walk_at "dl"
    refine ⟨Nat.zero_le _, eqG_of (shp_heaps ht) (Shp.tup (n := 63) (l := []) fun d hd => by cases hd) ?_⟩
    rw [eqv_none]
    walk_at "dl"
    refine ifD (fun he => ?_) (fun he => ?_)
    · walk_at "dl"
      exact ⟨rfl, rfl, t.1, t.2.1, [], rfl, no_piles ht, by rw [← he]; exact q⟩
    · walk_at "dl"
      refine ⟨t, rfl, ht, ?_⟩
      walk_at "dl"
      exact ⟨rfl, rfl, t.1, t.2.1, t.2.2, rfl, ht, q⟩
  · walk_at "dl"
    refine ifD (fun hx => ?_) (fun hx => ?_)
    · walk_at "dl"
      exact ⟨rfl, rfl, t.1, t.2.1, t.2.2, rfl, ht, q⟩
    · walk_at "dl"
      refine ⟨t, rfl, ht, ?_⟩
      walk_at "dl"
      exact ⟨rfl, rfl, t.1, t.2.1, t.2.2, rfl, ht, q⟩
end
/-! ### claims, as the program has them -/
local macro_rules | `(tactic| walk_at "blk") => `(tactic| first | decide +kernel | rfl)
section
variable {P : Program} {w : World} {K : PySem.W.Frag} {mg : Str → Option Value} {base : Heap} {f C : Addr} {fd : FuncData}
def S_counts_of : DSp := fun ds Φ _ => ∃ l, ds = [folkD l] ∧ l.length ≤ 1000000 ∧ Φ (.tup (l.map fun p => .int p.2))
abbrev s_counts_of : Stmt := topS 51
abbrev N_counts_of : List Str := ["parties", "_", "count"]
theorem sc_counts_of : FnScope N_counts_of ["parties"] (defScope s_counts_of) := ⟨rfl, rfl, rfl, by decide +kernel, rfl, by decide +kernel, by decide +kernel⟩
theorem ok_counts_of (F : FunX K "counts_of" "counts_of" s_counts_of f fd) (B : Blt mg) : FnG P w K mg base 1 f fd ["parties"] (lift K S_counts_of) := by
  refine fnX_of F sc_counts_of (fun ds Φ Ψ ⟨_, h, _⟩ => by rw [h]; rfl) fun cdv A outer s H E b => ⟨_, (pss_one (ps_ret (pe_callTy (k_tup K) (by rfl) B.tuple bb_tuple (pa_cons (pe_lc (own := [("_", 1), ("count", 2)]) rfl sc_counts_of.nd (k_any K (pv 0)) (blkOk_by (own := [("_", 1), ("count", 2)]) (N := N_counts_of) (sc := defScope s_counts_of) (by decide +kernel))  (fun _ _ _ _ _ => (k_pg K (n := 2) rfl (pgs_cons (pg_name (i := 1) sc_counts_of.nd rfl (by first | exact .inl rfl | exact .inr rfl)) (pgs_cons (pg_name (i := 2) sc_counts_of.nd rfl (by first | exact .inl rfl | exact .inr rfl)) pgs_nil)))) (fun _ _ _ _ _ => pts_nil) (fun _ _ _ _ _ => (pv 2))) pa_nil)))), fun ds Φ Ψ ⟨l, h, hl, q⟩ => ?_⟩
  subst h
  show wS _ _ _ [some (.dat _), none, none]
  walk_at "dlt"
  refine wE_lcM (only_pair (by simp) (by simp)) partyD (fun p => .int p.2) (wI_any ?_)
  unfold folkD
  walk_at "dlt"
  refine ⟨_, rfl, l, rfl, hl, fun p hp => ?_, ?_⟩
  · unfold partyD
    walk_at "dlt"
    rfl
  walk_at "dlt"
  exact q
/-- the least number that all of them divide -/
def scaleN (ns : List Int) : Nat := ns.foldl (fun a n => Nat.lcm a n.natAbs) 1
def S_scale_of : DSp := fun ds Φ _ => ∃ ns, ds = [divsD ns] ∧ DivOk ns ∧ Φ (.int (scaleN ns : Nat))
theorem scale_bd : ∀ (ns : List Int) (a : Nat) (m : Nat), (∀ n ∈ ns, 1 ≤ n ∧ n ≤ 100) → a ≤ 100 ^ m → 1 ≤ a → ns.foldl (fun a n => Nat.lcm a n.natAbs) a ≤ 100 ^ (m + ns.length) ∧ 1 ≤ ns.foldl (fun a n => Nat.lcm a n.natAbs) a
  | [], a, m, _, h, h1 => ⟨h, h1⟩
  | n :: ns, a, m, hb, h, h1 => by
    have hn := hb n List.mem_cons_self
    have l1 : Nat.lcm a n.natAbs ≤ a * n.natAbs := Nat.div_le_self _ _
    have l2 : a * n.natAbs ≤ 100 ^ m * 100 := Nat.mul_le_mul h (by omega)
    have l3 : 0 < Nat.lcm a n.natAbs := Nat.lcm_pos (by omega) (by omega)
    have := scale_bd ns (Nat.lcm a n.natAbs) (m + 1) (fun x hx => hb x (List.mem_cons_of_mem _ hx)) (by rw [Nat.pow_succ]; omega) l3
    rw [List.foldl_cons, List.length_cons]
    rw [show m + (ns.length + 1) = m + 1 + ns.length by omega]
    exact this
abbrev s_scale_of : Stmt := topS 54
abbrev N_scale_of : List Str := ["divisors", "scale", "divisor"]
theorem sc_scale_of : FnScope N_scale_of ["divisors"] (defScope s_scale_of) := ⟨rfl, rfl, rfl, by decide +kernel, rfl, by decide +kernel, by decide +kernel⟩
theorem ok_scale_of (F : FunX K "scale_of" "scale_of" s_scale_of f fd) (B : Blt mg) (c_lcm : mg "lcm" = some (.builtin "math.lcm")) : FnG P w K mg base 1 f fd ["divisors"] (lift K S_scale_of) := by
  refine fnX_of F sc_scale_of (fun ds Φ Ψ ⟨_, h, _⟩ => by rw [h]; rfl) fun cdv A outer s H E b => ⟨_, (pss_cons (ps_set (i := 1) sc_scale_of.nd rfl (by first | exact .inl rfl | exact .inr rfl) pe_int)
 (pss_cons (ps_for b.own rfl (k_any K (pv 0)) (pg_name (i := 2) sc_scale_of.nd rfl (by first | exact .inl rfl | exact .inr rfl)) (pss_one (ps_set (i := 1) sc_scale_of.nd rfl (by first | exact .inl rfl | exact .inr rfl) (pe_callBfun k_lcm (by rfl) c_lcm (pa_cons (pv 1) (pa_cons (pv 2) pa_nil))))))
 (pss_one (ps_ret (pv 1))))), fun ds Φ Ψ ⟨ns, h, dv, q⟩ => ?_⟩
  subst h
  show wS _ _ _ [some (.dat _), none, none]
  unfold divsD
  walk_at "dlt"
  refine wS_forT D.int (fun i ρ' => ∃ x : Option Sl, ρ' = [some (.dat (.tup (ns.map D.int))), some (.dat (.int ((scaleN (ns.take i) : Nat) : Int))), x]) (wI_any ?_)
  walk_at "dlt"
  refine ⟨_, rfl, ns, rfl, ⟨_, rfl⟩, fun i n ρ' hi ⟨x, e⟩ => ?_, fun ρ' ⟨x, e⟩ => ?_⟩
  · subst e
    have nm := List.mem_of_getElem? hi
    have nb := dv.b n nm
    have l2 := dv.l2
    have sb := scale_bd (ns.take i) 1 0 (fun x hx => dv.b x (List.mem_of_mem_take hx)) (by decide) (by decide)
    have sb1 : scaleN (ns.take i) ≤ 100 ^ 12 := Nat.le_trans sb.1 (Nat.pow_le_pow_right (by decide) (by rw [List.length_take]; omega))
    have e1 : scaleN (ns.take (i + 1)) = Nat.lcm (scaleN (ns.take i)) n.natAbs := by
      unfold scaleN
      rw [take_next hi, List.foldl_append]
      rfl
    rw [e1]
    generalize scaleN (ns.take i) = sc at *
    walk_at "dlt"
    refine ⟨_, _, rfl, ?_, ?_, ?_⟩
    · rw [Int.natAbs_natCast]
      exact Nat.lt_of_le_of_lt sb1 (by decide +kernel)
    · exact Nat.lt_of_le_of_lt (show n.natAbs ≤ 100 by omega) (by decide +kernel)
    walk_at "dlt"
    exact ⟨_, rfl⟩
  · subst e
    rw [List.take_length]
    walk_at "dlt"
    exact q
def unitI (ns : List Int) (d : Int) : Int := (scaleN ns : Int) / d
def S_units_of : DSp := fun ds Φ _ => ∃ ns, ds = [divsD ns] ∧ DivOk ns ∧ Φ (.tup ((ns.map fun d => .int (unitI ns d)) ++ [.int 0]))
abbrev s_units_of : Stmt := topS 56
abbrev N_units_of : List Str := ["divisors", "scale", "divisor"]
theorem sc_units_of : FnScope N_units_of ["divisors"] (defScope s_units_of) := ⟨rfl, rfl, rfl, by decide +kernel, rfl, by decide +kernel, by decide +kernel⟩
theorem ok_units_of (F : FunX K "units_of" "units_of" s_units_of f fd) (B : Blt mg) (c_scale_of : CallD P w K mg base "scale_of" 1 S_scale_of) : FnG P w K mg base 2 f fd ["divisors"] (lift K S_units_of) := by
  refine fnX_of F sc_units_of (fun ds Φ Ψ ⟨_, h, _⟩ => by rw [h]; rfl) fun cdv A outer s H E b => ⟨_, (pss_cons (ps_set (i := 1) sc_units_of.nd rfl (by first | exact .inl rfl | exact .inr rfl) (k_cd K c_scale_of (by exact b.room) (by decide) b.pass (pa_cons (pv 0) pa_nil)))
 (pss_one (ps_ret (pe_op (k_add K) (pe_callTy (k_tup K) (by rfl) B.tuple bb_tuple (pa_cons (pe_lc (own := [("divisor", 2)]) rfl sc_units_of.nd (k_any K (pv 0)) (blkOk_by (own := [("divisor", 2)]) (N := N_units_of) (sc := defScope s_units_of) (by decide +kernel))  (fun _ _ _ _ _ => (pg_name (i := 2) sc_units_of.nd rfl (by first | exact .inl rfl | exact .inr rfl))) (fun _ _ _ _ _ => pts_nil) (fun _ _ _ _ _ => (pe_op op_fdiv (pv 1) (pv 2)))) pa_nil)) (pe_tup (pa_cons pe_int pa_nil)))))), fun ds Φ Ψ ⟨ns, h, dv, q⟩ => ?_⟩
  subst h
  show wS _ _ _ [some (.dat _), none, none]
  have l2 := dv.l2
  walk_at "dlt"
  refine ⟨ns, rfl, dv, ?_⟩
  unfold divsD
  walk_at "dlt"
  refine wE_lcM (only_name (by simp)) D.int (fun d => .int (unitI ns d)) (wI_any ?_)
  walk_at "dlt"
  refine ⟨_, rfl, ns, rfl, by omega, fun d hd => ?_, ?_⟩
  · have db := dv.b d hd
    walk_at "dlt"
    rfl
  walk_at "dlt"
  refine addG_t (by rw [List.length_map]; simp; omega) ?_
  exact q
/-- rows of claims -/
def rowsD (rows : List (List Int)) : D := .lst (rows.map fun r => .lst (r.map D.int))
def claimsN (ns cs : List Int) : List (List Int) := cs.map fun c => ns.map fun d => c * unitI ns d
theorem cut_init {α : Type} (l : List α) (x : α) : cutD (l ++ [x]) none (some (-1)) = l := by
  unfold cutD HT.sIx
  simp
  rw [show (-1 + ((l.length : Int) + 1)).toNat = l.length by omega]
  exact List.take_left
def S_claims_of : DSp := fun ds Φ _ => ∃ ns cs, ds = [divsD ns, .tup (cs.map .int)] ∧ DivOk ns ∧ cs.length ≤ 6 ∧ (∀ c ∈ cs, 0 ≤ c ∧ c ≤ 1000000000) ∧ Φ (rowsD (claimsN ns cs))
abbrev s_claims_of : Stmt := topS 55
abbrev N_claims_of : List Str := ["divisors", "counts", "units", "unit", "count"]
theorem sc_claims_of : FnScope N_claims_of ["divisors", "counts"] (defScope s_claims_of) := ⟨rfl, rfl, rfl, by decide +kernel, rfl, by decide +kernel, by decide +kernel⟩
theorem ok_claims_of (F : FunX K "claims_of" "claims_of" s_claims_of f fd) (B : Blt mg) (c_units_of : CallD P w K mg base "units_of" 2 S_units_of) : FnG P w K mg base 3 f fd ["divisors", "counts"] (lift K S_claims_of) := by
  refine fnX_of F sc_claims_of (fun ds Φ Ψ ⟨_, _, h, _⟩ => by rw [h]; rfl) fun cdv A outer s H E b => ⟨_, (pss_cons (ps_set (i := 2) sc_claims_of.nd rfl (by first | exact .inl rfl | exact .inr rfl) (pe_slice (k_sl K) (k_cd K c_units_of (by exact b.room) (by decide) b.pass (pa_cons (pv 0) pa_nil)) po_none (po_some (pe_un un_neg pe_int))))
 (pss_one (ps_ret (pe_lc (own := [("count", 4)]) rfl sc_claims_of.nd (k_any K (pv 1)) (blkOk_by (own := [("count", 4)]) (N := N_claims_of) (sc := defScope s_claims_of) (by decide +kernel))  (fun _ _ _ _ _ => (pg_name (i := 4) sc_claims_of.nd rfl (by first | exact .inl rfl | exact .inr rfl))) (fun _ _ _ _ _ => pts_nil) (fun _ _ _ _ _ => (pe_lc (own := [("unit", 3)]) rfl sc_claims_of.nd (k_any K (pv 2)) (blkOk_by (own := [("unit", 3)]) (N := N_claims_of) (sc := _) (by walk_at "blk"))  (fun _ _ _ _ _ => (pg_name (i := 3) sc_claims_of.nd rfl (by first | exact .inl rfl | exact .inr rfl))) (fun _ _ _ _ _ => pts_nil) (fun _ _ _ _ _ => (pe_op opr_mul (pv 4) (pv 3))))))))), fun ds Φ Ψ ⟨ns, cs, h, dv, l6, hc, q⟩ => ?_⟩
  subst h
  show wS _ _ _ [some (.dat _), some (.dat _), none, none, none]
  have l2 := dv.l2
  walk_at "dlt"
  refine ⟨ns, rfl, dv, ?_⟩
  walk_at "dlt"
  rw [cut_init]
  refine wE_lcM (only_name (by simp)) D.int (fun c => .lst ((ns.map fun d => c * unitI ns d).map D.int)) (wI_any ?_)
  walk_at "dlt"
  refine ⟨_, rfl, cs, rfl, by omega, fun c hcm => ?_, ?_⟩
  · have cb := hc c hcm
    walk_at "dlt"
    refine wE_lcM (only_name (by simp)) (fun d => .int (unitI ns d)) (fun d => .int (c * unitI ns d)) (wI_any ?_)
    walk_at "dlt"
    refine ⟨_, rfl, ns, rfl, by omega, fun d hd => ?_, ?_⟩
    · generalize unitI ns d = u
      walk_at "dlt"
      rfl
    rw [List.map_map]
    rfl
  walk_at "dlt"
  unfold rowsD claimsN at q
  rw [List.map_map] at q
  exact q
/-- the claim with this place, the greatest one ahead -/
structure IsKth (l : List Int) (k : Nat) (p : Int) : Prop where
  m : p ∈ l
  above : (l.filter fun c => decide (p < c)).length ≤ k
  from_ : k < (l.filter fun c => decide (p ≤ c)).length
theorem kth_of {l l' : List Int} {k : Nat} {p : Int} (hp : l'.Perm l) (hs : l'.Pairwise (· ≥ ·)) (hk : l'[k]? = some p) : IsKth l k p := by
  obtain ⟨hl, e⟩ := List.getElem?_eq_some_iff.mp hk
  have e1 := (hp.filter fun c => decide (p < c)).length_eq
  have e2 := (hp.filter fun c => decide (p ≤ c)).length_eq
  have sp : l' = l'.take k ++ l'.drop k := (List.take_append_drop k l').symm
  have ge : ∀ i j : Nat, ∀ x y, l'[i]? = some x → l'[j]? = some y → i < j → x ≥ y := fun i j x y hx hy hij => by
    obtain ⟨h1, rfl⟩ := List.getElem?_eq_some_iff.mp hx
    obtain ⟨h2, rfl⟩ := List.getElem?_eq_some_iff.mp hy
    exact List.pairwise_iff_getElem.mp hs i j h1 h2 hij
  refine ⟨hp.mem_iff.mp (List.mem_of_getElem? hk), ?_, ?_⟩
  · rw [← e1, sp, List.filter_append, List.length_append]
    have z : (l'.drop k).filter (fun c => decide (p < c)) = [] := List.filter_eq_nil_iff.mpr fun c hc => by
      obtain ⟨i, hi⟩ := List.getElem?_of_mem hc
      rw [List.getElem?_drop] at hi
      rw [decide_eq_true_eq]
      by_cases h0 : i = 0
      · rw [h0, Nat.add_zero, hk] at hi
        have := Option.some.inj hi
        omega
      · have := ge k (k + i) p c hk hi (by omega)
        omega
    rw [z, List.length_nil, Nat.add_zero]
    exact Nat.le_trans (List.length_filter_le _ _) (by rw [List.length_take]; omega)
  · rw [← e2]
    have sp2 : l' = l'.take (k + 1) ++ l'.drop (k + 1) := (List.take_append_drop (k + 1) l').symm
    rw [sp2, List.filter_append, List.length_append]
    have a : (l'.take (k + 1)).filter (fun c => decide (p ≤ c)) = l'.take (k + 1) := List.filter_eq_self.mpr fun c hc => by
      obtain ⟨i, hi⟩ := List.getElem?_of_mem hc
      have hik : i < k + 1 := by
        have := (List.getElem?_eq_some_iff.mp hi).1
        rw [List.length_take] at this
        omega
      rw [List.getElem?_take_of_lt hik] at hi
      rw [decide_eq_true_eq]
      by_cases h0 : i = k
      · rw [h0, hk] at hi
        have := Option.some.inj hi
        omega
      · have := ge i k c p hi hk (by omega)
        omega
    rw [a, List.length_take]
    omega
def S_claim_at : DSp := fun ds Φ _ => ∃ (rows : List (List Int)) (k : Nat), ds = [rowsD rows, .int k] ∧ (rows.flatten).length ≤ 1000 ∧ k ≤ 1000 ∧ ((∀ p, k < rows.flatten.length → IsKth rows.flatten k p → Φ (.int p)) ∧ (rows.flatten.length ≤ k → Φ (.int 0)))
abbrev s_claim_at : Stmt := topS 58
abbrev N_claim_at : List Str := ["claims", "place", "ordered", "row", "claim"]
theorem sc_claim_at : FnScope N_claim_at ["claims", "place"] (defScope s_claim_at) := ⟨rfl, rfl, rfl, by decide +kernel, rfl, by decide +kernel, by decide +kernel⟩
theorem ok_claim_at (F : FunX K "claim_at" "claim_at" s_claim_at f fd) (B : Blt mg) (n_sorted : mg "sorted" = none) : FnG P w K mg base 1 f fd ["claims", "place"] (lift K S_claim_at) := by
  refine fnX_of F sc_claim_at (fun ds Φ Ψ ⟨_, _, h, _⟩ => by rw [h]; rfl) fun cdv A outer s H E b => ⟨_, (pss_cons (ps_set (i := 2) sc_claim_at.nd rfl (by first | exact .inl rfl | exact .inr rfl) (pe_callBK (k_sortedRev K) (by rfl) n_sorted bb_sorted (pa_cons (pe_lc2 (own := [("row", 3), ("claim", 4)]) (vs1 := [4]) rfl sc_claim_at.nd (k_any K (pv 0)) (blkOk_by (own := [("row", 3), ("claim", 4)]) (N := N_claim_at) (sc := defScope s_claim_at) (by decide +kernel)) (by decide) (fun _ _ _ _ _ => (pg_name (i := 3) sc_claim_at.nd rfl (by first | exact .inl rfl | exact .inr rfl))) (fun _ _ _ _ _ => pts_nil) (fun _ _ _ _ _ => (k_any K (pv 3))) (fun _ _ _ _ _ => (pg_name (i := 4) sc_claim_at.nd rfl (by first | exact .inl rfl | exact .inr rfl))) (fun _ _ _ _ _ => pts_nil) (fun _ _ _ _ _ => (pv 4))) pa_nil) (pk_cons pe_bl pk_nil)))
 (pss_one (ps_ret (pe_ifExp (pt_cmpR op_lt (pv 1) (pe_callB (k_len K) (by rfl) B.len bb_len (pa_cons (pv 2) pa_nil)) (nomark _)) (pe_ix (k_ix K) (pv 2) (pv 1) (fun _ _ => rfl)) pe_int)))), fun ds Φ Ψ ⟨rows, k, h, hl, hk, q1, q2⟩ => ?_⟩
  subst h
  show wS _ _ _ [some (.dat _), some (.dat _), none, none, none]
  walk_at "dlt"
  refine wE_lc2M (only_name (by simp)) (only_name (by simp)) (fun r : List Int => .lst (r.map D.int)) D.int (fun r => r) (fun _ c => .int c) (wI_any ?_)
  unfold rowsD
  walk_at "dlt"
  refine ⟨_, rfl, rows, rfl, by rw [List.flatMap_id']; omega, fun r hr => ?_, ?_⟩
  · walk_at "dlt"
    refine wI_any ?_
    walk_at "dlt"
    refine ⟨_, rfl, rfl, fun c hc => ?_⟩
    walk_at "dlt"
    rfl
  have ef : (rows.flatMap fun r => r.map fun c => D.int c) = rows.flatten.map D.int := by rw [List.map_flatten, List.flatMap_def]
  rw [ef]
  walk_at "dlt"
  refine ⟨rfl, rows.flatten, rfl, fun ns' hp hs => ?_⟩
  have lm : (ns'.map D.int).length = rows.flatten.length := by rw [List.length_map, hp.length_eq]
  walk_at "dlt"
  rw [lm]
  refine ifD (fun hlt => ?_) (fun hlt => ?_)
  · have hk2 : k < ns'.length := by rw [hp.length_eq]; omega
    have hg := List.getElem?_eq_getElem hk2
    walk_at "dlt"
    refine ixG_l (L2.atI_nat (by rw [List.getElem?_map, hg]; rfl)) ?_
    exact q1 _ (by omega) (kth_of hp hs hg)
  · walk_at "dlt"
    exact q2 (by omega)
def S_seats_above : DSp := fun ds Φ _ => ∃ (rows : List (List Int)) (p : Int), ds = [rowsD rows, .int p] ∧ rows.length ≤ 6 ∧ (∀ r ∈ rows, r.length ≤ 12) ∧ Φ (.lst ((rows.map fun r => (((r.filter fun c => decide (p < c)).length : Nat) : Int)).map D.int))
abbrev s_seats_above : Stmt := topS 59
abbrev N_seats_above : List Str := ["claims", "price", "claim", "row"]
theorem sc_seats_above : FnScope N_seats_above ["claims", "price"] (defScope s_seats_above) := ⟨rfl, rfl, rfl, by decide +kernel, rfl, by decide +kernel, by decide +kernel⟩
theorem ok_seats_above (F : FunX K "seats_above" "seats_above" s_seats_above f fd) (B : Blt mg) : FnG P w K mg base 1 f fd ["claims", "price"] (lift K S_seats_above) := by
  refine fnX_of F sc_seats_above (fun ds Φ Ψ ⟨_, _, h, _⟩ => by rw [h]; rfl) fun cdv A outer s H E b => ⟨_, (pss_one (ps_ret (pe_lc (own := [("row", 3)]) rfl sc_seats_above.nd (k_any K (pv 0)) (blkOk_by (own := [("row", 3)]) (N := N_seats_above) (sc := defScope s_seats_above) (by decide +kernel))  (fun _ _ _ _ _ => (pg_name (i := 3) sc_seats_above.nd rfl (by first | exact .inl rfl | exact .inr rfl))) (fun _ _ _ _ _ => pts_nil) (fun _ _ _ _ _ => (pe_callB (k_len K) (by rfl) B.len bb_len (pa_cons (pe_lc (own := [("claim", 2)]) rfl sc_seats_above.nd (k_any K (pv 3)) (blkOk_by (own := [("claim", 2)]) (N := N_seats_above) (sc := _) (by walk_at "blk"))  (fun _ _ _ _ _ => (pg_name (i := 2) sc_seats_above.nd rfl (by first | exact .inl rfl | exact .inr rfl))) (fun _ _ _ _ _ => (pts_one (pt_cmpR op_gt (pv 2) (pv 1) (nomark _)))) (fun _ _ _ _ _ => (pv 2))) pa_nil)))))), fun ds Φ Ψ ⟨rows, p, h, h6, h12, q⟩ => ?_⟩
  subst h
  show wS _ _ _ [some (.dat _), some (.dat _), none, none]
  walk_at "dlt"
  refine wE_lcM (only_name (by simp)) (fun r : List Int => .lst (r.map D.int)) (fun r => .int (((r.filter fun c => decide (p < c)).length : Nat) : Int)) (wI_any ?_)
  unfold rowsD
  walk_at "dlt"
  refine ⟨_, rfl, rows, rfl, by omega, fun r hr => ?_, ?_⟩
  · have l12 := h12 r hr
    walk_at "dlt"
    refine wE_lcF (only_name (by simp)) D.int D.int (fun c => decide (p < c)) (wI_any ?_)
    walk_at "dlt"
    refine ⟨_, rfl, r, rfl, by omega, fun c hc => ?_, ?_⟩
    · walk_at "dlt"
      refine ⟨rfl, fun _ => ?_⟩
      walk_at "dlt"
      rfl
    walk_at "dlt"
    rw [List.length_map]
  walk_at "dlt"
  rw [List.map_map] at q
  exact q
def S_seats_from : DSp := fun ds Φ _ => ∃ (rows : List (List Int)) (p : Int), ds = [rowsD rows, .int p] ∧ rows.length ≤ 6 ∧ (∀ r ∈ rows, r.length ≤ 12) ∧ Φ (.lst ((rows.map fun r => (((r.filter fun c => decide (p ≤ c)).length : Nat) : Int)).map D.int))
abbrev s_seats_from : Stmt := topS 60
abbrev N_seats_from : List Str := ["claims", "price", "claim", "row"]
theorem sc_seats_from : FnScope N_seats_from ["claims", "price"] (defScope s_seats_from) := ⟨rfl, rfl, rfl, by decide +kernel, rfl, by decide +kernel, by decide +kernel⟩
theorem ok_seats_from (F : FunX K "seats_from" "seats_from" s_seats_from f fd) (B : Blt mg) : FnG P w K mg base 1 f fd ["claims", "price"] (lift K S_seats_from) := by
  refine fnX_of F sc_seats_from (fun ds Φ Ψ ⟨_, _, h, _⟩ => by rw [h]; rfl) fun cdv A outer s H E b => ⟨_, (pss_one (ps_ret (pe_lc (own := [("row", 3)]) rfl sc_seats_from.nd (k_any K (pv 0)) (blkOk_by (own := [("row", 3)]) (N := N_seats_from) (sc := defScope s_seats_from) (by decide +kernel))  (fun _ _ _ _ _ => (pg_name (i := 3) sc_seats_from.nd rfl (by first | exact .inl rfl | exact .inr rfl))) (fun _ _ _ _ _ => pts_nil) (fun _ _ _ _ _ => (pe_callB (k_len K) (by rfl) B.len bb_len (pa_cons (pe_lc (own := [("claim", 2)]) rfl sc_seats_from.nd (k_any K (pv 3)) (blkOk_by (own := [("claim", 2)]) (N := N_seats_from) (sc := _) (by walk_at "blk"))  (fun _ _ _ _ _ => (pg_name (i := 2) sc_seats_from.nd rfl (by first | exact .inl rfl | exact .inr rfl))) (fun _ _ _ _ _ => (pts_one (pt_cmpR op_ge (pv 2) (pv 1) (nomark _)))) (fun _ _ _ _ _ => (pv 2))) pa_nil)))))), fun ds Φ Ψ ⟨rows, p, h, h6, h12, q⟩ => ?_⟩
  subst h
  show wS _ _ _ [some (.dat _), some (.dat _), none, none]
  walk_at "dlt"
  refine wE_lcM (only_name (by simp)) (fun r : List Int => .lst (r.map D.int)) (fun r => .int (((r.filter fun c => decide (p ≤ c)).length : Nat) : Int)) (wI_any ?_)
  unfold rowsD
  walk_at "dlt"
  refine ⟨_, rfl, rows, rfl, by omega, fun r hr => ?_, ?_⟩
  · have l12 := h12 r hr
    walk_at "dlt"
    refine wE_lcF (only_name (by simp)) D.int D.int (fun c => decide (p ≤ c)) (wI_any ?_)
    walk_at "dlt"
    refine ⟨_, rfl, r, rfl, by omega, fun c hc => ?_, ?_⟩
    · walk_at "dlt"
      refine ⟨rfl, fun _ => ?_⟩
      walk_at "dlt"
      rfl
    walk_at "dlt"
    rw [List.length_map]
  walk_at "dlt"
  rw [List.map_map] at q
  exact q
end
/-! ### tables between bounds -/
def rng (lo hi : Int) : List Int := (List.range (hi + 1 - lo).toNat).map fun (i : Nat) => lo + (i : Int)
theorem mem_rng {lo hi x : Int} : x ∈ rng lo hi ↔ lo ≤ x ∧ x ≤ hi := by
  unfold rng
  rw [List.mem_map]
  constructor
  · rintro ⟨i, hi, rfl⟩
    have := List.mem_range.mp hi
    omega
  · rintro ⟨h1, h2⟩
    exact ⟨(x - lo).toNat, List.mem_range.mpr (by omega), by omega⟩
theorem rng_up (lo hi : Int) : (rng lo hi).Pairwise (· < ·) := by
  unfold rng
  rw [List.pairwise_map]
  exact List.pairwise_lt_range.imp (by intros; omega)
theorem up_uniq : ∀ {a b : List Int}, a.Pairwise (· < ·) → b.Pairwise (· < ·) → (∀ k, k ∈ a ↔ k ∈ b) → a = b
  | [], [], _, _, _ => rfl
  | [], y :: b, _, _, h => absurd ((h y).mpr List.mem_cons_self) (by simp)
  | x :: a, [], _, _, h => absurd ((h x).mp List.mem_cons_self) (by simp)
  | x :: a, y :: b, p, q, h => by
    obtain ⟨p1, p2⟩ := List.pairwise_cons.mp p
    obtain ⟨q1, q2⟩ := List.pairwise_cons.mp q
    have e : x = y := by
      rcases List.mem_cons.mp ((h x).mp List.mem_cons_self) with e | m
      · exact e
      · rcases List.mem_cons.mp ((h y).mpr List.mem_cons_self) with e | m2
        · exact e.symm
        · have := q1 x m
          have := p1 y m2
          omega
    subst e
    rw [up_uniq p2 q2 fun k => ⟨fun hk => ?_, fun hk => ?_⟩]
    · rcases List.mem_cons.mp ((h k).mp (List.mem_cons_of_mem _ hk)) with e | m
      · have := p1 k hk; omega
      · exact m
    · rcases List.mem_cons.mp ((h k).mpr (List.mem_cons_of_mem _ hk)) with e | m
      · have := q1 k hk; omega
      · exact m
theorem rng_filter (lo hi a b : Int) : (rng lo hi).filter (fun x => decide (a ≤ x) && decide (x ≤ b)) = rng (if a > lo then a else lo) (if b < hi then b else hi) := by
  refine up_uniq ((rng_up lo hi).filter _) (rng_up _ _) fun k => ?_
  rw [List.mem_filter, mem_rng, mem_rng, Bool.and_eq_true, decide_eq_true_eq, decide_eq_true_eq]
  split <;> split <;> omega
theorem flat_filter {α β : Type} {p : α → Bool} {F : α → List β} : ∀ {l : List α}, (∀ x ∈ l, p x = false → F x = []) → (l.filter p).flatMap F = l.flatMap F
  | [], _ => rfl
  | x :: l, h => by
    have ih := flat_filter (p := p) (F := F) (l := l) fun y hy => h y (List.mem_cons_of_mem _ hy)
    rw [List.filter_cons]
    cases hp : p x with
    | true => rw [if_pos rfl, List.flatMap_cons, List.flatMap_cons, ih]
    | false => rw [if_neg Bool.false_ne_true, List.flatMap_cons, h x List.mem_cons_self hp, List.nil_append, ih]
abbrev Bd2 := List (Int × Int)
def loS (bs : Bd2) : Int := (bs.map (·.1)).sum
def hiS (bs : Bd2) : Int := (bs.map (·.2)).sum
/-- all rows of numbers between these bounds that sum up to left, ascending -/
def tabs : Bd2 → Int → List (List Int)
  | [], left => if left = 0 then [[]] else []
  | b :: bs, left => (rng b.1 b.2).flatMap fun own => (tabs bs (left - own)).map (own :: ·)
theorem tabs_sum : ∀ {bs : Bd2} {left : Int} {t : List Int}, t ∈ tabs bs left → loS bs ≤ left ∧ left ≤ hiS bs ∧ t.length = bs.length ∧ t.sum = left ∧ ∀ (i : Nat) x b, t[i]? = some x → bs[i]? = some b → b.1 ≤ x ∧ x ≤ b.2
  | [], left, t, h => by
    unfold tabs at h
    split at h
    · rw [List.mem_singleton.mp h]
      refine ⟨by unfold loS; simp; omega, by unfold hiS; simp; omega, rfl, by simp; omega, fun i x b h1 => by simp at h1⟩
    · cases h
  | b :: bs, left, t, h => by
    unfold tabs at h
    obtain ⟨own, ho, h⟩ := List.mem_flatMap.mp h
    obtain ⟨r, hr, rfl⟩ := List.mem_map.mp h
    obtain ⟨o1, o2⟩ := mem_rng.mp ho
    obtain ⟨h1, h2, h3, h4, h5⟩ := tabs_sum hr
    refine ⟨by unfold loS at h1 ⊢; rw [List.map_cons, List.sum_cons]; omega, by unfold hiS at h2 ⊢; rw [List.map_cons, List.sum_cons]; omega, by rw [List.length_cons, List.length_cons, h3], by rw [List.sum_cons, h4]; omega, fun i x c e1 e2 => ?_⟩
    cases i with
    | zero =>
      rw [List.getElem?_cons_zero] at e1 e2
      cases e1; cases e2
      exact ⟨o1, o2⟩
    | succ i =>
      rw [List.getElem?_cons_succ] at e1 e2
      exact h5 i x c e1 e2
theorem tabs_none {bs : Bd2} {left : Int} (h : left < loS bs ∨ hiS bs < left) : tabs bs left = [] := by
  refine List.eq_nil_iff_forall_not_mem.mpr fun t ht => ?_
  obtain ⟨h1, h2, _⟩ := tabs_sum ht
  omega
def mx (a b : Int) : Int := if b > a then b else a
def mn (a b : Int) : Int := if b < a then b else a
/-- the same, what cannot come to an end left out -/
def tabsP : Bd2 → Int → List (List Int)
  | [], _ => [[]]
  | b :: bs, left => (rng (mx b.1 (left - hiS bs)) (mn b.2 (left - loS bs))).flatMap fun own => (tabsP bs (left - own)).map (own :: ·)
theorem tabsP_eq : ∀ {bs : Bd2} {left : Int}, bs ≠ [] ∨ left = 0 → tabsP bs left = tabs bs left
  | [], left, h => by
    have : left = 0 := h.resolve_left fun h => h rfl
    unfold tabsP tabs
    rw [if_pos this]
  | b :: bs, left, _ => by
    unfold tabsP tabs mx mn
    rw [← rng_filter, ← flat_filter (l := rng b.1 b.2) (p := fun x => decide (left - hiS bs ≤ x) && decide (x ≤ left - loS bs)) (F := fun own => (tabs bs (left - own)).map (own :: ·))]
    · rw [List.flatMap_def, List.flatMap_def]
      refine congrArg List.flatten (List.map_congr_left fun own ho => ?_)
      have hb := (List.mem_filter.mp ho).2
      rw [Bool.and_eq_true, decide_eq_true_eq, decide_eq_true_eq] at hb
      rw [tabsP_eq]
      by_cases e : bs = []
      · right
        subst e
        unfold hiS loS at hb
        simp at hb
        omega
      · exact .inl e
    · intro own ho hp
      rw [Bool.and_eq_false_iff, decide_eq_false_iff_not, decide_eq_false_iff_not] at hp
      rw [tabs_none (by omega)]
      rfl
abbrev Beg := List (List Int × Int)
def stepB (b : Int × Int) (bs : Bd2) (g : Beg) : Beg := g.flatMap fun x => (rng (mx b.1 (x.2 - hiS bs)) (mn b.2 (x.2 - loS bs))).map fun own => (x.1 ++ [own], x.2 - own)
def runB : Bd2 → Beg → Beg
  | [], g => g
  | b :: bs, g => runB bs (stepB b bs g)
theorem runB_eq : ∀ (bs : Bd2) (g : Beg), (runB bs g).map (·.1) = g.flatMap fun x => (tabsP bs x.2).map (x.1 ++ ·)
  | [], g => by
    unfold runB tabsP
    induction g with
    | nil => rfl
    | cons x g ih => rw [List.map_cons, List.flatMap_cons, ih]; simp
  | b :: bs, g => by
    unfold runB
    rw [runB_eq bs]
    unfold stepB
    rw [List.flatMap_assoc]
    refine congrArg (fun F => List.flatMap F g) (funext fun x => ?_)
    conv => rhs; unfold tabsP
    rw [List.map_flatMap, List.flatMap_map]
    refine congrArg (fun F => List.flatMap F (rng (mx b.1 (x.2 - hiS bs)) (mn b.2 (x.2 - loS bs)))) (funext fun own => ?_)
    rw [List.map_map]
    refine List.map_congr_left fun r _ => ?_
    simp
/-- so many rows of i numbers from 0 on there are whose sum is at most l -/
def cnt : Nat → Nat → Nat
  | 0, _ => 1
  | i + 1, l => ((List.range (l + 1)).map fun o => cnt i (l - o)).sum
def potB (j : Nat) (g : Beg) : Nat := (g.map fun x => cnt j x.2.toNat).sum
theorem sum_sub {α : Type} (F : α → Nat) {p : α → Bool} : ∀ l : List α, ((l.filter p).map F).sum ≤ (l.map F).sum
  | [] => Nat.le_refl _
  | x :: l => by
    have := sum_sub F (p := p) l
    rw [List.filter_cons]
    split
    · rw [List.map_cons, List.map_cons, List.sum_cons, List.sum_cons]; omega
    · rw [List.map_cons, List.sum_cons]; omega
theorem pot_one {j : Nat} {lo hi l : Int} (h0 : 0 ≤ lo) (h1 : hi ≤ l) (h2 : 0 ≤ l) : ((rng lo hi).map fun own => cnt j (l - own).toNat).sum ≤ cnt (j + 1) l.toNat := by
  have e : rng lo hi = (rng 0 l).filter (fun x => decide (lo ≤ x) && decide (x ≤ hi)) := by
    rw [rng_filter]
    congr 1
    · split <;> omega
    · split <;> omega
  rw [e]
  refine Nat.le_trans (sum_sub _ _) ?_
  unfold rng
  rw [show cnt (j + 1) l.toNat = ((List.range (l.toNat + 1)).map fun o => cnt j (l.toNat - o)).sum from rfl, List.map_map, show (l + 1 - 0).toNat = l.toNat + 1 by omega]
  refine Nat.le_of_eq (congrArg List.sum (List.map_congr_left fun o ho => ?_))
  show cnt j (l - (0 + (o : Int))).toNat = cnt j (l.toNat - o)
  congr 1
  omega
theorem pot_step {j : Nat} {b : Int × Int} {bs : Bd2} {g : Beg} (h0 : 0 ≤ b.1) (hl : 0 ≤ loS bs) (hg : ∀ x ∈ g, 0 ≤ x.2) : potB j (stepB b bs g) ≤ potB (j + 1) g ∧ ∀ x ∈ stepB b bs g, 0 ≤ x.2 := by
  constructor
  · induction g with
    | nil => exact Nat.le_refl _
    | cons x g ih =>
      have ih := ih fun y hy => hg y (List.mem_cons_of_mem _ hy)
      unfold potB stepB at ih ⊢
      rw [List.flatMap_cons, List.map_append, List.sum_append, List.map_cons, List.sum_cons, List.map_map]
      have := pot_one (j := j) (lo := mx b.1 (x.2 - hiS bs)) (hi := mn b.2 (x.2 - loS bs)) (l := x.2) (by unfold mx; split <;> omega) (by unfold mn; split <;> omega) (hg x List.mem_cons_self)
      exact Nat.add_le_add this ih
  · intro y hy
    unfold stepB at hy
    obtain ⟨x, hx, hy⟩ := List.mem_flatMap.mp hy
    obtain ⟨own, ho, rfl⟩ := List.mem_map.mp hy
    have := (mem_rng.mp ho).2
    unfold mn at this
    show 0 ≤ x.2 - own
    split at this <;> omega
theorem pot_len (g : Beg) : potB 0 g = g.length := by
  unfold potB
  induction g with
  | nil => rfl
  | cons x g ih => rw [List.map_cons, List.sum_cons, ih, List.length_cons]; show 1 + _ = _; omega
theorem cnt_top : ∀ i ≤ 6, ∀ l ≤ 12, cnt i l ≤ 18564 := by decide +kernel
/-! ### tables_within, tables_made, results -/
section
variable {P : Program} {w : World} {K : PySem.W.Frag} {mg : Str → Option Value} {base : Heap} {f C : Addr} {fd : FuncData}
def intsD (l : List Int) : D := .tup (l.map D.int)
def begE (x : List Int × Int) : D := .tup [.tup (x.1.map D.int), .int x.2]
theorem zip_intsL (cs ss : List Int) : zipD (cs.map D.int) (ss.map D.int) = (cs.zip ss).map fun p => D.tup [.int p.1, .int p.2] := zipD_map _ _ _ _
theorem rng_range (a b : Int) : rangeD a (b + 1) = (rng a b).map D.int := by
  unfold rangeD rng
  rw [List.map_map]
  rfl
def S_tables_within : DSp := fun ds Φ _ => ∃ (lows highs : List Int) (S : Int), ds = [.lst (lows.map .int), .lst (highs.map .int), .int S] ∧ lows.length = highs.length ∧ 1 ≤ lows.length ∧ lows.length ≤ 6 ∧ (∀ x ∈ lows, 0 ≤ x ∧ x ≤ 1000) ∧ (∀ x ∈ highs, 0 ≤ x ∧ x ≤ 1000) ∧ 0 ≤ S ∧ S ≤ 12 ∧ Φ (.tup ((tabs (lows.zip highs) S).map intsD))
theorem sum_bd : ∀ {l : List Int}, (∀ x ∈ l, 0 ≤ x ∧ x ≤ 1000) → 0 ≤ l.sum ∧ l.sum ≤ 1000 * l.length
  | [], _ => by simp
  | x :: l, h => by
    have := sum_bd fun y hy => h y (List.mem_cons_of_mem _ hy)
    have := h x List.mem_cons_self
    rw [List.sum_cons, List.length_cons]
    omega
abbrev s_tables_within : Stmt := topS 61
abbrev N_tables_within : List Str := ["lows", "highs", "seats", "begun", "fewest", "most", "low", "high", "told", "left", "own", "_"]
theorem sc_tables_within : FnScope N_tables_within ["lows", "highs", "seats"] (defScope s_tables_within) := ⟨rfl, rfl, rfl, by decide +kernel, rfl, by decide +kernel, by decide +kernel⟩
theorem ok_tables_within (F : FunX K "tables_within" "tables_within" s_tables_within f fd) (B : Blt mg) : FnG P w K mg base 1 f fd ["lows", "highs", "seats"] (lift K S_tables_within) := by
  refine fnX_of F sc_tables_within (fun ds Φ Ψ ⟨_, _, _, h, _⟩ => by rw [h]; rfl) fun cdv A outer s H E b => ⟨_, (pss_cons (ps_set (i := 3) sc_tables_within.nd rfl (by first | exact .inl rfl | exact .inr rfl) (pe_lst (pa_cons (pe_tup (pa_cons (pe_tup pa_nil) (pa_cons (pv 2) pa_nil))) pa_nil)))
 (pss_cons (ps_set (i := 4) sc_tables_within.nd rfl (by first | exact .inl rfl | exact .inr rfl) (pe_callB (k_sumA K rfl) (by rfl) B.sum bb_sum (pa_cons (pv 0) pa_nil)))
 (pss_cons (ps_set (i := 5) sc_tables_within.nd rfl (by first | exact .inl rfl | exact .inr rfl) (pe_callB (k_sumA K rfl) (by rfl) B.sum bb_sum (pa_cons (pv 1) pa_nil)))
 (pss_cons (ps_for b.own rfl (k_zip K (by rfl) B.zip (pa_cons (pv 0) (pa_cons (pv 1) pa_nil))) (k_pg K (n := 2) rfl (pgs_cons (pg_name (i := 6) sc_tables_within.nd rfl (by first | exact .inl rfl | exact .inr rfl)) (pgs_cons (pg_name (i := 7) sc_tables_within.nd rfl (by first | exact .inl rfl | exact .inr rfl)) pgs_nil))) (pss_cons (ps_set (i := 4) sc_tables_within.nd rfl (by first | exact .inl rfl | exact .inr rfl) (pe_op op_sub (pv 4) (pv 6)))
 (pss_cons (ps_set (i := 5) sc_tables_within.nd rfl (by first | exact .inl rfl | exact .inr rfl) (pe_op op_sub (pv 5) (pv 7)))
 (pss_one (ps_setLc2 (i := 3) (own := [("told", 8), ("left", 9), ("own", 10)]) (vs1 := [10]) rfl sc_tables_within.nd rfl rfl (sw_true rfl rfl rfl (by decide +kernel)) (k_any K (pv 3)) (blkOk_by (own := [("told", 8), ("left", 9), ("own", 10)]) (N := N_tables_within) (sc := defScope s_tables_within) (by decide +kernel)) (by decide) (fun _ _ _ _ _ => (k_pg K (n := 2) rfl (pgs_cons (pg_name (i := 8) sc_tables_within.nd rfl (by first | exact .inl rfl | exact .inr rfl)) (pgs_cons (pg_name (i := 9) sc_tables_within.nd rfl (by first | exact .inl rfl | exact .inr rfl)) pgs_nil)))) (fun _ _ _ _ _ => pts_nil) (fun _ _ _ _ _ => (pi_range2 (by rfl) B.range (pa_cons (pe_callB (call_max2 rfl) (by rfl) B.max bb_max (pa_cons (pv 6) (pa_cons (pe_op op_sub (pv 9) (pv 5)) pa_nil))) (pa_cons (pe_op (k_add K) (pe_callB (call_min2 rfl) (by rfl) B.min bb_min (pa_cons (pv 7) (pa_cons (pe_op op_sub (pv 9) (pv 4)) pa_nil))) pe_int) pa_nil)))) (fun _ _ _ _ _ => (pg_name (i := 10) sc_tables_within.nd rfl (by first | exact .inl rfl | exact .inr rfl))) (fun _ _ _ _ _ => pts_nil) (fun _ _ _ _ _ => (pe_tup (pa_cons (pe_op (k_add K) (pv 8) (pe_tup (pa_cons (pv 10) pa_nil))) (pa_cons (pe_op op_sub (pv 9) (pv 10)) pa_nil)))))))))
 (pss_one (ps_ret (pe_callTy (k_tup K) (by rfl) B.tuple bb_tuple (pa_cons (pe_lc (own := [("told", 8), ("_", 11)]) rfl sc_tables_within.nd (k_any K (pv 3)) (blkOk_by (own := [("told", 8), ("_", 11)]) (N := N_tables_within) (sc := defScope s_tables_within) (by decide +kernel))  (fun _ _ _ _ _ => (k_pg K (n := 2) rfl (pgs_cons (pg_name (i := 8) sc_tables_within.nd rfl (by first | exact .inl rfl | exact .inr rfl)) (pgs_cons (pg_name (i := 11) sc_tables_within.nd rfl (by first | exact .inl rfl | exact .inr rfl)) pgs_nil)))) (fun _ _ _ _ _ => pts_nil) (fun _ _ _ _ _ => (pv 8))) pa_nil)))))))), fun ds Φ Ψ ⟨lows, highs, S, h, le, l1, l6, hlo, hhi, S0, S12, q⟩ => ?_⟩
  subst h
  show wS _ _ _ [some (.dat _), some (.dat _), some (.dat _), none, none, none, none, none, none, none, none, none]
  generalize hbs : lows.zip highs = bs at q
  have bl : bs.length = lows.length := by rw [← hbs, List.length_zip]; omega
  have e1 : bs.map (·.1) = lows := by rw [← hbs, List.map_fst_zip (by omega)]
  have e2 : bs.map (·.2) = highs := by rw [← hbs, List.map_snd_zip (by omega)]
  have bb : ∀ b ∈ bs, 0 ≤ b.1 ∧ b.1 ≤ 1000 ∧ 0 ≤ b.2 ∧ b.2 ≤ 1000 := fun b hb => by
    have h1 := hlo b.1 (by rw [← e1]; exact List.mem_map_of_mem hb)
    have h2 := hhi b.2 (by rw [← e2]; exact List.mem_map_of_mem hb)
    omega
  have sumD : ∀ i, (0 ≤ loS (bs.drop i) ∧ loS (bs.drop i) ≤ 6000) ∧ (0 ≤ hiS (bs.drop i) ∧ hiS (bs.drop i) ≤ 6000) := fun i => by
    have h1 := sum_bd (l := (bs.drop i).map (·.1)) fun x hx => by
      obtain ⟨b, hb, rfl⟩ := List.mem_map.mp hx
      have := bb b (List.mem_of_mem_drop hb); omega
    have h2 := sum_bd (l := (bs.drop i).map (·.2)) fun x hx => by
      obtain ⟨b, hb, rfl⟩ := List.mem_map.mp hx
      have := bb b (List.mem_of_mem_drop hb); omega
    rw [List.length_map, List.length_drop] at h1 h2
    unfold loS hiS
    omega
  walk_at "dlt"
  refine sumG_l ?_
  walk_at "dlt"
  refine sumG_l ?_
  walk_at "dlt"
  refine wS_forT (fun p : Int × Int => D.tup [.int p.1, .int p.2]) (fun i ρ' => ∃ (g : Beg) (y3 : Sl) (x6 x7 x8 x9 x10 x11 : Option Sl), ρ' = [some (.dat (.lst (lows.map D.int))), some (.dat (.lst (highs.map D.int))), some (.dat (.int S)), some y3, some (.dat (.int (loS (bs.drop i)))), some (.dat (.int (hiS (bs.drop i)))), x6, x7, x8, x9, x10, x11] ∧
    (y3 = .dat (.lst (g.map begE)) ∨ y3 = .own none (.lst (g.map begE))) ∧ runB (bs.drop i) g = runB bs [([], S)] ∧ (∀ x ∈ g, 0 ≤ x.2 ∧ x.2 ≤ S ∧ x.1.length ≤ i) ∧ ∀ j, potB j g ≤ cnt (i + j) S.toNat) (wI_zipL ?_)
  walk_at "dlt"
  refine ⟨_, _, rfl, bs, by rw [zip_intsL, hbs], ⟨[([], S)], .own none (.lst [begE ([], S)]), none, none, none, none, none, none, ?_, .inr rfl, rfl, fun x hx => ?_, fun j => ?_⟩, fun i b ρ' hi ⟨g, y3, x6, x7, x8, x9, x10, x11, e, hy, hr, hg, hp⟩ => ?_, fun ρ' ⟨g, y3, x6, x7, x8, x9, x10, x11, e, hy, hr, hg, hp⟩ => ?_⟩
  · rw [List.drop_zero]
    unfold loS hiS
    rw [e1, e2]
    rfl
  · rw [List.mem_singleton.mp hx]
    exact ⟨S0, Int.le_refl _, Nat.le_refl _⟩
  · unfold potB
    rw [List.map_cons, List.sum_cons, Nat.zero_add]
    exact Nat.le_refl _
  · subst e
    have bm := bb b (List.mem_of_getElem? hi)
    obtain ⟨hil, hb0⟩ := List.getElem?_eq_some_iff.mp hi
    have ed : bs.drop i = b :: bs.drop (i + 1) := by rw [← hb0]; exact List.drop_eq_getElem_cons hil
    have sd := sumD (i + 1)
    have elo : loS (bs.drop i) - b.1 = loS (bs.drop (i + 1)) := by unfold loS; rw [ed, List.map_cons, List.sum_cons]; omega
    have ehi : hiS (bs.drop i) - b.2 = hiS (bs.drop (i + 1)) := by unfold hiS; rw [ed, List.map_cons, List.sum_cons]; omega
    rw [ed] at hr
    obtain ⟨ps1, ps2⟩ : (∀ j, potB j (stepB b (bs.drop (i + 1)) g) ≤ potB (j + 1) g) ∧ ∀ x ∈ stepB b (bs.drop (i + 1)) g, 0 ≤ x.2 := ⟨fun j => (pot_step bm.1 sd.1.1 fun x hx => (hg x hx).1).1, (pot_step (j := 0) bm.1 sd.1.1 fun x hx => (hg x hx).1).2⟩
    have hp2 : ∀ j, potB j (stepB b (bs.drop (i + 1)) g) ≤ cnt (i + 1 + j) S.toNat := fun j => by
      have h1 := ps1 j
      have h2 := hp (j + 1)
      rw [show i + 1 + j = i + (j + 1) by omega]
      omega
    have len : (stepB b (bs.drop (i + 1)) g).length ≤ 18564 := by
      have h1 := hp2 0
      rw [pot_len] at h1
      exact Nat.le_trans h1 (cnt_top _ (by omega) _ (by omega))
    walk_at "dlt"
    rw [elo]
    walk_at "dlt"
    rw [ehi]
    have es : (g.flatMap fun x => (rng (mx b.1 (x.2 - hiS (bs.drop (i + 1)))) (mn b.2 (x.2 - loS (bs.drop (i + 1))))).map fun own => begE (x.1 ++ [own], x.2 - own)) = (stepB b (bs.drop (i + 1)) g).map begE := by
      unfold stepB
      rw [List.map_flatMap]
      refine congrArg (fun F => List.flatMap F g) (funext fun x => ?_)
      rw [List.map_map]
      rfl
    have lf : (g.flatMap fun x => rng (mx b.1 (x.2 - hiS (bs.drop (i + 1)))) (mn b.2 (x.2 - loS (bs.drop (i + 1))))).length ≤ 18564 := by
      have e2 := congrArg List.length es
      rw [List.length_map, List.length_flatMap] at e2
      simp only [List.length_map] at e2
      rw [List.length_flatMap]
      omega
    have hg2 : ∀ x ∈ stepB b (bs.drop (i + 1)) g, 0 ≤ x.2 ∧ x.2 ≤ S ∧ x.1.length ≤ i + 1 := fun y hy => by
      have y0 := ps2 y hy
      unfold stepB at hy
      obtain ⟨x, hx, hy⟩ := List.mem_flatMap.mp hy
      obtain ⟨own, ho, rfl⟩ := List.mem_map.mp hy
      have h1 := (mem_rng.mp ho).1
      have h2 := hg x hx
      unfold mx at h1
      refine ⟨y0, ?_, by rw [List.length_append]; simp; omega⟩
      show x.2 - own ≤ S
      split at h1 <;> omega
    rcases hy with rfl | rfl
    all_goals
      refine wE_lc2M (only_pair (by simp) (by simp)) (only_name (by simp)) begE D.int (fun x => rng (mx b.1 (x.2 - hiS (bs.drop (i + 1)))) (mn b.2 (x.2 - loS (bs.drop (i + 1))))) (fun x own => begE (x.1 ++ [own], x.2 - own)) (wI_any ?_)
      walk_at "dlt"
      refine ⟨_, rfl, g, rfl, by omega, fun x hx => ?_, ?_⟩
      · have xb := hg x hx
        unfold begE
        walk_at "dlt"
        refine wI_range2 ?_
        walk_at "dlt"
        refine ⟨_, _, rfl, by split <;> split <;> omega, ?_, fun own ho => ?_⟩
        · rw [rng_range]
          rfl
        · have := mem_rng.mp ho
          walk_at "dlt"
          refine addG_t (by rw [List.length_map]; simp; omega) ?_
          walk_at "dlt"
          rw [List.map_append]
          rfl
      walk_at "dlt"
      rw [es]
      exact ⟨stepB b (bs.drop (i + 1)) g, _, _, _, _, _, _, _, rfl, .inl rfl, hr, hg2, hp2⟩
  · subst e
    rw [List.drop_length] at hr
    have er : g.map (·.1) = tabs bs S := by
      have h1 := runB_eq bs [([], S)]
      rw [← hr] at h1
      unfold runB at h1
      rw [h1, List.flatMap_cons, List.flatMap_nil, List.append_nil, tabsP_eq (.inl (by intro e; rw [e] at bl; simp at bl; omega))]
      simp
    have gl : g.length ≤ 18564 := by
      have h1 := hp 0
      rw [pot_len] at h1
      exact Nat.le_trans h1 (cnt_top _ (by omega) _ (by omega))
    rcases hy with rfl | rfl
    all_goals
      walk_at "dlt"
      refine wE_lcM (only_pair (by simp) (by simp)) begE (fun x => intsD x.1) (wI_any ?_)
      walk_at "dlt"
      refine ⟨_, rfl, g, rfl, by omega, fun x hx => ?_, ?_⟩
      · unfold begE
        walk_at "dlt"
        rfl
      walk_at "dlt"
      rw [← er, List.map_map] at q
      exact q
end
section
variable {P : Program} {w : World} {K : PySem.W.Frag} {mg : Str → Option Value} {base : Heap} {f C : Addr} {fd : FuncData}
def bdsAt (rows : List (List Int)) (p : Int) : Bd2 := rows.map fun r => ((((r.filter fun c => decide (p < c)).length : Nat) : Int), (((r.filter fun c => decide (p ≤ c)).length : Nat) : Int))
theorem zip_maps {α β γ : Type} (f : α → β) (g : α → γ) : ∀ l : List α, (l.map f).zip (l.map g) = l.map fun x => (f x, g x)
  | [] => rfl
  | x :: l => by rw [List.map_cons, List.map_cons, List.zip_cons_cons, List.map_cons, zip_maps f g l]
def S_tables_made : DSp := fun ds Φ _ => ∃ (rows : List (List Int)) (S : Nat), ds = [rowsD rows, .int S] ∧ 1 ≤ rows.length ∧ rows.length ≤ 6 ∧ 1 ≤ S ∧ S ≤ 12 ∧ (∀ r ∈ rows, r.length = S) ∧ ∀ p, IsKth rows.flatten (S - 1) p → Φ (.tup ((tabs (bdsAt rows p) S).map intsD))
theorem flat_len {n : Nat} : ∀ {rows : List (List Int)}, (∀ r ∈ rows, r.length = n) → rows.flatten.length = rows.length * n
  | [], _ => by simp
  | r :: rows, h => by
    rw [List.flatten_cons, List.length_append, flat_len fun x hx => h x (List.mem_cons_of_mem _ hx), h r List.mem_cons_self, List.length_cons, Nat.succ_mul]
    omega
abbrev s_tables_made : Stmt := topS 62
abbrev N_tables_made : List Str := ["claims", "seats", "price"]
theorem sc_tables_made : FnScope N_tables_made ["claims", "seats"] (defScope s_tables_made) := ⟨rfl, rfl, rfl, by decide +kernel, rfl, by decide +kernel, by decide +kernel⟩
theorem ok_tables_made (F : FunX K "tables_made" "tables_made" s_tables_made f fd) (c_claim_at : CallD P w K mg base "claim_at" 1 S_claim_at) (c_tables_within : CallD P w K mg base "tables_within" 1 S_tables_within) (c_seats_above : CallD P w K mg base "seats_above" 1 S_seats_above) (c_seats_from : CallD P w K mg base "seats_from" 1 S_seats_from) :
    FnG P w K mg base 2 f fd ["claims", "seats"] (lift K S_tables_made) := by
  refine fnX_of F sc_tables_made (fun ds Φ Ψ ⟨_, _, h, _⟩ => by rw [h]; rfl) fun cdv A outer s H E b => ⟨_, (pss_cons (ps_set (i := 2) sc_tables_made.nd rfl (by first | exact .inl rfl | exact .inr rfl) (k_cd K c_claim_at (by exact b.room) (by decide) b.pass (pa_cons (pv 0) (pa_cons (pe_op op_sub (pv 1) pe_int) pa_nil))))
 (pss_one (ps_ret (k_cd K c_tables_within (by exact b.room) (by decide) b.pass (pa_cons (k_cd K c_seats_above (by exact b.room) (by decide) b.pass (pa_cons (pv 0) (pa_cons (pv 2) pa_nil))) (pa_cons (k_cd K c_seats_from (by exact b.room) (by decide) b.pass (pa_cons (pv 0) (pa_cons (pv 2) pa_nil))) (pa_cons (pv 1) pa_nil))))))), fun ds Φ Ψ ⟨rows, S, h, r1, r6, s1, s12, hr, q⟩ => ?_⟩
  subst h
  show wS _ _ _ [some (.dat _), some (.dat _), none]
  have fl := flat_len hr
  have fm : S ≤ rows.flatten.length := by rw [fl]; exact Nat.le_mul_of_pos_left _ (by omega)
  have fM : rows.flatten.length ≤ 72 := by
    rw [fl]
    have := Nat.mul_le_mul r6 s12
    omega
  walk_at "dlt"
  refine ⟨rows, S - 1, by rw [show ((S - 1 : Nat) : Int) = (S : Int) - 1 by omega], by omega, by omega, fun p _ hk => ?_, fun h => by omega⟩
  walk_at "dlt"
  refine ⟨rows, p, rfl, r6, fun r hm => by rw [hr r hm]; exact s12, ?_⟩
  walk_at "dlt"
  refine ⟨rows, p, rfl, r6, fun r hm => by rw [hr r hm]; exact s12, ?_⟩
  walk_at "dlt"
  have bd : ∀ (d : List Int → Int → Bool) (x : Int), x ∈ rows.map (fun r => (((r.filter (d r)).length : Nat) : Int)) → 0 ≤ x ∧ x ≤ 1000 := fun d x hx => by
    obtain ⟨r, hm, rfl⟩ := List.mem_map.mp hx
    have h1 := List.length_filter_le (d r) r
    have h2 := hr r hm
    omega
  refine ⟨_, _, (S : Int), rfl, by rw [List.length_map, List.length_map], by rw [List.length_map]; exact r1, by rw [List.length_map]; exact r6, bd (fun _ c => decide (p < c)), bd (fun _ c => decide (p ≤ c)), by omega, by omega, ?_⟩
  rw [zip_maps]
  exact q p hk
def S_check_night (C : Addr) : DSp := fun ds Φ _ => ∃ t : Tri, ds = [nightD C t] ∧ Φ .non
abbrev s_check_night : Stmt := topS 44
abbrev N_check_night : List Str := ["night"]
theorem sc_check_night : FnScope N_check_night ["night"] (defScope s_check_night) := ⟨rfl, rfl, rfl, by decide +kernel, rfl, by decide +kernel, by decide +kernel⟩
theorem ok_check_night (F : FunX K "check_night" "check_night" s_check_night f fd) (B : Blt mg) (IC : IsC K C) (c_Night : mg "Night" = some (.ref C)) : FnG P w K mg base 1 f fd ["night"] (lift K (S_check_night C)) := by
  refine fnX_of F sc_check_night (fun ds Φ Ψ ⟨_, h, _⟩ => by rw [h]; rfl) fun cdv A outer s H E b => ⟨_, (pss_one (ps_if (pt_not (pt_val (pe_callB (k_isi K) (by rfl) B.isinstance bb_isinstance (pa_cons (pv 0) (pa_cons (pe_gcls c_Night) pa_nil))))) (pss_one ps_never) pss_nil)), fun ds Φ Ψ ⟨t, h, q⟩ => ?_⟩
  subst h
  show wS _ _ _ [some (.dat _)]
  refine wS_if ?_
  refine wT_not ?_
  refine wT_B ?_
  refine wE_cb (cbd_isO IC) ?_
  walk_at "dlt"
  refine ⟨_, rfl, .inr ⟨_, rfl, ?_⟩⟩
  walk_at "dlt"
  exact q
def countsN (t : Tri) : List Int := t.2.1.map (·.2)
abbrev s_results : Stmt := topS 65
abbrev N_results : List Str := ["night"]
theorem sc_results : FnScope N_results ["night"] (defScope s_results) := ⟨rfl, rfl, rfl, by decide +kernel, rfl, by decide +kernel, by decide +kernel⟩
end
/-! ### small nights, drawn -/
section
variable {P : Program} {w : World} {K : PySem.W.Frag} {mg : Str → Option Value} {base : Heap} {f C : Addr} {fd : FuncData}
structure SmallOk (t : Tri) : Prop where
  ok : TriOk t
  s5 : t.1.length ≤ 5
  f4 : t.2.1.length ≤ 4
  c : ∀ p ∈ t.2.1, p.2 ≤ 601
  mn : ∀ p ∈ t.2.1, p.1 ∈ menu0
def S_small : DSp := fun ds Φ _ => ds = [.pail] ∧ ∀ t : Tri, SmallOk t → Φ (triD t)
abbrev s_l_small : Stmt := topS 82
abbrev N_l_small : List Str := ["_law_pail", "_law_tags_here", "_law_divs", "_law_folk", "_law_tag", "_law_near", "_law_many", "_law_heaps", "_law_k"]
theorem sc_l_small : FnScope N_l_small ["_law_pail"] (defScope s_l_small) := ⟨rfl, rfl, rfl, by decide +kernel, rfl, by decide +kernel, by decide +kernel⟩
theorem ok_small (F : FunX K "_law_small" "_law_small" s_l_small f fd) (B : Blt mg) (c_l_cast : CallD P w K mg base "_law_cast" 1 (pailS P_cast)) (c_l_any_of : CallD P w K mg base "_law_any_of" 2 S_any_of) (c_l_tags : CallD P w K mg base "_law_tags" 2 S_tags) (c_l_rising : CallD P w K mg base "_law_rising" 3 S_rising) (c_l_heap : CallD P w K mg base "_law_heap" 4 S_heap) :
    FnG P w K mg base 5 f fd ["_law_pail"] (lift K S_small) := by
  refine fnX_of F sc_l_small (fun ds Φ Ψ ⟨h, _⟩ => by rw [h]; rfl) fun cdv A outer s H E b => ⟨_, (pss_cons (ps_set (i := 1) sc_l_small.nd rfl (by first | exact .inl rfl | exact .inr rfl) (k_cd K c_l_tags (by exact b.room) (by decide) b.pass (pa_cons (pv 0) (pa_cons (pe_op (k_add K) pe_int (k_cd K c_l_cast (by exact b.room) (by decide) b.pass (pa_cons (pv 0) (pa_cons pe_int pa_nil)))) pa_nil))))
 (pss_cons (ps_par (i := 2) (j := 3) rfl sc_l_small.nd rfl rfl (by decide) rfl rfl (pa_cons (k_cd K c_l_rising (by exact b.room) (by decide) b.pass (pa_cons (pv 0) (pa_cons pe_int pa_nil))) (pa_cons (pe_tup pa_nil) pa_nil)) rfl)
 (pss_cons (ps_for b.own rfl (k_any K (pv 1)) (pg_name (i := 4) sc_l_small.nd rfl (by first | exact .inl rfl | exact .inr rfl)) (pss_cons (ps_set (i := 5) sc_l_small.nd rfl (by first | exact .inl rfl | exact .inr rfl) (pe_op opr_mul (k_cd K c_l_any_of (by exact b.room) (by decide) b.pass (pa_cons (pv 0) (pa_cons (pe_callTy (k_list K) (by rfl) B.list bb_list (pa_cons (pv 2) pa_nil)) pa_nil))) (k_cd K c_l_any_of (by exact b.room) (by decide) b.pass (pa_cons (pv 0) (pa_cons (pe_lst (pa_cons pe_int (pa_cons pe_int (pa_cons pe_int (pa_cons pe_int (pa_cons pe_int pa_nil)))))) pa_nil)))))
 (pss_cons (ps_set (i := 6) sc_l_small.nd rfl (by first | exact .inl rfl | exact .inr rfl) (k_cd K c_l_any_of (by exact b.room) (by decide) b.pass (pa_cons (pv 0) (pa_cons (pe_lst (pa_cons (pv 5) (pa_cons (pv 5) (pa_cons (pe_op (k_add K) (pv 5) pe_int) (pa_cons (k_cd K c_l_cast (by exact b.room) (by decide) b.pass (pa_cons (pv 0) (pa_cons pe_int pa_nil))) (pa_cons pe_int pa_nil)))))) pa_nil))))
 (pss_one (ps_set (i := 3) sc_l_small.nd rfl (by first | exact .inl rfl | exact .inr rfl) (pe_op (k_add K) (pv 3) (pe_tup (pa_cons (pe_tup (pa_cons (pv 4) (pa_cons (pv 6) pa_nil))) pa_nil))))))))
 (pss_cons (ps_setLc (i := 7) (own := [("_law_k", 8)]) rfl sc_l_small.nd rfl rfl (sw_true rfl rfl rfl (by decide +kernel)) (pi_range1 (by rfl) B.range (pa_cons (k_cd K c_l_cast (by exact b.room) (by decide) b.pass (pa_cons (pv 0) (pa_cons pe_int pa_nil))) pa_nil)) (blkOk_by (own := [("_law_k", 8)]) (N := N_l_small) (sc := defScope s_l_small) (by decide +kernel))  (fun _ _ _ _ _ => (pg_name (i := 8) sc_l_small.nd rfl (by first | exact .inl rfl | exact .inr rfl))) (fun _ _ _ _ _ => pts_nil) (fun _ _ _ _ _ => (pe_tup (pa_cons (k_cd K c_l_cast (by exact b.room) (by decide) passN (pa_cons (pv 0) (pa_cons pe_int pa_nil))) (pa_cons (pe_ix (k_ix K) (k_cd K c_l_heap (by exact b.room) (by decide) passN (pa_cons (pv 0) (pa_cons (pv 1) pa_nil))) pe_int (fun _ _ => rfl)) pa_nil)))))
 (pss_one (ps_ret (pe_lst (pa_cons (pv 2) (pa_cons (pv 3) (pa_cons (pe_callTy (k_tup K) (by rfl) B.tuple bb_tuple (pa_cons (pv 7) pa_nil)) pa_nil)))))))))), fun ds Φ Ψ ⟨h, q⟩ => ?_⟩
  subst h
  show wS _ _ _ [some (.dat _), none, none, none, none, none, none, none, none]
  walk_at "dlt"
  refine use_cast (by omega) (by omega) fun c hc => ?_
  walk_at "dlt"
  refine ⟨1 + c, by rw [show (1 : Int) + (c : Int) = ((1 + c : Nat) : Int) by omega], by omega, fun names nl tg => ?_⟩
  walk_at "dlt"
  refine ⟨5, rfl, by decide, by decide, fun ns hd h5 => ?_⟩
  walk_at "dlt"
  refine ⟨_, _, rfl, ?_⟩
  walk_at "dlt"
  show wS _ _ _ [some (.dat .pail), some (.dat (.lst (names.map D.str))), some (.dat (.tup (ns.map D.int))), some (.dat (.tup [])), none, none, none, none, none]
  have n1 := hd.l1
  refine wS_forT D.str (fun i ρ' => ∃ (l : List (Str × Int)) (x4 x5 x6 : Option Sl), ρ' = [some (.dat .pail), some (.dat (.lst (names.map D.str))), some (.dat (.tup (ns.map D.int))), some (.dat (.tup (l.map partyD))), x4, x5, x6, none, none] ∧ l.map (·.1) = names.take i ∧ ∀ p ∈ l, 0 ≤ p.2 ∧ p.2 ≤ 601) (wI_any ?_)
  walk_at "dlt"
  refine ⟨_, rfl, names, rfl, ⟨[], _, _, _, rfl, rfl, fun p hp => nomatch hp⟩, fun i z ρ' hi ⟨l, x4, x5, x6, e, hl, hb⟩ => ?_, fun ρ' ⟨l, x4, x5, x6, e, hl, hb⟩ => ?_⟩
  · subst e
    have ll : l.length = i := by
      have := congrArg List.length hl
      rw [List.length_map, List.length_take] at this
      have := (List.getElem?_eq_some_iff.mp hi).1
      omega
    have il := (List.getElem?_eq_some_iff.mp hi).1
    walk_at "dlt"
    refine ⟨_, rfl, by rw [List.length_map]; omega, by rw [List.length_map]; omega, fun y hy => ?_⟩
    obtain ⟨d, hdm, rfl⟩ := List.mem_map.mp hy
    have db := hd.b d hdm
    walk_at "dlt"
    refine ⟨_, rfl, by simp, by simp, fun y hy => ?_⟩
    obtain ⟨k, rfl, k1, k6⟩ : ∃ k : Int, y = .int k ∧ 1 ≤ k ∧ k ≤ 6 := by
      simp only [List.mem_cons, List.not_mem_nil, or_false] at hy
      rcases hy with rfl | rfl | rfl | rfl | rfl
      · exact ⟨_, rfl, by decide, by decide⟩
      · exact ⟨_, rfl, by decide, by decide⟩
      · exact ⟨_, rfl, by decide, by decide⟩
      · exact ⟨_, rfl, by decide, by decide⟩
      · exact ⟨_, rfl, by decide, by decide⟩
    have nb : 0 ≤ d * k ∧ d * k ≤ 600 := by
      have a := Int.mul_le_mul db.2 k6 (by omega) (by omega : (0 : Int) ≤ 100)
      have c := Int.mul_nonneg (show 0 ≤ d by omega) (show 0 ≤ k by omega)
      omega
    walk_at "dlt"
    generalize d * k = near at nb
    refine use_cast (by decide) (by decide) fun c2 hc2 => ?_
    walk_at "dlt"
    refine ⟨_, rfl, by simp, by simp, fun y hy => ?_⟩
    obtain ⟨m, rfl, m0, m1⟩ : ∃ m : Int, y = .int m ∧ 0 ≤ m ∧ m ≤ 601 := by
      simp only [List.mem_cons, List.not_mem_nil, or_false] at hy
      rcases hy with rfl | rfl | rfl | rfl | rfl
      · exact ⟨_, rfl, by omega, by omega⟩
      · exact ⟨_, rfl, by omega, by omega⟩
      · exact ⟨_, rfl, by omega, by omega⟩
      · exact ⟨_, rfl, by omega, by omega⟩
      · exact ⟨_, rfl, by omega, by omega⟩
    walk_at "dlt"
    refine addG_t (by rw [List.length_map]; simp; omega) ?_
    walk_at "dlt"
    refine ⟨l ++ [(z, m)], _, _, _, (by rw [List.map_append]; rfl), ?_, fun p hp => ?_⟩
    · rw [List.map_append, hl, take_next hi]
      rfl
    · rcases List.mem_append.mp hp with h1 | h1
      · exact hb p h1
      · rw [List.mem_singleton.mp h1]; exact ⟨m0, m1⟩
  · subst e
    rw [List.take_length] at hl
    have ll : l.length = 1 + c := by
      have := congrArg List.length hl
      rw [List.length_map] at this
      omega
    have hf : FolkOk l := ⟨by omega, by omega, fun p hp => ⟨tg.ok p.1 (by rw [← hl]; exact List.mem_map_of_mem hp), (hb p hp).1, by have := (hb p hp).2; omega⟩, by rw [hl]; exact tg.nd⟩
    walk_at "dlt"
    refine wE_lcR (only_name List.mem_cons_self) (fun i : Nat => .int (0 + (i : Int))) pileD (fun _ p => HeapOk names p) (wI_range1 ?_)
    walk_at "dlt"
    refine use_cast (by omega) (by omega) fun m hm => ?_
    walk_at "dlt"
    refine ⟨_, rfl, by omega, List.range m, by unfold rangeD; rw [show ((m : Int) - 0).toNat = m by omega], by rw [List.length_range]; omega, fun i hi => ?_, fun heaps hr2 => ?_⟩
    · walk_at "dlt"
      refine use_cast (by decide) (by decide) fun s hs => ?_
      walk_at "dlt"
      refine ⟨names, rfl, tg, by omega, by omega, fun p hp => ?_⟩
      unfold pileD
      walk_at "dlt"
      exact ⟨((s : Int), p.2), rfl, by show (0 : Int) ≤ (s : Int); omega, by show (s : Int) ≤ 1000000; omega, hp.ne, hp.sub⟩
    walk_at "dlt"
    have hl2 := hr2.1
    rw [List.length_range] at hl2
    exact q (ns, l, heaps) ⟨⟨hd, hf, by rw [hl]; exact ⟨by show heaps.length ≤ 6; omega, fun p hp => by obtain ⟨_, _, h⟩ := hr2.all hp; exact h⟩⟩, h5, by show l.length ≤ 4; omega, fun p hp => (hb p hp).2, fun p hp => tg.mn p.1 (by rw [← hl]; exact List.mem_map_of_mem hp)⟩
end
/-! ### is_table, price_bounds, is_made_by, is_result -/
section
variable {P : Program} {w : World} {K : PySem.W.Frag} {mg : Str → Option Value} {base : Heap} {f C : Addr} {fd : FuncData}
def S_is_row : DSp := fun ds Φ _ => ∃ (t : List Int) (n : Int), ds = [intsD t, .int n] ∧ (t.length : Int) = n ∧ n ≤ 100 ∧ (∀ x ∈ t, 0 ≤ x) ∧ Φ (.bl true)
abbrev s_is_row : Stmt := topS 29
abbrev N_is_row : List Str := ["value", "many", "item"]
theorem sc_is_row : FnScope N_is_row ["value", "many"] (defScope s_is_row) := ⟨rfl, rfl, rfl, by decide +kernel, rfl, by decide +kernel, by decide +kernel⟩
theorem ok_is_row (F : FunX K "is_row" "is_row" s_is_row f fd) (B : Blt mg) (c_is_tuple_of : CallD P w K mg base "is_tuple_of" 1 S_is_tuple_of) (c_is_integer : CallD P w K mg base "is_integer" 1 S_is_integer) : FnG P w K mg base 2 f fd ["value", "many"] (lift K S_is_row) := by
  refine fnX_of F sc_is_row (fun ds Φ Ψ ⟨_, _, h, _⟩ => by rw [h]; rfl) fun cdv A outer s H E b => ⟨_, (pss_one (ps_ret (pe_and (k_cd K c_is_tuple_of (by exact b.room) (by decide) b.pass (pa_cons (pv 0) (pa_cons (pv 1) pa_nil))) (pe_one (pe_callB (k_all K rfl) (by rfl) B.all bb_all (pa_cons (pe_lc (own := [("item", 2)]) rfl sc_is_row.nd (k_any K (pv 0)) (blkOk_by (own := [("item", 2)]) (N := N_is_row) (sc := defScope s_is_row) (by decide +kernel))  (fun _ _ _ _ _ => (pg_name (i := 2) sc_is_row.nd rfl (by first | exact .inl rfl | exact .inr rfl))) (fun _ _ _ _ _ => pts_nil) (fun _ _ _ _ _ => (pe_and (k_cd K c_is_integer (by exact b.room) (by decide) passN (pa_cons (pv 2) pa_nil)) (pe_one (pe_cmpR op_ge (pv 2) pe_int (nomark _)))))) pa_nil)))))), fun ds Φ Ψ ⟨t, n, h, hn, hm, ht, q⟩ => ?_⟩
  subst h
  show wS _ _ _ [some (.dat _), some (.dat _), none]
  have tl : (t.map D.int).length = t.length := List.length_map _
  walk_at "dlt"
  refine ⟨t.map D.int, n, rfl, by omega, ?_⟩
  walk_at "dlt"
  refine wE_lcM (only_name (by simp)) D.int (fun _ => .bl true) (wI_any ?_)
  walk_at "dlt"
  refine ⟨_, rfl, t, rfl, by omega, fun x hx => ?_, ?_⟩
  · have := ht x hx
    walk_at "dlt"
    refine ⟨x, rfl, ?_⟩
    walk_at "dlt"
    rw [decide_eq_true (by omega)]
  walk_at "dlt"
  refine allG_map (q := fun _ => true) ?_
  rw [List.all_eq_true.mpr fun _ _ => rfl]
  exact q
def S_is_table : DSp := fun ds Φ _ => ∃ (t : List Int) (n S : Int), ds = [intsD t, .int n, .int S] ∧ (t.length : Int) = n ∧ n ≤ 100 ∧ (∀ x ∈ t, 0 ≤ x) ∧ t.sum = S ∧ Φ (.bl true)
abbrev s_is_table : Stmt := topS 30
abbrev N_is_table : List Str := ["value", "many", "seats"]
theorem sc_is_table : FnScope N_is_table ["value", "many", "seats"] (defScope s_is_table) := ⟨rfl, rfl, rfl, by decide +kernel, rfl, by decide +kernel, by decide +kernel⟩
theorem ok_is_table (F : FunX K "is_table" "is_table" s_is_table f fd) (B : Blt mg) (c_is_row : CallD P w K mg base "is_row" 2 S_is_row) : FnG P w K mg base 3 f fd ["value", "many", "seats"] (lift K S_is_table) := by
  refine fnX_of F sc_is_table (fun ds Φ Ψ ⟨_, _, _, h, _⟩ => by rw [h]; rfl) fun cdv A outer s H E b => ⟨_, (pss_one (ps_ret (pe_and (k_cd K c_is_row (by exact b.room) (by decide) b.pass (pa_cons (pv 0) (pa_cons (pv 1) pa_nil))) (pe_one (pe_cmpR (k_eq K (by exact b.room)) (pe_callB (k_sumA K rfl) (by rfl) B.sum bb_sum (pa_cons (pv 0) pa_nil)) (pv 2) (nomark _)))))), fun ds Φ Ψ ⟨t, n, S, h, hn, hm, ht, hs, q⟩ => ?_⟩
  subst h
  show wS _ _ _ [some (.dat _), some (.dat _), some (.dat _)]
  have tl : (t.map D.int).length = t.length := List.length_map _
  walk_at "dlt"
  refine ⟨t, n, rfl, hn, hm, ht, ?_⟩
  walk_at "dlt"
  unfold intsD
  walk_at "dlt"
  refine sumG_t ?_
  walk_at "dlt"
  rw [decide_eq_true hs]
  exact q
def S_check_table (C : Addr) : DSp := fun ds Φ _ => ∃ (t : Tri) (l : List Int), ds = [nightD C t, intsD l] ∧ TriOk t ∧ l.length = t.2.1.length ∧ (∀ x ∈ l, 0 ≤ x) ∧ l.sum = (t.1.length : Int) ∧ Φ .non
abbrev s_check_table : Stmt := topS 45
abbrev N_check_table : List Str := ["night", "table"]
theorem sc_check_table : FnScope N_check_table ["night", "table"] (defScope s_check_table) := ⟨rfl, rfl, rfl, by decide +kernel, rfl, by decide +kernel, by decide +kernel⟩
theorem ok_check_table (F : FunX K "check_table" "check_table" s_check_table f fd) (B : Blt mg) (c_is_table : CallD P w K mg base "is_table" 3 S_is_table) (c_len : LenB P w K mg base C 1 (S_getL C)) (c_p_seats : PropB P w K mg base C "seats" 1 (S_getS C)) : FnG P w K mg base 4 f fd ["night", "table"] (lift K (S_check_table C)) := by
  refine fnX_of F sc_check_table (fun ds Φ Ψ ⟨_, _, h, _⟩ => by rw [h]; rfl) fun cdv A outer s H E b => ⟨_, (pss_one (ps_if (pt_not (pt_val (k_cd K c_is_table (by exact b.room) (by decide) b.pass (pa_cons (pv 1) (pa_cons (pe_callB (k_lenO K c_len (by exact b.room) (by decide)) (by rfl) B.len bb_len (pa_cons (pv 0) pa_nil)) (pa_cons (k_pr K c_p_seats (by exact b.room) (by decide) (pv 0)) pa_nil)))))) (pss_one ps_never) pss_nil)), fun ds Φ Ψ ⟨t, l, h, ht, hl, h0, hs, q⟩ => ?_⟩
  subst h
  show wS _ _ _ [some (.dat _), some (.dat _)]
  have f2 := ht.f.l2
  walk_at "dlt"
  refine ⟨_, rfl, t, rfl, t.2.1.length, rfl, by omega, ?_⟩
  walk_at "dlt"
  refine ⟨_, rfl, t, rfl, ?_⟩
  walk_at "dlt"
  refine ⟨l, _, _, rfl, by omega, by omega, h0, hs, ?_⟩
  walk_at "dlt"
  exact q
def S_is_below : DSp := fun ds Φ _ => ∃ a c d e : Int, ds = [.tup [.int a, .int c], .tup [.int d, .int e]] ∧ (-(2 ^ 64) < c ∧ c < 2 ^ 64) ∧ (-(2 ^ 64) < e ∧ e < 2 ^ 64) ∧ Φ (.bl (decide (a * e < d * c)))
abbrev s_is_below : Stmt := topS 49
abbrev N_is_below : List Str := ["one", "other"]
theorem sc_is_below : FnScope N_is_below ["one", "other"] (defScope s_is_below) := ⟨rfl, rfl, rfl, by decide +kernel, rfl, by decide +kernel, by decide +kernel⟩
theorem ok_is_below (F : FunX K "is_below" "is_below" s_is_below f fd) (B : Blt mg) : FnG P w K mg base 1 f fd ["one", "other"] (lift K S_is_below) := by
  refine fnX_of F sc_is_below (fun ds Φ Ψ ⟨_, _, _, _, h, _⟩ => by rw [h]; rfl) fun cdv A outer s H E b => ⟨_, (pss_one (ps_ret (pe_cmpR op_lt (pe_op opr_mul (pe_ix (k_ix K) (pv 0) pe_int (fun _ _ => rfl)) (pe_ix (k_ix K) (pv 1) pe_int (fun _ _ => rfl))) (pe_op opr_mul (pe_ix (k_ix K) (pv 1) pe_int (fun _ _ => rfl)) (pe_ix (k_ix K) (pv 0) pe_int (fun _ _ => rfl))) (nomark _)))), fun ds Φ Ψ ⟨a, c, d, e, h, hc, he, q⟩ => ?_⟩
  subst h
  show wS _ _ _ [some (.dat _), some (.dat _)]
  obtain ⟨c1, c2⟩ := hc
  obtain ⟨e1, e2⟩ := he
  walk_at "dlt"
  exact q
def pq (p : Int × Int) : D := .tup [.int p.1, .int p.2]
def gD : Option (Int × Int) → D
  | none => .non
  | some p => pq p
/-- the greatest claim to one seat more, or 0 -/
def LeastZ (ns : List Int) (zs : List (Int × Int)) (p : Int × Int) : Prop := 1 ≤ p.2 ∧ p.2 ≤ 100 ∧ 0 ≤ p.1 ∧ (∀ z ∈ zs, ∀ d, ns[z.2.toNat]? = some d → z.1 * p.2 ≤ p.1 * d) ∧ (p = (0, 1) ∨ ∃ z ∈ zs, ns[z.2.toNat]? = some p.2 ∧ z.1 = p.1)
/-- the least claim to a last seat -/
def GreatZ (ns : List Int) (zs : List (Int × Int)) : Option (Int × Int) → Prop
  | none => ∀ z ∈ zs, z.2 ≤ 0
  | some p => 1 ≤ p.2 ∧ p.2 ≤ 100 ∧ 0 ≤ p.1 ∧ (∀ z ∈ zs, 0 < z.2 → ∀ d, ns[(z.2 - 1).toNat]? = some d → p.1 * d ≤ z.1 * p.2) ∧ ∃ z ∈ zs, 0 < z.2 ∧ ns[(z.2 - 1).toNat]? = some p.2 ∧ z.1 = p.1
theorem q_trans {x e a b c d : Int} (hb : 0 < b) (he : 0 ≤ e) (hd : 0 ≤ d) (h1 : x * b ≤ a * e) (h2 : a * d ≤ c * b) : x * d ≤ c * e := by
  have h3 := Int.mul_le_mul_of_nonneg_right h1 hd
  have h4 := Int.mul_le_mul_of_nonneg_right h2 he
  have e1 : x * b * d = x * d * b := by rw [Int.mul_assoc, Int.mul_comm b d, ← Int.mul_assoc]
  have e2 : a * e * d = a * d * e := by rw [Int.mul_assoc, Int.mul_comm e d, ← Int.mul_assoc]
  have e3 : c * b * e = c * e * b := by rw [Int.mul_assoc, Int.mul_comm b e, ← Int.mul_assoc]
  rw [e1, e2] at h3
  rw [e3] at h4
  exact Int.le_of_mul_le_mul_right (Int.le_trans h3 h4) hb
theorem least_keep {ns : List Int} {zs : List (Int × Int)} {p : Int × Int} {c o : Int} (h : LeastZ ns zs p) (hk : ∀ d, ns[o.toNat]? = some d → c * p.2 ≤ p.1 * d) : LeastZ ns (zs ++ [(c, o)]) p := by
  obtain ⟨h1, h2, h3, h4, h5⟩ := h
  refine ⟨h1, h2, h3, fun z hz => ?_, h5.imp id fun ⟨z, hz, r⟩ => ⟨z, List.mem_append_left _ hz, r⟩⟩
  rcases List.mem_append.mp hz with hz | hz
  · exact h4 z hz
  · rw [List.mem_singleton.mp hz]; exact hk
theorem least_new {ns : List Int} {zs : List (Int × Int)} {p : Int × Int} {c o d : Int} (dv : ∀ d ∈ ns, 1 ≤ d ∧ d ≤ 100) (c0 : 0 ≤ c) (h : LeastZ ns zs p) (hd : ns[o.toNat]? = some d) (hk : p.1 * d ≤ c * p.2) : LeastZ ns (zs ++ [(c, o)]) (c, d) := by
  obtain ⟨h1, h2, h3, h4, h5⟩ := h
  have db := dv d (List.mem_of_getElem? hd)
  refine ⟨db.1, db.2, c0, fun z hz e he => ?_, .inr ⟨(c, o), List.mem_append_right _ (List.mem_singleton.mpr rfl), hd, rfl⟩⟩
  have eb := dv e (List.mem_of_getElem? he)
  rcases List.mem_append.mp hz with hz | hz
  · exact q_trans (b := p.2) (by omega) (by omega) (by omega) (h4 z hz e he) hk
  · rw [List.mem_singleton.mp hz] at he ⊢
    have : e = d := by rw [hd] at he; cases he; rfl
    rw [this]
    exact Int.le_refl _
theorem great_keep {ns : List Int} {zs : List (Int × Int)} {p : Int × Int} {c o : Int} (h : GreatZ ns zs (some p)) (hk : 0 < o → ∀ d, ns[(o - 1).toNat]? = some d → p.1 * d ≤ c * p.2) : GreatZ ns (zs ++ [(c, o)]) (some p) := by
  obtain ⟨h1, h2, h3, h4, z, hz, r⟩ := h
  refine ⟨h1, h2, h3, fun z hz => ?_, z, List.mem_append_left _ hz, r⟩
  rcases List.mem_append.mp hz with hz | hz
  · exact h4 z hz
  · rw [List.mem_singleton.mp hz]; exact hk
theorem great_zero {ns : List Int} {zs : List (Int × Int)} {g : Option (Int × Int)} {c o : Int} (h : GreatZ ns zs g) (ho : o ≤ 0) : GreatZ ns (zs ++ [(c, o)]) g := by
  cases g with
  | some p => exact great_keep h fun h => by omega
  | none =>
    intro z hz
    rcases List.mem_append.mp hz with hz | hz
    · exact h z hz
    · rw [List.mem_singleton.mp hz]; exact ho
theorem great_first {ns : List Int} {zs : List (Int × Int)} {c o d : Int} (dv : ∀ d ∈ ns, 1 ≤ d ∧ d ≤ 100) (c0 : 0 ≤ c) (h : GreatZ ns zs none) (ho : 0 < o) (hd : ns[(o - 1).toNat]? = some d) : GreatZ ns (zs ++ [(c, o)]) (some (c, d)) := by
  have db := dv d (List.mem_of_getElem? hd)
  refine ⟨db.1, db.2, c0, fun z hz hp e he => ?_, (c, o), List.mem_append_right _ (List.mem_singleton.mpr rfl), ho, hd, rfl⟩
  rcases List.mem_append.mp hz with hz | hz
  · have := h z hz; omega
  · rw [List.mem_singleton.mp hz] at he ⊢
    have : e = d := by rw [hd] at he; cases he; rfl
    rw [this]
    exact Int.le_refl _
theorem great_new {ns : List Int} {zs : List (Int × Int)} {p : Int × Int} {c o d : Int} (dv : ∀ d ∈ ns, 1 ≤ d ∧ d ≤ 100) (c0 : 0 ≤ c) (h : GreatZ ns zs (some p)) (ho : 0 < o) (hd : ns[(o - 1).toNat]? = some d) (hk : c * p.2 ≤ p.1 * d) : GreatZ ns (zs ++ [(c, o)]) (some (c, d)) := by
  obtain ⟨h1, h2, h3, h4, h5⟩ := h
  have db := dv d (List.mem_of_getElem? hd)
  refine ⟨db.1, db.2, c0, fun z hz hp e he => ?_, (c, o), List.mem_append_right _ (List.mem_singleton.mpr rfl), ho, hd, rfl⟩
  have eb := dv e (List.mem_of_getElem? he)
  rcases List.mem_append.mp hz with hz | hz
  · exact q_trans (b := p.2) (by omega) (by omega) (by omega) hk (h4 z hz hp e he)
  · rw [List.mem_singleton.mp hz] at he ⊢
    have : e = d := by rw [hd] at he; cases he; rfl
    rw [this]
    exact Int.le_refl _
def S_price_bounds : DSp := fun ds Φ _ => ∃ ns cs t : List Int, ds = [divsD ns, intsD cs, intsD t] ∧ DivOk ns ∧ cs.length ≤ 6 ∧ (∀ c ∈ cs, 0 ≤ c ∧ c ≤ 1000000) ∧ (∀ o ∈ t, 0 ≤ o ∧ o ≤ ns.length) ∧ ∀ p g, LeastZ ns (cs.zip t) p → GreatZ ns (cs.zip t) g → Φ (.tup [pq p, gD g])
abbrev s_price_bounds : Stmt := topS 52
abbrev N_price_bounds : List Str := ["divisors", "counts", "table", "least", "greatest", "count", "own"]
theorem sc_price_bounds : FnScope N_price_bounds ["divisors", "counts", "table"] (defScope s_price_bounds) := ⟨rfl, rfl, rfl, by decide +kernel, rfl, by decide +kernel, by decide +kernel⟩
theorem ok_price_bounds {aZ : Addr} (F : FunX K "price_bounds" "price_bounds" s_price_bounds f fd) (B : Blt mg) (c_ZERO : GTup K mg "ZERO" aZ [.int 0, .int 1]) (c_is_below : CallD P w K mg base "is_below" 1 S_is_below) : FnG P w K mg base 2 f fd ["divisors", "counts", "table"] (lift K S_price_bounds) := by
  refine fnX_of F sc_price_bounds (fun ds Φ Ψ ⟨_, _, _, h, _⟩ => by rw [h]; rfl) fun cdv A outer s H E b => ⟨_, (pss_cons (ps_set (i := 3) sc_price_bounds.nd rfl (by first | exact .inl rfl | exact .inr rfl) (pe_gt c_ZERO))
 (pss_cons (ps_set (i := 4) sc_price_bounds.nd rfl (by first | exact .inl rfl | exact .inr rfl) pe_non)
 (pss_cons (ps_for b.own rfl (k_zip K (by rfl) B.zip (pa_cons (pv 1) (pa_cons (pv 2) pa_nil))) (k_pg K (n := 2) rfl (pgs_cons (pg_name (i := 5) sc_price_bounds.nd rfl (by first | exact .inl rfl | exact .inr rfl)) (pgs_cons (pg_name (i := 6) sc_price_bounds.nd rfl (by first | exact .inl rfl | exact .inr rfl)) pgs_nil))) (pss_cons (ps_if (PW.pt (pw_and (pt_cmpR op_lt (pv 6) (pe_callB (k_len K) (by rfl) B.len bb_len (pa_cons (pv 0) pa_nil)) (nomark _)) (pw_and1 (pt_val (k_cd K c_is_below (by exact b.room) (by decide) b.pass (pa_cons (pv 3) (pa_cons (pe_tup (pa_cons (pv 5) (pa_cons (pe_ix (k_ix K) (pv 0) (pv 6) (fun _ _ => rfl)) pa_nil))) pa_nil))))))) (pss_one (ps_set (i := 3) sc_price_bounds.nd rfl (by first | exact .inl rfl | exact .inr rfl) (pe_tup (pa_cons (pv 5) (pa_cons (pe_ix (k_ix K) (pv 0) (pv 6) (fun _ _ => rfl)) pa_nil))))) pss_nil)
 (pss_one (ps_if (PW.pt (pw_and (pt_cmpR op_gt (pv 6) pe_int (nomark _)) (pw_and1 (PW.pt (pw_or (pt_cmpR op_isN (pv 4) pe_non (nomark _)) (pw_or1 (pt_val (k_cd K c_is_below (by exact b.room) (by decide) b.pass (pa_cons (pe_tup (pa_cons (pv 5) (pa_cons (pe_ix (k_ix K) (pv 0) (pe_op op_sub (pv 6) pe_int) (fun _ _ => rfl)) pa_nil))) (pa_cons (pv 4) pa_nil)))))))))) (pss_one (ps_set (i := 4) sc_price_bounds.nd rfl (by first | exact .inl rfl | exact .inr rfl) (pe_tup (pa_cons (pv 5) (pa_cons (pe_ix (k_ix K) (pv 0) (pe_op op_sub (pv 6) pe_int) (fun _ _ => rfl)) pa_nil))))) pss_nil))))
 (pss_one (ps_ret (pe_tup (pa_cons (pv 3) (pa_cons (pv 4) pa_nil)))))))), fun ds Φ Ψ ⟨ns, cs, t, h, dv, c6, hc, ht, q⟩ => ?_⟩
  subst h
  show wS _ _ _ [some (.dat _), some (.dat _), some (.dat _), none, none, none, none]
  have l2 := dv.l2
  have nl : (ns.map D.int).length = ns.length := List.length_map _
  have dg : ∀ {i : Nat} {d : Int}, ns[i]? = some d → (ns.map D.int)[i]? = some (.int d) := fun h => by rw [List.getElem?_map, h]; rfl
  walk_at "dlt"
  refine wE_gt (ds := [.int 0, .int 1]) c_ZERO (fun H => .cons (.int 0) (.cons (.int 1) .nil)) ?_
  walk_at "dlt"
  refine wS_forT (fun z : Int × Int => D.tup [.int z.1, .int z.2]) (fun i ρ' => ∃ (p : Int × Int) (g : Option (Int × Int)) (x5 x6 : Option Sl), ρ' = [some (.dat (.tup (ns.map D.int))), some (.dat (.tup (cs.map D.int))), some (.dat (.tup (t.map D.int))), some (.dat (.tup [.int p.1, .int p.2])), some (.dat (gD g)), x5, x6] ∧ LeastZ ns ((cs.zip t).take i) p ∧ GreatZ ns ((cs.zip t).take i) g) (wI_zipT ?_)
  walk_at "dlt"
  refine ⟨_, _, rfl, cs.zip t, zip_intsL cs t, ⟨(0, 1), none, none, none, rfl, ⟨by decide, by decide, by decide, fun z hz => (by cases hz), .inl rfl⟩, fun z hz => by cases hz⟩, fun i z ρ' hi ⟨p, g, x5, x6, e, hp, hg⟩ => ?_, fun ρ' ⟨p, g, x5, x6, e, hp, hg⟩ => ?_⟩
  · subst e
    obtain ⟨c, o⟩ := z
    have zm := List.mem_of_getElem? hi
    have cb := hc c (List.of_mem_zip zm).1
    have ob := ht o (List.of_mem_zip zm).2
    have hn := take_next hi
    have nz : ∀ {k : Int} {d : Int}, 0 ≤ k → ns[k.toNat]? = some d → L2.atI (ns.map D.int) k = some (.int d) := fun {k d} h0 h => by
      have := L2.atI_nat (j := k.toNat) (dg h)
      rwa [Int.toNat_of_nonneg h0] at this
    have p1 := hp.1
    have p2 := hp.2.1
    have p3 := hp.2.2.1
    refine wG_tup ⟨_, rfl, rfl, ?_⟩
    refine wGs_cons (wG_name ?_)
    refine wGs_cons (wG_name ?_)
    refine wGs_nil ?_
    refine wS_seq ?_
    show wS _ _ _ [some (.dat (.tup (ns.map D.int))), some (.dat (.tup (cs.map D.int))), some (.dat (.tup (t.map D.int))), some (.dat (.tup [.int p.1, .int p.2])), some (.dat (gD g)), some (.dat (.int c)), some (.dat (.int o))]
    refine wS_then (fun ρ' => ∃ p : Int × Int, ρ' = [some (.dat (.tup (ns.map D.int))), some (.dat (.tup (cs.map D.int))), some (.dat (.tup (t.map D.int))), some (.dat (.tup [.int p.1, .int p.2])), some (.dat (gD g)), some (.dat (.int c)), some (.dat (.int o))] ∧ LeastZ ns ((cs.zip t).take (i + 1)) p) ?_ ?_
    · have hnone : ¬ o < ns.length → LeastZ ns ((cs.zip t).take (i + 1)) p := fun h => by
        rw [hn]
        refine least_keep hp fun d hd => ?_
        have := (List.getElem?_eq_some_iff.mp hd).1
        omega
      by_cases hz : o < (ns.length : Int)
      · have hlt : o.toNat < ns.length := by omega
        have hd := List.getElem?_eq_getElem hlt
        have db := dv.b _ (List.getElem_mem hlt)
        generalize ns[o.toNat] = d at hd db
        have hx := nz ob.1 hd
        walk_at "dlt"
        refine ixG_t hx ?_
        walk_at "dlt"
        refine ⟨p.1, p.2, c, d, rfl, by omega, by omega, ?_⟩
        refine ⟨_, rfl, ?_⟩
        refine ifD (fun hw => ?_) (fun hw => ?_)
        · walk_at "dlt"
          refine ixG_t hx ?_
          walk_at "dlt"
          exact ⟨(c, d), rfl, by rw [hn]; exact least_new dv.b cb.1 hp hd (Int.le_of_lt hw)⟩
        · walk_at "dlt"
          refine ⟨p, rfl, ?_⟩
          rw [hn]
          refine least_keep hp fun e he => ?_
          have : e = d := by rw [hd] at he; cases he; rfl
          rw [this]
          omega
      · walk_at "dlt"
        exact ⟨p, rfl, hnone hz⟩
    · rintro ρ' ⟨p', e, hp'⟩
      subst e
      clear hp p1 p2 p3
      by_cases ho : 0 < o
      · have hlt : (o - 1).toNat < ns.length := by omega
        have hd := List.getElem?_eq_getElem hlt
        have db := dv.b _ (List.getElem_mem hlt)
        generalize ns[(o - 1).toNat] = d at hd db
        have hx := nz (k := o - 1) (by omega) hd
        cases g with
        | none =>
          show wS _ _ _ [some (.dat (.tup (ns.map D.int))), some (.dat (.tup (cs.map D.int))), some (.dat (.tup (t.map D.int))), some (.dat (.tup [.int p'.1, .int p'.2])), some (.dat .non), some (.dat (.int c)), some (.dat (.int o))]
          walk_at "dlt"
          refine ixG_t hx ?_
          walk_at "dlt"
          exact ⟨p', some (c, d), _, _, rfl, hp', by rw [hn]; exact great_first dv.b cb.1 hg ho hd⟩
        | some g =>
          show wS _ _ _ [some (.dat (.tup (ns.map D.int))), some (.dat (.tup (cs.map D.int))), some (.dat (.tup (t.map D.int))), some (.dat (.tup [.int p'.1, .int p'.2])), some (.dat (.tup [.int g.1, .int g.2])), some (.dat (.int c)), some (.dat (.int o))]
          have g1 := hg.1
          have g2 := hg.2.1
          have g3 := hg.2.2.1
          walk_at "dlt"
          refine ixG_t hx ?_
          walk_at "dlt"
          refine ⟨c, d, g.1, g.2, rfl, by omega, by omega, ?_⟩
          refine ⟨_, rfl, ?_⟩
          refine ifD (fun hw => ?_) (fun hw => ?_)
          · walk_at "dlt"
            refine ixG_t hx ?_
            walk_at "dlt"
            exact ⟨p', some (c, d), _, _, rfl, hp', by rw [hn]; exact great_new dv.b cb.1 hg ho hd (Int.le_of_lt hw)⟩
          · walk_at "dlt"
            refine ⟨p', some g, _, _, rfl, hp', ?_⟩
            rw [hn]
            refine great_keep hg fun _ e he => ?_
            have : e = d := by rw [hd] at he; cases he; rfl
            rw [this]
            omega
      · walk_at "dlt"
        exact ⟨p', g, _, _, rfl, hp', by rw [hn]; exact great_zero hg (by omega)⟩
  · subst e
    walk_at "dlt"
    rw [List.take_length] at hp hg
    exact q p g hp hg
/-- a party has a greater claim to one seat more than another one to its last seat -/
def SwapZ (ns : List Int) (zs : List (Int × Int)) : Prop := ∃ z ∈ zs, ∃ y ∈ zs, 0 < y.2 ∧ ∃ d e, ns[z.2.toNat]? = some d ∧ ns[(y.2 - 1).toNat]? = some e ∧ y.1 * d < z.1 * e
theorem made_swap {ns : List Int} {zs : List (Int × Int)} {p g : Int × Int} (dv : ∀ d ∈ ns, 1 ≤ d ∧ d ≤ 100) (hp : LeastZ ns zs p) (hg : GreatZ ns zs (some g)) : g.1 * p.2 < p.1 * g.2 ↔ SwapZ ns zs := by
  obtain ⟨p1, p2, p3, p4, p5⟩ := hp
  obtain ⟨g1, g2, g3, g4, y, hy, y0, hye, hyg⟩ := hg
  constructor
  · intro h
    rcases p5 with rfl | ⟨z, hz, hzd, hzp⟩
    · simp at h
      omega
    · exact ⟨z, hz, y, hy, y0, p.2, g.2, hzd, hye, by rw [hyg, hzp]; exact h⟩
  · rintro ⟨z, hz, y', hy', y0', d, e, hd, he, hlt⟩
    have h1 := p4 z hz d hd
    have h2 := g4 y' hy' y0' e he
    have db := dv d (List.mem_of_getElem? hd)
    have eb := dv e (List.mem_of_getElem? he)
    refine Int.not_le.mp fun h => ?_
    -- z / d <= p <= g <= y' / e
    have h3 := q_trans (x := z.1) (e := d) (a := p.1) (b := p.2) (c := g.1) (d := g.2) (by omega) (by omega) (by omega) h1 h
    have h4 := q_trans (x := z.1) (e := d) (a := g.1) (b := g.2) (c := y'.1) (d := e) (by omega) (by omega) (by omega) h3 h2
    omega
open Classical in
def S_is_made_by : DSp := fun ds Φ _ => ∃ ns cs t : List Int, ds = [divsD ns, intsD cs, intsD t] ∧ DivOk ns ∧ cs.length ≤ 6 ∧ (∀ c ∈ cs, 0 ≤ c ∧ c ≤ 1000000) ∧ (∀ o ∈ t, 0 ≤ o ∧ o ≤ ns.length) ∧ (∃ z ∈ cs.zip t, 0 < z.2) ∧ Φ (.bl (!decide (SwapZ ns (cs.zip t))))
abbrev s_is_made_by : Stmt := topS 53
abbrev N_is_made_by : List Str := ["divisors", "counts", "table", "least", "greatest"]
theorem sc_is_made_by : FnScope N_is_made_by ["divisors", "counts", "table"] (defScope s_is_made_by) := ⟨rfl, rfl, rfl, by decide +kernel, rfl, by decide +kernel, by decide +kernel⟩
theorem ok_is_made_by (F : FunX K "is_made_by" "is_made_by" s_is_made_by f fd) (B : Blt mg) (c_price_bounds : CallD P w K mg base "price_bounds" 2 S_price_bounds) (c_is_below : CallD P w K mg base "is_below" 1 S_is_below) : FnG P w K mg base 3 f fd ["divisors", "counts", "table"] (lift K S_is_made_by) := by
  refine fnX_of F sc_is_made_by (fun ds Φ Ψ ⟨_, _, _, h, _⟩ => by rw [h]; rfl) fun cdv A outer s H E b => ⟨_, (pss_cons (ps_asg (k_cd K c_price_bounds (by exact b.room) (by decide) b.pass (pa_cons (pv 0) (pa_cons (pv 1) (pa_cons (pv 2) pa_nil)))) (k_pg K (n := 2) rfl (pgs_cons (pg_name (i := 3) sc_is_made_by.nd rfl (by first | exact .inl rfl | exact .inr rfl)) (pgs_cons (pg_name (i := 4) sc_is_made_by.nd rfl (by first | exact .inl rfl | exact .inr rfl)) pgs_nil))))
 (pss_one (ps_ret (pe_not (k_cd K c_is_below (by exact b.room) (by decide) b.pass (pa_cons (pv 4) (pa_cons (pv 3) pa_nil))))))), fun ds Φ Ψ ⟨ns, cs, t, h, dv, c6, hc, ht, hs, q⟩ => ?_⟩
  subst h
  show wS _ _ _ [some (.dat _), some (.dat _), some (.dat _), none, none]
  walk_at "dlt"
  refine ⟨ns, cs, t, rfl, dv, c6, hc, ht, fun p g hp hg => ?_⟩
  cases g with
  | none =>
    obtain ⟨z, hz, h0⟩ := hs
    have := hg z hz
    omega
  | some g =>
    have p1 := hp.1
    have p2 := hp.2.1
    have g1 := hg.1
    have g2 := hg.2.1
    unfold pq gD pq
    walk_at "dlt"
    refine ⟨g.1, g.2, p.1, p.2, rfl, by omega, by omega, ?_⟩
    have := made_swap dv.b hp hg
    walk_at "dlt"
    rw [decide_eq_decide.mpr this]
    exact q
open Classical in
def S_is_result (C : Addr) : DSp := fun ds Φ _ => ∃ (t : Tri) (l : List Int), ds = [nightD C t, intsD l] ∧ TriOk t ∧ l.length = t.2.1.length ∧ (∀ x ∈ l, 0 ≤ x) ∧ l.sum = (t.1.length : Int) ∧ Φ (.bl (!decide (SwapZ t.1 ((countsN t).zip l))))
theorem sum_nn : ∀ {l : List Int}, (∀ x ∈ l, 0 ≤ x) → 0 ≤ l.sum
  | [], _ => Int.le_refl _
  | a :: l, h => by
    have := sum_nn fun y hy => h y (List.mem_cons_of_mem _ hy)
    have := h a List.mem_cons_self
    rw [List.sum_cons]
    omega
theorem sumI_le : ∀ {l : List Int}, (∀ x ∈ l, 0 ≤ x) → ∀ x ∈ l, x ≤ l.sum
  | [], _, x, hx => by cases hx
  | a :: l, h, x, hx => by
    have a0 := h a List.mem_cons_self
    have hl := fun y hy => h y (List.mem_cons_of_mem a hy)
    have s0 := sum_nn hl
    rw [List.sum_cons]
    rcases List.mem_cons.mp hx with rfl | hx
    · omega
    · have := sumI_le hl x hx; omega
theorem zip_some {cs l : List Int} (hl : l.length = cs.length) (h : 0 < l.sum) : ∃ z ∈ cs.zip l, 0 < z.2 := by
  induction l generalizing cs with
  | nil => simp at h
  | cons a l ih =>
    match cs, hl with
    | c :: cs, hl =>
      rw [List.sum_cons] at h
      by_cases ha : 0 < a
      · exact ⟨(c, a), by rw [List.zip_cons_cons]; exact List.mem_cons_self, ha⟩
      · obtain ⟨z, hz, h0⟩ := ih (cs := cs) (by simpa using hl) (by omega)
        exact ⟨z, by rw [List.zip_cons_cons]; exact List.mem_cons_of_mem _ hz, h0⟩
abbrev s_is_result : Stmt := topS 64
abbrev N_is_result : List Str := ["night", "table"]
theorem sc_is_result : FnScope N_is_result ["night", "table"] (defScope s_is_result) := ⟨rfl, rfl, rfl, by decide +kernel, rfl, by decide +kernel, by decide +kernel⟩
theorem ok_is_result (F : FunX K "is_result" "is_result" s_is_result f fd) (B : Blt mg) (c_check_night : CallD P w K mg base "check_night" 1 (S_check_night C)) (c_check_table : CallD P w K mg base "check_table" 4 (S_check_table C)) (c_is_made_by : CallD P w K mg base "is_made_by" 3 S_is_made_by) (c_counts_of : CallD P w K mg base "counts_of" 1 S_counts_of)
    (c_p_divisors : PropB P w K mg base C "divisors" 1 (S_getD C)) (c_p_parties : PropB P w K mg base C "parties" 1 (S_getP C)) : FnG P w K mg base 5 f fd ["night", "table"] (lift K (S_is_result C)) := by
  refine fnX_of F sc_is_result (fun ds Φ Ψ ⟨_, _, h, _⟩ => by rw [h]; rfl) fun cdv A outer s H E b => ⟨_, (pss_cons (ps_expr (k_cd K c_check_night (by exact b.room) (by decide) b.pass (pa_cons (pv 0) pa_nil)))
 (pss_cons (ps_expr (k_cd K c_check_table (by exact b.room) (by decide) b.pass (pa_cons (pv 0) (pa_cons (pv 1) pa_nil))))
 (pss_one (ps_ret (k_cd K c_is_made_by (by exact b.room) (by decide) b.pass (pa_cons (k_pr K c_p_divisors (by exact b.room) (by decide) (pv 0)) (pa_cons (k_cd K c_counts_of (by exact b.room) (by decide) b.pass (pa_cons (k_pr K c_p_parties (by exact b.room) (by decide) (pv 0)) pa_nil)) (pa_cons (pv 1) pa_nil)))))))), fun ds Φ Ψ ⟨t, l, h, ht, hl, h0, hs, q⟩ => ?_⟩
  subst h
  show wS _ _ _ [some (.dat _), some (.dat _)]
  have d1 := ht.d.l1
  have f2 := ht.f.l2
  have cl : (countsN t).length = t.2.1.length := by unfold countsN; rw [List.length_map]
  walk_at "dlt"
  refine ⟨t, rfl, ?_⟩
  walk_at "dlt"
  refine ⟨t, l, rfl, ht, hl, h0, hs, ?_⟩
  walk_at "dlt"
  refine ⟨_, rfl, t.1, t.2.1, t.2.2, rfl, ?_⟩
  walk_at "dlt"
  refine ⟨_, rfl, t.1, t.2.1, t.2.2, rfl, ?_⟩
  walk_at "dlt"
  refine ⟨t.2.1, rfl, by omega, ?_⟩
  walk_at "dlt"
  refine ⟨t.1, countsN t, l, by unfold countsN intsD; rw [List.map_map]; rfl, ht.d, by omega, fun c hc => ?_, fun o ho => ⟨h0 o ho, ?_⟩, zip_some (by omega) (by omega), ?_⟩
  · obtain ⟨x, hx, rfl⟩ := List.mem_map.mp hc
    have := ht.f.b x hx
    omega
  · have := sumI_le h0 o ho
    omega
  walk_at "dlt"
  exact q
end
/-! ### fraction, prices -/
section
variable {P : Program} {w : World} {K : PySem.W.Frag} {mg : Str → Option Value} {base : Heap} {f C : Addr} {fd : FuncData}
def S_fraction : DSp := fun ds Φ _ => ∃ a b : Int, ds = [.int a, .int b] ∧ 0 ≤ a ∧ 1 ≤ b ∧ b ≤ 1000000 ∧ Φ (pq (fracI (a, b)))
abbrev s_fraction : Stmt := topS 48
abbrev N_fraction : List Str := ["top", "bottom", "common"]
theorem sc_fraction : FnScope N_fraction ["top", "bottom"] (defScope s_fraction) := ⟨rfl, rfl, rfl, by decide +kernel, rfl, by decide +kernel, by decide +kernel⟩
theorem ok_fraction (F : FunX K "fraction" "fraction" s_fraction f fd) (B : Blt mg) (c_gcd : mg "gcd" = some (.builtin "math.gcd")) : FnG P w K mg base 1 f fd ["top", "bottom"] (lift K S_fraction) := by
  refine fnX_of F sc_fraction (fun ds Φ Ψ ⟨_, _, h, _⟩ => by rw [h]; rfl) fun cdv A outer s H E b => ⟨_, (pss_cons (ps_set (i := 2) sc_fraction.nd rfl (by first | exact .inl rfl | exact .inr rfl) (pe_callBfun k_gcd (by rfl) c_gcd (pa_cons (pv 0) (pa_cons (pv 1) pa_nil))))
 (pss_one (ps_ret (pe_tup (pa_cons (pe_op op_fdiv (pv 0) (pv 2)) (pa_cons (pe_op op_fdiv (pv 1) (pv 2)) pa_nil)))))), fun ds Φ Ψ ⟨a, c, h, a0, c1, c2, q⟩ => ?_⟩
  subst h
  show wS _ _ _ [some (.dat _), some (.dat _), none]
  walk_at "dlt"
  refine wE_cb cbd_gcd ?_
  walk_at "dlt"
  refine ⟨_, _, rfl, ?_⟩
  have g0 : 0 < Nat.gcd a.natAbs c.natAbs := Nat.gcd_pos_of_pos_right _ (by omega)
  have g1 : Nat.gcd a.natAbs c.natAbs ≤ c.natAbs := Nat.gcd_le_right _ (by omega)
  have q' : Φ (.tup [.int (a / ((Nat.gcd a.natAbs c.natAbs : Nat) : Int)), .int (c / ((Nat.gcd a.natAbs c.natAbs : Nat) : Int))]) := q
  generalize hg : ((Nat.gcd a.natAbs c.natAbs : Nat) : Int) = g at q' ⊢
  have gb : 0 < g ∧ g ≤ 1000000 := by omega
  walk_at "dlt"
  exact q'
def S_prices (C : Addr) : DSp := fun ds Φ _ => ∃ (t : Tri) (l : List Int), ds = [nightD C t, intsD l] ∧ TriOk t ∧ l.length = t.2.1.length ∧ (∀ x ∈ l, 0 ≤ x) ∧ l.sum = (t.1.length : Int) ∧ (SwapZ t.1 ((countsN t).zip l) → Φ .non) ∧
  ∀ p g, ¬ SwapZ t.1 ((countsN t).zip l) → LeastZ t.1 ((countsN t).zip l) p → GreatZ t.1 ((countsN t).zip l) (some g) → Φ (.tup [pq (fracI p), pq (fracI g)])
abbrev s_prices : Stmt := topS 66
abbrev N_prices : List Str := ["night", "table", "least", "greatest"]
theorem sc_prices : FnScope N_prices ["night", "table"] (defScope s_prices) := ⟨rfl, rfl, rfl, by decide +kernel, rfl, by decide +kernel, by decide +kernel⟩
theorem ok_prices (F : FunX K "prices" "prices" s_prices f fd) (B : Blt mg) (c_check_night : CallD P w K mg base "check_night" 1 (S_check_night C)) (c_check_table : CallD P w K mg base "check_table" 4 (S_check_table C)) (c_price_bounds : CallD P w K mg base "price_bounds" 2 S_price_bounds) (c_is_below : CallD P w K mg base "is_below" 1 S_is_below) (c_fraction : CallD P w K mg base "fraction" 1 S_fraction) (c_counts_of : CallD P w K mg base "counts_of" 1 S_counts_of)
    (c_p_divisors : PropB P w K mg base C "divisors" 1 (S_getD C)) (c_p_parties : PropB P w K mg base C "parties" 1 (S_getP C)) : FnG P w K mg base 5 f fd ["night", "table"] (lift K (S_prices C)) := by
  refine fnX_of F sc_prices (fun ds Φ Ψ ⟨_, _, h, _⟩ => by rw [h]; rfl) fun cdv A outer s H E b => ⟨_, (pss_cons (ps_expr (k_cd K c_check_night (by exact b.room) (by decide) b.pass (pa_cons (pv 0) pa_nil)))
 (pss_cons (ps_expr (k_cd K c_check_table (by exact b.room) (by decide) b.pass (pa_cons (pv 0) (pa_cons (pv 1) pa_nil))))
 (pss_cons (ps_asg (k_cd K c_price_bounds (by exact b.room) (by decide) b.pass (pa_cons (k_pr K c_p_divisors (by exact b.room) (by decide) (pv 0)) (pa_cons (k_cd K c_counts_of (by exact b.room) (by decide) b.pass (pa_cons (k_pr K c_p_parties (by exact b.room) (by decide) (pv 0)) pa_nil)) (pa_cons (pv 1) pa_nil)))) (k_pg K (n := 2) rfl (pgs_cons (pg_name (i := 2) sc_prices.nd rfl (by first | exact .inl rfl | exact .inr rfl)) (pgs_cons (pg_name (i := 3) sc_prices.nd rfl (by first | exact .inl rfl | exact .inr rfl)) pgs_nil))))
 (pss_cons (ps_if (pt_val (k_cd K c_is_below (by exact b.room) (by decide) b.pass (pa_cons (pv 3) (pa_cons (pv 2) pa_nil)))) (pss_one (ps_ret pe_non)) pss_nil)
 (pss_one (ps_ret (pe_tup (pa_cons (k_cd K c_fraction (by exact b.room) (by decide) b.pass (pa_cons (pe_ix (k_ix K) (pv 2) pe_int (fun _ _ => rfl)) (pa_cons (pe_ix (k_ix K) (pv 2) pe_int (fun _ _ => rfl)) pa_nil))) (pa_cons (k_cd K c_fraction (by exact b.room) (by decide) b.pass (pa_cons (pe_ix (k_ix K) (pv 3) pe_int (fun _ _ => rfl)) (pa_cons (pe_ix (k_ix K) (pv 3) pe_int (fun _ _ => rfl)) pa_nil))) pa_nil))))))))), fun ds Φ Ψ ⟨t, l, h, ht, hl, h0, hs, q1, q2⟩ => ?_⟩
  subst h
  show wS _ _ _ [some (.dat _), some (.dat _), none, none]
  have d1 := ht.d.l1
  have f2 := ht.f.l2
  have cl : (countsN t).length = t.2.1.length := by unfold countsN; rw [List.length_map]
  walk_at "dlt"
  refine ⟨t, rfl, ?_⟩
  walk_at "dlt"
  refine ⟨t, l, rfl, ht, hl, h0, hs, ?_⟩
  walk_at "dlt"
  refine ⟨_, rfl, t.1, t.2.1, t.2.2, rfl, ?_⟩
  walk_at "dlt"
  refine ⟨_, rfl, t.1, t.2.1, t.2.2, rfl, ?_⟩
  walk_at "dlt"
  refine ⟨t.2.1, rfl, by omega, ?_⟩
  walk_at "dlt"
  refine ⟨t.1, countsN t, l, by unfold countsN intsD; rw [List.map_map]; rfl, ht.d, by omega, fun c hc => ?_, fun o ho => ⟨h0 o ho, ?_⟩, fun p g hp hg => ?_⟩
  · obtain ⟨x, hx, rfl⟩ := List.mem_map.mp hc
    have := ht.f.b x hx
    omega
  · have := sumI_le h0 o ho
    omega
  cases g with
  | none =>
    obtain ⟨z, hz, hz0⟩ := zip_some (cs := countsN t) (l := l) (by omega) (by omega)
    have := hg z hz
    omega
  | some g =>
    have p1 := hp.1
    have p2 := hp.2.1
    have p3 := hp.2.2.1
    have g1 := hg.1
    have g2 := hg.2.1
    have g3 := hg.2.2.1
    unfold pq gD pq
    walk_at "dlt"
    refine ⟨g.1, g.2, p.1, p.2, rfl, by omega, by omega, ?_⟩
    have ms := made_swap ht.d.b hp hg
    refine ⟨_, rfl, ?_⟩
    refine ifD (fun hw => ?_) (fun hw => ?_)
    · walk_at "dlt"
      exact q1 (ms.mp hw)
    · walk_at "dlt"
      refine ⟨p.1, p.2, rfl, p3, p1, by omega, ?_⟩
      walk_at "dlt"
      refine ⟨g.1, g.2, rfl, g3, g1, by omega, ?_⟩
      walk_at "dlt"
      exact q2 p g (fun h => hw (ms.mpr h)) hp hg
end
/-! ### kinds, of values of any kind -/
mutual
/-- plain data, of bounded sizes -/
def okD : D → Bool
  | .non => true
  | .bl _ => true
  | .int _ => true
  | .str x => decide (x.length ≤ 1000000) && PyData.strOk x
  | .tup l => decide (l.length ≤ 1000000) && okAll l
  | .lst l => decide (l.length ≤ 1000000) && okAll l
  | .dic _ => true
  | .ins _ _ => false
  | .pail => false
  | .scr _ => false
  | .raw _ => false
  | .exn _ _ _ => false
  | .dik _ => false
  | .kd _ _ _ _ => false
def okAll : List D → Bool
  | [] => true
  | d :: l => okD d && okAll l
end
theorem okAll_mem : ∀ {l : List D}, okAll l = true → ∀ d ∈ l, okD d = true
  | [], _, _, h => by cases h
  | a :: l, h, d, hd => by
    simp only [okAll, Bool.and_eq_true] at h
    rcases List.mem_cons.mp hd with e | e
    · rw [e]; exact h.1
    · exact okAll_mem h.2 d e
theorem ok_tup {l : List D} (h : okD (.tup l) = true) : l.length ≤ 1000000 ∧ ∀ d ∈ l, okD d = true := by
  simp only [okD, Bool.and_eq_true, decide_eq_true_eq] at h
  exact ⟨h.1, okAll_mem h.2⟩
theorem if_no {b : Bool} {A B : Prop} (h : b = false) (q : B) : if b = true then A else B := by rw [h, if_neg Bool.false_ne_true]; exact q
theorem if_yes {b : Bool} {A B : Prop} (h : b = true) (q : A) : if b = true then A else B := by rw [h, if_pos rfl]; exact q
def gInt : D → Bool
  | .int _ => true
  | _ => false
def gTupN (d : D) (n : Int) : Bool := match d with
  | .tup l => decide ((l.length : Int) = n)
  | _ => false
/-! ### looks at values of any kind, and the error that is due -/
theorem FnG.or {P : Program} {w : World} {K : PySem.W.Frag} {mg : Str → Option Value} {base : Heap} {k : Nat} {f : Addr} {fd : FuncData} {ps : List Str} {S1 S2 : DSp} (h1 : FnG P w K mg base k f fd ps (lift K S1)) (h2 : FnG P w K mg base k f fd ps (lift K S2)) : FnG P w K mg base k f fd ps (lift K fun ds Φ Ψ => S1 ds Φ Ψ ∨ S2 ds Φ Ψ) :=
  ⟨fun vs H Q E ⟨H0, ds, Φ, Ψ, a, r, q, k1, k2⟩ => q.elim (fun q => h1.len vs H Q E ⟨H0, ds, Φ, Ψ, a, r, q, k1, k2⟩) fun q => h2.len vs H Q E ⟨H0, ds, Φ, Ψ, a, r, q, k1, k2⟩,
    fun A outer s H args us vs Q E hr he hb hv ⟨H0, ds, Φ, Ψ, a, r, q, k1, k2⟩ => q.elim (fun q => h1.run A outer s H args us vs Q E hr he hb hv ⟨H0, ds, Φ, Ψ, a, r, q, k1, k2⟩) fun q => h2.run A outer s H args us vs Q E hr he hb hv ⟨H0, ds, Φ, Ψ, a, r, q, k1, k2⟩⟩
def intOf : D → Int
  | .int i => i
  | _ => 0
def natB : D → Bool
  | .int i => decide (0 ≤ i)
  | _ => false
def rowB (d : D) (n : Int) : Bool := match d with
  | .tup l => decide ((l.length : Int) = n) && l.all natB
  | _ => false
def tabB (d : D) (n S : Int) : Bool := rowB d n && (match d with
  | .tup l => decide ((l.map intOf).sum = S)
  | _ => false)
theorem bui_ok {d : D} (h : okD d = true) : d.bui = true := by cases d <;> first | rfl | (simp [okD] at h; done)
theorem ints_nat : ∀ {l : List D}, l.all natB = true → l = (l.map intOf).map D.int ∧ ∀ x ∈ l.map intOf, 0 ≤ x
  | [], _ => ⟨rfl, fun x h => by cases h⟩
  | d :: l, h => by
    rw [List.all_cons, Bool.and_eq_true] at h
    obtain ⟨e, p⟩ := ints_nat h.2
    cases d <;> first | (exact absurd h.1 Bool.false_ne_true) | skip
    rename_i i
    refine ⟨by rw [List.map_cons, List.map_cons, ← e]; rfl, fun x hx => ?_⟩
    rw [List.map_cons] at hx
    rcases List.mem_cons.mp hx with rfl | hx
    · exact of_decide_eq_true h.1
    · exact p x hx
theorem tab_of {d : D} {n S : Int} (h : tabB d n S = true) : ∃ T : List Int, d = .tup (T.map D.int) ∧ (T.length : Int) = n ∧ (∀ x ∈ T, 0 ≤ x) ∧ T.sum = S := by
  unfold tabB rowB at h
  cases d <;> first | (exact absurd h Bool.false_ne_true) | skip
  rename_i l
  simp only [Bool.and_eq_true, decide_eq_true_eq] at h
  obtain ⟨⟨h1, h2⟩, h3⟩ := h
  obtain ⟨e, p⟩ := ints_nat h2
  exact ⟨l.map intOf, by rw [← e], by rw [List.length_map]; exact h1, p, h3⟩
section
variable {P : Program} {w : World} {K : PySem.W.Frag} {mg : Str → Option Value} {base : Heap} {f C CN CT : Addr} {fd : FuncData}
def G_is_integer : DSp := fun ds Φ _ => ∃ d, ds = [d] ∧ okD d = true ∧ Φ (.bl (gInt d))
theorem ok_is_integerG (F : FunX K "is_integer" "is_integer" s_is_integer f fd) (B : Blt mg) : FnG P w K mg base 1 f fd ["value"] (lift K G_is_integer) := by
  refine fnX_of F sc_is_integer (fun ds Φ Ψ ⟨_, h, _⟩ => by rw [h]; rfl) fun cdv A outer s H E b => ⟨_, (pss_one (ps_ret (pe_and (pe_callB (k_isi K) (by rfl) B.isinstance bb_isinstance (pa_cons (pv 0) (pa_cons (pe_bty B.int bb_int) pa_nil))) (pe_one (pe_not (pe_callB (k_isi K) (by rfl) B.isinstance bb_isinstance (pa_cons (pv 0) (pa_cons (pe_bty B.bool bb_bool) pa_nil)))))))), fun ds Φ Ψ ⟨d, h, hd, q⟩ => ?_⟩
  subst h
  show wS _ _ _ [some (.dat _)]
  cases d <;> first | (simp [okD] at hd; done) | skip
  all_goals walk_at "dlt"
  all_goals exact q
def G_is_tuple_of : DSp := fun ds Φ _ => ∃ (d : D) (n : Int), ds = [d, .int n] ∧ okD d = true ∧ Φ (.bl (gTupN d n))
theorem ok_is_tuple_ofG (F : FunX K "is_tuple_of" "is_tuple_of" s_is_tuple_of f fd) (B : Blt mg) : FnG P w K mg base 1 f fd ["value", "many"] (lift K G_is_tuple_of) := by
  refine fnX_of F sc_is_tuple_of (fun ds Φ Ψ ⟨_, _, h, _⟩ => by rw [h]; rfl) fun cdv A outer s H E b => ⟨_, (pss_one (ps_ret (pe_and (pe_callB (k_isi K) (by rfl) B.isinstance bb_isinstance (pa_cons (pv 0) (pa_cons (pe_bty B.tuple bb_tuple) pa_nil))) (pe_one (pe_cmpR (k_eq K (by exact b.room)) (pe_callB (k_len K) (by rfl) B.len bb_len (pa_cons (pv 0) pa_nil)) (pv 1) (nomark _)))))), fun ds Φ Ψ ⟨d, n, h, hd, q⟩ => ?_⟩
  subst h
  show wS _ _ _ [some (.dat _), some (.dat _)]
  cases d <;> first | (simp [okD] at hd; done) | skip
  all_goals walk_at "dlt"
  all_goals exact q
def G_is_row : DSp := fun ds Φ _ => ∃ (d : D) (n : Int), ds = [d, .int n] ∧ okD d = true ∧ Φ (.bl (rowB d n))
theorem ok_is_rowG (F : FunX K "is_row" "is_row" s_is_row f fd) (B : Blt mg) (c_is_tuple_of : CallD P w K mg base "is_tuple_of" 1 G_is_tuple_of) (c_is_integer : CallD P w K mg base "is_integer" 1 G_is_integer) : FnG P w K mg base 2 f fd ["value", "many"] (lift K G_is_row) := by
  refine fnX_of F sc_is_row (fun ds Φ Ψ ⟨_, _, h, _⟩ => by rw [h]; rfl) fun cdv A outer s H E b => ⟨_, (pss_one (ps_ret (pe_and (k_cd K c_is_tuple_of (by exact b.room) (by decide) b.pass (pa_cons (pv 0) (pa_cons (pv 1) pa_nil))) (pe_one (pe_callB (k_all K rfl) (by rfl) B.all bb_all (pa_cons (pe_lc (own := [("item", 2)]) rfl sc_is_row.nd (k_any K (pv 0)) (blkOk_by (own := [("item", 2)]) (N := N_is_row) (sc := defScope s_is_row) (by decide +kernel))  (fun _ _ _ _ _ => (pg_name (i := 2) sc_is_row.nd rfl (by first | exact .inl rfl | exact .inr rfl))) (fun _ _ _ _ _ => pts_nil) (fun _ _ _ _ _ => (pe_and (k_cd K c_is_integer (by exact b.room) (by decide) passN (pa_cons (pv 2) pa_nil)) (pe_one (pe_cmpR op_ge (pv 2) pe_int (nomark _)))))) pa_nil)))))), fun ds Φ Ψ ⟨d, n, h, hd, q⟩ => ?_⟩
  subst h
  show wS _ _ _ [some (.dat _), some (.dat _), none]
  walk_at "dlt"
  refine ⟨d, n, rfl, hd, ?_⟩
  walk_at "dlt"
  by_cases hg : gTupN d n = true
  · cases d <;> first | (exact absurd hg Bool.false_ne_true) | skip
    rename_i l _
    obtain ⟨hl, hok⟩ := ok_tup hd
    refine if_yes hg ?_
    walk_at "dlt"
    refine wE_lcM (only_name (by simp)) (fun d : D => d) (fun d => .bl (natB d)) (wI_any ?_)
    walk_at "dlt"
    refine ⟨_, rfl, l, (List.map_id' l).symm, hl, fun x hx => ?_, ?_⟩
    · have hx := hok x hx
      walk_at "dlt"
      refine ⟨x, rfl, hx, ?_⟩
      cases x <;> first | (simp [okD] at hx; done) | skip
      case int i _ =>
        refine ⟨_, rfl, if_yes rfl ?_⟩
        walk_at "dlt"
        rfl
      all_goals exact ⟨_, rfl, if_no rfl rfl⟩
    walk_at "dlt"
    refine allG_map ?_
    have e : rowB (.tup l) n = (decide ((l.length : Int) = n) && l.all natB) := rfl
    have hg : decide ((l.length : Int) = n) = true := hg
    rw [e, hg, Bool.true_and] at q
    exact q
  · rw [Bool.not_eq_true] at hg
    refine if_no hg ?_
    have e : rowB d n = false := by
      unfold rowB
      cases d <;> first | rfl | skip
      have hg : decide (_ = n) = false := hg
      simp only [hg, Bool.false_and]
    rw [e] at q
    exact q
def G_is_table : DSp := fun ds Φ _ => ∃ (d : D) (n S : Int), ds = [d, .int n, .int S] ∧ okD d = true ∧ Φ (.bl (tabB d n S))
theorem ok_is_tableG (F : FunX K "is_table" "is_table" s_is_table f fd) (B : Blt mg) (c_is_row : CallD P w K mg base "is_row" 2 G_is_row) : FnG P w K mg base 3 f fd ["value", "many", "seats"] (lift K G_is_table) := by
  refine fnX_of F sc_is_table (fun ds Φ Ψ ⟨_, _, _, h, _⟩ => by rw [h]; rfl) fun cdv A outer s H E b => ⟨_, (pss_one (ps_ret (pe_and (k_cd K c_is_row (by exact b.room) (by decide) b.pass (pa_cons (pv 0) (pa_cons (pv 1) pa_nil))) (pe_one (pe_cmpR (k_eq K (by exact b.room)) (pe_callB (k_sumA K rfl) (by rfl) B.sum bb_sum (pa_cons (pv 0) pa_nil)) (pv 2) (nomark _)))))), fun ds Φ Ψ ⟨d, n, S, h, hd, q⟩ => ?_⟩
  subst h
  show wS _ _ _ [some (.dat _), some (.dat _), some (.dat _)]
  walk_at "dlt"
  refine ⟨d, n, rfl, hd, ?_⟩
  walk_at "dlt"
  by_cases hg : rowB d n = true
  · have hg' := hg
    unfold rowB at hg'
    cases d <;> first | (exact absurd hg' Bool.false_ne_true) | skip
    rename_i l _
    simp only [Bool.and_eq_true] at hg'
    obtain ⟨e, _⟩ := ints_nat hg'.2
    obtain ⟨hl, _⟩ := ok_tup hd
    refine if_yes hg ?_
    have et : tabB (.tup l) n S = decide ((l.map intOf).sum = S) := by
      unfold tabB
      rw [hg]
      rfl
    rw [et] at q
    generalize l.map intOf = T at e q
    subst e
    rw [List.length_map] at hl
    walk_at "dlt"
    refine sumG_t ?_
    walk_at "dlt"
    exact q
  · rw [Bool.not_eq_true] at hg
    refine if_no hg ?_
    have e : tabB d n S = false := by
      unfold tabB
      rw [hg]
      rfl
    rw [e] at q
    exact q
def E_check_night (CN : Addr) : DSp := fun ds _ Ψ => ∃ d, ds = [d] ∧ okD d = true ∧ Ψ ⟨CN, [("given", d)]⟩
theorem ok_check_nightE (F : FunX K "check_night" "check_night" s_check_night f fd) (B : Blt mg) (IC : IsC K C) (c_Night : mg "Night" = some (.ref C)) (c_NotANight : XMk P w K mg base "NotANight" "given" CN) : FnG P w K mg base 3 f fd ["night"] (lift K (E_check_night CN)) := by
  refine fnX_of F sc_check_night (fun ds Φ Ψ ⟨_, h, _⟩ => by rw [h]; rfl) fun cdv A outer s H E b => ⟨_, (pss_one (ps_if (pt_not (pt_val (pe_callB (k_isi K) (by rfl) B.isinstance bb_isinstance (pa_cons (pv 0) (pa_cons (pe_gcls c_Night) pa_nil))))) (pss_one (k_raise K c_NotANight (by exact b.room) (by decide) rfl (takes_of rfl rfl rfl rfl) (pa_cons (pv 0) pa_nil))) pss_nil)), fun ds Φ Ψ ⟨d, h, hd, q⟩ => ?_⟩
  subst h
  show wS _ _ _ [some (.dat _)]
  refine wS_if ?_
  refine wT_not ?_
  refine wT_B ?_
  refine wE_cb (cbd_isO IC) ?_
  walk_at "dlt"
  refine ⟨_, rfl, .inl ⟨bui_ok hd, _, rfl, ifNF ?_⟩⟩
  walk_at "dlt"
  exact ⟨_, rfl, q⟩
def E_check_table (C CT : Addr) : DSp := fun ds _ Ψ => ∃ (t : Tri) (d : D), ds = [nightD C t, d] ∧ TriOk t ∧ okD d = true ∧ tabB d t.2.1.length t.1.length = false ∧ Ψ ⟨CT, [("given", d)]⟩
theorem ok_check_tableE (F : FunX K "check_table" "check_table" s_check_table f fd) (B : Blt mg) (c_is_table : CallD P w K mg base "is_table" 3 G_is_table) (c_len : LenB P w K mg base C 1 (S_getL C)) (c_p_seats : PropB P w K mg base C "seats" 1 (S_getS C)) (c_InvalidTable : XMk P w K mg base "InvalidTable" "given" CT) : FnG P w K mg base 4 f fd ["night", "table"] (lift K (E_check_table C CT)) := by
  refine fnX_of F sc_check_table (fun ds Φ Ψ ⟨_, _, h, _⟩ => by rw [h]; rfl) fun cdv A outer s H E b => ⟨_, (pss_one (ps_if (pt_not (pt_val (k_cd K c_is_table (by exact b.room) (by decide) b.pass (pa_cons (pv 1) (pa_cons (pe_callB (k_lenO K c_len (by exact b.room) (by decide)) (by rfl) B.len bb_len (pa_cons (pv 0) pa_nil)) (pa_cons (k_pr K c_p_seats (by exact b.room) (by decide) (pv 0)) pa_nil)))))) (pss_one (k_raise K c_InvalidTable (by exact b.room) (by decide) rfl (takes_of rfl rfl rfl rfl) (pa_cons (pv 1) pa_nil))) pss_nil)), fun ds Φ Ψ ⟨t, d, h, ht, hd, hb, q⟩ => ?_⟩
  subst h
  show wS _ _ _ [some (.dat _), some (.dat _)]
  have f2 := ht.f.l2
  walk_at "dlt"
  refine ⟨_, rfl, t, rfl, t.2.1.length, rfl, by omega, ?_⟩
  walk_at "dlt"
  refine ⟨_, rfl, t, rfl, ?_⟩
  walk_at "dlt"
  refine ⟨d, _, _, rfl, hd, ?_⟩
  rw [hb]
  walk_at "dlt"
  exact ⟨_, rfl, q⟩
end
/-! ### errors of results -/
section
variable {P : Program} {w : World} {K : PySem.W.Frag} {mg : Str → Option Value} {base : Heap} {f C CN CT : Addr} {fd : FuncData}
def G_check_night (C CN : Addr) : DSp := fun ds Φ Ψ => S_check_night C ds Φ Ψ ∨ E_check_night CN ds Φ Ψ
def G_check_table (C CT : Addr) : DSp := fun ds Φ Ψ => S_check_table C ds Φ Ψ ∨ E_check_table C CT ds Φ Ψ
def E_two (C CN CT : Addr) : DSp := fun ds _ Ψ => (∃ d x, ds = [d, x] ∧ okD d = true ∧ Ψ ⟨CN, [("given", d)]⟩) ∨ ∃ (t : Tri) (x : D), ds = [nightD C t, x] ∧ TriOk t ∧ okD x = true ∧ tabB x t.2.1.length t.1.length = false ∧ Ψ ⟨CT, [("given", x)]⟩
theorem ok_is_resultE (F : FunX K "is_result" "is_result" s_is_result f fd) (B : Blt mg) (c_check_night : CallD P w K mg base "check_night" 3 (G_check_night C CN)) (c_check_table : CallD P w K mg base "check_table" 4 (G_check_table C CT)) (c_is_made_by : CallD P w K mg base "is_made_by" 3 S_is_made_by) (c_counts_of : CallD P w K mg base "counts_of" 1 S_counts_of)
    (c_p_divisors : PropB P w K mg base C "divisors" 1 (S_getD C)) (c_p_parties : PropB P w K mg base C "parties" 1 (S_getP C)) : FnG P w K mg base 5 f fd ["night", "table"] (lift K (E_two C CN CT)) := by
  refine fnX_of F sc_is_result (fun ds Φ Ψ h => by rcases h with ⟨_, _, h, _⟩ | ⟨_, _, h, _⟩ <;> (rw [h]; rfl)) fun cdv A outer s H E b => ⟨_, (pss_cons (ps_expr (k_cd K c_check_night (by exact b.room) (by decide) b.pass (pa_cons (pv 0) pa_nil)))
 (pss_cons (ps_expr (k_cd K c_check_table (by exact b.room) (by decide) b.pass (pa_cons (pv 0) (pa_cons (pv 1) pa_nil))))
 (pss_one (ps_ret (k_cd K c_is_made_by (by exact b.room) (by decide) b.pass (pa_cons (k_pr K c_p_divisors (by exact b.room) (by decide) (pv 0)) (pa_cons (k_cd K c_counts_of (by exact b.room) (by decide) b.pass (pa_cons (k_pr K c_p_parties (by exact b.room) (by decide) (pv 0)) pa_nil)) (pa_cons (pv 1) pa_nil)))))))), fun ds Φ Ψ h => ?_⟩
  rcases h with ⟨d, x, h, hd, q⟩ | ⟨t, x, h, ht, hx, hb, q⟩
  · subst h
    show wS _ _ _ [some (.dat _), some (.dat _)]
    walk_at "dlt"
    exact .inr ⟨d, rfl, hd, q⟩
  · subst h
    show wS _ _ _ [some (.dat _), some (.dat _)]
    walk_at "dlt"
    refine .inl ⟨t, rfl, ?_⟩
    walk_at "dlt"
    exact .inr ⟨t, x, rfl, ht, hx, hb, q⟩
theorem ok_pricesE (F : FunX K "prices" "prices" s_prices f fd) (B : Blt mg) (c_check_night : CallD P w K mg base "check_night" 3 (G_check_night C CN)) (c_check_table : CallD P w K mg base "check_table" 4 (G_check_table C CT)) (c_price_bounds : CallD P w K mg base "price_bounds" 2 S_price_bounds) (c_is_below : CallD P w K mg base "is_below" 1 S_is_below) (c_fraction : CallD P w K mg base "fraction" 1 S_fraction) (c_counts_of : CallD P w K mg base "counts_of" 1 S_counts_of)
    (c_p_divisors : PropB P w K mg base C "divisors" 1 (S_getD C)) (c_p_parties : PropB P w K mg base C "parties" 1 (S_getP C)) : FnG P w K mg base 5 f fd ["night", "table"] (lift K (E_two C CN CT)) := by
  refine fnX_of F sc_prices (fun ds Φ Ψ h => by rcases h with ⟨_, _, h, _⟩ | ⟨_, _, h, _⟩ <;> (rw [h]; rfl)) fun cdv A outer s H E b => ⟨_, (pss_cons (ps_expr (k_cd K c_check_night (by exact b.room) (by decide) b.pass (pa_cons (pv 0) pa_nil)))
 (pss_cons (ps_expr (k_cd K c_check_table (by exact b.room) (by decide) b.pass (pa_cons (pv 0) (pa_cons (pv 1) pa_nil))))
 (pss_cons (ps_asg (k_cd K c_price_bounds (by exact b.room) (by decide) b.pass (pa_cons (k_pr K c_p_divisors (by exact b.room) (by decide) (pv 0)) (pa_cons (k_cd K c_counts_of (by exact b.room) (by decide) b.pass (pa_cons (k_pr K c_p_parties (by exact b.room) (by decide) (pv 0)) pa_nil)) (pa_cons (pv 1) pa_nil)))) (k_pg K (n := 2) rfl (pgs_cons (pg_name (i := 2) sc_prices.nd rfl (by first | exact .inl rfl | exact .inr rfl)) (pgs_cons (pg_name (i := 3) sc_prices.nd rfl (by first | exact .inl rfl | exact .inr rfl)) pgs_nil))))
 (pss_cons (ps_if (pt_val (k_cd K c_is_below (by exact b.room) (by decide) b.pass (pa_cons (pv 3) (pa_cons (pv 2) pa_nil)))) (pss_one (ps_ret pe_non)) pss_nil)
 (pss_one (ps_ret (pe_tup (pa_cons (k_cd K c_fraction (by exact b.room) (by decide) b.pass (pa_cons (pe_ix (k_ix K) (pv 2) pe_int (fun _ _ => rfl)) (pa_cons (pe_ix (k_ix K) (pv 2) pe_int (fun _ _ => rfl)) pa_nil))) (pa_cons (k_cd K c_fraction (by exact b.room) (by decide) b.pass (pa_cons (pe_ix (k_ix K) (pv 3) pe_int (fun _ _ => rfl)) (pa_cons (pe_ix (k_ix K) (pv 3) pe_int (fun _ _ => rfl)) pa_nil))) pa_nil))))))))), fun ds Φ Ψ h => ?_⟩
  rcases h with ⟨d, x, h, hd, q⟩ | ⟨t, x, h, ht, hx, hb, q⟩
  · subst h
    show wS _ _ _ [some (.dat _), some (.dat _), none, none]
    walk_at "dlt"
    exact .inr ⟨d, rfl, hd, q⟩
  · subst h
    show wS _ _ _ [some (.dat _), some (.dat _), none, none]
    walk_at "dlt"
    refine .inl ⟨t, rfl, ?_⟩
    walk_at "dlt"
    exact .inr ⟨t, x, rfl, ht, hx, hb, q⟩
theorem ok_resultsE (F : FunX K "results" "results" s_results f fd) (B : Blt mg) (c_check_night : CallD P w K mg base "check_night" 3 (G_check_night C CN)) (c_tables_made : CallD P w K mg base "tables_made" 2 S_tables_made) (c_claims_of : CallD P w K mg base "claims_of" 3 S_claims_of) (c_counts_of : CallD P w K mg base "counts_of" 1 S_counts_of)
    (c_p_divisors : PropB P w K mg base C "divisors" 1 (S_getD C)) (c_p_parties : PropB P w K mg base C "parties" 1 (S_getP C)) (c_p_seats : PropB P w K mg base C "seats" 1 (S_getS C)) : FnG P w K mg base 4 f fd ["night"] (lift K (E_check_night CN)) := by
  refine fnX_of F sc_results (fun ds Φ Ψ ⟨_, h, _⟩ => by rw [h]; rfl) fun cdv A outer s H E b => ⟨_, (pss_cons (ps_expr (k_cd K c_check_night (by exact b.room) (by decide) b.pass (pa_cons (pv 0) pa_nil)))
 (pss_one (ps_ret (k_cd K c_tables_made (by exact b.room) (by decide) b.pass (pa_cons (k_cd K c_claims_of (by exact b.room) (by decide) b.pass (pa_cons (k_pr K c_p_divisors (by exact b.room) (by decide) (pv 0)) (pa_cons (k_cd K c_counts_of (by exact b.room) (by decide) b.pass (pa_cons (k_pr K c_p_parties (by exact b.room) (by decide) (pv 0)) pa_nil)) pa_nil))) (pa_cons (k_pr K c_p_seats (by exact b.room) (by decide) (pv 0)) pa_nil)))))), fun ds Φ Ψ ⟨d, h, hd, q⟩ => ?_⟩
  subst h
  show wS _ _ _ [some (.dat _)]
  walk_at "dlt"
  exact .inr ⟨d, rfl, hd, q⟩
def G_is_result (C CN CT : Addr) : DSp := fun ds Φ Ψ => S_is_result C ds Φ Ψ ∨ E_two C CN CT ds Φ Ψ
def G_prices (C CN CT : Addr) : DSp := fun ds Φ Ψ => S_prices C ds Φ Ψ ∨ E_two C CN CT ds Φ Ψ
end
/-! ### values of any kind, drawn -/
mutual
theorem okD_vb : ∀ d : D, d.pureq = true → d.pyq.weight ≤ 1000000 → okD d = true
  | .non, _, _ => rfl
  | .bl _, _, _ => rfl
  | .int _, _, _ => rfl
  | .str x, h, w => by
    simp only [okD, Bool.and_eq_true, decide_eq_true_eq]
    exact ⟨w, h⟩
  | .tup l, h, w => by
    rw [wt_tup] at w
    simp only [okD, Bool.and_eq_true, decide_eq_true_eq]
    exact ⟨Nat.le_trans (len_wts l) w, okAll_vb l (by simpa only [D.pureq] using h) w⟩
  | .lst l, h, w => by
    rw [wt_lst] at w
    simp only [okD, Bool.and_eq_true, decide_eq_true_eq]
    exact ⟨Nat.le_trans (len_wts l) w, okAll_vb l (by simpa only [D.pureq] using h) w⟩
  | .dic _, _, _ => rfl
  | .ins _ _, h, _ => by simp [D.pureq] at h
  | .pail, h, _ => by simp [D.pureq] at h
  | .scr _, h, _ => by simp [D.pureq] at h
  | .raw _, h, _ => by simp [D.pureq] at h
  | .exn _ _ _, h, _ => by simp [D.pureq] at h
  | .dik _, h, _ => by simp [D.pureq] at h
  | .kd _ _ _ _, h, _ => by simp [D.pureq] at h
theorem okAll_vb : ∀ l : List D, pureqAll l = true → wts l ≤ 1000000 → okAll l = true
  | [], _, _ => rfl
  | d :: l, h, w => by
    simp only [pureqAll, Bool.and_eq_true] at h
    rw [wts_cons] at w
    simp only [okAll, Bool.and_eq_true]
    exact ⟨okD_vb d h.1 (by omega), okAll_vb l h.2 (by omega)⟩
end
section
variable {P : Program} {w : World} {K : PySem.W.Frag} {mg : Str → Option Value} {base : Heap} {f C : Addr} {fd : FuncData}
def S_whole : DSp := fun ds Φ _ => ∃ d, ds = [d] ∧ okD d = true ∧ Φ (.bl (gInt d))
abbrev s_l_is_whole : Stmt := topS 71
abbrev N_l_is_whole : List Str := ["_law_value"]
theorem sc_l_is_whole : FnScope N_l_is_whole ["_law_value"] (defScope s_l_is_whole) := ⟨rfl, rfl, rfl, by decide +kernel, rfl, by decide +kernel, by decide +kernel⟩
theorem ok_whole (F : FunX K "_law_is_whole" "_law_is_whole" s_l_is_whole f fd) (B : Blt mg) : FnG P w K mg base 1 f fd ["_law_value"] (lift K S_whole) := by
  refine fnX_of F sc_l_is_whole (fun ds Φ Ψ ⟨_, h, _⟩ => by rw [h]; rfl) fun cdv A outer s H E b => ⟨_, (pss_one (ps_ret (pe_and (pe_callB (k_isi K) (by rfl) B.isinstance bb_isinstance (pa_cons (pv 0) (pa_cons (pe_bty B.int bb_int) pa_nil))) (pe_one (pe_not (pe_callB (k_isi K) (by rfl) B.isinstance bb_isinstance (pa_cons (pv 0) (pa_cons (pe_bty B.bool bb_bool) pa_nil)))))))), fun ds Φ Ψ ⟨d, h, hd, q⟩ => ?_⟩
  subst h
  show wS _ _ _ [some (.dat _)]
  cases d <;> first | (simp [okD] at hd; done) | skip
  all_goals walk_at "dlt"
  all_goals exact q
/-- the menu of things of any kind -/
def menuD : List D := [.non, .bl true, .bl false, .int 0, .int 1, .int (-1), .int 2, .int (10 ^ 39), .str "", .str "a", .str "red", .tup [], .tup [.int 0], .tup [.int 1, .int 2], .tup [.int 2, .int 1], .tup [.int 1, .int 1],
  .tup [.str "a", .int 1], .lst [], .lst [.int 1], .dic [], .dic [("a", .int 1)], .tup [.tup [.int 1]], .tup [.tup [.str "a", .int 0]], .tup [.int 5, .tup [.str "a"]], .tup [.non], .tup [.bl true], .str "divisors 1", .tup [.str "count", .int 0, .int 1]]
theorem menu_vb : ∀ d ∈ menuD, Vb (10 ^ 39) 3 d ∧ d.pyq.weight ≤ 200 := fun d hd => vb_of (List.all_eq_true.mp (show menuD.all (vbB (10 ^ 39) 3 200) = true by decide +kernel) d hd)
def S_thing : DSp := fun ds Φ _ => ds = [.pail] ∧ ∀ d ∈ menuD, Φ d
abbrev s_l_thing : Stmt := topS 80
abbrev N_l_thing : List Str := ["_law_pail", "_law_menu"]
theorem sc_l_thing : FnScope N_l_thing ["_law_pail"] (defScope s_l_thing) := ⟨rfl, rfl, rfl, by decide +kernel, rfl, by decide +kernel, by decide +kernel⟩
theorem ok_thing (F : FunX K "_law_thing" "_law_thing" s_l_thing f fd) (c_l_any_of : CallD P w K mg base "_law_any_of" 2 S_any_of) : FnG P w K mg base 3 f fd ["_law_pail"] (lift K S_thing) := by
  refine fnX_of F sc_l_thing (fun ds Φ Ψ ⟨h, _⟩ => by rw [h]; rfl) fun cdv A outer s H E b => ⟨_, (pss_cons (ps_set (i := 1) sc_l_thing.nd rfl (by first | exact .inl rfl | exact .inr rfl) (pe_lst (pa_cons pe_non (pa_cons pe_bl (pa_cons pe_bl (pa_cons pe_int (pa_cons pe_int (pa_cons (pe_un un_neg pe_int) (pa_cons pe_int (pa_cons (pe_op op_pow pe_int pe_int) (pa_cons pe_str (pa_cons pe_str (pa_cons pe_str (pa_cons (pe_tup pa_nil) (pa_cons (pe_tup (pa_cons pe_int pa_nil)) (pa_cons (pe_tup (pa_cons pe_int (pa_cons pe_int pa_nil))) (pa_cons (pe_tup (pa_cons pe_int (pa_cons pe_int pa_nil))) (pa_cons (pe_tup (pa_cons pe_int (pa_cons pe_int pa_nil))) pa_nil))))))))))))))))))
 (pss_cons (ps_set (i := 1) sc_l_thing.nd rfl (by first | exact .inl rfl | exact .inr rfl) (pe_op (k_add K) (pv 1) (pe_lst (pa_cons (pe_tup (pa_cons pe_str (pa_cons pe_int pa_nil))) (pa_cons (pe_lst pa_nil) (pa_cons (pe_lst (pa_cons pe_int pa_nil)) (pa_cons pe_dnewK (pa_cons (pe_disp (pps_cons pe_str pe_int pps_nil) rfl rfl (by simp) (by decide)) (pa_cons (pe_tup (pa_cons (pe_tup (pa_cons pe_int pa_nil)) pa_nil)) (pa_cons (pe_tup (pa_cons (pe_tup (pa_cons pe_str (pa_cons pe_int pa_nil))) pa_nil)) (pa_cons (pe_tup (pa_cons pe_int (pa_cons (pe_tup (pa_cons pe_str pa_nil)) pa_nil))) (pa_cons (pe_tup (pa_cons pe_non pa_nil)) (pa_cons (pe_tup (pa_cons pe_bl pa_nil)) pa_nil)))))))))))))
 (pss_one (ps_ret (k_cd K c_l_any_of (by exact b.room) (by decide) b.pass (pa_cons (pv 0) (pa_cons (pe_op (k_add K) (pv 1) (pe_lst (pa_cons pe_str (pa_cons (pe_tup (pa_cons pe_str (pa_cons pe_int (pa_cons pe_int pa_nil)))) pa_nil)))) pa_nil))))))), fun ds Φ Ψ ⟨h, q⟩ => ?_⟩
  subst h
  show wS _ _ _ [some (.dat _), none]
  repeat (first | walk_at "dl1" | walk_at "dl2" | walk_at "dl3" | (refine And.intro (by simp; done) ?_) | (refine addG_l (by simp; done) ?_))
  refine ⟨_, rfl, by simp, by simp, fun x hx => q x ?_⟩
  exact (show x ∈ menuD from hx)
end
section
variable {P : Program} {w : World} {K : PySem.W.Frag} {mg : Str → Option Value} {base : Heap} {f C : Addr} {fd : FuncData}
/-- a value with one place put otherwise -/
def S_bent (n : Nat) : DSp := fun ds Φ _ => ∃ (d : D) (B W : Nat), ds = [.pail, d] ∧ Vb B n d ∧ d.pyq.weight ≤ W ∧ 10 ^ 39 ≤ B ∧ W ≤ 100000 ∧ ∀ d', Vb (B + 1) (n + 3) d' → d'.pyq.weight ≤ 2 * W + 200 → Φ d'
theorem len_vb {l : List D} {W : Nat} (h : (D.tup l).pyq.weight ≤ W) : l.length ≤ W := by rw [wt_tup] at h; exact Nat.le_trans (len_wts l) h
theorem cut_mid {α : Type} {l : List α} {i : Nat} {a : α} (h : l[i]? = some a) : cutD l (some (i : Int)) (some ((i : Int) + 1)) = [a] := by
  obtain ⟨hi, hd⟩ := List.getElem?_eq_some_iff.mp h
  unfold cutD
  show (l.drop (if (i : Int) < 0 then ((i : Int) + l.length).toNat else min (i : Int).toNat l.length)).take ((if (i : Int) + 1 < 0 then ((i : Int) + 1 + l.length).toNat else min ((i : Int) + 1).toNat l.length) - (if (i : Int) < 0 then ((i : Int) + l.length).toNat else min (i : Int).toNat l.length)) = [a]
  rw [if_neg (by omega), if_neg (by omega), show min (i : Int).toNat l.length = i by omega, show min ((i : Int) + 1).toNat l.length = i + 1 by omega, show i + 1 - i = 1 by omega, List.drop_eq_getElem_cons hi, hd]
  rfl
theorem log2_step {a b : Nat} (h : b ≤ a + 1) (hb : b ≠ 0) : b.log2 ≤ a.log2 + 1 := by
  have h1 : a < 2 ^ (a.log2 + 1) := Nat.lt_log2_self
  have h2 : b < 2 ^ (a.log2 + 2) := by
    have : 2 ^ (a.log2 + 2) = 2 * 2 ^ (a.log2 + 1) := by rw [Nat.pow_succ, Nat.mul_comm]
    have : 1 ≤ 2 ^ (a.log2 + 1) := Nat.one_le_two_pow
    omega
  have := (Nat.log2_lt hb).mpr h2
  omega
theorem wt_step {i j : Int} (h : j.natAbs ≤ i.natAbs + 1) : (D.int j).pyq.weight ≤ (D.int i).pyq.weight + 2 := by
  rw [wt_int, wt_int]
  by_cases ej : j = 0
  · subst ej; exact Nat.zero_le _
  · rw [if_neg (by simpa using ej)]
    have := log2_step h (by omega : j.natAbs ≠ 0)
    split
    · rename_i ei
      have : i = 0 := by simpa using ei
      subst this
      have e0 : (0 : Int).natAbs.log2 = 0 := rfl
      omega
    · omega
abbrev s_l_bent : Stmt := topS 81
abbrev N_l_bent : List Str := ["_law_pail", "_law_thing_here", "_law_way", "_law_at"]
theorem sc_l_bent : FnScope N_l_bent ["_law_pail", "_law_thing_here"] (defScope s_l_bent) := ⟨rfl, rfl, rfl, by decide +kernel, rfl, by decide +kernel, by decide +kernel⟩
theorem ok_bent (F : FunX K "_law_bent" "_law_bent" s_l_bent f fd) (B : Blt mg) (hm : mg "_law_bent" = some (.ref f)) (hk : PySem.W.keepIn K (.ref f) = true) (hb : Binds K fd ["_law_pail", "_law_thing_here"] []) (c_l_cast : CallD P w K mg base "_law_cast" 1 (pailS P_cast)) (c_l_thing : CallD P w K mg base "_law_thing" 3 S_thing) :
    ∀ n, FnG P w K mg base (3 + n + 1) f fd ["_law_pail", "_law_thing_here"] (lift K (S_bent n)) := fnG_rec S_bent hm hk hb fun n S' c_l_bent hS => by
  refine fnX_of F sc_l_bent (fun ds Φ Ψ ⟨_, _, _, h, _⟩ => by rw [h]; rfl) fun cdv A outer s H E b => ⟨_, (pss_cons (ps_par (i := 2) (j := 3) rfl sc_l_bent.nd rfl rfl (by decide) rfl rfl (pa_cons (k_cd K c_l_cast (by exact b.room) (by omega) b.pass (pa_cons (pv 0) (pa_cons pe_int pa_nil))) (pa_cons (k_cd K c_l_cast (by exact b.room) (by omega) b.pass (pa_cons (pv 0) (pa_cons pe_int pa_nil))) pa_nil)) rfl)
 (pss_cons (ps_if (PW.pt (pw_and (pt_val (pe_callB (k_isi K) (by rfl) B.isinstance bb_isinstance (pa_cons (pv 1) (pa_cons (pe_bty B.tuple bb_tuple) pa_nil)))) (pw_and (pt_cmpR (k_neT0 K (by exact b.room)) (pv 1) (pe_tup pa_nil) (nomark _)) (pw_and1 (pt_cmpR op_gt (pv 2) pe_int (nomark _)))))) (pss_cons (ps_set (i := 3) sc_l_bent.nd rfl (by first | exact .inl rfl | exact .inr rfl) (pe_op op_mod (pe_callTy callr_int (by rfl) B.int bb_int (pa_cons (pv 3) pa_nil)) (pe_callB (k_len K) (by rfl) B.len bb_len (pa_cons (pv 1) pa_nil))))
 (pss_cons (ps_if (pt_cmpR (k_eq K (by exact b.room)) (pv 2) pe_int (nomark _)) (pss_one (ps_ret (pe_op (k_add K) (pe_slice (k_sl K) (pv 1) po_none (po_some (pv 3))) (pe_slice (k_sl K) (pv 1) (po_some (pe_op (k_add K) (pv 3) pe_int)) po_none)))) pss_nil)
 (pss_cons (ps_if (pt_cmpR (k_eq K (by exact b.room)) (pv 2) pe_int (nomark _)) (pss_one (ps_ret (pe_op (k_add K) (pe_op (k_add K) (pe_slice (k_sl K) (pv 1) po_none (po_some (pv 3))) (pe_slice (k_sl K) (pv 1) (po_some (pv 3)) (po_some (pe_op (k_add K) (pv 3) pe_int)))) (pe_slice (k_sl K) (pv 1) (po_some (pv 3)) po_none)))) pss_nil)
 (pss_cons (ps_if (pt_cmpR (k_eq K (by exact b.room)) (pv 2) pe_int (nomark _)) (pss_one (ps_ret (k_revT K (pv 1)))) pss_nil)
 (pss_one (ps_ret (pe_op (k_add K) (pe_op (k_add K) (pe_slice (k_sl K) (pv 1) po_none (po_some (pv 3))) (pe_tup (pa_cons (k_cd K c_l_bent (by exact b.room) (by omega) b.pass (pa_cons (pv 0) (pa_cons (pe_ix (k_ix K) (pv 1) (pv 3) (fun _ _ => rfl)) pa_nil))) pa_nil))) (pe_slice (k_sl K) (pv 1) (po_some (pe_op (k_add K) (pv 3) pe_int)) po_none)))))))) pss_nil)
 (pss_cons (ps_if (PW.pt (pw_and (pt_val (pe_callB (k_isi K) (by rfl) B.isinstance bb_isinstance (pa_cons (pv 1) (pa_cons (pe_bty B.tuple bb_tuple) pa_nil)))) (pw_and1 (pt_cmpR op_gt (pv 3) pe_int (nomark _))))) (pss_one (ps_ret (pe_callTy (k_list K) (by rfl) B.list bb_list (pa_cons (pv 1) pa_nil)))) pss_nil)
 (pss_cons (ps_if (PW.pt (pw_and (pt_val (pe_callB (k_isi K) (by rfl) B.isinstance bb_isinstance (pa_cons (pv 1) (pa_cons (pe_bty B.int bb_int) pa_nil)))) (pw_and (pt_not (pt_val (pe_callB (k_isi K) (by rfl) B.isinstance bb_isinstance (pa_cons (pv 1) (pa_cons (pe_bty B.bool bb_bool) pa_nil))))) (pw_and1 (pt_cmpR op_gt (pv 3) pe_int (nomark _)))))) (pss_one (ps_ret (pe_ifExp (pt_cmpR op_gt (pv 3) pe_int (nomark _)) (pe_op (k_add K) (pv 1) pe_int) (pe_op op_sub (pv 1) pe_int)))) pss_nil)
 (pss_one (ps_ret (k_cd K c_l_thing (by exact b.room) (by omega) b.pass (pa_cons (pv 0) pa_nil)))))))), fun ds Φ Ψ ⟨d, B0, W, h, hv, hw, hB, hW, q⟩ => ?_⟩
  subst h
  show wS _ _ _ [some (.dat _), some (.dat _), none, none]
  have menu : ∀ x ∈ menuD, Φ x := fun x hx => by
    obtain ⟨m1, m2⟩ := menu_vb x hx
    exact q x (m1.mono (by omega) (by omega)) (by omega)
  walk_at "dlt"
  refine use_cast (by decide) (by decide) fun way hway => ?_
  walk_at "dlt"
  refine use_cast (by decide) (by decide) fun at0 hat => ?_
  walk_at "dlt"
  refine ⟨_, _, rfl, ?_⟩
  cases d <;> first | (have hp := hv.p; simp [D.pureq] at hp; done) | skip
  case tup l _ =>
    obtain ⟨m, rfl⟩ := vb_pos hv
    have he := vb_tup.mp hv
    have hl := len_vb hw
    have ww := hw
    rw [wt_tup] at ww
    -- what stands behind: a list of the same, or a thing
    have asList : Φ (.lst l) := q _ (vb_lst.mpr fun x hx => (he x hx).mono (by omega) (by omega)) (by rw [wt_lst]; omega)
    walk_at "dlt"
    refine ⟨l, rfl, rfl, ?_⟩
    cases l with
    | nil =>
      walk_at "dlt"
      refine if_no rfl ?_
      walk_at "dlt"
      refine ifD (fun hz => ?_) (fun hz => ?_)
      · walk_at "dlt"
        exact asList
      · walk_at "dlt"
        exact ⟨rfl, menu⟩
    | cons e0 l0 =>
      generalize hll : e0 :: l0 = l at *
      have hpos : 0 < l.length := by rw [← hll]; simp
      refine ⟨_, rfl, if_yes (by rw [show (l.length == 0) = false from beq_eq_false_iff_ne.mpr (by omega)]; rfl) ?_⟩
      walk_at "dlt"
      refine ifD (fun hz => ?_) (fun hz => ?_)
      · -- one place of it
        walk_at "dlt"
        obtain ⟨i, hi⟩ : ∃ i : Nat, (at0 : Int) % (l.length : Int) = i := ⟨((at0 : Int) % (l.length : Int)).toNat, by have := Int.emod_nonneg (at0 : Int) (show (l.length : Int) ≠ 0 by omega); omega⟩
        have hil : i < l.length := by have := Int.emod_lt_of_pos (at0 : Int) (show (0 : Int) < l.length by omega); omega
        rw [hi]
        have hx : l[i]? = some l[i] := List.getElem?_eq_getElem hil
        have hsp := wts_split hx
        have hx1 := he l[i] (List.getElem_mem hil)
        have ht : ∀ x ∈ l.take i, Vb B0 m x := fun x hx => he x (List.mem_of_mem_take hx)
        have hd : ∀ j, ∀ x ∈ l.drop j, Vb B0 m x := fun j x hx => he x (List.mem_of_mem_drop hx)
        have lt := List.length_take_le i l
        have ld : ∀ j, (l.drop j).length ≤ l.length := fun j => by rw [List.length_drop]; omega
        have out : ∀ l' : List D, (∀ x ∈ l', Vb (B0 + 1) (m + 3) x) → wts l' ≤ 2 * W + 200 → Φ (.tup l') := fun l' h1 h2 => q _ (vb_tup.mpr h1) (by rw [wt_tup]; exact h2)
        have e1 : (i : Int) + 1 = ((i + 1 : Nat) : Int) := by omega
        have c1 := lt
        have c2 := ld (i + 1)
        have c3 := ld i
        refine ifD (fun h1 => ?_) (fun h1 => ?_)
        · walk_at "dlt"
          rw [cut_to, e1, cut_from]
          refine addG_t (by omega) ?_
          refine out _ (fun x hx => ?_) (by rw [wts_append]; omega)
          rcases List.mem_append.mp hx with hx | hx
          · exact (ht x hx).mono (by omega) (by omega)
          · exact (hd _ x hx).mono (by omega) (by omega)
        walk_at "dlt"
        refine ifD (fun h2 => ?_) (fun h2 => ?_)
        · walk_at "dlt"
          rw [cut_to, cut_mid hx]
          refine addG_t (by simp only [List.length_cons, List.length_nil]; omega) ?_
          walk_at "dlt"
          rw [cut_from]
          refine addG_t (by simp only [List.length_append, List.length_cons, List.length_nil]; omega) ?_
          have hw2 : wts (l.drop i) ≤ wts l := by
            have := congrArg wts (List.take_append_drop i l)
            rw [wts_append] at this
            omega
          refine out _ (fun x hx => ?_) (by rw [wts_append, wts_append, wts_cons]; show _ + (_ + 1 + 0) + _ ≤ _; omega)
          rcases List.mem_append.mp hx with hx | hx
          · rcases List.mem_append.mp hx with hx | hx
            · exact (ht x hx).mono (by omega) (by omega)
            · rw [List.mem_singleton.mp hx]; exact hx1.mono (by omega) (by omega)
          · exact (hd _ x hx).mono (by omega) (by omega)
        walk_at "dlt"
        refine ifD (fun h3 => ?_) (fun h3 => ?_)
        · walk_at "dlt"
          refine ⟨l, rfl, ?_⟩
          exact out _ (fun x hx => (he x (List.mem_reverse.mp hx)).mono (by omega) (by omega)) (by rw [wts_rev]; omega)
        walk_at "dlt"
        rw [cut_to]
        refine ixG_t (L2.atI_nat hx) ?_
        walk_at "dlt"
        rw [hS m rfl]
        refine ⟨l[i], B0, l[i].pyq.weight, rfl, hx1, Nat.le_refl _, hB, by omega, fun d' hv' hw' => ?_⟩
        show _
        walk_at "dlt"
        refine addG_t (by simp only [List.length_cons, List.length_nil]; omega) ?_
        walk_at "dlt"
        rw [e1, cut_from]
        refine addG_t (by simp only [List.length_append, List.length_cons, List.length_nil]; omega) ?_
        refine out _ (fun x hx => ?_) (by rw [wts_append, wts_append, wts_cons]; show _ + (_ + 1 + 0) + _ ≤ _; omega)
        rcases List.mem_append.mp hx with hx | hx
        · rcases List.mem_append.mp hx with hx | hx
          · exact (ht x hx).mono (by omega) (by omega)
          · rw [List.mem_singleton.mp hx]; exact hv'
        · exact (hd _ x hx).mono (by omega) (by omega)
      · walk_at "dlt"
        refine ifD (fun hy => ?_) (fun hy => ?_)
        · walk_at "dlt"
          exact asList
        · walk_at "dlt"
          exact ⟨rfl, menu⟩
  case int i _ =>
    walk_at "dlt"
    refine ifD (fun hz => ?_) (fun hz => ?_)
    · walk_at "dlt"
      refine ifD (fun hy => ?_) (fun hy => ?_)
      · walk_at "dlt"
        have hb := hv.b
        simp only [D.ib] at hb
        exact q _ (vb_int (by omega)) (Nat.le_trans (wt_step (i := i) (by omega)) (by omega))
      · walk_at "dlt"
        have hb := hv.b
        simp only [D.ib] at hb
        exact q _ (vb_int (by omega)) (Nat.le_trans (wt_step (i := i) (by omega)) (by omega))
    · walk_at "dlt"
      exact ⟨rfl, menu⟩
  all_goals
    walk_at "dlt"
    exact ⟨rfl, menu⟩
theorem fnG_any {k N : Nat} {f : Addr} {fd : FuncData} {ps : List Str} {S : Nat → DSp} (hl : ∀ n ds Φ Ψ, S n ds Φ Ψ → ds.length = ps.length) (h : ∀ n, n ≤ N → FnG P w K mg base k f fd ps (lift K (S n))) : FnG P w K mg base k f fd ps (lift K fun ds Φ Ψ => ∃ n, n ≤ N ∧ S n ds Φ Ψ) :=
  ⟨fun vs H Q E ⟨H0, ds, Φ, Ψ, a, r, ⟨n, _, q⟩, _⟩ => r.length.trans (hl n ds Φ Ψ q), fun A outer s H args us vs Q E hr he hb hv ⟨H0, ds, Φ, Ψ, a, r, ⟨n, hn, q⟩, k1, k2⟩ => (h n hn).run A outer s H args us vs Q E hr he hb hv ⟨H0, ds, Φ, Ψ, a, r, q, k1, k2⟩⟩
def S_bentA : DSp := fun ds Φ Ψ => ∃ n, n ≤ 9 ∧ S_bent n ds Φ Ψ
theorem ok_bentA (F : FunX K "_law_bent" "_law_bent" s_l_bent f fd) (B : Blt mg) (hm : mg "_law_bent" = some (.ref f)) (hk : PySem.W.keepIn K (.ref f) = true) (hb : Binds K fd ["_law_pail", "_law_thing_here"] []) (c_l_cast : CallD P w K mg base "_law_cast" 1 (pailS P_cast)) (c_l_thing : CallD P w K mg base "_law_thing" 3 S_thing) :
    FnG P w K mg base 13 f fd ["_law_pail", "_law_thing_here"] (lift K S_bentA) := fnG_any (fun n ds Φ Ψ ⟨_, _, _, h, _⟩ => by rw [h]; rfl) fun n hn => (ok_bent F B hm hk hb c_l_cast c_l_thing n).mono (by omega)
theorem use_bent {d : D} {B m W : Nat} {Φ : D → Prop} {Ψ : Exn → Prop} (hm : m ≤ 9) (hv : Vb B m d) (hw : d.pyq.weight ≤ W) (hB : 10 ^ 39 ≤ B) (hW : W ≤ 100000) (h : ∀ d', Vb (B + 1) (m + 3) d' → d'.pyq.weight ≤ 2 * W + 200 → Φ d') : S_bentA [.pail, d] Φ Ψ :=
  ⟨m, hm, d, B, W, rfl, hv, hw, hB, hW, h⟩
/-- what is drawn at last -/
structure AnyD (d : D) : Prop where
  ok : okD d = true
  f : FineQ 20 3500 d
theorem anyD_of {d : D} {B m W : Nat} (hv : Vb B m d) (hw : d.pyq.weight ≤ W) (hB : B < 10 ^ 44) (hm : m ≤ 20) (hW : W ≤ 3500) : AnyD d := ⟨okD_vb d hv.p (by omega), (hv.fine hB hw).mono hm hW⟩
theorem anyD_menu : ∀ d ∈ menuD, AnyD d := fun d hd => by
  obtain ⟨a, b⟩ := menu_vb d hd
  exact anyD_of a b (Nat.pow_lt_pow_right (by decide) (by decide)) (by decide) (by decide)
theorem wts_map {α : Type} {f : α → D} {m : Nat} : ∀ {l : List α}, (∀ x ∈ l, (f x).pyq.weight ≤ m) → wts (l.map f) ≤ l.length * (m + 1)
  | [], _ => Nat.zero_le _
  | a :: l, h => by
    have ih := wts_map (l := l) fun x hx => h x (List.mem_cons_of_mem _ hx)
    have := h a List.mem_cons_self
    rw [List.map_cons, wts_cons, List.length_cons, Nat.add_mul]
    omega
theorem wt_small {n : Int} {k : Nat} (h : n.natAbs < 2 ^ k) : (D.int n).pyq.weight ≤ k := by
  rw [wt_int]
  split
  · exact Nat.zero_le _
  · rename_i e
    have : n.natAbs ≠ 0 := by
      intro z; exact e (by simpa using z)
    exact (Nat.log2_lt this).mpr h
theorem vb_small {ns : List Int} (h : ∀ n ∈ ns, 0 ≤ n ∧ n ≤ 200) (hl : ns.length ≤ 13) : Vb (10 ^ 39) 1 (.tup (ns.map D.int)) ∧ (D.tup (ns.map D.int)).pyq.weight ≤ 300 := by
  refine ⟨vb_tup.mpr fun d hd => ?_, ?_⟩
  · obtain ⟨n, hn, rfl⟩ := List.mem_map.mp hd
    have := h n hn
    have e : (200 : Nat) ≤ 10 ^ 39 := by decide
    exact vb_int (by omega)
  · rw [wt_tup]
    have := wts_map (f := D.int) (m := 8) (l := ns) fun n hn => wt_small (by have := h n hn; omega)
    have := Nat.mul_le_mul_right 9 hl
    omega
end
section
variable {P : Program} {w : World} {K : PySem.W.Frag} {mg : Str → Option Value} {base : Heap} {f C CT CY CB CN CA : Addr} {fd : FuncData}
theorem bb_ValueError : bootBuiltins "ValueError" = some (.type "ValueError") := by decide +kernel
theorem bb_LookupError : bootBuiltins "LookupError" = some (.type "LookupError") := by decide +kernel
theorem bb_ArithmeticError : bootBuiltins "ArithmeticError" = some (.type "ArithmeticError") := by decide +kernel
/-- what isinstance says of an error -/
structure SortC (K : PySem.W.Frag) (CC CB CN CA : Addr) : Prop where
  x : XIs K CC
  g : PySem.W.findIn K (.ref CC) "given" = some none
  b : PySem.W.kitOne K (.ref CC) (.ref CB) = some true
  n : PySem.W.kitOne K (.ref CC) (.ref CN) = some false
  a : PySem.W.kitOne K (.ref CC) (.ref CA) = some false
  v : PySem.W.kitOne K (.ref CC) (.type "ValueError") = some true
  l : PySem.W.kitOne K (.ref CC) (.type "LookupError") = some false
  r : PySem.W.kitOne K (.ref CC) (.type "ArithmeticError") = some false
  c : PySem.W.kitOne K (.ref CC) (.ref CC) = some true
def S_sort (CT CY : Addr) : ESp := fun x Φ => (∃ d, x = ⟨CT, [("given", d)]⟩ ∧ FineQ 64 350000 d ∧ Φ (.lst [.str "InvalidTable", .str d.pyq.shown])) ∨ ∃ d, x = ⟨CY, [("given", d)]⟩ ∧ FineQ 64 350000 d ∧ Φ (.lst [.str "NotANight", .str d.pyq.shown])
abbrev s_l_sort : Stmt := topS 83
abbrev N_l_sort : List Str := ["_law_e", "_law_bases", "_law_plain", "_law_found"]
theorem sc_l_sort : FnScope N_l_sort ["_law_e"] (defScope s_l_sort) := ⟨rfl, rfl, rfl, by decide +kernel, rfl, by decide +kernel, by decide +kernel⟩
theorem ok_sort (F : FunX K "_law_sort" "_law_sort" s_l_sort f fd) (B : Blt mg) (SY : SysB base) (ZT : SortC K CT CB CN CA) (ZY : SortC K CY CB CN CA) (z1 : PySem.W.kitOne K (.ref CT) (.ref CY) = some false) (z2 : PySem.W.kitOne K (.ref CY) (.ref CT) = some false) (c_BadValue : mg "BadValue" = some (.ref CB)) (c_BadName : mg "BadName" = some (.ref CN)) (c_NoAnswer : mg "NoAnswer" = some (.ref CA)) (c_InvalidTable : XMk P w K mg base "InvalidTable" "given" CT)
    (c_NotANight : XMk P w K mg base "NotANight" "given" CY) (n_ValueError : mg "ValueError" = none) (n_LookupError : mg "LookupError" = none) (n_ArithmeticError : mg "ArithmeticError" = none) : FnE P w K mg base 1 f fd "_law_e" (liftE K (S_sort CT CY)) := by
  refine fnX_ofE F sc_l_sort fun cdv A outer s H a dd oe D' hz hv room => ⟨_, (pss_cons (ps_set (i := 1) sc_l_sort.nd rfl (by first | exact .inl rfl | exact .inr rfl) (pe_lst (pa_cons (pe_callB (k_isX K hz hv (by first | exact List.mem_cons_self | assumption)) (by rfl) B.isinstance bb_isinstance (pa_cons (pv 0) (pa_cons (pe_gcls c_BadValue) pa_nil))) (pa_cons (pe_callB (k_isX K hz hv (by first | exact List.mem_cons_self | assumption)) (by rfl) B.isinstance bb_isinstance (pa_cons (pv 0) (pa_cons (pe_gcls c_BadName) pa_nil))) (pa_cons (pe_callB (k_isX K hz hv (by first | exact List.mem_cons_self | assumption)) (by rfl) B.isinstance bb_isinstance (pa_cons (pv 0) (pa_cons (pe_gcls c_NoAnswer) pa_nil))) pa_nil)))))
 (pss_cons (ps_set (i := 2) sc_l_sort.nd rfl (by first | exact .inl rfl | exact .inr rfl) (pe_lst (pa_cons (pe_callB (k_isX K hz hv (by first | exact List.mem_cons_self | assumption)) (by rfl) B.isinstance bb_isinstance (pa_cons (pv 0) (pa_cons (pe_bty n_ValueError bb_ValueError) pa_nil))) (pa_cons (pe_callB (k_isX K hz hv (by first | exact List.mem_cons_self | assumption)) (by rfl) B.isinstance bb_isinstance (pa_cons (pv 0) (pa_cons (pe_bty n_LookupError bb_LookupError) pa_nil))) (pa_cons (pe_callB (k_isX K hz hv (by first | exact List.mem_cons_self | assumption)) (by rfl) B.isinstance bb_isinstance (pa_cons (pv 0) (pa_cons (pe_bty n_ArithmeticError bb_ArithmeticError) pa_nil))) pa_nil)))))
 (pss_cons (ps_set (i := 3) sc_l_sort.nd rfl (by first | exact .inl rfl | exact .inr rfl) (pe_lst pa_nil))
 (pss_cons (ps_if (pt_val (pe_callB (k_isX K hz hv (by first | exact List.mem_cons_self | assumption)) (by rfl) B.isinstance bb_isinstance (pa_cons (pv 0) (pa_cons (pe_gcls c_InvalidTable.here) pa_nil)))) (pss_one (ps_expr (k_bm K PySem.F.plainAttrs_list PySem.F.slot_list_append PySem.F.type_list_append mt_append (pv 3) (pa_cons (pe_lst (pa_cons pe_str (pa_cons (pe_callB (k_reprQE K SY room) (by rfl) B.repr bb_repr (pa_cons (k_fldX K hz hv (by first | exact List.mem_cons_self | assumption) (pv 0)) pa_nil)) pa_nil))) pa_nil)))) pss_nil)
 (pss_cons (ps_if (pt_val (pe_callB (k_isX K hz hv (by first | exact List.mem_cons_self | assumption)) (by rfl) B.isinstance bb_isinstance (pa_cons (pv 0) (pa_cons (pe_gcls c_NotANight.here) pa_nil)))) (pss_one (ps_expr (k_bm K PySem.F.plainAttrs_list PySem.F.slot_list_append PySem.F.type_list_append mt_append (pv 3) (pa_cons (pe_lst (pa_cons pe_str (pa_cons (pe_callB (k_reprQE K SY room) (by rfl) B.repr bb_repr (pa_cons (k_fldX K hz hv (by first | exact List.mem_cons_self | assumption) (pv 0)) pa_nil)) pa_nil))) pa_nil)))) pss_nil)
 (pss_one (ps_ret (pe_ifExp (PW.pt (pw_and (pt_cmpR (k_eqE K room) (pe_callB (k_len K) (by rfl) B.len bb_len (pa_cons (pv 3) pa_nil)) pe_int (nomark _)) (pw_and (pt_cmpR (k_eqE K room) (pv 1) (pv 2) (nomark _)) (pw_and1 (pt_cmpR (k_eqE K room) (k_bm K PySem.F.plainAttrs_list PySem.F.slot_list_count PySem.F.type_list_count (k_count K) (pv 1) (pa_cons pe_bl pa_nil)) pe_int (nomark _)))))) (pe_ix (k_ix K) (pv 3) pe_int (fun _ _ => rfl)) (pe_lst (pa_cons pe_str (pa_cons pe_str pa_nil))))))))))), fun fs Φ h => ?_⟩
  rcases h with ⟨d, ex, hf, q⟩ | ⟨d, ex, hf, q⟩
  · injection ex with ex1 ex2
    subst ex1 ex2
    show wS _ _ _ [some (.dat _), none, none, none]
    walk_at "dl"
    refine ⟨_, _, _, _, rfl, ZT.x, rfl, ZT.b, ?_⟩
    walk_at "dl"
    refine ⟨_, _, _, _, rfl, ZT.x, rfl, ZT.n, ?_⟩
    walk_at "dl"
    refine ⟨_, _, _, _, rfl, ZT.x, rfl, ZT.a, ?_⟩
    walk_at "dl"
    refine ⟨by simp, ?_⟩
    walk_at "dl"
    refine ⟨_, _, _, _, rfl, ZT.x, rfl, ZT.v, ?_⟩
    walk_at "dl"
    refine ⟨_, _, _, _, rfl, ZT.x, rfl, ZT.l, ?_⟩
    walk_at "dl"
    refine ⟨_, _, _, _, rfl, ZT.x, rfl, ZT.r, ?_⟩
    walk_at "dl"
    refine ⟨by simp, ?_⟩
    walk_at "dl"
    refine ⟨by simp, ?_⟩
    walk_at "dl"
    refine ⟨_, _, _, _, rfl, ZT.x, rfl, ZT.c, ?_⟩
    walk_at "dl"
    refine ⟨ZT.x, ZT.g, _, _, rfl, rfl, ?_⟩
    walk_at "dl"
    refine ⟨_, rfl, hf, ?_⟩
    walk_at "dl"
    refine ⟨by simp, ?_⟩
    walk_at "dl"
    refine ⟨_, _, rfl, by simp, ?_⟩
    walk_at "dl"
    refine ⟨_, _, _, _, rfl, ZT.x, rfl, z1, ?_⟩
    walk_at "dl"
    · simp
    walk_at "dl"
    refine if_yes rfl ?_
    walk_at "dl"
    refine eqG_of (Shp.lst (n := 63) fun d hd => ?_) (Shp.lst (n := 63) fun d hd => ?_) ?_
    · simp only [List.mem_cons, List.not_mem_nil, or_false] at hd
      rcases hd with rfl | rfl | rfl <;> exact .bl
    · simp only [List.mem_cons, List.not_mem_nil, or_false] at hd
      rcases hd with rfl | rfl | rfl <;> exact .bl
    rw [show D.eqv (.lst [.bl true, .bl false, .bl false]) (.lst [.bl true, .bl false, .bl false]) = true from rfl]
    walk_at "dl"
    refine ⟨rfl, ?_⟩
    walk_at "dl"
    refine ⟨[true, false, false], true, rfl, rfl, ?_⟩
    walk_at "dl"
    exact q
  · injection ex with ex1 ex2
    subst ex1 ex2
    show wS _ _ _ [some (.dat _), none, none, none]
    walk_at "dl"
    refine ⟨_, _, _, _, rfl, ZY.x, rfl, ZY.b, ?_⟩
    walk_at "dl"
    refine ⟨_, _, _, _, rfl, ZY.x, rfl, ZY.n, ?_⟩
    walk_at "dl"
    refine ⟨_, _, _, _, rfl, ZY.x, rfl, ZY.a, ?_⟩
    walk_at "dl"
    refine ⟨by simp, ?_⟩
    walk_at "dl"
    refine ⟨_, _, _, _, rfl, ZY.x, rfl, ZY.v, ?_⟩
    walk_at "dl"
    refine ⟨_, _, _, _, rfl, ZY.x, rfl, ZY.l, ?_⟩
    walk_at "dl"
    refine ⟨_, _, _, _, rfl, ZY.x, rfl, ZY.r, ?_⟩
    walk_at "dl"
    refine ⟨by simp, ?_⟩
    walk_at "dl"
    refine ⟨by simp, ?_⟩
    walk_at "dl"
    refine ⟨_, _, _, _, rfl, ZY.x, rfl, z2, ?_⟩
    walk_at "dl"
    refine ⟨_, _, _, _, rfl, ZY.x, rfl, ZY.c, ?_⟩
    walk_at "dl"
    refine ⟨ZY.x, ZY.g, _, _, rfl, rfl, ?_⟩
    walk_at "dl"
    refine ⟨_, rfl, hf, ?_⟩
    walk_at "dl"
    refine ⟨by simp, ?_⟩
    walk_at "dl"
    refine ⟨_, _, rfl, by simp, ?_⟩
    walk_at "dl"
    · simp
    walk_at "dl"
    refine if_yes rfl ?_
    walk_at "dl"
    refine eqG_of (Shp.lst (n := 63) fun d hd => ?_) (Shp.lst (n := 63) fun d hd => ?_) ?_
    · simp only [List.mem_cons, List.not_mem_nil, or_false] at hd
      rcases hd with rfl | rfl | rfl <;> exact .bl
    · simp only [List.mem_cons, List.not_mem_nil, or_false] at hd
      rcases hd with rfl | rfl | rfl <;> exact .bl
    rw [show D.eqv (.lst [.bl true, .bl false, .bl false]) (.lst [.bl true, .bl false, .bl false]) = true from rfl]
    walk_at "dl"
    refine ⟨rfl, ?_⟩
    walk_at "dl"
    refine ⟨[true, false, false], true, rfl, rfl, ?_⟩
    walk_at "dl"
    exact q
end
/-! ### looks of the law: what may be a table -/
section
variable {P : Program} {w : World} {K : PySem.W.Frag} {mg : Str → Option Value} {base : Heap} {f C : Addr} {fd : FuncData}
theorem strok_join {a : Str} {ys : List Str} (ha : PyData.strOk a = true) (hy : ∀ y ∈ ys, PyData.strOk y = true) : PyData.strOk (Txt.join a ys) = true := by
  simp only [PyData.strOk, Array.all_eq_true', decide_eq_true_eq] at ha hy ⊢
  intro c hc
  have h2 : c ∈ TL.tl (Txt.join a ys) := by simpa [TL.tl] using hc
  rw [TL.join_eq, TL.tl_join] at h2
  rcases joinL_mem h2 with h | ⟨p, hp, h⟩
  · exact ha c (by simpa [TL.tl] using h)
  · obtain ⟨z, hz, rfl⟩ := List.mem_map.mp hp
    exact hy z hz c (by simpa [TL.tl] using h)
theorem text_strok {t : Tri} (h : TriOk t) : PyData.strOk (triT t) = true := by
  show PyData.strOk (textOf t.1 t.2.1 t.2.2) = true
  rw [textOf_eq h]
  refine strok_join (by decide +kernel) fun y hy => ?_
  obtain ⟨ws, hw, rfl⟩ := List.mem_map.mp hy
  exact strok_join (by decide +kernel) fun z hz => ((words_ok h ws hw).1 z hz).ok
def S_lot : DSp := fun ds Φ _ => ∃ (t : Tri) (d : D), ds = [triD t, d] ∧ TriOk t ∧ okD d = true ∧ Φ (.bl (tabB d t.2.1.length t.1.length))
theorem nat_filter {l : List D} : (l.filter fun x => !natB x).length == 0 ↔ l.all natB = true := by
  rw [beq_iff_eq, List.length_eq_zero_iff, List.filter_eq_nil_iff, List.all_eq_true]
  exact ⟨fun h x hx => by have := h x hx; simpa using this, fun h x hx => by rw [h x hx]; simp⟩
abbrev s_l_is_lot : Stmt := topS 85
abbrev N_l_is_lot : List Str := ["_law_parts_here", "_law_thing_here", "_law_each"]
theorem sc_l_is_lot : FnScope N_l_is_lot ["_law_parts_here", "_law_thing_here"] (defScope s_l_is_lot) := ⟨rfl, rfl, rfl, by decide +kernel, rfl, by decide +kernel, by decide +kernel⟩
theorem ok_lot (F : FunX K "_law_is_lot" "_law_is_lot" s_l_is_lot f fd) (B : Blt mg) (c_l_is_whole : CallD P w K mg base "_law_is_whole" 1 S_whole) : FnG P w K mg base 2 f fd ["_law_parts_here", "_law_thing_here"] (lift K S_lot) := by
  refine fnX_of F sc_l_is_lot (fun ds Φ Ψ ⟨_, _, h, _⟩ => by rw [h]; rfl) fun cdv A outer s H E b => ⟨_, (pss_cons (ps_if (PW.pt (pw_or (pt_not (pt_val (pe_callB (k_isi K) (by rfl) B.isinstance bb_isinstance (pa_cons (pv 1) (pa_cons (pe_bty B.tuple bb_tuple) pa_nil))))) (pw_or1 (pt_cmpR (k_ne K (by exact b.room)) (pe_callB (k_len K) (by rfl) B.len bb_len (pa_cons (pv 1) pa_nil)) (pe_callB (k_len K) (by rfl) B.len bb_len (pa_cons (pe_ix (k_ix K) (pv 0) pe_int (fun _ _ => rfl)) pa_nil)) (nomark _))))) (pss_one (ps_ret pe_bl)) pss_nil)
 (pss_one (ps_ret (pe_and (pe_cmpR (k_eqL0 K (by exact b.room)) (pe_lc (own := [("_law_each", 2)]) rfl sc_l_is_lot.nd (k_any K (pv 1)) (blkOk_by (own := [("_law_each", 2)]) (N := N_l_is_lot) (sc := defScope s_l_is_lot) (by decide +kernel))  (fun _ _ _ _ _ => (pg_name (i := 2) sc_l_is_lot.nd rfl (by first | exact .inl rfl | exact .inr rfl))) (fun _ _ _ _ _ => (pts_one (PW.pt (pw_or (pt_not (pt_val (k_cd K c_l_is_whole (by exact b.room) (by decide) passN (pa_cons (pv 2) pa_nil)))) (pw_or1 (pt_cmpR op_lt (pv 2) pe_int (nomark _))))))) (fun _ _ _ _ _ => (pv 2))) (pe_lst pa_nil) (nomark _)) (pe_one (pe_cmpR (k_eq K (by exact b.room)) (pe_callB (k_sumA K rfl) (by rfl) B.sum bb_sum (pa_cons (pv 1) pa_nil)) (pe_callB (k_len K) (by rfl) B.len bb_len (pa_cons (pe_ix (k_ix K) (pv 0) pe_int (fun _ _ => rfl)) pa_nil)) (nomark _))))))), fun ds Φ Ψ ⟨t, d, h, ht, hd, q⟩ => ?_⟩
  subst h
  show wS _ _ _ [some (.dat _), some (.dat _), none]
  have f2 := ht.f.l2
  have d2 := ht.d.l2
  cases d <;> first | (simp [okD] at hd; done) | skip
  case tup l _ =>
    obtain ⟨hl, hok⟩ := ok_tup hd
    unfold triD folkD divsD
    walk_at "dlt"
    rw [List.length_map]
    by_cases hn : (l.length : Int) = (t.2.1.length : Int)
    · have e : tabB (.tup l) t.2.1.length t.1.length = (l.all natB && decide ((l.map intOf).sum = (t.1.length : Int))) := by
        show ((decide ((l.length : Int) = (t.2.1.length : Int)) && l.all natB) && decide ((l.map intOf).sum = (t.1.length : Int))) = _
        rw [decide_eq_true hn, Bool.true_and]
      rw [e] at q
      refine ifNP hn ?_
      walk_at "dlt"
      refine wE_lcF (only_name (by simp)) (fun d : D => d) (fun d => d) (fun d => !natB d) (wI_any ?_)
      walk_at "dlt"
      refine ⟨_, rfl, l, (List.map_id' l).symm, hl, fun x hx => ?_, ?_⟩
      · have hx := hok x hx
        walk_at "dlt"
        refine ⟨x, rfl, hx, ?_⟩
        cases x <;> first | (simp [okD] at hx; done) | skip
        case int i _ =>
          refine ⟨_, rfl, if_no rfl ?_⟩
          walk_at "dlt"
          refine ⟨?_, fun _ => ?_⟩
          · show decide (i < 0) = !decide (0 ≤ i)
            by_cases h : i < 0
            · rw [decide_eq_true h, decide_eq_false (by omega)]; rfl
            · rw [decide_eq_false h, decide_eq_true (by omega)]; rfl
          walk_at "dlt"
          rfl
        all_goals
          refine ⟨_, rfl, if_yes rfl ⟨rfl, fun _ => ?_⟩⟩
          walk_at "dlt"
          rfl
      walk_at "dlt"
      have en : (l.filter fun d => !natB d).map (fun d => d) = l.filter fun d => !natB d := List.map_id' _
      rw [en]
      refine ⟨_, rfl, rfl, _, rfl, ?_⟩
      by_cases ha : l.all natB = true
      · obtain ⟨ei, _⟩ := ints_nat ha
        refine if_yes (nat_filter.mpr ha) ?_
        rw [ha, Bool.true_and] at q
        clear e hok hd ha
        generalize l.map intOf = T at ei q
        subst ei
        rw [List.length_map] at hl
        walk_at "dlt"
        refine sumG_t ?_
        walk_at "dlt"
        show Φ (.bl (decide (T.sum = ((t.1.map D.int).length : Int))))
        rw [List.length_map]
        exact q
      · refine if_no ((Bool.not_eq_true _).mp fun h => ha (nat_filter.mp h)) ?_
        rw [(Bool.not_eq_true _).mp ha, Bool.false_and] at q
        exact q
    · have e : tabB (.tup l) t.2.1.length t.1.length = false := by
        show ((decide ((l.length : Int) = (t.2.1.length : Int)) && l.all natB) && decide ((l.map intOf).sum = (t.1.length : Int))) = _
        rw [decide_eq_false hn, Bool.false_and, Bool.false_and]
      rw [e] at q
      refine ifNN hn ?_
      walk_at "dlt"
      exact q
  all_goals
    walk_at "dlt"
    exact q
def S_some : DSp := fun ds Φ _ => ∃ t : Tri, ds = [.pail, triD t] ∧ TriOk t ∧ ∀ d, AnyD d → Φ d
abbrev s_l_some : Stmt := topS 86
abbrev N_l_some : List Str := ["_law_pail", "_law_parts_here", "_law_found", "_law_left", "_law_k", "_law_part", "_law_turn"]
theorem sc_l_some : FnScope N_l_some ["_law_pail", "_law_parts_here"] (defScope s_l_some) := ⟨rfl, rfl, rfl, by decide +kernel, rfl, by decide +kernel, by decide +kernel⟩
theorem ok_some (F : FunX K "_law_some" "_law_some" s_l_some f fd) (B : Blt mg) (c_l_cast : CallD P w K mg base "_law_cast" 1 (pailS P_cast)) (c_l_any_of : CallD P w K mg base "_law_any_of" 2 S_any_of) (c_l_thing : CallD P w K mg base "_law_thing" 3 S_thing) (c_l_bent : CallD P w K mg base "_law_bent" 13 S_bentA) :
    FnG P w K mg base 14 f fd ["_law_pail", "_law_parts_here"] (lift K S_some) := by
  refine fnX_of F sc_l_some (fun ds Φ Ψ ⟨_, h, _⟩ => by rw [h]; rfl) fun cdv A outer s H E b => ⟨_, (pss_cons (ps_par (i := 2) (j := 3) rfl sc_l_some.nd rfl rfl (by decide) rfl rfl (pa_cons (pe_tup pa_nil) (pa_cons (pe_callB (k_len K) (by rfl) B.len bb_len (pa_cons (pe_ix (k_ix K) (pv 1) pe_int (fun _ _ => rfl)) pa_nil)) pa_nil)) rfl)
 (pss_cons (ps_for b.own rfl (pi_range1 (by rfl) B.range (pa_cons (pe_op op_sub (pe_callB (k_len K) (by rfl) B.len bb_len (pa_cons (pe_ix (k_ix K) (pv 1) pe_int (fun _ _ => rfl)) pa_nil)) pe_int) pa_nil)) (pg_name (i := 4) sc_l_some.nd rfl (by first | exact .inl rfl | exact .inr rfl)) (pss_cons (ps_set (i := 5) sc_l_some.nd rfl (by first | exact .inl rfl | exact .inr rfl) (k_cd K c_l_cast (by exact b.room) (by decide) b.pass (pa_cons (pv 0) (pa_cons (pe_op (k_add K) (pv 3) pe_int) pa_nil))))
 (pss_one (ps_par (i := 2) (j := 3) rfl sc_l_some.nd rfl rfl (by decide) rfl rfl (pa_cons (pe_op (k_add K) (pv 2) (pe_tup (pa_cons (pv 5) pa_nil))) (pa_cons (pe_op op_sub (pv 3) (pv 5)) pa_nil)) rfl))))
 (pss_cons (ps_set (i := 2) sc_l_some.nd rfl (by first | exact .inl rfl | exact .inr rfl) (pe_op (k_add K) (pv 2) (pe_tup (pa_cons (pv 3) pa_nil))))
 (pss_cons (ps_for b.own rfl (pi_range1 (by rfl) B.range (pa_cons (k_cd K c_l_any_of (by exact b.room) (by decide) b.pass (pa_cons (pv 0) (pa_cons (pe_lst (pa_cons pe_int (pa_cons pe_int (pa_cons pe_int (pa_cons pe_int pa_nil))))) pa_nil))) pa_nil)) (pg_name (i := 6) sc_l_some.nd rfl (by first | exact .inl rfl | exact .inr rfl)) (pss_one (ps_set (i := 2) sc_l_some.nd rfl (by first | exact .inl rfl | exact .inr rfl) (k_cd K c_l_bent (by exact b.room) (by decide) b.pass (pa_cons (pv 0) (pa_cons (pv 2) pa_nil))))))
 (pss_one (ps_ret (pe_ifExp (pt_cmpR op_gt (k_cd K c_l_cast (by exact b.room) (by decide) b.pass (pa_cons (pv 0) (pa_cons pe_int pa_nil))) pe_int (nomark _)) (pv 2) (k_cd K c_l_thing (by exact b.room) (by decide) b.pass (pa_cons (pv 0) pa_nil))))))))), fun ds Φ Ψ ⟨t, h, ht, q⟩ => ?_⟩
  subst h
  show wS _ _ _ [some (.dat _), some (.dat _), none, none, none, none, none]
  have f1 := ht.f.l1
  have f2 := ht.f.l2
  have d2 := ht.d.l2
  unfold triD divsD folkD
  walk_at "dlt"
  refine ⟨_, _, rfl, ?_⟩
  rw [List.length_map]
  show wS _ _ _ [some (.dat .pail), some (.dat (.lst [D.tup (t.1.map D.int), D.tup (t.2.1.map partyD), heapsD t.2.2])), some (.dat (.tup (([] : List Int).map D.int))), some (.dat (.int (t.1.length : Nat))), none, none, none]
  walk_at "dlt"
  refine wS_forT (fun i : Nat => .int (0 + (i : Int))) (fun i ρ' => ∃ (xs : List Int) (L : Int) (k p : Option Sl), ρ' = [some (.dat .pail), some (.dat (.lst [D.tup (t.1.map D.int), D.tup (t.2.1.map partyD), heapsD t.2.2])), some (.dat (.tup (xs.map D.int))), some (.dat (.int L)), k, p, none] ∧ 0 ≤ L ∧ L ≤ 12 ∧ xs.length ≤ i ∧ ∀ x ∈ xs, 0 ≤ x ∧ x ≤ 200) (wI_range1 ?_)
  walk_at "dlt"
  rw [List.length_map]
  refine ⟨_, rfl, by omega, List.range (t.2.1.length - 1), by unfold rangeD; rw [show ((t.2.1.length : Int) - 1 - 0).toNat = t.2.1.length - 1 by omega], ⟨[], _, _, _, rfl, by omega, by omega, Nat.le_refl _, fun x h => nomatch h⟩, fun i _ ρ' hi ⟨xs, L, k, p, e, h0, h1, h2, h3⟩ => ?_, fun ρ' ⟨xs, L, k, p, e, h0, h1, h2, h3⟩ => ?_⟩
  · subst e
    have hik : i < t.2.1.length - 1 := by have := (List.getElem?_eq_some_iff.mp hi).1; simpa using this
    walk_at "dlt"
    refine use_cast (by omega) (by omega) fun c hc => ?_
    walk_at "dlt"
    refine addG_t (by rw [List.length_map, List.length_singleton]; omega) ?_
    walk_at "dlt"
    refine ⟨_, _, rfl, ?_⟩
    refine ⟨xs ++ [(c : Int)], L - c, _, _, by rw [List.map_append]; rfl, by omega, by omega, by rw [List.length_append, List.length_singleton]; omega, fun x hx => ?_⟩
    rcases List.mem_append.mp hx with h | h
    · exact h3 x h
    · rw [List.mem_singleton.mp h]; omega
  · subst e
    rw [List.length_range] at h2
    walk_at "dlt"
    refine addG_t (by rw [List.length_map, List.length_singleton]; omega) ?_
    walk_at "dlt"
    have hv0 := vb_small (ns := xs ++ [L]) (fun n hn => by
      rcases List.mem_append.mp hn with h | h
      · exact h3 n h
      · rw [List.mem_singleton.mp h]; omega) (by rw [List.length_append, List.length_singleton]; omega)
    have ey : (xs ++ [L]).map D.int = xs.map D.int ++ [D.int L] := by rw [List.map_append]; rfl
    rw [ey] at hv0
    generalize List.map D.int xs ++ [D.int L] = ys at hv0
    walk_at "dlt"
    refine wS_forT (fun i : Nat => .int (0 + (i : Int))) (fun i ρ' => ∃ (d : D) (y : Option Sl), ρ' = [some (.dat .pail), some (.dat (.lst [D.tup (t.1.map D.int), D.tup (t.2.1.map partyD), heapsD t.2.2])), some (.dat d), some (.dat (.int L)), k, p, y] ∧ Vb (10 ^ 39 + i) (3 + 3 * i) d ∧ d.pyq.weight ≤ 500 * 2 ^ i - 200) (wI_range1 ?_)
    walk_at "dlt"
    refine ⟨_, rfl, by simp, by simp, fun y hy => ?_⟩
    obtain ⟨k, rfl, hk⟩ : ∃ k : Nat, y = .int (k : Int) ∧ k ≤ 2 := by
      simp only [List.mem_cons, List.not_mem_nil, or_false] at hy
      rcases hy with rfl | rfl | rfl | rfl
      · exact ⟨0, rfl, by decide⟩
      · exact ⟨0, rfl, by decide⟩
      · exact ⟨1, rfl, by decide⟩
      · exact ⟨2, rfl, by decide⟩
    walk_at "dlt"
    refine ⟨_, rfl, by omega, List.range k, by unfold rangeD; rw [show ((k : Int) - 0).toNat = k by omega], ⟨_, _, rfl, hv0.1.mono (Nat.le_refl _) (by decide), hv0.2⟩, fun i _ ρ' hi ⟨d, z, e, hv, hw⟩ => ?_, fun ρ' ⟨d, z, e, hv, hw⟩ => ?_⟩
    · subst e
      have hik : i < k := by have := (List.getElem?_eq_some_iff.mp hi).1; simpa using this
      have p2 : 2 ^ i ≤ 2 := by
        have : 2 ^ i ≤ 2 ^ 1 := Nat.pow_le_pow_right (by decide) (by omega)
        exact this
      have p1 : 1 ≤ 2 ^ i := Nat.one_le_two_pow
      have ps : 2 ^ (i + 1) = 2 * 2 ^ i := by rw [Nat.pow_succ, Nat.mul_comm]
      walk_at "dlt"
      refine use_bent (W := 500 * 2 ^ i - 200) (by omega) hv hw (Nat.le_add_right _ _) (by omega) fun d' hv' hw' => ?_
      walk_at "dlt"
      exact ⟨d', _, rfl, hv'.mono (by omega) (by omega), by omega⟩
    · subst e
      rw [List.length_range] at hv hw
      have p2 : 2 ^ k ≤ 4 := by
        have : 2 ^ k ≤ 2 ^ 2 := Nat.pow_le_pow_right (by decide) hk
        exact this
      have e40 : (10 : Nat) ^ 39 + 2 < 10 ^ 44 := by decide
      have ad : AnyD d := anyD_of hv hw (by omega) (by omega) (by omega)
      walk_at "dlt"
      refine use_cast (by decide) (by decide) fun c hc => ?_
      walk_at "dlt"
      refine ifD (fun hz => ?_) (fun hz => ?_)
      · walk_at "dlt"
        exact q d ad
      · walk_at "dlt"
        exact ⟨rfl, fun y hy => q y (anyD_menu y hy)⟩
end
/-! ### the law -/
section
variable {P : Program} {w : World} {K : PySem.W.Frag} {mg : Str → Option Value} {base : Heap} {f C CT CY c Pt : Addr} {fd : FuncData} {cs : List Value}
def tell (s y : Str) : D := .lst [.str s, .str y]
theorem eqv_tells (s y : Str) : ∀ n : Nat, PyData.eqvAll (pyAll (List.replicate n (tell s y))) (pyAll (List.replicate n (tell s y))) = true
  | 0 => by simp [pyAll, PyData.eqvAll]
  | n + 1 => by
    have e : PyData.eqv (tell s y).py (tell s y).py = true := eqv_told s y
    simp only [List.replicate_succ, pyAll, PyData.eqvAll, e, eqv_tells s y n, Bool.and_self]
theorem neG_tells {s y : Str} {n : Nat} {l m : List D} {Φ : D → Prop} (hs : PyData.strOk s = true) (hy : PyData.strOk y = true) (el : l = List.replicate n (tell s y)) (em : m = List.replicate n (tell s y)) (h : Φ (.bl false)) : neG (.lst l) (.lst m) Φ := by
  subst el em
  have sh : Shp 64 (.lst (List.replicate n (tell s y))) := Shp.lst (n := 63) fun d hd => by
    rw [List.eq_of_mem_replicate hd]
    refine Shp.lst (n := 62) fun d hd => ?_
    simp only [List.mem_cons, List.not_mem_nil, or_false] at hd
    rcases hd with rfl | rfl
    · exact .str hs
    · exact .str hy
  refine neG_of sh sh ?_
  rw [show D.eqv (.lst (List.replicate n (tell s y))) (.lst (List.replicate n (tell s y))) = true by simp only [D.eqv, D.py, PyData.eqv]; exact eqv_tells s y n]
  exact h
theorem neG_backs {l m : List D} {Φ : D → Prop} (el : l = List.replicate 4 (.str "back")) (em : m = List.replicate 4 (.str "back")) (h : Φ (.bl false)) : neG (.lst l) (.lst m) Φ := by
  subst el em
  have sh : Shp 64 (.lst (List.replicate 4 (.str "back"))) := Shp.lst (n := 63) fun d hd => by
    rw [List.eq_of_mem_replicate hd]
    exact .str (by decide +kernel)
  refine neG_of sh sh ?_
  rw [show (!D.eqv (.lst (List.replicate 4 (.str "back"))) (.lst (List.replicate 4 (.str "back")))) = false by decide +kernel]
  exact h
theorem use_small {Φ : D → Prop} {Ψ : Exn → Prop} (h : ∀ t : Tri, SmallOk t → Φ (triD t)) : S_small [.pail] Φ Ψ := ⟨rfl, h⟩
theorem use_built {t : Tri} {Φ : D → Prop} {Ψ : Exn → Prop} (ht : TriOk t) (h : Φ (nightD C t)) : S_built C [.pail, triD t] Φ Ψ := ⟨t, rfl, ht, h⟩
theorem use_some {t : Tri} {Φ : D → Prop} {Ψ : Exn → Prop} (ht : TriOk t) (h : ∀ d, AnyD d → Φ d) : S_some [.pail, triD t] Φ Ψ := ⟨t, rfl, ht, h⟩
theorem use_thing {Φ : D → Prop} {Ψ : Exn → Prop} (h : ∀ d ∈ menuD, Φ d) : S_thing [.pail] Φ Ψ := ⟨rfl, h⟩
theorem use_lot {t : Tri} {d : D} {Φ : D → Prop} {Ψ : Exn → Prop} (ht : TriOk t) (hd : okD d = true) (h : Φ (.bl (tabB d t.2.1.length t.1.length))) : S_lot [triD t, d] Φ Ψ := ⟨t, d, rfl, ht, hd, h⟩
theorem res_ok {t : Tri} {d : D} {Φ : D → Prop} {Ψ : Exn → Prop} (ht : TriOk t) (hb : tabB d t.2.1.length t.1.length = true) (h : ∀ b, Φ (.bl b)) : G_is_result C CY CT [nightD C t, d] Φ Ψ := by
  obtain ⟨T, rfl, hl, h0, hs⟩ := tab_of hb
  exact .inl ⟨t, T, rfl, ht, by omega, h0, hs, h _⟩
theorem prc_ok {t : Tri} {d : D} {Φ : D → Prop} {Ψ : Exn → Prop} (ht : TriOk t) (hb : tabB d t.2.1.length t.1.length = true) (h : ∀ v, Φ v) : G_prices C CY CT [nightD C t, d] Φ Ψ := by
  obtain ⟨T, rfl, hl, h0, hs⟩ := tab_of hb
  exact .inl ⟨t, T, rfl, ht, by omega, h0, hs, fun _ => h _, fun _ _ _ _ _ => h _⟩
theorem res_er {t : Tri} {d : D} {Φ : D → Prop} {Ψ : Exn → Prop} (ht : TriOk t) (hd : okD d = true) (hb : tabB d t.2.1.length t.1.length = false) (h : Ψ ⟨CT, [("given", d)]⟩) : G_is_result C CY CT [nightD C t, d] Φ Ψ := .inr (.inr ⟨t, d, rfl, ht, hd, hb, h⟩)
theorem prc_er {t : Tri} {d : D} {Φ : D → Prop} {Ψ : Exn → Prop} (ht : TriOk t) (hd : okD d = true) (hb : tabB d t.2.1.length t.1.length = false) (h : Ψ ⟨CT, [("given", d)]⟩) : G_prices C CY CT [nightD C t, d] Φ Ψ := .inr (.inr ⟨t, d, rfl, ht, hd, hb, h⟩)
theorem res_od {d x : D} {Φ : D → Prop} {Ψ : Exn → Prop} (hd : okD d = true) (h : Ψ ⟨CY, [("given", d)]⟩) : G_is_result C CY CT [d, x] Φ Ψ := .inr (.inl ⟨d, x, rfl, hd, h⟩)
theorem prc_od {d x : D} {Φ : D → Prop} {Ψ : Exn → Prop} (hd : okD d = true) (h : Ψ ⟨CY, [("given", d)]⟩) : G_prices C CY CT [d, x] Φ Ψ := .inr (.inl ⟨d, x, rfl, hd, h⟩)
def S_right : DSp := fun ds Φ _ => ds = [.pail] ∧ Φ (.bl true)
abbrev s_l_right : Stmt := topS 87
abbrev N_l_right : List Str := ["_law_pail", "_law_parts_here", "_law_mine", "_law_turn", "_law_thing_here", "_law_odd", "_law_got", "_law_each", "_law_said"]
theorem sc_l_right : FnScope N_l_right ["_law_pail"] (defScope s_l_right) := ⟨rfl, rfl, rfl, by decide +kernel, rfl, by decide +kernel, by decide +kernel⟩
theorem ok_right (F : FunX K "_law_right" "_law_right" s_l_right f fd) (B : Blt mg) (SY : SysB base) (hcd : CodeAt K f c) {T : List (Addr × Str)} (hT : (Pt, (Str.ofString "_law_right" ++ ".<locals>.<lambda>" : Str)) ∈ T) (hTu : ∀ p ∈ T, p.1 = Pt → p.2 = (Str.ofString "_law_right" ++ ".<locals>.<lambda>" : Str)) (TB : LamX.TabB base mg c Pt)
    (c_l_any_of : CallD P w K mg base "_law_any_of" 2 S_any_of) (c_l_small : CallD P w K mg base "_law_small" 5 S_small) (c_l_parts : CallD P w K mg base "_law_parts" 5 S_parts) (c_l_built : CallD P w K mg base "_law_built" 8 (S_built C))
    (c_l_some : CallD P w K mg base "_law_some" 14 S_some) (c_l_thing : CallD P w K mg base "_law_thing" 3 S_thing) (c_l_is_lot : CallD P w K mg base "_law_is_lot" 2 S_lot) (c_str : StrB P w K mg base C 1 (S_getT C))
    (c_is_result : CallD P w K mg base "is_result" 5 (G_is_result C CY CT)) (c_is_resultK : CallK P w K mg base "is_result" 5 (G_is_result C CY CT) 0 ["table", "night"] [1, 0])
    (c_prices : CallD P w K mg base "prices" 5 (G_prices C CY CT)) (c_pricesK : CallK P w K mg base "prices" 5 (G_prices C CY CT) 0 ["table", "night"] [1, 0])
    (c_results : CallD P w K mg base "results" 4 (E_check_night CY)) (c_resultsK : CallK P w K mg base "results" 4 (E_check_night CY) 0 ["night"] [0])
    (c_l_answer : AnsC P w K mg base "_law_answer" 8 cs (S_sort CT CY)) (hcT : PySem.W.exmAny K (.ref CT) cs = some true) (hcY : PySem.W.exmAny K (.ref CY) cs = some true) : FnG P w K mg base 15 f fd ["_law_pail"] (liftT K T S_right) := by
  refine fnX_ofT F sc_l_right (fun ds Φ Ψ ⟨h, _⟩ => by rw [h]; rfl) fun cdv A outer s H E b ⟨_, _, _, _, _, _, _, _, _, lk⟩ => ?_
  obtain rfl := hcd _ _ _ _ _ _ _ _ _ _ _ _ _ _ _ lk
  have hcode : (bodyX P w K mg base N_l_right "_law_right" s_l_right f (.ref c) A outer s H E).env.code = .ref c := rfl
  have eq : lamQ (bodyX P w K mg base N_l_right "_law_right" s_l_right f (.ref c) A outer s H E) = (Str.ofString "_law_right" ++ ".<locals>.<lambda>" : Str) := by
    show (Str.ofString "_law_right" ++ ".<locals>." ++ "<lambda>" : Str) = _
    decide +kernel
  have hmT : (Pt, lamQ (bodyX P w K mg base N_l_right "_law_right" s_l_right f (.ref c) A outer s H E)) ∈ T := by rw [eq]; exact hT
  have hu : ∀ p ∈ T, p.1 = Pt → p.2 = lamQ (bodyX P w K mg base N_l_right "_law_right" s_l_right f (.ref c) A outer s H E) := by rw [eq]; exact hTu
  refine ⟨_, (pss_cons (ps_set (i := 1) sc_l_right.nd rfl (by first | exact .inl rfl | exact .inr rfl) (k_cd K c_l_any_of (by exact b.room) (by decide) b.pass (pa_cons (pv 0) (pa_cons (pe_lst (pa_cons (k_cd K c_l_small (by exact b.room) (by decide) b.pass (pa_cons (pv 0) pa_nil)) (pa_cons (k_cd K c_l_parts (by exact b.room) (by decide) b.pass (pa_cons (pv 0) pa_nil)) pa_nil))) pa_nil))))
 (pss_cons (ps_set (i := 2) sc_l_right.nd rfl (by first | exact .inl rfl | exact .inr rfl) (k_cd K c_l_built (by exact b.room) (by decide) b.pass (pa_cons (pv 0) (pa_cons (pv 1) pa_nil))))
 (pss_cons (ps_for b.own rfl (pi_range1 (by rfl) B.range (pa_cons pe_int pa_nil)) (pg_name (i := 3) sc_l_right.nd rfl (by first | exact .inl rfl | exact .inr rfl)) (pss_cons (ps_asg (pe_tup (pa_cons (k_cd K c_l_some (by exact b.room) (by decide) b.pass (pa_cons (pv 0) (pa_cons (pv 1) pa_nil))) (pa_cons (k_cd K c_l_thing (by exact b.room) (by decide) b.pass (pa_cons (pv 0) pa_nil)) pa_nil))) (k_pg K (n := 2) rfl (pgs_cons (pg_name (i := 4) sc_l_right.nd rfl (by first | exact .inl rfl | exact .inr rfl)) (pgs_cons (pg_name (i := 5) sc_l_right.nd rfl (by first | exact .inl rfl | exact .inr rfl)) pgs_nil))))
 (pss_cons (ps_set (i := 6) sc_l_right.nd rfl (by first | exact .inl rfl | exact .inr rfl) (pe_lst (pa_cons (k_ansC K c_l_answer (by exact b.room) (by decide) TB hcode hmT hu (LamX.lamS_by (by show LamX.lamSB (defScope s_l_right) _ = true; decide +kernel)) (fun _ _ _ _ _ _ _ room => (k_cd K c_is_result (by exact room) (by decide) (passes_call (takes_of rfl rfl rfl rfl) fun _ _ _ _ h => h) (pa_cons (pv 2) (pa_cons (pv 4) pa_nil))))) pa_nil)))
 (pss_cons (ps_expr (k_bm K PySem.F.plainAttrs_list PySem.F.slot_list_append PySem.F.type_list_append mt_append (pv 6) (pa_cons (k_ansC K c_l_answer (by exact b.room) (by decide) TB hcode hmT hu (LamX.lamS_by (by show LamX.lamSB (defScope s_l_right) _ = true; decide +kernel)) (fun _ _ _ _ _ _ _ room => (k_ck K c_is_resultK (by exact room) (by decide) (passes_call (takes_of rfl rfl rfl rfl) fun _ _ _ _ h => h) pa_nil (pk_cons (pv 4) (pk_cons (pv 2) pk_nil))))) pa_nil)))
 (pss_cons (ps_expr (k_bm K PySem.F.plainAttrs_list PySem.F.slot_list_append PySem.F.type_list_append mt_append (pv 6) (pa_cons (k_ansC K c_l_answer (by exact b.room) (by decide) TB hcode hmT hu (LamX.lamS_by (by show LamX.lamSB (defScope s_l_right) _ = true; decide +kernel)) (fun _ _ _ _ _ _ _ room => (k_cd K c_prices (by exact room) (by decide) (passes_call (takes_of rfl rfl rfl rfl) fun _ _ _ _ h => h) (pa_cons (pv 2) (pa_cons (pv 4) pa_nil))))) pa_nil)))
 (pss_cons (ps_expr (k_bm K PySem.F.plainAttrs_list PySem.F.slot_list_append PySem.F.type_list_append mt_append (pv 6) (pa_cons (k_ansC K c_l_answer (by exact b.room) (by decide) TB hcode hmT hu (LamX.lamS_by (by show LamX.lamSB (defScope s_l_right) _ = true; decide +kernel)) (fun _ _ _ _ _ _ _ room => (k_ck K c_pricesK (by exact room) (by decide) (passes_call (takes_of rfl rfl rfl rfl) fun _ _ _ _ h => h) pa_nil (pk_cons (pv 4) (pk_cons (pv 2) pk_nil))))) pa_nil)))
 (pss_cons (ps_if (pt_val (k_cd K c_l_is_lot (by exact b.room) (by decide) b.pass (pa_cons (pv 1) (pa_cons (pv 4) pa_nil)))) (pss_one (ps_if (pt_cmpR (k_ne K (by exact b.room)) (pe_lc (own := [("_law_each", 7)]) rfl sc_l_right.nd (k_any K (pv 6)) (blkOk_by (own := [("_law_each", 7)]) (N := N_l_right) (sc := defScope s_l_right) (by decide +kernel))  (fun _ _ _ _ _ => (pg_name (i := 7) sc_l_right.nd rfl (by first | exact .inl rfl | exact .inr rfl))) (fun _ _ _ _ _ => pts_nil) (fun _ _ _ _ _ => (pe_ix (k_ix K) (pv 7) pe_int (fun _ _ => rfl)))) (pe_op (k_mulA K) (pe_lst (pa_cons pe_str pa_nil)) pe_int) (nomark _)) (pss_one (ps_ret pe_bl)) pss_nil)) (pss_one (ps_if (pt_cmpR (k_ne K (by exact b.room)) (pv 6) (pe_op (k_mulA K) (pe_lst (pa_cons (pe_lst (pa_cons pe_str (pa_cons (pe_callB (k_reprQ K SY (by exact b.room)) (by rfl) B.repr bb_repr (pa_cons (pv 4) pa_nil)) pa_nil))) pa_nil)) pe_int) (nomark _)) (pss_one (ps_ret pe_bl)) pss_nil)))
 (pss_cons (ps_set (i := 6) sc_l_right.nd rfl (by first | exact .inl rfl | exact .inr rfl) (pe_lst (pa_cons (k_ansC K c_l_answer (by exact b.room) (by decide) TB hcode hmT hu (LamX.lamS_by (by show LamX.lamSB (defScope s_l_right) _ = true; decide +kernel)) (fun _ _ _ _ _ _ _ room => (k_cd K c_is_result (by exact room) (by decide) (passes_call (takes_of rfl rfl rfl rfl) fun _ _ _ _ h => h) (pa_cons (pv 5) (pa_cons (pv 4) pa_nil))))) pa_nil)))
 (pss_cons (ps_expr (k_bm K PySem.F.plainAttrs_list PySem.F.slot_list_append PySem.F.type_list_append mt_append (pv 6) (pa_cons (k_ansC K c_l_answer (by exact b.room) (by decide) TB hcode hmT hu (LamX.lamS_by (by show LamX.lamSB (defScope s_l_right) _ = true; decide +kernel)) (fun _ _ _ _ _ _ _ room => (k_cd K c_prices (by exact room) (by decide) (passes_call (takes_of rfl rfl rfl rfl) fun _ _ _ _ h => h) (pa_cons (pv 5) (pa_cons (pv 4) pa_nil))))) pa_nil)))
 (pss_cons (ps_expr (k_bm K PySem.F.plainAttrs_list PySem.F.slot_list_append PySem.F.type_list_append mt_append (pv 6) (pa_cons (k_ansC K c_l_answer (by exact b.room) (by decide) TB hcode hmT hu (LamX.lamS_by (by show LamX.lamSB (defScope s_l_right) _ = true; decide +kernel)) (fun _ _ _ _ _ _ _ room => (k_cd K c_results (by exact room) (by decide) (passes_call (takes_of rfl rfl rfl rfl) fun _ _ _ _ h => h) (pa_cons (pv 5) pa_nil)))) pa_nil)))
 (pss_one (ps_if (pt_cmpR (k_ne K (by exact b.room)) (pv 6) (pe_op (k_mulA K) (pe_lst (pa_cons (pe_lst (pa_cons pe_str (pa_cons (pe_callB (k_reprQ K SY (by exact b.room)) (by rfl) B.repr bb_repr (pa_cons (pv 5) pa_nil)) pa_nil))) pa_nil)) pe_int) (nomark _)) (pss_one (ps_ret pe_bl)) pss_nil))))))))))))
 (pss_cons (ps_set (i := 8) sc_l_right.nd rfl (by first | exact .inl rfl | exact .inr rfl) (pe_callTy (k_strO K c_str (by exact b.room) (by decide)) (by rfl) B.str bb_str (pa_cons (pv 2) pa_nil)))
 (pss_one (ps_ret (pe_cmpR (k_eq K (by exact b.room)) (k_ansC K c_l_answer (by exact b.room) (by decide) TB hcode hmT hu (LamX.lamS_by (by show LamX.lamSB (defScope s_l_right) _ = true; decide +kernel)) (fun _ _ _ _ _ _ _ room => (k_ck K c_resultsK (by exact room) (by decide) (passes_call (takes_of rfl rfl rfl rfl) fun _ _ _ _ h => h) pa_nil (pk_cons (pv 8) pk_nil)))) (pe_lst (pa_cons pe_str (pa_cons (pe_callB (k_reprQ K SY (by exact b.room)) (by rfl) B.repr bb_repr (pa_cons (pv 8) pa_nil)) pa_nil))) (nomark _)))))))), fun ds Φ Ψ ⟨h, q⟩ => ?_⟩
  subst h
  show wS _ _ _ [some (.dat _), none, none, none, none, none, none, none, none]
  walk_at "dlt"
  refine use_small fun ts st => ?_
  walk_at "dlt"
  refine use_parts fun tp pt => ?_
  walk_at "dlt"
  refine ⟨_, rfl, by simp, by simp, fun y hy => ?_⟩
  obtain ⟨t, rfl, ht⟩ : ∃ t : Tri, y = triD t ∧ TriOk t := by
    simp only [List.mem_cons, List.not_mem_nil, or_false] at hy
    rcases hy with rfl | rfl
    · exact ⟨_, rfl, st.ok⟩
    · exact ⟨_, rfl, pt⟩
  clear hy
  walk_at "dlt"
  refine use_built ht ?_
  walk_at "dlt"
  refine wS_forT (fun i : Nat => .int (0 + (i : Int))) (fun _ ρ' => ∃ x1 x2 x3 x4 x5 x6 : Option Sl, ρ' = [some (.dat .pail), some (.dat (triD t)), some (.dat (nightD C t)), x1, x2, x3, x4, x5, x6]) (wI_range1 ?_)
  walk_at "dlt"
  refine ⟨_, rfl, by decide, List.range 10, rfl, ⟨_, _, _, _, _, _, rfl⟩, fun i _ ρ' hi ⟨x1, x2, x3, x4, x5, x6, e⟩ => ?_, fun ρ' ⟨x1, x2, x3, x4, x5, x6, e⟩ => ?_⟩
  · subst e
    walk_at "dlt"
    refine use_some ht fun d ad => ?_
    walk_at "dlt"
    refine use_thing fun o ho => ?_
    have ao := anyD_menu o ho
    walk_at "dlt"
    cases hb : tabB d t.2.1.length t.1.length with
    | true =>
      refine wE_ans fun EX => ?_
      show wE _ _ [some (.dat .pail), some (.dat (triD t)), some (.dat (nightD C t)), _, some (.dat d), some (.dat o), _, _, _] _
      walk_at "dlt"
      refine res_ok ht hb fun b1 => ?_
      walk_at "dlt"
      refine wE_ans fun EX => ?_
      show wE _ _ [some (.dat .pail), some (.dat (triD t)), some (.dat (nightD C t)), _, some (.dat d), some (.dat o), _, _, _] _
      walk_at "dlt"
      refine ⟨rfl, rfl, res_ok ht hb fun b2 => ?_⟩
      walk_at "dlt"
      refine ⟨_, _, rfl, by simp, ?_⟩
      walk_at "dlt"
      refine wE_ans fun EX => ?_
      show wE _ _ [some (.dat .pail), some (.dat (triD t)), some (.dat (nightD C t)), _, some (.dat d), some (.dat o), _, _, _] _
      walk_at "dlt"
      refine prc_ok ht hb fun v1 => ?_
      walk_at "dlt"
      refine ⟨_, _, rfl, by simp, ?_⟩
      walk_at "dlt"
      refine wE_ans fun EX => ?_
      show wE _ _ [some (.dat .pail), some (.dat (triD t)), some (.dat (nightD C t)), _, some (.dat d), some (.dat o), _, _, _] _
      walk_at "dlt"
      refine ⟨rfl, rfl, prc_ok ht hb fun v2 => ?_⟩
      walk_at "dlt"
      refine ⟨_, _, rfl, by simp, ?_⟩
      walk_at "dlt"
      refine use_lot ht ad.ok ?_
      rw [hb]
      walk_at "dlt"
      refine wE_lcM (only_name (by simp)) (fun d : D => .lst [.str "back", d]) (fun _ => .str "back") (wI_any ?_)
      walk_at "dlt"
      refine ⟨_, rfl, [.bl b1, .bl b2, v1, v2], rfl, by simp, fun x hx => ?_, ?_⟩
      · walk_at "dlt"
        rfl
      walk_at "dlt"
      refine neG_backs rfl rfl ?_
      refine ⟨_, rfl, if_no rfl ?_⟩
      walk_at "dlt"
      refine wE_ans fun EX => ?_
      show wE _ _ [some (.dat .pail), some (.dat (triD t)), some (.dat (nightD C t)), _, some (.dat d), some (.dat o), _, _, _] _
      walk_at "dlt"
      refine res_od ao.ok ⟨hcY, .inr ⟨o, rfl, ao.f.mono (by decide) (by decide), ?_⟩⟩
      walk_at "dlt"
      refine wE_ans fun EX => ?_
      show wE _ _ [some (.dat .pail), some (.dat (triD t)), some (.dat (nightD C t)), _, some (.dat d), some (.dat o), _, _, _] _
      walk_at "dlt"
      refine prc_od ao.ok ⟨hcY, .inr ⟨o, rfl, ao.f.mono (by decide) (by decide), ?_⟩⟩
      refine ⟨_, _, rfl, by simp, ?_⟩
      walk_at "dlt"
      refine wE_ans fun EX => ?_
      show wE _ _ [some (.dat .pail), some (.dat (triD t)), some (.dat (nightD C t)), _, some (.dat d), some (.dat o), _, _, _] _
      walk_at "dlt"
      refine ⟨o, rfl, ao.ok, hcY, .inr ⟨o, rfl, ao.f.mono (by decide) (by decide), ?_⟩⟩
      refine ⟨_, _, rfl, by simp, ?_⟩
      walk_at "dlt"
      refine ⟨_, rfl, ao.f.mono (by decide) (by decide), ?_⟩
      walk_at "dlt"
      refine neG_tells (n := 3) (s := "NotANight") (y := o.pyq.shown) (by decide +kernel) ao.f.ok rfl rfl ?_
      refine ⟨_, rfl, if_no rfl ?_⟩
      walk_at "dlt"
      exact ⟨_, _, _, _, _, _, rfl⟩
    | false =>
      have fd := ad.f.mono (m := 64) (V := 350000) (by decide) (by decide)
      refine wE_ans fun EX => ?_
      show wE _ _ [some (.dat .pail), some (.dat (triD t)), some (.dat (nightD C t)), _, some (.dat d), some (.dat o), _, _, _] _
      walk_at "dlt"
      refine res_er ht ad.ok hb ⟨hcT, .inl ⟨d, rfl, fd, ?_⟩⟩
      walk_at "dlt"
      refine wE_ans fun EX => ?_
      show wE _ _ [some (.dat .pail), some (.dat (triD t)), some (.dat (nightD C t)), _, some (.dat d), some (.dat o), _, _, _] _
      walk_at "dlt"
      refine ⟨rfl, rfl, res_er ht ad.ok hb ⟨hcT, .inl ⟨d, rfl, fd, ?_⟩⟩⟩
      refine ⟨_, _, rfl, by simp, ?_⟩
      walk_at "dlt"
      refine wE_ans fun EX => ?_
      show wE _ _ [some (.dat .pail), some (.dat (triD t)), some (.dat (nightD C t)), _, some (.dat d), some (.dat o), _, _, _] _
      walk_at "dlt"
      refine prc_er ht ad.ok hb ⟨hcT, .inl ⟨d, rfl, fd, ?_⟩⟩
      refine ⟨_, _, rfl, by simp, ?_⟩
      walk_at "dlt"
      refine wE_ans fun EX => ?_
      show wE _ _ [some (.dat .pail), some (.dat (triD t)), some (.dat (nightD C t)), _, some (.dat d), some (.dat o), _, _, _] _
      walk_at "dlt"
      refine ⟨rfl, rfl, prc_er ht ad.ok hb ⟨hcT, .inl ⟨d, rfl, fd, ?_⟩⟩⟩
      refine ⟨_, _, rfl, by simp, ?_⟩
      walk_at "dlt"
      refine use_lot ht ad.ok ?_
      rw [hb]
      walk_at "dlt"
      refine ⟨_, rfl, fd, ?_⟩
      walk_at "dlt"
      refine neG_tells (n := 4) (s := "InvalidTable") (y := d.pyq.shown) (by decide +kernel) ad.f.ok rfl rfl ?_
      refine ⟨_, rfl, if_no rfl ?_⟩
      walk_at "dlt"
      refine wE_ans fun EX => ?_
      show wE _ _ [some (.dat .pail), some (.dat (triD t)), some (.dat (nightD C t)), _, some (.dat d), some (.dat o), _, _, _] _
      walk_at "dlt"
      refine res_od ao.ok ⟨hcY, .inr ⟨o, rfl, ao.f.mono (by decide) (by decide), ?_⟩⟩
      walk_at "dlt"
      refine wE_ans fun EX => ?_
      show wE _ _ [some (.dat .pail), some (.dat (triD t)), some (.dat (nightD C t)), _, some (.dat d), some (.dat o), _, _, _] _
      walk_at "dlt"
      refine prc_od ao.ok ⟨hcY, .inr ⟨o, rfl, ao.f.mono (by decide) (by decide), ?_⟩⟩
      refine ⟨_, _, rfl, by simp, ?_⟩
      walk_at "dlt"
      refine wE_ans fun EX => ?_
      show wE _ _ [some (.dat .pail), some (.dat (triD t)), some (.dat (nightD C t)), _, some (.dat d), some (.dat o), _, _, _] _
      walk_at "dlt"
      refine ⟨o, rfl, ao.ok, hcY, .inr ⟨o, rfl, ao.f.mono (by decide) (by decide), ?_⟩⟩
      refine ⟨_, _, rfl, by simp, ?_⟩
      walk_at "dlt"
      refine ⟨_, rfl, ao.f.mono (by decide) (by decide), ?_⟩
      walk_at "dlt"
      refine neG_tells (n := 3) (s := "NotANight") (y := o.pyq.shown) (by decide +kernel) ao.f.ok rfl rfl ?_
      refine ⟨_, rfl, if_no rfl ?_⟩
      walk_at "dlt"
      exact ⟨_, _, _, _, _, _, rfl⟩
  · subst e
    walk_at "dlt"
    refine ⟨_, rfl, t.1, t.2.1, t.2.2, rfl, ?_⟩
    walk_at "dlt"
    have sy := text_strok ht
    have ly : (textOf t.1 t.2.1 t.2.2).length ≤ 2379 := text_len ht
    unfold triT at sy
    generalize textOf t.1 t.2.1 t.2.2 = y at sy ly
    have fy : FineQ 64 350000 (.str y) := FineQ.str sy (by omega)
    have oy : okD (.str y) = true := by
      show (decide (y.length ≤ 1000000) && PyData.strOk y) = true
      rw [sy, decide_eq_true (by omega)]
      rfl
    refine wE_ans fun EX => ?_
    show wE _ _ [some (.dat .pail), some (.dat (triD t)), some (.dat (nightD C t)), _, _, _, _, _, some (.dat (.str y))] _
    walk_at "dlt"
    refine ⟨rfl, rfl, _, rfl, oy, hcY, .inr ⟨_, rfl, fy, ?_⟩⟩
    walk_at "dlt"
    refine ⟨_, rfl, fy, ?_⟩
    walk_at "dlt"
    have sh := shp_told fy (s := "NotANight") (by decide +kernel)
    refine eqG_of sh sh ?_
    rw [eqv_told]
    exact q
def S_law : DSp := fun ds Φ _ => ∃ ns : List Int, ds = [.scr ns] ∧ ns.length ≤ 63 ∧ (∀ n ∈ ns, BdOk n) ∧ Φ (.bl true)
abbrev s_law : Stmt := topS 88
abbrev N_law : List Str := ["_law_script", "_law_turn"]
theorem sc_law : FnScope N_law ["_law_script"] (defScope s_law) := ⟨rfl, rfl, rfl, by decide +kernel, rfl, by decide +kernel, by decide +kernel⟩
theorem ok_law (F : FunX K "law" "law" s_law f fd) (B : Blt mg) {T : List (Addr × Str)} (c_l_right : CallT P w K mg base T "_law_right" 15 S_right) (c_l_begun : CallD P w K mg base "_law_begun" 1 S_begun) : FnG P w K mg base 16 f fd ["_law_script"] (liftT K T S_law) := by
  refine fnX_ofT F sc_law (fun ds Φ Ψ ⟨_, h, _⟩ => by rw [h]; rfl) fun cdv A outer s H E b _ => ⟨_, (pss_one (ps_ret (pe_callB (k_all K rfl) (by rfl) B.all bb_all (pa_cons (pe_lc (own := [("_law_turn", 1)]) rfl sc_law.nd (pi_range1 (by rfl) B.range (pa_cons (pe_callB (call_max2 rfl) (by rfl) B.max bb_max (pa_cons pe_int (pa_cons (pe_callB (call_min2 rfl) (by rfl) B.min bb_min (pa_cons (pe_callB (k_len K) (by rfl) B.len bb_len (pa_cons (pv 0) pa_nil)) (pa_cons pe_int pa_nil))) pa_nil))) pa_nil)) (blkOk_by (own := [("_law_turn", 1)]) (N := N_law) (sc := defScope s_law) (by decide +kernel))  (fun _ _ _ _ _ => (pg_name (i := 1) sc_law.nd rfl (by first | exact .inl rfl | exact .inr rfl))) (fun _ _ _ _ _ => pts_nil) (fun _ _ _ _ _ => (k_ct K c_l_right (by exact b.room) (by decide) passN (pa_cons (k_cd K c_l_begun (by exact b.room) (by decide) passN (pa_cons (pv 0) (pa_cons (pv 1) pa_nil))) pa_nil)))) pa_nil)))), fun ds Φ Ψ ⟨ns, h, hl, hb, q⟩ => ?_⟩
  subst h
  show wS _ _ _ [some (.dat _), none]
  walk_at "dlt"
  refine wE_lcM (only_name List.mem_cons_self) (fun i : Nat => .int (0 + (i : Int))) (fun _ => .bl true) (wI_range1 ?_)
  walk_at "dlt"
  generalize hn : (if (if (6 : Int) < (ns.length : Int) then (6 : Int) else (ns.length : Int)) > 2 then (if (6 : Int) < (ns.length : Int) then (6 : Int) else (ns.length : Int)) else 2) = n
  have n5 : 0 ≤ n ∧ n ≤ 6 := by subst hn; split <;> split <;> omega
  refine ⟨_, rfl, by omega, List.range n.toNat, by unfold rangeD; rw [Int.sub_zero], by rw [List.length_range]; omega, fun i hi => ?_, ?_⟩
  · have hi' : i < n.toNat := by simpa using hi
    walk_at "dlt"
    refine ⟨ns, _, rfl, by omega, by omega, hb, ?_⟩
    walk_at "dlt"
    exact ⟨rfl, rfl⟩
  walk_at "dlt"
  refine allG_map (q := fun _ => true) ?_
  rw [List.all_eq_true.mpr fun _ _ => rfl]
  exact q
end
section
variable {P : Program} {w : World} {K : PySem.W.Frag} {mg : Str → Option Value} {base : Heap}
abbrev s_l_answer : Stmt := topS 84
abbrev s_InvalidTable___init : Stmt := inClass (topS 6) 0
abbrev N_InvalidTable___init : List Str := ["self", "given"]
theorem sc_InvalidTable___init : FnScope N_InvalidTable___init ["self", "given"] (defScope s_InvalidTable___init) := ⟨rfl, rfl, rfl, by decide +kernel, rfl, by decide +kernel, by decide +kernel⟩
theorem mk_InvalidTable {C : Addr} (cx : XCls K mg "InvalidTable" "given" s_InvalidTable___init C) : XMk P w K mg base "InvalidTable" "given" C := XMk.of (N := N_InvalidTable___init) cx sc_InvalidTable___init (fun _ _ _ _ _ _ us hl => match us, hl with | [_, _], _ => rfl) (fun fI cdv A outer s H E => pss_one (ps_ost (pv 0) (pv 1))) (fun a y => ⟨rfl, rfl⟩)
abbrev s_NotANight___init : Stmt := inClass (topS 7) 0
abbrev N_NotANight___init : List Str := ["self", "given"]
theorem sc_NotANight___init : FnScope N_NotANight___init ["self", "given"] (defScope s_NotANight___init) := ⟨rfl, rfl, rfl, by decide +kernel, rfl, by decide +kernel, by decide +kernel⟩
theorem mk_NotANight {C : Addr} (cx : XCls K mg "NotANight" "given" s_NotANight___init C) : XMk P w K mg base "NotANight" "given" C := XMk.of (N := N_NotANight___init) cx sc_NotANight___init (fun _ _ _ _ _ _ us hl => match us, hl with | [_, _], _ => rfl) (fun fI cdv A outer s H E => pss_one (ps_ost (pv 0) (pv 1))) (fun a y => ⟨rfl, rfl⟩)
end
section
variable {P : Program} {w : World} {K : PySem.W.Frag} {mg : Str → Option Value} {h : Heap} {C fa : Addr}
theorem all_k13 (X : K.In h) (G : h.Ns mainGlobals mg) (hfa : mg "law" = some (.ref fa))
    {f_ini : Addr} {od_ini an_ini : Option Addr} {sl_ini : Array (Option Value)} {oc_ini kV_ini dc_ini pm_ini cd_ini ct_ini : Value}
    {Td ed : Addr} {cT : Value} {oT oE : Option Addr} {mT mE : Nat} {sT sE : Array (Option Value)}
    {f_divisors : Addr} {od_divisors an_divisors : Option Addr} {sl_divisors : Array (Option Value)} {oc_divisors kV_divisors dc_divisors pm_divisors cd_divisors ct_divisors : Value}
    {p_divisors : Addr} {re_divisors : List Value}
    {f_parties : Addr} {od_parties an_parties : Option Addr} {sl_parties : Array (Option Value)} {oc_parties kV_parties dc_parties pm_parties cd_parties ct_parties : Value}
    {p_parties : Addr} {re_parties : List Value}
    {f_piles : Addr} {od_piles an_piles : Option Addr} {sl_piles : Array (Option Value)} {oc_piles kV_piles dc_piles pm_piles cd_piles ct_piles : Value}
    {p_piles : Addr} {re_piles : List Value}
    {f_seats : Addr} {od_seats an_seats : Option Addr} {sl_seats : Array (Option Value)} {oc_seats kV_seats dc_seats pm_seats cd_seats ct_seats : Value}
    {p_seats : Addr} {re_seats : List Value}
    {f_lenO : Addr} {od_lenO an_lenO : Option Addr} {sl_lenO : Array (Option Value)} {oc_lenO kV_lenO dc_lenO pm_lenO cd_lenO ct_lenO : Value}
    {f_strO : Addr} {od_strO an_strO : Option Addr} {sl_strO : Array (Option Value)} {oc_strO kV_strO dc_strO pm_strO cd_strO ct_strO : Value}
    {f_read : Addr} {od_read an_read : Option Addr} {sl_read : Array (Option Value)} {oc_read kV_read dc_read pm_read cd_read ct_read : Value}
    {p_read : Addr} {re_read : List Value}
    {C_BadValue : Addr}
    {C_BadName : Addr}
    {C_NoAnswer : Addr}
    {C_InvalidTable : Addr} {nm_InvalidTable q_InvalidTable : Str} {N_InvalidTable : Addr} {bs_InvalidTable : List Value} {sn_InvalidTable : List Str} {sub_InvalidTable : List Value} {ab_InvalidTable : Bool} {col_InvalidTable : Option Bool} {dd_InvalidTable : Option Addr} {m0_InvalidTable m1_InvalidTable m2_InvalidTable m3_InvalidTable m5_InvalidTable : Option Value}
    {f_e_InvalidTable : Addr} {od_e_InvalidTable an_e_InvalidTable : Option Addr} {sl_e_InvalidTable : Array (Option Value)} {oc_e_InvalidTable kV_e_InvalidTable dc_e_InvalidTable pm_e_InvalidTable cd_e_InvalidTable ct_e_InvalidTable : Value}
    {C_NotANight : Addr} {nm_NotANight q_NotANight : Str} {N_NotANight : Addr} {bs_NotANight : List Value} {sn_NotANight : List Str} {sub_NotANight : List Value} {ab_NotANight : Bool} {col_NotANight : Option Bool} {dd_NotANight : Option Addr} {m0_NotANight m1_NotANight m2_NotANight m3_NotANight m5_NotANight : Option Value}
    {f_e_NotANight : Addr} {od_e_NotANight an_e_NotANight : Option Addr} {sl_e_NotANight : Array (Option Value)} {oc_e_NotANight kV_e_NotANight dc_e_NotANight pm_e_NotANight cd_e_NotANight ct_e_NotANight : Value}
    {t_MOST_LETTERS : Tok}
    {t_MOST_SEATS : Tok}
    {t_MOST_DIVISOR : Tok}
    {t_MOST_COUNT : Tok}
    {t_MOST_PARTIES : Tok}
    {t_MOST_PILES : Tok}
    {t_MOST_DIGITS : Tok}
    {a_ZERO : Addr} {o_ZERO : Option Addr} {m_ZERO : Nat} {s_ZERO : Array (Option Value)} {t0_ZERO t1_ZERO : Tok}
    {t_LETTERS : Tok}
    {t_LETTERS_AND_DIGITS : Tok}
    {cc_c_law_right Pt_c_law_right : Addr}
    {f_c_is_integer : Addr} {od_c_is_integer an_c_is_integer : Option Addr} {sl_c_is_integer : Array (Option Value)} {oc_c_is_integer kV_c_is_integer dc_c_is_integer pm_c_is_integer cd_c_is_integer ct_c_is_integer : Value}
    {f_c_is_between : Addr} {od_c_is_between an_c_is_between : Option Addr} {sl_c_is_between : Array (Option Value)} {oc_c_is_between kV_c_is_between dc_c_is_between pm_c_is_between cd_c_is_between ct_c_is_between : Value}
    {f_c_is_tuple_of : Addr} {od_c_is_tuple_of an_c_is_tuple_of : Option Addr} {sl_c_is_tuple_of : Array (Option Value)} {oc_c_is_tuple_of kV_c_is_tuple_of dc_c_is_tuple_of pm_c_is_tuple_of cd_c_is_tuple_of ct_c_is_tuple_of : Value}
    {f_c_is_name : Addr} {od_c_is_name an_c_is_name : Option Addr} {sl_c_is_name : Array (Option Value)} {oc_c_is_name kV_c_is_name dc_c_is_name pm_c_is_name cd_c_is_name ct_c_is_name : Value}
    {f_c_is_divisors : Addr} {od_c_is_divisors an_c_is_divisors : Option Addr} {sl_c_is_divisors : Array (Option Value)} {oc_c_is_divisors kV_c_is_divisors dc_c_is_divisors pm_c_is_divisors cd_c_is_divisors ct_c_is_divisors : Value}
    {f_c_is_party : Addr} {od_c_is_party an_c_is_party : Option Addr} {sl_c_is_party : Array (Option Value)} {oc_c_is_party kV_c_is_party dc_c_is_party pm_c_is_party cd_c_is_party ct_c_is_party : Value}
    {f_c_is_group : Addr} {od_c_is_group an_c_is_group : Option Addr} {sl_c_is_group : Array (Option Value)} {oc_c_is_group kV_c_is_group dc_c_is_group pm_c_is_group cd_c_is_group ct_c_is_group : Value}
    {f_c_is_pile : Addr} {od_c_is_pile an_c_is_pile : Option Addr} {sl_c_is_pile : Array (Option Value)} {oc_c_is_pile kV_c_is_pile dc_c_is_pile pm_c_is_pile cd_c_is_pile ct_c_is_pile : Value}
    {f_c_names_of : Addr} {od_c_names_of an_c_names_of : Option Addr} {sl_c_names_of : Array (Option Value)} {oc_c_names_of kV_c_names_of dc_c_names_of pm_c_names_of cd_c_names_of ct_c_names_of : Value}
    {f_c_check_divisors : Addr} {od_c_check_divisors an_c_check_divisors : Option Addr} {sl_c_check_divisors : Array (Option Value)} {oc_c_check_divisors kV_c_check_divisors dc_c_check_divisors pm_c_check_divisors cd_c_check_divisors ct_c_check_divisors : Value}
    {f_c_check_parties : Addr} {od_c_check_parties an_c_check_parties : Option Addr} {sl_c_check_parties : Array (Option Value)} {oc_c_check_parties kV_c_check_parties dc_c_check_parties pm_c_check_parties cd_c_check_parties ct_c_check_parties : Value}
    {f_c_check_piles : Addr} {od_c_check_piles an_c_check_piles : Option Addr} {sl_c_check_piles : Array (Option Value)} {oc_c_check_piles kV_c_check_piles dc_c_check_piles pm_c_check_piles cd_c_check_piles ct_c_check_piles : Value}
    {f_c_text_of : Addr} {od_c_text_of an_c_text_of : Option Addr} {sl_c_text_of : Array (Option Value)} {oc_c_text_of kV_c_text_of dc_c_text_of pm_c_text_of cd_c_text_of ct_c_text_of : Value}
    {f_c_number_in : Addr} {od_c_number_in an_c_number_in : Option Addr} {sl_c_number_in : Array (Option Value)} {oc_c_number_in kV_c_number_in dc_c_number_in pm_c_number_in cd_c_number_in ct_c_number_in : Value}
    {f_c_parts_in : Addr} {od_c_parts_in an_c_parts_in : Option Addr} {sl_c_parts_in : Array (Option Value)} {oc_c_parts_in kV_c_parts_in dc_c_parts_in pm_c_parts_in cd_c_parts_in ct_c_parts_in : Value}
    {f_c_counts_of : Addr} {od_c_counts_of an_c_counts_of : Option Addr} {sl_c_counts_of : Array (Option Value)} {oc_c_counts_of kV_c_counts_of dc_c_counts_of pm_c_counts_of cd_c_counts_of ct_c_counts_of : Value}
    {f_c_scale_of : Addr} {od_c_scale_of an_c_scale_of : Option Addr} {sl_c_scale_of : Array (Option Value)} {oc_c_scale_of kV_c_scale_of dc_c_scale_of pm_c_scale_of cd_c_scale_of ct_c_scale_of : Value}
    {f_c_units_of : Addr} {od_c_units_of an_c_units_of : Option Addr} {sl_c_units_of : Array (Option Value)} {oc_c_units_of kV_c_units_of dc_c_units_of pm_c_units_of cd_c_units_of ct_c_units_of : Value}
    {f_c_claims_of : Addr} {od_c_claims_of an_c_claims_of : Option Addr} {sl_c_claims_of : Array (Option Value)} {oc_c_claims_of kV_c_claims_of dc_c_claims_of pm_c_claims_of cd_c_claims_of ct_c_claims_of : Value}
    {f_c_claim_at : Addr} {od_c_claim_at an_c_claim_at : Option Addr} {sl_c_claim_at : Array (Option Value)} {oc_c_claim_at kV_c_claim_at dc_c_claim_at pm_c_claim_at cd_c_claim_at ct_c_claim_at : Value}
    {f_c_seats_above : Addr} {od_c_seats_above an_c_seats_above : Option Addr} {sl_c_seats_above : Array (Option Value)} {oc_c_seats_above kV_c_seats_above dc_c_seats_above pm_c_seats_above cd_c_seats_above ct_c_seats_above : Value}
    {f_c_seats_from : Addr} {od_c_seats_from an_c_seats_from : Option Addr} {sl_c_seats_from : Array (Option Value)} {oc_c_seats_from kV_c_seats_from dc_c_seats_from pm_c_seats_from cd_c_seats_from ct_c_seats_from : Value}
    {f_c_tables_within : Addr} {od_c_tables_within an_c_tables_within : Option Addr} {sl_c_tables_within : Array (Option Value)} {oc_c_tables_within kV_c_tables_within dc_c_tables_within pm_c_tables_within cd_c_tables_within ct_c_tables_within : Value}
    {f_c_tables_made : Addr} {od_c_tables_made an_c_tables_made : Option Addr} {sl_c_tables_made : Array (Option Value)} {oc_c_tables_made kV_c_tables_made dc_c_tables_made pm_c_tables_made cd_c_tables_made ct_c_tables_made : Value}
    {f_c_check_night : Addr} {od_c_check_night an_c_check_night : Option Addr} {sl_c_check_night : Array (Option Value)} {oc_c_check_night kV_c_check_night dc_c_check_night pm_c_check_night cd_c_check_night ct_c_check_night : Value}
    {f_c_results : Addr} {od_c_results an_c_results : Option Addr} {sl_c_results : Array (Option Value)} {oc_c_results kV_c_results dc_c_results pm_c_results cd_c_results ct_c_results : Value}
    {f_c_is_row : Addr} {od_c_is_row an_c_is_row : Option Addr} {sl_c_is_row : Array (Option Value)} {oc_c_is_row kV_c_is_row dc_c_is_row pm_c_is_row cd_c_is_row ct_c_is_row : Value}
    {f_c_is_table : Addr} {od_c_is_table an_c_is_table : Option Addr} {sl_c_is_table : Array (Option Value)} {oc_c_is_table kV_c_is_table dc_c_is_table pm_c_is_table cd_c_is_table ct_c_is_table : Value}
    {f_c_check_table : Addr} {od_c_check_table an_c_check_table : Option Addr} {sl_c_check_table : Array (Option Value)} {oc_c_check_table kV_c_check_table dc_c_check_table pm_c_check_table cd_c_check_table ct_c_check_table : Value}
    {f_c_is_below : Addr} {od_c_is_below an_c_is_below : Option Addr} {sl_c_is_below : Array (Option Value)} {oc_c_is_below kV_c_is_below dc_c_is_below pm_c_is_below cd_c_is_below ct_c_is_below : Value}
    {f_c_price_bounds : Addr} {od_c_price_bounds an_c_price_bounds : Option Addr} {sl_c_price_bounds : Array (Option Value)} {oc_c_price_bounds kV_c_price_bounds dc_c_price_bounds pm_c_price_bounds cd_c_price_bounds ct_c_price_bounds : Value}
    {f_c_is_made_by : Addr} {od_c_is_made_by an_c_is_made_by : Option Addr} {sl_c_is_made_by : Array (Option Value)} {oc_c_is_made_by kV_c_is_made_by dc_c_is_made_by pm_c_is_made_by cd_c_is_made_by ct_c_is_made_by : Value}
    {f_c_is_result : Addr} {od_c_is_result an_c_is_result : Option Addr} {sl_c_is_result : Array (Option Value)} {oc_c_is_result kV_c_is_result dc_c_is_result pm_c_is_result cd_c_is_result ct_c_is_result : Value}
    {f_c_fraction : Addr} {od_c_fraction an_c_fraction : Option Addr} {sl_c_fraction : Array (Option Value)} {oc_c_fraction kV_c_fraction dc_c_fraction pm_c_fraction cd_c_fraction ct_c_fraction : Value}
    {f_c_prices : Addr} {od_c_prices an_c_prices : Option Addr} {sl_c_prices : Array (Option Value)} {oc_c_prices kV_c_prices dc_c_prices pm_c_prices cd_c_prices ct_c_prices : Value}
    {f_c_law_begun : Addr} {od_c_law_begun an_c_law_begun : Option Addr} {sl_c_law_begun : Array (Option Value)} {oc_c_law_begun kV_c_law_begun dc_c_law_begun pm_c_law_begun cd_c_law_begun ct_c_law_begun : Value}
    {f_c_law_cast : Addr} {od_c_law_cast an_c_law_cast : Option Addr} {sl_c_law_cast : Array (Option Value)} {oc_c_law_cast kV_c_law_cast dc_c_law_cast pm_c_law_cast cd_c_law_cast ct_c_law_cast : Value}
    {f_c_law_any_of : Addr} {od_c_law_any_of an_c_law_any_of : Option Addr} {sl_c_law_any_of : Array (Option Value)} {oc_c_law_any_of kV_c_law_any_of dc_c_law_any_of pm_c_law_any_of cd_c_law_any_of ct_c_law_any_of : Value}
    {f_c_law_tags : Addr} {od_c_law_tags an_c_law_tags : Option Addr} {sl_c_law_tags : Array (Option Value)} {oc_c_law_tags kV_c_law_tags dc_c_law_tags pm_c_law_tags cd_c_law_tags ct_c_law_tags : Value}
    {f_c_law_rising : Addr} {od_c_law_rising an_c_law_rising : Option Addr} {sl_c_law_rising : Array (Option Value)} {oc_c_law_rising kV_c_law_rising dc_c_law_rising pm_c_law_rising cd_c_law_rising ct_c_law_rising : Value}
    {f_c_law_amount : Addr} {od_c_law_amount an_c_law_amount : Option Addr} {sl_c_law_amount : Array (Option Value)} {oc_c_law_amount kV_c_law_amount dc_c_law_amount pm_c_law_amount cd_c_law_amount ct_c_law_amount : Value}
    {f_c_law_heap : Addr} {od_c_law_heap an_c_law_heap : Option Addr} {sl_c_law_heap : Array (Option Value)} {oc_c_law_heap kV_c_law_heap dc_c_law_heap pm_c_law_heap cd_c_law_heap ct_c_law_heap : Value}
    {f_c_law_sheet : Addr} {od_c_law_sheet an_c_law_sheet : Option Addr} {sl_c_law_sheet : Array (Option Value)} {oc_c_law_sheet kV_c_law_sheet dc_c_law_sheet pm_c_law_sheet cd_c_law_sheet ct_c_law_sheet : Value}
    {f_c_law_of : Addr} {od_c_law_of an_c_law_of : Option Addr} {sl_c_law_of : Array (Option Value)} {oc_c_law_of kV_c_law_of dc_c_law_of pm_c_law_of cd_c_law_of ct_c_law_of : Value}
    {f_c_law_built : Addr} {od_c_law_built an_c_law_built : Option Addr} {sl_c_law_built : Array (Option Value)} {oc_c_law_built kV_c_law_built dc_c_law_built pm_c_law_built cd_c_law_built ct_c_law_built : Value}
    {f_c_law_small : Addr} {od_c_law_small an_c_law_small : Option Addr} {sl_c_law_small : Array (Option Value)} {oc_c_law_small kV_c_law_small dc_c_law_small pm_c_law_small cd_c_law_small ct_c_law_small : Value}
    {f_c_law_parts : Addr} {od_c_law_parts an_c_law_parts : Option Addr} {sl_c_law_parts : Array (Option Value)} {oc_c_law_parts kV_c_law_parts dc_c_law_parts pm_c_law_parts cd_c_law_parts ct_c_law_parts : Value}
    {f_c_law_is_whole : Addr} {od_c_law_is_whole an_c_law_is_whole : Option Addr} {sl_c_law_is_whole : Array (Option Value)} {oc_c_law_is_whole kV_c_law_is_whole dc_c_law_is_whole pm_c_law_is_whole cd_c_law_is_whole ct_c_law_is_whole : Value}
    {f_c_law_thing : Addr} {od_c_law_thing an_c_law_thing : Option Addr} {sl_c_law_thing : Array (Option Value)} {oc_c_law_thing kV_c_law_thing dc_c_law_thing pm_c_law_thing cd_c_law_thing ct_c_law_thing : Value}
    {f_c_law_bent : Addr} {od_c_law_bent an_c_law_bent : Option Addr} {sl_c_law_bent : Array (Option Value)} {oc_c_law_bent kV_c_law_bent dc_c_law_bent pm_c_law_bent cd_c_law_bent ct_c_law_bent : Value}
    {f_c_law_sort : Addr} {od_c_law_sort an_c_law_sort : Option Addr} {sl_c_law_sort : Array (Option Value)} {oc_c_law_sort kV_c_law_sort dc_c_law_sort pm_c_law_sort cd_c_law_sort ct_c_law_sort : Value}
    {f_c_law_answer : Addr} {od_c_law_answer an_c_law_answer : Option Addr} {sl_c_law_answer : Array (Option Value)} {oc_c_law_answer kV_c_law_answer dc_c_law_answer pm_c_law_answer cd_c_law_answer ct_c_law_answer : Value}
    {f_c_law_is_lot : Addr} {od_c_law_is_lot an_c_law_is_lot : Option Addr} {sl_c_law_is_lot : Array (Option Value)} {oc_c_law_is_lot kV_c_law_is_lot dc_c_law_is_lot pm_c_law_is_lot cd_c_law_is_lot ct_c_law_is_lot : Value}
    {f_c_law_some : Addr} {od_c_law_some an_c_law_some : Option Addr} {sl_c_law_some : Array (Option Value)} {oc_c_law_some kV_c_law_some dc_c_law_some pm_c_law_some cd_c_law_some ct_c_law_some : Value}
    {f_c_law_right : Addr} {od_c_law_right an_c_law_right : Option Addr} {sl_c_law_right : Array (Option Value)} {oc_c_law_right kV_c_law_right dc_c_law_right pm_c_law_right ct_c_law_right : Value}
    {f_c_law : Addr} {od_c_law an_c_law : Option Addr} {sl_c_law : Array (Option Value)} {oc_c_law kV_c_law dc_c_law pm_c_law cd_c_law ct_c_law : Value}
    (aC : PySem.W.nsIn K mainGlobals "Night" = some (some (.ref C)))
    (pg : PySem.W.plainGet K C Str.empty = true)
    (hd : PySem.W.hasDictIn K C = true)
    (po : PySem.W.plainOver K C = true)
    (sa : PySem.W.findIn K (.ref C) "__setattr__" = some (some (.builtin "object.__setattr__")))
    (no_divisors : PySem.W.findIn K (.ref C) "_divisors" = some none)
    (no_parties : PySem.W.findIn K (.ref C) "_parties" = some none)
    (no_piles : PySem.W.findIn K (.ref C) "_piles" = some none)
    (no_text : PySem.W.findIn K (.ref C) "_text" = some none)
    (ini_m : PySem.W.makesIn K C = true)
    (ini_a : PySem.W.findIn K (.ref C) "__init__" = some (some (.ref f_ini)))
    (ini_i : PySem.W.isFn K (.ref f_ini) = true)
    (ini_k : PySem.W.keepIn K (.ref C) = true)
    (ini_l : K.lookup f_ini = some ⟨oc_ini, od_ini, .func (PySem.W.fnOf "__init__" "Night.__init__" (defArgs s_Night___init) (defBody s_Night___init) (defScope s_Night___init) (.ref Td) kV_ini dc_ini pm_ini an_ini cd_ini ct_ini), sl_ini⟩)
    (ini_c : PySem.W.codeIn K cd_ini "Night.__init__" = true)
    (ini_T : K.lookup Td = some ⟨cT, oT, .seq #[.ref ed] mT, sT⟩)
    (ini_E : K.lookup ed = some ⟨.type "tuple", oE, .seq #[] mE, sE⟩)
    (divisors_a : PySem.W.findIn K (.ref C) "divisors" = some (some (.ref p_divisors)))
    (divisors_g : PySem.W.specialIn K (.ref p_divisors) "__get__" = some (some (.builtin "property.__get__")))
    (divisors_t : PySem.W.takesIn K (.ref p_divisors) = some true)
    (divisors_r : PySem.W.recIn K p_divisors "property" = some (.ref f_divisors :: re_divisors))
    (divisors_l : K.lookup f_divisors = some ⟨oc_divisors, od_divisors, .func (PySem.W.fnOf "divisors" "Night.divisors" (defArgs s_Night_divisors) (defBody s_Night_divisors) (defScope s_Night_divisors) .none kV_divisors dc_divisors pm_divisors an_divisors cd_divisors ct_divisors), sl_divisors⟩)
    (divisors_c : PySem.W.codeIn K cd_divisors "Night.divisors" = true)
    (parties_a : PySem.W.findIn K (.ref C) "parties" = some (some (.ref p_parties)))
    (parties_g : PySem.W.specialIn K (.ref p_parties) "__get__" = some (some (.builtin "property.__get__")))
    (parties_t : PySem.W.takesIn K (.ref p_parties) = some true)
    (parties_r : PySem.W.recIn K p_parties "property" = some (.ref f_parties :: re_parties))
    (parties_l : K.lookup f_parties = some ⟨oc_parties, od_parties, .func (PySem.W.fnOf "parties" "Night.parties" (defArgs s_Night_parties) (defBody s_Night_parties) (defScope s_Night_parties) .none kV_parties dc_parties pm_parties an_parties cd_parties ct_parties), sl_parties⟩)
    (parties_c : PySem.W.codeIn K cd_parties "Night.parties" = true)
    (piles_a : PySem.W.findIn K (.ref C) "piles" = some (some (.ref p_piles)))
    (piles_g : PySem.W.specialIn K (.ref p_piles) "__get__" = some (some (.builtin "property.__get__")))
    (piles_t : PySem.W.takesIn K (.ref p_piles) = some true)
    (piles_r : PySem.W.recIn K p_piles "property" = some (.ref f_piles :: re_piles))
    (piles_l : K.lookup f_piles = some ⟨oc_piles, od_piles, .func (PySem.W.fnOf "piles" "Night.piles" (defArgs s_Night_piles) (defBody s_Night_piles) (defScope s_Night_piles) .none kV_piles dc_piles pm_piles an_piles cd_piles ct_piles), sl_piles⟩)
    (piles_c : PySem.W.codeIn K cd_piles "Night.piles" = true)
    (seats_a : PySem.W.findIn K (.ref C) "seats" = some (some (.ref p_seats)))
    (seats_g : PySem.W.specialIn K (.ref p_seats) "__get__" = some (some (.builtin "property.__get__")))
    (seats_t : PySem.W.takesIn K (.ref p_seats) = some true)
    (seats_r : PySem.W.recIn K p_seats "property" = some (.ref f_seats :: re_seats))
    (seats_l : K.lookup f_seats = some ⟨oc_seats, od_seats, .func (PySem.W.fnOf "seats" "Night.seats" (defArgs s_Night_seats) (defBody s_Night_seats) (defScope s_Night_seats) .none kV_seats dc_seats pm_seats an_seats cd_seats ct_seats), sl_seats⟩)
    (seats_c : PySem.W.codeIn K cd_seats "Night.seats" = true)
    (lenO_a : PySem.W.findIn K (.ref C) "__len__" = some (some (.ref f_lenO)))
    (lenO_i : PySem.W.isFn K (.ref f_lenO) = true)
    (lenO_l : K.lookup f_lenO = some ⟨oc_lenO, od_lenO, .func (PySem.W.fnOf "__len__" "Night.__len__" (defArgs s_Night___len) (defBody s_Night___len) (defScope s_Night___len) .none kV_lenO dc_lenO pm_lenO an_lenO cd_lenO ct_lenO), sl_lenO⟩)
    (lenO_c : PySem.W.codeIn K cd_lenO "Night.__len__" = true)
    (strO_a : PySem.W.findIn K (.ref C) "__str__" = some (some (.ref f_strO)))
    (strO_i : PySem.W.isFn K (.ref f_strO) = true)
    (strO_l : K.lookup f_strO = some ⟨oc_strO, od_strO, .func (PySem.W.fnOf "__str__" "Night.__str__" (defArgs s_Night___str) (defBody s_Night___str) (defScope s_Night___str) .none kV_strO dc_strO pm_strO an_strO cd_strO ct_strO), sl_strO⟩)
    (strO_c : PySem.W.codeIn K cd_strO "Night.__str__" = true)
    (eq_dnNoneType : PySem.W.subIn K (.type "NoneType") (.ref C) = some false)
    (eq_dnbool : PySem.W.subIn K (.type "bool") (.ref C) = some false)
    (eq_dnint : PySem.W.subIn K (.type "int") (.ref C) = some false)
    (eq_dnstr : PySem.W.subIn K (.type "str") (.ref C) = some false)
    (eq_dntuple : PySem.W.subIn K (.type "tuple") (.ref C) = some false)
    (eq_dnlist : PySem.W.subIn K (.type "list") (.ref C) = some false)
    (eq_dndict : PySem.W.subIn K (.type "dict") (.ref C) = some false)
    (is_ha : PySem.W.findIn K (.ref C) "__class__" = some (some (.builtin "object.__class__")))
    (is_hn : PySem.W.specialIn K (.builtin "object.__class__") "__get__" = some (some (.builtin "getset_descriptor.__get__")))
    (is_ht : PySem.W.takesIn K (.builtin "object.__class__") = some true)
    (is_hm : PySem.W.mroIn K C (.type "object") = some true)
    (is_c : PySem.W.isClsIn K C = true)
    (is_t : PySem.W.typeIn K (.ref C) = some (.type "type"))
    (noBool : PySem.W.findIn K (.ref C) "__bool__" = some none)
    (rd : PySem.W.readsIn K C (.type "type") = true)
    (ga : PySem.W.specialIn K (.ref C) "__getattribute__" = some (some (.builtin "type.__getattribute__")))
    (read_a : PySem.W.findCls K (.ref C) (.type "type") "read" = some (.get (.builtin "classmethod.__get__") (.ref p_read) .none (.ref C)))
    (read_r : PySem.W.recIn K p_read "classmethod" = some (.ref f_read :: re_read))
    (read_f : PySem.W.fnIn K f_read = true)
    (read_l : K.lookup f_read = some ⟨oc_read, od_read, .func (PySem.W.fnOf "read" "Night.read" (defArgs s_Night_read) (defBody s_Night_read) (defScope s_Night_read) .none kV_read dc_read pm_read an_read cd_read ct_read), sl_read⟩)
    (read_c : PySem.W.codeIn K cd_read "Night.read" = true)
    (e_BadValue_a : PySem.W.nsIn K mainGlobals "BadValue" = some (some (.ref C_BadValue)))
    (e_BadName_a : PySem.W.nsIn K mainGlobals "BadName" = some (some (.ref C_BadName)))
    (e_NoAnswer_a : PySem.W.nsIn K mainGlobals "NoAnswer" = some (some (.ref C_NoAnswer)))
    (e_InvalidTable_a : PySem.W.nsIn K mainGlobals "InvalidTable" = some (some (.ref C_InvalidTable)))
    (e_InvalidTable_L : K.lookup C_InvalidTable = some (excClassObj nm_InvalidTable q_InvalidTable C_InvalidTable N_InvalidTable bs_InvalidTable [.ref C_BadValue, .type "ValueError", .type "Exception", .type "BaseException", .type "object"] true sn_InvalidTable sub_InvalidTable ab_InvalidTable col_InvalidTable dd_InvalidTable m0_InvalidTable m1_InvalidTable m2_InvalidTable m3_InvalidTable m5_InvalidTable "ValueError.__new__"))
    (e_InvalidTable_sa : PySem.W.findIn K (.ref C_InvalidTable) "__setattr__" = some (some (.builtin "object.__setattr__")))
    (e_InvalidTable_ex : PySem.W.subIn K (.ref C_InvalidTable) (.type "BaseException") = some true)
    (e_InvalidTable_ty : PySem.W.typeIn K (.ref C_InvalidTable) = some (.type "type"))
    (e_InvalidTable_kC : PySem.W.keepIn K (.ref C_InvalidTable) = true)
    (e_InvalidTable_no : PySem.W.findIn K (.ref C_InvalidTable) "given" = some none)
    (e_InvalidTable_i : PySem.W.findIn K (.ref C_InvalidTable) "__init__" = some (some (.ref f_e_InvalidTable)))
    (e_InvalidTable_it : PySem.W.typeIn K (.ref f_e_InvalidTable) = some (.type "function"))
    (e_InvalidTable_l : K.lookup f_e_InvalidTable = some ⟨oc_e_InvalidTable, od_e_InvalidTable, .func (PySem.W.fnOf "__init__" "InvalidTable.__init__" (defArgs s_InvalidTable___init) (defBody s_InvalidTable___init) (defScope s_InvalidTable___init) .none kV_e_InvalidTable dc_e_InvalidTable pm_e_InvalidTable an_e_InvalidTable cd_e_InvalidTable ct_e_InvalidTable), sl_e_InvalidTable⟩)
    (e_InvalidTable_c : PySem.W.codeIn K cd_e_InvalidTable "InvalidTable.__init__" = true)
    (e_InvalidTable_k : PySem.W.keepIn K (.ref f_e_InvalidTable) = true)
    (e_NotANight_a : PySem.W.nsIn K mainGlobals "NotANight" = some (some (.ref C_NotANight)))
    (e_NotANight_L : K.lookup C_NotANight = some (excClassObj nm_NotANight q_NotANight C_NotANight N_NotANight bs_NotANight [.ref C_BadValue, .type "ValueError", .type "Exception", .type "BaseException", .type "object"] true sn_NotANight sub_NotANight ab_NotANight col_NotANight dd_NotANight m0_NotANight m1_NotANight m2_NotANight m3_NotANight m5_NotANight "ValueError.__new__"))
    (e_NotANight_sa : PySem.W.findIn K (.ref C_NotANight) "__setattr__" = some (some (.builtin "object.__setattr__")))
    (e_NotANight_ex : PySem.W.subIn K (.ref C_NotANight) (.type "BaseException") = some true)
    (e_NotANight_ty : PySem.W.typeIn K (.ref C_NotANight) = some (.type "type"))
    (e_NotANight_kC : PySem.W.keepIn K (.ref C_NotANight) = true)
    (e_NotANight_no : PySem.W.findIn K (.ref C_NotANight) "given" = some none)
    (e_NotANight_i : PySem.W.findIn K (.ref C_NotANight) "__init__" = some (some (.ref f_e_NotANight)))
    (e_NotANight_it : PySem.W.typeIn K (.ref f_e_NotANight) = some (.type "function"))
    (e_NotANight_l : K.lookup f_e_NotANight = some ⟨oc_e_NotANight, od_e_NotANight, .func (PySem.W.fnOf "__init__" "NotANight.__init__" (defArgs s_NotANight___init) (defBody s_NotANight___init) (defScope s_NotANight___init) .none kV_e_NotANight dc_e_NotANight pm_e_NotANight an_e_NotANight cd_e_NotANight ct_e_NotANight), sl_e_NotANight⟩)
    (e_NotANight_c : PySem.W.codeIn K cd_e_NotANight "NotANight.__init__" = true)
    (e_NotANight_k : PySem.W.keepIn K (.ref f_e_NotANight) = true)
    (h_InvalidTable_c : PySem.W.isClsIn K C_InvalidTable = true)
    (h_InvalidTable_c2 : PySem.W.hasDictIn K C_InvalidTable = true)
    (h_InvalidTable_ga : PySem.W.findIn K (.ref C_InvalidTable) "__getattribute__" = some (some (.builtin "BaseException.__getattribute__")))
    (h_InvalidTable_gg : PySem.W.findIn K (.ref C_InvalidTable) "__getattr__" = some none)
    (h_InvalidTable_cl : PySem.W.findIn K (.ref C_InvalidTable) "__class__" = some (some (.builtin "object.__class__")))
    (h_InvalidTable_mr : PySem.W.mroIn K C_InvalidTable (.type "object") = some true)
    (h_NotANight_c : PySem.W.isClsIn K C_NotANight = true)
    (h_NotANight_c2 : PySem.W.hasDictIn K C_NotANight = true)
    (h_NotANight_ga : PySem.W.findIn K (.ref C_NotANight) "__getattribute__" = some (some (.builtin "BaseException.__getattribute__")))
    (h_NotANight_gg : PySem.W.findIn K (.ref C_NotANight) "__getattr__" = some none)
    (h_NotANight_cl : PySem.W.findIn K (.ref C_NotANight) "__class__" = some (some (.builtin "object.__class__")))
    (h_NotANight_mr : PySem.W.mroIn K C_NotANight (.type "object") = some true)
    (h_sp : PySem.W.specialIn K (.builtin "object.__class__") "__get__" = some (some (.builtin "getset_descriptor.__get__")))
    (h_tk : PySem.W.takesIn K (.builtin "object.__class__") = some true)
    (kt_InvalidTable_BadValue : PySem.W.kitOne K (.ref C_InvalidTable) (.ref C_BadValue) = some true)
    (kt_InvalidTable_BadName : PySem.W.kitOne K (.ref C_InvalidTable) (.ref C_BadName) = some false)
    (kt_InvalidTable_NoAnswer : PySem.W.kitOne K (.ref C_InvalidTable) (.ref C_NoAnswer) = some false)
    (kt_InvalidTable_ValueError : PySem.W.kitOne K (.ref C_InvalidTable) (.type "ValueError") = some true)
    (kt_InvalidTable_LookupError : PySem.W.kitOne K (.ref C_InvalidTable) (.type "LookupError") = some false)
    (kt_InvalidTable_ArithmeticError : PySem.W.kitOne K (.ref C_InvalidTable) (.type "ArithmeticError") = some false)
    (kt_InvalidTable_InvalidTable : PySem.W.kitOne K (.ref C_InvalidTable) (.ref C_InvalidTable) = some true)
    (kt_InvalidTable_NotANight : PySem.W.kitOne K (.ref C_InvalidTable) (.ref C_NotANight) = some false)
    (kt_NotANight_BadValue : PySem.W.kitOne K (.ref C_NotANight) (.ref C_BadValue) = some true)
    (kt_NotANight_BadName : PySem.W.kitOne K (.ref C_NotANight) (.ref C_BadName) = some false)
    (kt_NotANight_NoAnswer : PySem.W.kitOne K (.ref C_NotANight) (.ref C_NoAnswer) = some false)
    (kt_NotANight_ValueError : PySem.W.kitOne K (.ref C_NotANight) (.type "ValueError") = some true)
    (kt_NotANight_LookupError : PySem.W.kitOne K (.ref C_NotANight) (.type "LookupError") = some false)
    (kt_NotANight_ArithmeticError : PySem.W.kitOne K (.ref C_NotANight) (.type "ArithmeticError") = some false)
    (kt_NotANight_NotANight : PySem.W.kitOne K (.ref C_NotANight) (.ref C_NotANight) = some true)
    (kt_NotANight_InvalidTable : PySem.W.kitOne K (.ref C_NotANight) (.ref C_InvalidTable) = some false)
    (x_cT : PySem.W.exmAny K (.ref C_InvalidTable) [.ref C_BadValue, .ref C_BadName, .ref C_NoAnswer] = some true)
    (x_cY : PySem.W.exmAny K (.ref C_NotANight) [.ref C_BadValue, .ref C_BadName, .ref C_NoAnswer] = some true)
    (b_len : PySem.W.nsIn K mainGlobals "len" = some none)
    (b_isinstance : PySem.W.nsIn K mainGlobals "isinstance" = some none)
    (b_int : PySem.W.nsIn K mainGlobals "int" = some none)
    (b_bool : PySem.W.nsIn K mainGlobals "bool" = some none)
    (b_str : PySem.W.nsIn K mainGlobals "str" = some none)
    (b_tuple : PySem.W.nsIn K mainGlobals "tuple" = some none)
    (b_list : PySem.W.nsIn K mainGlobals "list" = some none)
    (b_all : PySem.W.nsIn K mainGlobals "all" = some none)
    (b_sum : PySem.W.nsIn K mainGlobals "sum" = some none)
    (b_min : PySem.W.nsIn K mainGlobals "min" = some none)
    (b_max : PySem.W.nsIn K mainGlobals "max" = some none)
    (b_abs : PySem.W.nsIn K mainGlobals "abs" = some none)
    (b_range : PySem.W.nsIn K mainGlobals "range" = some none)
    (b_enumerate : PySem.W.nsIn K mainGlobals "enumerate" = some none)
    (b_zip : PySem.W.nsIn K mainGlobals "zip" = some none)
    (b_repr : PySem.W.nsIn K mainGlobals "repr" = some none)
    (b_divmod : PySem.W.nsIn K mainGlobals "divmod" = some none)
    (b_ValueError : PySem.W.nsIn K mainGlobals "ValueError" = some none)
    (b_LookupError : PySem.W.nsIn K mainGlobals "LookupError" = some none)
    (b_ArithmeticError : PySem.W.nsIn K mainGlobals "ArithmeticError" = some none)
    (b_sorted : PySem.W.nsIn K mainGlobals "sorted" = some none)
    (i_gcd : PySem.W.nsIn K mainGlobals "gcd" = some (some (.builtin "math.gcd")))
    (i_lcm : PySem.W.nsIn K mainGlobals "lcm" = some (some (.builtin "math.lcm")))
    (g_MOST_LETTERS : PySem.W.nsIn K mainGlobals "MOST_LETTERS" = some (some (.int 8 t_MOST_LETTERS)))
    (g_MOST_SEATS : PySem.W.nsIn K mainGlobals "MOST_SEATS" = some (some (.int 12 t_MOST_SEATS)))
    (g_MOST_DIVISOR : PySem.W.nsIn K mainGlobals "MOST_DIVISOR" = some (some (.int 100 t_MOST_DIVISOR)))
    (g_MOST_COUNT : PySem.W.nsIn K mainGlobals "MOST_COUNT" = some (some (.int 1000000 t_MOST_COUNT)))
    (g_MOST_PARTIES : PySem.W.nsIn K mainGlobals "MOST_PARTIES" = some (some (.int 6 t_MOST_PARTIES)))
    (g_MOST_PILES : PySem.W.nsIn K mainGlobals "MOST_PILES" = some (some (.int 6 t_MOST_PILES)))
    (g_MOST_DIGITS : PySem.W.nsIn K mainGlobals "MOST_DIGITS" = some (some (.int 7 t_MOST_DIGITS)))
    (tu_ZERO : PySem.W.nsIn K mainGlobals "ZERO" = some (some (.ref a_ZERO)))
    (tl_ZERO : K.lookup a_ZERO = some ⟨.type "tuple", o_ZERO, .seq #[.int 0 t0_ZERO, .int 1 t1_ZERO] m_ZERO, s_ZERO⟩)
    (g_LETTERS : PySem.W.nsIn K mainGlobals "LETTERS" = some (some (.str letters t_LETTERS)))
    (g_LETTERS_AND_DIGITS : PySem.W.nsIn K mainGlobals "LETTERS_AND_DIGITS" = some (some (.str lettersD t_LETTERS_AND_DIGITS)))
    (tb_c_law_right : PySem.W.tabIn K "_law_right" = some (cc_c_law_right, Pt_c_law_right))
    (to_c_law_right : K.lookup Pt_c_law_right = none)
    (c_is_integer_a : PySem.W.nsIn K mainGlobals "is_integer" = some (some (.ref f_c_is_integer)))
    (c_is_integer_l : K.lookup f_c_is_integer = some ⟨oc_c_is_integer, od_c_is_integer, .func (PySem.W.fnOf "is_integer" "is_integer" (defArgs s_is_integer) (defBody s_is_integer) (defScope s_is_integer) .none kV_c_is_integer dc_c_is_integer pm_c_is_integer an_c_is_integer cd_c_is_integer ct_c_is_integer), sl_c_is_integer⟩)
    (c_is_integer_c : PySem.W.codeIn K cd_c_is_integer "is_integer" = true)
    (c_is_integer_k : PySem.W.keepIn K (.ref f_c_is_integer) = true)
    (c_is_between_a : PySem.W.nsIn K mainGlobals "is_between" = some (some (.ref f_c_is_between)))
    (c_is_between_l : K.lookup f_c_is_between = some ⟨oc_c_is_between, od_c_is_between, .func (PySem.W.fnOf "is_between" "is_between" (defArgs s_is_between) (defBody s_is_between) (defScope s_is_between) .none kV_c_is_between dc_c_is_between pm_c_is_between an_c_is_between cd_c_is_between ct_c_is_between), sl_c_is_between⟩)
    (c_is_between_c : PySem.W.codeIn K cd_c_is_between "is_between" = true)
    (c_is_between_k : PySem.W.keepIn K (.ref f_c_is_between) = true)
    (c_is_tuple_of_a : PySem.W.nsIn K mainGlobals "is_tuple_of" = some (some (.ref f_c_is_tuple_of)))
    (c_is_tuple_of_l : K.lookup f_c_is_tuple_of = some ⟨oc_c_is_tuple_of, od_c_is_tuple_of, .func (PySem.W.fnOf "is_tuple_of" "is_tuple_of" (defArgs s_is_tuple_of) (defBody s_is_tuple_of) (defScope s_is_tuple_of) .none kV_c_is_tuple_of dc_c_is_tuple_of pm_c_is_tuple_of an_c_is_tuple_of cd_c_is_tuple_of ct_c_is_tuple_of), sl_c_is_tuple_of⟩)
    (c_is_tuple_of_c : PySem.W.codeIn K cd_c_is_tuple_of "is_tuple_of" = true)
    (c_is_tuple_of_k : PySem.W.keepIn K (.ref f_c_is_tuple_of) = true)
    (c_is_name_a : PySem.W.nsIn K mainGlobals "is_name" = some (some (.ref f_c_is_name)))
    (c_is_name_l : K.lookup f_c_is_name = some ⟨oc_c_is_name, od_c_is_name, .func (PySem.W.fnOf "is_name" "is_name" (defArgs s_is_name) (defBody s_is_name) (defScope s_is_name) .none kV_c_is_name dc_c_is_name pm_c_is_name an_c_is_name cd_c_is_name ct_c_is_name), sl_c_is_name⟩)
    (c_is_name_c : PySem.W.codeIn K cd_c_is_name "is_name" = true)
    (c_is_name_k : PySem.W.keepIn K (.ref f_c_is_name) = true)
    (c_is_divisors_a : PySem.W.nsIn K mainGlobals "is_divisors" = some (some (.ref f_c_is_divisors)))
    (c_is_divisors_l : K.lookup f_c_is_divisors = some ⟨oc_c_is_divisors, od_c_is_divisors, .func (PySem.W.fnOf "is_divisors" "is_divisors" (defArgs s_is_divisors) (defBody s_is_divisors) (defScope s_is_divisors) .none kV_c_is_divisors dc_c_is_divisors pm_c_is_divisors an_c_is_divisors cd_c_is_divisors ct_c_is_divisors), sl_c_is_divisors⟩)
    (c_is_divisors_c : PySem.W.codeIn K cd_c_is_divisors "is_divisors" = true)
    (c_is_divisors_k : PySem.W.keepIn K (.ref f_c_is_divisors) = true)
    (c_is_party_a : PySem.W.nsIn K mainGlobals "is_party" = some (some (.ref f_c_is_party)))
    (c_is_party_l : K.lookup f_c_is_party = some ⟨oc_c_is_party, od_c_is_party, .func (PySem.W.fnOf "is_party" "is_party" (defArgs s_is_party) (defBody s_is_party) (defScope s_is_party) .none kV_c_is_party dc_c_is_party pm_c_is_party an_c_is_party cd_c_is_party ct_c_is_party), sl_c_is_party⟩)
    (c_is_party_c : PySem.W.codeIn K cd_c_is_party "is_party" = true)
    (c_is_party_k : PySem.W.keepIn K (.ref f_c_is_party) = true)
    (c_is_group_a : PySem.W.nsIn K mainGlobals "is_group" = some (some (.ref f_c_is_group)))
    (c_is_group_l : K.lookup f_c_is_group = some ⟨oc_c_is_group, od_c_is_group, .func (PySem.W.fnOf "is_group" "is_group" (defArgs s_is_group) (defBody s_is_group) (defScope s_is_group) .none kV_c_is_group dc_c_is_group pm_c_is_group an_c_is_group cd_c_is_group ct_c_is_group), sl_c_is_group⟩)
    (c_is_group_c : PySem.W.codeIn K cd_c_is_group "is_group" = true)
    (c_is_group_k : PySem.W.keepIn K (.ref f_c_is_group) = true)
    (c_is_pile_a : PySem.W.nsIn K mainGlobals "is_pile" = some (some (.ref f_c_is_pile)))
    (c_is_pile_l : K.lookup f_c_is_pile = some ⟨oc_c_is_pile, od_c_is_pile, .func (PySem.W.fnOf "is_pile" "is_pile" (defArgs s_is_pile) (defBody s_is_pile) (defScope s_is_pile) .none kV_c_is_pile dc_c_is_pile pm_c_is_pile an_c_is_pile cd_c_is_pile ct_c_is_pile), sl_c_is_pile⟩)
    (c_is_pile_c : PySem.W.codeIn K cd_c_is_pile "is_pile" = true)
    (c_is_pile_k : PySem.W.keepIn K (.ref f_c_is_pile) = true)
    (c_names_of_a : PySem.W.nsIn K mainGlobals "names_of" = some (some (.ref f_c_names_of)))
    (c_names_of_l : K.lookup f_c_names_of = some ⟨oc_c_names_of, od_c_names_of, .func (PySem.W.fnOf "names_of" "names_of" (defArgs s_names_of) (defBody s_names_of) (defScope s_names_of) .none kV_c_names_of dc_c_names_of pm_c_names_of an_c_names_of cd_c_names_of ct_c_names_of), sl_c_names_of⟩)
    (c_names_of_c : PySem.W.codeIn K cd_c_names_of "names_of" = true)
    (c_names_of_k : PySem.W.keepIn K (.ref f_c_names_of) = true)
    (c_check_divisors_a : PySem.W.nsIn K mainGlobals "check_divisors" = some (some (.ref f_c_check_divisors)))
    (c_check_divisors_l : K.lookup f_c_check_divisors = some ⟨oc_c_check_divisors, od_c_check_divisors, .func (PySem.W.fnOf "check_divisors" "check_divisors" (defArgs s_check_divisors) (defBody s_check_divisors) (defScope s_check_divisors) .none kV_c_check_divisors dc_c_check_divisors pm_c_check_divisors an_c_check_divisors cd_c_check_divisors ct_c_check_divisors), sl_c_check_divisors⟩)
    (c_check_divisors_c : PySem.W.codeIn K cd_c_check_divisors "check_divisors" = true)
    (c_check_divisors_k : PySem.W.keepIn K (.ref f_c_check_divisors) = true)
    (c_check_parties_a : PySem.W.nsIn K mainGlobals "check_parties" = some (some (.ref f_c_check_parties)))
    (c_check_parties_l : K.lookup f_c_check_parties = some ⟨oc_c_check_parties, od_c_check_parties, .func (PySem.W.fnOf "check_parties" "check_parties" (defArgs s_check_parties) (defBody s_check_parties) (defScope s_check_parties) .none kV_c_check_parties dc_c_check_parties pm_c_check_parties an_c_check_parties cd_c_check_parties ct_c_check_parties), sl_c_check_parties⟩)
    (c_check_parties_c : PySem.W.codeIn K cd_c_check_parties "check_parties" = true)
    (c_check_parties_k : PySem.W.keepIn K (.ref f_c_check_parties) = true)
    (c_check_piles_a : PySem.W.nsIn K mainGlobals "check_piles" = some (some (.ref f_c_check_piles)))
    (c_check_piles_l : K.lookup f_c_check_piles = some ⟨oc_c_check_piles, od_c_check_piles, .func (PySem.W.fnOf "check_piles" "check_piles" (defArgs s_check_piles) (defBody s_check_piles) (defScope s_check_piles) .none kV_c_check_piles dc_c_check_piles pm_c_check_piles an_c_check_piles cd_c_check_piles ct_c_check_piles), sl_c_check_piles⟩)
    (c_check_piles_c : PySem.W.codeIn K cd_c_check_piles "check_piles" = true)
    (c_check_piles_k : PySem.W.keepIn K (.ref f_c_check_piles) = true)
    (c_text_of_a : PySem.W.nsIn K mainGlobals "text_of" = some (some (.ref f_c_text_of)))
    (c_text_of_l : K.lookup f_c_text_of = some ⟨oc_c_text_of, od_c_text_of, .func (PySem.W.fnOf "text_of" "text_of" (defArgs s_text_of) (defBody s_text_of) (defScope s_text_of) .none kV_c_text_of dc_c_text_of pm_c_text_of an_c_text_of cd_c_text_of ct_c_text_of), sl_c_text_of⟩)
    (c_text_of_c : PySem.W.codeIn K cd_c_text_of "text_of" = true)
    (c_text_of_k : PySem.W.keepIn K (.ref f_c_text_of) = true)
    (c_number_in_a : PySem.W.nsIn K mainGlobals "number_in" = some (some (.ref f_c_number_in)))
    (c_number_in_l : K.lookup f_c_number_in = some ⟨oc_c_number_in, od_c_number_in, .func (PySem.W.fnOf "number_in" "number_in" (defArgs s_number_in) (defBody s_number_in) (defScope s_number_in) .none kV_c_number_in dc_c_number_in pm_c_number_in an_c_number_in cd_c_number_in ct_c_number_in), sl_c_number_in⟩)
    (c_number_in_c : PySem.W.codeIn K cd_c_number_in "number_in" = true)
    (c_number_in_k : PySem.W.keepIn K (.ref f_c_number_in) = true)
    (c_parts_in_a : PySem.W.nsIn K mainGlobals "parts_in" = some (some (.ref f_c_parts_in)))
    (c_parts_in_l : K.lookup f_c_parts_in = some ⟨oc_c_parts_in, od_c_parts_in, .func (PySem.W.fnOf "parts_in" "parts_in" (defArgs s_parts_in) (defBody s_parts_in) (defScope s_parts_in) .none kV_c_parts_in dc_c_parts_in pm_c_parts_in an_c_parts_in cd_c_parts_in ct_c_parts_in), sl_c_parts_in⟩)
    (c_parts_in_c : PySem.W.codeIn K cd_c_parts_in "parts_in" = true)
    (c_parts_in_k : PySem.W.keepIn K (.ref f_c_parts_in) = true)
    (c_counts_of_a : PySem.W.nsIn K mainGlobals "counts_of" = some (some (.ref f_c_counts_of)))
    (c_counts_of_l : K.lookup f_c_counts_of = some ⟨oc_c_counts_of, od_c_counts_of, .func (PySem.W.fnOf "counts_of" "counts_of" (defArgs s_counts_of) (defBody s_counts_of) (defScope s_counts_of) .none kV_c_counts_of dc_c_counts_of pm_c_counts_of an_c_counts_of cd_c_counts_of ct_c_counts_of), sl_c_counts_of⟩)
    (c_counts_of_c : PySem.W.codeIn K cd_c_counts_of "counts_of" = true)
    (c_counts_of_k : PySem.W.keepIn K (.ref f_c_counts_of) = true)
    (c_scale_of_a : PySem.W.nsIn K mainGlobals "scale_of" = some (some (.ref f_c_scale_of)))
    (c_scale_of_l : K.lookup f_c_scale_of = some ⟨oc_c_scale_of, od_c_scale_of, .func (PySem.W.fnOf "scale_of" "scale_of" (defArgs s_scale_of) (defBody s_scale_of) (defScope s_scale_of) .none kV_c_scale_of dc_c_scale_of pm_c_scale_of an_c_scale_of cd_c_scale_of ct_c_scale_of), sl_c_scale_of⟩)
    (c_scale_of_c : PySem.W.codeIn K cd_c_scale_of "scale_of" = true)
    (c_scale_of_k : PySem.W.keepIn K (.ref f_c_scale_of) = true)
    (c_units_of_a : PySem.W.nsIn K mainGlobals "units_of" = some (some (.ref f_c_units_of)))
    (c_units_of_l : K.lookup f_c_units_of = some ⟨oc_c_units_of, od_c_units_of, .func (PySem.W.fnOf "units_of" "units_of" (defArgs s_units_of) (defBody s_units_of) (defScope s_units_of) .none kV_c_units_of dc_c_units_of pm_c_units_of an_c_units_of cd_c_units_of ct_c_units_of), sl_c_units_of⟩)
    (c_units_of_c : PySem.W.codeIn K cd_c_units_of "units_of" = true)
    (c_units_of_k : PySem.W.keepIn K (.ref f_c_units_of) = true)
    (c_claims_of_a : PySem.W.nsIn K mainGlobals "claims_of" = some (some (.ref f_c_claims_of)))
    (c_claims_of_l : K.lookup f_c_claims_of = some ⟨oc_c_claims_of, od_c_claims_of, .func (PySem.W.fnOf "claims_of" "claims_of" (defArgs s_claims_of) (defBody s_claims_of) (defScope s_claims_of) .none kV_c_claims_of dc_c_claims_of pm_c_claims_of an_c_claims_of cd_c_claims_of ct_c_claims_of), sl_c_claims_of⟩)
    (c_claims_of_c : PySem.W.codeIn K cd_c_claims_of "claims_of" = true)
    (c_claims_of_k : PySem.W.keepIn K (.ref f_c_claims_of) = true)
    (c_claim_at_a : PySem.W.nsIn K mainGlobals "claim_at" = some (some (.ref f_c_claim_at)))
    (c_claim_at_l : K.lookup f_c_claim_at = some ⟨oc_c_claim_at, od_c_claim_at, .func (PySem.W.fnOf "claim_at" "claim_at" (defArgs s_claim_at) (defBody s_claim_at) (defScope s_claim_at) .none kV_c_claim_at dc_c_claim_at pm_c_claim_at an_c_claim_at cd_c_claim_at ct_c_claim_at), sl_c_claim_at⟩)
    (c_claim_at_c : PySem.W.codeIn K cd_c_claim_at "claim_at" = true)
    (c_claim_at_k : PySem.W.keepIn K (.ref f_c_claim_at) = true)
    (c_seats_above_a : PySem.W.nsIn K mainGlobals "seats_above" = some (some (.ref f_c_seats_above)))
    (c_seats_above_l : K.lookup f_c_seats_above = some ⟨oc_c_seats_above, od_c_seats_above, .func (PySem.W.fnOf "seats_above" "seats_above" (defArgs s_seats_above) (defBody s_seats_above) (defScope s_seats_above) .none kV_c_seats_above dc_c_seats_above pm_c_seats_above an_c_seats_above cd_c_seats_above ct_c_seats_above), sl_c_seats_above⟩)
    (c_seats_above_c : PySem.W.codeIn K cd_c_seats_above "seats_above" = true)
    (c_seats_above_k : PySem.W.keepIn K (.ref f_c_seats_above) = true)
    (c_seats_from_a : PySem.W.nsIn K mainGlobals "seats_from" = some (some (.ref f_c_seats_from)))
    (c_seats_from_l : K.lookup f_c_seats_from = some ⟨oc_c_seats_from, od_c_seats_from, .func (PySem.W.fnOf "seats_from" "seats_from" (defArgs s_seats_from) (defBody s_seats_from) (defScope s_seats_from) .none kV_c_seats_from dc_c_seats_from pm_c_seats_from an_c_seats_from cd_c_seats_from ct_c_seats_from), sl_c_seats_from⟩)
    (c_seats_from_c : PySem.W.codeIn K cd_c_seats_from "seats_from" = true)
    (c_seats_from_k : PySem.W.keepIn K (.ref f_c_seats_from) = true)
    (c_tables_within_a : PySem.W.nsIn K mainGlobals "tables_within" = some (some (.ref f_c_tables_within)))
    (c_tables_within_l : K.lookup f_c_tables_within = some ⟨oc_c_tables_within, od_c_tables_within, .func (PySem.W.fnOf "tables_within" "tables_within" (defArgs s_tables_within) (defBody s_tables_within) (defScope s_tables_within) .none kV_c_tables_within dc_c_tables_within pm_c_tables_within an_c_tables_within cd_c_tables_within ct_c_tables_within), sl_c_tables_within⟩)
    (c_tables_within_c : PySem.W.codeIn K cd_c_tables_within "tables_within" = true)
    (c_tables_within_k : PySem.W.keepIn K (.ref f_c_tables_within) = true)
    (c_tables_made_a : PySem.W.nsIn K mainGlobals "tables_made" = some (some (.ref f_c_tables_made)))
    (c_tables_made_l : K.lookup f_c_tables_made = some ⟨oc_c_tables_made, od_c_tables_made, .func (PySem.W.fnOf "tables_made" "tables_made" (defArgs s_tables_made) (defBody s_tables_made) (defScope s_tables_made) .none kV_c_tables_made dc_c_tables_made pm_c_tables_made an_c_tables_made cd_c_tables_made ct_c_tables_made), sl_c_tables_made⟩)
    (c_tables_made_c : PySem.W.codeIn K cd_c_tables_made "tables_made" = true)
    (c_tables_made_k : PySem.W.keepIn K (.ref f_c_tables_made) = true)
    (c_check_night_a : PySem.W.nsIn K mainGlobals "check_night" = some (some (.ref f_c_check_night)))
    (c_check_night_l : K.lookup f_c_check_night = some ⟨oc_c_check_night, od_c_check_night, .func (PySem.W.fnOf "check_night" "check_night" (defArgs s_check_night) (defBody s_check_night) (defScope s_check_night) .none kV_c_check_night dc_c_check_night pm_c_check_night an_c_check_night cd_c_check_night ct_c_check_night), sl_c_check_night⟩)
    (c_check_night_c : PySem.W.codeIn K cd_c_check_night "check_night" = true)
    (c_check_night_k : PySem.W.keepIn K (.ref f_c_check_night) = true)
    (c_results_a : PySem.W.nsIn K mainGlobals "results" = some (some (.ref f_c_results)))
    (c_results_l : K.lookup f_c_results = some ⟨oc_c_results, od_c_results, .func (PySem.W.fnOf "results" "results" (defArgs s_results) (defBody s_results) (defScope s_results) .none kV_c_results dc_c_results pm_c_results an_c_results cd_c_results ct_c_results), sl_c_results⟩)
    (c_results_c : PySem.W.codeIn K cd_c_results "results" = true)
    (c_results_k : PySem.W.keepIn K (.ref f_c_results) = true)
    (c_is_row_a : PySem.W.nsIn K mainGlobals "is_row" = some (some (.ref f_c_is_row)))
    (c_is_row_l : K.lookup f_c_is_row = some ⟨oc_c_is_row, od_c_is_row, .func (PySem.W.fnOf "is_row" "is_row" (defArgs s_is_row) (defBody s_is_row) (defScope s_is_row) .none kV_c_is_row dc_c_is_row pm_c_is_row an_c_is_row cd_c_is_row ct_c_is_row), sl_c_is_row⟩)
    (c_is_row_c : PySem.W.codeIn K cd_c_is_row "is_row" = true)
    (c_is_row_k : PySem.W.keepIn K (.ref f_c_is_row) = true)
    (c_is_table_a : PySem.W.nsIn K mainGlobals "is_table" = some (some (.ref f_c_is_table)))
    (c_is_table_l : K.lookup f_c_is_table = some ⟨oc_c_is_table, od_c_is_table, .func (PySem.W.fnOf "is_table" "is_table" (defArgs s_is_table) (defBody s_is_table) (defScope s_is_table) .none kV_c_is_table dc_c_is_table pm_c_is_table an_c_is_table cd_c_is_table ct_c_is_table), sl_c_is_table⟩)
    (c_is_table_c : PySem.W.codeIn K cd_c_is_table "is_table" = true)
    (c_is_table_k : PySem.W.keepIn K (.ref f_c_is_table) = true)
    (c_check_table_a : PySem.W.nsIn K mainGlobals "check_table" = some (some (.ref f_c_check_table)))
    (c_check_table_l : K.lookup f_c_check_table = some ⟨oc_c_check_table, od_c_check_table, .func (PySem.W.fnOf "check_table" "check_table" (defArgs s_check_table) (defBody s_check_table) (defScope s_check_table) .none kV_c_check_table dc_c_check_table pm_c_check_table an_c_check_table cd_c_check_table ct_c_check_table), sl_c_check_table⟩)
    (c_check_table_c : PySem.W.codeIn K cd_c_check_table "check_table" = true)
    (c_check_table_k : PySem.W.keepIn K (.ref f_c_check_table) = true)
    (c_is_below_a : PySem.W.nsIn K mainGlobals "is_below" = some (some (.ref f_c_is_below)))
    (c_is_below_l : K.lookup f_c_is_below = some ⟨oc_c_is_below, od_c_is_below, .func (PySem.W.fnOf "is_below" "is_below" (defArgs s_is_below) (defBody s_is_below) (defScope s_is_below) .none kV_c_is_below dc_c_is_below pm_c_is_below an_c_is_below cd_c_is_below ct_c_is_below), sl_c_is_below⟩)
    (c_is_below_c : PySem.W.codeIn K cd_c_is_below "is_below" = true)
    (c_is_below_k : PySem.W.keepIn K (.ref f_c_is_below) = true)
    (c_price_bounds_a : PySem.W.nsIn K mainGlobals "price_bounds" = some (some (.ref f_c_price_bounds)))
    (c_price_bounds_l : K.lookup f_c_price_bounds = some ⟨oc_c_price_bounds, od_c_price_bounds, .func (PySem.W.fnOf "price_bounds" "price_bounds" (defArgs s_price_bounds) (defBody s_price_bounds) (defScope s_price_bounds) .none kV_c_price_bounds dc_c_price_bounds pm_c_price_bounds an_c_price_bounds cd_c_price_bounds ct_c_price_bounds), sl_c_price_bounds⟩)
    (c_price_bounds_c : PySem.W.codeIn K cd_c_price_bounds "price_bounds" = true)
    (c_price_bounds_k : PySem.W.keepIn K (.ref f_c_price_bounds) = true)
    (c_is_made_by_a : PySem.W.nsIn K mainGlobals "is_made_by" = some (some (.ref f_c_is_made_by)))
    (c_is_made_by_l : K.lookup f_c_is_made_by = some ⟨oc_c_is_made_by, od_c_is_made_by, .func (PySem.W.fnOf "is_made_by" "is_made_by" (defArgs s_is_made_by) (defBody s_is_made_by) (defScope s_is_made_by) .none kV_c_is_made_by dc_c_is_made_by pm_c_is_made_by an_c_is_made_by cd_c_is_made_by ct_c_is_made_by), sl_c_is_made_by⟩)
    (c_is_made_by_c : PySem.W.codeIn K cd_c_is_made_by "is_made_by" = true)
    (c_is_made_by_k : PySem.W.keepIn K (.ref f_c_is_made_by) = true)
    (c_is_result_a : PySem.W.nsIn K mainGlobals "is_result" = some (some (.ref f_c_is_result)))
    (c_is_result_l : K.lookup f_c_is_result = some ⟨oc_c_is_result, od_c_is_result, .func (PySem.W.fnOf "is_result" "is_result" (defArgs s_is_result) (defBody s_is_result) (defScope s_is_result) .none kV_c_is_result dc_c_is_result pm_c_is_result an_c_is_result cd_c_is_result ct_c_is_result), sl_c_is_result⟩)
    (c_is_result_c : PySem.W.codeIn K cd_c_is_result "is_result" = true)
    (c_is_result_k : PySem.W.keepIn K (.ref f_c_is_result) = true)
    (c_fraction_a : PySem.W.nsIn K mainGlobals "fraction" = some (some (.ref f_c_fraction)))
    (c_fraction_l : K.lookup f_c_fraction = some ⟨oc_c_fraction, od_c_fraction, .func (PySem.W.fnOf "fraction" "fraction" (defArgs s_fraction) (defBody s_fraction) (defScope s_fraction) .none kV_c_fraction dc_c_fraction pm_c_fraction an_c_fraction cd_c_fraction ct_c_fraction), sl_c_fraction⟩)
    (c_fraction_c : PySem.W.codeIn K cd_c_fraction "fraction" = true)
    (c_fraction_k : PySem.W.keepIn K (.ref f_c_fraction) = true)
    (c_prices_a : PySem.W.nsIn K mainGlobals "prices" = some (some (.ref f_c_prices)))
    (c_prices_l : K.lookup f_c_prices = some ⟨oc_c_prices, od_c_prices, .func (PySem.W.fnOf "prices" "prices" (defArgs s_prices) (defBody s_prices) (defScope s_prices) .none kV_c_prices dc_c_prices pm_c_prices an_c_prices cd_c_prices ct_c_prices), sl_c_prices⟩)
    (c_prices_c : PySem.W.codeIn K cd_c_prices "prices" = true)
    (c_prices_k : PySem.W.keepIn K (.ref f_c_prices) = true)
    (c_law_begun_a : PySem.W.nsIn K mainGlobals "_law_begun" = some (some (.ref f_c_law_begun)))
    (c_law_begun_l : K.lookup f_c_law_begun = some ⟨oc_c_law_begun, od_c_law_begun, .func (PySem.W.fnOf "_law_begun" "_law_begun" (defArgs s_l_begun) (defBody s_l_begun) (defScope s_l_begun) .none kV_c_law_begun dc_c_law_begun pm_c_law_begun an_c_law_begun cd_c_law_begun ct_c_law_begun), sl_c_law_begun⟩)
    (c_law_begun_c : PySem.W.codeIn K cd_c_law_begun "_law_begun" = true)
    (c_law_begun_k : PySem.W.keepIn K (.ref f_c_law_begun) = true)
    (c_law_cast_a : PySem.W.nsIn K mainGlobals "_law_cast" = some (some (.ref f_c_law_cast)))
    (c_law_cast_l : K.lookup f_c_law_cast = some ⟨oc_c_law_cast, od_c_law_cast, .func (PySem.W.fnOf "_law_cast" "_law_cast" (defArgs s_l_cast) (defBody s_l_cast) (defScope s_l_cast) .none kV_c_law_cast dc_c_law_cast pm_c_law_cast an_c_law_cast cd_c_law_cast ct_c_law_cast), sl_c_law_cast⟩)
    (c_law_cast_c : PySem.W.codeIn K cd_c_law_cast "_law_cast" = true)
    (c_law_cast_k : PySem.W.keepIn K (.ref f_c_law_cast) = true)
    (c_law_any_of_a : PySem.W.nsIn K mainGlobals "_law_any_of" = some (some (.ref f_c_law_any_of)))
    (c_law_any_of_l : K.lookup f_c_law_any_of = some ⟨oc_c_law_any_of, od_c_law_any_of, .func (PySem.W.fnOf "_law_any_of" "_law_any_of" (defArgs s_l_any_of) (defBody s_l_any_of) (defScope s_l_any_of) .none kV_c_law_any_of dc_c_law_any_of pm_c_law_any_of an_c_law_any_of cd_c_law_any_of ct_c_law_any_of), sl_c_law_any_of⟩)
    (c_law_any_of_c : PySem.W.codeIn K cd_c_law_any_of "_law_any_of" = true)
    (c_law_any_of_k : PySem.W.keepIn K (.ref f_c_law_any_of) = true)
    (c_law_tags_a : PySem.W.nsIn K mainGlobals "_law_tags" = some (some (.ref f_c_law_tags)))
    (c_law_tags_l : K.lookup f_c_law_tags = some ⟨oc_c_law_tags, od_c_law_tags, .func (PySem.W.fnOf "_law_tags" "_law_tags" (defArgs s_l_tags) (defBody s_l_tags) (defScope s_l_tags) .none kV_c_law_tags dc_c_law_tags pm_c_law_tags an_c_law_tags cd_c_law_tags ct_c_law_tags), sl_c_law_tags⟩)
    (c_law_tags_c : PySem.W.codeIn K cd_c_law_tags "_law_tags" = true)
    (c_law_tags_k : PySem.W.keepIn K (.ref f_c_law_tags) = true)
    (c_law_rising_a : PySem.W.nsIn K mainGlobals "_law_rising" = some (some (.ref f_c_law_rising)))
    (c_law_rising_l : K.lookup f_c_law_rising = some ⟨oc_c_law_rising, od_c_law_rising, .func (PySem.W.fnOf "_law_rising" "_law_rising" (defArgs s_l_rising) (defBody s_l_rising) (defScope s_l_rising) .none kV_c_law_rising dc_c_law_rising pm_c_law_rising an_c_law_rising cd_c_law_rising ct_c_law_rising), sl_c_law_rising⟩)
    (c_law_rising_c : PySem.W.codeIn K cd_c_law_rising "_law_rising" = true)
    (c_law_rising_k : PySem.W.keepIn K (.ref f_c_law_rising) = true)
    (c_law_amount_a : PySem.W.nsIn K mainGlobals "_law_amount" = some (some (.ref f_c_law_amount)))
    (c_law_amount_l : K.lookup f_c_law_amount = some ⟨oc_c_law_amount, od_c_law_amount, .func (PySem.W.fnOf "_law_amount" "_law_amount" (defArgs s_l_amount) (defBody s_l_amount) (defScope s_l_amount) .none kV_c_law_amount dc_c_law_amount pm_c_law_amount an_c_law_amount cd_c_law_amount ct_c_law_amount), sl_c_law_amount⟩)
    (c_law_amount_c : PySem.W.codeIn K cd_c_law_amount "_law_amount" = true)
    (c_law_amount_k : PySem.W.keepIn K (.ref f_c_law_amount) = true)
    (c_law_heap_a : PySem.W.nsIn K mainGlobals "_law_heap" = some (some (.ref f_c_law_heap)))
    (c_law_heap_l : K.lookup f_c_law_heap = some ⟨oc_c_law_heap, od_c_law_heap, .func (PySem.W.fnOf "_law_heap" "_law_heap" (defArgs s_l_heap) (defBody s_l_heap) (defScope s_l_heap) .none kV_c_law_heap dc_c_law_heap pm_c_law_heap an_c_law_heap cd_c_law_heap ct_c_law_heap), sl_c_law_heap⟩)
    (c_law_heap_c : PySem.W.codeIn K cd_c_law_heap "_law_heap" = true)
    (c_law_heap_k : PySem.W.keepIn K (.ref f_c_law_heap) = true)
    (c_law_sheet_a : PySem.W.nsIn K mainGlobals "_law_sheet" = some (some (.ref f_c_law_sheet)))
    (c_law_sheet_l : K.lookup f_c_law_sheet = some ⟨oc_c_law_sheet, od_c_law_sheet, .func (PySem.W.fnOf "_law_sheet" "_law_sheet" (defArgs s_l_sheet) (defBody s_l_sheet) (defScope s_l_sheet) .none kV_c_law_sheet dc_c_law_sheet pm_c_law_sheet an_c_law_sheet cd_c_law_sheet ct_c_law_sheet), sl_c_law_sheet⟩)
    (c_law_sheet_c : PySem.W.codeIn K cd_c_law_sheet "_law_sheet" = true)
    (c_law_sheet_k : PySem.W.keepIn K (.ref f_c_law_sheet) = true)
    (c_law_of_a : PySem.W.nsIn K mainGlobals "_law_of" = some (some (.ref f_c_law_of)))
    (c_law_of_l : K.lookup f_c_law_of = some ⟨oc_c_law_of, od_c_law_of, .func (PySem.W.fnOf "_law_of" "_law_of" (defArgs s_l_of) (defBody s_l_of) (defScope s_l_of) .none kV_c_law_of dc_c_law_of pm_c_law_of an_c_law_of cd_c_law_of ct_c_law_of), sl_c_law_of⟩)
    (c_law_of_c : PySem.W.codeIn K cd_c_law_of "_law_of" = true)
    (c_law_of_k : PySem.W.keepIn K (.ref f_c_law_of) = true)
    (c_law_built_a : PySem.W.nsIn K mainGlobals "_law_built" = some (some (.ref f_c_law_built)))
    (c_law_built_l : K.lookup f_c_law_built = some ⟨oc_c_law_built, od_c_law_built, .func (PySem.W.fnOf "_law_built" "_law_built" (defArgs s_l_built) (defBody s_l_built) (defScope s_l_built) .none kV_c_law_built dc_c_law_built pm_c_law_built an_c_law_built cd_c_law_built ct_c_law_built), sl_c_law_built⟩)
    (c_law_built_c : PySem.W.codeIn K cd_c_law_built "_law_built" = true)
    (c_law_built_k : PySem.W.keepIn K (.ref f_c_law_built) = true)
    (c_law_small_a : PySem.W.nsIn K mainGlobals "_law_small" = some (some (.ref f_c_law_small)))
    (c_law_small_l : K.lookup f_c_law_small = some ⟨oc_c_law_small, od_c_law_small, .func (PySem.W.fnOf "_law_small" "_law_small" (defArgs s_l_small) (defBody s_l_small) (defScope s_l_small) .none kV_c_law_small dc_c_law_small pm_c_law_small an_c_law_small cd_c_law_small ct_c_law_small), sl_c_law_small⟩)
    (c_law_small_c : PySem.W.codeIn K cd_c_law_small "_law_small" = true)
    (c_law_small_k : PySem.W.keepIn K (.ref f_c_law_small) = true)
    (c_law_parts_a : PySem.W.nsIn K mainGlobals "_law_parts" = some (some (.ref f_c_law_parts)))
    (c_law_parts_l : K.lookup f_c_law_parts = some ⟨oc_c_law_parts, od_c_law_parts, .func (PySem.W.fnOf "_law_parts" "_law_parts" (defArgs s_l_parts) (defBody s_l_parts) (defScope s_l_parts) .none kV_c_law_parts dc_c_law_parts pm_c_law_parts an_c_law_parts cd_c_law_parts ct_c_law_parts), sl_c_law_parts⟩)
    (c_law_parts_c : PySem.W.codeIn K cd_c_law_parts "_law_parts" = true)
    (c_law_parts_k : PySem.W.keepIn K (.ref f_c_law_parts) = true)
    (c_law_is_whole_a : PySem.W.nsIn K mainGlobals "_law_is_whole" = some (some (.ref f_c_law_is_whole)))
    (c_law_is_whole_l : K.lookup f_c_law_is_whole = some ⟨oc_c_law_is_whole, od_c_law_is_whole, .func (PySem.W.fnOf "_law_is_whole" "_law_is_whole" (defArgs s_l_is_whole) (defBody s_l_is_whole) (defScope s_l_is_whole) .none kV_c_law_is_whole dc_c_law_is_whole pm_c_law_is_whole an_c_law_is_whole cd_c_law_is_whole ct_c_law_is_whole), sl_c_law_is_whole⟩)
    (c_law_is_whole_c : PySem.W.codeIn K cd_c_law_is_whole "_law_is_whole" = true)
    (c_law_is_whole_k : PySem.W.keepIn K (.ref f_c_law_is_whole) = true)
    (c_law_thing_a : PySem.W.nsIn K mainGlobals "_law_thing" = some (some (.ref f_c_law_thing)))
    (c_law_thing_l : K.lookup f_c_law_thing = some ⟨oc_c_law_thing, od_c_law_thing, .func (PySem.W.fnOf "_law_thing" "_law_thing" (defArgs s_l_thing) (defBody s_l_thing) (defScope s_l_thing) .none kV_c_law_thing dc_c_law_thing pm_c_law_thing an_c_law_thing cd_c_law_thing ct_c_law_thing), sl_c_law_thing⟩)
    (c_law_thing_c : PySem.W.codeIn K cd_c_law_thing "_law_thing" = true)
    (c_law_thing_k : PySem.W.keepIn K (.ref f_c_law_thing) = true)
    (c_law_bent_a : PySem.W.nsIn K mainGlobals "_law_bent" = some (some (.ref f_c_law_bent)))
    (c_law_bent_l : K.lookup f_c_law_bent = some ⟨oc_c_law_bent, od_c_law_bent, .func (PySem.W.fnOf "_law_bent" "_law_bent" (defArgs s_l_bent) (defBody s_l_bent) (defScope s_l_bent) .none kV_c_law_bent dc_c_law_bent pm_c_law_bent an_c_law_bent cd_c_law_bent ct_c_law_bent), sl_c_law_bent⟩)
    (c_law_bent_c : PySem.W.codeIn K cd_c_law_bent "_law_bent" = true)
    (c_law_bent_k : PySem.W.keepIn K (.ref f_c_law_bent) = true)
    (c_law_sort_a : PySem.W.nsIn K mainGlobals "_law_sort" = some (some (.ref f_c_law_sort)))
    (c_law_sort_l : K.lookup f_c_law_sort = some ⟨oc_c_law_sort, od_c_law_sort, .func (PySem.W.fnOf "_law_sort" "_law_sort" (defArgs s_l_sort) (defBody s_l_sort) (defScope s_l_sort) .none kV_c_law_sort dc_c_law_sort pm_c_law_sort an_c_law_sort cd_c_law_sort ct_c_law_sort), sl_c_law_sort⟩)
    (c_law_sort_c : PySem.W.codeIn K cd_c_law_sort "_law_sort" = true)
    (c_law_sort_k : PySem.W.keepIn K (.ref f_c_law_sort) = true)
    (c_law_answer_a : PySem.W.nsIn K mainGlobals "_law_answer" = some (some (.ref f_c_law_answer)))
    (c_law_answer_l : K.lookup f_c_law_answer = some ⟨oc_c_law_answer, od_c_law_answer, .func (PySem.W.fnOf "_law_answer" "_law_answer" (defArgs s_l_answer) (defBody s_l_answer) (defScope s_l_answer) .none kV_c_law_answer dc_c_law_answer pm_c_law_answer an_c_law_answer cd_c_law_answer ct_c_law_answer), sl_c_law_answer⟩)
    (c_law_answer_c : PySem.W.codeIn K cd_c_law_answer "_law_answer" = true)
    (c_law_answer_k : PySem.W.keepIn K (.ref f_c_law_answer) = true)
    (c_law_is_lot_a : PySem.W.nsIn K mainGlobals "_law_is_lot" = some (some (.ref f_c_law_is_lot)))
    (c_law_is_lot_l : K.lookup f_c_law_is_lot = some ⟨oc_c_law_is_lot, od_c_law_is_lot, .func (PySem.W.fnOf "_law_is_lot" "_law_is_lot" (defArgs s_l_is_lot) (defBody s_l_is_lot) (defScope s_l_is_lot) .none kV_c_law_is_lot dc_c_law_is_lot pm_c_law_is_lot an_c_law_is_lot cd_c_law_is_lot ct_c_law_is_lot), sl_c_law_is_lot⟩)
    (c_law_is_lot_c : PySem.W.codeIn K cd_c_law_is_lot "_law_is_lot" = true)
    (c_law_is_lot_k : PySem.W.keepIn K (.ref f_c_law_is_lot) = true)
    (c_law_some_a : PySem.W.nsIn K mainGlobals "_law_some" = some (some (.ref f_c_law_some)))
    (c_law_some_l : K.lookup f_c_law_some = some ⟨oc_c_law_some, od_c_law_some, .func (PySem.W.fnOf "_law_some" "_law_some" (defArgs s_l_some) (defBody s_l_some) (defScope s_l_some) .none kV_c_law_some dc_c_law_some pm_c_law_some an_c_law_some cd_c_law_some ct_c_law_some), sl_c_law_some⟩)
    (c_law_some_c : PySem.W.codeIn K cd_c_law_some "_law_some" = true)
    (c_law_some_k : PySem.W.keepIn K (.ref f_c_law_some) = true)
    (c_law_right_a : PySem.W.nsIn K mainGlobals "_law_right" = some (some (.ref f_c_law_right)))
    (c_law_right_l : K.lookup f_c_law_right = some ⟨oc_c_law_right, od_c_law_right, .func (PySem.W.fnOf "_law_right" "_law_right" (defArgs s_l_right) (defBody s_l_right) (defScope s_l_right) .none kV_c_law_right dc_c_law_right pm_c_law_right an_c_law_right (.ref cc_c_law_right) ct_c_law_right), sl_c_law_right⟩)
    (c_law_right_c : PySem.W.codeIn K (.ref cc_c_law_right) "_law_right" = true)
    (c_law_right_k : PySem.W.keepIn K (.ref f_c_law_right) = true)
    (c_law_a : PySem.W.nsIn K mainGlobals "law" = some (some (.ref f_c_law)))
    (c_law_l : K.lookup f_c_law = some ⟨oc_c_law, od_c_law, .func (PySem.W.fnOf "law" "law" (defArgs s_law) (defBody s_law) (defScope s_law) .none kV_c_law dc_c_law pm_c_law an_c_law cd_c_law ct_c_law), sl_c_law⟩)
    (c_law_c : PySem.W.codeIn K cd_c_law "law" = true)
    (c_law_k : PySem.W.keepIn K (.ref f_c_law) = true)
    : ∃ (fd : FuncData) (ts : Tabl), (∀ t ∈ ts, t.1 ∈ (["_law_right"] : List Str) ∧ PySem.W.tabIn K t.1 = some t.2 ∧ K.lookup t.2.2 = none) ∧ (∀ (s : Shared) (v : Value), BindsTo s fd ⟨[v], []⟩ [("_law_script", v)]) ∧ ∀ base : Heap, K.In base → base.Ns mainGlobals mg → SysB base → (∀ y ∈ ts, LamX.TabB base mg y.2.1 y.2.2) → FnG P w K mg base 16 fa fd ["_law_script"] (liftT K ts.T S_law) := by
  have e := hfa.symm.trans (PySem.W.mg_of X G c_law_a)
  have e2 : f_c_law = fa := by cases e; rfl
  subst e2
  have B : Blt mg := ⟨PySem.W.mg_none_of X G b_len, PySem.W.mg_none_of X G b_isinstance, PySem.W.mg_none_of X G b_int, PySem.W.mg_none_of X G b_bool, PySem.W.mg_none_of X G b_str, PySem.W.mg_none_of X G b_tuple, PySem.W.mg_none_of X G b_list, PySem.W.mg_none_of X G b_all, PySem.W.mg_none_of X G b_sum, PySem.W.mg_none_of X G b_min, PySem.W.mg_none_of X G b_max, PySem.W.mg_none_of X G b_abs, PySem.W.mg_none_of X G b_range, PySem.W.mg_none_of X G b_enumerate, PySem.W.mg_none_of X G b_zip, PySem.W.mg_none_of X G b_repr, PySem.W.mg_none_of X G b_divmod⟩
  have n_ValueError : mg "ValueError" = none := PySem.W.mg_none_of X G b_ValueError
  have n_LookupError : mg "LookupError" = none := PySem.W.mg_none_of X G b_LookupError
  have n_ArithmeticError : mg "ArithmeticError" = none := PySem.W.mg_none_of X G b_ArithmeticError
  have n_sorted : mg "sorted" = none := PySem.W.mg_none_of X G b_sorted
  have c_gcd : mg "gcd" = some (.builtin "math.gcd") := PySem.W.mg_of X G i_gcd
  have c_lcm : mg "lcm" = some (.builtin "math.lcm") := PySem.W.mg_of X G i_lcm
  have c_MOST_LETTERS : GInt mg "MOST_LETTERS" 8 := ⟨t_MOST_LETTERS, PySem.W.mg_of X G g_MOST_LETTERS⟩
  have c_MOST_SEATS : GInt mg "MOST_SEATS" 12 := ⟨t_MOST_SEATS, PySem.W.mg_of X G g_MOST_SEATS⟩
  have c_MOST_DIVISOR : GInt mg "MOST_DIVISOR" 100 := ⟨t_MOST_DIVISOR, PySem.W.mg_of X G g_MOST_DIVISOR⟩
  have c_MOST_COUNT : GInt mg "MOST_COUNT" 1000000 := ⟨t_MOST_COUNT, PySem.W.mg_of X G g_MOST_COUNT⟩
  have c_MOST_PARTIES : GInt mg "MOST_PARTIES" 6 := ⟨t_MOST_PARTIES, PySem.W.mg_of X G g_MOST_PARTIES⟩
  have c_MOST_PILES : GInt mg "MOST_PILES" 6 := ⟨t_MOST_PILES, PySem.W.mg_of X G g_MOST_PILES⟩
  have c_MOST_DIGITS : GInt mg "MOST_DIGITS" 7 := ⟨t_MOST_DIGITS, PySem.W.mg_of X G g_MOST_DIGITS⟩
  have c_ZERO : GTup K mg "ZERO" a_ZERO [.int 0, .int 1] := ⟨PySem.W.mg_of X G tu_ZERO, ⟨_, #[.int 0 t0_ZERO, .int 1 t1_ZERO], m_ZERO, tl_ZERO, rfl, rfl, (show 2 ≤ sizeLine by decide +kernel), (.cons ⟨_, rfl⟩ (.cons ⟨_, rfl⟩ .nil))⟩⟩
  have c_LETTERS : GStr mg "LETTERS" letters := ⟨t_LETTERS, PySem.W.mg_of X G g_LETTERS⟩
  have c_LETTERS_AND_DIGITS : GStr mg "LETTERS_AND_DIGITS" lettersD := ⟨t_LETTERS_AND_DIGITS, PySem.W.mg_of X G g_LETTERS_AND_DIGITS⟩
  have c_Night := PySem.W.mg_of X G aC
  have N : NightC K C := ⟨⟨pg, hd, po, sa⟩, no_divisors, no_parties, no_piles, no_text⟩
  have d_ini : DefAt K "__init__" "Night.__init__" s_Night___init f_ini (.ref Td) _ := ⟨_, _, _, _, _, _, _, _, _, rfl, ini_l, ini_c⟩
  have mk : Mk K C f_ini := ⟨ini_m, ini_a, ini_i, ini_k⟩
  have dfl : ∀ H, RepAll K H [V.ref ed] [D.tup []] := fun H => .cons (.tup (.inr ⟨_, #[], mE, ini_E, rfl, rfl, Nat.zero_le _, .nil⟩) .nil) .nil
  have eq_dn := kinds_all (p := fun T => PySem.W.subIn K (.type T) (.ref C) = some false) eq_dnNoneType eq_dnbool eq_dnint eq_dnstr eq_dntuple eq_dnlist eq_dndict
  have IC : IsC K C := ⟨⟨pg, hd, po, sa⟩, is_ha, is_hn, is_ht, is_hm, fun T hT => kit_no is_c is_t (eq_dn T hT)⟩
  have d_divisors : DefAt K "divisors" "Night.divisors" s_Night_divisors f_divisors .none _ := ⟨_, _, _, _, _, _, _, _, _, rfl, divisors_l, divisors_c⟩
  have q_divisors : PropOf K C "divisors" p_divisors f_divisors := ⟨divisors_a, divisors_g, divisors_t, _, divisors_r⟩
  have d_parties : DefAt K "parties" "Night.parties" s_Night_parties f_parties .none _ := ⟨_, _, _, _, _, _, _, _, _, rfl, parties_l, parties_c⟩
  have q_parties : PropOf K C "parties" p_parties f_parties := ⟨parties_a, parties_g, parties_t, _, parties_r⟩
  have d_piles : DefAt K "piles" "Night.piles" s_Night_piles f_piles .none _ := ⟨_, _, _, _, _, _, _, _, _, rfl, piles_l, piles_c⟩
  have q_piles : PropOf K C "piles" p_piles f_piles := ⟨piles_a, piles_g, piles_t, _, piles_r⟩
  have d_seats : DefAt K "seats" "Night.seats" s_Night_seats f_seats .none _ := ⟨_, _, _, _, _, _, _, _, _, rfl, seats_l, seats_c⟩
  have q_seats : PropOf K C "seats" p_seats f_seats := ⟨seats_a, seats_g, seats_t, _, seats_r⟩
  have d_lenO : DefAt K "__len__" "Night.__len__" s_Night___len f_lenO .none _ := ⟨_, _, _, _, _, _, _, _, _, rfl, lenO_l, lenO_c⟩
  have o_lenO : Own1 K C "__len__" f_lenO := ⟨lenO_a, lenO_i⟩
  have d_strO : DefAt K "__str__" "Night.__str__" s_Night___str f_strO .none _ := ⟨_, _, _, _, _, _, _, _, _, rfl, strO_l, strO_c⟩
  have o_strO : Own1 K C "__str__" f_strO := ⟨strO_a, strO_i⟩
  have d_read : DefAt K "read" "Night.read" s_Night_read f_read .none _ := ⟨_, _, _, _, _, _, _, _, _, rfl, read_l, read_c⟩
  have cr : ClX.CRead K C (.type "type") := ⟨rd, ga⟩
  have cm : ClX.CMet K C (.type "type") "read" p_read f_read := ⟨read_a, ⟨_, read_r⟩, read_f⟩
  have c_BadValue := PySem.W.mg_of X G e_BadValue_a
  have c_BadName := PySem.W.mg_of X G e_BadName_a
  have c_NoAnswer := PySem.W.mg_of X G e_NoAnswer_a
  have x_InvalidTable : XCls K mg "InvalidTable" "given" s_InvalidTable___init C_InvalidTable := ⟨PySem.W.mg_of X G e_InvalidTable_a, ⟨⟨_, _, _, _, _, _, _, _, _, _, _, _, _, _, _, e_InvalidTable_L, rfl⟩, e_InvalidTable_sa, e_InvalidTable_ex, e_InvalidTable_ty, e_InvalidTable_kC⟩, e_InvalidTable_no, _, _, e_InvalidTable_i, e_InvalidTable_it, fun_at (by decide +kernel) (fun_mk e_InvalidTable_l e_InvalidTable_c e_InvalidTable_k)⟩
  have x_NotANight : XCls K mg "NotANight" "given" s_NotANight___init C_NotANight := ⟨PySem.W.mg_of X G e_NotANight_a, ⟨⟨_, _, _, _, _, _, _, _, _, _, _, _, _, _, _, e_NotANight_L, rfl⟩, e_NotANight_sa, e_NotANight_ex, e_NotANight_ty, e_NotANight_kC⟩, e_NotANight_no, _, _, e_NotANight_i, e_NotANight_it, fun_at (by decide +kernel) (fun_mk e_NotANight_l e_NotANight_c e_NotANight_k)⟩
  have h_InvalidTable : XIs K C_InvalidTable := ⟨h_InvalidTable_c, h_InvalidTable_c2, h_InvalidTable_ga, h_InvalidTable_gg, e_InvalidTable_ex, h_InvalidTable_cl, h_sp, h_tk, h_InvalidTable_mr⟩
  have h_NotANight : XIs K C_NotANight := ⟨h_NotANight_c, h_NotANight_c2, h_NotANight_ga, h_NotANight_gg, e_NotANight_ex, h_NotANight_cl, h_sp, h_tk, h_NotANight_mr⟩
  have d_c_is_integer : DefAt K "is_integer" "is_integer" s_is_integer f_c_is_integer .none _ := ⟨_, _, _, _, _, _, _, _, _, rfl, c_is_integer_l, c_is_integer_c⟩
  have m_c_is_integer : ModAt K mg "is_integer" s_is_integer f_c_is_integer _ := ⟨d_c_is_integer, PySem.W.mg_of X G c_is_integer_a, c_is_integer_k⟩
  have d_c_is_between : DefAt K "is_between" "is_between" s_is_between f_c_is_between .none _ := ⟨_, _, _, _, _, _, _, _, _, rfl, c_is_between_l, c_is_between_c⟩
  have m_c_is_between : ModAt K mg "is_between" s_is_between f_c_is_between _ := ⟨d_c_is_between, PySem.W.mg_of X G c_is_between_a, c_is_between_k⟩
  have d_c_is_tuple_of : DefAt K "is_tuple_of" "is_tuple_of" s_is_tuple_of f_c_is_tuple_of .none _ := ⟨_, _, _, _, _, _, _, _, _, rfl, c_is_tuple_of_l, c_is_tuple_of_c⟩
  have m_c_is_tuple_of : ModAt K mg "is_tuple_of" s_is_tuple_of f_c_is_tuple_of _ := ⟨d_c_is_tuple_of, PySem.W.mg_of X G c_is_tuple_of_a, c_is_tuple_of_k⟩
  have d_c_is_name : DefAt K "is_name" "is_name" s_is_name f_c_is_name .none _ := ⟨_, _, _, _, _, _, _, _, _, rfl, c_is_name_l, c_is_name_c⟩
  have m_c_is_name : ModAt K mg "is_name" s_is_name f_c_is_name _ := ⟨d_c_is_name, PySem.W.mg_of X G c_is_name_a, c_is_name_k⟩
  have d_c_is_divisors : DefAt K "is_divisors" "is_divisors" s_is_divisors f_c_is_divisors .none _ := ⟨_, _, _, _, _, _, _, _, _, rfl, c_is_divisors_l, c_is_divisors_c⟩
  have m_c_is_divisors : ModAt K mg "is_divisors" s_is_divisors f_c_is_divisors _ := ⟨d_c_is_divisors, PySem.W.mg_of X G c_is_divisors_a, c_is_divisors_k⟩
  have d_c_is_party : DefAt K "is_party" "is_party" s_is_party f_c_is_party .none _ := ⟨_, _, _, _, _, _, _, _, _, rfl, c_is_party_l, c_is_party_c⟩
  have m_c_is_party : ModAt K mg "is_party" s_is_party f_c_is_party _ := ⟨d_c_is_party, PySem.W.mg_of X G c_is_party_a, c_is_party_k⟩
  have d_c_is_group : DefAt K "is_group" "is_group" s_is_group f_c_is_group .none _ := ⟨_, _, _, _, _, _, _, _, _, rfl, c_is_group_l, c_is_group_c⟩
  have m_c_is_group : ModAt K mg "is_group" s_is_group f_c_is_group _ := ⟨d_c_is_group, PySem.W.mg_of X G c_is_group_a, c_is_group_k⟩
  have d_c_is_pile : DefAt K "is_pile" "is_pile" s_is_pile f_c_is_pile .none _ := ⟨_, _, _, _, _, _, _, _, _, rfl, c_is_pile_l, c_is_pile_c⟩
  have m_c_is_pile : ModAt K mg "is_pile" s_is_pile f_c_is_pile _ := ⟨d_c_is_pile, PySem.W.mg_of X G c_is_pile_a, c_is_pile_k⟩
  have d_c_names_of : DefAt K "names_of" "names_of" s_names_of f_c_names_of .none _ := ⟨_, _, _, _, _, _, _, _, _, rfl, c_names_of_l, c_names_of_c⟩
  have m_c_names_of : ModAt K mg "names_of" s_names_of f_c_names_of _ := ⟨d_c_names_of, PySem.W.mg_of X G c_names_of_a, c_names_of_k⟩
  have d_c_check_divisors : DefAt K "check_divisors" "check_divisors" s_check_divisors f_c_check_divisors .none _ := ⟨_, _, _, _, _, _, _, _, _, rfl, c_check_divisors_l, c_check_divisors_c⟩
  have m_c_check_divisors : ModAt K mg "check_divisors" s_check_divisors f_c_check_divisors _ := ⟨d_c_check_divisors, PySem.W.mg_of X G c_check_divisors_a, c_check_divisors_k⟩
  have d_c_check_parties : DefAt K "check_parties" "check_parties" s_check_parties f_c_check_parties .none _ := ⟨_, _, _, _, _, _, _, _, _, rfl, c_check_parties_l, c_check_parties_c⟩
  have m_c_check_parties : ModAt K mg "check_parties" s_check_parties f_c_check_parties _ := ⟨d_c_check_parties, PySem.W.mg_of X G c_check_parties_a, c_check_parties_k⟩
  have d_c_check_piles : DefAt K "check_piles" "check_piles" s_check_piles f_c_check_piles .none _ := ⟨_, _, _, _, _, _, _, _, _, rfl, c_check_piles_l, c_check_piles_c⟩
  have m_c_check_piles : ModAt K mg "check_piles" s_check_piles f_c_check_piles _ := ⟨d_c_check_piles, PySem.W.mg_of X G c_check_piles_a, c_check_piles_k⟩
  have d_c_text_of : DefAt K "text_of" "text_of" s_text_of f_c_text_of .none _ := ⟨_, _, _, _, _, _, _, _, _, rfl, c_text_of_l, c_text_of_c⟩
  have m_c_text_of : ModAt K mg "text_of" s_text_of f_c_text_of _ := ⟨d_c_text_of, PySem.W.mg_of X G c_text_of_a, c_text_of_k⟩
  have d_c_number_in : DefAt K "number_in" "number_in" s_number_in f_c_number_in .none _ := ⟨_, _, _, _, _, _, _, _, _, rfl, c_number_in_l, c_number_in_c⟩
  have m_c_number_in : ModAt K mg "number_in" s_number_in f_c_number_in _ := ⟨d_c_number_in, PySem.W.mg_of X G c_number_in_a, c_number_in_k⟩
  have d_c_parts_in : DefAt K "parts_in" "parts_in" s_parts_in f_c_parts_in .none _ := ⟨_, _, _, _, _, _, _, _, _, rfl, c_parts_in_l, c_parts_in_c⟩
  have m_c_parts_in : ModAt K mg "parts_in" s_parts_in f_c_parts_in _ := ⟨d_c_parts_in, PySem.W.mg_of X G c_parts_in_a, c_parts_in_k⟩
  have d_c_counts_of : DefAt K "counts_of" "counts_of" s_counts_of f_c_counts_of .none _ := ⟨_, _, _, _, _, _, _, _, _, rfl, c_counts_of_l, c_counts_of_c⟩
  have m_c_counts_of : ModAt K mg "counts_of" s_counts_of f_c_counts_of _ := ⟨d_c_counts_of, PySem.W.mg_of X G c_counts_of_a, c_counts_of_k⟩
  have d_c_scale_of : DefAt K "scale_of" "scale_of" s_scale_of f_c_scale_of .none _ := ⟨_, _, _, _, _, _, _, _, _, rfl, c_scale_of_l, c_scale_of_c⟩
  have m_c_scale_of : ModAt K mg "scale_of" s_scale_of f_c_scale_of _ := ⟨d_c_scale_of, PySem.W.mg_of X G c_scale_of_a, c_scale_of_k⟩
  have d_c_units_of : DefAt K "units_of" "units_of" s_units_of f_c_units_of .none _ := ⟨_, _, _, _, _, _, _, _, _, rfl, c_units_of_l, c_units_of_c⟩
  have m_c_units_of : ModAt K mg "units_of" s_units_of f_c_units_of _ := ⟨d_c_units_of, PySem.W.mg_of X G c_units_of_a, c_units_of_k⟩
  have d_c_claims_of : DefAt K "claims_of" "claims_of" s_claims_of f_c_claims_of .none _ := ⟨_, _, _, _, _, _, _, _, _, rfl, c_claims_of_l, c_claims_of_c⟩
  have m_c_claims_of : ModAt K mg "claims_of" s_claims_of f_c_claims_of _ := ⟨d_c_claims_of, PySem.W.mg_of X G c_claims_of_a, c_claims_of_k⟩
  have d_c_claim_at : DefAt K "claim_at" "claim_at" s_claim_at f_c_claim_at .none _ := ⟨_, _, _, _, _, _, _, _, _, rfl, c_claim_at_l, c_claim_at_c⟩
  have m_c_claim_at : ModAt K mg "claim_at" s_claim_at f_c_claim_at _ := ⟨d_c_claim_at, PySem.W.mg_of X G c_claim_at_a, c_claim_at_k⟩
  have d_c_seats_above : DefAt K "seats_above" "seats_above" s_seats_above f_c_seats_above .none _ := ⟨_, _, _, _, _, _, _, _, _, rfl, c_seats_above_l, c_seats_above_c⟩
  have m_c_seats_above : ModAt K mg "seats_above" s_seats_above f_c_seats_above _ := ⟨d_c_seats_above, PySem.W.mg_of X G c_seats_above_a, c_seats_above_k⟩
  have d_c_seats_from : DefAt K "seats_from" "seats_from" s_seats_from f_c_seats_from .none _ := ⟨_, _, _, _, _, _, _, _, _, rfl, c_seats_from_l, c_seats_from_c⟩
  have m_c_seats_from : ModAt K mg "seats_from" s_seats_from f_c_seats_from _ := ⟨d_c_seats_from, PySem.W.mg_of X G c_seats_from_a, c_seats_from_k⟩
  have d_c_tables_within : DefAt K "tables_within" "tables_within" s_tables_within f_c_tables_within .none _ := ⟨_, _, _, _, _, _, _, _, _, rfl, c_tables_within_l, c_tables_within_c⟩
  have m_c_tables_within : ModAt K mg "tables_within" s_tables_within f_c_tables_within _ := ⟨d_c_tables_within, PySem.W.mg_of X G c_tables_within_a, c_tables_within_k⟩
  have d_c_tables_made : DefAt K "tables_made" "tables_made" s_tables_made f_c_tables_made .none _ := ⟨_, _, _, _, _, _, _, _, _, rfl, c_tables_made_l, c_tables_made_c⟩
  have m_c_tables_made : ModAt K mg "tables_made" s_tables_made f_c_tables_made _ := ⟨d_c_tables_made, PySem.W.mg_of X G c_tables_made_a, c_tables_made_k⟩
  have d_c_check_night : DefAt K "check_night" "check_night" s_check_night f_c_check_night .none _ := ⟨_, _, _, _, _, _, _, _, _, rfl, c_check_night_l, c_check_night_c⟩
  have m_c_check_night : ModAt K mg "check_night" s_check_night f_c_check_night _ := ⟨d_c_check_night, PySem.W.mg_of X G c_check_night_a, c_check_night_k⟩
  have d_c_results : DefAt K "results" "results" s_results f_c_results .none _ := ⟨_, _, _, _, _, _, _, _, _, rfl, c_results_l, c_results_c⟩
  have m_c_results : ModAt K mg "results" s_results f_c_results _ := ⟨d_c_results, PySem.W.mg_of X G c_results_a, c_results_k⟩
  have d_c_is_row : DefAt K "is_row" "is_row" s_is_row f_c_is_row .none _ := ⟨_, _, _, _, _, _, _, _, _, rfl, c_is_row_l, c_is_row_c⟩
  have m_c_is_row : ModAt K mg "is_row" s_is_row f_c_is_row _ := ⟨d_c_is_row, PySem.W.mg_of X G c_is_row_a, c_is_row_k⟩
  have d_c_is_table : DefAt K "is_table" "is_table" s_is_table f_c_is_table .none _ := ⟨_, _, _, _, _, _, _, _, _, rfl, c_is_table_l, c_is_table_c⟩
  have m_c_is_table : ModAt K mg "is_table" s_is_table f_c_is_table _ := ⟨d_c_is_table, PySem.W.mg_of X G c_is_table_a, c_is_table_k⟩
  have d_c_check_table : DefAt K "check_table" "check_table" s_check_table f_c_check_table .none _ := ⟨_, _, _, _, _, _, _, _, _, rfl, c_check_table_l, c_check_table_c⟩
  have m_c_check_table : ModAt K mg "check_table" s_check_table f_c_check_table _ := ⟨d_c_check_table, PySem.W.mg_of X G c_check_table_a, c_check_table_k⟩
  have d_c_is_below : DefAt K "is_below" "is_below" s_is_below f_c_is_below .none _ := ⟨_, _, _, _, _, _, _, _, _, rfl, c_is_below_l, c_is_below_c⟩
  have m_c_is_below : ModAt K mg "is_below" s_is_below f_c_is_below _ := ⟨d_c_is_below, PySem.W.mg_of X G c_is_below_a, c_is_below_k⟩
  have d_c_price_bounds : DefAt K "price_bounds" "price_bounds" s_price_bounds f_c_price_bounds .none _ := ⟨_, _, _, _, _, _, _, _, _, rfl, c_price_bounds_l, c_price_bounds_c⟩
  have m_c_price_bounds : ModAt K mg "price_bounds" s_price_bounds f_c_price_bounds _ := ⟨d_c_price_bounds, PySem.W.mg_of X G c_price_bounds_a, c_price_bounds_k⟩
  have d_c_is_made_by : DefAt K "is_made_by" "is_made_by" s_is_made_by f_c_is_made_by .none _ := ⟨_, _, _, _, _, _, _, _, _, rfl, c_is_made_by_l, c_is_made_by_c⟩
  have m_c_is_made_by : ModAt K mg "is_made_by" s_is_made_by f_c_is_made_by _ := ⟨d_c_is_made_by, PySem.W.mg_of X G c_is_made_by_a, c_is_made_by_k⟩
  have d_c_is_result : DefAt K "is_result" "is_result" s_is_result f_c_is_result .none _ := ⟨_, _, _, _, _, _, _, _, _, rfl, c_is_result_l, c_is_result_c⟩
  have m_c_is_result : ModAt K mg "is_result" s_is_result f_c_is_result _ := ⟨d_c_is_result, PySem.W.mg_of X G c_is_result_a, c_is_result_k⟩
  have d_c_fraction : DefAt K "fraction" "fraction" s_fraction f_c_fraction .none _ := ⟨_, _, _, _, _, _, _, _, _, rfl, c_fraction_l, c_fraction_c⟩
  have m_c_fraction : ModAt K mg "fraction" s_fraction f_c_fraction _ := ⟨d_c_fraction, PySem.W.mg_of X G c_fraction_a, c_fraction_k⟩
  have d_c_prices : DefAt K "prices" "prices" s_prices f_c_prices .none _ := ⟨_, _, _, _, _, _, _, _, _, rfl, c_prices_l, c_prices_c⟩
  have m_c_prices : ModAt K mg "prices" s_prices f_c_prices _ := ⟨d_c_prices, PySem.W.mg_of X G c_prices_a, c_prices_k⟩
  have d_c_law_begun : DefAt K "_law_begun" "_law_begun" s_l_begun f_c_law_begun .none _ := ⟨_, _, _, _, _, _, _, _, _, rfl, c_law_begun_l, c_law_begun_c⟩
  have m_c_law_begun : ModAt K mg "_law_begun" s_l_begun f_c_law_begun _ := ⟨d_c_law_begun, PySem.W.mg_of X G c_law_begun_a, c_law_begun_k⟩
  have d_c_law_cast : DefAt K "_law_cast" "_law_cast" s_l_cast f_c_law_cast .none _ := ⟨_, _, _, _, _, _, _, _, _, rfl, c_law_cast_l, c_law_cast_c⟩
  have m_c_law_cast : ModAt K mg "_law_cast" s_l_cast f_c_law_cast _ := ⟨d_c_law_cast, PySem.W.mg_of X G c_law_cast_a, c_law_cast_k⟩
  have d_c_law_any_of : DefAt K "_law_any_of" "_law_any_of" s_l_any_of f_c_law_any_of .none _ := ⟨_, _, _, _, _, _, _, _, _, rfl, c_law_any_of_l, c_law_any_of_c⟩
  have m_c_law_any_of : ModAt K mg "_law_any_of" s_l_any_of f_c_law_any_of _ := ⟨d_c_law_any_of, PySem.W.mg_of X G c_law_any_of_a, c_law_any_of_k⟩
  have d_c_law_tags : DefAt K "_law_tags" "_law_tags" s_l_tags f_c_law_tags .none _ := ⟨_, _, _, _, _, _, _, _, _, rfl, c_law_tags_l, c_law_tags_c⟩
  have m_c_law_tags : ModAt K mg "_law_tags" s_l_tags f_c_law_tags _ := ⟨d_c_law_tags, PySem.W.mg_of X G c_law_tags_a, c_law_tags_k⟩
  have d_c_law_rising : DefAt K "_law_rising" "_law_rising" s_l_rising f_c_law_rising .none _ := ⟨_, _, _, _, _, _, _, _, _, rfl, c_law_rising_l, c_law_rising_c⟩
  have m_c_law_rising : ModAt K mg "_law_rising" s_l_rising f_c_law_rising _ := ⟨d_c_law_rising, PySem.W.mg_of X G c_law_rising_a, c_law_rising_k⟩
  have d_c_law_amount : DefAt K "_law_amount" "_law_amount" s_l_amount f_c_law_amount .none _ := ⟨_, _, _, _, _, _, _, _, _, rfl, c_law_amount_l, c_law_amount_c⟩
  have m_c_law_amount : ModAt K mg "_law_amount" s_l_amount f_c_law_amount _ := ⟨d_c_law_amount, PySem.W.mg_of X G c_law_amount_a, c_law_amount_k⟩
  have d_c_law_heap : DefAt K "_law_heap" "_law_heap" s_l_heap f_c_law_heap .none _ := ⟨_, _, _, _, _, _, _, _, _, rfl, c_law_heap_l, c_law_heap_c⟩
  have m_c_law_heap : ModAt K mg "_law_heap" s_l_heap f_c_law_heap _ := ⟨d_c_law_heap, PySem.W.mg_of X G c_law_heap_a, c_law_heap_k⟩
  have d_c_law_sheet : DefAt K "_law_sheet" "_law_sheet" s_l_sheet f_c_law_sheet .none _ := ⟨_, _, _, _, _, _, _, _, _, rfl, c_law_sheet_l, c_law_sheet_c⟩
  have m_c_law_sheet : ModAt K mg "_law_sheet" s_l_sheet f_c_law_sheet _ := ⟨d_c_law_sheet, PySem.W.mg_of X G c_law_sheet_a, c_law_sheet_k⟩
  have d_c_law_of : DefAt K "_law_of" "_law_of" s_l_of f_c_law_of .none _ := ⟨_, _, _, _, _, _, _, _, _, rfl, c_law_of_l, c_law_of_c⟩
  have m_c_law_of : ModAt K mg "_law_of" s_l_of f_c_law_of _ := ⟨d_c_law_of, PySem.W.mg_of X G c_law_of_a, c_law_of_k⟩
  have d_c_law_built : DefAt K "_law_built" "_law_built" s_l_built f_c_law_built .none _ := ⟨_, _, _, _, _, _, _, _, _, rfl, c_law_built_l, c_law_built_c⟩
  have m_c_law_built : ModAt K mg "_law_built" s_l_built f_c_law_built _ := ⟨d_c_law_built, PySem.W.mg_of X G c_law_built_a, c_law_built_k⟩
  have d_c_law_small : DefAt K "_law_small" "_law_small" s_l_small f_c_law_small .none _ := ⟨_, _, _, _, _, _, _, _, _, rfl, c_law_small_l, c_law_small_c⟩
  have m_c_law_small : ModAt K mg "_law_small" s_l_small f_c_law_small _ := ⟨d_c_law_small, PySem.W.mg_of X G c_law_small_a, c_law_small_k⟩
  have d_c_law_parts : DefAt K "_law_parts" "_law_parts" s_l_parts f_c_law_parts .none _ := ⟨_, _, _, _, _, _, _, _, _, rfl, c_law_parts_l, c_law_parts_c⟩
  have m_c_law_parts : ModAt K mg "_law_parts" s_l_parts f_c_law_parts _ := ⟨d_c_law_parts, PySem.W.mg_of X G c_law_parts_a, c_law_parts_k⟩
  have d_c_law_is_whole : DefAt K "_law_is_whole" "_law_is_whole" s_l_is_whole f_c_law_is_whole .none _ := ⟨_, _, _, _, _, _, _, _, _, rfl, c_law_is_whole_l, c_law_is_whole_c⟩
  have m_c_law_is_whole : ModAt K mg "_law_is_whole" s_l_is_whole f_c_law_is_whole _ := ⟨d_c_law_is_whole, PySem.W.mg_of X G c_law_is_whole_a, c_law_is_whole_k⟩
  have d_c_law_thing : DefAt K "_law_thing" "_law_thing" s_l_thing f_c_law_thing .none _ := ⟨_, _, _, _, _, _, _, _, _, rfl, c_law_thing_l, c_law_thing_c⟩
  have m_c_law_thing : ModAt K mg "_law_thing" s_l_thing f_c_law_thing _ := ⟨d_c_law_thing, PySem.W.mg_of X G c_law_thing_a, c_law_thing_k⟩
  have d_c_law_bent : DefAt K "_law_bent" "_law_bent" s_l_bent f_c_law_bent .none _ := ⟨_, _, _, _, _, _, _, _, _, rfl, c_law_bent_l, c_law_bent_c⟩
  have m_c_law_bent : ModAt K mg "_law_bent" s_l_bent f_c_law_bent _ := ⟨d_c_law_bent, PySem.W.mg_of X G c_law_bent_a, c_law_bent_k⟩
  have d_c_law_sort : DefAt K "_law_sort" "_law_sort" s_l_sort f_c_law_sort .none _ := ⟨_, _, _, _, _, _, _, _, _, rfl, c_law_sort_l, c_law_sort_c⟩
  have m_c_law_sort : ModAt K mg "_law_sort" s_l_sort f_c_law_sort _ := ⟨d_c_law_sort, PySem.W.mg_of X G c_law_sort_a, c_law_sort_k⟩
  have d_c_law_answer : DefAt K "_law_answer" "_law_answer" s_l_answer f_c_law_answer .none _ := ⟨_, _, _, _, _, _, _, _, _, rfl, c_law_answer_l, c_law_answer_c⟩
  have m_c_law_answer : ModAt K mg "_law_answer" s_l_answer f_c_law_answer _ := ⟨d_c_law_answer, PySem.W.mg_of X G c_law_answer_a, c_law_answer_k⟩
  have d_c_law_is_lot : DefAt K "_law_is_lot" "_law_is_lot" s_l_is_lot f_c_law_is_lot .none _ := ⟨_, _, _, _, _, _, _, _, _, rfl, c_law_is_lot_l, c_law_is_lot_c⟩
  have m_c_law_is_lot : ModAt K mg "_law_is_lot" s_l_is_lot f_c_law_is_lot _ := ⟨d_c_law_is_lot, PySem.W.mg_of X G c_law_is_lot_a, c_law_is_lot_k⟩
  have d_c_law_some : DefAt K "_law_some" "_law_some" s_l_some f_c_law_some .none _ := ⟨_, _, _, _, _, _, _, _, _, rfl, c_law_some_l, c_law_some_c⟩
  have m_c_law_some : ModAt K mg "_law_some" s_l_some f_c_law_some _ := ⟨d_c_law_some, PySem.W.mg_of X G c_law_some_a, c_law_some_k⟩
  have d_c_law_right : DefAt K "_law_right" "_law_right" s_l_right f_c_law_right .none _ := ⟨_, _, _, _, _, _, _, _, _, rfl, c_law_right_l, c_law_right_c⟩
  have m_c_law_right : ModAt K mg "_law_right" s_l_right f_c_law_right _ := ⟨d_c_law_right, PySem.W.mg_of X G c_law_right_a, c_law_right_k⟩
  have k_c_law_right : CodeAt K f_c_law_right cc_c_law_right := CodeAt.of c_law_right_l rfl
  have d_c_law : DefAt K "law" "law" s_law f_c_law .none _ := ⟨_, _, _, _, _, _, _, _, _, rfl, c_law_l, c_law_c⟩
  have m_c_law : ModAt K mg "law" s_law f_c_law _ := ⟨d_c_law, PySem.W.mg_of X G c_law_a, c_law_k⟩
  refine ⟨PySem.W.fnOf "law" "law" (defArgs s_law) (defBody s_law) (defScope s_law) .none kV_c_law dc_c_law pm_c_law an_c_law cd_c_law ct_c_law, [("_law_right", cc_c_law_right, Pt_c_law_right)], fun t ht => ?_, fun s v => .of_eq rfl, fun base _ _ SY TB => ?_⟩
  · simp only [List.mem_cons, List.not_mem_nil, or_false] at ht
    rcases ht with rfl <;> exact ⟨by simp, by assumption, by assumption⟩
  have hT_c_law_right : (Pt_c_law_right, (Str.ofString "_law_right" ++ ".<locals>.<lambda>" : Str)) ∈ Tabl.T [("_law_right", cc_c_law_right, Pt_c_law_right)] := List.mem_cons_self
  have hu_c_law_right : ∀ p ∈ Tabl.T [("_law_right", cc_c_law_right, Pt_c_law_right)], p.1 = Pt_c_law_right → p.2 = (Str.ofString "_law_right" ++ ".<locals>.<lambda>" : Str) := fun p hp e => by rw [List.mem_singleton.mp hp]
  have TB_c_law_right := TB _ List.mem_cons_self
  have c_InvalidTable := mk_InvalidTable (P := P) (w := w) (base := base) x_InvalidTable
  have c_NotANight := mk_NotANight (P := P) (w := w) (base := base) x_NotANight
  have c_is_integer := m_c_is_integer.call (ok_is_integer (P := P) (w := w) (base := base) m_c_is_integer.d.fx B) (fun _ _ _ _ _ _ us hl => match us, hl with | [_], _ => rfl)
  have c_is_between := m_c_is_between.call (ok_is_between (P := P) (w := w) (base := base) m_c_is_between.d.fx c_is_integer) (fun _ _ _ _ _ _ us hl => match us, hl with | [_, _, _], _ => rfl)
  have c_is_tuple_of := m_c_is_tuple_of.call (ok_is_tuple_of (P := P) (w := w) (base := base) m_c_is_tuple_of.d.fx B) (fun _ _ _ _ _ _ us hl => match us, hl with | [_, _], _ => rfl)
  have c_is_name := m_c_is_name.call (ok_is_name (P := P) (w := w) (base := base) m_c_is_name.d.fx B c_MOST_LETTERS c_LETTERS c_LETTERS_AND_DIGITS) (fun _ _ _ _ _ _ us hl => match us, hl with | [_], _ => rfl)
  have c_is_divisors := m_c_is_divisors.call (ok_is_divisors (P := P) (w := w) (base := base) m_c_is_divisors.d.fx B c_MOST_SEATS c_MOST_DIVISOR c_is_between) (fun _ _ _ _ _ _ us hl => match us, hl with | [_], _ => rfl)
  have c_is_party := m_c_is_party.call (ok_is_party (P := P) (w := w) (base := base) m_c_is_party.d.fx c_MOST_COUNT c_is_tuple_of c_is_name c_is_between) (fun _ _ _ _ _ _ us hl => match us, hl with | [_], _ => rfl)
  have c_is_group := m_c_is_group.call (ok_is_group (P := P) (w := w) (base := base) m_c_is_group.d.fx B) (fun _ _ _ _ _ _ us hl => match us, hl with | [_, _], _ => rfl)
  have c_is_pile := m_c_is_pile.call (ok_is_pile (P := P) (w := w) (base := base) m_c_is_pile.d.fx c_MOST_COUNT c_is_tuple_of c_is_group c_is_between) (fun _ _ _ _ _ _ us hl => match us, hl with | [_, _], _ => rfl)
  have c_names_of := m_c_names_of.call (ok_names_of (P := P) (w := w) (base := base) m_c_names_of.d.fx B) (fun _ _ _ _ _ _ us hl => match us, hl with | [_], _ => rfl)
  have c_check_divisors := m_c_check_divisors.call (ok_check_divisors (P := P) (w := w) (base := base) m_c_check_divisors.d.fx c_is_divisors) (fun _ _ _ _ _ _ us hl => match us, hl with | [_], _ => rfl)
  have c_check_parties := m_c_check_parties.call (ok_check_parties (P := P) (w := w) (base := base) m_c_check_parties.d.fx B c_MOST_PARTIES c_is_party c_names_of) (fun _ _ _ _ _ _ us hl => match us, hl with | [_], _ => rfl)
  have c_check_piles := m_c_check_piles.call (ok_check_piles (P := P) (w := w) (base := base) m_c_check_piles.d.fx B c_MOST_PILES c_is_pile) (fun _ _ _ _ _ _ us hl => match us, hl with | [_, _], _ => rfl)
  have c_text_of := m_c_text_of.call (ok_text_of (P := P) (w := w) (base := base) m_c_text_of.d.fx B) (fun _ _ _ _ _ _ us hl => match us, hl with | [_, _, _], _ => rfl)
  have F_ini := ok_init (P := P) (w := w) (base := base) (C := C) d_ini.fx N c_check_divisors c_check_parties c_check_piles c_names_of c_text_of
  have c_mkNight3 : MakeB P w K mg base C 5 S_init 3 [] [0, 1, 2] [] := ⟨f_ini, _, _, mk, F_ini, d_ini.kbD (its := [.ref ed]) (dvs := []) (dv := []) ini_T rfl .nil (fun _ => .nil) fun _ _ _ _ _ _ us ws h1 h2 => match us, h1, ws, h2 with | [_, _, _, _], _, [], _ => ⟨_, rfl, rfl⟩⟩
  have c_mkNight0_parties_divisors : MakeB P w K mg base C 5 S_init 0 ["parties", "divisors"] [1, 0, 2] [.tup []] := ⟨f_ini, _, _, mk, F_ini, d_ini.kbD (its := [.ref ed]) (dvs := [V.ref ed]) (dv := [.ref ed]) ini_T rfl (.cons rfl .nil) dfl fun _ _ _ _ _ _ us ws h1 h2 => match us, h1, ws, h2 with | [_], _, [_, _], _ => ⟨_, rfl, rfl⟩⟩
  have c_mkNight0_piles_parties_divisors : MakeB P w K mg base C 5 S_init 0 ["piles", "parties", "divisors"] [2, 1, 0] [] := ⟨f_ini, _, _, mk, F_ini, d_ini.kbD (its := [.ref ed]) (dvs := []) (dv := []) ini_T rfl .nil (fun _ => .nil) fun _ _ _ _ _ _ us ws h1 h2 => match us, h1, ws, h2 with | [_], _, [_, _, _], _ => ⟨_, rfl, rfl⟩⟩
  have c_p_divisors : PropB P w K mg base C "divisors" 1 (S_getD C) := ⟨p_divisors, f_divisors, _, _, N.cl, q_divisors, ok_getD d_divisors.fx N, d_divisors.binds (fun _ _ _ _ _ _ us hl => match us, hl with | [_], _ => rfl)⟩
  have c_p_parties : PropB P w K mg base C "parties" 1 (S_getP C) := ⟨p_parties, f_parties, _, _, N.cl, q_parties, ok_getP d_parties.fx N, d_parties.binds (fun _ _ _ _ _ _ us hl => match us, hl with | [_], _ => rfl)⟩
  have c_p_piles : PropB P w K mg base C "piles" 1 (S_getH C) := ⟨p_piles, f_piles, _, _, N.cl, q_piles, ok_getH d_piles.fx N, d_piles.binds (fun _ _ _ _ _ _ us hl => match us, hl with | [_], _ => rfl)⟩
  have c_p_seats : PropB P w K mg base C "seats" 1 (S_getS C) := ⟨p_seats, f_seats, _, _, N.cl, q_seats, ok_getS d_seats.fx N B, d_seats.binds (fun _ _ _ _ _ _ us hl => match us, hl with | [_], _ => rfl)⟩
  have c_str : StrB P w K mg base C 1 (S_getT C) := ⟨f_strO, _, _, o_strO, ok_str d_strO.fx N B, d_strO.binds (fun _ _ _ _ _ _ us hl => match us, hl with | [_], _ => rfl)⟩
  have c_number_in := m_c_number_in.call (ok_number_in (P := P) (w := w) (base := base) m_c_number_in.d.fx B c_MOST_DIGITS) (fun _ _ _ _ _ _ us hl => match us, hl with | [_], _ => rfl)
  have c_parts_in := m_c_parts_in.call (ok_parts_in (P := P) (w := w) (base := base) m_c_parts_in.d.fx B c_number_in) (fun _ _ _ _ _ _ us hl => match us, hl with | [_], _ => rfl)
  have F_read := ok_read (P := P) (w := w) (base := base) (C := C) d_read.fx B c_parts_in c_mkNight3
  have c_cm_read : CMethB P w K mg base C "read" 7 (S_read C) 1 [] [0] [] := ⟨_, p_read, f_read, _, _, cr, cm, F_read, d_read.kb fun _ _ _ _ _ _ us ws h1 h2 => match us, h1, ws, h2 with | [_, _], _, [], _ => rfl⟩
  have c_cm_readK : CMethB P w K mg base C "read" 7 (S_read C) 0 ["text"] [0] [] := ⟨_, p_read, f_read, _, _, cr, cm, F_read, d_read.kb fun _ _ _ _ _ _ us ws h1 h2 => match us, h1, ws, h2 with | [_], _, [_], _ => rfl⟩
  have c_counts_of := m_c_counts_of.call (ok_counts_of (P := P) (w := w) (base := base) m_c_counts_of.d.fx B) (fun _ _ _ _ _ _ us hl => match us, hl with | [_], _ => rfl)
  have c_scale_of := m_c_scale_of.call (ok_scale_of (P := P) (w := w) (base := base) m_c_scale_of.d.fx B  c_lcm) (fun _ _ _ _ _ _ us hl => match us, hl with | [_], _ => rfl)
  have c_units_of := m_c_units_of.call (ok_units_of (P := P) (w := w) (base := base) m_c_units_of.d.fx B c_scale_of) (fun _ _ _ _ _ _ us hl => match us, hl with | [_], _ => rfl)
  have c_claims_of := m_c_claims_of.call (ok_claims_of (P := P) (w := w) (base := base) m_c_claims_of.d.fx B c_units_of) (fun _ _ _ _ _ _ us hl => match us, hl with | [_, _], _ => rfl)
  have c_claim_at := m_c_claim_at.call (ok_claim_at (P := P) (w := w) (base := base) m_c_claim_at.d.fx B  n_sorted) (fun _ _ _ _ _ _ us hl => match us, hl with | [_, _], _ => rfl)
  have c_seats_above := m_c_seats_above.call (ok_seats_above (P := P) (w := w) (base := base) m_c_seats_above.d.fx B) (fun _ _ _ _ _ _ us hl => match us, hl with | [_, _], _ => rfl)
  have c_seats_from := m_c_seats_from.call (ok_seats_from (P := P) (w := w) (base := base) m_c_seats_from.d.fx B) (fun _ _ _ _ _ _ us hl => match us, hl with | [_, _], _ => rfl)
  have c_tables_within := m_c_tables_within.call (ok_tables_within (P := P) (w := w) (base := base) m_c_tables_within.d.fx B) (fun _ _ _ _ _ _ us hl => match us, hl with | [_, _, _], _ => rfl)
  have c_tables_made := m_c_tables_made.call (ok_tables_made (P := P) (w := w) (base := base) m_c_tables_made.d.fx c_claim_at c_tables_within c_seats_above c_seats_from) (fun _ _ _ _ _ _ us hl => match us, hl with | [_, _], _ => rfl)
  have c_check_night := m_c_check_night.call (ok_check_night (P := P) (w := w) (base := base) m_c_check_night.d.fx B IC c_Night) (fun _ _ _ _ _ _ us hl => match us, hl with | [_], _ => rfl)
  have c_is_row := m_c_is_row.call (ok_is_row (P := P) (w := w) (base := base) m_c_is_row.d.fx B c_is_tuple_of c_is_integer) (fun _ _ _ _ _ _ us hl => match us, hl with | [_, _], _ => rfl)
  have c_is_table := m_c_is_table.call (ok_is_table (P := P) (w := w) (base := base) m_c_is_table.d.fx B c_is_row) (fun _ _ _ _ _ _ us hl => match us, hl with | [_, _, _], _ => rfl)
  have c_len : LenB P w K mg base C 1 (S_getL C) := ⟨⟨f_lenO, _, _, o_lenO, ok_getL d_lenO.fx N B, d_lenO.binds (fun _ _ _ _ _ _ us hl => match us, hl with | [_], _ => rfl)⟩, noBool⟩
  have c_check_table := m_c_check_table.call (ok_check_table (P := P) (w := w) (base := base) m_c_check_table.d.fx B c_is_table c_len c_p_seats) (fun _ _ _ _ _ _ us hl => match us, hl with | [_, _], _ => rfl)
  have c_is_below := m_c_is_below.call (ok_is_below (P := P) (w := w) (base := base) m_c_is_below.d.fx B) (fun _ _ _ _ _ _ us hl => match us, hl with | [_, _], _ => rfl)
  have c_price_bounds := m_c_price_bounds.call (ok_price_bounds (P := P) (w := w) (base := base) m_c_price_bounds.d.fx B c_ZERO c_is_below) (fun _ _ _ _ _ _ us hl => match us, hl with | [_, _, _], _ => rfl)
  have c_is_made_by := m_c_is_made_by.call (ok_is_made_by (P := P) (w := w) (base := base) m_c_is_made_by.d.fx B c_price_bounds c_is_below) (fun _ _ _ _ _ _ us hl => match us, hl with | [_, _, _], _ => rfl)
  have c_fraction := m_c_fraction.call (ok_fraction (P := P) (w := w) (base := base) m_c_fraction.d.fx B  c_gcd) (fun _ _ _ _ _ _ us hl => match us, hl with | [_, _], _ => rfl)
  have c_law_begun := m_c_law_begun.call (ok_begun (P := P) (w := w) (base := base) m_c_law_begun.d.fx B) (fun _ _ _ _ _ _ us hl => match us, hl with | [_, _], _ => rfl)
  have c_law_cast := m_c_law_cast.call (ok_cast (P := P) (w := w) (base := base) m_c_law_cast.d.fx B) (fun _ _ _ _ _ _ us hl => match us, hl with | [_, _], _ => rfl)
  have c_law_any_of := m_c_law_any_of.call (ok_any_of (P := P) (w := w) (base := base) m_c_law_any_of.d.fx B c_law_cast) (fun _ _ _ _ _ _ us hl => match us, hl with | [_, _], _ => rfl)
  have c_law_tags := m_c_law_tags.call (ok_tags (P := P) (w := w) (base := base) m_c_law_tags.d.fx B c_law_cast) (fun _ _ _ _ _ _ us hl => match us, hl with | [_, _], _ => rfl)
  have c_law_rising := m_c_law_rising.call (ok_rising (P := P) (w := w) (base := base) m_c_law_rising.d.fx B c_law_cast c_law_any_of) (fun _ _ _ _ _ _ us hl => match us, hl with | [_, _], _ => rfl)
  have c_law_amount := m_c_law_amount.call (ok_amount (P := P) (w := w) (base := base) m_c_law_amount.d.fx B c_law_cast c_law_any_of) (fun _ _ _ _ _ _ us hl => match us, hl with | [_, _], _ => rfl)
  have c_law_heap := m_c_law_heap.call (ok_heap (P := P) (w := w) (base := base) m_c_law_heap.d.fx B c_law_cast c_law_amount) (fun _ _ _ _ _ _ us hl => match us, hl with | [_, _], _ => rfl)
  have c_law_parts := m_c_law_parts.call (ok_parts (P := P) (w := w) (base := base) m_c_law_parts.d.fx B c_law_cast c_law_tags c_law_amount c_law_rising c_law_heap) (fun _ _ _ _ _ _ us hl => match us, hl with | [_], _ => rfl)
  have c_law_sheet := m_c_law_sheet.call (ok_sheet (P := P) (w := w) (base := base) m_c_law_sheet.d.fx B) (fun _ _ _ _ _ _ us hl => match us, hl with | [_], _ => rfl)
  have c_law_of := m_c_law_of.call (ok_of (P := P) (w := w) (base := base) m_c_law_of.d.fx c_Night c_mkNight3) (fun _ _ _ _ _ _ us hl => match us, hl with | [_], _ => rfl)
  have c_law_built := m_c_law_built.call (ok_built (P := P) (w := w) (base := base) m_c_law_built.d.fx c_Night c_law_cast c_law_sheet c_law_of c_mkNight0_parties_divisors c_mkNight0_piles_parties_divisors c_cm_read) (fun _ _ _ _ _ _ us hl => match us, hl with | [_, _], _ => rfl)
  have c_law_small := m_c_law_small.call (ok_small (P := P) (w := w) (base := base) m_c_law_small.d.fx B c_law_cast c_law_any_of c_law_tags c_law_rising c_law_heap) (fun _ _ _ _ _ _ us hl => match us, hl with | [_], _ => rfl)
  have c_law_is_whole := m_c_law_is_whole.call (ok_whole (P := P) (w := w) (base := base) m_c_law_is_whole.d.fx B) (fun _ _ _ _ _ _ us hl => match us, hl with | [_], _ => rfl)
  have c_law_thing := m_c_law_thing.call (ok_thing (P := P) (w := w) (base := base) m_c_law_thing.d.fx c_law_any_of) (fun _ _ _ _ _ _ us hl => match us, hl with | [_], _ => rfl)
  have c_law_bent : CallD P w K mg base "_law_bent" 13 S_bentA := m_c_law_bent.call (ok_bentA (P := P) (w := w) (base := base) m_c_law_bent.d.fx B m_c_law_bent.m m_c_law_bent.k (m_c_law_bent.d.binds (fun _ _ _ _ _ _ us hl => match us, hl with | [_, _], _ => rfl)) c_law_cast c_law_thing) (fun _ _ _ _ _ _ us hl => match us, hl with | [_, _], _ => rfl)
  have y_is_integer : CallD P w K mg base "is_integer" 1 (G_is_integer) := m_c_is_integer.call (ok_is_integerG (P := P) (w := w) (base := base) m_c_is_integer.d.fx B) (fun _ _ _ _ _ _ us hl => match us, hl with | [_], _ => rfl)
  have y_is_tuple_of : CallD P w K mg base "is_tuple_of" 1 (G_is_tuple_of) := m_c_is_tuple_of.call (ok_is_tuple_ofG (P := P) (w := w) (base := base) m_c_is_tuple_of.d.fx B) (fun _ _ _ _ _ _ us hl => match us, hl with | [_, _], _ => rfl)
  have y_is_row : CallD P w K mg base "is_row" 2 (G_is_row) := m_c_is_row.call (ok_is_rowG (P := P) (w := w) (base := base) m_c_is_row.d.fx B y_is_tuple_of y_is_integer) (fun _ _ _ _ _ _ us hl => match us, hl with | [_, _], _ => rfl)
  have y_is_table : CallD P w K mg base "is_table" 3 (G_is_table) := m_c_is_table.call (ok_is_tableG (P := P) (w := w) (base := base) m_c_is_table.d.fx B y_is_row) (fun _ _ _ _ _ _ us hl => match us, hl with | [_, _, _], _ => rfl)
  have y_check_night : CallD P w K mg base "check_night" 3 (G_check_night C C_NotANight) := m_c_check_night.call (FnG.or ((ok_check_night (P := P) (w := w) (base := base) m_c_check_night.d.fx B IC c_Night).mono (by decide)) (ok_check_nightE (P := P) (w := w) (base := base) m_c_check_night.d.fx B IC c_Night c_NotANight)) (fun _ _ _ _ _ _ us hl => match us, hl with | [_], _ => rfl)
  have y_check_table : CallD P w K mg base "check_table" 4 (G_check_table C C_InvalidTable) := m_c_check_table.call (FnG.or ((ok_check_table (P := P) (w := w) (base := base) m_c_check_table.d.fx B c_is_table c_len c_p_seats).mono (by decide)) (ok_check_tableE (P := P) (w := w) (base := base) m_c_check_table.d.fx B y_is_table c_len c_p_seats c_InvalidTable)) (fun _ _ _ _ _ _ us hl => match us, hl with | [_, _], _ => rfl)
  have y_is_result : CallD P w K mg base "is_result" 5 (G_is_result C C_NotANight C_InvalidTable) := m_c_is_result.call (FnG.or ((ok_is_result (P := P) (w := w) (base := base) m_c_is_result.d.fx B c_check_night c_check_table c_is_made_by c_counts_of c_p_divisors c_p_parties).mono (by decide)) (ok_is_resultE (P := P) (w := w) (base := base) m_c_is_result.d.fx B y_check_night y_check_table c_is_made_by c_counts_of c_p_divisors c_p_parties)) (fun _ _ _ _ _ _ us hl => match us, hl with | [_, _], _ => rfl)
  have GK_is_result : CallK P w K mg base "is_result" 5 (G_is_result C C_NotANight C_InvalidTable) 0 ["table", "night"] [1, 0] := ⟨_, _, _, FnG.or ((ok_is_result (P := P) (w := w) (base := base) m_c_is_result.d.fx B c_check_night c_check_table c_is_made_by c_counts_of c_p_divisors c_p_parties).mono (by decide)) (ok_is_resultE (P := P) (w := w) (base := base) m_c_is_result.d.fx B y_check_night y_check_table c_is_made_by c_counts_of c_p_divisors c_p_parties), m_c_is_result.m, m_c_is_result.k, m_c_is_result.d.kb fun _ _ _ _ _ _ us ws h1 h2 => match us, h1, ws, h2 with | [], _, [_, _], _ => rfl⟩
  have y_prices : CallD P w K mg base "prices" 5 (G_prices C C_NotANight C_InvalidTable) := m_c_prices.call (FnG.or ((ok_prices (P := P) (w := w) (base := base) m_c_prices.d.fx B c_check_night c_check_table c_price_bounds c_is_below c_fraction c_counts_of c_p_divisors c_p_parties).mono (by decide)) (ok_pricesE (P := P) (w := w) (base := base) m_c_prices.d.fx B y_check_night y_check_table c_price_bounds c_is_below c_fraction c_counts_of c_p_divisors c_p_parties)) (fun _ _ _ _ _ _ us hl => match us, hl with | [_, _], _ => rfl)
  have GK_prices : CallK P w K mg base "prices" 5 (G_prices C C_NotANight C_InvalidTable) 0 ["table", "night"] [1, 0] := ⟨_, _, _, FnG.or ((ok_prices (P := P) (w := w) (base := base) m_c_prices.d.fx B c_check_night c_check_table c_price_bounds c_is_below c_fraction c_counts_of c_p_divisors c_p_parties).mono (by decide)) (ok_pricesE (P := P) (w := w) (base := base) m_c_prices.d.fx B y_check_night y_check_table c_price_bounds c_is_below c_fraction c_counts_of c_p_divisors c_p_parties), m_c_prices.m, m_c_prices.k, m_c_prices.d.kb fun _ _ _ _ _ _ us ws h1 h2 => match us, h1, ws, h2 with | [], _, [_, _], _ => rfl⟩
  have y_results : CallD P w K mg base "results" 4 (E_check_night C_NotANight) := m_c_results.call (ok_resultsE (P := P) (w := w) (base := base) m_c_results.d.fx B y_check_night c_tables_made c_claims_of c_counts_of c_p_divisors c_p_parties c_p_seats) (fun _ _ _ _ _ _ us hl => match us, hl with | [_], _ => rfl)
  have GK_results : CallK P w K mg base "results" 4 (E_check_night C_NotANight) 0 ["night"] [0] := ⟨_, _, _, ok_resultsE (P := P) (w := w) (base := base) m_c_results.d.fx B y_check_night c_tables_made c_claims_of c_counts_of c_p_divisors c_p_parties c_p_seats, m_c_results.m, m_c_results.k, m_c_results.d.kb fun _ _ _ _ _ _ us ws h1 h2 => match us, h1, ws, h2 with | [], _, [_], _ => rfl⟩
  have c_law_is_lot := m_c_law_is_lot.call (ok_lot (P := P) (w := w) (base := base) m_c_law_is_lot.d.fx B c_law_is_whole) (fun _ _ _ _ _ _ us hl => match us, hl with | [_, _], _ => rfl)
  have c_law_some := m_c_law_some.call (ok_some (P := P) (w := w) (base := base) m_c_law_some.d.fx B c_law_cast c_law_any_of c_law_thing c_law_bent) (fun _ _ _ _ _ _ us hl => match us, hl with | [_, _], _ => rfl)
  have ZT : SortC K C_InvalidTable C_BadValue C_BadName C_NoAnswer := ⟨h_InvalidTable, e_InvalidTable_no, kt_InvalidTable_BadValue, kt_InvalidTable_BadName, kt_InvalidTable_NoAnswer, kt_InvalidTable_ValueError, kt_InvalidTable_LookupError, kt_InvalidTable_ArithmeticError, kt_InvalidTable_InvalidTable⟩
  have ZY : SortC K C_NotANight C_BadValue C_BadName C_NoAnswer := ⟨h_NotANight, e_NotANight_no, kt_NotANight_BadValue, kt_NotANight_BadName, kt_NotANight_NoAnswer, kt_NotANight_ValueError, kt_NotANight_LookupError, kt_NotANight_ArithmeticError, kt_NotANight_NotANight⟩
  have F_c_law_sort := ok_sort (P := P) (w := w) (base := base) m_c_law_sort.d.fx B  SY  ZT  ZY  kt_InvalidTable_NotANight  kt_NotANight_InvalidTable c_BadValue c_BadName c_NoAnswer c_InvalidTable c_NotANight  n_ValueError  n_LookupError  n_ArithmeticError
  have c_law_sort : SortB P w K mg base "_law_sort" 8 (S_sort C_InvalidTable C_NotANight) := ⟨f_c_law_sort, _, "_law_e", F_c_law_sort.mono (by decide), m_c_law_sort.m, m_c_law_sort.k, m_c_law_sort.d.binds (fun _ _ _ _ _ _ us hl => match us, hl with | [_], _ => rfl)⟩
  have c_law_answer : AnsC P w K mg base "_law_answer" 8 [.ref C_BadValue, .ref C_BadName, .ref C_NoAnswer] (S_sort C_InvalidTable C_NotANight) := ⟨s_l_answer, f_c_law_answer, _, "_law_call_here", "_law_got", "_law_e", "_law_sort", "BadValue", "BadName", "NoAnswer", .ref C_BadValue, .ref C_BadName, .ref C_NoAnswer, _, _, _, _, _, _, _, _, _, _, _, _, _, _, _, _, _, _, _, _, rfl, m_c_law_answer.d.fx, m_c_law_answer.m, m_c_law_answer.k, m_c_law_answer.d.binds (fun _ _ _ _ _ _ us hl => match us, hl with | [_], _ => rfl), c_law_sort, ⟨rfl, rfl, rfl, by decide +kernel, rfl, by decide +kernel, by decide +kernel⟩, ⟨by decide, rfl, rfl, rfl, rfl, rfl, rfl, rfl, by decide, by decide, by decide, by decide, by decide, by decide, by decide, rfl, c_BadValue, c_BadName, c_NoAnswer⟩, rfl⟩
  have c_law_right : CallT P w K mg base (Tabl.T [("_law_right", cc_c_law_right, Pt_c_law_right)]) "_law_right" _ _ := ⟨_, _, _, (ok_right (P := P) (w := w) (base := base) m_c_law_right.d.fx B  SY  k_c_law_right  hT_c_law_right  hu_c_law_right  TB_c_law_right c_law_any_of c_law_small c_law_parts c_law_built c_law_some c_law_thing c_law_is_lot c_str  y_is_result  GK_is_result  y_prices  GK_prices  y_results  GK_results c_law_answer  x_cT  x_cY), m_c_law_right.m, m_c_law_right.k, m_c_law_right.d.binds (fun _ _ _ _ _ _ us hl => match us, hl with | [_], _ => rfl)⟩
  exact ok_law m_c_law.d.fx B c_law_right c_law_begun
end
end DL
open PySem PySem.W PyProof.Rows
set_option maxRecDepth 100000 in
set_option maxHeartbeats 0 in
theorem PySem.Challenge.cw_restballots_k13_tables_refused_holds : PySem.Challenge.rw_restballots_k13_tables_refused.Holds := by
  w_on; o_law; k_head; (case hw => w_witness2)
  k_fill
  refine DL.walk_GT (l := PySem.Challenge.rw_restballots_k13_tables_refused) (k := 16) (S := DL.S_law) "_law_script" ["_law_right"] rfl rfl ⟨⟨rfl, by decide, by decide⟩, rfl⟩ (by decide +kernel) (by decide +kernel) (fun w h Y => by first | exact PySem.W.kIn_of Y | exact PySem.W.km_in_of Y) ?F ?S
  case S => exact fun ns Φ Ψ h1 h2 h3 => ⟨ns, rfl, h1, h2, h3⟩
  case F =>
    intro w mg fa h KX G hmg
    refine' DL.all_k13 KX G hmg ?z_aC ?z_pg ?z_hd ?z_po ?z_sa ?z_no_divisors ?z_no_parties ?z_no_piles ?z_no_text ?z_ini_m ?z_ini_a ?z_ini_i ?z_ini_k ?z_ini_l ?z_ini_c ?z_ini_T ?z_ini_E ?z_divisors_a ?z_divisors_g ?z_divisors_t ?z_divisors_r ?z_divisors_l ?z_divisors_c ?z_parties_a ?z_parties_g ?z_parties_t ?z_parties_r ?z_parties_l ?z_parties_c ?z_piles_a ?z_piles_g ?z_piles_t ?z_piles_r ?z_piles_l ?z_piles_c ?z_seats_a ?z_seats_g ?z_seats_t ?z_seats_r ?z_seats_l ?z_seats_c ?z_lenO_a ?z_lenO_i ?z_lenO_l ?z_lenO_c ?z_strO_a ?z_strO_i ?z_strO_l ?z_strO_c ?z_eq_dnNoneType ?z_eq_dnbool ?z_eq_dnint ?z_eq_dnstr ?z_eq_dntuple ?z_eq_dnlist ?z_eq_dndict ?z_is_ha ?z_is_hn ?z_is_ht ?z_is_hm ?z_is_c ?z_is_t ?z_noBool ?z_rd ?z_ga ?z_read_a ?z_read_r ?z_read_f ?z_read_l ?z_read_c ?z_e_BadValue_a ?z_e_BadName_a ?z_e_NoAnswer_a ?z_e_InvalidTable_a ?z_e_InvalidTable_L ?z_e_InvalidTable_sa ?z_e_InvalidTable_ex ?z_e_InvalidTable_ty ?z_e_InvalidTable_kC ?z_e_InvalidTable_no ?z_e_InvalidTable_i ?z_e_InvalidTable_it ?z_e_InvalidTable_l ?z_e_InvalidTable_c ?z_e_InvalidTable_k ?z_e_NotANight_a ?z_e_NotANight_L ?z_e_NotANight_sa ?z_e_NotANight_ex ?z_e_NotANight_ty ?z_e_NotANight_kC ?z_e_NotANight_no ?z_e_NotANight_i ?z_e_NotANight_it ?z_e_NotANight_l ?z_e_NotANight_c ?z_e_NotANight_k ?z_h_InvalidTable_c ?z_h_InvalidTable_c2 ?z_h_InvalidTable_ga ?z_h_InvalidTable_gg ?z_h_InvalidTable_cl ?z_h_InvalidTable_mr ?z_h_NotANight_c ?z_h_NotANight_c2 ?z_h_NotANight_ga ?z_h_NotANight_gg ?z_h_NotANight_cl ?z_h_NotANight_mr ?z_h_sp ?z_h_tk ?z_kt_InvalidTable_BadValue ?z_kt_InvalidTable_BadName ?z_kt_InvalidTable_NoAnswer ?z_kt_InvalidTable_ValueError ?z_kt_InvalidTable_LookupError ?z_kt_InvalidTable_ArithmeticError ?z_kt_InvalidTable_InvalidTable ?z_kt_InvalidTable_NotANight ?z_kt_NotANight_BadValue ?z_kt_NotANight_BadName ?z_kt_NotANight_NoAnswer ?z_kt_NotANight_ValueError ?z_kt_NotANight_LookupError ?z_kt_NotANight_ArithmeticError ?z_kt_NotANight_NotANight ?z_kt_NotANight_InvalidTable ?z_x_cT ?z_x_cY ?z_b_len ?z_b_isinstance ?z_b_int ?z_b_bool ?z_b_str ?z_b_tuple ?z_b_list ?z_b_all ?z_b_sum ?z_b_min ?z_b_max ?z_b_abs ?z_b_range ?z_b_enumerate ?z_b_zip ?z_b_repr ?z_b_divmod ?z_b_ValueError ?z_b_LookupError ?z_b_ArithmeticError ?z_b_sorted ?z_i_gcd ?z_i_lcm ?z_g_MOST_LETTERS ?z_g_MOST_SEATS ?z_g_MOST_DIVISOR ?z_g_MOST_COUNT ?z_g_MOST_PARTIES ?z_g_MOST_PILES ?z_g_MOST_DIGITS ?z_tu_ZERO ?z_tl_ZERO ?z_g_LETTERS ?z_g_LETTERS_AND_DIGITS ?z_tb_c_law_right ?z_to_c_law_right ?z_c_is_integer_a ?z_c_is_integer_l ?z_c_is_integer_c ?z_c_is_integer_k ?z_c_is_between_a ?z_c_is_between_l ?z_c_is_between_c ?z_c_is_between_k ?z_c_is_tuple_of_a ?z_c_is_tuple_of_l ?z_c_is_tuple_of_c ?z_c_is_tuple_of_k ?z_c_is_name_a ?z_c_is_name_l ?z_c_is_name_c ?z_c_is_name_k ?z_c_is_divisors_a ?z_c_is_divisors_l ?z_c_is_divisors_c ?z_c_is_divisors_k ?z_c_is_party_a ?z_c_is_party_l ?z_c_is_party_c ?z_c_is_party_k ?z_c_is_group_a ?z_c_is_group_l ?z_c_is_group_c ?z_c_is_group_k ?z_c_is_pile_a ?z_c_is_pile_l ?z_c_is_pile_c ?z_c_is_pile_k ?z_c_names_of_a ?z_c_names_of_l ?z_c_names_of_c ?z_c_names_of_k ?z_c_check_divisors_a ?z_c_check_divisors_l ?z_c_check_divisors_c ?z_c_check_divisors_k ?z_c_check_parties_a ?z_c_check_parties_l ?z_c_check_parties_c ?z_c_check_parties_k ?z_c_check_piles_a ?z_c_check_piles_l ?z_c_check_piles_c ?z_c_check_piles_k ?z_c_text_of_a ?z_c_text_of_l ?z_c_text_of_c ?z_c_text_of_k ?z_c_number_in_a ?z_c_number_in_l ?z_c_number_in_c ?z_c_number_in_k ?z_c_parts_in_a ?z_c_parts_in_l ?z_c_parts_in_c ?z_c_parts_in_k ?z_c_counts_of_a ?z_c_counts_of_l ?z_c_counts_of_c ?z_c_counts_of_k ?z_c_scale_of_a ?z_c_scale_of_l ?z_c_scale_of_c ?z_c_scale_of_k ?z_c_units_of_a ?z_c_units_of_l ?z_c_units_of_c ?z_c_units_of_k ?z_c_claims_of_a ?z_c_claims_of_l ?z_c_claims_of_c ?z_c_claims_of_k ?z_c_claim_at_a ?z_c_claim_at_l ?z_c_claim_at_c ?z_c_claim_at_k ?z_c_seats_above_a ?z_c_seats_above_l ?z_c_seats_above_c ?z_c_seats_above_k ?z_c_seats_from_a ?z_c_seats_from_l ?z_c_seats_from_c ?z_c_seats_from_k ?z_c_tables_within_a ?z_c_tables_within_l ?z_c_tables_within_c ?z_c_tables_within_k ?z_c_tables_made_a ?z_c_tables_made_l ?z_c_tables_made_c ?z_c_tables_made_k ?z_c_check_night_a ?z_c_check_night_l ?z_c_check_night_c ?z_c_check_night_k ?z_c_results_a ?z_c_results_l ?z_c_results_c ?z_c_results_k ?z_c_is_row_a ?z_c_is_row_l ?z_c_is_row_c ?z_c_is_row_k ?z_c_is_table_a ?z_c_is_table_l ?z_c_is_table_c ?z_c_is_table_k ?z_c_check_table_a ?z_c_check_table_l ?z_c_check_table_c ?z_c_check_table_k ?z_c_is_below_a ?z_c_is_below_l ?z_c_is_below_c ?z_c_is_below_k ?z_c_price_bounds_a ?z_c_price_bounds_l ?z_c_price_bounds_c ?z_c_price_bounds_k ?z_c_is_made_by_a ?z_c_is_made_by_l ?z_c_is_made_by_c ?z_c_is_made_by_k ?z_c_is_result_a ?z_c_is_result_l ?z_c_is_result_c ?z_c_is_result_k ?z_c_fraction_a ?z_c_fraction_l ?z_c_fraction_c ?z_c_fraction_k ?z_c_prices_a ?z_c_prices_l ?z_c_prices_c ?z_c_prices_k ?z_c_law_begun_a ?z_c_law_begun_l ?z_c_law_begun_c ?z_c_law_begun_k ?z_c_law_cast_a ?z_c_law_cast_l ?z_c_law_cast_c ?z_c_law_cast_k ?z_c_law_any_of_a ?z_c_law_any_of_l ?z_c_law_any_of_c ?z_c_law_any_of_k ?z_c_law_tags_a ?z_c_law_tags_l ?z_c_law_tags_c ?z_c_law_tags_k ?z_c_law_rising_a ?z_c_law_rising_l ?z_c_law_rising_c ?z_c_law_rising_k ?z_c_law_amount_a ?z_c_law_amount_l ?z_c_law_amount_c ?z_c_law_amount_k ?z_c_law_heap_a ?z_c_law_heap_l ?z_c_law_heap_c ?z_c_law_heap_k ?z_c_law_sheet_a ?z_c_law_sheet_l ?z_c_law_sheet_c ?z_c_law_sheet_k ?z_c_law_of_a ?z_c_law_of_l ?z_c_law_of_c ?z_c_law_of_k ?z_c_law_built_a ?z_c_law_built_l ?z_c_law_built_c ?z_c_law_built_k ?z_c_law_small_a ?z_c_law_small_l ?z_c_law_small_c ?z_c_law_small_k ?z_c_law_parts_a ?z_c_law_parts_l ?z_c_law_parts_c ?z_c_law_parts_k ?z_c_law_is_whole_a ?z_c_law_is_whole_l ?z_c_law_is_whole_c ?z_c_law_is_whole_k ?z_c_law_thing_a ?z_c_law_thing_l ?z_c_law_thing_c ?z_c_law_thing_k ?z_c_law_bent_a ?z_c_law_bent_l ?z_c_law_bent_c ?z_c_law_bent_k ?z_c_law_sort_a ?z_c_law_sort_l ?z_c_law_sort_c ?z_c_law_sort_k ?z_c_law_answer_a ?z_c_law_answer_l ?z_c_law_answer_c ?z_c_law_answer_k ?z_c_law_is_lot_a ?z_c_law_is_lot_l ?z_c_law_is_lot_c ?z_c_law_is_lot_k ?z_c_law_some_a ?z_c_law_some_l ?z_c_law_some_c ?z_c_law_some_k ?z_c_law_right_a ?z_c_law_right_l ?z_c_law_right_c ?z_c_law_right_k ?z_c_law_a ?z_c_law_l ?z_c_law_c ?z_c_law_k
    (case z_aC => k_is)
    (case z_pg => k_is)
    (case z_hd => k_is)
    (case z_po => k_is)
    (case z_sa => k_is)
    (case z_no_divisors => k_is)
    (case z_no_parties => k_is)
    (case z_no_piles => k_is)
    (case z_no_text => k_is)
    (case z_ini_m => k_is)
    (case z_ini_a => k_is)
    (case z_ini_i => k_is)
    (case z_ini_k => k_is)
    (case z_ini_l => k_is)
    (case z_ini_c => k_is)
    (case z_ini_T => k_is)
    (case z_ini_E => k_is)
    (case z_divisors_a => k_is)
    (case z_divisors_g => k_is)
    (case z_divisors_t => k_is)
    (case z_divisors_r => k_is)
    (case z_divisors_l => k_is)
    (case z_divisors_c => k_is)
    (case z_parties_a => k_is)
    (case z_parties_g => k_is)
    (case z_parties_t => k_is)
    (case z_parties_r => k_is)
    (case z_parties_l => k_is)
    (case z_parties_c => k_is)
    (case z_piles_a => k_is)
    (case z_piles_g => k_is)
    (case z_piles_t => k_is)
    (case z_piles_r => k_is)
    (case z_piles_l => k_is)
    (case z_piles_c => k_is)
    (case z_seats_a => k_is)
    (case z_seats_g => k_is)
    (case z_seats_t => k_is)
    (case z_seats_r => k_is)
    (case z_seats_l => k_is)
    (case z_seats_c => k_is)
    (case z_lenO_a => k_is)
    (case z_lenO_i => k_is)
    (case z_lenO_l => k_is)
    (case z_lenO_c => k_is)
    (case z_strO_a => k_is)
    (case z_strO_i => k_is)
    (case z_strO_l => k_is)
    (case z_strO_c => k_is)
    (case z_eq_dnNoneType => k_is)
    (case z_eq_dnbool => k_is)
    (case z_eq_dnint => k_is)
    (case z_eq_dnstr => k_is)
    (case z_eq_dntuple => k_is)
    (case z_eq_dnlist => k_is)
    (case z_eq_dndict => k_is)
    (case z_is_ha => k_is)
    (case z_is_hn => k_is)
    (case z_is_ht => k_is)
    (case z_is_hm => k_is)
    (case z_is_c => k_is)
    (case z_is_t => k_is)
    (case z_noBool => k_is)
    (case z_rd => k_is)
    (case z_ga => k_is)
    (case z_read_a => k_is)
    (case z_read_r => k_is)
    (case z_read_f => k_is)
    (case z_read_l => k_is)
    (case z_read_c => k_is)
    (case z_e_BadValue_a => k_is)
    (case z_e_BadName_a => k_is)
    (case z_e_NoAnswer_a => k_is)
    (case z_e_InvalidTable_a => k_is)
    (case z_e_InvalidTable_L => k_is)
    (case z_e_InvalidTable_sa => k_is)
    (case z_e_InvalidTable_ex => k_is)
    (case z_e_InvalidTable_ty => k_is)
    (case z_e_InvalidTable_kC => k_is)
    (case z_e_InvalidTable_no => k_is)
    (case z_e_InvalidTable_i => k_is)
    (case z_e_InvalidTable_it => k_is)
    (case z_e_InvalidTable_l => k_is)
    (case z_e_InvalidTable_c => k_is)
    (case z_e_InvalidTable_k => k_is)
    (case z_e_NotANight_a => k_is)
    (case z_e_NotANight_L => k_is)
    (case z_e_NotANight_sa => k_is)
    (case z_e_NotANight_ex => k_is)
    (case z_e_NotANight_ty => k_is)
    (case z_e_NotANight_kC => k_is)
    (case z_e_NotANight_no => k_is)
    (case z_e_NotANight_i => k_is)
    (case z_e_NotANight_it => k_is)
    (case z_e_NotANight_l => k_is)
    (case z_e_NotANight_c => k_is)
    (case z_e_NotANight_k => k_is)
    (case z_h_InvalidTable_c => k_is)
    (case z_h_InvalidTable_c2 => k_is)
    (case z_h_InvalidTable_ga => k_is)
    (case z_h_InvalidTable_gg => k_is)
    (case z_h_InvalidTable_cl => k_is)
    (case z_h_InvalidTable_mr => k_is)
    (case z_h_NotANight_c => k_is)
    (case z_h_NotANight_c2 => k_is)
    (case z_h_NotANight_ga => k_is)
    (case z_h_NotANight_gg => k_is)
    (case z_h_NotANight_cl => k_is)
    (case z_h_NotANight_mr => k_is)
    (case z_h_sp => k_is)
    (case z_h_tk => k_is)
    (case z_kt_InvalidTable_BadValue => first | kit_is | kts_exm)
    (case z_kt_InvalidTable_BadName => first | kit_is | kts_exm)
    (case z_kt_InvalidTable_NoAnswer => first | kit_is | kts_exm)
    (case z_kt_InvalidTable_ValueError => first | kit_is | kts_exm)
    (case z_kt_InvalidTable_LookupError => first | kit_is | kts_exm)
    (case z_kt_InvalidTable_ArithmeticError => first | kit_is | kts_exm)
    (case z_kt_InvalidTable_InvalidTable => first | kit_is | kts_exm)
    (case z_kt_InvalidTable_NotANight => first | kit_is | kts_exm)
    (case z_kt_NotANight_BadValue => first | kit_is | kts_exm)
    (case z_kt_NotANight_BadName => first | kit_is | kts_exm)
    (case z_kt_NotANight_NoAnswer => first | kit_is | kts_exm)
    (case z_kt_NotANight_ValueError => first | kit_is | kts_exm)
    (case z_kt_NotANight_LookupError => first | kit_is | kts_exm)
    (case z_kt_NotANight_ArithmeticError => first | kit_is | kts_exm)
    (case z_kt_NotANight_NotANight => first | kit_is | kts_exm)
    (case z_kt_NotANight_InvalidTable => first | kit_is | kts_exm)
    (case z_x_cT => first | kit_is | kts_exm)
    (case z_x_cY => first | kit_is | kts_exm)
    (case z_b_len => k_is)
    (case z_b_isinstance => k_is)
    (case z_b_int => k_is)
    (case z_b_bool => k_is)
    (case z_b_str => k_is)
    (case z_b_tuple => k_is)
    (case z_b_list => k_is)
    (case z_b_all => k_is)
    (case z_b_sum => k_is)
    (case z_b_min => k_is)
    (case z_b_max => k_is)
    (case z_b_abs => k_is)
    (case z_b_range => k_is)
    (case z_b_enumerate => k_is)
    (case z_b_zip => k_is)
    (case z_b_repr => k_is)
    (case z_b_divmod => k_is)
    (case z_b_ValueError => k_is)
    (case z_b_LookupError => k_is)
    (case z_b_ArithmeticError => k_is)
    (case z_b_sorted => k_is)
    (case z_i_gcd => k_is)
    (case z_i_lcm => k_is)
    (case z_g_MOST_LETTERS => k_is)
    (case z_g_MOST_SEATS => k_is)
    (case z_g_MOST_DIVISOR => k_is)
    (case z_g_MOST_COUNT => k_is)
    (case z_g_MOST_PARTIES => k_is)
    (case z_g_MOST_PILES => k_is)
    (case z_g_MOST_DIGITS => k_is)
    (case z_tu_ZERO => k_is)
    (case z_tl_ZERO => k_is)
    (case z_g_LETTERS => k_is)
    (case z_g_LETTERS_AND_DIGITS => k_is)
    (case z_tb_c_law_right => first | k_is | rfl)
    (case z_to_c_law_right => first | k_is | rfl)
    (case z_c_is_integer_a => k_is)
    (case z_c_is_integer_l => k_is)
    (case z_c_is_integer_c => k_is)
    (case z_c_is_integer_k => k_is)
    (case z_c_is_between_a => k_is)
    (case z_c_is_between_l => k_is)
    (case z_c_is_between_c => k_is)
    (case z_c_is_between_k => k_is)
    (case z_c_is_tuple_of_a => k_is)
    (case z_c_is_tuple_of_l => k_is)
    (case z_c_is_tuple_of_c => k_is)
    (case z_c_is_tuple_of_k => k_is)
    (case z_c_is_name_a => k_is)
    (case z_c_is_name_l => k_is)
    (case z_c_is_name_c => k_is)
    (case z_c_is_name_k => k_is)
    (case z_c_is_divisors_a => k_is)
    (case z_c_is_divisors_l => k_is)
    (case z_c_is_divisors_c => k_is)
    (case z_c_is_divisors_k => k_is)
    (case z_c_is_party_a => k_is)
    (case z_c_is_party_l => k_is)
    (case z_c_is_party_c => k_is)
    (case z_c_is_party_k => k_is)
    (case z_c_is_group_a => k_is)
    (case z_c_is_group_l => k_is)
    (case z_c_is_group_c => k_is)
    (case z_c_is_group_k => k_is)
    (case z_c_is_pile_a => k_is)
    (case z_c_is_pile_l => k_is)
    (case z_c_is_pile_c => k_is)
    (case z_c_is_pile_k => k_is)
    (case z_c_names_of_a => k_is)
    (case z_c_names_of_l => k_is)
    (case z_c_names_of_c => k_is)
    (case z_c_names_of_k => k_is)
    (case z_c_check_divisors_a => k_is)
    (case z_c_check_divisors_l => k_is)
    (case z_c_check_divisors_c => k_is)
    (case z_c_check_divisors_k => k_is)
    (case z_c_check_parties_a => k_is)
    (case z_c_check_parties_l => k_is)
    (case z_c_check_parties_c => k_is)
    (case z_c_check_parties_k => k_is)
    (case z_c_check_piles_a => k_is)
    (case z_c_check_piles_l => k_is)
    (case z_c_check_piles_c => k_is)
    (case z_c_check_piles_k => k_is)
    (case z_c_text_of_a => k_is)
    (case z_c_text_of_l => k_is)
    (case z_c_text_of_c => k_is)
    (case z_c_text_of_k => k_is)
    (case z_c_number_in_a => k_is)
    (case z_c_number_in_l => k_is)
    (case z_c_number_in_c => k_is)
    (case z_c_number_in_k => k_is)
    (case z_c_parts_in_a => k_is)
    (case z_c_parts_in_l => k_is)
    (case z_c_parts_in_c => k_is)
    (case z_c_parts_in_k => k_is)
    (case z_c_counts_of_a => k_is)
    (case z_c_counts_of_l => k_is)
    (case z_c_counts_of_c => k_is)
    (case z_c_counts_of_k => k_is)
    (case z_c_scale_of_a => k_is)
    (case z_c_scale_of_l => k_is)
    (case z_c_scale_of_c => k_is)
    (case z_c_scale_of_k => k_is)
    (case z_c_units_of_a => k_is)
    (case z_c_units_of_l => k_is)
    (case z_c_units_of_c => k_is)
    (case z_c_units_of_k => k_is)
    (case z_c_claims_of_a => k_is)
    (case z_c_claims_of_l => k_is)
    (case z_c_claims_of_c => k_is)
    (case z_c_claims_of_k => k_is)
    (case z_c_claim_at_a => k_is)
    (case z_c_claim_at_l => k_is)
    (case z_c_claim_at_c => k_is)
    (case z_c_claim_at_k => k_is)
    (case z_c_seats_above_a => k_is)
    (case z_c_seats_above_l => k_is)
    (case z_c_seats_above_c => k_is)
    (case z_c_seats_above_k => k_is)
    (case z_c_seats_from_a => k_is)
    (case z_c_seats_from_l => k_is)
    (case z_c_seats_from_c => k_is)
    (case z_c_seats_from_k => k_is)
    (case z_c_tables_within_a => k_is)
    (case z_c_tables_within_l => k_is)
    (case z_c_tables_within_c => k_is)
    (case z_c_tables_within_k => k_is)
    (case z_c_tables_made_a => k_is)
    (case z_c_tables_made_l => k_is)
    (case z_c_tables_made_c => k_is)
    (case z_c_tables_made_k => k_is)
    (case z_c_check_night_a => k_is)
    (case z_c_check_night_l => k_is)
    (case z_c_check_night_c => k_is)
    (case z_c_check_night_k => k_is)
    (case z_c_results_a => k_is)
    (case z_c_results_l => k_is)
    (case z_c_results_c => k_is)
    (case z_c_results_k => k_is)
    (case z_c_is_row_a => k_is)
    (case z_c_is_row_l => k_is)
    (case z_c_is_row_c => k_is)
    (case z_c_is_row_k => k_is)
    (case z_c_is_table_a => k_is)
    (case z_c_is_table_l => k_is)
    (case z_c_is_table_c => k_is)
    (case z_c_is_table_k => k_is)
    (case z_c_check_table_a => k_is)
    (case z_c_check_table_l => k_is)
    (case z_c_check_table_c => k_is)
    (case z_c_check_table_k => k_is)
    (case z_c_is_below_a => k_is)
    (case z_c_is_below_l => k_is)
    (case z_c_is_below_c => k_is)
    (case z_c_is_below_k => k_is)
    (case z_c_price_bounds_a => k_is)
    (case z_c_price_bounds_l => k_is)
    (case z_c_price_bounds_c => k_is)
    (case z_c_price_bounds_k => k_is)
    (case z_c_is_made_by_a => k_is)
    (case z_c_is_made_by_l => k_is)
    (case z_c_is_made_by_c => k_is)
    (case z_c_is_made_by_k => k_is)
    (case z_c_is_result_a => k_is)
    (case z_c_is_result_l => k_is)
    (case z_c_is_result_c => k_is)
    (case z_c_is_result_k => k_is)
    (case z_c_fraction_a => k_is)
    (case z_c_fraction_l => k_is)
    (case z_c_fraction_c => k_is)
    (case z_c_fraction_k => k_is)
    (case z_c_prices_a => k_is)
    (case z_c_prices_l => k_is)
    (case z_c_prices_c => k_is)
    (case z_c_prices_k => k_is)
    (case z_c_law_begun_a => k_is)
    (case z_c_law_begun_l => k_is)
    (case z_c_law_begun_c => k_is)
    (case z_c_law_begun_k => k_is)
    (case z_c_law_cast_a => k_is)
    (case z_c_law_cast_l => k_is)
    (case z_c_law_cast_c => k_is)
    (case z_c_law_cast_k => k_is)
    (case z_c_law_any_of_a => k_is)
    (case z_c_law_any_of_l => k_is)
    (case z_c_law_any_of_c => k_is)
    (case z_c_law_any_of_k => k_is)
    (case z_c_law_tags_a => k_is)
    (case z_c_law_tags_l => k_is)
    (case z_c_law_tags_c => k_is)
    (case z_c_law_tags_k => k_is)
    (case z_c_law_rising_a => k_is)
    (case z_c_law_rising_l => k_is)
    (case z_c_law_rising_c => k_is)
    (case z_c_law_rising_k => k_is)
    (case z_c_law_amount_a => k_is)
    (case z_c_law_amount_l => k_is)
    (case z_c_law_amount_c => k_is)
    (case z_c_law_amount_k => k_is)
    (case z_c_law_heap_a => k_is)
    (case z_c_law_heap_l => k_is)
    (case z_c_law_heap_c => k_is)
    (case z_c_law_heap_k => k_is)
    (case z_c_law_sheet_a => k_is)
    (case z_c_law_sheet_l => k_is)
    (case z_c_law_sheet_c => k_is)
    (case z_c_law_sheet_k => k_is)
    (case z_c_law_of_a => k_is)
    (case z_c_law_of_l => k_is)
    (case z_c_law_of_c => k_is)
    (case z_c_law_of_k => k_is)
    (case z_c_law_built_a => k_is)
    (case z_c_law_built_l => k_is)
    (case z_c_law_built_c => k_is)
    (case z_c_law_built_k => k_is)
    (case z_c_law_small_a => k_is)
    (case z_c_law_small_l => k_is)
    (case z_c_law_small_c => k_is)
    (case z_c_law_small_k => k_is)
    (case z_c_law_parts_a => k_is)
    (case z_c_law_parts_l => k_is)
    (case z_c_law_parts_c => k_is)
    (case z_c_law_parts_k => k_is)
    (case z_c_law_is_whole_a => k_is)
    (case z_c_law_is_whole_l => k_is)
    (case z_c_law_is_whole_c => k_is)
    (case z_c_law_is_whole_k => k_is)
    (case z_c_law_thing_a => k_is)
    (case z_c_law_thing_l => k_is)
    (case z_c_law_thing_c => k_is)
    (case z_c_law_thing_k => k_is)
    (case z_c_law_bent_a => k_is)
    (case z_c_law_bent_l => k_is)
    (case z_c_law_bent_c => k_is)
    (case z_c_law_bent_k => k_is)
    (case z_c_law_sort_a => k_is)
    (case z_c_law_sort_l => k_is)
    (case z_c_law_sort_c => k_is)
    (case z_c_law_sort_k => k_is)
    (case z_c_law_answer_a => k_is)
    (case z_c_law_answer_l => k_is)
    (case z_c_law_answer_c => k_is)
    (case z_c_law_answer_k => k_is)
    (case z_c_law_is_lot_a => k_is)
    (case z_c_law_is_lot_l => k_is)
    (case z_c_law_is_lot_c => k_is)
    (case z_c_law_is_lot_k => k_is)
    (case z_c_law_some_a => k_is)
    (case z_c_law_some_l => k_is)
    (case z_c_law_some_c => k_is)
    (case z_c_law_some_k => k_is)
    (case z_c_law_right_a => k_is)
    (case z_c_law_right_l => k_is)
    (case z_c_law_right_c => k_is)
    (case z_c_law_right_k => k_is)
    (case z_c_law_a => k_is)
    (case z_c_law_l => k_is)
    (case z_c_law_c => k_is)
    (case z_c_law_k => k_is)
