import PyProof.Rows.All
import Wide.All
import OpenK.AllK
import Wide.FinOn
import HandS.ForMost
import HandS.ForExc
import HandS.Walk
import HandS.Zip
import HandS.TupAny
import HandS.IsInst
import HandS.Defaults
import HandS.MakeKw
import HandS.Property
import HandS.FStr
import HandS.Wide
import HandS.WideBits
import HandS.EndBits
import HandS.StrMore
import HandS.TryOnly
import HandS.ClsMeth
import HandS.RaiseMore
import KE.KCallOwn
import PyProof.Draws
import PyProof.ReprReads
import PyProof.ReprRoads
import PyProof.ReprLen
import HandS.Lambda
import KE.KDictKeyed
import KE.KeyNested
import HandS.ExcInit
import HandS.HotCalls
import KE.KExcIs
import HandS.ExcField
import KE.KTryMore
import HandS.SetFor
import PyProof.FactsAll.tuple_1
import PyProof.FactsAll.list_1
import PyProof.FactsAll.dict_1
import PyProof.FactsAll.str_1
import PyProof.FactsAll.int_1
import PyProof.FactsAll.bool_1
import PyProof.FactsAll.NoneType_1
import PyProof.InstEq
import HandS.OwnEq
import HandS.Dict
import HandS.Style
import HandS.ExcCtx
import HandS.ExcInitHot
import HandS.RaiseFrom
import HandS.SuiteRaise
import HandS.EndTab
import KE.KNest
import PyProof.NeKinds
import PyProof.FactsAll.tuple_2
import KE.KEqNest
import HandS.Conv
import PyProof.FactsAll.list_2
import HandS.Strs
import HandS.TupMul
import HandS.Gcd
import HandS.SortKw
import HandS.Deep
import HandS.List
import HandS.TupSets
import HandS.DictComp
import PyProof.DictRoadsH
import KE.GoesZip
import PyProof.Rows.SortShellK
import HandS.Flow
import PySem.Challenge.RW_restballots_k38_known_nights
set_option Elab.async false
set_option linter.all false
set_option maxRecDepth 100000
set_option maxHeartbeats 4000000
/-! DL0: what the layer lacks: enumerate of a tuple, a walk over whatever it is, repr of data. -/
namespace DL
open PySem PySem.Spec L2
open PyProof.Rows hiding St
section
variable {prog : Program} {w : World} {A : Around} {E : Value → Shared → Prop} {s : Shared}
theorem drawsT (hh : A.handled = none) {cur home : Addr} (apart : home ≠ cur) (its : Array Value) :
    Draws prog w A cur [cur, home] its.size (fun k u => its[k]? = some u) (fun k hp => hp.IsTupleIter cur home k ∧ hp.IsTuple home its) where
  live := fun _ _ q => let ⟨ob, e, _⟩ := q.1; ⟨ob, e⟩
  frame := fun _ _ _ q keep => ⟨q.1.at fun ob e => keep cur (by simp) ob e, q.2.at fun ob e => keep home (by simp) ob e⟩
  item := fun k s Q E lt q fin => by
    refine RZ.nextOf_tuple_item q.1 q.2 (x := its[k]) (by simp [lt]) fun hp2 c2 same => ?_
    exact fin _ hp2 s.toks (by simp [lt]) ⟨c2, q.2.extBut same.extBut apart⟩ same
  done := fun s Q E q fin => RZ.nextOf_tuple_end hh q.1 q.2 (by simp) fin
theorem meetsT (home : Addr) (its : Array Value) (n : Nat) (dd : Option Addr) (sl : Array (Option Value)) :
    Meets (Builtin.«enumerate.__new__» ⟨[.type "enumerate", .ref home], []⟩) (fun _ R s => s.heap.get? home = some { cls := .type "tuple", dict := dd, data := .seq its n, slots := sl } ∧
      R (.ok (.ret (.ref (s.heap.push { cls := .type "tuple_iterator", data := .fields #[.ref home, .int 0 0] }).objs.size)))
        { s with heap := (s.heap.push { cls := .type "tuple_iterator", data := .fields #[.ref home, .int 0 0] }).push { cls := .type "enumerate", data := .fields #[.none, .bool false, .ref s.heap.objs.size, rawInt 0, .none, .none] } }) :=
  .of_wp fun prog w A R s at_home => by
    obtain ⟨hp, gs, dr, tk, os⟩ := s; obtain ⟨at_home, fin⟩ := at_home
    have sub := sub_enumerate
    have isT : Heap.IsTuple (Shared.heap ⟨hp, gs, dr, tk, os⟩) home its := ⟨_, at_home, rfl, n, rfl⟩
    wp_walk using AutoSeq1.wpAny_loadPart' at_home
    refine wpAny_stack_any fun st => wpAny_pure ?_
    split
    · rename_i c _ _ _ _ _
      cases (c == Value.type "enumerate")
      · wp_walk using AutoSeq1.wpAny_loadPart' at_home, wpAny_pyIter_tuple isT
        exact ⟨_, rfl, fin⟩
      · wp_walk using AutoSeq1.wpAny_loadPart' at_home, wpAny_pyIter_tuple isT
        exact ⟨_, rfl, fin⟩
    · wp_walk using AutoSeq1.wpAny_loadPart' at_home, wpAny_pyIter_tuple isT
      exact ⟨_, rfl, fin⟩
theorem call_enumT {home : Addr} {its : Array Value} {Q : Value → Shared → Prop} (isT : s.heap.IsTuple home its)
    (fin : ∀ hp2, IsEnum hp2 (s.heap.objs.size + 1) s.heap.objs.size 0 .none → hp2.IsTupleIter s.heap.objs.size home 0 → hp2.objs.size = s.heap.objs.size + 2 →
      (∀ b ob, s.heap.get? b = some ob → hp2.get? b = some ob) → Q (.ref (s.heap.objs.size + 1)) { s with heap := hp2 }) :
    wpAny (model prog w) A (call (.type "enumerate") [.ref home]) Q E s := by
  obtain ⟨⟨cl, dd, dt, sl⟩, at_home, hcl, n, hdt⟩ := isT
  have hcl' : cl = .type "tuple" := hcl
  have hdt' : dt = .seq its n := hdt
  subst hcl' hdt'
  refine callType_new F.called_enumerate (by decide) (F.typeCall_enumerate_1 _) (F.newCall_enumerate_1 _) (fun ob => F.args_object_init_2 ob _) F.entry_enumerate_new (meetsT home its n dd sl) ⟨at_home, ?_⟩
  have sz : (s.heap.push { cls := .type "tuple_iterator", data := .fields #[.ref home, .int 0 0] }).objs.size = s.heap.objs.size + 1 := Heap.size_push ..
  show _ ∧ _
  rw [sz]
  have en : IsEnum ((s.heap.push { cls := .type "tuple_iterator", data := .fields #[.ref home, .int 0 0] }).push
      { cls := .type "enumerate", data := .fields #[.none, .bool false, .ref s.heap.objs.size, rawInt 0, .none, .none] }) (s.heap.objs.size + 1) s.heap.objs.size 0 .none := by
    have q := Heap.get?_push_size (s.heap.push { cls := .type "tuple_iterator", data := .fields #[.ref home, .int 0 0] })
      (o := { cls := .type "enumerate", data := .fields #[.none, .bool false, .ref s.heap.objs.size, rawInt 0, .none, .none] }) rfl
    rw [sz] at q; exact q
  refine ⟨⟨_, en, rfl⟩, fin _ en ⟨_, Heap.get?_push_of_some _ (Heap.get?_push_size _ rfl), rfl, rfl⟩ (by rw [Heap.size_push, sz]) fun b ob x => Heap.get?_push_of_some _ (Heap.get?_push_of_some _ x)⟩
end
/-- the items of the tuple at a, numbered -/
def IteT (K : PySem.W.Frag) (a : Addr) : It :=
  ⟨fun k H => ∃ xs x, SqT K H a xs ∧ xs[k]? = some x, fun k H v H' => ∃ T x, v = .ref T ∧ H T = none ∧ H' = upd H T (.tup [.int (k : Nat), x]) ∧ ∀ xs, SqT K H a xs → xs[k]? = some x, fun k H => ∃ xs, SqT K H a xs ∧ xs.length = k⟩
theorem turn_enumT {P : Program} {w : World} {K : PySem.W.Frag} {elts : List Expr} {kk : Nat} {tpos : Pos} (a en cur : Addr) (hac : a ≠ cur) (hae : a ≠ en) :
    Turn P w K (.Tuple elts kk tpos) (IteT K a) [en, cur] en (fun k hp => (∃ old, IsEnum hp en cur ((k : Nat) : Int) old) ∧ hp.IsTupleIter cur a k ∧ en ≠ cur) where
  mem := by simp
  obj := fun k hp st b hb => by
    obtain ⟨⟨old, e1⟩, ⟨ob, e2, _, d2⟩, _⟩ := st
    rcases (show b = en ∨ b = cur by simpa using hb) with z | z
    · subst z; exact ⟨_, e1, fun v q => nomatch q⟩
    · subst z; exact ⟨ob, e2, fun v q => by rw [d2] at q; cases q⟩
  keep := fun k hp hp2 st keep => by
    obtain ⟨⟨old, e1⟩, e2, ne⟩ := st
    exact ⟨⟨old, keep en (by simp) _ e1⟩, e2.at fun ob q => keep cur (by simp) ob q, ne⟩
  item := by
    intro X hP hw hK hc k pins s σ H E I hf st hg
    subst hP hw hK
    obtain ⟨⟨old, e1⟩, e2, ne⟩ := st
    obtain ⟨xs, x, hs, hx⟩ := hg
    obtain ⟨its, rv, tp, _⟩ := I.tuple hs
    obtain ⟨u, hu, ru⟩ := rv.get hx
    have lt1 : en < s.heap.objs.size := Heap.lt_size e1
    have lt2 : cur < s.heap.objs.size := by obtain ⟨_, q, _⟩ := e2; exact Heap.lt_size q
    have hk : k < its.toArray.size := by simpa using (List.getElem?_eq_some_iff.mp hu).1
    refine wpAny_pyNext_enum_itemD (drawsT (A := X.A.in1) (I.ok.hd hc) hac its.toArray) e1 ⟨e2, tp⟩ hk ne (by simp [ne, hae.symm]) fun y hp2 tk hy out st2 hT sz keep => ?_
    have hy' : y = u := by
      have z : its.toArray[k]? = some u := by simpa using hu
      rw [z] at hy
      exact (Option.some.inj hy).symm
    subst hy'
    refine ⟨_, rfl, wpAny_letOwnedTupleGo_enum (s := { s with heap := hp2, toks := tk + 1 }) out fun hp3 e3 same => ?_⟩
    have hT2 : hp3.get? s.heap.objs.size = some { cls := .type "tuple", data := .seq #[.int k tk, y] } := (same.2 _ (Nat.ne_of_gt lt1)).trans hT
    have new : ObjOk X.prog X.w (upd H s.heap.objs.size (.tup [.int (k : Nat), x])) hp3 s.heap.objs.size (.tup [.int (k : Nat), x]) :=
      ⟨(show 2 ≤ sizeLine by decide), [.int k tk, y], .cons ⟨_, rfl⟩ (.cons ru .nil), ⟨_, hT2, rfl, _, rfl⟩⟩
    have J : Inv X pins σ (upd H s.heap.objs.size (.tup [.int (k : Nat), x])) { s with heap := hp3, toks := tk + 1 } :=
      I.turnedNew (ch := [en, cur]) (fun b ob hb q => (same.2 b (fun z => hb (by simp [z]))).trans (keep b ob (fun z => hb (by simp [z])) (fun z => hb (by simp [z])) q)) hf (Nat.le_refl _) new
    refine ⟨.ref s.heap.objs.size, _, J, rfl, ⟨_, x, rfl, I.hok.fresh (Nat.le_refl _), rfl, fun ys hy => by rw [I.tuple_inj hy hs]; exact hx⟩, ⟨⟨y, ?_⟩, st2.1.at fun ob q => (same.2 cur (Ne.symm ne)).trans q, ne⟩, fun b hb => ?_⟩
    · have q : ((k + 1 : Nat) : Int) = (k : Int) + 1 := by omega
      rw [q]; exact e3
    · have lt : b < s.heap.objs.size := by
        rcases (show b = en ∨ b = cur by simpa using hb) with z | z
        · subst z; exact lt1
        · subst z; exact lt2
      rw [upd_ne (Nat.ne_of_lt lt)]
      exact (hf b hb).1
  done := by
    intro X hP hw hK hc k pins s σ H E I hf st hg
    subst hP hw hK
    obtain ⟨⟨old, e1⟩, e2, ne⟩ := st
    obtain ⟨xs, hs, hx⟩ := hg
    obtain ⟨its, rv, tp, _⟩ := I.tuple hs
    obtain ⟨f0, f1, f2, f3, f4, f5⟩ := hf cur (by simp)
    have hl : its.toArray.size = k := by rw [List.size_toArray, ← rv.length]; exact hx
    subst hl
    exact wpAny_pyNext_enum_endD (drawsT (A := X.A.in1) (I.ok.hd hc) hac its.toArray) e1 ⟨e2, tp⟩ fun hp2 eb => ⟨rfl, I.turned (t' := s.toks) (fun b ob hb q => eb b ob hb q) f0 f1 f3 f4 f5⟩
  self := fun A k s Q E st fin => let ⟨⟨_, e1⟩, _⟩ := st; wpAny_pyIter_enum e1 fin
section
variable {X : Cx} {tg : Expr}
/-- enumerate(tuple) -/
def iEnumT (K : PySem.W.Frag) (ta : TA) : TI := fun σ H R => ta σ H fun vs H1 => ∃ a xs, vs = [.ref a] ∧ SqT K H1 a xs ∧ R (IteT K a) H1
theorem pi_enumT {e : Expr} {ta : TA} {p pos tpos : Pos} {elts : List Expr} {kk : Nat} (hg : Gl X "enumerate") (hm : X.mg "enumerate" = none) (ha : PA X [e] ta) (hs : starEach [e] X.env = [(false, eval e X.env)] := by rfl) :
    PI X (.Tuple elts kk tpos) (.Call (.Name "enumerate" p) [e] [] pos) (iEnumT X.K ta) := by
  refine ⟨fun pins s σ H R I h => Call_ (ld_blt I hg hm PyProof.Rows.boot_enumerate (PyProof.Rows.callWith_type1 (thn (ha.run pos pins s σ H _ I h) fun us s1 ⟨vs, H1, J, rs, q⟩ => ?_) hs rfl))⟩
  obtain ⟨a, xs, ev, hq, q⟩ := q
  subst ev
  cases rs with
  | cons r0 rr =>
    cases rr
    cases r0
    obtain ⟨its, rv, tp, _⟩ := J.tuple hq
    obtain ⟨ob, at_a, _⟩ := id tp
    have lt := Heap.lt_size at_a
    refine call_enumT (show s1.heap.IsTuple a its.toArray from tp) fun hp2 e1 e2 sz keep => wpAny_pyIter_enum e1 ?_
    have J2 : Inv X pins σ H1 { s1 with heap := hp2 } := J.kept (t' := s1.toks) keep
    refine ⟨s1.heap.objs.size + 1, [s1.heap.objs.size + 1, s1.heap.objs.size], _, _, H1, rfl, J2, turn_enumT a (s1.heap.objs.size + 1) s1.heap.objs.size (Nat.ne_of_lt lt) (Nat.ne_of_lt (Nat.lt_succ_of_lt lt)), ⟨⟨.none, e1⟩, e2, Nat.succ_ne_self _⟩, fun b hb => ?_, q⟩
    have le : s1.heap.objs.size ≤ b := by
      rcases (show b = s1.heap.objs.size + 1 ∨ b = s1.heap.objs.size by simpa using hb) with z | z
      · subst z; exact Nat.le_add_right _ _
      · subst z; exact Nat.le_refl _
    exact J.fpOk le (J.hok.fresh le)
/-- a list, a tuple, a text: whatever it is -/
def iAny (K : PySem.W.Frag) (te : TE) : TI := fun σ H R => te σ H fun x H1 => (∃ a, x = .ref a ∧ (∃ xs, SqL K H1 a xs) ∧ R (Itl K a) H1) ∨ (∃ a, x = .ref a ∧ (∃ xs, SqT K H1 a xs) ∧ R (Itt K a) H1) ∨ ∃ z, x = .str z ∧ R (Its z) H1
theorem pi_any {e : Expr} {te : TE} (he : PE X e te) : PI X tg e (iAny X.K te) := by
  refine ⟨fun pins s σ H R I h => thn (he.run pins s σ H _ I h) fun u s1 ⟨x, H1, J, r, q⟩ => ?_⟩
  rcases q with ⟨a, ex, ⟨xs, hq⟩, q⟩ | ⟨a, ex, ⟨xs, hq⟩, q⟩ | ⟨z, ex, q⟩
  · subst ex; cases r
    obtain ⟨its, rv, li, _⟩ := J.list hq
    exact wpAny_pyIter_list li.isList (pi_one (tk := s1.toks) J _ (turn_list a _) ⟨_, Heap.get?_push_size _ rfl, rfl, rfl⟩ q)
  · subst ex; cases r
    obtain ⟨its, rv, tp, _⟩ := J.tuple hq
    exact wpAny_pyIter_tuple (show s1.heap.IsTuple a its.toArray from tp) (pi_one (tk := s1.toks) J _ (turn_tuple a _) ⟨_, Heap.get?_push_size _ rfl, rfl, rfl⟩ q)
  · subst ex
    obtain ⟨t, rfl⟩ := r
    cases ascii : z.cps.all (· < 128)
    · exact wpAny_pyIter_wide ascii (pi_one (tk := s1.toks) J _ (turn_str _ z t "str_iterator" (.inr rfl)) ⟨_, Heap.get?_push_size _ rfl, rfl, rfl⟩ q)
    · exact wpAny_pyIter_ascii ascii (pi_one (tk := s1.toks) J _ (turn_str _ z t "str_ascii_iterator" (.inl rfl)) ⟨_, Heap.get?_push_size _ rfl, rfl, rfl⟩ q)
end
end DL
/-! DLg: defs that know that no repr is under way around them (so that repr of a list tells what is in it). -/
namespace DL
open PySem PySem.Spec L2
open PyProof.Rows hiding St
/-- room for k calls, no repr under way -/
structure RoomG (k : Nat) (A : Around) : Prop where
  r : Room k A
  g : A.guards = some []
theorem RoomG.mono {j k : Nat} {A : Around} (x : RoomG k A) (h : j ≤ k) : RoomG j A := ⟨x.r.mono h, x.g⟩
theorem RoomG.deeper {k : Nat} {A : Around} (x : RoomG (k + 1) A) (env : Env) : RoomG k (A.deeper env) := ⟨x.r.deeper env, x.g⟩
theorem RoomG.in1 {k : Nat} {A : Around} (x : RoomG (k + 1) A) : RoomG k A.in1 := ⟨x.r.in1, x.g⟩
theorem make_guards {A : Around} {C : Addr} {us : List Value} {kw : List (Str × Value)} : (A.under (.builtin "type.__call__" ⟨.ref C :: us, kw⟩)).guards = A.guards := by
  have h : (Code.builtin "type.__call__" ⟨.ref C :: us, kw⟩).isGuard = false := by
    show guardIds.contains "type.__call__" = false
    decide +kernel
  simp only [Around.under, Code.guards, h]
  cases A.guards <;> rfl
theorem RoomG.make {k : Nat} {A : Around} (x : RoomG (k + 1) A) (C : Addr) (us : List Value) (kw : List (Str × Value)) : RoomG k (A.under (.builtin "type.__call__" ⟨.ref C :: us, kw⟩)) :=
  ⟨x.r.make C us kw, make_guards.trans x.g⟩
abbrev CXD (P : Program) (w : World) : CXT := L2.CX P w
structure FnG (P : Program) (w : World) (K : PySem.W.Frag) (mg : Str → Option Value) (base : Heap) (k : Nat) (f : Addr) (fd : FuncData) (ps : List Str) (sp : Sp) : Prop where
  len : ∀ vs H Q E, sp vs H Q E → vs.length = ps.length
  run : ∀ (A : Around) (outer : List Env) (s : Shared) (H : Hp) (args : Args) (us : List Value) (vs : List V) (Q : VK) (E : XK), RoomG k A → Env0 P w K mg base A outer s H → BindsTo s fd args (ps.zip us) → Vals vs us → sp vs H Q E →
    codeAny (model P w) A (.call (.ref f) args) (CR (CXD P w) outer P w H s Q E) s
section
variable {P : Program} {w : World} {K : PySem.W.Frag} {mg : Str → Option Value} {base : Heap} {f : Addr} {fd : FuncData} {ps : List Str} {sp : Sp}
theorem FnG.imp {k : Nat} {sp' : Sp} (F : FnG P w K mg base k f fd ps sp) (h : ∀ vs H Q E, sp' vs H Q E → sp vs H Q E) : FnG P w K mg base k f fd ps sp' :=
  ⟨fun vs H Q E q => F.len vs H Q E (h _ _ _ _ q), fun A outer s H args us vs Q E hr he hb hv q => F.run A outer s H args us vs Q E hr he hb hv (h _ _ _ _ q)⟩
/-- a def by its body -/
theorem fnG_of {k : Nat} {name qual : Str} {params : Arguments} {body : List Stmt} {scope : Scope} {dV kV doc pm cdv ct oc : Value} {an od : Option Addr} {osl : Array (Option Value)} {N : List Str}
    (lk : K.lookup f = some ⟨oc, od, .func (PySem.W.fnOf name qual params body scope dV kV doc pm an cdv ct), osl⟩) (hcd : PySem.W.codeIn K cdv qual = true) (S : FnScope N ps scope) (len : ∀ vs H Q E, sp vs H Q E → vs.length = ps.length)
    (hbody : ∀ (A : Around) (outer : List Env) (s : Shared) (H : Hp) (vs : List V) (Q : VK) (E : XK), RoomG k (A.deeper (envOfC qual scope s.heap.objs.size f cdv)) → sp vs H Q E →
      ∃ t, PSs (cxOf (CXD P w) P w K mg base N qual scope f cdv A outer s H E) body t ∧ t { nx := fun _ H' => Q .non H', rt := Q } (start N vs) H) :
    FnG P w K mg base (k + 1) f (PySem.W.fnOf name qual params body scope dV kV doc pm an cdv ct) ps sp := by
  refine ⟨len, fun A outer s H args us vs Q E room env0 binds rel hs => ?_⟩
  have nvs := len _ _ _ _ hs
  have inK : K.In s.heap := env0.mod.kin.keeps fun b o z => (env0.bs b o z).1
  have noLim : s.heap.NoLimit := env0.mod.nolimit.keeps fun b o z => (env0.bs b o z).1
  have kinds : ∀ y ∈ ps.zip us, scope.names.lookup y.1 = some .local ∨ (scope.names.lookup y.1 = some .cell ∧ ((cellsFrom (s.heap.objs.size + 1) scope.names []).lookup y.1).isSome = true) := fun ⟨n, v⟩ hy =>
    (S.par n (List.of_mem_zip hy).1).imp id fun z => ⟨z, PySem.W.cellsFrom_some _ _ _ (.inl z)⟩
  refine codeAny_call_function room.r.depth (inK _ _ lk) rfl S.co S.gen rfl (PySem.W.codeRec_of inK hcd) (binds _ _ _ _ ?_)
  refine wpAny_newFunctionEnv_cells S.kind kinds fun env ee s1 ic => ?_
  subst ee
  refine ⟨noLim.keeps ic.toInCall.keep, codeAny_func ?_⟩
  obtain ⟨t, ht, hq⟩ := hbody A outer s H vs Q E (room.deeper _) hs
  have I : Inv (cxOf (CXD P w) P w K mg base N qual scope f cdv A outer s H E) [] (start N vs) H s1 := inv_start S room.r.hd env0 nvs rel ic
  refine wpAny_mono (ht.run [] s1 (start N vs) H _ I hq) (fun fl s2 q => ?_) fun e s2 q => q
  cases fl with
  | ret u => obtain ⟨v, σ', H', J, rv, q⟩ := q; exact ⟨v, H', J.os, J.bare, J.base, J.hok, rv, q⟩
  | next => obtain ⟨σ', H', J, q⟩ := q; exact ⟨V.non, H', J.os, J.bare, J.base, J.hok, rfl, q⟩
  | brk => exact (q.elim fun _ z => z.elim fun _ z => z.2).elim
  | cont => exact (q.elim fun _ z => z.elim fun _ z => z.2).elim
end
section
variable {X : Cx} {k : Nat} {f C : Addr} {fd : FuncData} {ps : List Str} {sp : Sp} {dvs : List V} {ds : List Value} {E : XK} {x m : Str} {p pos apos : Pos} {e o : Expr} {es : List Expr} {ta : TE} {t : TA}
theorem back_of {pins : List (Addr × Obj)} {σ : St} {H : Hp} {s : Shared} {Q : VK} (hx : Passes (CXD X.prog X.w) X E) (I : Inv X pins σ H s) : ∀ r s', CR (CXD X.prog X.w) X.stack X.prog X.w H s Q E r s' →
    (match r with | .ok (.ret v) => EP X pins σ Q v s' | .ok _ => False | .error er => X.xe er s') := fun r s' z => by
  cases r with
  | error er => exact hx pins σ H s er s' I z
  | ok fl =>
    cases fl with
    | ret u => exact I.after z
    | next => exact z
    | brk => exact z
    | cont => exact z
theorem run_fnG {pins : List (Addr × Obj)} {σ : St} {H : Hp} {s : Shared} {Q : VK} {us : List Value} {vs : List V} (F : FnG X.prog X.w X.K X.mg X.base k f fd ps sp) (room : RoomG k X.A) (hb : Binds X.K fd ps ds) (hd : Vals dvs ds) (hx : Passes (CXD X.prog X.w) X E)
    (I : Inv X pins σ H s) (r : Vals vs us) (q : sp (vs ++ dvs) H Q E) : wpAny (model X.prog X.w) X.A (call (.ref f) us) (EP X pins σ Q) X.xe s := by
  have r2 := r.append hd
  have n2 : (us ++ ds).length = ps.length := r2.length.symm.trans (F.len _ _ _ _ q)
  refine wpAny_call (codeAny_mono (F.run X.A X.stack s H ⟨us, []⟩ (us ++ ds) (vs ++ dvs) Q E room I.env0 (hb s us I.kIn n2) r2 q) fun r s' z => ?_)
  have y := back_of hx I r s' z
  cases r with
  | error er => exact y
  | ok fl => cases fl <;> exact y
theorem pe_callG (F : FnG X.prog X.w X.K X.mg X.base k f fd ps sp) (room : RoomG k X.A) (hg : Gl X x) (hm : X.mg x = some (.ref f)) (hk : PySem.W.keepIn X.K (.ref f) = true) (hb : Binds X.K fd ps ds) (hd : Vals dvs ds) (hx : Passes (CXD X.prog X.w) X E)
    (ha : PA X (e :: es) t) (hdb : (x == ("__debug__" : Str)) = false := by decide) (he : starEach (e :: es) X.env = (false, eval e X.env) :: starEach es X.env := by rfl) (hpl : (backTo pos (starEach es X.env)).any (·.1) = false := by rfl) :
    PE X (.Call (.Name x p) (e :: es) [] pos) (tCall sp dvs E t) :=
  ⟨fun pins s σ H Q I h => wpAny_Call_Name_kw (ld_glob I hg hm (PySem.W.callWith_K (h₀ := X.base) I.ok.mod.kin hk (thn (ha.run pos pins s σ H _ I h) fun us s1 ⟨vs, H1, J, r, q⟩ => ⟨J.kIn, run_fnG F room hb hd hx J r q⟩) he hpl) hdb)⟩
/-- C(..), C(.., k = v): the values as they stand in the call, then the keywords' -/
theorem run_makeG {pins : List (Addr × Obj)} {σ : St} {H : Hp} {s : Shared} {Q : VK} {us zs : List Value} {kw : List (Str × Value)} {vs : List V} (M : Mk X.K C f) (F : FnG X.prog X.w X.K X.mg X.base k f fd ps sp) (room : RoomG (k + 1) X.A)
    (hb : ∀ (s : Shared) (u : Value), X.K.In s.heap → BindsTo s fd ⟨u :: us, kw⟩ (ps.zip (u :: zs))) (hx : Passes (CXD X.prog X.w) X E) (I : Inv X pins σ H s) (r : Vals vs zs)
    (q : ∀ x dx, H x = none → H dx = none → dx ≠ x → sp (.ref x :: vs) (upd (upd H dx (.own x)) x (.ins C dx [])) (fun v H2 => v = .non ∧ Q (.ref x) H2) E) :
    wpAny (model X.prog X.w) X.A (call (.ref C) us kw) (EP X pins σ Q) X.xe s := by
  have q1 := q (s.heap.objs.size + 1) s.heap.objs.size (I.hok.fresh (Nat.le_succ _)) (I.hok.fresh (Nat.le_refl _)) (Nat.ne_of_lt (Nat.lt_succ_self _))
  have J := Inv.made (C := C) I
  have r2 : Vals (V.ref (s.heap.objs.size + 1) :: vs) (Value.ref (s.heap.objs.size + 1) :: zs) := .cons rfl r
  refine wpAny_call (make_map (f := f) I.kIn M.makes M.init (beq_iff_eq.mp M.fn) (codeAny_mono (F.run _ X.stack _ _ ⟨Value.ref (s.heap.objs.size + 1) :: us, kw⟩ (Value.ref (s.heap.objs.size + 1) :: zs) _ _ E (room.make C us kw)
    (J.env0.make C us kw) (hb _ _ J.kIn) r2 q1) fun r s' z => ?_))
  have y := back_of hx J r s' z
  cases r with
  | error er => exact y
  | ok fl =>
    cases fl with
    | ret u => obtain ⟨v, H', J2, rv, ev, q3⟩ := y; subst ev; exact ⟨rv, ⟨V.ref (s.heap.objs.size + 1), H', J2, rfl, q3⟩⟩
    | next => exact y
    | brk => exact y
    | cont => exact y
/-- o.f, a property -/
theorem pe_propG {g a : Addr} (he : PE X e ta) (c : Cls X.K C) (hp : PropOf X.K C x a g) (F : FnG X.prog X.w X.K X.mg X.base k g fd ps sp) (room : RoomG (k + 1) X.A) (hb : Binds X.K fd ps ds) (hd : Vals dvs ds) (hx : Passes (CXD X.prog X.w) X.nox E)
    (hab : attributeBase e x X.env (eval e X.env) = eval e X.env) : PE X (.Attribute e x pos) (tProp C sp dvs E ta) := by
  refine ⟨fun pins s σ H Q I h => attr_of hab (thn (he.run pins s σ H _ I h) fun u s1 ⟨y, H1, J, ry, b, dx, fs, ey, eb, q⟩ => ?_)⟩
  subst ey
  obtain rfl : u = Value.ref b := ry
  obtain ⟨mA, O, _, _, _, _⟩ := ins_get J.hok eb
  obtain ⟨od, at_b, _⟩ := O.look
  obtain ⟨rest, isRec⟩ := hp.rec_
  have J1 := J.tok (s1.toks + 1)
  have n2 : ([Value.ref b] ++ ds).length = ps.length := by
    rw [← F.len _ _ _ _ q]
    show ds.length + 1 = dvs.length + 1
    rw [hd.length]
  have isCl : (PySem.W.clsIn X.K C).isSome = true := by
    obtain ⟨cd, z, _⟩ := PySem.W.any_some c.hd
    rw [z]; rfl
  refine PySem.W.get_bind J.kIn at_b (PySem.W.plainGet_of (c.get x)).1 (PySem.W.findObj_data isCl hp.at_ hp.get hp.tak) (PySem.W.plainGet_of (c.get x)).2 (wpAny_call (PySem.W.prop_get (s := { s1 with toks := s1.toks + 1 }) J.kIn isRec ?_))
  refine codeAny_mono (F.run X.A.in1 X.stack { s1 with toks := s1.toks + 1 } H1 ⟨[.ref b], []⟩ (.ref b :: ds) (.ref b :: dvs) Q E room.in1 J1.env0.in1 (hb _ [.ref b] J1.kIn n2) (.cons rfl hd) q) fun r s2 z => ?_
  cases r with
  | error er => exact (hx pins σ H1 { s1 with toks := s1.toks + 1 } er s2 (J1.wish _) z).elim
  | ok fl =>
    cases fl with
    | ret u =>
      obtain ⟨v, H2, J2, rv, q2⟩ := J1.after z
      show wpAny _ _ (handedOut u) _ _ _
      rw [PySem.W.handedOut_of (handed_of rv)]
      exact wpAny_pure ⟨v, H2, J2, rv, q2⟩
    | next => exact z.elim
    | brk => exact z.elim
    | cont => exact z.elim
end
end DL
/-! DL: a program logic over plain data, on top of the abstract heap: values are trees of data; a def's promise speaks of trees alone. -/
namespace DL
open PySem PySem.Spec L2
open PyProof.Rows hiding St
/-- data: what a value is, whatever the addresses -/
inductive D where
  | non
  | bl (b : Bool)
  | int (i : Int)
  | str (x : Str)
  | tup (l : List D)
  | lst (l : List D)
  | dic (l : List (Str × D))
  | ins (C : Addr) (fs : List (Str × D))
  | pail
  | scr (ns : List Int)
  | raw (v : V)
  | exn (a d : Addr) (fs : List (Str × D))
  /-- a dict whose keys are ints -/
  | dik (l : List (Int × D))
  /-- a dict at p whose keys are pairs of an int and a tuple of ints -/
  | kd (P : Program) (w : World) (p : Addr) (l : List ((Int × List Int) × D))
def Ex (H H' : Hp) : Prop := ∀ a o, H a = some o → H' a = some o
theorem Ex.refl (H : Hp) : Ex H H := fun _ _ h => h
theorem Ex.trans {H H1 H2 : Hp} (x : Ex H H1) (y : Ex H1 H2) : Ex H H2 := fun a o h => y a o (x a o h)
theorem Ex.new {H : Hp} {p : Addr} {o : HO} (h : H p = none) : Ex H (upd H p o) := fun a u e => (upd_ne (ne_of_none e h)).trans e
/-- an address that H does not know may hold anything -/
theorem Ex.aside {H H' : Hp} {p : Addr} {o : HO} (x : Ex H H') (h : H p = none) : Ex H (upd H' p o) := fun a u e => (upd_ne (ne_of_none e h)).trans (x a u e)
/-- both learn of it -/
theorem Ex.both {H H' : Hp} {p : Addr} {o : HO} (x : Ex H H') : Ex (upd H p o) (upd H' p o) := fun a u e => by
  by_cases q : a = p
  · subst q; rw [upd_same] at e ⊢; exact e
  · rw [upd_ne q] at e ⊢; exact x a u e
/-- the smaller one learns what the greater one knows -/
theorem Ex.learn {H H' : Hp} {p : Addr} {o : HO} (x : Ex H H') (h : H' p = some o) : Ex (upd H p o) H' := fun a u e => by
  by_cases q : a = p
  · subst q; rw [upd_same] at e; exact h.trans e
  · rw [upd_ne q] at e; exact x a u e
theorem Ex.back {H H' : Hp} {p : Addr} (x : Ex H H') (h : H' p = none) : H p = none := by
  cases q : H p with
  | none => rfl
  | some o => rw [x p o q] at h; cases h
/-- a list that draws numbers: three ints, the first one not below 0, the second one small -/
def PB (i j : Int) : Prop := 0 ≤ i ∧ 0 ≤ j ∧ j < 2147483648
def PailP (a : Addr) : HO := .ext fun h => ∃ (i j k : Int) (t u v : Tok) (n : Nat), PB i j ∧ h.get? a = some { cls := .type "list", data := .seq #[.int i t, .int j u, .int k v] n }
abbrev Ky := Int × List Int
def kyN (k : Ky) : NestedKey := .tup [.num k.1, .tup (k.2.map .num)]
/-- a dict with such keys, as its object alone tells it: each key with the place of its tuple, and the place of its value -/
def KdO (P : Program) (w : World) (d : Addr) (xs : List (Ky × Addr × Addr)) : HO := .ext fun h => (d == sysModules) = false ∧ ∃ o es ep, h.get? d = some o ∧ o.ExactDict ∧ o.data = .dict es ep ∧ es.toList = (xs.map fun x => (kyN x.1, x.2.1, Value.ref x.2.2)).map (entryOfKey (nestedKind P w)) ∧ (xs.map (·.1)).Nodup
/-- the tuple of such a key -/
def KyAt (K : PySem.W.Frag) (H : Hp) (k : Ky) (a : Addr) : Prop := ∃ a2, SqT K H a [V.int k.1, V.ref a2] ∧ SqT K H a2 (k.2.map V.int)
mutual
inductive Rep (K : PySem.W.Frag) (H : Hp) : V → D → Prop
  | non : Rep K H .non .non
  | bl (b : Bool) : Rep K H (.bl b) (.bl b)
  | int (i : Int) : Rep K H (.int i) (.int i)
  | str (x : Str) : Rep K H (.str x) (.str x)
  | tup {a : Addr} {xs : List V} {ds : List D} : SqT K H a xs → RepAll K H xs ds → Rep K H (.ref a) (.tup ds)
  | lst {a : Addr} {xs : List V} {ds : List D} : H a = some (.lst xs) → RepAll K H xs ds → Rep K H (.ref a) (.lst ds)
  | dic {a : Addr} {xs : List (Str × V)} {ds : List (Str × D)} : H a = some (.dK (xs.map fun p => (Sum.inr p.1, p.2))) → RepKV K H xs ds → Rep K H (.ref a) (.dic ds)
  | ins {a C dx : Addr} {xs : List (Str × V)} {ds : List (Str × D)} : H a = some (.ins C dx xs) → RepKV K H xs ds → Rep K H (.ref a) (.ins C ds)
  | pail {a : Addr} : H a = some (PailP a) → Rep K H (.ref a) .pail
  | scr {a : Addr} {ns : List Int} : SqL K H a (ns.map V.int) → Rep K H (.ref a) (.scr ns)
  | raw (v : V) : Rep K H v (.raw v)
  | exn {a d : Addr} {xs : List (Str × V)} {ds : List (Str × D)} : H d = some (.xd xs) → RepKV K H xs ds → Rep K H (.ref a) (.exn a d ds)
  | dik {a : Addr} {xs : List (Int × V)} {ds : List (Int × D)} : H a = some (.dK (xs.map fun p => (Sum.inl p.1, p.2))) → RepIV K H xs ds → Rep K H (.ref a) (.dik ds)
  | kd {P : Program} {w : World} {a p : Addr} {xs : List (Ky × Addr × Addr)} {ds : List (Ky × D)} : H a = some (KdO P w p xs) → RepNV K H xs ds → Rep K H (.ref a) (.kd P w p ds)
inductive RepAll (K : PySem.W.Frag) (H : Hp) : List V → List D → Prop
  | nil : RepAll K H [] []
  | cons {v : V} {vs : List V} {d : D} {ds : List D} : Rep K H v d → RepAll K H vs ds → RepAll K H (v :: vs) (d :: ds)
inductive RepKV (K : PySem.W.Frag) (H : Hp) : List (Str × V) → List (Str × D) → Prop
  | nil : RepKV K H [] []
  | cons {k : Str} {v : V} {vs : List (Str × V)} {d : D} {ds : List (Str × D)} : Rep K H v d → RepKV K H vs ds → RepKV K H ((k, v) :: vs) ((k, d) :: ds)
inductive RepIV (K : PySem.W.Frag) (H : Hp) : List (Int × V) → List (Int × D) → Prop
  | nil : RepIV K H [] []
  | cons {k : Int} {v : V} {vs : List (Int × V)} {d : D} {ds : List (Int × D)} : Rep K H v d → RepIV K H vs ds → RepIV K H ((k, v) :: vs) ((k, d) :: ds)
inductive RepNV (K : PySem.W.Frag) (H : Hp) : List (Ky × Addr × Addr) → List (Ky × D) → Prop
  | nil : RepNV K H [] []
  | cons {k : Ky} {a b : Addr} {vs : List (Ky × Addr × Addr)} {d : D} {ds : List (Ky × D)} : KyAt K H k a → Rep K H (.ref b) d → RepNV K H vs ds → RepNV K H ((k, a, b) :: vs) ((k, d) :: ds)
end
theorem sqL_ex {K : PySem.W.Frag} {H H' : Hp} {a : Addr} {xs : List V} (e : Ex H H') (h : SqL K H a xs) : SqL K H' a xs := by
  rcases h with (h | ⟨o, h⟩) | h
  · exact .inl (.inl (e _ _ h))
  · exact .inl (.inr ⟨o, e _ _ h⟩)
  · exact .inr h
theorem sqT_ex {K : PySem.W.Frag} {H H' : Hp} {a : Addr} {xs : List V} (e : Ex H H') (h : SqT K H a xs) : SqT K H' a xs := by
  rcases h with (h | ⟨o, h⟩) | h
  · exact .inl (.inl (e _ _ h))
  · exact .inl (.inr ⟨o, e _ _ h⟩)
  · exact .inr h
theorem kyAt_ex {K : PySem.W.Frag} {H H' : Hp} {k : Ky} {a : Addr} (e : Ex H H') (h : KyAt K H k a) : KyAt K H' k a := let ⟨a2, h1, h2⟩ := h; ⟨a2, sqT_ex e h1, sqT_ex e h2⟩
section
variable {K : PySem.W.Frag} {H H' : Hp}
mutual
theorem Rep.mono (e : Ex H H') : ∀ {v : V} {d : D}, Rep K H v d → Rep K H' v d
  | _, _, .non => .non
  | _, _, .bl b => .bl b
  | _, _, .int i => .int i
  | _, _, .str x => .str x
  | _, _, .tup h hs => .tup (sqT_ex e h) (RepAll.mono e hs)
  | _, _, .lst h hs => .lst (e _ _ h) (RepAll.mono e hs)
  | _, _, .dic h hs => .dic (e _ _ h) (RepKV.mono e hs)
  | _, _, .ins h hs => .ins (e _ _ h) (RepKV.mono e hs)
  | _, _, .pail h => .pail (e _ _ h)
  | _, _, .scr h => .scr (sqL_ex e h)
  | _, _, .raw v => .raw v
  | _, _, .exn h hs => .exn (e _ _ h) (RepKV.mono e hs)
  | _, _, .dik h hs => .dik (e _ _ h) (RepIV.mono e hs)
  | _, _, .kd h hs => .kd (e _ _ h) (RepNV.mono e hs)
theorem RepAll.mono (e : Ex H H') : ∀ {vs : List V} {ds : List D}, RepAll K H vs ds → RepAll K H' vs ds
  | _, _, .nil => .nil
  | _, _, .cons h hs => .cons (Rep.mono e h) (RepAll.mono e hs)
theorem RepKV.mono (e : Ex H H') : ∀ {vs : List (Str × V)} {ds : List (Str × D)}, RepKV K H vs ds → RepKV K H' vs ds
  | _, _, .nil => .nil
  | _, _, .cons h hs => .cons (Rep.mono e h) (RepKV.mono e hs)
theorem RepIV.mono (e : Ex H H') : ∀ {vs : List (Int × V)} {ds : List (Int × D)}, RepIV K H vs ds → RepIV K H' vs ds
  | _, _, .nil => .nil
  | _, _, .cons h hs => .cons (Rep.mono e h) (RepIV.mono e hs)
theorem RepNV.mono (e : Ex H H') : ∀ {vs : List (Ky × Addr × Addr)} {ds : List (Ky × D)}, RepNV K H vs ds → RepNV K H' vs ds
  | _, _, .nil => .nil
  | _, _, .cons hk h hs => .cons (kyAt_ex e hk) (Rep.mono e h) (RepNV.mono e hs)
end
theorem RepAll.length : ∀ {vs : List V} {ds : List D}, RepAll K H vs ds → vs.length = ds.length
  | _, _, .nil => rfl
  | _, _, .cons _ h => by simp [h.length]
theorem RepAll.append : ∀ {vs ws : List V} {ds es : List D}, RepAll K H vs ds → RepAll K H ws es → RepAll K H (vs ++ ws) (ds ++ es)
  | _, _, _, _, .nil, h => h
  | _, _, _, _, .cons h hs, h' => .cons h (hs.append h')
theorem RepAll.get : ∀ {vs : List V} {ds : List D} {i : Nat} {d : D}, RepAll K H vs ds → ds[i]? = some d → ∃ v, vs[i]? = some v ∧ Rep K H v d
  | _, _, _, _, .nil, e => by simp at e
  | _, _, 0, _, .cons h _, e => by simp at e; subst e; exact ⟨_, rfl, h⟩
  | _, _, i + 1, d, .cons _ hs, e => by
    obtain ⟨v, h1, h2⟩ := hs.get (i := i) (d := d) (by simpa using e)
    exact ⟨v, by simpa using h1, h2⟩
theorem RepAll.getV : ∀ {vs : List V} {ds : List D} {i : Nat} {v : V}, RepAll K H vs ds → vs[i]? = some v → ∃ d, ds[i]? = some d ∧ Rep K H v d
  | _, _, _, _, .nil, e => by simp at e
  | _, _, 0, _, .cons h _, e => by simp at e; subst e; exact ⟨_, rfl, h⟩
  | _, _, i + 1, v, .cons _ hs, e => by
    obtain ⟨d, h1, h2⟩ := hs.getV (i := i) (v := v) (by simpa using e)
    exact ⟨d, by simpa using h1, h2⟩
theorem RepAll.take : ∀ {vs : List V} {ds : List D} (n : Nat), RepAll K H vs ds → RepAll K H (vs.take n) (ds.take n)
  | _, _, 0, _ => .nil
  | _, _, _ + 1, .nil => .nil
  | _, _, n + 1, .cons h hs => .cons h (hs.take n)
theorem RepAll.drop : ∀ {vs : List V} {ds : List D} (n : Nat), RepAll K H vs ds → RepAll K H (vs.drop n) (ds.drop n)
  | _, _, 0, h => h
  | _, _, _ + 1, .nil => .nil
  | _, _, n + 1, .cons _ hs => hs.drop n
theorem RepAll.ints : ∀ (ns : List Int), RepAll K H (ns.map V.int) (ns.map D.int)
  | [] => .nil
  | _ :: ns => .cons (.int _) (RepAll.ints ns)
theorem RepAll.ofInts : ∀ {vs : List V} {ns : List Int}, RepAll K H vs (ns.map D.int) → vs = ns.map V.int
  | _, [], .nil => rfl
  | _, _ :: ns, .cons (.int _) hs => by rw [List.map_cons, RepAll.ofInts hs]
theorem RepAll.ofStrs : ∀ {vs : List V} {ns : List Str}, RepAll K H vs (ns.map D.str) → vs = ns.map V.str
  | _, [], .nil => rfl
  | _, _ :: ns, .cons (.str _) hs => by rw [List.map_cons, RepAll.ofStrs hs]
theorem RepAll.ofBools : ∀ {vs : List V} {ns : List Bool}, RepAll K H vs (ns.map D.bl) → vs = ns.map V.bl
  | _, [], .nil => rfl
  | _, _ :: ns, .cons (.bl _) hs => by rw [List.map_cons, RepAll.ofBools hs]
theorem RepKV.lookup : ∀ {vs : List (Str × V)} {ds : List (Str × D)} {f : Str} {d : D}, RepKV K H vs ds → ds.lookup f = some d → ∃ v, vs.lookup f = some v ∧ Rep K H v d
  | _, _, _, _, .nil, e => by simp at e
  | _, _, f, d, .cons (k := k) h hs, e => by
    rw [List.lookup_cons] at e
    cases q : f == k with
    | true => rw [q] at e; cases e; exact ⟨_, by rw [List.lookup_cons, q], h⟩
    | false =>
      rw [q] at e
      obtain ⟨v, h1, h2⟩ := hs.lookup e
      exact ⟨v, by rw [List.lookup_cons, q]; exact h1, h2⟩
theorem RepKV.noKey : ∀ {vs : List (Str × V)} {ds : List (Str × D)} {f : Str}, RepKV K H vs ds → ds.lookup f = none → vs.lookup f = none
  | _, _, _, .nil, _ => rfl
  | _, _, f, .cons (k := k) h hs, e => by
    rw [List.lookup_cons] at e ⊢
    cases q : f == k with
    | true => rw [q] at e; cases e
    | false => rw [q] at e; exact hs.noKey e
theorem RepKV.length : ∀ {vs : List (Str × V)} {ds : List (Str × D)}, RepKV K H vs ds → vs.length = ds.length
  | _, _, .nil => rfl
  | _, _, .cons _ h => by simp [h.length]
end
/-! ### slots and heaps -/
inductive Sl where
  /-- data that is never changed again -/
  | dat (d : D)
  /-- a list, a dict, an object of the def's own, which nobody else knows: it may change -/
  | own (t : Option Addr) (d : D)
abbrev Env' := List (Option Sl)
/-- what stands at an address, as data -/
inductive RepO (K : PySem.W.Frag) (H : Hp) : HO → D → Prop
  | lst {xs : List V} {ds : List D} : RepAll K H xs ds → RepO K H (.lst xs) (.lst ds)
  | dic {xs : List (Str × V)} {ds : List (Str × D)} : RepKV K H xs ds → RepO K H (.dK (xs.map fun p => (Sum.inr p.1, p.2))) (.dic ds)
  | ins {C dx : Addr} {xs : List (Str × V)} {ds : List (Str × D)} : RepKV K H xs ds → RepO K H (.ins C dx xs) (.ins C ds)
  | dik {xs : List (Int × V)} {ds : List (Int × D)} : RepIV K H xs ds → RepO K H (.dK (xs.map fun p => (Sum.inl p.1, p.2))) (.dik ds)
  | kd {P : Program} {w : World} {p : Addr} {xs : List (Ky × Addr × Addr)} {ds : List (Ky × D)} : RepNV K H xs ds → RepO K H (KdO P w p xs) (.kd P w p ds)
theorem RepO.mono {K : PySem.W.Frag} {H H' : Hp} (e : Ex H H') : ∀ {o : HO} {d : D}, RepO K H o d → RepO K H' o d
  | _, _, .lst h => .lst (h.mono e)
  | _, _, .dic h => .dic (h.mono e)
  | _, _, .ins h => .ins (h.mono e)
  | _, _, .dik h => .dik (h.mono e)
  | _, _, .kd h => .kd (h.mono e)
theorem RepO.rep {K : PySem.W.Frag} {H : Hp} {p : Addr} (hp : H p = none) : ∀ {o : HO} {d : D}, RepO K H o d → Rep K (upd H p o) (.ref p) d
  | _, _, .lst h => .lst upd_same (h.mono (Ex.new hp))
  | _, _, .dic h => .dic upd_same (h.mono (Ex.new hp))
  | _, _, .ins h => .ins upd_same (h.mono (Ex.new hp))
  | _, _, .dik h => .dik upd_same (h.mono (Ex.new hp))
  | _, _, .kd h => .kd upd_same (h.mono (Ex.new hp))
/-- the entry: the heap, and the part of it that promises speak of -/
structure Ctx where
  He : Hp
  H0 : Hp
  /-- tables of code objects, which may grow -/
  T : List (Addr × Str)
/-- what is known stays; tables may grow, if T says so -/
def ExN (T : List (Addr × Str)) (H H' : Hp) : Prop := ∀ a o, H a = some o → H' a = some o ∨ (T ≠ [] ∧ ∃ ps ps', o = .tbl ps ∧ H' a = some (.tbl ps'))
section
variable {T : List (Addr × Str)} {H H' H2 : Hp} {p : Addr} {o : HO}
theorem ExN.of (x : Ex H H') : ExN T H H' := fun a u e => .inl (x a u e)
theorem ExN.ex (x : ExN [] H H') : Ex H H' := fun a u e => (x a u e).elim id fun z => absurd rfl z.1
theorem ExN.refl : ExN T H H := fun _ _ e => .inl e
theorem ExN.trans (x : ExN T H H') (y : ExN T H' H2) : ExN T H H2 := fun a u e => by
  rcases x a u e with q | ⟨n, ps, ps', e1, q⟩
  · exact y a u q
  · rcases y a _ q with z | ⟨_, qs, qs', e2, z⟩
    · exact .inr ⟨n, ps, ps', e1, z⟩
    · exact .inr ⟨n, ps, qs', e1, z⟩
theorem ExN.some' (x : ExN T H H') (h : H p ≠ none) : H' p ≠ none := by
  cases q : H p with
  | none => exact absurd q h
  | some u =>
    rcases x p u q with z | ⟨_, _, _, _, z⟩ <;> rw [z] <;> exact fun z => by cases z
theorem ExN.back (x : ExN T H H') (h : H' p = none) : H p = none := by
  cases q : H p with
  | none => rfl
  | some u => exact absurd h (x.some' (by rw [q]; exact fun z => by cases z))
theorem ExN.aside (x : ExN T H H') (h : H p = none) : ExN T H (upd H' p o) := fun a u e => by
  rw [upd_ne (ne_of_none e h)]
  exact x a u e
end
structure PX (c : Ctx) (H0 H : Hp) : Prop where
  e : ExN c.T c.He H
  e0 : Ex c.H0 H0
  i : Ex H0 H
  n : ∀ p, c.He p ≠ none → c.H0 p = none → H0 p = none
theorem PX.refl {T : List (Addr × Str)} {H0 H : Hp} (i : Ex H0 H) : PX ⟨H, H0, T⟩ H0 H := ⟨.refl, .refl _, i, fun _ _ h => h⟩
theorem PX.ex {He Hz H0 H : Hp} (x : PX ⟨He, Hz, []⟩ H0 H) : Ex He H := x.e.ex
theorem PX.trans {c : Ctx} {H0 H H0' H' : Hp} (x : PX c H0 H) (y : PX ⟨H, H0, []⟩ H0' H') : PX c H0' H' :=
  ⟨x.e.trans (.of y.ex), x.e0.trans y.e0, y.i, fun p h1 h2 => y.n p (x.e.some' h1) (x.n p h1 h2)⟩
theorem PX.transT {c : Ctx} {H0 H H0' H' : Hp} (x : PX c H0 H) (y : PX ⟨H, H0, c.T⟩ H0' H') : PX c H0' H' :=
  ⟨x.e.trans y.e, x.e0.trans y.e0, y.i, fun p h1 h2 => y.n p (x.e.some' h1) (x.n p h1 h2)⟩
/-- the heap stays, the part learns of a thing that was new to the entry -/
theorem PX.learn {c : Ctx} {H0 H : Hp} {p : Addr} {o : HO} (x : PX c H0 H) (h : H p = some o) (h0 : H0 p = none) (hc : c.He p = none) : PX c (upd H0 p o) H :=
  ⟨x.e, fun a u e => (upd_ne (ne_of_none (x.e0 a u e) h0)).trans (x.e0 a u e), x.i.learn h, fun q h1 h2 => by
    by_cases e : q = p
    · subst e; exact absurd hc h1
    · rw [upd_ne e]; exact x.n q h1 h2⟩
/-- a new thing that both know -/
theorem PX.new {c : Ctx} {H0 H : Hp} {p : Addr} {o : HO} (x : PX c H0 H) (h : H p = none) : PX c (upd H0 p o) (upd H p o) :=
  ⟨x.e.aside (x.e.back h), x.e0.aside (x.e0.back (x.i.back h)), x.i.both, fun q h1 h2 => by
    by_cases e : q = p
    · subst e; exact absurd (x.e.back h) h1
    · rw [upd_ne e]; exact x.n q h1 h2⟩
/-- a thing that the part does not know, and that the entry did not know, changes -/
theorem PX.change {c : Ctx} {H0 H : Hp} {p : Addr} {o : HO} (x : PX c H0 H) (h0 : H0 p = none) (hc : c.He p = none) : PX c H0 (upd H p o) :=
  ⟨x.e.aside hc, x.e0, x.i.aside h0, x.n⟩
inductive Slots (K : PySem.W.Frag) (H0 H : Hp) : Env' → St → List Addr → Prop
  | nil : Slots K H0 H [] [] []
  | skip {ρ : Env'} {σ : St} {os : List Addr} {x : Option V} : Slots K H0 H ρ σ os → Slots K H0 H (none :: ρ) (x :: σ) os
  | dat {ρ : Env'} {σ : St} {os : List Addr} {v : V} {d : D} : Rep K H0 v d → Slots K H0 H ρ σ os → Slots K H0 H (some (.dat d) :: ρ) (some v :: σ) os
  | own {ρ : Env'} {σ : St} {os : List Addr} {p : Addr} {o : HO} {t : Option Addr} {d : D} : (∀ q, t = some q → p = q) → H p = some o → RepO K H0 o d → Slots K H0 H ρ σ os → Slots K H0 H (some (.own t d) :: ρ) (some (.ref p) :: σ) (p :: os)
section
variable {K : PySem.W.Frag} {H0 H H0' H' : Hp}
/-- the part grows, the lists of one's own stay -/
theorem Slots.mono (e0 : Ex H0 H0') : ∀ {ρ : Env'} {σ : St} {os : List Addr}, Slots K H0 H ρ σ os → (∀ p ∈ os, H' p = H p) → Slots K H0' H' ρ σ os
  | _, _, _, .nil, _ => .nil
  | _, _, _, .skip h, k => .skip (h.mono e0 k)
  | _, _, _, .dat r h, k => .dat (r.mono e0) (h.mono e0 k)
  | _, _, _, .own ht hp r h, k => .own ht ((k _ List.mem_cons_self).trans hp) (r.mono e0) (h.mono e0 fun p hp => k p (List.mem_cons_of_mem _ hp))
theorem Slots.get : ∀ {ρ : Env'} {σ : St} {os : List Addr} {i : Nat} {d : D}, Slots K H0 H ρ σ os → ρ[i]? = some (some (.dat d)) → ∃ v, σ[i]? = some (some v) ∧ Rep K H0 v d
  | _, _, _, _, _, .nil, e => by simp at e
  | _, _, _, 0, _, .skip h, e => by simp at e
  | _, _, _, i + 1, d, .skip h, e => by obtain ⟨v, h1, h2⟩ := h.get (i := i) (d := d) (by simpa using e); exact ⟨v, by simpa using h1, h2⟩
  | _, _, _, 0, d, .dat r h, e => by simp at e; subst e; exact ⟨_, rfl, r⟩
  | _, _, _, i + 1, d, .dat r h, e => by obtain ⟨v, h1, h2⟩ := h.get (i := i) (d := d) (by simpa using e); exact ⟨v, by simpa using h1, h2⟩
  | _, _, _, 0, d, .own _ _ _ h, e => by simp at e
  | _, _, _, i + 1, d, .own _ _ _ h, e => by obtain ⟨v, h1, h2⟩ := h.get (i := i) (d := d) (by simpa using e); exact ⟨v, by simpa using h1, h2⟩
theorem Slots.getOwn : ∀ {ρ : Env'} {σ : St} {os : List Addr} {i : Nat} {t : Option Addr} {d : D}, Slots K H0 H ρ σ os → ρ[i]? = some (some (.own t d)) → ∃ p o, σ[i]? = some (some (.ref p)) ∧ p ∈ os ∧ (∀ q, t = some q → p = q) ∧ H p = some o ∧ RepO K H0 o d
  | _, _, _, _, _, _, .nil, e => by simp at e
  | _, _, _, 0, _, _, .skip h, e => by simp at e
  | _, _, _, i + 1, t, d, .skip h, e => by obtain ⟨p, o, h1, h2⟩ := h.getOwn (i := i) (t := t) (d := d) (by simpa using e); exact ⟨p, o, by simpa using h1, h2⟩
  | _, _, _, 0, t, d, .dat r h, e => by simp at e
  | _, _, _, i + 1, t, d, .dat r h, e => by obtain ⟨p, o, h1, h2⟩ := h.getOwn (i := i) (t := t) (d := d) (by simpa using e); exact ⟨p, o, by simpa using h1, h2⟩
  | _, _, _, 0, t, d, .own ht hp r h, e => by simp at e; obtain ⟨rfl, rfl⟩ := e; exact ⟨_, _, rfl, List.mem_cons_self, ht, hp, r⟩
  | _, _, _, i + 1, t, d, .own _ _ _ h, e => by obtain ⟨p, o, h1, hm, h2⟩ := h.getOwn (i := i) (t := t) (d := d) (by simpa using e); exact ⟨p, o, by simpa using h1, List.mem_cons_of_mem _ hm, h2⟩
/-- a slot is given a value -/
theorem Slots.setDat {v : V} {d : D} (r : Rep K H0 v d) : ∀ {ρ : Env'} {σ : St} {os : List Addr} (i : Nat), Slots K H0 H ρ σ os → ∃ os', Slots K H0 H (ρ.set i (some (.dat d))) (σ.set i (some v)) os' ∧ os'.Sublist os
  | _, _, _, _, .nil => ⟨[], .nil, .slnil⟩
  | _, _, _, 0, .skip h => ⟨_, .dat r h, .refl _⟩
  | _, _, _, i + 1, .skip h => let ⟨os', h1, h2⟩ := h.setDat r i; ⟨os', .skip h1, h2⟩
  | _, _, _, 0, .dat _ h => ⟨_, .dat r h, .refl _⟩
  | _, _, _, i + 1, .dat r' h => let ⟨os', h1, h2⟩ := h.setDat r i; ⟨os', .dat r' h1, h2⟩
  | _, _, _, 0, .own _ _ _ h => ⟨_, .dat r h, List.sublist_cons_self _ _⟩
  | _, _, _, i + 1, .own ht hp r' h => let ⟨os', h1, h2⟩ := h.setDat r i; ⟨_ :: os', .own ht hp r' h1, .cons_cons _ h2⟩
/-- .. a list of its own -/
theorem Slots.setOwn {p : Addr} {o : HO} {t : Option Addr} {ds : D} (ht : ∀ q, t = some q → p = q) (hp : H p = some o) (r : RepO K H0 o ds) : ∀ {ρ : Env'} {σ : St} {os : List Addr} (i : Nat), Slots K H0 H ρ σ os → ∃ os', Slots K H0 H (ρ.set i (some (.own t ds))) (σ.set i (some (.ref p))) os' ∧ (∀ q ∈ os', q = p ∨ q ∈ os) ∧ (os.Nodup → p ∉ os → os'.Nodup)
  | _, _, _, _, .nil => ⟨[], .nil, fun _ h => (by cases h), fun _ _ => List.nodup_nil⟩
  | _, _, _, 0, .skip h => ⟨_, .own ht hp r h, fun q hq => List.mem_cons.mp hq, fun n m => List.nodup_cons.mpr ⟨m, n⟩⟩
  | _, _, _, i + 1, .skip h => let ⟨os', h1, h2, h3⟩ := h.setOwn ht hp r i; ⟨os', .skip h1, h2, h3⟩
  | _, _, _, 0, .dat _ h => ⟨_, .own ht hp r h, fun q hq => List.mem_cons.mp hq, fun n m => List.nodup_cons.mpr ⟨m, n⟩⟩
  | _, _, _, i + 1, .dat r' h => let ⟨os', h1, h2, h3⟩ := h.setOwn ht hp r i; ⟨os', .dat r' h1, h2, h3⟩
  | _, _, _, 0, .own _ _ _ h => ⟨_, .own ht hp r h, fun q hq => (List.mem_cons.mp hq).imp id (List.mem_cons_of_mem _), fun n m => List.nodup_cons.mpr ⟨fun z => m (List.mem_cons_of_mem _ z), (List.nodup_cons.mp n).2⟩⟩
  | _, _, _, i + 1, .own (p := p') ht' hp' r' h => let ⟨os', h1, h2, h3⟩ := h.setOwn ht hp r i; ⟨p' :: os', .own ht' hp' r' h1, fun q hq => (List.mem_cons.mp hq).elim (fun e => .inr (e ▸ List.mem_cons_self)) fun m => (h2 q m).imp id (List.mem_cons_of_mem _),
      fun n m => List.nodup_cons.mpr ⟨fun z => (h2 p' z).elim (fun e => m (e ▸ List.mem_cons_self)) (List.nodup_cons.mp n).1, h3 (List.nodup_cons.mp n).2 fun z => m (List.mem_cons_of_mem _ z)⟩⟩
/-- the list of one's own in slot i has changed -/
theorem Slots.turn {p : Addr} {o : HO} {t : Option Addr} {ds ds' : D} (r : RepO K H0 o ds') : ∀ {ρ : Env'} {σ : St} {os : List Addr} {i : Nat}, Slots K H0 H ρ σ os → os.Nodup → ρ[i]? = some (some (.own t ds)) → σ[i]? = some (some (.ref p)) →
    Slots K H0 (upd H p o) (ρ.set i (some (.own t ds'))) σ os
  | _, _, _, _, .nil, _, e, _ => by simp at e
  | _, _, _, 0, .skip h, _, e, _ => by simp at e
  | _, _, _, i + 1, .skip h, n, e, e2 => .skip (h.turn r n (by simpa using e) (by simpa using e2))
  | _, _, _, 0, .dat _ h, _, e, _ => by simp at e
  | _, _, _, i + 1, .dat r' h, n, e, e2 => .dat r' (h.turn r n (by simpa using e) (by simpa using e2))
  | _, _, _, 0, .own ht hp _ h, n, e, e2 => by
    simp at e e2; subst e2; obtain ⟨rfl, rfl⟩ := e
    exact .own ht upd_same r (h.mono (.refl _) fun q hq => upd_ne fun z => (List.nodup_cons.mp n).1 (z ▸ hq))
  | _, _, _, i + 1, .own (p := p') ht hp r' h, n, e, e2 => by
    have e' := e
    have e2' := e2
    rw [List.getElem?_cons_succ] at e' e2'
    obtain ⟨q, ws, h1, hm, _⟩ := h.getOwn e'
    rw [e2'] at h1
    cases h1
    have hne : p' ≠ p := fun z => (List.nodup_cons.mp n).1 (by rw [z]; exact hm)
    exact .own ht ((upd_ne hne).trans hp) r' (h.turn r (List.nodup_cons.mp n).2 e' e2')
theorem Slots.known : ∀ {ρ : Env'} {σ : St} {os : List Addr}, Slots K H0 H ρ σ os → ∀ p ∈ os, H p ≠ none
  | _, _, _, .nil, _, h => by cases h
  | _, _, _, .skip h, p, m => h.known p m
  | _, _, _, .dat _ h, p, m => h.known p m
  | _, _, _, .own _ hp _ h, p, m => by
    rcases List.mem_cons.mp m with e | m
    · subst e; rw [hp]; exact fun z => by cases z
    · exact h.known p m
theorem Slots.ownAt : ∀ {ρ : Env'} {σ : St} {os : List Addr}, Slots K H0 H ρ σ os → ∀ p ∈ os, ∃ (t : D) (o : HO) (d : D), H p = some o ∧ RepO K H0 o d
  | _, _, _, .nil, _, h => by cases h
  | _, _, _, .skip h, p, m => h.ownAt p m
  | _, _, _, .dat _ h, p, m => h.ownAt p m
  | _, _, _, .own (d := d) _ hp r h, p, m => by
    rcases List.mem_cons.mp m with e | m
    · subst e; exact ⟨d, _, _, hp, r⟩
    · exact h.ownAt p m
/-- the list of one's own in slot i is given away: it will not change any more -/
theorem Slots.freeze {p : Addr} {o : HO} {t : Option Addr} {d : D} (h0 : H0 p = none) (r : RepO K H0 o d) : ∀ {ρ : Env'} {σ : St} {os : List Addr} {i : Nat}, Slots K H0 H ρ σ os → os.Nodup → ρ[i]? = some (some (.own t d)) → σ[i]? = some (some (.ref p)) →
    ∃ os', Slots K (upd H0 p o) H (ρ.set i (some (.dat d))) σ os' ∧ os'.Sublist os ∧ p ∉ os'
  | _, _, _, _, .nil, _, e, _ => by simp at e
  | _, _, _, 0, .skip h, _, e, _ => by simp at e
  | _, _, _, i + 1, .skip h, n, e, e2 => let ⟨os', h1, h2, h3⟩ := h.freeze h0 r n (by simpa using e) (by simpa using e2); ⟨os', .skip h1, h2, h3⟩
  | _, _, _, 0, .dat _ h, _, e, _ => by simp at e
  | _, _, _, i + 1, .dat r' h, n, e, e2 => let ⟨os', h1, h2, h3⟩ := h.freeze h0 r n (by simpa using e) (by simpa using e2); ⟨os', .dat (r'.mono (Ex.new h0)) h1, h2, h3⟩
  | _, _, _, 0, .own _ hp _ h, n, e, e2 => by
    simp at e2; subst e2
    exact ⟨_, .dat (r.rep h0) (h.mono (Ex.new h0) fun _ _ => rfl), List.sublist_cons_self _ _, (List.nodup_cons.mp n).1⟩
  | _, _, _, i + 1, .own (p := p') ht hp r' h, n, e, e2 => by
    have e' := e
    have e2' := e2
    rw [List.getElem?_cons_succ] at e' e2'
    obtain ⟨q, ws, h1, hm, _⟩ := h.getOwn e'
    rw [e2'] at h1
    cases h1
    obtain ⟨os', g1, g2, g3⟩ := h.freeze h0 r (List.nodup_cons.mp n).2 e' e2'
    exact ⟨p' :: os', .own ht hp (r'.mono (Ex.new h0)) g1, .cons_cons _ g2, fun z => (List.mem_cons.mp z).elim (fun q => (List.nodup_cons.mp n).1 (by rw [← q]; exact hm)) g3⟩
/-- what is one's own is hidden -/
def hide : Env' → Env' := fun ρ => ρ.map fun x => match x with | some (.own _ _) => none | y => y
theorem Slots.hide : ∀ {ρ : Env'} {σ : St} {os : List Addr}, Slots K H0 H ρ σ os → Slots K H0 H (DL.hide ρ) σ []
  | _, _, _, .nil => .nil
  | _, _, _, .skip h => .skip h.hide
  | _, _, _, .dat r h => .dat r h.hide
  | _, _, _, .own _ _ _ h => .skip h.hide
end
/-- the tables that may grow stand there, out of the promises' reach -/
def TabA (T : List (Addr × Str)) (H0 H : Hp) : Prop := ∀ p ∈ T, LamX.TabS H p.1 p.2 ∧ H0 p.1 = none
theorem TabA.nil {H0 H : Hp} : TabA [] H0 H := fun _ h => nomatch h
theorem TabS.keep {H H' : Hp} {P : Addr} {q : Str} (t : LamX.TabS H P q) (e : ∀ b o, H b = some o → (∀ xs, o ≠ .lst xs) → (∀ xs, o ≠ .dK xs) → (∀ C dx xs, o ≠ .ins C dx xs) → H' b = some o) : LamX.TabS H' P q := by
  obtain ⟨ps, h1, h2, h3⟩ := t
  refine ⟨ps, e _ _ h1 (fun _ => nofun) (fun _ => nofun) (fun _ _ _ => nofun), h2, fun pos cv hc => ?_⟩
  obtain ⟨c, h4, h5⟩ := h3 pos cv hc
  exact ⟨c, h4, e _ _ h5 (fun _ z => by unfold LamX.CodeO at z; cases z) (fun _ z => by unfold LamX.CodeO at z; cases z) (fun _ _ _ z => by unfold LamX.CodeO at z; cases z)⟩
theorem TabA.keep {T : List (Addr × Str)} {H0 H H0' H' : Hp} (t : TabA T H0 H) (e : ∀ b o, H b = some o → (∀ xs, o ≠ .lst xs) → (∀ xs, o ≠ .dK xs) → (∀ C dx xs, o ≠ .ins C dx xs) → H' b = some o) (n : ∀ p, H0 p = none → (∃ ps, H p = some (.tbl ps)) → H0' p = none) : TabA T H0' H' := fun p hp => by
  obtain ⟨h1, h2⟩ := t p hp
  exact ⟨TabS.keep h1 e, n _ h2 (let ⟨ps, z, _⟩ := h1; ⟨ps, z⟩)⟩
structure At (K : PySem.W.Frag) (c : Ctx) (ρ : Env') (H0 H : Hp) (σ : St) : Prop where
  px : PX c H0 H
  tab : TabA c.T H0 H
  sl : ∃ os, Slots K H0 H ρ σ os ∧ os.Nodup ∧ ∀ p ∈ os, H0 p = none ∧ c.He p = none
section
variable {K : PySem.W.Frag} {c : Ctx} {ρ : Env'} {H0 H H0' H' : Hp} {σ : St}
theorem RepO.notTbl {o : HO} {d : D} (r : RepO K H0 o d) (ps : Array Value) : o ≠ .tbl ps := by
  cases r <;> exact nofun
theorem ext_both (e : Ex H H') : ∀ b o, H b = some o → (∀ xs, o ≠ .lst xs) → (∀ xs, o ≠ .dK xs) → (∀ C dx xs, o ≠ .ins C dx xs) → H' b = some o := fun b o h _ _ _ => e b o h
/-- all that stands stays: what is one's own, too -/
theorem At.go (a : At K c ρ H0 H σ) (y : PX ⟨H, H0, []⟩ H0' H') : At K c ρ H0' H' σ := by
  obtain ⟨os, s, nd, f⟩ := a.sl
  have own := s.known
  have same : ∀ p ∈ os, H' p = H p := fun p hp => by
    cases q : H p with
    | none => exact absurd q (own p hp)
    | some o => exact y.ex p o q
  exact ⟨a.px.trans y, a.tab.keep (ext_both y.ex) fun p h1 ⟨ps, h2⟩ => y.n p (by show H p ≠ none; rw [h2]; exact nofun) h1, os, s.mono y.e0 same, nd, fun p hp => ⟨y.n p (own p hp) (f p hp).1, (f p hp).2⟩⟩
/-- .. but for tables, which grow -/
theorem At.goT (a : At K c ρ H0 H σ) (y : PX ⟨H, H0, c.T⟩ H0' H') (t : TabA c.T H0' H') : At K c ρ H0' H' σ := by
  obtain ⟨os, s, nd, f⟩ := a.sl
  have own := s.known
  have same : ∀ p ∈ os, H' p = H p := fun p hp => by
    cases q : H p with
    | none => exact absurd q (own p hp)
    | some o =>
      rcases y.e p o q with z | ⟨_, ps, _, e1, _⟩
      · exact z
      · obtain ⟨_, o', _, h2, r⟩ := s.ownAt p hp
        rw [q] at h2
        cases h2
        exact absurd e1 (r.notTbl ps)
  exact ⟨a.px.transT y, t, os, s.mono y.e0 same, nd, fun p hp => ⟨y.n p (own p hp) (f p hp).1, (f p hp).2⟩⟩
theorem At.freshT (a : At K c ρ H0 H σ) : At K ⟨H, H0, c.T⟩ (hide ρ) H0 H σ := by
  obtain ⟨os, s, _⟩ := a.sl
  exact ⟨PX.refl a.px.i, a.tab, [], s.hide, List.nodup_nil, fun _ h => nomatch h⟩
/-- the entry's part is taken here, its heap is not -/
theorem At.part (a : At K c ρ H0 H σ) : At K ⟨c.He, H0, c.T⟩ ρ H0 H σ := by
  obtain ⟨os, s, nd, f⟩ := a.sl
  exact ⟨⟨a.px.e, .refl _, a.px.i, fun _ _ h => h⟩, a.tab, os, s, nd, f⟩
theorem PX.unpart (x : PX c H0 H) (y : PX ⟨c.He, H0, c.T⟩ H0' H') : PX c H0' H' := ⟨y.e, x.e0.trans y.e0, y.i, fun p h1 h2 => y.n p h1 (x.n p h1 h2)⟩
theorem At.unpart {ρ' : Env'} {σ' : St} (x : PX c H0 H) (y : At K ⟨c.He, H0, c.T⟩ ρ' H0' H' σ') : At K c ρ' H0' H' σ' := ⟨x.unpart y.px, y.tab, y.sl⟩
theorem At.setDat {v : V} {d : D} (a : At K c ρ H0 H σ) (r : Rep K H0 v d) (i : Nat) : At K c (ρ.set i (some (.dat d))) H0 H (σ.set i (some v)) := by
  obtain ⟨os, s, nd, f⟩ := a.sl
  obtain ⟨os', s', sub⟩ := s.setDat r i
  exact ⟨a.px, a.tab, os', s', nd.sublist sub, fun p hp => f p (sub.subset hp)⟩
theorem At.setOwn {p : Addr} {o : HO} {ds : D} (a : At K c ρ H0 H σ) (hp : H p = none) (r : RepO K H0 o ds) (i : Nat) : At K c (ρ.set i (some (.own none ds))) H0 (upd H p o) (σ.set i (some (.ref p))) := by
  obtain ⟨os, s, nd, f⟩ := a.sl
  have h0 : H0 p = none := a.px.i.back hp
  have hc : c.He p = none := a.px.e.back hp
  have own : p ∉ os := fun hm => s.known p hm hp
  have s1 : Slots K H0 (upd H p o) ρ σ os := s.mono (.refl _) fun q hq => upd_ne fun e => own (e ▸ hq)
  obtain ⟨os', s', h1, h2⟩ := s1.setOwn (t := none) (fun _ z => by cases z) upd_same r i
  exact ⟨a.px.change h0 hc, a.tab.keep (ext_both (Ex.new hp)) fun _ h _ => h, os', s', h2 nd own, fun q hq => (h1 q hq).elim (fun e => e ▸ ⟨h0, hc⟩) (f q)⟩
/-- one's own is given away -/
theorem At.freeze {i : Nat} {t : Option Addr} {d : D} (a : At K c ρ H0 H σ) (h : ρ[i]? = some (some (.own t d))) : ∃ p o, σ[i]? = some (some (.ref p)) ∧ H p = some o ∧ H0 p = none ∧ c.He p = none ∧ At K c (ρ.set i (some (.dat d))) (upd H0 p o) H σ ∧ Rep K (upd H0 p o) (.ref p) d := by
  obtain ⟨os, s, nd, f⟩ := a.sl
  obtain ⟨p, o, h1, hm, _, h2, r⟩ := s.getOwn h
  obtain ⟨h0, hc⟩ := f p hm
  obtain ⟨os', s', sub, hn⟩ := s.freeze h0 r nd h h1
  refine ⟨p, o, h1, h2, h0, hc, ⟨a.px.learn h2 h0 hc, a.tab.keep (fun _ _ h _ _ _ => h) fun q hq ⟨ps, z⟩ => ?_, os', s', nd.sublist sub, fun q hq => ?_⟩, r.rep h0⟩
  · have hne : q ≠ p := fun e => by
      rw [e, h2] at z
      exact r.notTbl ps (Option.some.inj z)
    exact (upd_ne hne).trans hq
  · obtain ⟨g1, g2⟩ := f q (sub.subset hq)
    have hne : q ≠ p := fun e => hn (by rw [← e]; exact hq)
    exact ⟨(upd_ne hne).trans g1, g2⟩
/-- one's own changes -/
theorem At.turn {i : Nat} {t : Option Addr} {d d' : D} {p : Addr} {o' : HO} (a : At K c ρ H0 H σ) (h : ρ[i]? = some (some (.own t d))) (hp : σ[i]? = some (some (.ref p))) (r : RepO K H0 o' d') (nk : c.T = [] ∨ ∀ P w p l, d ≠ .kd P w p l := by exact .inr (fun _ _ _ _ => nofun)) : At K c (ρ.set i (some (.own t d'))) H0 (upd H p o') σ := by
  obtain ⟨os, s, nd, f⟩ := a.sl
  obtain ⟨q, o, h1, hm, _, h2, ro⟩ := s.getOwn h
  rw [hp] at h1
  cases h1
  obtain ⟨h0, hc⟩ := f p hm
  refine ⟨a.px.change h0 hc, ?_, os, s.turn r nd h hp, nd, f⟩
  rcases nk with nk | nk
  · rw [nk]; exact TabA.nil
  refine a.tab.keep (fun b u hb n1 n2 n3 => ?_) fun _ h _ => h
  have hne : b ≠ p := fun e => by
    rw [e, h2] at hb
    cases hb
    cases ro with
    | lst _ => exact n1 _ rfl
    | dic _ => exact n2 _ rfl
    | ins _ => exact n3 _ _ _ rfl
    | dik _ => exact n2 _ rfl
    | kd _ => exact nk _ _ _ _ rfl
  exact (upd_ne hne).trans hb
theorem At.own {i : Nat} {t : Option Addr} {d : D} (a : At K c ρ H0 H σ) (h : ρ[i]? = some (some (.own t d))) : ∃ p o, σ[i]? = some (some (.ref p)) ∧ H p = some o ∧ H0 p = none ∧ (∀ q, t = some q → p = q) ∧ RepO K H0 o d := by
  obtain ⟨os, s, nd, f⟩ := a.sl
  obtain ⟨p, o, h1, hm, ht, h2, r⟩ := s.getOwn h
  exact ⟨p, o, h1, h2, (f p hm).1, ht, r⟩
theorem At.get {i : Nat} {d : D} (a : At K c ρ H0 H σ) (h : ρ[i]? = some (some (.dat d))) : ∃ v, σ[i]? = some (some v) ∧ Rep K H0 v d := by
  obtain ⟨os, s, nd, f⟩ := a.sl
  exact s.get h
end
end DL
namespace DL
open PySem PySem.Spec L2
open PyProof.Rows hiding St
/-- an exception: its class, its attributes -/
structure Exn where
  C : Addr
  fs : List (Str × D)
def RepX (K : PySem.W.Frag) (H0 H : Hp) (x : Exn) (dd : Option Addr) : Prop := ∃ d vs, dd = some d ∧ H0 d = some (.xd vs) ∧ RepKV K H0 vs x.fs
/-- where one stands: the written part, what is wanted of an exception (of heaps, of data) -/
structure Wx where
  K : PySem.W.Frag
  EX : XK
  X : Exn → Prop
  T : List (Addr × Str)
structure XLink (w : Wx) (c : Ctx) : Prop where
  t : c.T = w.T
  l : ∀ x, w.X x → ∀ dd H0 H, PX c H0 H → RepX w.K H0 H x dd → w.EX (.ref x.C) dd H
theorem XLink.part {w : Wx} {c : Ctx} {H0 H : Hp} (l : XLink w c) (x : PX c H0 H) : XLink w ⟨c.He, H0, c.T⟩ := ⟨l.t, fun y hy dd H0' H' p r => l.l y hy dd H0' H' (x.unpart p) r⟩
/-! ### what expressions, tests, arguments come to -/
def wE (w : Wx) (te : TE) (ρ : Env') (Φ : D → Env' → Prop) : Prop := ∀ (c : Ctx) (H0 H : Hp) (σ : St) (Q : VK), At w.K c ρ H0 H σ → XLink w c →
  (∀ v d ρ' H0' H', Φ d ρ' → At w.K c ρ' H0' H' σ → Ex H0 H0' → Rep w.K H0' v d → Q v H') → te σ H Q
def wT (w : Wx) (tt : TT) (ρ : Env') (Φ : Bool → Env' → Prop) : Prop := ∀ (c : Ctx) (H0 H : Hp) (σ : St) (Q : Bool → Hp → Prop), At w.K c ρ H0 H σ → XLink w c →
  (∀ b ρ' H0' H', Φ b ρ' → At w.K c ρ' H0' H' σ → Ex H0 H0' → Q b H') → tt σ H Q
def wA (w : Wx) (ta : TA) (ρ : Env') (Φ : List D → Env' → Prop) : Prop := ∀ (c : Ctx) (H0 H : Hp) (σ : St) (Q : List V → Hp → Prop), At w.K c ρ H0 H σ → XLink w c →
  (∀ vs ds ρ' H0' H', Φ ds ρ' → At w.K c ρ' H0' H' σ → Ex H0 H0' → RepAll w.K H0' vs ds → Q vs H') → ta σ H Q
def wO (w : Wx) (to : TO) (ρ : Env') (Φ : Option Int → Env' → Prop) : Prop := ∀ (c : Ctx) (H0 H : Hp) (σ : St) (Q : Option Int → Hp → Prop), At w.K c ρ H0 H σ → XLink w c →
  (∀ o ρ' H0' H', Φ o ρ' → At w.K c ρ' H0' H' σ → Ex H0 H0' → Q o H') → to σ H Q
section
variable {w : Wx} {ρ : Env'} {Φ : D → Env' → Prop} {ΦB : Bool → Env' → Prop} {ΦA : List D → Env' → Prop} {ta tb te tc : TE} {t u : TT} {r : R2}
theorem wE_mono {Ψ : D → Env' → Prop} (h : wE w te ρ Φ) (k : ∀ d ρ', Φ d ρ' → Ψ d ρ') : wE w te ρ Ψ := fun c H0 H σ Q a x q => h c H0 H σ Q a x fun v d ρ' H0' H' p => q v d ρ' H0' H' (k d ρ' p)
theorem wE_var {i : Nat} {d : D} (h : ρ[i]? = some (some (.dat d))) (q : Φ d ρ) : wE w (tVar i) ρ Φ := fun c H0 H σ Q a x k => by
  obtain ⟨v, h1, r⟩ := a.get h
  exact ⟨v, h1, k v d ρ H0 H q a (.refl _) r⟩
/-- one's own, given away -/
theorem wE_give {i : Nat} {t : Option Addr} {d : D} (h : ρ[i]? = some (some (.own t d))) (q : Φ d (ρ.set i (some (.dat d)))) : wE w (tVar i) ρ Φ := fun c H0 H σ Q a x k => by
  obtain ⟨p, o, h1, _, h0, _, a', r⟩ := a.freeze h
  exact ⟨.ref p, h1, k _ d _ _ H q a' (Ex.new h0) r⟩
theorem wE_non (q : Φ .non ρ) : wE w (tC .non) ρ Φ := fun c H0 H σ Q a x k => k _ _ ρ H0 H q a (.refl _) .non
theorem wE_bl {b : Bool} (q : Φ (.bl b) ρ) : wE w (tC (.bl b)) ρ Φ := fun c H0 H σ Q a x k => k _ _ ρ H0 H q a (.refl _) (.bl b)
theorem wE_int {i : Int} (q : Φ (.int i) ρ) : wE w (tC (.int i)) ρ Φ := fun c H0 H σ Q a x k => k _ _ ρ H0 H q a (.refl _) (.int i)
theorem wE_str {s : Str} (q : Φ (.str s) ρ) : wE w (tC (.str s)) ρ Φ := fun c H0 H σ Q a x k => k _ _ ρ H0 H q a (.refl _) (.str s)
theorem wE_raw {v : V} (q : Φ (.raw v) ρ) : wE w (tC v) ρ Φ := fun c H0 H σ Q a x k => k _ _ ρ H0 H q a (.refl _) (.raw v)
/-- an operation on two values, as one on data -/
def OpD (K : PySem.W.Frag) (r : R2) (g : D → D → (D → Prop) → Prop) : Prop := ∀ (H0 H : Hp) (x y : V) (dx dy : D) (Φ : D → Prop) (Q : VK), Ex H0 H → Rep K H0 x dx → Rep K H0 y dy → g dx dy Φ →
  (∀ v d H0' H', Φ d → PX ⟨H, H0, []⟩ H0' H' → Rep K H0' v d → Q v H') → r x y H Q
def UnD (K : PySem.W.Frag) (r : V → Hp → VK → Prop) (g : D → (D → Prop) → Prop) : Prop := ∀ (H0 H : Hp) (x : V) (dx : D) (Φ : D → Prop) (Q : VK), Ex H0 H → Rep K H0 x dx → g dx Φ →
  (∀ v d H0' H', Φ d → PX ⟨H, H0, []⟩ H0' H' → Rep K H0' v d → Q v H') → r x H Q
def CbD (K : PySem.W.Frag) (r : List V → Hp → VK → Prop) (g : List D → (D → Prop) → Prop) : Prop := ∀ (H0 H : Hp) (xs : List V) (ds : List D) (Φ : D → Prop) (Q : VK), Ex H0 H → RepAll K H0 xs ds → g ds Φ →
  (∀ v d H0' H', Φ d → PX ⟨H, H0, []⟩ H0' H' → Rep K H0' v d → Q v H') → r xs H Q
def MtD (K : PySem.W.Frag) (r : V → List V → Hp → VK → Prop) (g : D → List D → (D → Prop) → Prop) : Prop := ∀ (H0 H : Hp) (x : V) (xs : List V) (dx : D) (ds : List D) (Φ : D → Prop) (Q : VK), Ex H0 H → Rep K H0 x dx → RepAll K H0 xs ds → g dx ds Φ →
  (∀ v d H0' H', Φ d → PX ⟨H, H0, []⟩ H0' H' → Rep K H0' v d → Q v H') → r x xs H Q
def SlD (K : PySem.W.Frag) (r : V → Option Int → Option Int → Hp → VK → Prop) (g : D → Option Int → Option Int → (D → Prop) → Prop) : Prop := ∀ (H0 H : Hp) (x : V) (dx : D) (lo hi : Option Int) (Φ : D → Prop) (Q : VK), Ex H0 H → Rep K H0 x dx → g dx lo hi Φ →
  (∀ v d H0' H', Φ d → PX ⟨H, H0, []⟩ H0' H' → Rep K H0' v d → Q v H') → r x lo hi H Q
theorem wE_op {g : D → D → (D → Prop) → Prop} (o : OpD w.K r g) (h : wE w ta ρ fun dx ρ1 => wE w tb ρ1 fun dy ρ2 => g dx dy fun d => Φ d ρ2) : wE w (tOp r ta tb) ρ Φ := fun c H0 H σ Q a x k =>
  h c H0 H σ _ a x fun vx dx ρ1 H01 H1 h1 a1 e1 r1 => h1 c H01 H1 σ _ a1 x fun vy dy ρ2 H02 H2 h2 a2 e2 r2 => o H02 H2 vx vy dx dy _ Q a2.px.i (r1.mono e2) r2 h2 fun v d H0' H' q p r => k v d ρ2 H0' H' q (a2.go p) ((e1.trans e2).trans p.e0) r
theorem wE_un {ru : V → Hp → VK → Prop} {g : D → (D → Prop) → Prop} (o : UnD w.K ru g) (h : wE w ta ρ fun dx ρ1 => g dx fun d => Φ d ρ1) : wE w (tUn ru ta) ρ Φ := fun c H0 H σ Q a x k =>
  h c H0 H σ _ a x fun vx dx ρ1 H01 H1 h1 a1 e1 r1 => o H01 H1 vx dx _ Q a1.px.i r1 h1 fun v d H0' H' q p r => k v d ρ1 H0' H' q (a1.go p) (e1.trans p.e0) r
theorem wE_cb {rc : List V → Hp → VK → Prop} {t' : TA} {g : List D → (D → Prop) → Prop} (o : CbD w.K rc g) (h : wA w t' ρ fun ds ρ1 => g ds fun d => Φ d ρ1) : wE w (tCB rc t') ρ Φ := fun c H0 H σ Q a x k =>
  h c H0 H σ _ a x fun vx dx ρ1 H01 H1 h1 a1 e1 r1 => o H01 H1 vx dx _ Q a1.px.i r1 h1 fun v d H0' H' q p r => k v d ρ1 H0' H' q (a1.go p) (e1.trans p.e0) r
/-- the data of a built-in type -/
def isTy (T : String) : D → Bool
  | .str _ => T == "str"
  | .lst _ => T == "list"
  | .dic _ => T == "dict"
  | _ => false
theorem wE_mt {T : String} {t' : TA} {rm : V → List V → Hp → VK → Prop} {g : D → List D → (D → Prop) → Prop} (o : MtD w.K rm g) (ty : ∀ H0 H v d, Ex H0 H → Rep w.K H0 v d → isTy T d = true → tyV w.K T v H)
    (h : wE w ta ρ fun dx ρ1 => isTy T dx = true ∧ wA w t' ρ1 fun ds ρ2 => g dx ds fun d => Φ d ρ2) : wE w (tBM w.K T rm ta t') ρ Φ := fun c H0 H σ Q a x k =>
  h c H0 H σ _ a x fun vx dx ρ1 H01 H1 h1 a1 e1 r1 => ⟨ty _ _ _ _ a1.px.i r1 h1.1, h1.2 c H01 H1 σ _ a1 x fun vs ds ρ2 H02 H2 h2 a2 e2 r2 => o H02 H2 vx vs dx ds _ Q a2.px.i (r1.mono e2) r2 h2 fun v d H0' H' q p r => k v d ρ2 H0' H' q (a2.go p) ((e1.trans e2).trans p.e0) r⟩
theorem wO_none {Φo : Option Int → Env' → Prop} (q : Φo none ρ) : wO w tNoPart ρ Φo := fun c H0 H σ Q a x k => k none ρ H0 H q a (.refl _)
theorem wO_some {Φo : Option Int → Env' → Prop} (h : wE w ta ρ fun d ρ1 => ∃ i, d = .int i ∧ Φo (some i) ρ1) : wO w (tPart ta) ρ Φo := fun c H0 H σ Q a x k =>
  h c H0 H σ _ a x fun vx dx ρ1 H01 H1 ⟨i, e, h1⟩ a1 e1 r1 => by
    subst e; cases r1
    exact ⟨i, rfl, k (some i) ρ1 H01 H1 h1 a1 e1⟩
theorem wE_sl {rs : V → Option Int → Option Int → Hp → VK → Prop} {tl th : TO} {g : D → Option Int → Option Int → (D → Prop) → Prop} (o : SlD w.K rs g) (h : wE w ta ρ fun dx ρ1 => wO w tl ρ1 fun lo ρ2 => wO w th ρ2 fun hi ρ3 => g dx lo hi fun d => Φ d ρ3) : wE w (tSl rs ta tl th) ρ Φ := fun c H0 H σ Q a x k =>
  h c H0 H σ _ a x fun vx dx ρ1 H01 H1 h1 a1 e1 r1 => h1 c H01 H1 σ _ a1 x fun lo ρ2 H02 H2 h2 a2 e2 => h2 c H02 H2 σ _ a2 x fun hi ρ3 H03 H3 h3 a3 e3 =>
    o H03 H3 vx dx lo hi _ Q a3.px.i (r1.mono (e2.trans e3)) h3 fun v d H0' H' q p r => k v d ρ3 H0' H' q (a3.go p) ((e1.trans (e2.trans e3)).trans p.e0) r
/-! tests -/
theorem wT_test (h : wE w te ρ fun d ρ1 => ∃ b, d = .bl b ∧ ΦB b ρ1) : wT w (tTest te) ρ ΦB := fun c H0 H σ Q a x k =>
  h c H0 H σ _ a x fun v d ρ1 H01 H1 ⟨b, e, q⟩ a1 e1 r1 => by subst e; cases r1; exact ⟨b, rfl, k b ρ1 H01 H1 q a1 e1⟩
theorem wT_B (h : wE w te ρ fun d ρ1 => ∃ b, d = .bl b ∧ ΦB b ρ1) : wT w (tB te) ρ ΦB := fun c H0 H σ Q a x k =>
  h c H0 H σ _ a x fun v d ρ1 H01 H1 ⟨b, e, q⟩ a1 e1 r1 => by subst e; cases r1; exact ⟨b, rfl, k b ρ1 H01 H1 q a1 e1⟩
theorem wT_or (h : wT w t ρ fun b ρ1 => if b = true then ΦB true ρ1 else wT w u ρ1 ΦB) : wT w (tOr t u) ρ ΦB := fun c H0 H σ Q a x k =>
  h c H0 H σ _ a x fun b ρ1 H01 H1 q a1 e1 => by
    cases b with
    | true => rw [if_pos rfl] at q ⊢; exact k true ρ1 H01 H1 q a1 e1
    | false => rw [if_neg Bool.false_ne_true] at q ⊢; exact q c H01 H1 σ Q a1 x fun b ρ2 H02 H2 q2 a2 e2 => k b ρ2 H02 H2 q2 a2 (e1.trans e2)
theorem wT_not (h : wT w t ρ fun b ρ1 => ΦB (!b) ρ1) : wT w (tNot t) ρ ΦB := fun c H0 H σ Q a x k =>
  h c H0 H σ _ a x fun b ρ1 H01 H1 q a1 e1 => k (!b) ρ1 H01 H1 q a1 e1
theorem wT_yes (q : ΦB true ρ) : wT w tYes ρ ΦB := fun c H0 H σ Q a x k => k true ρ H0 H q a (.refl _)
theorem wE_andV (h : wE w ta ρ fun d ρ1 => ∃ b, d = .bl b ∧ if b = true then wE w tb ρ1 Φ else Φ (.bl false) ρ1) : wE w (tAndV ta tb) ρ Φ := fun c H0 H σ Q a x k =>
  h c H0 H σ _ a x fun v d ρ1 H01 H1 ⟨b, e, q⟩ a1 e1 r1 => by
    subst e; cases r1
    refine ⟨b, rfl, ?_⟩
    cases b with
    | true => rw [if_pos rfl] at q ⊢; exact q c H01 H1 σ Q a1 x fun v d ρ2 H02 H2 q2 a2 e2 => k v d ρ2 H02 H2 q2 a2 (e1.trans e2)
    | false => rw [if_neg Bool.false_ne_true] at q ⊢; exact k _ _ ρ1 H01 H1 q a1 e1 (.bl false)
theorem wE_notV (h : wE w ta ρ fun d ρ1 => ∃ b, d = .bl b ∧ Φ (.bl (!b)) ρ1) : wE w (tNotV ta) ρ Φ := fun c H0 H σ Q a x k =>
  h c H0 H σ _ a x fun v d ρ1 H01 H1 ⟨b, e, q⟩ a1 e1 r1 => by subst e; cases r1; exact ⟨b, rfl, k _ _ ρ1 H01 H1 q a1 e1 (.bl _)⟩
theorem wE_if (h : wT w t ρ fun b ρ1 => if b = true then wE w ta ρ1 Φ else wE w tb ρ1 Φ) : wE w (tIf t ta tb) ρ Φ := fun c H0 H σ Q a x k =>
  h c H0 H σ _ a x fun b ρ1 H01 H1 q a1 e1 => by
    cases b with
    | true => rw [if_pos rfl] at q ⊢; exact q c H01 H1 σ Q a1 x fun v d ρ2 H02 H2 q2 a2 e2 => k v d ρ2 H02 H2 q2 a2 (e1.trans e2)
    | false => rw [if_neg Bool.false_ne_true] at q ⊢; exact q c H01 H1 σ Q a1 x fun v d ρ2 H02 H2 q2 a2 e2 => k v d ρ2 H02 H2 q2 a2 (e1.trans e2)
/-- a < b < c -/
theorem wE_chain {r' : R2} {g g' : D → D → (D → Prop) → Prop} (o : OpD w.K r g) (o' : OpD w.K r' g')
    (h : wE w ta ρ fun dx ρ1 => wE w tb ρ1 fun dy ρ2 => g dx dy fun d => ∃ b, d = .bl b ∧ if b = true then wE w tc ρ2 fun dz ρ3 => g' dy dz fun d => Φ d ρ3 else Φ (.bl false) ρ2) : wE w (tChain r r' ta tb tc) ρ Φ := fun c H0 H σ Q a x k =>
  h c H0 H σ _ a x fun vx dx ρ1 H01 H1 h1 a1 e1 r1 => h1 c H01 H1 σ _ a1 x fun vy dy ρ2 H02 H2 h2 a2 e2 r2 => o H02 H2 vx vy dx dy _ _ a2.px.i (r1.mono e2) r2 h2 fun v d H03 H3 ⟨b, e, q⟩ p r => by
    subst e; cases r
    refine ⟨b, rfl, ?_⟩
    have a3 := a2.go p
    cases b with
    | true =>
      rw [if_pos rfl] at q ⊢
      exact q c H03 H3 σ _ a3 x fun vz dz ρ3 H04 H4 h4 a4 e4 r4 => o' H04 H4 vy vz dy dz _ Q a4.px.i (r2.mono (p.e0.trans e4)) r4 h4 fun v d H0' H' q' p' r' => k v d ρ3 H0' H' q' (a4.go p') (((e1.trans e2).trans (p.e0.trans e4)).trans p'.e0) r'
    | false => rw [if_neg Bool.false_ne_true] at q ⊢; exact k _ _ ρ2 H03 H3 q a3 ((e1.trans e2).trans p.e0) (.bl false)
/-! arguments, tuples, lists -/
theorem wA_nil (q : ΦA [] ρ) : wA w tNil ρ ΦA := fun c H0 H σ Q a x k => k [] [] ρ H0 H q a (.refl _) .nil
theorem wA_cons {tr : TA} (h : wE w ta ρ fun d ρ1 => wA w tr ρ1 fun ds ρ2 => ΦA (d :: ds) ρ2) : wA w (tCons ta tr) ρ ΦA := fun c H0 H σ Q a x k =>
  h c H0 H σ _ a x fun v d ρ1 H01 H1 h1 a1 e1 r1 => h1 c H01 H1 σ _ a1 x fun vs ds ρ2 H02 H2 h2 a2 e2 r2 => k (v :: vs) (d :: ds) ρ2 H02 H2 h2 a2 (e1.trans e2) (.cons (r1.mono e2) r2)
theorem len_ok {n : Nat} (h : n ≤ 1000000) : n ≤ sizeLine := Nat.le_trans h (by decide)
theorem len_lt {n : Nat} (h : n < 1000000) : n < sizeLine := Nat.lt_of_lt_of_le h (by decide)
theorem wE_tup {t' : TA} (h : wA w t' ρ fun ds ρ1 => ds.length ≤ 1000000 ∧ Φ (.tup ds) ρ1) : wE w (tTup t') ρ Φ := fun c H0 H σ Q a x k =>
  h c H0 H σ _ a x fun vs ds ρ1 H01 H1 h1 a1 e1 r1 => ⟨len_ok (by rw [r1.length]; exact h1.1), fun p hp => by
    have y : PX ⟨H1, H01, []⟩ (upd H01 p (.tup vs)) (upd H1 p (.tup vs)) := (PX.refl a1.px.i).new hp
    exact k _ _ ρ1 _ _ h1.2 (a1.go y) (e1.trans y.e0) (.tup (.inl (.inl upd_same)) (r1.mono y.e0))⟩
theorem wE_lst {t' : TA} (h : wA w t' ρ fun ds ρ1 => ds.length ≤ 1000000 ∧ Φ (.lst ds) ρ1) : wE w (tLst t') ρ Φ := fun c H0 H σ Q a x k =>
  h c H0 H σ _ a x fun vs ds ρ1 H01 H1 h1 a1 e1 r1 => ⟨len_ok (by rw [r1.length]; exact h1.1), fun p hp => by
    have y : PX ⟨H1, H01, []⟩ (upd H01 p (.lst vs)) (upd H1 p (.lst vs)) := (PX.refl a1.px.i).new hp
    exact k _ _ ρ1 _ _ h1.2 (a1.go y) (e1.trans y.e0) (.lst upd_same (r1.mono y.e0))⟩
/-- o.f -/
theorem wE_fld {f : Str} (h : wE w te ρ fun d ρ1 => ∃ C fs x, d = .ins C fs ∧ Cls w.K C ∧ NoAttr w.K C f ∧ fs.lookup f = some x ∧ Φ x ρ1) : wE w (tFld w.K te f) ρ Φ := fun c H0 H σ Q a x k =>
  h c H0 H σ _ a x fun v d ρ1 H01 H1 ⟨C, fs, y, e, hc, hn, hl, q⟩ a1 e1 r1 => by
    subst e
    cases r1 with
    | ins hp hk =>
      obtain ⟨u, h1, r⟩ := hk.lookup hl
      exact ⟨_, C, _, _, u, rfl, a1.px.i _ _ hp, hc, hn, h1, k u y ρ1 H01 H1 q a1 e1 r⟩
end
end DL
namespace DL
open PySem PySem.Spec L2
open PyProof.Rows hiding St
/-! ### statements -/
/-- what is wanted behind a statement, of data -/
structure DE where
  nx : Env' → Prop
  rt : D → Env' → Prop := fun _ _ => False
  /-- a new list, nobody's yet, is returned -/
  ro : List D → Env' → Prop := fun _ _ => False
  bk : Env' → Prop := fun _ => False
  ct : Env' → Prop := fun _ => False
structure Link (w : Wx) (c : Ctx) (Dn : Ends) (E : DE) : Prop where
  nx : ∀ ρ H0 H σ, E.nx ρ → At w.K c ρ H0 H σ → Dn.nx σ H
  rt : ∀ d v ρ H0 H σ, E.rt d ρ → At w.K c ρ H0 H σ → Rep w.K H0 v d → Dn.rt v H
  ro : ∀ ds p us ρ H0 H σ, E.ro ds ρ → At w.K c ρ H0 H σ → H0 p = none → c.He p = none → H p = some (.lst us) → RepAll w.K H0 us ds → Dn.rt (.ref p) H
  bk : ∀ ρ H0 H σ, E.bk ρ → At w.K c ρ H0 H σ → Dn.bk σ H
  ct : ∀ ρ H0 H σ, E.ct ρ → At w.K c ρ H0 H σ → Dn.ct σ H
def wS (w : Wx) (ts : TS) (E : DE) (ρ : Env') : Prop := ∀ (c : Ctx) (Dn : Ends) (H0 H : Hp) (σ : St), At w.K c ρ H0 H σ → XLink w c → Link w c Dn E → ts Dn σ H
/-- a target of an assignment -/
def wG (w : Wx) (g : TG) (d : D) (ρ : Env') (Φ : Env' → Prop) : Prop := ∀ (c : Ctx) (H0 H : Hp) (σ : St) (v : V) (Q : St → Hp → Prop), At w.K c ρ H0 H σ → XLink w c → Rep w.K H0 v d →
  (∀ ρ' H0' H' σ', Φ ρ' → At w.K c ρ' H0' H' σ' → Ex H0 H0' → Q σ' H') → g v σ H Q
def wGs (w : Wx) (g : TGs) (ds : List D) (ρ : Env') (Φ : Env' → Prop) : Prop := ∀ (c : Ctx) (H0 H : Hp) (σ : St) (vs : List V) (Q : St → Hp → Prop), At w.K c ρ H0 H σ → XLink w c → RepAll w.K H0 vs ds →
  (∀ ρ' H0' H' σ', Φ ρ' → At w.K c ρ' H0' H' σ' → Ex H0 H0' → Q σ' H') → g vs σ H Q
section
variable {w : Wx} {ρ : Env'} {E : DE} {Φ : D → Env' → Prop} {te ta tb : TE} {t u : TS} {g : TG}
theorem wS_mono {E' : DE} (h : wS w t E ρ) (k1 : ∀ ρ, E.nx ρ → E'.nx ρ) (k2 : ∀ d ρ, E.rt d ρ → E'.rt d ρ) (k5 : ∀ d ρ, E.ro d ρ → E'.ro d ρ) (k3 : ∀ ρ, E.bk ρ → E'.bk ρ) (k4 : ∀ ρ, E.ct ρ → E'.ct ρ) : wS w t E' ρ := fun c Dn H0 H σ a x l =>
  h c Dn H0 H σ a x ⟨fun ρ H0 H σ q => l.nx ρ H0 H σ (k1 ρ q), fun d v ρ H0 H σ q => l.rt d v ρ H0 H σ (k2 d ρ q), fun ds p us ρ H0 H σ q => l.ro ds p us ρ H0 H σ (k5 ds ρ q), fun ρ H0 H σ q => l.bk ρ H0 H σ (k3 ρ q), fun ρ H0 H σ q => l.ct ρ H0 H σ (k4 ρ q)⟩
theorem wS_seq (h : wS w t { E with nx := fun ρ1 => wS w u E ρ1 } ρ) : wS w (tSeq t u) E ρ := fun c Dn H0 H σ a x l =>
  h c { Dn with nx := u Dn } H0 H σ a x ⟨fun ρ1 H01 H1 σ1 q a1 => q c Dn H01 H1 σ1 a1 x l, l.rt, l.ro, l.bk, l.ct⟩
theorem wS_next (q : E.nx ρ) : wS w tNext E ρ := fun c Dn H0 H σ a x l => l.nx ρ H0 H σ q a
theorem wS_drop (h : wE w te ρ fun _ ρ1 => E.nx ρ1) : wS w (tDrop te) E ρ := fun c Dn H0 H σ a x l => h c H0 H σ _ a x fun v d ρ1 H01 H1 q a1 e1 r1 => l.nx ρ1 H01 H1 σ q a1
theorem wS_ret (h : wE w te ρ fun d ρ' => E.rt d ρ') : wS w (tRet te) E ρ := fun c Dn H0 H σ a x l => h c H0 H σ _ a x fun v d ρ1 H01 H1 q a1 e1 r1 => l.rt d v ρ1 H01 H1 σ q a1 r1
theorem wS_retOwn {t' : TA} (h : wA w t' ρ fun ds ρ1 => ds.length ≤ 1000000 ∧ E.ro ds ρ1) : wS w (tRet (tLst t')) E ρ := fun c Dn H0 H σ a x l =>
  h c H0 H σ _ a x fun vs ds ρ1 H01 H1 ⟨hz, q⟩ a1 e1 r1 => ⟨len_ok (by rw [r1.length]; exact hz), fun p hp => l.ro ds p vs ρ1 H01 _ σ q (a1.go ((PX.refl a1.px.i).change (a1.px.i.back hp) hp)) (a1.px.i.back hp) (a1.px.e.back hp) upd_same r1⟩
theorem wS_if {tt : TT} (h : wT w tt ρ fun b ρ1 => if b = true then wS w t E ρ1 else wS w u E ρ1) : wS w (tIfS tt t u) E ρ := fun c Dn H0 H σ a x l =>
  h c H0 H σ _ a x fun b ρ1 H01 H1 q a1 e1 => by
    cases b with
    | true => rw [if_pos rfl] at q ⊢; exact q c Dn H01 H1 σ a1 x l
    | false => rw [if_neg Bool.false_ne_true] at q ⊢; exact q c Dn H01 H1 σ a1 x l
theorem wS_asg (h : wE w te ρ fun d ρ1 => wG w g d ρ1 E.nx) : wS w (tAsg te g) E ρ := fun c Dn H0 H σ a x l =>
  h c H0 H σ _ a x fun v d ρ1 H01 H1 q a1 e1 r1 => q c H01 H1 σ v _ a1 x r1 fun ρ2 H02 H2 σ2 q2 a2 _ => l.nx ρ2 H02 H2 σ2 q2 a2
theorem wG_name {i : Nat} {d : D} {Ψ : Env' → Prop} (q : Ψ (ρ.set i (some (.dat d)))) : wG w (gName i) d ρ Ψ := fun c H0 H σ v Q a x r k => k _ H0 H _ q (a.setDat r i) (.refl _)
theorem wG_tup {n : Nat} {gs : TGs} {d : D} {Ψ : Env' → Prop} (h : ∃ ds, d = .tup ds ∧ ds.length = n ∧ wGs w gs ds ρ Ψ) : wG w (gTup w.K n gs) d ρ Ψ := fun c H0 H σ v Q a x r k => by
  obtain ⟨ds, rfl, hn, q⟩ := h
  cases r with
  | tup hs hr => exact ⟨_, _, rfl, sqT_ex a.px.i hs, hr.length.trans hn, q c H0 H σ _ Q a x hr k⟩
theorem wGs_nil {Ψ : Env' → Prop} (q : Ψ ρ) : wGs w gNil [] ρ Ψ := fun c H0 H σ vs Q a x r k => by
  cases r
  exact ⟨rfl, k ρ H0 H σ q a (.refl _)⟩
theorem wGs_cons {gs : TGs} {d : D} {ds : List D} {Ψ : Env' → Prop} (h : wG w g d ρ fun ρ1 => wGs w gs ds ρ1 Ψ) : wGs w (gCons g gs) (d :: ds) ρ Ψ := fun c H0 H σ vs Q a x r k => by
  cases r with
  | cons r1 rs => exact ⟨_, _, rfl, h c H0 H σ _ _ a x r1 fun ρ1 H01 H1 σ1 q a1 e1 => q c H01 H1 σ1 _ Q a1 x (rs.mono e1) fun ρ2 H02 H2 σ2 q2 a2 e2 => k ρ2 H02 H2 σ2 q2 a2 (e1.trans e2)⟩
/-- x = [..], the list one's own -/
theorem wS_asgOwn {i : Nat} {t' : TA} (h : wA w t' ρ fun ds ρ1 => ds.length ≤ 1000000 ∧ E.nx (ρ1.set i (some (.own none (.lst ds))))) : wS w (tAsg (tLst t') (gName i)) E ρ := fun c Dn H0 H σ a x l =>
  h c H0 H σ _ a x fun vs ds ρ1 H01 H1 ⟨hz, q⟩ a1 e1 r1 => ⟨len_ok (by rw [r1.length]; exact hz), fun p hp => l.nx _ _ _ _ q (a1.setOwn hp (.lst r1) i)⟩
theorem own_lst {K : PySem.W.Frag} {H0 : Hp} {o : HO} {ds : List D} (r : RepO K H0 o (.lst ds)) : ∃ vs, o = .lst vs ∧ RepAll K H0 vs ds := by
  cases r with
  | lst h => exact ⟨_, rfl, h⟩
/-- x.append(e), x one's own -/
theorem wS_append {i : Nat} (h : wE w te ρ fun d ρ1 => ∃ t ds, ρ1[i]? = some (some (.own t (.lst ds))) ∧ ds.length < 1000000 ∧ E.nx (ρ1.set i (some (.own t (.lst (ds ++ [d])))))) (h0 : ∃ t ds, ρ[i]? = some (some (.own t (.lst ds)))) : wS w (tDrop (tBM w.K "list" rAppend (tVar i) (tCons te tNil))) E ρ := fun c Dn H0 H σ a x l => by
  obtain ⟨t0, ds0, h0⟩ := h0
  obtain ⟨p, o, h1, h2, _, _, r⟩ := a.own h0
  obtain ⟨vs0, rfl, r0⟩ := own_lst r
  refine ⟨.ref p, h1, .inl ⟨rfl, _, .inl (.inl h2)⟩, h c H0 H σ _ a x fun v d ρ1 H01 H1 ⟨t1, ds, g0, hz, q⟩ a1 e1 r1 => ?_⟩
  obtain ⟨p', o, g1, g2, _, _, r⟩ := a1.own g0
  rw [h1] at g1
  cases g1
  obtain ⟨vs, rfl, r2⟩ := own_lst r
  exact ⟨p, vs, v, rfl, rfl, g2, len_lt (by rw [r2.length]; exact hz), l.nx _ _ _ _ q (a1.turn g0 h1 (.lst (r2.append (.cons r1 .nil))))⟩
end
/-! ### loops -/
/-- what a for walks: the items, all of them data -/
def wI (w : Wx) (wi : TI) (ρ : Env') (Φ : List D → Env' → Prop) : Prop := ∀ (c : Ctx) (H0 H : Hp) (σ : St) (R : It → Hp → Prop), At w.K c ρ H0 H σ → XLink w c →
  (∀ (J : It) (ds : List D) ρ' H0' H', Φ ds ρ' → At w.K c ρ' H0' H' σ → Ex H0 H0' →
    (∀ i H01 H1, Ex H0' H01 → Ex H01 H1 → i < ds.length → J.go i H1) → (∀ H01 H1, Ex H0' H01 → Ex H01 H1 → J.stop ds.length H1) →
    (∀ i H01 H1 x H2, Ex H0' H01 → Ex H01 H1 → i < ds.length → J.yld i H1 x H2 → ∃ d H02, ds[i]? = some d ∧ PX ⟨H1, H01, []⟩ H02 H2 ∧ Rep w.K H02 x d) → R J H') → wi σ H R
section
variable {w : Wx} {ρ : Env'} {E : DE} {te ta tb : TE} {ts : TS} {g : TG}
theorem wS_for {wi : TI} (h : wI w wi ρ fun ds ρ1 => ∃ I : Nat → Env' → Prop, I 0 ρ1 ∧ (∀ i d ρ', ds[i]? = some d → I i ρ' → wG w g d ρ' fun ρ2 => wS w ts { nx := I (i + 1), ct := I (i + 1), bk := E.nx, rt := E.rt, ro := E.ro } ρ2) ∧ (∀ ρ', I ds.length ρ' → E.nx ρ')) :
    wS w (tFor wi g ts) E ρ := fun c Dn H0 H σ a x l => by
  refine h c H0 H σ _ a x fun J ds ρ1 H01 H1 ⟨I, i0, step, done⟩ a1 e1 go stop yld => ?_
  have x2 := x.part a1.px
  refine ⟨fun i m σ' H' => m = ds.length - i ∧ i ≤ ds.length ∧ ∃ ρ' H0', I i ρ' ∧ At w.K ⟨c.He, H01, c.T⟩ ρ' H0' H' σ', ⟨_, rfl, Nat.zero_le _, ρ1, H01, i0, a1.part⟩, ?_⟩
  rintro i m σ' H' ⟨rfl, hi, ρ', H0', hI, a'⟩
  by_cases hlt : i < ds.length
  · refine .inr ⟨go i H0' H' a'.px.e0 a'.px.i hlt, fun σ2 H2 => ∃ ρ2 H02, I (i + 1) ρ2 ∧ At w.K ⟨c.He, H01, c.T⟩ ρ2 H02 H2 σ2, fun σ2 H2 ⟨ρ2, H02, q, a2⟩ => ⟨ds.length - (i + 1), by omega, rfl, hlt, ρ2, H02, q, a2⟩, fun v H2 y => ?_⟩
    obtain ⟨d, H02, hd, p2, r2⟩ := yld i H0' H' v H2 a'.px.e0 a'.px.i hlt y
    refine step i d ρ' hd hI ⟨c.He, H01, c.T⟩ H02 H2 σ' v _ (a'.go p2) x2 r2 fun ρ3 H03 H3 σ3 q3 a3 _ => ?_
    refine q3 ⟨c.He, H01, c.T⟩ _ H03 H3 σ3 a3 x2 ⟨fun ρ4 H04 H4 σ4 q4 a4 => ⟨ρ4, H04, q4, a4⟩, fun d v ρ4 H04 H4 σ4 q4 a4 r4 => l.rt d v ρ4 H04 H4 σ4 q4 (At.unpart a1.px a4) r4, fun ds p us ρ4 H04 H4 σ4 q4 a4 g1 g2 g3 g4 => l.ro ds p us ρ4 H04 H4 σ4 q4 (At.unpart a1.px a4) g1 g2 g3 g4, fun ρ4 H04 H4 σ4 q4 a4 => l.nx ρ4 H04 H4 σ4 q4 (At.unpart a1.px a4), fun ρ4 H04 H4 σ4 q4 a4 => ⟨ρ4, H04, q4, a4⟩⟩
  · have e : i = ds.length := by omega
    subst e
    exact .inl ⟨stop H0' H' a'.px.e0 a'.px.i, l.nx ρ' H0' H' σ' (done ρ' hI) (At.unpart a1.px a')⟩
end
/-! ### comprehensions -/
theorem get_wipe {σ : St} {k : Nat} : ∀ (vs : List Nat), k ∉ vs → (wipe σ vs)[k]? = σ[k]?
  | [], _ => rfl
  | v :: vs, h => by
    have h1 : v ≠ k := fun e => h (by rw [e]; exact List.mem_cons_self)
    unfold wipe
    rw [List.getElem?_set_ne h1]
    exact get_wipe vs fun m => h (List.mem_cons_of_mem _ m)
theorem get_wiped {σ : St} {k : Nat} : ∀ (vs : List Nat), k ∈ vs → (wipe σ vs)[k]? = if k < σ.length then some none else none
  | [], h => by cases h
  | v :: vs, h => by
    unfold wipe
    by_cases e : v = k
    · subst e
      by_cases hl : v < σ.length
      · rw [if_pos hl, List.getElem?_set_self (by rw [wipe_length]; exact hl)]
      · rw [if_neg hl]
        exact List.getElem?_eq_none (by rw [List.length_set, wipe_length]; omega)
    · rw [List.getElem?_set_ne e]
      exact get_wiped vs ((List.mem_cons.mp h).resolve_left fun q => e q.symm)
theorem wipe_set {σ : St} {i : Nat} {x : Option V} {vs : List Nat} (h : i ∈ vs) : wipe (σ.set i x) vs = wipe σ vs := by
  apply List.ext_getElem?
  intro k
  by_cases hk : k ∈ vs
  · rw [get_wiped vs hk, get_wiped vs hk, List.length_set]
  · rw [get_wipe vs hk, get_wipe vs hk, List.getElem?_set_ne (fun e : i = k => hk (by rw [← e]; exact h))]
theorem wipe_wipe {σ : St} {vs : List Nat} : wipe (wipe σ vs) vs = wipe σ vs := by
  apply List.ext_getElem?
  intro k
  by_cases hk : k ∈ vs
  · rw [get_wiped vs hk, get_wiped vs hk, wipe_length]
  · rw [get_wipe vs hk]
/-- a target that stores in these slots alone -/
def Only (g : TG) (vs : List Nat) : Prop := ∀ v σ H (Q : St → Hp → Prop), g v σ H Q → g v σ H fun σ' H' => wipe σ' vs = wipe σ vs ∧ Q σ' H'
def OnlyS (g : TGs) (vs : List Nat) : Prop := ∀ v σ H (Q : St → Hp → Prop), g v σ H Q → g v σ H fun σ' H' => wipe σ' vs = wipe σ vs ∧ Q σ' H'
theorem only_name {i : Nat} {vs : List Nat} (h : i ∈ vs) : Only (gName i) vs := fun _ _ _ _ q => ⟨wipe_set h, q⟩
theorem onlyS_nil {vs : List Nat} : OnlyS gNil vs := fun _ _ _ _ q => ⟨q.1, rfl, q.2⟩
theorem onlyS_cons {g : TG} {gs : TGs} {vs : List Nat} (mg : ∀ v σ H (Q Q' : St → Hp → Prop), (∀ σ' H', Q σ' H' → Q' σ' H') → g v σ H Q → g v σ H Q') (mgs : ∀ v σ H (Q Q' : St → Hp → Prop), (∀ σ' H', Q σ' H' → Q' σ' H') → gs v σ H Q → gs v σ H Q')
    (h1 : Only g vs) (h2 : OnlyS gs vs) : OnlyS (gCons g gs) vs := fun v σ H Q q => by
  obtain ⟨x, r, e, q⟩ := q
  refine ⟨x, r, e, mg _ _ _ _ _ (fun σ' H' ⟨ez, z⟩ => ?_) (h1 _ _ _ _ q)⟩
  exact mgs _ _ _ _ _ (fun σ2 H2 ⟨e2, z2⟩ => ⟨e2.trans ez, z2⟩) (h2 _ _ _ _ z)
theorem only_tup {K : PySem.W.Frag} {n : Nat} {gs : TGs} {vs : List Nat} (h : OnlyS gs vs) : Only (gTup K n gs) vs := fun v σ H Q q => by
  obtain ⟨a, xs, e, hs, hl, q⟩ := q
  exact ⟨a, xs, e, hs, hl, h _ _ _ _ q⟩
theorem mono_name {i : Nat} : ∀ v σ H (Q Q' : St → Hp → Prop), (∀ σ' H', Q σ' H' → Q' σ' H') → gName i v σ H Q → gName i v σ H Q' := fun _ _ _ _ _ k q => k _ _ q
theorem mono_nil : ∀ v σ H (Q Q' : St → Hp → Prop), (∀ σ' H', Q σ' H' → Q' σ' H') → gNil v σ H Q → gNil v σ H Q' := fun _ _ _ _ _ k q => ⟨q.1, k _ _ q.2⟩
theorem mono_consN {i : Nat} {gs : TGs} (m : ∀ v σ H (Q Q' : St → Hp → Prop), (∀ σ' H', Q σ' H' → Q' σ' H') → gs v σ H Q → gs v σ H Q') : ∀ v σ H (Q Q' : St → Hp → Prop), (∀ σ' H', Q σ' H' → Q' σ' H') → gCons (gName i) gs v σ H Q → gCons (gName i) gs v σ H Q' :=
  fun _ _ _ _ _ k q => by obtain ⟨x, r, e, q⟩ := q; exact ⟨x, r, e, m _ _ _ _ _ k q⟩
/-- (i, j) -/
theorem only_pair {K : PySem.W.Frag} {i j : Nat} {vs : List Nat} (h1 : i ∈ vs) (h2 : j ∈ vs) : Only (gTup K 2 (gCons (gName i) (gCons (gName j) gNil))) vs :=
  only_tup (onlyS_cons mono_name (mono_consN mono_nil) (only_name h1) (onlyS_cons mono_name mono_nil (only_name h2) onlyS_nil))
def wipeE (ρ : Env') : List Nat → Env'
  | [] => ρ
  | j :: r => (wipeE ρ r).set j none
section
variable {K : PySem.W.Frag} {H0 H : Hp} {c : Ctx}
theorem Slots.setNone : ∀ {ρ : Env'} {σ : St} {os : List Addr} (i : Nat), Slots K H0 H ρ σ os → ∃ os', Slots K H0 H (ρ.set i none) (σ.set i none) os' ∧ os'.Sublist os
  | _, _, _, _, .nil => ⟨[], .nil, .slnil⟩
  | _, _, _, 0, .skip h => ⟨_, .skip h, .refl _⟩
  | _, _, _, i + 1, .skip h => let ⟨os', h1, h2⟩ := h.setNone i; ⟨os', .skip h1, h2⟩
  | _, _, _, 0, .dat _ h => ⟨_, .skip h, .refl _⟩
  | _, _, _, i + 1, .dat r' h => let ⟨os', h1, h2⟩ := h.setNone i; ⟨os', .dat r' h1, h2⟩
  | _, _, _, 0, .own _ _ _ h => ⟨_, .skip h, List.sublist_cons_self _ _⟩
  | _, _, _, i + 1, .own ht hp r' h => let ⟨os', h1, h2⟩ := h.setNone i; ⟨_ :: os', .own ht hp r' h1, .cons_cons _ h2⟩
theorem At.wiped {ρ : Env'} {σ : St} (a : At K c ρ H0 H σ) : ∀ vs : List Nat, At K c (wipeE ρ vs) H0 H (wipe σ vs)
  | [] => a
  | v :: vs => by
    obtain ⟨os, s, nd, f⟩ := (a.wiped vs).sl
    obtain ⟨os', s', sub⟩ := s.setNone v
    exact ⟨a.px, a.tab, os', s', nd.sublist sub, fun p hp => f p (sub.subset hp)⟩
end
/-- where nothing is raised -/
abbrev Wx.quiet (w : Wx) : Wx := ⟨w.K, fun _ _ _ => False, fun _ => False, w.T⟩
theorem quiet_link {w : Wx} {c : Ctx} (h : c.T = w.T) : XLink w.quiet c := ⟨h, fun _ h => h.elim⟩
theorem ExN.lst {T : List (Addr × Str)} {H H' : Hp} {a : Addr} {us : List V} (x : ExN T H H') (h : H a = some (.lst us)) : H' a = some (.lst us) := (x a _ h).elim id fun ⟨_, _, _, e, _⟩ => nomatch e
/-- [e for target in items if test]: I i acc, acc made of the first i items -/
theorem wE_lc {w : Wx} {ρ : Env'} {Φ : D → Env' → Prop} {wi : TI} {g : TG} {tt : TT} {te : TE} {vs : List Nat} (hon : Only g vs)
    (h : wI w wi ρ fun ds ρ1 => ds.length ≤ 1000000 ∧ ∃ I : Nat → List D → Prop, I 0 [] ∧ (∀ i d acc, ds[i]? = some d → I i acc → wG w.quiet g d (wipeE (hide ρ1) vs) fun ρ2 => wT w.quiet tt ρ2 fun b ρ3 =>
      if b = true then wE w.quiet te ρ3 fun y _ => I (i + 1) (acc ++ [y]) else I (i + 1) acc) ∧ (∀ acc, acc.length ≤ ds.length → I ds.length acc → Φ (.lst acc) ρ1)) : wE w (tLc wi g tt te vs) ρ Φ := fun c H0 H σ Q a x k => by
  refine h c H0 H σ _ a x fun J ds ρ1 H01 H1 ⟨hz, I, i0, step, done⟩ a1 e1 go stop yld => ?_
  intro Dl hD
  have hD0 : H01 Dl = none := a1.px.i.back hD
  refine ⟨fun i m H' => m = ds.length - i ∧ i ≤ ds.length ∧ ∃ H0' us acc, PX ⟨H1, H01, c.T⟩ H0' H' ∧ TabA c.T H0' H' ∧ H' Dl = some (.lst us) ∧ H0' Dl = none ∧ RepAll w.K H0' us acc ∧ acc.length ≤ i ∧ I i acc,
    ⟨_, rfl, Nat.zero_le _, H01, [], [], (PX.refl a1.px.i).change hD0 hD, a1.tab.keep (ext_both (Ex.new hD)) (fun _ h _ => h), upd_same, hD0, .nil, Nat.zero_le _, i0⟩, ?_⟩
  rintro i m H' ⟨rfl, hi, H0', us, acc, p, tb, hl, h0, r, hn, hI⟩
  have known : ∀ {H : Hp} {us : List V}, H Dl = some (.lst us) → H Dl ≠ none := fun e z => by rw [e] at z; cases z
  have tabD : ∀ {H : Hp} {us us' : List V}, H Dl = some (.lst us) → ∀ b o, H b = some o → (∀ xs, o ≠ .lst xs) → (∀ xs, o ≠ .dK xs) → (∀ C dx xs, o ≠ .ins C dx xs) → upd H Dl (.lst us') b = some o := fun {H us us'} e b o hb n1 _ _ => by
    have hne : b ≠ Dl := fun z => by
      rw [z, e] at hb
      cases hb
      exact n1 _ rfl
    exact (upd_ne hne).trans hb
  by_cases hlt : i < ds.length
  · refine .inr ⟨go i H0' H' p.e0 p.i hlt, fun H'' => ∃ H0' us acc, PX ⟨H1, H01, c.T⟩ H0' H'' ∧ TabA c.T H0' H'' ∧ H'' Dl = some (.lst us) ∧ H0' Dl = none ∧ RepAll w.K H0' us acc ∧ acc.length ≤ i + 1 ∧ I (i + 1) acc,
      fun H'' ⟨H0', us, acc, q⟩ => ⟨ds.length - (i + 1), by omega, rfl, hlt, H0', us, acc, q⟩, fun v H2 y => ?_⟩
    obtain ⟨d, H02, hd, p2, r2⟩ := yld i H0' H' v H2 p.e0 p.i hlt y
    have P2 := p.trans p2
    have l2 : H2 Dl = some (.lst us) := p2.ex _ _ hl
    have n2 : H02 Dl = none := p2.n Dl (known hl) h0
    have tb2 : TabA c.T H02 H2 := tb.keep (ext_both p2.ex) fun q h1 ⟨ps, h2⟩ => p2.n q (by show H' q ≠ none; rw [h2]; exact nofun) h1
    have aw : At w.quiet.K ⟨H2, H02, c.T⟩ (wipeE (hide ρ1) vs) H02 H2 (wipe σ vs) := ((a1.goT P2 tb2).freshT).wiped vs
    have ql : XLink w.quiet ⟨H2, H02, c.T⟩ := quiet_link x.t
    have s := step i d acc hd hI ⟨H2, H02, c.T⟩ H02 H2 (wipe σ vs) v (fun σ2 H2' => tt σ2 H2' fun b H3 => if b = true then te σ2 H3 fun y H4 => ∃ acc, H4 Dl = some (.lst acc) ∧ acc.length < sizeLine ∧
      (∃ H0' us ac, PX ⟨H1, H01, c.T⟩ H0' (upd H4 Dl (.lst (acc ++ [y]))) ∧ TabA c.T H0' (upd H4 Dl (.lst (acc ++ [y]))) ∧ (upd H4 Dl (.lst (acc ++ [y]))) Dl = some (.lst us) ∧ H0' Dl = none ∧ RepAll w.K H0' us ac ∧ ac.length ≤ i + 1 ∧ I (i + 1) ac)
      else (∃ H0' us ac, PX ⟨H1, H01, c.T⟩ H0' H3 ∧ TabA c.T H0' H3 ∧ H3 Dl = some (.lst us) ∧ H0' Dl = none ∧ RepAll w.K H0' us ac ∧ ac.length ≤ i + 1 ∧ I (i + 1) ac)) aw ql r2 fun ρ3 H03 H3 σ3 q3 a3 e3 => ?_
    · have s2 := hon _ _ _ _ s
      rw [wipe_wipe] at s2
      exact s2
    · refine q3 ⟨H2, H02, c.T⟩ H03 H3 σ3 _ a3 ql fun b ρ4 H04 H4 q4 a4 e4 => ?_
      cases b with
      | true =>
        rw [if_pos rfl] at q4 ⊢
        refine q4 ⟨H2, H02, c.T⟩ H04 H4 σ3 _ a4 ql fun yv yd ρ5 H05 H5 q5 a5 e5 r5 => ?_
        have l5 : H5 Dl = some (.lst us) := a5.px.e.lst l2
        have n5 : H05 Dl = none := a5.px.n Dl (known l2) n2
        have P5 : PX ⟨H1, H01, c.T⟩ H05 H5 := P2.transT a5.px
        refine ⟨us, l5, len_lt (by rw [r.length]; omega), H05, us ++ [yv], acc ++ [yd], P5.change n5 hD, a5.tab.keep (tabD l5) (fun _ h _ => h), upd_same, n5, (r.mono (p2.e0.trans a5.px.e0)).append (.cons r5 .nil), by rw [List.length_append]; simp; omega, q5⟩
      | false =>
        rw [if_neg Bool.false_ne_true] at q4 ⊢
        exact ⟨H04, us, acc, P2.transT a4.px, a4.tab, a4.px.e.lst l2, a4.px.n Dl (known l2) n2, r.mono (p2.e0.trans a4.px.e0), by omega, q4⟩
  · have e : i = ds.length := by omega
    subst e
    have P := p.learn hl h0 hD
    have tb' : TabA c.T (upd H0' Dl (.lst us)) H' := tb.keep (fun _ _ h _ _ _ => h) fun q h1 ⟨ps, h2⟩ => by
      have hne : q ≠ Dl := fun z => by rw [z, hl] at h2; cases h2
      exact (upd_ne hne).trans h1
    refine .inl ⟨stop H0' H' p.e0 p.i, k _ (.lst acc) ρ1 _ H' (done acc hn hI) (a1.goT P tb') (e1.trans P.e0) (.lst upd_same (r.mono (Ex.new h0)))⟩
end DL
namespace DL
open PySem PySem.Spec L2
open PyProof.Rows hiding St
/-! ### promises over data -/
abbrev DSp := List D → (D → Prop) → (Exn → Prop) → Prop
/-- a promise over data, as one over heaps -/
def lift (K : PySem.W.Frag) (S : DSp) : Sp := fun vs H Q E => ∃ (H0 : Hp) (ds : List D) (Φ : D → Prop) (Ψ : Exn → Prop), Ex H0 H ∧ RepAll K H0 vs ds ∧ S ds Φ Ψ ∧
  (∀ v d H0' H', Φ d → PX ⟨H, H0, []⟩ H0' H' → Rep K H0' v d → Q v H') ∧ (∀ x dd H0' H', Ψ x → PX ⟨H, H0, []⟩ H0' H' → RepX K H0' H' x dd → E (.ref x.C) dd H')
def startE (N : List Str) (ds : List D) : Env' := (ds.map fun d => some (.dat d)) ++ List.replicate (N.length - ds.length) none
theorem slots_none {K : PySem.W.Frag} {H0 H : Hp} : ∀ n : Nat, Slots K H0 H (List.replicate n none) (List.replicate n none) []
  | 0 => .nil
  | n + 1 => .skip (slots_none n)
theorem slots_start {K : PySem.W.Frag} {H0 H : Hp} {n : Nat} : ∀ {vs : List V} {ds : List D}, RepAll K H0 vs ds → Slots K H0 H ((ds.map fun d => some (.dat d)) ++ List.replicate n none) (vs.map some ++ List.replicate n none) []
  | _, _, .nil => slots_none n
  | _, _, .cons r rs => .dat r (slots_start rs)
theorem at_start {K : PySem.W.Frag} {H0 H : Hp} {N : List Str} {vs : List V} {ds : List D} (e : Ex H0 H) (r : RepAll K H0 vs ds) : At K ⟨H, H0, []⟩ (startE N ds) H0 H (L2.start N vs) := by
  refine ⟨PX.refl e, .nil, [], ?_, List.nodup_nil, fun _ h => nomatch h⟩
  unfold startE L2.start
  rw [r.length]
  exact slots_start r
section
variable {P : Program} {w : World} {K : PySem.W.Frag} {mg : Str → Option Value} {base : Heap}
/-- a def of the text that keeps a promise over data -/
structure CallD (P : Program) (w : World) (K : PySem.W.Frag) (mg : Str → Option Value) (base : Heap) (x : Str) (k : Nat) (S : DSp) : Prop where
  ex : ∃ f fd ps, FnG P w K mg base k f fd ps (lift K S) ∧ mg x = some (.ref f) ∧ PySem.W.keepIn K (.ref f) = true ∧ Binds K fd ps []
end
section
variable {X : Cx} {k : Nat} {E : XK} {x : Str} {p pos : Pos} {e : Expr} {es : List Expr} {t : TA} {S : DSp}
theorem pe_callD (c : CallD X.prog X.w X.K X.mg X.base x k S) (room : RoomG k X.A) (hx : Passes (CXD X.prog X.w) X E) (ha : PA X (e :: es) t) (hg : Gl X x := by rfl) (hdb : (x == ("__debug__" : Str)) = false := by decide)
    (he : starEach (e :: es) X.env = (false, eval e X.env) :: starEach es X.env := by rfl) (hpl : (backTo pos (starEach es X.env)).any (·.1) = false := by rfl) : PE X (.Call (.Name x p) (e :: es) [] pos) (tCall (lift X.K S) [] E t) := by
  obtain ⟨f, fd, ps, F, hm, hk, hb⟩ := c.ex
  exact pe_callG F room hg hm hk hb .nil hx ha hdb he hpl
end
section
variable {w : Wx} {ρ : Env'} {Φ : D → Env' → Prop} {ta : TA} {S : DSp}
theorem wE_call (h : wA w ta ρ fun ds ρ1 => S ds (fun d => Φ d ρ1) w.X) : wE w (tCall (lift w.K S) [] w.EX ta) ρ Φ := fun c H0 H σ Q a x k =>
  h c H0 H σ _ a x fun vs ds ρ1 H01 H1 q a1 e1 r1 => ⟨H01, ds, fun d => Φ d ρ1, w.X, a1.px.i, by rw [List.append_nil]; exact r1, q,
    fun v d H0' H' z p rv => k v d ρ1 H0' H' z (a1.go p) (e1.trans p.e0) rv, fun y dd H0' H' z p rx => x.l y z dd H0' H' (a1.px.trans p) rx⟩
end
/-! ### what is walked -/
def itemsD : D → Option (List D)
  | .lst l => some l
  | .tup l => some l
  | .str s => some (s.cps.toList.map fun c => .str ⟨#[c]⟩)
  | _ => none
def rangeD (lo hi : Int) : List D := (List.range (hi - lo).toNat).map fun (i : Nat) => D.int (lo + (i : Int))
def enumD (l : List D) : List D := List.zipWith (fun (i : Nat) (d : D) => D.tup [D.int (i : Int), d]) (List.range l.length) l
section
variable {w : Wx} {ρ : Env'} {Φ : List D → Env' → Prop} {te : TE} {ta : TA}
theorem yield_at {K : PySem.W.Frag} {H0' H01 H1 : Hp} {xs : List V} {ds : List D} {i : Nat} {x : V} {H2 : Hp} (hr : RepAll K H0' xs ds) (e : Ex H0' H01) (j : Ex H01 H1) (y : YAt xs i H1 x H2) : ∃ d H02, ds[i]? = some d ∧ PX ⟨H1, H01, []⟩ H02 H2 ∧ Rep K H02 x d := by
  obtain ⟨e1, e2⟩ := y
  subst e1
  obtain ⟨d, h1, h2⟩ := hr.getV e2
  exact ⟨d, H01, h1, PX.refl j, h2.mono e⟩
theorem wI_any (h : wE w te ρ fun d ρ1 => ∃ ds, itemsD d = some ds ∧ Φ ds ρ1) : wI w (iAny w.K te) ρ Φ := fun c H0 H σ R a x k =>
  h c H0 H σ _ a x fun v d ρ1 H01 H1 ⟨ds, hi, q⟩ a1 e1 r1 => by
    cases r1 with
    | lst hp hr =>
      cases hi
      exact .inl ⟨_, rfl, ⟨_, .inl (.inl (a1.px.i _ _ hp))⟩, k _ _ ρ1 H01 H1 q a1 e1
        (fun i Ha Hb e j lt => (walk_list (K := w.K)).goes i Hb (by rw [hr.length]; exact lt) (.inl (.inl (j _ _ (e _ _ hp))))) (fun Ha Hb e j => by rw [← hr.length]; exact (walk_list (K := w.K)).stops Hb (.inl (.inl (j _ _ (e _ _ hp)))))
        (fun i Ha Hb x Hc e j lt y => yield_at hr e j ((walk_list (K := w.K)).yields i Hb x Hc (by rw [hr.length]; exact lt) (.inl (.inl (j _ _ (e _ _ hp)))) y))⟩
    | tup hp hr =>
      cases hi
      exact .inr (.inl ⟨_, rfl, ⟨_, sqT_ex a1.px.i hp⟩, k _ _ ρ1 H01 H1 q a1 e1
        (fun i Ha Hb e j lt => (walk_tup (K := w.K)).goes i Hb (by rw [hr.length]; exact lt) (sqT_ex (e.trans j) hp)) (fun Ha Hb e j => by rw [← hr.length]; exact (walk_tup (K := w.K)).stops Hb (sqT_ex (e.trans j) hp))
        (fun i Ha Hb x Hc e j lt y => yield_at hr e j ((walk_tup (K := w.K)).yields i Hb x Hc (by rw [hr.length]; exact lt) (sqT_ex (e.trans j) hp) y))⟩)
    | str z =>
      cases hi
      have hl : (z.cps.toList.map fun c => D.str ⟨#[c]⟩).length = z.cps.size := by rw [List.length_map]; simp
      refine .inr (.inr ⟨z, rfl, k _ _ ρ1 H01 H1 q a1 e1 (fun i Ha Hb e j lt => walk_str.goes i Hb (by rw [← hl]; exact lt) trivial) (fun Ha Hb e j => by rw [hl]; exact walk_str.stops Hb trivial) (fun i Ha Hb x Hc e j lt y => ?_)⟩)
      obtain ⟨y1, ch, y2, y3⟩ := walk_str.yields i Hb x Hc (by rw [← hl]; exact lt) trivial y
      subst y1 y3
      refine ⟨.str ⟨#[ch]⟩, Ha, ?_, PX.refl j, .str _⟩
      rw [List.getElem?_map, Array.getElem?_toList, y2]
      rfl
    | _ => cases hi
theorem wI_range1 (h : wA w ta ρ fun ds ρ1 => ∃ j : Int, ds = [.int j] ∧ (-1000000 ≤ j ∧ j ≤ 1000000) ∧ Φ (rangeD 0 j) ρ1) : wI w (iRng1 ta) ρ Φ := fun c H0 H σ R a x k =>
  h c H0 H σ _ a x fun vs ds ρ1 H01 H1 ⟨j, e, hj, q⟩ a1 e1 r1 => by
    subst e
    cases r1 with
    | cons r rs =>
      cases rs; cases r
      have hl : (rangeD 0 j).length = j.toNat := by unfold rangeD; rw [List.length_map, List.length_range]; omega
      refine ⟨j, rfl, by omega, by omega, k _ _ ρ1 H01 H1 q a1 e1 (fun i Ha Hb e j' lt => walk_range.goes i Hb (by rw [← hl]; exact lt) trivial) (fun Ha Hb e j' => by rw [hl]; exact walk_range.stops Hb trivial) (fun i Ha Hb x Hc e j' lt y => ?_)⟩
      obtain ⟨y1, y2⟩ := walk_range.yields i Hb x Hc (by rw [← hl]; exact lt) trivial y
      subst y1 y2
      refine ⟨.int (0 + (i : Int)), Ha, ?_, PX.refl j', .int _⟩
      rw [hl] at lt
      unfold rangeD
      rw [List.getElem?_map, List.getElem?_range (by omega)]
      rfl
theorem wI_range2 (h : wA w ta ρ fun ds ρ1 => ∃ i j : Int, ds = [.int i, .int j] ∧ (-1000000 ≤ i ∧ i ≤ 1000000 ∧ -1000000 ≤ j ∧ j ≤ 1000000) ∧ Φ (rangeD i j) ρ1) : wI w (iRng2 ta) ρ Φ := fun c H0 H σ R a x k =>
  h c H0 H σ _ a x fun vs ds ρ1 H01 H1 ⟨m, j, e, hj, q⟩ a1 e1 r1 => by
    subst e
    cases r1 with
    | cons r rs =>
      cases rs with
      | cons r2 rs =>
        cases rs; cases r; cases r2
        have hl : (rangeD m j).length = (j - m).toNat := by unfold rangeD; rw [List.length_map, List.length_range]
        refine ⟨m, j, rfl, by omega, k _ _ ρ1 H01 H1 q a1 e1 (fun i Ha Hb e j' lt => walk_range.goes i Hb (by rw [← hl]; exact lt) trivial) (fun Ha Hb e j' => by rw [hl]; exact walk_range.stops Hb trivial) (fun i Ha Hb x Hc e j' lt y => ?_)⟩
        obtain ⟨y1, y2⟩ := walk_range.yields i Hb x Hc (by rw [← hl]; exact lt) trivial y
        subst y1 y2
        refine ⟨.int (m + (i : Int)), Ha, ?_, PX.refl j', .int _⟩
        rw [hl] at lt
        unfold rangeD
        rw [List.getElem?_map, List.getElem?_range lt]
        rfl
theorem wI_enumT (h : wA w ta ρ fun ds ρ1 => ∃ l, ds = [.tup l] ∧ Φ (enumD l) ρ1) : wI w (iEnumT w.K ta) ρ Φ := fun c H0 H σ R a x k =>
  h c H0 H σ _ a x fun vs ds ρ1 H01 H1 ⟨l, e, q⟩ a1 e1 r1 => by
    subst e
    cases r1 with
    | cons r rs =>
      cases rs
      cases r with
      | tup hp hr =>
        have hl : (enumD l).length = l.length := by unfold enumD; rw [List.length_zipWith, List.length_range]; omega
        refine ⟨_, _, rfl, sqT_ex a1.px.i hp, k _ _ ρ1 H01 H1 q a1 e1 (fun i Ha Hb e j lt => ?_) (fun Ha Hb e j => ⟨_, sqT_ex (e.trans j) hp, by rw [hl]; exact hr.length⟩) (fun i Ha Hb x Hc e j lt y => ?_)⟩
        · exact ⟨_, _, sqT_ex (e.trans j) hp, List.getElem?_eq_getElem (by rw [hr.length]; rw [hl] at lt; exact lt)⟩
        · obtain ⟨T, xv, y1, y2, y3, y4⟩ := y
          subst y1 y3
          obtain ⟨d, g1, g2⟩ := hr.getV (y4 _ (sqT_ex (e.trans j) hp))
          have nx := (PX.refl (T := []) j).new (o := .tup [.int (i : Nat), xv]) y2
          refine ⟨.tup [.int (i : Nat), d], _, ?_, nx, .tup (.inl (.inl upd_same)) (.cons (.int _) (.cons (g2.mono (e.trans nx.e0)) .nil))⟩
          unfold enumD
          rw [List.getElem?_zipWith, List.getElem?_range (by rw [hl] at lt; exact lt), g1]
def zipD (l1 l2 : List D) : List D := List.zipWith (fun x y => .tup [x, y]) l1 l2
theorem wI_zipT (h : wA w ta ρ fun ds ρ1 => ∃ l1 l2, ds = [.tup l1, .tup l2] ∧ Φ (zipD l1 l2) ρ1) : wI w (RZ.iZipA w.K ta) ρ Φ := fun c H0 H σ R a x k =>
  h c H0 H σ _ a x fun vs ds ρ1 H01 H1 ⟨l1, l2, e, q⟩ a1 e1 r1 => by
    subst e
    cases r1 with
    | cons r rs =>
      cases rs with
      | cons r' rs =>
        cases rs
        cases r with
        | tup hp hr =>
          cases r' with
          | tup hp' hr' =>
            have hl : (zipD l1 l2).length = min l1.length l2.length := List.length_zipWith
            refine ⟨_, _, _, _, rfl, .inr ⟨sqT_ex a1.px.i hp, sqT_ex a1.px.i hp', k _ _ ρ1 H01 H1 q a1 e1 (fun i Ha Hb e j lt => ?_) (fun Ha Hb e j => ⟨_, _, sqT_ex (e.trans j) hp, sqT_ex (e.trans j) hp', ?_⟩) (fun i Ha Hb x Hc e j lt y => ?_)⟩⟩
            · have h1 := hr.length
              have h2 := hr'.length
              exact ⟨_, _, _, _, sqT_ex (e.trans j) hp, sqT_ex (e.trans j) hp', List.getElem?_eq_getElem (by omega), List.getElem?_eq_getElem (by omega)⟩
            · rw [hl, hr.length, hr'.length]; omega
            · obtain ⟨T, xv, yv, y1, y2, y3, y4, y5⟩ := y
              subst y1 y3
              obtain ⟨d, g1, g2⟩ := hr.getV (y4 _ (sqT_ex (e.trans j) hp))
              obtain ⟨d', g1', g2'⟩ := hr'.getV (y5 _ (sqT_ex (e.trans j) hp'))
              have nx := (PX.refl (T := []) j).new (o := .tup [xv, yv]) y2
              refine ⟨.tup [d, d'], _, ?_, nx, .tup (.inl (.inl upd_same)) (.cons (g2.mono (e.trans nx.e0)) (.cons (g2'.mono (e.trans nx.e0)) .nil))⟩
              unfold zipD
              rw [List.getElem?_zipWith, g1, g1']
end
end DL
namespace DL
open PySem PySem.Spec L2
open PyProof.Rows hiding St
/-! ### operators over data -/
section
variable {K : PySem.W.Frag}
theorem fin0 {H0 H : Hp} {v : V} {d : D} {Φ : D → Prop} {Q : VK} (e : Ex H0 H) (q : Φ d) (r : Rep K H0 v d) (k : ∀ v d H0' H', Φ d → PX ⟨H, H0, []⟩ H0' H' → Rep K H0' v d → Q v H') : Q v H := k v d H0 H q (PX.refl e) r
theorem finL {H0 H : Hp} {xs : List V} {ds : List D} {Φ : D → Prop} {Q : VK} (e : Ex H0 H) (q : Φ (.lst ds)) (r : RepAll K H0 xs ds) (k : ∀ v d H0' H', Φ d → PX ⟨H, H0, []⟩ H0' H' → Rep K H0' v d → Q v H') : ∀ p, H p = none → Q (.ref p) (upd H p (.lst xs)) := fun p hp => by
  have y : PX ⟨H, H0, []⟩ (upd H0 p (.lst xs)) (upd H p (.lst xs)) := (PX.refl e).new hp
  exact k _ _ _ _ q y (.lst upd_same (r.mono y.e0))
theorem finT {H0 H : Hp} {xs : List V} {ds : List D} {Φ : D → Prop} {Q : VK} (e : Ex H0 H) (q : Φ (.tup ds)) (r : RepAll K H0 xs ds) (k : ∀ v d H0' H', Φ d → PX ⟨H, H0, []⟩ H0' H' → Rep K H0' v d → Q v H') : ∀ p, H p = none → Q (.ref p) (upd H p (.tup xs)) := fun p hp => by
  have y : PX ⟨H, H0, []⟩ (upd H0 p (.tup xs)) (upd H p (.tup xs)) := (PX.refl e).new hp
  exact k _ _ _ _ q y (.tup (.inl (.inl upd_same)) (r.mono y.e0))
/-! a + b -/
def rAdd (K : PySem.W.Frag) : R2 := fun x y H Q => (rI0 fun i j => .int (i + j)) x y H Q ∨ (∃ i j, x = .str i ∧ y = .str j ∧ i.length + j.length ≤ sizeLine ∧ Q (.str (i ++ j)) H) ∨ rCat x y H Q ∨ rCatA K x y H Q
def addG (x y : D) (Φ : D → Prop) : Prop := match x, y with
  | .int i, .int j => Φ (.int (i + j))
  | .str i, .str j => i.length + j.length ≤ 1000000 ∧ Φ (.str (i ++ j))
  | .lst l, .lst m => l.length + m.length ≤ 1000000 ∧ Φ (.lst (l ++ m))
  | .tup l, .tup m => l.length + m.length ≤ 1000000 ∧ Φ (.tup (l ++ m))
  | _, _ => False
theorem opd_add : OpD K (rAdd K) addG := fun H0 H x y dx dy Φ Q e rx ry g k => by
  cases rx <;> cases ry <;> first
    | exact g.elim
    | exact .inl ⟨_, _, rfl, rfl, fin0 e g (.int _) k⟩
    | exact .inr (.inl ⟨_, _, rfl, rfl, len_ok g.1, fin0 e g.2 (.str _) k⟩)
    | (rename_i h1 r1 _ _ _ h2 r2; exact .inr (.inr (.inl ⟨_, _, _, _, rfl, rfl, e _ _ h1, e _ _ h2, len_ok (by rw [r1.length, r2.length]; exact g.1), finL e g.2 (r1.append r2) k⟩)))
    | (rename_i h1 r1 _ _ _ h2 r2
       refine .inr (.inr (.inr ⟨_, _, _, _, rfl, rfl, sqT_ex e h1, sqT_ex e h2, len_ok (by rw [r1.length, r2.length]; exact g.1), fun z => ?_, fun _ z => ?_, fun _ _ => finT e g.2 (r1.append r2) k⟩))
       · subst z; cases r1; exact fin0 e (by have := g.2; rwa [List.nil_append] at this) (.tup h2 r2) k
       · subst z; cases r2; exact fin0 e (by have := g.2; rwa [List.append_nil] at this) (.tup h1 r1) k)
/-! ints -/
def intG (C : Int → Int → Prop) (f : Int → Int → D) (x y : D) (Φ : D → Prop) : Prop := match x, y with
  | .int i, .int j => C i j ∧ Φ (f i j)
  | _, _ => False
def intG0 (f : Int → Int → D) (x y : D) (Φ : D → Prop) : Prop := match x, y with
  | .int i, .int j => Φ (f i j)
  | _, _ => False
theorem opd_int {C : Int → Int → Prop} {f : Int → Int → D} {g : Int → Int → V} (hr : ∀ H i j, Rep K H (g i j) (f i j)) : OpD K (rI C g) (intG C f) := fun H0 H x y dx dy Φ Q e rx ry h k => by
  cases rx <;> cases ry <;> first
    | exact h.elim
    | exact ⟨_, _, rfl, rfl, h.1, fin0 e h.2 (hr _ _ _) k⟩
theorem opd_int0 {f : Int → Int → D} {g : Int → Int → V} (hr : ∀ H i j, Rep K H (g i j) (f i j)) : OpD K (rI0 g) (intG0 f) := fun H0 H x y dx dy Φ Q e rx ry h k => by
  cases rx <;> cases ry <;> first
    | exact h.elim
    | exact ⟨_, _, rfl, rfl, fin0 e h (hr _ _ _) k⟩
def subG : D → D → (D → Prop) → Prop := intG0 fun i j => .int (i - j)
def fdivG : D → D → (D → Prop) → Prop := intG CDiv fun i j => .int (i / j)
def modG : D → D → (D → Prop) → Prop := intG (fun _ j => 0 < j) fun i j => .int (i % j)
def powG : D → D → (D → Prop) → Prop := intG CPow fun i j => .int (i ^ j.toNat)
def ltG : D → D → (D → Prop) → Prop := intG0 fun i j => .bl (decide (i < j))
def leG : D → D → (D → Prop) → Prop := intG0 fun i j => .bl (decide (i ≤ j))
def gtG : D → D → (D → Prop) → Prop := intG0 fun i j => .bl (decide (j < i))
def geG : D → D → (D → Prop) → Prop := intG0 fun i j => .bl (decide (j ≤ i))
theorem opd_sub : OpD K (rI0 fun i j => .int (i - j)) subG := opd_int0 fun _ _ _ => .int _
theorem opd_fdiv : OpD K (rI CDiv fun i j => .int (i / j)) fdivG := opd_int fun _ _ _ => .int _
theorem opd_mod : OpD K (rI (fun _ j => 0 < j) fun i j => .int (i % j)) modG := opd_int fun _ _ _ => .int _
theorem opd_pow : OpD K (rI CPow fun i j => .int (i ^ j.toNat)) powG := opd_int fun _ _ _ => .int _
theorem opd_lt : OpD K (rI0 fun i j => .bl (decide (i < j))) ltG := opd_int0 fun _ _ _ => .bl _
theorem opd_le : OpD K (rI0 fun i j => .bl (decide (i ≤ j))) leG := opd_int0 fun _ _ _ => .bl _
theorem opd_gt : OpD K (rI0 fun i j => .bl (decide (j < i))) gtG := opd_int0 fun _ _ _ => .bl _
theorem opd_ge : OpD K (rI0 fun i j => .bl (decide (j ≤ i))) geG := opd_int0 fun _ _ _ => .bl _
/-- a * b: one of both small, or both together of at most so many bits -/
def MulC (i j : Int) : Prop := CMul i j ∨ CMulX i j
def rMul : R2 := fun x y H Q => rI CMul (fun i j => .int (i * j)) x y H Q ∨ rI CMulX (fun i j => .int (i * j)) x y H Q
def mulG : D → D → (D → Prop) → Prop := intG MulC fun i j => .int (i * j)
theorem opd_mul : OpD K rMul mulG := fun H0 H x y dx dy Φ Q e rx ry h k => by
  cases rx <;> cases ry <;> first
    | exact h.elim
    | (rcases h.1 with c | c
       · exact .inl ⟨_, _, rfl, rfl, c, fin0 e h.2 (.int _) k⟩
       · exact .inr ⟨_, _, rfl, rfl, c, fin0 e h.2 (.int _) k⟩)
theorem MulC.left {i j : Int} (h1 : -(2 ^ 64) < i) (h2 : i < 2 ^ 64) : MulC i j := .inl (.inl ⟨h1, h2⟩)
theorem MulC.right {i j : Int} (h1 : -(2 ^ 64) < j) (h2 : j < 2 ^ 64) : MulC i j := .inl (.inr ⟨h1, h2⟩)
def unG (f : Int → D) (x : D) (Φ : D → Prop) : Prop := match x with
  | .int i => Φ (f i)
  | _ => False
theorem und_neg : UnD K (rU fun i => .int (-i)) (unG fun i => .int (-i)) := fun H0 H x dx Φ Q e rx h k => by
  cases rx <;> first
    | exact h.elim
    | exact ⟨_, rfl, fin0 e h (.int _) k⟩
/-! data as such -/
mutual
def D.py : D → PyData
  | .non => .none
  | .bl b => .bool b
  | .int i => .int i
  | .str x => .str x
  | .tup l => .tuple (pyAll l)
  | .lst l => .list (pyAll l)
  | .dic _ | .ins _ _ | .pail | .scr _ | .raw _ | .exn _ _ _ | .dik _ | .kd _ _ _ _ => .none
def pyAll : List D → List PyData
  | [] => []
  | d :: l => d.py :: pyAll l
end
mutual
def D.pure : D → Bool
  | .non => true
  | .bl _ => true
  | .int _ => true
  | .str x => PyData.strOk x
  | .tup l => pureAll l
  | .lst l => pureAll l
  | .dic _ => false
  | .ins _ _ => false
  | .pail => false
  | .scr _ => false
  | .raw _ => false
  | .exn _ _ _ => false
  | .dik _ => false
  | .kd _ _ _ _ => false
def pureAll : List D → Bool
  | [] => true
  | d :: l => d.pure && pureAll l
end
mutual
theorem dp_of {H0 H : Hp} (e : Ex H0 H) : ∀ {v : V} {d : D}, Rep K H0 v d → d.pure = true → Dp K H v d.py
  | _, _, .non, _ => .non
  | _, _, .bl b, _ => .bl b
  | _, _, .int i, _ => .int i
  | _, _, .str x, _ => .str x
  | _, _, .tup h hs, p => .tup (sqT_ex e h) (dpAll_of e hs (by simpa [D.pure] using p))
  | _, _, .lst h hs, p => .lst (.inl (.inl (e _ _ h))) (dpAll_of e hs (by simpa [D.pure] using p))
  | _, _, .dic _ _, p => by simp [D.pure] at p
  | _, _, .dik _ _, p => by simp [D.pure] at p
  | _, _, .kd _ _, p => by simp [D.pure] at p
  | _, _, .ins _ _, p => by simp [D.pure] at p
  | _, _, .pail _, p => by simp [D.pure] at p
  | _, _, .scr _, p => by simp [D.pure] at p
  | _, _, .raw _, p => by simp [D.pure] at p
  | _, _, .exn _ _, p => by simp [D.pure] at p
theorem dpAll_of {H0 H : Hp} (e : Ex H0 H) : ∀ {vs : List V} {ds : List D}, RepAll K H0 vs ds → pureAll ds = true → DpAll K H vs (pyAll ds)
  | _, _, .nil, _ => .nil
  | _, _, .cons h hs, p => by
    have p' := p
    simp only [pureAll, Bool.and_eq_true] at p'
    exact .cons (dp_of e h p'.1) (dpAll_of e hs p'.2)
end
mutual
theorem canLay_of_pure : ∀ d : D, d.pure = true → d.py.canLay0 = true
  | .non, _ => by simp [D.py, PyData.canLay0]
  | .bl _, _ => by simp [D.py, PyData.canLay0]
  | .int _, _ => by simp [D.py, PyData.canLay0]
  | .str x, h => by simpa [D.py, D.pure, PyData.canLay0] using h
  | .tup l, h => by simpa [D.py, PyData.canLay0] using canLayAll_of_pure l (by simpa [D.pure] using h)
  | .lst l, h => by simpa [D.py, PyData.canLay0] using canLayAll_of_pure l (by simpa [D.pure] using h)
  | .dic _, h => by simp [D.pure] at h
  | .ins _ _, h => by simp [D.pure] at h
  | .pail, h => by simp [D.pure] at h
  | .scr _, h => by simp [D.pure] at h
  | .raw _, h => by simp [D.pure] at h
  | .exn _ _ _, h => by simp [D.pure] at h
  | .dik _, h => by simp [D.pure] at h
  | .kd _ _ _ _, h => by simp [D.pure] at h
theorem canLayAll_of_pure : ∀ l : List D, pureAll l = true → PyData.canLayAll0 (pyAll l) = true
  | [], _ => by simp [pyAll, PyData.canLayAll0]
  | d :: l, h => by
    simp only [pureAll, Bool.and_eq_true] at h
    simp only [pyAll, PyData.canLayAll0, canLay_of_pure d h.1, canLayAll_of_pure l h.2, Bool.and_self]
end
/-- how deep, how heavy -/
def D.dep (d : D) : Nat := d.py.depth
/-- data that == looks at: not too deep -/
structure Shp (n : Nat) (d : D) : Prop where
  p : d.pure = true
  n : d.dep ≤ n
theorem Shp.shaped {n : Nat} {d : D} (h : Shp n d) (hn : n ≤ 64) : SeqAt.shaped d.py = true := by
  unfold SeqAt.shaped
  rw [canLay_of_pure d h.p, Bool.true_and]
  exact decide_eq_true (Nat.le_trans h.n hn)
theorem Shp.mono {n m : Nat} {d : D} (h : Shp n d) (hn : n ≤ m) : Shp m d := ⟨h.p, Nat.le_trans h.n hn⟩
theorem Shp.non {n : Nat} : Shp n .non := ⟨rfl, Nat.zero_le _⟩
theorem Shp.bl {n : Nat} {b : Bool} : Shp n (.bl b) := ⟨rfl, Nat.zero_le _⟩
theorem Shp.int {n : Nat} {i : Int} : Shp n (.int i) := ⟨rfl, Nat.zero_le _⟩
theorem Shp.str {n : Nat} {x : Str} (h : PyData.strOk x = true) : Shp n (.str x) := ⟨h, Nat.zero_le _⟩
theorem shpAll {n : Nat} : ∀ {l : List D}, (∀ d ∈ l, Shp n d) → pureAll l = true ∧ PyData.depthAll (pyAll l) ≤ n
  | [], _ => ⟨rfl, Nat.zero_le _⟩
  | d :: l, h => by
    obtain ⟨a, b⟩ := shpAll fun x hx => h x (List.mem_cons_of_mem _ hx)
    have c := h d List.mem_cons_self
    refine ⟨by simp only [pureAll, c.p, a, Bool.and_self], ?_⟩
    simp only [pyAll, PyData.depthAll]
    exact Nat.max_le.mpr ⟨c.n, b⟩
theorem Shp.tup {n : Nat} {l : List D} (h : ∀ d ∈ l, Shp n d) : Shp (n + 1) (.tup l) := by
  obtain ⟨a, b⟩ := shpAll h
  exact ⟨by simpa only [D.pure] using a, by simpa only [D.dep, D.py, PyData.depth] using Nat.succ_le_succ b⟩
theorem Shp.lst {n : Nat} {l : List D} (h : ∀ d ∈ l, Shp n d) : Shp (n + 1) (.lst l) := by
  obtain ⟨a, b⟩ := shpAll h
  exact ⟨by simpa only [D.pure] using a, by simpa only [D.dep, D.py, PyData.depth] using Nat.succ_le_succ b⟩
/-- a == b of data -/
def D.eqv (a b : D) : Bool := PyData.eqv a.py b.py
def rEqA (K : PySem.W.Frag) : R2 := fun x y H Q => rEq x y H Q ∨ rEqD K x y H Q
def rNeA (K : PySem.W.Frag) : R2 := fun x y H Q => rNe x y H Q ∨ rNeD K x y H Q
def eqG (x y : D) (Φ : D → Prop) : Prop := (∃ a b, x = .str a ∧ y = .str b ∧ Φ (.bl (decide (a = b)))) ∨ (Shp 64 x ∧ Shp 64 y ∧ Φ (.bl (D.eqv x y)))
def neG (x y : D) (Φ : D → Prop) : Prop := (∃ a b, x = .str a ∧ y = .str b ∧ Φ (.bl (!decide (a = b)))) ∨ (Shp 64 x ∧ Shp 64 y ∧ Φ (.bl (!D.eqv x y)))
theorem dec_strV {a b : Str} : decide (V.str a = V.str b) = decide (a = b) := by rw [Bool.eq_iff_iff]; simp
theorem opd_eq : OpD K (rEqA K) eqG := fun H0 H x y dx dy Φ Q e rx ry g k => by
  rcases g with ⟨a, b, hx, hy, g⟩ | g
  · subst hx hy
    cases rx; cases ry
    exact .inl ⟨rfl, by rw [dec_strV]; exact fin0 e g (.bl _) k⟩
  · exact .inr ⟨_, _, dp_of e rx g.1.p, dp_of e ry g.2.1.p, g.1.shaped (Nat.le_refl _), g.2.1.shaped (Nat.le_refl _), fin0 e g.2.2 (.bl _) k⟩
theorem opd_ne : OpD K (rNeA K) neG := fun H0 H x y dx dy Φ Q e rx ry g k => by
  rcases g with ⟨a, b, hx, hy, g⟩ | g
  · subst hx hy
    cases rx; cases ry
    exact .inl ⟨rfl, by rw [dec_strV]; exact fin0 e g (.bl _) k⟩
  · exact .inr ⟨_, _, dp_of e rx g.1.p, dp_of e ry g.2.1.p, g.1.shaped (Nat.le_refl _), g.2.1.shaped (Nat.le_refl _), fin0 e g.2.2 (.bl _) k⟩
/-! is None -/
end
end DL
namespace DL
open PySem PySem.Spec L2
open PyProof.Rows hiding St
/-! ### subscripts, slices, calls, methods over data -/
theorem RepAll.atI {K : PySem.W.Frag} {H : Hp} {vs : List V} {ds : List D} {i : Int} {d : D} (r : RepAll K H vs ds) (h : L2.atI ds i = some d) : ∃ v, L2.atI vs i = some v ∧ Rep K H v d := by
  unfold L2.atI at h ⊢
  rw [r.length]
  cases e : ixN ds.length i with
  | none => rw [e] at h; cases h
  | some j => rw [e] at h; exact r.get h
def ixG (x y : D) (Φ : D → Prop) : Prop := match x, y with
  | .lst l, .int i => ∃ d, L2.atI l i = some d ∧ Φ d
  | .tup l, .int i => ∃ d, L2.atI l i = some d ∧ Φ d
  | .scr l, .int i => ∃ n, L2.atI l i = some n ∧ Φ (.int n)
  | .str z, .int i => z.length ≤ 1000000 ∧ ∃ c, L2.atI z.cps.toList i = some c ∧ Φ (.str ⟨#[c]⟩)
  | _, _ => False
theorem atI_map {α β : Type} (f : α → β) {xs : List α} {i : Int} {v : α} (h : L2.atI xs i = some v) : L2.atI (xs.map f) i = some (f v) := by
  unfold L2.atI at h ⊢
  rw [List.length_map]
  cases e : ixN xs.length i with
  | none => rw [e] at h; cases h
  | some j => rw [e] at h; show (xs.map f)[j]? = _; rw [List.getElem?_map, show xs[j]? = some v from h]; rfl
section
variable {K : PySem.W.Frag}
theorem opd_ix : OpD K (rIx K) ixG := fun H0 H x y dx dy Φ Q e rx ry g k => by
  cases rx <;> cases ry <;> first
    | exact g.elim
    | (obtain ⟨d, h1, h2⟩ := g; rename_i hp hr _; obtain ⟨v, h3, h4⟩ := hr.atI h1; exact .inl ⟨_, _, _, v, rfl, rfl, .inl (.inl (e _ _ hp)), h3, fin0 e h2 h4 k⟩)
    | (obtain ⟨d, h1, h2⟩ := g; rename_i hp hr _; obtain ⟨v, h3, h4⟩ := hr.atI h1; exact .inr (.inl ⟨_, _, _, v, rfl, rfl, sqT_ex e hp, h3, fin0 e h2 h4 k⟩))
    | (obtain ⟨n, h1, h2⟩ := g; rename_i hp _; exact .inl ⟨_, _, _, _, rfl, rfl, sqL_ex e hp, atI_map V.int h1, fin0 e h2 (.int _) k⟩)
    | (obtain ⟨hz, c, h1, h2⟩ := g; exact .inr (.inr ⟨_, _, _, rfl, rfl, len_ok hz, h1, fin0 e h2 (.str _) k⟩))
/-- xs[lo:hi] -/
def cutD {α : Type} (xs : List α) (lo hi : Option Int) : List α := (xs.drop (HT.sIx xs.length 0 lo)).take (HT.sIx xs.length xs.length hi - HT.sIx xs.length 0 lo)
theorem cut_map {α β : Type} (f : α → β) (xs : List α) (lo hi : Option Int) : cutD (xs.map f) lo hi = (cutD xs lo hi).map f := by
  unfold cutD
  rw [List.length_map, List.map_take, List.map_drop]
theorem cut_rep {H : Hp} {vs : List V} {ds : List D} (r : RepAll K H vs ds) (lo hi : Option Int) : RepAll K H (cutV vs lo hi) (cutD ds lo hi) := by
  unfold cutV cutD
  rw [r.length]
  exact (r.drop _).take _
theorem cut_all {α : Type} {xs : List α} {lo hi : Option Int} (h : HT.sIx xs.length 0 lo = 0 ∧ HT.sIx xs.length xs.length hi = xs.length) : cutD xs lo hi = xs := by
  unfold cutD
  rw [h.1, h.2, List.drop_zero, Nat.sub_zero, List.take_length]
def rSl (K : PySem.W.Frag) : V → Option Int → Option Int → Hp → VK → Prop := fun x lo hi H Q => rSlL K x lo hi H Q ∨ rSlA K x lo hi H Q ∨ rSlS x lo hi H Q
def slG (x : D) (lo hi : Option Int) (Φ : D → Prop) : Prop := match x with
  | .lst l => Φ (.lst (cutD l lo hi))
  | .tup l => Φ (.tup (cutD l lo hi))
  | .scr l => Φ (.lst ((cutD l lo hi).map D.int))
  | .str z => z.length ≤ 1000000 ∧ Φ (.str (cutS z lo hi))
  | _ => False
theorem sld_sl : SlD K (rSl K) slG := fun H0 H x dx lo hi Φ Q e rx g k => by
  cases rx <;> first
    | exact g.elim
    | (rename_i hp hr; exact .inl ⟨_, _, rfl, .inl (.inl (e _ _ hp)), finL e g (cut_rep hr lo hi) k⟩)
    | (rename_i hp hr
       refine .inr (.inl ⟨_, _, rfl, sqT_ex e hp, fun z => ?_, fun _ => finT e g (cut_rep hr lo hi) k⟩)
       have z' := z
       rw [hr.length] at z'
       have q : Φ (.tup _) := g
       rw [cut_all z'] at q
       exact fin0 e q (.tup hp hr) k)
    | (rename_i hp
       refine .inl ⟨_, _, rfl, sqL_ex e hp, finL e (ds := (cutD _ lo hi).map D.int) g ?_ k⟩
       rw [show cutV (List.map V.int _) lo hi = cutD (List.map V.int _) lo hi from rfl, cut_map]
       exact RepAll.ints _)
    | exact .inr (.inr ⟨_, rfl, len_ok g.1, fin0 e g.2 (.str _) k⟩)
/-! len -/
def lenG (ds : List D) (Φ : D → Prop) : Prop := match ds with
  | [.lst l] => Φ (.int l.length)
  | [.tup l] => Φ (.int l.length)
  | [.scr l] => Φ (.int l.length)
  | [.str z] => z.length ≤ 1000000 ∧ Φ (.int z.length)
  | [.dic l] => Φ (.int l.length)
  | _ => False
def rLen (K : PySem.W.Frag) : List V → Hp → VK → Prop := fun xs H Q => (∃ x n, xs = [x] ∧ LenV K x H n ∧ Q (.int n) H) ∨ ∃ a kvs, xs = [V.ref a] ∧ H a = some (.dK kvs) ∧ Q (.int kvs.length) H
theorem cbd_len : CbD K (rLen K) lenG := fun H0 H xs ds Φ Q e rx g k => by
  cases rx with
  | nil => exact g.elim
  | cons r rs =>
    cases rs with
    | cons _ _ => cases r <;> exact g.elim
    | nil =>
      cases r <;> first
        | exact g.elim
        | (rename_i hp hr; exact .inl ⟨_, _, rfl, .inl ⟨_, .inl (.inl (e _ _ hp)), rfl⟩, by rw [hr.length]; exact fin0 e g (.int _) k⟩)
        | (rename_i hp hr; exact .inl ⟨_, _, rfl, .inr ⟨_, sqT_ex e hp, rfl⟩, by rw [hr.length]; exact fin0 e g (.int _) k⟩)
        | (rename_i hp; exact .inl ⟨_, _, rfl, .inl ⟨_, sqL_ex e hp, rfl⟩, by rw [List.length_map]; exact fin0 e g (.int _) k⟩)
        | exact .inl ⟨_, _, rfl, ⟨len_ok g.1, rfl⟩, fin0 e g.2 (.int _) k⟩
        | (rename_i hp hr; exact .inr ⟨_, _, rfl, e _ _ hp, by rw [List.length_map, hr.length]; exact fin0 e g (.int _) k⟩)
/-! list, tuple -/
def rListOf (K : PySem.W.Frag) : List V → Hp → VK → Prop := fun xs H Q => ∃ p ys, xs = [.ref p] ∧ (SqL K H p ys ∨ SqT K H p ys) ∧ ∀ l, H l = none → Q (.ref l) (upd H l (.lst ys))
def listG (ds : List D) (Φ : D → Prop) : Prop := match ds with
  | [.lst l] => Φ (.lst l)
  | [.tup l] => Φ (.lst l)
  | [.scr l] => Φ (.lst (l.map D.int))
  | _ => False
theorem cbd_list : CbD K (rListOf K) listG := fun H0 H xs ds Φ Q e rx g k => by
  cases rx with
  | nil => exact g.elim
  | cons r rs =>
    cases rs with
    | cons _ _ => cases r <;> exact g.elim
    | nil =>
      cases r <;> first
        | exact g.elim
        | (rename_i hp hr; exact ⟨_, _, rfl, .inl (.inl (.inl (e _ _ hp))), finL e g hr k⟩)
        | (rename_i hp hr; exact ⟨_, _, rfl, .inr (sqT_ex e hp), finL e g hr k⟩)
        | (rename_i hp; exact ⟨_, _, rfl, .inl (sqL_ex e hp), finL e g (RepAll.ints _) k⟩)
def rTupOf (K : PySem.W.Frag) : List V → Hp → VK → Prop := fun xs H Q => ∃ p ys, xs = [.ref p] ∧ ((SqL K H p ys ∧ ∀ l, H l = none → Q (.ref l) (upd H l (.tup ys))) ∨ (SqT K H p ys ∧ Q (.ref p) H))
def tupG (ds : List D) (Φ : D → Prop) : Prop := match ds with
  | [.lst l] => Φ (.tup l)
  | [.tup l] => Φ (.tup l)
  | [.scr l] => Φ (.tup (l.map D.int))
  | _ => False
theorem cbd_tup : CbD K (rTupOf K) tupG := fun H0 H xs ds Φ Q e rx g k => by
  cases rx with
  | nil => exact g.elim
  | cons r rs =>
    cases rs with
    | cons _ _ => cases r <;> exact g.elim
    | nil =>
      cases r <;> first
        | exact g.elim
        | (rename_i hp hr; exact ⟨_, _, rfl, .inl ⟨.inl (.inl (e _ _ hp)), finT e g hr k⟩⟩)
        | (rename_i hp hr; exact ⟨_, _, rfl, .inr ⟨sqT_ex e hp, fin0 e g (.tup hp hr) k⟩⟩)
        | (rename_i hp; exact ⟨_, _, rfl, .inl ⟨sqL_ex e hp, finT e g (RepAll.ints _) k⟩⟩)
/-! str, int, abs, min, max, all, sum, divmod -/
theorem vals_one {H : Hp} {xs : List V} {d : D} (r : RepAll K H xs [d]) : ∃ v, xs = [v] ∧ Rep K H v d := by
  cases r with
  | cons r rs => cases rs; exact ⟨_, rfl, r⟩
theorem vals_two {H : Hp} {xs : List V} {d d' : D} (r : RepAll K H xs [d, d']) : ∃ v v', xs = [v, v'] ∧ Rep K H v d ∧ Rep K H v' d' := by
  cases r with
  | cons r rs => obtain ⟨v', rfl, r'⟩ := vals_one rs; exact ⟨_, _, rfl, r, r'⟩
def rStr : List V → Hp → VK → Prop := fun xs H Q => (∃ i, xs = [.int i] ∧ i.natAbs.log2 < 1920 ∧ Q (.str (toString i)) H) ∨ ∃ a, xs = [.str a] ∧ Q (.str a) H
def strG (ds : List D) (Φ : D → Prop) : Prop := match ds with
  | [.int i] => i.natAbs.log2 < 1920 ∧ Φ (.str (toString i))
  | [.str a] => Φ (.str a)
  | _ => False
theorem cbd_str : CbD K rStr strG := fun H0 H xs ds Φ Q e rx g k => by
  cases rx with
  | nil => exact g.elim
  | cons r rs =>
    cases rs with
    | cons _ _ => cases r <;> exact g.elim
    | nil =>
      cases r <;> first
        | exact g.elim
        | exact .inl ⟨_, rfl, g.1, fin0 e g.2 (.str _) k⟩
        | exact .inr ⟨_, rfl, fin0 e g (.str _) k⟩
def rInt : List V → Hp → VK → Prop := fun xs H Q => ((∃ i, xs = [.int i] ∧ Q (.int i) H) ∨ ∃ k, xs = [.bl k] ∧ Q (.int (if k then 1 else 0)) H) ∨ ∃ a n, xs = [.str a] ∧ PySem.intText? a = some n ∧ a.length ≤ 640 ∧ Q (.int n) H
def intOfG (ds : List D) (Φ : D → Prop) : Prop := match ds with
  | [.int i] => Φ (.int i)
  | [.bl b] => Φ (.int (if b then 1 else 0))
  | [.str a] => ∃ n, PySem.intText? a = some n ∧ a.length ≤ 640 ∧ Φ (.int n)
  | _ => False
theorem cbd_int : CbD K rInt intOfG := fun H0 H xs ds Φ Q e rx g k => by
  cases rx with
  | nil => exact g.elim
  | cons r rs =>
    cases rs with
    | cons _ _ => cases r <;> exact g.elim
    | nil =>
      cases r <;> first
        | exact g.elim
        | exact .inl (.inl ⟨_, rfl, fin0 e g (.int _) k⟩)
        | exact .inl (.inr ⟨_, rfl, fin0 e g (.int _) k⟩)
        | (obtain ⟨n, h1, h2, h3⟩ := g; exact .inr ⟨_, n, rfl, h1, h2, fin0 e h3 (.int _) k⟩)
def int1G (f : Int → D) (ds : List D) (Φ : D → Prop) : Prop := match ds with
  | [.int i] => Φ (f i)
  | _ => False
def int2G (f : Int → Int → D) (ds : List D) (Φ : D → Prop) : Prop := match ds with
  | [.int i, .int j] => Φ (f i j)
  | _ => False
theorem cbd_abs : CbD K (fun xs H Q => ∃ i, xs = [.int i] ∧ Q (.int (if i < 0 then -i else i)) H) (int1G fun i => .int (if i < 0 then -i else i)) := fun H0 H xs ds Φ Q e rx g k => by
  cases rx with
  | nil => exact g.elim
  | cons r rs =>
    cases rs with
    | cons _ _ => cases r <;> exact g.elim
    | nil =>
      cases r <;> first
        | exact g.elim
        | exact ⟨_, rfl, fin0 e g (.int _) k⟩
theorem cbd_int2 {f : Int → Int → D} {h : Int → Int → V} (hr : ∀ H i j, Rep K H (h i j) (f i j)) : CbD K (fun xs H Q => ∃ i j, xs = [.int i, .int j] ∧ Q (h i j) H) (int2G f) := fun H0 H xs ds Φ Q e rx g k => by
  cases rx with
  | nil => exact g.elim
  | cons r rs =>
    cases rs with
    | nil => cases r <;> exact g.elim
    | cons r' rs =>
      cases rs with
      | cons _ _ => cases r <;> cases r' <;> exact g.elim
      | nil =>
        cases r <;> cases r' <;> first
          | exact g.elim
          | exact ⟨_, _, rfl, fin0 e g (hr _ _ _) k⟩
theorem cbd_min2 : CbD K (fun xs H Q => ∃ i j, xs = [.int i, .int j] ∧ Q (.int (if j < i then j else i)) H) (int2G fun i j => .int (if j < i then j else i)) := cbd_int2 fun _ _ _ => .int _
theorem cbd_max2 : CbD K (fun xs H Q => ∃ i j, xs = [.int i, .int j] ∧ Q (.int (if j > i then j else i)) H) (int2G fun i j => .int (if j > i then j else i)) := cbd_int2 fun _ _ _ => .int _
def allG (ds : List D) (Φ : D → Prop) : Prop := ∃ bs : List Bool, ds = [.lst (bs.map D.bl)] ∧ Φ (.bl (bs.all id))
theorem cbd_all : CbD K (rAll K) allG := fun H0 H xs ds Φ Q e rx ⟨bs, h, g⟩ k => by
  subst h
  obtain ⟨v, rfl, r⟩ := vals_one rx
  cases r with
  | lst hp hr => rw [hr.ofBools] at hp; exact ⟨_, bs, rfl, .inl (.inl (e _ _ hp)), fin0 e g (.bl _) k⟩
/-! methods -/
def joinG (x : D) (ds : List D) (Φ : D → Prop) : Prop := ∃ a ys, x = .str a ∧ (ds = [.lst (ys.map D.str)] ∨ ds = [.tup (ys.map D.str)]) ∧ (ys.map (·.length)).sum + ys.length * a.length ≤ 1000000 ∧ Φ (.str (Txt.join a ys))
theorem mtd_join : MtD K (fun x xs H Q => ∃ a p, ∃ ys : List Str, x = .str a ∧ xs = [.ref p] ∧ (SqL K H p (ys.map V.str) ∨ SqT K H p (ys.map V.str)) ∧ (ys.map (·.length)).sum + ys.length * a.length ≤ 16777216 ∧ Q (.str (Txt.join a ys)) H) joinG :=
  fun H0 H x xs dx ds Φ Q e rx rs ⟨a, ys, hx, hd, hz, g⟩ k => by
    subst hx
    cases rx
    rcases hd with hd | hd
    · subst hd
      obtain ⟨v, rfl, r⟩ := vals_one rs
      cases r with
      | lst hp hr => rw [hr.ofStrs] at hp; exact ⟨a, _, ys, rfl, rfl, .inl (.inl (.inl (e _ _ hp))), by omega, fin0 e g (.str _) k⟩
    · subst hd
      obtain ⟨v, rfl, r⟩ := vals_one rs
      cases r with
      | tup hp hr => rw [hr.ofStrs] at hp; exact ⟨a, _, ys, rfl, rfl, .inr (sqT_ex e hp), by omega, fin0 e g (.str _) k⟩
theorem ty_of {T : String} (H0 H : Hp) (v : V) (d : D) (e : Ex H0 H) (r : Rep K H0 v d) (h : isTy T d = true) : tyV K T v H := by
  cases r with
  | str x => exact beq_iff_eq.mp (show (T == "str") = true from h)
  | lst hp hr => exact .inl ⟨beq_iff_eq.mp (show (T == "list") = true from h), _, .inl (.inl (e _ _ hp))⟩
  | dic hp hr => exact .inr (.inr (.inl ⟨beq_iff_eq.mp (show (T == "dict") = true from h), .inl ⟨_, e _ _ hp⟩⟩))
  | _ => cases h
end
end DL
namespace DL
open PySem PySem.Spec L2
open PyProof.Rows hiding St
/-! ### calls in general: values in the order of the call, keywords behind them, defaults behind these; picked by place -/
def pick {α : Type} (ix : List Nat) (l : List α) : List α := ix.filterMap fun i => l[i]?
theorem pick_vals : ∀ (ix : List Nat) {vs : List V} {us : List Value}, Vals vs us → Vals (pick ix vs) (pick ix us)
  | [], _, _, _ => .nil
  | i :: ix, vs, us, r => by
    unfold pick
    rw [List.filterMap_cons, List.filterMap_cons]
    cases e : vs[i]? with
    | none =>
      have e2 : us[i]? = none := by
        rw [List.getElem?_eq_none_iff] at e ⊢
        rw [← r.length]; exact e
      rw [e2]
      exact pick_vals ix r
    | some v =>
      obtain ⟨u, hu, ru⟩ := r.get e
      rw [hu]
      exact .cons ru (pick_vals ix r)
theorem pick_reps {K : PySem.W.Frag} {H : Hp} : ∀ (ix : List Nat) {vs : List V} {ds : List D}, RepAll K H vs ds → RepAll K H (pick ix vs) (pick ix ds)
  | [], _, _, _ => .nil
  | i :: ix, vs, ds, r => by
    unfold pick
    rw [List.filterMap_cons, List.filterMap_cons]
    cases e : ds[i]? with
    | none =>
      have e2 : vs[i]? = none := by
        rw [List.getElem?_eq_none_iff] at e ⊢
        rw [r.length]; exact e
      rw [e2]
      exact pick_reps ix r
    | some d =>
      obtain ⟨v, hv, rv⟩ := r.get e
      rw [hv]
      exact .cons rv (pick_reps ix r)
/-- n values, keywords ks, and the defaults dd make the parameters, by place -/
structure KbG (K : PySem.W.Frag) (fd : FuncData) (ps : List Str) (n : Nat) (ks : List Str) (ix : List Nat) (dd : List D) : Prop where
  ex : ∃ (dvs : List V) (dv : List Value), Vals dvs dv ∧ (∀ H, RepAll K H dvs dd) ∧ ∀ (s : Shared) (us ws : List Value), K.In s.heap → us.length = n → ws.length = ks.length → BindsTo s fd ⟨us, ks.zip ws⟩ (ps.zip (pick ix (us ++ ws ++ dv)))
theorem KbG.of {K : PySem.W.Frag} {fd : FuncData} {ps : List Str} {n : Nat} {ks : List Str} {ix : List Nat} {dd : List D} {dvs : List V} {dv : List Value} (h1 : Vals dvs dv) (h2 : ∀ H, RepAll K H dvs dd)
    (h3 : ∀ (s : Shared) (us ws : List Value), K.In s.heap → us.length = n → ws.length = ks.length → BindsTo s fd ⟨us, ks.zip ws⟩ (ps.zip (pick ix (us ++ ws ++ dv)))) : KbG K fd ps n ks ix dd := ⟨_, _, h1, h2, h3⟩
/-- values, then keywords' values -/
def tArgs (t tk : TA) (n m : Nat) (Q : List V → List V → Hp → Prop) : St → Hp → Prop := fun σ H => t σ H fun vs H1 => tk σ H1 fun zs H2 => vs.length = n ∧ zs.length = m ∧ Q vs zs H2
section
variable {M : Model} {A : Around} {E : Value → Shared → Prop} {s : Shared}
theorem evalArgs_any {f : Value} {args : List (Bool × Sem Value)} {keywords : List (Option Str × Sem Value)} {Q : Args → Shared → Prop} (hn : args.any (·.1) = false) (hall : keywords.all (·.1.isSome) = true)
    (h : wpAny M A (spliced args) (fun vs s1 => wpAny M A (evalAll (keywords.map (·.2))) (fun ks s2 => Q ⟨vs, (keywords.filterMap (·.1)).zip ks⟩ s2) E s1) E s) : wpAny M A (evalArgs f true args keywords) Q E s := by
  match args, hn, h with
  | [], _, h =>
    unfold evalArgs
    show wpAny M A (spliced [] >>= _) Q E s
    refine wpAny_bind (wpAny_mono h (fun vs s1 h1 => ?_) fun _ _ x => x)
    refine wpAny_holding ?_
    simp only [hall, if_true]
    exact wpAny_bind (wpAny_mono h1 (fun ks s2 h2 => wpAny_bind (wpAny_pure (wpAny_pure h2))) fun _ _ x => x)
  | (false, x) :: rest, _, h => exact evalArgs_kw hall h
  | (true, x) :: rest, hn, _ => cases hn
theorem callWith_any {P : Heap → Prop} {pos : Pos} {f : Value} {first : List Value} {Q : Value → Shared → Prop} {args : List (Bool × Sem Value)} {keywords : List (Option Str × Sem Value)} (hn : args.any (·.1) = false) (hall : keywords.all (·.1.isSome) = true)
    (hk : ∀ h, P h → ∃ k, (k = PySem.Keeper.frame ∨ k = PySem.Keeper.machine ∨ k = PySem.Keeper.boundFrame) ∧ PySem.W.Looks M h (keeperOf f) k)
    (h : wpAny M A (spliced args) (fun vs s1 => wpAny M A (evalAll (keywords.map (·.2))) (fun ks s2 => P s2.heap ∧ wpAny M A (call f (first ++ vs) ((keywords.filterMap (·.1)).zip ks)) Q E s2) E s1) E s) : wpAny M A (callWith pos f first args keywords) Q E s := by
  refine PySem.W.callWith_of ?_ hk (evalArgs_any hn hall h)
  rw [hn, Bool.false_or]
  rw [List.any_eq_false]
  intro x hx
  have := List.all_eq_true.mp hall x hx
  cases h : x.1 with
  | none => rw [h] at this; cases this
  | some _ => simp
end
section
variable {X : Cx} {k n : Nat} {f C q g : Addr} {fd : FuncData} {ps ks : List Str} {ix : List Nat} {dd : List D} {S : DSp} {E : XK} {x m : Str} {p pos apos : Pos} {e o : Expr} {es : List Expr} {kws : List Keyword} {ta : TE} {t tk : TA} {pl : Sem Bool} {mc : Value}
/-- no exception -/
abbrev EN : XK := fun _ _ _ => False
theorem passN {P : Program} {w : World} : Passes (CXD P w) X EN := fun _ _ _ _ _ _ _ ⟨_, _, _, _, _, _, _, _, _, _, _, _, h⟩ => h.elim
/-- a promise over data at given values, keywords' values, defaults -/
def atD (K : PySem.W.Frag) (S : DSp) (ix : List Nat) (dd : List D) (vs zs : List V) (H : Hp) (Q : VK) (E : XK) : Prop := ∃ (H0 : Hp) (ds es : List D) (Φ : D → Prop) (Ψ : Exn → Prop), Ex H0 H ∧ RepAll K H0 vs ds ∧ RepAll K H0 zs es ∧ S (pick ix (ds ++ es ++ dd)) Φ Ψ ∧
  (∀ v d H0' H', Φ d → PX ⟨H, H0, []⟩ H0' H' → Rep K H0' v d → Q v H') ∧ (∀ x dd H0' H', Ψ x → PX ⟨H, H0, []⟩ H0' H' → RepX K H0' H' x dd → E (.ref x.C) dd H')
theorem code_fnD {pins : List (Addr × Obj)} {σ : St} {H : Hp} {s : Shared} {Q : VK} {us ws : List Value} {vs zs : List V} (F : FnG X.prog X.w X.K X.mg X.base k f fd ps (lift X.K S)) (room : RoomG k X.A) (hb : KbG X.K fd ps n ks ix dd) (hx : Passes (CXD X.prog X.w) X E)
    (I : Inv X pins σ H s) (r : Vals vs us) (rz : Vals zs ws) (l1 : vs.length = n) (l2 : zs.length = ks.length) (q : atD X.K S ix dd vs zs H Q E) : codeAny (model X.prog X.w) X.A (.call (.ref f) ⟨us, ks.zip ws⟩) (wants (EP X pins σ Q) X.xe) s := by
  obtain ⟨dvs, dv, rd, rr, b⟩ := hb.ex
  obtain ⟨H0, ds, es, Φ, Ψ, e, r1, r2, q1, k1, k2⟩ := q
  refine codeAny_mono (F.run X.A X.stack s H ⟨us, ks.zip ws⟩ _ (pick ix (vs ++ zs ++ dvs)) Q E room I.env0 (b s us ws I.kIn (r.length.symm.trans l1) (rz.length.symm.trans l2)) (pick_vals ix ((r.append rz).append rd))
    ⟨H0, _, Φ, Ψ, e, pick_reps ix ((r1.append r2).append (rr H0)), q1, k1, k2⟩) fun r s' z => ?_
  have y := back_of hx I r s' z
  cases r with
  | error er => exact y
  | ok fl => cases fl <;> exact y
theorem run_fnD {pins : List (Addr × Obj)} {σ : St} {H : Hp} {s : Shared} {Q : VK} {us ws : List Value} {vs zs : List V} (F : FnG X.prog X.w X.K X.mg X.base k f fd ps (lift X.K S)) (room : RoomG k X.A) (hb : KbG X.K fd ps n ks ix dd) (hx : Passes (CXD X.prog X.w) X E)
    (I : Inv X pins σ H s) (r : Vals vs us) (rz : Vals zs ws) (l1 : vs.length = n) (l2 : zs.length = ks.length) (q : atD X.K S ix dd vs zs H Q E) : wpAny (model X.prog X.w) X.A (call (.ref f) us (ks.zip ws)) (EP X pins σ Q) X.xe s :=
  wpAny_call (code_fnD F room hb hx I r rz l1 l2 q)
/-- the promise of __init__: from the arguments to the attributes -/
abbrev ISp := List D → (List (Str × D) → Prop) → (Exn → Prop) → Prop
def liftI (K : PySem.W.Frag) (C : Addr) (S : ISp) : Sp := fun vs H Q E => ∃ (x dx : Addr) (vs' : List V) (He H0 : Hp) (ds : List D) (Φ : List (Str × D) → Prop) (Ψ : Exn → Prop), vs = .ref x :: vs' ∧ H x = some (.ins C dx []) ∧ He x = none ∧ Ex He H ∧ Ex H0 He ∧ RepAll K H0 vs' ds ∧ S ds Φ Ψ ∧
  (∀ fs H0' H', Φ fs → PX ⟨He, H0, []⟩ H0' H' → Rep K H0' (.ref x) (.ins C fs) → Q .non H') ∧ (∀ y dd H0' H', Ψ y → PX ⟨He, H0, []⟩ H0' H' → RepX K H0' H' y dd → E (.ref y.C) dd H')
/-- C(..) -/
def atI (K : PySem.W.Frag) (S : ISp) (C : Addr) (ix : List Nat) (dd : List D) (vs zs : List V) (H : Hp) (Q : VK) (E : XK) : Prop := ∃ (H0 : Hp) (ds es : List D) (Φ : D → Prop) (Ψ : Exn → Prop), Ex H0 H ∧ RepAll K H0 vs ds ∧ RepAll K H0 zs es ∧ S (pick ix (ds ++ es ++ dd)) (fun fs => Φ (.ins C fs)) Ψ ∧
  (∀ v d H0' H', Φ d → PX ⟨H, H0, []⟩ H0' H' → Rep K H0' v d → Q v H') ∧ (∀ x dd H0' H', Ψ x → PX ⟨H, H0, []⟩ H0' H' → RepX K H0' H' x dd → E (.ref x.C) dd H')
def tMakeD (K : PySem.W.Frag) (C : Addr) (S : ISp) (n m : Nat) (ix : List Nat) (dd : List D) (E : XK) (t tk : TA) : TE := fun σ H Q => tArgs t tk n m (fun vs zs H1 => atI K S C ix dd vs zs H1 Q E) σ H
/-- how an __init__ takes its values: self first -/
def shiftIx (ix : List Nat) : List Nat := 0 :: ix.map (· + 1)
theorem pick_shift {α : Type} (ix : List Nat) (a : α) (l : List α) : pick (shiftIx ix) (a :: l) = a :: pick ix l := by
  unfold pick shiftIx
  rw [List.filterMap_cons]
  simp only [List.getElem?_cons_zero, List.filterMap_map]
  congr 1
theorem run_makeD {I0 : ISp} {pins : List (Addr × Obj)} {σ : St} {H : Hp} {s : Shared} {Q : VK} {us ws : List Value} {vs zs : List V} (Mx : Mk X.K C f) (F : FnG X.prog X.w X.K X.mg X.base k f fd ps (liftI X.K C I0)) (room : RoomG (k + 1) X.A) (hb : KbG X.K fd ps (n + 1) ks (shiftIx ix) dd) (hx : Passes (CXD X.prog X.w) X E)
    (I : Inv X pins σ H s) (r : Vals vs us) (rz : Vals zs ws) (l1 : vs.length = n) (l2 : zs.length = ks.length) (q : atI X.K I0 C ix dd vs zs H Q E) : wpAny (model X.prog X.w) X.A (call (.ref C) us (ks.zip ws)) (EP X pins σ Q) X.xe s := by
  obtain ⟨dvs, dv, rd, rr, b⟩ := hb.ex
  obtain ⟨H0, ds, es, Φ, Ψ, e, r1, r2, q1, k1, k2⟩ := q
  refine run_makeG (zs := pick ix (us ++ ws ++ dv)) (vs := pick ix (vs ++ zs ++ dvs)) Mx F room (fun s u hk => ?_) hx I (pick_vals ix ((r.append rz).append rd)) fun y dx hy hdx hne => ?_
  · have z := b s (u :: us) ws hk (by rw [List.length_cons, ← r.length, l1]) (rz.length.symm.trans l2)
    rw [show u :: us ++ ws ++ dv = u :: (us ++ ws ++ dv) from rfl, pick_shift] at z
    exact z
  · have hx2 : Ex H (upd (upd H dx (.own y)) y (.ins C dx [])) := fun a o h => by
      have n1 : a ≠ y := ne_of_none h hy
      have n2 : a ≠ dx := ne_of_none h hdx
      rw [upd_ne n1, upd_ne n2]; exact h
    refine ⟨y, dx, _, H, H0, _, _, Ψ, rfl, upd_same, hy, hx2, e, pick_reps ix ((r1.append r2).append (rr H0)), q1, fun fs H0' H' h1 h2 h3 => ⟨rfl, k1 _ _ H0' H' h1 h2 h3⟩, k2⟩
theorem pe_makeD {I0 : ISp} (Mx : Mk X.K C f) (F : FnG X.prog X.w X.K X.mg X.base k f fd ps (liftI X.K C I0)) (room : RoomG (k + 1) X.A) (hb : KbG X.K fd ps (n + 1) ks (shiftIx ix) dd) (hx : Passes (CXD X.prog X.w) X E) (hm : X.mg x = some (.ref C)) (ha : PA X es t) (hkw : PK X kws tk) (hg : Gl X x)
    (hn : (backTo pos (starEach es X.env)).any (·.1) = false := by rfl) (hall : (backToKw pos (keywordEach kws X.env)).all (·.1.isSome) = true := by rfl) (hks : (backToKw pos (keywordEach kws X.env)).filterMap (·.1) = ks := by rfl) (hdb : (x == ("__debug__" : Str)) = false := by decide) :
    PE X (.Call (.Name x p) es kws pos) (tMakeD X.K C I0 n ks.length ix dd E t tk) := by
  refine ⟨fun pins s σ H Q I h => wpAny_Call_Name_kw (ld_glob I hg hm ?_ hdb)⟩
  refine callWith_any (P := X.K.In) hn hall (PySem.W.keeps_K Mx.kp) (thn (ha.run pos pins s σ H _ I h) fun us s1 ⟨vs, H1, J, r, q⟩ => thn (hkw.run pos pins s1 σ H1 _ J q) fun ws s2 ⟨zs, H2, J2, rz, l1, l2, q2⟩ => ⟨J2.kIn, ?_⟩)
  rw [hks]
  exact run_makeD Mx F room hb hx J2 r rz l1 l2 q2
/-- o.m(..) of an instance of the class at C -/
def tMethD (K : PySem.W.Frag) (C : Addr) (m : Str) (S : DSp) (n j : Nat) (ix : List Nat) (dd : List D) (E : XK) (ta : TE) (t tk : TA) : TE := fun σ H Q => ta σ H fun x H1 => ∃ a dx fs, x = .ref a ∧ H1 a = some (.ins C dx fs) ∧ fs.lookup m = none ∧
  tArgs t tk n j (fun vs zs H2 => atD K S (shiftIx ix) dd (x :: vs) zs H2 Q E) σ H1
theorem pe_methD (he : PE X o ta) (c : Cls X.K C) (hm : Meth X.K C m f) (F : FnG X.prog X.w X.K X.mg X.base k f fd ps (lift X.K S)) (room : RoomG k X.A) (hb : KbG X.K fd ps (n + 1) ks (shiftIx ix) dd) (hx : Passes (CXD X.prog X.w) X E) (ha : PA X es t) (hkw : PK X kws tk)
    (hn : (backTo pos (starEach es X.env)).any (·.1) = false := by rfl) (hall : (backToKw pos (keywordEach kws X.env)).all (·.1.isSome) = true := by rfl) (hks : (backToKw pos (keywordEach kws X.env)).filterMap (·.1) = ks := by rfl)
    (ht : eval (.Call (.Attribute o m apos) es kws pos) X.env = (do
      let u ← eval o X.env
      standAt apos.atName
      let (g, first) ← holding [u] (getMethod u m pl)
      callWith pos g first (backTo pos (starEach es X.env)) (backToKw pos (keywordEach kws X.env))) := by rfl) :
    PE X (.Call (.Attribute o m apos) es kws pos) (tMethD X.K C m S n ks.length ix dd E ta t tk) := by
  refine ⟨fun pins s σ H Q I h => PySem.W.methodCall_KW (pl := pl) (thn (he.run pins s σ H _ I h) fun u s1 ⟨y, H1, J, ry, a, dx, fs, ey, ea, l, q⟩ => ?_) ht⟩
  subst ey
  obtain rfl : u = Value.ref a := ry
  refine getmeth_ok J ea c hm l (callWith_any (P := X.K.In) hn hall (PySem.W.keeps_K hm.kp) (thn (ha.run pos pins s1 σ H1 _ J q) fun us s2 ⟨vs, H2, J2, r, q2⟩ => thn (hkw.run pos pins s2 σ H2 _ J2 q2) fun ws s3 ⟨zs, H3, J3, rz, l1, l2, q3⟩ => ⟨J3.kIn, ?_⟩))
  rw [hks]
  exact run_fnD (us := .ref a :: us) (vs := .ref a :: vs) F room hb hx J3 (.cons rfl r) rz (by rw [List.length_cons, l1]) l2 q3
end
end DL
namespace DL
open PySem PySem.Spec L2
open PyProof.Rows hiding St
/-! ### the calls' readings over data -/
section
variable {w : Wx} {ρ : Env'} {Φ : D → Env' → Prop} {t tk : TA} {ta te : TE} {S : DSp} {I : ISp} {n m : Nat} {ix : List Nat} {dd : List D}
theorem wE_makeD {C : Addr} (h : wA w t ρ fun ds ρ1 => wA w tk ρ1 fun es ρ2 => ds.length = n ∧ es.length = m ∧ I (pick ix (ds ++ es ++ dd)) (fun fs => Φ (.ins C fs) ρ2) w.X) : wE w (tMakeD w.K C I n m ix dd w.EX t tk) ρ Φ := fun c H0 H σ Q a x k =>
  h c H0 H σ _ a x fun vs ds ρ1 H01 H1 h1 a1 e1 r1 => h1 c H01 H1 σ _ a1 x fun zs es ρ2 H02 H2 ⟨l1, l2, q⟩ a2 e2 r2 => ⟨r1.length.trans l1, r2.length.trans l2, H02, ds, es, fun d => Φ d ρ2, w.X, a2.px.i, r1.mono e2, r2, q,
    fun v d H0' H' z p rv => k v d ρ2 H0' H' z (a2.go p) ((e1.trans e2).trans p.e0) rv, fun y dd H0' H' z p rx => x.l y z dd H0' H' (a2.px.trans p) rx⟩
theorem wE_methD {C : Addr} {f : Str} (h : wE w ta ρ fun d ρ0 => ∃ fs, d = .ins C fs ∧ fs.lookup f = none ∧ wA w t ρ0 fun ds ρ1 => wA w tk ρ1 fun es ρ2 => ds.length = n ∧ es.length = m ∧ S (pick (shiftIx ix) (.ins C fs :: ds ++ es ++ dd)) (fun d => Φ d ρ2) w.X) :
    wE w (tMethD w.K C f S n m ix dd w.EX ta t tk) ρ Φ := fun c H0 H σ Q a x k =>
  h c H0 H σ _ a x fun v d ρ0 H00 H0h ⟨fs, ed, l0, h⟩ a0 e0 r0 => by
    subst ed
    cases r0 with
    | ins hp hk =>
      exact ⟨_, _, _, rfl, a0.px.i _ _ hp, hk.noKey l0, h c H00 H0h σ _ a0 x fun vs ds ρ1 H01 H1 h1 a1 e1 r1 => h1 c H01 H1 σ _ a1 x fun zs es ρ2 H02 H2 ⟨l1, l2, q⟩ a2 e2 r2 => ⟨r1.length.trans l1, r2.length.trans l2, H02, .ins C fs :: ds, es, fun d => Φ d ρ2, w.X, a2.px.i,
        .cons ((Rep.ins hp hk).mono (e1.trans e2)) (r1.mono e2), r2, q, fun v d H0' H' z p rv => k v d ρ2 H0' H' z (a2.go p) ((e0.trans (e1.trans e2)).trans p.e0) rv, fun y dd H0' H' z p rx => x.l y z dd H0' H' (a2.px.trans p) rx⟩⟩
/-- a property: nothing is raised in it -/
theorem wE_propD {C : Addr} (h : wE w te ρ fun d ρ1 => ∃ fs, d = .ins C fs ∧ S [.ins C fs] (fun d => Φ d ρ1) (fun _ => False)) : wE w (tProp C (lift w.K S) [] EN te) ρ Φ := fun c H0 H σ Q a x k =>
  h c H0 H σ _ a x fun v d ρ1 H01 H1 ⟨fs, ed, q⟩ a1 e1 r1 => by
    subst ed
    cases r1 with
    | ins hp hk =>
      exact ⟨_, _, _, rfl, a1.px.i _ _ hp, H01, [.ins C fs], fun d => Φ d ρ1, fun _ => False, a1.px.i, .cons (.ins hp hk) .nil, q, fun v d H0' H' z p rv => k v d ρ1 H0' H' z (a1.go p) (e1.trans p.e0) rv, fun _ _ _ _ z => z.elim⟩
/-! texts put together -/
def fmtG (x : D) (Φ : D → Prop) : Prop := match x with
  | .str y => y.length ≤ 1000000 ∧ Φ (.str y)
  | .int i => i.natAbs.log2 < 1920 ∧ Φ (.str (toString i))
  | _ => False
theorem wE_fmt (h : wE w te ρ fun d ρ1 => fmtG d fun d' => Φ d' ρ1) : wE w (tFmt te) ρ Φ := fun c H0 H σ Q a x k =>
  h c H0 H σ _ a x fun v d ρ1 H01 H1 q a1 e1 r1 => by
    cases r1 <;> first
      | exact q.elim
      | exact .inl ⟨_, rfl, len_ok q.1, k _ _ ρ1 H01 H1 q.2 a1 e1 (.str _)⟩
      | exact .inr ⟨_, rfl, q.1, k _ _ ρ1 H01 H1 q.2 a1 e1 (.str _)⟩
def wJ (w : Wx) : List TE → Str → Env' → (Str → Env' → Prop) → Prop
  | [], acc, ρ, Φ => Φ acc ρ
  | t :: ts, acc, ρ, Φ => wE w t ρ fun d ρ1 => ∃ y, d = .str y ∧ (acc ++ y).length ≤ 1000000 ∧ wJ w ts (acc ++ y) ρ1 Φ
theorem wJ_run : ∀ (ts : List TE) (acc : Str) (ρ : Env') (Φ : Str → Env' → Prop), wJ w ts acc ρ Φ → ∀ (c : Ctx) (H0 H : Hp) (σ : St) (Q : Str → Hp → Prop), At w.K c ρ H0 H σ → XLink w c →
    (∀ out ρ' H0' H', Φ out ρ' → At w.K c ρ' H0' H' σ → Ex H0 H0' → Q out H') → tJs ts acc σ H Q
  | [], acc, ρ, Φ, h, c, H0, H, σ, Q, a, x, k => k acc ρ H0 H h a (.refl _)
  | t :: ts, acc, ρ, Φ, h, c, H0, H, σ, Q, a, x, k => h c H0 H σ _ a x fun v d ρ1 H01 H1 ⟨y, ed, hz, q⟩ a1 e1 r1 => by
    subst ed
    cases r1
    exact ⟨y, rfl, len_ok hz, wJ_run ts _ ρ1 Φ q c H01 H1 σ Q a1 x fun out ρ' H0' H' z a' e' => k out ρ' H0' H' z a' (e1.trans e')⟩
theorem wE_joined {ts : List TE} (h : wJ w ts Str.empty ρ fun out ρ' => Φ (.str out) ρ') : wE w (fun σ H Q => tJs ts Str.empty σ H fun out H1 => Q (.str out) H1) ρ Φ := fun c H0 H σ Q a x k =>
  wJ_run ts _ ρ _ h c H0 H σ _ a x fun out ρ' H0' H' z a' e' => k _ _ ρ' H0' H' z a' e' (.str _)
end
/-! ### statements -/
section
variable {w : Wx} {ρ : Env'} {E : DE} {ts : TS}
/-- a, b = e, f -/
theorem wS_par {i j : Nat} {t : TA} (h : wA w t ρ fun ds ρ1 => ∃ d1 d2, ds = [d1, d2] ∧ E.nx ((ρ1.set i (some (.dat d1))).set j (some (.dat d2)))) : wS w (tPar i j t) E ρ := fun c Dn H0 H σ a x l =>
  h c H0 H σ _ a x fun vs ds ρ1 H01 H1 ⟨d1, d2, e, q⟩ a1 e1 r1 => by
    subst e
    obtain ⟨v1, v2, rfl, g1, g2⟩ := vals_two r1
    exact ⟨v1, v2, rfl, l.nx _ _ _ _ q ((a1.setDat g1 i).setDat g2 j)⟩
/-! self.f = e, self being one's own -/
def putD (f : Str) (v : D) : List (Str × D) → List (Str × D)
  | [] => [(f, v)]
  | (g, x) :: r => if g = f then (g, v) :: r else (g, x) :: putD f v r
theorem repKV_put {K : PySem.W.Frag} {H : Hp} {f : Str} {v : V} {d : D} (r : Rep K H v d) : ∀ {vs : List (Str × V)} {ds : List (Str × D)}, RepKV K H vs ds → RepKV K H (putF f v vs) (putD f d ds)
  | _, _, .nil => .cons r .nil
  | _, _, .cons (k := k) h hs => by
    unfold putF putD
    by_cases e : k = f
    · rw [if_pos e, if_pos e]; exact .cons r hs
    · rw [if_neg e, if_neg e]; exact .cons h (repKV_put r hs)
theorem own_ins {K : PySem.W.Frag} {H0 : Hp} {o : HO} {C : Addr} {fs : List (Str × D)} (r : RepO K H0 o (.ins C fs)) : ∃ dx vs, o = .ins C dx vs ∧ RepKV K H0 vs fs := by
  cases r with
  | ins h => exact ⟨_, _, rfl, h⟩
theorem wS_fld {i : Nat} {f : Str} {te : TE} (h : wE w te ρ fun d ρ1 => ∃ t C fs, ρ1[i]? = some (some (.own t (.ins C fs))) ∧ Cls w.K C ∧ NoAttr w.K C f ∧ fs.length < 1000 ∧ E.nx (ρ1.set i (some (.own t (.ins C (putD f d fs)))))) : wS w (sFld w.K (tVar i) te f) E ρ := fun c Dn H0 H σ a x l =>
  h c H0 H σ _ a x fun v d ρ1 H01 H1 ⟨t, C, fs, g, c1, c2, hz, q⟩ a1 e1 r1 => by
    obtain ⟨p, o, h1, h2, _, _, r⟩ := a1.own g
    obtain ⟨dx, vs, rfl, r2⟩ := own_ins r
    exact ⟨.ref p, h1, p, C, dx, vs, rfl, h2, c1, c2, by rw [r2.length]; exact hz, l.nx _ _ _ _ q (a1.turn g h1 (.ins (repKV_put r1 r2)))⟩
end
/-! ### defs -/
structure FunX (K : PySem.W.Frag) (x qual : Str) (st : Stmt) (f : Addr) (fd : FuncData) : Prop where
  ex : ∃ (oc : Value) (od : Option Addr) (dV kV doc pm : Value) (an : Option Addr) (cdv ct : Value) (osl : Array (Option Value)),
    fd = PySem.W.fnOf x qual (defArgs st) (defBody st) (defScope st) dV kV doc pm an cdv ct ∧ K.lookup f = some ⟨oc, od, .func fd, osl⟩ ∧ PySem.W.codeIn K cdv qual = true
section
variable {P : Program} {w : World} {K : PySem.W.Frag} {mg : Str → Option Value} {base : Heap}
/-- where a def's body stands -/
abbrev bodyX (P : Program) (w : World) (K : PySem.W.Frag) (mg : Str → Option Value) (base : Heap) (N : List Str) (qual : Str) (st : Stmt) (f : Addr) (cdv : Value) (A : Around) (outer : List Env) (s : Shared) (H : Hp) (E : XK) : Cx :=
  cxOf (CXD P w) P w K mg base N qual (defScope st) f cdv A outer s H E
structure InBody (P : Program) (w : World) (k : Nat) (X : Cx) (E : XK) : Prop where
  room : RoomG k X.A
  pass : Passes (CXD P w) X E
  own : PassesOwn (model P w) X.A X.env X.xe
/-- THE RULE for a def -/
theorem fnX_of {x qual : Str} {st : Stmt} {f : Addr} {fd : FuncData} {N ps : List Str} {k : Nat} {S : DSp} (F : FunX K x qual st f fd) (Sc : FnScope N ps (defScope st)) (len : ∀ ds Φ Ψ, S ds Φ Ψ → ds.length = ps.length)
    (hbody : ∀ (cdv : Value) (A : Around) (outer : List Env) (s : Shared) (H : Hp) (E : XK), InBody P w k (bodyX P w K mg base N qual st f cdv A outer s H E) E →
      ∃ t, PSs (bodyX P w K mg base N qual st f cdv A outer s H E) (defBody st) t ∧ ∀ ds Φ Ψ, S ds Φ Ψ → wS ⟨K, E, Ψ, []⟩ t { nx := fun _ => Φ .non, rt := fun d _ => Φ d } (startE N ds)) :
    FnG P w K mg base (k + 1) f fd ps (lift K S) := by
  obtain ⟨oc, od, dV, kV, doc, pm, an, cdv, ct, osl, rfl, lk, hcd⟩ := F.ex
  refine fnG_of lk hcd Sc (fun vs H Q E ⟨H0, ds, Φ, Ψ, _, r, q, _⟩ => r.length.trans (len ds Φ Ψ q)) fun A outer s H vs Q E room ⟨H0, ds, Φ, Ψ, e, r, q, kq, kx⟩ => ?_
  obtain ⟨t, ht, hw⟩ := hbody cdv A outer s H E ⟨room, passes_call (takes_of rfl rfl rfl rfl) fun _ _ _ _ h => h, passes_of rfl⟩
  refine ⟨t, ht, hw ds Φ Ψ q ⟨H, H0, []⟩ _ H0 H _ (at_start e r) ⟨rfl, fun x hx dd H0' H' p rx => kx x dd H0' H' hx p rx⟩ ⟨fun ρ H0' H' σ z a => kq .non .non H0' H' z a.px .non, fun d v ρ H0' H' σ z a rv => kq v d H0' H' z a.px rv, fun _ _ _ _ _ _ _ z => z.elim, fun _ _ _ _ z => z.elim, fun _ _ _ _ z => z.elim⟩⟩
def startI (x C : Addr) (N : List Str) (ds : List D) : Env' := some (.own (some x) (.ins C [])) :: ((ds.map fun d => some (.dat d)) ++ List.replicate (N.length - (ds.length + 1)) none)
theorem slots_startI {H0 H : Hp} {n : Nat} {x C dx : Addr} {vs : List V} {ds : List D} (hx : H x = some (.ins C dx [])) (r : RepAll K H0 vs ds) :
    Slots K H0 H (some (.own (some x) (.ins C [])) :: ((ds.map fun d => some (.dat d)) ++ List.replicate n none)) (some (.ref x) :: (vs.map some ++ List.replicate n none)) [x] :=
  .own (fun q e => by cases e; rfl) hx (.ins .nil) (slots_start r)
/-- .. for an __init__: the attributes -/
theorem fnI_of {x qual : Str} {C : Addr} {st : Stmt} {f : Addr} {fd : FuncData} {N ps : List Str} {k : Nat} {S : ISp} (F : FunX K x qual st f fd) (Sc : FnScope N ps (defScope st)) (len : ∀ ds Φ Ψ, S ds Φ Ψ → ds.length + 1 = ps.length)
    (hbody : ∀ (cdv : Value) (A : Around) (outer : List Env) (s : Shared) (H : Hp) (E : XK), InBody P w k (bodyX P w K mg base N qual st f cdv A outer s H E) E →
      ∃ t, PSs (bodyX P w K mg base N qual st f cdv A outer s H E) (defBody st) t ∧ ∀ y ds Φ Ψ, S ds Φ Ψ → wS ⟨K, E, Ψ, []⟩ t { nx := fun ρ => ∃ fs, ρ[0]? = some (some (.own (some y) (.ins C fs))) ∧ Φ fs } (startI y C N ds)) :
    FnG P w K mg base (k + 1) f fd ps (liftI K C S) := by
  obtain ⟨oc, od, dV, kV, doc, pm, an, cdv, ct, osl, rfl, lk, hcd⟩ := F.ex
  refine fnG_of lk hcd Sc (fun vs H Q E ⟨y, dx, vs', He, H0, ds, Φ, Ψ, ev, _, _, _, _, r, q, _⟩ => by rw [ev, List.length_cons, r.length]; exact len ds Φ Ψ q) fun A outer s H vs Q E room ⟨y, dx, vs', He, H0, ds, Φ, Ψ, ev, hy, hye, e1, e2, r, q, kq, kx⟩ => ?_
  subst ev
  obtain ⟨t, ht, hw⟩ := hbody cdv A outer s H E ⟨room, passes_call (takes_of rfl rfl rfl rfl) fun _ _ _ _ h => h, passes_of rfl⟩
  have h0 : H0 y = none := e2.back hye
  have a : At K ⟨He, H0, []⟩ (startI y C N ds) H0 H (L2.start N (V.ref y :: vs')) := by
    refine ⟨⟨.of e1, .refl _, e2.trans e1, fun _ _ h => h⟩, .nil, [y], ?_, by simp, fun p hp => ?_⟩
    · have z := slots_startI (n := N.length - (ds.length + 1)) (C := C) hy r
      unfold startI L2.start
      rw [List.length_cons, r.length]
      exact z
    · rw [List.mem_singleton.mp hp]; exact ⟨h0, hye⟩
  refine ⟨t, ht, hw y ds Φ Ψ q ⟨He, H0, []⟩ _ H0 H _ a ⟨rfl, fun x hx dd H0' H' p rx => kx x dd H0' H' hx p rx⟩ ⟨fun ρ H0' H' σ ⟨fs, g, z⟩ a' => ?_, fun _ _ _ _ _ _ z => z.elim, fun _ _ _ _ _ _ _ z => z.elim, fun _ _ _ _ z => z.elim, fun _ _ _ _ z => z.elim⟩⟩
  obtain ⟨p, o, g1, g2, _, gt, _⟩ := a'.own g
  obtain ⟨p', o', g1', _, _, _, a2, r2⟩ := a'.freeze g
  rw [g1] at g1'
  cases g1'
  rw [gt y rfl] at r2
  rw [gt y rfl] at a2
  exact kq fs _ _ z a2.px r2
end
end DL
namespace DL
open PySem PySem.Spec L2
open PyProof.Rows hiding St
/-! ### a def that changes the list it is handed -/
abbrev MSp := List D → List D → (D → List D → Prop) → Prop
def liftM (K : PySem.W.Frag) (S : MSp) : Sp := fun vs H Q _ => ∃ (x : Addr) (vs' us : List V) (He H0 : Hp) (ms ds : List D) (Φ : D → List D → Prop), vs = .ref x :: vs' ∧ H x = some (.lst us) ∧ He x = none ∧ Ex He H ∧ Ex H0 He ∧ RepAll K H0 us ms ∧ RepAll K H0 vs' ds ∧ S ms ds Φ ∧
  (∀ v d us' ms' H0' H', Φ d ms' → PX ⟨He, H0, []⟩ H0' H' → H0' x = none → H' x = some (.lst us') → RepAll K H0' us' ms' → Rep K H0' v d → Q v H')
def startM (x : Addr) (ms : List D) (N : List Str) (ds : List D) : Env' := some (.own (some x) (.lst ms)) :: ((ds.map fun d => some (.dat d)) ++ List.replicate (N.length - (ds.length + 1)) none)
section
variable {P : Program} {w : World} {K : PySem.W.Frag} {mg : Str → Option Value} {base : Heap}
theorem fnM_of {x qual : Str} {st : Stmt} {f : Addr} {fd : FuncData} {N ps : List Str} {k : Nat} {S : MSp} (F : FunX K x qual st f fd) (Sc : FnScope N ps (defScope st)) (len : ∀ ms ds Φ, S ms ds Φ → ds.length + 1 = ps.length)
    (hbody : ∀ (cdv : Value) (A : Around) (outer : List Env) (s : Shared) (H : Hp) (E : XK), InBody P w k (bodyX P w K mg base N qual st f cdv A outer s H E) E →
      ∃ t, PSs (bodyX P w K mg base N qual st f cdv A outer s H E) (defBody st) t ∧ ∀ y ms ds Φ, S ms ds Φ → wS ⟨K, E, fun _ => False, []⟩ t { nx := fun ρ => ∃ ms', ρ[0]? = some (some (.own (some y) (.lst ms'))) ∧ Φ .non ms', rt := fun d ρ => ∃ ms', ρ[0]? = some (some (.own (some y) (.lst ms'))) ∧ Φ d ms' } (startM y ms N ds)) :
    FnG P w K mg base (k + 1) f fd ps (liftM K S) := by
  obtain ⟨oc, od, dV, kV, doc, pm, an, cdv, ct, osl, rfl, lk, hcd⟩ := F.ex
  refine fnG_of lk hcd Sc (fun vs H Q E ⟨y, vs', us, He, H0, ms, ds, Φ, ev, _, _, _, _, _, r, q, _⟩ => by rw [ev, List.length_cons, r.length]; exact len ms ds Φ q) fun A outer s H vs Q E room ⟨y, vs', us, He, H0, ms, ds, Φ, ev, hy, hye, e1, e2, rm, r, q, kq⟩ => ?_
  subst ev
  obtain ⟨t, ht, hw⟩ := hbody cdv A outer s H E ⟨room, passes_call (takes_of rfl rfl rfl rfl) fun _ _ _ _ h => h, passes_of rfl⟩
  have h0 : H0 y = none := e2.back hye
  have a : At K ⟨He, H0, []⟩ (startM y ms N ds) H0 H (L2.start N (V.ref y :: vs')) := by
    refine ⟨⟨.of e1, .refl _, e2.trans e1, fun _ _ h => h⟩, .nil, [y], ?_, by simp, fun p hp => ?_⟩
    · unfold startM L2.start
      rw [List.length_cons, r.length]
      exact .own (fun q e => by cases e; rfl) hy (.lst rm) (slots_start r)
    · rw [List.mem_singleton.mp hp]; exact ⟨h0, hye⟩
  have fin : ∀ d v ρ H0' H' σ, (∃ ms', ρ[0]? = some (some (.own (some y) (.lst ms'))) ∧ Φ d ms') → At K ⟨He, H0, []⟩ ρ H0' H' σ → Rep K H0' v d → Q v H' := fun d v ρ H0' H' σ ⟨ms', g, z⟩ a' rv => by
    obtain ⟨p, o, g1, g2, g3, gt, g4⟩ := a'.own g
    obtain ⟨us', rfl, r2⟩ := own_lst g4
    rw [gt y rfl] at g2 g3
    exact kq v d us' ms' H0' H' z a'.px g3 g2 r2 rv
  refine ⟨t, ht, hw y ms ds Φ q ⟨He, H0, []⟩ _ H0 H _ a ⟨rfl, fun _ hx => hx.elim⟩ ⟨fun ρ H0' H' σ z a' => fin _ _ ρ H0' H' σ z a' .non, fun d v ρ H0' H' σ z a' rv => fin d v ρ H0' H' σ z a' rv, fun _ _ _ _ _ _ _ z => z.elim, fun _ _ _ _ z => z.elim, fun _ _ _ _ z => z.elim⟩⟩
end
/-! reading and writing such a list -/
section
variable {w : Wx} {ρ : Env'} {Φ : D → Env' → Prop} {te ti : TE}
/-- x[j], x one's own, its item data -/
theorem wE_ixOwn {i : Nat} (h0 : ∃ t ds, ρ[i]? = some (some (.own t (.lst ds)))) (h : wE w ti ρ fun d ρ1 => ∃ t j ds y, d = .int j ∧ ρ1[i]? = some (some (.own t (.lst ds))) ∧ L2.atI ds j = some y ∧ Φ y ρ1) : wE w (tOp (rIx w.K) (tVar i) ti) ρ Φ := fun c H0 H σ Q a x k => by
  obtain ⟨t0, ds0, h0⟩ := h0
  obtain ⟨p, o, h1, _⟩ := a.own h0
  refine ⟨.ref p, h1, h c H0 H σ _ a x fun v d ρ1 H01 H1 ⟨t, j, ds, y, e, g, hj, q⟩ a1 e1 r1 => ?_⟩
  subst e
  cases r1
  obtain ⟨p', o', g1, g2, _, _, g3⟩ := a1.own g
  rw [h1] at g1
  cases g1
  obtain ⟨us, rfl, r2⟩ := own_lst g3
  obtain ⟨u, hu, ru⟩ := r2.atI hj
  exact .inl ⟨_, us, j, u, rfl, rfl, .inl (.inl g2), hu, k u y ρ1 H01 H1 q a1 e1 ru⟩
theorem RepAll.set {K : PySem.W.Frag} {H : Hp} {v : V} {d : D} (r : Rep K H v d) : ∀ {vs : List V} {ds : List D} (j : Nat), RepAll K H vs ds → RepAll K H (vs.set j v) (ds.set j d)
  | _, _, _, .nil => .nil
  | _, _, 0, .cons _ hs => .cons r hs
  | _, _, j + 1, .cons h hs => .cons h (hs.set r j)
/-- x[j] = .., x one's own -/
theorem wG_subOwn {i : Nat} {d : D} {Ψ : Env' → Prop} (h0 : ∃ t ds, ρ[i]? = some (some (.own t (.lst ds)))) (h : wE w ti ρ fun dj ρ1 => ∃ t j n ds, dj = .int j ∧ ρ1[i]? = some (some (.own t (.lst ds))) ∧ ixN ds.length j = some n ∧ Ψ (ρ1.set i (some (.own t (.lst (ds.set n d)))))) :
    wG w (gSub (tVar i) ti rSetL) d ρ Ψ := fun c H0 H σ v Q a x r k => by
  obtain ⟨t0, ds0, h0⟩ := h0
  obtain ⟨p, o, h1, _⟩ := a.own h0
  refine ⟨.ref p, h1, h c H0 H σ _ a x fun vj dj ρ1 H01 H1 ⟨t, j, n, ds, e, g, hj, q⟩ a1 e1 r1 => ?_⟩
  subst e
  cases r1
  obtain ⟨p', o', g1, g2, _, _, g3⟩ := a1.own g
  rw [h1] at g1
  cases g1
  obtain ⟨us, rfl, r2⟩ := own_lst g3
  exact ⟨p, us, j, n, rfl, rfl, g2, by rw [r2.length]; exact hj, k _ H01 _ σ q (a1.turn g h1 (.lst (r2.set (r.mono e1) n))) e1⟩
end
/-! ### the list that draws numbers, as something of which nothing but that is known -/
theorem objOk_view {P : Program} {w : World} {H H2 : Hp} {h : Heap} (k1 : ∀ q y, H q = some (.own y) → H2 q = some (.own y)) (k2 : ∀ q xs, H q = some (.tup xs) → H2 q = some (.tup xs)) {a : Addr} : ∀ {o : HO}, ObjOk P w H h a o → ObjOk P w H2 h a o
  | .lst _, x => x
  | .tup _, x => x
  | .dK _, x => x
  | .dT _, x => let ⟨x1, x2, xs, p, r⟩ := x; ⟨x1, x2, xs, L2.Paired.mapP p fun _ _ ⟨z1, z2, z3⟩ => ⟨z1, k2 _ _ z2, z3⟩, r⟩
  | .set _ _, x => x
  | .ins _ _ _, x => ⟨k1 _ _ x.1, x.2⟩
  | .own _, x => x
  | .xd _, x => x
  | .rng _ _, x => x
  | .frz _ _, x => ⟨x.1, objOk_view k1 k2 x.2⟩
  | .tbl _, x => x
  | .met _ _, x => x
  | .ext _, x => x
abbrev PSp := List Int → (D → Prop) → Prop
/-- a promise about the list that draws numbers: it is handed one, and whole numbers -/
def pailS (SP : PSp) : DSp := fun ds Φ _ => ∃ ns : List Int, ds = .pail :: ns.map D.int ∧ SP ns Φ
theorem seq3 {its : List Value} {i j k : Int} (r : Vals [V.int i, V.int j, V.int k] its) : ∃ t u v, its = [.int i t, .int j u, .int k v] := by
  cases r with
  | cons r0 r =>
    cases r with
    | cons r1 r =>
      cases r with
      | cons r2 r =>
        cases r
        obtain ⟨t, rfl⟩ := r0
        obtain ⟨u, rfl⟩ := r1
        obtain ⟨v, rfl⟩ := r2
        exact ⟨t, u, v, rfl⟩
theorem fnP_of {P : Program} {w : World} {K : PySem.W.Frag} {mg : Str → Option Value} {base : Heap} {k : Nat} {f : Addr} {fd : FuncData} {ps : List Str} {SM : MSp} {SP : PSp} (F : FnG P w K mg base k f fd ps (liftM K SM))
    (hS : ∀ i j l ns Φ, PB i j → SP ns Φ → SM [.int i, .int j, .int l] (ns.map D.int) fun d ms => Φ d ∧ ∃ i' j' l', ms = [.int i', .int j', .int l'] ∧ PB i' j') (len : ∀ ns Φ, SP ns Φ → ns.length + 1 = ps.length) : FnG P w K mg base k f fd ps (lift K (pailS SP)) := by
  refine ⟨fun vs H Q E ⟨H0, ds, Φ, Ψ, _, r, ⟨ns, e, q⟩, _⟩ => by rw [r.length, e, List.length_cons, List.length_map]; exact len ns Φ q, fun A outer s H args us vs Q E room env0 binds rel ⟨H0, ds, Φ, Ψ, e0, r, ⟨ns, e, q⟩, kq, kx⟩ => ?_⟩
  subst e
  cases r with
  | @cons v vs' _ _ r0 r =>
    cases r0 with
    | @pail x hx =>
      have ev := r.ofInts
      subst ev
      have hH := e0 _ _ hx
      obtain ⟨⟨i, j, l, t, u, v, n, pb, hob⟩, _, _⟩ : ObjOk P w H s.heap x (PailP x) := env0.hok x _ hH
      generalize hH1 : upd H x (.lst [.int i, .int j, .int l]) = H1
      have at_x : H1 x = some (.lst [.int i, .int j, .int l]) := by rw [← hH1]; exact upd_same
      have at_ne : ∀ {b}, b ≠ x → H1 b = H b := fun hb => by rw [← hH1]; exact upd_ne hb
      have none1 : ∀ {b}, H b = none → H1 b = none := fun {b} hb => by
        rw [at_ne fun z => by rw [z, hH] at hb; cases hb]; exact hb
      have env1 : Env0 P w K mg base A outer s H1 := by
        refine ⟨env0.frames, env0.mod, fun b o z => ⟨(env0.bs b o z).1, none1 (env0.bs b o z).2⟩, env0.bsz, env0.funs, fun b hb => none1 (env0.frf b hb), fun b o hb => ?_, env0.bare⟩
        by_cases eb : b = x
        · subst eb
          rw [at_x] at hb
          cases hb
          exact ⟨(by show 3 ≤ sizeLine; decide), [.int i t, .int j u, .int l v], n, .cons ⟨_, rfl⟩ (.cons ⟨_, rfl⟩ (.cons ⟨_, rfl⟩ .nil)), hob⟩
        · rw [at_ne eb] at hb
          exact objOk_view (fun q y hq => by rw [at_ne fun z => by rw [z, hH] at hq; cases hq]; exact hq) (fun q y hq => by rw [at_ne fun z => by rw [z, hH] at hq; cases hq]; exact hq) (env0.hok b o hb)
      let He : Hp := fun b => if b = x then none else H b
      let Hz : Hp := fun b => if b = x then none else H0 b
      have he_ne : ∀ {b}, b ≠ x → He b = H b := fun hb => if_neg hb
      have hz_ne : ∀ {b}, b ≠ x → Hz b = H0 b := fun hb => if_neg hb
      have he_x : He x = none := if_pos rfl
      have hz_x : Hz x = none := if_pos rfl
      have exa : Ex He H1 := fun b o hb => by
        by_cases eb : b = x
        · rw [eb, he_x] at hb; cases hb
        · rw [he_ne eb] at hb; rw [at_ne eb]; exact hb
      have exb : Ex Hz He := fun b o hb => by
        by_cases eb : b = x
        · rw [eb, hz_x] at hb; cases hb
        · rw [hz_ne eb] at hb; rw [he_ne eb]; exact e0 b o hb
      refine codeAny_mono (F.run A outer s H1 args us _ (fun v H' => (∃ i' j' l', H' x = some (.lst [.int i', .int j', .int l']) ∧ PB i' j') ∧ Q v (upd H' x (PailP x))) EN room env1 binds rel
        ⟨x, _, _, He, Hz, _, _, _, rfl, at_x, he_x, exa, exb, .cons (.int i) (.cons (.int j) (.cons (.int l) .nil)), RepAll.ints ns, hS i j l ns Φ pb q, fun v d us' ms' H0' H' ⟨hΦ, i', j', l', em, pb'⟩ px h0x hx' rm rv => ?_⟩) fun r s' z => ?_
      · subst em
        have eu : us' = [.int i', .int j', .int l'] := RepAll.ofInts (ns := [i', j', l']) rm
        subst eu
        refine ⟨⟨i', j', l', hx', pb'⟩, kq v d (upd H0' x (PailP x)) (upd H' x (PailP x)) hΦ ⟨.of fun b o hb => ?_, fun b o hb => ?_, px.i.both, fun b h1 h2 => ?_⟩ (rv.mono (Ex.new h0x))⟩
        · by_cases eb : b = x
          · subst eb
            have hb' : H b = some o := hb
            rw [hH] at hb'; cases hb'; exact upd_same
          · rw [upd_ne eb]; exact px.ex b o (by show He b = some o; rw [he_ne eb]; exact hb)
        · by_cases eb : b = x
          · subst eb
            have hb' : H0 b = some o := hb
            rw [hx] at hb'; cases hb'; exact upd_same
          · rw [upd_ne eb]; exact px.e0 b o (by show Hz b = some o; rw [hz_ne eb]; exact hb)
        · have h2' : H0 b = none := h2
          have eb : b ≠ x := fun z => by rw [z, hx] at h2'; cases h2'
          rw [upd_ne eb]
          exact px.n b (by show He b ≠ none; rw [he_ne eb]; exact h1) (by show Hz b = none; rw [hz_ne eb]; exact h2)
      · cases r with
        | error er => obtain ⟨_, _, _, _, _, _, _, _, _, _, _, _, z⟩ := z; exact z.elim
        | ok fl =>
          cases fl with
          | ret uv =>
            obtain ⟨v', H', os, bare, un, hok, rv, ⟨i', j', l', hx', pb'⟩, qv⟩ := z
            refine ⟨v', upd H' x (PailP x), os, bare, ⟨fun b o h1 h2 => un.keep b o h1 (none1 h2), fun b o h1 h2 => un.slot b o h1 (none1 h2), fun b o h1 h2 h3 => ?_, un.there, fun b xs h1 => ?_, fun b o u h1 => ?_, fun b ps h1 => ?_⟩, fun b o hb => ?_, rv, qv⟩
            · have eb : b ≠ x := fun z => by rw [z, hH] at h2; cases h2
              rw [upd_ne eb]; exact un.free b o h1 (none1 h2) h3
            · have eb : b ≠ x := fun z => by rw [z, hH] at h1; cases h1
              rw [upd_ne eb]; exact un.tups b xs (by rw [at_ne eb]; exact h1)
            · have eb : b ≠ x := fun z => by rw [z, hH] at h1; cases h1
              rw [upd_ne eb]; exact un.frzs b o u (by rw [at_ne eb]; exact h1)
            · have eb : b ≠ x := fun z => by rw [z, hH] at h1; cases h1
              obtain ⟨more, hm⟩ := un.tbls b ps (by rw [at_ne eb]; exact h1)
              exact ⟨more, by rw [upd_ne eb]; exact hm⟩
            · by_cases eb : b = x
              · subst eb
                rw [upd_same] at hb
                cases hb
                obtain ⟨_, its, n', rs, ho⟩ : ObjOk P w H' s'.heap b (.lst [.int i', .int j', .int l']) := hok b _ hx'
                obtain ⟨t', u', v'', rfl⟩ := seq3 rs
                exact ⟨⟨i', j', l', t', u', v'', n', pb', ho⟩, ⟨_, ho⟩, fun h1 h2 ⟨i, j, k, t, u, v, n, hp, g⟩ z => ⟨i, j, k, t, u, v, n, hp, z _ g⟩⟩
              · rw [upd_ne eb] at hb
                exact objOk_view (fun q y hq => by rw [upd_ne fun z => by rw [z, hx'] at hq; cases hq]; exact hq) (fun q y hq => by rw [upd_ne fun z => by rw [z, hx'] at hq; cases hq]; exact hq) (hok b o hb)
          | next => exact z.elim
          | brk => exact z.elim
          | cont => exact z.elim
/-! ### a def that returns a new list, nobody's yet -/
abbrev RSp := List D → (List D → Prop) → Prop
def liftR (K : PySem.W.Frag) (S : RSp) : Sp := fun vs H Q _ => ∃ (H0 : Hp) (ds : List D) (Φ : List D → Prop), Ex H0 H ∧ RepAll K H0 vs ds ∧ S ds Φ ∧
  (∀ p us ms H0' H', Φ ms → PX ⟨H, H0, []⟩ H0' H' → H0' p = none → H p = none → H' p = some (.lst us) → RepAll K H0' us ms → Q (.ref p) H')
section
variable {P : Program} {w : World} {K : PySem.W.Frag} {mg : Str → Option Value} {base : Heap}
theorem fnR_of {x qual : Str} {st : Stmt} {f : Addr} {fd : FuncData} {N ps : List Str} {k : Nat} {S : RSp} (F : FunX K x qual st f fd) (Sc : FnScope N ps (defScope st)) (len : ∀ ds Φ, S ds Φ → ds.length = ps.length)
    (hbody : ∀ (cdv : Value) (A : Around) (outer : List Env) (s : Shared) (H : Hp) (E : XK), InBody P w k (bodyX P w K mg base N qual st f cdv A outer s H E) E →
      ∃ t, PSs (bodyX P w K mg base N qual st f cdv A outer s H E) (defBody st) t ∧ ∀ ds Φ, S ds Φ → wS ⟨K, E, fun _ => False, []⟩ t { nx := fun _ => False, ro := fun ms _ => Φ ms } (startE N ds)) :
    FnG P w K mg base (k + 1) f fd ps (liftR K S) := by
  obtain ⟨oc, od, dV, kV, doc, pm, an, cdv, ct, osl, rfl, lk, hcd⟩ := F.ex
  refine fnG_of lk hcd Sc (fun vs H Q E ⟨H0, ds, Φ, _, r, q, _⟩ => r.length.trans (len ds Φ q)) fun A outer s H vs Q E room ⟨H0, ds, Φ, e, r, q, kq⟩ => ?_
  obtain ⟨t, ht, hw⟩ := hbody cdv A outer s H E ⟨room, passes_call (takes_of rfl rfl rfl rfl) fun _ _ _ _ h => h, passes_of rfl⟩
  refine ⟨t, ht, hw ds Φ q ⟨H, H0, []⟩ _ H0 H _ (at_start e r) ⟨rfl, fun _ hx => hx.elim⟩ ⟨fun _ _ _ _ z => z.elim, fun _ _ _ _ _ _ z => z.elim, fun ms p us ρ H0' H' σ z a g1 g2 g3 g4 => kq p us ms H0' H' z a.px g1 g2 g3 g4, fun _ _ _ _ z => z.elim, fun _ _ _ _ z => z.elim⟩⟩
/-- .. three ints that draw: nothing but that is known of it -/
theorem fnPR_of {k : Nat} {f : Addr} {fd : FuncData} {ps : List Str} {S : RSp} {S' : DSp} (F : FnG P w K mg base k f fd ps (liftR K S)) (len : ∀ ds Φ Ψ, S' ds Φ Ψ → ds.length = ps.length)
    (hS : ∀ ds Φ Ψ, S' ds Φ Ψ → S ds fun ms => Φ .pail ∧ ∃ i j l, ms = [.int i, .int j, .int l] ∧ PB i j) : FnG P w K mg base k f fd ps (lift K S') := by
  refine ⟨fun vs H Q E ⟨H0, ds, Φ, Ψ, _, r, q, _⟩ => r.length.trans (len ds Φ Ψ q), fun A outer s H args us vs Q E room env0 binds rel ⟨H0, ds, Φ, Ψ, e0, r, q, kq, kx⟩ => ?_⟩
  refine codeAny_mono (F.run A outer s H args us vs (fun v H' => ∃ x i j l, v = .ref x ∧ H' x = some (.lst [.int i, .int j, .int l]) ∧ PB i j ∧ H x = none ∧ Q v (upd H' x (PailP x))) EN room env0 binds rel
    ⟨H0, ds, _, e0, r, hS ds Φ Ψ q, fun x us' ms H0' H' ⟨hΦ, i, j, l, em, pb⟩ px h0 hn hx' rm => ?_⟩) fun r s' z => ?_
  · subst em
    have eu : us' = [.int i, .int j, .int l] := RepAll.ofInts (ns := [i, j, l]) rm
    subst eu
    refine ⟨x, i, j, l, rfl, hx', pb, hn, kq _ _ (upd H0' x (PailP x)) (upd H' x (PailP x)) hΦ ⟨.of fun b o hb => ?_, fun b o hb => ?_, px.i.both, fun b h1 h2 => ?_⟩ (.pail upd_same)⟩
    · rw [upd_ne (ne_of_none hb hn)]; exact px.ex b o hb
    · have hb' : H0 b = some o := hb
      rw [upd_ne (ne_of_none (e0 b o hb') hn)]; exact px.e0 b o hb
    · have eb : b ≠ x := fun z => h1 (by rw [z]; exact hn)
      rw [upd_ne eb]; exact px.n b h1 h2
  · cases r with
    | error er => obtain ⟨_, _, _, _, _, _, _, _, _, _, _, _, z⟩ := z; exact z.elim
    | ok fl =>
      cases fl with
      | ret uv =>
        obtain ⟨v', H', os, bare, un, hok, rv, x, i, j, l, ev, hx', pb, hn, qv⟩ := z
        refine ⟨v', upd H' x (PailP x), os, bare, ⟨un.keep, un.slot, fun b o h1 h2 h3 => ?_, un.there, fun b xs h1 => ?_, fun b o u h1 => ?_, fun b ps h1 => ?_⟩, fun b o hb => ?_, rv, qv⟩
        · have hb := un.free b o h1 h2 h3
          rw [upd_ne fun z => by rw [z, hx'] at hb; cases hb]; exact hb
        · rw [upd_ne (ne_of_none h1 hn)]; exact un.tups b xs h1
        · rw [upd_ne (ne_of_none h1 hn)]; exact un.frzs b o u h1
        · obtain ⟨more, hm⟩ := un.tbls b ps h1
          exact ⟨more, by rw [upd_ne (ne_of_none h1 hn)]; exact hm⟩
        · by_cases eb : b = x
          · subst eb
            rw [upd_same] at hb
            cases hb
            obtain ⟨_, its, n', rs, ho⟩ : ObjOk P w H' s'.heap b (.lst [.int i, .int j, .int l]) := hok b _ hx'
            obtain ⟨t', u', v'', rfl⟩ := seq3 rs
            exact ⟨⟨i, j, l, t', u', v'', n', pb, ho⟩, ⟨_, ho⟩, fun h1 h2 ⟨i, j, k, t, u, v, n, hp, g⟩ z => ⟨i, j, k, t, u, v, n, hp, z _ g⟩⟩
          · rw [upd_ne eb] at hb
            exact objOk_view (fun q y hq => by rw [upd_ne fun z => by rw [z, hx'] at hq; cases hq]; exact hq) (fun q y hq => by rw [upd_ne fun z => by rw [z, hx'] at hq; cases hq]; exact hq) (hok b o hb)
      | next => exact z.elim
      | brk => exact z.elim
      | cont => exact z.elim
end
end DL
namespace DL
open PySem PySem.Spec L2
open PyProof.Rows hiding St
/-! ### repr of data -/
theorem log2_lt {a k : Nat} (h : a < 2 ^ k) (hk : 0 < k) : a.log2 < k := by
  by_cases e : a = 0
  · subst e; exact hk
  · exact (Nat.log2_lt e).mpr h
/-! ### isinstance -/
def tyD : D → Option String
  | .non => some "NoneType"
  | .bl _ => some "bool"
  | .int _ => some "int"
  | .str _ => some "str"
  | .tup _ => some "tuple"
  | .lst _ => some "list"
  | .dic _ => some "dict"
  | .scr _ => none
  | .ins _ _ => none
  | .pail => none
  | .raw _ => none
  | .exn _ _ _ => none
  | .dik _ => none
  | .kd _ _ _ _ => none
/-- of these types bool alone has another one above it -/
def isB (t T : String) : Bool := t == T || (t == "bool" && T == "int")
def knownT (T : String) : Bool := T == "int" || T == "bool" || T == "str" || T == "tuple" || T == "list" || T == "dict"
theorem kit_known {K : PySem.W.Frag} {t T : String} (ht : t = "NoneType" ∨ knownT t = true) (hT : knownT T = true) : PySem.W.kitOne K (.type t) (.type T) = some (isB t T) := by
  simp only [knownT, Bool.or_eq_true, beq_iff_eq] at ht hT
  rcases ht with rfl | ((((rfl | rfl) | rfl) | rfl) | rfl) | rfl <;> rcases hT with ((((rfl | rfl) | rfl) | rfl) | rfl) | rfl <;> exact kit_ty (by decide +kernel)
def isiG (ds : List D) (Φ : D → Prop) : Prop := ∃ x t T, ds = [x, .raw (.ty T)] ∧ tyD x = some t ∧ knownT T = true ∧ Φ (.bl (isB t T))
theorem ty_known {x : D} {t : String} (h : tyD x = some t) : t = "NoneType" ∨ knownT t = true := by
  cases x <;> simp [tyD] at h <;> subst h <;> first
    | exact .inl rfl
    | exact .inr (by decide)
theorem sqT_ty {K : PySem.W.Frag} {H : Hp} {a : Addr} {xs : List V} (h : SqT K H a xs) : TyX K H (.ref a) (.type "tuple") := by
  rcases h with (h | ⟨o, h⟩) | ⟨o, its, n, h1, h2, _⟩
  · exact .base (.tup h)
  · exact .fTuple h
  · exact .kTuple h1 h2
theorem cbd_isi {K : PySem.W.Frag} : CbD K (rIsi K) isiG := fun H0 H xs ds Φ Q e rx ⟨x, t, T, hd, h1, h2, g⟩ k => by
  subst hd
  obtain ⟨v, c, rfl, r1, r2⟩ := vals_two rx
  cases r2
  refine ⟨v, .ty T, .type t, .type T, isB t T, rfl, .ty T, ?_, kit_known (ty_known h1) h2, fin0 e g (.bl _) k⟩
  cases r1 <;> simp [tyD] at h1 <;> subst h1 <;> first
    | exact .base .non
    | exact .base (.bl _)
    | exact .base (.int _)
    | exact .base (.str _)
    | exact sqT_ty (sqT_ex e (by assumption))
    | exact .base (.lst (e _ _ (by assumption)))
    | exact .base (.dK (e _ _ (by assumption)))
/-! ### a, *b = a list -/
end DL
namespace DL
open PySem PySem.Spec L2
open PyProof.Rows hiding St
/-! ### an own __str__ -/
structure Own1 (K : PySem.W.Frag) (C : Addr) (m : Str) (f : Addr) : Prop where
  at_ : PySem.W.findIn K (.ref C) m = some (some (.ref f))
  fn : PySem.W.isFn K (.ref f) = true
end DL
namespace DL
open PySem PySem.Spec L2
open PyProof.Rows hiding St
/-! ### the built-ins' names are the built-ins -/
structure Blt (mg : Str → Option Value) : Prop where
  len : mg "len" = none
  isinstance : mg "isinstance" = none
  int : mg "int" = none
  bool : mg "bool" = none
  str : mg "str" = none
  tuple : mg "tuple" = none
  list : mg "list" = none
  all : mg "all" = none
  sum : mg "sum" = none
  min : mg "min" = none
  max : mg "max" = none
  abs : mg "abs" = none
  range : mg "range" = none
  enumerate : mg "enumerate" = none
  zip : mg "zip" = none
  repr : mg "repr" = none
  divmod : mg "divmod" = none
theorem bb_len : bootBuiltins "len" = some (.builtin "len") := by decide +kernel
theorem bb_isinstance : bootBuiltins "isinstance" = some (.builtin "isinstance") := by decide +kernel
theorem bb_all : bootBuiltins "all" = some (.builtin "all") := by decide +kernel
theorem bb_sum : bootBuiltins "sum" = some (.builtin "sum") := by decide +kernel
theorem bb_min : bootBuiltins "min" = some (.builtin "min") := by decide +kernel
theorem bb_max : bootBuiltins "max" = some (.builtin "max") := by decide +kernel
theorem bb_abs : bootBuiltins "abs" = some (.builtin "abs") := by decide +kernel
theorem bb_divmod : bootBuiltins "divmod" = some (.builtin "divmod") := by decide +kernel
theorem bb_int : bootBuiltins "int" = some (.type "int") := by decide +kernel
theorem bb_bool : bootBuiltins "bool" = some (.type "bool") := by decide +kernel
theorem bb_str : bootBuiltins "str" = some (.type "str") := by decide +kernel
theorem bb_tuple : bootBuiltins "tuple" = some (.type "tuple") := by decide +kernel
theorem bb_list : bootBuiltins "list" = some (.type "list") := by decide +kernel
section
variable {X : Cx} {x : Str} {pos p : Pos} {e : Expr} {es : List Expr} {t : TA}
theorem pe_bty {T : String} (hm : X.mg x = none) (hv : bootBuiltins x = some (.type T)) (hg : Gl X x := by rfl) (hn : x ≠ "__name__" := by decide) (hd : (x == ("__debug__" : Str)) = false := by decide) : PE X (.Name x pos) (tC (.ty T)) := pe_bltn hg hm hv rfl hn hd
/-- a module's constant -/
def GInt (mg : Str → Option Value) (x : Str) (i : Int) : Prop := ∃ t, mg x = some (.int i t)
def GStr (mg : Str → Option Value) (x : Str) (z : Str) : Prop := ∃ t, mg x = some (.str z t)
theorem pe_gi {i : Int} (c : GInt X.mg x i) (hg : Gl X x := by rfl) (hd : (x == ("__debug__" : Str)) = false := by decide) : PE X (.Name x pos) (tC (.int i)) := by
  obtain ⟨t, h⟩ := c
  exact pe_glob hg h ⟨t, rfl⟩ hd
theorem pe_gs {z : Str} (c : GStr X.mg x z) (hg : Gl X x := by rfl) (hd : (x == ("__debug__" : Str)) = false := by decide) : PE X (.Name x pos) (tC (.str z)) := by
  obtain ⟨t, h⟩ := c
  exact pe_glob hg h ⟨t, rfl⟩ hd
theorem pe_gcls {C : Addr} (c : X.mg x = some (.ref C)) (hg : Gl X x := by rfl) (hd : (x == ("__debug__" : Str)) = false := by decide) : PE X (.Name x pos) (tC (.ref C)) := pe_glob hg c rfl hd
/-! the operators of all kinds of data -/
theorem opr_add : OpR X (binaryOp .Add) (rAdd X.K) := OpR.or op_add (OpR.or op_add_str (OpR.or op_cat op_catA))
theorem opr_mul : OpR X (binaryOp .Mult) rMul := OpR.or op_mul op_mulX
theorem slr_sl : SlR X (rSl X.K) := SlR.or sl_list (SlR.or sl_tupA sl_str)
theorem callr_len : CallR X (.builtin "len") (rLen X.K) := CallR.or call_len call_lenD
theorem callr_str : CallR X (.type "str") rStr := CallR.or call_str_int SkE.call_str_str
theorem callr_int : CallR X (.type "int") rInt := CallR.or call_int1 call_int_str
theorem hu64 {k : Nat} {A : Around} (r : RoomG k A) : A.units + 64 < cLine := by have := r.r.un; omega
end
/-! ### what the text has, as callers see it -/
section
variable {P : Program} {w : World} {K : PySem.W.Frag} {mg : Str → Option Value} {base : Heap}
theorem CallD.of {x : Str} {k : Nat} {S : DSp} {f : Addr} {fd : FuncData} {ps : List Str} (F : FnG P w K mg base k f fd ps (lift K S)) (hm : mg x = some (.ref f)) (hk : PySem.W.keepIn K (.ref f) = true) (hb : Binds K fd ps []) : CallD P w K mg base x k S := ⟨f, fd, ps, F, hm, hk, hb⟩
/-- the class x at C makes objects; n values, keywords ks, defaults dd -/
structure MakeB (P : Program) (w : World) (K : PySem.W.Frag) (mg : Str → Option Value) (base : Heap) (C : Addr) (k : Nat) (I : ISp) (n : Nat) (ks : List Str) (ix : List Nat) (dd : List D) : Prop where
  ex : ∃ f fd ps, Mk K C f ∧ FnG P w K mg base k f fd ps (liftI K C I) ∧ KbG K fd ps (n + 1) ks (shiftIx ix) dd
/-- C.m, a method -/
structure MethB (P : Program) (w : World) (K : PySem.W.Frag) (mg : Str → Option Value) (base : Heap) (C : Addr) (m : Str) (k : Nat) (S : DSp) (n : Nat) (ks : List Str) (ix : List Nat) (dd : List D) : Prop where
  ex : ∃ f fd ps, Cls K C ∧ Meth K C m f ∧ FnG P w K mg base k f fd ps (lift K S) ∧ KbG K fd ps (n + 1) ks (shiftIx ix) dd
/-- C.m, a property -/
structure PropB (P : Program) (w : World) (K : PySem.W.Frag) (mg : Str → Option Value) (base : Heap) (C : Addr) (m : Str) (k : Nat) (S : DSp) : Prop where
  ex : ∃ a g fd ps, Cls K C ∧ PropOf K C m a g ∧ FnG P w K mg base k g fd ps (lift K S) ∧ Binds K fd ps []
end
section
variable {X : Cx} {j k n : Nat} {C : Addr} {ks : List Str} {ix : List Nat} {dd : List D} {S : DSp} {I : ISp} {E : XK} {x m : Str} {p pos apos : Pos} {e o : Expr} {es : List Expr} {kws : List Keyword} {ta : TE} {t tk : TA} {pl : Sem Bool}
theorem pe_cd (c : CallD X.prog X.w X.K X.mg X.base x k S) (room : RoomG j X.A) (hj : k ≤ j) (hx : Passes (CXD X.prog X.w) X E) (ha : PA X (e :: es) t) (hg : Gl X x := by rfl) (hdb : (x == ("__debug__" : Str)) = false := by decide)
    (he : starEach (e :: es) X.env = (false, eval e X.env) :: starEach es X.env := by rfl) (hpl : (backTo pos (starEach es X.env)).any (·.1) = false := by rfl) : PE X (.Call (.Name x p) (e :: es) [] pos) (tCall (lift X.K S) [] E t) := pe_callD c (room.mono hj) hx ha hg hdb he hpl
theorem pe_mk (c : MakeB X.prog X.w X.K X.mg X.base C k I n ks ix dd) (room : RoomG j X.A) (hj : k + 1 ≤ j) (hx : Passes (CXD X.prog X.w) X E) (hm : X.mg x = some (.ref C)) (ha : PA X es t) (hkw : PK X kws tk) (hg : Gl X x := by rfl)
    (hn : (backTo pos (starEach es X.env)).any (·.1) = false := by rfl) (hall : (backToKw pos (keywordEach kws X.env)).all (·.1.isSome) = true := by rfl) (hks : (backToKw pos (keywordEach kws X.env)).filterMap (·.1) = ks := by rfl) (hdb : (x == ("__debug__" : Str)) = false := by decide) :
    PE X (.Call (.Name x p) es kws pos) (tMakeD X.K C I n ks.length ix dd E t tk) := by
  obtain ⟨f, fd, ps, M, F, hb⟩ := c.ex
  exact pe_makeD M F (room.mono hj) hb hx hm ha hkw hg hn hall hks hdb
theorem pe_mm (c : MethB X.prog X.w X.K X.mg X.base C m k S n ks ix dd) (room : RoomG j X.A) (hj : k ≤ j) (hx : Passes (CXD X.prog X.w) X E) (he : PE X o ta) (ha : PA X es t) (hkw : PK X kws tk)
    (hn : (backTo pos (starEach es X.env)).any (·.1) = false := by rfl) (hall : (backToKw pos (keywordEach kws X.env)).all (·.1.isSome) = true := by rfl) (hks : (backToKw pos (keywordEach kws X.env)).filterMap (·.1) = ks := by rfl)
    (ht : eval (.Call (.Attribute o m apos) es kws pos) X.env = (do
      let u ← eval o X.env
      standAt apos.atName
      let (g, first) ← holding [u] (getMethod u m pl)
      callWith pos g first (backTo pos (starEach es X.env)) (backToKw pos (keywordEach kws X.env))) := by rfl) :
    PE X (.Call (.Attribute o m apos) es kws pos) (tMethD X.K C m S n ks.length ix dd E ta t tk) := by
  obtain ⟨f, fd, ps, c, M, F, hb⟩ := c.ex
  exact pe_methD (pl := pl) he c M F (room.mono hj) hb hx ha hkw hn hall hks ht
theorem pe_pr (c : PropB X.prog X.w X.K X.mg X.base C m k S) (room : RoomG j X.A) (hj : k + 1 ≤ j) (he : PE X e ta) (hab : attributeBase e m X.env (eval e X.env) = eval e X.env := by rfl) : PE X (.Attribute e m pos) (tProp C (lift X.K S) [] EN ta) := by
  obtain ⟨a, g, fd, ps, c, M, F, hb⟩ := c.ex
  exact pe_propG he c M F (room.mono hj) hb .nil passN hab
end
end DL
namespace DL
open PySem PySem.Spec L2
open PyProof.Rows hiding St
theorem ifT {A B : Prop} (h : A) : if true = true then A else B := by rw [if_pos rfl]; exact h
theorem ifF {A B : Prop} (h : B) : if false = true then A else B := by rw [if_neg Bool.false_ne_true]; exact h
theorem ifP {p : Prop} [Decidable p] {A B : Prop} (hp : p) (h : A) : if decide p = true then A else B := by rw [decide_eq_true hp]; exact ifT h
theorem ifN {p : Prop} [Decidable p] {A B : Prop} (hp : ¬ p) (h : B) : if decide p = true then A else B := by rw [decide_eq_false hp]; exact ifF h
theorem ifD {p : Prop} [Decidable p] {A B : Prop} (h1 : p → A) (h2 : ¬ p → B) : if decide p = true then A else B := by
  by_cases hp : p
  · exact ifP hp (h1 hp)
  · exact ifN hp (h2 hp)
theorem ifNP {p : Prop} [Decidable p] {A B : Prop} (hp : p) (h : B) : if (!decide p) = true then A else B := by rw [decide_eq_true hp]; exact ifF h
theorem ifNN {p : Prop} [Decidable p] {A B : Prop} (hp : ¬ p) (h : A) : if (!decide p) = true then A else B := by rw [decide_eq_false hp]; exact ifT h
theorem ifND {p : Prop} [Decidable p] {A B : Prop} (h1 : p → B) (h2 : ¬ p → A) : if (!decide p) = true then A else B := by
  by_cases hp : p
  · exact ifNP hp (h1 hp)
  · exact ifNN hp (h2 hp)
theorem ifNT {A B : Prop} (h : B) : if (!true) = true then A else B := ifF h
theorem ifNF {A B : Prop} (h : A) : if (!false) = true then A else B := ifT h
theorem ex_bl {b : Bool} {P : Bool → Prop} (h : P b) : ∃ c, D.bl b = .bl c ∧ P c := ⟨b, rfl, h⟩
theorem ex_int {b : Int} {P : Int → Prop} (h : P b) : ∃ c, D.int b = .int c ∧ P c := ⟨b, rfl, h⟩
theorem ex_str {b : Str} {P : Str → Prop} (h : P b) : ∃ c, D.str b = .str c ∧ P c := ⟨b, rfl, h⟩
section
variable {a c : Int} {Φ : D → Prop} {x y : Str} {l m : List D}
theorem leG_i (h : Φ (.bl (decide (a ≤ c)))) : leG (.int a) (.int c) Φ := h
theorem ltG_i (h : Φ (.bl (decide (a < c)))) : ltG (.int a) (.int c) Φ := h
theorem gtG_i (h : Φ (.bl (decide (c < a)))) : gtG (.int a) (.int c) Φ := h
theorem geG_i (h : Φ (.bl (decide (c ≤ a)))) : geG (.int a) (.int c) Φ := h
theorem subG_i (h : Φ (.int (a - c))) : subG (.int a) (.int c) Φ := h
theorem addG_i (h : Φ (.int (a + c))) : addG (.int a) (.int c) Φ := h
theorem addG_s (hz : x.length + y.length ≤ 1000000) (h : Φ (.str (x ++ y))) : addG (.str x) (.str y) Φ := ⟨hz, h⟩
theorem addG_l (hz : l.length + m.length ≤ 1000000) (h : Φ (.lst (l ++ m))) : addG (.lst l) (.lst m) Φ := ⟨hz, h⟩
theorem addG_t (hz : l.length + m.length ≤ 1000000) (h : Φ (.tup (l ++ m))) : addG (.tup l) (.tup m) Φ := ⟨hz, h⟩
theorem mulG_i (hc : MulC a c) (h : Φ (.int (a * c))) : mulG (.int a) (.int c) Φ := ⟨hc, h⟩
theorem modG_i (hc : 0 < c) (h : Φ (.int (a % c))) : modG (.int a) (.int c) Φ := ⟨hc, h⟩
theorem fdivG_i (h1 : 0 < c) (h2 : c < 1073741824) (h : Φ (.int (a / c))) : fdivG (.int a) (.int c) Φ := ⟨⟨h1, h2⟩, h⟩
theorem powG_i (hc : CPow a c) (h : Φ (.int (a ^ c.toNat))) : powG (.int a) (.int c) Φ := ⟨hc, h⟩
theorem unG_i {f : Int → D} (h : Φ (f a)) : unG f (.int a) Φ := h
theorem lenG_l (h : Φ (.int l.length)) : lenG [.lst l] Φ := h
theorem lenG_t (h : Φ (.int l.length)) : lenG [.tup l] Φ := h
theorem lenG_c {l : List Int} (h : Φ (.int l.length)) : lenG [.scr l] Φ := h
theorem lenG_s (hz : x.length ≤ 1000000) (h : Φ (.int x.length)) : lenG [.str x] Φ := ⟨hz, h⟩
theorem tupG_l (h : Φ (.tup l)) : tupG [.lst l] Φ := h
theorem listG_t (h : Φ (.lst l)) : listG [.tup l] Φ := h
theorem intOfG_i (h : Φ (.int a)) : intOfG [.int a] Φ := h
theorem strG_i (hz : a.natAbs.log2 < 1920) (h : Φ (.str (toString a))) : strG [.int a] Φ := ⟨hz, h⟩
theorem minG_i (h : Φ (.int (if c < a then c else a))) : int2G (fun i j => .int (if j < i then j else i)) [.int a, .int c] Φ := h
theorem maxG_i (h : Φ (.int (if c > a then c else a))) : int2G (fun i j => .int (if j > i then j else i)) [.int a, .int c] Φ := h
theorem absG_i {f : Int → D} (h : Φ (f a)) : int1G f [.int a] Φ := h
theorem isiG_int (h : Φ (.bl true)) : isiG [.int a, .raw (.ty "int")] Φ := ⟨_, _, _, rfl, rfl, by decide, h⟩
theorem isiG_intb (h : Φ (.bl false)) : isiG [.int a, .raw (.ty "bool")] Φ := ⟨_, _, _, rfl, rfl, by decide, h⟩
theorem isiG_str (h : Φ (.bl true)) : isiG [.str x, .raw (.ty "str")] Φ := ⟨_, _, _, rfl, rfl, by decide, h⟩
theorem isiG_tup (h : Φ (.bl true)) : isiG [.tup l, .raw (.ty "tuple")] Φ := ⟨_, _, _, rfl, rfl, by decide, h⟩
theorem ixG_l {d : D} (hi : L2.atI l a = some d) (h : Φ d) : ixG (.lst l) (.int a) Φ := ⟨d, hi, h⟩
theorem ixG_t {d : D} (hi : L2.atI l a = some d) (h : Φ d) : ixG (.tup l) (.int a) Φ := ⟨d, hi, h⟩
theorem ixG_c {l : List Int} {n : Int} (hi : L2.atI l a = some n) (h : Φ (.int n)) : ixG (.scr l) (.int a) Φ := ⟨n, hi, h⟩
theorem ixG_s {c : Nat} (hz : x.length ≤ 1000000) (hi : L2.atI x.cps.toList a = some c) (h : Φ (.str ⟨#[c]⟩)) : ixG (.str x) (.int a) Φ := ⟨hz, c, hi, h⟩
theorem slG_t {lo hi : Option Int} (h : Φ (.tup (cutD l lo hi))) : slG (.tup l) lo hi Φ := h
theorem slG_c {l : List Int} {lo hi : Option Int} (h : Φ (.lst ((cutD l lo hi).map D.int))) : slG (.scr l) lo hi Φ := h
theorem eqG_of {d e : D} (h1 : Shp 64 d) (h2 : Shp 64 e) (h : Φ (.bl (D.eqv d e))) : eqG d e Φ := .inr ⟨h1, h2, h⟩
theorem neG_of {d e : D} (h1 : Shp 64 d) (h2 : Shp 64 e) (h : Φ (.bl (!D.eqv d e))) : neG d e Φ := .inr ⟨h1, h2, h⟩
theorem eqv_i : D.eqv (.int a) (.int c) = decide (a = c) := by simp only [D.eqv, D.py, PyData.eqv]; rw [Bool.eq_iff_iff]; simp
theorem eqG_i (h : Φ (.bl (decide (a = c)))) : eqG (.int a) (.int c) Φ := .inr ⟨.int, .int, by rw [eqv_i]; exact h⟩
theorem neG_i (h : Φ (.bl (!decide (a = c)))) : neG (.int a) (.int c) Φ := .inr ⟨.int, .int, by rw [eqv_i]; exact h⟩
theorem eqG_ss (h : Φ (.bl (decide (x = y)))) : eqG (.str x) (.str y) Φ := .inl ⟨x, y, rfl, rfl, h⟩
theorem neG_bb {p q : Bool} (h : Φ (.bl (!(p == q)))) : neG (.bl p) (.bl q) Φ := .inr ⟨.bl, .bl, h⟩
end
end DL
namespace DL
open PySem PySem.Spec L2
open PyProof.Rows hiding St
/-! ### comprehensions over typed lists -/
section
variable {α β : Type} {w : Wx} {ρ : Env'} {Φ : D → Env' → Prop} {wi : TI} {g : TG} {tt : TT} {te : TE} {vs : List Nat}
theorem get_map {f : α → D} {xs : List α} {i : Nat} {d : D} (h : (xs.map f)[i]? = some d) : ∃ x, xs[i]? = some x ∧ d = f x := by
  rw [List.getElem?_map] at h
  cases e : xs[i]? with
  | none => rw [e] at h; cases h
  | some x => rw [e] at h; cases h; exact ⟨x, rfl, rfl⟩
theorem mem_get {xs : List α} {i : Nat} {x : α} (h : xs[i]? = some x) : x ∈ xs := List.mem_of_getElem? h
theorem take_next {xs : List α} {i : Nat} {x : α} (h : xs[i]? = some x) : xs.take (i + 1) = xs.take i ++ [x] := by
  obtain ⟨hl, rfl⟩ := List.getElem?_eq_some_iff.mp h
  exact List.take_succ_eq_append_getElem hl
/-- [e for x in xs if t] -/
theorem wE_lcF (hon : Only g vs) (f k : α → D) (p : α → Bool) (h : wI w wi ρ fun ds ρ1 => ∃ xs : List α, ds = xs.map f ∧ xs.length ≤ 1000000 ∧
    (∀ x ∈ xs, wG w.quiet g (f x) (wipeE (hide ρ1) vs) fun ρ2 => wT w.quiet tt ρ2 fun b ρ3 => b = p x ∧ (b = true → wE w.quiet te ρ3 fun y _ => y = k x)) ∧ Φ (.lst ((xs.filter p).map k)) ρ1) : wE w (tLc wi g tt te vs) ρ Φ := by
  refine wE_lc hon fun c H0 H σ R a x q => h c H0 H σ R a x fun J ds ρ' H0' H' ⟨xs, e, hz, step, fin⟩ => q J ds ρ' H0' H' ⟨by rw [e, List.length_map]; exact hz, fun i acc => acc = ((xs.take i).filter p).map k, rfl, fun i d acc hd hacc => ?_, fun acc _ hacc => ?_⟩
  · subst e
    obtain ⟨x, hx, rfl⟩ := get_map hd
    refine fun c H0 H σ v Q a l r k' => step x (mem_get hx) c H0 H σ v Q a l r fun ρ2 H01 H1 σ1 z => k' ρ2 H01 H1 σ1 fun c H0 H σ Q a l k'' => z c H0 H σ Q a l fun b ρ3 H02 H2 ⟨e1, z2⟩ => k'' b ρ3 H02 H2 ?_
    have en := take_next hx
    cases b with
    | true =>
      refine ifT (wE_mono (z2 rfl) fun y _ ey => ?_)
      show acc ++ [y] = _
      rw [hacc, ey, en, List.filter_append, List.map_append]
      simp [← e1]
    | false =>
      refine ifF ?_
      show acc = _
      rw [hacc, en, List.filter_append, List.map_append]
      simp [← e1]
  · subst e
    rw [hacc, List.length_map, List.take_length]
    exact fin
/-- [e for x in xs] -/
theorem wE_lcM (hon : Only g vs) (f k : α → D) (h : wI w wi ρ fun ds ρ1 => ∃ xs : List α, ds = xs.map f ∧ xs.length ≤ 1000000 ∧
    (∀ x ∈ xs, wG w.quiet g (f x) (wipeE (hide ρ1) vs) fun ρ2 => wE w.quiet te ρ2 fun y _ => y = k x) ∧ Φ (.lst (xs.map k)) ρ1) : wE w (tLc wi g tYes te vs) ρ Φ := by
  refine wE_lcF hon f k (fun _ => true) fun c H0 H σ R a x q => h c H0 H σ R a x fun J ds ρ' H0' H' ⟨xs, e, hz, step, fin⟩ => q J ds ρ' H0' H' ⟨xs, e, hz, fun x hx => ?_, ?_⟩
  · exact fun c H0 H σ v Q a l r k' => step x hx c H0 H σ v Q a l r fun ρ2 H01 H1 σ1 z => k' ρ2 H01 H1 σ1 (wT_yes ⟨rfl, fun _ => z⟩)
  · have : xs.filter (fun _ => true) = xs := by simp
    rw [this]; exact fin
end
/-! ### in, of texts -/
section
variable {K : PySem.W.Frag}
theorem flat_strs : ∀ zs : List Str, (zs.map V.str).all flatV = true
  | [] => rfl
  | z :: zs => by rw [List.map_cons, List.all_cons, flat_strs zs]; rfl
theorem inV_strs (z : Str) : ∀ (zs : List Str), inV (.str z) (zs.map V.str) = decide (z ∈ zs)
  | [] => rfl
  | y :: zs => by
    have ih := inV_strs z zs
    unfold inV at ih ⊢
    rw [List.map_cons, List.any_cons, ih]
    show (y == z || decide (z ∈ zs)) = decide (z ∈ y :: zs)
    rw [Bool.eq_iff_iff]
    simp only [Bool.or_eq_true, beq_iff_eq, decide_eq_true_eq, List.mem_cons]
    exact or_congr_left eq_comm
def inSG (neg : Bool) (x y : D) (Φ : D → Prop) : Prop := ∃ (z : Str) (zs : List Str), x = .str z ∧ (y = .tup (zs.map D.str) ∨ y = .lst (zs.map D.str)) ∧ Φ (.bl (if neg = true then !decide (z ∈ zs) else decide (z ∈ zs)))
theorem opd_inS {neg : Bool} : OpD K (rIn K neg) (inSG neg) := fun H0 H x y dx dy Φ Q e rx ry ⟨z, zs, hx, hy, g⟩ k => by
  subst hx
  cases rx
  rcases hy with hy | hy
  · subst hy
    cases ry with
    | tup hp hr =>
      rw [hr.ofStrs] at hp
      refine ⟨_, _, rfl, .inr (sqT_ex e hp), rfl, flat_strs zs, ?_⟩
      rw [inV_strs]
      exact fin0 e g (.bl _) k
  · subst hy
    cases ry with
    | lst hp hr =>
      rw [hr.ofStrs] at hp
      refine ⟨_, _, rfl, .inl (.inl (.inl (e _ _ hp))), rfl, flat_strs zs, ?_⟩
      rw [inV_strs]
      exact fin0 e g (.bl _) k
def rSign : R2 := fun x y H Q => ∃ (c : Nat) (z : Str), x = .str ⟨#[c]⟩ ∧ y = .str z ∧ Q (.bl (decide (c ∈ z.cps.toList))) H
def signG (x y : D) (Φ : D → Prop) : Prop := ∃ c z, x = .str ⟨#[c]⟩ ∧ y = .str z ∧ Φ (.bl (decide (c ∈ z.cps.toList)))
theorem opd_sign : OpD K rSign signG := fun H0 H x y dx dy Φ Q e rx ry ⟨c, z, hx, hy, g⟩ k => by
  subst hx hy
  cases rx; cases ry
  exact ⟨c, z, rfl, rfl, fin0 e g (.bl _) k⟩
theorem opr_sign {X : Cx} : OpR X (compareOp .In) rSign := op_in_sign
end
/-! ### walks over typed lists -/
theorem zipD_map {α β : Type} (f : α → D) (g : β → D) : ∀ (xs : List α) (ys : List β), zipD (xs.map f) (ys.map g) = (xs.zip ys).map fun p => .tup [f p.1, g p.2]
  | [], _ => by simp [zipD]
  | _ :: _, [] => by simp [zipD]
  | x :: xs, y :: ys => by
    have := zipD_map f g xs ys
    unfold zipD at this ⊢
    simp only [List.map_cons, List.zipWith_cons_cons, List.zip_cons_cons, this]
theorem enumD_get {α : Type} {f : α → D} {xs : List α} {i : Nat} {d : D} (h : (enumD (xs.map f))[i]? = some d) : ∃ x, xs[i]? = some x ∧ d = .tup [.int (i : Int), f x] := by
  unfold enumD at h
  rw [List.getElem?_zipWith] at h
  by_cases hi : i < xs.length
  · rw [List.getElem?_range (by rw [List.length_map]; exact hi), List.getElem?_map, List.getElem?_eq_getElem hi] at h
    cases h
    exact ⟨_, List.getElem?_eq_getElem hi, rfl⟩
  · rw [List.getElem?_eq_none (l := xs.map f) (by rw [List.length_map]; omega)] at h
    cases h2 : (List.range (xs.map f).length)[i]? <;> rw [h2] at h <;> cases h
theorem cut_from1 {α : Type} (xs : List α) : cutD xs (some 1) none = xs.drop 1 := by
  unfold cutD
  have e1 : HT.sIx xs.length 0 (some (1 : Int)) = min 1 xs.length := HT.sIx_nat _ _ 1
  rw [e1, HT.sIx_none]
  have : xs.length - min 1 xs.length = (xs.drop (min 1 xs.length)).length := by rw [List.length_drop]
  rw [this, List.take_length]
  cases xs with
  | nil => rfl
  | cons a l => simp
theorem cut_to {α : Type} (xs : List α) (k : Nat) : cutD xs none (some (k : Int)) = xs.take k := by
  unfold cutD
  rw [HT.sIx_none, HT.sIx_nat, List.drop_zero, Nat.sub_zero]
  rcases Nat.le_total k xs.length with h | h
  · rw [Nat.min_eq_left h]
  · rw [Nat.min_eq_right h, List.take_of_length_le (Nat.le_refl _), List.take_of_length_le h]
end DL
namespace DL
open PySem PySem.Spec L2
open PyProof.Rows hiding St
/-! ### the rules with the written part named -/
section
variable {X : Cx} (K : PySem.W.Frag)
theorem k_add (h : X.K = K := by rfl) : OpR X (binaryOp .Add) (rAdd K) := h ▸ opr_add
theorem k_eq {k : Nat} (r : RoomG k X.A) (h : X.K = K := by rfl) : OpR X (compareOp .Eq) (rEqA K) := h ▸ OpR.or op_eq (op_eqD (hu64 r))
theorem k_ne {k : Nat} (r : RoomG k X.A) (h : X.K = K := by rfl) : OpR X (compareOp .NotEq) (rNeA K) := h ▸ OpR.or op_ne (op_neD (hu64 r))
theorem k_in (h : X.K = K := by rfl) : OpR X (compareOp .In) (rIn K false) := h ▸ op_in_seq
theorem k_ix (h : X.K = K := by rfl) : IxR X (rIx K) := h ▸ ix_seq
theorem k_sl (h : X.K = K := by rfl) : SlR X (rSl K) := h ▸ slr_sl
theorem k_len (h : X.K = K := by rfl) : CallR X (.builtin "len") (rLen K) := h ▸ callr_len
theorem k_isi (h : X.K = K := by rfl) : CallR X (.builtin "isinstance") (rIsi K) := h ▸ call_isi
theorem k_all (hc : X.calm = true) (h : X.K = K := by rfl) : CallR X (.builtin "all") (rAll K) := h ▸ cr_all hc
theorem k_list (h : X.K = K := by rfl) : CallR X (.type "list") (rListOf K) := h ▸ call_list_of
theorem k_tup (h : X.K = K := by rfl) : CallR X (.type "tuple") (rTupOf K) := h ▸ call_tuple_of
section
variable {o e : Expr} {es : List Expr} {kws : List Keyword} {to te ta : TE} {t tk : TA} {name : Str} {apos cpos pos p tpos px py sp : Pos} {T id : String} {r : V → List V → Hp → VK → Prop} {tg : Expr}
theorem k_bm (pa : PlainAttrs T) (slot : Slot T name id) (hty : typeOf (.builtin id) = pure (.type "method_descriptor")) (hm : MtR X id r) (ho : PE X o to) (ha : PA X (e :: es) t)
    (hbase : attributeBase o name X.env (eval o X.env) = eval o X.env := by rfl)
    (hfew : ((backTo cpos (starEach (e :: es) X.env)).all (fun x => !x.1) && (backToKw cpos (keywordEach [] X.env)).all (fun x => x.1.isSome)
      && decide ((e :: es).length + ([] : List Keyword).length + (if ([] : List Keyword).isEmpty then 0 else 1) < 30)) = true := by rfl)
    (hline : (apos.endLine == cpos.line) = true := by rfl) (hs : starEach (e :: es) X.env = (false, eval e X.env) :: starEach es X.env := by rfl) (hplain : (backTo cpos (starEach es X.env)).any (·.1) = false := by rfl) (h : X.K = K := by rfl) :
    PE X (.Call (.Attribute o name apos) (e :: es) [] cpos) (tBM K T r to t) := h ▸ pe_bm pa slot hty hm ho ha hbase hfew hline hs hplain
theorem k_pg {k : Nat} {gs : TGs} {n : Nat} (hc : X.calm = true) (hg : PGs X es gs) (hn : (assignEach es X.env).length = n := by rfl) (hst : (assignEach es X.env).findIdx? (·.1) = none := by rfl) (h : X.K = K := by rfl) : PG X (.Tuple es k pos) (gTup K n gs) := h ▸ pg_tup hc hg hn hst
theorem k_any (he : PE X e te) (h : X.K = K := by rfl) : PI X tg e (iAny K te) := h ▸ pi_any he
theorem k_enum {elts : List Expr} {kk : Nat} (hg : Gl X "enumerate") (hm : X.mg "enumerate" = none) (ha : PA X [e] t) (hs : starEach [e] X.env = [(false, eval e X.env)] := by rfl) (h : X.K = K := by rfl) : PI X (.Tuple elts kk tpos) (.Call (.Name "enumerate" p) [e] [] pos) (iEnumT K t) := h ▸ pi_enumT hg hm ha hs
theorem k_zip {e2 : Expr} {elts : List Expr} {kk : Nat} (hg : Gl X "zip") (hm : X.mg "zip" = none) (ha : PA X [e, e2] t) (hs : starEach [e, e2] X.env = (false, eval e X.env) :: starEach [e2] X.env := by rfl) (hpl : (backTo pos (starEach [e2] X.env)).any (·.1) = false := by rfl) (h : X.K = K := by rfl) :
    PI X (.Tuple elts kk tpos) (.Call (.Name "zip" p) [e, e2] [] pos) (RZ.iZipA K t) := h ▸ RZ.pi_zipA hg hm ha hs hpl
theorem k_fld {f : Str} (he : PE X e te) (hb : attributeBase e f X.env (eval e X.env) = eval e X.env := by rfl) (h : X.K = K := by rfl) : PE X (.Attribute e f pos) (tFld K te f) := h ▸ pe_fld he hb
theorem k_sfld {f : Str} {value : Expr} {pos' : Pos} {tv : TE} (ha : PE X o ta) (hv : PE X value tv) (hs : swapsWith value (some (.Attribute o f pos')) pos.line X.env = pure false := by rfl) (h : X.K = K := by rfl) : PS X (.Assign [.Attribute o f pos'] value pos) (sFld K ta tv f) := h ▸ ps_fld ha hv hs
variable {j k n : Nat} {C : Addr} {ks : List Str} {ix : List Nat} {dd : List D} {S : DSp} {I : ISp} {E : XK} {x m : Str} {pl : Sem Bool}
theorem k_cd (c : CallD X.prog X.w K X.mg X.base x k S) (room : RoomG j X.A) (hj : k ≤ j) (hx : Passes (CXD X.prog X.w) X E) (ha : PA X (e :: es) t) (hg : Gl X x := by rfl) (hdb : (x == ("__debug__" : Str)) = false := by decide)
    (he : starEach (e :: es) X.env = (false, eval e X.env) :: starEach es X.env := by rfl) (hpl : (backTo pos (starEach es X.env)).any (·.1) = false := by rfl) (h : X.K = K := by rfl) : PE X (.Call (.Name x p) (e :: es) [] pos) (tCall (lift K S) [] E t) := by
  subst h; exact pe_cd c room hj hx ha hg hdb he hpl
theorem k_mk (c : MakeB X.prog X.w K X.mg X.base C k I n ks ix dd) (room : RoomG j X.A) (hj : k + 1 ≤ j) (hx : Passes (CXD X.prog X.w) X E) (hm : X.mg x = some (.ref C)) (ha : PA X es t) (hkw : PK X kws tk) (hg : Gl X x := by rfl)
    (hn : (backTo pos (starEach es X.env)).any (·.1) = false := by rfl) (hall : (backToKw pos (keywordEach kws X.env)).all (·.1.isSome) = true := by rfl) (hks : (backToKw pos (keywordEach kws X.env)).filterMap (·.1) = ks := by rfl) (hdb : (x == ("__debug__" : Str)) = false := by decide) (h : X.K = K := by rfl) :
    PE X (.Call (.Name x p) es kws pos) (tMakeD K C I n ks.length ix dd E t tk) := by
  subst h; exact pe_mk c room hj hx hm ha hkw hg hn hall hks hdb
theorem k_mm (c : MethB X.prog X.w K X.mg X.base C m k S n ks ix dd) (room : RoomG j X.A) (hj : k ≤ j) (hx : Passes (CXD X.prog X.w) X E) (he : PE X o ta) (ha : PA X es t) (hkw : PK X kws tk)
    (hn : (backTo pos (starEach es X.env)).any (·.1) = false := by rfl) (hall : (backToKw pos (keywordEach kws X.env)).all (·.1.isSome) = true := by rfl) (hks : (backToKw pos (keywordEach kws X.env)).filterMap (·.1) = ks := by rfl)
    (ht : eval (.Call (.Attribute o m apos) es kws pos) X.env = (do
      let u ← eval o X.env
      standAt apos.atName
      let (g, first) ← holding [u] (getMethod u m pl)
      callWith pos g first (backTo pos (starEach es X.env)) (backToKw pos (keywordEach kws X.env))) := by rfl) (h : X.K = K := by rfl) :
    PE X (.Call (.Attribute o m apos) es kws pos) (tMethD K C m S n ks.length ix dd E ta t tk) := by
  subst h; exact pe_mm (pl := pl) c room hj hx he ha hkw hn hall hks ht
theorem k_pr (c : PropB X.prog X.w K X.mg X.base C m k S) (room : RoomG j X.A) (hj : k + 1 ≤ j) (he : PE X e ta) (hab : attributeBase e m X.env (eval e X.env) = eval e X.env := by rfl) (h : X.K = K := by rfl) : PE X (.Attribute e m pos) (tProp C (lift K S) [] EN ta) := by
  subst h; exact pe_pr c room hj he hab
end
end
end DL
namespace DL
open PySem PySem.Spec L2
open PyProof.Rows hiding St
def rJoin (K : PySem.W.Frag) : V → List V → Hp → VK → Prop := fun x xs H Q => ∃ a p, ∃ ys : List Str, x = .str a ∧ xs = [.ref p] ∧ (SqL K H p (ys.map V.str) ∨ SqT K H p (ys.map V.str)) ∧ (ys.map (·.length)).sum + ys.length * a.length ≤ 16777216 ∧ Q (.str (Txt.join a ys)) H
section
variable {X : Cx} (K : PySem.W.Frag)
theorem k_join (h : X.K = K := by rfl) : MtR X "str.join" (rJoin K) := h ▸ mt_join
end
section
variable {K : PySem.W.Frag}
theorem mtd_joinK : MtD K (rJoin K) joinG := mtd_join
end
theorem isTy_s {x : Str} : isTy "str" (.str x) = true := by show ("str" == "str") = true; decide
theorem joinG_l {a : Str} {ys : List Str} {Φ : D → Prop} (hz : (ys.map (·.length)).sum + ys.length * a.length ≤ 1000000) (h : Φ (.str (Txt.join a ys))) : joinG (.str a) [.lst (ys.map D.str)] Φ := ⟨a, ys, rfl, .inl rfl, hz, h⟩
theorem joinG_t {a : Str} {ys : List Str} {Φ : D → Prop} (hz : (ys.map (·.length)).sum + ys.length * a.length ≤ 1000000) (h : Φ (.str (Txt.join a ys))) : joinG (.str a) [.tup (ys.map D.str)] Φ := ⟨a, ys, rfl, .inr rfl, hz, h⟩
/-- for over a typed list -/
theorem wS_forT {α : Type} (f : α → D) (I : Nat → Env' → Prop) {w : Wx} {ρ : Env'} {E : DE} {wi : TI} {g : TG} {ts : TS} (h : wI w wi ρ fun ds ρ1 => ∃ xs : List α, ds = xs.map f ∧ I 0 ρ1 ∧
    (∀ i x ρ', xs[i]? = some x → I i ρ' → wG w g (f x) ρ' fun ρ2 => wS w ts { nx := I (i + 1), ct := I (i + 1), bk := E.nx, rt := E.rt, ro := E.ro } ρ2) ∧ (∀ ρ', I xs.length ρ' → E.nx ρ')) : wS w (tFor wi g ts) E ρ :=
  wS_for fun c H0 H σ R a x q => h c H0 H σ R a x fun J ds ρ' H0' H' ⟨xs, e, i0, step, fin⟩ => q J ds ρ' H0' H' ⟨I, i0, fun i d ρ2 hd hI => by
    subst e
    obtain ⟨y, hy, rfl⟩ := get_map hd
    exact step i y ρ2 hy hI, fun ρ2 hI => fin ρ2 (by rw [e, List.length_map] at hI; exact hI)⟩
theorem inSG_t {z : Str} {zs : List Str} {Φ : D → Prop} (h : Φ (.bl (decide (z ∈ zs)))) : inSG false (.str z) (.tup (zs.map D.str)) Φ := ⟨z, zs, rfl, .inl rfl, h⟩
theorem nodup_inj {α : Type} : ∀ {l : List α}, l.Nodup → ∀ {i j : Nat} {x : α}, l[i]? = some x → l[j]? = some x → i = j
  | [], _, i, j, x, h, _ => by simp at h
  | a :: l, nd, i, j, x, h1, h2 => by
    have nd' := List.nodup_cons.mp nd
    cases i with
    | zero =>
      cases j with
      | zero => rfl
      | succ j => simp at h1 h2; subst h1; exact absurd (List.mem_of_getElem? h2) nd'.1
    | succ i =>
      cases j with
      | zero => simp at h1 h2; subst h2; exact absurd (List.mem_of_getElem? h1) nd'.1
      | succ j => simp at h1 h2; rw [nodup_inj nd'.2 h1 h2]
theorem cut_from {α : Type} (xs : List α) (k : Nat) : cutD xs (some (k : Int)) none = xs.drop k := by
  unfold cutD
  rw [HT.sIx_nat, HT.sIx_none]
  have : xs.length - min k xs.length = (xs.drop (min k xs.length)).length := by rw [List.length_drop]
  rw [this, List.take_length]
  rcases Nat.le_total k xs.length with h | h
  · rw [Nat.min_eq_left h]
  · rw [Nat.min_eq_right h, List.drop_of_length_le (Nat.le_refl _), List.drop_of_length_le h]
theorem ixG_l0 {l : List D} {d : D} {Φ : D → Prop} (hi : l[0]? = some d) (h : Φ d) : ixG (.lst l) (.int 0) Φ := ⟨d, L2.atI_nat (j := 0) hi, h⟩
theorem ixG_t0 {l : List D} {d : D} {Φ : D → Prop} (hi : l[0]? = some d) (h : Φ d) : ixG (.tup l) (.int 0) Φ := ⟨d, L2.atI_nat (j := 0) hi, h⟩
theorem ixG_t1 {l : List D} {d : D} {Φ : D → Prop} (hi : l[1]? = some d) (h : Φ d) : ixG (.tup l) (.int 1) Φ := ⟨d, L2.atI_nat (j := 1) hi, h⟩
/-- where nothing is raised, nothing need be said of what is raised -/
theorem wE_quiet {w : Wx} {te : TE} {ρ : Env'} {Φ : D → Env' → Prop} (h : wE w.quiet te ρ Φ) : wE w te ρ Φ := fun c H0 H σ Q a x k => h c H0 H σ Q a (quiet_link x.t) k
end DL
namespace DL
open PySem PySem.Spec L2
open PyProof.Rows hiding St
def rDivmod : List V → Hp → VK → Prop := fun xs H Q => ∃ i j, xs = [.int i, .int j] ∧ CDiv i j ∧ ∀ p, H p = none → Q (.ref p) (upd H p (.tup [.int (i / j), .int (i % j)]))
theorem k_divmod {X : Cx} : CallR X (.builtin "divmod") rDivmod := call_divmod
def divmodG (ds : List D) (Φ : D → Prop) : Prop := match ds with
  | [.int i, .int j] => CDiv i j ∧ Φ (.tup [.int (i / j), .int (i % j)])
  | _ => False
theorem cbd_divmod {K : PySem.W.Frag} : CbD K rDivmod divmodG := fun H0 H xs ds Φ Q e rx g k => by
  cases rx with
  | nil => exact g.elim
  | cons r rs =>
    cases rs with
    | nil => cases r <;> exact g.elim
    | cons r' rs =>
      cases rs with
      | cons _ _ => cases r <;> cases r' <;> exact g.elim
      | nil =>
        cases r <;> cases r' <;> first
          | exact g.elim
          | exact ⟨_, _, rfl, g.1, finT e g.2 (.cons (.int _) (.cons (.int _) .nil)) k⟩
theorem divmodG_i {a c : Int} {Φ : D → Prop} (h1 : 0 < c) (h2 : c < 1073741824) (h : Φ (.tup [.int (a / c), .int (a % c)])) : divmodG [.int a, .int c] Φ := ⟨⟨h1, h2⟩, h⟩
/-- so many bits all numbers of a script have at most -/
def Bits : Nat := 1048576
end DL
/-! DL18: from the top of a text to the law's line. -/
namespace DL
open PySem PySem.Spec L2
open PyProof.Rows hiding St
/-! ### where the law starts: the heap behind the top, the script aside -/
section
variable {P : Program} {w : World} {K : PySem.W.Frag} {mg mb : Str → Option Value} {z : Shared} {scr : Addr} {H : Hp} {items : Array Value}
structure Begins (z : Shared) (K : PySem.W.Frag) (mg mb : Str → Option Value) : Prop where
  frag : K.In z.heap
  main : z.heap.Ns mainGlobals mg
  blt : z.heap.Ns builtinsNs mb
  boot : ∀ y : Str, y ≠ "__name__" → mb y = bootBuiltins y
  lim : z.heap.NoLimit
  gens : z.gens = #[]
theorem none_of (at_ : z.heap.get? scr = some { cls := .type "list", data := .seq items }) (one : ∀ b, H b ≠ none → b = scr) {b : Addr} {o : Obj} (e : z.heap.get? b = some o) (d : ∀ c, o.data ≠ .seq items c) : H b = none := by
  rcases hb : H b with _ | u
  · rfl
  · exfalso
    obtain rfl := one b (by simp [hb])
    obtain rfl := Option.some.inj (at_.symm.trans e)
    exact d _ rfl
theorem ns_aside (at_ : z.heap.get? scr = some { cls := .type "list", data := .seq items }) (one : ∀ b, H b ≠ none → b = scr) {b : Addr} {m : Str → Option Value} (n : z.heap.Ns b m) : (hidT z.heap H).Ns b m := by
  obtain ⟨o, es, ep, e, d, r⟩ := n
  exact ⟨o, es, ep, hidT_get e (none_of at_ one e fun c q => by rw [d] at q; cases q), d, r⟩
theorem frag_aside (B : Begins z K mg mb) (at_ : z.heap.get? scr = some { cls := .type "list", data := .seq items }) (one : ∀ b, H b ≠ none → b = scr) (out : H scr ≠ none → K.lookup scr = none) : K.In (hidT z.heap H) := fun b o e => by
  refine hidT_get (B.frag b o e) ?_
  rcases hb : H b with _ | u
  · rfl
  · exfalso
    obtain rfl := one b (by simp [hb])
    rw [out (by simp [hb])] at e
    cases e
theorem env0_aside (B : Begins z K mg mb) (at_ : z.heap.get? scr = some { cls := .type "list", data := .seq items }) (one : ∀ b, H b ≠ none → b = scr) (out : H scr ≠ none → K.lookup scr = none) (ok : HOk P w H z.heap) :
    Env0 P w K mg (hidT z.heap H) callerA [] z H := by
  have lim : (hidT z.heap H).NoLimit := let ⟨mc, h1, h2⟩ := B.lim; ⟨mc, ns_aside at_ one h1, h2⟩
  exact ⟨rfl, ⟨frag_aside B at_ one out, ns_aside at_ one B.main, ⟨mb, ns_aside at_ one B.blt, B.boot⟩, lim⟩, fun b o e => of_hidT e, Nat.le_of_eq (hidT_size _ _), trivial, fun b hb => absurd (show b ∈ ([] : List Addr) from hb) (by simp), ok, .of_eq B.gens⟩
/-- the law's call, from the law's promise -/
theorem law_at {k : Nat} {fa : Addr} {fd : FuncData} {x : Str} {S : DSp} {vs : List Value} {ns : List Int} (B : Begins z K mg mb) (at_ : z.heap.get? scr = some { cls := .type "list", data := .seq vs.toArray }) (hi : IntsAre vs ns) (hl : ns.length ≤ 63)
    (room : RoomG k callerA) (F : ∀ base : Heap, K.In base → base.Ns mainGlobals mg → FnG P w K mg base k fa fd [x] (lift K S)) (hbind : ∀ (s : Shared) (u : Value), BindsTo s fd ⟨[u], []⟩ [(x, u)])
    (hS : ∀ Φ Ψ, Φ (.bl true) → S [.scr ns] Φ Ψ) :
    codeAny (model P w) callerA (.call (.ref fa) ⟨[.ref scr], []⟩) (fun r s' => r = .ok (.ret (.bool true)) ∧ OldK z.heap s'.heap ∧ s'.os = z.os ∧ AllBare s'.gens) z := by
  have vals := vals_ints hi
  have size : ns.length ≤ sizeLine := Nat.le_trans hl (by decide)
  -- at a heap of which the script alone may be tracked
  have go : ∀ H : Hp, L2.Only H → SqL K H scr (ns.map V.int) → HOk P w H z.heap → (∀ b, H b ≠ none → b = scr) → (H scr ≠ none → K.lookup scr = none) →
      codeAny (model P w) callerA (.call (.ref fa) ⟨[.ref scr], []⟩) (fun r s' => r = .ok (.ret (.bool true)) ∧ OldK z.heap s'.heap ∧ s'.os = z.os ∧ AllBare s'.gens) z := by
    intro H only seq ok one out
    have F1 := F _ (frag_aside B at_ one out) (ns_aside at_ one B.main)
    have low : lift K S [.ref scr] H (fun v _ => v = .bl true) EN :=
      ⟨H, [.scr ns], fun d => d = .bl true, fun _ => False, Ex.refl H, .cons (.scr seq) .nil, hS _ _ rfl, fun v d _ _ e _ r => by subst e; cases r; rfl, fun _ _ _ _ e => e.elim⟩
    refine codeAny_mono (F1.run callerA [] z H ⟨[.ref scr], []⟩ [.ref scr] [.ref scr] _ _ room (env0_aside B at_ one out ok) (hbind z _) (.cons rfl .nil) low) fun r s' q => ?_
    rcases r with e | fl
    · obtain ⟨_, _, _, _, _, _, _, _, _, _, _, _, h⟩ := q
      exact h.elim
    rcases fl with _ | _ | _ | u
    · exact False.elim q
    · exact False.elim q
    · exact False.elim q
    obtain ⟨v, H', os, bare, un, ok', rel, q1⟩ := q
    obtain rfl : v = V.bl true := q1
    obtain rfl : u = Value.bool true := rel
    refine ⟨rfl, .of_keep fun b o e => ?_, os, bare⟩
    rcases hb : H b with _ | t
    · exact un.keep b o e hb (fun h => absurd (show b ∈ ([] : List Addr) from h) (by simp)) (by simp)
    · obtain h | ⟨ob, xs, h⟩ := only b
      · rw [hb] at h; cases h
      · obtain ⟨e1, _⟩ := ok b _ h
        obtain ⟨e2, _⟩ := ok' b _ (un.frzs b ob _ h)
        rw [Option.some.inj (e.symm.trans e1)]
        exact e2
  rcases hk : K.lookup scr with _ | o
  · refine go (fun b => if b = scr then some (.frz { cls := .type "list", data := .seq vs.toArray } (.lst (ns.map V.int))) else none) (fun b => ?_) (.inl (.inr ⟨_, if_pos rfl⟩)) (fun b u h => ?_) (fun b h => ?_) fun _ => hk
    · by_cases e : b = scr
      · exact .inr ⟨_, _, if_pos e⟩
      · exact .inl (if_neg e)
    · by_cases e : b = scr
      · subst e
        obtain rfl := Option.some.inj ((if_pos rfl).symm.trans h)
        exact ⟨at_, by rw [List.length_map]; exact size, vs, _, vals, at_⟩
      · exact nomatch (if_neg e).symm.trans h
    · by_cases e : b = scr
      · exact e
      · exact absurd (if_neg e) h
  · obtain rfl := Option.some.inj (at_.symm.trans (B.frag scr o hk))
    exact go (fun _ => none) (fun _ => .inl rfl) (.inr ⟨_, vs.toArray, _, hk, rfl, rfl, rfl, by rw [List.size_toArray, hi.length]; exact size, by simpa using vals⟩) (fun b u h => nomatch (show (none : Option HO) = some u from h)) (fun b h => absurd rfl h) fun h => absurd rfl h
end
def Bd (n : Int) : Prop := n.natAbs < 2 ^ Bits
theorem bd_of {n : Int} (h : Builtin.Int.intBits n ≤ 1048576) : Bd n := by
  unfold Bd
  unfold Builtin.Int.intBits at h
  by_cases e : n = 0
  · subst e; exact Nat.two_pow_pos _
  · have e' : (n == 0) = false := by simpa using e
    rw [e'] at h
    have h2 : n.natAbs.log2 + 1 ≤ Bits := h
    exact Nat.lt_of_lt_of_le (Nat.lt_log2_self (n := n.natAbs)) (Nat.pow_le_pow_right (by decide) h2)
/-- the goal that k_head leaves, from the law's promise -/
theorem walk_G {l : PySem.W.OpenLaw} {q : Program} {loose : List Str} {XP : (Str → Option Value) → Heap → Prop} {YP : World → Heap → Prop} {d : DefRec} {K : Params → PySem.W.Frag} {S : DSp} {k : Nat} (x : Str)
    (hn : l.most = some 63) (hdf : d.params.defaults = []) (room : RoomG k callerA)
    (hY : ∀ (w : World) (h : Heap), YP w h → (K w.params).In h)
    (F : ∀ (w : World) (mg : Str → Option Value) (fa : Addr) (h : Heap), (K w.params).In h → h.Ns mainGlobals mg → mg d.name = some (.ref fa) →
      ∃ fd : FuncData, (∀ (s : Shared) (u : Value), BindsTo s fd ⟨[u], []⟩ [(x, u)]) ∧ ∀ base : Heap, (K w.params).In base → base.Ns mainGlobals mg → FnG l.prog w (K w.params) mg base k fa fd [x] (lift (K w.params) S))
    (hS : ∀ (ns : List Int) Φ Ψ, ns.length ≤ 63 → (∀ n ∈ ns, Bd n) → Φ (.bl true) → S [.scr ns] Φ Ψ) :
    PySem.W.WalkO q loose XP YP l.row.toRowW d [] (fun f vs => PySem.call f vs) := by
  refine Att.attach_callB hn hdf fun w s₀ s₁ mg mb fa o pm cd doc a vs ns G Y ho hd hcd hmg hobj hints hlen hbits hg => ?_
  obtain ⟨fd, hb, hF⟩ := F w mg fa _ (hY w _ Y) G.T.g hmg
  exact law_at ⟨hY w _ Y, G.T.g, G.T.b, G.T.builtins, G.T.nolimit, hg⟩ hobj hints hlen room hF hb fun Φ Ψ q => hS ns Φ Ψ hlen (fun n hn => bd_of (hbits n hn)) q
/-! ### what the top has written -/
section
variable {K : PySem.W.Frag} {mg : Str → Option Value} {h : Heap}
/-- a def of the text at f -/
structure DefAt (K : PySem.W.Frag) (x qual : Str) (st : Stmt) (f : Addr) (dV : Value) (fd : FuncData) : Prop where
  ex : ∃ (oc : Value) (od : Option Addr) (kV doc pm : Value) (an : Option Addr) (cdv ct : Value) (osl : Array (Option Value)),
    fd = PySem.W.fnOf x qual (defArgs st) (defBody st) (defScope st) dV kV doc pm an cdv ct ∧ K.lookup f = some ⟨oc, od, .func fd, osl⟩ ∧ PySem.W.codeIn K cdv qual = true
theorem DefAt.fx {x qual : Str} {st : Stmt} {f : Addr} {dV : Value} {fd : FuncData} (D : DefAt K x qual st f dV fd) : FunX K x qual st f fd :=
  let ⟨oc, od, kV, doc, pm, an, cdv, ct, osl, h⟩ := D.ex; ⟨oc, od, dV, kV, doc, pm, an, cdv, ct, osl, h⟩
theorem DefAt.binds {x qual : Str} {st : Stmt} {f : Addr} {fd : FuncData} {ps : List Str} (D : DefAt K x qual st f .none fd)
    (h : ∀ (kV doc pm : Value) (an : Option Addr) (cdv ct : Value) (us : List Value), us.length = ps.length → bindArgs (PySem.W.fnOf x qual (defArgs st) (defBody st) (defScope st) .none kV doc pm an cdv ct) ⟨us, []⟩ = pure (ps.zip us)) : Binds K fd ps [] := by
  obtain ⟨oc, od, kV, doc, pm, an, cdv, ct, osl, rfl, lk, hcd⟩ := D.ex
  exact .all (h kV doc pm an cdv ct)
/-- a call that gives all values by place or by name, whatever the defaults are -/
theorem DefAt.kb {x qual : Str} {st : Stmt} {f : Addr} {dV : Value} {fd : FuncData} {ps : List Str} {n : Nat} {ks : List Str} {ix : List Nat} (D : DefAt K x qual st f dV fd)
    (h : ∀ (kV doc pm : Value) (an : Option Addr) (cdv ct : Value) (us ws : List Value), us.length = n → ws.length = ks.length → bindArgs (PySem.W.fnOf x qual (defArgs st) (defBody st) (defScope st) dV kV doc pm an cdv ct) ⟨us, ks.zip ws⟩ = pure (ps.zip (pick ix (us ++ ws)))) : KbG K fd ps n ks ix [] := by
  obtain ⟨oc, od, kV, doc, pm, an, cdv, ct, osl, rfl, lk, hcd⟩ := D.ex
  refine .of (dvs := []) (dv := []) .nil (fun _ => .nil) fun s us ws _ h1 h2 => ?_
  rw [List.append_nil]
  exact .of_eq (h kV doc pm an cdv ct us ws h1 h2)
/-- .. a def with defaults, which the call may give or leave -/
theorem DefAt.kbD {x qual : Str} {st : Stmt} {f T : Addr} {o : Obj} {its dv : List Value} {dvs : List V} {dd : List D} {m : Nat} {fd : FuncData} {ps : List Str} {n : Nat} {ks : List Str} {ix : List Nat} (D : DefAt K x qual st f (.ref T) fd)
    (lT : K.lookup T = some o) (oT : o.data = .seq its.toArray m) (h1 : Vals dvs dv) (h2 : ∀ H, RepAll K H dvs dd)
    (h : ∀ (kV doc pm : Value) (an : Option Addr) (cdv ct : Value) (us ws : List Value), us.length = n → ws.length = ks.length →
      ∃ k, bindArgs (PySem.W.fnOf x qual (defArgs st) (defBody st) (defScope st) (.ref T) kV doc pm an cdv ct) ⟨us, ks.zip ws⟩ = seqItems? (.ref T) >>= k ∧ k (some its.toArray) = pure (ps.zip (pick ix (us ++ ws ++ dv)))) : KbG K fd ps n ks ix dd := by
  obtain ⟨oc, od, kV, doc, pm, an, cdv, ct, osl, rfl, lk, hcd⟩ := D.ex
  refine .of h1 h2 fun s us ws X l1 l2 => ?_
  obtain ⟨k, e1, e2⟩ := h kV doc pm an cdv ct us ws l1 l2
  refine BindsTo.of_looks fun M => ?_
  rw [e1]
  exact looks_items X lT oT (.of_pure e2)
/-- a def of the module: it can be called by its name -/
structure ModAt (K : PySem.W.Frag) (mg : Str → Option Value) (x : Str) (st : Stmt) (f : Addr) (fd : FuncData) : Prop where
  d : DefAt K x x st f .none fd
  m : mg x = some (.ref f)
  k : PySem.W.keepIn K (.ref f) = true
theorem ModAt.call {P : Program} {w : World} {base : Heap} {x : Str} {st : Stmt} {f : Addr} {fd : FuncData} {ps : List Str} {k : Nat} {S : DSp} (M : ModAt K mg x st f fd) (F : FnG P w K mg base k f fd ps (lift K S))
    (h : ∀ (kV doc pm : Value) (an : Option Addr) (cdv ct : Value) (us : List Value), us.length = ps.length → bindArgs (PySem.W.fnOf x x (defArgs st) (defBody st) (defScope st) .none kV doc pm an cdv ct) ⟨us, []⟩ = pure (ps.zip us)) : CallD P w K mg base x k S :=
  .of F M.m M.k (M.d.binds h)
end
end DL
/-! DL19: len and bool of an object whose class has an own __len__. -/
namespace DL
open PySem PySem.Spec L2
open PyProof.Rows hiding St
section
variable {prog : Program} {w : World} {A : Around} {E : Value → Shared → Prop} {s : Shared} {K : PySem.W.Frag} {x C f : Addr} {ox : Obj} {od : Option Obj}
/-- what the own __len__ gives back -/
abbrev LenV' (Q : Int → Shared → Prop) : Value → Shared → Prop := fun v s' => ∃ (n : Nat) (u : Tok), v = .int (n : Int) u ∧ n < 2 ^ 62 ∧ Q (n : Int) s'
theorem len_bodyO {Q : Value → Shared → Prop} (X : K.In s.heap) (I : PySem.W.InstAt s.heap x ox C od) (hs : PySem.W.findIn K (.ref C) "__len__" = some (some (.ref f))) (hf : PySem.W.isFn K (.ref f) = true)
    (h : wpAny (model prog w) A (call (.ref f) [.ref x]) (LenV' fun n s' => Q (.int n s'.toks) { s' with toks := s'.toks + 1 }) E s) :
    wpAny (model prog w) A (Builtin.«len» ⟨[.ref x], []⟩) (fun fin s' => ∃ v, fin = .done (.ret v) ∧ Q v s') E s := by
  unfold Builtin.«len»
  refine wpAny_bind (m := oneArg "len" _) (wpAny_pure (wpAny_bind (m := callSpecial? (.ref x) (Str.ofString "__len__")) (PySem.W.special_fn X I hs (beq_iff_eq.mp hf) (wpAny_mono h ?_ fun _ _ y => y))))
  rintro _ s' ⟨n, u, rfl, hn, hq⟩
  refine wpAny_bind (wpAny_holding (wpAny_pure (wpAny_bind (wpAny_letGo ?_))))
  show wpAny _ _ (if ((n : Nat) : Int) < 0 then _ else _) _ _ _
  rw [if_neg (show ¬ ((n : Nat) : Int) < 0 by omega)]
  show wpAny _ _ (if ((n : Nat) : Int) ≥ 2 ^ 63 then _ else _) _ _ _
  rw [if_neg (show ¬ ((n : Nat) : Int) ≥ 2 ^ 63 by omega)]
  exact wpAny_bind (wpAny_mkInt (wpAny_pure ⟨.int n s'.toks, rfl, hq⟩))
end
def rLenO (K : PySem.W.Frag) (C : Addr) (S : DSp) : List V → Hp → VK → Prop := fun xs H Q => ∃ (a dx : Addr) (fs : List (Str × V)), xs = [.ref a] ∧ H a = some (.ins C dx fs) ∧ lift K S [.ref a] H (fun v H' => ∃ n : Nat, v = .int n ∧ n < 2 ^ 62 ∧ Q (.int n) H') EN
/-- an own __len__, no own __bool__ -/
structure LenB (P : Program) (w : World) (K : PySem.W.Frag) (mg : Str → Option Value) (base : Heap) (C : Addr) (k : Nat) (S : DSp) : Prop where
  ex : ∃ f fd ps, Own1 K C "__len__" f ∧ FnG P w K mg base k f fd ps (lift K S) ∧ Binds K fd ps []
  nb : PySem.W.findIn K (.ref C) "__bool__" = some none
section
variable {X : Cx} {j k : Nat} {f C : Addr} {fd : FuncData} {ps : List Str} {S : DSp}
theorem run_lenO {A : Around} {pins : List (Addr × Obj)} {σ : St} {H : Hp} {s : Shared} {a : Addr} {R : Nat → Hp → Prop} (F : FnG X.prog X.w X.K X.mg X.base k f fd ps (lift X.K S)) (hb : Binds X.K fd ps []) (room : RoomG k A) (e0 : Env0 X.prog X.w X.K X.mg X.base A X.stack s H)
    (I : Inv X pins σ H s) (q : lift X.K S [.ref a] H (fun v H' => ∃ n : Nat, v = .int n ∧ n < 2 ^ 62 ∧ R n H') EN) :
    wpAny (model X.prog X.w) A (call (.ref f) [.ref a]) (fun v s' => ∃ (n : Nat) (u : Tok), v = .int (n : Int) u ∧ n < 2 ^ 62 ∧ ∃ H', Inv X pins σ H' s' ∧ R n H') X.xe s := by
  refine wpAny_call (codeAny_mono (F.run A X.stack s H ⟨[.ref a], []⟩ [.ref a] [.ref a] _ EN room e0 (by
    have := hb s [.ref a] I.kIn (by rw [List.append_nil]; exact F.len _ _ _ _ q)
    simpa using this) (.cons rfl .nil) q) fun r s2 z => ?_)
  rcases r with er | fl
  · obtain ⟨_, _, _, _, _, _, _, _, _, _, _, _, z⟩ := z; exact z.elim
  · rcases fl with _ | _ | _ | u
    · exact z.elim
    · exact z.elim
    · exact z.elim
    · obtain ⟨v, H2, J2, rv, n, ev, hn, q2⟩ := I.after z
      subst ev
      obtain ⟨t, rfl⟩ := rv
      exact ⟨n, t, rfl, hn, H2, J2, q2⟩
theorem call_lenO (c : LenB X.prog X.w X.K X.mg X.base C k S) (room : RoomG j X.A) (hj : k + 2 ≤ j) : CallR X (.builtin "len") (rLenO X.K C S) := by
  intro pins s σ H xs us Q I r ⟨a, dx, fs, e, ha, q⟩
  obtain ⟨f, fd, ps, o1, F, hb⟩ := c.ex
  subst e
  obtain ⟨u, rfl, ru⟩ := vals1 r
  obtain rfl : u = Value.ref a := ru
  obtain ⟨mA, O, _⟩ := ins_get I.hok ha
  obtain ⟨od, J, _⟩ := O.look
  refine Calls.call_function_entry kind_len plain_len entry_len (args_len1 _) (len_bodyO I.kIn J o1.at_ o1.fn (wpAny_mono (run_lenO F hb ((room.mono (Nat.le_trans (Nat.le_succ _) hj)).in1) I.env0.in1 I q) ?_ fun _ _ y => y))
  rintro v s' ⟨n, u, rfl, hn, H2, J2, q2⟩
  exact ⟨n, u, rfl, hn, .int n, H2, J2.tok _, ⟨_, rfl⟩, q2⟩
end
section
variable {X : Cx} (K : PySem.W.Frag) {j k : Nat} {C : Addr} {S : DSp}
theorem k_lenO (c : LenB X.prog X.w K X.mg X.base C k S) (room : RoomG j X.A) (hj : k + 2 ≤ j) (h : X.K = K := by rfl) : CallR X (.builtin "len") (rLenO K C S) := by
  subst h; exact call_lenO c room hj
end
def lenOG (C : Addr) (S : DSp) (ds : List D) (Φ : D → Prop) : Prop := ∃ fs, ds = [.ins C fs] ∧ S [.ins C fs] (fun d => ∃ n : Nat, d = .int n ∧ n < 2 ^ 62 ∧ Φ (.int n)) (fun _ => False)
theorem cbd_lenOwn {K : PySem.W.Frag} {C : Addr} {S : DSp} : CbD K (rLenO K C S) (lenOG C S) := fun H0 H xs ds Φ Q e rx ⟨fs, hd, g⟩ k => by
  subst hd
  obtain ⟨v, rfl, r⟩ := vals_one rx
  cases r with
  | ins hp hr =>
    exact ⟨_, _, _, rfl, e _ _ hp, H0, [.ins C fs], _, fun _ => False, e, .cons (.ins hp hr) .nil, g, fun v d H0' H' ⟨n, ez, hn, hΦ⟩ p rv => by
      subst ez; cases rv
      exact ⟨n, rfl, hn, k _ _ H0' H' hΦ p (.int _)⟩, fun _ _ _ _ z => z.elim⟩
theorem wJ_cons {w : Wx} {t : TE} {ts : List TE} {acc : Str} {ρ : Env'} {Φ : Str → Env' → Prop} (h : wE w t ρ fun d ρ1 => ∃ y, d = .str y ∧ (acc ++ y).length ≤ 1000000 ∧ wJ w ts (acc ++ y) ρ1 Φ) : wJ w (t :: ts) acc ρ Φ := h
theorem wJ_nil {w : Wx} {acc : Str} {ρ : Env'} {Φ : Str → Env' → Prop} (h : Φ acc ρ) : wJ w [] acc ρ Φ := h
end DL
/-! DL20: defs around which tables of code objects may grow. -/
/-! DL21: own exceptions with one attribute, raised. -/
namespace DL
open PySem PySem.Spec L2
open PyProof.Rows hiding St
section
variable {P : Program} {w : World} {K : PySem.W.Frag} {mg : Str → Option Value} {base : Heap}
end
section
variable {P : Program} {w : World} {K : PySem.W.Frag} {mg : Str → Option Value} {base : Heap}
end
end DL
/-! DL22: a def that is handed the exception that is being handled. -/
namespace DL
open PySem PySem.Spec L2
open PyProof.Rows hiding St
/-! within such a def -/
end DL
/-! DL23: isinstance(e, C), e.f of the handled exception, in such a def; its promise over data. -/
/-! DL24: try .. except (A, B, C) as e, all that is raised being caught. -/
/-! DL25: a lambda without parameters, handed to a def that calls it. -/
/-! DL29: a call with a lambda; the def that calls it and tells the error. -/
/-! DL30: the same over data. -/
/-! DL31: the def that tells the error: its rules. -/
/-! DL26: == and != where one side is an object with an own __eq__. -/
namespace DL
open PySem PySem.Spec L2
open PyProof.Rows hiding St
/-! ### at the heap's level -/
def kinds : List String := ["NoneType", "bool", "int", "str", "tuple", "list", "dict"]
/-- plain data's type -/
inductive BuiV (K : PySem.W.Frag) (H : Hp) : V → String → Prop
  | non : BuiV K H .non "NoneType"
  | bl (b : Bool) : BuiV K H (.bl b) "bool"
  | int (i : Int) : BuiV K H (.int i) "int"
  | str (x : Str) : BuiV K H (.str x) "str"
  | lst {a : Addr} {xs : List V} (h : SqL K H a xs) : BuiV K H (.ref a) "list"
  | tup {a : Addr} {xs : List V} (h : SqT K H a xs) : BuiV K H (.ref a) "tuple"
  | dic {a : Addr} {xs : List (Key × V)} (h : H a = some (.dK xs)) : BuiV K H (.ref a) "dict"
theorem BuiV.kind {K : PySem.W.Frag} {H : Hp} {x : V} {T : String} (h : BuiV K H x T) : T ∈ kinds := by
  cases h <;> simp [kinds]
section
variable {X : Cx} {pins : List (Addr × Obj)} {σ : St} {H : Hp} {s : Shared} {x : V} {u : Value} {T : String} {A : Around}
end
end DL
/-! DL27: in a list, by the own __eq__; the same at the level of data. -/
namespace DL
open PySem PySem.Spec L2
open PyProof.Rows hiding St
/-! ### at the level of data -/
def D.bui : D → Bool
  | .non | .bl _ | .int _ | .str _ | .tup _ | .lst _ | .dic _ | .scr _ => true
  | _ => false
theorem buiV_of {K : PySem.W.Frag} {H0 H : Hp} (e : Ex H0 H) {v : V} {d : D} (r : Rep K H0 v d) (h : d.bui = true) : ∃ T, BuiV K H v T := by
  cases r with
  | non => exact ⟨_, .non⟩
  | bl b => exact ⟨_, .bl b⟩
  | int i => exact ⟨_, .int i⟩
  | str x => exact ⟨_, .str x⟩
  | tup hs _ => exact ⟨_, .tup (sqT_ex e hs)⟩
  | lst hs _ => exact ⟨_, .lst (.inl (.inl (e _ _ hs)))⟩
  | dic hs _ => exact ⟨_, .dic (e _ _ hs)⟩
  | scr hs => exact ⟨_, .lst (sqL_ex e hs)⟩
  | _ => simp [D.bui] at h
end DL
/-! DL28: t[::-1] of a tuple; small dict displays; isinstance of an own class. -/
namespace DL
open PySem PySem.Spec L2
open PyProof.Rows hiding St
section
variable {w : Wx} {ρ : Env'} {Φ : D → Env' → Prop} {te : TE}
theorem upd_upd {H : Hp} {p : Addr} {o o' : HO} : upd (upd H p o) p o' = upd H p o' := by
  funext b
  by_cases h : b = p
  · subst h; rw [upd_same, upd_same]
  · rw [upd_ne h, upd_ne h, upd_ne h]
end
/-! ### isinstance(x, C) -/
structure IsC (K : PySem.W.Frag) (C : Addr) : Prop where
  cl : Cls K C
  ha : PySem.W.findIn K (.ref C) "__class__" = some (some (.builtin "object.__class__"))
  hn : PySem.W.specialIn K (.builtin "object.__class__") "__get__" = some (some (.builtin "getset_descriptor.__get__"))
  ht : PySem.W.takesIn K (.builtin "object.__class__") = some true
  hm : PySem.W.mroIn K C (.type "object") = some true
  dn : ∀ T ∈ kinds, PySem.W.kitOne K (.type T) (.ref C) = some false
def isOG (C : Addr) (ds : List D) (Φ : D → Prop) : Prop := ∃ d, ds = [d, .raw (.ref C)] ∧ ((d.bui = true ∧ Φ (.bl false)) ∨ ∃ fs, d = .ins C fs ∧ Φ (.bl true))
theorem BuiV.tyx {K : PySem.W.Frag} {H : Hp} {x : V} {T : String} (h : BuiV K H x T) : TyX K H x (.type T) := by
  cases h with
  | non => exact .base .non
  | bl b => exact .base (.bl b)
  | int i => exact .base (.int i)
  | str x => exact .base (.str x)
  | lst h =>
    rcases h with (h | ⟨o, h⟩) | ⟨o, its, n, h1, h2, _⟩
    · exact .base (.lst h)
    · exact .base (.frz h)
    · exact .kList h1 h2
  | tup h => exact sqT_ty h
  | dic h => exact .base (.dK h)
theorem cbd_isO {K : PySem.W.Frag} {C : Addr} (I : IsC K C) : CbD K (rIsi K) (isOG C) := fun H0 H xs ds Φ Q e rx ⟨d, hd, g⟩ k => by
  subst hd
  obtain ⟨v, c, rfl, r1, r2⟩ := vals_two rx
  cases r2
  rcases g with ⟨hb, g⟩ | ⟨fs, rfl, g⟩
  · obtain ⟨T, bx⟩ := buiV_of e r1 hb
    exact ⟨v, _, _, .ref C, false, rfl, .own C, bx.tyx, I.dn T bx.kind, fin0 e g (.bl _) k⟩
  · cases r1 with
    | ins hp hr => exact ⟨_, _, .ref C, .ref C, true, rfl, .own C, .base (.ins (e _ _ hp) I.cl I.ha I.hn I.ht I.hm), by unfold PySem.W.kitOne; rw [if_pos (beq_self_eq_true _)], fin0 e g (.bl _) k⟩
theorem kinds_all {p : String → Prop} (a : p "NoneType") (b : p "bool") (c : p "int") (d : p "str") (e : p "tuple") (f : p "list") (g : p "dict") : ∀ T ∈ kinds, p T := fun T h => by
  simp only [kinds, List.mem_cons, List.not_mem_nil, or_false] at h
  rcases h with rfl | rfl | rfl | rfl | rfl | rfl | rfl <;> assumption
theorem kit_no {K : PySem.W.Frag} {C : Addr} {T : String} (h1 : PySem.W.isClsIn K C = true) (h2 : PySem.W.typeIn K (.ref C) = some (.type "type")) (h : PySem.W.subIn K (.type T) (.ref C) = some false) : PySem.W.kitOne K (.type T) (.ref C) = some false := by
  unfold PySem.W.kitOne
  rw [if_neg (show ¬ (Value.type T == Value.ref C) = true from Bool.false_ne_true)]
  show (if ((PySem.W.clsIn K C).isSome && PySem.W.typeIn K (.ref C) == some (.type "type")) = true then PySem.W.subIn K (.type T) (.ref C) else none) = some false
  rw [if_pos (by rw [h2, show (PySem.W.clsIn K C).isSome = true from h1]; rfl)]
  exact h
end DL
/-! DL32: dict displays of names, get. -/
namespace DL
open PySem PySem.Spec L2 LamX
open PyProof.Rows hiding St
theorem k_dget2 {X : Cx} {o e f : Expr} {apos cpos : Pos} {td ty tx : TE} {j : Nat} (room : RoomG j X.A) (ho : PE X o td) (he : PE X e ty) (hf : PE X f tx) (h1 : attributeBase o "get" X.env (eval o X.env) = eval o X.env := by rfl)
    (h2 : ((backTo cpos (starEach [e, f] X.env)).all (fun x => !x.1) && (backToKw cpos (keywordEach [] X.env)).all (fun x => x.1.isSome) && decide (([e, f] : List Expr).length + ([] : List Keyword).length + (if ([] : List Keyword).isEmpty then 0 else 1) < 30)) = true := by rfl)
    (h3 : (apos.endLine == cpos.line) = true := by rfl) (h4 : backTo cpos (starEach [e, f] X.env) = [(false, eval e X.env), (false, eval f X.env)] := by rfl) : PE X (.Call (.Attribute o "get" apos) [e, f] [] cpos) (tDGet2 td ty tx) :=
  pe_dget2 (by have := room.r.units; omega) ho he hf ⟨h1, h2, h3, h4⟩
theorem val_lookup {z : Str} : ∀ xs : List (Str × V), valV (xs.map fun p => ((Sum.inr p.1 : Key), p.2)) (Sum.inr z) = xs.lookup z
  | [] => rfl
  | (k, v) :: xs => by
    rw [List.map_cons, List.lookup_cons]
    by_cases h : z = k
    · rw [valV_pos (by rw [h]), h, beq_self_eq_true]
    · rw [valV_neg (fun e => h (by injection e with e; exact e.symm)), beq_eq_false_iff_ne.mpr h]
      exact val_lookup xs
theorem lookup_rep {K : PySem.W.Frag} {H : Hp} {z : Str} : ∀ {xs : List (Str × V)} {ds : List (Str × D)}, RepKV K H xs ds → (ds.lookup z = none ∧ xs.lookup z = none) ∨ ∃ d v, ds.lookup z = some d ∧ xs.lookup z = some v ∧ Rep K H v d
  | _, _, .nil => .inl ⟨rfl, rfl⟩
  | (k, v) :: _, _, .cons r rs => by
    rw [List.lookup_cons, List.lookup_cons]
    cases hk : z == k with
    | true => exact .inr ⟨_, _, rfl, rfl, r⟩
    | false => exact lookup_rep rs
section
variable {w : Wx} {ρ : Env'} {Φ : D → Env' → Prop} {td ty tx : TE}
theorem wE_dget2 (h : wE w td ρ fun d ρ1 => ∃ l, d = .dic l ∧ wE w ty ρ1 fun k ρ2 => ∃ z, k = .str z ∧ wE w tx ρ2 fun x ρ3 => Φ ((l.lookup z).getD x) ρ3) : wE w (tDGet2 td ty tx) ρ Φ := fun c H0 H σ Q a x k =>
  h c H0 H σ _ a x fun v d ρ1 H01 H1 ⟨l, ed, h2⟩ a1 e1 r1 => by
    subst ed
    cases r1 with
    | @dic b xs _ hp hr =>
      refine ⟨b, rfl, .inl ⟨_, .inl (a1.px.i _ _ hp)⟩, h2 c H01 H1 σ _ a1 x fun v2 d2 ρ2 H02 H2 ⟨z, ez, h3⟩ a2 e2 r2 => ?_⟩
      subst ez
      cases r2
      refine h3 c H02 H2 σ _ a2 x fun v3 d3 ρ3 H03 H3 q a3 e3 r3 => ?_
      have hp3 : H3 b = some (.dK (xs.map fun p => (Sum.inr p.1, p.2))) := a3.px.i _ _ (e3 _ _ (e2 _ _ hp))
      refine ⟨_, .inl ⟨_, Sum.inr z, .inl hp3, rfl, rfl⟩, ?_⟩
      rw [val_lookup]
      rcases lookup_rep (z := z) ((hr.mono e2).mono e3) with ⟨h5, h6⟩ | ⟨d5, v5, h5, h6, r5⟩
      · rw [h6]
        rw [h5] at q
        exact k v3 d3 ρ3 H03 H3 q a3 ((e1.trans e2).trans e3) r3
      · rw [h6]
        rw [h5] at q
        exact k v5 d5 ρ3 H03 H3 q a3 ((e1.trans e2).trans e3) r5
theorem merge3 {k1 k2 k3 : Str} {v1 v2 v3 : V} (h12 : k1 ≠ k2) (h13 : k1 ≠ k3) (h23 : k2 ≠ k3) : mergeK [] [((Sum.inr k1 : Key), v1), (Sum.inr k2, v2), (Sum.inr k3, v3)] = [(Sum.inr k1, v1), (Sum.inr k2, v2), (Sum.inr k3, v3)] := by
  have e1 : ¬ ((Sum.inr k1 : Key) = Sum.inr k2) := fun e => h12 (by injection e)
  have e2 : ¬ ((Sum.inr k1 : Key) = Sum.inr k3) := fun e => h13 (by injection e)
  have e3 : ¬ ((Sum.inr k2 : Key) = Sum.inr k3) := fun e => h23 (by injection e)
  simp [mergeK, putK, e1, e2, e3]
theorem wE_disp3 {k1 k2 k3 : Str} {i1 i2 i3 : Nat} {d1 d2 d3 : D} (h12 : k1 ≠ k2) (h13 : k1 ≠ k3) (h23 : k2 ≠ k3) (h1 : ρ[i1]? = some (some (.dat d1))) (h2 : ρ[i2]? = some (some (.dat d2))) (h3 : ρ[i3]? = some (some (.dat d3))) (q : Φ (.dic [(k1, d1), (k2, d2), (k3, d3)]) ρ) :
    wE w (tDisp [(tC (.str k1), tVar i1), (tC (.str k2), tVar i2), (tC (.str k3), tVar i3)]) ρ Φ := fun c H0 H σ Q a x k p hp => by
  obtain ⟨v1, g1, r1⟩ := a.get h1
  obtain ⟨v2, g2, r2⟩ := a.get h2
  obtain ⟨v3, g3, r3⟩ := a.get h3
  have y : PX ⟨H, H0, []⟩ (upd H0 p (.dK [(.inr k1, v1), (.inr k2, v2), (.inr k3, v3)])) (upd H p (.dK [(.inr k1, v1), (.inr k2, v2), (.inr k3, v3)])) := (PX.refl a.px.i).new hp
  refine ⟨v1, g1, v2, g2, v3, g3, upd_same, [(.inr k1, v1), (.inr k2, v2), (.inr k3, v3)], rfl, (show 3 ≤ 15 by decide), ?_⟩
  rw [upd_upd, merge3 h12 h13 h23]
  exact k _ _ ρ _ _ q (a.go y) y.e0 (.dic (xs := [(k1, v1), (k2, v2), (k3, v3)]) (ds := [(k1, d1), (k2, d2), (k3, d3)]) upd_same (.cons (r1.mono y.e0) (.cons (r2.mono y.e0) (.cons (r3.mono y.e0) .nil))))
end
end DL
/-! DL33: defs whose exceptions have no context (mkN.py writes this from DLg, DL4, DL8, DL12, DL15). -/
namespace DL
open PySem PySem.Spec L2
open PyProof.Rows hiding St
section
end
section
variable {P : Program} {w : World} {K : PySem.W.Frag} {mg : Str → Option Value} {base : Heap} {f : Addr} {fd : FuncData} {ps : List Str} {sp : Sp}
end
section
variable {P : Program} {w : World} {K : PySem.W.Frag} {mg : Str → Option Value} {base : Heap} {f : Addr} {fd : FuncData} {ps : List Str} {sp : Sp}
end
section
variable {P : Program} {w : World} {K : PySem.W.Frag} {mg : Str → Option Value} {base : Heap}
end
section
variable {P : Program} {w : World} {K : PySem.W.Frag} {mg : Str → Option Value} {base : Heap}
end
section
variable {P : Program} {w : World} {K : PySem.W.Frag} {mg : Str → Option Value} {base : Heap}
end
end DL
/-! DL34: raising without context; what such defs are to those who don't ask. -/
namespace DL
open PySem PySem.Spec L2
open PyProof.Rows hiding St
section
variable {P : Program} {w : World} {K : PySem.W.Frag} {mg : Str → Option Value} {base : Heap}
end
end DL
/-! DL35: try .. except (A, B, C): a suite that raises, all that the body raises being caught. -/
/-! DL36: an object made where the exception is told of the very state (mkS.py writes the first part). -/
/-! DL37: try: return C(..) except (A, B, D): raise X(e) from None. -/
namespace DL
open PySem PySem.Spec L2 L2H
open PyProof.Rows hiding St
end DL
/-! DL38: repr of plain data, flat or not. -/
/-! DL39: _law_answer(lambda: ..) as one rule. -/
/-! DL40: from the top of a text to the law's line, where lambdas are made: their tables stand empty there, and may be filled. -/
namespace DL
open PySem PySem.Spec L2 LamX
open PyProof.Rows hiding St
/-- defs that make a lambda: name, code object, table -/
abbrev Tabl := List (Str × Addr × Addr)
def Tabl.T (ts : Tabl) : List (Addr × Str) := ts.map fun t => (t.2.2, t.1 ++ ".<locals>.<lambda>")
def Tabl.ads (ts : Tabl) : List Addr := ts.map fun t => t.2.2
section
variable {P : Program} {w : World} {K : PySem.W.Frag} {mg mb : Str → Option Value} {z : Shared} {scr : Addr} {H : Hp} {items : Array Value} {ts : Tabl}
structure TabsIn (z : Shared) (K : PySem.W.Frag) (mg : Str → Option Value) (ts : Tabl) : Prop where
  tab : ∀ t ∈ ts, PySem.W.CodeHd z.heap t.2.1 t.2.2 ∧ z.heap.get? t.2.2 = some (PySem.W.tabObj #[])
  out : ∀ t ∈ ts, K.lookup t.2.2 = none
  bm : ∃ (bm : Addr) (ob : Obj), mg "__builtins__" = some (.ref bm) ∧ bm ≠ builtinsNs ∧ z.heap.get? bm = some ob ∧ ob.cls = .type "module" ∧ ob.dict = some builtinsNs ∧ ob.data = .plain
/-- what is tracked at the start: the script at most, and the tables -/
structure Asides (z : Shared) (scr : Addr) (items : Array Value) (ts : Tabl) (H : Hp) : Prop where
  at_ : z.heap.get? scr = some { cls := .type "list", data := .seq items }
  tabs : ∀ p ∈ ts.ads, z.heap.get? p = some (PySem.W.tabObj #[])
  one : ∀ b, H b ≠ none → b = scr ∨ b ∈ ts.ads
theorem Asides.noneOf (a : Asides z scr items ts H) {b : Addr} {o : Obj} (e : z.heap.get? b = some o) (d : ∀ c, o.data ≠ .seq items c) (d2 : o.data ≠ .fields #[]) : H b = none := by
  rcases hb : H b with _ | u
  · rfl
  · exfalso
    rcases a.one b (by simp [hb]) with q | q
    · subst q
      obtain rfl := Option.some.inj (a.at_.symm.trans e)
      exact d _ rfl
    · obtain rfl := Option.some.inj ((a.tabs b q).symm.trans e)
      exact d2 rfl
theorem Asides.ns (a : Asides z scr items ts H) {b : Addr} {m : Str → Option Value} (n : z.heap.Ns b m) : (hidT z.heap H).Ns b m := by
  obtain ⟨o, es, ep, e, d, r⟩ := n
  exact ⟨o, es, ep, hidT_get e (a.noneOf e (fun c q => by rw [d] at q; cases q) fun q => by rw [d] at q; cases q), d, r⟩
theorem Asides.frag (a : Asides z scr items ts H) (B : Begins z K mg mb) (t : TabsIn z K mg ts) (out : H scr ≠ none → K.lookup scr = none) : K.In (hidT z.heap H) := fun b o e => by
  refine hidT_get (B.frag b o e) ?_
  rcases hb : H b with _ | u
  · rfl
  · exfalso
    rcases a.one b (by simp [hb]) with q | q
    · subst q
      rw [out (by simp [hb])] at e
      cases e
    · obtain ⟨y, hy, rfl⟩ := List.mem_map.mp q
      rw [t.out y hy] at e
      cases e
theorem Asides.env0 (a : Asides z scr items ts H) (B : Begins z K mg mb) (t : TabsIn z K mg ts) (out : H scr ≠ none → K.lookup scr = none) (ok : HOk P w H z.heap) : Env0 P w K mg (hidT z.heap H) callerA [] z H := by
  have lim : (hidT z.heap H).NoLimit := let ⟨mc, h1, h2⟩ := B.lim; ⟨mc, a.ns h1, h2⟩
  exact ⟨rfl, ⟨a.frag B t out, a.ns B.main, ⟨mb, a.ns B.blt, B.boot⟩, lim⟩, fun b o e => of_hidT e, Nat.le_of_eq (hidT_size _ _), trivial, fun b hb => absurd (show b ∈ ([] : List Addr) from hb) (by simp), ok, .of_eq B.gens⟩
end
end DL
/-! DL41: the def that calls a lambda, put together once. -/
/-! DL42: facts of classes of errors, put together. -/
namespace DL
open PySem PySem.Spec L2 LamX
open PyProof.Rows hiding St
section
variable {P : Program} {w : World} {K : PySem.W.Frag} {mg : Str → Option Value} {base : Heap}
end
end DL
/-! DL43: repr of data in which dicts may lie. -/
namespace DL
open PySem PySem.Spec L2
open PyProof.Rows hiding St
mutual
def D.pyq : D → PyData
  | .non => .none
  | .bl b => .bool b
  | .int i => .int i
  | .str x => .str x
  | .tup l => .tuple (pyqAll l)
  | .lst l => .list (pyqAll l)
  | .dic kvs => .dict (pyqKv kvs)
  | .ins _ _ | .pail | .scr _ | .raw _ | .exn _ _ _ | .dik _ | .kd _ _ _ _ => .none
def pyqAll : List D → List PyData
  | [] => []
  | d :: l => d.pyq :: pyqAll l
def pyqKv : List (Str × D) → List (PyData × PyData)
  | [] => []
  | (k, d) :: l => (.str k, d.pyq) :: pyqKv l
end
mutual
def D.pureq : D → Bool
  | .non => true
  | .bl _ => true
  | .int _ => true
  | .str x => PyData.strOk x
  | .tup l => pureqAll l
  | .lst l => pureqAll l
  | .dic kvs => pureqKv kvs
  | .ins _ _ => false
  | .pail => false
  | .scr _ => false
  | .raw _ => false
  | .exn _ _ _ => false
  | .dik _ => false
  | .kd _ _ _ _ => false
def pureqAll : List D → Bool
  | [] => true
  | d :: l => d.pureq && pureqAll l
def pureqKv : List (Str × D) → Bool
  | [] => true
  | (k, d) :: l => PyData.strOk k && d.pureq && pureqKv l
end
end DL
/-! DL44: what repr tells is a text of right signs. -/
namespace DL
open PySem PySem.Spec L2
open PySem.Builtin.Str (reprChar)
open PyProof.Rows hiding St
/-- all signs are right -/
def Sg (x : Str) : Prop := ∀ c ∈ x.cps.toList, c < 0x110000
theorem sg_iff {x : Str} : PyData.strOk x = true ↔ Sg x := by
  unfold PyData.strOk Sg
  rw [← Array.all_toList, List.all_eq_true]
  simp
theorem Sg.add {x y : Str} (hx : Sg x) (hy : Sg y) : Sg (x ++ y) := fun c hc => by
  have e : (x ++ y).cps.toList = x.cps.toList ++ y.cps.toList := by
    show (x.cps ++ y.cps).toList = _
    simp
  rw [e] at hc
  exact (List.mem_append.mp hc).elim (hx c) (hy c)
theorem sg_lit (s : String) : Sg (Str.ofString s) := fun c hc => by
  rw [Str.ofString_eq_toList] at hc
  have hc : c ∈ s.toList.map Char.toNat := by simpa using hc
  obtain ⟨ch, _, rfl⟩ := List.mem_map.mp hc
  have v := ch.valid
  show ch.val.toNat < 0x110000
  rcases v with h | ⟨_, h⟩
  · have : ch.val.toNat < 0xd800 := h
    omega
  · exact h
theorem sg_char {q c : Nat} (hc : c < 0x110000) : ∀ y ∈ reprChar q c, y < 0x110000 := by
  have dig : ∀ w y, y ∈ (List.replicate (w - ((Nat.toDigits 16 c).map Char.toNat).length) 48 ++ (Nat.toDigits 16 c).map Char.toNat) → y < 0x110000 := fun w y hy => by
    rcases List.mem_append.mp hy with h | h
    · rw [List.eq_of_mem_replicate h]; decide
    · obtain ⟨ch, _, rfl⟩ := List.mem_map.mp h
      have v := ch.valid
      show ch.val.toNat < 0x110000
      rcases v with h | ⟨_, h⟩
      · have : ch.val.toNat < 0xd800 := h
        omega
      · exact h
  intro y hy
  unfold reprChar at hy
  simp only at hy
  split at hy
  · simp only [List.mem_cons, List.not_mem_nil, or_false] at hy; omega
  split at hy
  · simp only [List.mem_cons, List.not_mem_nil, or_false] at hy; omega
  split at hy
  · simp only [List.mem_cons, List.not_mem_nil, or_false] at hy; omega
  split at hy
  · simp only [List.mem_cons, List.not_mem_nil, or_false] at hy; omega
  split at hy
  · simp only [List.mem_cons, List.not_mem_nil, or_false] at hy; omega
  split at hy
  · rcases List.mem_append.mp hy with h | h
    · simp only [List.mem_cons, List.not_mem_nil, or_false] at h; omega
    · exact dig _ _ h
  split at hy
  · rcases List.mem_append.mp hy with h | h
    · simp only [List.mem_cons, List.not_mem_nil, or_false] at h; omega
    · exact dig _ _ h
  · rcases List.mem_append.mp hy with h | h
    · simp only [List.mem_cons, List.not_mem_nil, or_false] at h; omega
    · exact dig _ _ h
theorem sg_fold {q : Nat} : ∀ (l : List Nat) (acc : Array Nat), (∀ c ∈ l, c < 0x110000) → (∀ c ∈ acc.toList, c < 0x110000) → ∀ c ∈ (l.foldl (fun out c => out ++ (reprChar q c).toArray) acc).toList, c < 0x110000
  | [], acc, _, ha => ha
  | x :: l, acc, hl, ha => sg_fold l _ (fun c hc => hl c (List.mem_cons_of_mem _ hc)) fun c hc => by
    have hc : c ∈ acc.toList ++ reprChar q x := by simpa using hc
    exact (List.mem_append.mp hc).elim (ha c) (sg_char (hl x List.mem_cons_self) c)
theorem sg_repr {x : Str} (h : Sg x) : Sg (reprText x) := fun c hc => by
  unfold reprText at hc
  rw [← Array.foldl_toList] at hc
  have q : reprQuote x < 0x110000 := by unfold reprQuote; split <;> decide
  have hc : c ∈ (x.cps.toList.foldl (fun out c => out ++ (reprChar (reprQuote x) c).toArray) #[reprQuote x]).toList ++ [reprQuote x] := by simpa using hc
  rcases List.mem_append.mp hc with h2 | h2
  · exact sg_fold _ _ h (fun c hc => by
      have : c = reprQuote x := by simpa using hc
      rw [this]; exact q) c h2
  · rw [List.mem_singleton.mp h2]; exact q
theorem sg_from : ∀ (ts : List Str) (k : Nat) (acc : Str), Sg acc → (∀ t ∈ ts, Sg t) → Sg (textFrom k acc ts)
  | [], k, acc, ha, _ => ha
  | t :: r, k, acc, ha, h => by
    show Sg (textFrom _ _ r)
    refine sg_from r _ _ ?_ fun t ht => h t (List.mem_cons_of_mem _ ht)
    refine Sg.add ?_ (h t List.mem_cons_self)
    split
    · exact Sg.add ha (sg_lit _)
    · exact ha
theorem sg_join (sep : Str) (hs : Sg sep) : ∀ (ts : List Str), (∀ t ∈ ts, Sg t) → Sg (Str.join sep ts)
  | [], _ => sg_lit ""
  | [t], h => h t List.mem_cons_self
  | t :: u :: r, h => Sg.add (Sg.add (h t List.mem_cons_self) hs) (sg_join sep hs (u :: r) fun t ht => h t (List.mem_cons_of_mem _ ht))
mutual
theorem sg_shown : ∀ d : D, d.pureq = true → Sg d.pyq.shown
  | .non, _ => sg_lit _
  | .bl true, _ => sg_lit _
  | .bl false, _ => sg_lit _
  | .int i, _ => sg_lit _
  | .str x, h => sg_repr (sg_iff.mp h)
  | .tup l, h => by
    have := sg_all l (by simpa only [D.pureq] using h)
    simp only [D.pyq, PyData.shown]
    unfold tupleText
    refine Sg.add (Sg.add (sg_lit _) (sg_join _ (sg_lit _) _ this)) ?_
    split <;> exact sg_lit _
  | .lst l, h => by
    have := sg_all l (by simpa only [D.pureq] using h)
    simp only [D.pyq, PyData.shown]
    unfold listText
    exact Sg.add (sg_from _ _ _ (sg_lit _) this) (sg_lit _)
  | .dic l, h => by
    have := sg_kv l (by simpa only [D.pureq] using h)
    simp only [D.pyq, PyData.shown]
    unfold dictText
    exact Sg.add (Sg.add (sg_lit _) (sg_join _ (sg_lit _) _ this)) (sg_lit _)
  | .ins _ _, h => by simp [D.pureq] at h
  | .pail, h => by simp [D.pureq] at h
  | .scr _, h => by simp [D.pureq] at h
  | .raw _, h => by simp [D.pureq] at h
  | .exn _ _ _, h => by simp [D.pureq] at h
  | .dik _, h => by simp [D.pureq] at h
  | .kd _ _ _ _, h => by simp [D.pureq] at h
theorem sg_all : ∀ l : List D, pureqAll l = true → ∀ t ∈ PyData.shownAll (pyqAll l), Sg t
  | [], _, t, ht => by simp [pyqAll, PyData.shownAll] at ht
  | d :: l, h, t, ht => by
    simp only [pureqAll, Bool.and_eq_true] at h
    simp only [pyqAll, PyData.shownAll, List.mem_cons] at ht
    rcases ht with rfl | ht
    · exact sg_shown d h.1
    · exact sg_all l h.2 t ht
theorem sg_kv : ∀ l : List (Str × D), pureqKv l = true → ∀ t ∈ PyData.shownKv (pyqKv l), Sg t
  | [], _, t, ht => by simp [pyqKv, PyData.shownKv] at ht
  | (k, d) :: l, h, t, ht => by
    simp only [pureqKv, Bool.and_eq_true] at h
    simp only [pyqKv, PyData.shownKv, List.mem_cons] at ht
    rcases ht with rfl | ht
    · refine Sg.add (Sg.add ?_ (sg_lit _)) (sg_shown d h.1.2)
      exact sg_repr (sg_iff.mp h.1.1)
    · exact sg_kv l h.2 t ht
end
end DL
/-! DL45: a tuple of whatever it is beside (). -/
/-! DL46: values of any kind, bounded: depth, numbers, weight. -/
namespace DL
open PySem PySem.Spec L2
open PyProof.Rows hiding St
mutual
def D.ib : D → Nat
  | .int i => i.natAbs
  | .tup l => ibAll l
  | .lst l => ibAll l
  | .dic l => ibKv l
  | .non | .bl _ | .str _ | .ins _ _ | .pail | .scr _ | .raw _ | .exn _ _ _ | .dik _ | .kd _ _ _ _ => 0
def ibAll : List D → Nat
  | [] => 0
  | d :: l => max d.ib (ibAll l)
def ibKv : List (Str × D) → Nat
  | [] => 0
  | (_, d) :: l => max d.ib (ibKv l)
end
mutual
theorem vb_leaves : ∀ d : D, d.pureq = true → d.ib < 10 ^ 44 → d.pyq.showable = true ∧ d.pyq.leavesShort 45 = true
  | .non, _, _ => ⟨by simp [D.pyq, PyData.showable], by simp [D.pyq, PyData.leavesShort]⟩
  | .bl _, _, _ => ⟨by simp [D.pyq, PyData.showable], by simp [D.pyq, PyData.leavesShort]⟩
  | .int i, _, h => by
    have h : i.natAbs < 10 ^ 44 := h
    refine ⟨?_, ?_⟩
    · show PyData.showable (.int i) = true
      simp only [PyData.showable, decide_eq_true_eq]
      exact log2_lt (k := 1920) (Nat.lt_trans h (by decide +kernel)) (by decide)
    · show PyData.leavesShort 45 (.int i) = true
      simp only [PyData.leavesShort, decide_eq_true_eq]
      show (Str.ofString (toString i)).length ≤ 45
      rw [PySem.ofString_length]
      exact int_text_length_le10 (k := 44) (by decide) h
  | .str x, h, _ => by
    refine ⟨by simp [D.pyq, PyData.showable], ?_⟩
    show PyData.leavesShort 45 (.str x) = true
    simp only [PyData.leavesShort, List.all_eq_true, decide_eq_true_eq]
    intro c hc
    exact Nat.lt_trans (sg_iff.mp h c hc) (by decide)
  | .tup l, h, b => by
    obtain ⟨a, c⟩ := vb_leavesAll l (by simpa only [D.pureq] using h) (by simpa only [D.ib] using b)
    exact ⟨by simpa only [D.pyq, PyData.showable] using a, by simpa only [D.pyq, PyData.leavesShort] using c⟩
  | .lst l, h, b => by
    obtain ⟨a, c⟩ := vb_leavesAll l (by simpa only [D.pureq] using h) (by simpa only [D.ib] using b)
    exact ⟨by simpa only [D.pyq, PyData.showable] using a, by simpa only [D.pyq, PyData.leavesShort] using c⟩
  | .dic l, h, b => by
    obtain ⟨a, c⟩ := vb_leavesKv l (by simpa only [D.pureq] using h) (by simpa only [D.ib] using b)
    exact ⟨by simpa only [D.pyq, PyData.showable] using a, by simpa only [D.pyq, PyData.leavesShort] using c⟩
  | .ins _ _, h, _ => by simp [D.pureq] at h
  | .pail, h, _ => by simp [D.pureq] at h
  | .scr _, h, _ => by simp [D.pureq] at h
  | .raw _, h, _ => by simp [D.pureq] at h
  | .exn _ _ _, h, _ => by simp [D.pureq] at h
  | .dik _, h, _ => by simp [D.pureq] at h
  | .kd _ _ _ _, h, _ => by simp [D.pureq] at h
theorem vb_leavesAll : ∀ l : List D, pureqAll l = true → ibAll l < 10 ^ 44 → PyData.showableAll (pyqAll l) = true ∧ PyData.leavesShortAll 45 (pyqAll l) = true
  | [], _, _ => ⟨by simp [pyqAll, PyData.showableAll], by simp [pyqAll, PyData.leavesShortAll]⟩
  | d :: l, h, b => by
    simp only [pureqAll, Bool.and_eq_true] at h
    simp only [ibAll] at b
    obtain ⟨a, c⟩ := vb_leaves d h.1 (by omega)
    obtain ⟨e, f⟩ := vb_leavesAll l h.2 (by omega)
    exact ⟨by simp only [pyqAll, PyData.showableAll, a, e, Bool.and_self], by simp only [pyqAll, PyData.leavesShortAll, c, f, Bool.and_self]⟩
theorem vb_leavesKv : ∀ l : List (Str × D), pureqKv l = true → ibKv l < 10 ^ 44 → PyData.showableKv (pyqKv l) = true ∧ PyData.leavesShortKv 45 (pyqKv l) = true
  | [], _, _ => ⟨by simp [pyqKv, PyData.showableKv], by simp [pyqKv, PyData.leavesShortKv]⟩
  | (k, d) :: l, h, b => by
    simp only [pureqKv, Bool.and_eq_true] at h
    simp only [ibKv] at b
    obtain ⟨a, c⟩ := vb_leaves d h.1.2 (by omega)
    obtain ⟨e, f⟩ := vb_leavesKv l h.2 (by omega)
    have kk : PyData.leavesShort 45 (.str k) = true := by
      simp only [PyData.leavesShort, List.all_eq_true, decide_eq_true_eq]
      intro x hx
      exact Nat.lt_trans (sg_iff.mp h.1.1 x hx) (by decide)
    exact ⟨by simp only [pyqKv, PyData.showableKv, PyData.showable, a, e, Bool.and_self], by simp only [pyqKv, PyData.leavesShortKv, kk, c, f, Bool.and_self]⟩
end
end DL
/-! DL47: tuple(range(a, b)); a def that calls itself. -/
namespace DL
open PySem PySem.Spec L2
open PyProof.Rows hiding St
theorem wE_tupRg {w : Wx} {ρ : Env'} {Φ : D → Env' → Prop} {ta tb : TE} (h : wE w ta ρ fun d1 ρ1 => wE w tb ρ1 fun d2 ρ2 => ∃ i j : Int, d1 = .int i ∧ d2 = .int j ∧ RgOk i j ∧ Φ (.tup (((List.range (j - i).toNat).map fun k : Nat => i + (k : Int)).map D.int)) ρ2) :
    wE w (tTupRg (tRg2 ta tb)) ρ Φ := fun c H0 H σ Q a x k =>
  h c H0 H σ _ a x fun v d1 ρ1 H01 H1 h1 a1 e1 r1 => h1 c H01 H1 σ _ a1 x fun u d2 ρ2 H02 H2 ⟨i, j, z1, z2, ok, q⟩ a2 e2 r2 => by
    subst z1 z2
    cases r1; cases r2
    refine ⟨i, j, rfl, rfl, ok, fun p hp => ?_⟩
    have y : PX ⟨H2, H02, []⟩ (upd H02 p (.tup (rgV i j))) (upd H2 p (.tup (rgV i j))) := (PX.refl a2.px.i).new hp
    have e : rgV i j = ((List.range (j - i).toNat).map fun k : Nat => i + (k : Int)).map V.int := by unfold rgV; rw [List.map_map]; rfl
    exact k _ _ ρ2 _ _ q (a2.go y) (e1.trans (e2.trans y.e0)) (.tup (.inl (.inl upd_same)) (by rw [e]; exact RepAll.ints _))
end DL
/-! DL48: x in a list of one's own; a sign that is not in a text. -/
namespace DL
open PySem PySem.Spec L2
open PyProof.Rows hiding St
section
variable {w : Wx} {t : TS} {E : DE} {ρ : Env'}
/-- what holds behind a statement, told before what follows -/
theorem wS_then (R : Env' → Prop) (h : wS w t { E with nx := R } ρ) (k : ∀ ρ', R ρ' → E.nx ρ') : wS w t E ρ := wS_mono h k (fun _ _ h => h) (fun _ _ h => h) (fun _ h => h) (fun _ h => h)
theorem wS_ifThen {p : Prop} [Decidable p] (R : Env' → Prop) (h1 : p → wS w t { E with nx := R } ρ) (h2 : ¬ p → R ρ) (k : ∀ ρ', R ρ' → E.nx ρ') : if decide p = true then wS w t E ρ else wS w tNext E ρ := by
  by_cases h : p
  · rw [decide_eq_true h, if_pos rfl]; exact wS_then R (h1 h) k
  · rw [decide_eq_false h, if_neg Bool.false_ne_true]; exact wS_next (k ρ (h2 h))
end
end DL
/-! DL49: sorted(set(xs)), xs a list of ints. -/
namespace DL
open PySem PySem.Spec L2
open PyProof.Rows hiding St
theorem few_nodup : ∀ (n : Nat) (l : List Int), l.Nodup → (∀ k ∈ l, 0 ≤ k ∧ k < n) → l.length ≤ n
  | 0, l, _, h => by
    cases l with
    | nil => exact Nat.le_refl _
    | cons a l => have := h a List.mem_cons_self; omega
  | n + 1, l, nd, h => by
    have ih := few_nodup n (l.erase (n : Int)) (nd.erase _) fun k hk => by
      have := (List.Nodup.mem_erase_iff nd).mp hk
      have := h k this.2
      omega
    by_cases m : (n : Int) ∈ l
    · rw [List.length_erase_of_mem m] at ih
      omega
    · rw [List.erase_of_not_mem m] at ih
      omega
theorem bb_sorted : bootBuiltins "sorted" = some (.builtin "sorted") := by decide +kernel
theorem bb_set : bootBuiltins "set" = some (.type "set") := by decide +kernel
end DL
/-! DL50: a * b, where a list or a tuple is repeated, too. -/
namespace DL
open PySem PySem.Spec L2
open PyProof.Rows hiding St
section
variable {K : PySem.W.Frag}
def mulAG (x y : D) (Φ : D → Prop) : Prop := match x, y with
  | .int i, .int j => MulC i j ∧ Φ (.int (i * j))
  | .lst l, .int k => 0 ≤ k ∧ k ≤ 1000 ∧ l.length ≤ 1000 ∧ Φ (.lst (List.replicate k.toNat l).flatten)
  | .tup l, .int k => l ≠ [] ∧ 2 ≤ k ∧ k ≤ 1000 ∧ l.length ≤ 1000 ∧ Φ (.tup (List.replicate k.toNat l).flatten)
  | _, _ => False
end
end DL
/-! DL51: comprehensions with two fors. -/
namespace DL
open PySem PySem.Spec L2
open PyProof.Rows hiding St
theorem At.again {K : PySem.W.Frag} {c : Ctx} {ρ : Env'} {H0 H H0' H' : Hp} {σ : St} (a : At K c ρ H0 H σ) (e0 : Ex H0 H0') (e1 : Ex H0' H') (t : TabA c.T H0' H') : At K ⟨H', H0', c.T⟩ (hide ρ) H0' H' σ := by
  obtain ⟨os, s, _, _⟩ := a.sl
  exact ⟨PX.refl e1, t, [], (s.hide).mono e0 (fun _ h => nomatch h), List.nodup_nil, fun _ h => nomatch h⟩
theorem only_use {g : TG} {vs : List Nat} (hon : Only g vs) {v : V} {σ : St} {H : Hp} {Q : St → Hp → Prop} (h : g v (wipe σ vs) H Q) : g v (wipe σ vs) H fun σ' H' => wipe σ' vs = wipe σ vs ∧ Q σ' H' := by
  have s2 := hon _ _ _ _ h
  rw [wipe_wipe] at s2
  exact s2
theorem wE_lc2 {w : Wx} {ρ : Env'} {Φ : D → Env' → Prop} {wi wi1 : TI} {g g1 : TG} {tt tt1 : TT} {te : TE} {vs vs1 : List Nat} (hon : Only g vs) (hon1 : Only g1 vs1)
    (h : wI w wi ρ fun ds ρ1 => ∃ I : Nat → List D → Prop, I 0 [] ∧ (∀ i d acc, ds[i]? = some d → I i acc → wG w.quiet g d (wipeE (hide ρ1) vs) fun ρ2 => wT w.quiet tt ρ2 fun b ρ3 =>
      if b = true then wI w.quiet wi1 ρ3 fun ds1 ρ4 => ∃ I1 : Nat → List D → Prop, I1 0 acc ∧ (∀ j d1 acc1, ds1[j]? = some d1 → I1 j acc1 → acc1.length < 1000000 ∧ wG w.quiet g1 d1 (wipeE (hide ρ4) vs1) fun ρ5 => wT w.quiet tt1 ρ5 fun b ρ6 =>
          if b = true then wE w.quiet te ρ6 fun y _ => I1 (j + 1) (acc1 ++ [y]) else I1 (j + 1) acc1) ∧ (∀ acc1, I1 ds1.length acc1 → I (i + 1) acc1)
      else I (i + 1) acc) ∧ (∀ acc, I ds.length acc → Φ (.lst acc) ρ1)) : wE w (tLc2 wi g tt wi1 g1 tt1 te vs vs1) ρ Φ := fun c H0 H σ Q a x k => by
  refine h c H0 H σ _ a x fun J ds ρ1 H01 H1 ⟨I, i0, step, done⟩ a1 e1 go stop yld => ?_
  intro Dl hD
  have hD0 : H01 Dl = none := a1.px.i.back hD
  have known : ∀ {H : Hp} {us : List V}, H Dl = some (.lst us) → H Dl ≠ none := fun e z => by rw [e] at z; cases z
  have tabD : ∀ {H : Hp} {us us' : List V}, H Dl = some (.lst us) → ∀ b o, H b = some o → (∀ xs, o ≠ .lst xs) → (∀ xs, o ≠ .dK xs) → (∀ C dx xs, o ≠ .ins C dx xs) → upd H Dl (.lst us') b = some o := fun {H us us'} e b o hb n1 _ _ => by
    have hne : b ≠ Dl := fun z => by
      rw [z, e] at hb
      cases hb
      exact n1 _ rfl
    exact (upd_ne hne).trans hb
  let St1 : (List D → Prop) → Hp → Hp → Prop := fun I H0' H' => ∃ us acc, PX ⟨H1, H01, c.T⟩ H0' H' ∧ TabA c.T H0' H' ∧ H' Dl = some (.lst us) ∧ H0' Dl = none ∧ RepAll w.K H0' us acc ∧ I acc
  refine ⟨fun i m H' => m = ds.length - i ∧ i ≤ ds.length ∧ ∃ H0', St1 (I i) H0' H',
    ⟨_, rfl, Nat.zero_le _, H01, [], [], (PX.refl a1.px.i).change hD0 hD, a1.tab.keep (ext_both (Ex.new hD)) (fun _ h _ => h), upd_same, hD0, .nil, i0⟩, ?_⟩
  rintro i m H' ⟨rfl, hi, H0', us, acc, p, tb, hl, h0, r, hI⟩
  by_cases hlt : i < ds.length
  · refine .inr ⟨go i H0' H' p.e0 p.i hlt, fun H'' => ∃ H0', St1 (I (i + 1)) H0' H'', fun H'' ⟨H0', q⟩ => ⟨ds.length - (i + 1), by omega, rfl, hlt, H0', q⟩, fun v H2 y => ?_⟩
    obtain ⟨d, H02, hd, p2, r2⟩ := yld i H0' H' v H2 p.e0 p.i hlt y
    have P2 := p.trans p2
    have l2 : H2 Dl = some (.lst us) := p2.ex _ _ hl
    have n2 : H02 Dl = none := p2.n Dl (known hl) h0
    have tb2 : TabA c.T H02 H2 := tb.keep (ext_both p2.ex) fun q h1 ⟨ps, h2⟩ => p2.n q (by show H' q ≠ none; rw [h2]; exact nofun) h1
    have aw : At w.quiet.K ⟨H2, H02, c.T⟩ (wipeE (hide ρ1) vs) H02 H2 (wipe σ vs) := ((a1.goT P2 tb2).freshT).wiped vs
    have ql : XLink w.quiet ⟨H2, H02, c.T⟩ := quiet_link x.t
    refine only_use hon ?_
    refine step i d acc hd hI ⟨H2, H02, c.T⟩ H02 H2 (wipe σ vs) v _ aw ql r2 fun ρ3 H03 H3 σ3 q3 a3 e3 => ?_
    refine q3 ⟨H2, H02, c.T⟩ H03 H3 σ3 _ a3 ql fun b ρ4 H04 H4 q4 a4 e4 => ?_
    have l4 : H4 Dl = some (.lst us) := a4.px.e.lst l2
    have n4 : H04 Dl = none := a4.px.n Dl (known l2) n2
    cases b with
    | false =>
      rw [if_neg Bool.false_ne_true] at q4 ⊢
      exact ⟨H04, us, acc, P2.transT a4.px, a4.tab, l4, n4, r.mono (p2.e0.trans a4.px.e0), q4⟩
    | true =>
      rw [if_pos rfl] at q4 ⊢
      refine q4 ⟨H2, H02, c.T⟩ H04 H4 σ3 _ a4 ql fun J1 ds1 ρ5 H05 H5 ⟨I1, i10, step1, done1⟩ a5 e5 go1 stop1 yld1 => ?_
      have l5 : H5 Dl = some (.lst us) := a5.px.e.lst l2
      have n5 : H05 Dl = none := a5.px.n Dl (known l2) n2
      have P5 : PX ⟨H1, H01, c.T⟩ H05 H5 := P2.transT a5.px
      refine ⟨fun j k H' => k = ds1.length - j ∧ j ≤ ds1.length ∧ ∃ H0', Ex H05 H0' ∧ St1 (I1 j) H0' H', ⟨_, rfl, Nat.zero_le _, H05, .refl _, us, acc, P5, a5.tab, l5, n5, r.mono (p2.e0.trans a5.px.e0), i10⟩, ?_⟩
      rintro j kk H' ⟨rfl, hj, H0', e05, us, acc, p, tb, hl, h0, r, hI⟩
      by_cases hlt1 : j < ds1.length
      · refine .inr ⟨go1 j H0' H' e05 p.i hlt1, fun H'' => ∃ H0', Ex H05 H0' ∧ St1 (I1 (j + 1)) H0' H'', fun H'' ⟨H0', q⟩ => ⟨ds1.length - (j + 1), by omega, rfl, hlt1, H0', q⟩, fun v H6 y => ?_⟩
        obtain ⟨d1, H06, hd1, p6, r6⟩ := yld1 j H0' H' v H6 e05 p.i hlt1 y
        have P6 := p.trans p6
        have l6 : H6 Dl = some (.lst us) := p6.ex _ _ hl
        have n6 : H06 Dl = none := p6.n Dl (known hl) h0
        have tb6 : TabA c.T H06 H6 := tb.keep (ext_both p6.ex) fun q h1 ⟨ps, h2⟩ => p6.n q (by show H' q ≠ none; rw [h2]; exact nofun) h1
        have aw6 : At w.quiet.K ⟨H6, H06, c.T⟩ (wipeE (hide ρ5) vs1) H06 H6 (wipe σ3 vs1) := ((a5.again (e05.trans p6.e0) P6.i tb6)).wiped vs1
        have ql6 : XLink w.quiet ⟨H6, H06, c.T⟩ := quiet_link x.t
        obtain ⟨room, stp⟩ := step1 j d1 acc hd1 hI
        refine only_use hon1 ?_
        refine stp ⟨H6, H06, c.T⟩ H06 H6 (wipe σ3 vs1) v _ aw6 ql6 r6 fun ρ7 H07 H7 σ7 q7 a7 e7 => ?_
        refine q7 ⟨H6, H06, c.T⟩ H07 H7 σ7 _ a7 ql6 fun b ρ8 H08 H8 q8 a8 e8 => ?_
        have l8 : H8 Dl = some (.lst us) := a8.px.e.lst l6
        have n8 : H08 Dl = none := a8.px.n Dl (known l6) n6
        cases b with
        | false =>
          rw [if_neg Bool.false_ne_true] at q8 ⊢
          exact ⟨H08, e05.trans (p6.e0.trans a8.px.e0), us, acc, P6.transT a8.px, a8.tab, l8, n8, r.mono (p6.e0.trans a8.px.e0), q8⟩
        | true =>
          rw [if_pos rfl] at q8 ⊢
          refine q8 ⟨H6, H06, c.T⟩ H08 H8 σ7 _ a8 ql6 fun yv yd ρ9 H09 H9 q9 a9 e9 r9 => ?_
          have l9 : H9 Dl = some (.lst us) := a9.px.e.lst l6
          have n9 : H09 Dl = none := a9.px.n Dl (known l6) n6
          have P9 : PX ⟨H1, H01, c.T⟩ H09 H9 := P6.transT a9.px
          exact ⟨us, l9, len_lt (by rw [r.length]; exact room), H09, e05.trans (p6.e0.trans a9.px.e0), us ++ [yv], acc ++ [yd], P9.change n9 hD, a9.tab.keep (tabD l9) (fun _ h _ => h), upd_same, n9, (r.mono (p6.e0.trans a9.px.e0)).append (.cons r9 .nil), q9⟩
      · have e : j = ds1.length := by omega
        subst e
        exact .inl ⟨stop1 H0' H' e05 p.i, H0', us, acc, p, tb, hl, h0, r, done1 acc hI⟩
  · have e : i = ds.length := by omega
    subst e
    have P := p.learn hl h0 hD
    have tb' : TabA c.T (upd H0' Dl (.lst us)) H' := tb.keep (fun _ _ h _ _ _ => h) fun q h1 ⟨ps, h2⟩ => by
      have hne : q ≠ Dl := fun z => by rw [z, hl] at h2; cases h2
      exact (upd_ne hne).trans h1
    refine .inl ⟨stop H0' H' p.e0 p.i, k _ (.lst acc) ρ1 _ H' (done acc hI) (a1.goT P tb') (e1.trans P.e0) (.lst upd_same (r.mono (Ex.new h0)))⟩
/-- [k x y for x in xs for y in ys x] -/
theorem wE_lc2M {α β : Type} {w : Wx} {ρ : Env'} {Φ : D → Env' → Prop} {wi wi1 : TI} {g g1 : TG} {te : TE} {vs vs1 : List Nat} (hon : Only g vs) (hon1 : Only g1 vs1) (f : α → D) (f1 : β → D) (ys : α → List β) (k : α → β → D)
    (h : wI w wi ρ fun ds ρ1 => ∃ xs : List α, ds = xs.map f ∧ (xs.flatMap ys).length ≤ 1000000 ∧ (∀ x ∈ xs, wG w.quiet g (f x) (wipeE (hide ρ1) vs) fun ρ2 => wI w.quiet wi1 ρ2 fun ds1 ρ4 => ds1 = (ys x).map f1 ∧
      ∀ y ∈ ys x, wG w.quiet g1 (f1 y) (wipeE (hide ρ4) vs1) fun ρ5 => wE w.quiet te ρ5 fun z _ => z = k x y) ∧ Φ (.lst (xs.flatMap fun x => (ys x).map (k x))) ρ1) : wE w (tLc2 wi g tYes wi1 g1 tYes te vs vs1) ρ Φ := by
  have lenEq : ∀ xs : List α, (xs.flatMap fun x => (ys x).map (k x)).length = (xs.flatMap ys).length := fun xs => by
    rw [List.length_flatMap, List.length_flatMap]
    refine congrArg List.sum (List.map_congr_left fun x _ => List.length_map _)
  refine wE_lc2 hon hon1 fun c H0 H σ R a x q => h c H0 H σ R a x fun J ds ρ' H0' H' ⟨xs, e, hz, step, fin⟩ => q J ds ρ' H0' H' ⟨fun i acc => acc = (xs.take i).flatMap fun x => (ys x).map (k x), rfl, fun i d acc hd hacc => ?_, fun acc hacc => ?_⟩
  · subst e
    obtain ⟨x, hx, rfl⟩ := get_map hd
    have en := take_next hx
    refine fun c H0 H σ v Q a l r k' => step x (mem_get hx) c H0 H σ v Q a l r fun ρ2 H01 H1 σ1 z => k' ρ2 H01 H1 σ1 (wT_yes (ifT ?_))
    refine fun c H0 H σ R a l k' => z c H0 H σ R a l fun J ds ρ' H0' H' ⟨ed, st⟩ => k' J ds ρ' H0' H' ⟨fun j acc1 => acc1 = acc ++ ((ys x).take j).map (k x), by simp, fun j d1 acc1 hd1 hacc1 => ?_, fun acc1 hacc1 => ?_⟩
    · subst ed
      obtain ⟨y, hy, rfl⟩ := get_map hd1
      refine ⟨?_, fun c H0 H σ v Q a l r k' => st y (mem_get hy) c H0 H σ v Q a l r fun ρ2 H01 H1 σ1 z => k' ρ2 H01 H1 σ1 (wT_yes (ifT (wE_mono z fun yd _ ey => ?_)))⟩
      · rw [hacc1, hacc, List.length_append, lenEq, List.length_map]
        have hj : j < (ys x).length := (List.getElem?_eq_some_iff.mp hy).1
        have h1 : ((xs.take i).flatMap ys).length + (ys x).length ≤ (xs.flatMap ys).length := by
          have : ((xs.take (i + 1)).flatMap ys).length ≤ (xs.flatMap ys).length := by
            conv => rhs; rw [← List.take_append_drop (i + 1) xs, List.flatMap_append, List.length_append]
            exact Nat.le_add_right _ _
          rw [en, List.flatMap_append, List.length_append] at this
          simpa using this
        have := List.length_take_le j (ys x)
        have h2 : ((ys x).take j).length = j := by rw [List.length_take]; omega
        omega
      · show acc1 ++ [yd] = _
        rw [hacc1, ey, take_next hy, List.map_append, List.append_assoc]
        rfl
    · subst ed
      rw [hacc1, hacc, en, List.flatMap_append, List.length_map, List.take_length]
      simp
  · subst e
    rw [hacc, List.length_map, List.take_length]
    exact fin
end DL
/-! DL52: calls of defs with keywords; sum. -/
namespace DL
open PySem PySem.Spec L2
open PyProof.Rows hiding St
/-! ### sum of a list or a tuple of ints -/
section
variable {prog : Program} {w : World} {A : Around} {E : Value → Shared → Prop} {s : Shared} {l : Addr} {its : List Value} {ns : List Int} {Q : Value → Shared → Prop}
theorem iter_intTup {xs : Array (Int × Tok)} (hl : s.heap.IsTuple l (intItems xs))
    (h : ∀ s₂ : Shared, s₂ = { s with heap := s.heap.push { cls := .type "tuple_iterator", data := .fields #[.ref l, .int 0 0] } } →
      (s₂.heap.IsTupleIter s.heap.objs.size l 0 ∧ s₂.heap.IsTuple l (intItems xs)) → (∀ b ∈ [s.heap.objs.size, l], b < s₂.heap.objs.size) → l ≠ s.heap.objs.size → Q (.ref s.heap.objs.size) s₂) :
    wpAny (model prog w) A (pyIter (.ref l)) Q E s := by
  have hlt : l < s.heap.objs.size := by obtain ⟨_, e, _⟩ := hl; exact Heap.lt_size e
  refine wpAny_pyIter_tuple hl (h _ rfl ⟨⟨_, Heap.get?_push_size _ rfl, rfl, rfl⟩, hl.push _⟩ (fun b hb => ?_) (Nat.ne_of_lt hlt))
  show b < (s.heap.push _).objs.size
  rw [Heap.size_push]
  rcases List.mem_cons.mp hb with rfl | hb
  · exact Nat.lt_succ_self _
  · rcases List.mem_cons.mp hb with rfl | hb
    · exact Nat.lt_succ_of_lt hlt
    · cases hb
theorem old_keptT {h' : Heap} (hk : ∀ b o, b ∉ [s.heap.objs.size] → (s.heap.push { cls := .type "tuple_iterator", data := .fields #[.ref l, .int 0 0] }).get? b = some o → h'.get? b = some o) :
    ∀ b o, s.heap.get? b = some o → h'.get? b = some o := fun b o e => by
  refine hk b o (fun hm => ?_) (Heap.get?_push_of_some _ e)
  rcases List.mem_cons.mp hm with e1 | hm
  · exact absurd (e1 ▸ Heap.lt_size e) (Nat.lt_irrefl _)
  · cases hm
theorem sum_rawT (hh : A.handled = none) (hl : s.heap.IsTuple l its.toArray) (hi : IntsAre its ns)
    (h : ∀ h' tk t', (∀ b o, s.heap.get? b = some o → h'.get? b = some o) → Q (.int ns.sum t') { s with heap := h', toks := tk }) : wpAny (model prog w) A (call (.builtin "sum") [.ref l]) Q E s := by
  obtain ⟨xs, e⟩ := hi.allInts.items
  have hn : numsOf (intItems xs).toList = ns := by rw [← e]; exact hi.numsOf
  rw [nums_intItems] at hn
  rw [e] at hl
  refine call_sum_walkG (iter_intTup hl fun s₂ e st hfp hlI => ?_)
  subst e
  refine ⟨_, _, _, _, _, _, numAt xs, rfl, Walks.tuple (A := A.in1) hh _ l hlI (intItems xs), st, hfp, (fun _ _ => intItems_at), fun h' tk t' hk => ?_⟩
  have := h h' tk t' (old_keptT hk)
  rw [show (intItems xs).size = xs.size by simp [intItems], preSum_eq, List.take_of_length_le (by simp), hn]
  exact this
end
def rSumT (K : PySem.W.Frag) : List V → Hp → VK → Prop := fun vs H Q => ∃ (a : Addr) (ns : List Int), vs = [V.ref a] ∧ SqT K H a (ns.map V.int) ∧ Q (.int ns.sum) H
theorem cr_sumT {X : Cx} (hc : X.calm = true) : CallR X (.builtin "sum") (rSumT X.K) := by
  intro pins s σ H vs us Q I r h
  obtain ⟨a, ns, rfl, hs, q⟩ := h
  obtain ⟨its, rv, hl, _⟩ := I.tuple hs
  rw [Vals.ref1 r]
  exact sum_rawT (I.ok.hd hc) hl rv.ints fun h' tk t' hk => ⟨.int _, H, I.kept hk, ⟨_, rfl⟩, q⟩
def rSumA (K : PySem.W.Frag) : List V → Hp → VK → Prop := fun vs H Q => rSum K vs H Q ∨ rSumT K vs H Q
theorem k_sumA {X : Cx} (K : PySem.W.Frag) (hc : X.calm = true) (h : X.K = K := by rfl) : CallR X (.builtin "sum") (rSumA K) := h ▸ CallR.or (cr_sum hc) (cr_sumT hc)
def sumG (ds : List D) (Φ : D → Prop) : Prop := ∃ ns : List Int, (ds = [.lst (ns.map .int)] ∨ ds = [.tup (ns.map .int)]) ∧ Φ (.int ns.sum)
theorem cbd_sum {K : PySem.W.Frag} : CbD K (rSumA K) sumG := fun H0 H xs ds Φ Q e rx ⟨ns, h, q⟩ k => by
  rcases h with h | h
  · subst h
    obtain ⟨v, rfl, r⟩ := vals_one rx
    cases r with
    | lst hp hr => rw [hr.ofInts] at hp; exact .inl ⟨_, ns, rfl, .inl (.inl (e _ _ hp)), fin0 e q (.int _) k⟩
  · subst h
    obtain ⟨v, rfl, r⟩ := vals_one rx
    cases r with
    | tup hp hr => rw [hr.ofInts] at hp; exact .inr ⟨_, ns, rfl, sqT_ex e hp, fin0 e q (.int _) k⟩
theorem sumG_t {ns : List Int} {Φ : D → Prop} (q : Φ (.int ns.sum)) : sumG [.tup (ns.map .int)] Φ := ⟨ns, .inr rfl, q⟩
theorem sumG_l {ns : List Int} {Φ : D → Prop} (q : Φ (.int ns.sum)) : sumG [.lst (ns.map .int)] Φ := ⟨ns, .inl rfl, q⟩
end DL
/-! DL53: the end of a law without lambdas that needs to know of sys. -/
/-! DL54: lcm, sorted(.., reverse=True) of ints, zip of two lists. -/
namespace DL
open PySem PySem.Spec L2
open PyProof.Rows hiding St
section
variable {prog : Program} {w : World} {A : Around} {E : Value → Shared → Prop} {s : Shared} {Q : Value → Shared → Prop} {a b : Int} {t u : Tok}
theorem lcm_one (a b : Nat) : (Nat.lcm 1 a).lcm b = Nat.lcm a b := by rw [Nat.lcm_one_left]
theorem lcm_run (ha : a.natAbs < 2 ^ 1000) (hb : b.natAbs < 2 ^ 1000) (h : Q (.int ((Nat.lcm a.natAbs b.natAbs : Nat) : Int) s.toks) { s with toks := s.toks + 1 }) : wpAny (model prog w) A (call (.builtin "math.lcm") [.int a t, .int b u]) Q E s := by
  have h1 : (max 1 a.natAbs).log2 ≤ 999 := PySem.W.mg_log (by
    show max 1 a.natAbs < 2 ^ 1000
    exact Nat.max_lt.mpr ⟨Nat.one_lt_two_pow (by decide), ha⟩)
  have h2 : (max a.natAbs b.natAbs).log2 ≤ 999 := PySem.W.mg_log (by
    show max a.natAbs b.natAbs < 2 ^ 1000
    exact Nat.max_lt.mpr ⟨ha, hb⟩)
  have e := lcm_one a.natAbs b.natAbs
  have hl : Nat.lcm a.natAbs b.natAbs ≤ a.natAbs * b.natAbs := Nat.div_le_self _ _
  have hm : a.natAbs * b.natAbs < 2 ^ 2000 := by
    have := Nat.mul_lt_mul'' ha hb
    rw [← Nat.pow_add] at this
    exact this
  have hsz : ((((Nat.lcm 1 a.natAbs).lcm b.natAbs : Nat) : Int)).natAbs.log2 < bitsLine := by
    rw [e, Int.natAbs_natCast]
    have := PySem.W.mg_log (n := Nat.lcm a.natAbs b.natAbs) (k := 1999) (Nat.lt_of_le_of_lt hl hm)
    exact Nat.lt_of_le_of_lt this (by decide)
  refine PySem.call_function_meets PySem.W.MGF.kind_lcm PySem.W.MGF.plain_lcm PySem.W.MGF.entry_lcm (PySem.W.MGF.args_lcm _ _) (PySem.W.mg_run_lcm a t b u (by omega) (by omega) hsz).meets ?_
  rw [e]
  exact h
end
def rLcm : List V → Hp → VK → Prop := fun vs H Q => ∃ a b : Int, vs = [.int a, .int b] ∧ a.natAbs < 2 ^ 1000 ∧ b.natAbs < 2 ^ 1000 ∧ Q (.int ((Nat.lcm a.natAbs b.natAbs : Nat) : Int)) H
theorem k_lcm {X : Cx} : CallR X (.builtin "math.lcm") rLcm := by
  intro pins s σ H vs us Q I r h
  obtain ⟨a, b, rfl, ha, hb, q⟩ := h
  obtain ⟨t, u, rfl⟩ := Vals.int2 r
  exact lcm_run ha hb ⟨.int _, H, I.tok _, ⟨_, rfl⟩, q⟩
def lcmG (ds : List D) (Φ : D → Prop) : Prop := ∃ a b : Int, ds = [.int a, .int b] ∧ a.natAbs < 2 ^ 1000 ∧ b.natAbs < 2 ^ 1000 ∧ Φ (.int ((Nat.lcm a.natAbs b.natAbs : Nat) : Int))
theorem cbd_lcm {K : PySem.W.Frag} : CbD K rLcm lcmG := fun H0 H xs ds Φ Q e rx ⟨a, b, h, ha, hb, q⟩ k => by
  subst h
  obtain ⟨v, c, rfl, r1, r2⟩ := vals_two rx
  cases r1
  cases r2
  exact ⟨a, b, rfl, ha, hb, fin0 e q (.int _) k⟩
theorem k_sortedRev {X : Cx} (K : PySem.W.Frag) (h : X.K = K := by rfl) : CallRK X (.builtin "sorted") [Str.ofString "reverse"] (rSortedKw K true [.bl true]) := h ▸ cr_sortedRev
theorem wE_sortRev {w : Wx} {ρ : Env'} {Φ : D → Env' → Prop} {t tk : TA} (h : wA w t ρ fun ds ρ1 => wA w tk ρ1 fun es ρ2 => es = [.bl true] ∧ ∃ ns : List Int, ds = [.lst (ns.map .int)] ∧ ∀ ns' : List Int, ns'.Perm ns → ns'.Pairwise (· ≥ ·) → Φ (.lst (ns'.map .int)) ρ2) :
    wE w (tCKw (rSortedKw w.K true [.bl true]) t tk) ρ Φ := fun c H0 H σ Q a x k =>
  h c H0 H σ _ a x fun vs ds ρ1 H01 H1 h1 a1 e1 r1 => h1 c H01 H1 σ _ a1 x fun zs es ρ2 H02 H2 ⟨ee, ns, ed, q⟩ a2 e2 r2 => by
    subst ee ed
    obtain ⟨v, rfl, r⟩ := vals_one r1
    obtain ⟨z, rfl, rz⟩ := vals_one r2
    cases rz
    cases r with
    | lst hp hr =>
      rw [hr.ofInts] at hp
      refine ⟨_, ns, rfl, rfl, .inl (.inl (a2.px.i _ _ (e2 _ _ hp))), fun ns' p h1 h2 hn => ?_⟩
      have y2 : PX ⟨H2, H02, []⟩ (upd H02 p (.lst (ns'.map V.int))) (upd H2 p (.lst (ns'.map V.int))) := (PX.refl a2.px.i).new hn
      exact k _ _ ρ2 _ _ (q ns' h1 h2) (a2.go y2) ((e1.trans e2).trans y2.e0) (.lst upd_same (RepAll.ints ns'))
theorem wI_zipL {w : Wx} {ρ : Env'} {ta : TA} {Φ : List D → Env' → Prop} (h : wA w ta ρ fun ds ρ1 => ∃ l1 l2, ds = [.lst l1, .lst l2] ∧ Φ (zipD l1 l2) ρ1) : wI w (RZ.iZipA w.K ta) ρ Φ := fun c H0 H σ R a x k =>
  h c H0 H σ _ a x fun vs ds ρ1 H01 H1 ⟨l1, l2, e, q⟩ a1 e1 r1 => by
    subst e
    cases r1 with
    | cons r rs =>
      cases rs with
      | cons r' rs =>
        cases rs
        cases r with
        | lst hp hr =>
          cases r' with
          | lst hp' hr' =>
            have hl : (zipD l1 l2).length = min l1.length l2.length := List.length_zipWith
            have sq : ∀ {H : Hp} {p : Addr} {us : List V}, H p = some (.lst us) → SqL w.K H p us := fun h => .inl (.inl h)
            refine ⟨_, _, _, _, rfl, .inl ⟨sq (a1.px.i _ _ hp), sq (a1.px.i _ _ hp'), k _ _ ρ1 H01 H1 q a1 e1 (fun i Ha Hb e j lt => ?_) (fun Ha Hb e j => ⟨_, _, sq ((e.trans j) _ _ hp), sq ((e.trans j) _ _ hp'), ?_⟩) (fun i Ha Hb x Hc e j lt y => ?_)⟩⟩
            · have h1 := hr.length
              have h2 := hr'.length
              exact ⟨_, _, _, _, sq ((e.trans j) _ _ hp), sq ((e.trans j) _ _ hp'), List.getElem?_eq_getElem (by omega), List.getElem?_eq_getElem (by omega)⟩
            · rw [hl, hr.length, hr'.length]; omega
            · obtain ⟨T, xv, yv, y1, y2, y3, y4, y5⟩ := y
              subst y1 y3
              obtain ⟨d, g1, g2⟩ := hr.getV (y4 _ (sq ((e.trans j) _ _ hp)))
              obtain ⟨d', g1', g2'⟩ := hr'.getV (y5 _ (sq ((e.trans j) _ _ hp')))
              have nx := (PX.refl (T := []) j).new (o := .tup [xv, yv]) y2
              refine ⟨.tup [d, d'], _, ?_, nx, .tup (.inl (.inl upd_same)) (.cons (g2.mono (e.trans nx.e0)) (.cons (g2'.mono (e.trans nx.e0)) .nil))⟩
              unfold zipD
              rw [List.getElem?_zipWith, g1, g1']
end DL
/-! DL55: a module's constant that is a tuple. -/
/-! DL56: x in t, t a tuple of plain data. -/
namespace DL
open PySem PySem.Spec L2
open PyProof.Rows hiding St
section
variable {X : Cx} {K : PySem.W.Frag}
theorem eqvAll_ints : ∀ a b : List Int, PyData.eqvAll (pyAll (a.map D.int)) (pyAll (b.map D.int)) = decide (a = b)
  | [], [] => by simp [pyAll, PyData.eqvAll]
  | [], _ :: _ => by simp [pyAll, PyData.eqvAll]
  | _ :: _, [] => by simp [pyAll, PyData.eqvAll]
  | x :: a, y :: b => by
    have ih := eqvAll_ints a b
    have e := eqv_i (a := x) (c := y)
    unfold D.eqv at e
    rw [List.map_cons, List.map_cons]
    simp only [pyAll, PyData.eqvAll, ih, e]
    rw [Bool.eq_iff_iff]
    simp
theorem eqv_ints (a b : List Int) : D.eqv (.tup (a.map D.int)) (.tup (b.map D.int)) = decide (a = b) := by
  unfold D.eqv
  simp only [D.py, PyData.eqv]
  exact eqvAll_ints a b
theorem shp_ints (a : List Int) : Shp 63 (.tup (a.map D.int)) := Shp.tup (n := 62) fun d hd => by
  obtain ⟨x, _, rfl⟩ := List.mem_map.mp hd
  exact Shp.int
end
end DL
/-! DL57: gcd; fractions in lowest terms. -/
namespace DL
open PySem PySem.Spec L2
open PyProof.Rows hiding St
theorem k_gcd {X : Cx} : CallR X (.builtin "math.gcd") rGcd := cr_gcd
def gcdG (ds : List D) (Φ : D → Prop) : Prop := ∃ a b : Int, ds = [.int a, .int b] ∧ Φ (.int ((Nat.gcd a.natAbs b.natAbs : Nat) : Int))
theorem cbd_gcd {K : PySem.W.Frag} : CbD K rGcd gcdG := fun H0 H xs ds Φ Q e rx ⟨a, b, h, q⟩ k => by
  subst h
  obtain ⟨v, c, rfl, r1, r2⟩ := vals_two rx
  cases r1
  cases r2
  exact ⟨a, b, rfl, fin0 e q (.int _) k⟩
def fracI (p : Int × Int) : Int × Int := (p.1 / (Nat.gcd p.1.natAbs p.2.natAbs : Nat), p.2 / (Nat.gcd p.1.natAbs p.2.natAbs : Nat))
theorem frac_nat {a b c d : Nat} (hb : 0 < b) (hd : 0 < d) (h : a * d = c * b) : a / Nat.gcd a b = c / Nat.gcd c d ∧ b / Nat.gcd a b = d / Nat.gcd c d := by
  have g1 : 0 < Nat.gcd a b := Nat.gcd_pos_of_pos_right _ hb
  have g2 : 0 < Nat.gcd c d := Nat.gcd_pos_of_pos_right _ hd
  obtain ⟨x, hx⟩ := Nat.gcd_dvd_left a b
  obtain ⟨y, hy⟩ := Nat.gcd_dvd_right a b
  obtain ⟨u, hu⟩ := Nat.gcd_dvd_left c d
  obtain ⟨v, hv⟩ := Nat.gcd_dvd_right c d
  have co1 := Nat.coprime_div_gcd_div_gcd g1
  have co2 := Nat.coprime_div_gcd_div_gcd g2
  have ex : a / Nat.gcd a b = x := by conv => lhs; arg 1; rw [hx]
                                      exact Nat.mul_div_cancel_left _ g1
  have ey : b / Nat.gcd a b = y := by conv => lhs; arg 1; rw [hy]
                                      exact Nat.mul_div_cancel_left _ g1
  have eu : c / Nat.gcd c d = u := by conv => lhs; arg 1; rw [hu]
                                      exact Nat.mul_div_cancel_left _ g2
  have ev : d / Nat.gcd c d = v := by conv => lhs; arg 1; rw [hv]
                                      exact Nat.mul_div_cancel_left _ g2
  rw [ex, ey] at co1
  rw [eu, ev] at co2
  rw [ex, ey, eu, ev]
  generalize Nat.gcd a b = g at *
  generalize Nat.gcd c d = k at *
  subst hx hy hu hv
  have h2 : x * v = u * y := by
    have e1 : g * x * (k * v) = (g * k) * (x * v) := by simp only [Nat.mul_assoc, Nat.mul_comm, Nat.mul_left_comm]
    have e2 : k * u * (g * y) = (g * k) * (u * y) := by simp only [Nat.mul_assoc, Nat.mul_comm, Nat.mul_left_comm]
    rw [e1, e2] at h
    exact Nat.eq_of_mul_eq_mul_left (Nat.mul_pos g1 g2) h
  have vy : v ∣ y := co2.symm.dvd_of_dvd_mul_left (by rw [← h2]; exact Nat.dvd_mul_left _ _)
  have yv : y ∣ v := co1.symm.dvd_of_dvd_mul_left (by rw [h2]; exact Nat.dvd_mul_left _ _)
  have e : y = v := Nat.dvd_antisymm yv vy
  subst e
  have y0 : 0 < y := Nat.pos_of_mul_pos_left hb
  exact ⟨Nat.eq_of_mul_eq_mul_right y0 h2, rfl⟩
theorem frac_eq {p q : Int × Int} (p1 : 0 ≤ p.1) (p2 : 1 ≤ p.2) (q1 : 0 ≤ q.1) (q2 : 1 ≤ q.2) (h : p.1 * q.2 = q.1 * p.2) : fracI p = fracI q := by
  obtain ⟨a, b⟩ := p
  obtain ⟨c, d⟩ := q
  obtain ⟨a, rfl⟩ := Int.eq_ofNat_of_zero_le p1
  obtain ⟨b, rfl⟩ := Int.eq_ofNat_of_zero_le (show 0 ≤ b by simp at p2; omega)
  obtain ⟨c, rfl⟩ := Int.eq_ofNat_of_zero_le q1
  obtain ⟨d, rfl⟩ := Int.eq_ofNat_of_zero_le (show 0 ≤ d by simp at q2; omega)
  have h' : a * d = c * b := by
    have h : (a : Int) * d = c * b := h
    exact_mod_cast h
  have p2 : (1 : Int) ≤ (b : Int) := p2
  have q2 : (1 : Int) ≤ (d : Int) := q2
  obtain ⟨e1, e2⟩ := frac_nat (by omega) (by omega) h'
  unfold fracI
  simp only [Int.natAbs_natCast]
  rw [← Int.natCast_ediv, ← Int.natCast_ediv, ← Int.natCast_ediv, ← Int.natCast_ediv, e1, e2]
end DL
/-! DL58: min, max of a list of ints. -/
namespace DL
open PySem PySem.Spec L2
open PyProof.Rows hiding St
theorem k_minL {X : Cx} (K : PySem.W.Frag) (hc : X.calm = true) (h : X.K = K := by rfl) : CallR X (.builtin "min") (rMin K) := h ▸ cr_min hc
theorem k_maxL {X : Cx} (K : PySem.W.Frag) (hc : X.calm = true) (h : X.K = K := by rfl) : CallR X (.builtin "max") (rMax K) := h ▸ cr_max hc
def minLG (ds : List D) (Φ : D → Prop) : Prop := ∃ ns : List Int, ds = [.lst (ns.map .int)] ∧ 0 < ns.length ∧ ∀ m ∈ ns, (∀ y ∈ ns, m ≤ y) → Φ (.int m)
def maxLG (ds : List D) (Φ : D → Prop) : Prop := ∃ ns : List Int, ds = [.lst (ns.map .int)] ∧ 0 < ns.length ∧ ∀ m ∈ ns, (∀ y ∈ ns, y ≤ m) → Φ (.int m)
theorem cbd_minL {K : PySem.W.Frag} : CbD K (rMin K) minLG := fun H0 H xs ds Φ Q e rx ⟨ns, h, hl, q⟩ k => by
  subst h
  obtain ⟨v, rfl, r⟩ := vals_one rx
  cases r with
  | lst hp hr => rw [hr.ofInts] at hp; exact ⟨_, ns, rfl, .inl (.inl (e _ _ hp)), hl, fun m hm hle => fin0 e (q m hm hle) (.int _) k⟩
theorem cbd_maxL {K : PySem.W.Frag} : CbD K (rMax K) maxLG := fun H0 H xs ds Φ Q e rx ⟨ns, h, hl, q⟩ k => by
  subst h
  obtain ⟨v, rfl, r⟩ := vals_one rx
  cases r with
  | lst hp hr => rw [hr.ofInts] at hp; exact ⟨_, ns, rfl, .inl (.inl (e _ _ hp)), hl, fun m hm hle => fin0 e (q m hm hle) (.int _) k⟩
theorem minLG_i {ns : List Int} {Φ : D → Prop} (hl : 0 < ns.length) (h : ∀ m ∈ ns, (∀ y ∈ ns, m ≤ y) → Φ (.int m)) : minLG [.lst (ns.map .int)] Φ := ⟨ns, rfl, hl, h⟩
theorem maxLG_i {ns : List Int} {Φ : D → Prop} (hl : 0 < ns.length) (h : ∀ m ∈ ns, (∀ y ∈ ns, y ≤ m) → Φ (.int m)) : maxLG [.lst (ns.map .int)] Φ := ⟨ns, rfl, hl, h⟩
end DL
/-! DL59: sorted(list of tuples of ints); a, b = list(range(n)), []. -/
/-! DL60: while; dicts whose keys are ints: comprehensions, d[i]. -/
namespace DL
open PySem PySem.Spec L2
open PyProof.Rows hiding St
theorem wS_while {w : Wx} {E : DE} {ρ : Env'} {tc : TT} {tb : TS} (I : Nat → Env' → Prop) (h0 : ∃ m, I m ρ)
    (step : ∀ m ρ, I m ρ → wT w tc ρ fun b ρ1 => if b = true then wS w tb { nx := fun ρ' => ∃ m', m' < m ∧ I m' ρ', ct := fun ρ' => ∃ m', m' < m ∧ I m' ρ', bk := E.nx, rt := E.rt, ro := E.ro } ρ1 else E.nx ρ1) : wS w (tWhile tc tb) E ρ := fun c Dn H0 H σ a x l => by
  obtain ⟨m0, i0⟩ := h0
  refine ⟨fun m σ H => ∃ ρ H0, I m ρ ∧ At w.K c ρ H0 H σ, ⟨m0, ρ, H0, i0, a⟩, fun m σ H ⟨ρ, H0, hI, a⟩ => step m ρ hI c H0 H σ _ a x fun b ρ1 H01 H1 q a1 e1 => ?_⟩
  cases b with
  | false =>
    rw [if_neg Bool.false_ne_true] at q ⊢
    exact l.nx _ _ _ _ q a1
  | true =>
    rw [if_pos rfl] at q ⊢
    exact ⟨fun σ' H' => ∃ m', m' < m ∧ ∃ ρ' H0', I m' ρ' ∧ At w.K c ρ' H0' H' σ', fun σ' H' ⟨m', l, r⟩ => ⟨m', l, r⟩, q c _ H01 H1 σ a1 x ⟨fun ρ' H0' H' σ' ⟨m', lt, i⟩ a' => ⟨m', lt, ρ', H0', i, a'⟩, l.rt, l.ro, l.nx, fun ρ' H0' H' σ' ⟨m', lt, i⟩ a' => ⟨m', lt, ρ', H0', i, a'⟩⟩⟩
theorem RepIV.append {K : PySem.W.Frag} {H : Hp} : ∀ {vs ws : List (Int × V)} {ds es : List (Int × D)}, RepIV K H vs ds → RepIV K H ws es → RepIV K H (vs ++ ws) (ds ++ es)
  | _, _, _, _, .nil, h => h
  | _, _, _, _, .cons h hs, h' => .cons h (hs.append h')
theorem RepIV.length {K : PySem.W.Frag} {H : Hp} : ∀ {vs : List (Int × V)} {ds : List (Int × D)}, RepIV K H vs ds → vs.length = ds.length
  | _, _, .nil => rfl
  | _, _, .cons _ h => by simp [h.length]
theorem RepIV.keys {K : PySem.W.Frag} {H : Hp} : ∀ {vs : List (Int × V)} {ds : List (Int × D)}, RepIV K H vs ds → vs.map (·.1) = ds.map (·.1)
  | _, _, .nil => rfl
  | _, _, .cons _ h => by simp [h.keys]
theorem RepIV.lookup {K : PySem.W.Frag} {H : Hp} {i : Int} : ∀ {vs : List (Int × V)} {ds : List (Int × D)} {z : D}, RepIV K H vs ds → ds.lookup i = some z → ∃ v, valV (vs.map fun p => ((Sum.inl p.1 : Key), p.2)) (Sum.inl i) = some v ∧ Rep K H v z
  | _, _, _, .nil, e => by simp at e
  | _, _, z, .cons (k := k) (v := v) h hs, e => by
    rw [List.lookup_cons] at e
    by_cases q : i = k
    · subst q
      rw [beq_self_eq_true] at e
      cases e
      exact ⟨v, by unfold valV; rw [List.map_cons, List.find?_cons_of_pos (by simp)]; rfl, h⟩
    · rw [beq_eq_false_iff_ne.mpr q] at e
      obtain ⟨u, h1, h2⟩ := hs.lookup e
      refine ⟨u, ?_, h2⟩
      unfold valV at h1 ⊢
      rw [List.map_cons, List.find?_cons_of_neg (by simp; exact fun z => q z.symm)]
      exact h1
/-- d[i] -/
theorem wE_dgetI {w : Wx} {ρ : Env'} {Φ : D → Env' → Prop} {td ty : TE} (h : wE w td ρ fun d ρ1 => wE w ty ρ1 fun y ρ2 => ∃ l i z, d = .dik l ∧ y = .int i ∧ l.lookup i = some z ∧ Φ z ρ2) : wE w (tDGet td ty) ρ Φ := fun c H0 H σ Q a x k =>
  h c H0 H σ _ a x fun v d ρ1 H01 H1 h1 a1 e1 r1 => h1 c H01 H1 σ _ a1 x fun u y ρ2 H02 H2 ⟨l, i, z, ed, ey, hl, q⟩ a2 e2 r2 => by
    subst ed ey
    cases r2
    cases r1 with
    | dik hp hr =>
      obtain ⟨v, h1, h2⟩ := hr.lookup hl
      refine ⟨_, v, rfl, .inl ⟨_, Sum.inl i, .inl (a2.px.i _ _ (e2 _ _ hp)), rfl, h1.symm⟩, k v z ρ2 H02 H2 q a2 (e1.trans e2) (h2.mono e2)⟩
theorem ExN.dk {T : List (Addr × Str)} {H H' : Hp} {a : Addr} {us : List (Key × V)} (x : ExN T H H') (h : H a = some (.dK us)) : H' a = some (.dK us) := (x a _ h).elim id fun ⟨_, _, _, e, _⟩ => nomatch e
theorem putK_new {us : List (Int × V)} {k : Int} {v : V} (h : k ∉ us.map (·.1)) : putK (us.map fun p => ((Sum.inl p.1 : Key), p.2)) (Sum.inl k) v = (us ++ [(k, v)]).map fun p => ((Sum.inl p.1 : Key), p.2) := by
  unfold putK
  rw [if_neg, List.map_append]
  · rfl
  · rw [List.any_eq_true]
    rintro ⟨x, hx, e⟩
    obtain ⟨y, hy, rfl⟩ := List.mem_map.mp hx
    rw [decide_eq_true_eq] at e
    exact h (List.mem_map.mpr ⟨y, hy, Sum.inl.inj e⟩)
/-- {k x: v x for x in xs}, keys ints, each once -/
theorem wE_dcM {α : Type} {w : Wx} {ρ : Env'} {Φ : D → Env' → Prop} {wi : TI} {g : TG} {tk tv : TE} {vs : List Nat} (hon : Only g vs) (f : α → D) (kf : α → Int) (vf : α → D)
    (h : wI w wi ρ fun ds ρ1 => ∃ xs : List α, ds = xs.map f ∧ xs.length ≤ 1000000 ∧ (xs.map kf).Nodup ∧ (∀ x ∈ xs, wG w.quiet g (f x) (wipeE (hide ρ1) vs) fun ρ2 => wE w.quiet tk ρ2 fun y ρ3 => y = .int (kf x) ∧ wE w.quiet tv ρ3 fun z _ => z = vf x) ∧
      Φ (.dik (xs.map fun x => (kf x, vf x))) ρ1) : wE w (tDc wi g tYes tk tv vs) ρ Φ := fun c H0 H σ Q a x k => by
  refine h c H0 H σ _ a x fun J ds ρ1 H01 H1 ⟨xs, eds, hz, hnd, step, done⟩ a1 e1 go stop yld => ?_
  subst eds
  rw [List.length_map] at go stop
  intro Dl hD
  have hD0 : H01 Dl = none := a1.px.i.back hD
  let dk : List (Int × V) → HO := fun us => .dK (us.map fun p => ((Sum.inl p.1 : Key), p.2))
  refine ⟨fun i m H' => m = xs.length - i ∧ i ≤ xs.length ∧ ∃ H0' us, PX ⟨H1, H01, c.T⟩ H0' H' ∧ TabA c.T H0' H' ∧ H' Dl = some (dk us) ∧ H0' Dl = none ∧ RepIV w.K H0' us ((xs.take i).map fun x => (kf x, vf x)),
    ⟨_, rfl, Nat.zero_le _, H01, [], (PX.refl a1.px.i).change hD0 hD, a1.tab.keep (ext_both (Ex.new hD)) (fun _ h _ => h), upd_same, hD0, .nil⟩, ?_⟩
  rintro i m H' ⟨rfl, hi, H0', us, p, tb, hl, h0, r⟩
  have known : ∀ {H : Hp} {us : List (Int × V)}, H Dl = some (dk us) → H Dl ≠ none := fun e z => by rw [e] at z; cases z
  have tabD : ∀ {H : Hp} {us : List (Int × V)} {us' : List (Key × V)}, H Dl = some (dk us) → ∀ b o, H b = some o → (∀ xs, o ≠ .lst xs) → (∀ xs, o ≠ .dK xs) → (∀ C dx xs, o ≠ .ins C dx xs) → upd H Dl (.dK us') b = some o := fun {H us us'} e b o hb _ n2 _ => by
    have hne : b ≠ Dl := fun z => by
      rw [z, e] at hb
      cases hb
      exact n2 _ rfl
    exact (upd_ne hne).trans hb
  by_cases hlt : i < xs.length
  · have hx := List.getElem?_eq_getElem hlt
    have hxm := List.getElem_mem hlt
    generalize xs[i] = xi at hx hxm
    have en := take_next hx
    refine .inr ⟨go i H0' H' p.e0 p.i hlt, fun H'' => ∃ H0' us, PX ⟨H1, H01, c.T⟩ H0' H'' ∧ TabA c.T H0' H'' ∧ H'' Dl = some (dk us) ∧ H0' Dl = none ∧ RepIV w.K H0' us ((xs.take (i + 1)).map fun x => (kf x, vf x)),
      fun H'' ⟨H0', us, q⟩ => ⟨xs.length - (i + 1), by omega, rfl, hlt, H0', us, q⟩, fun v H2 y => ?_⟩
    obtain ⟨d, H02, hd, p2, r2⟩ := yld i H0' H' v H2 p.e0 p.i (by rw [List.length_map]; exact hlt) y
    have hd' : d = f xi := by
      rw [List.getElem?_map, hx] at hd
      exact (Option.some.inj hd).symm
    subst hd'
    have P2 := p.trans p2
    have l2 : H2 Dl = some (dk us) := p2.ex _ _ hl
    have n2 : H02 Dl = none := p2.n Dl (known hl) h0
    have tb2 : TabA c.T H02 H2 := tb.keep (ext_both p2.ex) fun q h1 ⟨ps, h2⟩ => p2.n q (by show H' q ≠ none; rw [h2]; exact nofun) h1
    have aw : At w.quiet.K ⟨H2, H02, c.T⟩ (wipeE (hide ρ1) vs) H02 H2 (wipe σ vs) := ((a1.goT P2 tb2).freshT).wiped vs
    have ql : XLink w.quiet ⟨H2, H02, c.T⟩ := quiet_link x.t
    refine only_use hon ?_
    refine step xi hxm ⟨H2, H02, c.T⟩ H02 H2 (wipe σ vs) v _ aw ql r2 fun ρ3 H03 H3 σ3 q3 a3 e3 => ?_
    show tk σ3 H3 _
    refine q3 ⟨H2, H02, c.T⟩ H03 H3 σ3 _ a3 ql fun yv yd ρ4 H04 H4 ⟨ey, q4⟩ a4 e4 r4 => ?_
    subst ey
    cases r4
    refine q4 ⟨H2, H02, c.T⟩ H04 H4 σ3 _ a4 ql fun zv zd ρ5 H05 H5 ez a5 e5 r5 => ?_
    subst ez
    have l5 : H5 Dl = some (dk us) := a5.px.e.dk l2
    have n5 : H05 Dl = none := a5.px.n Dl (known l2) n2
    have P5 : PX ⟨H1, H01, c.T⟩ H05 H5 := P2.transT a5.px
    have fresh : kf xi ∉ us.map (·.1) := by
      rw [r.keys, List.map_map]
      intro hm
      obtain ⟨z, hz, e⟩ := List.mem_map.mp hm
      obtain ⟨j, hj⟩ := List.getElem?_of_mem hz
      have hji : j < i := by have := (List.getElem?_eq_some_iff.mp hj).1; rw [List.length_take] at this; omega
      rw [List.getElem?_take_of_lt hji] at hj
      have h1 : (xs.map kf)[j]? = some (kf xi) := by rw [List.getElem?_map, hj]; exact congrArg some e
      have h2 : (xs.map kf)[i]? = some (kf xi) := by rw [List.getElem?_map, hx]; rfl
      have := nodup_inj hnd h1 h2
      omega
    refine ⟨_, Sum.inl (kf xi), rfl, l5, len_lt (by rw [List.length_map, r.length, List.length_map, List.length_take]; omega), H05, us ++ [(kf xi, zv)], ?_⟩
    rw [putK_new fresh]
    refine ⟨P5.change n5 hD, a5.tab.keep (tabD l5) (fun _ h _ => h), upd_same, n5, ?_⟩
    rw [en, List.map_append]
    exact (r.mono (p2.e0.trans a5.px.e0)).append (.cons r5 .nil)
  · have e : i = xs.length := by omega
    subst e
    have P := p.learn hl h0 hD
    have tb' : TabA c.T (upd H0' Dl (dk us)) H' := tb.keep (fun _ _ h _ _ _ => h) fun q h1 ⟨ps, h2⟩ => by
      have hne : q ≠ Dl := fun z => by rw [z, hl] at h2; cases h2
      exact (upd_ne hne).trans h1
    rw [List.take_length] at r
    exact .inl ⟨stop H0' H' p.e0 p.i, k _ _ ρ1 _ H' done (a1.goT P tb') (e1.trans P.e0) (.dik upd_same (r.mono (Ex.new h0)))⟩
end DL
/-! DL61: a dict of one's own whose keys are pairs of an int and a tuple of ints. -/
namespace DL
open PySem PySem.Spec L2
open PyProof.Rows hiding St
theorem kyN_inj : ∀ {k k' : Ky}, kyN k = kyN k' → k = k' := by
  have nums : ∀ {a b : List Int}, a.map NestedKey.num = b.map NestedKey.num → a = b := by
    intro a
    induction a with
    | nil => intro b h; cases b with
      | nil => rfl
      | cons _ _ => cases h
    | cons x a ih => intro b h; cases b with
      | nil => cases h
      | cons y b =>
        rw [List.map_cons, List.map_cons, List.cons.injEq] at h
        rw [NestedKey.num.inj h.1, ih h.2]
  intro k k' h
  unfold kyN at h
  have h := NestedKey.tup.inj h
  rw [List.cons.injEq, List.cons.injEq] at h
  exact Prod.ext (NestedKey.num.inj h.1) (nums (NestedKey.tup.inj h.2.1))
abbrev rawK (xs : List (Ky × Addr × Addr)) : List (NestedKey × Addr × Value) := xs.map fun x => (kyN x.1, x.2.1, Value.ref x.2.2)
theorem atKey_raw (k : Ky) : ∀ xs : List (Ky × Addr × Addr), atKey (rawK xs) (kyN k) = (xs.find? fun x => decide (x.1 = k)).map fun x => (x.2.1, Value.ref x.2.2)
  | [] => rfl
  | x :: xs => by
    have ih := atKey_raw k xs
    unfold atKey at ih ⊢
    unfold rawK at ih ⊢
    rw [List.map_cons]
    by_cases h : x.1 = k
    · rw [List.find?_cons_of_pos (by simp [h]), List.find?_cons_of_pos (by simp [h])]
      rfl
    · rw [List.find?_cons_of_neg (by simp; exact fun z => h (kyN_inj z)), List.find?_cons_of_neg (by simp [h])]
      exact ih
section
variable {X : Cx} {pins : List (Addr × Obj)} {σ : St} {H : Hp} {s : Shared}
theorem nest_ints {h : Heap} : ∀ {ns : List Int} {its : List Value}, Vals (ns.map V.int) its → NestedAll h (ns.map .num) its
  | [], _, .nil => .nil
  | n :: ns, _, .cons r rs => by
    obtain ⟨t, rfl⟩ := r
    exact .cons (.int _ _) (nest_ints rs)
theorem depth_ky (k : Ky) : (kyN k).depth ≤ 8 := by
  have h : ∀ ns : List Int, NestedKey.depthAll (ns.map .num) ≤ 1 := by
    intro ns
    induction ns with
    | nil => decide
    | cons n ns ih => simp [NestedKey.depthAll, NestedKey.depth] at ih ⊢; omega
  have := h k.2
  simp [kyN, NestedKey.depth, NestedKey.depthAll] at this ⊢
  omega
theorem key_is (I : Inv X pins σ H s) {k : Ky} {a : Addr} (h : KyAt X.K H k a) : (nestedKind X.prog X.w).is s.heap (kyN k) a := by
  obtain ⟨a2, h1, h2⟩ := h
  obtain ⟨i1, r1, t1, _⟩ := I.tuple h1
  obtain ⟨i2, r2, t2, _⟩ := I.tuple h2
  obtain ⟨o1, g1, c1, n1, d1⟩ := t1
  obtain ⟨o2, g2, c2, n2, d2⟩ := t2
  refine ⟨.tup g1 c1 d1 ?_, depth_ky k⟩
  rw [List.toList_toArray]
  cases r1 with
  | cons r rs =>
    obtain ⟨t, rfl⟩ := r
    cases rs with
    | cons r rs =>
      cases r
      cases rs
      refine .cons (.int _ _) (.cons (.tup g2 c2 d2 ?_) .nil)
      rw [List.toList_toArray]
      exact nest_ints r2
theorem kd_of (I : Inv X pins σ H s) {p : Addr} {xs : List (Ky × Addr × Addr)} (h : H p = some (KdO X.prog X.w p xs)) (hk : ∀ e ∈ xs, KyAt X.K H e.1 e.2.1) : (p == sysModules) = false ∧ s.heap.DictOfH (nestedKind X.prog X.w) p (rawK xs) := by
  have ⟨⟨hs, o, es, ep, h1, h2, h3, h4, h5⟩, _, _⟩ := I.hok p _ h
  refine ⟨hs, o, es, ep, h1, h2, h3, h4, fun y hy => ?_, ?_⟩
  · obtain ⟨e, he, rfl⟩ := List.mem_map.mp hy
    exact key_is I (hk e he)
  · unfold rawK
    rw [List.map_map, List.nodup_iff_pairwise_ne, List.pairwise_map]
    rw [List.nodup_iff_pairwise_ne, List.pairwise_map] at h5
    exact h5.imp fun {a b} h e => h (kyN_inj e)
theorem kd_new {P : Program} {w : World} {H : Hp} {h : Heap} {p : Addr} {xs : List (Ky × Addr × Addr)} (hs : (p == sysModules) = false) (hd : h.DictOfH (nestedKind P w) p (rawK xs)) : ObjOk P w H h p (KdO P w p xs) := by
  obtain ⟨o, es, ep, h1, h2, h3, h4, _, h5⟩ := hd
  have h6 : (xs.map (·.1)).Nodup := by
    unfold rawK at h5
    rw [List.map_map, List.nodup_iff_pairwise_ne, List.pairwise_map] at h5
    rw [List.nodup_iff_pairwise_ne, List.pairwise_map]
    exact h5.imp fun {a b} h e => h (by show kyN _ = kyN _; rw [e])
  exact ⟨⟨hs, o, es, ep, h1, h2, h3, h4, h6⟩, ⟨o, h1⟩, fun h1' h2' ⟨a, o', es', ep', b, c⟩ k => ⟨a, o', es', ep', k o' b, c⟩⟩
end
section
variable {X : Cx} {K : PySem.W.Frag}
/-- {} for such keys -/
def tDNewN (P : Program) (w : World) : TE := fun _ H Q => ∀ p, H p = none → Q (.ref p) (upd H p (KdO P w p []))
theorem pe_dnewN {pos : Pos} : PE X (.Dict [] [] pos) (tDNewN X.prog X.w) := ⟨fun pins s σ H Q I h =>
  wpAny_Dict_empty ⟨.ref s.heap.objs.size, _, I.laid (a := s.heap.objs.size) (o := KdO X.prog X.w s.heap.objs.size []) (t' := s.toks) (fun _ _ q => Heap.get?_push_of_some _ q) (Nat.le_refl _) (kd_new (beq_eq_false_iff_ne.mpr (Nat.ne_of_gt I.big)) (Heap.DictOfH.new s.heap)), rfl, h _ (I.hok.fresh (Nat.le_refl _))⟩⟩
/-- k not in d -/
def rKdNot (K : PySem.W.Frag) (P : Program) (w : World) : R2 := fun x y H Q => ∃ (p a : Addr) (k : Ky) (xs : List (Ky × Addr × Addr)), x = .ref a ∧ y = .ref p ∧ H p = some (KdO P w p xs) ∧ KyAt K H k a ∧ (∀ e ∈ xs, KyAt K H e.1 e.2.1) ∧ Q (.bl (!(xs.find? fun e => decide (e.1 = k)).isSome)) H
theorem op_kdNot (hu : X.A.units + 64 < cLine) : OpR X (compareOp .NotIn) (rKdNot X.K X.prog X.w) := by
  intro pins s σ H x y v u Q I rx ry ⟨p, a, k, xs, ex, ey, hp, ha, hk, q⟩
  subst ex ey
  cases rx; cases ry
  obtain ⟨hs, hd⟩ := kd_of I hp hk
  refine wpAny_notIn_heap (show X.A.units + 1 + 8 < cLine by omega) (key_is I ha) hs hd ⟨.bl _, H, I.tok _, ?_, q⟩
  rw [atKey_raw, Option.isSome_map]
  rfl
theorem k_kdNot (K : PySem.W.Frag) {j : Nat} (room : RoomG j X.A) (h : X.K = K := by rfl) : OpR X (compareOp .NotIn) (rKdNot K X.prog X.w) := h ▸ op_kdNot (hu64 room)
/-- d[k] -/
def tKdGet (K : PySem.W.Frag) (P : Program) (w : World) (td ty : TE) : TE := fun σ H Q => td σ H fun x H1 => ty σ H1 fun y H2 => ∃ (p a b : Addr) (k : Ky) (xs : List (Ky × Addr × Addr)) (e : Ky × Addr × Addr), x = .ref p ∧ y = .ref a ∧ H2 p = some (KdO P w p xs) ∧ KyAt K H2 k a ∧ (∀ e ∈ xs, KyAt K H2 e.1 e.2.1) ∧ (xs.find? fun e => decide (e.1 = k)) = some e ∧ Q (.ref e.2.2) H2
theorem pe_kdGet {o i : Expr} {pos : Pos} {td ty : TE} (hu : X.A.units + 64 < cLine) (ho : PE X o td) (hi : PE X i ty) (hs : NoSl i) : PE X (.Subscript o i pos) (tKdGet X.K X.prog X.w td ty) := by
  refine ⟨fun pins s σ H Q I h => ?_⟩
  refine subD_of PySem.F.slot_dict_getitem.lookup hs (thn (ho.run pins s σ H _ I h) fun u s1 ⟨x, H1, I1, rx, q1⟩ => thn (hi.run pins s1 σ H1 _ I1 q1) fun iv s2 ⟨y, H2, I2, ry, p, a, b, k, xs, e, ex, ey, hp, ha, hk, he, q⟩ => ?_)
  subst ex ey
  cases (show u = Value.ref p from rx)
  cases (show iv = Value.ref a from ry)
  obtain ⟨_, hd⟩ := kd_of I2 hp hk
  refine ⟨hd.typeIs, wpAny_getItem_heap (p := (e.2.1, Value.ref e.2.2)) (show X.A.units + 1 + 8 < cLine by omega) (key_is I2 ha) hd (by rw [atKey_raw, he]; rfl) ⟨.ref e.2.2, H2, I2.tok _, rfl, q⟩⟩
theorem k_kdGet (K : PySem.W.Frag) {o i : Expr} {pos : Pos} {td ty : TE} {j : Nat} (room : RoomG j X.A) (ho : PE X o td) (hi : PE X i ty) (hs : NoSl i) (h : X.K = K := by rfl) : PE X (.Subscript o i pos) (tKdGet K X.prog X.w td ty) := h ▸ pe_kdGet (hu64 room) ho hi hs
/-- d[k] = v, k new -/
def rKdSet (K : PySem.W.Frag) (P : Program) (w : World) : TSet := fun o i v H Q => ∃ (p a b : Addr) (k : Ky) (xs : List (Ky × Addr × Addr)), o = .ref p ∧ i = .ref a ∧ v = .ref b ∧ H p = some (KdO P w p xs) ∧ KyAt K H k a ∧ (∀ e ∈ xs, KyAt K H e.1 e.2.1) ∧ (xs.find? fun e => decide (e.1 = k)) = none ∧ xs.length ≤ sizeLine ∧ Q (upd H p (KdO P w p (xs ++ [(k, a, b)])))
theorem set_kd (hu : X.A.units + 64 < cLine) : PSet X (rKdSet X.K X.prog X.w) := by
  intro pins s σ H o i v ov iv u Q I ro ri rv ⟨p, a, b, k, xs, eo, ei, ev, hp, ha, hk, hn, hz, q⟩
  subst eo ei ev
  cases ro; cases ri; cases rv
  obtain ⟨hs, hd⟩ := kd_of I hp hk
  refine wpAny_setItem_heap (show X.A.units + 1 + 8 < cLine by omega) (key_is I ha) hd (fun h' hm hb => ?_) (by unfold rawK; rw [List.length_map]; exact hz)
  have en : storedH (rawK xs) (kyN k) a (.ref b) = rawK (xs ++ [(k, a, b)]) := by
    rw [storedH_new (by rw [atKey_raw, hn]; rfl)]
    unfold rawK
    rw [List.map_append]
    rfl
  rw [en] at hm
  refine ⟨_, d_write I (by rw [hp]; trivial) hb (let ⟨o, _, _, ho, _⟩ := hm; ⟨o, ho⟩) (kd_new hs hm), q⟩
theorem k_setKd (K : PySem.W.Frag) {j : Nat} (room : RoomG j X.A) (h : X.K = K := by rfl) : PSet X (rKdSet K X.prog X.w) := h ▸ set_kd (hu64 room)
end
/-! over data -/
def kyD (k : Ky) : D := .tup [.int k.1, .tup (k.2.map .int)]
theorem ky_rep {K : PySem.W.Frag} {H : Hp} {v : V} {k : Ky} (r : Rep K H v (kyD k)) : ∃ a, v = .ref a ∧ KyAt K H k a := by
  unfold kyD at r
  cases r with
  | tup hs hr =>
    cases hr with
    | cons r1 rr =>
      cases rr with
      | cons r2 rr =>
        cases rr
        cases r1
        cases r2 with
        | tup h2 hr2 => rw [hr2.ofInts] at h2; exact ⟨_, rfl, _, hs, h2⟩
section
variable {K : PySem.W.Frag} {H H' : Hp}
theorem RepNV.all : ∀ {xs : List (Ky × Addr × Addr)} {ds : List (Ky × D)}, RepNV K H xs ds → ∀ e ∈ xs, KyAt K H e.1 e.2.1
  | _, _, .nil, e, h => by cases h
  | _, _, .cons hk _ hs, e, h => by
    rcases List.mem_cons.mp h with rfl | h
    · exact hk
    · exact hs.all e h
theorem RepNV.length : ∀ {xs : List (Ky × Addr × Addr)} {ds : List (Ky × D)}, RepNV K H xs ds → xs.length = ds.length
  | _, _, .nil => rfl
  | _, _, .cons _ _ h => by simp [h.length]
theorem RepNV.find (k : Ky) : ∀ {xs : List (Ky × Addr × Addr)} {ds : List (Ky × D)}, RepNV K H xs ds → (∀ z, ds.lookup k = some z → ∃ e, xs.find? (fun e => decide (e.1 = k)) = some e ∧ Rep K H (.ref e.2.2) z) ∧ (ds.lookup k = none → xs.find? (fun e => decide (e.1 = k)) = none)
  | _, _, .nil => ⟨fun z h => by simp at h, fun _ => rfl⟩
  | _, _, .cons (k := k') (a := a) (b := b) hk r hs => by
    have ih := hs.find k
    by_cases h : k' = k
    · subst h
      rw [List.lookup_cons, beq_self_eq_true]
      exact ⟨fun z e => by cases e; exact ⟨_, List.find?_cons_of_pos (by simp), r⟩, fun e => by cases e⟩
    · rw [List.lookup_cons, beq_eq_false_iff_ne.mpr (fun z => h z.symm), List.find?_cons_of_neg (by simpa using h)]
      exact ih
theorem RepNV.append : ∀ {xs ys : List (Ky × Addr × Addr)} {ds es : List (Ky × D)}, RepNV K H xs ds → RepNV K H ys es → RepNV K H (xs ++ ys) (ds ++ es)
  | _, _, _, _, .nil, h => h
  | _, _, _, _, .cons hk r hs, h => .cons hk r (hs.append h)
end
section
variable {w : Wx} {ρ : Env'} {P : Program} {w0 : World}
theorem At.setOwnT {K : PySem.W.Frag} {c : Ctx} {H0 H : Hp} {σ : St} {p : Addr} {o : HO} {ds : D} (a : At K c ρ H0 H σ) (hp : H p = none) (r : RepO K H0 o ds) (i : Nat) : At K c (ρ.set i (some (.own (some p) ds))) H0 (upd H p o) (σ.set i (some (.ref p))) := by
  obtain ⟨os, s, nd, f⟩ := a.sl
  have h0 : H0 p = none := a.px.i.back hp
  have hc : c.He p = none := a.px.e.back hp
  have own : p ∉ os := fun hm => s.known p hm hp
  have s1 : Slots K H0 (upd H p o) ρ σ os := s.mono (.refl _) fun q hq => upd_ne fun e => own (e ▸ hq)
  obtain ⟨os', s', h1, h2⟩ := s1.setOwn (t := some p) (fun q z => Option.some.inj z) upd_same r i
  exact ⟨a.px.change h0 hc, a.tab.keep (ext_both (Ex.new hp)) fun _ h _ => h, os', s', h2 nd own, fun q hq => (h1 q hq).elim (fun e => e ▸ ⟨h0, hc⟩) (f q)⟩
/-- d = {} -/
theorem wS_asgKd {E : DE} {i : Nat} (h : ∀ p, E.nx (ρ.set i (some (.own (some p) (.kd P w0 p []))))) : wS w (tAsg (tDNewN P w0) (gName i)) E ρ := fun c Dn H0 H σ a x l =>
  fun p hp => l.nx _ _ _ _ (h p) (a.setOwnT hp (.kd .nil) i)
theorem own_kd {K : PySem.W.Frag} {H0 : Hp} {o : HO} {p : Addr} {l : List (Ky × D)} (r : RepO K H0 o (.kd P w0 p l)) : ∃ xs, o = KdO P w0 p xs ∧ RepNV K H0 xs l := by
  cases r with
  | kd h => exact ⟨_, rfl, h⟩
/-- k not in d -/
theorem wE_kdNot {i : Nat} {te : TE} {Φ : D → Env' → Prop} (h0 : ∃ p l, ρ[i]? = some (some (.own (some p) (.kd P w0 p l)))) (h : wE w te ρ fun d ρ1 => ∃ k p l, d = kyD k ∧ ρ1[i]? = some (some (.own (some p) (.kd P w0 p l))) ∧ Φ (.bl (!(l.lookup k).isSome)) ρ1) : wE w (tOp (rKdNot w.K P w0) te (tVar i)) ρ Φ := fun c H0 H σ Q a x k' =>
  h c H0 H σ _ a x fun v d ρ1 H01 H1 ⟨k, p, l, ed, g, q⟩ a1 e1 r1 => by
    subst ed
    obtain ⟨av, rfl, hk⟩ := ky_rep r1
    obtain ⟨p', o, h1, h2, h3, ht, r⟩ := a1.own g
    obtain rfl := ht p rfl
    obtain ⟨xs, rfl, rn⟩ := own_kd r
    refine ⟨_, h1, _, av, k, xs, rfl, rfl, h2, kyAt_ex a1.px.i hk, fun e he => kyAt_ex a1.px.i (rn.all e he), ?_⟩
    have eb : (xs.find? fun e => decide (e.1 = k)).isSome = (l.lookup k).isSome := by
      have f := rn.find k
      cases hl : l.lookup k with
      | none => rw [f.2 hl]; rfl
      | some z => obtain ⟨e, he, _⟩ := f.1 z hl; rw [he]; rfl
    rw [eb]
    exact k' _ _ ρ1 H01 H1 q a1 e1 (.bl _)
/-- d[k] -/
theorem wE_kdGet {i : Nat} {te : TE} {Φ : D → Env' → Prop} (h0 : ∃ p l, ρ[i]? = some (some (.own (some p) (.kd P w0 p l)))) (h : wE w te ρ fun d ρ1 => ∃ k p l z, d = kyD k ∧ ρ1[i]? = some (some (.own (some p) (.kd P w0 p l))) ∧ l.lookup k = some z ∧ Φ z ρ1) : wE w (tKdGet w.K P w0 (tVar i) te) ρ Φ := fun c H0 H σ Q a x k' => by
  obtain ⟨p0, l0, h0⟩ := h0
  obtain ⟨q0, o0, g1, _⟩ := a.own h0
  refine ⟨_, g1, h c H0 H σ _ a x fun v d ρ1 H01 H1 ⟨k, p, l, z, ed, g, hl, q⟩ a1 e1 r1 => ?_⟩
  subst ed
  obtain ⟨av, rfl, hk⟩ := ky_rep r1
  obtain ⟨p', o, h1, h2, h3, ht, r⟩ := a1.own g
  rw [g1] at h1
  cases h1
  obtain rfl := ht p rfl
  obtain ⟨xs, rfl, rn⟩ := own_kd r
  obtain ⟨e, he, rz⟩ := (rn.find k).1 z hl
  exact ⟨_, av, av, k, xs, e, rfl, rfl, h2, kyAt_ex a1.px.i hk, fun e he => kyAt_ex a1.px.i (rn.all e he), he, k' _ _ ρ1 H01 H1 q a1 e1 rz⟩
/-- d[k] = v, k new -/
theorem wG_kdSet {i : Nat} {ti : TE} {d : D} {Ψ : Env' → Prop} (hT : w.T = []) (hd : ∃ ds, d = .tup ds) (h0 : ∃ p l, ρ[i]? = some (some (.own (some p) (.kd P w0 p l))))
    (h : wE w ti ρ fun dk ρ1 => ∃ k p l, dk = kyD k ∧ ρ1[i]? = some (some (.own (some p) (.kd P w0 p l))) ∧ l.lookup k = none ∧ l.length ≤ 1000000 ∧ Ψ (ρ1.set i (some (.own (some p) (.kd P w0 p (l ++ [(k, d)])))))) : wG w (gSub (tVar i) ti (rKdSet w.K P w0)) d ρ Ψ := fun c H0 H σ v Q a x r k' => by
  obtain ⟨ds, rfl⟩ := hd
  obtain ⟨p0, l0, h0⟩ := h0
  obtain ⟨q0, o0, g1, _⟩ := a.own h0
  refine ⟨_, g1, h c H0 H σ _ a x fun vk dk ρ1 H01 H1 ⟨k, p, l, ed, g, hl, hz, q⟩ a1 e1 r1 => ?_⟩
  subst ed
  obtain ⟨av, rfl, hk⟩ := ky_rep r1
  obtain ⟨p', o, h1, h2, h3, ht, ro⟩ := a1.own g
  rw [g1] at h1
  cases h1
  obtain rfl := ht p rfl
  obtain ⟨xs, rfl, rn⟩ := own_kd ro
  have rv := r.mono e1
  obtain ⟨b, rfl⟩ : ∃ b, v = .ref b := by cases r with | tup _ _ => exact ⟨_, rfl⟩
  exact ⟨_, av, b, k, xs, rfl, rfl, rfl, h2, kyAt_ex a1.px.i hk, fun e he => kyAt_ex a1.px.i (rn.all e he), (rn.find k).2 hl, len_ok (by rw [rn.length]; exact hz), k' _ H01 _ σ q (a1.turn g g1 (.kd (rn.append (.cons hk rv .nil))) (.inl (by rw [x.t]; exact hT))) e1⟩
end
end DL
/-! DL62: sorted(set(t)), t a tuple of ints. -/
namespace DL
open PySem PySem.Spec L2
open PyProof.Rows hiding St
section
variable {X : Cx}
def rSetOfTu (K : PySem.W.Frag) (w : World) : List V → Hp → VK → Prop := fun vs H Q => ∃ (l : Addr) (ns : List Int), vs = [V.ref l] ∧ SqT K H l (ns.map V.int) ∧ ns.length ≤ 4000 ∧
  ∀ (p : Addr) (c : Nat), H p = none → (∀ n : Nat, (∀ k ∈ ns, 0 ≤ k ∧ k < n) → c ≤ n) → Q (.ref p) (upd H p (SetO w p (fun j => decide (j ∈ ns)) c))
theorem cr_setTu (hc : X.calm = true) : CallR X (.type "set") (rSetOfTu X.K X.w) := by
  intro pins s σ H vs us Q I r h
  obtain ⟨l, ns, rfl, hq, hn, q⟩ := h
  rw [Vals.ref1 r]
  obtain ⟨its, rv, pl, hz⟩ := I.tuple hq
  refine call_set_tupI ns (I.ok.hd hc) pl (by simpa using rv.ints) (by unfold scanBound; omega) fun h' tk c R hcn k => ?_
  have free : H s.heap.objs.size = none := I.hok.fresh (Nat.le_refl _)
  refine ⟨.ref s.heap.objs.size, upd H s.heap.objs.size (SetO X.w s.heap.objs.size (fun j => decide (j ∈ ns)) c), I.laid (t' := tk) k (Nat.le_refl _) (setO_new R), rfl, q _ c free fun n hb => ?_⟩
  obtain ⟨o, es, ep, t, _, _, _, _, nd, hm, _, _, hs, _⟩ := R
  rw [← hs, ← Array.length_toList, ← List.length_map (f := keyOf)]
  exact few_nodup n _ nd fun k hk => hb k (of_decide_eq_true ((hm k).mpr hk))
theorem k_setTu (K : PySem.W.Frag) (hc : X.calm = true) (h : X.K = K := by rfl) : CallR X (.type "set") (rSetOfTu K X.w) := h ▸ cr_setTu hc
end
def rSortSetT (K : PySem.W.Frag) (w : World) : List V → Hp → VK → Prop := fun vs H Q => rSetOfTu K w vs H fun v H2 => rSortedSet w [v] H2 Q
def sortSetTG (ds : List D) (Φ : D → Prop) : Prop := ∃ ns : List Int, ds = [.tup (ns.map D.int)] ∧ ns.length ≤ 4000 ∧ (∀ k ∈ ns, 0 ≤ k ∧ k < 60) ∧ ∀ ms : List Int, ms.Pairwise (· < ·) → (∀ k, k ∈ ms ↔ k ∈ ns) → Φ (.lst (ms.map D.int))
theorem cbd_sortSetT {K : PySem.W.Frag} {w : World} : CbD K (rSortSetT K w) sortSetTG := fun H0 H xs ds Φ Q e rx ⟨ns, h, hl, hb, g⟩ k => by
  subst h
  obtain ⟨v, rfl, r⟩ := vals_one rx
  cases r with
  | tup hp hr =>
    rw [hr.ofInts] at hp
    refine ⟨_, ns, rfl, sqT_ex e hp, by omega, fun p c hn hc => ⟨p, _, c, rfl, upd_same, by have := hc 60 hb; omega, fun ms q pw mem _ hq => ?_⟩⟩
    have y1 : PX ⟨H, H0, []⟩ (upd H0 p (SetO w p (fun j => decide (j ∈ ns)) c)) (upd H p (SetO w p (fun j => decide (j ∈ ns)) c)) := (PX.refl e).new hn
    have y2 := y1.new (o := .lst (ms.map V.int)) hq
    exact k _ _ _ _ (g ms pw fun k => by rw [mem k, decide_eq_true_eq]) y2 (.lst upd_same (RepAll.ints ms))
theorem wE_sortSetT {w : Wx} {w0 : World} {t : TE} {ρ : Env'} {Φ : D → Env' → Prop} (h : wE w t ρ fun d ρ1 => ∃ ns : List Int, d = .tup (ns.map D.int) ∧ ns.length ≤ 4000 ∧ (∀ k ∈ ns, 0 ≤ k ∧ k < 60) ∧ ∀ ms : List Int, ms.Pairwise (· < ·) → (∀ k, k ∈ ms ↔ k ∈ ns) → Φ (.lst (ms.map D.int)) ρ1) :
    wE w (tCB (rSortedSet w0) (tCons (tCB (rSetOfTu w.K w0) (tCons t tNil)) tNil)) ρ Φ := by
  have := wE_cb (w := w) (ρ := ρ) (Φ := Φ) (cbd_sortSetT (K := w.K) (w := w0)) (t' := tCons t tNil) (wA_cons (wE_mono h fun d ρ1 ⟨ns, e, hl, hb, g⟩ => wA_nil ⟨ns, by rw [e], hl, hb, g⟩))
  exact this
/-- negation of an int, floor division, as Python's -(-a // b): the least integer that is at least a / b -/
def cdivI (a b : Int) : Int := -(-a / b)
theorem cdiv_le {a b n : Int} (hb : 0 < b) : cdivI a b ≤ n ↔ a ≤ n * b := by
  unfold cdivI
  constructor
  · intro h
    have h1 : -n ≤ -a / b := by omega
    have := (Int.le_ediv_iff_mul_le hb).mp h1
    rw [Int.neg_mul] at this
    omega
  · intro h
    have : -n ≤ -a / b := (Int.le_ediv_iff_mul_le hb).mpr (by rw [Int.neg_mul]; omega)
    omega
theorem cdiv_ge {a b : Int} (hb : 0 < b) : a ≤ cdivI a b * b := (cdiv_le hb).mp (Int.le_refl _)
theorem hu2 {k : Nat} {A : Around} (r : RoomG k A) : A.units + 1 < cLine := by have := r.r.un; omega
def fdivWG : D → D → (D → Prop) → Prop := intG CDivW fun i j => .int (i / j)
theorem opd_fdivW {K : PySem.W.Frag} : OpD K (rI CDivW fun i j => .int (i / j)) fdivWG := opd_int fun _ _ _ => .int _
theorem fdivWG_i {a c : Int} {Φ : D → Prop} (h : CDivW a c) (q : Φ (.int (a / c))) : fdivWG (.int a) (.int c) Φ := ⟨h, q⟩
theorem cdivW {a c : Int} (h0 : 0 < c) (h : c.natAbs < 2 ^ 8000) : CDivW a c := ⟨h0, by
  have := PySem.W.mg_log (n := c.natAbs) (k := 7999) h
  omega⟩
end DL
/-! DL63: try: a() except (A, B, C) as e with the telling in place, [] behind it. -/
/-! DL64: zip of a list with a tuple, of a tuple with a list. -/
namespace DL
open PySem PySem.Spec L2
open PyProof.Rows hiding St
/-- p: a tuple; else a list -/
def SqK (K : PySem.W.Frag) (H : Hp) (p : Bool) (a : Addr) (l : List V) : Prop := match p with
  | true => SqT K H a l
  | false => SqL K H a l
def AtK (h : Heap) (p : Bool) (c a : Addr) (n : Nat) : Prop := match p with
  | true => h.IsTupleIter c a n
  | false => h.IsListIter c a n
def HasK (h : Heap) (p : Bool) (a : Addr) (us : Array Value) : Prop := match p with
  | true => h.IsTuple a us
  | false => h.IsList a us
theorem AtK.live {h : Heap} {p : Bool} {c a : Addr} {n : Nat} (q : AtK h p c a n) : ∃ o, h.get? c = some o ∧ ∀ v, o.data ≠ .cell v := by
  cases p with
  | true => obtain ⟨o, e, _, d⟩ := q; exact ⟨o, e, fun v z => by rw [d] at z; cases z⟩
  | false => obtain ⟨o, e, _, d⟩ := q; exact ⟨o, e, fun v z => by rw [d] at z; cases z⟩
theorem AtK.kept {h g : Heap} {p : Bool} {c a : Addr} {n : Nat} (q : AtK h p c a n) (k : ∀ o, h.get? c = some o → g.get? c = some o) : AtK g p c a n := by
  cases p with
  | true => exact Heap.IsTupleIter.at q k
  | false => exact Heap.IsListIter.at q k
theorem HasK.kept {h g : Heap} {p : Bool} {a : Addr} {us : Array Value} (q : HasK h p a us) (k : ∀ o, h.get? a = some o → g.get? a = some o) : HasK g p a us := by
  cases p with
  | true => obtain ⟨o, e, r⟩ := q; exact ⟨o, k o e, r⟩
  | false => exact Heap.IsList.at q k
theorem HasK.lt {h : Heap} {p : Bool} {a : Addr} {us : Array Value} (q : HasK h p a us) : a < h.objs.size := by
  cases p with
  | true => obtain ⟨o, e, r⟩ := q; exact Heap.lt_size e
  | false => obtain ⟨o, e, r⟩ := q; exact Heap.lt_size e
theorem drawsK {prog : Program} {w : World} {A : Around} (hh : A.handled = none) (p : Bool) (c a : Addr) (ne : a ≠ c) (us : Array Value) :
    Draws prog w A c [c, a] us.size (fun n v => us[n]? = some v) (fun n h => AtK h p c a n ∧ HasK h p a us) := by
  cases p with
  | false => exact Draws.list hh c a ne us
  | true =>
    refine ⟨fun n h st => (AtK.live st.1).imp fun o q => q.1, fun n h g st k => ⟨st.1.kept fun o => k c List.mem_cons_self o, st.2.kept fun o => k a (by simp) o⟩, fun n s Q E hn st hQ => ?_, fun s Q E st hE => ?_⟩
    · exact RZ.nextOf_tuple_item (show s.heap.IsTupleIter c a n from st.1) (show s.heap.IsTuple a us from st.2) (x := us[n]) (by simp [hn]) fun g q1 q2 =>
        hQ _ g s.toks (by simp [hn]) ⟨q1, HasK.kept (p := true) st.2 fun o z => q2.extBut a o ne z⟩ q2
    · exact RZ.nextOf_tuple_end hh (show s.heap.IsTupleIter c a us.size from st.1) (show s.heap.IsTuple a us from st.2) (by simp) hE
section
variable {X : Cx} {pins : List (Addr × Obj)} {σ : St} {H : Hp} {s : Shared}
theorem seqK (I : Inv X pins σ H s) {p : Bool} {a : Addr} {l : List V} (q : SqK X.K H p a l) : ∃ us : List Value, Vals l us ∧ HasK s.heap p a us.toArray := by
  cases p with
  | true => obtain ⟨us, r, t, _⟩ := I.tuple q; exact ⟨us, r, t⟩
  | false => obtain ⟨us, r, t, _⟩ := I.list q; exact ⟨us, r, t.isList⟩
theorem seqK_inj (I : Inv X pins σ H s) {p : Bool} {a : Addr} {l m : List V} (q : SqK X.K H p a l) (r : SqK X.K H p a m) : l = m := by
  cases p with
  | true => exact I.tuple_inj q r
  | false => exact I.list_inj q r
end
/-- a list or tuple at a, one at b: pairs of their items -/
def ItzK (K : PySem.W.Frag) (p q : Bool) (a b : Addr) : It :=
  ⟨fun n H => ∃ (l m : List V) (x y : V), SqK K H p a l ∧ SqK K H q b m ∧ l[n]? = some x ∧ m[n]? = some y,
   fun n H v G => ∃ (t : Addr) (x y : V), v = .ref t ∧ H t = none ∧ G = upd H t (.tup [x, y]) ∧ (∀ l, SqK K H p a l → l[n]? = some x) ∧ (∀ m, SqK K H q b m → m[n]? = some y),
   fun n H => ∃ l m : List V, SqK K H p a l ∧ SqK K H q b m ∧ n ≤ l.length ∧ n ≤ m.length ∧ (n = l.length ∨ n = m.length)⟩
theorem sep_of {z TI TO c d a b : Addr} (D : ZipApart z TI TO c d a b) : ZipSep2 z TI TO c d [c, a] [d, b] := by
  have no : ∀ {x u v : Addr}, x ≠ u → x ≠ v → x ∉ [u, v] := fun h1 h2 hm => by
    rcases List.mem_cons.mp hm with e | hm
    · exact h1 e
    · exact h2 (List.mem_singleton.mp hm)
  exact { TIz := D.TIz, TOz := D.TOz, TITO := D.TITO, TIi1 := D.TIi1, mem1 := List.mem_cons_self, zf1 := no D.i1z.symm D.l1z.symm, Tf1 := no D.TOi1 D.l1TO.symm, TIi2 := D.TIi2, mem2 := List.mem_cons_self, zf2 := no D.i2z.symm D.l2z.symm, Tf2 := no D.TOi2 D.l2TO.symm, sep1_2 := no D.i12 D.l2i1.symm, sep2_1 := no D.i12.symm D.l1i2.symm }
theorem mem5 {c z u v x y : Addr} (h : c ∈ [z, u, v, x, y]) : c = z ∨ c = u ∨ c = v ∨ c = x ∨ c = y := by simpa using h
theorem turn_zipK {P : Program} {w : World} {K : PySem.W.Frag} {elts : List Expr} {kk : Nat} {pos : Pos} {p q : Bool} {a b z TI TO c d : Addr} (D : ZipApart z TI TO c d a b) :
    Turn P w K (.Tuple elts kk pos) (ItzK K p q a b) [z, TI, TO, c, d] z (fun n h => IsZip h z TI TO .none ∧ IsPair h TI (.ref c) (.ref d) ∧ (∃ u v, IsPair h TO u v) ∧ AtK h p c a n ∧ AtK h q d b n) where
  mem := List.mem_cons_self
  obj := fun n h ⟨gz, gi, ⟨u, v, go⟩, t1, t2⟩ e he => by
    rcases mem5 he with r | r | r | r | r <;> subst r
    · exact ⟨_, gz, nofun⟩
    · exact ⟨_, gi, nofun⟩
    · exact ⟨_, go, nofun⟩
    · exact t1.live
    · exact t2.live
  keep := fun n h g ⟨gz, gi, ⟨u, v, go⟩, t1, t2⟩ k => ⟨k z (by simp) _ gz, k TI (by simp) _ gi, ⟨u, v, k TO (by simp) _ go⟩, t1.kept (k c (by simp)), t2.kept (k d (by simp))⟩
  item := by
    intro X eP ew eK calm n pins s σ H E I free st go
    subst eP ew eK
    obtain ⟨gz, gi, ⟨u0, v0, go0⟩, t1, t2⟩ := st
    obtain ⟨l, m, x, y, sl, sm, gx, gy⟩ := go
    obtain ⟨us, r1, p1⟩ := seqK I sl
    obtain ⟨vs, r2, p2⟩ := seqK I sm
    obtain ⟨u, gu, ru⟩ := r1.get gx
    obtain ⟨v, gv, rv⟩ := r2.get gy
    have lu : n < us.toArray.size := by rw [List.size_toArray]; exact (List.getElem?_eq_some_iff.mp gu).1
    have lv : n < vs.toArray.size := by rw [List.size_toArray]; exact (List.getElem?_eq_some_iff.mp gv).1
    have zl : z < s.heap.objs.size := Heap.lt_size gz
    have hd : X.A.in1.handled = none := I.ok.hd calm
    refine wpAny_pyNext_zipD2_item (sep_of D) (drawsK hd p c a D.l1i1 us.toArray) (drawsK hd q d b D.l2i2 vs.toArray) gz gi go0 ⟨t1, p1⟩ ⟨t2, p2⟩ lu lv fun u' v' g tk e1 e2 wz wo w1 w2 wt ws wk => ?_
    have e1 : u' = u := by have : us[n]? = some u' := by simpa using e1
                           rw [gu] at this; exact (Option.some.inj this).symm
    have e2 : v' = v := by have : vs[n]? = some v' := by simpa using e2
                           rw [gv] at this; exact (Option.some.inj this).symm
    subst e1 e2
    refine ⟨_, rfl, wpAny_letOwnedTupleGo_zip (s := { s with heap := g, toks := tk }) wz fun g2 yz sb => ?_⟩
    have tup : g2.get? s.heap.objs.size = some { cls := .type "tuple", data := .seq #[u', v'] } := (sb.2 _ (Nat.ne_of_gt zl)).trans wt
    have nw : ObjOk X.prog X.w (upd H s.heap.objs.size (.tup [x, y])) g2 s.heap.objs.size (.tup [x, y]) := ⟨(by decide : 2 ≤ sizeLine), [u', v'], .cons ru (.cons rv .nil), ⟨_, tup, rfl, _, rfl⟩⟩
    have far : ∀ e o, e ∉ [z, TI, TO, c, d] → s.heap.get? e = some o → g2.get? e = some o := fun e o ne h => by
      simp only [List.mem_cons, List.not_mem_nil, or_false, not_or] at ne
      exact (sb.2 e ne.1).trans (wk e o ne.1 ne.2.2.1 ne.2.2.2.1 ne.2.2.2.2 h)
    refine ⟨.ref s.heap.objs.size, _, I.turnedNew (t' := tk) (ch := [z, TI, TO, c, d]) far free (Nat.le_refl _) nw, rfl, ⟨_, x, y, rfl, I.hok.fresh (Nat.le_refl _), rfl, fun l' hl => ?_, fun m' hm => ?_⟩, ⟨yz, ?_, ⟨u', v', ?_⟩, ?_, ?_⟩, fun e he => ?_⟩
    · rw [seqK_inj I hl sl]; exact gx
    · rw [seqK_inj I hm sm]; exact gy
    · exact (sb.2 _ D.TIz).trans (wk _ _ D.TIz D.TITO D.TIi1 D.TIi2 gi)
    · exact (sb.2 _ D.TOz).trans wo
    · exact w1.1.kept fun o h => (sb.2 _ D.i1z).trans h
    · exact w2.1.kept fun o h => (sb.2 _ D.i2z).trans h
    · have lt : e < s.heap.objs.size := by
        rcases mem5 he with r | r | r | r | r <;> subst r
        · exact zl
        · exact Heap.lt_size gi
        · exact Heap.lt_size go0
        · obtain ⟨o, h, _⟩ := t1.live; exact Heap.lt_size h
        · obtain ⟨o, h, _⟩ := t2.live; exact Heap.lt_size h
      rw [upd_ne (Nat.ne_of_lt lt)]
      exact (free e he).1
  done := by
    intro X eP ew eK calm n pins s σ H E I free st no
    subst eP ew eK
    obtain ⟨gz, gi, ⟨u0, v0, go0⟩, t1, t2⟩ := st
    obtain ⟨l, m, sl, sm, n1, n2, n3⟩ := no
    obtain ⟨us, r1, p1⟩ := seqK I sl
    obtain ⟨vs, r2, p2⟩ := seqK I sm
    have h1 := r1.length
    have h2 := r2.length
    have hd : X.A.in1.handled = none := I.ok.hd calm
    refine wpAny_pyNext_zipD2_end (sep_of D) (drawsK hd p c a D.l1i1 us.toArray) (drawsK hd q d b D.l2i2 vs.toArray) gz gi go0 ⟨t1, p1⟩ ⟨t2, p2⟩ (by rw [List.size_toArray]; omega) (by rw [List.size_toArray]; omega) (by rw [List.size_toArray, List.size_toArray]; omega) fun g tk k => ⟨rfl, I.turnedL (t' := tk) (ch := [z, TI, TO, c, d]) (fun e o ne h => ?_) free⟩
    simp only [List.mem_cons, List.not_mem_nil, or_false, not_or] at ne
    exact k e o ne.1 ne.2.2.1 ne.2.2.2.1 ne.2.2.2.2 h
  self := fun A n s Q E st h => wpAny_pyIter_zip st.1 h
/-! zip(a, b), called -/
abbrev itO (c : Value) (a : Addr) : Obj := { cls := c, data := .fields #[.ref a, .int 0 0] }
abbrev twO (x y : Value) : Obj := { cls := .type "tuple", data := .seq #[x, y] }
abbrev zipG2 (c d : Value) (h : Heap) (a b : Addr) : Heap := (h.push (itO c a)).push (itO d b)
abbrev zipG3 (c d : Value) (h : Heap) (a b : Addr) : Heap := (zipG2 c d h a b).push (twO (.ref h.objs.size) (.ref (h.push (itO c a)).objs.size))
abbrev zipG4 (c d : Value) (h : Heap) (a b : Addr) : Heap := (zipG3 c d h a b).push (twO .none .none)
abbrev zipG5 (c d : Value) (h : Heap) (a b : Addr) : Heap := (zipG4 c d h a b).push { cls := .type "zip", data := .fields #[.none, .bool false, .bool false, .ref (zipG2 c d h a b).objs.size, .ref (zipG3 c d h a b).objs.size] }
abbrev cT : Value := .type "tuple_iterator"
abbrev cL : Value := .type "list_iterator"
theorem zipNew_LT (a b : Addr) (us vs : Array Value) : Meets (Builtin.«zip.__new__» ⟨[.type "zip", .ref a, .ref b], []⟩) (fun _ R s => s.heap.IsList a us ∧ s.heap.IsTuple b vs ∧ R (.ok (.ret (.ref (zipG4 cL cT s.heap a b).objs.size))) { s with heap := zipG5 cL cT s.heap a b }) :=
  .of_wp fun prog w A R ⟨hp, g, d, tk, os⟩ ⟨h1, h2, k⟩ => by
    have hsub := sub_zip
    have q1 : Heap.IsList (Shared.heap ⟨hp, g, d, tk, os⟩) a us := h1
    have q2 : Heap.IsTuple (Shared.heap ⟨hp.push (itO cL a), g, d, tk, os⟩) b vs := Heap.IsTuple.push h2 _
    wp_walk using wpAny_pyIter_list q1, wpAny_pyIter_tuple q2
    exact ⟨_, rfl, k⟩
theorem zipNew_TL (a b : Addr) (us vs : Array Value) : Meets (Builtin.«zip.__new__» ⟨[.type "zip", .ref a, .ref b], []⟩) (fun _ R s => s.heap.IsTuple a us ∧ s.heap.IsList b vs ∧ R (.ok (.ret (.ref (zipG4 cT cL s.heap a b).objs.size))) { s with heap := zipG5 cT cL s.heap a b }) :=
  .of_wp fun prog w A R ⟨hp, g, d, tk, os⟩ ⟨h1, h2, k⟩ => by
    have hsub := sub_zip
    have q1 : Heap.IsTuple (Shared.heap ⟨hp, g, d, tk, os⟩) a us := h1
    have q2 : Heap.IsList (Shared.heap ⟨hp.push (itO cT a), g, d, tk, os⟩) b vs := Heap.IsList.push h2 _
    wp_walk using wpAny_pyIter_tuple q1, wpAny_pyIter_list q2
    exact ⟨_, rfl, k⟩
theorem zipG_has (c d : Value) (h : Heap) (a b : Addr) :
    (zipG4 c d h a b).objs.size = h.objs.size + 4 ∧ IsZip (zipG5 c d h a b) (h.objs.size + 4) (h.objs.size + 2) (h.objs.size + 3) .none ∧ IsPair (zipG5 c d h a b) (h.objs.size + 2) (.ref h.objs.size) (.ref (h.objs.size + 1)) ∧ IsPair (zipG5 c d h a b) (h.objs.size + 3) .none .none ∧
      (zipG5 c d h a b).get? h.objs.size = some (itO c a) ∧ (zipG5 c d h a b).get? (h.objs.size + 1) = some (itO d b) ∧ ∀ e o, h.get? e = some o → (zipG5 c d h a b).get? e = some o := by
  have up : ∀ {g : Heap} {e : Addr} {o : Obj} (p : Obj), g.get? e = some o → (g.push p).get? e = some o := fun p q => Heap.get?_push_of_some _ q
  have n1 : (h.push (itO c a)).objs.size = h.objs.size + 1 := Heap.size_push ..
  have n2 : (zipG2 c d h a b).objs.size = h.objs.size + 2 := by rw [Heap.size_push, n1]
  have n3 : (zipG3 c d h a b).objs.size = h.objs.size + 3 := by rw [Heap.size_push, n2]
  have n4 : (zipG4 c d h a b).objs.size = h.objs.size + 4 := by rw [Heap.size_push, n3]
  have g5 : (zipG5 c d h a b).get? (zipG4 c d h a b).objs.size = some _ := Heap.get?_push_size _ rfl
  have g4 : (zipG5 c d h a b).get? (zipG3 c d h a b).objs.size = some (twO .none .none) := up _ (Heap.get?_push_size _ rfl)
  have g3 : (zipG5 c d h a b).get? (zipG2 c d h a b).objs.size = some (twO (.ref h.objs.size) (.ref (h.push (itO c a)).objs.size)) := up _ (up _ (Heap.get?_push_size _ rfl))
  have g2 : (zipG5 c d h a b).get? (h.push (itO c a)).objs.size = some (itO d b) := up _ (up _ (up _ (Heap.get?_push_size _ rfl)))
  have g1 : (zipG5 c d h a b).get? h.objs.size = some (itO c a) := up _ (up _ (up _ (up _ (Heap.get?_push_size _ rfl))))
  rw [n2, n3, n4] at g5
  rw [n1, n2] at g3
  rw [n3] at g4
  rw [n1] at g2
  exact ⟨n4, g5, g3, g4, g1, g2, fun e o q => up _ (up _ (up _ (up _ (up _ q))))⟩
theorem call_zipK {prog : Program} {w : World} {A : Around} {E : Value → Shared → Prop} {s : Shared} {Q : Value → Shared → Prop} {p q : Bool} {a b : Addr} {us vs : Array Value} (h1 : HasK s.heap p a us) (h2 : HasK s.heap q b vs)
    (k : ∀ g, IsZip g (s.heap.objs.size + 4) (s.heap.objs.size + 2) (s.heap.objs.size + 3) .none → IsPair g (s.heap.objs.size + 2) (.ref s.heap.objs.size) (.ref (s.heap.objs.size + 1)) → IsPair g (s.heap.objs.size + 3) .none .none → AtK g p s.heap.objs.size a 0 → AtK g q (s.heap.objs.size + 1) b 0 → (∀ e o, s.heap.get? e = some o → g.get? e = some o) → Q (.ref (s.heap.objs.size + 4)) { s with heap := g }) :
    wpAny (model prog w) A (call (.type "zip") [.ref a, .ref b]) Q E s := by
  match p, q, h1, h2, k with
  | false, false, h1, h2, k => exact call_zip_2 h1 h2 fun g gz gi go t1 t2 _ up => k g gz gi go t1 t2 up
  | true, true, h1, h2, k => exact RZ.call_zipT h1 h2 fun g gz gi go t1 t2 _ up => k g gz gi go t1 t2 up
  | false, true, h1, h2, k =>
    obtain ⟨n4, z, g3, g4, g1, g2, up⟩ := zipG_has cL cT s.heap a b
    refine callType_new F.called_zip (by decide) (F.typeCall_zip_2 _ _) (F.newCall_zip_2 _ _) (fun o => F.args_object_init_3 o _ _) F.entry_zip_new (zipNew_LT a b us vs) ⟨h1, h2, ?_⟩
    show _ ∧ _
    rw [n4]
    exact ⟨⟨_, z, rfl⟩, k _ z g3 g4 ⟨_, g1, rfl, rfl⟩ ⟨_, g2, rfl, rfl⟩ up⟩
  | true, false, h1, h2, k =>
    obtain ⟨n4, z, g3, g4, g1, g2, up⟩ := zipG_has cT cL s.heap a b
    refine callType_new F.called_zip (by decide) (F.typeCall_zip_2 _ _) (F.newCall_zip_2 _ _) (fun o => F.args_object_init_3 o _ _) F.entry_zip_new (zipNew_TL a b us vs) ⟨h1, h2, ?_⟩
    show _ ∧ _
    rw [n4]
    exact ⟨⟨_, z, rfl⟩, k _ z g3 g4 ⟨_, g1, rfl, rfl⟩ ⟨_, g2, rfl, rfl⟩ up⟩
/-- zip(a, b), each a list or a tuple -/
def iZipK (K : PySem.W.Frag) (ta : TA) : TI := fun σ H R => ta σ H fun vs G => ∃ p q a b l m, vs = [.ref a, .ref b] ∧ SqK K G p a l ∧ SqK K G q b m ∧ R (ItzK K p q a b) G
theorem pi_zipK {X : Cx} {e e2 : Expr} {ta : TA} {pp pos tpos : Pos} {elts : List Expr} {kk : Nat} (hg : Gl X "zip") (hm : X.mg "zip" = none) (ha : PA X [e, e2] ta)
    (hs : starEach [e, e2] X.env = (false, eval e X.env) :: starEach [e2] X.env := by rfl) (hpl : (backTo pos (starEach [e2] X.env)).any (·.1) = false := by rfl) :
    PI X (.Tuple elts kk tpos) (.Call (.Name "zip" pp) [e, e2] [] pos) (iZipK X.K ta) := by
  refine ⟨fun pins s σ H R I h => Call_ (ld_blt I hg hm PyProof.Rows.boot_zip (PyProof.Rows.callWith_type1 (thn (ha.run pos pins s σ H _ I h) fun us s1 ⟨vs, G, I1, r1, p, q, a, b, l, m, ev, sl, sm, k⟩ => ?_) hs hpl))⟩
  subst ev
  cases r1 with | cons ra rr => cases rr with | cons rb rr =>
  cases rr
  cases ra
  cases rb
  obtain ⟨us, _, p1⟩ := seqK I1 sl
  obtain ⟨ws, _, p2⟩ := seqK I1 sm
  refine call_zipK p1 p2 fun g gz gi go t1 t2 up => wpAny_pyIter_zip gz ⟨s1.heap.objs.size + 4, [s1.heap.objs.size + 4, s1.heap.objs.size + 2, s1.heap.objs.size + 3, s1.heap.objs.size, s1.heap.objs.size + 1], _, _, G, rfl, I1.kept (t' := s1.toks) up, turn_zipK (PySem.W.ktu_apart s1.heap.objs.size a b p1.lt p2.lt), ⟨gz, gi, ⟨_, _, go⟩, t1, t2⟩, fun c hc => ?_, k⟩
  have : s1.heap.objs.size ≤ c := by
    rcases mem5 hc with r | r | r | r | r <;> rw [r] <;> first | exact Nat.le_refl _ | exact Nat.le_add_right _ _
  exact I1.fpOk this (I1.hok.fresh this)
theorem k_zipK {X : Cx} {e e2 : Expr} {ta : TA} {pp pos tpos : Pos} {elts : List Expr} {kk : Nat} (K : PySem.W.Frag) (hg : Gl X "zip") (hm : X.mg "zip" = none) (ha : PA X [e, e2] ta) (hs : starEach [e, e2] X.env = (false, eval e X.env) :: starEach [e2] X.env := by rfl) (hpl : (backTo pos (starEach [e2] X.env)).any (·.1) = false := by rfl) (h : X.K = K := by rfl) :
    PI X (.Tuple elts kk tpos) (.Call (.Name "zip" pp) [e, e2] [] pos) (iZipK K ta) := h ▸ pi_zipK hg hm ha hs hpl
/-! over data -/
def seqD (p : Bool) (l : List D) : D := if p then .tup l else .lst l
theorem seqD_rep {K : PySem.W.Frag} {H : Hp} {v : V} {p : Bool} {l : List D} (r : Rep K H v (seqD p l)) : ∃ (a : Addr) (xs : List V), v = .ref a ∧ RepAll K H xs l ∧ ∀ {G : Hp}, Ex H G → SqK K G p a xs := by
  cases p with
  | true => cases (show Rep K H v (.tup l) from r) with | tup hp hr => exact ⟨_, _, rfl, hr, fun e => sqT_ex e hp⟩
  | false => cases (show Rep K H v (.lst l) from r) with | lst hp hr => exact ⟨_, _, rfl, hr, fun e => .inl (.inl (e _ _ hp))⟩
theorem wI_zipK {w : Wx} {ρ : Env'} {ta : TA} {Φ : List D → Env' → Prop} (p q : Bool) (h : wA w ta ρ fun ds ρ1 => ∃ l1 l2, ds = [seqD p l1, seqD q l2] ∧ Φ (zipD l1 l2) ρ1) : wI w (iZipK w.K ta) ρ Φ := fun c H0 H σ R a x k =>
  h c H0 H σ _ a x fun vs ds ρ1 H01 H1 ⟨l1, l2, e, qq⟩ a1 e1 r1 => by
    subst e
    cases r1 with | cons ra rr => cases rr with | cons rb rr =>
    cases rr
    obtain ⟨pa, xs, rfl, ra, sa⟩ := seqD_rep ra
    obtain ⟨pb, ys, rfl, rb, sb⟩ := seqD_rep rb
    have hl : (zipD l1 l2).length = min l1.length l2.length := List.length_zipWith
    have h1 := ra.length
    have h2 := rb.length
    refine ⟨p, q, _, _, _, _, rfl, sa a1.px.i, sb a1.px.i, k _ _ ρ1 H01 H1 qq a1 e1 (fun i Ha Hb e j lt => ?_) (fun Ha Hb e j => ⟨_, _, sa (e.trans j), sb (e.trans j), by omega, by omega, by omega⟩) (fun i Ha Hb x Hc e j lt y => ?_)⟩
    · exact ⟨_, _, _, _, sa (e.trans j), sb (e.trans j), List.getElem?_eq_getElem (by omega), List.getElem?_eq_getElem (by omega)⟩
    · obtain ⟨t, xv, yv, y1, y2, y3, y4, y5⟩ := y
      subst y1 y3
      obtain ⟨d, g1, g2⟩ := ra.getV (y4 _ (sa (e.trans j)))
      obtain ⟨d', g1', g2'⟩ := rb.getV (y5 _ (sb (e.trans j)))
      have nx := (PX.refl (T := []) j).new (o := .tup [xv, yv]) y2
      refine ⟨.tup [d, d'], _, ?_, nx, .tup (.inl (.inl upd_same)) (.cons (g2.mono (e.trans nx.e0)) (.cons (g2'.mono (e.trans nx.e0)) .nil))⟩
      unfold zipD
      rw [List.getElem?_zipWith, g1, g1']
theorem wI_zipLT {w : Wx} {ρ : Env'} {ta : TA} {Φ : List D → Env' → Prop} (h : wA w ta ρ fun ds ρ1 => ∃ l1 l2, ds = [.lst l1, .tup l2] ∧ Φ (zipD l1 l2) ρ1) : wI w (iZipK w.K ta) ρ Φ := wI_zipK false true h
theorem wI_zipTL {w : Wx} {ρ : Env'} {ta : TA} {Φ : List D → Env' → Prop} (h : wA w ta ρ fun ds ρ1 => ∃ l1 l2, ds = [.tup l1, .lst l2] ∧ Φ (zipD l1 l2) ρ1) : wI w (iZipK w.K ta) ρ Φ := wI_zipK true false h
end DL
/-! DL65: sorted(list of words), words compared by <. -/
namespace DL
open PySem PySem.Spec L2
open PyProof.Rows hiding St
def rLtS : R2 := fun x y H Q => ∃ i j, x = .str i ∧ y = .str j ∧ Q (.bl (decide (i.cps.toList < j.cps.toList))) H
theorem k_ltS {X : Cx} : OpR X (compareOp .Lt) rLtS := op_lt_str
def ltSG (x y : D) (Φ : D → Prop) : Prop := ∃ i j, x = .str i ∧ y = .str j ∧ Φ (.bl (decide (i.cps.toList < j.cps.toList)))
theorem opd_ltS {K : PySem.W.Frag} : OpD K rLtS ltSG := fun H0 H x y dx dy Φ Q e rx ry ⟨i, j, hx, hy, g⟩ k => by
  subst hx hy
  cases rx
  cases ry
  exact ⟨i, j, rfl, rfl, fin0 e g (.bl _) k⟩
end DL
/-! DL66: <<, >>, &, |, bit_length; ints as conditions; all(list of ints and bools). -/
namespace DL
open PySem PySem.Spec L2
open PyProof.Rows hiding St
section
variable {X : Cx}
def tBI (t : TE) : TT := fun σ H Q => t σ H fun x G => ∃ i, x = V.int i ∧ Q (i != 0) G
theorem pt_int {e : Expr} {t : TE} (h : PE X e t) (he : ∀ whole, isTrue e X.env whole = (do let v ← whole; standAt e.pos; holding [v] (truthy v)) := by intro _; rfl) : PT X e (tBI t) :=
  ⟨fun pins s σ H Q I k => isTrue_plain (thn (h.run pins s σ H _ I k) fun v s1 ⟨x, G, J, r, i, ex, q⟩ => by
    subst ex
    obtain ⟨u, rfl⟩ := r
    exact truthy_int ⟨G, J, q⟩) (he _)⟩
def tOrI (ta tb : TE) : TE := fun σ H Q => ta σ H fun x G => ∃ i, x = V.int i ∧ if (i != 0) = true then Q (.int i) G else tb σ G Q
theorem pe_orI {a b : Expr} {rest : List Expr} {pos : Pos} {ta tb : TE} (ha : PE X a ta) (hb : PE X (.BoolOp .Or (b :: rest) pos) tb) : PE X (.BoolOp .Or (a :: b :: rest) pos) (tOrI ta tb) :=
  ⟨fun pins s σ H Q I k => BoolOp_or (thn (ha.run pins s σ H _ I k) fun v s1 ⟨x, G, J, r, i, ex, q⟩ => by
    subst ex
    obtain ⟨u, rfl⟩ := r
    refine truthy_int ?_
    by_cases c : (i != 0) = true
    · rw [c] at q ⊢
      exact ⟨.int i, G, J, ⟨u, rfl⟩, q⟩
    · rw [(Bool.not_eq_true _).mp c] at q ⊢
      exact hb.run pins s1 σ G Q J q)⟩
/-- an int or a bool -/
def ibV : Int ⊕ Bool → V
  | .inl i => .int i
  | .inr b => .bl b
def ibT : Int ⊕ Bool → Bool
  | .inl i => i != 0
  | .inr b => b
theorem ib_get : ∀ {xs : List (Int ⊕ Bool)} {us : List Value}, Vals (xs.map ibV) us → ∀ {n : Nat} {v : Value}, us[n]? = some v → ∃ x, xs[n]? = some x ∧ RelV (ibV x) v
  | [], _, .nil, n, v, h => by simp at h
  | x :: xs, _, .cons r rs, 0, v, h => by simp at h; subst h; exact ⟨x, rfl, r⟩
  | x :: xs, _, .cons r rs, n + 1, v, h => ib_get rs (by simpa using h)
theorem truth_ib {prog : Program} {w : World} {A : Around} {xs : List (Int ⊕ Bool)} {us : List Value} (r : Vals (xs.map ibV) us) : TruthOf prog w A (fun n v => us.toArray[n]? = some v) (fun n => (xs.map ibT).getD n false) := fun n v s Q E hv hq => by
  obtain ⟨x, hx, rx⟩ := ib_get r (by simpa using hv)
  have hg : (xs.map ibT).getD n false = ibT x := by rw [List.getD_eq_getElem?_getD, List.getElem?_map, hx]; rfl
  have hq' : Q ((xs.map ibT).getD n false) s := hq
  rw [hg] at hq'
  cases x with
  | inl i => obtain ⟨u, rfl⟩ := rx; exact truthy_int hq'
  | inr b => cases rx; exact wpAny_truthy_bool hq'
def rAllM (K : PySem.W.Frag) : List V → Hp → VK → Prop := fun vs H Q => ∃ (a : Addr) (xs : List (Int ⊕ Bool)), vs = [V.ref a] ∧ SqL K H a (xs.map ibV) ∧ Q (.bl ((xs.map ibT).all id)) H
theorem cr_allM (hc : X.calm = true) : CallR X (.builtin "all") (rAllM X.K) := by
  intro pins s σ H vs us Q I r ⟨a, xs, ev, hs, q⟩
  subst ev
  obtain ⟨its, rv, hl, _⟩ := I.list hs
  rw [Vals.ref1 r]
  have len := rv.length
  rw [List.length_map] at len
  refine call_all_walk (iter_any hl.isList fun s₂ e2 st hne => ?_)
  subst e2
  refine ⟨_, _, _, _, _, _, _, rfl, Walks.list (A := X.A.in1) (I.ok.hd hc) _ a hne its.toArray, st, truth_ib rv, fun g tk hk => ⟨.bl _, H, I.kept fun b o eo => hk b o (fun hm => ?_) (Heap.get?_push_of_some _ eo), ?_, q⟩⟩
  · exact absurd (List.mem_singleton.mp hm ▸ Heap.lt_size eo) (Nat.lt_irrefl _)
  · show Value.bool _ = Value.bool _
    rw [← L2.all_range, List.size_toArray, List.length_map, len]
theorem k_allM (K : PySem.W.Frag) (hc : X.calm = true) (h : X.K = K := by rfl) : CallR X (.builtin "all") (rAllM K) := h ▸ cr_allM hc
end
/-! over data -/
section
variable {w : Wx} {ρ : Env'}
theorem wT_int {te : TE} {ΦB : Bool → Env' → Prop} (h : wE w te ρ fun d ρ1 => ∃ i, d = .int i ∧ ΦB (i != 0) ρ1) : wT w (tBI te) ρ ΦB := fun c H0 H σ Q a x k =>
  h c H0 H σ _ a x fun v d ρ1 H01 H1 ⟨i, e, q⟩ a1 e1 r1 => by subst e; cases r1; exact ⟨i, rfl, k _ ρ1 H01 H1 q a1 e1⟩
theorem wE_orI {ta tb : TE} {Φ : D → Env' → Prop} (h : wE w ta ρ fun d ρ1 => ∃ i, d = .int i ∧ if (i != 0) = true then Φ (.int i) ρ1 else wE w tb ρ1 Φ) : wE w (tOrI ta tb) ρ Φ := fun c H0 H σ Q a x k =>
  h c H0 H σ _ a x fun v d ρ1 H01 H1 ⟨i, e, q⟩ a1 e1 r1 => by
    subst e
    cases r1
    refine ⟨i, rfl, ?_⟩
    by_cases z : (i != 0) = true
    · rw [if_pos z] at q ⊢
      exact k _ _ ρ1 H01 H1 q a1 e1 (.int i)
    · rw [if_neg z] at q ⊢
      exact q c H01 H1 σ Q a1 x fun v d ρ2 H02 H2 q2 a2 e2 => k v d ρ2 H02 H2 q2 a2 (e1.trans e2)
theorem wE_bits {te : TE} {Φ : D → Env' → Prop} (h : wE w te ρ fun d ρ1 => ∃ i, d = .int i ∧ Φ (.int (Builtin.Int.intBits i : Nat)) ρ1) : wE w (tBits te) ρ Φ := fun c H0 H σ Q a x k =>
  h c H0 H σ _ a x fun v d ρ1 H01 H1 ⟨i, e, q⟩ a1 e1 r1 => by subst e; cases r1; exact ⟨i, rfl, k _ _ ρ1 H01 H1 q a1 e1 (.int _)⟩
end
def shlG : D → D → (D → Prop) → Prop := intG CPow fun i j => .int (i * 2 ^ j.toNat)
theorem opd_shl {K : PySem.W.Frag} : OpD K (rI CPow fun i j => .int (i * 2 ^ j.toNat)) shlG := opd_int fun _ _ _ => .int _
def andG : D → D → (D → Prop) → Prop := intG0 fun i j => .int (Builtin.bitAnd i j)
theorem opd_and {K : PySem.W.Frag} : OpD K (rI0 fun i j => .int (Builtin.bitAnd i j)) andG := opd_int0 fun _ _ _ => .int _
def orG : D → D → (D → Prop) → Prop := intG0 fun i j => .int (Builtin.bitOr i j)
theorem opd_or {K : PySem.W.Frag} : OpD K (rI0 fun i j => .int (Builtin.bitOr i j)) orG := opd_int0 fun _ _ _ => .int _
def ibD : Int ⊕ Bool → D
  | .inl i => .int i
  | .inr b => .bl b
theorem rep_ib {K : PySem.W.Frag} {H : Hp} : ∀ {us : List V} {xs : List (Int ⊕ Bool)}, RepAll K H us (xs.map ibD) → us = xs.map ibV
  | _, [], .nil => rfl
  | _, .inl i :: xs, .cons r rs => by cases (show Rep K H _ (.int i) from r); rw [rep_ib rs]; rfl
  | _, .inr b :: xs, .cons r rs => by cases (show Rep K H _ (.bl b) from r); rw [rep_ib rs]; rfl
def allMG (ds : List D) (Φ : D → Prop) : Prop := ∃ xs : List (Int ⊕ Bool), ds = [.lst (xs.map ibD)] ∧ Φ (.bl ((xs.map ibT).all id))
theorem cbd_allM {K : PySem.W.Frag} : CbD K (rAllM K) allMG := fun H0 H xs ds Φ Q e rx ⟨zs, h, g⟩ k => by
  subst h
  obtain ⟨v, rfl, r⟩ := vals_one rx
  cases r with
  | lst hp hr => rw [rep_ib hr] at hp; exact ⟨_, zs, rfl, .inl (.inl (e _ _ hp)), fin0 e g (.bl _) k⟩
theorem k_enumL {X : Cx} {e : Expr} {ta : TA} {p pos tpos : Pos} {elts : List Expr} {kk : Nat} (K : PySem.W.Frag) (hg : Gl X "enumerate") (hm : X.mg "enumerate" = none) (ha : PA X [e] ta) (hs : starEach [e] X.env = [(false, eval e X.env)] := by rfl) (h : X.K = K := by rfl) :
    PI X (.Tuple elts kk tpos) (.Call (.Name "enumerate" p) [e] [] pos) (iEnum K ta) := h ▸ pi_enum hg hm ha hs
theorem wI_enumL {w : Wx} {ρ : Env'} {ta : TA} {Φ : List D → Env' → Prop} (h : wA w ta ρ fun ds ρ1 => ∃ l, ds = [.lst l] ∧ Φ (enumD l) ρ1) : wI w (iEnum w.K ta) ρ Φ := fun c H0 H σ R a x k =>
  h c H0 H σ _ a x fun vs ds ρ1 H01 H1 ⟨l, e, q⟩ a1 e1 r1 => by
    subst e
    cases r1 with | cons r rs =>
    cases rs
    cases r with
    | lst hp hr =>
      have hl : (enumD l).length = l.length := by unfold enumD; rw [List.length_zipWith, List.length_range]; omega
      have sq : ∀ {G : Hp}, Ex H01 G → SqL w.K G _ _ := fun z => .inl (.inl (z _ _ hp))
      have hn := hr.length
      refine ⟨_, _, rfl, sq a1.px.i, k _ _ ρ1 H01 H1 q a1 e1 (fun i Ha Hb e j lt => ?_) (fun Ha Hb e j => ⟨_, sq (e.trans j), by omega⟩) (fun i Ha Hb x Hc e j lt y => ?_)⟩
      · exact ⟨_, _, sq (e.trans j), List.getElem?_eq_getElem (by omega)⟩
      · obtain ⟨T, xv, y1, y2, y3, y4⟩ := y
        subst y1 y3
        obtain ⟨d, g1, g2⟩ := hr.getV (y4 _ (sq (e.trans j)))
        have nx := (PX.refl (T := []) j).new (o := .tup [.int (i : Nat), xv]) y2
        refine ⟨.tup [.int (i : Nat), d], _, ?_, nx, .tup (.inl (.inl upd_same)) (.cons (.int _) (.cons (g2.mono (e.trans nx.e0)) .nil))⟩
        unfold enumD
        rw [List.getElem?_zipWith, List.getElem?_range (by omega), g1]
theorem and_nat (a b : Nat) : Builtin.bitAnd (a : Int) (b : Int) = ((a &&& b : Nat) : Int) := by
  unfold Builtin.bitAnd
  simp
theorem not_not (x : Int) : Builtin.bitNot (Builtin.bitNot x) = x := by
  unfold Builtin.bitNot
  omega
theorem or_nat (a b : Nat) : Builtin.bitOr (a : Int) (b : Int) = ((a ||| b : Nat) : Int) := by
  have n : ∀ c : Nat, decide (0 ≤ Builtin.bitNot (c : Int)) = false := fun c => decide_eq_false (by unfold Builtin.bitNot; omega)
  unfold Builtin.bitOr Builtin.bitAnd
  rw [n, n]
  show Builtin.bitNot (Builtin.bitNot _) = _
  rw [not_not, not_not, not_not]
  rfl
theorem andG_n {a b : Nat} {Φ : D → Prop} (h : Φ (.int ((a &&& b : Nat) : Int))) : andG (.int (a : Int)) (.int (b : Int)) Φ := by
  show Φ (.int (Builtin.bitAnd (a : Int) (b : Int)))
  rw [and_nat]
  exact h
theorem orG_n {a b : Nat} {Φ : D → Prop} (h : Φ (.int ((a ||| b : Nat) : Int))) : orG (.int (a : Int)) (.int (b : Int)) Φ := by
  show Φ (.int (Builtin.bitOr (a : Int) (b : Int)))
  rw [or_nat]
  exact h
theorem one_shl (k : Nat) : (1 : Int) * 2 ^ ((k : Int)).toNat = ((2 ^ k : Nat) : Int) := by simp
theorem shlG_1 {k : Nat} {Φ : D → Prop} (hk : k ≤ 1000000) (h : Φ (.int ((2 ^ k : Nat) : Int))) : shlG (.int 1) (.int (k : Int)) Φ := by
  refine ⟨⟨by omega, by omega, by decide⟩, ?_⟩
  show Φ (.int ((1 : Int) * 2 ^ ((k : Int)).toNat))
  rw [one_shl]
  exact h
end DL
/-! DL67: sorted(tuple of words); xs = [..] * n, x one's own. -/
/-! DL68: x not in t, t a tuple of plain data. -/
/-! DL69: list(range(n)) as a value. -/
/-! DL70: while .. and (x := e) op f. -/
/-! DL71: a call that looks at what is one's own and gives back a plain value; xs = list(e), one's own. -/
/-! DL72: numbers.index(n); a list of whatever it is == []. -/
/-! DL73: a dict of three lengths, keyed by words, read at once. -/
namespace DL
open PySem PySem.Spec L2
open PyProof.Rows hiding St
def topS (i : Nat) : Stmt := PySem.Challenge.pw_restballots_k38_known_nights.main.body.getD i (.Pass ⟨0, 0, 0, 0⟩)
local macro_rules | `(tactic| walk_at "dl1") => `(tactic| first
  | with_reducible refine wS_seq ?_
  | with_reducible refine wS_if ?_
  | with_reducible refine wS_next ?_
  | with_reducible refine wS_ret ?_
  | ((with_reducible show wS _ (tDrop (tBM _ _ rAppend (tVar _) _)) _ _); refine wS_append ?_ ⟨_, _, rfl⟩)
  | with_reducible refine wS_drop ?_
  | with_reducible refine wS_fld ?_
  | with_reducible refine wS_asgOwn ?_
  | with_reducible refine wS_asgKd ?_
  | with_reducible refine wS_asg ?_
  | with_reducible refine wG_name ?_
  | ((with_reducible refine wG_tup ?_); refine ⟨_, rfl, rfl, ?_⟩)
  | ((with_reducible show wG _ (gSub (tVar _) _ rSetL) _ _ _); refine wG_subOwn ⟨_, _, rfl⟩ ?_)
  | with_reducible refine wGs_cons ?_
  | with_reducible refine wGs_nil ?_
  | with_reducible refine wT_not ?_
  | with_reducible refine wT_or ?_
  | with_reducible refine wT_test ?_
  | with_reducible refine wT_B ?_
  | with_reducible refine wT_int ?_
  | with_reducible refine wT_yes ?_
  | with_reducible refine wA_nil ?_
  | with_reducible refine wA_cons ?_)
local macro_rules | `(tactic| walk_at "dl2") => `(tactic| first
  | ((with_reducible show wE _ (tVar _) _ _); (first | refine wE_var rfl ?_ | refine wE_give rfl ?_))
  | with_reducible refine wE_int ?_
  | with_reducible refine wE_str ?_
  | with_reducible refine wE_bl ?_
  | with_reducible refine wE_non ?_
  | with_reducible refine wE_raw ?_
  | with_reducible refine wE_andV ?_
  | with_reducible refine wE_notV ?_
  | with_reducible refine wE_if ?_
  | with_reducible refine wE_tup ?_
  | with_reducible refine wE_lst ?_
  | with_reducible refine wE_call ?_
  | with_reducible refine wE_op opd_add ?_
  | with_reducible refine wE_op opd_sub ?_
  | with_reducible refine wE_op opd_mul ?_
  | with_reducible refine wE_op opd_mod ?_
  | with_reducible refine wE_op opd_fdiv ?_
  | with_reducible refine wE_op opd_fdivW ?_
  | with_reducible refine wE_op opd_pow ?_
  | with_reducible refine wE_op opd_lt ?_
  | with_reducible refine wE_op opd_le ?_
  | with_reducible refine wE_op opd_gt ?_
  | with_reducible refine wE_op opd_ge ?_
  | with_reducible refine wE_op opd_eq ?_
  | with_reducible refine wE_op opd_ne ?_
  | ((with_reducible show wE _ (tOp (rIx _) (tVar _) _) _ _); refine wE_ixOwn ⟨_, _, rfl⟩ ?_)
  | with_reducible refine wE_op opd_ix ?_
  | with_reducible refine wE_chain opd_le opd_le ?_
  | with_reducible refine wE_cb cbd_len ?_
  | with_reducible refine wE_cb cbd_isi ?_
  | with_reducible refine wE_cb cbd_all ?_
  | with_reducible refine wE_cb cbd_sum ?_
  | with_reducible refine wE_cb cbd_lcm ?_
  | with_reducible refine wE_sortRev ?_
  | with_reducible refine wE_cb cbd_tup ?_
  | with_reducible refine wE_cb cbd_list ?_
  | with_reducible refine wE_cb cbd_str ?_
  | with_reducible refine wE_cb cbd_int ?_
  | with_reducible refine wE_cb cbd_abs ?_
  | with_reducible refine wE_cb cbd_min2 ?_
  | with_reducible refine wE_cb cbd_max2 ?_
  | with_reducible refine wE_cb cbd_minL ?_
  | with_reducible refine wE_cb cbd_maxL ?_
  | with_reducible refine wE_op opd_ltS ?_
  | with_reducible refine wE_op opd_shl ?_
  | with_reducible refine wE_op opd_and ?_
  | with_reducible refine wE_op opd_or ?_
  | with_reducible refine wE_bits ?_
  | with_reducible refine wE_orI ?_
  | with_reducible refine wE_cb cbd_allM ?_
  | with_reducible refine wE_dgetI ?_
  | ((with_reducible show wE _ (tOp (rKdNot _ _ _) _ (tVar _)) _ _); refine wE_kdNot ⟨_, _, rfl⟩ ?_)
  | ((with_reducible show wE _ (tKdGet _ _ _ (tVar _) _) _ _); refine wE_kdGet ⟨_, _, rfl⟩ ?_)
  | with_reducible refine wE_sortSetT ?_
  | with_reducible refine wE_cb cbd_divmod ?_
  | with_reducible refine wE_un und_neg ?_
  | with_reducible refine wE_sl sld_sl ?_
  | with_reducible refine wO_none ?_
  | with_reducible refine wO_some ?_
  | with_reducible refine wE_op opd_sign ?_
  | with_reducible refine wE_mt mtd_joinK ty_of ?_
  | with_reducible refine wE_joined ?_
  | with_reducible refine wJ_cons ?_
  | with_reducible refine wJ_nil ?_
  | with_reducible refine wE_fmt ?_
  | with_reducible refine wE_propD ?_
  | with_reducible refine wE_fld ?_
  | with_reducible refine wE_cb cbd_lenOwn ?_
  | with_reducible refine wE_makeD ?_
  | with_reducible refine wE_methD ?_
  | with_reducible refine wS_par ?_
  | with_reducible refine wE_tupRg ?_
  | with_reducible refine wE_dget2 ?_
  | with_reducible refine wE_op opd_inS ?_)
local macro_rules | `(tactic| walk_at "dl3") => `(tactic| first
  | with_reducible refine ifT ?_
  | with_reducible refine ifF ?_
  | with_reducible refine ifNT ?_
  | with_reducible refine ifNF ?_
  | ((with_reducible show if decide _ = true then _ else _); (first | refine ifP (by first | assumption | omega | decide) ?_ | refine ifN (by first | assumption | omega | decide) ?_))
  | ((with_reducible show if (!decide _) = true then _ else _); (first | refine ifNP (by first | assumption | omega | decide) ?_ | refine ifNN (by first | assumption | omega | decide) ?_))
  | ((with_reducible show ∃ (_ : Option Addr) (_ : Int), _); refine ⟨_, _, _, _, rfl, rfl, rfl, ?_⟩)
  | ((with_reducible show (_ : D) = _ ∧ _); with_reducible refine And.intro rfl ?_)
  | with_reducible refine ex_bl ?_
  | with_reducible refine And.intro isTy_s ?_
  | with_reducible refine ex_int ?_
  | with_reducible refine ex_str ?_
  | with_reducible refine leG_i ?_
  | with_reducible refine ltG_i ?_
  | with_reducible refine gtG_i ?_
  | with_reducible refine geG_i ?_
  | with_reducible refine subG_i ?_
  | with_reducible refine addG_i ?_
  | with_reducible refine eqG_i ?_
  | with_reducible refine neG_i ?_
  | with_reducible refine eqG_ss ?_
  | with_reducible refine neG_bb ?_
  | with_reducible refine unG_i ?_
  | with_reducible refine lenG_l ?_
  | with_reducible refine lenG_t ?_
  | with_reducible refine lenG_c ?_
  | with_reducible refine tupG_l ?_
  | with_reducible refine listG_t ?_
  | with_reducible refine intOfG_i ?_
  | with_reducible refine minG_i ?_
  | with_reducible refine maxG_i ?_
  | with_reducible refine absG_i ?_
  | with_reducible refine isiG_int ?_
  | with_reducible refine isiG_intb ?_
  | with_reducible refine isiG_str ?_
  | with_reducible refine isiG_tup ?_
  | with_reducible refine slG_t ?_
  | with_reducible refine slG_c ?_
  | ((with_reducible show modG (.int _) (.int _) _); refine modG_i (by first | decide | omega) ?_)
  | ((with_reducible show fdivG (.int _) (.int _) _); refine fdivG_i (by first | decide | omega) (by first | decide | omega) ?_)
  | ((with_reducible show powG (.int _) (.int _) _); refine powG_i ⟨by decide, by decide, by decide⟩ ?_)
  | ((with_reducible show mulG (.int _) (.int _) _); refine mulG_i (by first | exact MulC.right (by decide) (by decide) | exact MulC.left (by decide) (by decide) | exact MulC.left (by omega) (by omega) | exact MulC.right (by omega) (by omega)) ?_)
  | ((with_reducible show mulAG (.int _) (.int _) _); refine And.intro (by first | exact MulC.right (by decide) (by decide) | exact MulC.left (by decide) (by decide) | exact MulC.left (by omega) (by omega) | exact MulC.right (by omega) (by omega)) ?_)
  | ((with_reducible show ixG (.lst _) (.int 0) _); refine ixG_l0 rfl ?_)
  | ((with_reducible show ixG (.tup _) (.int 0) _); refine ixG_t0 rfl ?_)
  | ((with_reducible show ixG (.tup _) (.int 1) _); refine ixG_t1 rfl ?_)
  | ((with_reducible show ixG (.tup (_ :: _)) (.int _) _); refine ixG_t rfl ?_)
  | ((with_reducible show ixG (.lst (_ :: _)) (.int _) _); refine ixG_l rfl ?_))
local macro_rules | `(tactic| walk_at "dl") => `(tactic| repeat (first | walk_at "dl1" | walk_at "dl2" | walk_at "dl3"))
local macro_rules | `(tactic| walk_at "dl1o") => `(tactic| first
  | with_reducible refine wS_seq ?_
  | with_reducible refine wS_if ?_
  | with_reducible refine wS_next ?_
  | with_reducible refine wS_retOwn ?_
  | ((with_reducible show wS _ (tDrop (tBM _ _ rAppend (tVar _) _)) _ _); refine wS_append ?_ ⟨_, _, rfl⟩)
  | with_reducible refine wS_drop ?_
  | with_reducible refine wS_fld ?_
  | with_reducible refine wS_asgOwn ?_
  | with_reducible refine wS_asgKd ?_
  | with_reducible refine wS_asg ?_
  | with_reducible refine wG_name ?_
  | ((with_reducible refine wG_tup ?_); refine ⟨_, rfl, rfl, ?_⟩)
  | ((with_reducible show wG _ (gSub (tVar _) _ rSetL) _ _ _); refine wG_subOwn ⟨_, _, rfl⟩ ?_)
  | with_reducible refine wGs_cons ?_
  | with_reducible refine wGs_nil ?_
  | with_reducible refine wT_not ?_
  | with_reducible refine wT_or ?_
  | with_reducible refine wT_test ?_
  | with_reducible refine wT_B ?_
  | with_reducible refine wT_int ?_
  | with_reducible refine wT_yes ?_
  | with_reducible refine wA_nil ?_
  | with_reducible refine wA_cons ?_)
local macro_rules | `(tactic| walk_at "dlo") => `(tactic| repeat (first | walk_at "dl1o" | walk_at "dl2" | walk_at "dl3"))
local macro_rules | `(tactic| walk_at "dlt") => `(tactic| repeat (first | walk_at "dl1" | walk_at "dl2" | walk_at "dl3" | (with_reducible show List.length _ ≤ _ ∧ _; refine And.intro (by simp; done) ?_)))
section
variable {P : Program} {w : World} {K : PySem.W.Frag} {mg : Str → Option Value} {base : Heap} {f : Addr} {fd : FuncData}
/-! ### kinds, of values that are right -/
def S_is_integer : DSp := fun ds Φ _ => ∃ i, ds = [.int i] ∧ Φ (.bl true)
abbrev s_is_integer : Stmt := topS 22
abbrev N_is_integer : List Str := ["value"]
theorem sc_is_integer : FnScope N_is_integer ["value"] (defScope s_is_integer) := ⟨rfl, rfl, rfl, by decide +kernel, rfl, by decide +kernel, by decide +kernel⟩
theorem ok_is_integer (F : FunX K "is_integer" "is_integer" s_is_integer f fd) (B : Blt mg) : FnG P w K mg base 1 f fd ["value"] (lift K S_is_integer) := by
  refine fnX_of F sc_is_integer (fun ds Φ Ψ ⟨_, h, _⟩ => by rw [h]; rfl) fun cdv A outer s H E b => ⟨_, (pss_one (ps_ret (pe_and (pe_callB (k_isi K) (by rfl) B.isinstance bb_isinstance (pa_cons (pv 0) (pa_cons (pe_bty B.int bb_int) pa_nil))) (pe_one (pe_not (pe_callB (k_isi K) (by rfl) B.isinstance bb_isinstance (pa_cons (pv 0) (pa_cons (pe_bty B.bool bb_bool) pa_nil)))))))), fun ds Φ Ψ ⟨i, h, q⟩ => ?_⟩
  subst h
  show wS _ _ _ [some (.dat _)]
  walk_at "dl"
  exact q
def S_is_between : DSp := fun ds Φ _ => ∃ i lo hi : Int, ds = [.int i, .int lo, .int hi] ∧ lo ≤ i ∧ i ≤ hi ∧ Φ (.bl true)
abbrev s_is_between : Stmt := topS 23
abbrev N_is_between : List Str := ["value", "least", "most"]
theorem sc_is_between : FnScope N_is_between ["value", "least", "most"] (defScope s_is_between) := ⟨rfl, rfl, rfl, by decide +kernel, rfl, by decide +kernel, by decide +kernel⟩
theorem ok_is_between (F : FunX K "is_between" "is_between" s_is_between f fd) (c_is_integer : CallD P w K mg base "is_integer" 1 S_is_integer) : FnG P w K mg base 2 f fd ["value", "least", "most"] (lift K S_is_between) := by
  refine fnX_of F sc_is_between (fun ds Φ Ψ ⟨_, _, _, h, _⟩ => by rw [h]; rfl) fun cdv A outer s H E b => ⟨_, (pss_one (ps_ret (pe_and (k_cd K c_is_integer (by exact b.room) (by decide) b.pass (pa_cons (pv 0) pa_nil)) (pe_one (pe_chain op_le op_le (pv 1) (pv 0) (pv 2)))))), fun ds Φ Ψ ⟨i, lo, hi, h, h1, h2, q⟩ => ?_⟩
  subst h
  show wS _ _ _ [some (.dat _), some (.dat _), some (.dat _)]
  walk_at "dl"
  refine ⟨_, rfl, ?_⟩
  walk_at "dl"
  rw [decide_eq_true h2]
  exact q
end
/-! ### the mathematics of nights -/
def letters : Str := "abcdefghijklmnopqrstuvwxyz"
def lettersD : Str := "abcdefghijklmnopqrstuvwxyz0123456789"
structure NameOk (z : Str) : Prop where
  l1 : 1 ≤ z.length
  l8 : z.length ≤ 8
  hd : ∃ c, z.cps.toList[0]? = some c ∧ c ∈ letters.cps.toList
  al : ∀ c ∈ z.cps.toList, c ∈ lettersD.cps.toList
theorem lettersD_small : ∀ c ∈ lettersD.cps.toList, c < 128 := by decide +kernel
theorem NameOk.ok {z : Str} (h : NameOk z) : PyData.strOk z = true := by
  simp only [PyData.strOk, Array.all_eq_true', decide_eq_true_eq]
  intro c hc
  exact Nat.lt_trans (lettersD_small c (h.al c (by simpa using hc))) (by decide)
structure DivOk (ns : List Int) : Prop where
  l1 : 1 ≤ ns.length
  l2 : ns.length ≤ 12
  b : ∀ n ∈ ns, 1 ≤ n ∧ n ≤ 100
  up : ns.Pairwise (· < ·)
structure FolkOk (l : List (Str × Int)) : Prop where
  l1 : 1 ≤ l.length
  l2 : l.length ≤ 6
  b : ∀ p ∈ l, NameOk p.1 ∧ 0 ≤ p.2 ∧ p.2 ≤ 1000000
  nd : (l.map (·.1)).Nodup
structure HeapOk (names : List Str) (p : Int × List Str) : Prop where
  b1 : 0 ≤ p.1
  b2 : p.1 ≤ 1000000
  ne : p.2 ≠ []
  sub : p.2.Sublist names
structure HeapsOk (names : List Str) (l : List (Int × List Str)) : Prop where
  l2 : l.length ≤ 6
  b : ∀ p ∈ l, HeapOk names p
def partyD (p : Str × Int) : D := .tup [.str p.1, .int p.2]
def pileD (p : Int × List Str) : D := .tup [.int p.1, .tup (p.2.map .str)]
def divsD (ns : List Int) : D := .tup (ns.map .int)
def folkD (l : List (Str × Int)) : D := .tup (l.map partyD)
def heapsD (l : List (Int × List Str)) : D := .tup (l.map pileD)
theorem allG_map {α : Type} {xs : List α} {q : α → Bool} {Φ : D → Prop} (h : Φ (.bl (xs.all q))) : allG [.lst (xs.map fun x => .bl (q x))] Φ := ⟨xs.map q, by rw [List.map_map]; rfl, by rw [List.all_map]; exact h⟩
section
variable {P : Program} {w : World} {K : PySem.W.Frag} {mg : Str → Option Value} {base : Heap} {f : Addr} {fd : FuncData}
def S_is_tuple_of : DSp := fun ds Φ _ => ∃ (l : List D) (n : Int), ds = [.tup l, .int n] ∧ (l.length : Int) = n ∧ Φ (.bl true)
abbrev s_is_tuple_of : Stmt := topS 25
abbrev N_is_tuple_of : List Str := ["value", "many"]
theorem sc_is_tuple_of : FnScope N_is_tuple_of ["value", "many"] (defScope s_is_tuple_of) := ⟨rfl, rfl, rfl, by decide +kernel, rfl, by decide +kernel, by decide +kernel⟩
theorem ok_is_tuple_of (F : FunX K "is_tuple_of" "is_tuple_of" s_is_tuple_of f fd) (B : Blt mg) : FnG P w K mg base 1 f fd ["value", "many"] (lift K S_is_tuple_of) := by
  refine fnX_of F sc_is_tuple_of (fun ds Φ Ψ ⟨_, _, h, _⟩ => by rw [h]; rfl) fun cdv A outer s H E b => ⟨_, (pss_one (ps_ret (pe_and (pe_callB (k_isi K) (by rfl) B.isinstance bb_isinstance (pa_cons (pv 0) (pa_cons (pe_bty B.tuple bb_tuple) pa_nil))) (pe_one (pe_cmpR (k_eq K (by exact b.room)) (pe_callB (k_len K) (by rfl) B.len bb_len (pa_cons (pv 0) pa_nil)) (pv 1) (nomark _)))))), fun ds Φ Ψ ⟨l, n, h, hn, q⟩ => ?_⟩
  subst h
  show wS _ _ _ [some (.dat _), some (.dat _)]
  walk_at "dl"
  rw [decide_eq_true hn]
  exact q
def S_is_name : DSp := fun ds Φ _ => ∃ z, ds = [.str z] ∧ NameOk z ∧ Φ (.bl true)
abbrev s_is_name : Stmt := topS 26
abbrev N_is_name : List Str := ["value", "sign"]
theorem sc_is_name : FnScope N_is_name ["value"] (defScope s_is_name) := ⟨rfl, rfl, rfl, by decide +kernel, rfl, by decide +kernel, by decide +kernel⟩
theorem ok_is_name (F : FunX K "is_name" "is_name" s_is_name f fd) (B : Blt mg) (c_MOST_LETTERS : GInt mg "MOST_LETTERS" 8) (c_LETTERS : GStr mg "LETTERS" letters) (c_LETTERS_AND_DIGITS : GStr mg "LETTERS_AND_DIGITS" lettersD) : FnG P w K mg base 1 f fd ["value"] (lift K S_is_name) := by
  refine fnX_of F sc_is_name (fun ds Φ Ψ ⟨_, h, _⟩ => by rw [h]; rfl) fun cdv A outer s H E b => ⟨_, (pss_cons (ps_if (PW.pt (pw_or (pt_not (pt_val (pe_callB (k_isi K) (by rfl) B.isinstance bb_isinstance (pa_cons (pv 0) (pa_cons (pe_bty B.str bb_str) pa_nil))))) (pw_or1 (pt_not (pt_chain op_le op_le pe_int (pe_callB (k_len K) (by rfl) B.len bb_len (pa_cons (pv 0) pa_nil)) (pe_gi c_MOST_LETTERS)))))) (pss_one (ps_ret pe_bl)) pss_nil)
 (pss_one (ps_ret (pe_and (pe_cmpR opr_sign (pe_ix (k_ix K) (pv 0) pe_int (fun _ _ => rfl)) (pe_gs c_LETTERS) (by with_unfolding_all rfl)) (pe_one (pe_callB (k_all K rfl) (by rfl) B.all bb_all (pa_cons (pe_lc (own := [("sign", 1)]) rfl sc_is_name.nd (k_any K (pv 0)) (blkOk_by (own := [("sign", 1)]) (N := N_is_name) (sc := defScope s_is_name) (by decide +kernel))  (fun _ _ _ _ _ => (pg_name (i := 1) sc_is_name.nd rfl (by first | exact .inl rfl | exact .inr rfl))) (fun _ _ _ _ _ => pts_nil) (fun _ _ _ _ _ => (pe_cmpR opr_sign (pv 1) (pe_gs c_LETTERS_AND_DIGITS) (by with_unfolding_all rfl)))) pa_nil))))))), fun ds Φ Ψ ⟨z, h, hn, q⟩ => ?_⟩
  subst h
  have n1 := hn.l1
  have n2 := hn.l8
  show wS _ _ _ [some (.dat _), none]
  walk_at "dl"
  refine lenG_s (by omega) ?_
  walk_at "dl"
  obtain ⟨c0, h0, h0'⟩ := hn.hd
  refine ixG_s (by omega) (L2.atI_nat h0) ?_
  walk_at "dl"
  refine ⟨c0, _, rfl, rfl, ?_⟩
  walk_at "dl"
  refine wE_lcM (only_name List.mem_cons_self) (fun c => .str ⟨#[c]⟩) (fun c => .bl (decide (c ∈ lettersD.cps.toList))) (wI_any ?_)
  walk_at "dl"
  have hl : z.cps.toList.length = z.length := by simp [Str.length]
  refine ⟨_, rfl, z.cps.toList, rfl, by omega, fun c hc => ?_, ?_⟩
  · walk_at "dl"
    exact ⟨c, _, rfl, rfl, rfl⟩
  · walk_at "dl"
    refine allG_map ?_
    rw [List.all_eq_true.mpr fun c hc => decide_eq_true (hn.al c hc)]
    exact q
theorem all_up {ns : List Int} (h : ns.Pairwise (· < ·)) : ((ns.zip (ns.drop 1)).all fun p => decide (p.1 < p.2)) = true := by
  induction ns with
  | nil => rfl
  | cons a l ih =>
    cases l with
    | nil => rfl
    | cons b l =>
      have h2 := List.pairwise_cons.mp h
      have := ih h2.2
      show (decide (a < b) && ((b :: l).zip l).all fun p => decide (p.1 < p.2)) = true
      rw [decide_eq_true (h2.1 b List.mem_cons_self), Bool.true_and]
      exact this
def S_is_divisors : DSp := fun ds Φ _ => ∃ ns, ds = [divsD ns] ∧ DivOk ns ∧ Φ (.bl true)
abbrev s_is_divisors : Stmt := topS 27
abbrev N_is_divisors : List Str := ["value", "item", "low", "high"]
theorem sc_is_divisors : FnScope N_is_divisors ["value"] (defScope s_is_divisors) := ⟨rfl, rfl, rfl, by decide +kernel, rfl, by decide +kernel, by decide +kernel⟩
theorem ok_is_divisors (F : FunX K "is_divisors" "is_divisors" s_is_divisors f fd) (B : Blt mg) (c_MOST_SEATS : GInt mg "MOST_SEATS" 12) (c_MOST_DIVISOR : GInt mg "MOST_DIVISOR" 100) (c_is_between : CallD P w K mg base "is_between" 2 S_is_between) : FnG P w K mg base 3 f fd ["value"] (lift K S_is_divisors) := by
  refine fnX_of F sc_is_divisors (fun ds Φ Ψ ⟨_, h, _⟩ => by rw [h]; rfl) fun cdv A outer s H E b => ⟨_, (pss_cons (ps_if (PW.pt (pw_or (pt_not (pt_val (pe_callB (k_isi K) (by rfl) B.isinstance bb_isinstance (pa_cons (pv 0) (pa_cons (pe_bty B.tuple bb_tuple) pa_nil))))) (pw_or1 (pt_not (pt_chain op_le op_le pe_int (pe_callB (k_len K) (by rfl) B.len bb_len (pa_cons (pv 0) pa_nil)) (pe_gi c_MOST_SEATS)))))) (pss_one (ps_ret pe_bl)) pss_nil)
 (pss_cons (ps_if (pt_not (pt_val (pe_callB (k_all K rfl) (by rfl) B.all bb_all (pa_cons (pe_lc (own := [("item", 1)]) rfl sc_is_divisors.nd (k_any K (pv 0)) (blkOk_by (own := [("item", 1)]) (N := N_is_divisors) (sc := defScope s_is_divisors) (by decide +kernel))  (fun _ _ _ _ _ => (pg_name (i := 1) sc_is_divisors.nd rfl (by first | exact .inl rfl | exact .inr rfl))) (fun _ _ _ _ _ => pts_nil) (fun _ _ _ _ _ => (k_cd K c_is_between (by exact b.room) (by decide) passN (pa_cons (pv 1) (pa_cons pe_int (pa_cons (pe_gi c_MOST_DIVISOR) pa_nil)))))) pa_nil)))) (pss_one (ps_ret pe_bl)) pss_nil)
 (pss_one (ps_ret (pe_callB (k_all K rfl) (by rfl) B.all bb_all (pa_cons (pe_lc (own := [("low", 2), ("high", 3)]) rfl sc_is_divisors.nd (k_zip K (by rfl) B.zip (pa_cons (pv 0) (pa_cons (pe_slice (k_sl K) (pv 0) (po_some pe_int) po_none) pa_nil))) (blkOk_by (own := [("low", 2), ("high", 3)]) (N := N_is_divisors) (sc := defScope s_is_divisors) (by decide +kernel))  (fun _ _ _ _ _ => (k_pg K (n := 2) rfl (pgs_cons (pg_name (i := 2) sc_is_divisors.nd rfl (by first | exact .inl rfl | exact .inr rfl)) (pgs_cons (pg_name (i := 3) sc_is_divisors.nd rfl (by first | exact .inl rfl | exact .inr rfl)) pgs_nil)))) (fun _ _ _ _ _ => pts_nil) (fun _ _ _ _ _ => (pe_cmpR op_lt (pv 2) (pv 3) (nomark _)))) pa_nil)))))), fun ds Φ Ψ ⟨ns, h, hn, q⟩ => ?_⟩
  subst h
  have n1 := hn.l1
  have n2 := hn.l2
  have hl : (ns.map D.int).length = ns.length := List.length_map _
  show wS _ _ _ [some (.dat _), none, none, none]
  unfold divsD
  walk_at "dl"
  refine wE_lcM (only_name List.mem_cons_self) D.int (fun _ => .bl true) (wI_any ?_)
  walk_at "dl"
  refine ⟨_, rfl, ns, rfl, by omega, fun n hm => ?_, ?_⟩
  · walk_at "dl"
    exact ⟨n, 1, 100, rfl, (hn.b n hm).1, (hn.b n hm).2, rfl⟩
  walk_at "dl"
  refine allG_map (q := fun _ => true) ?_
  rw [List.all_eq_true.mpr fun _ _ => rfl]
  walk_at "dl"
  refine wE_lcM (only_pair List.mem_cons_self (List.mem_cons_of_mem _ List.mem_cons_self)) (fun p : Int × Int => .tup [.int p.1, .int p.2]) (fun p => .bl (decide (p.1 < p.2))) (wI_zipT ?_)
  walk_at "dl"
  refine ⟨_, _, rfl, ns.zip (ns.drop 1), ?_, by rw [List.length_zip]; omega, fun p hp => ?_, ?_⟩
  · rw [cut_from1, ← List.map_drop, zipD_map]
  · walk_at "dl"
    rfl
  walk_at "dl"
  refine allG_map ?_
  rw [all_up hn.up]
  exact q
def S_is_party : DSp := fun ds Φ _ => ∃ p, ds = [partyD p] ∧ NameOk p.1 ∧ 0 ≤ p.2 ∧ p.2 ≤ 1000000 ∧ Φ (.bl true)
abbrev s_is_party : Stmt := topS 28
abbrev N_is_party : List Str := ["value"]
theorem sc_is_party : FnScope N_is_party ["value"] (defScope s_is_party) := ⟨rfl, rfl, rfl, by decide +kernel, rfl, by decide +kernel, by decide +kernel⟩
theorem ok_is_party (F : FunX K "is_party" "is_party" s_is_party f fd) (c_MOST_COUNT : GInt mg "MOST_COUNT" 1000000) (c_is_tuple_of : CallD P w K mg base "is_tuple_of" 1 S_is_tuple_of) (c_is_name : CallD P w K mg base "is_name" 1 S_is_name) (c_is_between : CallD P w K mg base "is_between" 2 S_is_between) : FnG P w K mg base 3 f fd ["value"] (lift K S_is_party) := by
  refine fnX_of F sc_is_party (fun ds Φ Ψ ⟨_, h, _⟩ => by rw [h]; rfl) fun cdv A outer s H E b => ⟨_, (pss_one (ps_ret (pe_and (k_cd K c_is_tuple_of (by exact b.room) (by decide) b.pass (pa_cons (pv 0) (pa_cons pe_int pa_nil))) (pe_and (k_cd K c_is_name (by exact b.room) (by decide) b.pass (pa_cons (pe_ix (k_ix K) (pv 0) pe_int (fun _ _ => rfl)) pa_nil)) (pe_one (k_cd K c_is_between (by exact b.room) (by decide) b.pass (pa_cons (pe_ix (k_ix K) (pv 0) pe_int (fun _ _ => rfl)) (pa_cons pe_int (pa_cons (pe_gi c_MOST_COUNT) pa_nil))))))))), fun ds Φ Ψ ⟨p, h, h1, h2, h3, q⟩ => ?_⟩
  subst h
  show wS _ _ _ [some (.dat _)]
  unfold partyD
  walk_at "dl"
  refine ⟨_, _, rfl, rfl, ?_⟩
  walk_at "dl"
  refine ⟨_, rfl, h1, ?_⟩
  walk_at "dl"
  exact ⟨_, _, _, rfl, h2, h3, q⟩
/-- the names of a group, picked from all names -/
theorem pick_sub {ns names : List Str} (h : ns.Sublist names) (nd : names.Nodup) : names.filter (fun x => decide (x ∈ ns)) = ns := by
  induction h with
  | slnil => rfl
  | @cons l₁ l₂ a h ih =>
    have h2 := List.nodup_cons.mp nd
    have hn : a ∉ l₁ := fun z => h2.1 (h.subset z)
    rw [List.filter_cons, if_neg (by simpa using hn), ih h2.2]
  | @cons_cons l₁ l₂ a h ih =>
    have h2 := List.nodup_cons.mp nd
    rw [List.filter_cons, if_pos (by simp)]
    congr 1
    rw [← ih h2.2]
    refine List.filter_congr fun x hx => ?_
    have hne : x ≠ a := fun e => h2.1 (e ▸ hx)
    rw [ih h2.2]
    simp [hne]
theorem eqv_strs : ∀ zs : List Str, PyData.eqvAll (pyAll (zs.map D.str)) (pyAll (zs.map D.str)) = true
  | [] => rfl
  | z :: zs => by
    have := eqv_strs zs
    simp only [List.map_cons, pyAll, D.py, PyData.eqvAll, PyData.eqv, this, beq_self_eq_true, Bool.and_self]
theorem shp_strs {n : Nat} {zs : List Str} (h : ∀ z ∈ zs, PyData.strOk z = true) : ∀ d ∈ zs.map D.str, Shp n d := fun d hd => by
  obtain ⟨z, hz, rfl⟩ := List.mem_map.mp hd
  exact .str (h z hz)
def S_is_group : DSp := fun ds Φ _ => ∃ zs names, ds = [.tup (zs.map .str), .tup (names.map .str)] ∧ zs ≠ [] ∧ zs.Sublist names ∧ names.Nodup ∧ (∀ z ∈ names, PyData.strOk z = true) ∧ names.length ≤ 6 ∧ Φ (.bl true)
abbrev s_is_group : Stmt := topS 29
abbrev N_is_group : List Str := ["value", "names", "item", "name"]
theorem sc_is_group : FnScope N_is_group ["value", "names"] (defScope s_is_group) := ⟨rfl, rfl, rfl, by decide +kernel, rfl, by decide +kernel, by decide +kernel⟩
theorem ok_is_group (F : FunX K "is_group" "is_group" s_is_group f fd) (B : Blt mg) : FnG P w K mg base 1 f fd ["value", "names"] (lift K S_is_group) := by
  refine fnX_of F sc_is_group (fun ds Φ Ψ ⟨_, _, h, _⟩ => by rw [h]; rfl) fun cdv A outer s H E b => ⟨_, (pss_cons (ps_if (PW.pt (pw_or (pt_not (pt_val (pe_callB (k_isi K) (by rfl) B.isinstance bb_isinstance (pa_cons (pv 0) (pa_cons (pe_bty B.tuple bb_tuple) pa_nil))))) (pw_or1 (pt_cmpR (k_eq K (by exact b.room)) (pe_callB (k_len K) (by rfl) B.len bb_len (pa_cons (pv 0) pa_nil)) pe_int (nomark _))))) (pss_one (ps_ret pe_bl)) pss_nil)
 (pss_cons (ps_if (pt_not (pt_val (pe_callB (k_all K rfl) (by rfl) B.all bb_all (pa_cons (pe_lc (own := [("item", 2)]) rfl sc_is_group.nd (k_any K (pv 0)) (blkOk_by (own := [("item", 2)]) (N := N_is_group) (sc := defScope s_is_group) (by decide +kernel))  (fun _ _ _ _ _ => (pg_name (i := 2) sc_is_group.nd rfl (by first | exact .inl rfl | exact .inr rfl))) (fun _ _ _ _ _ => pts_nil) (fun _ _ _ _ _ => (pe_callB (k_isi K) (by rfl) B.isinstance bb_isinstance (pa_cons (pv 2) (pa_cons (pe_bty B.str bb_str) pa_nil))))) pa_nil)))) (pss_one (ps_ret pe_bl)) pss_nil)
 (pss_one (ps_ret (pe_cmpR (k_eq K (by exact b.room)) (pe_callTy (k_list K) (by rfl) B.list bb_list (pa_cons (pv 0) pa_nil)) (pe_lc (own := [("name", 3)]) rfl sc_is_group.nd (k_any K (pv 1)) (blkOk_by (own := [("name", 3)]) (N := N_is_group) (sc := defScope s_is_group) (by decide +kernel))  (fun _ _ _ _ _ => (pg_name (i := 3) sc_is_group.nd rfl (by first | exact .inl rfl | exact .inr rfl))) (fun _ _ _ _ _ => (pts_one (pt_cmpR (k_in K) (pv 3) (pv 0) (by with_unfolding_all rfl)))) (fun _ _ _ _ _ => (pv 3))) (nomark _)))))), fun ds Φ Ψ ⟨zs, names, h, h1, h2, h3, h4, h5, q⟩ => ?_⟩
  subst h
  have hl : (zs.map D.str).length = zs.length := List.length_map _
  have hz := h2.length_le
  have hp : 0 < zs.length := List.length_pos_iff.mpr h1
  show wS _ _ _ [some (.dat _), some (.dat _), none, none]
  walk_at "dl"
  refine wE_lcM (only_name List.mem_cons_self) D.str (fun _ => .bl true) (wI_any ?_)
  walk_at "dl"
  refine ⟨_, rfl, zs, rfl, by omega, fun n hm => ?_, ?_⟩
  · walk_at "dl"
    rfl
  walk_at "dl"
  refine allG_map (q := fun _ => true) ?_
  rw [List.all_eq_true.mpr fun _ _ => rfl]
  walk_at "dl"
  refine wE_lcF (only_name List.mem_cons_self) D.str D.str (fun x => decide (x ∈ zs)) (wI_any ?_)
  walk_at "dl"
  refine ⟨_, rfl, names, rfl, by omega, fun x hm => ?_, ?_⟩
  · walk_at "dl"
    refine ⟨x, zs, rfl, .inl rfl, ?_⟩
    walk_at "dl"
    refine ⟨rfl, fun _ => ?_⟩
    walk_at "dl"
    rfl
  rw [pick_sub h2 h3]
  have hs := shp_strs (n := 63) fun z hz => h4 z (h2.subset hz)
  refine eqG_of ((Shp.lst hs).mono (by decide)) ((Shp.lst hs).mono (by decide)) ?_
  have e : D.eqv (.lst (zs.map D.str)) (.lst (zs.map D.str)) = true := by
    simp only [D.eqv, D.py, PyData.eqv]
    exact eqv_strs zs
  rw [e]
  exact q
def S_is_pile : DSp := fun ds Φ _ => ∃ p names, ds = [pileD p, .tup (names.map .str)] ∧ HeapOk names p ∧ names.Nodup ∧ (∀ z ∈ names, PyData.strOk z = true) ∧ names.length ≤ 6 ∧ Φ (.bl true)
abbrev s_is_pile : Stmt := topS 30
abbrev N_is_pile : List Str := ["value", "names"]
theorem sc_is_pile : FnScope N_is_pile ["value", "names"] (defScope s_is_pile) := ⟨rfl, rfl, rfl, by decide +kernel, rfl, by decide +kernel, by decide +kernel⟩
theorem ok_is_pile (F : FunX K "is_pile" "is_pile" s_is_pile f fd) (c_MOST_COUNT : GInt mg "MOST_COUNT" 1000000) (c_is_tuple_of : CallD P w K mg base "is_tuple_of" 1 S_is_tuple_of) (c_is_group : CallD P w K mg base "is_group" 1 S_is_group) (c_is_between : CallD P w K mg base "is_between" 2 S_is_between) : FnG P w K mg base 3 f fd ["value", "names"] (lift K S_is_pile) := by
  refine fnX_of F sc_is_pile (fun ds Φ Ψ ⟨_, _, h, _⟩ => by rw [h]; rfl) fun cdv A outer s H E b => ⟨_, (pss_one (ps_ret (pe_and (k_cd K c_is_tuple_of (by exact b.room) (by decide) b.pass (pa_cons (pv 0) (pa_cons pe_int pa_nil))) (pe_and (k_cd K c_is_between (by exact b.room) (by decide) b.pass (pa_cons (pe_ix (k_ix K) (pv 0) pe_int (fun _ _ => rfl)) (pa_cons pe_int (pa_cons (pe_gi c_MOST_COUNT) pa_nil)))) (pe_one (k_cd K c_is_group (by exact b.room) (by decide) b.pass (pa_cons (pe_ix (k_ix K) (pv 0) pe_int (fun _ _ => rfl)) (pa_cons (pv 1) pa_nil)))))))), fun ds Φ Ψ ⟨p, names, h, h1, h2, h3, h4, q⟩ => ?_⟩
  subst h
  show wS _ _ _ [some (.dat _), some (.dat _)]
  unfold pileD
  walk_at "dl"
  refine ⟨_, _, rfl, rfl, ?_⟩
  walk_at "dl"
  refine ⟨_, _, _, rfl, h1.b1, h1.b2, ?_⟩
  walk_at "dl"
  exact ⟨_, _, rfl, h1.ne, h1.sub, h2, h3, h4, q⟩
def S_names_of : DSp := fun ds Φ _ => ∃ l, ds = [folkD l] ∧ l.length ≤ 1000000 ∧ Φ (.tup (l.map fun p => .str p.1))
abbrev s_names_of : Stmt := topS 35
abbrev N_names_of : List Str := ["parties", "name", "_"]
theorem sc_names_of : FnScope N_names_of ["parties"] (defScope s_names_of) := ⟨rfl, rfl, rfl, by decide +kernel, rfl, by decide +kernel, by decide +kernel⟩
theorem ok_names_of (F : FunX K "names_of" "names_of" s_names_of f fd) (B : Blt mg) : FnG P w K mg base 1 f fd ["parties"] (lift K S_names_of) := by
  refine fnX_of F sc_names_of (fun ds Φ Ψ ⟨_, h, _⟩ => by rw [h]; rfl) fun cdv A outer s H E b => ⟨_, (pss_one (ps_ret (pe_callTy (k_tup K) (by rfl) B.tuple bb_tuple (pa_cons (pe_lc (own := [("name", 1), ("_", 2)]) rfl sc_names_of.nd (k_any K (pv 0)) (blkOk_by (own := [("name", 1), ("_", 2)]) (N := N_names_of) (sc := defScope s_names_of) (by decide +kernel))  (fun _ _ _ _ _ => (k_pg K (n := 2) rfl (pgs_cons (pg_name (i := 1) sc_names_of.nd rfl (by first | exact .inl rfl | exact .inr rfl)) (pgs_cons (pg_name (i := 2) sc_names_of.nd rfl (by first | exact .inl rfl | exact .inr rfl)) pgs_nil)))) (fun _ _ _ _ _ => pts_nil) (fun _ _ _ _ _ => (pv 1))) pa_nil)))), fun ds Φ Ψ ⟨l, h, hl, q⟩ => ?_⟩
  subst h
  show wS _ _ _ [some (.dat _), none, none]
  unfold folkD
  walk_at "dl"
  refine wE_lcM (only_pair List.mem_cons_self (List.mem_cons_of_mem _ List.mem_cons_self)) partyD (fun p => .str p.1) (wI_any ?_)
  walk_at "dl"
  refine ⟨_, rfl, l, rfl, hl, fun p hp => ?_, ?_⟩
  · unfold partyD
    walk_at "dl"
    rfl
  walk_at "dl"
  exact q
end
/-! ### texts of nights -/
abbrev strN (i : Int) : Str := Str.ofString (toString i)
theorem strN_len {i : Int} (h : i.natAbs < 10 ^ 12) : (strN i).length ≤ 13 := PyData.shown_int_le h
theorem joinL_len (S : List Nat) : ∀ l : List (List Nat), (TL.joinL S l).length ≤ (l.map List.length).sum + l.length * S.length
  | [] => Nat.zero_le _
  | [x] => by simp [TL.joinL]
  | x :: y :: r => by
    have := joinL_len S (y :: r)
    simp only [TL.joinL, List.length_append, List.map_cons, List.sum_cons, List.length_cons] at this ⊢
    rw [Nat.add_mul] at this ⊢
    rw [Nat.add_mul]
    omega
theorem join_len (a : Str) (ys : List Str) : (Txt.join a ys).length ≤ (ys.map (·.length)).sum + ys.length * a.length := by
  have h := joinL_len (TL.tl a) (ys.map TL.tl)
  rw [← TL.tl_join, ← TL.join_eq, ← TL.len_tl, List.length_map, ← TL.len_tl, List.map_map] at h
  have e : (List.length ∘ TL.tl) = fun y : Str => y.length := by funext y; exact (TL.len_tl y).symm
  rw [e] at h
  exact h
theorem sum_le {m : Nat} : ∀ {ys : List Str}, (∀ y ∈ ys, y.length ≤ m) → (ys.map (·.length)).sum ≤ ys.length * m
  | [], _ => Nat.zero_le _
  | y :: ys, h => by
    have h1 := sum_le fun z hz => h z (List.mem_cons_of_mem _ hz)
    have h2 := h y List.mem_cons_self
    simp only [List.map_cons, List.sum_cons, List.length_cons, Nat.add_mul]
    omega
theorem join_ok {a : Str} {ys : List Str} {m n k : Nat} (h : ∀ y ∈ ys, y.length ≤ m) (hn : ys.length ≤ n) (hk : a.length ≤ k) : (ys.map (·.length)).sum + ys.length * a.length ≤ n * (m + k) := by
  have h1 := sum_le h
  have h2 : ys.length * m + ys.length * a.length ≤ n * (m + k) := by
    rw [← Nat.mul_add]
    exact Nat.mul_le_mul hn (by omega)
  omega
def divRow (ns : List Int) : Str := Txt.join " " ("divisors" :: ns.map strN)
def partyRow (p : Str × Int) : Str := Str.empty ++ "party " ++ p.1 ++ " " ++ strN p.2
def pileRow (p : Int × List Str) : Str := Str.empty ++ "pile " ++ strN p.1 ++ " " ++ Txt.join " " p.2
def textOf (ns : List Int) (folk : List (Str × Int)) (heaps : List (Int × List Str)) : Str := Txt.join "\n" (divRow ns :: (folk.map partyRow ++ heaps.map pileRow))
/-- what a night is made of -/
structure PartsOk (ns : List Int) (folk : List (Str × Int)) (heaps : List (Int × List Str)) : Prop where
  d : DivOk ns
  f : FolkOk folk
  h : HeapsOk (folk.map (·.1)) heaps
theorem divRow_ok {ns : List Int} (h : DivOk ns) : (("divisors" :: ns.map strN : List Str).map (·.length)).sum + ("divisors" :: ns.map strN : List Str).length * (Str.ofString " ").length ≤ 182 :=
  join_ok (m := 13) (n := 13) (k := 1) (fun y hy => by
    rcases List.mem_cons.mp hy with e | e
    · subst e; decide +kernel
    · obtain ⟨n, hn, rfl⟩ := List.mem_map.mp e
      have := h.b n hn
      exact strN_len (by omega)) (by have := h.l2; simp; omega) (by decide +kernel)
theorem divRow_len {ns : List Int} (h : DivOk ns) : (divRow ns).length ≤ 182 := Nat.le_trans (join_len _ _) (divRow_ok h)
theorem lit_party : (Str.ofString "party ").length = 6 := by decide +kernel
theorem lit_pile : (Str.ofString "pile ").length = 5 := by decide +kernel
theorem lit_sp : (Str.ofString " ").length = 1 := by decide +kernel
theorem lit_e : Str.empty.length = 0 := rfl
theorem heap_names {names : List Str} {p : Int × List Str} (h : HeapOk names p) (hn : ∀ z ∈ names, NameOk z) (hl : names.length ≤ 6) : (∀ z ∈ p.2, NameOk z) ∧ p.2.length ≤ 6 := ⟨fun z hz => hn z (h.sub.subset hz), Nat.le_trans h.sub.length_le hl⟩
theorem heapJoin_ok {l : List Str} (h : ∀ z ∈ l, NameOk z) (hl : l.length ≤ 6) : (l.map (·.length)).sum + l.length * (Str.ofString " ").length ≤ 54 := join_ok (m := 8) (n := 6) (k := 1) (fun y hy => (h y hy).l8) hl (by decide +kernel)
theorem heapJoin_len {l : List Str} (h : ∀ z ∈ l, NameOk z) (hl : l.length ≤ 6) : (Txt.join " " l).length ≤ 54 := Nat.le_trans (join_len _ _) (heapJoin_ok h hl)
theorem partyRow_len {p : Str × Int} (h : NameOk p.1) (h1 : 0 ≤ p.2) (h2 : p.2 ≤ 1000000) : (partyRow p).length ≤ 100 := by
  have a := h.l8
  have b := strN_len (i := p.2) (by omega)
  unfold partyRow
  simp only [Str.length_append, lit_party, lit_sp, lit_e]
  omega
theorem pileRow_len {p : Int × List Str} (h1 : 0 ≤ p.1) (h2 : p.1 ≤ 1000000) (h : ∀ z ∈ p.2, NameOk z) (hl : p.2.length ≤ 6) : (pileRow p).length ≤ 100 := by
  have a := heapJoin_len h hl
  have b := strN_len (i := p.1) (by omega)
  unfold pileRow
  simp only [Str.length_append, lit_pile, lit_sp, lit_e]
  omega
theorem FolkOk.names {l : List (Str × Int)} (h : FolkOk l) : ∀ z ∈ l.map (·.1), NameOk z := fun z hz => by
  obtain ⟨p, hp, rfl⟩ := List.mem_map.mp hz
  exact (h.b p hp).1
theorem FolkOk.len {l : List (Str × Int)} (h : FolkOk l) : (l.map (·.1)).length ≤ 6 := by rw [List.length_map]; exact h.l2
theorem rows_le {ns folk heaps} (h : PartsOk ns folk heaps) : ∀ y ∈ (divRow ns :: (folk.map partyRow ++ heaps.map pileRow)), y.length ≤ 182 := fun y hy => by
  rcases List.mem_cons.mp hy with e | e
  · subst e; exact divRow_len h.d
  · rcases List.mem_append.mp e with e | e
    · obtain ⟨p, hp, rfl⟩ := List.mem_map.mp e
      obtain ⟨a, b, c⟩ := h.f.b p hp
      exact Nat.le_trans (partyRow_len a b c) (by decide)
    · obtain ⟨p, hp, rfl⟩ := List.mem_map.mp e
      have q := h.h.b p hp
      obtain ⟨a, b⟩ := heap_names q h.f.names h.f.len
      exact Nat.le_trans (pileRow_len q.b1 q.b2 a b) (by decide)
theorem rows_n {ns folk heaps} (h : PartsOk ns folk heaps) : (divRow ns :: (folk.map partyRow ++ heaps.map pileRow)).length ≤ 13 := by
  have a := h.f.l2
  have b := h.h.l2
  simp
  omega
theorem text_ok {ns folk heaps} (h : PartsOk ns folk heaps) : ((divRow ns :: (folk.map partyRow ++ heaps.map pileRow)).map (·.length)).sum + (divRow ns :: (folk.map partyRow ++ heaps.map pileRow)).length * (Str.ofString "\n").length ≤ 2379 := join_ok (m := 182) (n := 13) (k := 1) (rows_le h) (rows_n h) (by decide +kernel)
theorem fmtG_s {y : Str} {Φ : D → Prop} (hz : y.length ≤ 1000000) (h : Φ (.str y)) : fmtG (.str y) Φ := ⟨hz, h⟩
theorem fmtG_i {i : Int} {Φ : D → Prop} (hz : i.natAbs.log2 < 1920) (h : Φ (.str (strN i))) : fmtG (.int i) Φ := ⟨hz, h⟩
theorem small_log {i : Int} (h : i.natAbs < 10 ^ 12) : i.natAbs.log2 < 1920 := log2_lt (k := 1920) (Nat.lt_of_lt_of_le h (by decide +kernel)) (by decide)
section
variable {P : Program} {w : World} {K : PySem.W.Frag} {mg : Str → Option Value} {base : Heap} {f : Addr} {fd : FuncData}
def S_check_divisors : DSp := fun ds Φ _ => ∃ ns, ds = [divsD ns] ∧ DivOk ns ∧ Φ .non
abbrev s_check_divisors : Stmt := topS 36
abbrev N_check_divisors : List Str := ["divisors"]
theorem sc_check_divisors : FnScope N_check_divisors ["divisors"] (defScope s_check_divisors) := ⟨rfl, rfl, rfl, by decide +kernel, rfl, by decide +kernel, by decide +kernel⟩
theorem ok_check_divisors (F : FunX K "check_divisors" "check_divisors" s_check_divisors f fd) (c_is_divisors : CallD P w K mg base "is_divisors" 3 S_is_divisors) : FnG P w K mg base 4 f fd ["divisors"] (lift K S_check_divisors) := by
  refine fnX_of F sc_check_divisors (fun ds Φ Ψ ⟨_, h, _⟩ => by rw [h]; rfl) fun cdv A outer s H E b => ⟨_, (pss_one (ps_if (pt_not (pt_val (k_cd K c_is_divisors (by exact b.room) (by decide) b.pass (pa_cons (pv 0) pa_nil)))) (pss_one ps_never) pss_nil)), fun ds Φ Ψ ⟨ns, h, hn, q⟩ => ?_⟩
  subst h
  show wS _ _ _ [some (.dat _)]
  walk_at "dl"
  refine ⟨ns, rfl, hn, ?_⟩
  walk_at "dl"
  exact q
theorem fresh_name {l : List (Str × Int)} (nd : (l.map (·.1)).Nodup) {i : Nat} {p : Str × Int} (hi : l[i]? = some p) : p.1 ∉ (l.take i).map (·.1) := fun hm => by
  obtain ⟨q, hq, e⟩ := List.mem_map.mp hm
  obtain ⟨j, hj⟩ := List.getElem?_of_mem hq
  have hjl := (List.getElem?_eq_some_iff.mp hj).1
  have hji : j < i := by rw [List.length_take] at hjl; omega
  rw [List.getElem?_take_of_lt hji] at hj
  have h1 : (l.map (·.1))[j]? = some q.1 := by rw [List.getElem?_map, hj]; rfl
  have h2 : (l.map (·.1))[i]? = some p.1 := by rw [List.getElem?_map, hi]; rfl
  rw [e] at h1
  have := nodup_inj nd h1 h2
  omega
def S_check_parties : DSp := fun ds Φ _ => ∃ l, ds = [folkD l] ∧ FolkOk l ∧ Φ .non
abbrev s_check_parties : Stmt := topS 37
abbrev N_check_parties : List Str := ["parties", "index", "party"]
theorem sc_check_parties : FnScope N_check_parties ["parties"] (defScope s_check_parties) := ⟨rfl, rfl, rfl, by decide +kernel, rfl, by decide +kernel, by decide +kernel⟩
theorem ok_check_parties (F : FunX K "check_parties" "check_parties" s_check_parties f fd) (B : Blt mg) (c_MOST_PARTIES : GInt mg "MOST_PARTIES" 6) (c_is_party : CallD P w K mg base "is_party" 3 S_is_party) (c_names_of : CallD P w K mg base "names_of" 1 S_names_of) : FnG P w K mg base 4 f fd ["parties"] (lift K S_check_parties) := by
  refine fnX_of F sc_check_parties (fun ds Φ Ψ ⟨_, h, _⟩ => by rw [h]; rfl) fun cdv A outer s H E b => ⟨_, (pss_cons (ps_if (PW.pt (pw_or (pt_not (pt_val (pe_callB (k_isi K) (by rfl) B.isinstance bb_isinstance (pa_cons (pv 0) (pa_cons (pe_bty B.tuple bb_tuple) pa_nil))))) (pw_or1 (pt_cmpR (k_eq K (by exact b.room)) (pe_callB (k_len K) (by rfl) B.len bb_len (pa_cons (pv 0) pa_nil)) pe_int (nomark _))))) (pss_one ps_never) pss_nil)
 (pss_one (ps_for b.own rfl (k_enum K (by rfl) B.enumerate (pa_cons (pv 0) pa_nil)) (k_pg K (n := 2) rfl (pgs_cons (pg_name (i := 1) sc_check_parties.nd rfl (by first | exact .inl rfl | exact .inr rfl)) (pgs_cons (pg_name (i := 2) sc_check_parties.nd rfl (by first | exact .inl rfl | exact .inr rfl)) pgs_nil))) (pss_one (ps_if (PW.pt (pw_or (pt_cmpR (k_eq K (by exact b.room)) (pv 1) (pe_gi c_MOST_PARTIES) (nomark _)) (pw_or (pt_not (pt_val (k_cd K c_is_party (by exact b.room) (by decide) b.pass (pa_cons (pv 2) pa_nil)))) (pw_or1 (pt_cmpR (k_in K) (pe_ix (k_ix K) (pv 2) pe_int (fun _ _ => rfl)) (k_cd K c_names_of (by exact b.room) (by decide) b.pass (pa_cons (pe_slice (k_sl K) (pv 0) po_none (po_some (pv 1))) pa_nil)) (by with_unfolding_all rfl)))))) (pss_one ps_never) pss_nil))))), fun ds Φ Ψ ⟨l, h, hl, q⟩ => ?_⟩
  subst h
  have n1 := hl.l1
  have n2 := hl.l2
  have hm : (l.map partyD).length = l.length := List.length_map _
  show wS _ _ _ [some (.dat _), none, none]
  unfold folkD
  walk_at "dl"
  refine wS_for (wI_enumT ?_)
  walk_at "dl"
  refine ⟨_, rfl, fun _ ρ' => ∃ x y, ρ' = [some (.dat (.tup (l.map partyD))), x, y], ⟨_, _, rfl⟩, fun i d ρ' hd ⟨x, y, e⟩ => ?_, fun ρ' ⟨x, y, e⟩ => q⟩
  subst e
  obtain ⟨p, hp, rfl⟩ := enumD_get hd
  have hi : i < l.length := (List.getElem?_eq_some_iff.mp hp).1
  obtain ⟨b1, b2, b3⟩ := hl.b p (mem_get hp)
  walk_at "dl"
  refine ⟨p, rfl, b1, b2, b3, ?_⟩
  unfold partyD
  walk_at "dl"
  rw [show D.tup (cutD (List.map (fun p => D.tup [D.str p.fst, D.int p.snd]) l) none (some ((i : Nat) : Int))) = folkD (l.take i) by rw [cut_to, ← List.map_take]; rfl]
  refine ⟨l.take i, rfl, by rw [List.length_take]; omega, ?_⟩
  walk_at "dl"
  rw [show List.map (fun p : Str × Int => D.str p.fst) (List.take i l) = ((l.take i).map (·.1)).map D.str by rw [List.map_map]; rfl]
  refine inSG_t ?_
  rw [decide_eq_false (fresh_name hl.nd hp)]
  walk_at "dl"
  exact ⟨_, _, rfl⟩
def S_check_piles : DSp := fun ds Φ _ => ∃ l names, ds = [heapsD l, .tup (names.map .str)] ∧ HeapsOk names l ∧ names.Nodup ∧ (∀ z ∈ names, PyData.strOk z = true) ∧ names.length ≤ 6 ∧ Φ .non
abbrev s_check_piles : Stmt := topS 38
abbrev N_check_piles : List Str := ["piles", "names", "index", "pile"]
theorem sc_check_piles : FnScope N_check_piles ["piles", "names"] (defScope s_check_piles) := ⟨rfl, rfl, rfl, by decide +kernel, rfl, by decide +kernel, by decide +kernel⟩
theorem ok_check_piles (F : FunX K "check_piles" "check_piles" s_check_piles f fd) (B : Blt mg) (c_MOST_PILES : GInt mg "MOST_PILES" 6) (c_is_pile : CallD P w K mg base "is_pile" 3 S_is_pile) : FnG P w K mg base 4 f fd ["piles", "names"] (lift K S_check_piles) := by
  refine fnX_of F sc_check_piles (fun ds Φ Ψ ⟨_, _, h, _⟩ => by rw [h]; rfl) fun cdv A outer s H E b => ⟨_, (pss_cons (ps_if (pt_not (pt_val (pe_callB (k_isi K) (by rfl) B.isinstance bb_isinstance (pa_cons (pv 0) (pa_cons (pe_bty B.tuple bb_tuple) pa_nil))))) (pss_one ps_never) pss_nil)
 (pss_one (ps_for b.own rfl (k_enum K (by rfl) B.enumerate (pa_cons (pv 0) pa_nil)) (k_pg K (n := 2) rfl (pgs_cons (pg_name (i := 2) sc_check_piles.nd rfl (by first | exact .inl rfl | exact .inr rfl)) (pgs_cons (pg_name (i := 3) sc_check_piles.nd rfl (by first | exact .inl rfl | exact .inr rfl)) pgs_nil))) (pss_one (ps_if (PW.pt (pw_or (pt_cmpR (k_eq K (by exact b.room)) (pv 2) (pe_gi c_MOST_PILES) (nomark _)) (pw_or1 (pt_not (pt_val (k_cd K c_is_pile (by exact b.room) (by decide) b.pass (pa_cons (pv 3) (pa_cons (pv 1) pa_nil)))))))) (pss_one ps_never) pss_nil))))), fun ds Φ Ψ ⟨l, names, h, hl, h1, h2, h3, q⟩ => ?_⟩
  subst h
  have n2 := hl.l2
  have hm : (l.map pileD).length = l.length := List.length_map _
  show wS _ _ _ [some (.dat _), some (.dat _), none, none]
  unfold heapsD
  walk_at "dl"
  refine wS_for (wI_enumT ?_)
  walk_at "dl"
  refine ⟨_, rfl, fun _ ρ' => ∃ x y, ρ' = [some (.dat (.tup (l.map pileD))), some (.dat (.tup (names.map .str))), x, y], ⟨_, _, rfl⟩, fun i d ρ' hd ⟨x, y, e⟩ => ?_, fun ρ' ⟨x, y, e⟩ => q⟩
  subst e
  obtain ⟨p, hp, rfl⟩ := enumD_get hd
  have hi : i < l.length := (List.getElem?_eq_some_iff.mp hp).1
  walk_at "dl"
  refine ⟨p, names, rfl, hl.b p (mem_get hp), h1, h2, h3, ?_⟩
  walk_at "dl"
  exact ⟨_, _, rfl⟩
end
section
variable {P : Program} {w : World} {K : PySem.W.Frag} {mg : Str → Option Value} {base : Heap} {f : Addr} {fd : FuncData}
def S_text_of : DSp := fun ds Φ _ => ∃ ns folk heaps, ds = [divsD ns, folkD folk, heapsD heaps] ∧ PartsOk ns folk heaps ∧ Φ (.str (textOf ns folk heaps))
abbrev s_text_of : Stmt := topS 46
abbrev N_text_of : List Str := ["divisors", "parties", "piles", "rows", "number", "name", "count", "size", "names"]
theorem sc_text_of : FnScope N_text_of ["divisors", "parties", "piles"] (defScope s_text_of) := ⟨rfl, rfl, rfl, by decide +kernel, rfl, by decide +kernel, by decide +kernel⟩
theorem ok_text_of (F : FunX K "text_of" "text_of" s_text_of f fd) (B : Blt mg) : FnG P w K mg base 1 f fd ["divisors", "parties", "piles"] (lift K S_text_of) := by
  refine fnX_of F sc_text_of (fun ds Φ Ψ ⟨_, _, _, h, _⟩ => by rw [h]; rfl) fun cdv A outer s H E b => ⟨_, (pss_cons (ps_set (i := 3) sc_text_of.nd rfl (by first | exact .inl rfl | exact .inr rfl) (pe_lst (pa_cons (k_bm K PySem.F.plainAttrs_str PySem.F.slot_str_join PySem.F.type_str_join (k_join K) pe_str (pa_cons (pe_op (k_add K) (pe_lst (pa_cons pe_str pa_nil)) (pe_lc (own := [("number", 4)]) rfl sc_text_of.nd (k_any K (pv 0)) (blkOk_by (own := [("number", 4)]) (N := N_text_of) (sc := defScope s_text_of) (by decide +kernel))  (fun _ _ _ _ _ => (pg_name (i := 4) sc_text_of.nd rfl (by first | exact .inl rfl | exact .inr rfl))) (fun _ _ _ _ _ => pts_nil) (fun _ _ _ _ _ => (pe_callTy callr_str (by rfl) B.str bb_str (pa_cons (pv 4) pa_nil))))) pa_nil)) pa_nil)))
 (pss_cons (ps_for b.own rfl (k_any K (pv 1)) (k_pg K (n := 2) rfl (pgs_cons (pg_name (i := 5) sc_text_of.nd rfl (by first | exact .inl rfl | exact .inr rfl)) (pgs_cons (pg_name (i := 6) sc_text_of.nd rfl (by first | exact .inl rfl | exact .inr rfl)) pgs_nil))) (pss_one (ps_expr (k_bm K PySem.F.plainAttrs_list PySem.F.slot_list_append PySem.F.type_list_append mt_append (pv 3) (pa_cons (pe_joined (PJ.cons pe_str (PJ.cons (pe_fmt (pv 5)) (PJ.cons pe_str (PJ.cons (pe_fmt (pv 6)) PJ.nil))))) pa_nil)))))
 (pss_cons (ps_for b.own rfl (k_any K (pv 2)) (k_pg K (n := 2) rfl (pgs_cons (pg_name (i := 7) sc_text_of.nd rfl (by first | exact .inl rfl | exact .inr rfl)) (pgs_cons (pg_name (i := 8) sc_text_of.nd rfl (by first | exact .inl rfl | exact .inr rfl)) pgs_nil))) (pss_one (ps_expr (k_bm K PySem.F.plainAttrs_list PySem.F.slot_list_append PySem.F.type_list_append mt_append (pv 3) (pa_cons (pe_op (k_add K) (pe_joined (PJ.cons pe_str (PJ.cons (pe_fmt (pv 7)) (PJ.cons pe_str PJ.nil)))) (k_bm K PySem.F.plainAttrs_str PySem.F.slot_str_join PySem.F.type_str_join (k_join K) pe_str (pa_cons (pv 8) pa_nil))) pa_nil)))))
 (pss_one (ps_ret (k_bm K PySem.F.plainAttrs_str PySem.F.slot_str_join PySem.F.type_str_join (k_join K) pe_str (pa_cons (pv 3) pa_nil))))))), fun ds Φ Ψ ⟨ns, folk, heaps, h, hp, q⟩ => ?_⟩
  subst h
  have d2 := hp.d.l2
  have f2 := hp.f.l2
  have h2 := hp.h.l2
  show wS _ _ _ [some (.dat _), some (.dat _), some (.dat _), none, none, none, none, none, none]
  unfold divsD folkD heapsD
  walk_at "dl"
  refine ⟨by simp, ?_⟩
  refine wE_lcM (only_name List.mem_cons_self) D.int (fun n => .str (strN n)) (wI_any ?_)
  walk_at "dl"
  refine ⟨_, rfl, ns, rfl, by omega, fun n hm => ?_, ?_⟩
  · have := hp.d.b n hm
    walk_at "dl"
    refine strG_i (small_log (by omega)) ?_
    walk_at "dl"
    rfl
  refine addG_l (by simp; omega) ?_
  walk_at "dl"
  rw [show [D.str "divisors"] ++ List.map (fun n => D.str (strN n)) ns = (("divisors" :: ns.map strN : List Str)).map D.str by rw [List.map_cons, List.map_map]; rfl]
  refine joinG_l (Nat.le_trans (divRow_ok hp.d) (by decide)) ?_
  walk_at "dl"
  refine ⟨by simp, ?_⟩
  walk_at "dl"
  refine wS_forT partyD (fun i ρ' => ∃ x y z u v, ρ' = [some (.dat (.tup (ns.map D.int))), some (.dat (.tup (folk.map partyD))), some (.dat (.tup (heaps.map pileD))), some (.own none (.lst ((divRow ns :: (folk.take i).map partyRow).map D.str))), x, y, z, u, v]) (wI_any ?_)
  walk_at "dl"
  refine ⟨_, rfl, folk, rfl, ⟨_, _, _, _, _, rfl⟩, fun i p ρ' hi ⟨x, y, z, u, v, e⟩ => ?_, fun ρ' ⟨x, y, z, u, v, e⟩ => ?_⟩
  · subst e
    have hil : i < folk.length := (List.getElem?_eq_some_iff.mp hi).1
    obtain ⟨b1, b2, b3⟩ := hp.f.b p (mem_get hi)
    have l1 := b1.l8
    have l2 := strN_len (i := p.2) (by omega)
    unfold partyD
    walk_at "dl"
    refine ⟨by simp only [Str.length_append, lit_e, lit_party]; decide, ?_⟩
    walk_at "dl"
    refine fmtG_s (by omega) ?_
    walk_at "dl"
    refine ⟨by simp only [Str.length_append, lit_e, lit_party]; omega, ?_⟩
    walk_at "dl"
    refine ⟨by simp only [Str.length_append, lit_e, lit_party, lit_sp]; omega, ?_⟩
    walk_at "dl"
    refine fmtG_i (small_log (by omega)) ?_
    walk_at "dl"
    refine ⟨by simp only [Str.length_append, lit_e, lit_party, lit_sp]; omega, ?_⟩
    walk_at "dl"
    refine ⟨_, _, rfl, by simp; omega, ?_⟩
    rw [show List.map D.str (divRow ns :: List.map partyRow (List.take (i + 1) folk)) = List.map D.str (divRow ns :: List.map partyRow (List.take i folk)) ++ [D.str (partyRow p)] by rw [take_next hi]; simp]
    exact ⟨_, _, _, _, _, rfl⟩
  · subst e
    rw [List.take_length]
    walk_at "dl"
    refine wS_forT pileD (fun i ρ' => ∃ x y z u v, ρ' = [some (.dat (.tup (ns.map D.int))), some (.dat (.tup (folk.map partyD))), some (.dat (.tup (heaps.map pileD))), some (.own none (.lst ((divRow ns :: (folk.map partyRow ++ (heaps.take i).map pileRow)).map D.str))), x, y, z, u, v]) (wI_any ?_)
    walk_at "dl"
    refine ⟨_, rfl, heaps, rfl, ⟨_, _, _, _, _, by rw [List.take_zero, List.map_nil, List.append_nil]⟩, fun i p ρ' hi ⟨x, y, z, u, v, e⟩ => ?_, fun ρ' ⟨x, y, z, u, v, e⟩ => ?_⟩
    · subst e
      have hil : i < heaps.length := (List.getElem?_eq_some_iff.mp hi).1
      have hq := hp.h.b p (mem_get hi)
      obtain ⟨b1, b2⟩ := heap_names hq hp.f.names hp.f.len
      have b3 := hq.b1
      have b4 := hq.b2
      have l1 := heapJoin_len b1 b2
      have l2 := strN_len (i := p.1) (by omega)
      unfold pileD
      walk_at "dl"
      refine ⟨by simp only [Str.length_append, lit_e, lit_pile]; decide, ?_⟩
      walk_at "dl"
      refine fmtG_i (small_log (by omega)) ?_
      walk_at "dl"
      refine ⟨by simp only [Str.length_append, lit_e, lit_pile]; omega, ?_⟩
      walk_at "dl"
      refine ⟨by simp only [Str.length_append, lit_e, lit_pile, lit_sp]; omega, ?_⟩
      walk_at "dl"
      refine joinG_t (Nat.le_trans (heapJoin_ok b1 b2) (by decide)) ?_
      refine addG_s (by simp only [Str.length_append, lit_e, lit_pile, lit_sp]; omega) ?_
      refine ⟨_, _, rfl, by simp; omega, ?_⟩
      rw [show List.map D.str (divRow ns :: (List.map partyRow folk ++ List.map pileRow (List.take (i + 1) heaps))) = List.map D.str (divRow ns :: (List.map partyRow folk ++ List.map pileRow (List.take i heaps))) ++ [D.str (pileRow p)] by rw [take_next hi]; simp]
      exact ⟨_, _, _, _, _, rfl⟩
    · subst e
      rw [List.take_length]
      walk_at "dl"
      refine joinG_l (Nat.le_trans (text_ok hp) (by decide)) q
end
/-! ### texts read back -/
/-! numbers -/
section
variable {P : Program} {w : World} {K : PySem.W.Frag} {mg : Str → Option Value} {base : Heap} {f : Addr} {fd : FuncData}
abbrev s_number_in : Stmt := topS 44
end
section
variable {P : Program} {w : World} {K : PySem.W.Frag} {mg : Str → Option Value} {base : Heap} {f : Addr} {fd : FuncData}
abbrev s_parts_in : Stmt := topS 45
end
/-! ### the class -/
structure NightC (K : PySem.W.Frag) (C : Addr) : Prop where
  cl : Cls K C
  nD : NoAttr K C "_divisors"
  nP : NoAttr K C "_parties"
  nH : NoAttr K C "_piles"
  nT : NoAttr K C "_text"
def nightF (ns : List Int) (folk : List (Str × Int)) (heaps : List (Int × List Str)) : List (Str × D) := [("_divisors", divsD ns), ("_parties", folkD folk), ("_piles", heapsD heaps), ("_text", .str (textOf ns folk heaps))]
theorem ne1 : ¬ (Str.ofString "_divisors" = Str.ofString "_parties") := by decide +kernel
theorem ne2 : ¬ (Str.ofString "_divisors" = Str.ofString "_piles") := by decide +kernel
theorem ne3 : ¬ (Str.ofString "_divisors" = Str.ofString "_text") := by decide +kernel
theorem ne4 : ¬ (Str.ofString "_parties" = Str.ofString "_piles") := by decide +kernel
theorem ne5 : ¬ (Str.ofString "_parties" = Str.ofString "_text") := by decide +kernel
theorem ne6 : ¬ (Str.ofString "_piles" = Str.ofString "_text") := by decide +kernel
theorem put_night (a b c d : D) : putD "_text" d (putD "_piles" c (putD "_parties" b (putD "_divisors" a []))) = [(Str.ofString "_divisors", a), (Str.ofString "_parties", b), (Str.ofString "_piles", c), (Str.ofString "_text", d)] := by
  simp only [putD, if_neg ne1, if_neg ne2, if_neg ne3, if_neg ne4, if_neg ne5, if_neg ne6]
theorem lk_div {ns folk heaps} : (nightF ns folk heaps).lookup (Str.ofString "_divisors") = some (divsD ns) := by
  unfold nightF
  rw [List.lookup_cons, beq_self_eq_true]
theorem lk_par {ns folk heaps} : (nightF ns folk heaps).lookup (Str.ofString "_parties") = some (folkD folk) := by
  unfold nightF
  rw [List.lookup_cons, beq_eq_false_iff_ne.mpr (fun e => ne1 e.symm), List.lookup_cons, beq_self_eq_true]
theorem lk_pil {ns folk heaps} : (nightF ns folk heaps).lookup (Str.ofString "_piles") = some (heapsD heaps) := by
  unfold nightF
  rw [List.lookup_cons, beq_eq_false_iff_ne.mpr (fun e => ne2 e.symm), List.lookup_cons, beq_eq_false_iff_ne.mpr (fun e => ne4 e.symm), List.lookup_cons, beq_self_eq_true]
section
variable {P : Program} {w : World} {K : PySem.W.Frag} {mg : Str → Option Value} {base : Heap} {f C : Addr} {fd : FuncData}
def S_init : ISp := fun ds Φ _ => ∃ ns folk heaps, ds = [divsD ns, folkD folk, heapsD heaps] ∧ PartsOk ns folk heaps ∧ Φ (nightF ns folk heaps)
abbrev s_Night___init : Stmt := inClass (topS 48) 0
abbrev N_Night___init : List Str := ["self", "divisors", "parties", "piles"]
theorem sc_Night___init : FnScope N_Night___init ["self", "divisors", "parties", "piles"] (defScope s_Night___init) := ⟨rfl, rfl, rfl, by decide +kernel, rfl, by decide +kernel, by decide +kernel⟩
theorem ok_init (F : FunX K "__init__" "Night.__init__" s_Night___init f fd) (T : NightC K C) (c_check_divisors : CallD P w K mg base "check_divisors" 4 S_check_divisors) (c_check_parties : CallD P w K mg base "check_parties" 4 S_check_parties) (c_check_piles : CallD P w K mg base "check_piles" 4 S_check_piles)
    (c_names_of : CallD P w K mg base "names_of" 1 S_names_of) (c_text_of : CallD P w K mg base "text_of" 1 S_text_of) : FnG P w K mg base 5 f fd ["self", "divisors", "parties", "piles"] (liftI K C S_init) := by
  refine fnI_of F sc_Night___init (fun ds Φ Ψ ⟨_, _, _, h, _⟩ => by rw [h]; rfl) fun cdv A outer s H E b => ⟨_, (pss_cons (ps_expr (k_cd K c_check_divisors (by exact b.room) (by decide) b.pass (pa_cons (pv 1) pa_nil)))
 (pss_cons (ps_expr (k_cd K c_check_parties (by exact b.room) (by decide) b.pass (pa_cons (pv 2) pa_nil)))
 (pss_cons (ps_expr (k_cd K c_check_piles (by exact b.room) (by decide) b.pass (pa_cons (pv 3) (pa_cons (k_cd K c_names_of (by exact b.room) (by decide) b.pass (pa_cons (pv 2) pa_nil)) pa_nil))))
 (pss_cons (k_sfld K (pv 0) (pv 1))
 (pss_cons (k_sfld K (pv 0) (pv 2))
 (pss_cons (k_sfld K (pv 0) (pv 3))
 (pss_one (k_sfld K (pv 0) (k_cd K c_text_of (by exact b.room) (by decide) b.pass (pa_cons (pv 1) (pa_cons (pv 2) (pa_cons (pv 3) pa_nil)))))))))))), fun y ds Φ Ψ ⟨ns, folk, heaps, h, hp, q⟩ => ?_⟩
  subst h
  have f2 := hp.f.l2
  show wS _ _ _ [some (.own (some y) (.ins C [])), some (.dat (divsD ns)), some (.dat (folkD folk)), some (.dat (heapsD heaps))]
  walk_at "dl"
  refine ⟨ns, rfl, hp.d, ?_⟩
  walk_at "dl"
  refine ⟨folk, rfl, hp.f, ?_⟩
  walk_at "dl"
  refine ⟨folk, rfl, by omega, ?_⟩
  walk_at "dl"
  refine ⟨heaps, folk.map (·.1), by rw [List.map_map]; rfl, hp.h, hp.f.nd, fun z hz => (hp.f.names z hz).ok, hp.f.len, ?_⟩
  walk_at "dl"
  refine ⟨_, _, _, rfl, T.cl, T.nD, by decide, ?_⟩
  walk_at "dl"
  refine ⟨_, _, _, rfl, T.cl, T.nP, by simp [putD], ?_⟩
  walk_at "dl"
  refine ⟨_, _, _, rfl, T.cl, T.nH, by simp only [putD, if_neg ne1]; show 2 < 1000; decide, ?_⟩
  walk_at "dl"
  refine ⟨ns, folk, heaps, rfl, hp, ?_⟩
  refine ⟨_, _, _, rfl, T.cl, T.nT, by simp only [putD, if_neg ne1, if_neg ne2, if_neg ne4]; show 3 < 1000; decide, ?_⟩
  exact ⟨_, rfl, by rw [put_night]; exact q⟩
def S_getD (C : Addr) : DSp := fun ds Φ _ => ∃ ns folk heaps, ds = [.ins C (nightF ns folk heaps)] ∧ Φ (divsD ns)
def S_getP (C : Addr) : DSp := fun ds Φ _ => ∃ ns folk heaps, ds = [.ins C (nightF ns folk heaps)] ∧ Φ (folkD folk)
def S_getH (C : Addr) : DSp := fun ds Φ _ => ∃ ns folk heaps, ds = [.ins C (nightF ns folk heaps)] ∧ Φ (heapsD heaps)
abbrev s_Night_divisors : Stmt := inClass (topS 48) 2
abbrev N_Night_divisors : List Str := ["self"]
theorem sc_Night_divisors : FnScope N_Night_divisors ["self"] (defScope s_Night_divisors) := ⟨rfl, rfl, rfl, by decide +kernel, rfl, by decide +kernel, by decide +kernel⟩
theorem ok_getD (F : FunX K "divisors" "Night.divisors" s_Night_divisors f fd) (T : NightC K C) : FnG P w K mg base 1 f fd ["self"] (lift K (S_getD C)) := by
  refine fnX_of F sc_Night_divisors (fun ds Φ Ψ ⟨_, _, _, h, _⟩ => by rw [h]; rfl) fun cdv A outer s H E b => ⟨_, (pss_one (ps_ret (k_fld K (pv 0)))), fun ds Φ Ψ ⟨ns, folk, heaps, h, q⟩ => ?_⟩
  subst h
  show wS _ _ _ [some (.dat _)]
  walk_at "dl"
  exact ⟨_, _, _, rfl, T.cl, T.nD, lk_div, q⟩
abbrev s_Night_parties : Stmt := inClass (topS 48) 3
abbrev N_Night_parties : List Str := ["self"]
theorem sc_Night_parties : FnScope N_Night_parties ["self"] (defScope s_Night_parties) := ⟨rfl, rfl, rfl, by decide +kernel, rfl, by decide +kernel, by decide +kernel⟩
theorem ok_getP (F : FunX K "parties" "Night.parties" s_Night_parties f fd) (T : NightC K C) : FnG P w K mg base 1 f fd ["self"] (lift K (S_getP C)) := by
  refine fnX_of F sc_Night_parties (fun ds Φ Ψ ⟨_, _, _, h, _⟩ => by rw [h]; rfl) fun cdv A outer s H E b => ⟨_, (pss_one (ps_ret (k_fld K (pv 0)))), fun ds Φ Ψ ⟨ns, folk, heaps, h, q⟩ => ?_⟩
  subst h
  show wS _ _ _ [some (.dat _)]
  walk_at "dl"
  exact ⟨_, _, _, rfl, T.cl, T.nP, lk_par, q⟩
abbrev s_Night_piles : Stmt := inClass (topS 48) 4
abbrev N_Night_piles : List Str := ["self"]
theorem sc_Night_piles : FnScope N_Night_piles ["self"] (defScope s_Night_piles) := ⟨rfl, rfl, rfl, by decide +kernel, rfl, by decide +kernel, by decide +kernel⟩
theorem ok_getH (F : FunX K "piles" "Night.piles" s_Night_piles f fd) (T : NightC K C) : FnG P w K mg base 1 f fd ["self"] (lift K (S_getH C)) := by
  refine fnX_of F sc_Night_piles (fun ds Φ Ψ ⟨_, _, _, h, _⟩ => by rw [h]; rfl) fun cdv A outer s H E b => ⟨_, (pss_one (ps_ret (k_fld K (pv 0)))), fun ds Φ Ψ ⟨ns, folk, heaps, h, q⟩ => ?_⟩
  subst h
  show wS _ _ _ [some (.dat _)]
  walk_at "dl"
  exact ⟨_, _, _, rfl, T.cl, T.nH, lk_pil, q⟩
end
/-! ### the law's own draws (purses) -/
section
variable {P : Program} {w : World} {K : PySem.W.Frag} {mg : Str → Option Value} {base : Heap} {f C : Addr} {fd : FuncData}
def BdOk (n : Int) : Prop := n.natAbs < 2 ^ Bits
def S_begunR : RSp := fun ds Φ => ∃ (ns : List Int) (t : Int), ds = [.scr ns, .int t] ∧ 0 ≤ t ∧ t < 100 ∧ (∀ n ∈ ns, BdOk n) ∧ ∀ i j l, PB i j → Φ [.int i, .int j, .int l]
def S_begun : DSp := fun ds Φ _ => ∃ (ns : List Int) (t : Int), ds = [.scr ns, .int t] ∧ 0 ≤ t ∧ t < 100 ∧ (∀ n ∈ ns, BdOk n) ∧ Φ .pail
abbrev s_l_purse : Stmt := topS 92
abbrev N_l_purse : List Str := ["_law_script", "_law_k", "_law_cell", "_law_digits", "_law_seed"]
theorem sc_l_purse : FnScope N_l_purse ["_law_script", "_law_k"] (defScope s_l_purse) := ⟨rfl, rfl, rfl, by decide +kernel, rfl, by decide +kernel, by decide +kernel⟩
theorem okR_begun (F : FunX K "_law_purse" "_law_purse" s_l_purse f fd) (B : Blt mg) : FnG P w K mg base 1 f fd ["_law_script", "_law_k"] (liftR K S_begunR) := by
  refine fnR_of F sc_l_purse (fun ds Φ ⟨_, _, h, _⟩ => by rw [h]; rfl) fun cdv A outer s H E b => ⟨_, (pss_cons (ps_if (pt_cmpR op_lt (pv 1) (pe_callB (k_len K) (by rfl) B.len bb_len (pa_cons (pv 0) pa_nil)) (nomark _)) (pss_cons (ps_set (i := 2) sc_l_purse.nd rfl (by first | exact .inl rfl | exact .inr rfl) (pe_ix (k_ix K) (pv 0) (pv 1) (fun _ _ => rfl)))
 (pss_cons (ps_set (i := 3) sc_l_purse.nd rfl (by first | exact .inl rfl | exact .inr rfl) (pe_ifExp (PW.pt (pw_or (pt_cmpR op_lt (pv 2) pe_int (nomark _)) (pw_or1 (pt_cmpR op_ge (pv 2) (pe_op op_pow pe_int pe_int) (nomark _))))) (pe_callB call_abs (by rfl) B.abs bb_abs (pa_cons (pv 2) pa_nil)) pe_int))
 (pss_one (ps_ret (pe_lst (pa_cons (pv 3) (pa_cons (pe_op op_mod (pe_callTy callr_int (by rfl) B.int bb_int (pa_cons (pe_op (k_add K) (pe_op (k_add K) (pe_op opr_mul (pv 2) pe_int) (pe_op opr_mul pe_int (pv 1))) pe_int) pa_nil)) pe_int) (pa_cons pe_int pa_nil)))))))) pss_nil)
 (pss_cons (ps_set (i := 4) sc_l_purse.nd rfl (by first | exact .inl rfl | exact .inr rfl) (pe_op (k_add K) (pe_op opr_mul pe_int (pv 1)) pe_int))
 (pss_cons (ps_for b.own rfl (k_any K (pe_slice (k_sl K) (pv 0) po_none (po_some pe_int))) (pg_name (i := 2) sc_l_purse.nd rfl (by first | exact .inl rfl | exact .inr rfl)) (pss_one (ps_set (i := 4) sc_l_purse.nd rfl (by first | exact .inl rfl | exact .inr rfl) (pe_op op_mod (pe_callTy callr_int (by rfl) B.int bb_int (pa_cons (pe_op (k_add K) (pe_op opr_mul (pv 4) pe_int) (pv 2)) pa_nil)) pe_int))))
 (pss_one (ps_ret (pe_lst (pa_cons pe_int (pa_cons (pv 4) (pa_cons pe_int pa_nil))))))))), fun ds Φ ⟨ns, t, h, t0, t1, hb, q⟩ => ?_⟩
  subst h
  obtain ⟨t, rfl⟩ : ∃ k : Nat, t = k := ⟨t.toNat, by omega⟩
  show wS _ _ _ [some (.dat _), some (.dat _), none, none, none]
  walk_at "dlo"
  refine ifD (fun hz => ?_) (fun hz => ?_)
  · walk_at "dlo"
    have hl : t < ns.length := by omega
    refine ixG_c (L2.atI_nat (List.getElem?_eq_getElem hl)) ?_
    have hc := hb _ (List.getElem_mem hl)
    generalize ns[t] = own at hc
    have m0 := Int.emod_nonneg (own * 39373 + 104723 * (t : Int) + 17) (show (2147483629 : Int) ≠ 0 by decide)
    have m1 := Int.emod_lt_of_pos (own * 39373 + 104723 * (t : Int) + 17) (show (0 : Int) < 2147483629 by decide)
    have fin : ∀ i : Int, 0 ≤ i → [D.int i, .int ((own * 39373 + 104723 * (t : Int) + 17) % 2147483629), .int 0].length ≤ 1000000 ∧ Φ [D.int i, .int ((own * 39373 + 104723 * (t : Int) + 17) % 2147483629), .int 0] := fun i hi => ⟨by simp, q _ _ _ ⟨hi, m0, by omega⟩⟩
    walk_at "dlo"
    refine ifD (fun hz => ?_) (fun hz => ?_)
    · walk_at "dlo"
      exact fin _ (by rw [if_pos hz]; omega)
    · walk_at "dlo"
      refine ifD (fun hy => ?_) (fun hy => ?_)
      · walk_at "dlo"
        exact fin _ (by rw [if_neg hz]; omega)
      · walk_at "dlo"
        exact fin 0 (by omega)
  · walk_at "dlo"
    refine wS_forT D.int (fun _ ρ' => ∃ (st : Int) (x : Option Sl), 0 ≤ st ∧ st < 2147483648 ∧ ρ' = [some (.dat (.scr ns)), some (.dat (.int (t : Nat))), x, none, some (.dat (.int st))]) (wI_any ?_)
    walk_at "dlo"
    refine ⟨_, rfl, cutD ns none (some 4), rfl, ⟨_, _, by omega, by omega, rfl⟩, fun i n ρ' hi ⟨st, x, s0, s1, e⟩ => ?_, fun ρ' ⟨st, x, s0, s1, e⟩ => ?_⟩
    · subst e
      walk_at "dlo"
      refine ⟨_, _, ?_, ?_, rfl⟩
      · exact Int.emod_nonneg _ (by decide)
      · have := Int.emod_lt_of_pos (st * 48271 + n) (show (0 : Int) < 2147483587 by decide)
        omega
    subst e
    walk_at "dlo"
    exact ⟨by simp, q _ _ _ ⟨by omega, s0, s1⟩⟩
theorem ok_begun (F : FunX K "_law_purse" "_law_purse" s_l_purse f fd) (B : Blt mg) : FnG P w K mg base 1 f fd ["_law_script", "_law_k"] (lift K S_begun) :=
  fnPR_of (okR_begun F B) (fun ds Φ Ψ ⟨_, _, h, _⟩ => by rw [h]; rfl) fun ds Φ Ψ ⟨ns, t, h, t0, t1, hb, q⟩ => ⟨ns, t, h, t0, t1, hb, fun i j l pb => ⟨q, i, j, l, rfl, pb⟩⟩
def M_cast : MSp := fun ms ds Φ => ∃ i j l m : Int, ms = [.int i, .int j, .int l] ∧ PB i j ∧ ds = [.int m] ∧ 0 < m ∧ m < 1073741824 ∧ ∀ c i' j' l', 0 ≤ c → c < m → PB i' j' → Φ (.int c) [.int i', .int j', .int l']
def P_cast : PSp := fun ns Φ => ∃ m, ns = [m] ∧ 0 < m ∧ m < 1073741824 ∧ ∀ c, 0 ≤ c → c < m → Φ (.int c)
abbrev s_l_draw : Stmt := topS 93
abbrev N_l_draw : List Str := ["_law_purse_here", "_law_size", "_law_seed", "_law_by", "_law_digit"]
theorem sc_l_draw : FnScope N_l_draw ["_law_purse_here", "_law_size"] (defScope s_l_draw) := ⟨rfl, rfl, rfl, by decide +kernel, rfl, by decide +kernel, by decide +kernel⟩
theorem okM_cast (F : FunX K "_law_draw" "_law_draw" s_l_draw f fd) (B : Blt mg) : FnG P w K mg base 1 f fd ["_law_purse_here", "_law_size"] (liftM K M_cast) := by
  refine fnM_of F sc_l_draw (fun ms ds Φ ⟨_, _, _, _, _, _, h, _⟩ => by rw [h]; rfl) fun cdv A outer s H E b => ⟨_, (pss_cons (ps_par (i := 2) (j := 3) rfl sc_l_draw.nd rfl rfl (by decide) rfl rfl (pa_cons (pe_ix (k_ix K) (pv 0) pe_int (fun _ _ => rfl)) (pa_cons (pe_op (k_add K) (pe_op op_mod (pe_callTy callr_int (by rfl) B.int bb_int (pa_cons (pe_ix (k_ix K) (pv 0) pe_int (fun _ _ => rfl)) pa_nil)) pe_int) pe_int) pa_nil)) rfl)
 (pss_cons (ps_asg (pe_op (k_add K) (pe_ix (k_ix K) (pv 0) pe_int (fun _ _ => rfl)) pe_int) (pg_sub (pv 0) pe_int set_list))
 (pss_cons (ps_asg (pe_op op_mod (pe_callTy callr_int (by rfl) B.int bb_int (pa_cons (pe_op (k_add K) (pe_op (k_add K) (pe_op opr_mul (pv 2) (pv 3)) (pe_op opr_mul pe_int (pe_ix (k_ix K) (pv 0) pe_int (fun _ _ => rfl)))) pe_int) pa_nil)) pe_int) (pg_sub (pv 0) pe_int set_list))
 (pss_cons (ps_if (pt_cmpR op_gt (pe_ix (k_ix K) (pv 0) pe_int (fun _ _ => rfl)) pe_int (nomark _)) (pss_cons (ps_asg (pe_callB k_divmod (by rfl) B.divmod bb_divmod (pa_cons (pe_ix (k_ix K) (pv 0) pe_int (fun _ _ => rfl)) (pa_cons (pv 1) pa_nil))) (k_pg K (n := 2) rfl (pgs_cons (pg_sub (pv 0) pe_int set_list) (pgs_cons (pg_name (i := 4) sc_l_draw.nd rfl (by first | exact .inl rfl | exact .inr rfl)) pgs_nil))))
 (pss_one (ps_ret (pv 4)))) pss_nil)
 (pss_one (ps_ret (pe_op op_mod (pe_callTy callr_int (by rfl) B.int bb_int (pa_cons (pe_op op_fdiv (pe_ix (k_ix K) (pv 0) pe_int (fun _ _ => rfl)) pe_int) pa_nil)) (pv 1)))))))), fun y ms ds Φ ⟨i, j, l, m, h, pb, h2, m0, m1, q⟩ => ?_⟩
  subst h h2
  obtain ⟨p1, p2, p3⟩ := pb
  show wS _ _ _ [some (.own (some y) (.lst [.int i, .int j, .int l])), some (.dat (.int m)), none, none, none]
  have j0 := Int.emod_nonneg j (show (40009 : Int) ≠ 0 by decide)
  have j1 := Int.emod_lt_of_pos j (show (0 : Int) < 40009 by decide)
  walk_at "dl"
  refine ⟨_, _, rfl, ?_⟩
  walk_at "dl"
  have m2 : ∀ z : Int, 0 ≤ z % 2147483629 ∧ z % 2147483629 < 2147483648 := fun z => by omega
  refine ifD (fun hz => ?_) (fun hz => ?_)
  · walk_at "dl"
    refine divmodG_i m0 m1 ?_
    walk_at "dl"
    exact ⟨_, rfl, q _ _ _ _ (Int.emod_nonneg _ (by omega)) (Int.emod_lt_of_pos _ m0) ⟨Int.ediv_nonneg p1 (by omega), (m2 _).1, (m2 _).2⟩⟩
  · walk_at "dl"
    exact ⟨_, rfl, q _ _ _ _ (Int.emod_nonneg _ (by omega)) (Int.emod_lt_of_pos _ m0) ⟨p1, (m2 _).1, (m2 _).2⟩⟩
theorem ok_cast (F : FunX K "_law_draw" "_law_draw" s_l_draw f fd) (B : Blt mg) : FnG P w K mg base 1 f fd ["_law_purse_here", "_law_size"] (lift K (pailS P_cast)) :=
  fnP_of (okM_cast F B) (fun i j l ns Φ pb ⟨m, e, m0, m1, q⟩ => ⟨i, j, l, m, rfl, pb, by rw [e]; rfl, m0, m1, fun c i' j' l' c0 c1 pb' => ⟨q c c0 c1, i', j', l', rfl, pb'⟩⟩) fun ns Φ ⟨m, e, _⟩ => by rw [e]; rfl
/-- one number drawn -/
theorem use_cast {n : Int} {Φ : D → Prop} {Ψ : Exn → Prop} (h0 : 0 < n) (h1 : n < 1073741824) (h : ∀ c : Nat, (c : Int) < n → Φ (.int c)) : pailS P_cast [.pail, .int n] Φ Ψ :=
  ⟨[n], rfl, n, rfl, h0, h1, fun c c0 c1 => by
    obtain ⟨k, rfl⟩ : ∃ k : Nat, c = k := ⟨c.toNat, by omega⟩
    exact h k c1⟩
end
/-! ### the same texts, the same parts -/
abbrev Tri := List Int × List (Str × Int) × List (Int × List Str)
abbrev TriOk (t : Tri) : Prop := PartsOk t.1 t.2.1 t.2.2
/-! the same data -/
theorem eqv_list {α : Type} {f : α → D} (h : ∀ x y, D.eqv (f x) (f y) = true ↔ x = y) : ∀ xs ys : List α, PyData.eqvAll (pyAll (xs.map f)) (pyAll (ys.map f)) = true ↔ xs = ys
  | [], [] => by simp [pyAll, PyData.eqvAll]
  | [], _ :: _ => by simp [pyAll, PyData.eqvAll]
  | _ :: _, [] => by simp [pyAll, PyData.eqvAll]
  | x :: xs, y :: ys => by
    have ih := eqv_list h xs ys
    have hx := h x y
    unfold D.eqv at hx
    simp only [List.map_cons, pyAll, PyData.eqvAll, Bool.and_eq_true, List.cons.injEq, ih, hx]
theorem eqv_tup {α : Type} {f : α → D} (h : ∀ x y, D.eqv (f x) (f y) = true ↔ x = y) (xs ys : List α) : D.eqv (.tup (xs.map f)) (.tup (ys.map f)) = true ↔ xs = ys := by
  unfold D.eqv
  simp only [D.py, PyData.eqv]
  exact eqv_list h xs ys
/-! it may be shown -/
section
variable {P : Program} {w : World} {K : PySem.W.Frag} {mg : Str → Option Value} {base : Heap} {f C : Addr} {fd : FuncData}
abbrev nightD (C : Addr) (t : Tri) : D := .ins C (nightF t.1 t.2.1 t.2.2)
abbrev namesD (folk : List (Str × Int)) : D := .tup (folk.map fun p => .str p.1)
def S_getN (C : Addr) : DSp := fun ds Φ _ => ∃ t : Tri, ds = [nightD C t] ∧ TriOk t ∧ Φ (namesD t.2.1)
def S_getS (C : Addr) : DSp := fun ds Φ _ => ∃ t : Tri, ds = [nightD C t] ∧ Φ (.int t.1.length)
def S_getL (C : Addr) : DSp := fun ds Φ _ => ∃ t : Tri, ds = [nightD C t] ∧ Φ (.int t.2.1.length)
abbrev s_Night_names : Stmt := inClass (topS 48) 5
abbrev N_Night_names : List Str := ["self"]
theorem sc_Night_names : FnScope N_Night_names ["self"] (defScope s_Night_names) := ⟨rfl, rfl, rfl, by decide +kernel, rfl, by decide +kernel, by decide +kernel⟩
theorem ok_getN (F : FunX K "names" "Night.names" s_Night_names f fd) (T : NightC K C) (c_names_of : CallD P w K mg base "names_of" 1 S_names_of) : FnG P w K mg base 2 f fd ["self"] (lift K (S_getN C)) := by
  refine fnX_of F sc_Night_names (fun ds Φ Ψ ⟨_, h, _⟩ => by rw [h]; rfl) fun cdv A outer s H E b => ⟨_, (pss_one (ps_ret (k_cd K c_names_of (by exact b.room) (by decide) b.pass (pa_cons (k_fld K (pv 0)) pa_nil)))), fun ds Φ Ψ ⟨t, h, ht, q⟩ => ?_⟩
  subst h
  have f2 := ht.f.l2
  show wS _ _ _ [some (.dat _)]
  walk_at "dl"
  refine ⟨_, _, _, rfl, T.cl, T.nP, lk_par, ?_⟩
  walk_at "dl"
  exact ⟨t.2.1, rfl, by omega, q⟩
abbrev s_Night_seats : Stmt := inClass (topS 48) 6
abbrev N_Night_seats : List Str := ["self"]
theorem sc_Night_seats : FnScope N_Night_seats ["self"] (defScope s_Night_seats) := ⟨rfl, rfl, rfl, by decide +kernel, rfl, by decide +kernel, by decide +kernel⟩
theorem ok_getS (F : FunX K "seats" "Night.seats" s_Night_seats f fd) (T : NightC K C) (B : Blt mg) : FnG P w K mg base 1 f fd ["self"] (lift K (S_getS C)) := by
  refine fnX_of F sc_Night_seats (fun ds Φ Ψ ⟨_, h, _⟩ => by rw [h]; rfl) fun cdv A outer s H E b => ⟨_, (pss_one (ps_ret (pe_callB (k_len K) (by rfl) B.len bb_len (pa_cons (k_fld K (pv 0)) pa_nil)))), fun ds Φ Ψ ⟨t, h, q⟩ => ?_⟩
  subst h
  show wS _ _ _ [some (.dat _)]
  walk_at "dl"
  refine ⟨_, _, _, rfl, T.cl, T.nD, lk_div, ?_⟩
  unfold divsD
  walk_at "dl"
  rw [List.length_map]
  exact q
abbrev s_Night___len : Stmt := inClass (topS 48) 7
abbrev N_Night___len : List Str := ["self"]
theorem sc_Night___len : FnScope N_Night___len ["self"] (defScope s_Night___len) := ⟨rfl, rfl, rfl, by decide +kernel, rfl, by decide +kernel, by decide +kernel⟩
theorem ok_getL (F : FunX K "__len__" "Night.__len__" s_Night___len f fd) (T : NightC K C) (B : Blt mg) : FnG P w K mg base 1 f fd ["self"] (lift K (S_getL C)) := by
  refine fnX_of F sc_Night___len (fun ds Φ Ψ ⟨_, h, _⟩ => by rw [h]; rfl) fun cdv A outer s H E b => ⟨_, (pss_one (ps_ret (pe_callB (k_len K) (by rfl) B.len bb_len (pa_cons (k_fld K (pv 0)) pa_nil)))), fun ds Φ Ψ ⟨t, h, q⟩ => ?_⟩
  subst h
  show wS _ _ _ [some (.dat _)]
  walk_at "dl"
  refine ⟨_, _, _, rfl, T.cl, T.nP, lk_par, ?_⟩
  unfold folkD
  walk_at "dl"
  rw [List.length_map]
  exact q
theorem no_piles {t : Tri} (h : TriOk t) : PartsOk t.1 t.2.1 [] := ⟨h.d, h.f, ⟨Nat.zero_le _, fun p hp => by cases hp⟩⟩
end
/-! ### claims, as the program has them -/
local macro_rules | `(tactic| walk_at "blk") => `(tactic| first | decide +kernel | rfl)
section
variable {P : Program} {w : World} {K : PySem.W.Frag} {mg : Str → Option Value} {base : Heap} {f C : Addr} {fd : FuncData}
def S_counts_of : DSp := fun ds Φ _ => ∃ l, ds = [folkD l] ∧ l.length ≤ 1000000 ∧ Φ (.tup (l.map fun p => .int p.2))
abbrev s_counts_of : Stmt := topS 63
abbrev N_counts_of : List Str := ["parties", "_", "count"]
theorem sc_counts_of : FnScope N_counts_of ["parties"] (defScope s_counts_of) := ⟨rfl, rfl, rfl, by decide +kernel, rfl, by decide +kernel, by decide +kernel⟩
theorem ok_counts_of (F : FunX K "counts_of" "counts_of" s_counts_of f fd) (B : Blt mg) : FnG P w K mg base 1 f fd ["parties"] (lift K S_counts_of) := by
  refine fnX_of F sc_counts_of (fun ds Φ Ψ ⟨_, h, _⟩ => by rw [h]; rfl) fun cdv A outer s H E b => ⟨_, (pss_one (ps_ret (pe_callTy (k_tup K) (by rfl) B.tuple bb_tuple (pa_cons (pe_lc (own := [("_", 1), ("count", 2)]) rfl sc_counts_of.nd (k_any K (pv 0)) (blkOk_by (own := [("_", 1), ("count", 2)]) (N := N_counts_of) (sc := defScope s_counts_of) (by decide +kernel))  (fun _ _ _ _ _ => (k_pg K (n := 2) rfl (pgs_cons (pg_name (i := 1) sc_counts_of.nd rfl (by first | exact .inl rfl | exact .inr rfl)) (pgs_cons (pg_name (i := 2) sc_counts_of.nd rfl (by first | exact .inl rfl | exact .inr rfl)) pgs_nil)))) (fun _ _ _ _ _ => pts_nil) (fun _ _ _ _ _ => (pv 2))) pa_nil)))), fun ds Φ Ψ ⟨l, h, hl, q⟩ => ?_⟩
  subst h
  show wS _ _ _ [some (.dat _), none, none]
  walk_at "dlt"
  refine wE_lcM (only_pair (by simp) (by simp)) partyD (fun p => .int p.2) (wI_any ?_)
  unfold folkD
  walk_at "dlt"
  refine ⟨_, rfl, l, rfl, hl, fun p hp => ?_, ?_⟩
  · unfold partyD
    walk_at "dlt"
    rfl
  walk_at "dlt"
  exact q
/-- the least number that all of them divide -/
def scaleN (ns : List Int) : Nat := ns.foldl (fun a n => Nat.lcm a n.natAbs) 1
def S_scale_of : DSp := fun ds Φ _ => ∃ ns, ds = [divsD ns] ∧ DivOk ns ∧ Φ (.int (scaleN ns : Nat))
theorem scale_bd : ∀ (ns : List Int) (a : Nat) (m : Nat), (∀ n ∈ ns, 1 ≤ n ∧ n ≤ 100) → a ≤ 100 ^ m → 1 ≤ a → ns.foldl (fun a n => Nat.lcm a n.natAbs) a ≤ 100 ^ (m + ns.length) ∧ 1 ≤ ns.foldl (fun a n => Nat.lcm a n.natAbs) a
  | [], a, m, _, h, h1 => ⟨h, h1⟩
  | n :: ns, a, m, hb, h, h1 => by
    have hn := hb n List.mem_cons_self
    have l1 : Nat.lcm a n.natAbs ≤ a * n.natAbs := Nat.div_le_self _ _
    have l2 : a * n.natAbs ≤ 100 ^ m * 100 := Nat.mul_le_mul h (by omega)
    have l3 : 0 < Nat.lcm a n.natAbs := Nat.lcm_pos (by omega) (by omega)
    have := scale_bd ns (Nat.lcm a n.natAbs) (m + 1) (fun x hx => hb x (List.mem_cons_of_mem _ hx)) (by rw [Nat.pow_succ]; omega) l3
    rw [List.foldl_cons, List.length_cons]
    rw [show m + (ns.length + 1) = m + 1 + ns.length by omega]
    exact this
abbrev s_scale_of : Stmt := topS 64
abbrev N_scale_of : List Str := ["divisors", "scale", "divisor"]
theorem sc_scale_of : FnScope N_scale_of ["divisors"] (defScope s_scale_of) := ⟨rfl, rfl, rfl, by decide +kernel, rfl, by decide +kernel, by decide +kernel⟩
theorem ok_scale_of (F : FunX K "scale_of" "scale_of" s_scale_of f fd) (B : Blt mg) (c_lcm : mg "lcm" = some (.builtin "math.lcm")) : FnG P w K mg base 1 f fd ["divisors"] (lift K S_scale_of) := by
  refine fnX_of F sc_scale_of (fun ds Φ Ψ ⟨_, h, _⟩ => by rw [h]; rfl) fun cdv A outer s H E b => ⟨_, (pss_cons (ps_set (i := 1) sc_scale_of.nd rfl (by first | exact .inl rfl | exact .inr rfl) pe_int)
 (pss_cons (ps_for b.own rfl (k_any K (pv 0)) (pg_name (i := 2) sc_scale_of.nd rfl (by first | exact .inl rfl | exact .inr rfl)) (pss_one (ps_set (i := 1) sc_scale_of.nd rfl (by first | exact .inl rfl | exact .inr rfl) (pe_callBfun k_lcm (by rfl) c_lcm (pa_cons (pv 1) (pa_cons (pv 2) pa_nil))))))
 (pss_one (ps_ret (pv 1))))), fun ds Φ Ψ ⟨ns, h, dv, q⟩ => ?_⟩
  subst h
  show wS _ _ _ [some (.dat _), none, none]
  unfold divsD
  walk_at "dlt"
  refine wS_forT D.int (fun i ρ' => ∃ x : Option Sl, ρ' = [some (.dat (.tup (ns.map D.int))), some (.dat (.int ((scaleN (ns.take i) : Nat) : Int))), x]) (wI_any ?_)
  walk_at "dlt"
  refine ⟨_, rfl, ns, rfl, ⟨_, rfl⟩, fun i n ρ' hi ⟨x, e⟩ => ?_, fun ρ' ⟨x, e⟩ => ?_⟩
  · subst e
    have nm := List.mem_of_getElem? hi
    have nb := dv.b n nm
    have l2 := dv.l2
    have sb := scale_bd (ns.take i) 1 0 (fun x hx => dv.b x (List.mem_of_mem_take hx)) (by decide) (by decide)
    have sb1 : scaleN (ns.take i) ≤ 100 ^ 12 := Nat.le_trans sb.1 (Nat.pow_le_pow_right (by decide) (by rw [List.length_take]; omega))
    have e1 : scaleN (ns.take (i + 1)) = Nat.lcm (scaleN (ns.take i)) n.natAbs := by
      unfold scaleN
      rw [take_next hi, List.foldl_append]
      rfl
    rw [e1]
    generalize scaleN (ns.take i) = sc at *
    walk_at "dlt"
    refine ⟨_, _, rfl, ?_, ?_, ?_⟩
    · rw [Int.natAbs_natCast]
      exact Nat.lt_of_le_of_lt sb1 (by decide +kernel)
    · exact Nat.lt_of_le_of_lt (show n.natAbs ≤ 100 by omega) (by decide +kernel)
    walk_at "dlt"
    exact ⟨_, rfl⟩
  · subst e
    rw [List.take_length]
    walk_at "dlt"
    exact q
def unitI (ns : List Int) (d : Int) : Int := (scaleN ns : Int) / d
def S_units_of : DSp := fun ds Φ _ => ∃ ns, ds = [divsD ns] ∧ DivOk ns ∧ Φ (.tup ((ns.map fun d => .int (unitI ns d)) ++ [.int 0]))
abbrev s_units_of : Stmt := topS 67
abbrev N_units_of : List Str := ["divisors", "scale", "divisor"]
theorem sc_units_of : FnScope N_units_of ["divisors"] (defScope s_units_of) := ⟨rfl, rfl, rfl, by decide +kernel, rfl, by decide +kernel, by decide +kernel⟩
theorem ok_units_of (F : FunX K "units_of" "units_of" s_units_of f fd) (B : Blt mg) (c_scale_of : CallD P w K mg base "scale_of" 1 S_scale_of) : FnG P w K mg base 2 f fd ["divisors"] (lift K S_units_of) := by
  refine fnX_of F sc_units_of (fun ds Φ Ψ ⟨_, h, _⟩ => by rw [h]; rfl) fun cdv A outer s H E b => ⟨_, (pss_cons (ps_set (i := 1) sc_units_of.nd rfl (by first | exact .inl rfl | exact .inr rfl) (k_cd K c_scale_of (by exact b.room) (by decide) b.pass (pa_cons (pv 0) pa_nil)))
 (pss_one (ps_ret (pe_op (k_add K) (pe_callTy (k_tup K) (by rfl) B.tuple bb_tuple (pa_cons (pe_lc (own := [("divisor", 2)]) rfl sc_units_of.nd (k_any K (pv 0)) (blkOk_by (own := [("divisor", 2)]) (N := N_units_of) (sc := defScope s_units_of) (by decide +kernel))  (fun _ _ _ _ _ => (pg_name (i := 2) sc_units_of.nd rfl (by first | exact .inl rfl | exact .inr rfl))) (fun _ _ _ _ _ => pts_nil) (fun _ _ _ _ _ => (pe_op op_fdiv (pv 1) (pv 2)))) pa_nil)) (pe_tup (pa_cons pe_int pa_nil)))))), fun ds Φ Ψ ⟨ns, h, dv, q⟩ => ?_⟩
  subst h
  show wS _ _ _ [some (.dat _), none, none]
  have l2 := dv.l2
  walk_at "dlt"
  refine ⟨ns, rfl, dv, ?_⟩
  unfold divsD
  walk_at "dlt"
  refine wE_lcM (only_name (by simp)) D.int (fun d => .int (unitI ns d)) (wI_any ?_)
  walk_at "dlt"
  refine ⟨_, rfl, ns, rfl, by omega, fun d hd => ?_, ?_⟩
  · have db := dv.b d hd
    walk_at "dlt"
    rfl
  walk_at "dlt"
  refine addG_t (by rw [List.length_map]; simp; omega) ?_
  exact q
/-- rows of claims -/
def rowsD (rows : List (List Int)) : D := .lst (rows.map fun r => .lst (r.map D.int))
def claimsN (ns cs : List Int) : List (List Int) := cs.map fun c => ns.map fun d => c * unitI ns d
theorem cut_init {α : Type} (l : List α) (x : α) : cutD (l ++ [x]) none (some (-1)) = l := by
  unfold cutD HT.sIx
  simp
  rw [show (-1 + ((l.length : Int) + 1)).toNat = l.length by omega]
  exact List.take_left
def S_claims_of : DSp := fun ds Φ _ => ∃ ns cs, ds = [divsD ns, .tup (cs.map .int)] ∧ DivOk ns ∧ cs.length ≤ 6 ∧ (∀ c ∈ cs, 0 ≤ c ∧ c ≤ 1000000000) ∧ Φ (rowsD (claimsN ns cs))
abbrev s_claims_of : Stmt := topS 65
abbrev N_claims_of : List Str := ["divisors", "counts", "units", "unit", "count"]
theorem sc_claims_of : FnScope N_claims_of ["divisors", "counts"] (defScope s_claims_of) := ⟨rfl, rfl, rfl, by decide +kernel, rfl, by decide +kernel, by decide +kernel⟩
theorem ok_claims_of (F : FunX K "claims_of" "claims_of" s_claims_of f fd) (B : Blt mg) (c_units_of : CallD P w K mg base "units_of" 2 S_units_of) : FnG P w K mg base 3 f fd ["divisors", "counts"] (lift K S_claims_of) := by
  refine fnX_of F sc_claims_of (fun ds Φ Ψ ⟨_, _, h, _⟩ => by rw [h]; rfl) fun cdv A outer s H E b => ⟨_, (pss_cons (ps_set (i := 2) sc_claims_of.nd rfl (by first | exact .inl rfl | exact .inr rfl) (pe_slice (k_sl K) (k_cd K c_units_of (by exact b.room) (by decide) b.pass (pa_cons (pv 0) pa_nil)) po_none (po_some (pe_un un_neg pe_int))))
 (pss_one (ps_ret (pe_lc (own := [("count", 4)]) rfl sc_claims_of.nd (k_any K (pv 1)) (blkOk_by (own := [("count", 4)]) (N := N_claims_of) (sc := defScope s_claims_of) (by decide +kernel))  (fun _ _ _ _ _ => (pg_name (i := 4) sc_claims_of.nd rfl (by first | exact .inl rfl | exact .inr rfl))) (fun _ _ _ _ _ => pts_nil) (fun _ _ _ _ _ => (pe_lc (own := [("unit", 3)]) rfl sc_claims_of.nd (k_any K (pv 2)) (blkOk_by (own := [("unit", 3)]) (N := N_claims_of) (sc := _) (by walk_at "blk"))  (fun _ _ _ _ _ => (pg_name (i := 3) sc_claims_of.nd rfl (by first | exact .inl rfl | exact .inr rfl))) (fun _ _ _ _ _ => pts_nil) (fun _ _ _ _ _ => (pe_op opr_mul (pv 4) (pv 3))))))))), fun ds Φ Ψ ⟨ns, cs, h, dv, l6, hc, q⟩ => ?_⟩
  subst h
  show wS _ _ _ [some (.dat _), some (.dat _), none, none, none]
  have l2 := dv.l2
  walk_at "dlt"
  refine ⟨ns, rfl, dv, ?_⟩
  walk_at "dlt"
  rw [cut_init]
  refine wE_lcM (only_name (by simp)) D.int (fun c => .lst ((ns.map fun d => c * unitI ns d).map D.int)) (wI_any ?_)
  walk_at "dlt"
  refine ⟨_, rfl, cs, rfl, by omega, fun c hcm => ?_, ?_⟩
  · have cb := hc c hcm
    walk_at "dlt"
    refine wE_lcM (only_name (by simp)) (fun d => .int (unitI ns d)) (fun d => .int (c * unitI ns d)) (wI_any ?_)
    walk_at "dlt"
    refine ⟨_, rfl, ns, rfl, by omega, fun d hd => ?_, ?_⟩
    · generalize unitI ns d = u
      walk_at "dlt"
      rfl
    rw [List.map_map]
    rfl
  walk_at "dlt"
  unfold rowsD claimsN at q
  rw [List.map_map] at q
  exact q
/-- the claim with this place, the greatest one ahead -/
structure IsKth (l : List Int) (k : Nat) (p : Int) : Prop where
  m : p ∈ l
  above : (l.filter fun c => decide (p < c)).length ≤ k
  from_ : k < (l.filter fun c => decide (p ≤ c)).length
theorem kth_of {l l' : List Int} {k : Nat} {p : Int} (hp : l'.Perm l) (hs : l'.Pairwise (· ≥ ·)) (hk : l'[k]? = some p) : IsKth l k p := by
  obtain ⟨hl, e⟩ := List.getElem?_eq_some_iff.mp hk
  have e1 := (hp.filter fun c => decide (p < c)).length_eq
  have e2 := (hp.filter fun c => decide (p ≤ c)).length_eq
  have sp : l' = l'.take k ++ l'.drop k := (List.take_append_drop k l').symm
  have ge : ∀ i j : Nat, ∀ x y, l'[i]? = some x → l'[j]? = some y → i < j → x ≥ y := fun i j x y hx hy hij => by
    obtain ⟨h1, rfl⟩ := List.getElem?_eq_some_iff.mp hx
    obtain ⟨h2, rfl⟩ := List.getElem?_eq_some_iff.mp hy
    exact List.pairwise_iff_getElem.mp hs i j h1 h2 hij
  refine ⟨hp.mem_iff.mp (List.mem_of_getElem? hk), ?_, ?_⟩
  · rw [← e1, sp, List.filter_append, List.length_append]
    have z : (l'.drop k).filter (fun c => decide (p < c)) = [] := List.filter_eq_nil_iff.mpr fun c hc => by
      obtain ⟨i, hi⟩ := List.getElem?_of_mem hc
      rw [List.getElem?_drop] at hi
      rw [decide_eq_true_eq]
      by_cases h0 : i = 0
      · rw [h0, Nat.add_zero, hk] at hi
        have := Option.some.inj hi
        omega
      · have := ge k (k + i) p c hk hi (by omega)
        omega
    rw [z, List.length_nil, Nat.add_zero]
    exact Nat.le_trans (List.length_filter_le _ _) (by rw [List.length_take]; omega)
  · rw [← e2]
    have sp2 : l' = l'.take (k + 1) ++ l'.drop (k + 1) := (List.take_append_drop (k + 1) l').symm
    rw [sp2, List.filter_append, List.length_append]
    have a : (l'.take (k + 1)).filter (fun c => decide (p ≤ c)) = l'.take (k + 1) := List.filter_eq_self.mpr fun c hc => by
      obtain ⟨i, hi⟩ := List.getElem?_of_mem hc
      have hik : i < k + 1 := by
        have := (List.getElem?_eq_some_iff.mp hi).1
        rw [List.length_take] at this
        omega
      rw [List.getElem?_take_of_lt hik] at hi
      rw [decide_eq_true_eq]
      by_cases h0 : i = k
      · rw [h0, hk] at hi
        have := Option.some.inj hi
        omega
      · have := ge i k c p hi hk (by omega)
        omega
    rw [a, List.length_take]
    omega
def S_claim_at : DSp := fun ds Φ _ => ∃ (rows : List (List Int)) (k : Nat), ds = [rowsD rows, .int k] ∧ (rows.flatten).length ≤ 1000 ∧ k ≤ 1000 ∧ ((∀ p, k < rows.flatten.length → IsKth rows.flatten k p → Φ (.int p)) ∧ (rows.flatten.length ≤ k → Φ (.int 0)))
abbrev s_claim_at : Stmt := topS 72
abbrev N_claim_at : List Str := ["claims", "place", "ordered", "row", "claim"]
theorem sc_claim_at : FnScope N_claim_at ["claims", "place"] (defScope s_claim_at) := ⟨rfl, rfl, rfl, by decide +kernel, rfl, by decide +kernel, by decide +kernel⟩
theorem ok_claim_at (F : FunX K "claim_at" "claim_at" s_claim_at f fd) (B : Blt mg) (n_sorted : mg "sorted" = none) : FnG P w K mg base 1 f fd ["claims", "place"] (lift K S_claim_at) := by
  refine fnX_of F sc_claim_at (fun ds Φ Ψ ⟨_, _, h, _⟩ => by rw [h]; rfl) fun cdv A outer s H E b => ⟨_, (pss_cons (ps_set (i := 2) sc_claim_at.nd rfl (by first | exact .inl rfl | exact .inr rfl) (pe_callBK (k_sortedRev K) (by rfl) n_sorted bb_sorted (pa_cons (pe_lc2 (own := [("row", 3), ("claim", 4)]) (vs1 := [4]) rfl sc_claim_at.nd (k_any K (pv 0)) (blkOk_by (own := [("row", 3), ("claim", 4)]) (N := N_claim_at) (sc := defScope s_claim_at) (by decide +kernel)) (by decide) (fun _ _ _ _ _ => (pg_name (i := 3) sc_claim_at.nd rfl (by first | exact .inl rfl | exact .inr rfl))) (fun _ _ _ _ _ => pts_nil) (fun _ _ _ _ _ => (k_any K (pv 3))) (fun _ _ _ _ _ => (pg_name (i := 4) sc_claim_at.nd rfl (by first | exact .inl rfl | exact .inr rfl))) (fun _ _ _ _ _ => pts_nil) (fun _ _ _ _ _ => (pv 4))) pa_nil) (pk_cons pe_bl pk_nil)))
 (pss_one (ps_ret (pe_ifExp (pt_cmpR op_lt (pv 1) (pe_callB (k_len K) (by rfl) B.len bb_len (pa_cons (pv 2) pa_nil)) (nomark _)) (pe_ix (k_ix K) (pv 2) (pv 1) (fun _ _ => rfl)) pe_int)))), fun ds Φ Ψ ⟨rows, k, h, hl, hk, q1, q2⟩ => ?_⟩
  subst h
  show wS _ _ _ [some (.dat _), some (.dat _), none, none, none]
  walk_at "dlt"
  refine wE_lc2M (only_name (by simp)) (only_name (by simp)) (fun r : List Int => .lst (r.map D.int)) D.int (fun r => r) (fun _ c => .int c) (wI_any ?_)
  unfold rowsD
  walk_at "dlt"
  refine ⟨_, rfl, rows, rfl, by rw [List.flatMap_id']; omega, fun r hr => ?_, ?_⟩
  · walk_at "dlt"
    refine wI_any ?_
    walk_at "dlt"
    refine ⟨_, rfl, rfl, fun c hc => ?_⟩
    walk_at "dlt"
    rfl
  have ef : (rows.flatMap fun r => r.map fun c => D.int c) = rows.flatten.map D.int := by rw [List.map_flatten, List.flatMap_def]
  rw [ef]
  walk_at "dlt"
  refine ⟨rfl, rows.flatten, rfl, fun ns' hp hs => ?_⟩
  have lm : (ns'.map D.int).length = rows.flatten.length := by rw [List.length_map, hp.length_eq]
  walk_at "dlt"
  rw [lm]
  refine ifD (fun hlt => ?_) (fun hlt => ?_)
  · have hk2 : k < ns'.length := by rw [hp.length_eq]; omega
    have hg := List.getElem?_eq_getElem hk2
    walk_at "dlt"
    refine ixG_l (L2.atI_nat (by rw [List.getElem?_map, hg]; rfl)) ?_
    exact q1 _ (by omega) (kth_of hp hs hg)
  · walk_at "dlt"
    exact q2 (by omega)
def S_seats_above : DSp := fun ds Φ _ => ∃ (rows : List (List Int)) (p : Int), ds = [rowsD rows, .int p] ∧ rows.length ≤ 6 ∧ (∀ r ∈ rows, r.length ≤ 12) ∧ Φ (.lst ((rows.map fun r => (((r.filter fun c => decide (p < c)).length : Nat) : Int)).map D.int))
abbrev s_seats_above : Stmt := topS 73
abbrev N_seats_above : List Str := ["claims", "price", "claim", "row"]
theorem sc_seats_above : FnScope N_seats_above ["claims", "price"] (defScope s_seats_above) := ⟨rfl, rfl, rfl, by decide +kernel, rfl, by decide +kernel, by decide +kernel⟩
theorem ok_seats_above (F : FunX K "seats_above" "seats_above" s_seats_above f fd) (B : Blt mg) : FnG P w K mg base 1 f fd ["claims", "price"] (lift K S_seats_above) := by
  refine fnX_of F sc_seats_above (fun ds Φ Ψ ⟨_, _, h, _⟩ => by rw [h]; rfl) fun cdv A outer s H E b => ⟨_, (pss_one (ps_ret (pe_lc (own := [("row", 3)]) rfl sc_seats_above.nd (k_any K (pv 0)) (blkOk_by (own := [("row", 3)]) (N := N_seats_above) (sc := defScope s_seats_above) (by decide +kernel))  (fun _ _ _ _ _ => (pg_name (i := 3) sc_seats_above.nd rfl (by first | exact .inl rfl | exact .inr rfl))) (fun _ _ _ _ _ => pts_nil) (fun _ _ _ _ _ => (pe_callB (k_len K) (by rfl) B.len bb_len (pa_cons (pe_lc (own := [("claim", 2)]) rfl sc_seats_above.nd (k_any K (pv 3)) (blkOk_by (own := [("claim", 2)]) (N := N_seats_above) (sc := _) (by walk_at "blk"))  (fun _ _ _ _ _ => (pg_name (i := 2) sc_seats_above.nd rfl (by first | exact .inl rfl | exact .inr rfl))) (fun _ _ _ _ _ => (pts_one (pt_cmpR op_gt (pv 2) (pv 1) (nomark _)))) (fun _ _ _ _ _ => (pv 2))) pa_nil)))))), fun ds Φ Ψ ⟨rows, p, h, h6, h12, q⟩ => ?_⟩
  subst h
  show wS _ _ _ [some (.dat _), some (.dat _), none, none]
  walk_at "dlt"
  refine wE_lcM (only_name (by simp)) (fun r : List Int => .lst (r.map D.int)) (fun r => .int (((r.filter fun c => decide (p < c)).length : Nat) : Int)) (wI_any ?_)
  unfold rowsD
  walk_at "dlt"
  refine ⟨_, rfl, rows, rfl, by omega, fun r hr => ?_, ?_⟩
  · have l12 := h12 r hr
    walk_at "dlt"
    refine wE_lcF (only_name (by simp)) D.int D.int (fun c => decide (p < c)) (wI_any ?_)
    walk_at "dlt"
    refine ⟨_, rfl, r, rfl, by omega, fun c hc => ?_, ?_⟩
    · walk_at "dlt"
      refine ⟨rfl, fun _ => ?_⟩
      walk_at "dlt"
      rfl
    walk_at "dlt"
    rw [List.length_map]
  walk_at "dlt"
  rw [List.map_map] at q
  exact q
def S_seats_from : DSp := fun ds Φ _ => ∃ (rows : List (List Int)) (p : Int), ds = [rowsD rows, .int p] ∧ rows.length ≤ 6 ∧ (∀ r ∈ rows, r.length ≤ 12) ∧ Φ (.lst ((rows.map fun r => (((r.filter fun c => decide (p ≤ c)).length : Nat) : Int)).map D.int))
abbrev s_seats_from : Stmt := topS 74
abbrev N_seats_from : List Str := ["claims", "price", "claim", "row"]
theorem sc_seats_from : FnScope N_seats_from ["claims", "price"] (defScope s_seats_from) := ⟨rfl, rfl, rfl, by decide +kernel, rfl, by decide +kernel, by decide +kernel⟩
theorem ok_seats_from (F : FunX K "seats_from" "seats_from" s_seats_from f fd) (B : Blt mg) : FnG P w K mg base 1 f fd ["claims", "price"] (lift K S_seats_from) := by
  refine fnX_of F sc_seats_from (fun ds Φ Ψ ⟨_, _, h, _⟩ => by rw [h]; rfl) fun cdv A outer s H E b => ⟨_, (pss_one (ps_ret (pe_lc (own := [("row", 3)]) rfl sc_seats_from.nd (k_any K (pv 0)) (blkOk_by (own := [("row", 3)]) (N := N_seats_from) (sc := defScope s_seats_from) (by decide +kernel))  (fun _ _ _ _ _ => (pg_name (i := 3) sc_seats_from.nd rfl (by first | exact .inl rfl | exact .inr rfl))) (fun _ _ _ _ _ => pts_nil) (fun _ _ _ _ _ => (pe_callB (k_len K) (by rfl) B.len bb_len (pa_cons (pe_lc (own := [("claim", 2)]) rfl sc_seats_from.nd (k_any K (pv 3)) (blkOk_by (own := [("claim", 2)]) (N := N_seats_from) (sc := _) (by walk_at "blk"))  (fun _ _ _ _ _ => (pg_name (i := 2) sc_seats_from.nd rfl (by first | exact .inl rfl | exact .inr rfl))) (fun _ _ _ _ _ => (pts_one (pt_cmpR op_ge (pv 2) (pv 1) (nomark _)))) (fun _ _ _ _ _ => (pv 2))) pa_nil)))))), fun ds Φ Ψ ⟨rows, p, h, h6, h12, q⟩ => ?_⟩
  subst h
  show wS _ _ _ [some (.dat _), some (.dat _), none, none]
  walk_at "dlt"
  refine wE_lcM (only_name (by simp)) (fun r : List Int => .lst (r.map D.int)) (fun r => .int (((r.filter fun c => decide (p ≤ c)).length : Nat) : Int)) (wI_any ?_)
  unfold rowsD
  walk_at "dlt"
  refine ⟨_, rfl, rows, rfl, by omega, fun r hr => ?_, ?_⟩
  · have l12 := h12 r hr
    walk_at "dlt"
    refine wE_lcF (only_name (by simp)) D.int D.int (fun c => decide (p ≤ c)) (wI_any ?_)
    walk_at "dlt"
    refine ⟨_, rfl, r, rfl, by omega, fun c hc => ?_, ?_⟩
    · walk_at "dlt"
      refine ⟨rfl, fun _ => ?_⟩
      walk_at "dlt"
      rfl
    walk_at "dlt"
    rw [List.length_map]
  walk_at "dlt"
  rw [List.map_map] at q
  exact q
end
/-! ### tables between bounds -/
def rng (lo hi : Int) : List Int := (List.range (hi + 1 - lo).toNat).map fun (i : Nat) => lo + (i : Int)
theorem mem_rng {lo hi x : Int} : x ∈ rng lo hi ↔ lo ≤ x ∧ x ≤ hi := by
  unfold rng
  rw [List.mem_map]
  constructor
  · rintro ⟨i, hi, rfl⟩
    have := List.mem_range.mp hi
    omega
  · rintro ⟨h1, h2⟩
    exact ⟨(x - lo).toNat, List.mem_range.mpr (by omega), by omega⟩
theorem rng_up (lo hi : Int) : (rng lo hi).Pairwise (· < ·) := by
  unfold rng
  rw [List.pairwise_map]
  exact List.pairwise_lt_range.imp (by intros; omega)
theorem up_uniq : ∀ {a b : List Int}, a.Pairwise (· < ·) → b.Pairwise (· < ·) → (∀ k, k ∈ a ↔ k ∈ b) → a = b
  | [], [], _, _, _ => rfl
  | [], y :: b, _, _, h => absurd ((h y).mpr List.mem_cons_self) (by simp)
  | x :: a, [], _, _, h => absurd ((h x).mp List.mem_cons_self) (by simp)
  | x :: a, y :: b, p, q, h => by
    obtain ⟨p1, p2⟩ := List.pairwise_cons.mp p
    obtain ⟨q1, q2⟩ := List.pairwise_cons.mp q
    have e : x = y := by
      rcases List.mem_cons.mp ((h x).mp List.mem_cons_self) with e | m
      · exact e
      · rcases List.mem_cons.mp ((h y).mpr List.mem_cons_self) with e | m2
        · exact e.symm
        · have := q1 x m
          have := p1 y m2
          omega
    subst e
    rw [up_uniq p2 q2 fun k => ⟨fun hk => ?_, fun hk => ?_⟩]
    · rcases List.mem_cons.mp ((h k).mp (List.mem_cons_of_mem _ hk)) with e | m
      · have := p1 k hk; omega
      · exact m
    · rcases List.mem_cons.mp ((h k).mpr (List.mem_cons_of_mem _ hk)) with e | m
      · have := q1 k hk; omega
      · exact m
theorem rng_filter (lo hi a b : Int) : (rng lo hi).filter (fun x => decide (a ≤ x) && decide (x ≤ b)) = rng (if a > lo then a else lo) (if b < hi then b else hi) := by
  refine up_uniq ((rng_up lo hi).filter _) (rng_up _ _) fun k => ?_
  rw [List.mem_filter, mem_rng, mem_rng, Bool.and_eq_true, decide_eq_true_eq, decide_eq_true_eq]
  split <;> split <;> omega
theorem flat_filter {α β : Type} {p : α → Bool} {F : α → List β} : ∀ {l : List α}, (∀ x ∈ l, p x = false → F x = []) → (l.filter p).flatMap F = l.flatMap F
  | [], _ => rfl
  | x :: l, h => by
    have ih := flat_filter (p := p) (F := F) (l := l) fun y hy => h y (List.mem_cons_of_mem _ hy)
    rw [List.filter_cons]
    cases hp : p x with
    | true => rw [if_pos rfl, List.flatMap_cons, List.flatMap_cons, ih]
    | false => rw [if_neg Bool.false_ne_true, List.flatMap_cons, h x List.mem_cons_self hp, List.nil_append, ih]
abbrev Bd2 := List (Int × Int)
def loS (bs : Bd2) : Int := (bs.map (·.1)).sum
def hiS (bs : Bd2) : Int := (bs.map (·.2)).sum
/-- all rows of numbers between these bounds that sum up to left, ascending -/
def tabs : Bd2 → Int → List (List Int)
  | [], left => if left = 0 then [[]] else []
  | b :: bs, left => (rng b.1 b.2).flatMap fun own => (tabs bs (left - own)).map (own :: ·)
theorem tabs_sum : ∀ {bs : Bd2} {left : Int} {t : List Int}, t ∈ tabs bs left → loS bs ≤ left ∧ left ≤ hiS bs ∧ t.length = bs.length ∧ t.sum = left ∧ ∀ (i : Nat) x b, t[i]? = some x → bs[i]? = some b → b.1 ≤ x ∧ x ≤ b.2
  | [], left, t, h => by
    unfold tabs at h
    split at h
    · rw [List.mem_singleton.mp h]
      refine ⟨by unfold loS; simp; omega, by unfold hiS; simp; omega, rfl, by simp; omega, fun i x b h1 => by simp at h1⟩
    · cases h
  | b :: bs, left, t, h => by
    unfold tabs at h
    obtain ⟨own, ho, h⟩ := List.mem_flatMap.mp h
    obtain ⟨r, hr, rfl⟩ := List.mem_map.mp h
    obtain ⟨o1, o2⟩ := mem_rng.mp ho
    obtain ⟨h1, h2, h3, h4, h5⟩ := tabs_sum hr
    refine ⟨by unfold loS at h1 ⊢; rw [List.map_cons, List.sum_cons]; omega, by unfold hiS at h2 ⊢; rw [List.map_cons, List.sum_cons]; omega, by rw [List.length_cons, List.length_cons, h3], by rw [List.sum_cons, h4]; omega, fun i x c e1 e2 => ?_⟩
    cases i with
    | zero =>
      rw [List.getElem?_cons_zero] at e1 e2
      cases e1; cases e2
      exact ⟨o1, o2⟩
    | succ i =>
      rw [List.getElem?_cons_succ] at e1 e2
      exact h5 i x c e1 e2
theorem tabs_none {bs : Bd2} {left : Int} (h : left < loS bs ∨ hiS bs < left) : tabs bs left = [] := by
  refine List.eq_nil_iff_forall_not_mem.mpr fun t ht => ?_
  obtain ⟨h1, h2, _⟩ := tabs_sum ht
  omega
def mx (a b : Int) : Int := if b > a then b else a
def mn (a b : Int) : Int := if b < a then b else a
/-- the same, what cannot come to an end left out -/
def tabsP : Bd2 → Int → List (List Int)
  | [], _ => [[]]
  | b :: bs, left => (rng (mx b.1 (left - hiS bs)) (mn b.2 (left - loS bs))).flatMap fun own => (tabsP bs (left - own)).map (own :: ·)
theorem tabsP_eq : ∀ {bs : Bd2} {left : Int}, bs ≠ [] ∨ left = 0 → tabsP bs left = tabs bs left
  | [], left, h => by
    have : left = 0 := h.resolve_left fun h => h rfl
    unfold tabsP tabs
    rw [if_pos this]
  | b :: bs, left, _ => by
    unfold tabsP tabs mx mn
    rw [← rng_filter, ← flat_filter (l := rng b.1 b.2) (p := fun x => decide (left - hiS bs ≤ x) && decide (x ≤ left - loS bs)) (F := fun own => (tabs bs (left - own)).map (own :: ·))]
    · rw [List.flatMap_def, List.flatMap_def]
      refine congrArg List.flatten (List.map_congr_left fun own ho => ?_)
      have hb := (List.mem_filter.mp ho).2
      rw [Bool.and_eq_true, decide_eq_true_eq, decide_eq_true_eq] at hb
      rw [tabsP_eq]
      by_cases e : bs = []
      · right
        subst e
        unfold hiS loS at hb
        simp at hb
        omega
      · exact .inl e
    · intro own ho hp
      rw [Bool.and_eq_false_iff, decide_eq_false_iff_not, decide_eq_false_iff_not] at hp
      rw [tabs_none (by omega)]
      rfl
abbrev Beg := List (List Int × Int)
def stepB (b : Int × Int) (bs : Bd2) (g : Beg) : Beg := g.flatMap fun x => (rng (mx b.1 (x.2 - hiS bs)) (mn b.2 (x.2 - loS bs))).map fun own => (x.1 ++ [own], x.2 - own)
def runB : Bd2 → Beg → Beg
  | [], g => g
  | b :: bs, g => runB bs (stepB b bs g)
theorem runB_eq : ∀ (bs : Bd2) (g : Beg), (runB bs g).map (·.1) = g.flatMap fun x => (tabsP bs x.2).map (x.1 ++ ·)
  | [], g => by
    unfold runB tabsP
    induction g with
    | nil => rfl
    | cons x g ih => rw [List.map_cons, List.flatMap_cons, ih]; simp
  | b :: bs, g => by
    unfold runB
    rw [runB_eq bs]
    unfold stepB
    rw [List.flatMap_assoc]
    refine congrArg (fun F => List.flatMap F g) (funext fun x => ?_)
    conv => rhs; unfold tabsP
    rw [List.map_flatMap, List.flatMap_map]
    refine congrArg (fun F => List.flatMap F (rng (mx b.1 (x.2 - hiS bs)) (mn b.2 (x.2 - loS bs)))) (funext fun own => ?_)
    rw [List.map_map]
    refine List.map_congr_left fun r _ => ?_
    simp
/-- so many rows of i numbers from 0 on there are whose sum is at most l -/
def cnt : Nat → Nat → Nat
  | 0, _ => 1
  | i + 1, l => ((List.range (l + 1)).map fun o => cnt i (l - o)).sum
def potB (j : Nat) (g : Beg) : Nat := (g.map fun x => cnt j x.2.toNat).sum
theorem sum_sub {α : Type} (F : α → Nat) {p : α → Bool} : ∀ l : List α, ((l.filter p).map F).sum ≤ (l.map F).sum
  | [] => Nat.le_refl _
  | x :: l => by
    have := sum_sub F (p := p) l
    rw [List.filter_cons]
    split
    · rw [List.map_cons, List.map_cons, List.sum_cons, List.sum_cons]; omega
    · rw [List.map_cons, List.sum_cons]; omega
theorem pot_one {j : Nat} {lo hi l : Int} (h0 : 0 ≤ lo) (h1 : hi ≤ l) (h2 : 0 ≤ l) : ((rng lo hi).map fun own => cnt j (l - own).toNat).sum ≤ cnt (j + 1) l.toNat := by
  have e : rng lo hi = (rng 0 l).filter (fun x => decide (lo ≤ x) && decide (x ≤ hi)) := by
    rw [rng_filter]
    congr 1
    · split <;> omega
    · split <;> omega
  rw [e]
  refine Nat.le_trans (sum_sub _ _) ?_
  unfold rng
  rw [show cnt (j + 1) l.toNat = ((List.range (l.toNat + 1)).map fun o => cnt j (l.toNat - o)).sum from rfl, List.map_map, show (l + 1 - 0).toNat = l.toNat + 1 by omega]
  refine Nat.le_of_eq (congrArg List.sum (List.map_congr_left fun o ho => ?_))
  show cnt j (l - (0 + (o : Int))).toNat = cnt j (l.toNat - o)
  congr 1
  omega
theorem pot_step {j : Nat} {b : Int × Int} {bs : Bd2} {g : Beg} (h0 : 0 ≤ b.1) (hl : 0 ≤ loS bs) (hg : ∀ x ∈ g, 0 ≤ x.2) : potB j (stepB b bs g) ≤ potB (j + 1) g ∧ ∀ x ∈ stepB b bs g, 0 ≤ x.2 := by
  constructor
  · induction g with
    | nil => exact Nat.le_refl _
    | cons x g ih =>
      have ih := ih fun y hy => hg y (List.mem_cons_of_mem _ hy)
      unfold potB stepB at ih ⊢
      rw [List.flatMap_cons, List.map_append, List.sum_append, List.map_cons, List.sum_cons, List.map_map]
      have := pot_one (j := j) (lo := mx b.1 (x.2 - hiS bs)) (hi := mn b.2 (x.2 - loS bs)) (l := x.2) (by unfold mx; split <;> omega) (by unfold mn; split <;> omega) (hg x List.mem_cons_self)
      exact Nat.add_le_add this ih
  · intro y hy
    unfold stepB at hy
    obtain ⟨x, hx, hy⟩ := List.mem_flatMap.mp hy
    obtain ⟨own, ho, rfl⟩ := List.mem_map.mp hy
    have := (mem_rng.mp ho).2
    unfold mn at this
    show 0 ≤ x.2 - own
    split at this <;> omega
theorem pot_len (g : Beg) : potB 0 g = g.length := by
  unfold potB
  induction g with
  | nil => rfl
  | cons x g ih => rw [List.map_cons, List.sum_cons, ih, List.length_cons]; show 1 + _ = _; omega
theorem cnt_top : ∀ i ≤ 6, ∀ l ≤ 12, cnt i l ≤ 18564 := by decide +kernel
/-! ### tables_within, tables_made, results -/
section
variable {P : Program} {w : World} {K : PySem.W.Frag} {mg : Str → Option Value} {base : Heap} {f C : Addr} {fd : FuncData}
def intsD (l : List Int) : D := .tup (l.map D.int)
def begE (x : List Int × Int) : D := .tup [.tup (x.1.map D.int), .int x.2]
theorem zip_intsL (cs ss : List Int) : zipD (cs.map D.int) (ss.map D.int) = (cs.zip ss).map fun p => D.tup [.int p.1, .int p.2] := zipD_map _ _ _ _
theorem rng_range (a b : Int) : rangeD a (b + 1) = (rng a b).map D.int := by
  unfold rangeD rng
  rw [List.map_map]
  rfl
def S_tables_within : DSp := fun ds Φ _ => ∃ (lows highs : List Int) (S : Int), ds = [.lst (lows.map .int), .lst (highs.map .int), .int S] ∧ lows.length = highs.length ∧ 1 ≤ lows.length ∧ lows.length ≤ 6 ∧ (∀ x ∈ lows, 0 ≤ x ∧ x ≤ 1000) ∧ (∀ x ∈ highs, 0 ≤ x ∧ x ≤ 1000) ∧ 0 ≤ S ∧ S ≤ 12 ∧ Φ (.tup ((tabs (lows.zip highs) S).map intsD))
theorem sum_bd : ∀ {l : List Int}, (∀ x ∈ l, 0 ≤ x ∧ x ≤ 1000) → 0 ≤ l.sum ∧ l.sum ≤ 1000 * l.length
  | [], _ => by simp
  | x :: l, h => by
    have := sum_bd fun y hy => h y (List.mem_cons_of_mem _ hy)
    have := h x List.mem_cons_self
    rw [List.sum_cons, List.length_cons]
    omega
abbrev s_tables_within : Stmt := topS 75
abbrev N_tables_within : List Str := ["lows", "highs", "seats", "begun", "fewest", "most", "low", "high", "told", "left", "own", "_"]
theorem sc_tables_within : FnScope N_tables_within ["lows", "highs", "seats"] (defScope s_tables_within) := ⟨rfl, rfl, rfl, by decide +kernel, rfl, by decide +kernel, by decide +kernel⟩
theorem ok_tables_within (F : FunX K "tables_within" "tables_within" s_tables_within f fd) (B : Blt mg) : FnG P w K mg base 1 f fd ["lows", "highs", "seats"] (lift K S_tables_within) := by
  refine fnX_of F sc_tables_within (fun ds Φ Ψ ⟨_, _, _, h, _⟩ => by rw [h]; rfl) fun cdv A outer s H E b => ⟨_, (pss_cons (ps_set (i := 3) sc_tables_within.nd rfl (by first | exact .inl rfl | exact .inr rfl) (pe_lst (pa_cons (pe_tup (pa_cons (pe_tup pa_nil) (pa_cons (pv 2) pa_nil))) pa_nil)))
 (pss_cons (ps_set (i := 4) sc_tables_within.nd rfl (by first | exact .inl rfl | exact .inr rfl) (pe_callB (k_sumA K rfl) (by rfl) B.sum bb_sum (pa_cons (pv 0) pa_nil)))
 (pss_cons (ps_set (i := 5) sc_tables_within.nd rfl (by first | exact .inl rfl | exact .inr rfl) (pe_callB (k_sumA K rfl) (by rfl) B.sum bb_sum (pa_cons (pv 1) pa_nil)))
 (pss_cons (ps_for b.own rfl (k_zip K (by rfl) B.zip (pa_cons (pv 0) (pa_cons (pv 1) pa_nil))) (k_pg K (n := 2) rfl (pgs_cons (pg_name (i := 6) sc_tables_within.nd rfl (by first | exact .inl rfl | exact .inr rfl)) (pgs_cons (pg_name (i := 7) sc_tables_within.nd rfl (by first | exact .inl rfl | exact .inr rfl)) pgs_nil))) (pss_cons (ps_set (i := 4) sc_tables_within.nd rfl (by first | exact .inl rfl | exact .inr rfl) (pe_op op_sub (pv 4) (pv 6)))
 (pss_cons (ps_set (i := 5) sc_tables_within.nd rfl (by first | exact .inl rfl | exact .inr rfl) (pe_op op_sub (pv 5) (pv 7)))
 (pss_one (ps_setLc2 (i := 3) (own := [("told", 8), ("left", 9), ("own", 10)]) (vs1 := [10]) rfl sc_tables_within.nd rfl rfl (sw_true rfl rfl rfl (by decide +kernel)) (k_any K (pv 3)) (blkOk_by (own := [("told", 8), ("left", 9), ("own", 10)]) (N := N_tables_within) (sc := defScope s_tables_within) (by decide +kernel)) (by decide) (fun _ _ _ _ _ => (k_pg K (n := 2) rfl (pgs_cons (pg_name (i := 8) sc_tables_within.nd rfl (by first | exact .inl rfl | exact .inr rfl)) (pgs_cons (pg_name (i := 9) sc_tables_within.nd rfl (by first | exact .inl rfl | exact .inr rfl)) pgs_nil)))) (fun _ _ _ _ _ => pts_nil) (fun _ _ _ _ _ => (pi_range2 (by rfl) B.range (pa_cons (pe_callB (call_max2 rfl) (by rfl) B.max bb_max (pa_cons (pv 6) (pa_cons (pe_op op_sub (pv 9) (pv 5)) pa_nil))) (pa_cons (pe_op (k_add K) (pe_callB (call_min2 rfl) (by rfl) B.min bb_min (pa_cons (pv 7) (pa_cons (pe_op op_sub (pv 9) (pv 4)) pa_nil))) pe_int) pa_nil)))) (fun _ _ _ _ _ => (pg_name (i := 10) sc_tables_within.nd rfl (by first | exact .inl rfl | exact .inr rfl))) (fun _ _ _ _ _ => pts_nil) (fun _ _ _ _ _ => (pe_tup (pa_cons (pe_op (k_add K) (pv 8) (pe_tup (pa_cons (pv 10) pa_nil))) (pa_cons (pe_op op_sub (pv 9) (pv 10)) pa_nil)))))))))
 (pss_one (ps_ret (pe_callTy (k_tup K) (by rfl) B.tuple bb_tuple (pa_cons (pe_lc (own := [("told", 8), ("_", 11)]) rfl sc_tables_within.nd (k_any K (pv 3)) (blkOk_by (own := [("told", 8), ("_", 11)]) (N := N_tables_within) (sc := defScope s_tables_within) (by decide +kernel))  (fun _ _ _ _ _ => (k_pg K (n := 2) rfl (pgs_cons (pg_name (i := 8) sc_tables_within.nd rfl (by first | exact .inl rfl | exact .inr rfl)) (pgs_cons (pg_name (i := 11) sc_tables_within.nd rfl (by first | exact .inl rfl | exact .inr rfl)) pgs_nil)))) (fun _ _ _ _ _ => pts_nil) (fun _ _ _ _ _ => (pv 8))) pa_nil)))))))), fun ds Φ Ψ ⟨lows, highs, S, h, le, l1, l6, hlo, hhi, S0, S12, q⟩ => ?_⟩
  subst h
  show wS _ _ _ [some (.dat _), some (.dat _), some (.dat _), none, none, none, none, none, none, none, none, none]
  generalize hbs : lows.zip highs = bs at q
  have bl : bs.length = lows.length := by rw [← hbs, List.length_zip]; omega
  have e1 : bs.map (·.1) = lows := by rw [← hbs, List.map_fst_zip (by omega)]
  have e2 : bs.map (·.2) = highs := by rw [← hbs, List.map_snd_zip (by omega)]
  have bb : ∀ b ∈ bs, 0 ≤ b.1 ∧ b.1 ≤ 1000 ∧ 0 ≤ b.2 ∧ b.2 ≤ 1000 := fun b hb => by
    have h1 := hlo b.1 (by rw [← e1]; exact List.mem_map_of_mem hb)
    have h2 := hhi b.2 (by rw [← e2]; exact List.mem_map_of_mem hb)
    omega
  have sumD : ∀ i, (0 ≤ loS (bs.drop i) ∧ loS (bs.drop i) ≤ 6000) ∧ (0 ≤ hiS (bs.drop i) ∧ hiS (bs.drop i) ≤ 6000) := fun i => by
    have h1 := sum_bd (l := (bs.drop i).map (·.1)) fun x hx => by
      obtain ⟨b, hb, rfl⟩ := List.mem_map.mp hx
      have := bb b (List.mem_of_mem_drop hb); omega
    have h2 := sum_bd (l := (bs.drop i).map (·.2)) fun x hx => by
      obtain ⟨b, hb, rfl⟩ := List.mem_map.mp hx
      have := bb b (List.mem_of_mem_drop hb); omega
    rw [List.length_map, List.length_drop] at h1 h2
    unfold loS hiS
    omega
  walk_at "dlt"
  refine sumG_l ?_
  walk_at "dlt"
  refine sumG_l ?_
  walk_at "dlt"
  refine wS_forT (fun p : Int × Int => D.tup [.int p.1, .int p.2]) (fun i ρ' => ∃ (g : Beg) (y3 : Sl) (x6 x7 x8 x9 x10 x11 : Option Sl), ρ' = [some (.dat (.lst (lows.map D.int))), some (.dat (.lst (highs.map D.int))), some (.dat (.int S)), some y3, some (.dat (.int (loS (bs.drop i)))), some (.dat (.int (hiS (bs.drop i)))), x6, x7, x8, x9, x10, x11] ∧
    (y3 = .dat (.lst (g.map begE)) ∨ y3 = .own none (.lst (g.map begE))) ∧ runB (bs.drop i) g = runB bs [([], S)] ∧ (∀ x ∈ g, 0 ≤ x.2 ∧ x.2 ≤ S ∧ x.1.length ≤ i) ∧ ∀ j, potB j g ≤ cnt (i + j) S.toNat) (wI_zipL ?_)
  walk_at "dlt"
  refine ⟨_, _, rfl, bs, by rw [zip_intsL, hbs], ⟨[([], S)], .own none (.lst [begE ([], S)]), none, none, none, none, none, none, ?_, .inr rfl, rfl, fun x hx => ?_, fun j => ?_⟩, fun i b ρ' hi ⟨g, y3, x6, x7, x8, x9, x10, x11, e, hy, hr, hg, hp⟩ => ?_, fun ρ' ⟨g, y3, x6, x7, x8, x9, x10, x11, e, hy, hr, hg, hp⟩ => ?_⟩
  · rw [List.drop_zero]
    unfold loS hiS
    rw [e1, e2]
    rfl
  · rw [List.mem_singleton.mp hx]
    exact ⟨S0, Int.le_refl _, Nat.le_refl _⟩
  · unfold potB
    rw [List.map_cons, List.sum_cons, Nat.zero_add]
    exact Nat.le_refl _
  · subst e
    have bm := bb b (List.mem_of_getElem? hi)
    obtain ⟨hil, hb0⟩ := List.getElem?_eq_some_iff.mp hi
    have ed : bs.drop i = b :: bs.drop (i + 1) := by rw [← hb0]; exact List.drop_eq_getElem_cons hil
    have sd := sumD (i + 1)
    have elo : loS (bs.drop i) - b.1 = loS (bs.drop (i + 1)) := by unfold loS; rw [ed, List.map_cons, List.sum_cons]; omega
    have ehi : hiS (bs.drop i) - b.2 = hiS (bs.drop (i + 1)) := by unfold hiS; rw [ed, List.map_cons, List.sum_cons]; omega
    rw [ed] at hr
    obtain ⟨ps1, ps2⟩ : (∀ j, potB j (stepB b (bs.drop (i + 1)) g) ≤ potB (j + 1) g) ∧ ∀ x ∈ stepB b (bs.drop (i + 1)) g, 0 ≤ x.2 := ⟨fun j => (pot_step bm.1 sd.1.1 fun x hx => (hg x hx).1).1, (pot_step (j := 0) bm.1 sd.1.1 fun x hx => (hg x hx).1).2⟩
    have hp2 : ∀ j, potB j (stepB b (bs.drop (i + 1)) g) ≤ cnt (i + 1 + j) S.toNat := fun j => by
      have h1 := ps1 j
      have h2 := hp (j + 1)
      rw [show i + 1 + j = i + (j + 1) by omega]
      omega
    have len : (stepB b (bs.drop (i + 1)) g).length ≤ 18564 := by
      have h1 := hp2 0
      rw [pot_len] at h1
      exact Nat.le_trans h1 (cnt_top _ (by omega) _ (by omega))
    walk_at "dlt"
    rw [elo]
    walk_at "dlt"
    rw [ehi]
    have es : (g.flatMap fun x => (rng (mx b.1 (x.2 - hiS (bs.drop (i + 1)))) (mn b.2 (x.2 - loS (bs.drop (i + 1))))).map fun own => begE (x.1 ++ [own], x.2 - own)) = (stepB b (bs.drop (i + 1)) g).map begE := by
      unfold stepB
      rw [List.map_flatMap]
      refine congrArg (fun F => List.flatMap F g) (funext fun x => ?_)
      rw [List.map_map]
      rfl
    have lf : (g.flatMap fun x => rng (mx b.1 (x.2 - hiS (bs.drop (i + 1)))) (mn b.2 (x.2 - loS (bs.drop (i + 1))))).length ≤ 18564 := by
      have e2 := congrArg List.length es
      rw [List.length_map, List.length_flatMap] at e2
      simp only [List.length_map] at e2
      rw [List.length_flatMap]
      omega
    have hg2 : ∀ x ∈ stepB b (bs.drop (i + 1)) g, 0 ≤ x.2 ∧ x.2 ≤ S ∧ x.1.length ≤ i + 1 := fun y hy => by
      have y0 := ps2 y hy
      unfold stepB at hy
      obtain ⟨x, hx, hy⟩ := List.mem_flatMap.mp hy
      obtain ⟨own, ho, rfl⟩ := List.mem_map.mp hy
      have h1 := (mem_rng.mp ho).1
      have h2 := hg x hx
      unfold mx at h1
      refine ⟨y0, ?_, by rw [List.length_append]; simp; omega⟩
      show x.2 - own ≤ S
      split at h1 <;> omega
    rcases hy with rfl | rfl
    all_goals
      refine wE_lc2M (only_pair (by simp) (by simp)) (only_name (by simp)) begE D.int (fun x => rng (mx b.1 (x.2 - hiS (bs.drop (i + 1)))) (mn b.2 (x.2 - loS (bs.drop (i + 1))))) (fun x own => begE (x.1 ++ [own], x.2 - own)) (wI_any ?_)
      walk_at "dlt"
      refine ⟨_, rfl, g, rfl, by omega, fun x hx => ?_, ?_⟩
      · have xb := hg x hx
        unfold begE
        walk_at "dlt"
        refine wI_range2 ?_
        walk_at "dlt"
        refine ⟨_, _, rfl, by split <;> split <;> omega, ?_, fun own ho => ?_⟩
        · rw [rng_range]
          rfl
        · have := mem_rng.mp ho
          walk_at "dlt"
          refine addG_t (by rw [List.length_map]; simp; omega) ?_
          walk_at "dlt"
          rw [List.map_append]
          rfl
      walk_at "dlt"
      rw [es]
      exact ⟨stepB b (bs.drop (i + 1)) g, _, _, _, _, _, _, _, rfl, .inl rfl, hr, hg2, hp2⟩
  · subst e
    rw [List.drop_length] at hr
    have er : g.map (·.1) = tabs bs S := by
      have h1 := runB_eq bs [([], S)]
      rw [← hr] at h1
      unfold runB at h1
      rw [h1, List.flatMap_cons, List.flatMap_nil, List.append_nil, tabsP_eq (.inl (by intro e; rw [e] at bl; simp at bl; omega))]
      simp
    have gl : g.length ≤ 18564 := by
      have h1 := hp 0
      rw [pot_len] at h1
      exact Nat.le_trans h1 (cnt_top _ (by omega) _ (by omega))
    rcases hy with rfl | rfl
    all_goals
      walk_at "dlt"
      refine wE_lcM (only_pair (by simp) (by simp)) begE (fun x => intsD x.1) (wI_any ?_)
      walk_at "dlt"
      refine ⟨_, rfl, g, rfl, by omega, fun x hx => ?_, ?_⟩
      · unfold begE
        walk_at "dlt"
        rfl
      walk_at "dlt"
      rw [← er, List.map_map] at q
      exact q
end
section
variable {P : Program} {w : World} {K : PySem.W.Frag} {mg : Str → Option Value} {base : Heap} {f C : Addr} {fd : FuncData}
def bdsAt (rows : List (List Int)) (p : Int) : Bd2 := rows.map fun r => ((((r.filter fun c => decide (p < c)).length : Nat) : Int), (((r.filter fun c => decide (p ≤ c)).length : Nat) : Int))
def S_check_night (C : Addr) : DSp := fun ds Φ _ => ∃ t : Tri, ds = [nightD C t] ∧ Φ .non
abbrev s_check_night : Stmt := topS 50
abbrev N_check_night : List Str := ["night"]
theorem sc_check_night : FnScope N_check_night ["night"] (defScope s_check_night) := ⟨rfl, rfl, rfl, by decide +kernel, rfl, by decide +kernel, by decide +kernel⟩
theorem ok_check_night (F : FunX K "check_night" "check_night" s_check_night f fd) (B : Blt mg) (IC : IsC K C) (c_Night : mg "Night" = some (.ref C)) : FnG P w K mg base 1 f fd ["night"] (lift K (S_check_night C)) := by
  refine fnX_of F sc_check_night (fun ds Φ Ψ ⟨_, h, _⟩ => by rw [h]; rfl) fun cdv A outer s H E b => ⟨_, (pss_one (ps_if (pt_not (pt_val (pe_callB (k_isi K) (by rfl) B.isinstance bb_isinstance (pa_cons (pv 0) (pa_cons (pe_gcls c_Night) pa_nil))))) (pss_one ps_never) pss_nil)), fun ds Φ Ψ ⟨t, h, q⟩ => ?_⟩
  subst h
  show wS _ _ _ [some (.dat _)]
  refine wS_if ?_
  refine wT_not ?_
  refine wT_B ?_
  refine wE_cb (cbd_isO IC) ?_
  walk_at "dlt"
  refine ⟨_, rfl, .inr ⟨_, rfl, ?_⟩⟩
  walk_at "dlt"
  exact q
def countsN (t : Tri) : List Int := t.2.1.map (·.2)
/-- the tables that these claims make, p being the claim to the last seat -/
def madeN (t : Tri) (p : Int) : List (List Int) := tabs (bdsAt (claimsN t.1 (countsN t)) p) t.1.length
def KthN (t : Tri) (p : Int) : Prop := IsKth (claimsN t.1 (countsN t)).flatten (t.1.length - 1) p
end
/-! ### tables by the law's own count of claims -/
theorem tabs_full : ∀ {bs : Bd2} {left : Int}, (∀ b ∈ bs, b.1 ≤ b.2) → hiS bs = left → tabs bs left = [bs.map (·.2)]
  | [], left, _, h => by
    unfold hiS at h
    unfold tabs
    rw [if_pos (by simpa using h.symm)]
    rfl
  | b :: bs, left, hb, h => by
    have h' : b.2 + hiS bs = left := by unfold hiS at h ⊢; rw [List.map_cons, List.sum_cons] at h; exact h
    have b0 := hb b List.mem_cons_self
    unfold tabs
    rw [← flat_filter (p := fun x => decide (b.2 ≤ x) && decide (x ≤ b.2))]
    · rw [rng_filter, show (if b.2 > b.1 then b.2 else b.1) = b.2 by split <;> omega, show (if b.2 < b.2 then b.2 else b.2) = b.2 by split <;> rfl]
      rw [show rng b.2 b.2 = [b.2] from up_uniq (rng_up _ _) (List.pairwise_singleton _ _) fun k => by rw [mem_rng, List.mem_singleton]; omega]
      rw [List.flatMap_cons, List.flatMap_nil, List.append_nil, tabs_full (fun x hx => hb x (List.mem_cons_of_mem _ hx)) (by omega : hiS bs = left - b.2)]
      rfl
    · intro x hx hp
      have := mem_rng.mp hx
      rw [Bool.and_eq_false_iff, decide_eq_false_iff_not, decide_eq_false_iff_not] at hp
      rw [tabs_none (by omega)]
      rfl
theorem tabs_some : ∀ {bs : Bd2} {left : Int}, (∀ b ∈ bs, b.1 ≤ b.2) → loS bs ≤ left → left ≤ hiS bs → tabs bs left ≠ []
  | [], left, _, h1, h2 => by
    unfold loS at h1
    unfold hiS at h2
    simp at h1 h2
    unfold tabs
    rw [if_pos (by omega)]
    exact List.cons_ne_nil _ _
  | b :: bs, left, hb, h1, h2 => by
    have h1' : b.1 + loS bs ≤ left := by unfold loS at h1 ⊢; rw [List.map_cons, List.sum_cons] at h1; exact h1
    have h2' : left ≤ b.2 + hiS bs := by unfold hiS at h2 ⊢; rw [List.map_cons, List.sum_cons] at h2; exact h2
    have b0 := hb b List.mem_cons_self
    have lh : loS bs ≤ hiS bs := by
      clear h1 h2 h1' h2'
      induction bs with
      | nil => exact Int.le_refl _
      | cons c cs ih =>
        have := ih fun x hx => by
          rcases List.mem_cons.mp hx with rfl | hx
          · exact b0
          · exact hb x (List.mem_cons_of_mem _ (List.mem_cons_of_mem _ hx))
        have := hb c (List.mem_cons_of_mem _ List.mem_cons_self)
        unfold loS hiS at *
        rw [List.map_cons, List.map_cons, List.sum_cons, List.sum_cons]
        omega
    obtain ⟨own, o1, o2, o3, o4⟩ : ∃ own, b.1 ≤ own ∧ own ≤ b.2 ∧ loS bs ≤ left - own ∧ left - own ≤ hiS bs := by
      by_cases c : left - hiS bs ≤ b.1
      · exact ⟨b.1, by omega, b0, by omega, by omega⟩
      · exact ⟨left - hiS bs, by omega, by omega, by omega, by omega⟩
    have ih := tabs_some (fun x hx => hb x (List.mem_cons_of_mem _ hx)) o3 o4
    unfold tabs
    intro h
    obtain ⟨t, ht⟩ := List.exists_mem_of_ne_nil _ ih
    have : own :: t ∈ (rng b.1 b.2).flatMap fun own => (tabs bs (left - own)).map (own :: ·) := List.mem_flatMap.mpr ⟨own, mem_rng.mpr ⟨o1, o2⟩, List.mem_map.mpr ⟨t, ht, rfl⟩⟩
    rw [h] at this
    cases this
theorem filter_le {l : List Int} {p q : Int → Bool} (h : ∀ x ∈ l, p x = true → q x = true) : (l.filter p).length ≤ (l.filter q).length := by
  rw [← List.countP_eq_length_filter, ← List.countP_eq_length_filter]
  exact List.countP_mono_left h
/-- so many claims are greater, or at least as great -/
def gtN (l : List Int) (x : Int) : Nat := (l.filter fun c => decide (x < c)).length
def geN (l : List Int) (x : Int) : Nat := (l.filter fun c => decide (x ≤ c)).length
theorem kth_gt {l : List Int} {k : Nat} {p x : Int} (h : IsKth l k p) : gtN l x < k + 1 ↔ p ≤ x := by
  have h1 := h.above
  have h2 := h.from_
  constructor
  · intro hx
    refine Int.not_lt.mp fun hlt => ?_
    have : geN l p ≤ gtN l x := filter_le fun c _ hc => by
      rw [decide_eq_true_eq] at hc ⊢; omega
    unfold geN at this
    omega
  · intro hx
    have : gtN l x ≤ gtN l p := filter_le fun c _ hc => by
      rw [decide_eq_true_eq] at hc ⊢; omega
    unfold gtN at this ⊢
    omega
theorem kth_ge {l : List Int} {k : Nat} {p x : Int} (h : IsKth l k p) (hx : x ∈ l) : geN l x ≤ k + 1 ↔ p < x ∨ (x = p ∧ geN l p ≤ k + 1) := by
  have h1 := h.above
  have h2 := h.from_
  constructor
  · intro hl
    rcases Int.lt_trichotomy x p with hlt | he | hgt
    · have e : geN l x = gtN l x + (l.filter fun c => decide (c = x)).length := by
        unfold geN gtN
        rw [← List.countP_eq_length_filter, ← List.countP_eq_length_filter, ← List.countP_eq_length_filter]
        clear h h1 h2 hx hl
        induction l with
        | nil => rfl
        | cons a l ih =>
          rw [List.countP_cons, List.countP_cons, List.countP_cons, ih]
          by_cases c1 : x < a
          · rw [decide_eq_true c1, decide_eq_true (show x ≤ a by omega), decide_eq_false (show ¬ a = x by omega)]
            simp
            omega
          · by_cases c2 : a = x
            · rw [decide_eq_false c1, decide_eq_true (show x ≤ a by omega), decide_eq_true c2]
              simp
              omega
            · rw [decide_eq_false c1, decide_eq_false (show ¬ x ≤ a by omega), decide_eq_false c2]
              simp
      have p1 : 0 < (l.filter fun c => decide (c = x)).length := List.length_pos_of_mem (List.mem_filter.mpr ⟨hx, decide_eq_true rfl⟩)
      have p2 : geN l p ≤ gtN l x := filter_le fun c _ hc => by
        rw [decide_eq_true_eq] at hc ⊢; omega
      unfold geN at p2
      omega
    · subst he; exact .inr ⟨rfl, hl⟩
    · exact .inl hgt
  · rintro (hlt | ⟨rfl, hl⟩)
    · have : geN l x ≤ gtN l p := filter_le fun c _ hc => by
        rw [decide_eq_true_eq] at hc ⊢; omega
      unfold gtN at this
      omega
    · exact hl
/-- the law's bounds -/
def lawBds (S : Nat) (rows : List (List Int)) : Bd2 := rows.map fun r => ((((r.filter fun x => decide (geN rows.flatten x ≤ S)).length : Nat) : Int), (((r.filter fun x => decide (gtN rows.flatten x < S)).length : Nat) : Int))
theorem sum_filters (q : Int → Bool) : ∀ rows : List (List Int), (rows.map fun r => (((r.filter q).length : Nat) : Int)).sum = (((rows.flatten.filter q).length : Nat) : Int)
  | [] => rfl
  | r :: rows => by
    rw [List.map_cons, List.sum_cons, sum_filters q rows, List.flatten_cons, List.filter_append, List.length_append]
    omega
theorem bds_tabs {S : Nat} {rows : List (List Int)} {p : Int} (hS : 1 ≤ S) (hk : IsKth rows.flatten (S - 1) p) : tabs (lawBds S rows) S = tabs (bdsAt rows p) S ∧ tabs (bdsAt rows p) S ≠ [] := by
  have e1 : S - 1 + 1 = S := by omega
  have hi_eq : ∀ r ∈ rows, (r.filter fun x => decide (gtN rows.flatten x < S)) = r.filter fun c => decide (p ≤ c) := fun r _ => List.filter_congr fun x _ => by
    have := kth_gt (x := x) hk
    rw [e1] at this
    exact decide_eq_decide.mpr this
  have lohi : ∀ b ∈ bdsAt rows p, b.1 ≤ b.2 := fun b hb => by
    obtain ⟨r, _, rfl⟩ := List.mem_map.mp hb
    have : (r.filter fun c => decide (p < c)).length ≤ (r.filter fun c => decide (p ≤ c)).length := filter_le fun c _ hc => by
      rw [decide_eq_true_eq] at hc ⊢; omega
    show (((r.filter fun c => decide (p < c)).length : Nat) : Int) ≤ (((r.filter fun c => decide (p ≤ c)).length : Nat) : Int)
    omega
  have sl : loS (bdsAt rows p) = ((gtN rows.flatten p : Nat) : Int) := by
    unfold loS bdsAt gtN
    rw [List.map_map]
    exact sum_filters _ rows
  have sh : hiS (bdsAt rows p) = ((geN rows.flatten p : Nat) : Int) := by
    unfold hiS bdsAt geN
    rw [List.map_map]
    exact sum_filters _ rows
  have a1 := hk.above
  have a2 := hk.from_
  have ne : tabs (bdsAt rows p) S ≠ [] := tabs_some lohi (by rw [sl]; unfold gtN; omega) (by rw [sh]; unfold geN; omega)
  refine ⟨?_, ne⟩
  by_cases c : geN rows.flatten p ≤ S
  · -- the last claim is in whatever the lot
    have ce : hiS (bdsAt rows p) = (S : Int) := by rw [sh]; unfold geN at c ⊢; omega
    have eb : lawBds S rows = (bdsAt rows p).map fun b => (b.2, b.2) := by
      unfold lawBds bdsAt
      rw [List.map_map]
      refine List.map_congr_left fun r hr => ?_
      rw [hi_eq r hr]
      have : (r.filter fun x => decide (geN rows.flatten x ≤ S)) = r.filter fun c => decide (p ≤ c) := List.filter_congr fun x hx => by
        have := kth_ge (x := x) hk (List.mem_flatten.mpr ⟨r, hr, hx⟩)
        rw [e1] at this
        rw [decide_eq_decide, this]
        constructor
        · rintro (h | ⟨h, _⟩) <;> omega
        · intro h
          by_cases e : x = p
          · exact .inr ⟨e, c⟩
          · exact .inl (by omega)
      rw [this]
      rfl
    rw [tabs_full lohi ce, eb, tabs_full (left := (S : Int)) (fun b hb => by
      obtain ⟨x, _, rfl⟩ := List.mem_map.mp hb
      exact Int.le_refl _) (by unfold hiS at ce ⊢; rw [List.map_map]; exact ce), List.map_map]
    rfl
  · have eb : lawBds S rows = bdsAt rows p := by
      unfold lawBds bdsAt
      refine List.map_congr_left fun r hr => ?_
      rw [hi_eq r hr]
      have : (r.filter fun x => decide (geN rows.flatten x ≤ S)) = r.filter fun c => decide (p < c) := List.filter_congr fun x hx => by
        have := kth_ge (x := x) hk (List.mem_flatten.mpr ⟨r, hr, hx⟩)
        rw [e1] at this
        rw [decide_eq_decide, this]
        constructor
        · rintro (h | ⟨_, h⟩)
          · exact h
          · exact absurd h c
        · exact .inl
      rw [this]
    rw [eb]
/-! the law's way from bounds to tables -/
/-! ### claims by levels and by quotients; texts of tables -/
theorem scale_dvd : ∀ (ns : List Int) (a : Nat), (a ∣ ns.foldl (fun a n => Nat.lcm a n.natAbs) a) ∧ ∀ n ∈ ns, n.natAbs ∣ ns.foldl (fun a n => Nat.lcm a n.natAbs) a
  | [], a => ⟨Nat.dvd_refl _, fun n h => nomatch h⟩
  | n :: ns, a => by
    rw [List.foldl_cons]
    obtain ⟨h1, h2⟩ := scale_dvd ns (Nat.lcm a n.natAbs)
    refine ⟨Nat.dvd_trans (Nat.dvd_lcm_left _ _) h1, fun m hm => ?_⟩
    rcases List.mem_cons.mp hm with rfl | hm
    · exact Nat.dvd_trans (Nat.dvd_lcm_right _ _) h1
    · exact h2 m hm
theorem unit_mul {ns : List Int} (dv : DivOk ns) {d : Int} (hd : d ∈ ns) : unitI ns d * d = (scaleN ns : Int) := by
  have h1 := (scale_dvd ns 1).2 d hd
  have hb := dv.b d hd
  unfold unitI
  refine Int.ediv_mul_cancel ?_
  rw [← Int.natAbs_dvd]
  exact Int.natCast_dvd_natCast.mpr h1
theorem scale_pos {ns : List Int} (dv : DivOk ns) : 0 < (scaleN ns : Int) := by
  have := (scale_bd ns 1 0 dv.b (by decide) (by decide)).2
  have : 1 ≤ scaleN ns := this
  omega
theorem claim_lt {ns : List Int} (dv : DivOk ns) {c c' d d' : Int} (hd : d ∈ ns) (hd' : d' ∈ ns) : c * unitI ns d < c' * unitI ns d' ↔ c * d' < c' * d := by
  have u1 := unit_mul dv hd
  have u2 := unit_mul dv hd'
  have lp := scale_pos dv
  have b1 := dv.b d hd
  have b2 := dv.b d' hd'
  have pp : 0 < d * d' := Int.mul_pos (by omega) (by omega)
  have e1 : c * unitI ns d * (d * d') = (scaleN ns : Int) * (c * d') := by
    rw [← u1]; simp only [Int.mul_assoc, Int.mul_comm, Int.mul_left_comm]
  have e2 : c' * unitI ns d' * (d * d') = (scaleN ns : Int) * (c' * d) := by
    rw [← u2]; simp only [Int.mul_assoc, Int.mul_comm, Int.mul_left_comm]
  rw [← Int.mul_lt_mul_right pp, e1, e2]
  exact Int.mul_lt_mul_left lp
theorem claim_le {ns : List Int} (dv : DivOk ns) {c c' d d' : Int} (hd : d ∈ ns) (hd' : d' ∈ ns) : c * unitI ns d ≤ c' * unitI ns d' ↔ c * d' ≤ c' * d := by
  have := claim_lt dv (c := c') (c' := c) hd' hd
  omega
theorem tabs_len : ∀ {bs : Bd2} {left : Int}, bs ≠ [] → (∀ b ∈ bs, 0 ≤ b.1) → 0 ≤ left → (tabs bs left).length ≤ cnt (bs.length - 1) left.toNat
  | [], _, h, _, _ => absurd rfl h
  | [b], left, _, hb, h0 => by
    have b0 := hb b List.mem_cons_self
    have e : tabs [b] left = ((rng b.1 b.2).filter fun x => decide (left ≤ x) && decide (x ≤ left)).flatMap fun own => (tabs [] (left - own)).map (own :: ·) := by
      conv => lhs; unfold tabs
      rw [flat_filter]
      intro x _ hp
      rw [Bool.and_eq_false_iff, decide_eq_false_iff_not, decide_eq_false_iff_not] at hp
      unfold tabs
      rw [if_neg (by omega)]
      rfl
    rw [e, rng_filter]
    have hl : (rng (if left > b.1 then left else b.1) (if left < b.2 then left else b.2)).length ≤ 1 := by
      unfold rng
      rw [List.length_map, List.length_range]
      split <;> split <;> omega
    show _ ≤ 1
    generalize rng (if left > b.1 then left else b.1) (if left < b.2 then left else b.2) = r at hl
    match r, hl with
    | [], _ => simp
    | [x], _ =>
      rw [List.flatMap_cons, List.flatMap_nil, List.append_nil, List.length_map]
      unfold tabs
      split <;> simp
  | b :: b' :: bs, left, _, hb, h0 => by
    have b0 := hb b List.mem_cons_self
    have ih : ∀ own, 0 ≤ left - own → (tabs (b' :: bs) (left - own)).length ≤ cnt bs.length (left - own).toNat := fun own ho => tabs_len (List.cons_ne_nil _ _) (fun x hx => hb x (List.mem_cons_of_mem _ hx)) ho
    have l0 : ∀ l : Bd2, (∀ b ∈ l, 0 ≤ b.1) → 0 ≤ loS l := fun l => by
      induction l with
      | nil => intro _; exact Int.le_refl _
      | cons c l ih2 =>
        intro h
        have h1 := ih2 fun x hx => h x (List.mem_cons_of_mem _ hx)
        have h2 := h c List.mem_cons_self
        unfold loS at h1 ⊢
        rw [List.map_cons, List.sum_cons]
        omega
    have l1 := l0 (b' :: bs) fun x hx => hb x (List.mem_cons_of_mem _ hx)
    have e : tabs (b :: b' :: bs) left = ((rng b.1 b.2).filter fun x => decide (0 ≤ x) && decide (x ≤ left)).flatMap fun own => (tabs (b' :: bs) (left - own)).map (own :: ·) := by
      conv => lhs; unfold tabs
      rw [flat_filter]
      intro x hx hp
      have := mem_rng.mp hx
      rw [Bool.and_eq_false_iff, decide_eq_false_iff_not, decide_eq_false_iff_not] at hp
      rw [tabs_none (by omega)]
      rfl
    rw [e, rng_filter, List.length_flatMap]
    show _ ≤ cnt (bs.length + 1) left.toNat
    refine Nat.le_trans ?_ (pot_one (j := bs.length) (lo := if 0 > b.1 then 0 else b.1) (hi := if left < b.2 then left else b.2) (l := left) (by split <;> omega) (by split <;> omega) h0)
    have : ∀ r : List Int, (∀ x ∈ r, x ≤ left) → (r.map fun own => ((tabs (b' :: bs) (left - own)).map (own :: ·)).length).sum ≤ (r.map fun own => cnt bs.length (left - own).toNat).sum := fun r => by
      induction r with
      | nil => intro _; exact Nat.le_refl _
      | cons x r ih2 =>
        intro h
        rw [List.map_cons, List.map_cons, List.sum_cons, List.sum_cons, List.length_map]
        exact Nat.add_le_add (ih x (by have := h x List.mem_cons_self; omega)) (ih2 fun y hy => h y (List.mem_cons_of_mem _ hy))
    refine this _ fun x hx => ?_
    have := (mem_rng.mp hx).2
    split at this <;> omega
/-! ### is_table, price_bounds, is_made_by, is_result -/
section
variable {P : Program} {w : World} {K : PySem.W.Frag} {mg : Str → Option Value} {base : Heap} {f C : Addr} {fd : FuncData}
def S_is_row : DSp := fun ds Φ _ => ∃ (t : List Int) (n : Int), ds = [intsD t, .int n] ∧ (t.length : Int) = n ∧ n ≤ 100 ∧ (∀ x ∈ t, 0 ≤ x) ∧ Φ (.bl true)
abbrev s_is_row : Stmt := topS 31
abbrev N_is_row : List Str := ["value", "many", "item"]
theorem sc_is_row : FnScope N_is_row ["value", "many"] (defScope s_is_row) := ⟨rfl, rfl, rfl, by decide +kernel, rfl, by decide +kernel, by decide +kernel⟩
theorem ok_is_row (F : FunX K "is_row" "is_row" s_is_row f fd) (B : Blt mg) (c_is_tuple_of : CallD P w K mg base "is_tuple_of" 1 S_is_tuple_of) (c_is_integer : CallD P w K mg base "is_integer" 1 S_is_integer) : FnG P w K mg base 2 f fd ["value", "many"] (lift K S_is_row) := by
  refine fnX_of F sc_is_row (fun ds Φ Ψ ⟨_, _, h, _⟩ => by rw [h]; rfl) fun cdv A outer s H E b => ⟨_, (pss_one (ps_ret (pe_and (k_cd K c_is_tuple_of (by exact b.room) (by decide) b.pass (pa_cons (pv 0) (pa_cons (pv 1) pa_nil))) (pe_one (pe_callB (k_all K rfl) (by rfl) B.all bb_all (pa_cons (pe_lc (own := [("item", 2)]) rfl sc_is_row.nd (k_any K (pv 0)) (blkOk_by (own := [("item", 2)]) (N := N_is_row) (sc := defScope s_is_row) (by decide +kernel))  (fun _ _ _ _ _ => (pg_name (i := 2) sc_is_row.nd rfl (by first | exact .inl rfl | exact .inr rfl))) (fun _ _ _ _ _ => pts_nil) (fun _ _ _ _ _ => (pe_and (k_cd K c_is_integer (by exact b.room) (by decide) passN (pa_cons (pv 2) pa_nil)) (pe_one (pe_cmpR op_ge (pv 2) pe_int (nomark _)))))) pa_nil)))))), fun ds Φ Ψ ⟨t, n, h, hn, hm, ht, q⟩ => ?_⟩
  subst h
  show wS _ _ _ [some (.dat _), some (.dat _), none]
  have tl : (t.map D.int).length = t.length := List.length_map _
  walk_at "dlt"
  refine ⟨t.map D.int, n, rfl, by omega, ?_⟩
  walk_at "dlt"
  refine wE_lcM (only_name (by simp)) D.int (fun _ => .bl true) (wI_any ?_)
  walk_at "dlt"
  refine ⟨_, rfl, t, rfl, by omega, fun x hx => ?_, ?_⟩
  · have := ht x hx
    walk_at "dlt"
    refine ⟨x, rfl, ?_⟩
    walk_at "dlt"
    rw [decide_eq_true (by omega)]
  walk_at "dlt"
  refine allG_map (q := fun _ => true) ?_
  rw [List.all_eq_true.mpr fun _ _ => rfl]
  exact q
def S_is_table : DSp := fun ds Φ _ => ∃ (t : List Int) (n S : Int), ds = [intsD t, .int n, .int S] ∧ (t.length : Int) = n ∧ n ≤ 100 ∧ (∀ x ∈ t, 0 ≤ x) ∧ t.sum = S ∧ Φ (.bl true)
abbrev s_is_table : Stmt := topS 32
abbrev N_is_table : List Str := ["value", "many", "seats"]
theorem sc_is_table : FnScope N_is_table ["value", "many", "seats"] (defScope s_is_table) := ⟨rfl, rfl, rfl, by decide +kernel, rfl, by decide +kernel, by decide +kernel⟩
theorem ok_is_table (F : FunX K "is_table" "is_table" s_is_table f fd) (B : Blt mg) (c_is_row : CallD P w K mg base "is_row" 2 S_is_row) : FnG P w K mg base 3 f fd ["value", "many", "seats"] (lift K S_is_table) := by
  refine fnX_of F sc_is_table (fun ds Φ Ψ ⟨_, _, _, h, _⟩ => by rw [h]; rfl) fun cdv A outer s H E b => ⟨_, (pss_one (ps_ret (pe_and (k_cd K c_is_row (by exact b.room) (by decide) b.pass (pa_cons (pv 0) (pa_cons (pv 1) pa_nil))) (pe_one (pe_cmpR (k_eq K (by exact b.room)) (pe_callB (k_sumA K rfl) (by rfl) B.sum bb_sum (pa_cons (pv 0) pa_nil)) (pv 2) (nomark _)))))), fun ds Φ Ψ ⟨t, n, S, h, hn, hm, ht, hs, q⟩ => ?_⟩
  subst h
  show wS _ _ _ [some (.dat _), some (.dat _), some (.dat _)]
  have tl : (t.map D.int).length = t.length := List.length_map _
  walk_at "dlt"
  refine ⟨t, n, rfl, hn, hm, ht, ?_⟩
  walk_at "dlt"
  unfold intsD
  walk_at "dlt"
  refine sumG_t ?_
  walk_at "dlt"
  rw [decide_eq_true hs]
  exact q
def S_check_table (C : Addr) : DSp := fun ds Φ _ => ∃ (t : Tri) (l : List Int), ds = [nightD C t, intsD l] ∧ TriOk t ∧ l.length = t.2.1.length ∧ (∀ x ∈ l, 0 ≤ x) ∧ l.sum = (t.1.length : Int) ∧ Φ .non
abbrev s_check_table : Stmt := topS 51
abbrev N_check_table : List Str := ["night", "table"]
theorem sc_check_table : FnScope N_check_table ["night", "table"] (defScope s_check_table) := ⟨rfl, rfl, rfl, by decide +kernel, rfl, by decide +kernel, by decide +kernel⟩
theorem ok_check_table (F : FunX K "check_table" "check_table" s_check_table f fd) (B : Blt mg) (c_is_table : CallD P w K mg base "is_table" 3 S_is_table) (c_len : LenB P w K mg base C 1 (S_getL C)) (c_p_seats : PropB P w K mg base C "seats" 1 (S_getS C)) : FnG P w K mg base 4 f fd ["night", "table"] (lift K (S_check_table C)) := by
  refine fnX_of F sc_check_table (fun ds Φ Ψ ⟨_, _, h, _⟩ => by rw [h]; rfl) fun cdv A outer s H E b => ⟨_, (pss_one (ps_if (pt_not (pt_val (k_cd K c_is_table (by exact b.room) (by decide) b.pass (pa_cons (pv 1) (pa_cons (pe_callB (k_lenO K c_len (by exact b.room) (by decide)) (by rfl) B.len bb_len (pa_cons (pv 0) pa_nil)) (pa_cons (k_pr K c_p_seats (by exact b.room) (by decide) (pv 0)) pa_nil)))))) (pss_one ps_never) pss_nil)), fun ds Φ Ψ ⟨t, l, h, ht, hl, h0, hs, q⟩ => ?_⟩
  subst h
  show wS _ _ _ [some (.dat _), some (.dat _)]
  have f2 := ht.f.l2
  walk_at "dlt"
  refine ⟨_, rfl, t, rfl, t.2.1.length, rfl, by omega, ?_⟩
  walk_at "dlt"
  refine ⟨_, rfl, t, rfl, ?_⟩
  walk_at "dlt"
  refine ⟨l, _, _, rfl, by omega, by omega, h0, hs, ?_⟩
  walk_at "dlt"
  exact q
def pq (p : Int × Int) : D := .tup [.int p.1, .int p.2]
theorem q_trans {x e a b c d : Int} (hb : 0 < b) (he : 0 ≤ e) (hd : 0 ≤ d) (h1 : x * b ≤ a * e) (h2 : a * d ≤ c * b) : x * d ≤ c * e := by
  have h3 := Int.mul_le_mul_of_nonneg_right h1 hd
  have h4 := Int.mul_le_mul_of_nonneg_right h2 he
  have e1 : x * b * d = x * d * b := by rw [Int.mul_assoc, Int.mul_comm b d, ← Int.mul_assoc]
  have e2 : a * e * d = a * d * e := by rw [Int.mul_assoc, Int.mul_comm e d, ← Int.mul_assoc]
  have e3 : c * b * e = c * e * b := by rw [Int.mul_assoc, Int.mul_comm b e, ← Int.mul_assoc]
  rw [e1, e2] at h3
  rw [e3] at h4
  exact Int.le_of_mul_le_mul_right (Int.le_trans h3 h4) hb
/-- a party has a greater claim to one seat more than another one to its last seat -/
def SwapZ (ns : List Int) (zs : List (Int × Int)) : Prop := ∃ z ∈ zs, ∃ y ∈ zs, 0 < y.2 ∧ ∃ d e, ns[z.2.toNat]? = some d ∧ ns[(y.2 - 1).toNat]? = some e ∧ y.1 * d < z.1 * e
theorem sum_nn : ∀ {l : List Int}, (∀ x ∈ l, 0 ≤ x) → 0 ≤ l.sum
  | [], _ => Int.le_refl _
  | a :: l, h => by
    have := sum_nn fun y hy => h y (List.mem_cons_of_mem _ hy)
    have := h a List.mem_cons_self
    rw [List.sum_cons]
    omega
theorem sumI_le : ∀ {l : List Int}, (∀ x ∈ l, 0 ≤ x) → ∀ x ∈ l, x ≤ l.sum
  | [], _, x, hx => by cases hx
  | a :: l, h, x, hx => by
    have a0 := h a List.mem_cons_self
    have hl := fun y hy => h y (List.mem_cons_of_mem a hy)
    have s0 := sum_nn hl
    rw [List.sum_cons]
    rcases List.mem_cons.mp hx with rfl | hx
    · omega
    · have := sumI_le hl x hx; omega
end
/-! ### no swap: within the bounds by claims -/
theorem pre_count {α : Type} {q : α → Bool} : ∀ {l : List α}, l.Pairwise (fun a b => q b = true → q a = true) → ∀ {k : Nat} {a : α}, l[k]? = some a → (q a = true ↔ k < (l.filter q).length)
  | [], _, k, a, h => by simp at h
  | x :: l, hp, k, a, h => by
    rw [List.pairwise_cons] at hp
    cases hx : q x with
    | false =>
      have hl : (x :: l).filter q = [] := by
        rw [List.filter_eq_nil_iff]
        intro y hy
        rcases List.mem_cons.mp hy with rfl | hy
        · rw [hx]; exact Bool.false_ne_true
        · intro h2
          have := hp.1 y hy h2
          rw [hx] at this
          cases this
      have ha : q a = false := by
        cases k with
        | zero => simp at h; rw [← h]; exact hx
        | succ k =>
          rw [List.getElem?_cons_succ] at h
          cases hqa : q a with
          | false => rfl
          | true =>
            have := hp.1 a (List.mem_of_getElem? h) hqa
            rw [hx] at this
            cases this
      rw [hl, ha]
      simp
    | true =>
      rw [List.filter_cons_of_pos hx, List.length_cons]
      cases k with
      | zero => simp at h; rw [← h]; simp [hx]
      | succ k =>
        rw [List.getElem?_cons_succ] at h
        rw [pre_count hp.2 h]
        omega
def loC (ns : List Int) (p c : Int) : Int := (((ns.filter fun d => decide (p < c * unitI ns d)).length : Nat) : Int)
def hiC (ns : List Int) (p c : Int) : Int := (((ns.filter fun d => decide (p ≤ c * unitI ns d)).length : Nat) : Int)
theorem bds_at (ns cs : List Int) (p : Int) : bdsAt (claimsN ns cs) p = cs.map fun c => (loC ns p c, hiC ns p c) := by
  unfold bdsAt claimsN loC hiC
  rw [List.map_map]
  refine List.map_congr_left fun c _ => ?_
  show (_, _) = (_, _)
  rw [List.filter_map, List.filter_map, List.length_map, List.length_map]
  rfl
theorem row_down {ns : List Int} (dv : DivOk ns) {c : Int} (c0 : 0 ≤ c) : ns.Pairwise fun a b => c * unitI ns b ≤ c * unitI ns a :=
  dv.up.imp_of_mem fun {a b} ha hb hlt => (claim_le dv hb ha).mpr (by
    rw [Int.mul_comm c a, Int.mul_comm c b]
    exact Int.mul_le_mul_of_nonneg_right (Int.le_of_lt hlt) c0)
theorem hi_iff {ns : List Int} (dv : DivOk ns) {c p : Int} (c0 : 0 ≤ c) {k : Nat} {d : Int} (h : ns[k]? = some d) : p ≤ c * unitI ns d ↔ (k : Int) < hiC ns p c := by
  have := pre_count (q := fun d => decide (p ≤ c * unitI ns d)) ((row_down dv c0).imp fun {a b} hab h => by
    rw [decide_eq_true_eq] at h ⊢; omega) h
  rw [decide_eq_true_eq] at this
  rw [this]
  unfold hiC
  omega
theorem lo_iff {ns : List Int} (dv : DivOk ns) {c p : Int} (c0 : 0 ≤ c) {k : Nat} {d : Int} (h : ns[k]? = some d) : p < c * unitI ns d ↔ (k : Int) < loC ns p c := by
  have := pre_count (q := fun d => decide (p < c * unitI ns d)) ((row_down dv c0).imp fun {a b} hab h => by
    rw [decide_eq_true_eq] at h ⊢; omega) h
  rw [decide_eq_true_eq] at this
  rw [this]
  unfold loC
  omega
theorem lo_len (ns : List Int) (p c : Int) : 0 ≤ loC ns p c ∧ loC ns p c ≤ ns.length ∧ 0 ≤ hiC ns p c ∧ hiC ns p c ≤ ns.length := by
  unfold loC hiC
  have h1 := List.length_filter_le (fun d => decide (p < c * unitI ns d)) ns
  have h2 := List.length_filter_le (fun d => decide (p ≤ c * unitI ns d)) ns
  omega
def InB (ns : List Int) (zs : List (Int × Int)) (p : Int) : Prop := ∀ z ∈ zs, loC ns p z.1 ≤ z.2 ∧ z.2 ≤ hiC ns p z.1
theorem sum_leZ {α : Type} {f g : α → Int} : ∀ {l : List α}, (∀ z ∈ l, f z ≤ g z) → (l.map f).sum ≤ (l.map g).sum
  | [], _ => Int.le_refl _
  | z :: l, h => by
    have := sum_leZ fun y hy => h y (List.mem_cons_of_mem _ hy)
    have := h z List.mem_cons_self
    rw [List.map_cons, List.map_cons, List.sum_cons, List.sum_cons]
    omega
theorem sum_ltZ {α : Type} {f g : α → Int} : ∀ {l : List α}, (∀ z ∈ l, f z ≤ g z) → (∃ z ∈ l, f z < g z) → (l.map f).sum < (l.map g).sum
  | [], _, ⟨_, h, _⟩ => by cases h
  | z :: l, h, ⟨y, hy, hlt⟩ => by
    have h0 := h z List.mem_cons_self
    rw [List.map_cons, List.map_cons, List.sum_cons, List.sum_cons]
    rcases List.mem_cons.mp hy with rfl | hy
    · have := sum_leZ fun y hy => h y (List.mem_cons_of_mem _ hy)
      omega
    · have := sum_ltZ (fun y hy => h y (List.mem_cons_of_mem _ hy)) ⟨y, hy, hlt⟩
      omega
theorem zip_sum {F : Int → Int} : ∀ {cs t : List Int}, t.length = cs.length → ((cs.zip t).map (·.2)).sum = t.sum ∧ ((cs.zip t).map fun z => F z.1).sum = (cs.map F).sum
  | [], [], _ => ⟨rfl, rfl⟩
  | c :: cs, x :: t, h => by
    have := zip_sum (F := F) (cs := cs) (t := t) (by simpa using h)
    rw [List.zip_cons_cons, List.map_cons, List.map_cons, List.sum_cons, List.sum_cons, List.sum_cons, List.map_cons, List.sum_cons, this.1, this.2]
    exact ⟨rfl, rfl⟩
theorem swap_bds {ns cs t : List Int} {p : Int} (dv : DivOk ns) (hk : IsKth (claimsN ns cs).flatten (ns.length - 1) p) (hc : ∀ c ∈ cs, 0 ≤ c) (hl : t.length = cs.length) (h0 : ∀ x ∈ t, 0 ≤ x) (hs : t.sum = (ns.length : Int)) : ¬ SwapZ ns (cs.zip t) ↔ InB ns (cs.zip t) p := by
  have d1 := dv.l1
  have a1 := hk.above
  have a2 := hk.from_
  have hS : ∀ z ∈ cs.zip t, 0 ≤ z.1 ∧ 0 ≤ z.2 ∧ z.2 ≤ ns.length := fun z hz => by
    have h1 := List.of_mem_zip (a := z.1) (b := z.2) hz
    have h2 := sumI_le h0 _ h1.2
    exact ⟨hc _ h1.1, h0 _ h1.2, by omega⟩
  have at_ : ∀ {k : Int}, 0 ≤ k → k < ns.length → ∃ d, ns[k.toNat]? = some d ∧ d ∈ ns ∧ (k.toNat : Int) = k := fun {k} h1 h2 => by
    have hlt : k.toNat < ns.length := by omega
    exact ⟨_, List.getElem?_eq_getElem hlt, List.getElem_mem hlt, by omega⟩
  constructor
  · intro hn
    have sw : ∀ z ∈ cs.zip t, ∀ y ∈ cs.zip t, z.2 < ns.length → 0 < y.2 → ∀ d e, ns[z.2.toNat]? = some d → ns[(y.2 - 1).toNat]? = some e → z.1 * unitI ns d ≤ y.1 * unitI ns e := fun z hz y hy hz2 hy2 d e hd he => by
      refine Int.not_lt.mp fun hlt => hn ⟨z, hz, y, hy, hy2, d, e, hd, he, ?_⟩
      exact (claim_lt dv (List.mem_of_getElem? he) (List.mem_of_getElem? hd)).mp hlt
    have eh : (cs.map (hiC ns p)).sum = ((((claimsN ns cs).flatten.filter fun c => decide (p ≤ c)).length : Nat) : Int) := by
      rw [← sum_filters]
      unfold claimsN hiC
      rw [List.map_map]
      refine congrArg List.sum (List.map_congr_left fun c _ => ?_)
      show _ = (((List.filter _ (List.map _ _)).length : Nat) : Int)
      rw [List.filter_map, List.length_map]
      rfl
    have el : (cs.map (loC ns p)).sum = ((((claimsN ns cs).flatten.filter fun c => decide (p < c)).length : Nat) : Int) := by
      rw [← sum_filters]
      unfold claimsN loC
      rw [List.map_map]
      refine congrArg List.sum (List.map_congr_left fun c _ => ?_)
      show _ = (((List.filter _ (List.map _ _)).length : Nat) : Int)
      rw [List.filter_map, List.length_map]
      rfl
    have zs1 := zip_sum (F := hiC ns p) hl
    have zs2 := zip_sum (F := loC ns p) hl
    intro y hy
    have yb := hS y hy
    constructor
    · -- too few seats of y: then all have at most their lows
      refine Int.not_lt.mp fun hlt => ?_
      have yl := lo_len ns p y.1
      obtain ⟨d, hd, _, ek⟩ := at_ yb.2.1 (by omega)
      have hp := (lo_iff dv yb.1 hd (p := p)).mpr (by omega)
      have all : ∀ z ∈ cs.zip t, z.2 ≤ loC ns p z.1 := fun z hz => by
        refine Int.not_lt.mp fun hz2 => ?_
        have zb := hS z hz
        have zl := lo_len ns p z.1
        obtain ⟨e, he, _, ez⟩ := at_ (k := z.2 - 1) (by omega) (by omega)
        have h1 := sw y hy z hz (by omega) (by omega) d e hd he
        have h2 := (lo_iff dv zb.1 he (p := p)).mp (by omega)
        omega
      have := sum_ltZ all ⟨y, hy, hlt⟩
      rw [zs2.1, zs2.2] at this
      omega
    · refine Int.not_lt.mp fun hlt => ?_
      have yl := lo_len ns p y.1
      obtain ⟨e, he, _, ek⟩ := at_ (k := y.2 - 1) (by omega) (by omega)
      have hp : ¬ p ≤ y.1 * unitI ns e := fun h => by
        have := (hi_iff dv yb.1 he (p := p)).mp h
        omega
      have all : ∀ z ∈ cs.zip t, hiC ns p z.1 ≤ z.2 := fun z hz => by
        refine Int.not_lt.mp fun hz2 => ?_
        have zb := hS z hz
        have zl := lo_len ns p z.1
        obtain ⟨d, hd, _, ez⟩ := at_ (k := z.2) (by omega) (by omega)
        have h1 := sw z hz y hy (by omega) (by omega) d e hd he
        have h2 := (hi_iff dv zb.1 hd (p := p)).mpr (by omega)
        omega
      have := sum_ltZ all ⟨y, hy, hlt⟩
      rw [zs1.1, zs1.2] at this
      omega
  · rintro hi ⟨z, hz, y, hy, y0, d, e, hd, he, hlt⟩
    have hlt2 := (claim_lt dv (List.mem_of_getElem? he) (List.mem_of_getElem? hd)).mpr hlt
    have zb := hS z hz
    have yb := hS y hy
    have h1 := (hi z hz).1
    have h2 := (hi y hy).2
    have h3 := (hi_iff dv yb.1 he (p := p)).mpr (by omega)
    have h4 : ¬ p < z.1 * unitI ns d := fun h => by
      have := (lo_iff dv zb.1 hd (p := p)).mp h
      omega
    omega
theorem flat_congr {α β : Type} {f g : α → List β} : ∀ {l : List α}, (∀ x ∈ l, f x = g x) → l.flatMap f = l.flatMap g
  | [], _ => rfl
  | x :: l, h => by rw [List.flatMap_cons, List.flatMap_cons, h x List.mem_cons_self, flat_congr fun y hy => h y (List.mem_cons_of_mem _ hy)]
def within : Bd2 → List Int → Bool
  | b :: bs, x :: t => decide (b.1 ≤ x) && decide (x ≤ b.2) && within bs t
  | _, _ => true
def allB (n : Nat) (S : Int) : Bd2 := List.replicate n (0, S)
theorem tabs_within {S : Int} : ∀ {bs : Bd2} {left : Int}, (∀ b ∈ bs, 0 ≤ b.1 ∧ b.2 ≤ S) → (tabs (allB bs.length S) left).filter (within bs) = tabs bs left
  | [], left, _ => by
    show (tabs [] left).filter _ = _
    unfold tabs
    split <;> rfl
  | b :: bs, left, h => by
    have b0 := h b List.mem_cons_self
    show (tabs ((0, S) :: allB bs.length S) left).filter _ = _
    unfold tabs
    rw [List.filter_flatMap]
    have e : ∀ x, (((tabs (allB bs.length S) (left - x)).map (x :: ·)).filter (within (b :: bs))) = if (decide (b.1 ≤ x) && decide (x ≤ b.2)) = true then (tabs bs (left - x)).map (x :: ·) else [] := fun x => by
      rw [List.filter_map, ← tabs_within (left := left - x) fun y hy => h y (List.mem_cons_of_mem _ hy)]
      split
      · rename_i hx
        refine congrArg _ (List.filter_congr fun t _ => ?_)
        show (decide (b.1 ≤ x) && decide (x ≤ b.2) && within bs t) = _
        rw [hx, Bool.true_and]
      · rename_i hx
        rw [List.filter_eq_nil_iff.mpr]
        · rfl
        · intro t _
          show ¬ (decide (b.1 ≤ x) && decide (x ≤ b.2) && within bs t) = true
          rw [Bool.not_eq_true] at hx
          rw [hx]
          simp
    rw [show (fun x => List.filter (within (b :: bs)) ((tabs (allB bs.length S) (left - x)).map (x :: ·))) = fun x => if (decide (b.1 ≤ x) && decide (x ≤ b.2)) = true then (tabs bs (left - x)).map (x :: ·) else [] from funext e]
    rw [← flat_filter (p := fun x => decide (b.1 ≤ x) && decide (x ≤ b.2)) fun x _ hx => by rw [hx]; rfl]
    show List.flatMap _ ((rng 0 S).filter _) = _
    rw [rng_filter, show (if b.1 > 0 then b.1 else 0) = b.1 by split <;> omega, show (if b.2 < S then b.2 else S) = b.2 by split <;> omega]
    refine flat_congr fun x hx => ?_
    have := mem_rng.mp hx
    rw [decide_eq_true this.1, decide_eq_true this.2]
    rfl
theorem within_in {ns : List Int} {p : Int} : ∀ {cs t : List Int}, t.length = cs.length → (within (cs.map fun c => (loC ns p c, hiC ns p c)) t = true ↔ InB ns (cs.zip t) p)
  | [], [], _ => ⟨fun _ z hz => (by cases hz), fun _ => rfl⟩
  | c :: cs, x :: t, h => by
    have ih := within_in (ns := ns) (p := p) (cs := cs) (t := t) (by simpa using h)
    rw [List.map_cons]
    show (decide (_ ≤ _) && decide (_ ≤ _) && within _ _) = true ↔ _
    rw [Bool.and_eq_true, Bool.and_eq_true, decide_eq_true_eq, decide_eq_true_eq, ih]
    constructor
    · rintro ⟨h1, h2⟩ z hz
      rw [List.zip_cons_cons] at hz
      rcases List.mem_cons.mp hz with rfl | hz
      · exact h1
      · exact h2 z hz
    · intro hh
      exact ⟨hh (c, x) (by rw [List.zip_cons_cons]; exact List.mem_cons_self), fun z hz => hh z (by rw [List.zip_cons_cons]; exact List.mem_cons_of_mem _ hz)⟩
open Classical in
theorem swap_made {ns cs : List Int} {p : Int} (dv : DivOk ns) (hk : IsKth (claimsN ns cs).flatten (ns.length - 1) p) (hc : ∀ c ∈ cs, 0 ≤ c) : (tabs (allB cs.length ns.length) ns.length).filter (fun t => !decide (SwapZ ns (cs.zip t))) = tabs (bdsAt (claimsN ns cs) p) ns.length := by
  rw [bds_at]
  have hb : ∀ b ∈ cs.map fun c => (loC ns p c, hiC ns p c), 0 ≤ b.1 ∧ b.2 ≤ (ns.length : Int) := fun b hb => by
    obtain ⟨c, _, rfl⟩ := List.mem_map.mp hb
    have := lo_len ns p c
    exact ⟨this.1, this.2.2.2⟩
  rw [← tabs_within hb, List.length_map]
  refine List.filter_congr fun t ht => ?_
  obtain ⟨_, _, tl, ts, tb⟩ := tabs_sum ht
  have tl' : t.length = cs.length := by rw [tl]; unfold allB; rw [List.length_replicate]
  have h0 : ∀ x ∈ t, 0 ≤ x := fun x hx => by
    obtain ⟨i, hi⟩ := List.getElem?_of_mem hx
    have hil := (List.getElem?_eq_some_iff.mp hi).1
    exact (tb i x (0, ns.length) hi (by unfold allB; rw [List.getElem?_replicate, if_pos (by omega)])).1
  have := swap_bds dv hk hc tl' h0 ts
  rw [Bool.eq_iff_iff, within_in tl', ← this]
  simp
/-! ### results near one another: one seat given on -/
structure UpD (S : Int) (d : Int → Int) : Prop where
  pos : ∀ a, 0 ≤ a → a < S → 0 < d a
  le : ∀ a b, 0 ≤ a → a ≤ b → b < S → d a ≤ d b
def NoSw (S : Int) (d : Int → Int) (c t : Nat → Int) (n : Nat) : Prop := ∀ i < n, ∀ j < n, t i < S → 0 < t j → c i * d (t j - 1) ≤ c j * d (t i)
def moveF (t : Nat → Int) (k j : Nat) : Nat → Int := fun i => if i = k then t k - 1 else if i = j then t j + 1 else t i
theorem sw_move {S : Int} {d : Int → Int} {c t : Nat → Int} {n k j : Nat} (u : UpD S d) (c0 : ∀ i < n, 0 ≤ c i) (t0 : ∀ i < n, 0 ≤ t i) (tS : ∀ i < n, t i ≤ S) (h : NoSw S d c t n) (hk : k < n) (hj : j < n) (hkj : k ≠ j) (tk : 0 < t k) (tj : t j < S)
    (e : c k * d (t j) = c j * d (t k - 1)) : NoSw S d c (moveF t k j) n := by
  have D0 := u.pos (t j) (t0 j hj) tj
  have kS := tS k hk
  have X0 := u.pos (t k - 1) (by omega) (by omega)
  have mk : moveF t k j k = t k - 1 := if_pos rfl
  have mj : moveF t k j j = t j + 1 := by unfold moveF; rw [if_neg (fun h => hkj h.symm), if_pos rfl]
  have mo : ∀ i, i ≠ k → i ≠ j → moveF t k j i = t i := fun i h1 h2 => by unfold moveF; rw [if_neg h1, if_neg h2]
  have A : ∀ a < n, moveF t k j a < S → c a * d (t j) ≤ c j * d (moveF t k j a) := fun a ha hS => by
    by_cases h1 : a = k
    · subst h1; rw [mk, e]; exact Int.le_refl _
    by_cases h2 : a = j
    · subst h2
      rw [mj] at hS ⊢
      exact Int.mul_le_mul_of_nonneg_left (u.le _ _ (t0 a ha) (by omega) hS) (c0 a ha)
    rw [mo a h1 h2] at hS ⊢
    have h3 := h a ha k hk hS tk
    -- c a * d (t k - 1) <= c k * d (t a), p = c k / d (t k - 1)
    have h4 := Int.mul_le_mul_of_nonneg_right h3 (Int.le_of_lt D0)
    have e1 : c k * d (t a) * d (t j) = c j * d (t a) * d (t k - 1) := by
      rw [Int.mul_assoc, Int.mul_comm (d (t a)), ← Int.mul_assoc, e, Int.mul_assoc, Int.mul_comm (d (t k - 1)), ← Int.mul_assoc]
    have e2 : c a * d (t k - 1) * d (t j) = c a * d (t j) * d (t k - 1) := by
      rw [Int.mul_assoc, Int.mul_comm (d (t k - 1)), ← Int.mul_assoc]
    rw [e1, e2] at h4
    exact Int.le_of_mul_le_mul_right h4 X0
  have B : ∀ b < n, 0 < moveF t k j b → c j * d (moveF t k j b - 1) ≤ c b * d (t j) := fun b hb h0 => by
    by_cases h1 : b = k
    · subst h1
      rw [mk] at h0 ⊢
      rw [e]
      exact Int.mul_le_mul_of_nonneg_left (u.le _ _ (by omega) (by omega) (by omega)) (c0 j hj)
    by_cases h2 : b = j
    · subst h2
      rw [mj, show t b + 1 - 1 = t b by omega]
      exact Int.le_refl _
    rw [mo b h1 h2] at h0 ⊢
    exact h j hj b hb tj h0
  intro a ha b hb hS h0
  have bS : moveF t k j b ≤ S := by
    by_cases h1 : b = k
    · subst h1; rw [mk]; omega
    by_cases h2 : b = j
    · subst h2; rw [mj]; omega
    rw [mo b h1 h2]; exact tS b hb
  have a0 : 0 ≤ moveF t k j a := by
    by_cases h1 : a = k
    · subst h1; rw [mk]; omega
    by_cases h2 : a = j
    · subst h2; rw [mj]; have := t0 a ha; omega
    rw [mo a h1 h2]; exact t0 a ha
  exact q_trans D0 (Int.le_of_lt (u.pos _ a0 hS)) (Int.le_of_lt (u.pos _ (by omega) (by omega))) (A a ha hS) (B b hb h0)
def dF (ns : List Int) : Int → Int := fun a => ns.getD a.toNat 0
def cF (cs : List Int) : Nat → Int := fun i => cs.getD i 0
structure ResT (ns cs t : List Int) : Prop where
  l : t.length = cs.length
  z : ∀ x ∈ t, 0 ≤ x
  s : t.sum = (ns.length : Int)
  n : ¬ SwapZ ns (cs.zip t)
theorem ResT.bd {ns cs l : List Int} (h : ResT ns cs l) : ∀ i < cs.length, 0 ≤ cF l i ∧ cF l i ≤ ns.length := fun i hi => by
  have hl : i < l.length := by rw [h.l]; exact hi
  have e : cF l i = l[i] := by unfold cF; rw [List.getD_eq_getElem?_getD, List.getElem?_eq_getElem hl]; rfl
  rw [e]
  have := sumI_le h.z _ (List.getElem_mem hl)
  have := h.s
  exact ⟨h.z _ (List.getElem_mem hl), by omega⟩
theorem getD_of {l : List Int} {i : Nat} {x : Int} (h : l[i]? = some x) : l.getD i 0 = x := by rw [List.getD_eq_getElem?_getD, h]; rfl
theorem upD {ns : List Int} (dv : DivOk ns) : UpD ns.length (dF ns) := by
  have g : ∀ a : Int, 0 ≤ a → a < ns.length → ∃ h : a.toNat < ns.length, dF ns a = ns[a.toNat] := fun a h0 h1 => by
    have h : a.toNat < ns.length := by omega
    exact ⟨h, getD_of (List.getElem?_eq_getElem h)⟩
  refine ⟨fun a h0 h1 => ?_, fun a b h0 h1 h2 => ?_⟩
  · obtain ⟨h, e⟩ := g a h0 h1
    rw [e]
    have := (dv.b _ (List.getElem_mem h)).1
    omega
  · obtain ⟨ha, ea⟩ := g a h0 (by omega)
    obtain ⟨hb, eb⟩ := g b (by omega) h2
    rw [ea, eb]
    by_cases h : a.toNat = b.toNat
    · simp only [h]; exact Int.le_refl _
    · exact Int.le_of_lt (List.pairwise_iff_getElem.mp dv.up _ _ ha hb (by omega))
theorem nosw_iff {ns cs l : List Int} (hl : l.length = cs.length) (hb : ∀ i < cs.length, 0 ≤ cF l i ∧ cF l i ≤ ns.length) : ¬ SwapZ ns (cs.zip l) ↔ NoSw ns.length (dF ns) (cF cs) (cF l) cs.length := by
  have at_ : ∀ i, i < cs.length → (cF cs i, cF l i) ∈ cs.zip l := fun i hi => by
    have h2 : i < l.length := by omega
    refine List.mem_of_getElem? (i := i) ?_
    rw [List.getElem?_zip_eq_some]
    unfold cF
    rw [List.getD_eq_getElem?_getD, List.getD_eq_getElem?_getD, List.getElem?_eq_getElem hi, List.getElem?_eq_getElem h2]
    exact ⟨rfl, rfl⟩
  constructor
  · intro hn i hi j hj hS h0
    have bi := hb i hi
    have bj := hb j hj
    refine Int.not_lt.mp fun hlt => hn ⟨_, at_ i hi, _, at_ j hj, h0, ?_⟩
    have h1 : (cF l i).toNat < ns.length := by omega
    have h2 : (cF l j - 1).toNat < ns.length := by omega
    refine ⟨_, _, List.getElem?_eq_getElem h1, List.getElem?_eq_getElem h2, ?_⟩
    have e1 : dF ns (cF l i) = ns[(cF l i).toNat] := getD_of (List.getElem?_eq_getElem h1)
    have e2 : dF ns (cF l j - 1) = ns[(cF l j - 1).toNat] := getD_of (List.getElem?_eq_getElem h2)
    rw [e1, e2] at hlt
    exact hlt
  · rintro hn ⟨z, hz, y, hy, y0, d, e, hd, he, hlt⟩
    obtain ⟨i, hi⟩ := List.getElem?_of_mem hz
    obtain ⟨j, hj⟩ := List.getElem?_of_mem hy
    rw [List.getElem?_zip_eq_some] at hi hj
    have e1 : cF cs i = z.1 := getD_of hi.1
    have e2 : cF l i = z.2 := getD_of hi.2
    have e3 : cF cs j = y.1 := getD_of hj.1
    have e4 : cF l j = y.2 := getD_of hj.2
    have li := (List.getElem?_eq_some_iff.mp hi.1).1
    have lj := (List.getElem?_eq_some_iff.mp hj.1).1
    have bi := hb i li
    have h := hn i li j lj (by
      have := (List.getElem?_eq_some_iff.mp hd).1
      rw [e2] at bi ⊢
      omega) (by rw [e4]; exact y0)
    rw [e1, e2, e3, e4] at h
    have f1 : dF ns (y.2 - 1) = e := getD_of he
    have f2 : dF ns z.2 = d := getD_of hd
    rw [f1, f2] at h
    omega
def moveL (l : List Int) (k j : Nat) : List Int := (l.set k (l.getD k 0 - 1)).set j (l.getD j 0 + 1)
theorem sum_set : ∀ {l : List Int} {i : Nat} {x : Int}, i < l.length → (l.set i x).sum = l.sum - l.getD i 0 + x
  | a :: l, 0, x, _ => by simp; omega
  | a :: l, i + 1, x, h => by
    have := sum_set (l := l) (i := i) (x := x) (by simpa using h)
    rw [List.set_cons_succ, List.sum_cons, List.sum_cons, this, List.getD_cons_succ]
    omega
theorem getD_set {l : List Int} {i j : Nat} {x : Int} (hi : i < l.length) : (l.set i x).getD j 0 = if j = i then x else l.getD j 0 := by
  rw [List.getD_eq_getElem?_getD, List.getElem?_set]
  by_cases h : i = j
  · subst h
    rw [if_pos rfl, if_pos rfl, if_pos hi]
    rfl
  · rw [if_neg h, if_neg fun e => h e.symm, List.getD_eq_getElem?_getD]
theorem move_cF {l : List Int} {k j : Nat} (hk : k < l.length) (hj : j < l.length) (hkj : k ≠ j) : cF (moveL l k j) = moveF (cF l) k j := by
  funext i
  unfold cF moveL moveF
  rw [getD_set (by rw [List.length_set]; exact hj), getD_set hk]
  by_cases h1 : i = j
  · subst h1
    rw [if_pos rfl, if_neg fun h => hkj h.symm, if_pos rfl]
  · rw [if_neg h1]
    by_cases h2 : i = k
    · subst h2; rw [if_pos rfl, if_pos rfl]
    · rw [if_neg h2, if_neg h2, if_neg h1]
theorem res_move {ns cs l : List Int} {k j : Nat} (u : UpD ns.length (dF ns)) (c0 : ∀ c ∈ cs, 0 ≤ c) (h : ResT ns cs l) (hk : k < cs.length) (hj : j < cs.length) (hkj : k ≠ j) (tk : 0 < cF l k) (tj : cF l j < ns.length) (e : cF cs k * dF ns (cF l j) = cF cs j * dF ns (cF l k - 1)) :
    ResT ns cs (moveL l k j) ∧ cF (moveL l k j) k = cF l k - 1 ∧ cF (moveL l k j) j = cF l j + 1 := by
  have lk : k < l.length := by rw [h.l]; exact hk
  have lj : j < l.length := by rw [h.l]; exact hj
  have em := move_cF lk lj hkj
  have ml : (moveL l k j).length = cs.length := by unfold moveL; rw [List.length_set, List.length_set]; exact h.l
  have c0' : ∀ i < cs.length, 0 ≤ cF cs i := fun i hi => by
    have e : cF cs i = cs[i] := getD_of (List.getElem?_eq_getElem hi)
    rw [e]
    exact c0 _ (List.getElem_mem hi)
  have hn := (nosw_iff h.l h.bd).mp h.n
  have hm := sw_move u c0' (fun i hi => (h.bd i hi).1) (fun i hi => (h.bd i hi).2) hn hk hj hkj tk tj e
  have mb : ∀ i < cs.length, 0 ≤ cF (moveL l k j) i ∧ cF (moveL l k j) i ≤ ns.length := fun i hi => by
    have := h.bd i hi
    have := h.bd k hk
    have := h.bd j hj
    rw [em]
    unfold moveF
    split
    · omega
    · split <;> omega
  refine ⟨⟨ml, fun x hx => ?_, ?_, (nosw_iff ml mb).mpr (by rw [em]; exact hm)⟩, ?_, ?_⟩
  · obtain ⟨i, hi⟩ := List.getElem?_of_mem hx
    have hil := (List.getElem?_eq_some_iff.mp hi).1
    have := (mb i (by omega)).1
    have e : cF (moveL l k j) i = x := getD_of hi
    omega
  · unfold moveL
    rw [sum_set (by rw [List.length_set]; exact lj), sum_set lk, getD_set lk, if_neg fun h => hkj h.symm, h.s]
    omega
  · rw [em]; exact if_pos rfl
  · rw [em]; unfold moveF; rw [if_neg fun h => hkj h.symm, if_pos rfl]
/-- the fewest and the most seats of a party in some tables -/
structure SpanI (ts : List (List Int)) (k : Nat) (m M : Int) : Prop where
  lo : ∃ t ∈ ts, cF t k = m
  le : ∀ t ∈ ts, m ≤ cF t k
  hi : ∃ t ∈ ts, cF t k = M
  ge : ∀ t ∈ ts, cF t k ≤ M
/-- all tables of so many parties -/
theorem mem_allB {S : Int} : ∀ {n : Nat} {left : Int} {t : List Int}, left ≤ S → t.length = n → (∀ x ∈ t, 0 ≤ x) → t.sum = left → t ∈ tabs (allB n S) left
  | 0, left, [], _, _, _, hs => by
    unfold allB tabs
    rw [List.sum_nil] at hs
    rw [← hs]
    simp
  | n + 1, left, x :: t, hS, hl, h0, hs => by
    have ht : ∀ y ∈ t, 0 ≤ y := fun y hy => h0 y (List.mem_cons_of_mem _ hy)
    have x0 := h0 x List.mem_cons_self
    rw [List.sum_cons] at hs
    have s0 := sum_nn ht
    show x :: t ∈ tabs ((0, S) :: allB n S) left
    unfold tabs
    refine List.mem_flatMap.mpr ⟨x, mem_rng.mpr ⟨x0, by simp only; omega⟩, List.mem_map_of_mem (mem_allB (by omega) (by simpa using hl) ht (by omega))⟩
theorem made_res {ns cs : List Int} {p : Int} (dv : DivOk ns) (hk : IsKth (claimsN ns cs).flatten (ns.length - 1) p) (hc : ∀ c ∈ cs, 0 ≤ c) (l : List Int) : l ∈ tabs (bdsAt (claimsN ns cs) p) ns.length ↔ ResT ns cs l := by
  classical
  rw [← swap_made dv hk hc, List.mem_filter]
  constructor
  · rintro ⟨h1, h2⟩
    obtain ⟨_, _, tl, ts, tb⟩ := tabs_sum h1
    have tl' : l.length = cs.length := by rw [tl]; unfold allB; rw [List.length_replicate]
    refine ⟨tl', fun x hx => ?_, ts, by simpa using h2⟩
    obtain ⟨i, hi⟩ := List.getElem?_of_mem hx
    have hil := (List.getElem?_eq_some_iff.mp hi).1
    exact (tb i x (0, ns.length) hi (by unfold allB; rw [List.getElem?_replicate, if_pos (by omega)])).1
  · intro h
    exact ⟨mem_allB (Int.le_refl _) h.l h.z h.s, by simpa using h.n⟩
/-! ### results of a night, as tables without a swap -/
section
variable {C : Addr}
theorem kth_some {l : List Int} {k : Nat} (h : k < l.length) : ∃ p, IsKth l k p := by
  have hp := List.mergeSort_perm l fun a b => decide (a ≥ b)
  have hs := List.pairwise_mergeSort (le := fun a b : Int => decide (a ≥ b)) (by intro a b c h1 h2; simp at *; omega) (by intro a b; simp; omega) l
  have hk : k < (l.mergeSort fun a b => decide (a ≥ b)).length := by rw [hp.length_eq]; exact h
  exact ⟨_, kth_of hp (hs.imp fun h => of_decide_eq_true h) (List.getElem?_eq_getElem hk)⟩
end
/-! ### all tables of a night, as the program goes -/
section
variable {P : Program} {w : World} {K : PySem.W.Frag} {mg : Str → Option Value} {base : Heap} {f C : Addr} {fd : FuncData}
theorem allB_lo (m : Nat) (S : Int) : loS (allB m S) = 0 := by
  unfold loS allB
  rw [List.map_replicate]
  induction m with
  | zero => rfl
  | succ m ih => rw [List.replicate_succ, List.sum_cons, ih]; rfl
theorem hiS_cons (b : Int × Int) (bs : Bd2) : hiS (b :: bs) = b.2 + hiS bs := by
  unfold hiS
  rw [List.map_cons, List.sum_cons]
theorem allB_succ (m : Nat) (S : Int) : allB (m + 1) S = (0, S) :: allB m S := rfl
theorem allB_nn {S : Int} (S0 : 0 ≤ S) : ∀ m : Nat, 0 ≤ hiS (allB m S)
  | 0 => Int.le_refl _
  | m + 1 => by
    have := allB_nn S0 m
    rw [allB_succ, hiS_cons]
    show 0 ≤ S + _
    omega
theorem allB_hi {S : Int} (S0 : 0 ≤ S) : ∀ m : Nat, 1 ≤ m → S ≤ hiS (allB m S)
  | m + 1, _ => by
    have := allB_nn S0 m
    rw [allB_succ, hiS_cons]
    show S ≤ S + _
    omega
def S_tablesN (C : Addr) : DSp := fun ds Φ _ => ∃ t : Tri, ds = [nightD C t] ∧ TriOk t ∧ Φ (.tup ((tabs (allB t.2.1.length t.1.length) t.1.length).map intsD))
theorem step_all {S : Int} {m : Nat} {g : Beg} (hm : 1 ≤ m) (S0 : 0 ≤ S) (hg : ∀ x ∈ g, 0 ≤ x.2 ∧ x.2 ≤ S) : stepB (0, S) (allB m S) g = g.flatMap fun x => (rng 0 x.2).map fun own => (x.1 ++ [own], x.2 - own) := by
  unfold stepB
  refine flat_congr fun x hx => ?_
  have b := hg x hx
  have h := allB_hi S0 m hm
  rw [allB_lo]
  have e1 : mx (0, S).1 (x.2 - hiS (allB m S)) = 0 := by unfold mx; split <;> simp only at * <;> omega
  have e2 : mn (0, S).2 (x.2 - 0) = x.2 := by unfold mn; split <;> simp only at * <;> omega
  rw [e1, e2]
theorem step_end {S : Int} {g : Beg} (hg : ∀ x ∈ g, 0 ≤ x.2 ∧ x.2 ≤ S) : (stepB (0, S) (allB 0 S) g).map (·.1) = g.map fun x => x.1 ++ [x.2] := by
  unfold stepB
  rw [List.map_flatMap, show (g.map fun x => x.1 ++ [x.2]) = g.flatMap fun x => [x.1 ++ [x.2]] from List.map_eq_flatMap]
  refine flat_congr fun x hx => ?_
  have b := hg x hx
  have e1 : mx (0, S).1 (x.2 - hiS (allB 0 S)) = x.2 := by
    show mx 0 (x.2 - 0) = x.2
    unfold mx
    split <;> omega
  have e2 : mn (0, S).2 (x.2 - loS (allB 0 S)) = x.2 := by
    show mn S (x.2 - 0) = x.2
    unfold mn
    split <;> omega
  rw [e1, e2]
  have e3 : rng x.2 x.2 = [x.2] := by
    unfold rng
    rw [show (x.2 + 1 - x.2).toNat = 1 by omega]
    simp
  rw [e3]
  rfl
abbrev s_Night_tables : Stmt := inClass (topS 48) 12
abbrev N_Night_tables : List Str := ["self", "begun", "_", "told", "left", "own"]
theorem sc_Night_tables : FnScope N_Night_tables ["self"] (defScope s_Night_tables) := ⟨rfl, rfl, rfl, by decide +kernel, rfl, by decide +kernel, by decide +kernel⟩
theorem ok_tablesN (F : FunX K "tables" "Night.tables" s_Night_tables f fd) (T : NightC K C) (B : Blt mg) : FnG P w K mg base 1 f fd ["self"] (lift K (S_tablesN C)) := by
  refine fnX_of F sc_Night_tables (fun ds Φ Ψ ⟨_, h, _⟩ => by rw [h]; rfl) fun cdv A outer s H E b => ⟨_, (pss_cons (ps_set (i := 1) sc_Night_tables.nd rfl (by first | exact .inl rfl | exact .inr rfl) (pe_lst (pa_cons (pe_tup (pa_cons (pe_tup pa_nil) (pa_cons (pe_callB (k_len K) (by rfl) B.len bb_len (pa_cons (k_fld K (pv 0)) pa_nil)) pa_nil))) pa_nil)))
 (pss_cons (ps_for b.own rfl (pi_range1 (by rfl) B.range (pa_cons (pe_op op_sub (pe_callB (k_len K) (by rfl) B.len bb_len (pa_cons (k_fld K (pv 0)) pa_nil)) pe_int) pa_nil)) (pg_name (i := 2) sc_Night_tables.nd rfl (by first | exact .inl rfl | exact .inr rfl)) (pss_one (ps_setLc2 (i := 1) (own := [("told", 3), ("left", 4), ("own", 5)]) (vs1 := [5]) rfl sc_Night_tables.nd rfl rfl (sw_true rfl rfl rfl (by decide +kernel)) (k_any K (pv 1)) (blkOk_by (own := [("told", 3), ("left", 4), ("own", 5)]) (N := N_Night_tables) (sc := defScope s_Night_tables) (by decide +kernel)) (by decide) (fun _ _ _ _ _ => (k_pg K (n := 2) rfl (pgs_cons (pg_name (i := 3) sc_Night_tables.nd rfl (by first | exact .inl rfl | exact .inr rfl)) (pgs_cons (pg_name (i := 4) sc_Night_tables.nd rfl (by first | exact .inl rfl | exact .inr rfl)) pgs_nil)))) (fun _ _ _ _ _ => pts_nil) (fun _ _ _ _ _ => (pi_range1 (by rfl) B.range (pa_cons (pe_op (k_add K) (pv 4) pe_int) pa_nil))) (fun _ _ _ _ _ => (pg_name (i := 5) sc_Night_tables.nd rfl (by first | exact .inl rfl | exact .inr rfl))) (fun _ _ _ _ _ => pts_nil) (fun _ _ _ _ _ => (pe_tup (pa_cons (pe_op (k_add K) (pv 3) (pe_tup (pa_cons (pv 5) pa_nil))) (pa_cons (pe_op op_sub (pv 4) (pv 5)) pa_nil)))))))
 (pss_one (ps_ret (pe_callTy (k_tup K) (by rfl) B.tuple bb_tuple (pa_cons (pe_lc (own := [("told", 3), ("left", 4)]) rfl sc_Night_tables.nd (k_any K (pv 1)) (blkOk_by (own := [("told", 3), ("left", 4)]) (N := N_Night_tables) (sc := defScope s_Night_tables) (by decide +kernel))  (fun _ _ _ _ _ => (k_pg K (n := 2) rfl (pgs_cons (pg_name (i := 3) sc_Night_tables.nd rfl (by first | exact .inl rfl | exact .inr rfl)) (pgs_cons (pg_name (i := 4) sc_Night_tables.nd rfl (by first | exact .inl rfl | exact .inr rfl)) pgs_nil)))) (fun _ _ _ _ _ => pts_nil) (fun _ _ _ _ _ => (pe_op (k_add K) (pv 3) (pe_tup (pa_cons (pv 4) pa_nil))))) pa_nil)))))), fun ds Φ Ψ ⟨t, h, ht, q⟩ => ?_⟩
  subst h
  show wS _ _ _ [some (.dat _), none, none, none, none, none]
  have d1 := ht.d.l1
  have d2 := ht.d.l2
  have f1 := ht.f.l1
  have f2 := ht.f.l2
  have nl : (t.1.map D.int).length = t.1.length := List.length_map _
  have fl : (t.2.1.map partyD).length = t.2.1.length := List.length_map _
  generalize hS : (t.1.length : Int) = S at q
  walk_at "dlt"
  refine ⟨_, _, _, rfl, T.cl, T.nD, lk_div, ?_⟩
  unfold divsD
  walk_at "dlt"
  rw [nl, hS]
  show wS _ _ _ [some (.dat (nightD C t)), some (.own none (.lst [begE ([], S)])), none, none, none, none]
  refine wS_forT (fun i : Nat => .int (0 + (i : Int))) (fun i ρ' => ∃ (g : Beg) (y1 : Sl) (x2 x3 x4 x5 : Option Sl), ρ' = [some (.dat (nightD C t)), some y1, x2, x3, x4, x5] ∧ (y1 = .dat (.lst (g.map begE)) ∨ y1 = .own none (.lst (g.map begE))) ∧ runB (allB (t.2.1.length - i) S) g = runB (allB t.2.1.length S) [([], S)] ∧ (∀ x ∈ g, 0 ≤ x.2 ∧ x.2 ≤ S ∧ x.1.length ≤ i) ∧ ∀ j, potB j g ≤ cnt (i + j) S.toNat) (wI_range1 ?_)
  walk_at "dlt"
  refine ⟨_, _, _, rfl, T.cl, T.nP, lk_par, ?_⟩
  unfold folkD
  walk_at "dlt"
  rw [fl]
  have S0 : 0 ≤ S := by omega
  have S12 : S ≤ 12 := by omega
  refine ⟨_, rfl, by omega, List.range (t.2.1.length - 1), by unfold rangeD; rw [show ((t.2.1.length : Int) - 1 - 0).toNat = t.2.1.length - 1 by omega], ⟨[([], S)], .own none (.lst [begE ([], S)]), none, none, none, none, rfl, .inr rfl, rfl, fun x hx => ?_, fun j => ?_⟩, fun i _ ρ' hi ⟨g, y1, x2, x3, x4, x5, e, hy, hr, hg, hp⟩ => ?_, fun ρ' ⟨g, y1, x2, x3, x4, x5, e, hy, hr, hg, hp⟩ => ?_⟩
  · rw [List.mem_singleton.mp hx]
    exact ⟨S0, Int.le_refl _, Nat.le_refl _⟩
  · unfold potB
    rw [List.map_cons, List.sum_cons, Nat.zero_add]
    exact Nat.le_refl _
  · subst e
    obtain ⟨hil, hx0⟩ := List.getElem?_eq_some_iff.mp hi
    rw [List.length_range] at hil
    have hm : 1 ≤ t.2.1.length - (i + 1) := by omega
    have ea : allB (t.2.1.length - i) S = (0, S) :: allB (t.2.1.length - (i + 1)) S := by
      rw [show t.2.1.length - i = (t.2.1.length - (i + 1)) + 1 by omega]
      rfl
    rw [ea] at hr
    have hg0 : ∀ x ∈ g, 0 ≤ x.2 := fun x hx => (hg x hx).1
    have lo0 : 0 ≤ loS (allB (t.2.1.length - (i + 1)) S) := by rw [allB_lo]; exact Int.le_refl _
    have ps1 : ∀ j, potB j (stepB (0, S) (allB (t.2.1.length - (i + 1)) S) g) ≤ potB (j + 1) g := fun j => (pot_step (b := (0, S)) (Int.le_refl _) lo0 hg0).1
    have ps2 := (pot_step (j := 0) (b := (0, S)) (Int.le_refl _) lo0 hg0).2
    have hp2 : ∀ j, potB j (stepB (0, S) (allB (t.2.1.length - (i + 1)) S) g) ≤ cnt (i + 1 + j) S.toNat := fun j => by
      have h1 := ps1 j
      have h2 := hp (j + 1)
      rw [show i + 1 + j = i + (j + 1) by omega]
      omega
    have len : (stepB (0, S) (allB (t.2.1.length - (i + 1)) S) g).length ≤ 18564 := by
      have h1 := hp2 0
      rw [pot_len] at h1
      exact Nat.le_trans h1 (cnt_top _ (by omega) _ (by omega))
    have ea2 := step_all hm S0 fun x hx => ⟨(hg x hx).1, (hg x hx).2.1⟩
    have es : (g.flatMap fun x => (rng 0 x.2).map fun own => begE (x.1 ++ [own], x.2 - own)) = (stepB (0, S) (allB (t.2.1.length - (i + 1)) S) g).map begE := by
      rw [ea2, List.map_flatMap]
      refine congrArg (fun F => List.flatMap F g) (funext fun x => ?_)
      rw [List.map_map]
      rfl
    have lf : (g.flatMap fun x => rng 0 x.2).length ≤ 18564 := by
      rw [ea2, List.length_flatMap] at len
      simp only [List.length_map] at len
      rw [List.length_flatMap]
      exact len
    have hg2 : ∀ x ∈ stepB (0, S) (allB (t.2.1.length - (i + 1)) S) g, 0 ≤ x.2 ∧ x.2 ≤ S ∧ x.1.length ≤ i + 1 := fun y hy => by
      have y0 := ps2 y hy
      rw [ea2] at hy
      obtain ⟨x, hx, hy⟩ := List.mem_flatMap.mp hy
      obtain ⟨own, ho, rfl⟩ := List.mem_map.mp hy
      have h1 := mem_rng.mp ho
      have h2 := hg x hx
      refine ⟨y0, ?_, by rw [List.length_append]; simp; omega⟩
      show x.2 - own ≤ S
      omega
    rcases hy with rfl | rfl
    all_goals
      walk_at "dlt"
      refine wE_lc2M (only_pair (by simp) (by simp)) (only_name (by simp)) begE D.int (fun x => rng 0 x.2) (fun x own => begE (x.1 ++ [own], x.2 - own)) (wI_any ?_)
      walk_at "dlt"
      refine ⟨_, rfl, g, rfl, by omega, fun x hx => ?_, ?_⟩
      · have xb := hg x hx
        unfold begE
        walk_at "dlt"
        refine wI_range1 ?_
        walk_at "dlt"
        refine ⟨_, rfl, by omega, rng_range _ _, fun own ho => ?_⟩
        have := mem_rng.mp ho
        walk_at "dlt"
        refine addG_t (by rw [List.length_map]; simp; omega) ?_
        walk_at "dlt"
        rw [List.map_append]
        rfl
      walk_at "dlt"
      rw [es]
      exact ⟨_, _, _, _, _, _, rfl, .inl rfl, hr, hg2, hp2⟩
  · subst e
    rw [List.length_range] at hr hg hp
    rw [show t.2.1.length - (t.2.1.length - 1) = 1 by omega] at hr
    have er : (g.map fun x => x.1 ++ [x.2]) = tabs (allB t.2.1.length S) S := by
      have h1 := runB_eq (allB t.2.1.length S) [([], S)]
      rw [← hr] at h1
      have h2 : runB (allB 1 S) g = stepB (0, S) (allB 0 S) g := rfl
      rw [h2, step_end fun x hx => ⟨(hg x hx).1, (hg x hx).2.1⟩, List.flatMap_cons, List.flatMap_nil, List.append_nil, tabsP_eq (.inl (by intro e; have h := congrArg List.length e; unfold allB at h; rw [List.length_replicate, List.length_nil] at h; omega))] at h1
      rw [h1]
      simp
    have gl : g.length ≤ 18564 := by
      have h1 := hp 0
      rw [pot_len] at h1
      exact Nat.le_trans h1 (cnt_top _ (by omega) _ (by omega))
    rcases hy with rfl | rfl
    all_goals
      walk_at "dlt"
      refine wE_lcM (only_pair (by simp) (by simp)) begE (fun x => intsD (x.1 ++ [x.2])) (wI_any ?_)
      walk_at "dlt"
      refine ⟨_, rfl, g, rfl, by omega, fun x hx => ?_, ?_⟩
      · have xb := hg x hx
        unfold begE
        walk_at "dlt"
        refine addG_t (by rw [List.length_map]; simp; omega) ?_
        unfold intsD
        rw [List.map_append]
        rfl
      walk_at "dlt"
      rw [← er, List.map_map] at q
      exact q
end
/-! ### levels: the least price of a table, as the program comes to it -/
local macro_rules | `(tactic| walk_at "blk") => `(tactic| first | decide +kernel | rfl)
section
variable {P : Program} {w : World} {K : PySem.W.Frag} {mg : Str → Option Value} {base : Heap} {f C : Addr} {fd : FuncData}
def payI (ns : List Int) (o : Int) : Int := if o = 0 then 0 else ns.getD (o - 1).toNat 0
def untI (ns : List Int) (o : Int) : Int := if o < ns.length then unitI ns (ns.getD o.toNat 0) else 0
/-- the claim of what such a party pays at this level, to one seat more -/
def stepI (ns : List Int) (L o : Int) : Int := cdivI (L * payI ns o) (scaleN ns) * untI ns o
def paysD (ns : List Int) : D := .tup (.int 0 :: ns.map .int)
def untsD (ns : List Int) : D := .tup ((ns.map fun d => .int (unitI ns d)) ++ [.int 0])
def S_pays_of : DSp := fun ds Φ _ => ∃ ns, ds = [divsD ns] ∧ ns.length ≤ 12 ∧ Φ (paysD ns)
abbrev s_pays_of : Stmt := topS 66
abbrev N_pays_of : List Str := ["divisors"]
theorem sc_pays_of : FnScope N_pays_of ["divisors"] (defScope s_pays_of) := ⟨rfl, rfl, rfl, by decide +kernel, rfl, by decide +kernel, by decide +kernel⟩
theorem ok_pays_of (F : FunX K "pays_of" "pays_of" s_pays_of f fd) (B : Blt mg) : FnG P w K mg base 1 f fd ["divisors"] (lift K S_pays_of) := by
  refine fnX_of F sc_pays_of (fun ds Φ Ψ ⟨_, h, _⟩ => by rw [h]; rfl) fun cdv A outer s H E b => ⟨_, (pss_one (ps_ret (pe_op (k_add K) (pe_tup (pa_cons pe_int pa_nil)) (pv 0)))), fun ds Φ Ψ ⟨ns, h, l2, q⟩ => ?_⟩
  subst h
  show wS _ _ _ [some (.dat _)]
  unfold divsD
  walk_at "dlt"
  refine addG_t (by rw [List.length_map]; simp; omega) ?_
  exact q
theorem pays_at {ns : List Int} {o : Int} (h0 : 0 ≤ o) (h1 : o ≤ ns.length) : L2.atI (.int 0 :: ns.map D.int) o = some (.int (payI ns o)) := by
  rw [show o = ((o.toNat : Nat) : Int) by omega]
  refine L2.atI_nat ?_
  unfold payI
  by_cases h : o = 0
  · subst h; rfl
  · rw [if_neg (by omega), show o.toNat = (o.toNat - 1) + 1 by omega, List.getElem?_cons_succ, List.getElem?_map, List.getElem?_eq_getElem (by omega)]
    refine congrArg some (congrArg D.int ?_)
    rw [show ((((o.toNat - 1 + 1 : Nat) : Int)) - 1).toNat = o.toNat - 1 by omega]
    exact (getD_of (List.getElem?_eq_getElem (by omega))).symm
theorem unts_at {ns : List Int} {o : Int} (h0 : 0 ≤ o) (h1 : o ≤ ns.length) : L2.atI ((ns.map fun d => D.int (unitI ns d)) ++ [.int 0]) o = some (.int (untI ns o)) := by
  rw [show o = ((o.toNat : Nat) : Int) by omega]
  refine L2.atI_nat ?_
  unfold untI
  by_cases h : o.toNat < ns.length
  · rw [if_pos (by omega), List.getElem?_append_left (by rw [List.length_map]; exact h), List.getElem?_map, List.getElem?_eq_getElem h]
    refine congrArg some (congrArg D.int (congrArg (unitI ns) ?_))
    rw [show ((o.toNat : Nat) : Int).toNat = o.toNat by omega]
    exact (getD_of (List.getElem?_eq_getElem h)).symm
  · rw [if_neg (by omega), List.getElem?_append_right (by rw [List.length_map]; omega), List.length_map, show o.toNat - ns.length = 0 by omega]
    rfl
theorem scale_big {ns : List Int} (dv : DivOk ns) : 0 < (scaleN ns : Int) ∧ ((scaleN ns : Nat) : Int).natAbs < 2 ^ 8000 := by
  have h1 := scale_pos dv
  have l2 := dv.l2
  have h2 : scaleN ns ≤ 100 ^ 12 := Nat.le_trans (scale_bd ns 1 0 dv.b (by decide) (by decide)).1 (Nat.pow_le_pow_right (by decide) (by omega))
  exact ⟨h1, by rw [Int.natAbs_natCast]; exact Nat.lt_of_le_of_lt h2 (by decide +kernel)⟩
theorem pay_bd {ns : List Int} (dv : DivOk ns) {o : Int} (h0 : 0 ≤ o) (h1 : o ≤ ns.length) : 0 ≤ payI ns o ∧ payI ns o ≤ 100 := by
  unfold payI
  split
  · omega
  · have hl : (o - 1).toNat < ns.length := by omega
    have := dv.b _ (List.getElem_mem hl)
    rw [getD_of (List.getElem?_eq_getElem hl)]
    omega
theorem unt_bd {ns : List Int} (dv : DivOk ns) {o : Int} (h0 : 0 ≤ o) : 0 ≤ untI ns o ∧ untI ns o ≤ scaleN ns := by
  have h1 := scale_pos dv
  unfold untI
  split
  · have hl : o.toNat < ns.length := by omega
    have := dv.b _ (List.getElem_mem hl)
    rw [getD_of (List.getElem?_eq_getElem hl)]
    unfold unitI
    exact ⟨Int.ediv_nonneg (by omega) (by omega), Int.ediv_le_self _ (by omega)⟩
  · omega
/-- no such party has a step left at this level -/
def Clo (ns : List Int) (nums : List Int) (L : Int) : Prop := ∀ o ∈ nums, stepI ns L o ≤ L
structure IsSet (ns : List Int) (b : Int) (nums : List Int) (L : Int) : Prop where
  ge : b ≤ L
  clo : Clo ns nums L
  least : ∀ M, b ≤ M → Clo ns nums M → L ≤ M
theorem cdiv_mono {a b c : Int} (hc : 0 < c) (h : a ≤ b) : cdivI a c ≤ cdivI b c := (cdiv_le hc).mpr (Int.le_trans h (cdiv_ge hc))
theorem cdiv_nn {a c : Int} (hc : 0 < c) (h : 0 ≤ a) : 0 ≤ cdivI a c := by
  have := cdiv_mono hc h
  have e : cdivI 0 c = 0 := by unfold cdivI; simp
  omega
theorem step_mono {ns : List Int} (dv : DivOk ns) {L M o : Int} (h0 : 0 ≤ o) (h1 : o ≤ ns.length) (h : L ≤ M) : stepI ns L o ≤ stepI ns M o := by
  have p := pay_bd dv h0 h1
  have u := unt_bd dv h0
  unfold stepI
  exact Int.mul_le_mul_of_nonneg_right (cdiv_mono (scale_pos dv) (Int.mul_le_mul_of_nonneg_right h p.1)) u.1
theorem cdiv_mul {a c : Int} (hc : 0 < c) : cdivI (c * a) c = a := by
  refine Int.le_antisymm ((cdiv_le hc).mpr (by rw [Int.mul_comm]; exact Int.le_refl _)) ?_
  have this : a * c ≤ cdivI (c * a) c * c := by
    have h := cdiv_ge (a := c * a) hc
    rw [Int.mul_comm a c]
    exact h
  exact Int.le_of_mul_le_mul_right this hc
/-- at a whole price no step is left -/
theorem step_whole {ns : List Int} (dv : DivOk ns) {X o : Int} (hX : 0 ≤ X) (h0 : 0 ≤ o) (h1 : o ≤ ns.length) : stepI ns (scaleN ns * X) o ≤ scaleN ns * X := by
  have sp := scale_pos dv
  have p := pay_bd dv h0 h1
  unfold stepI
  rw [Int.mul_assoc, cdiv_mul sp]
  unfold untI
  split
  · rename_i hlt
    have hl : o.toNat < ns.length := by omega
    rw [getD_of (List.getElem?_eq_getElem hl)]
    have hm := List.getElem_mem hl
    have db := dv.b _ hm
    have um := unit_mul dv hm
    -- X * pay * unit <= X * d * unit
    have le : payI ns o ≤ ns[o.toNat] := by
      unfold payI
      split
      · omega
      · have hl2 : (o - 1).toNat < ns.length := by omega
        rw [getD_of (List.getElem?_eq_getElem hl2)]
        exact Int.le_of_lt (List.pairwise_iff_getElem.mp dv.up _ _ hl2 hl (by omega))
    generalize ns[o.toNat] = d at um db le
    have u0 : 0 ≤ unitI ns d := by
      unfold unitI
      exact Int.ediv_nonneg (by omega) (by omega)
    have h2 := Int.mul_le_mul_of_nonneg_right (Int.mul_le_mul_of_nonneg_left le hX) u0
    have e : X * d * unitI ns d = scaleN ns * X := by rw [Int.mul_assoc, Int.mul_comm d, um, Int.mul_comm]
    omega
  · rw [Int.mul_zero]
    exact Int.mul_nonneg (by omega) hX
def S_settled : DSp := fun ds Φ _ => ∃ (ns nums : List Int) (b X : Int), ds = [paysD ns, untsD ns, .int (scaleN ns : Nat), .tup (nums.map .int), .int b] ∧ DivOk ns ∧ nums.length ≤ 100 ∧ (∀ o ∈ nums, 0 ≤ o ∧ o ≤ ns.length) ∧ 0 ≤ b ∧ b ≤ scaleN ns * X ∧ 0 ≤ X ∧ X ≤ 1000000000 ∧ ∀ L, IsSet ns b nums L → L ≤ scaleN ns * X → Φ (.int L)
theorem need_bd {ns : List Int} (dv : DivOk ns) {L o X : Int} (h0 : 0 ≤ o) (h1 : o ≤ ns.length) (l0 : 0 ≤ L) (lX : L ≤ scaleN ns * X) (x0 : 0 ≤ X) (x1 : X ≤ 1000000000) : 0 ≤ cdivI (L * payI ns o) (scaleN ns) ∧ cdivI (L * payI ns o) (scaleN ns) ≤ 100000000000 := by
  have sp := scale_pos dv
  have p := pay_bd dv h0 h1
  refine ⟨cdiv_nn sp (Int.mul_nonneg l0 p.1), ?_⟩
  have h2 := cdiv_mono (c := (scaleN ns : Int)) sp (Int.mul_le_mul_of_nonneg_right lX p.1)
  rw [Int.mul_assoc, cdiv_mul sp] at h2
  have := Int.mul_le_mul x1 p.2 p.1 (by omega : (0 : Int) ≤ 1000000000)
  omega
abbrev s_settled : Stmt := topS 68
abbrev N_settled : List Str := ["pays", "units", "scale", "numbers", "level", "reached", "before", "own", "claim"]
theorem sc_settled : FnScope N_settled ["pays", "units", "scale", "numbers", "level"] (defScope s_settled) := ⟨rfl, rfl, rfl, by decide +kernel, rfl, by decide +kernel, by decide +kernel⟩
theorem ok_settled (F : FunX K "settled" "settled" s_settled f fd) : FnG P w K mg base 1 f fd ["pays", "units", "scale", "numbers", "level"] (lift K S_settled) := by
  refine fnX_of F sc_settled (fun ds Φ Ψ ⟨_, _, _, _, h, _⟩ => by rw [h]; rfl) fun cdv A outer s H E b => ⟨_, (pss_cons (ps_set (i := 5) sc_settled.nd rfl (by first | exact .inl rfl | exact .inr rfl) (pv 4))
 (pss_cons (ps_set (i := 6) sc_settled.nd rfl (by first | exact .inl rfl | exact .inr rfl) pe_non)
 (pss_cons (ps_while b.own (pt_cmpR (k_ne K (by exact b.room)) (pv 6) (pv 5) (nomark _)) (pss_cons (ps_set (i := 6) sc_settled.nd rfl (by first | exact .inl rfl | exact .inr rfl) (pv 5))
 (pss_one (ps_for b.own rfl (k_any K (pv 3)) (pg_name (i := 7) sc_settled.nd rfl (by first | exact .inl rfl | exact .inr rfl)) (pss_cons (ps_set (i := 8) sc_settled.nd rfl (by first | exact .inl rfl | exact .inr rfl) (pe_op opr_mul (pe_un un_neg (pe_op op_fdivW (pe_op opr_mul (pe_un un_neg (pv 5)) (pe_ix (k_ix K) (pv 0) (pv 7) (fun _ _ => rfl))) (pv 2))) (pe_ix (k_ix K) (pv 1) (pv 7) (fun _ _ => rfl))))
 (pss_one (ps_if (pt_cmpR op_gt (pv 8) (pv 5) (nomark _)) (pss_one (ps_set (i := 5) sc_settled.nd rfl (by first | exact .inl rfl | exact .inr rfl) (pv 8))) pss_nil)))))))
 (pss_one (ps_ret (pv 5)))))), fun ds Φ Ψ ⟨ns, nums, lv, X, h, dv, nl, hn, b0, bX, x0, x1, q⟩ => ?_⟩
  subst h
  show wS _ _ _ [some (.dat _), some (.dat _), some (.dat _), some (.dat _), some (.dat _), none, none, none, none]
  have sp := scale_pos dv
  have sb := scale_big dv
  have whole : Clo ns nums (scaleN ns * X) := fun o ho => step_whole dv x0 (hn o ho).1 (hn o ho).2
  unfold paysD untsD
  walk_at "dlt"
  refine wS_while (fun m ρ' => ∃ (R : Int) (Bf : Option Int) (x7 x8 : Option Sl), ρ' = [some (.dat (.tup (.int 0 :: ns.map D.int))), some (.dat (.tup ((ns.map fun d => D.int (unitI ns d)) ++ [.int 0]))), some (.dat (.int (scaleN ns : Nat))), some (.dat (.tup (nums.map D.int))), some (.dat (.int lv)), some (.dat (.int R)), some (.dat (match Bf with | none => .non | some x => .int x)), x7, x8] ∧
    lv ≤ R ∧ (∀ M, lv ≤ M → Clo ns nums M → R ≤ M) ∧ (Bf = some R → Clo ns nums R) ∧ (m : Int) = 2 * (scaleN ns * X - R) + (if Bf = some R then 0 else 1)) ?_ fun m ρ' ⟨R, Bf, x7, x8, e, r1, r2, r3, r4⟩ => ?_
  · exact ⟨(2 * (scaleN ns * X - lv) + 1).toNat, lv, none, _, _, rfl, Int.le_refl _, fun M h _ => h, fun h => (by cases h), (by rw [if_neg nofun]; omega)⟩
  subst e
  have rX : R ≤ scaleN ns * X := r2 _ bX whole
  cases Bf with
  | none =>
    rw [if_neg nofun] at r4
    show wT _ _ [some (.dat (.tup (.int 0 :: ns.map D.int))), some (.dat (.tup ((ns.map fun d => D.int (unitI ns d)) ++ [.int 0]))), some (.dat (.int (scaleN ns : Nat))), some (.dat (.tup (nums.map D.int))), some (.dat (.int lv)), some (.dat (.int R)), some (.dat .non), x7, x8] _
    walk_at "dlt"
    refine neG_of .non .int ?_
    rw [show D.eqv .non (.int R) = false from rfl]
    walk_at "dlt"
    refine wS_forT D.int (fun i ρ' => ∃ (R' : Int) (x7 x8 : Option Sl), ρ' = [some (.dat (.tup (.int 0 :: ns.map D.int))), some (.dat (.tup ((ns.map fun d => D.int (unitI ns d)) ++ [.int 0]))), some (.dat (.int (scaleN ns : Nat))), some (.dat (.tup (nums.map D.int))), some (.dat (.int lv)), some (.dat (.int R')), some (.dat (.int R)), x7, x8] ∧ R ≤ R' ∧ (∀ M, lv ≤ M → Clo ns nums M → R' ≤ M) ∧ (R' = R → ∀ o ∈ nums.take i, stepI ns R o ≤ R)) (wI_any ?_)
    walk_at "dlt"
    refine ⟨_, rfl, nums, rfl, ⟨R, _, _, rfl, Int.le_refl _, r2, fun _ o ho => by cases ho⟩, fun i o ρ' hi ⟨R', x7, x8, e, s1, s2, s3⟩ => ?_, fun ρ' ⟨R', x7, x8, e, s1, s2, s3⟩ => ?_⟩
    · subst e
      have om := List.mem_of_getElem? hi
      have ob := hn o om
      have rX' : R' ≤ scaleN ns * X := s2 _ bX whole
      have nd := need_bd dv ob.1 ob.2 (show 0 ≤ R' by omega) rX' x0 x1
      have pb := pay_bd dv ob.1 ob.2
      have ee : -(-R' * payI ns o / (scaleN ns : Int)) = cdivI (R' * payI ns o) (scaleN ns) := by unfold cdivI; rw [Int.neg_mul]
      walk_at "dlt"
      refine ixG_t (pays_at ob.1 ob.2) ?_
      walk_at "dlt"
      refine fdivWG_i (cdivW sb.1 sb.2) ?_
      walk_at "dlt"
      refine ixG_t (unts_at ob.1 ob.2) ?_
      rw [ee]
      walk_at "dlt"
      refine ifD (fun hw => ?_) (fun hw => ?_)
      · walk_at "dlt"
        have hw : R' < stepI ns R' o := hw
        exact ⟨stepI ns R' o, _, _, rfl, by omega, fun M h1 h2 => Int.le_trans (step_mono dv ob.1 ob.2 (s2 M h1 h2)) (h2 o om), fun h => by omega⟩
      · walk_at "dlt"
        have hw : ¬ R' < stepI ns R' o := hw
        refine ⟨R', _, _, rfl, s1, s2, fun h o' ho' => ?_⟩
        rw [take_next hi] at ho'
        rcases List.mem_append.mp ho' with h1 | h1
        · exact s3 h o' h1
        · rw [List.mem_singleton.mp h1]
          rw [← h]
          omega
    · subst e
      rw [List.take_length] at s3
      have rX' : R' ≤ scaleN ns * X := s2 _ bX whole
      refine ⟨(2 * (scaleN ns * X - R') + (if some R = some R' then 0 else 1)).toNat, ?_, R', some R, _, _, rfl, by omega, s2, fun h => ?_, ?_⟩
      · split
        · rename_i h
          omega
        · rename_i h
          have : ¬ R = R' := fun e => h (by rw [e])
          omega
      · have h : R = R' := Option.some.inj h
        subst h
        exact s3 rfl
      · split <;> omega
  | some B =>
    show wT _ _ [some (.dat (.tup (.int 0 :: ns.map D.int))), some (.dat (.tup ((ns.map fun d => D.int (unitI ns d)) ++ [.int 0]))), some (.dat (.int (scaleN ns : Nat))), some (.dat (.tup (nums.map D.int))), some (.dat (.int lv)), some (.dat (.int R)), some (.dat (.int B)), x7, x8] _
    walk_at "dlt"
    refine ifND (fun hB => ?_) (fun hB => ?_)
    · walk_at "dlt"
      exact q R ⟨r1, r3 (by rw [hB]), r2⟩ rX
    rw [if_neg (fun e => hB (Option.some.inj e))] at r4
    walk_at "dlt"
    refine wS_forT D.int (fun i ρ' => ∃ (R' : Int) (x7 x8 : Option Sl), ρ' = [some (.dat (.tup (.int 0 :: ns.map D.int))), some (.dat (.tup ((ns.map fun d => D.int (unitI ns d)) ++ [.int 0]))), some (.dat (.int (scaleN ns : Nat))), some (.dat (.tup (nums.map D.int))), some (.dat (.int lv)), some (.dat (.int R')), some (.dat (.int R)), x7, x8] ∧ R ≤ R' ∧ (∀ M, lv ≤ M → Clo ns nums M → R' ≤ M) ∧ (R' = R → ∀ o ∈ nums.take i, stepI ns R o ≤ R)) (wI_any ?_)
    walk_at "dlt"
    refine ⟨_, rfl, nums, rfl, ⟨R, _, _, rfl, Int.le_refl _, r2, fun _ o ho => by cases ho⟩, fun i o ρ' hi ⟨R', x7, x8, e, s1, s2, s3⟩ => ?_, fun ρ' ⟨R', x7, x8, e, s1, s2, s3⟩ => ?_⟩
    · subst e
      have om := List.mem_of_getElem? hi
      have ob := hn o om
      have rX' : R' ≤ scaleN ns * X := s2 _ bX whole
      have nd := need_bd dv ob.1 ob.2 (show 0 ≤ R' by omega) rX' x0 x1
      have pb := pay_bd dv ob.1 ob.2
      have ee : -(-R' * payI ns o / (scaleN ns : Int)) = cdivI (R' * payI ns o) (scaleN ns) := by unfold cdivI; rw [Int.neg_mul]
      walk_at "dlt"
      refine ixG_t (pays_at ob.1 ob.2) ?_
      walk_at "dlt"
      refine fdivWG_i (cdivW sb.1 sb.2) ?_
      walk_at "dlt"
      refine ixG_t (unts_at ob.1 ob.2) ?_
      rw [ee]
      walk_at "dlt"
      refine ifD (fun hw => ?_) (fun hw => ?_)
      · walk_at "dlt"
        have hw : R' < stepI ns R' o := hw
        exact ⟨stepI ns R' o, _, _, rfl, by omega, fun M h1 h2 => Int.le_trans (step_mono dv ob.1 ob.2 (s2 M h1 h2)) (h2 o om), fun h => by omega⟩
      · walk_at "dlt"
        have hw : ¬ R' < stepI ns R' o := hw
        refine ⟨R', _, _, rfl, s1, s2, fun h o' ho' => ?_⟩
        rw [take_next hi] at ho'
        rcases List.mem_append.mp ho' with h1 | h1
        · exact s3 h o' h1
        · rw [List.mem_singleton.mp h1]
          rw [← h]
          omega
    · subst e
      rw [List.take_length] at s3
      have rX' : R' ≤ scaleN ns * X := s2 _ bX whole
      refine ⟨(2 * (scaleN ns * X - R') + (if some R = some R' then 0 else 1)).toNat, ?_, R', some R, _, _, rfl, by omega, s2, fun h => ?_, ?_⟩
      · split
        · rename_i h
          omega
        · rename_i h
          have : ¬ R = R' := fun e => h (by rw [e])
          omega
      · have h : R = R' := Option.some.inj h
        subst h
        exact s3 rfl
      · split <;> omega
end
/-! ### levels of tables, and what each party lacks -/
local macro_rules | `(tactic| walk_at "blk") => `(tactic| first | decide +kernel | rfl)
def needI (ns : List Int) (L o : Int) : Int := cdivI (L * payI ns o) (scaleN ns)
def lackI (ns : List Int) (L : Int) (z : Int × Int) : Int := if z.1 < needI ns L z.2 then needI ns L z.2 - z.1 else 0
structure IsLvl (ns : List Int) (zs : List (Int × Int)) (L : Int) : Prop where
  ge : ∀ z ∈ zs, z.1 * untI ns z.2 ≤ L
  clo : ∀ z ∈ zs, stepI ns L z.2 ≤ L
  least : ∀ M, (∀ z ∈ zs, z.1 * untI ns z.2 ≤ M) → (∀ z ∈ zs, stepI ns M z.2 ≤ M) → L ≤ M
theorem IsLvl.uniq {ns : List Int} {zs : List (Int × Int)} {L M : Int} (h1 : IsLvl ns zs L) (h2 : IsLvl ns zs M) : L = M := Int.le_antisymm (h1.least M h2.ge h2.clo) (h2.least L h1.ge h1.clo)
open Classical in
noncomputable def lvlN (ns : List Int) (zs : List (Int × Int)) : Int := if h : ∃ L, IsLvl ns zs L then h.choose else 0
theorem lvl_eq {ns : List Int} {zs : List (Int × Int)} {L : Int} (h : IsLvl ns zs L) : lvlN ns zs = L := by
  unfold lvlN
  rw [dif_pos ⟨L, h⟩]
  exact IsLvl.uniq (Exists.choose_spec (⟨L, h⟩ : ∃ L, IsLvl ns zs L)) h
theorem lvl_is {ns : List Int} {zs : List (Int × Int)} {L : Int} (h : IsLvl ns zs L) : IsLvl ns zs (lvlN ns zs) := by rw [lvl_eq h]; exact h
noncomputable def lacksN (ns cs t : List Int) : List Int := (cs.zip t).map (lackI ns (lvlN ns (cs.zip t)))
noncomputable def lvlE (ns cs t : List Int) : D := .tup [.int (lvlN ns (cs.zip t)), intsD (lacksN ns cs t)]
theorem set_lvl {ns cs t nums : List Int} {b L : Int} (h : IsSet ns b nums L) (hl : t.length = cs.length) (hm : ∀ k, k ∈ nums ↔ k ∈ t) (hb : ∃ z ∈ cs.zip t, z.1 * untI ns z.2 = b) (hg : ∀ z ∈ cs.zip t, z.1 * untI ns z.2 ≤ b) : IsLvl ns (cs.zip t) L := by
  have mt : ∀ z ∈ cs.zip t, z.2 ∈ nums := fun z hz => (hm _).mpr (List.of_mem_zip (a := z.1) (b := z.2) hz).2
  refine ⟨fun z hz => Int.le_trans (hg z hz) h.ge, fun z hz => h.clo _ (mt z hz), fun M h1 h2 => h.least M ?_ fun o ho => ?_⟩
  · obtain ⟨z, hz, e⟩ := hb
    rw [← e]
    exact h1 z hz
  · obtain ⟨i, hi⟩ := List.mem_iff_getElem?.mp ((hm o).mp ho)
    have hi2 : i < t.length := (List.getElem?_eq_some_iff.mp hi).1
    have hz : (cs.zip t)[i]? = some (cs[i], o) := by
      rw [List.getElem?_zip_eq_some]
      exact ⟨List.getElem?_eq_getElem (by omega), hi⟩
    exact h2 _ (List.mem_of_getElem? hz)
section
variable {P : Program} {w : World} {K : PySem.W.Frag} {mg : Str → Option Value} {base : Heap} {f C : Addr} {fd : FuncData}
def pairI (z : Int × Int) : D := .tup [.int z.1, .int z.2]
theorem zip_pairs : ∀ a b : List Int, zipD (a.map D.int) (b.map D.int) = (a.zip b).map pairI
  | [], _ => rfl
  | _ :: _, [] => rfl
  | c :: cs, x :: t => by
    have := zip_pairs cs t
    unfold zipD at this ⊢
    rw [List.map_cons, List.map_cons, List.zipWith_cons_cons, this]
    rfl
/-- the levels of one ballot's claims -/
def untL (ns : List Int) : List Int := ns.map (unitI ns) ++ [0]
theorem unt_list (ns : List Int) : (ns.map fun d => D.int (unitI ns d)) ++ [.int 0] = (untL ns).map D.int := by
  unfold untL
  rw [List.map_append, List.map_map]
  rfl
theorem untL_at {ns : List Int} {o : Int} (h0 : 0 ≤ o) (h1 : o ≤ ns.length) : (untL ns)[o.toNat]? = some (untI ns o) := by
  unfold untL untI
  by_cases h : o.toNat < ns.length
  · rw [if_pos (by omega), List.getElem?_append_left (by rw [List.length_map]; exact h), List.getElem?_map, List.getElem?_eq_getElem h]
    refine congrArg some (congrArg (unitI ns) ?_)
    exact (getD_of (List.getElem?_eq_getElem h)).symm
  · rw [if_neg (by omega), List.getElem?_append_right (by rw [List.length_map]; omega), List.length_map, show o.toNat - ns.length = 0 by omega]
    rfl
def rowC (ns : List Int) (c : Int) : D := .lst ((untL ns).map fun u => D.int (c * u))
/-- a row of claims with a number of seats -/
def rowE (ns : List Int) (z : Int × Int) : D := .tup [rowC ns z.1, .int z.2]
theorem zip_rows (ns : List Int) : ∀ cs t : List Int, zipD (cs.map (rowC ns)) (t.map D.int) = (cs.zip t).map (rowE ns)
  | [], _ => rfl
  | _ :: _, [] => rfl
  | c :: cs, x :: t => by
    have := zip_rows ns cs t
    unfold zipD at this ⊢
    rw [List.map_cons, List.map_cons, List.zipWith_cons_cons, this]
    rfl
theorem row_at {ns : List Int} {c o : Int} (h0 : 0 ≤ o) (h1 : o ≤ ns.length) : L2.atI ((untL ns).map fun u => D.int (c * u)) o = some (.int (c * untI ns o)) := by
  have := untL_at h0 h1
  rw [show o = ((o.toNat : Nat) : Int) by omega]
  refine L2.atI_nat ?_
  rw [List.getElem?_map, this, show ((o.toNat : Nat) : Int) = o by omega]
  rfl
structure LvlIn (ns cs : List Int) (Y : Int) (ts : List (List Int)) : Prop where
  d : DivOk ns
  l6 : cs.length ≤ 6
  l1 : 1 ≤ cs.length
  y : 0 ≤ Y ∧ Y ≤ 1000000000
  c : ∀ c ∈ cs, 0 ≤ c ∧ c ≤ Y
  n : ts.length ≤ 100000
  t : ∀ t ∈ ts, t.length = cs.length ∧ ∀ o ∈ t, 0 ≤ o ∧ o ≤ ns.length
def S_levels : DSp := fun ds Φ _ => ∃ (p : Bool) (ns cs : List Int) (Y : Int) (ts : List (List Int)), ds = [divsD ns, .tup (cs.map .int), seqD p (ts.map intsD)] ∧ LvlIn ns cs Y ts ∧ ((∀ t ∈ ts, IsLvl ns (cs.zip t) (lvlN ns (cs.zip t)) ∧ 0 ≤ lvlN ns (cs.zip t) ∧ lvlN ns (cs.zip t) ≤ scaleN ns * Y) → Φ (.lst (ts.map (lvlE ns cs))))
def paidD (ns nums : List Int) (L : Int) : D := .tup [.int L, .dik (nums.map fun o => (o, .int (needI ns L o)))]
theorem paid_look {ns : List Int} {L : Int} : ∀ {nums : List Int} {o : Int}, o ∈ nums → (nums.map fun o => (o, D.int (needI ns L o))).lookup o = some (.int (needI ns L o))
  | x :: nums, o, h => by
    rw [List.map_cons, List.lookup_cons]
    by_cases e : o = x
    · subst e; rw [beq_self_eq_true]
    · rw [beq_eq_false_iff_ne.mpr e]
      exact paid_look ((List.mem_cons.mp h).resolve_left e)
/-- what the dict holds -/
def Known (ns : List Int) (Y : Int) (l : List (Ky × D)) : Prop := ∀ k z, l.lookup k = some z → ∃ L, IsSet ns k.1 k.2 L ∧ L ≤ scaleN ns * Y ∧ z = paidD ns k.2 L
abbrev s_levels_and_lacks : Stmt := topS 69
abbrev N_levels_and_lacks : List Str := ["divisors", "counts", "tables", "scale", "pays", "units", "claims", "unit", "count", "known", "found", "table", "begun", "row", "own", "numbers", "key", "level", "paid", "lacks"]
theorem sc_levels_and_lacks : FnScope N_levels_and_lacks ["divisors", "counts", "tables"] (defScope s_levels_and_lacks) := ⟨rfl, rfl, rfl, by decide +kernel, rfl, by decide +kernel, by decide +kernel⟩
theorem ok_levels (F : FunX K "levels_and_lacks" "levels_and_lacks" s_levels_and_lacks f fd) (B : Blt mg) (n_sorted : mg "sorted" = none) (n_set : mg "set" = none) (c_scale_of : CallD P w K mg base "scale_of" 1 S_scale_of) (c_pays_of : CallD P w K mg base "pays_of" 1 S_pays_of) (c_units_of : CallD P w K mg base "units_of" 2 S_units_of) (c_settled : CallD P w K mg base "settled" 1 S_settled) : FnG P w K mg base 3 f fd ["divisors", "counts", "tables"] (lift K S_levels) := by
  refine fnX_of F sc_levels_and_lacks (fun ds Φ Ψ ⟨_, _, _, _, _, h, _⟩ => by rw [h]; rfl) fun cdv A outer s H E b => ⟨_, (pss_cons (ps_set (i := 3) sc_levels_and_lacks.nd rfl (by first | exact .inl rfl | exact .inr rfl) (k_cd K c_scale_of (by exact b.room) (by decide) b.pass (pa_cons (pv 0) pa_nil)))
 (pss_cons (ps_set (i := 4) sc_levels_and_lacks.nd rfl (by first | exact .inl rfl | exact .inr rfl) (k_cd K c_pays_of (by exact b.room) (by decide) b.pass (pa_cons (pv 0) pa_nil)))
 (pss_cons (ps_set (i := 5) sc_levels_and_lacks.nd rfl (by first | exact .inl rfl | exact .inr rfl) (k_cd K c_units_of (by exact b.room) (by decide) b.pass (pa_cons (pv 0) pa_nil)))
 (pss_cons (ps_setLc (i := 6) (own := [("count", 8)]) rfl sc_levels_and_lacks.nd rfl rfl (sw_true rfl rfl rfl (by decide +kernel)) (k_any K (pv 1)) (blkOk_by (own := [("count", 8)]) (N := N_levels_and_lacks) (sc := defScope s_levels_and_lacks) (by decide +kernel))  (fun _ _ _ _ _ => (pg_name (i := 8) sc_levels_and_lacks.nd rfl (by first | exact .inl rfl | exact .inr rfl))) (fun _ _ _ _ _ => pts_nil) (fun _ _ _ _ _ => (pe_lc (own := [("unit", 7)]) rfl sc_levels_and_lacks.nd (k_any K (pv 5)) (blkOk_by (own := [("unit", 7)]) (N := N_levels_and_lacks) (sc := _) (by walk_at "blk"))  (fun _ _ _ _ _ => (pg_name (i := 7) sc_levels_and_lacks.nd rfl (by first | exact .inl rfl | exact .inr rfl))) (fun _ _ _ _ _ => pts_nil) (fun _ _ _ _ _ => (pe_op opr_mul (pv 8) (pv 7))))))
 (pss_cons (ps_set (i := 9) sc_levels_and_lacks.nd rfl (by first | exact .inl rfl | exact .inr rfl) pe_dnewN)
 (pss_cons (ps_set (i := 10) sc_levels_and_lacks.nd rfl (by first | exact .inl rfl | exact .inr rfl) (pe_lst pa_nil))
 (pss_cons (ps_for b.own rfl (k_any K (pv 2)) (pg_name (i := 11) sc_levels_and_lacks.nd rfl (by first | exact .inl rfl | exact .inr rfl)) (pss_cons (ps_set (i := 12) sc_levels_and_lacks.nd rfl (by first | exact .inl rfl | exact .inr rfl) (pe_callB (k_maxL K rfl) (by rfl) B.max bb_max (pa_cons (pe_lc (own := [("row", 13), ("own", 14)]) rfl sc_levels_and_lacks.nd (k_zipK K (by rfl) B.zip (pa_cons (pv 6) (pa_cons (pv 11) pa_nil))) (blkOk_by (own := [("row", 13), ("own", 14)]) (N := N_levels_and_lacks) (sc := defScope s_levels_and_lacks) (by decide +kernel))  (fun _ _ _ _ _ => (k_pg K (n := 2) rfl (pgs_cons (pg_name (i := 13) sc_levels_and_lacks.nd rfl (by first | exact .inl rfl | exact .inr rfl)) (pgs_cons (pg_name (i := 14) sc_levels_and_lacks.nd rfl (by first | exact .inl rfl | exact .inr rfl)) pgs_nil)))) (fun _ _ _ _ _ => pts_nil) (fun _ _ _ _ _ => (pe_ix (k_ix K) (pv 13) (pv 14) (fun _ _ => rfl)))) pa_nil)))
 (pss_cons (ps_set (i := 15) sc_levels_and_lacks.nd rfl (by first | exact .inl rfl | exact .inr rfl) (pe_callTy (k_tup K) (by rfl) B.tuple bb_tuple (pa_cons (pe_callB (cr_sortedSet rfl) (by rfl) n_sorted bb_sorted (pa_cons (pe_callTy (k_setTu K rfl) (by rfl) n_set bb_set (pa_cons (pv 11) pa_nil)) pa_nil)) pa_nil)))
 (pss_cons (ps_set (i := 16) sc_levels_and_lacks.nd rfl (by first | exact .inl rfl | exact .inr rfl) (pe_tup (pa_cons (pv 12) (pa_cons (pv 15) pa_nil))))
 (pss_cons (ps_if (pt_cmpR (k_kdNot K (by exact b.room)) (pv 16) (pv 9) (by with_unfolding_all rfl)) (pss_cons (ps_set (i := 17) sc_levels_and_lacks.nd rfl (by first | exact .inl rfl | exact .inr rfl) (k_cd K c_settled (by exact b.room) (by decide) b.pass (pa_cons (pv 4) (pa_cons (pv 5) (pa_cons (pv 3) (pa_cons (pv 15) (pa_cons (pv 12) pa_nil)))))))
 (pss_one (ps_asg (pe_tup (pa_cons (pv 17) (pa_cons (pe_dc (own := [("own", 14)]) rfl sc_levels_and_lacks.nd (k_any K (pv 15)) (blkOk_by (own := [("own", 14)]) (N := N_levels_and_lacks) (sc := defScope s_levels_and_lacks) (by decide +kernel)) (fun _ _ _ _ _ => (pg_name (i := 14) sc_levels_and_lacks.nd rfl (by first | exact .inl rfl | exact .inr rfl))) (fun _ _ _ _ _ => pts_nil) (fun _ _ _ _ _ => (pv 14)) (fun _ _ _ _ _ => (pe_un un_neg (pe_op op_fdivW (pe_op opr_mul (pe_un un_neg (pv 17)) (pe_ix (k_ix K) (pv 4) (pv 14) (fun _ _ => rfl))) (pv 3))))) pa_nil))) (pg_sub (pv 9) (pv 16) (k_setKd K (by exact b.room)))))) pss_nil)
 (pss_cons (ps_asg (k_kdGet K (by exact b.room) (pv 9) (pv 16) (fun _ _ => rfl)) (k_pg K (n := 2) rfl (pgs_cons (pg_name (i := 17) sc_levels_and_lacks.nd rfl (by first | exact .inl rfl | exact .inr rfl)) (pgs_cons (pg_name (i := 18) sc_levels_and_lacks.nd rfl (by first | exact .inl rfl | exact .inr rfl)) pgs_nil))))
 (pss_cons (ps_setLc (i := 19) (own := [("count", 8), ("own", 14)]) rfl sc_levels_and_lacks.nd rfl rfl (sw_true rfl rfl rfl (by decide +kernel)) (k_zip K (by rfl) B.zip (pa_cons (pv 1) (pa_cons (pv 11) pa_nil))) (blkOk_by (own := [("count", 8), ("own", 14)]) (N := N_levels_and_lacks) (sc := defScope s_levels_and_lacks) (by decide +kernel))  (fun _ _ _ _ _ => (k_pg K (n := 2) rfl (pgs_cons (pg_name (i := 8) sc_levels_and_lacks.nd rfl (by first | exact .inl rfl | exact .inr rfl)) (pgs_cons (pg_name (i := 14) sc_levels_and_lacks.nd rfl (by first | exact .inl rfl | exact .inr rfl)) pgs_nil)))) (fun _ _ _ _ _ => pts_nil) (fun _ _ _ _ _ => (pe_ifExp (pt_cmpR op_gt (pe_dget (hu2 (by exact b.room)) (pv 18) (pv 14) (fun _ _ => rfl)) (pv 8) (nomark _)) (pe_op op_sub (pe_dget (hu2 (by exact b.room)) (pv 18) (pv 14) (fun _ _ => rfl)) (pv 8)) pe_int)))
 (pss_one (ps_expr (k_bm K PySem.F.plainAttrs_list PySem.F.slot_list_append PySem.F.type_list_append mt_append (pv 10) (pa_cons (pe_tup (pa_cons (pv 17) (pa_cons (pe_callTy (k_tup K) (by rfl) B.tuple bb_tuple (pa_cons (pv 19) pa_nil)) pa_nil))) pa_nil)))))))))))
 (pss_one (ps_ret (pv 10)))))))))), fun ds Φ Ψ ⟨p, ns, cs, Y, ts, h, hi, q⟩ => ?_⟩
  subst h
  show wS _ _ _ [some (.dat _), some (.dat _), some (.dat _), none, none, none, none, none, none, none, none, none, none, none, none, none, none, none, none, none]
  have dv := hi.d
  have d2 := dv.l2
  have c6 := hi.l6
  have c1 := hi.l1
  have sp := scale_pos dv
  have sb := scale_big dv
  walk_at "dlt"
  refine ⟨ns, rfl, dv, ?_⟩
  walk_at "dlt"
  refine ⟨ns, rfl, d2, ?_⟩
  walk_at "dlt"
  refine ⟨ns, rfl, dv, ?_⟩
  walk_at "dlt"
  rw [unt_list]
  refine wE_lcM (only_name (by simp)) D.int (rowC ns) (wI_any ?_)
  walk_at "dlt"
  refine ⟨_, rfl, cs, rfl, by omega, fun c hcm => ?_, ?_⟩
  · have cb := hi.c c hcm
    have yb := hi.y
    walk_at "dlt"
    refine wE_lcM (only_name (by simp)) D.int (fun u => .int (c * u)) (wI_any ?_)
    walk_at "dlt"
    refine ⟨_, rfl, untL ns, rfl, by unfold untL; rw [List.length_append, List.length_map]; simp; omega, fun u hu => ?_, ?_⟩
    · walk_at "dlt"
      rfl
    rfl
  walk_at "dlt"
  intro pk0
  walk_at "dlt"
  show wS _ _ _ [some (.dat (divsD ns)), some (.dat (.tup (cs.map D.int))), some (.dat (seqD p (ts.map intsD))), some (.dat (.int (scaleN ns : Nat))), some (.dat (paysD ns)), some (.dat (.tup ((untL ns).map D.int))), some (.dat (.lst (cs.map (rowC ns)))), none, none, some (.own (some pk0) (.kd P w pk0 [])), some (.own none (.lst [])), none, none, none, none, none, none, none, none, none]
  refine wS_forT intsD (fun i ρ' => ∃ (pk : Addr) (l : List (Ky × D)) (x11 x12 x13 x14 x15 x16 x17 x18 x19 : Option Sl), ρ' = [some (.dat (divsD ns)), some (.dat (.tup (cs.map D.int))), some (.dat (seqD p (ts.map intsD))), some (.dat (.int (scaleN ns : Nat))), some (.dat (paysD ns)), some (.dat (.tup ((untL ns).map D.int))), some (.dat (.lst (cs.map (rowC ns)))), none, none, some (.own (some pk) (.kd P w pk l)), some (.own none (.lst ((ts.take i).map (lvlE ns cs)))), x11, x12, x13, x14, x15, x16, x17, x18, x19] ∧ l.length ≤ i ∧ Known ns Y l ∧ ∀ t ∈ ts.take i, IsLvl ns (cs.zip t) (lvlN ns (cs.zip t)) ∧ 0 ≤ lvlN ns (cs.zip t) ∧ lvlN ns (cs.zip t) ≤ scaleN ns * Y) (wI_any ?_)
  walk_at "dlt"
  refine ⟨ts.map intsD, by cases p <;> rfl, ts, rfl, ⟨pk0, [], none, none, none, none, none, none, none, none, none, rfl, Nat.le_refl _, (fun k z h => by cases h), (fun t h => by cases h)⟩, fun i t ρ' ht ⟨pk, l, x11, x12, x13, x14, x15, x16, x17, x18, x19, e, h1, h2, h3⟩ => ?_, fun ρ' ⟨pk, l, x11, x12, x13, x14, x15, x16, x17, x18, x19, e, h1, h2, h3⟩ => ?_⟩
  · subst e
    have tm := List.mem_of_getElem? ht
    obtain ⟨tl, tb⟩ := hi.t t tm
    walk_at "dlt"
    refine wE_lcM (only_pair (by simp) (by simp)) (rowE ns) (fun z => .int (z.1 * untI ns z.2)) (wI_zipLT ?_)
    walk_at "dlt"
    refine ⟨_, _, rfl, cs.zip t, zip_rows ns cs t, by rw [List.length_zip]; omega, fun z hz => ?_, ?_⟩
    · obtain ⟨z1, z2⟩ := List.of_mem_zip (a := z.1) (b := z.2) hz
      have ob := tb _ z2
      unfold rowE rowC
      walk_at "dlt"
      refine ixG_l (row_at ob.1 ob.2) ?_
      rfl
    walk_at "dlt"
    have zl : (cs.zip t).length = cs.length := by rw [List.length_zip]; omega
    rw [show (cs.zip t).map (fun z => D.int (z.1 * untI ns z.2)) = ((cs.zip t).map fun z => z.1 * untI ns z.2).map D.int by rw [List.map_map]; rfl]
    refine maxLG_i (by rw [List.length_map]; omega) fun m hm hmx => ?_
    obtain ⟨z0, hz0, e0⟩ := List.mem_map.mp hm
    have hmax : ∀ z ∈ cs.zip t, z.1 * untI ns z.2 ≤ m := fun z hz => hmx _ (List.mem_map.mpr ⟨z, hz, rfl⟩)
    obtain ⟨y1, y2⟩ := List.of_mem_zip (a := z0.1) (b := z0.2) hz0
    have cb := hi.c _ y1
    have ub := unt_bd dv (tb _ y2).1
    have m0 : 0 ≤ m := by rw [← e0]; exact Int.mul_nonneg cb.1 ub.1
    have mY : m ≤ scaleN ns * Y := by
      rw [← e0, Int.mul_comm]
      exact Int.mul_le_mul ub.2 cb.2 cb.1 (by omega)
    walk_at "dlt"
    have tl6 : t.length ≤ 6 := by omega
    refine ⟨t, rfl, by omega, fun k hk => by have := tb k hk; omega, fun nums np nm => ?_⟩
    walk_at "dlt"
    have nb : ∀ o ∈ nums, 0 ≤ o ∧ o ≤ ns.length := fun o ho => tb o ((nm o).mp ho)
    have nl : nums.length ≤ 100 := by
      have := few_nodup 60 nums (List.nodup_iff_pairwise_ne.mpr (np.imp fun h => by omega)) fun k hk => by have := nb k hk; omega
      omega
    have untE : untsD ns = .tup ((untL ns).map D.int) := by unfold untsD; rw [unt_list]
    refine ⟨((m, nums) : Ky), pk, l, rfl, rfl, !(l.lookup ((m, nums) : Ky)).isSome, rfl, ?_⟩
    rw [show (!(l.lookup ((m, nums) : Ky)).isSome) = decide (l.lookup ((m, nums) : Ky) = none) by cases l.lookup ((m, nums) : Ky) <;> rfl]
    have yb := hi.y
    have ilt := (List.getElem?_eq_some_iff.mp ht).1
    have tn := hi.n
    refine wS_ifThen (fun ρ' => ∃ (l' : List (Ky × D)) (L : Int) (x14 x17 x18 : Option Sl), ρ' = [some (.dat (divsD ns)), some (.dat (.tup (cs.map D.int))), some (.dat (seqD p (ts.map intsD))), some (.dat (.int (scaleN ns : Nat))), some (.dat (paysD ns)), some (.dat (.tup ((untL ns).map D.int))), some (.dat (.lst (cs.map (rowC ns)))), none, none, some (.own (some pk) (.kd P w pk l')), some (.own none (.lst ((ts.take i).map (lvlE ns cs)))), some (.dat (intsD t)), some (.dat (.int m)), x13, x14, some (.dat (.tup (nums.map D.int))), some (.dat (.tup [.int m, .tup (nums.map D.int)])), x17, x18, x19] ∧ l'.length ≤ i + 1 ∧ Known ns Y l' ∧ l'.lookup ((m, nums) : Ky) = some (paidD ns nums L) ∧ IsSet ns m nums L ∧ L ≤ scaleN ns * Y) (fun hn => ?_) (fun hn => ?_) fun ρ' ⟨l', L, y14, y17, y18, e, g1, g2, g3, g4, g5⟩ => ?_
    · walk_at "dlt"
      refine ⟨ns, nums, m, Y, by rw [untE], dv, nl, nb, m0, mY, yb.1, yb.2, fun L hs hL => ?_⟩
      walk_at "dlt"
      have L0 : 0 ≤ L := by have := hs.ge; omega
      unfold paysD
      refine wE_dcM (only_name (by simp)) D.int id (fun o => .int (needI ns L o)) (wI_any ?_)
      walk_at "dlt"
      refine ⟨_, rfl, nums, rfl, by omega, (by rw [List.map_id]; exact np.imp fun h => by omega), fun o ho => ?_, ?_⟩
      · have ob := nb o ho
        have pb := pay_bd dv ob.1 ob.2
        have ee : -(-L * payI ns o / (scaleN ns : Int)) = needI ns L o := by unfold needI cdivI; rw [Int.neg_mul]
        walk_at "dlt"
        refine ixG_t (pays_at ob.1 ob.2) ?_
        walk_at "dlt"
        refine fdivWG_i (cdivW sb.1 sb.2) ?_
        walk_at "dlt"
        exact congrArg D.int ee
      walk_at "dlt"
      refine wG_kdSet rfl ⟨_, rfl⟩ ⟨_, _, rfl⟩ ?_
      walk_at "dlt"
      refine ⟨((m, nums) : Ky), pk, l, rfl, rfl, hn, by omega, ?_⟩
      refine ⟨l ++ [(((m, nums) : Ky), paidD ns nums L)], L, _, _, _, rfl, by rw [List.length_append]; simp; omega, fun k z hz => ?_, ?_, hs, hL⟩
      · rw [List.lookup_append] at hz
        cases hl : l.lookup k with
        | some y =>
          rw [hl] at hz
          exact h2 k z (by rw [hl]; exact hz)
        | none =>
          rw [hl] at hz
          by_cases e : k = ((m, nums) : Ky)
          · subst e
            rw [show List.lookup ((m, nums) : Ky) [(((m, nums) : Ky), paidD ns nums L)] = some (paidD ns nums L) by rw [List.lookup_cons, beq_self_eq_true]] at hz
            cases hz
            exact ⟨L, hs, hL, rfl⟩
          · rw [show List.lookup k [(((m, nums) : Ky), paidD ns nums L)] = none by rw [List.lookup_cons, beq_eq_false_iff_ne.mpr e]; rfl] at hz
            cases hz
      · rw [List.lookup_append, hn, List.lookup_cons, beq_self_eq_true]
        rfl
    · cases hl : l.lookup ((m, nums) : Ky) with
      | none => exact absurd hl hn
      | some z =>
        obtain ⟨L, hs, hL, rfl⟩ := h2 _ _ hl
        exact ⟨l, L, _, _, _, rfl, by omega, h2, hl, hs, hL⟩
    subst e
    have il := set_lvl g4 tl nm ⟨z0, hz0, e0⟩ hmax
    have eL := lvl_eq il
    have L0 : 0 ≤ L := by have := g4.ge; omega
    walk_at "dlt"
    refine ⟨((m, nums) : Ky), pk, l', _, rfl, rfl, g3, ?_⟩
    unfold paidD
    walk_at "dlt"
    refine wE_lcM (only_pair (by simp) (by simp)) pairI (fun z => .int (lackI ns L z)) (wI_zipT ?_)
    unfold intsD
    walk_at "dlt"
    refine ⟨_, _, rfl, cs.zip t, zip_pairs cs t, by omega, fun z hz => ?_, ?_⟩
    · obtain ⟨z1, z2⟩ := List.of_mem_zip (a := z.1) (b := z.2) hz
      have look := paid_look (ns := ns) (L := L) ((nm z.2).mpr z2)
      unfold pairI
      walk_at "dlt"
      refine ⟨_, _, _, rfl, rfl, look, ?_⟩
      walk_at "dlt"
      refine ifD (fun hlt => ?_) (fun hlt => ?_)
      · walk_at "dlt"
        refine ⟨_, _, _, rfl, rfl, look, ?_⟩
        walk_at "dlt"
        unfold lackI
        rw [if_pos (by omega)]
      · walk_at "dlt"
        unfold lackI
        rw [if_neg (by omega)]
    walk_at "dlt"
    refine ⟨_, _, rfl, by rw [List.length_map, List.length_take]; have := hi.n; omega, ?_⟩
    have eE : lvlE ns cs t = .tup [.int L, .tup ((cs.zip t).map fun z => .int (lackI ns L z))] := by
      unfold lvlE lacksN intsD
      rw [eL, List.map_map]
      rfl
    have eT : (ts.take (i + 1)).map (lvlE ns cs) = (ts.take i).map (lvlE ns cs) ++ [.tup [.int L, .tup ((cs.zip t).map fun z => .int (lackI ns L z))]] := by rw [take_next ht, List.map_append, List.map_singleton, eE]
    rw [eT]
    refine ⟨pk, l', _, _, _, _, _, _, _, _, _, rfl, g1, g2, ?_⟩
    · intro t' ht'
      rw [take_next ht] at ht'
      rcases List.mem_append.mp ht' with h4 | h4
      · exact h3 t' h4
      · rw [List.mem_singleton.mp h4, eL]
        exact ⟨il, L0, g5⟩
  · subst e
    rw [List.take_length] at h3
    walk_at "dlt"
    rw [List.take_length]
    exact q h3
end
/-! ### results by swaps, as the law looks at them -/
theorem ifq_no {b : Bool} {A B : Prop} (h : b = false) (q : B) : if b = true then A else B := by rw [h, if_neg Bool.false_ne_true]; exact q
def swapB (ns : List Int) (x y : Int × Int) : Bool := decide (0 < x.2) && decide (y.2 < (ns.length : Int)) && decide (x.1 * payI ns (y.2 + 1) < y.1 * payI ns x.2)
def isRes (ns : List Int) (l : List (Int × Int)) : Bool := l.all fun x => l.all fun y => !swapB ns x y
theorem res_iff {ns : List Int} {l : List (Int × Int)} : isRes ns l = true ↔ ∀ x ∈ l, ∀ y ∈ l, 0 < x.2 → y.2 < (ns.length : Int) → y.1 * payI ns x.2 ≤ x.1 * payI ns (y.2 + 1) := by
  unfold isRes swapB
  simp only [List.all_eq_true, Bool.not_eq_true', Bool.and_eq_false_iff, decide_eq_false_iff_not]
  constructor
  · intro h x hx y hy h1 h2
    rcases h x hx y hy with (h3 | h3) | h3
    · exact absurd h1 h3
    · exact absurd h2 h3
    · omega
  · intro h x hx y hy
    by_cases h1 : 0 < x.2
    · by_cases h2 : y.2 < (ns.length : Int)
      · exact .inr (by have := h x hx y hy h1 h2; omega)
      · exact .inl (.inr h2)
    · exact .inl (.inl h1)
theorem pay_mem {ns : List Int} {o : Int} (h0 : 0 < o) (h1 : o ≤ ns.length) : payI ns o ∈ ns := by
  unfold payI
  rw [if_neg (by omega)]
  have hl : (o - 1).toNat < ns.length := by omega
  rw [getD_of (List.getElem?_eq_getElem hl)]
  exact List.getElem_mem hl
theorem unt_pay {ns : List Int} {o : Int} (h0 : 0 ≤ o) (h1 : o < ns.length) : untI ns o = unitI ns (payI ns (o + 1)) := by
  unfold untI payI
  rw [if_pos h1, if_neg (by omega), show o + 1 - 1 = o by omega]
theorem unt_end {ns : List Int} {o : Int} (h1 : ¬ o < ns.length) : untI ns o = 0 := by
  unfold untI
  rw [if_neg h1]
theorem need_le {ns : List Int} (dv : DivOk ns) {L o n : Int} (h0 : 0 ≤ o) (h1 : o ≤ ns.length) (hn : 0 ≤ n) (h : 0 < o → L ≤ n * unitI ns (payI ns o)) : needI ns L o ≤ n := by
  have sp := scale_pos dv
  unfold needI
  refine (cdiv_le sp).mpr ?_
  by_cases ho : 0 < o
  · have um := unit_mul dv (pay_mem ho h1)
    have pb := pay_bd dv h0 h1
    have := Int.mul_le_mul_of_nonneg_right (h ho) pb.1
    rw [Int.mul_assoc, um] at this
    exact this
  · have e : payI ns o = 0 := by unfold payI; rw [if_pos (by omega)]
    rw [e, Int.mul_zero]
    exact Int.mul_nonneg hn (by omega)
theorem need_ge {ns : List Int} (dv : DivOk ns) {L o n : Int} (h0 : 0 < o) (h1 : o ≤ ns.length) (h : needI ns L o ≤ n) : L ≤ n * unitI ns (payI ns o) := by
  have sp := scale_pos dv
  have pm := pay_mem h0 h1
  have um := unit_mul dv pm
  have pb := dv.b _ pm
  unfold needI at h
  have h2 := (cdiv_le sp).mp h
  rw [← um, ← Int.mul_assoc] at h2
  exact Int.le_of_mul_le_mul_right h2 (by omega)
theorem lack_add {ns : List Int} {L : Int} {z : Int × Int} : (needI ns L z.2 ≤ z.1 + lackI ns L z) ∧ 0 ≤ lackI ns L z ∧ (z.1 + lackI ns L z = z.1 ∨ z.1 + lackI ns L z = needI ns L z.2) := by
  unfold lackI
  split <;> omega
structure LvlZ (ns : List Int) (zs : List (Int × Int)) : Prop where
  d : DivOk ns
  z : ∀ z ∈ zs, 0 ≤ z.1 ∧ 0 ≤ z.2 ∧ z.2 ≤ ns.length
/-- with what they lack, no seat moves -/
theorem due_res {ns : List Int} {zs : List (Int × Int)} {L : Int} (hz : LvlZ ns zs) (h : IsLvl ns zs L) : isRes ns (zs.map fun z => (z.1 + lackI ns L z, z.2)) = true := by
  have dv := hz.d
  refine res_iff.mpr fun x hx y hy h1 h2 => ?_
  obtain ⟨x, xm, rfl⟩ := List.mem_map.mp hx
  obtain ⟨y, ym, rfl⟩ := List.mem_map.mp hy
  obtain ⟨x1, x2, x3⟩ := hz.z x xm
  obtain ⟨y1, y2, y3⟩ := hz.z y ym
  have h1 : 0 < x.2 := h1
  have h2 : y.2 < (ns.length : Int) := h2
  show (y.1 + lackI ns L y) * payI ns x.2 ≤ (x.1 + lackI ns L x) * payI ns (y.2 + 1)
  refine (claim_le dv (pay_mem (by omega) (by omega)) (pay_mem h1 x3)).mp ?_
  have a := need_ge dv h1 x3 (lack_add (ns := ns) (L := L) (z := x)).1
  refine Int.le_trans ?_ a
  rw [← unt_pay y2 h2]
  rcases (lack_add (ns := ns) (L := L) (z := y)).2.2 with e | e
  · rw [e]; exact h.ge y ym
  · rw [e]; exact h.clo y ym
/-- fewer do not make it a result -/
theorem gift_ge {ns : List Int} {l : List ((Int × Int) × Int)} {L : Int} (dv : DivOk ns) (hl : ∀ x ∈ l, 0 ≤ x.1.1 ∧ 0 ≤ x.1.2 ∧ 0 ≤ x.2 ∧ x.2 ≤ ns.length) (h : IsLvl ns (l.map fun x => (x.1.1, x.2)) L) (hr : isRes ns (l.map fun x => (x.1.1 + x.1.2, x.2)) = true) : ∀ x ∈ l, lackI ns L (x.1.1, x.2) ≤ x.1.2 := by
  intro x0 hx0
  rw [res_iff] at hr
  obtain ⟨m, hm, hmax⟩ : ∃ m ∈ l, ∀ x ∈ l, (x.1.1 + x.1.2) * untI ns x.2 ≤ (m.1.1 + m.1.2) * untI ns m.2 := by
    have : ∀ l : List ((Int × Int) × Int), l ≠ [] → ∃ m ∈ l, ∀ x ∈ l, (x.1.1 + x.1.2) * untI ns x.2 ≤ (m.1.1 + m.1.2) * untI ns m.2 := by
      intro l
      induction l with
      | nil => intro h; exact absurd rfl h
      | cons a l ih =>
        intro _
        by_cases e : l = []
        · subst e
          exact ⟨a, List.mem_cons_self, fun x hx => by rw [List.mem_singleton.mp hx]; exact Int.le_refl _⟩
        · obtain ⟨m, hm, hx⟩ := ih e
          by_cases c : (m.1.1 + m.1.2) * untI ns m.2 ≤ (a.1.1 + a.1.2) * untI ns a.2
          · refine ⟨a, List.mem_cons_self, fun x hxm => ?_⟩
            rcases List.mem_cons.mp hxm with rfl | hxm
            · exact Int.le_refl _
            · exact Int.le_trans (hx x hxm) c
          · refine ⟨m, List.mem_cons_of_mem _ hm, fun x hxm => ?_⟩
            rcases List.mem_cons.mp hxm with rfl | hxm
            · omega
            · exact hx x hxm
    exact this l (fun e => by rw [e] at hx0; cases hx0)
  generalize hM : (m.1.1 + m.1.2) * untI ns m.2 = M at hmax
  obtain ⟨m1, m2, m3, m4⟩ := hl m hm
  have le : ∀ x ∈ l, 0 < x.2 → M ≤ (x.1.1 + x.1.2) * unitI ns (payI ns x.2) := fun x hx hx0 => by
    obtain ⟨x1, x2, x3, x4⟩ := hl x hx
    by_cases e : m.2 < ns.length
    · rw [← hM, unt_pay m3 e]
      refine (claim_le dv (pay_mem (by omega) (by omega)) (pay_mem hx0 x4)).mpr ?_
      exact hr _ (List.mem_map.mpr ⟨x, hx, rfl⟩) _ (List.mem_map.mpr ⟨m, hm, rfl⟩) hx0 e
    · rw [← hM, unt_end e, Int.mul_zero]
      have := dv.b _ (pay_mem hx0 x4)
      unfold unitI
      exact Int.mul_nonneg (by omega) (Int.ediv_nonneg (by omega) (by omega))
  have nd : ∀ x ∈ l, needI ns M x.2 ≤ x.1.1 + x.1.2 := fun x hx => by
    obtain ⟨x1, x2, x3, x4⟩ := hl x hx
    exact need_le dv x3 x4 (by omega) (le x hx)
  have LM : L ≤ M := by
    refine h.least M (fun z hz => ?_) fun z hz => ?_
    · obtain ⟨x, hx, rfl⟩ := List.mem_map.mp hz
      obtain ⟨x1, x2, x3, x4⟩ := hl x hx
      refine Int.le_trans ?_ (hmax x hx)
      exact Int.mul_le_mul_of_nonneg_right (by show x.1.1 ≤ _; omega) (unt_bd dv x3).1
    · obtain ⟨x, hx, rfl⟩ := List.mem_map.mp hz
      obtain ⟨x1, x2, x3, x4⟩ := hl x hx
      refine Int.le_trans ?_ (hmax x hx)
      exact Int.mul_le_mul_of_nonneg_right (nd x hx) (unt_bd dv x3).1
  obtain ⟨x1, x2, x3, x4⟩ := hl x0 hx0
  have mono : needI ns L x0.2 ≤ needI ns M x0.2 := by
    unfold needI
    exact cdiv_mono (scale_pos dv) (Int.mul_le_mul_of_nonneg_right LM (pay_bd dv x3 x4).1)
  have := nd x0 hx0
  unfold lackI
  split
  · show needI ns L x0.2 - x0.1.1 ≤ _
    omega
  · exact x2
/-! zips -/
theorem zip_due {F : Int × Int → Int} : ∀ cs t : List Int, (cs.zip ((cs.zip t).map F)).map (fun p => p.1 + p.2) = (cs.zip t).map fun z => z.1 + F z
  | [], _ => rfl
  | _ :: _, [] => rfl
  | c :: cs, x :: t => by
    have := zip_due (F := F) cs t
    rw [List.zip_cons_cons, List.map_cons, List.zip_cons_cons, List.map_cons, this]
    rfl
theorem zip_map2 {G : Int × Int → Int} : ∀ cs t : List Int, ((cs.zip t).map G).zip t = (cs.zip t).map fun z => (G z, z.2)
  | [], _ => rfl
  | _ :: _, [] => rfl
  | c :: cs, x :: t => by
    have := zip_map2 (G := G) cs t
    rw [List.zip_cons_cons, List.map_cons, List.zip_cons_cons, this]
    rfl
theorem zip_tri : ∀ {cs g t : List Int}, g.length = cs.length → t.length = cs.length → ((cs.zip g).zip t).map (fun x => (x.1.1, x.2)) = cs.zip t ∧ ((cs.zip g).zip t).map (fun x => (x.1.1 + x.1.2, x.2)) = ((cs.zip g).map fun p => p.1 + p.2).zip t ∧ ((cs.zip g).zip t).map (fun x => x.1.2) = g
  | [], [], [], _, _ => ⟨rfl, rfl, rfl⟩
  | c :: cs, y :: g, x :: t, h1, h2 => by
    obtain ⟨i1, i2, i3⟩ := zip_tri (cs := cs) (g := g) (t := t) (by simpa using h1) (by simpa using h2)
    refine ⟨?_, ?_, ?_⟩
    · rw [List.zip_cons_cons, List.zip_cons_cons, List.map_cons, i1]; rfl
    · rw [List.zip_cons_cons, List.zip_cons_cons, List.map_cons, i2]; rfl
    · rw [List.zip_cons_cons, List.zip_cons_cons, List.map_cons, i3]
/-! ### the least price, needs, distance -/
section
variable {P : Program} {w : World} {K : PySem.W.Frag} {mg : Str → Option Value} {base : Heap} {f C : Addr} {fd : FuncData}
/-- a table of a night -/
structure TabIn (t : Tri) (xs : List Int) : Prop where
  ok : TriOk t
  l : xs.length = t.2.1.length
  b : ∀ x ∈ xs, 0 ≤ x
  s : xs.sum = (t.1.length : Int)
theorem cnt_len (t : Tri) : (countsN t).length = t.2.1.length := by unfold countsN; rw [List.length_map]
abbrev zsN (t : Tri) (l : List Int) : List (Int × Int) := (countsN t).zip l
noncomputable abbrev lvlT (t : Tri) (l : List Int) : Int := lvlN t.1 (zsN t l)
structure LvlOk (t : Tri) (l : List Int) : Prop where
  is : IsLvl t.1 (zsN t l) (lvlT t l)
  nn : 0 ≤ lvlT t l
  le : lvlT t l ≤ scaleN t.1 * 1000000
theorem tab_le {t : Tri} {l : List Int} (h : TabIn t l) : ∀ o ∈ l, 0 ≤ o ∧ o ≤ t.1.length := fun o ho => by
  have := sumI_le h.b o ho
  have := h.s
  exact ⟨h.b o ho, by omega⟩
theorem counts_bd {t : Tri} (h : TriOk t) : ∀ c ∈ countsN t, 0 ≤ c ∧ c ≤ 1000000 := fun c hc => by
  obtain ⟨x, hx, rfl⟩ := List.mem_map.mp hc
  have := h.f.b x hx
  omega
theorem tab_lvlz {t : Tri} {l : List Int} (h : TabIn t l) : LvlZ t.1 (zsN t l) := ⟨h.ok.d, fun z hz => by
  obtain ⟨z1, z2⟩ := List.of_mem_zip (a := z.1) (b := z.2) hz
  have := counts_bd h.ok _ z1
  have := tab_le h _ z2
  omega⟩
theorem tab_lin {t : Tri} {l : List Int} (h : TabIn t l) : LvlIn t.1 (countsN t) 1000000 [l] := by
  have cl : (countsN t).length = t.2.1.length := cnt_len t
  have f1 := h.ok.f.l1
  have f2 := h.ok.f.l2
  exact ⟨h.ok.d, by omega, by omega, by decide, counts_bd h.ok, by simp, fun l' hl' => by rw [List.mem_singleton.mp hl']; exact ⟨by rw [h.l, cl], tab_le h⟩⟩
def S_lal (C : Addr) : DSp := fun ds Φ _ => ∃ (t : Tri) (l : List Int), ds = [nightD C t, intsD l] ∧ TabIn t l ∧ (LvlOk t l → Φ (lvlE t.1 (countsN t) l))
abbrev s_level_and_lacks : Stmt := topS 87
abbrev N_level_and_lacks : List Str := ["night", "table"]
theorem sc_level_and_lacks : FnScope N_level_and_lacks ["night", "table"] (defScope s_level_and_lacks) := ⟨rfl, rfl, rfl, by decide +kernel, rfl, by decide +kernel, by decide +kernel⟩
theorem ok_lal (F : FunX K "level_and_lacks" "level_and_lacks" s_level_and_lacks f fd) (B : Blt mg) (c_check_night : CallD P w K mg base "check_night" 1 (S_check_night C)) (c_check_table : CallD P w K mg base "check_table" 4 (S_check_table C)) (c_levels_and_lacks : CallD P w K mg base "levels_and_lacks" 3 S_levels) (c_counts_of : CallD P w K mg base "counts_of" 1 S_counts_of)
    (c_p_divisors : PropB P w K mg base C "divisors" 1 (S_getD C)) (c_p_parties : PropB P w K mg base C "parties" 1 (S_getP C)) : FnG P w K mg base 5 f fd ["night", "table"] (lift K (S_lal C)) := by
  refine fnX_of F sc_level_and_lacks (fun ds Φ Ψ ⟨_, _, h, _⟩ => by rw [h]; rfl) fun cdv A outer s H E b => ⟨_, (pss_cons (ps_expr (k_cd K c_check_night (by exact b.room) (by decide) b.pass (pa_cons (pv 0) pa_nil)))
 (pss_cons (ps_expr (k_cd K c_check_table (by exact b.room) (by decide) b.pass (pa_cons (pv 0) (pa_cons (pv 1) pa_nil))))
 (pss_one (ps_ret (pe_ix (k_ix K) (k_cd K c_levels_and_lacks (by exact b.room) (by decide) b.pass (pa_cons (k_pr K c_p_divisors (by exact b.room) (by decide) (pv 0)) (pa_cons (k_cd K c_counts_of (by exact b.room) (by decide) b.pass (pa_cons (k_pr K c_p_parties (by exact b.room) (by decide) (pv 0)) pa_nil)) (pa_cons (pe_tup (pa_cons (pv 1) pa_nil)) pa_nil)))) pe_int (fun _ _ => rfl)))))), fun ds Φ Ψ ⟨t, l, h, ht, q⟩ => ?_⟩
  subst h
  show wS _ _ _ [some (.dat _), some (.dat _)]
  have f2 := ht.ok.f.l2
  walk_at "dlt"
  refine ⟨t, rfl, ?_⟩
  walk_at "dlt"
  refine ⟨t, l, rfl, ht.ok, ht.l, ht.b, ht.s, ?_⟩
  walk_at "dlt"
  refine ⟨_, rfl, t.1, t.2.1, t.2.2, rfl, ?_⟩
  walk_at "dlt"
  refine ⟨_, rfl, t.1, t.2.1, t.2.2, rfl, ?_⟩
  walk_at "dlt"
  refine ⟨t.2.1, rfl, by omega, ?_⟩
  walk_at "dlt"
  refine ⟨true, t.1, countsN t, 1000000, [l], by unfold countsN; rw [List.map_map]; rfl, tab_lin ht, fun hl => ?_⟩
  obtain ⟨h1, h2, h3⟩ := hl l List.mem_cons_self
  walk_at "dlt"
  exact q ⟨h1, h2, h3⟩
theorem lacks_len {ns cs t : List Int} (h : t.length = cs.length) : (lacksN ns cs t).length = cs.length := by
  unfold lacksN
  rw [List.length_map, List.length_zip]
  omega
noncomputable def dueN (t : Tri) (l : List Int) : List Int := (zsN t l).map fun z => z.1 + lackI t.1 (lvlT t l) z
noncomputable def farN (t : Tri) (l : List Int) : Int := (lacksN t.1 (countsN t) l).sum
theorem lack_bd {t : Tri} {l : List Int} (h : TabIn t l) (hl : LvlOk t l) : ∀ z ∈ zsN t l, 0 ≤ lackI t.1 (lvlT t l) z ∧ lackI t.1 (lvlT t l) z ≤ 100000000000 := fun z hz => by
  obtain ⟨z1, z2, z3⟩ := (tab_lvlz h).z z hz
  have := need_bd (L := lvlT t l) (X := 1000000) h.ok.d z2 z3 hl.nn hl.le (by decide) (by decide)
  unfold lackI needI
  split <;> omega
def S_needs (C : Addr) : DSp := fun ds Φ _ => ∃ (t : Tri) (l : List Int), ds = [nightD C t, intsD l] ∧ TabIn t l ∧ (LvlOk t l → Φ (intsD (dueN t l)))
abbrev s_needs : Stmt := topS 89
abbrev N_needs : List Str := ["night", "table", "_", "lacks", "count", "lack"]
theorem sc_needs : FnScope N_needs ["night", "table"] (defScope s_needs) := ⟨rfl, rfl, rfl, by decide +kernel, rfl, by decide +kernel, by decide +kernel⟩
theorem ok_needs (F : FunX K "needs" "needs" s_needs f fd) (B : Blt mg) (c_level_and_lacks : CallD P w K mg base "level_and_lacks" 5 (S_lal C)) (c_counts_of : CallD P w K mg base "counts_of" 1 S_counts_of) (c_p_parties : PropB P w K mg base C "parties" 1 (S_getP C)) : FnG P w K mg base 6 f fd ["night", "table"] (lift K (S_needs C)) := by
  refine fnX_of F sc_needs (fun ds Φ Ψ ⟨_, _, h, _⟩ => by rw [h]; rfl) fun cdv A outer s H E b => ⟨_, (pss_cons (ps_asg (k_cd K c_level_and_lacks (by exact b.room) (by decide) b.pass (pa_cons (pv 0) (pa_cons (pv 1) pa_nil))) (k_pg K (n := 2) rfl (pgs_cons (pg_name (i := 2) sc_needs.nd rfl (by first | exact .inl rfl | exact .inr rfl)) (pgs_cons (pg_name (i := 3) sc_needs.nd rfl (by first | exact .inl rfl | exact .inr rfl)) pgs_nil))))
 (pss_one (ps_ret (pe_callTy (k_tup K) (by rfl) B.tuple bb_tuple (pa_cons (pe_lc (own := [("count", 4), ("lack", 5)]) rfl sc_needs.nd (k_zip K (by rfl) B.zip (pa_cons (k_cd K c_counts_of (by exact b.room) (by decide) b.pass (pa_cons (k_pr K c_p_parties (by exact b.room) (by decide) (pv 0)) pa_nil)) (pa_cons (pv 3) pa_nil))) (blkOk_by (own := [("count", 4), ("lack", 5)]) (N := N_needs) (sc := defScope s_needs) (by decide +kernel))  (fun _ _ _ _ _ => (k_pg K (n := 2) rfl (pgs_cons (pg_name (i := 4) sc_needs.nd rfl (by first | exact .inl rfl | exact .inr rfl)) (pgs_cons (pg_name (i := 5) sc_needs.nd rfl (by first | exact .inl rfl | exact .inr rfl)) pgs_nil)))) (fun _ _ _ _ _ => pts_nil) (fun _ _ _ _ _ => (pe_op (k_add K) (pv 4) (pv 5)))) pa_nil))))), fun ds Φ Ψ ⟨t, l, h, ht, q⟩ => ?_⟩
  subst h
  show wS _ _ _ [some (.dat _), some (.dat _), none, none, none, none]
  have f2 := ht.ok.f.l2
  have cl : (countsN t).length = t.2.1.length := cnt_len t
  walk_at "dlt"
  refine ⟨t, l, rfl, ht, fun hl => ?_⟩
  have lb := lack_bd ht hl
  unfold lvlE
  walk_at "dlt"
  refine wE_lcM (only_pair (by simp) (by simp)) pairI (fun p => .int (p.1 + p.2)) (wI_zipT ?_)
  unfold intsD
  walk_at "dlt"
  refine ⟨_, rfl, t.1, t.2.1, t.2.2, rfl, ?_⟩
  walk_at "dlt"
  refine ⟨t.2.1, rfl, by omega, ?_⟩
  walk_at "dlt"
  have zl : ((countsN t).zip (lacksN t.1 (countsN t) l)).length ≤ 6 := by rw [List.length_zip]; omega
  refine ⟨_, _, rfl, (countsN t).zip (lacksN t.1 (countsN t) l), by rw [← zip_pairs]; unfold countsN; rw [List.map_map]; rfl, by omega, fun p hp => ?_, ?_⟩
  · unfold pairI
    walk_at "dlt"
    rfl
  walk_at "dlt"
  have e : ((countsN t).zip (lacksN t.1 (countsN t) l)).map (fun p => D.int (p.1 + p.2)) = (dueN t l).map D.int := by
    unfold dueN lacksN
    rw [← zip_due, List.map_map]
    rfl
  rw [e]
  exact q hl
def S_distance (C : Addr) : DSp := fun ds Φ _ => ∃ (t : Tri) (l : List Int), ds = [nightD C t, intsD l] ∧ TabIn t l ∧ (LvlOk t l → Φ (.int (farN t l)))
abbrev s_distance : Stmt := topS 90
abbrev N_distance : List Str := ["night", "table", "_", "lacks"]
theorem sc_distance : FnScope N_distance ["night", "table"] (defScope s_distance) := ⟨rfl, rfl, rfl, by decide +kernel, rfl, by decide +kernel, by decide +kernel⟩
theorem ok_distance (F : FunX K "distance" "distance" s_distance f fd) (B : Blt mg) (c_level_and_lacks : CallD P w K mg base "level_and_lacks" 5 (S_lal C)) : FnG P w K mg base 6 f fd ["night", "table"] (lift K (S_distance C)) := by
  refine fnX_of F sc_distance (fun ds Φ Ψ ⟨_, _, h, _⟩ => by rw [h]; rfl) fun cdv A outer s H E b => ⟨_, (pss_cons (ps_asg (k_cd K c_level_and_lacks (by exact b.room) (by decide) b.pass (pa_cons (pv 0) (pa_cons (pv 1) pa_nil))) (k_pg K (n := 2) rfl (pgs_cons (pg_name (i := 2) sc_distance.nd rfl (by first | exact .inl rfl | exact .inr rfl)) (pgs_cons (pg_name (i := 3) sc_distance.nd rfl (by first | exact .inl rfl | exact .inr rfl)) pgs_nil))))
 (pss_one (ps_ret (pe_callB (k_sumA K rfl) (by rfl) B.sum bb_sum (pa_cons (pv 3) pa_nil))))), fun ds Φ Ψ ⟨t, l, h, ht, q⟩ => ?_⟩
  subst h
  show wS _ _ _ [some (.dat _), some (.dat _), none, none]
  walk_at "dlt"
  refine ⟨t, l, rfl, ht, fun hl => ?_⟩
  unfold lvlE
  walk_at "dlt"
  unfold intsD
  walk_at "dlt"
  refine sumG_t ?_
  exact q hl
end
/-! ### rows that the law draws; its own looks -/
section
variable {P : Program} {w : World} {K : PySem.W.Frag} {mg : Str → Option Value} {base : Heap} {f C : Addr} {fd : FuncData}
def six : List Str := ["red", "blue", "gold", "teal", "pink", "grey"]
theorem six_ok : ∀ z ∈ six, NameOk z := by
  intro z hz
  simp only [six, List.mem_cons, List.not_mem_nil, or_false] at hz
  rcases hz with rfl | rfl | rfl | rfl | rfl | rfl <;> exact ⟨by decide +kernel, by decide +kernel, ⟨_, rfl, by decide +kernel⟩, by decide +kernel⟩
theorem sum_nn0 : ∀ {r : List Int}, (∀ x ∈ r, 0 ≤ x) → 0 ≤ r.sum
  | [], _ => Int.le_refl _
  | x :: r, h => by
    have := sum_nn0 fun y hy => h y (List.mem_cons_of_mem _ hy)
    have := h x List.mem_cons_self
    rw [List.sum_cons]
    omega
end
/-! ### sums of what is lacked -/
theorem sum_zero {l : List Int} (h : ∀ x ∈ l, 0 ≤ x) (hs : l.sum = 0) : ∀ x ∈ l, x = 0 := fun x hx => by
  have := sumI_le h x hx
  have := h x hx
  omega
/-- with its needs a table is a result -/
theorem due_right {t : Tri} {l : List Int} (h : TabIn t l) (hl : LvlOk t l) : isRes t.1 ((dueN t l).zip l) = true := by
  unfold dueN
  rw [zip_map2]
  exact due_res (tab_lvlz h) hl.is
theorem far_iff {t : Tri} {l : List Int} (h : TabIn t l) (hl : LvlOk t l) : decide (farN t l = 0) = isRes t.1 (zsN t l) := by
  have lb := lack_bd h hl
  rw [Bool.eq_iff_iff, decide_eq_true_eq]
  constructor
  · intro hz
    have z0 := sum_zero (l := lacksN t.1 (countsN t) l) (fun x hx => by
      obtain ⟨z, hz, rfl⟩ := List.mem_map.mp hx
      exact (lb z hz).1) hz
    have := due_res (tab_lvlz h) hl.is
    have e : (zsN t l).map (fun z => (z.1 + lackI t.1 (lvlT t l) z, z.2)) = zsN t l := by
      conv => rhs; rw [← List.map_id (zsN t l)]
      refine List.map_congr_left fun z hz => ?_
      rw [z0 _ (List.mem_map.mpr ⟨z, hz, rfl⟩), Int.add_zero]
      rfl
    rw [e] at this
    exact this
  · intro hr
    have := gift_ge (L := lvlT t l) (l := (zsN t l).map fun z => ((z.1, 0), z.2)) h.ok.d (fun x hx => by
      obtain ⟨z, hz, rfl⟩ := List.mem_map.mp hx
      have := (tab_lvlz h).z z hz
      exact ⟨this.1, Int.le_refl _, this.2.1, this.2.2⟩) (by rw [List.map_map]; simpa [Function.comp_def] using hl.is) (by rw [List.map_map]; simpa [Function.comp_def] using hr)
    unfold farN lacksN
    have e : (zsN t l).map (lackI t.1 (lvlT t l)) = (zsN t l).map fun _ => (0 : Int) := List.map_congr_left fun z hz => by
      have h1 := this ((z.1, 0), z.2) (List.mem_map.mpr ⟨z, hz, rfl⟩)
      have h2 := (lb z hz).1
      exact Int.le_antisymm h1 h2
    show ((zsN t l).map (lackI t.1 (lvlT t l))).sum = 0
    rw [e]
    clear e this hr lb
    induction zsN t l with
    | nil => rfl
    | cons z zs ih => rw [List.map_cons, List.sum_cons, ih]; rfl
/-! ### blocs: what is one, how many seats it has, margins -/
local macro_rules | `(tactic| walk_at "blk") => `(tactic| first | decide +kernel | rfl)
structure BlocOk (names zs : List Str) : Prop where
  ne : zs ≠ []
  l6 : zs.length ≤ 6
  n6 : names.length ≤ 6
  sub : ∀ z ∈ zs, z ∈ names
  up : ∀ (i : Nat) (a b : Str), zs[i]? = some a → zs[i + 1]? = some b → a.cps.toList < b.cps.toList
def strsD (zs : List Str) : D := .tup (zs.map .str)
/-- so many seats has a bloc -/
def heldL (names zs : List Str) (T : List Int) : Int := (((names.zip T).filter fun x => decide (x.1 ∈ zs)).map (·.2)).sum
theorem held_ix {q : Str → Bool} {F : List Int} : ∀ (names : List Str) (T : List Int) (o : Nat), T.length = names.length → (∀ i < T.length, F.getD (o + i) 0 = T.getD i 0) →
    ((((List.range' o names.length).zip names).filter fun x => q x.2).map fun x => F.getD x.1 0) = ((names.zip T).filter fun x => q x.1).map (·.2)
  | [], [], _, _, _ => rfl
  | z :: names, x :: T, o, hl, h => by
    have ih := held_ix (q := q) (F := F) names T (o + 1) (by simpa using hl) (fun i hi => by
      have := h (i + 1) (by simpa using hi)
      rw [show o + (i + 1) = o + 1 + i by omega] at this
      rw [this]
      rfl)
    have h0 := h 0 (by simp)
    rw [List.length_cons, List.range'_succ, List.zip_cons_cons, List.zip_cons_cons]
    by_cases c : q z = true
    · rw [List.filter_cons_of_pos (by exact c), List.filter_cons_of_pos (by exact c), List.map_cons, List.map_cons, ih]
      rw [show F.getD (o, z).1 0 = x from h0]
    · rw [List.filter_cons_of_neg (by exact c), List.filter_cons_of_neg (by exact c), ih]
theorem one_sum {z0 : Str} {S : Int} : ∀ {l : List Str}, l.Nodup → z0 ∈ l → (l.map fun z => if z = z0 then S else 0).sum = S
  | z :: l, nd, hm => by
    rw [List.nodup_cons] at nd
    rw [List.map_cons, List.sum_cons]
    by_cases c : z = z0
    · subst c
      rw [if_pos rfl]
      have : l.map (fun y => if y = z then S else 0) = l.map fun _ => (0 : Int) := List.map_congr_left fun y hy => if_neg fun e => nd.1 (by rw [← e]; exact hy)
      rw [this]
      have : (l.map fun _ => (0 : Int)).sum = 0 := by
        clear this nd hm
        induction l with
        | nil => rfl
        | cons _ l ih => rw [List.map_cons, List.sum_cons, ih]; rfl
      omega
    · rw [if_neg c, one_sum nd.2 ((List.mem_cons.mp hm).resolve_left fun e => c e.symm)]
      omega
abbrev namesN (t : Tri) : List Str := t.2.1.map (·.1)
abbrev allT (t : Tri) : List (List Int) := tabs (allB t.2.1.length t.1.length) t.1.length
theorem all_in {t : Tri} (h : TriOk t) {T : List Int} : T ∈ allT t ↔ TabIn t T := by
  constructor
  · intro hT
    obtain ⟨_, _, h3, h4, h5⟩ := tabs_sum hT
    have e : (allB t.2.1.length (t.1.length : Int)).length = t.2.1.length := List.length_replicate
    refine ⟨h, by rw [h3, e], fun x hx => ?_, h4⟩
    obtain ⟨i, hi⟩ := List.mem_iff_getElem?.mp hx
    have il : i < T.length := (List.getElem?_eq_some_iff.mp hi).1
    have hb : (allB t.2.1.length (t.1.length : Int))[i]? = some (0, (t.1.length : Int)) := by
      unfold allB
      rw [List.getElem?_replicate, if_pos (by omega)]
    exact (h5 i x _ hi hb).1
  · intro hT
    exact mem_allB (Int.le_refl _) hT.l hT.b hT.s
theorem all_some {t : Tri} {zs : List Str} (h : TriOk t) (hb : BlocOk (namesN t) zs) : ∃ T ∈ allT t, heldL (namesN t) zs T = t.1.length := by
  obtain ⟨z0, hz0⟩ := List.exists_mem_of_ne_nil _ hb.ne
  have hm := hb.sub z0 hz0
  have nd := h.f.nd
  refine ⟨(namesN t).map fun z => if z = z0 then (t.1.length : Int) else 0, (all_in h).mpr ⟨h, by rw [List.length_map, List.length_map], fun x hx => ?_, one_sum nd hm⟩, ?_⟩
  · obtain ⟨z, _, rfl⟩ := List.mem_map.mp hx
    split <;> omega
  · unfold heldL
    have e : (namesN t).zip ((namesN t).map fun z => if z = z0 then (t.1.length : Int) else 0) = (namesN t).map fun z => (z, if z = z0 then (t.1.length : Int) else 0) := by
      have : ((namesN t).map fun z : Str => z).zip ((namesN t).map fun z => if z = z0 then (t.1.length : Int) else 0) = (namesN t).map fun z => (z, if z = z0 then (t.1.length : Int) else 0) := List.zip_map'
      rw [List.map_id'] at this
      exact this
    rw [e, List.filter_map, List.map_map]
    exact one_sum (nd.filter _) (List.mem_filter.mpr ⟨hm, decide_eq_true hz0⟩)
section
variable {P : Program} {w : World} {K : PySem.W.Frag} {mg : Str → Option Value} {base : Heap} {f C : Addr} {fd : FuncData}
def S_is_bloc : DSp := fun ds Φ _ => ∃ zs names, ds = [strsD zs, strsD names] ∧ BlocOk names zs ∧ Φ (.bl true)
abbrev s_is_bloc : Stmt := topS 33
abbrev N_is_bloc : List Str := ["value", "names", "item", "low", "high"]
theorem sc_is_bloc : FnScope N_is_bloc ["value", "names"] (defScope s_is_bloc) := ⟨rfl, rfl, rfl, by decide +kernel, rfl, by decide +kernel, by decide +kernel⟩
theorem ok_is_bloc (F : FunX K "is_bloc" "is_bloc" s_is_bloc f fd) (B : Blt mg) : FnG P w K mg base 1 f fd ["value", "names"] (lift K S_is_bloc) := by
  refine fnX_of F sc_is_bloc (fun ds Φ Ψ ⟨_, _, h, _⟩ => by rw [h]; rfl) fun cdv A outer s H E b => ⟨_, (pss_cons (ps_if (PW.pt (pw_or (pt_not (pt_val (pe_callB (k_isi K) (by rfl) B.isinstance bb_isinstance (pa_cons (pv 0) (pa_cons (pe_bty B.tuple bb_tuple) pa_nil))))) (pw_or1 (pt_cmpR (k_eq K (by exact b.room)) (pe_callB (k_len K) (by rfl) B.len bb_len (pa_cons (pv 0) pa_nil)) pe_int (nomark _))))) (pss_one (ps_ret pe_bl)) pss_nil)
 (pss_cons (ps_if (pt_not (pt_val (pe_callB (k_all K rfl) (by rfl) B.all bb_all (pa_cons (pe_lc (own := [("item", 2)]) rfl sc_is_bloc.nd (k_any K (pv 0)) (blkOk_by (own := [("item", 2)]) (N := N_is_bloc) (sc := defScope s_is_bloc) (by decide +kernel))  (fun _ _ _ _ _ => (pg_name (i := 2) sc_is_bloc.nd rfl (by first | exact .inl rfl | exact .inr rfl))) (fun _ _ _ _ _ => pts_nil) (fun _ _ _ _ _ => (pe_and (pe_callB (k_isi K) (by rfl) B.isinstance bb_isinstance (pa_cons (pv 2) (pa_cons (pe_bty B.str bb_str) pa_nil))) (pe_one (pe_cmpR (k_in K) (pv 2) (pv 1) (by with_unfolding_all rfl)))))) pa_nil)))) (pss_one (ps_ret pe_bl)) pss_nil)
 (pss_one (ps_ret (pe_callB (k_all K rfl) (by rfl) B.all bb_all (pa_cons (pe_lc (own := [("low", 3), ("high", 4)]) rfl sc_is_bloc.nd (k_zip K (by rfl) B.zip (pa_cons (pv 0) (pa_cons (pe_slice (k_sl K) (pv 0) (po_some pe_int) po_none) pa_nil))) (blkOk_by (own := [("low", 3), ("high", 4)]) (N := N_is_bloc) (sc := defScope s_is_bloc) (by decide +kernel))  (fun _ _ _ _ _ => (k_pg K (n := 2) rfl (pgs_cons (pg_name (i := 3) sc_is_bloc.nd rfl (by first | exact .inl rfl | exact .inr rfl)) (pgs_cons (pg_name (i := 4) sc_is_bloc.nd rfl (by first | exact .inl rfl | exact .inr rfl)) pgs_nil)))) (fun _ _ _ _ _ => pts_nil) (fun _ _ _ _ _ => (pe_cmpR k_ltS (pv 3) (pv 4) (nomark _)))) pa_nil)))))), fun ds Φ Ψ ⟨zs, names, h, hb, q⟩ => ?_⟩
  subst h
  show wS _ _ _ [some (.dat _), some (.dat _), none, none, none]
  have l6 := hb.l6
  have lz : (zs.map D.str).length = zs.length := List.length_map _
  have z1 : 0 < zs.length := List.length_pos_iff.mpr hb.ne
  unfold strsD
  walk_at "dlt"
  refine wE_lcM (only_name List.mem_cons_self) D.str (fun _ => .bl true) (wI_any ?_)
  walk_at "dlt"
  refine ⟨_, rfl, zs, rfl, by omega, fun z hz => ?_, ?_⟩
  · walk_at "dlt"
    refine ⟨z, names, rfl, .inl rfl, ?_⟩
    rw [decide_eq_true (hb.sub z hz)]
    rfl
  walk_at "dlt"
  refine allG_map (q := fun _ => true) ?_
  rw [List.all_eq_true.mpr fun _ _ => rfl]
  walk_at "dlt"
  refine wE_lcM (only_pair (by simp) (by simp)) (fun p : Str × Str => .tup [.str p.1, .str p.2]) (fun p => .bl (decide (p.1.cps.toList < p.2.cps.toList))) (wI_zipT ?_)
  walk_at "dlt"
  refine ⟨_, _, rfl, zs.zip (zs.drop 1), ?_, by rw [List.length_zip]; omega, fun p hp => ?_, ?_⟩
  · rw [cut_from1, ← List.map_drop, zipD_map]
  · walk_at "dlt"
    exact ⟨p.1, p.2, rfl, rfl, rfl⟩
  walk_at "dlt"
  refine allG_map ?_
  rw [List.all_eq_true.mpr fun p hp => ?_]
  · exact q
  · obtain ⟨i, hi⟩ := List.mem_iff_getElem?.mp hp
    rw [List.getElem?_zip_eq_some] at hi
    rw [List.getElem?_drop, Nat.add_comm] at hi
    exact decide_eq_true (hb.up i _ _ hi.1 hi.2)
def S_check_bloc (C : Addr) : DSp := fun ds Φ _ => ∃ (t : Tri) (zs : List Str), ds = [nightD C t, strsD zs] ∧ TriOk t ∧ BlocOk (namesN t) zs ∧ Φ .non
abbrev s_check_bloc : Stmt := topS 52
abbrev N_check_bloc : List Str := ["night", "bloc"]
theorem sc_check_bloc : FnScope N_check_bloc ["night", "bloc"] (defScope s_check_bloc) := ⟨rfl, rfl, rfl, by decide +kernel, rfl, by decide +kernel, by decide +kernel⟩
theorem ok_check_bloc (F : FunX K "check_bloc" "check_bloc" s_check_bloc f fd) (B : Blt mg) (c_is_bloc : CallD P w K mg base "is_bloc" 1 S_is_bloc) (c_p_names : PropB P w K mg base C "names" 2 (S_getN C)) : FnG P w K mg base 4 f fd ["night", "bloc"] (lift K (S_check_bloc C)) := by
  refine fnX_of F sc_check_bloc (fun ds Φ Ψ ⟨_, _, h, _⟩ => by rw [h]; rfl) fun cdv A outer s H E b => ⟨_, (pss_one (ps_if (pt_not (pt_val (k_cd K c_is_bloc (by exact b.room) (by decide) b.pass (pa_cons (pv 1) (pa_cons (k_pr K c_p_names (by exact b.room) (by decide) (pv 0)) pa_nil))))) (pss_one ps_never) pss_nil)), fun ds Φ Ψ ⟨t, zs, h, ht, hb, q⟩ => ?_⟩
  subst h
  show wS _ _ _ [some (.dat _), some (.dat _)]
  walk_at "dlt"
  refine ⟨_, rfl, t, rfl, ht, ?_⟩
  walk_at "dlt"
  refine ⟨zs, namesN t, by unfold strsD namesD; rw [List.map_map]; rfl, hb, ?_⟩
  walk_at "dlt"
  exact q
def S_check_seats (C : Addr) : DSp := fun ds Φ _ => ∃ (t : Tri) (k : Int), ds = [nightD C t, .int k] ∧ 0 ≤ k ∧ k ≤ t.1.length ∧ Φ .non
abbrev s_check_seats : Stmt := topS 53
abbrev N_check_seats : List Str := ["night", "seats"]
theorem sc_check_seats : FnScope N_check_seats ["night", "seats"] (defScope s_check_seats) := ⟨rfl, rfl, rfl, by decide +kernel, rfl, by decide +kernel, by decide +kernel⟩
theorem ok_check_seats (F : FunX K "check_seats" "check_seats" s_check_seats f fd) (B : Blt mg) (c_is_between : CallD P w K mg base "is_between" 2 S_is_between) (c_p_seats : PropB P w K mg base C "seats" 1 (S_getS C)) : FnG P w K mg base 3 f fd ["night", "seats"] (lift K (S_check_seats C)) := by
  refine fnX_of F sc_check_seats (fun ds Φ Ψ ⟨_, _, h, _⟩ => by rw [h]; rfl) fun cdv A outer s H E b => ⟨_, (pss_one (ps_if (pt_not (pt_val (k_cd K c_is_between (by exact b.room) (by decide) b.pass (pa_cons (pv 1) (pa_cons pe_int (pa_cons (k_pr K c_p_seats (by exact b.room) (by decide) (pv 0)) pa_nil)))))) (pss_one ps_never) pss_nil)), fun ds Φ Ψ ⟨t, k, h, k0, k1, q⟩ => ?_⟩
  subst h
  show wS _ _ _ [some (.dat _), some (.dat _)]
  walk_at "dlt"
  refine ⟨_, rfl, t, rfl, ?_⟩
  walk_at "dlt"
  refine ⟨k, 0, _, rfl, k0, k1, ?_⟩
  walk_at "dlt"
  exact q
def S_least_lacks : DSp := fun ds Φ _ => ∃ (p : Bool) (ns cs : List Int) (Y : Int) (ts : List (List Int)), ds = [divsD ns, .tup (cs.map .int), seqD p (ts.map intsD)] ∧ LvlIn ns cs Y ts ∧ ((∀ t ∈ ts, IsLvl ns (cs.zip t) (lvlN ns (cs.zip t)) ∧ 0 ≤ lvlN ns (cs.zip t) ∧ lvlN ns (cs.zip t) ≤ scaleN ns * Y) → Φ (.lst (ts.map fun t => intsD (lacksN ns cs t))))
abbrev s_least_lacks : Stmt := topS 70
abbrev N_least_lacks : List Str := ["divisors", "counts", "tables", "_", "lacks"]
theorem sc_least_lacks : FnScope N_least_lacks ["divisors", "counts", "tables"] (defScope s_least_lacks) := ⟨rfl, rfl, rfl, by decide +kernel, rfl, by decide +kernel, by decide +kernel⟩
theorem ok_least_lacks (F : FunX K "least_lacks" "least_lacks" s_least_lacks f fd) (c_levels_and_lacks : CallD P w K mg base "levels_and_lacks" 3 S_levels) : FnG P w K mg base 4 f fd ["divisors", "counts", "tables"] (lift K S_least_lacks) := by
  refine fnX_of F sc_least_lacks (fun ds Φ Ψ ⟨_, _, _, _, _, h, _⟩ => by rw [h]; rfl) fun cdv A outer s H E b => ⟨_, (pss_one (ps_ret (pe_lc (own := [("_", 3), ("lacks", 4)]) rfl sc_least_lacks.nd (k_any K (k_cd K c_levels_and_lacks (by exact b.room) (by decide) b.pass (pa_cons (pv 0) (pa_cons (pv 1) (pa_cons (pv 2) pa_nil))))) (blkOk_by (own := [("_", 3), ("lacks", 4)]) (N := N_least_lacks) (sc := defScope s_least_lacks) (by decide +kernel))  (fun _ _ _ _ _ => (k_pg K (n := 2) rfl (pgs_cons (pg_name (i := 3) sc_least_lacks.nd rfl (by first | exact .inl rfl | exact .inr rfl)) (pgs_cons (pg_name (i := 4) sc_least_lacks.nd rfl (by first | exact .inl rfl | exact .inr rfl)) pgs_nil)))) (fun _ _ _ _ _ => pts_nil) (fun _ _ _ _ _ => (pv 4))))), fun ds Φ Ψ ⟨p, ns, cs, Y, ts, h, hi, q⟩ => ?_⟩
  subst h
  show wS _ _ _ [some (.dat _), some (.dat _), some (.dat _), none, none]
  have tn := hi.n
  walk_at "dlt"
  refine wE_lcM (only_pair (by simp) (by simp)) (lvlE ns cs) (fun t => intsD (lacksN ns cs t)) (wI_any ?_)
  walk_at "dlt"
  refine ⟨p, ns, cs, Y, ts, rfl, hi, fun hl => ?_⟩
  walk_at "dlt"
  refine ⟨_, rfl, ts, rfl, by omega, fun t ht => ?_, ?_⟩
  · unfold lvlE
    walk_at "dlt"
    rfl
  walk_at "dlt"
  exact q hl
def S_seats_in (C : Addr) : DSp := fun ds Φ _ => ∃ (t : Tri) (zs : List Str) (ts : List (List Int)), ds = [nightD C t, strsD zs, .tup (ts.map intsD)] ∧ TriOk t ∧ ts.length ≤ 100000 ∧ (∀ T ∈ ts, T.length = t.2.1.length) ∧ Φ (.lst (ts.map fun T => .int (heldL (namesN t) zs T)))
def nmE (x : Nat × Str) : D := .tup [.int (x.1 : Nat), .str x.2]
theorem enum_names (l : List Str) : enumD (l.map .str) = ((List.range' 0 l.length).zip l).map nmE := by
  unfold enumD
  rw [List.length_map, ← List.range_eq_range']
  generalize List.range l.length = r
  induction l generalizing r with
  | nil => simp
  | cons z l ih =>
    cases r with
    | nil => rfl
    | cons i r => rw [List.map_cons, List.zipWith_cons_cons, ih, List.zip_cons_cons, List.map_cons]; rfl
abbrev s_seats_in : Stmt := topS 81
abbrev N_seats_in : List Str := ["night", "bloc", "tables", "places", "index", "name", "place", "table"]
theorem sc_seats_in : FnScope N_seats_in ["night", "bloc", "tables"] (defScope s_seats_in) := ⟨rfl, rfl, rfl, by decide +kernel, rfl, by decide +kernel, by decide +kernel⟩
theorem ok_seats_in (F : FunX K "seats_in" "seats_in" s_seats_in f fd) (B : Blt mg) (c_p_names : PropB P w K mg base C "names" 2 (S_getN C)) : FnG P w K mg base 4 f fd ["night", "bloc", "tables"] (lift K (S_seats_in C)) := by
  refine fnX_of F sc_seats_in (fun ds Φ Ψ ⟨_, _, _, h, _⟩ => by rw [h]; rfl) fun cdv A outer s H E b => ⟨_, (pss_cons (ps_set (i := 3) sc_seats_in.nd rfl (by first | exact .inl rfl | exact .inr rfl) (pe_lc (own := [("index", 4), ("name", 5)]) rfl sc_seats_in.nd (k_enum K (by rfl) B.enumerate (pa_cons (k_pr K c_p_names (by exact b.room) (by decide) (pv 0)) pa_nil)) (blkOk_by (own := [("index", 4), ("name", 5)]) (N := N_seats_in) (sc := defScope s_seats_in) (by decide +kernel))  (fun _ _ _ _ _ => (k_pg K (n := 2) rfl (pgs_cons (pg_name (i := 4) sc_seats_in.nd rfl (by first | exact .inl rfl | exact .inr rfl)) (pgs_cons (pg_name (i := 5) sc_seats_in.nd rfl (by first | exact .inl rfl | exact .inr rfl)) pgs_nil)))) (fun _ _ _ _ _ => (pts_one (pt_cmpR (k_in K) (pv 5) (pv 1) (by with_unfolding_all rfl)))) (fun _ _ _ _ _ => (pv 4))))
 (pss_one (ps_ret (pe_lc (own := [("table", 7)]) rfl sc_seats_in.nd (k_any K (pv 2)) (blkOk_by (own := [("table", 7)]) (N := N_seats_in) (sc := defScope s_seats_in) (by decide +kernel))  (fun _ _ _ _ _ => (pg_name (i := 7) sc_seats_in.nd rfl (by first | exact .inl rfl | exact .inr rfl))) (fun _ _ _ _ _ => pts_nil) (fun _ _ _ _ _ => (pe_callB (k_sumA K rfl) (by rfl) B.sum bb_sum (pa_cons (pe_lc (own := [("place", 6)]) rfl sc_seats_in.nd (k_any K (pv 3)) (blkOk_by (own := [("place", 6)]) (N := N_seats_in) (sc := _) (by walk_at "blk"))  (fun _ _ _ _ _ => (pg_name (i := 6) sc_seats_in.nd rfl (by first | exact .inl rfl | exact .inr rfl))) (fun _ _ _ _ _ => pts_nil) (fun _ _ _ _ _ => (pe_ix (k_ix K) (pv 7) (pv 6) (fun _ _ => rfl)))) pa_nil))))))), fun ds Φ Ψ ⟨t, zs, ts, h, ht, tn, tl, q⟩ => ?_⟩
  subst h
  show wS _ _ _ [some (.dat _), some (.dat _), some (.dat _), none, none, none, none, none]
  have f2 := ht.f.l2
  have nl : (namesN t).length = t.2.1.length := List.length_map _
  walk_at "dlt"
  refine wE_lcF (only_pair (by simp) (by simp)) nmE (fun x => .int (x.1 : Nat)) (fun x => decide (x.2 ∈ zs)) (wI_enumT ?_)
  walk_at "dlt"
  refine ⟨_, rfl, t, rfl, ht, ?_⟩
  walk_at "dlt"
  refine ⟨(namesN t).map .str, by unfold namesD; rw [List.map_map]; rfl, ?_⟩
  rw [enum_names]
  refine ⟨_, rfl, by rw [List.length_zip]; omega, fun x hx => ?_, ?_⟩
  · unfold nmE strsD
    walk_at "dlt"
    refine inSG_t ?_
    refine ⟨_, rfl, rfl, fun _ => ?_⟩
    walk_at "dlt"
    rfl
  have hpl : ∀ x ∈ ((List.range' 0 (namesN t).length).zip (namesN t)).filter (fun x => decide (x.2 ∈ zs)), x.1 < t.2.1.length := fun x hx => by
    have := (List.of_mem_zip (a := x.1) (b := x.2) (List.mem_filter.mp hx).1).1
    rw [List.mem_range'_1] at this
    omega
  have hll : (((List.range' 0 (namesN t).length).zip (namesN t)).filter (fun x => decide (x.2 ∈ zs))).length ≤ 6 := Nat.le_trans (List.length_filter_le _ _) (by rw [List.length_zip]; omega)
  have hix : ∀ T ∈ ts, ((((List.range' 0 (namesN t).length).zip (namesN t)).filter (fun x => decide (x.2 ∈ zs))).map fun x => T.getD x.1 0).sum = heldL (namesN t) zs T := fun T hT => congrArg List.sum (held_ix (q := fun z => decide (z ∈ zs)) (F := T) (namesN t) T 0 (by rw [tl T hT, nl]) (fun i _ => by rw [Nat.zero_add]))
  generalize ((List.range' 0 (namesN t).length).zip (namesN t)).filter (fun x => decide (x.2 ∈ zs)) = pl at hpl hll hix ⊢
  walk_at "dlt"
  refine wE_lcM (only_name (by simp)) intsD (fun T => .int (heldL (namesN t) zs T)) (wI_any ?_)
  walk_at "dlt"
  refine ⟨_, rfl, ts, rfl, by omega, fun T hT => ?_, ?_⟩
  · have Tl := tl T hT
    walk_at "dlt"
    refine wE_lcM (only_name (by simp)) (fun x : Nat × Str => .int (x.1 : Nat)) (fun x => .int (T.getD x.1 0)) (wI_any ?_)
    walk_at "dlt"
    refine ⟨_, rfl, pl, rfl, by omega, fun x hx => ?_, ?_⟩
    · have xl := hpl x hx
      unfold intsD
      walk_at "dlt"
      refine ixG_t (L2.atI_nat (by rw [List.getElem?_map, List.getElem?_eq_getElem (by omega)]; rfl)) ?_
      rw [getD_of (List.getElem?_eq_getElem (by omega))]
    walk_at "dlt"
    rw [show pl.map (fun x => D.int (T.getD x.1 0)) = (pl.map fun x => T.getD x.1 0).map D.int by rw [List.map_map]; rfl]
    refine sumG_l ?_
    rw [hix T hT]
  walk_at "dlt"
  exact q
theorem zipD_self {α : Type} {f g : α → D} : ∀ l : List α, zipD (l.map f) (l.map g) = l.map fun x => .tup [f x, g x]
  | [] => rfl
  | x :: l => by
    have := zipD_self (f := f) (g := g) l
    unfold zipD at this ⊢
    rw [List.map_cons, List.map_cons, List.zipWith_cons_cons, this]
    rfl
theorem cnt_all : ∀ i ≤ 5, ∀ l ≤ 12, cnt i l ≤ 6188 := by decide +kernel
theorem all_len {t : Tri} (h : TriOk t) : (allT t).length ≤ 6188 := by
  have f1 := h.f.l1
  have f2 := h.f.l2
  have d2 := h.d.l2
  have e : (allB t.2.1.length (t.1.length : Int)).length = t.2.1.length := List.length_replicate
  refine Nat.le_trans (tabs_len (fun z => by rw [z] at e; simp at e; omega) (fun b hb => ?_) (by omega)) (cnt_all _ (by omega) _ (by omega))
  unfold allB at hb
  rw [(List.mem_replicate.mp hb).2]
  exact Int.le_refl _
structure IsMargin (t : Tri) (zs : List Str) (k m : Int) : Prop where
  nn : 0 ≤ m
  ex : ∃ T, TabIn t T ∧ LvlOk t T ∧ k ≤ heldL (namesN t) zs T ∧ farN t T = m
  le : ∀ T, TabIn t T → k ≤ heldL (namesN t) zs T → LvlOk t T ∧ m ≤ farN t T
def S_margin (C : Addr) : DSp := fun ds Φ _ => ∃ (t : Tri) (zs : List Str) (k : Int), ds = [nightD C t, strsD zs, .int k] ∧ TriOk t ∧ BlocOk (namesN t) zs ∧ 0 ≤ k ∧ k ≤ t.1.length ∧ ∀ m, IsMargin t zs k m → Φ (.int m)
abbrev s_margin : Stmt := topS 85
abbrev N_margin : List Str := ["night", "bloc", "seats", "tables", "enough", "table", "held", "lacks"]
theorem sc_margin : FnScope N_margin ["night", "bloc", "seats"] (defScope s_margin) := ⟨rfl, rfl, rfl, by decide +kernel, rfl, by decide +kernel, by decide +kernel⟩
theorem ok_margin (F : FunX K "margin" "margin" s_margin f fd) (B : Blt mg) (c_check_night : CallD P w K mg base "check_night" 1 (S_check_night C)) (c_check_bloc : CallD P w K mg base "check_bloc" 4 (S_check_bloc C)) (c_check_seats : CallD P w K mg base "check_seats" 3 (S_check_seats C)) (c_seats_in : CallD P w K mg base "seats_in" 4 (S_seats_in C)) (c_least_lacks : CallD P w K mg base "least_lacks" 4 S_least_lacks) (c_counts_of : CallD P w K mg base "counts_of" 1 S_counts_of)
    (c_p_divisors : PropB P w K mg base C "divisors" 1 (S_getD C)) (c_p_parties : PropB P w K mg base C "parties" 1 (S_getP C)) (c_m_tables : MethB P w K mg base C "tables" 1 (S_tablesN C) 0 [] [] []) : FnG P w K mg base 6 f fd ["night", "bloc", "seats"] (lift K (S_margin C)) := by
  refine fnX_of F sc_margin (fun ds Φ Ψ ⟨_, _, _, h, _⟩ => by rw [h]; rfl) fun cdv A outer s H E b => ⟨_, (pss_cons (ps_expr (k_cd K c_check_night (by exact b.room) (by decide) b.pass (pa_cons (pv 0) pa_nil)))
 (pss_cons (ps_expr (k_cd K c_check_bloc (by exact b.room) (by decide) b.pass (pa_cons (pv 0) (pa_cons (pv 1) pa_nil))))
 (pss_cons (ps_expr (k_cd K c_check_seats (by exact b.room) (by decide) b.pass (pa_cons (pv 0) (pa_cons (pv 2) pa_nil))))
 (pss_cons (ps_set (i := 3) sc_margin.nd rfl (by first | exact .inl rfl | exact .inr rfl) (k_mm K c_m_tables (by exact b.room) (by decide) b.pass (pv 0) pa_nil pk_nil))
 (pss_cons (ps_setLc (i := 4) (own := [("table", 5), ("held", 6)]) rfl sc_margin.nd rfl rfl (sw_true rfl rfl rfl (by decide +kernel)) (k_zipK K (by rfl) B.zip (pa_cons (pv 3) (pa_cons (k_cd K c_seats_in (by exact b.room) (by decide) b.pass (pa_cons (pv 0) (pa_cons (pv 1) (pa_cons (pv 3) pa_nil)))) pa_nil))) (blkOk_by (own := [("table", 5), ("held", 6)]) (N := N_margin) (sc := defScope s_margin) (by decide +kernel))  (fun _ _ _ _ _ => (k_pg K (n := 2) rfl (pgs_cons (pg_name (i := 5) sc_margin.nd rfl (by first | exact .inl rfl | exact .inr rfl)) (pgs_cons (pg_name (i := 6) sc_margin.nd rfl (by first | exact .inl rfl | exact .inr rfl)) pgs_nil)))) (fun _ _ _ _ _ => (pts_one (pt_cmpR op_ge (pv 6) (pv 2) (nomark _)))) (fun _ _ _ _ _ => (pv 5)))
 (pss_one (ps_ret (pe_callB (k_minL K rfl) (by rfl) B.min bb_min (pa_cons (pe_lc (own := [("lacks", 7)]) rfl sc_margin.nd (k_any K (k_cd K c_least_lacks (by exact b.room) (by decide) b.pass (pa_cons (k_pr K c_p_divisors (by exact b.room) (by decide) (pv 0)) (pa_cons (k_cd K c_counts_of (by exact b.room) (by decide) b.pass (pa_cons (k_pr K c_p_parties (by exact b.room) (by decide) (pv 0)) pa_nil)) (pa_cons (pv 4) pa_nil))))) (blkOk_by (own := [("lacks", 7)]) (N := N_margin) (sc := defScope s_margin) (by decide +kernel))  (fun _ _ _ _ _ => (pg_name (i := 7) sc_margin.nd rfl (by first | exact .inl rfl | exact .inr rfl))) (fun _ _ _ _ _ => pts_nil) (fun _ _ _ _ _ => (pe_callB (k_sumA K rfl) (by rfl) B.sum bb_sum (pa_cons (pv 7) pa_nil)))) pa_nil))))))))), fun ds Φ Ψ ⟨t, zs, k, h, ht, hb, k0, k1, q⟩ => ?_⟩
  subst h
  show wS _ _ _ [some (.dat _), some (.dat _), some (.dat _), none, none, none, none, none]
  walk_at "dlt"
  refine ⟨t, rfl, ?_⟩
  walk_at "dlt"
  refine ⟨t, zs, rfl, ht, hb, ?_⟩
  walk_at "dlt"
  refine ⟨t, k, rfl, k0, k1, ?_⟩
  walk_at "dlt"
  refine ⟨_, rfl, rfl, ?_⟩
  walk_at "dlt"
  refine ⟨rfl, rfl, t, rfl, ht, ?_⟩
  have al := all_len ht
  have f1 := ht.f.l1
  have f2 := ht.f.l2
  have cl := cnt_len t
  walk_at "dlt"
  refine wE_lcF (only_pair (by simp) (by simp)) (fun T => .tup [intsD T, .int (heldL (namesN t) zs T)]) intsD (fun T => decide (k ≤ heldL (namesN t) zs T)) (wI_zipTL ?_)
  walk_at "dlt"
  refine ⟨t, zs, allT t, rfl, ht, by omega, fun T hT => ((all_in ht).mp hT).l, ?_⟩
  walk_at "dlt"
  refine ⟨_, _, rfl, allT t, zipD_self _, by omega, fun T hT => ?_, ?_⟩
  · walk_at "dlt"
    refine ⟨rfl, fun _ => ?_⟩
    walk_at "dlt"
    rfl
  have em : ∀ T ∈ (allT t).filter (fun T => decide (k ≤ heldL (namesN t) zs T)), TabIn t T ∧ k ≤ heldL (namesN t) zs T := fun T hT => by
    obtain ⟨a, b⟩ := List.mem_filter.mp hT
    exact ⟨(all_in ht).mp a, of_decide_eq_true b⟩
  have ma : ∀ T, TabIn t T → k ≤ heldL (namesN t) zs T → T ∈ (allT t).filter (fun T => decide (k ≤ heldL (namesN t) zs T)) := fun T h1 h2 => List.mem_filter.mpr ⟨(all_in ht).mpr h1, decide_eq_true h2⟩
  have ne : 0 < ((allT t).filter (fun T => decide (k ≤ heldL (namesN t) zs T))).length := by
    obtain ⟨T, hT, e⟩ := all_some ht hb
    exact List.length_pos_of_mem (ma T ((all_in ht).mp hT) (by omega))
  have el : ((allT t).filter (fun T => decide (k ≤ heldL (namesN t) zs T))).length ≤ 6188 := Nat.le_trans (List.length_filter_le _ _) al
  generalize (allT t).filter (fun T => decide (k ≤ heldL (namesN t) zs T)) = ts at em ma ne el ⊢
  walk_at "dlt"
  refine wE_lcM (only_name (by simp)) (fun T => intsD (lacksN t.1 (countsN t) T)) (fun T => .int (farN t T)) (wI_any ?_)
  walk_at "dlt"
  refine ⟨_, rfl, t.1, t.2.1, t.2.2, rfl, ?_⟩
  walk_at "dlt"
  refine ⟨_, rfl, t.1, t.2.1, t.2.2, rfl, ?_⟩
  walk_at "dlt"
  refine ⟨t.2.1, rfl, by omega, ?_⟩
  walk_at "dlt"
  refine ⟨false, t.1, countsN t, 1000000, ts, by unfold countsN; rw [List.map_map]; rfl, ⟨ht.d, by omega, by omega, by decide, counts_bd ht, by omega, fun T hT => ⟨by rw [(em T hT).1.l, cl], tab_le (em T hT).1⟩⟩, fun hl => ?_⟩
  have lo : ∀ T ∈ ts, LvlOk t T := fun T hT => ⟨(hl T hT).1, (hl T hT).2.1, (hl T hT).2.2⟩
  walk_at "dlt"
  refine ⟨_, rfl, ts, rfl, by omega, fun T hT => ?_, ?_⟩
  · unfold intsD
    walk_at "dlt"
    refine sumG_t ?_
    rfl
  walk_at "dlt"
  rw [show ts.map (fun T => D.int (farN t T)) = (ts.map (farN t)).map D.int by rw [List.map_map]; rfl]
  refine minLG_i (by rw [List.length_map]; exact ne) fun m hm hmin => ?_
  obtain ⟨T, hT, rfl⟩ := List.mem_map.mp hm
  refine q _ ⟨?_, ⟨T, (em T hT).1, lo T hT, (em T hT).2, rfl⟩, fun T' h1 h2 => ⟨lo T' (ma T' h1 h2), hmin _ (List.mem_map.mpr ⟨T', ma T' h1 h2, rfl⟩)⟩⟩
  exact sum_nn0 fun x hx => by
    obtain ⟨z, hz, rfl⟩ := List.mem_map.mp hx
    exact (lack_bd (em T hT).1 (lo T hT) z hz).1
end
/-! ### groups of parties -/
local macro_rules | `(tactic| walk_at "blk") => `(tactic| first | decide +kernel | rfl)
/-- the mask of those chosen -/
def maskN (zs : List Str) : List Str → Nat
  | [] => 0
  | z :: names => (if z ∈ zs then 1 else 0) + 2 * maskN zs names
/-- the sum over a group -/
def gsm : List Int → Nat → Int
  | [], _ => 0
  | x :: xs, g => (if g % 2 = 1 then x else 0) + gsm xs (g / 2)
theorem gsm_lo {x : Int} : ∀ {xs : List Int} {g : Nat}, g < 2 ^ xs.length → gsm (xs ++ [x]) g = gsm xs g
  | [], g, h => by
    have : g = 0 := by simpa using h
    subst this
    rfl
  | y :: xs, g, h => by
    rw [List.length_cons, Nat.pow_succ] at h
    show _ + gsm (xs ++ [x]) (g / 2) = _ + gsm xs (g / 2)
    rw [gsm_lo (by omega)]
theorem gsm_hi {x : Int} : ∀ {xs : List Int} {g : Nat}, g < 2 ^ xs.length → gsm (xs ++ [x]) (2 ^ xs.length + g) = gsm xs g + x
  | [], g, h => by
    have : g = 0 := by simpa using h
    subst this
    show x + 0 = 0 + x
    omega
  | y :: xs, g, h => by
    rw [List.length_cons, Nat.pow_succ] at h
    have e1 : (2 ^ (y :: xs).length + g) % 2 = g % 2 := by rw [List.length_cons, Nat.pow_succ]; omega
    have e2 : (2 ^ (y :: xs).length + g) / 2 = 2 ^ xs.length + g / 2 := by rw [List.length_cons, Nat.pow_succ]; omega
    show (if (2 ^ (y :: xs).length + g) % 2 = 1 then y else 0) + gsm (xs ++ [x]) ((2 ^ (y :: xs).length + g) / 2) = (if g % 2 = 1 then y else 0) + gsm xs (g / 2) + x
    rw [e1, e2, gsm_hi (by omega)]
    omega
theorem sums_next (xs : List Int) (x : Int) : (List.range (2 ^ (xs ++ [x]).length)).map (gsm (xs ++ [x])) = (List.range (2 ^ xs.length)).map (gsm xs) ++ ((List.range (2 ^ xs.length)).map (gsm xs)).map (· + x) := by
  rw [List.length_append, List.length_singleton, Nat.pow_succ, Nat.mul_two, List.range_add, List.map_append, List.map_map, List.map_map]
  congr 1
  · exact List.map_congr_left fun g hg => gsm_lo (List.mem_range.mp hg)
  · exact List.map_congr_left fun g hg => gsm_hi (List.mem_range.mp hg)
theorem gsm_top : ∀ (xs : List Int), gsm xs (2 ^ xs.length - 1) = xs.sum
  | [] => rfl
  | x :: xs => by
    have p : 0 < 2 ^ xs.length := Nat.two_pow_pos _
    have e1 : (2 ^ (x :: xs).length - 1) % 2 = 1 := by rw [List.length_cons, Nat.pow_succ]; omega
    have e2 : (2 ^ (x :: xs).length - 1) / 2 = 2 ^ xs.length - 1 := by rw [List.length_cons, Nat.pow_succ]; omega
    show (if (2 ^ (x :: xs).length - 1) % 2 = 1 then x else 0) + gsm xs ((2 ^ (x :: xs).length - 1) / 2) = _
    rw [e1, e2, if_pos rfl, gsm_top xs, List.sum_cons]
/-- one party more in a group makes no sum less -/
theorem gsm_or : ∀ {xs : List Int} {g i : Nat}, (∀ x ∈ xs, 0 ≤ x) → gsm xs g ≤ gsm xs (g ||| 2 ^ i)
  | [], _, _, _ => Int.le_refl _
  | x :: xs, g, i, h => by
    have h' : ∀ y ∈ xs, 0 ≤ y := fun y hy => h y (List.mem_cons_of_mem _ hy)
    have x0 := h x List.mem_cons_self
    show (if g % 2 = 1 then x else 0) + gsm xs (g / 2) ≤ (if (g ||| 2 ^ i) % 2 = 1 then x else 0) + gsm xs ((g ||| 2 ^ i) / 2)
    have d : (g ||| 2 ^ i) / 2 = g / 2 ||| 2 ^ i / 2 := Nat.or_div_two
    have m : (g ||| 2 ^ i) % 2 = (g % 2) ||| (2 ^ i % 2) := by
      have := Nat.or_mod_two_eq_one (a := g) (b := 2 ^ i)
      rcases Nat.mod_two_eq_zero_or_one g with a | a <;> rcases Nat.mod_two_eq_zero_or_one (2 ^ i) with b | b <;> rcases Nat.mod_two_eq_zero_or_one (g ||| 2 ^ i) with c | c <;> rw [a, b, c] at this ⊢ <;> first | rfl | (exfalso; revert this; decide)
    cases i with
    | zero =>
      rw [d, m, show (2 : Nat) ^ 0 / 2 = 0 from rfl, Nat.or_zero]
      rcases Nat.mod_two_eq_zero_or_one g with a | a <;> rw [a] <;> simp <;> omega
    | succ i =>
      have e : (2 : Nat) ^ (i + 1) / 2 = 2 ^ i := by rw [Nat.pow_succ]; omega
      have z : (2 : Nat) ^ (i + 1) % 2 = 0 := by rw [Nat.pow_succ]; omega
      rw [d, m, e, z, Nat.or_zero]
      have := gsm_or (i := i) (g := g / 2) h'
      omega
section
variable {P : Program} {w : World} {K : PySem.W.Frag} {mg : Str → Option Value} {base : Heap} {f C : Addr} {fd : FuncData}
def S_group_of : DSp := fun ds Φ _ => ∃ names zs : List Str, ds = [strsD names, strsD zs] ∧ names.length ≤ 6 ∧ Φ (.int (maskN zs names : Nat))
theorem mask_sum (zs : List Str) : ∀ (names : List Str) (o : Nat), ((((List.range' o names.length).zip names).filter fun x => decide (x.2 ∈ zs)).map fun x => ((2 ^ x.1 : Nat) : Int)).sum = ((2 ^ o * maskN zs names : Nat) : Int)
  | [], o => rfl
  | z :: names, o => by
    have ih := mask_sum zs names (o + 1)
    rw [List.length_cons, List.range'_succ, List.zip_cons_cons]
    unfold maskN
    by_cases c : z ∈ zs
    · rw [List.filter_cons_of_pos (by exact decide_eq_true c), List.map_cons, List.sum_cons, ih, if_pos c, ← Int.natCast_add]
      refine congrArg Nat.cast ?_
      show 2 ^ o + _ = _
      rw [Nat.mul_add, Nat.mul_one, Nat.pow_succ, Nat.mul_assoc]
    · rw [List.filter_cons_of_neg (by rw [decide_eq_true_eq]; exact c), ih, if_neg c]
      refine congrArg Nat.cast ?_
      rw [Nat.zero_add, Nat.pow_succ, Nat.mul_assoc]
abbrev s_group_of : Stmt := topS 55
abbrev N_group_of : List Str := ["names", "chosen", "index", "name"]
theorem sc_group_of : FnScope N_group_of ["names", "chosen"] (defScope s_group_of) := ⟨rfl, rfl, rfl, by decide +kernel, rfl, by decide +kernel, by decide +kernel⟩
theorem ok_group_of (F : FunX K "group_of" "group_of" s_group_of f fd) (B : Blt mg) : FnG P w K mg base 1 f fd ["names", "chosen"] (lift K S_group_of) := by
  refine fnX_of F sc_group_of (fun ds Φ Ψ ⟨_, _, h, _⟩ => by rw [h]; rfl) fun cdv A outer s H E b => ⟨_, (pss_one (ps_ret (pe_callB (k_sumA K rfl) (by rfl) B.sum bb_sum (pa_cons (pe_lc (own := [("index", 2), ("name", 3)]) rfl sc_group_of.nd (k_enum K (by rfl) B.enumerate (pa_cons (pv 0) pa_nil)) (blkOk_by (own := [("index", 2), ("name", 3)]) (N := N_group_of) (sc := defScope s_group_of) (by decide +kernel))  (fun _ _ _ _ _ => (k_pg K (n := 2) rfl (pgs_cons (pg_name (i := 2) sc_group_of.nd rfl (by first | exact .inl rfl | exact .inr rfl)) (pgs_cons (pg_name (i := 3) sc_group_of.nd rfl (by first | exact .inl rfl | exact .inr rfl)) pgs_nil)))) (fun _ _ _ _ _ => (pts_one (pt_cmpR (k_in K) (pv 3) (pv 1) (by with_unfolding_all rfl)))) (fun _ _ _ _ _ => (pe_op op_shl pe_int (pv 2)))) pa_nil)))), fun ds Φ Ψ ⟨names, zs, h, l6, q⟩ => ?_⟩
  subst h
  show wS _ _ _ [some (.dat _), some (.dat _), none, none]
  walk_at "dlt"
  refine wE_lcF (only_pair (by simp) (by simp)) nmE (fun x => .int ((2 ^ x.1 : Nat) : Int)) (fun x => decide (x.2 ∈ zs)) (wI_enumT ?_)
  unfold strsD
  walk_at "dlt"
  refine ⟨_, rfl, ?_⟩
  rw [enum_names]
  have zl : ((List.range' 0 names.length).zip names).length ≤ 6 := by rw [List.length_zip]; omega
  refine ⟨_, rfl, by omega, fun x hx => ?_, ?_⟩
  · have xl : x.1 < 6 := by
      have := (List.of_mem_zip (a := x.1) (b := x.2) hx).1
      rw [List.mem_range'_1] at this
      omega
    unfold nmE
    walk_at "dlt"
    refine inSG_t ?_
    refine ⟨_, rfl, rfl, fun _ => ?_⟩
    walk_at "dlt"
    refine shlG_1 (by omega) ?_
    rfl
  have := mask_sum zs names 0
  rw [Nat.pow_zero, Nat.one_mul] at this
  rw [← this] at q
  generalize ((List.range' 0 names.length).zip names).filter (fun x => decide (x.2 ∈ zs)) = l at q ⊢
  rw [show l.map (fun x => D.int ((2 ^ x.1 : Nat) : Int)) = (l.map fun x => ((2 ^ x.1 : Nat) : Int)).map D.int by rw [List.map_map]; rfl]
  refine wA_nil ?_
  refine sumG_l ?_
  exact q
end
/-! ### groups: rooms, sums, what is enough -/
local macro_rules | `(tactic| walk_at "blk") => `(tactic| first | decide +kernel | rfl)
def roomG (names : List Str) (piles : List (Int × List Str)) (g : Nat) : Int := ((piles.filter fun p => maskN p.2 names &&& g != 0).map (·.1)).sum
def tightB (n : Nat) (R : Nat → Int) (g : Nat) : Bool := (List.range n).all fun i => (g &&& 2 ^ i != 0) || decide (R g < R (g ||| 2 ^ i))
def tightL (n : Nat) (R : Nat → Int) : List Nat := (List.range (2 ^ n)).filter (tightB n R)
def grD (R : Nat → Int) (g : Nat) : D := .tup [.int (g : Nat), .int (R g)]
def enoughP (xs : List Int) (R : Nat → Int) : Prop := ∀ g < 2 ^ xs.length, gsm xs g ≤ R g
theorem or_next {n g i : Nat} (hg : g < 2 ^ n) (hi : i < n) (h0 : g &&& 2 ^ i = 0) : g < g ||| 2 ^ i ∧ g ||| 2 ^ i < 2 ^ n := by
  have p : 0 < 2 ^ i := Nat.two_pow_pos i
  refine ⟨?_, Nat.or_lt_two_pow hg (Nat.pow_lt_pow_right (by decide) hi)⟩
  have ne : g ≠ g ||| 2 ^ i := fun e => by
    have : (g ||| 2 ^ i) &&& 2 ^ i = 2 ^ i := by
      apply Nat.eq_of_testBit_eq
      intro j
      rw [Nat.testBit_and, Nat.testBit_or]
      cases Nat.testBit g j <;> cases Nat.testBit (2 ^ i) j <;> rfl
    rw [← e, h0] at this
    omega
  have := Nat.left_le_or (n := g) (m := 2 ^ i)
  omega
theorem tight_all {xs : List Int} {R : Nat → Int} (h0 : ∀ x ∈ xs, 0 ≤ x) (h : ∀ g ∈ tightL xs.length R, gsm xs g ≤ R g) : ∀ (k g : Nat), 2 ^ xs.length - g ≤ k → g < 2 ^ xs.length → gsm xs g ≤ R g
  | 0, g, hk, hg => by omega
  | k + 1, g, hk, hg => by
    by_cases t : tightB xs.length R g = true
    · exact h g (List.mem_filter.mpr ⟨List.mem_range.mpr hg, t⟩)
    · unfold tightB at t
      rw [Bool.not_eq_true, List.all_eq_false] at t
      obtain ⟨i, hi, hn⟩ := t
      have hi := List.mem_range.mp hi
      rw [Bool.or_eq_true, not_or, decide_eq_true_eq] at hn
      have z : g &&& 2 ^ i = 0 := by
        have := hn.1
        simpa using this
      obtain ⟨lt, lt2⟩ := or_next hg hi z
      have := tight_all h0 h k (g ||| 2 ^ i) (by omega) lt2
      have := gsm_or (g := g) (i := i) h0
      have := hn.2
      omega
theorem top_bit {n i : Nat} (h : i < n) : (2 ^ n - 1) &&& 2 ^ i ≠ 0 := by
  intro e
  have : ((2 ^ n - 1) &&& 2 ^ i).testBit i = true := by
    rw [Nat.testBit_and, Nat.testBit_two_pow_sub_one, Nat.testBit_two_pow_self, decide_eq_true h]
    rfl
  rw [e] at this
  simp at this
theorem tight_top (n : Nat) (R : Nat → Int) : ∃ l, tightL n R = l ++ [2 ^ n - 1] := by
  have p : 0 < 2 ^ n := Nat.two_pow_pos n
  have e : List.range (2 ^ n) = List.range (2 ^ n - 1) ++ [2 ^ n - 1] := by
    conv => lhs; rw [show 2 ^ n = (2 ^ n - 1) + 1 by omega, List.range_succ]
  unfold tightL
  rw [e, List.filter_append]
  refine ⟨_, congrArg _ (List.filter_cons_of_pos ?_)⟩
  exact List.all_eq_true.mpr fun i hi => by
    have := top_bit (List.mem_range.mp hi)
    rw [Bool.or_eq_true]
    exact .inl (by simpa using this)
theorem bits_pow : ∀ n ≤ 6, Builtin.Int.intBits ((2 ^ n : Nat) : Int) = n + 1 := by decide +kernel
theorem sum_all0 : ∀ {xs : List Int}, (∀ x ∈ xs, 0 ≤ x) → xs.sum = 0 → ∀ g, gsm xs g = 0
  | [], _, _, _ => rfl
  | x :: xs, h, hs, g => by
    have h' : ∀ y ∈ xs, 0 ≤ y := fun y hy => h y (List.mem_cons_of_mem _ hy)
    have x0 := h x List.mem_cons_self
    have s0 := sum_nn h'
    rw [List.sum_cons] at hs
    have := sum_all0 h' (by omega) (g / 2)
    show (if g % 2 = 1 then x else 0) + gsm xs (g / 2) = 0
    rw [this]
    split <;> omega
section
variable {P : Program} {w : World} {K : PySem.W.Frag} {mg : Str → Option Value} {base : Heap} {f C : Addr} {fd : FuncData}
def roomsD (n : Nat) (R : Nat → Int) : D := .lst ((List.range (2 ^ n)).map fun g => .int (R g))
def S_group_rooms : DSp := fun ds Φ _ => ∃ (names : List Str) (piles : List (Int × List Str)), ds = [strsD names, heapsD piles] ∧ names.length ≤ 6 ∧ piles.length ≤ 6 ∧ Φ (roomsD names.length (roomG names piles))
theorem range_nat (n : Nat) : rangeD 0 (n : Int) = (List.range n).map fun g : Nat => D.int (g : Int) := by
  unfold rangeD
  rw [show ((n : Int) - 0).toNat = n by omega]
  exact List.map_congr_left fun g _ => congrArg D.int (Int.zero_add _)
theorem pow6 {n : Nat} (h : n ≤ 6) : 2 ^ n ≤ 64 := Nat.le_trans (Nat.pow_le_pow_right (by decide) h) (by decide)
theorem rg64 {N : Nat} (h : N ≤ 64) : -1000000 ≤ (N : Int) ∧ (N : Int) ≤ 1000000 := ⟨by omega, by omega⟩
abbrev s_group_rooms : Stmt := topS 57
abbrev N_group_rooms : List Str := ["names", "piles", "rows", "size", "chosen", "own", "group"]
theorem sc_group_rooms : FnScope N_group_rooms ["names", "piles"] (defScope s_group_rooms) := ⟨rfl, rfl, rfl, by decide +kernel, rfl, by decide +kernel, by decide +kernel⟩
theorem ok_group_rooms (F : FunX K "group_rooms" "group_rooms" s_group_rooms f fd) (B : Blt mg) (c_group_of : CallD P w K mg base "group_of" 1 S_group_of) : FnG P w K mg base 3 f fd ["names", "piles"] (lift K S_group_rooms) := by
  refine fnX_of F sc_group_rooms (fun ds Φ Ψ ⟨_, _, h, _⟩ => by rw [h]; rfl) fun cdv A outer s H E b => ⟨_, (pss_cons (ps_set (i := 2) sc_group_rooms.nd rfl (by first | exact .inl rfl | exact .inr rfl) (pe_lc (own := [("size", 3), ("chosen", 4)]) rfl sc_group_rooms.nd (k_any K (pv 1)) (blkOk_by (own := [("size", 3), ("chosen", 4)]) (N := N_group_rooms) (sc := defScope s_group_rooms) (by decide +kernel))  (fun _ _ _ _ _ => (k_pg K (n := 2) rfl (pgs_cons (pg_name (i := 3) sc_group_rooms.nd rfl (by first | exact .inl rfl | exact .inr rfl)) (pgs_cons (pg_name (i := 4) sc_group_rooms.nd rfl (by first | exact .inl rfl | exact .inr rfl)) pgs_nil)))) (fun _ _ _ _ _ => pts_nil) (fun _ _ _ _ _ => (pe_tup (pa_cons (pv 3) (pa_cons (k_cd K c_group_of (by exact b.room) (by decide) passN (pa_cons (pv 0) (pa_cons (pv 4) pa_nil))) pa_nil))))))
 (pss_one (ps_ret (pe_lc (own := [("group", 6)]) rfl sc_group_rooms.nd (pi_range1 (by rfl) B.range (pa_cons (pe_op op_shl pe_int (pe_callB (k_len K) (by rfl) B.len bb_len (pa_cons (pv 0) pa_nil))) pa_nil)) (blkOk_by (own := [("group", 6)]) (N := N_group_rooms) (sc := defScope s_group_rooms) (by decide +kernel))  (fun _ _ _ _ _ => (pg_name (i := 6) sc_group_rooms.nd rfl (by first | exact .inl rfl | exact .inr rfl))) (fun _ _ _ _ _ => pts_nil) (fun _ _ _ _ _ => (pe_callB (k_sumA K rfl) (by rfl) B.sum bb_sum (pa_cons (pe_lc (own := [("size", 3), ("own", 5)]) rfl sc_group_rooms.nd (k_any K (pv 2)) (blkOk_by (own := [("size", 3), ("own", 5)]) (N := N_group_rooms) (sc := _) (by walk_at "blk"))  (fun _ _ _ _ _ => (k_pg K (n := 2) rfl (pgs_cons (pg_name (i := 3) sc_group_rooms.nd rfl (by first | exact .inl rfl | exact .inr rfl)) (pgs_cons (pg_name (i := 5) sc_group_rooms.nd rfl (by first | exact .inl rfl | exact .inr rfl)) pgs_nil)))) (fun _ _ _ _ _ => (pts_one (pt_int (pe_op op_and (pv 5) (pv 6))))) (fun _ _ _ _ _ => (pv 3))) pa_nil))))))), fun ds Φ Ψ ⟨names, piles, h, l6, p6, q⟩ => ?_⟩
  subst h
  show wS _ _ _ [some (.dat _), some (.dat _), none, none, none, none, none]
  have p64 := pow6 l6
  have nl : (names.map D.str).length = names.length := List.length_map _
  walk_at "dlt"
  refine wE_lcM (only_pair (by simp) (by simp)) pileD (fun p => .tup [.int p.1, .int (maskN p.2 names : Nat)]) (wI_any ?_)
  unfold heapsD
  walk_at "dlt"
  refine ⟨_, rfl, piles, rfl, by omega, fun p hp => ?_, ?_⟩
  · unfold pileD
    walk_at "dlt"
    refine ⟨names, p.2, rfl, l6, ?_⟩
    walk_at "dlt"
    rfl
  walk_at "dlt"
  refine wE_lcM (only_name (by simp)) (fun g : Nat => .int (g : Int)) (fun g => .int (roomG names piles g)) (wI_range1 ?_)
  unfold strsD
  walk_at "dlt"
  rw [nl]
  refine shlG_1 (by omega) ?_
  walk_at "dlt"
  refine ⟨_, rfl, rg64 p64, List.range (2 ^ names.length), range_nat _, by rw [List.length_range]; omega, fun g hg => ?_, ?_⟩
  · walk_at "dlt"
    refine wE_lcF (only_pair (by simp) (by simp)) (fun p : Int × List Str => .tup [.int p.1, .int (maskN p.2 names : Nat)]) (fun p => .int p.1) (fun p => maskN p.2 names &&& g != 0) (wI_any ?_)
    walk_at "dlt"
    refine ⟨_, rfl, piles, rfl, by omega, fun p hp => ?_, ?_⟩
    · walk_at "dlt"
      refine andG_n ?_
      refine ⟨_, rfl, ?_⟩
      refine ⟨by rw [Bool.eq_iff_iff, bne_iff_ne, bne_iff_ne]; omega, fun _ => ?_⟩
      walk_at "dlt"
      rfl
    walk_at "dlt"
    rw [show (piles.filter fun p => maskN p.2 names &&& g != 0).map (fun p => D.int p.1) = ((piles.filter fun p => maskN p.2 names &&& g != 0).map (·.1)).map D.int by rw [List.map_map]; rfl]
    refine sumG_l ?_
    rfl
  walk_at "dlt"
  exact q
def S_group_sums : DSp := fun ds Φ _ => ∃ (p : Bool) (xs : List Int), ds = [seqD p (xs.map .int)] ∧ xs.length ≤ 6 ∧ Φ (roomsD xs.length (gsm xs))
abbrev s_group_sums : Stmt := topS 56
abbrev N_group_sums : List Str := ["numbers", "sums", "number", "smaller"]
theorem sc_group_sums : FnScope N_group_sums ["numbers"] (defScope s_group_sums) := ⟨rfl, rfl, rfl, by decide +kernel, rfl, by decide +kernel, by decide +kernel⟩
theorem ok_group_sums (F : FunX K "group_sums" "group_sums" s_group_sums f fd) : FnG P w K mg base 1 f fd ["numbers"] (lift K S_group_sums) := by
  refine fnX_of F sc_group_sums (fun ds Φ Ψ ⟨_, _, h, _⟩ => by rw [h]; rfl) fun cdv A outer s H E b => ⟨_, (pss_cons (ps_set (i := 1) sc_group_sums.nd rfl (by first | exact .inl rfl | exact .inr rfl) (pe_lst (pa_cons pe_int pa_nil)))
 (pss_cons (ps_for b.own rfl (k_any K (pv 0)) (pg_name (i := 2) sc_group_sums.nd rfl (by first | exact .inl rfl | exact .inr rfl)) (pss_one (ps_set (i := 1) sc_group_sums.nd rfl (by first | exact .inl rfl | exact .inr rfl) (pe_op (k_add K) (pv 1) (pe_lc (own := [("smaller", 3)]) rfl sc_group_sums.nd (k_any K (pv 1)) (blkOk_by (own := [("smaller", 3)]) (N := N_group_sums) (sc := defScope s_group_sums) (by decide +kernel))  (fun _ _ _ _ _ => (pg_name (i := 3) sc_group_sums.nd rfl (by first | exact .inl rfl | exact .inr rfl))) (fun _ _ _ _ _ => pts_nil) (fun _ _ _ _ _ => (pe_op (k_add K) (pv 3) (pv 2))))))))
 (pss_one (ps_ret (pv 1))))), fun ds Φ Ψ ⟨p, xs, h, l6, q⟩ => ?_⟩
  subst h
  show wS _ _ _ [some (.dat _), none, none, none]
  walk_at "dlt"
  refine wS_forT D.int (fun i ρ' => ∃ y1 x2 x3 : Option Sl, ρ' = [some (.dat (seqD p (xs.map D.int))), y1, x2, x3] ∧ (y1 = some (.own none (.lst (((List.range (2 ^ i)).map (gsm (xs.take i))).map D.int))) ∨ y1 = some (.dat (.lst (((List.range (2 ^ i)).map (gsm (xs.take i))).map D.int))))) (wI_any ?_)
  walk_at "dlt"
  refine ⟨xs.map D.int, by cases p <;> rfl, xs, rfl, ⟨_, _, _, rfl, .inl rfl⟩, fun i x ρ' hi ⟨y1, x2, x3, e, hy⟩ => ?_, fun ρ' ⟨y1, x2, x3, e, hy⟩ => ?_⟩
  · subst e
    have il := (List.getElem?_eq_some_iff.mp hi).1
    have tl : (xs.take i).length = i := by rw [List.length_take]; omega
    have p64 := pow6 (show i ≤ 6 by omega)
    have nx := sums_next (xs.take i) x
    rw [← take_next hi, show (xs.take (i + 1)).length = i + 1 by rw [List.length_take]; omega, tl] at nx
    rw [nx]
    have sl : ((List.range (2 ^ i)).map (gsm (xs.take i))).length ≤ 64 := by rw [List.length_map, List.length_range]; exact p64
    generalize (List.range (2 ^ i)).map (gsm (xs.take i)) = ss at *
    rcases hy with rfl | rfl
    all_goals
      walk_at "dlt"
      refine wE_lcM (only_name (by simp)) D.int (fun y => .int (y + x)) (wI_any ?_)
      walk_at "dlt"
      refine ⟨_, rfl, ss, rfl, by omega, fun y hy => ?_, ?_⟩
      · walk_at "dlt"
        rfl
      walk_at "dlt"
      refine addG_l (by rw [List.length_map, List.length_map]; omega) ?_
      walk_at "dlt"
      refine ⟨_, _, _, rfl, .inr ?_⟩
      rw [List.map_append, List.map_map]
      rfl
  · subst e
    rw [List.take_length] at hy
    have e : ((List.range (2 ^ xs.length)).map (gsm xs)).map D.int = (List.range (2 ^ xs.length)).map fun g => .int (gsm xs g) := by rw [List.map_map]; rfl
    rw [e] at hy
    rcases hy with rfl | rfl
    all_goals
      walk_at "dlt"
      exact q
def tightD (n : Nat) (R : Nat → Int) : D := .lst ((tightL n R).map (grD R))
def S_tight : DSp := fun ds Φ _ => ∃ (n : Nat) (R : Nat → Int), ds = [roomsD n R] ∧ n ≤ 6 ∧ Φ (tightD n R)
def bitE (R : Nat → Int) (g i : Nat) : Int ⊕ Bool := if g &&& 2 ^ i = 0 then .inr (decide (R g < R (g ||| 2 ^ i))) else .inl ((g &&& 2 ^ i : Nat) : Int)
theorem bitE_t (R : Nat → Int) (g i : Nat) : ibT (bitE R g i) = ((g &&& 2 ^ i != 0) || decide (R g < R (g ||| 2 ^ i))) := by
  unfold bitE
  by_cases c : g &&& 2 ^ i = 0
  · rw [if_pos c, c]
    rfl
  · rw [if_neg c]
    show ((((g &&& 2 ^ i : Nat) : Int)) != 0) = _
    rw [show ((((g &&& 2 ^ i : Nat) : Int)) != 0) = true from bne_iff_ne.mpr (by omega), show (g &&& 2 ^ i != 0) = true from bne_iff_ne.mpr c]
    rfl
theorem enum_rooms (n : Nat) (R : Nat → Int) : enumD ((List.range (2 ^ n)).map fun g => D.int (R g)) = (List.range (2 ^ n)).map (grD R) := by
  unfold enumD
  rw [List.length_map, List.length_range]
  generalize List.range (2 ^ n) = l
  induction l with
  | nil => rfl
  | cons g l ih => rw [List.map_cons, List.zipWith_cons_cons, ih, List.map_cons]; rfl
abbrev s_tight_rooms : Stmt := topS 58
abbrev N_tight_rooms : List Str := ["rooms", "bits", "index", "group", "room", "bit"]
theorem sc_tight_rooms : FnScope N_tight_rooms ["rooms"] (defScope s_tight_rooms) := ⟨rfl, rfl, rfl, by decide +kernel, rfl, by decide +kernel, by decide +kernel⟩
theorem ok_tight (F : FunX K "tight_rooms" "tight_rooms" s_tight_rooms f fd) (B : Blt mg) : FnG P w K mg base 1 f fd ["rooms"] (lift K S_tight) := by
  refine fnX_of F sc_tight_rooms (fun ds Φ Ψ ⟨_, _, h, _⟩ => by rw [h]; rfl) fun cdv A outer s H E b => ⟨_, (pss_cons (ps_set (i := 1) sc_tight_rooms.nd rfl (by first | exact .inl rfl | exact .inr rfl) (pe_lc (own := [("index", 2)]) rfl sc_tight_rooms.nd (pi_range1 (by rfl) B.range (pa_cons (pe_op op_sub (pe_bits (pe_callB (k_len K) (by rfl) B.len bb_len (pa_cons (pv 0) pa_nil))) pe_int) pa_nil)) (blkOk_by (own := [("index", 2)]) (N := N_tight_rooms) (sc := defScope s_tight_rooms) (by decide +kernel))  (fun _ _ _ _ _ => (pg_name (i := 2) sc_tight_rooms.nd rfl (by first | exact .inl rfl | exact .inr rfl))) (fun _ _ _ _ _ => pts_nil) (fun _ _ _ _ _ => (pe_op op_shl pe_int (pv 2)))))
 (pss_one (ps_ret (pe_lc (own := [("group", 3), ("room", 4)]) rfl sc_tight_rooms.nd (k_enumL K (by rfl) B.enumerate (pa_cons (pv 0) pa_nil)) (blkOk_by (own := [("group", 3), ("room", 4)]) (N := N_tight_rooms) (sc := defScope s_tight_rooms) (by decide +kernel))  (fun _ _ _ _ _ => (k_pg K (n := 2) rfl (pgs_cons (pg_name (i := 3) sc_tight_rooms.nd rfl (by first | exact .inl rfl | exact .inr rfl)) (pgs_cons (pg_name (i := 4) sc_tight_rooms.nd rfl (by first | exact .inl rfl | exact .inr rfl)) pgs_nil)))) (fun _ _ _ _ _ => (pts_one (pt_val (pe_callB (k_allM K rfl) (by rfl) B.all bb_all (pa_cons (pe_lc (own := [("bit", 5)]) rfl sc_tight_rooms.nd (k_any K (pv 1)) (blkOk_by (own := [("bit", 5)]) (N := N_tight_rooms) (sc := _) (by walk_at "blk"))  (fun _ _ _ _ _ => (pg_name (i := 5) sc_tight_rooms.nd rfl (by first | exact .inl rfl | exact .inr rfl))) (fun _ _ _ _ _ => pts_nil) (fun _ _ _ _ _ => (pe_orI (pe_op op_and (pv 3) (pv 5)) (pe_one (pe_cmpR op_gt (pe_ix (k_ix K) (pv 0) (pe_op op_or (pv 3) (pv 5)) (fun _ _ => rfl)) (pv 4) (nomark _)))))) pa_nil))))) (fun _ _ _ _ _ => (pe_tup (pa_cons (pv 3) (pa_cons (pv 4) pa_nil)))))))), fun ds Φ Ψ ⟨n, R, h, l6, q⟩ => ?_⟩
  subst h
  show wS _ _ _ [some (.dat _), none, none, none, none, none]
  have p64 := pow6 l6
  have rl : ((List.range (2 ^ n)).map fun g => D.int (R g)).length = 2 ^ n := by rw [List.length_map, List.length_range]
  unfold roomsD
  walk_at "dlt"
  refine wE_lcM (only_name (by simp)) (fun i : Nat => .int (i : Int)) (fun i => .int ((2 ^ i : Nat) : Int)) (wI_range1 ?_)
  walk_at "dlt"
  refine ⟨_, rfl, ?_⟩
  rw [rl, bits_pow n l6]
  walk_at "dlt"
  rw [show (((n + 1 : Nat) : Int)) - 1 = ((n : Nat) : Int) by omega]
  refine ⟨rg64 (by omega), List.range n, range_nat _, by rw [List.length_range]; omega, fun i hi => ?_, ?_⟩
  · have := List.mem_range.mp hi
    walk_at "dlt"
    refine shlG_1 (by omega) ?_
    rfl
  walk_at "dlt"
  refine wE_lcF (only_pair (by simp) (by simp)) (grD R) (grD R) (tightB n R) (wI_enumL ?_)
  walk_at "dlt"
  refine ⟨_, rfl, ?_⟩
  rw [enum_rooms]
  refine ⟨_, rfl, by rw [List.length_range]; omega, fun g hg => ?_, ?_⟩
  · have gl := List.mem_range.mp hg
    unfold grD
    walk_at "dlt"
    refine wE_lcM (only_name (by simp)) (fun i : Nat => .int ((2 ^ i : Nat) : Int)) (fun i => ibD (bitE R g i)) (wI_any ?_)
    walk_at "dlt"
    refine ⟨_, rfl, List.range n, rfl, by rw [List.length_range]; omega, fun i hi => ?_, ?_⟩
    · have il := List.mem_range.mp hi
      walk_at "dlt"
      refine andG_n ?_
      refine ⟨_, rfl, ?_⟩
      unfold bitE
      by_cases c : g &&& 2 ^ i = 0
      · rw [if_pos c, c]
        rw [if_neg (by decide)]
        have lt := Nat.or_lt_two_pow gl (Nat.pow_lt_pow_right (by decide) il : 2 ^ i < 2 ^ n)
        walk_at "dlt"
        refine orG_n ?_
        refine ixG_l (L2.atI_nat (by rw [List.getElem?_map, List.getElem?_range lt]; rfl)) ?_
        walk_at "dlt"
        rfl
      · rw [if_neg c, if_pos (bne_iff_ne.mpr (by omega))]
        rfl
    walk_at "dlt"
    refine ⟨(List.range n).map (bitE R g), by rw [List.map_map]; rfl, ?_⟩
    have e : (((List.range n).map (bitE R g)).map ibT).all id = tightB n R g := by
      unfold tightB
      rw [List.map_map, List.all_map]
      congr 1
      funext i
      exact bitE_t R g i
    rw [e]
    refine ⟨_, rfl, rfl, fun _ => ?_⟩
    walk_at "dlt"
    rfl
  walk_at "dlt"
  exact q
theorem atI_last {α : Type} (l : List α) (x : α) : L2.atI (l ++ [x]) (-1) = some x := by
  unfold L2.atI L2.ixN
  simp
  rw [if_pos (by omega)]
  show (l ++ [x])[(-1 + ((l.length : Int) + 1)).toNat]? = some x
  rw [show (-1 + ((l.length : Int) + 1)).toNat = l.length by omega]
  simp
def S_is_enough : DSp := fun ds Φ _ => ∃ (xs : List Int) (R : Nat → Int), ds = [intsD xs, tightD xs.length R] ∧ xs.length ≤ 6 ∧ (∀ x ∈ xs, 0 ≤ x) ∧ (∀ g, 0 ≤ R g) ∧ ∀ b : Bool, (b = true ↔ enoughP xs R) → Φ (.bl b)
abbrev s_is_enough : Stmt := topS 59
abbrev N_is_enough : List Str := ["lacks", "tight", "together", "sums", "group", "room"]
theorem sc_is_enough : FnScope N_is_enough ["lacks", "tight"] (defScope s_is_enough) := ⟨rfl, rfl, rfl, by decide +kernel, rfl, by decide +kernel, by decide +kernel⟩
theorem ok_is_enough (F : FunX K "is_enough" "is_enough" s_is_enough f fd) (B : Blt mg) (c_group_sums : CallD P w K mg base "group_sums" 1 S_group_sums) : FnG P w K mg base 2 f fd ["lacks", "tight"] (lift K S_is_enough) := by
  refine fnX_of F sc_is_enough (fun ds Φ Ψ ⟨_, _, h, _⟩ => by rw [h]; rfl) fun cdv A outer s H E b => ⟨_, (pss_cons (ps_set (i := 2) sc_is_enough.nd rfl (by first | exact .inl rfl | exact .inr rfl) (pe_callB (k_sumA K rfl) (by rfl) B.sum bb_sum (pa_cons (pv 0) pa_nil)))
 (pss_cons (ps_if (PW.pt (pw_or (pt_cmpR (k_eq K (by exact b.room)) (pv 2) pe_int (nomark _)) (pw_or1 (pt_cmpR op_gt (pv 2) (pe_ix (k_ix K) (pe_ix (k_ix K) (pv 1) (pe_un un_neg pe_int) (fun _ _ => rfl)) pe_int (fun _ _ => rfl)) (nomark _))))) (pss_one (ps_ret (pe_cmpR (k_eq K (by exact b.room)) (pv 2) pe_int (nomark _)))) pss_nil)
 (pss_cons (ps_set (i := 3) sc_is_enough.nd rfl (by first | exact .inl rfl | exact .inr rfl) (k_cd K c_group_sums (by exact b.room) (by decide) b.pass (pa_cons (pv 0) pa_nil)))
 (pss_one (ps_ret (pe_callB (k_all K rfl) (by rfl) B.all bb_all (pa_cons (pe_lc (own := [("group", 4), ("room", 5)]) rfl sc_is_enough.nd (k_any K (pv 1)) (blkOk_by (own := [("group", 4), ("room", 5)]) (N := N_is_enough) (sc := defScope s_is_enough) (by decide +kernel))  (fun _ _ _ _ _ => (k_pg K (n := 2) rfl (pgs_cons (pg_name (i := 4) sc_is_enough.nd rfl (by first | exact .inl rfl | exact .inr rfl)) (pgs_cons (pg_name (i := 5) sc_is_enough.nd rfl (by first | exact .inl rfl | exact .inr rfl)) pgs_nil)))) (fun _ _ _ _ _ => pts_nil) (fun _ _ _ _ _ => (pe_cmpR op_le (pe_ix (k_ix K) (pv 3) (pv 4) (fun _ _ => rfl)) (pv 5) (nomark _)))) pa_nil))))))), fun ds Φ Ψ ⟨xs, R, h, l6, x0, r0, q⟩ => ?_⟩
  subst h
  show wS _ _ _ [some (.dat _), some (.dat _), none, none, none, none]
  have p64 := pow6 l6
  obtain ⟨tl, ht⟩ := tight_top xs.length R
  have tlen : (tightL xs.length R).length ≤ 64 := Nat.le_trans (List.length_filter_le _ _) (by rw [List.length_range]; exact p64)
  have tp : 0 < 2 ^ xs.length := Nat.two_pow_pos _
  have top := gsm_top xs
  have lastD : L2.atI ((tightL xs.length R).map (grD R)) (-1) = some (.tup [.int ((2 ^ xs.length - 1 : Nat) : Int), .int (R (2 ^ xs.length - 1))]) := by
    rw [ht, List.map_append]
    exact atI_last _ _
  unfold intsD tightD
  walk_at "dlt"
  refine sumG_t ?_
  walk_at "dlt"
  refine ifD (fun hz => ?_) (fun hz => ?_)
  · walk_at "dlt"
    exact q _ ⟨fun _ g _ => by rw [sum_all0 x0 hz]; exact r0 g, fun _ => decide_eq_true hz⟩
  · walk_at "dlt"
    refine ixG_l lastD ?_
    walk_at "dlt"
    refine ifD (fun hb => ?_) (fun hb => ?_)
    · walk_at "dlt"
      refine q _ ⟨fun h => absurd (of_decide_eq_true h) hz, fun h => ?_⟩
      have := h (2 ^ xs.length - 1) (by omega)
      rw [top] at this
      omega
    · walk_at "dlt"
      refine ⟨true, xs, rfl, l6, ?_⟩
      walk_at "dlt"
      refine wE_lcM (only_pair (by simp) (by simp)) (grD R) (fun g => .bl (decide (gsm xs g ≤ R g))) (wI_any ?_)
      walk_at "dlt"
      refine ⟨_, rfl, tightL xs.length R, rfl, by omega, fun g hg => ?_, ?_⟩
      · have gl := List.mem_range.mp (List.mem_filter.mp hg).1
        unfold grD roomsD
        walk_at "dlt"
        refine ixG_l (L2.atI_nat (by rw [List.getElem?_map, List.getElem?_range gl]; rfl)) ?_
        walk_at "dlt"
        rfl
      walk_at "dlt"
      refine allG_map ?_
      refine q _ ⟨fun h g hg => tight_all x0 (fun g' hg' => of_decide_eq_true (List.all_eq_true.mp h g' hg')) (2 ^ xs.length) g (Nat.sub_le _ _) hg, fun h => List.all_eq_true.mpr fun g hg => decide_eq_true (h g (List.mem_range.mp (List.mem_filter.mp hg).1))⟩
end
/-! ### tables in reach -/
def inBd : Bd2 → List Int → Bool
  | [], _ => true
  | _ :: _, [] => true
  | b :: bs, x :: T => (decide (b.1 ≤ x) && decide (x ≤ b.2)) && inBd bs T
theorem flat_if {α β : Type} {p : α → Bool} {F : α → List β} : ∀ l : List α, (l.flatMap fun x => if p x = true then F x else []) = (l.filter p).flatMap F
  | [] => rfl
  | x :: l => by
    rw [List.flatMap_cons, flat_if l]
    by_cases c : p x = true
    · rw [if_pos c, List.filter_cons_of_pos c, List.flatMap_cons]
    · rw [if_neg c, List.filter_cons_of_neg c, List.nil_append]
theorem tabs_filt {S : Int} : ∀ (bs : Bd2) (left : Int), (∀ b ∈ bs, 0 ≤ b.1 ∧ b.2 ≤ S) → (tabs (allB bs.length S) left).filter (inBd bs) = tabs bs left
  | [], left, _ => by
    show (tabs [] left).filter (inBd []) = tabs [] left
    exact List.filter_eq_self.mpr fun _ _ => rfl
  | b :: bs, left, h => by
    have hb := h b List.mem_cons_self
    have ih : ∀ own, ((tabs (allB bs.length S) (left - own)).map (own :: ·)).filter (inBd (b :: bs)) = if (decide (b.1 ≤ own) && decide (own ≤ b.2)) = true then (tabs bs (left - own)).map (own :: ·) else [] := fun own => by
      rw [List.filter_map]
      by_cases c : (decide (b.1 ≤ own) && decide (own ≤ b.2)) = true
      · rw [if_pos c]
        have e : inBd (b :: bs) ∘ (fun T => own :: T) = inBd bs := by
          funext T
          show ((decide (b.1 ≤ own) && decide (own ≤ b.2)) && inBd bs T) = _
          rw [c, Bool.true_and]
        rw [e, tabs_filt bs (left - own) fun x hx => h x (List.mem_cons_of_mem _ hx)]
      · rw [if_neg c]
        have e : inBd (b :: bs) ∘ (fun T => own :: T) = fun _ => false := by
          funext T
          show ((decide (b.1 ≤ own) && decide (own ≤ b.2)) && inBd bs T) = _
          rw [(Bool.not_eq_true _).mp c, Bool.false_and]
        rw [e, List.filter_eq_nil_iff.mpr fun _ _ => Bool.false_ne_true]
        rfl
    show ((rng 0 S).flatMap fun own => (tabs (allB bs.length S) (left - own)).map (own :: ·)).filter (inBd (b :: bs)) = (rng b.1 b.2).flatMap fun own => (tabs bs (left - own)).map (own :: ·)
    rw [List.filter_flatMap]
    rw [show (fun own => ((tabs (allB bs.length S) (left - own)).map (own :: ·)).filter (inBd (b :: bs))) = fun own => if (decide (b.1 ≤ own) && decide (own ≤ b.2)) = true then (tabs bs (left - own)).map (own :: ·) else [] from funext ih]
    rw [flat_if, rng_filter]
    rw [show (if b.1 > 0 then b.1 else 0) = b.1 by split <;> omega, show (if b.2 < S then b.2 else S) = b.2 by split <;> omega]
theorem hi_lo_mono {ns : List Int} (dv : DivOk ns) {c c' p p' : Int} (h : c ≤ c') (hp : p' < p) : hiC ns p c ≤ loC ns p' c' := by
  unfold hiC loC
  refine Int.ofNat_le.mpr ?_
  rw [← List.countP_eq_length_filter, ← List.countP_eq_length_filter]
  refine List.countP_mono_left fun d hd hq => ?_
  rw [decide_eq_true_eq] at hq ⊢
  have := dv.b d hd
  have sp := scale_pos dv
  have u : 0 ≤ unitI ns d := by unfold unitI; exact Int.ediv_nonneg (by omega) (by omega)
  have := Int.mul_le_mul_of_nonneg_right h u
  omega
theorem lo_mono {ns : List Int} (dv : DivOk ns) {c c' p p' : Int} (h : c ≤ c') (hp : p' ≤ p) : loC ns p c ≤ loC ns p' c' := by
  unfold loC
  refine Int.ofNat_le.mpr ?_
  rw [← List.countP_eq_length_filter, ← List.countP_eq_length_filter]
  refine List.countP_mono_left fun d hd hq => ?_
  rw [decide_eq_true_eq] at hq ⊢
  have := dv.b d hd
  have sp := scale_pos dv
  have u : 0 ≤ unitI ns d := by unfold unitI; exact Int.ediv_nonneg (by omega) (by omega)
  have := Int.mul_le_mul_of_nonneg_right h u
  omega
theorem hi_count (ns cs : List Int) (p : Int) : (cs.map (hiC ns p)).sum = ((((claimsN ns cs).flatten.filter fun c => decide (p ≤ c)).length : Nat) : Int) := by
  rw [← sum_filters]
  unfold claimsN hiC
  rw [List.map_map]
  refine congrArg List.sum (List.map_congr_left fun c _ => ?_)
  show _ = (((List.filter _ (List.map _ _)).length : Nat) : Int)
  rw [List.filter_map, List.length_map]
  rfl
theorem lo_count (ns cs : List Int) (p : Int) : (cs.map (loC ns p)).sum = ((((claimsN ns cs).flatten.filter fun c => decide (p < c)).length : Nat) : Int) := by
  rw [← sum_filters]
  unfold claimsN loC
  rw [List.map_map]
  refine congrArg List.sum (List.map_congr_left fun c _ => ?_)
  show _ = (((List.filter _ (List.map _ _)).length : Nat) : Int)
  rw [List.filter_map, List.length_map]
  rfl
theorem sum_le2 {f g : Int → Int} : ∀ {as bs : List Int}, as.length = bs.length → (∀ x ∈ as.zip bs, f x.1 ≤ g x.2) → (as.map f).sum ≤ (bs.map g).sum
  | [], [], _, _ => Int.le_refl _
  | a :: as, b :: bs, hl, h => by
    have := sum_le2 (as := as) (bs := bs) (by simpa using hl) fun x hx => h x (by rw [List.zip_cons_cons]; exact List.mem_cons_of_mem _ hx)
    have h0 := h (a, b) (by rw [List.zip_cons_cons]; exact List.mem_cons_self)
    rw [List.map_cons, List.map_cons, List.sum_cons, List.sum_cons]
    simp only at h0
    omega
theorem kth_mono {ns as bs : List Int} {k : Nat} {p p' : Int} (dv : DivOk ns) (hl : as.length = bs.length) (hle : ∀ x ∈ as.zip bs, x.1 ≤ x.2) (h : IsKth (claimsN ns as).flatten k p) (h' : IsKth (claimsN ns bs).flatten k p') : p ≤ p' := by
  refine Int.not_lt.mp fun hlt => ?_
  have a := h.from_
  have b := h'.above
  have c := sum_le2 (f := hiC ns p) (g := loC ns p') hl fun x hx => hi_lo_mono dv (hle x hx) hlt
  rw [hi_count, lo_count] at c
  omega
/-- cs at least, ms at most, du between, T a result of du -/
theorem reach_bd {ns cs ms du T : List Int} {gr le : Int} (dv : DivOk ns) (l1 : cs.length = T.length) (l2 : du.length = T.length) (l3 : ms.length = T.length)
    (hcd : ∀ x ∈ cs.zip du, x.1 ≤ x.2) (hdm : ∀ x ∈ du.zip ms, x.1 ≤ x.2) (c0 : ∀ c ∈ cs, 0 ≤ c) (d0 : ∀ c ∈ du, 0 ≤ c) (t0 : ∀ x ∈ T, 0 ≤ x) (ts : T.sum = (ns.length : Int))
    (hgr : IsKth (claimsN ns ms).flatten (ns.length - 1) gr) (hle : (IsKth (claimsN ns cs).flatten ns.length le) ∨ le = 0) (hr : ¬ SwapZ ns (du.zip T)) :
    ∀ (i : Nat) (c m x : Int), cs[i]? = some c → ms[i]? = some m → T[i]? = some x → loC ns gr c ≤ x ∧ x ≤ hiC ns le m := by
  intro i c m x hc hm hx
  have d1 := dv.l1
  have il : i < T.length := (List.getElem?_eq_some_iff.mp hx).1
  have hd : du[i]? = some du[i] := List.getElem?_eq_getElem (by omega)
  generalize du[i] = d at hd
  have cd : c ≤ d := hcd (c, d) (List.mem_of_getElem? (List.getElem?_zip_eq_some.mpr ⟨hc, hd⟩))
  have dm : d ≤ m := hdm (d, m) (List.mem_of_getElem? (List.getElem?_zip_eq_some.mpr ⟨hd, hm⟩))
  have dd0 := d0 d (List.mem_of_getElem? hd)
  have x0 := t0 x (List.mem_of_getElem? hx)
  have xS := sumI_le t0 x (List.mem_of_getElem? hx)
  have zm : (d, x) ∈ du.zip T := List.mem_of_getElem? (List.getElem?_zip_eq_some.mpr ⟨hd, hx⟩)
  constructor
  · -- the S-th greatest claim of du
    obtain ⟨p, hp⟩ : ∃ p, IsKth (claimsN ns du).flatten (ns.length - 1) p := kth_some (by
      have : (claimsN ns du).flatten.length = du.length * ns.length := by
        unfold claimsN
        rw [List.length_flatten, List.map_map]
        rw [show (List.length ∘ fun c => ns.map fun d => c * unitI ns d) = fun _ => ns.length from funext fun _ => List.length_map _]
        rw [List.map_const', List.sum_replicate_nat]
      have : 1 ≤ du.length := by omega
      have : ns.length ≤ du.length * ns.length := Nat.le_mul_of_pos_left _ (by omega)
      omega)
    have b := ((swap_bds dv hp d0 l2.symm t0 ts).mp hr) (d, x) zm
    have := kth_mono dv (by omega) hdm hp hgr
    exact Int.le_trans (lo_mono dv cd this) b.1
  · refine Int.not_lt.mp fun hlt => ?_
    have hlen := lo_len ns le m
    have xl : (x - 1).toNat < ns.length := by omega
    have he : ns[(x - 1).toNat]? = some ns[(x - 1).toNat] := List.getElem?_eq_getElem xl
    have em := List.getElem_mem xl
    generalize ns[(x - 1).toNat] = e at he em
    have m0 : 0 ≤ m := by omega
    have lt1 : m * unitI ns e < le := Int.not_le.mp fun h => by
      have := (hi_iff dv m0 he).mp h
      omega
    have sp := scale_pos dv
    have ub : 0 ≤ unitI ns e := by
      have := dv.b e em
      unfold unitI
      exact Int.ediv_nonneg (by omega) (by omega)
    have lt2 : d * unitI ns e < le := Int.lt_of_le_of_lt (Int.mul_le_mul_of_nonneg_right dm ub) lt1
    have le0 : 0 < le := Int.lt_of_le_of_lt (Int.mul_nonneg dd0 ub) lt2
    rcases hle with hle | hle
    case inr => omega
    -- some party has a claim to one seat more that is as great
    obtain ⟨j, c', x', hcj, hxj, hj⟩ : ∃ (j : Nat) (c' x' : Int), cs[j]? = some c' ∧ T[j]? = some x' ∧ x' < hiC ns le c' := by
      refine Classical.byContradiction fun hn => ?_
      have := sum_le2 (f := hiC ns le) (g := fun y => y) l1 fun y hy => by
        obtain ⟨j, hj⟩ := List.mem_iff_getElem?.mp hy
        obtain ⟨a, b⟩ := List.getElem?_zip_eq_some.mp hj
        exact Int.not_lt.mp fun h => hn ⟨j, _, _, a, b, h⟩
      rw [hi_count, List.map_id', ts] at this
      have := hle.from_
      omega
    have jl : j < T.length := (List.getElem?_eq_some_iff.mp hxj).1
    have hdj : du[j]? = some du[j] := List.getElem?_eq_getElem (by omega)
    generalize du[j] = d' at hdj
    have cd' : c' ≤ d' := hcd (c', d') (List.mem_of_getElem? (List.getElem?_zip_eq_some.mpr ⟨hcj, hdj⟩))
    have x'0 := t0 x' (List.mem_of_getElem? hxj)
    have hl2 := lo_len ns le c'
    have x'l : x'.toNat < ns.length := by omega
    have hg : ns[x'.toNat]? = some ns[x'.toNat] := List.getElem?_eq_getElem x'l
    have gm := List.getElem_mem x'l
    generalize ns[x'.toNat] = g at hg gm
    have ge1 : le ≤ c' * unitI ns g := (hi_iff dv (c0 c' (List.mem_of_getElem? hcj)) hg).mpr (by omega)
    have ug : 0 ≤ unitI ns g := by
      have := dv.b g gm
      unfold unitI
      exact Int.ediv_nonneg (by omega) (by omega)
    have ge2 := Int.mul_le_mul_of_nonneg_right cd' ug
    refine hr ⟨(d', x'), List.mem_of_getElem? (List.getElem?_zip_eq_some.mpr ⟨hdj, hxj⟩), (d, x), zm, by show 0 < x; omega, g, e, hg, he, ?_⟩
    show d * g < d' * e
    exact (claim_lt dv em gm).mp (by omega)
/-! ### possible tables -/
local macro_rules | `(tactic| walk_at "blk") => `(tactic| first | decide +kernel | rfl)
theorem least_nat {p : Nat → Prop} : ∀ n, p n → ∃ m, p m ∧ ∀ k, p k → m ≤ k := by
  intro n
  induction n using Nat.strongRecOn with
  | ind n ih =>
    intro hn
    by_cases h : ∃ k, k < n ∧ p k
    · obtain ⟨k, hk, pk⟩ := h
      exact ih k hk pk
    · exact ⟨n, hn, fun k pk => Nat.not_lt.mp fun hlt => h ⟨k, hlt, pk⟩⟩
/-- each table has its least level -/
theorem lvl_ex {ns : List Int} {zs : List (Int × Int)} {Y : Int} (hz : LvlZ ns zs) (hne : zs ≠ []) (hY : 0 ≤ Y) (hc : ∀ z ∈ zs, z.1 ≤ Y) : ∃ L, IsLvl ns zs L ∧ 0 ≤ L ∧ L ≤ scaleN ns * Y := by
  have sp := scale_pos hz.d
  have t0 : 0 ≤ (scaleN ns : Int) * Y := Int.mul_nonneg (by omega) hY
  have ge : ∀ z ∈ zs, z.1 * untI ns z.2 ≤ scaleN ns * Y := fun z hm => by
    obtain ⟨z1, z2, z3⟩ := hz.z z hm
    have u := unt_bd hz.d z2
    rw [Int.mul_comm]
    exact Int.mul_le_mul u.2 (hc z hm) z1 (by omega)
  have clo : ∀ z ∈ zs, stepI ns (scaleN ns * Y) z.2 ≤ scaleN ns * Y := fun z hm => step_whole hz.d hY (hz.z z hm).2.1 (hz.z z hm).2.2
  obtain ⟨m, ⟨m1, m2⟩, m3⟩ := least_nat (p := fun n => (∀ z ∈ zs, z.1 * untI ns z.2 ≤ (n : Int)) ∧ ∀ z ∈ zs, stepI ns (n : Int) z.2 ≤ (n : Int)) ((scaleN ns : Int) * Y).toNat (by
    rw [show ((((scaleN ns : Int) * Y).toNat : Nat) : Int) = (scaleN ns : Int) * Y by omega]
    exact ⟨ge, clo⟩)
  have le : ∀ M : Int, (∀ z ∈ zs, z.1 * untI ns z.2 ≤ M) → (∀ z ∈ zs, stepI ns M z.2 ≤ M) → (m : Int) ≤ M := fun M h1 h2 => by
    obtain ⟨z, hm⟩ := List.exists_mem_of_ne_nil _ hne
    obtain ⟨z1, z2, z3⟩ := hz.z z hm
    have u := unt_bd hz.d z2
    have := h1 z hm
    have := Int.mul_nonneg z1 u.1
    have := m3 M.toNat (by rw [show ((M.toNat : Nat) : Int) = M by omega]; exact ⟨h1, h2⟩)
    omega
  exact ⟨m, ⟨m1, m2, le⟩, by omega, le _ ge clo⟩
theorem lvl_ok {t : Tri} {T : List Int} (h : TabIn t T) : LvlOk t T := by
  have f1 := h.ok.f.l1
  have cl := cnt_len t
  have hne : zsN t T ≠ [] := fun e => by
    have : (zsN t T).length = 0 := by rw [e]; rfl
    rw [List.length_zip, h.l, cl] at this
    omega
  obtain ⟨L, h1, h2, h3⟩ := lvl_ex (Y := 1000000) (tab_lvlz h) hne (by decide) fun z hz => by
    have := (List.of_mem_zip (a := z.1) (b := z.2) hz).1
    exact (counts_bd h.ok _ this).2
  have e := lvl_eq h1
  exact ⟨lvl_is h1, by show 0 ≤ lvlN _ _; rw [e]; exact h2, by show lvlN _ _ ≤ _; rw [e]; exact h3⟩
theorem res_swap {ns : List Int} {zs : List (Int × Int)} (hz : ∀ z ∈ zs, 0 ≤ z.2 ∧ z.2 ≤ ns.length) (h : isRes ns zs = true) : ¬ SwapZ ns zs := by
  intro ⟨z, hzm, y, hym, y0, d, e, hd, he, hlt⟩
  have zl : z.2.toNat < ns.length := (List.getElem?_eq_some_iff.mp hd).1
  have z2 := hz z hzm
  have y2 := hz y hym
  have := res_iff.mp h y hym z hzm y0 (by omega)
  have e1 : payI ns y.2 = e := by
    unfold payI
    rw [if_neg (by omega)]
    exact getD_of he
  have e2 : payI ns (z.2 + 1) = d := by
    unfold payI
    rw [if_neg (by omega), show z.2 + 1 - 1 = z.2 by omega]
    exact getD_of hd
  rw [e1, e2] at this
  omega
theorem gsm_one : ∀ {xs : List Int} {i : Nat} {x : Int}, xs[i]? = some x → gsm xs (2 ^ i) = x
  | [], _, _, h => by simp at h
  | y :: xs, 0, x, h => by
    simp at h
    subst h
    show (if 2 ^ 0 % 2 = 1 then y else 0) + gsm xs (2 ^ 0 / 2) = y
    have z : ∀ xs : List Int, gsm xs 0 = 0 := fun xs => by
      induction xs with
      | nil => rfl
      | cons a xs ih =>
        show (if 0 % 2 = 1 then a else 0) + gsm xs (0 / 2) = 0
        rw [show (0 : Nat) / 2 = 0 from rfl, ih]
        rfl
    rw [show (2 : Nat) ^ 0 / 2 = 0 from rfl, z]
    simp
  | y :: xs, i + 1, x, h => by
    have ih := gsm_one (xs := xs) (i := i) (x := x) (by simpa using h)
    show (if 2 ^ (i + 1) % 2 = 1 then y else 0) + gsm xs (2 ^ (i + 1) / 2) = x
    rw [show (2 : Nat) ^ (i + 1) % 2 = 0 by rw [Nat.pow_succ]; omega, show (2 : Nat) ^ (i + 1) / 2 = 2 ^ i by rw [Nat.pow_succ]; omega, ih]
    simp
/-- the counts raised by all that the piles have for each party -/
def mostN (t : Tri) (piles : List (Int × List Str)) : List Int := ((List.range' 0 (countsN t).length).zip (countsN t)).map fun x => x.2 + roomG (namesN t) piles (2 ^ x.1)
theorem most_at {t : Tri} {piles : List (Int × List Str)} {i : Nat} {c : Int} (h : (countsN t)[i]? = some c) : (mostN t piles)[i]? = some (c + roomG (namesN t) piles (2 ^ i)) := by
  have hl := (List.getElem?_eq_some_iff.mp h).1
  unfold mostN
  rw [List.getElem?_map, (List.getElem?_zip_eq_some (z := (i, c))).mpr ⟨by rw [List.getElem?_range' hl]; simp, h⟩]
  simp
theorem most_len (t : Tri) (piles : List (Int × List Str)) : (mostN t piles).length = (countsN t).length := by
  unfold mostN
  rw [List.length_map, List.length_zip, List.length_range']
  omega
open Classical in
noncomputable def possN (t : Tri) (piles : List (Int × List Str)) : List (List Int) := (allT t).filter fun T => decide (enoughP (lacksN t.1 (countsN t) T) (roomG (namesN t) piles))
/-- an enough table is in reach -/
theorem poss_reach {t : Tri} {piles : List (Int × List Str)} {T : List Int} {gr le : Int} (h : TabIn t T) (he : enoughP (lacksN t.1 (countsN t) T) (roomG (namesN t) piles)) (hgr : IsKth (claimsN t.1 (mostN t piles)).flatten (t.1.length - 1) gr) (hle : (IsKth (claimsN t.1 (countsN t)).flatten t.1.length le) ∨ le = 0) :
    ∀ (i : Nat) (c m x : Int), (countsN t)[i]? = some c → (mostN t piles)[i]? = some m → T[i]? = some x → loC t.1 gr c ≤ x ∧ x ≤ hiC t.1 le m := by
  have lo := lvl_ok h
  have lb := lack_bd h lo
  have cl := cnt_len t
  have dl : (dueN t T).length = T.length := by unfold dueN; rw [List.length_map, List.length_zip, cl, h.l]; omega
  have dat : ∀ {i : Nat} {c x : Int}, (countsN t)[i]? = some c → T[i]? = some x → (dueN t T)[i]? = some (c + lackI t.1 (lvlT t T) (c, x)) := fun hc hx => by
    unfold dueN
    rw [List.getElem?_map, (List.getElem?_zip_eq_some (z := (_, _))).mpr ⟨hc, hx⟩]
    rfl
  have lat : ∀ {i : Nat} {c x : Int}, (countsN t)[i]? = some c → T[i]? = some x → (lacksN t.1 (countsN t) T)[i]? = some (lackI t.1 (lvlT t T) (c, x)) := fun hc hx => by
    unfold lacksN
    rw [List.getElem?_map, (List.getElem?_zip_eq_some (z := (_, _))).mpr ⟨hc, hx⟩]
    rfl
  have both : ∀ (i : Nat) (c d m : Int), (countsN t)[i]? = some c → (dueN t T)[i]? = some d → (mostN t piles)[i]? = some m → c ≤ d ∧ d ≤ m := fun i c d m hc hd hm => by
    have il : i < T.length := by rw [← dl]; exact (List.getElem?_eq_some_iff.mp hd).1
    have hx : T[i]? = some T[i] := List.getElem?_eq_getElem il
    have zb := lb (c, T[i]) (List.mem_of_getElem? (List.getElem?_zip_eq_some.mpr ⟨hc, hx⟩))
    rw [dat hc hx] at hd
    rw [most_at hc] at hm
    cases hd
    cases hm
    have e := he (2 ^ i) (by
      refine Nat.pow_lt_pow_right (by decide) ?_
      rw [lacks_len (by rw [h.l, cl]), cl, ← h.l]
      exact il)
    rw [gsm_one (lat hc hx)] at e
    omega
  have ml := most_len t piles
  refine reach_bd h.ok.d (by rw [cl, h.l]) dl (by rw [ml, cl, h.l]) (fun x hx => ?_) (fun x hx => ?_) (fun c hc => (counts_bd h.ok c hc).1) (fun d hd => ?_) h.b h.s hgr hle ?_
  · obtain ⟨i, hi⟩ := List.mem_iff_getElem?.mp hx
    obtain ⟨a, b⟩ := List.getElem?_zip_eq_some.mp hi
    have il := (List.getElem?_eq_some_iff.mp a).1
    exact (both i _ _ _ a b (List.getElem?_eq_getElem (by omega))).1
  · obtain ⟨i, hi⟩ := List.mem_iff_getElem?.mp hx
    obtain ⟨a, b⟩ := List.getElem?_zip_eq_some.mp hi
    have il := (List.getElem?_eq_some_iff.mp b).1
    exact (both i _ _ _ (List.getElem?_eq_getElem (by omega)) a b).2
  · obtain ⟨z, hz, rfl⟩ := List.mem_map.mp hd
    have := lb z hz
    have := (tab_lvlz h).z z hz
    omega
  · refine res_swap (fun z hz => ?_) (due_right h lo)
    have := (List.of_mem_zip (a := z.1) (b := z.2) hz).2
    exact tab_le h _ this
/-! ### possible: the program's own way -/
local macro_rules | `(tactic| walk_at "blk") => `(tactic| first | decide +kernel | rfl)
section
variable {P : Program} {w : World} {K : PySem.W.Frag} {mg : Str → Option Value} {base : Heap} {f C : Addr} {fd : FuncData}
theorem kth_both {A : Int → Prop} {l : List Int} {k : Nat} (H : ∀ p, (IsKth l k p ∨ p = 0) → A p) : (∀ p, k < l.length → IsKth l k p → A p) ∧ (l.length ≤ k → A 0) := ⟨fun p _ h => H p (.inl h), fun _ => H 0 (.inr rfl)⟩
theorem kth_in {A : Int → Prop} {l : List Int} {k : Nat} (hk : k < l.length) (H : ∀ p, IsKth l k p → A p) : (∀ p, k < l.length → IsKth l k p → A p) ∧ (l.length ≤ k → A 0) := ⟨fun p _ h => H p h, fun h => absurd hk (by omega)⟩
def S_claims2 : DSp := fun ds Φ _ => ∃ (p : Bool) (ns cs : List Int), ds = [divsD ns, seqD p (cs.map .int)] ∧ DivOk ns ∧ cs.length ≤ 6 ∧ (∀ c ∈ cs, 0 ≤ c ∧ c ≤ 1000000000) ∧ Φ (rowsD (claimsN ns cs))
theorem ok_claims2 (F : FunX K "claims_of" "claims_of" s_claims_of f fd) (B : Blt mg) (c_units_of : CallD P w K mg base "units_of" 2 S_units_of) : FnG P w K mg base 3 f fd ["divisors", "counts"] (lift K S_claims2) := by
  refine fnX_of F sc_claims_of (fun ds Φ Ψ ⟨_, _, _, h, _⟩ => by rw [h]; rfl) fun cdv A outer s H E b => ⟨_, (pss_cons (ps_set (i := 2) sc_claims_of.nd rfl (by first | exact .inl rfl | exact .inr rfl) (pe_slice (k_sl K) (k_cd K c_units_of (by exact b.room) (by decide) b.pass (pa_cons (pv 0) pa_nil)) po_none (po_some (pe_un un_neg pe_int))))
 (pss_one (ps_ret (pe_lc (own := [("count", 4)]) rfl sc_claims_of.nd (k_any K (pv 1)) (blkOk_by (own := [("count", 4)]) (N := N_claims_of) (sc := defScope s_claims_of) (by decide +kernel))  (fun _ _ _ _ _ => (pg_name (i := 4) sc_claims_of.nd rfl (by first | exact .inl rfl | exact .inr rfl))) (fun _ _ _ _ _ => pts_nil) (fun _ _ _ _ _ => (pe_lc (own := [("unit", 3)]) rfl sc_claims_of.nd (k_any K (pv 2)) (blkOk_by (own := [("unit", 3)]) (N := N_claims_of) (sc := _) (by walk_at "blk"))  (fun _ _ _ _ _ => (pg_name (i := 3) sc_claims_of.nd rfl (by first | exact .inl rfl | exact .inr rfl))) (fun _ _ _ _ _ => pts_nil) (fun _ _ _ _ _ => (pe_op opr_mul (pv 4) (pv 3))))))))), fun ds Φ Ψ ⟨p, ns, cs, h, dv, l6, hc, q⟩ => ?_⟩
  subst h
  show wS _ _ _ [some (.dat _), some (.dat _), none, none, none]
  have l2 := dv.l2
  walk_at "dlt"
  refine ⟨ns, rfl, dv, ?_⟩
  walk_at "dlt"
  rw [cut_init]
  refine wE_lcM (only_name (by simp)) D.int (fun c => .lst ((ns.map fun d => c * unitI ns d).map D.int)) (wI_any ?_)
  walk_at "dlt"
  refine ⟨cs.map D.int, by cases p <;> rfl, cs, rfl, by omega, fun c hcm => ?_, ?_⟩
  · have cb := hc c hcm
    walk_at "dlt"
    refine wE_lcM (only_name (by simp)) (fun d => .int (unitI ns d)) (fun d => .int (c * unitI ns d)) (wI_any ?_)
    walk_at "dlt"
    refine ⟨_, rfl, ns, rfl, by omega, fun d hd => ?_, ?_⟩
    · generalize unitI ns d = u
      walk_at "dlt"
      rfl
    rw [List.map_map]
    rfl
  walk_at "dlt"
  unfold rowsD claimsN at q
  rw [List.map_map] at q
  exact q
def reachB (ns cs ms : List Int) (gr le : Int) : Bd2 := (cs.map (loC ns gr)).zip (ms.map (hiC ns le))
def S_reach : DSp := fun ds Φ _ => ∃ (ns cs ms : List Int), ds = [rowsD (claimsN ns cs), rowsD (claimsN ns ms), .int ns.length] ∧ DivOk ns ∧ cs.length = ms.length ∧ 1 ≤ cs.length ∧ cs.length ≤ 6 ∧
  ∀ gr le, IsKth (claimsN ns ms).flatten (ns.length - 1) gr → (IsKth (claimsN ns cs).flatten ns.length le ∨ le = 0) → Φ (.tup ((tabs (reachB ns cs ms gr le) ns.length).map intsD))
theorem claims_len (ns cs : List Int) : (claimsN ns cs).flatten.length = cs.length * ns.length := by
  unfold claimsN
  rw [List.length_flatten, List.map_map]
  rw [show (List.length ∘ fun c => ns.map fun d => c * unitI ns d) = fun _ => ns.length from funext fun _ => List.length_map _]
  rw [List.map_const', List.sum_replicate_nat]
abbrev s_tables_in_reach : Stmt := topS 76
abbrev N_tables_in_reach : List Str := ["claims", "raised", "seats", "least", "greatest"]
theorem sc_tables_in_reach : FnScope N_tables_in_reach ["claims", "raised", "seats"] (defScope s_tables_in_reach) := ⟨rfl, rfl, rfl, by decide +kernel, rfl, by decide +kernel, by decide +kernel⟩
theorem ok_reach (F : FunX K "tables_in_reach" "tables_in_reach" s_tables_in_reach f fd) (c_claim_at : CallD P w K mg base "claim_at" 1 S_claim_at) (c_tables_within : CallD P w K mg base "tables_within" 1 S_tables_within) (c_seats_above : CallD P w K mg base "seats_above" 1 S_seats_above) (c_seats_from : CallD P w K mg base "seats_from" 1 S_seats_from) : FnG P w K mg base 3 f fd ["claims", "raised", "seats"] (lift K S_reach) := by
  refine fnX_of F sc_tables_in_reach (fun ds Φ Ψ ⟨_, _, _, h, _⟩ => by rw [h]; rfl) fun cdv A outer s H E b => ⟨_, (pss_cons (ps_set (i := 3) sc_tables_in_reach.nd rfl (by first | exact .inl rfl | exact .inr rfl) (k_cd K c_claim_at (by exact b.room) (by decide) b.pass (pa_cons (pv 0) (pa_cons (pv 2) pa_nil))))
 (pss_cons (ps_set (i := 4) sc_tables_in_reach.nd rfl (by first | exact .inl rfl | exact .inr rfl) (k_cd K c_claim_at (by exact b.room) (by decide) b.pass (pa_cons (pv 1) (pa_cons (pe_op op_sub (pv 2) pe_int) pa_nil))))
 (pss_one (ps_ret (k_cd K c_tables_within (by exact b.room) (by decide) b.pass (pa_cons (k_cd K c_seats_above (by exact b.room) (by decide) b.pass (pa_cons (pv 0) (pa_cons (pv 4) pa_nil))) (pa_cons (k_cd K c_seats_from (by exact b.room) (by decide) b.pass (pa_cons (pv 1) (pa_cons (pv 3) pa_nil))) (pa_cons (pv 2) pa_nil)))))))), fun ds Φ Ψ ⟨ns, cs, ms, h, dv, el, c1, c6, q⟩ => ?_⟩
  subst h
  show wS _ _ _ [some (.dat _), some (.dat _), some (.dat _), none, none]
  have d1 := dv.l1
  have d2 := dv.l2
  have lc := claims_len ns cs
  have lm := claims_len ns ms
  have b72 : ∀ n, n ≤ 6 → n * ns.length ≤ 72 := fun n hn => Nat.mul_le_mul hn d2
  have e1 := b72 _ c6
  have e2 := b72 ms.length (by omega)
  have e3 : ns.length ≤ ms.length * ns.length := Nat.le_mul_of_pos_left _ (by omega)
  have rows : ∀ (cs : List Int), ∀ r ∈ claimsN ns cs, r.length ≤ 12 := fun cs r hr => by
    obtain ⟨c, _, rfl⟩ := List.mem_map.mp hr
    rw [List.length_map]
    exact d2
  have rl : ∀ cs : List Int, (claimsN ns cs).length = cs.length := fun cs => List.length_map _
  walk_at "dlt"
  refine ⟨_, ns.length, rfl, by omega, by omega, kth_both fun le hle => ?_⟩
  walk_at "dlt"
  refine ⟨_, ns.length - 1, by rw [Int.ofNat_sub d1]; rfl, by omega, by omega, kth_in (by omega) fun gr hgr => ?_⟩
  walk_at "dlt"
  refine ⟨_, gr, rfl, by rw [rl]; omega, rows cs, ?_⟩
  walk_at "dlt"
  refine ⟨_, le, rfl, by rw [rl]; omega, rows ms, ?_⟩
  have eA : ((claimsN ns cs).map fun r => (((r.filter fun c => decide (gr < c)).length : Nat) : Int)) = cs.map (loC ns gr) := by
    unfold claimsN loC
    rw [List.map_map]
    refine List.map_congr_left fun c _ => ?_
    show (((List.filter _ (List.map _ _)).length : Nat) : Int) = _
    rw [List.filter_map, List.length_map]
    rfl
  have eB : ((claimsN ns ms).map fun r => (((r.filter fun c => decide (le ≤ c)).length : Nat) : Int)) = ms.map (hiC ns le) := by
    unfold claimsN hiC
    rw [List.map_map]
    refine List.map_congr_left fun c _ => ?_
    show (((List.filter _ (List.map _ _)).length : Nat) : Int) = _
    rw [List.filter_map, List.length_map]
    rfl
  rw [eA, eB]
  walk_at "dlt"
  refine ⟨cs.map (loC ns gr), ms.map (hiC ns le), ns.length, rfl, by rw [List.length_map, List.length_map]; exact el, by rw [List.length_map]; exact c1, by rw [List.length_map]; exact c6, fun x hx => ?_, fun x hx => ?_, by omega, by omega, ?_⟩
  · obtain ⟨c, _, rfl⟩ := List.mem_map.mp hx
    have := lo_len ns gr c
    omega
  · obtain ⟨c, _, rfl⟩ := List.mem_map.mp hx
    have := lo_len ns le c
    omega
  exact q gr le hgr hle
end
/-! ### possible_with, possible -/
local macro_rules | `(tactic| walk_at "blk") => `(tactic| first | decide +kernel | rfl)
theorem in_bd : ∀ {bs : Bd2} {T : List Int}, (∀ (i : Nat) b x, bs[i]? = some b → T[i]? = some x → b.1 ≤ x ∧ x ≤ b.2) → inBd bs T = true
  | [], _, _ => rfl
  | _ :: _, [], _ => rfl
  | b :: bs, x :: T, h => by
    have h0 := h 0 b x rfl rfl
    show ((decide (b.1 ≤ x) && decide (x ≤ b.2)) && inBd bs T) = true
    rw [in_bd fun i b' x' hb hx => h (i + 1) b' x' hb hx, decide_eq_true h0.1, decide_eq_true h0.2]
    rfl
theorem room_bd {names : List Str} {piles : List (Int × List Str)} (h : HeapsOk names piles) (g : Nat) : 0 ≤ roomG names piles g ∧ roomG names piles g ≤ 6000000 := by
  have hb : ∀ x ∈ (piles.filter fun p => maskN p.2 names &&& g != 0).map (·.1), 0 ≤ x ∧ x ≤ 1000000 := fun x hx => by
    obtain ⟨p, hp, rfl⟩ := List.mem_map.mp hx
    have := h.b p (List.mem_filter.mp hp).1
    exact ⟨this.b1, this.b2⟩
  have hl : ((piles.filter fun p => maskN p.2 names &&& g != 0).map (·.1)).length ≤ 6 := by
    rw [List.length_map]
    exact Nat.le_trans (List.length_filter_le _ _) h.l2
  unfold roomG
  refine ⟨sum_nn fun x hx => (hb x hx).1, ?_⟩
  generalize (piles.filter fun p => maskN p.2 names &&& g != 0).map (·.1) = l at hb hl
  have : ∀ l : List Int, (∀ x ∈ l, 0 ≤ x ∧ x ≤ 1000000) → l.sum ≤ (l.length : Int) * 1000000 := fun l => by
    induction l with
    | nil => intro _; simp
    | cons x l ih =>
      intro h
      have := ih fun y hy => h y (List.mem_cons_of_mem _ hy)
      have := h x List.mem_cons_self
      rw [List.sum_cons, List.length_cons, Int.natCast_add, Int.add_mul]
      omega
  have := this l hb
  omega
theorem poss_tabs {t : Tri} {piles : List (Int × List Str)} {gr le : Int} (ht : TriOk t) (hgr : IsKth (claimsN t.1 (mostN t piles)).flatten (t.1.length - 1) gr) (hle : (IsKth (claimsN t.1 (countsN t)).flatten t.1.length le) ∨ le = 0) :
    (tabs (reachB t.1 (countsN t) (mostN t piles) gr le) t.1.length) = (allT t).filter (inBd (reachB t.1 (countsN t) (mostN t piles) gr le)) := by
  have cl := cnt_len t
  have ml := most_len t piles
  have bl : (reachB t.1 (countsN t) (mostN t piles) gr le).length = t.2.1.length := by
    unfold reachB
    rw [List.length_zip, List.length_map, List.length_map]
    omega
  rw [← tabs_filt (S := (t.1.length : Int)) _ _ fun b hb => ?_, bl]
  unfold reachB at hb
  obtain ⟨h1, h2⟩ := List.of_mem_zip (a := b.1) (b := b.2) hb
  obtain ⟨c, _, e1⟩ := List.mem_map.mp h1
  obtain ⟨m, _, e2⟩ := List.mem_map.mp h2
  have := lo_len t.1 gr c
  have := lo_len t.1 le m
  omega
open Classical in
theorem poss_eq {t : Tri} {piles : List (Int × List Str)} {gr le : Int} (ht : TriOk t) (hgr : IsKth (claimsN t.1 (mostN t piles)).flatten (t.1.length - 1) gr) (hle : (IsKth (claimsN t.1 (countsN t)).flatten t.1.length le) ∨ le = 0) :
    ((tabs (reachB t.1 (countsN t) (mostN t piles) gr le) t.1.length).filter fun T => decide (enoughP (lacksN t.1 (countsN t) T) (roomG (namesN t) piles))) = possN t piles := by
  rw [poss_tabs ht hgr hle, List.filter_filter]
  unfold possN
  refine List.filter_congr fun T hT => ?_
  by_cases c : enoughP (lacksN t.1 (countsN t) T) (roomG (namesN t) piles)
  · have hi := (all_in ht).mp hT
    have := poss_reach hi c hgr hle
    rw [decide_eq_true c, Bool.true_and]
    refine in_bd fun i b x hb hx => ?_
    unfold reachB at hb
    obtain ⟨b1, b2⟩ := List.getElem?_zip_eq_some.mp hb
    rw [List.getElem?_map] at b1 b2
    obtain ⟨c', hc, e1⟩ := Option.map_eq_some_iff.mp b1
    obtain ⟨m, hm, e2⟩ := Option.map_eq_some_iff.mp b2
    rw [← e1, ← e2]
    exact this i c' m x hc hm hx
  · rw [decide_eq_false c, Bool.false_and]
def nIx (x : Nat × Int) : D := .tup [.int (x.1 : Nat), .int x.2]
theorem enum_ints (l : List Int) : enumD (l.map .int) = ((List.range' 0 l.length).zip l).map nIx := by
  unfold enumD
  rw [List.length_map, ← List.range_eq_range']
  generalize List.range l.length = r
  induction l generalizing r with
  | nil => simp
  | cons z l ih =>
    cases r with
    | nil => rfl
    | cons i r => rw [List.map_cons, List.zipWith_cons_cons, ih, List.zip_cons_cons, List.map_cons]; rfl
section
variable {P : Program} {w : World} {K : PySem.W.Frag} {mg : Str → Option Value} {base : Heap} {f C : Addr} {fd : FuncData}
def S_possible_with (C : Addr) : DSp := fun ds Φ _ => ∃ (t : Tri) (piles : List (Int × List Str)), ds = [nightD C t, heapsD piles] ∧ TriOk t ∧ HeapsOk (namesN t) piles ∧ Φ (.tup ((possN t piles).map intsD))
abbrev s_possible_with : Stmt := topS 78
abbrev N_possible_with : List Str := ["night", "piles", "divisors", "counts", "rooms", "most", "index", "count", "tables", "tight", "lacking", "table", "lacks"]
theorem sc_possible_with : FnScope N_possible_with ["night", "piles"] (defScope s_possible_with) := ⟨rfl, rfl, rfl, by decide +kernel, rfl, by decide +kernel, by decide +kernel⟩
open Classical in
theorem ok_possible_with (F : FunX K "possible_with" "possible_with" s_possible_with f fd) (B : Blt mg) (c_counts_of : CallD P w K mg base "counts_of" 1 S_counts_of) (c_group_rooms : CallD P w K mg base "group_rooms" 3 S_group_rooms) (c_claims_of : CallD P w K mg base "claims_of" 3 S_claims2) (c_tables_in_reach : CallD P w K mg base "tables_in_reach" 3 S_reach) (c_tight_rooms : CallD P w K mg base "tight_rooms" 1 S_tight) (c_least_lacks : CallD P w K mg base "least_lacks" 4 S_least_lacks) (c_is_enough : CallD P w K mg base "is_enough" 2 S_is_enough)
    (c_p_divisors : PropB P w K mg base C "divisors" 1 (S_getD C)) (c_p_parties : PropB P w K mg base C "parties" 1 (S_getP C)) (c_p_names : PropB P w K mg base C "names" 2 (S_getN C)) : FnG P w K mg base 6 f fd ["night", "piles"] (lift K (S_possible_with C)) := by
  refine fnX_of F sc_possible_with (fun ds Φ Ψ ⟨_, _, h, _⟩ => by rw [h]; rfl) fun cdv A outer s H E b => ⟨_, (pss_cons (ps_set (i := 2) sc_possible_with.nd rfl (by first | exact .inl rfl | exact .inr rfl) (k_pr K c_p_divisors (by exact b.room) (by decide) (pv 0)))
 (pss_cons (ps_set (i := 3) sc_possible_with.nd rfl (by first | exact .inl rfl | exact .inr rfl) (k_cd K c_counts_of (by exact b.room) (by decide) b.pass (pa_cons (k_pr K c_p_parties (by exact b.room) (by decide) (pv 0)) pa_nil)))
 (pss_cons (ps_set (i := 4) sc_possible_with.nd rfl (by first | exact .inl rfl | exact .inr rfl) (k_cd K c_group_rooms (by exact b.room) (by decide) b.pass (pa_cons (k_pr K c_p_names (by exact b.room) (by decide) (pv 0)) (pa_cons (pv 1) pa_nil))))
 (pss_cons (ps_setLc (i := 5) (own := [("index", 6), ("count", 7)]) rfl sc_possible_with.nd rfl rfl (sw_true rfl rfl rfl (by decide +kernel)) (k_enum K (by rfl) B.enumerate (pa_cons (pv 3) pa_nil)) (blkOk_by (own := [("index", 6), ("count", 7)]) (N := N_possible_with) (sc := defScope s_possible_with) (by decide +kernel))  (fun _ _ _ _ _ => (k_pg K (n := 2) rfl (pgs_cons (pg_name (i := 6) sc_possible_with.nd rfl (by first | exact .inl rfl | exact .inr rfl)) (pgs_cons (pg_name (i := 7) sc_possible_with.nd rfl (by first | exact .inl rfl | exact .inr rfl)) pgs_nil)))) (fun _ _ _ _ _ => pts_nil) (fun _ _ _ _ _ => (pe_op (k_add K) (pv 7) (pe_ix (k_ix K) (pv 4) (pe_op op_shl pe_int (pv 6)) (fun _ _ => rfl)))))
 (pss_cons (ps_set (i := 8) sc_possible_with.nd rfl (by first | exact .inl rfl | exact .inr rfl) (k_cd K c_tables_in_reach (by exact b.room) (by decide) b.pass (pa_cons (k_cd K c_claims_of (by exact b.room) (by decide) b.pass (pa_cons (pv 2) (pa_cons (pv 3) pa_nil))) (pa_cons (k_cd K c_claims_of (by exact b.room) (by decide) b.pass (pa_cons (pv 2) (pa_cons (pv 5) pa_nil))) (pa_cons (pe_callB (k_len K) (by rfl) B.len bb_len (pa_cons (pv 2) pa_nil)) pa_nil)))))
 (pss_cons (ps_set (i := 9) sc_possible_with.nd rfl (by first | exact .inl rfl | exact .inr rfl) (k_cd K c_tight_rooms (by exact b.room) (by decide) b.pass (pa_cons (pv 4) pa_nil)))
 (pss_cons (ps_set (i := 10) sc_possible_with.nd rfl (by first | exact .inl rfl | exact .inr rfl) (k_cd K c_least_lacks (by exact b.room) (by decide) b.pass (pa_cons (pv 2) (pa_cons (pv 3) (pa_cons (pv 8) pa_nil)))))
 (pss_one (ps_ret (pe_callTy (k_tup K) (by rfl) B.tuple bb_tuple (pa_cons (pe_lc (own := [("table", 11), ("lacks", 12)]) rfl sc_possible_with.nd (k_zipK K (by rfl) B.zip (pa_cons (pv 8) (pa_cons (pv 10) pa_nil))) (blkOk_by (own := [("table", 11), ("lacks", 12)]) (N := N_possible_with) (sc := defScope s_possible_with) (by decide +kernel))  (fun _ _ _ _ _ => (k_pg K (n := 2) rfl (pgs_cons (pg_name (i := 11) sc_possible_with.nd rfl (by first | exact .inl rfl | exact .inr rfl)) (pgs_cons (pg_name (i := 12) sc_possible_with.nd rfl (by first | exact .inl rfl | exact .inr rfl)) pgs_nil)))) (fun _ _ _ _ _ => (pts_one (pt_val (k_cd K c_is_enough (by exact b.room) (by decide) passN (pa_cons (pv 12) (pa_cons (pv 9) pa_nil)))))) (fun _ _ _ _ _ => (pv 11))) pa_nil))))))))))), fun ds Φ Ψ ⟨t, piles, h, ht, hp, q⟩ => ?_⟩
  subst h
  show wS _ _ _ [some (.dat _), some (.dat _), none, none, none, none, none, none, none, none, none, none, none]
  have f1 := ht.f.l1
  have f2 := ht.f.l2
  have p2 := hp.l2
  have cl := cnt_len t
  have ml := most_len t piles
  have nl : (namesN t).length = t.2.1.length := List.length_map _
  have cE : D.tup (t.2.1.map fun p => .int p.2) = .tup ((countsN t).map .int) := by unfold countsN; rw [List.map_map]; rfl
  walk_at "dlt"
  refine ⟨_, rfl, t.1, t.2.1, t.2.2, rfl, ?_⟩
  walk_at "dlt"
  refine ⟨_, rfl, t.1, t.2.1, t.2.2, rfl, ?_⟩
  walk_at "dlt"
  refine ⟨t.2.1, rfl, by omega, ?_⟩
  rw [cE]
  walk_at "dlt"
  refine ⟨_, rfl, t, rfl, ht, ?_⟩
  walk_at "dlt"
  refine ⟨namesN t, piles, by unfold strsD namesD; rw [List.map_map]; rfl, by omega, by omega, ?_⟩
  rw [nl]
  walk_at "dlt"
  refine wE_lcM (only_pair (by simp) (by simp)) nIx (fun x => .int (x.2 + roomG (namesN t) piles (2 ^ x.1))) (wI_enumT ?_)
  walk_at "dlt"
  refine ⟨_, rfl, ?_⟩
  rw [enum_ints]
  refine ⟨_, rfl, by rw [List.length_zip]; omega, fun x hx => ?_, ?_⟩
  · have xl : x.1 < t.2.1.length := by
      have := (List.of_mem_zip (a := x.1) (b := x.2) hx).1
      rw [List.mem_range'_1] at this
      omega
    have lt := Nat.pow_lt_pow_right (show 1 < 2 by decide) xl
    unfold nIx roomsD
    walk_at "dlt"
    refine shlG_1 (by omega) ?_
    refine ixG_l (L2.atI_nat (by rw [List.getElem?_map, List.getElem?_range lt]; rfl)) ?_
    walk_at "dlt"
    rfl
  have mE : ((List.range' 0 (countsN t).length).zip (countsN t)).map (fun x => D.int (x.2 + roomG (namesN t) piles (2 ^ x.1))) = (mostN t piles).map .int := by
    unfold mostN
    rw [List.map_map]
    rfl
  rw [mE]
  walk_at "dlt"
  refine ⟨true, t.1, countsN t, rfl, ht.d, by omega, fun c hc => by have := counts_bd ht c hc; omega, ?_⟩
  walk_at "dlt"
  refine ⟨false, t.1, mostN t piles, rfl, ht.d, by omega, fun m hm => ?_, ?_⟩
  · unfold mostN at hm
    obtain ⟨x, hx, rfl⟩ := List.mem_map.mp hm
    have := counts_bd ht x.2 (List.of_mem_zip (a := x.1) (b := x.2) hx).2
    have := room_bd hp (2 ^ x.1)
    omega
  unfold divsD
  walk_at "dlt"
  rw [List.length_map]
  refine ⟨t.1, countsN t, mostN t piles, rfl, ht.d, ml.symm, by omega, by omega, fun gr le hgr hle => ?_⟩
  have pe := poss_eq (piles := piles) ht hgr hle
  have tin : ∀ T ∈ tabs (reachB t.1 (countsN t) (mostN t piles) gr le) t.1.length, TabIn t T := fun T hT => by
    rw [poss_tabs ht hgr hle] at hT
    exact (all_in ht).mp (List.mem_filter.mp hT).1
  have tlen : (tabs (reachB t.1 (countsN t) (mostN t piles) gr le) t.1.length).length ≤ 6188 := by
    rw [poss_tabs ht hgr hle]
    exact Nat.le_trans (List.length_filter_le _ _) (all_len ht)
  generalize tabs (reachB t.1 (countsN t) (mostN t piles) gr le) t.1.length = ts at pe tin tlen ⊢
  walk_at "dlt"
  refine ⟨t.2.1.length, _, rfl, f2, ?_⟩
  walk_at "dlt"
  refine ⟨true, t.1, countsN t, 1000000, ts, rfl, ⟨ht.d, by omega, by omega, by decide, counts_bd ht, by omega, fun T hT => ⟨by rw [(tin T hT).l, cl], tab_le (tin T hT)⟩⟩, fun _ => ?_⟩
  walk_at "dlt"
  refine wE_lcF (only_pair (by simp) (by simp)) (fun T => .tup [intsD T, intsD (lacksN t.1 (countsN t) T)]) intsD (fun T => decide (enoughP (lacksN t.1 (countsN t) T) (roomG (namesN t) piles))) (wI_zipTL ?_)
  walk_at "dlt"
  refine ⟨_, _, rfl, ts, zipD_self _, by omega, fun T hT => ?_, ?_⟩
  · have ti := tin T hT
    have ll := lacks_len (ns := t.1) (cs := countsN t) (t := T) (by rw [ti.l, cl])
    have lo := lvl_ok ti
    walk_at "dlt"
    refine ⟨lacksN t.1 (countsN t) T, roomG (namesN t) piles, by rw [ll, cl], by omega, fun x hx => ?_, fun g => (room_bd hp g).1, fun b hb => ?_⟩
    · obtain ⟨z, hz, rfl⟩ := List.mem_map.mp hx
      exact (lack_bd ti lo z hz).1
    refine ⟨_, rfl, ?_, fun _ => ?_⟩
    · rw [Bool.eq_iff_iff, decide_eq_true_eq]
      exact hb
    · walk_at "dlt"
      rfl
  rw [pe]
  walk_at "dlt"
  exact q
def S_possible (C : Addr) : DSp := fun ds Φ _ => ∃ t : Tri, ds = [nightD C t] ∧ TriOk t ∧ Φ (.tup ((possN t t.2.2).map intsD))
abbrev s_possible : Stmt := topS 79
abbrev N_possible : List Str := ["night"]
theorem sc_possible : FnScope N_possible ["night"] (defScope s_possible) := ⟨rfl, rfl, rfl, by decide +kernel, rfl, by decide +kernel, by decide +kernel⟩
theorem ok_possible (F : FunX K "possible" "possible" s_possible f fd) (c_check_night : CallD P w K mg base "check_night" 1 (S_check_night C)) (c_possible_with : CallD P w K mg base "possible_with" 6 (S_possible_with C)) (c_p_piles : PropB P w K mg base C "piles" 1 (S_getH C)) : FnG P w K mg base 7 f fd ["night"] (lift K (S_possible C)) := by
  refine fnX_of F sc_possible (fun ds Φ Ψ ⟨_, h, _⟩ => by rw [h]; rfl) fun cdv A outer s H E b => ⟨_, (pss_cons (ps_expr (k_cd K c_check_night (by exact b.room) (by decide) b.pass (pa_cons (pv 0) pa_nil)))
 (pss_one (ps_ret (k_cd K c_possible_with (by exact b.room) (by decide) b.pass (pa_cons (pv 0) (pa_cons (k_pr K c_p_piles (by exact b.room) (by decide) (pv 0)) pa_nil)))))), fun ds Φ Ψ ⟨t, h, ht, q⟩ => ?_⟩
  subst h
  show wS _ _ _ [some (.dat _)]
  walk_at "dlt"
  refine ⟨t, rfl, ?_⟩
  walk_at "dlt"
  refine ⟨_, rfl, t.1, t.2.1, t.2.2, rfl, ?_⟩
  walk_at "dlt"
  exact ⟨t, t.2.2, rfl, ht, ht.h, q⟩
end
/-! ### ranges of blocs, results and possible tables -/
section
variable {P : Program} {w : World} {K : PySem.W.Frag} {mg : Str → Option Value} {base : Heap} {f C : Addr} {fd : FuncData}
def S_range_in (C : Addr) : DSp := fun ds Φ _ => ∃ (t : Tri) (zs : List Str) (ts : List (List Int)), ds = [nightD C t, strsD zs, .tup (ts.map intsD)] ∧ TriOk t ∧ ts.length ≤ 100000 ∧ ts ≠ [] ∧ (∀ T ∈ ts, T.length = t.2.1.length) ∧
  ∀ lo hi, lo ∈ ts.map (heldL (namesN t) zs) → (∀ y ∈ ts.map (heldL (namesN t) zs), lo ≤ y) → hi ∈ ts.map (heldL (namesN t) zs) → (∀ y ∈ ts.map (heldL (namesN t) zs), y ≤ hi) → Φ (.tup [.int lo, .int hi])
abbrev s_range_in : Stmt := topS 82
abbrev N_range_in : List Str := ["night", "bloc", "tables", "held"]
theorem sc_range_in : FnScope N_range_in ["night", "bloc", "tables"] (defScope s_range_in) := ⟨rfl, rfl, rfl, by decide +kernel, rfl, by decide +kernel, by decide +kernel⟩
theorem ok_range_in (F : FunX K "range_in" "range_in" s_range_in f fd) (B : Blt mg) (c_seats_in : CallD P w K mg base "seats_in" 4 (S_seats_in C)) : FnG P w K mg base 5 f fd ["night", "bloc", "tables"] (lift K (S_range_in C)) := by
  refine fnX_of F sc_range_in (fun ds Φ Ψ ⟨_, _, _, h, _⟩ => by rw [h]; rfl) fun cdv A outer s H E b => ⟨_, (pss_cons (ps_set (i := 3) sc_range_in.nd rfl (by first | exact .inl rfl | exact .inr rfl) (k_cd K c_seats_in (by exact b.room) (by decide) b.pass (pa_cons (pv 0) (pa_cons (pv 1) (pa_cons (pv 2) pa_nil)))))
 (pss_one (ps_ret (pe_tup (pa_cons (pe_callB (k_minL K rfl) (by rfl) B.min bb_min (pa_cons (pv 3) pa_nil)) (pa_cons (pe_callB (k_maxL K rfl) (by rfl) B.max bb_max (pa_cons (pv 3) pa_nil)) pa_nil)))))), fun ds Φ Ψ ⟨t, zs, ts, h, ht, tn, ne, tl, q⟩ => ?_⟩
  subst h
  show wS _ _ _ [some (.dat _), some (.dat _), some (.dat _), none]
  have tp : 0 < ts.length := List.length_pos_iff.mpr ne
  walk_at "dlt"
  refine ⟨t, zs, ts, rfl, ht, tn, tl, ?_⟩
  rw [show ts.map (fun T => D.int (heldL (namesN t) zs T)) = (ts.map (heldL (namesN t) zs)).map D.int by rw [List.map_map]; rfl]
  walk_at "dlt"
  refine minLG_i (by rw [List.length_map]; exact tp) fun lo h1 h2 => ?_
  walk_at "dlt"
  refine maxLG_i (by rw [List.length_map]; exact tp) fun hi h3 h4 => ?_
  walk_at "dlt"
  exact q lo hi h1 h2 h3 h4
def S_may (C : Addr) : DSp := fun ds Φ _ => ∃ (t : Tri) (zs : List Str) (k : Int), ds = [nightD C t, strsD zs, .int k] ∧ TriOk t ∧ BlocOk (namesN t) zs ∧ 0 ≤ k ∧ k ≤ t.1.length ∧ possN t t.2.2 ≠ [] ∧ ∀ b : Bool, (b = true ↔ ∃ T ∈ possN t t.2.2, k ≤ heldL (namesN t) zs T) → Φ (.bl b)
open Classical in
theorem poss_in {t : Tri} {piles : List (Int × List Str)} (ht : TriOk t) {T : List Int} : T ∈ possN t piles ↔ TabIn t T ∧ enoughP (lacksN t.1 (countsN t) T) (roomG (namesN t) piles) := by
  unfold possN
  rw [List.mem_filter, all_in ht, decide_eq_true_eq]
abbrev s_may_have : Stmt := topS 84
abbrev N_may_have : List Str := ["night", "bloc", "seats"]
theorem sc_may_have : FnScope N_may_have ["night", "bloc", "seats"] (defScope s_may_have) := ⟨rfl, rfl, rfl, by decide +kernel, rfl, by decide +kernel, by decide +kernel⟩
theorem ok_may (F : FunX K "may_have" "may_have" s_may_have f fd) (c_check_night : CallD P w K mg base "check_night" 1 (S_check_night C)) (c_check_bloc : CallD P w K mg base "check_bloc" 4 (S_check_bloc C)) (c_check_seats : CallD P w K mg base "check_seats" 3 (S_check_seats C)) (c_range_in : CallD P w K mg base "range_in" 5 (S_range_in C)) (c_possible : CallD P w K mg base "possible" 7 (S_possible C)) : FnG P w K mg base 8 f fd ["night", "bloc", "seats"] (lift K (S_may C)) := by
  refine fnX_of F sc_may_have (fun ds Φ Ψ ⟨_, _, _, h, _⟩ => by rw [h]; rfl) fun cdv A outer s H E b => ⟨_, (pss_cons (ps_expr (k_cd K c_check_night (by exact b.room) (by decide) b.pass (pa_cons (pv 0) pa_nil)))
 (pss_cons (ps_expr (k_cd K c_check_bloc (by exact b.room) (by decide) b.pass (pa_cons (pv 0) (pa_cons (pv 1) pa_nil))))
 (pss_cons (ps_expr (k_cd K c_check_seats (by exact b.room) (by decide) b.pass (pa_cons (pv 0) (pa_cons (pv 2) pa_nil))))
 (pss_one (ps_ret (pe_cmpR op_ge (pe_ix (k_ix K) (k_cd K c_range_in (by exact b.room) (by decide) b.pass (pa_cons (pv 0) (pa_cons (pv 1) (pa_cons (k_cd K c_possible (by exact b.room) (by decide) b.pass (pa_cons (pv 0) pa_nil)) pa_nil)))) pe_int (fun _ _ => rfl)) (pv 2) (nomark _))))))), fun ds Φ Ψ ⟨t, zs, k, h, ht, hb, k0, k1, ne, q⟩ => ?_⟩
  subst h
  show wS _ _ _ [some (.dat _), some (.dat _), some (.dat _)]
  have pl : (possN t t.2.2).length ≤ 6188 := Nat.le_trans (by unfold possN; exact List.length_filter_le _ _) (all_len ht)
  walk_at "dlt"
  refine ⟨t, rfl, ?_⟩
  walk_at "dlt"
  refine ⟨t, zs, rfl, ht, hb, ?_⟩
  walk_at "dlt"
  refine ⟨t, k, rfl, k0, k1, ?_⟩
  walk_at "dlt"
  refine ⟨t, rfl, ht, ?_⟩
  walk_at "dlt"
  refine ⟨t, zs, possN t t.2.2, rfl, ht, by omega, ne, fun T hT => ((poss_in ht).mp hT).1.l, fun lo hi h1 h2 h3 h4 => ?_⟩
  walk_at "dlt"
  refine q _ ?_
  rw [decide_eq_true_eq]
  constructor
  · intro hk
    obtain ⟨T, hT, rfl⟩ := List.mem_map.mp h3
    exact ⟨T, hT, hk⟩
  · intro ⟨T, hT, hk⟩
    have := h4 _ (List.mem_map.mpr ⟨T, hT, rfl⟩)
    omega
end
theorem far_nn {t : Tri} {T : List Int} (h : TabIn t T) : 0 ≤ farN t T := sum_nn fun x hx => by
  obtain ⟨z, hz, rfl⟩ := List.mem_map.mp hx
  exact (lack_bd h (lvl_ok h) z hz).1
/-- enough, where there are no piles -/
theorem enough_none {t : Tri} {T : List Int} (h : TabIn t T) : enoughP (lacksN t.1 (countsN t) T) (roomG (namesN t) []) ↔ farN t T = 0 := by
  have l0 : ∀ x ∈ lacksN t.1 (countsN t) T, 0 ≤ x := fun x hx => by
    obtain ⟨z, hz, rfl⟩ := List.mem_map.mp hx
    exact (lack_bd h (lvl_ok h) z hz).1
  constructor
  · intro he
    have := he (2 ^ (lacksN t.1 (countsN t) T).length - 1) (by have := Nat.two_pow_pos (lacksN t.1 (countsN t) T).length; omega)
    rw [gsm_top] at this
    have h0 : roomG (namesN t) [] (2 ^ (lacksN t.1 (countsN t) T).length - 1) = 0 := rfl
    have := far_nn h
    unfold farN at *
    omega
  · intro hz g _
    rw [sum_all0 l0 hz]
    exact Int.le_refl _
theorem gsm_le : ∀ {xs : List Int} {g : Nat}, (∀ x ∈ xs, 0 ≤ x) → gsm xs g ≤ xs.sum
  | [], _, _ => Int.le_refl _
  | x :: xs, g, h => by
    have := gsm_le (g := g / 2) fun y hy => h y (List.mem_cons_of_mem _ hy)
    have := h x List.mem_cons_self
    rw [List.sum_cons]
    show (if g % 2 = 1 then x else 0) + gsm xs (g / 2) ≤ _
    split <;> omega
theorem gsm_zero (xs : List Int) : gsm xs 0 = 0 := by
  induction xs with
  | nil => rfl
  | cons a xs ih =>
    show (if 0 % 2 = 1 then a else 0) + gsm xs (0 / 2) = 0
    rw [show (0 : Nat) / 2 = 0 from rfl, ih]
    rfl
theorem mask_all (names zs : List Str) (h : ∀ z ∈ names, z ∈ zs) : maskN zs names = 2 ^ names.length - 1 := by
  induction names with
  | nil => rfl
  | cons z names ih =>
    unfold maskN
    rw [if_pos (h z List.mem_cons_self), ih fun y hy => h y (List.mem_cons_of_mem _ hy), List.length_cons, Nat.pow_succ]
    have := Nat.two_pow_pos names.length
    omega
theorem and_ne {n g : Nat} (h : g < 2 ^ n) (g0 : g ≠ 0) : (2 ^ n - 1) &&& g ≠ 0 := by
  rw [Nat.and_comm, Nat.and_two_pow_sub_one_eq_mod, Nat.mod_eq_of_lt h]
  exact g0
/-- enough, with one pile for all -/
theorem enough_one {t : Tri} {T : List Int} {s : Int} (h : TabIn t T) (s0 : 0 ≤ s) : enoughP (lacksN t.1 (countsN t) T) (roomG (namesN t) [(s, namesN t)]) ↔ farN t T ≤ s := by
  have ll : (lacksN t.1 (countsN t) T).length = (namesN t).length := by rw [lacks_len (by rw [h.l, cnt_len]), cnt_len, List.length_map]
  have l0 : ∀ x ∈ lacksN t.1 (countsN t) T, 0 ≤ x := fun x hx => by
    obtain ⟨z, hz, rfl⟩ := List.mem_map.mp hx
    exact (lack_bd h (lvl_ok h) z hz).1
  have rm : ∀ g, g < 2 ^ (namesN t).length → roomG (namesN t) [(s, namesN t)] g = if g = 0 then 0 else s := fun g hg => by
    unfold roomG
    have m := mask_all (namesN t) (namesN t) fun _ hz => hz
    by_cases c : g = 0
    · rw [if_pos c, List.filter_cons_of_neg (by rw [c]; simp)]
      rfl
    · rw [if_neg c, List.filter_cons_of_pos (by
        show (maskN (namesN t) (namesN t) &&& g != 0) = true
        rw [m]
        exact bne_iff_ne.mpr (and_ne hg c))]
      simp
  have f1 : 0 < (namesN t).length := by rw [List.length_map]; exact h.ok.f.l1
  have p2 : 2 ≤ 2 ^ (namesN t).length := by
    obtain ⟨n, hn⟩ : ∃ n, (namesN t).length = n + 1 := ⟨(namesN t).length - 1, by omega⟩
    rw [hn, Nat.pow_succ]
    have := Nat.two_pow_pos n
    omega
  unfold enoughP
  rw [ll]
  constructor
  · intro he
    have := he (2 ^ (namesN t).length - 1) (by omega)
    rw [rm _ (by omega), if_neg (by omega), ← ll, gsm_top] at this
    exact this
  · intro hf g hg
    rw [rm g hg]
    by_cases c : g = 0
    · rw [if_pos c, c, gsm_zero]
      exact Int.le_refl _
    · rw [if_neg c]
      exact Int.le_trans (gsm_le l0) hf
theorem far_res {t : Tri} {T : List Int} (h : TabIn t T) : farN t T = 0 ↔ isRes t.1 (zsN t T) = true := by
  rw [← far_iff h (lvl_ok h), decide_eq_true_eq]
/-! ### enough for every group: ballots can be given -/
def Meets (A g : Nat) : Prop := ∃ j, A.testBit j = true ∧ g.testBit j = true
theorem meets_iff {A g : Nat} : Meets A g ↔ A &&& g ≠ 0 := by
  constructor
  · intro ⟨j, h1, h2⟩ e
    have : (A &&& g).testBit j = true := by rw [Nat.testBit_and, h1, h2]; rfl
    rw [e] at this
    simp at this
  · intro h
    refine Classical.byContradiction fun hn => h (Nat.eq_of_testBit_eq fun j => ?_)
    rw [Nat.testBit_and, Nat.zero_testBit]
    cases ha : A.testBit j with
    | false => rfl
    | true =>
      cases hg : g.testBit j with
      | false => rfl
      | true => exact absurd ⟨j, ha, hg⟩ hn
/-! ### ways of giving ballots -/
/-! ### possible: some ballots make it a result -/
theorem maskN_bit {zs : List Str} : ∀ (names : List Str) (j : Nat), (maskN zs names).testBit j = true ↔ ∃ z, names[j]? = some z ∧ z ∈ zs
  | [], j => by
    show (0 : Nat).testBit j = true ↔ _
    simp
  | z :: names, 0 => by
    show ((if z ∈ zs then 1 else 0) + 2 * maskN zs names).testBit 0 = true ↔ _
    rw [Nat.testBit_zero, decide_eq_true_eq]
    by_cases c : z ∈ zs
    · rw [if_pos c]
      exact ⟨fun _ => ⟨z, rfl, c⟩, fun _ => by omega⟩
    · rw [if_neg c]
      refine ⟨fun e => by omega, fun ⟨y, e, hy⟩ => ?_⟩
      simp at e
      exact absurd (e ▸ hy) c
  | z :: names, j + 1 => by
    show ((if z ∈ zs then 1 else 0) + 2 * maskN zs names).testBit (j + 1) = true ↔ _
    rw [Nat.testBit_succ, show ((if z ∈ zs then 1 else 0) + 2 * maskN zs names) / 2 = maskN zs names by split <;> omega, maskN_bit names j]
    simp
def lotN (t : Tri) (v : List Int) : List Int := ((countsN t).zip v).map fun p => p.1 + p.2
/-! ### enough, said by names -/
def lackS (S : Str → Bool) (names : List Str) (xs : List Int) : Int := ((names.zip xs).map fun p => if S p.1 = true then p.2 else 0).sum
def roomS (S : Str → Bool) (piles : List (Int × List Str)) : Int := (piles.map fun p => if p.2.any S = true then p.1 else 0).sum
def EnoughS (names : List Str) (xs : List Int) (piles : List (Int × List Str)) : Prop := ∀ S : Str → Bool, lackS S names xs ≤ roomS S piles
def maskS (S : Str → Bool) : List Str → Nat
  | [] => 0
  | z :: names => (if S z = true then 1 else 0) + 2 * maskS S names
theorem maskS_lt (S : Str → Bool) : ∀ names : List Str, maskS S names < 2 ^ names.length
  | [] => by show 0 < 1; decide
  | z :: names => by
    have := maskS_lt S names
    show (if S z = true then 1 else 0) + 2 * maskS S names < 2 ^ (names.length + 1)
    rw [Nat.pow_succ]
    split <;> omega
theorem maskS_bit {S : Str → Bool} : ∀ (names : List Str) (j : Nat), (maskS S names).testBit j = true ↔ ∃ z, names[j]? = some z ∧ S z = true
  | [], j => by
    show (0 : Nat).testBit j = true ↔ _
    simp
  | z :: names, 0 => by
    show ((if S z = true then 1 else 0) + 2 * maskS S names).testBit 0 = true ↔ _
    rw [Nat.testBit_zero, decide_eq_true_eq]
    by_cases c : S z = true
    · rw [if_pos c]
      exact ⟨fun _ => ⟨z, rfl, c⟩, fun _ => by omega⟩
    · rw [if_neg c]
      refine ⟨fun e => by omega, fun ⟨y, e, hy⟩ => ?_⟩
      simp at e
      exact absurd (e ▸ hy) c
  | z :: names, j + 1 => by
    show ((if S z = true then 1 else 0) + 2 * maskS S names).testBit (j + 1) = true ↔ _
    rw [Nat.testBit_succ, show ((if S z = true then 1 else 0) + 2 * maskS S names) / 2 = maskS S names by split <;> omega, maskS_bit names j]
    simp
theorem gsm_maskS {S : Str → Bool} : ∀ {names : List Str} {xs : List Int}, xs.length = names.length → gsm xs (maskS S names) = lackS S names xs
  | [], [], _ => rfl
  | z :: names, x :: xs, h => by
    have ih := gsm_maskS (S := S) (names := names) (xs := xs) (by simpa using h)
    show (if ((if S z = true then 1 else 0) + 2 * maskS S names) % 2 = 1 then x else 0) + gsm xs (((if S z = true then 1 else 0) + 2 * maskS S names) / 2) = (if S z = true then x else 0) + lackS S names xs
    rw [show ((if S z = true then 1 else 0) + 2 * maskS S names) / 2 = maskS S names by split <;> omega, ih]
    by_cases c : S z = true
    · rw [if_pos c, if_pos c, if_pos (by omega)]
    · rw [if_neg c, if_neg c, if_neg (by omega)]
theorem room_maskS {S : Str → Bool} {names : List Str} : ∀ {piles : List (Int × List Str)}, (∀ p ∈ piles, ∀ z ∈ p.2, z ∈ names) → roomG names piles (maskS S names) = roomS S piles
  | [], _ => rfl
  | p :: piles, h => by
    have ih := room_maskS (S := S) (names := names) (piles := piles) fun q hq => h q (List.mem_cons_of_mem _ hq)
    have hp := h p List.mem_cons_self
    have m : Meets (maskN p.2 names) (maskS S names) ↔ p.2.any S = true := by
      rw [List.any_eq_true]
      constructor
      · intro ⟨j, a, b⟩
        obtain ⟨z, h1, h2⟩ := (maskN_bit names j).mp a
        obtain ⟨y, h3, h4⟩ := (maskS_bit names j).mp b
        rw [h1] at h3
        cases h3
        exact ⟨z, h2, h4⟩
      · intro ⟨z, hz, hS⟩
        obtain ⟨j, hj⟩ := List.mem_iff_getElem?.mp (hp z hz)
        exact ⟨j, (maskN_bit names j).mpr ⟨z, hj, hz⟩, (maskS_bit names j).mpr ⟨z, hj, hS⟩⟩
    unfold roomG roomS at ih ⊢
    rw [List.map_cons, List.sum_cons]
    by_cases c : p.2.any S = true
    · rw [if_pos c, List.filter_cons_of_pos (p := fun p : Int × List Str => maskN p.2 names &&& maskS S names != 0) (a := p) (bne_iff_ne.mpr (meets_iff.mp (m.mpr c))), List.map_cons, List.sum_cons, ih]
    · rw [if_neg c, List.filter_cons_of_neg (p := fun p : Int × List Str => maskN p.2 names &&& maskS S names != 0) (a := p) (by
        rw [bne_iff_ne]
        exact fun z => c (m.mp (meets_iff.mpr z))), ih]
      omega
theorem group_names {names : List Str} (nn : names.Nodup) {g : Nat} (hg : g < 2 ^ names.length) : maskS (fun z => g.testBit (names.idxOf z)) names = g := by
  refine Nat.eq_of_testBit_eq fun j => ?_
  rw [Bool.eq_iff_iff, maskS_bit]
  constructor
  · intro ⟨z, hj, hz⟩
    obtain ⟨h1, h2⟩ := List.getElem?_eq_some_iff.mp hj
    rw [← h2, nn.idxOf_getElem j h1] at hz
    exact hz
  · intro hj
    have h1 : j < names.length := by
      refine Nat.lt_of_not_le fun hle => ?_
      rw [Nat.testBit_lt_two_pow (Nat.lt_of_lt_of_le hg (Nat.pow_le_pow_right (by decide) hle))] at hj
      cases hj
    exact ⟨names[j], List.getElem?_eq_getElem h1, by rw [nn.idxOf_getElem j h1]; exact hj⟩
theorem enough_S {names : List Str} {xs : List Int} {piles : List (Int × List Str)} (nn : names.Nodup) (hl : xs.length = names.length) (hs : ∀ p ∈ piles, ∀ z ∈ p.2, z ∈ names) : enoughP xs (roomG names piles) ↔ EnoughS names xs piles := by
  constructor
  · intro he S
    have := he (maskS S names) (by rw [hl]; exact maskS_lt S names)
    rw [gsm_maskS hl, room_maskS hs] at this
    exact this
  · intro he g hg
    rw [hl] at hg
    have := he fun z => g.testBit (names.idxOf z)
    rw [← gsm_maskS hl, ← room_maskS hs, group_names nn hg] at this
    exact this
/-! ### what is lacked: the least that makes it a result -/
structure IsLack (ns cs T v : List Int) : Prop where
  l : v.length = cs.length
  p : ∀ x ∈ v, 0 ≤ x
  r : isRes ns (((cs.zip v).map fun p => p.1 + p.2).zip T) = true
  m : ∀ u : List Int, u.length = cs.length → (∀ x ∈ u, 0 ≤ x) → isRes ns (((cs.zip u).map fun p => p.1 + p.2).zip T) = true → ∀ z ∈ v.zip u, z.1 ≤ z.2
theorem zip_le_eq : ∀ {a b : List Int}, a.length = b.length → (∀ z ∈ a.zip b, z.1 ≤ z.2) → (∀ z ∈ b.zip a, z.1 ≤ z.2) → a = b
  | [], [], _, _, _ => rfl
  | x :: a, y :: b, h, h1, h2 => by
    have e1 := h1 (x, y) List.mem_cons_self
    have e2 := h2 (y, x) List.mem_cons_self
    have := zip_le_eq (a := a) (b := b) (by simpa using h) (fun z hz => h1 z (List.mem_cons_of_mem _ hz)) fun z hz => h2 z (List.mem_cons_of_mem _ hz)
    rw [this, show x = y from Int.le_antisymm e1 e2]
theorem IsLack.uniq {ns cs T v u : List Int} (h : IsLack ns cs T v) (k : IsLack ns cs T u) : v = u := zip_le_eq (by rw [h.l, k.l]) (h.m u k.l k.p k.r) (k.m v h.l h.p h.r)
theorem zip_fs {α : Type} {f h : α → Int} : ∀ {l : List α}, (∀ x ∈ l, f x ≤ h x) → ∀ z ∈ (l.map f).zip (l.map h), z.1 ≤ z.2
  | [], _, z, hz => by cases hz
  | x :: l, hl, z, hz => by
    rw [List.map_cons, List.map_cons, List.zip_cons_cons] at hz
    rcases List.mem_cons.mp hz with e | hz
    · rw [e]; exact hl x List.mem_cons_self
    · exact zip_fs (fun y hy => hl y (List.mem_cons_of_mem _ hy)) z hz
theorem lack_is {t : Tri} {T : List Int} (h : TabIn t T) : IsLack t.1 (countsN t) T (lacksN t.1 (countsN t) T) := by
  have hl := lvl_ok h
  refine ⟨lacks_len (by rw [h.l, cnt_len]), fun x hx => ?_, ?_, fun u u1 u0 ur => ?_⟩
  · obtain ⟨z, hz, rfl⟩ := List.mem_map.mp hx
    exact (lack_bd h hl z hz).1
  · have := due_res (tab_lvlz h) hl.is
    unfold lacksN
    rw [zip_due, zip_map2]
    exact this
  · obtain ⟨e1, e2, e3⟩ := zip_tri (cs := countsN t) (g := u) (t := T) u1 (by rw [h.l, cnt_len])
    have key := gift_ge (L := lvlT t T) (l := ((countsN t).zip u).zip T) h.ok.d (fun x hx => by
      obtain ⟨a, b⟩ := List.of_mem_zip (a := x.1) (b := x.2) hx
      obtain ⟨c, d⟩ := List.of_mem_zip (a := x.1.1) (b := x.1.2) a
      exact ⟨(counts_bd h.ok _ c).1, u0 _ d, (tab_le h _ b).1, (tab_le h _ b).2⟩) (by rw [e1]; exact hl.is) (by rw [e2]; exact ur)
    have e4 : (((countsN t).zip u).zip T).map (fun x => lackI t.1 (lvlT t T) (x.1.1, x.2)) = lacksN t.1 (countsN t) T := by
      have : lacksN t.1 (countsN t) T = (zsN t T).map (lackI t.1 (lvlT t T)) := rfl
      rw [this]
      generalize lvlT t T = L
      show _ = ((countsN t).zip T).map _
      rw [← e1, List.map_map]
      rfl
    have := zip_fs key
    rw [e3, e4] at this
    exact this
theorem lack_eq {t : Tri} {T v : List Int} (h : TabIn t T) (hv : IsLack t.1 (countsN t) T v) : lacksN t.1 (countsN t) T = v := (lack_is h).uniq hv
/-! ### rows of tables in order -/
/-! ### the same night, told otherwise -/
theorem lackn_len {t : Tri} {T : List Int} (h : TabIn t T) : (lacksN t.1 (countsN t) T).length = (namesN t).length := by rw [lacks_len (by rw [h.l, cnt_len]), cnt_len, List.length_map]
structure IsRng (t : Tri) (zs : List Str) (r : Int × Int) : Prop where
  a : ∃ T ∈ possN t t.2.2, heldL (namesN t) zs T = r.1
  b : ∃ T ∈ possN t t.2.2, heldL (namesN t) zs T = r.2
  c : ∀ T ∈ possN t t.2.2, r.1 ≤ heldL (namesN t) zs T ∧ heldL (namesN t) zs T ≤ r.2
/-! divisors a number of times as great -/
/-! ### what is told of a night -/
/-! ### some table is possible -/
theorem swap_res {ns : List Int} {zs : List (Int × Int)} (hz : ∀ z ∈ zs, 0 ≤ z.2 ∧ z.2 ≤ ns.length) (h : ¬ SwapZ ns zs) : isRes ns zs = true := by
  refine res_iff.mpr fun x hx y hy x0 y1 => Int.not_lt.mp fun hlt => h ⟨y, hy, x, hx, x0, ns[y.2.toNat]'(by have := hz y hy; omega), ns[(x.2 - 1).toNat]'(by have := hz x hx; omega), List.getElem?_eq_getElem _, List.getElem?_eq_getElem _, ?_⟩
  have e1 : payI ns x.2 = ns[(x.2 - 1).toNat]'(by have := hz x hx; omega) := by
    unfold payI
    rw [if_neg (by omega)]
    exact getD_of (List.getElem?_eq_getElem _)
  have e2 : payI ns (y.2 + 1) = ns[y.2.toNat]'(by have := hz y hy; omega) := by
    unfold payI
    have := (hz y hy).1
    rw [if_neg (by omega)]
    refine getD_of ?_
    rw [show (y.2 + 1 - 1).toNat = y.2.toNat by omega]
    exact List.getElem?_eq_getElem _
  rw [e1, e2] at hlt
  exact hlt
theorem inBd_iff {F : Int → Int × Int} : ∀ {cs T : List Int}, T.length = cs.length → (inBd (cs.map F) T = true ↔ ∀ z ∈ cs.zip T, (F z.1).1 ≤ z.2 ∧ z.2 ≤ (F z.1).2)
  | [], [], _ => ⟨fun _ z hz => (by cases hz), fun _ => rfl⟩
  | c :: cs, x :: T, h => by
    have ih := inBd_iff (F := F) (cs := cs) (T := T) (by simpa using h)
    show ((decide ((F c).1 ≤ x) && decide (x ≤ (F c).2)) && inBd (cs.map F) T) = true ↔ _
    rw [Bool.and_eq_true, Bool.and_eq_true, decide_eq_true_eq, decide_eq_true_eq, ih, List.zip_cons_cons]
    exact ⟨fun ⟨a, b⟩ z hz => (List.mem_cons.mp hz).elim (fun e => e ▸ a) (b z), fun h => ⟨h (c, x) List.mem_cons_self, fun z hz => h z (List.mem_cons_of_mem _ hz)⟩⟩
def resL (t : Tri) : List (List Int) := (allT t).filter fun T => isRes t.1 (zsN t T)
theorem made_res2 {t : Tri} {p : Int} (ht : TriOk t) (hp : KthN t p) : madeN t p = resL t := by
  have cl := cnt_len t
  unfold madeN resL
  rw [bds_at, ← tabs_filt (S := (t.1.length : Int)) _ _ fun b hb => ?_, List.length_map, cl]
  · refine List.filter_congr fun T hT => ?_
    have ti := (all_in ht).mp hT
    rw [Bool.eq_iff_iff, inBd_iff (by rw [ti.l, cl])]
    have zb : ∀ z ∈ zsN t T, 0 ≤ z.2 ∧ z.2 ≤ t.1.length := fun z hz => tab_le ti _ (List.of_mem_zip (a := z.1) (b := z.2) hz).2
    have sb := swap_bds ht.d hp (fun c hc => (counts_bd ht c hc).1) (t := T) (by rw [ti.l, cl]) ti.b ti.s
    exact ⟨fun h => swap_res zb (sb.mpr h), fun h => sb.mp (res_swap zb h)⟩
  · obtain ⟨c, _, rfl⟩ := List.mem_map.mp hb
    have := lo_len t.1 p c
    simp only
    omega
theorem kth_night {t : Tri} (ht : TriOk t) : ∃ p, KthN t p := kth_some (by
  have d1 := ht.d.l1
  have f1 := ht.f.l1
  rw [claims_len, cnt_len]
  have : t.1.length ≤ t.2.1.length * t.1.length := Nat.le_mul_of_pos_left _ (by omega)
  omega)
theorem res_some {t : Tri} (ht : TriOk t) : ∃ T ∈ allT t, isRes t.1 (zsN t T) = true := by
  obtain ⟨p, hp⟩ := kth_night ht
  have ne := (bds_tabs ht.d.l1 hp).2
  have e := made_res2 ht hp
  unfold madeN at e
  rw [e] at ne
  obtain ⟨T, hT⟩ := List.exists_mem_of_ne_nil _ ne
  exact ⟨T, (List.mem_filter.mp hT).1, (List.mem_filter.mp hT).2⟩
theorem poss_some {t : Tri} (ht : TriOk t) {piles : List (Int × List Str)} (hp : HeapsOk (namesN t) piles) : possN t piles ≠ [] := by
  obtain ⟨T, hT, hr⟩ := res_some ht
  have ti := (all_in ht).mp hT
  have z := (far_res ti).mpr hr
  refine List.ne_nil_of_mem ((poss_in ht).mpr ⟨ti, fun g _ => ?_⟩)
  rw [sum_all0 (fun x hx => by
    obtain ⟨z, hz, rfl⟩ := List.mem_map.mp hx
    exact (lack_bd ti (lvl_ok ti) z hz).1) z]
  exact (room_bd hp g).1
/-! ### the range of a bloc -/
section
variable {P : Program} {w : World} {K : PySem.W.Frag} {mg : Str → Option Value} {base : Heap} {f C : Addr} {fd : FuncData}
def S_seat_range (C : Addr) : DSp := fun ds Φ _ => ∃ (t : Tri) (zs : List Str), ds = [nightD C t, strsD zs] ∧ TriOk t ∧ BlocOk (namesN t) zs ∧ ∀ q, IsRng t zs q → Φ (.tup [.int q.1, .int q.2])
abbrev s_seat_range : Stmt := topS 83
abbrev N_seat_range : List Str := ["night", "bloc"]
theorem sc_seat_range : FnScope N_seat_range ["night", "bloc"] (defScope s_seat_range) := ⟨rfl, rfl, rfl, by decide +kernel, rfl, by decide +kernel, by decide +kernel⟩
theorem ok_seat_range (F : FunX K "seat_range" "seat_range" s_seat_range f fd) (c_check_night : CallD P w K mg base "check_night" 1 (S_check_night C)) (c_check_bloc : CallD P w K mg base "check_bloc" 4 (S_check_bloc C)) (c_range_in : CallD P w K mg base "range_in" 5 (S_range_in C)) (c_possible : CallD P w K mg base "possible" 7 (S_possible C)) : FnG P w K mg base 8 f fd ["night", "bloc"] (lift K (S_seat_range C)) := by
  refine fnX_of F sc_seat_range (fun ds Φ Ψ ⟨_, _, h, _⟩ => by rw [h]; rfl) fun cdv A outer s H E b => ⟨_, (pss_cons (ps_expr (k_cd K c_check_night (by exact b.room) (by decide) b.pass (pa_cons (pv 0) pa_nil)))
 (pss_cons (ps_expr (k_cd K c_check_bloc (by exact b.room) (by decide) b.pass (pa_cons (pv 0) (pa_cons (pv 1) pa_nil))))
 (pss_one (ps_ret (k_cd K c_range_in (by exact b.room) (by decide) b.pass (pa_cons (pv 0) (pa_cons (pv 1) (pa_cons (k_cd K c_possible (by exact b.room) (by decide) b.pass (pa_cons (pv 0) pa_nil)) pa_nil)))))))), fun ds Φ Ψ ⟨t, zs, h, ht, hb, q⟩ => ?_⟩
  subst h
  show wS _ _ _ [some (.dat _), some (.dat _)]
  have pl : (possN t t.2.2).length ≤ 6188 := Nat.le_trans (by unfold possN; exact List.length_filter_le _ _) (all_len ht)
  walk_at "dlt"
  refine ⟨t, rfl, ?_⟩
  walk_at "dlt"
  refine ⟨t, zs, rfl, ht, hb, ?_⟩
  walk_at "dlt"
  refine ⟨t, rfl, ht, ?_⟩
  walk_at "dlt"
  refine ⟨t, zs, possN t t.2.2, rfl, ht, by omega, poss_some ht ht.h, fun T hT => ((poss_in ht).mp hT).1.l, fun lo hi h1 h2 h3 h4 => ?_⟩
  walk_at "dlt"
  obtain ⟨T1, a1, b1⟩ := List.mem_map.mp h1
  obtain ⟨T2, a2, b2⟩ := List.mem_map.mp h3
  exact q (lo, hi) ⟨⟨T1, a1, b1⟩, ⟨T2, a2, b2⟩, fun T hT => ⟨h2 _ (List.mem_map.mpr ⟨T, hT, rfl⟩), h4 _ (List.mem_map.mpr ⟨T, hT, rfl⟩)⟩⟩
end
/-! ### more ballots for one party: what is possible -/
theorem held_one : ∀ {names : List Str} {T : List Int} {j : Nat} {z : Str}, names.Nodup → T.length = names.length → names[j]? = some z → heldL names [z] T = cF T j
  | y :: names, x :: T, 0, z, nd, hl, hz => by
    obtain ⟨a, b⟩ := List.nodup_cons.mp nd
    have e : y = z := by simpa using hz
    subst e
    have none : ((names.zip T).filter fun p : Str × Int => decide (p.1 ∈ [y])) = [] := List.filter_eq_nil_iff.mpr fun p hp => by
      have h1 := (List.of_mem_zip (a := p.1) (b := p.2) hp).1
      rw [decide_eq_true_eq, List.mem_singleton]
      exact fun e => a (e ▸ h1)
    unfold heldL
    rw [List.zip_cons_cons, List.filter_cons_of_pos (by simp), none]
    show x + 0 = x
    omega
  | y :: names, x :: T, j + 1, z, nd, hl, hz => by
    obtain ⟨a, b⟩ := List.nodup_cons.mp nd
    have hz : names[j]? = some z := by simpa using hz
    have ih := held_one (names := names) (T := T) b (by simpa using hl) hz
    have ne : ¬ y = z := fun e => a (e ▸ List.mem_of_getElem? hz)
    unfold heldL at ih ⊢
    rw [List.zip_cons_cons, List.filter_cons_of_neg (by simpa using ne), ih]
    rfl
theorem res_iff_swap {ns : List Int} {zs : List (Int × Int)} (hz : ∀ z ∈ zs, 0 ≤ z.2 ∧ z.2 ≤ ns.length) : isRes ns zs = true ↔ ¬ SwapZ ns zs := ⟨res_swap hz, swap_res hz⟩
theorem res_T {t : Tri} {cs T : List Int} (h : TabIn t T) (hc : cs.length = t.2.1.length) : isRes t.1 (cs.zip T) = true ↔ ResT t.1 cs T := by
  rw [res_iff_swap fun z hz => tab_le h _ (List.of_mem_zip (a := z.1) (b := z.2) hz).2]
  exact ⟨fun k => ⟨by rw [h.l, hc], h.b, h.s, k⟩, fun k => k.n⟩
theorem resT_some {ns cs : List Int} (dv : DivOk ns) (c1 : 1 ≤ cs.length) (c0 : ∀ c ∈ cs, 0 ≤ c) : ∃ A : List (List Int), A ≠ [] ∧ ∀ t, t ∈ A ↔ ResT ns cs t := by
  have d1 := dv.l1
  obtain ⟨p, hp⟩ : ∃ p, IsKth (claimsN ns cs).flatten (ns.length - 1) p := kth_some (by
    rw [claims_len]
    have : ns.length ≤ cs.length * ns.length := Nat.le_mul_of_pos_left _ (by omega)
    omega)
  exact ⟨_, (bds_tabs d1 hp).2, made_res dv hp c0⟩
theorem span_some {A : List (List Int)} (k : Nat) (ne : A ≠ []) : ∃ m M, SpanI A k m M := by
  induction A with
  | nil => exact absurd rfl ne
  | cons a A ih =>
    by_cases e : A = []
    · subst e
      exact ⟨cF a k, cF a k, ⟨a, by simp, rfl⟩, fun t ht => by rw [List.mem_singleton.mp ht]; exact Int.le_refl _, ⟨a, by simp, rfl⟩, fun t ht => by rw [List.mem_singleton.mp ht]; exact Int.le_refl _⟩
    · obtain ⟨m, M, s⟩ := ih e
      refine ⟨min m (cF a k), max M (cF a k), ?_, fun t ht => ?_, ?_, fun t ht => ?_⟩
      · by_cases h : m ≤ cF a k
        · obtain ⟨t, h1, h2⟩ := s.lo
          exact ⟨t, List.mem_cons_of_mem _ h1, by omega⟩
        · exact ⟨a, List.mem_cons_self, by omega⟩
      · rcases List.mem_cons.mp ht with e | h
        · subst e; omega
        · have := s.le t h; omega
      · by_cases h : cF a k ≤ M
        · obtain ⟨t, h1, h2⟩ := s.hi
          exact ⟨t, List.mem_cons_of_mem _ h1, by omega⟩
        · exact ⟨a, List.mem_cons_self, by omega⟩
      · rcases List.mem_cons.mp ht with e | h
        · subst e; omega
        · have := s.ge t h; omega
theorem zip_len {cs g : List Int} (hl : g.length = cs.length) : ((cs.zip g).map fun p => p.1 + p.2).length = cs.length := by rw [List.length_map, List.length_zip, hl, Nat.min_self]
theorem lot_len {t : Tri} {g : List Int} (gl : g.length = t.2.1.length) : (lotN t g).length = t.2.1.length := by
  unfold lotN
  rw [zip_len (by rw [gl, cnt_len]), cnt_len]
/-! margins -/
theorem lack_le {t : Tri} {T g : List Int} (h : TabIn t T) (gl : g.length = t.2.1.length) (g0 : ∀ x ∈ g, 0 ≤ x) (hr : ResT t.1 (lotN t g) T) : farN t T ≤ g.sum := by
  have li := lack_is h
  have hm := li.m g (by rw [gl, cnt_len]) g0 ((res_T h (lot_len gl)).mpr hr)
  have key : ∀ {a b : List Int}, a.length = b.length → (∀ z ∈ a.zip b, z.1 ≤ z.2) → a.sum ≤ b.sum := by
    intro a
    induction a with
    | nil =>
      intro b hl _
      match b, hl with
      | [], _ => exact Int.le_refl _
    | cons x a ih =>
      intro b hl hz
      match b, hl with
      | y :: b, hl =>
        have h1 := hz (x, y) List.mem_cons_self
        have := ih (b := b) (by simpa using hl) fun z h => hz z (List.mem_cons_of_mem _ h)
        rw [List.sum_cons, List.sum_cons]
        simp only at h1
        omega
  exact key (by rw [li.l, gl, cnt_len]) hm
/-! more to come -/
theorem set_split {α : Type} : ∀ {l : List α} {i : Nat} {x : α}, i < l.length → l.take i ++ [x] ++ l.drop (i + 1) = l.set i x
  | a :: l, 0, x, _ => by simp
  | a :: l, i + 1, x, h => by
    have := set_split (l := l) (i := i) (x := x) (by simpa using h)
    rw [List.take_succ_cons, List.drop_succ_cons, List.set_cons_succ, ← this]
    simp
/-! ### one pile for all -/
open Classical in
theorem poss_none {t : Tri} (ht : TriOk t) : possN t [] = resL t := by
  unfold possN resL
  refine List.filter_congr fun T hT => ?_
  have ti := (all_in ht).mp hT
  rw [Bool.eq_iff_iff, decide_eq_true_eq, enough_none ti, far_res ti]
open Classical in
theorem poss_one {t : Tri} {s : Int} (ht : TriOk t) (s0 : 0 ≤ s) : possN t [(s, namesN t)] = (allT t).filter fun T => decide (farN t T ≤ s) := by
  unfold possN
  refine List.filter_congr fun T hT => ?_
  rw [Bool.eq_iff_iff, decide_eq_true_eq, decide_eq_true_eq, enough_one ((all_in ht).mp hT) s0]
theorem shp_tabs (A : List (List Int)) : Shp 64 (.tup (A.map intsD)) := Shp.tup (n := 63) fun d hd => by
  obtain ⟨x, _, rfl⟩ := List.mem_map.mp hd
  exact shp_ints x
theorem eqv_tabs (A B : List (List Int)) : D.eqv (.tup (A.map intsD)) (.tup (B.map intsD)) = decide (A = B) := by
  rw [Bool.eq_iff_iff, decide_eq_true_eq]
  refine eqv_tup (fun x y => ?_) A B
  unfold intsD
  rw [eqv_ints, decide_eq_true_eq]
theorem neG_tabs {A B : List (List Int)} {Φ : D → Prop} (h : Φ (.bl (!decide (A = B)))) : neG (.tup (A.map intsD)) (.tup (B.map intsD)) Φ := neG_of (shp_tabs A) (shp_tabs B) (by rw [eqv_tabs]; exact h)
theorem eqG_tabs {A B : List (List Int)} {Φ : D → Prop} (h : Φ (.bl (decide (A = B)))) : eqG (.tup (A.map intsD)) (.tup (B.map intsD)) Φ := eqG_of (shp_tabs A) (shp_tabs B) (by rw [eqv_tabs]; exact h)
theorem neG_row {a b : List Int} {Φ : D → Prop} (h : Φ (.bl (!decide (a = b)))) : neG (intsD a) (intsD b) Φ := neG_of ((shp_ints a).mono (by decide)) ((shp_ints b).mono (by decide)) (by
  show Φ (.bl (!D.eqv (.tup (a.map D.int)) (.tup (b.map D.int))))
  rw [eqv_ints]; exact h)
theorem eqG_row {a b : List Int} {Φ : D → Prop} (h : Φ (.bl (decide (a = b)))) : eqG (intsD a) (intsD b) Φ := eqG_of ((shp_ints a).mono (by decide)) ((shp_ints b).mono (by decide)) (by
  show Φ (.bl (D.eqv (.tup (a.map D.int)) (.tup (b.map D.int))))
  rw [eqv_ints]; exact h)
theorem one_bloc {t : Tri} (ht : TriOk t) {z : Str} (hz : z ∈ namesN t) : BlocOk (namesN t) [z] :=
  ⟨List.cons_ne_nil _ _, by simp, by rw [List.length_map]; exact ht.f.l2, fun y hy => by rw [List.mem_singleton.mp hy]; exact hz, fun i a b _ h => by simp at h⟩
/-! ### fractions, the least price -/
theorem frac_is {L s : Int} (hL : 0 ≤ L) (hs : 1 ≤ s) : 0 ≤ (fracI (L, s)).1 ∧ 1 ≤ (fracI (L, s)).2 ∧ (fracI (L, s)).1 * s = L * (fracI (L, s)).2 ∧ (fracI (L, s)).2 ≤ s ∧ (fracI (L, s)).1 ≤ L := by
  obtain ⟨a, rfl⟩ := Int.eq_ofNat_of_zero_le hL
  obtain ⟨b, rfl⟩ := Int.eq_ofNat_of_zero_le (show 0 ≤ s by omega)
  have hb : 0 < b := by omega
  have g0 : 0 < Nat.gcd a b := Nat.gcd_pos_of_pos_right _ hb
  have e1 : a / Nat.gcd a b * Nat.gcd a b = a := Nat.div_mul_cancel (Nat.gcd_dvd_left a b)
  have e2 : b / Nat.gcd a b * Nat.gcd a b = b := Nat.div_mul_cancel (Nat.gcd_dvd_right a b)
  have f1 : (fracI ((a : Int), (b : Int))).1 = ((a / Nat.gcd a b : Nat) : Int) := by unfold fracI; simp
  have f2 : (fracI ((a : Int), (b : Int))).2 = ((b / Nat.gcd a b : Nat) : Int) := by unfold fracI; simp
  rw [f1, f2]
  generalize Nat.gcd a b = g at *
  generalize a / g = x at *
  generalize b / g = y at *
  subst e1 e2
  have y0 : 0 < y := Nat.pos_of_mul_pos_right hb
  refine ⟨by omega, by omega, ?_, ?_, ?_⟩
  · rw [← Int.natCast_mul, ← Int.natCast_mul]
    refine congrArg Nat.cast ?_
    rw [Nat.mul_comm y g, ← Nat.mul_assoc]
  · exact Int.ofNat_le.mpr (Nat.le_mul_of_pos_right y g0)
  · exact Int.ofNat_le.mpr (Nat.le_mul_of_pos_right x g0)
section
variable {P : Program} {w : World} {K : PySem.W.Frag} {mg : Str → Option Value} {base : Heap} {f C : Addr} {fd : FuncData}
def S_fractionW : DSp := fun ds Φ _ => ∃ a b : Int, ds = [.int a, .int b] ∧ 0 ≤ a ∧ 1 ≤ b ∧ b.natAbs < 2 ^ 8000 ∧ Φ (pq (fracI (a, b)))
abbrev s_fraction : Stmt := topS 61
abbrev N_fraction : List Str := ["top", "bottom", "common"]
theorem sc_fraction : FnScope N_fraction ["top", "bottom"] (defScope s_fraction) := ⟨rfl, rfl, rfl, by decide +kernel, rfl, by decide +kernel, by decide +kernel⟩
theorem ok_fractionW (F : FunX K "fraction" "fraction" s_fraction f fd) (B : Blt mg) (c_gcd : mg "gcd" = some (.builtin "math.gcd")) : FnG P w K mg base 1 f fd ["top", "bottom"] (lift K S_fractionW) := by
  refine fnX_of F sc_fraction (fun ds Φ Ψ ⟨_, _, h, _⟩ => by rw [h]; rfl) fun cdv A outer s H E b => ⟨_, (pss_cons (ps_set (i := 2) sc_fraction.nd rfl (by first | exact .inl rfl | exact .inr rfl) (pe_callBfun k_gcd (by rfl) c_gcd (pa_cons (pv 0) (pa_cons (pv 1) pa_nil))))
 (pss_one (ps_ret (pe_tup (pa_cons (pe_op op_fdivW (pv 0) (pv 2)) (pa_cons (pe_op op_fdivW (pv 1) (pv 2)) pa_nil)))))), fun ds Φ Ψ ⟨a, c, h, a0, c1, c2, q⟩ => ?_⟩
  subst h
  show wS _ _ _ [some (.dat _), some (.dat _), none]
  walk_at "dlt"
  refine wE_cb cbd_gcd ?_
  walk_at "dlt"
  refine ⟨_, _, rfl, ?_⟩
  have g0 : 0 < Nat.gcd a.natAbs c.natAbs := Nat.gcd_pos_of_pos_right _ (by omega)
  have g1 : Nat.gcd a.natAbs c.natAbs ≤ c.natAbs := Nat.gcd_le_right _ (by omega)
  have q' : Φ (.tup [.int (a / ((Nat.gcd a.natAbs c.natAbs : Nat) : Int)), .int (c / ((Nat.gcd a.natAbs c.natAbs : Nat) : Int))]) := q
  have gn : (((Nat.gcd a.natAbs c.natAbs : Nat) : Int)).natAbs < 2 ^ 8000 := by
    rw [Int.natAbs_natCast]
    exact Nat.lt_of_le_of_lt g1 c2
  have gp : (0 : Int) < ((Nat.gcd a.natAbs c.natAbs : Nat) : Int) := by omega
  generalize ((Nat.gcd a.natAbs c.natAbs : Nat) : Int) = g at q' gn gp ⊢
  have cw : ∀ x : Int, CDivW x g := fun x => cdivW gp gn
  walk_at "dlt"
  refine fdivWG_i (cw _) ?_
  walk_at "dlt"
  refine fdivWG_i (cw _) ?_
  walk_at "dlt"
  exact q'
def S_least_price (C : Addr) : DSp := fun ds Φ _ => ∃ (t : Tri) (l : List Int), ds = [nightD C t, intsD l] ∧ TabIn t l ∧ (LvlOk t l → Φ (pq (fracI (lvlT t l, (scaleN t.1 : Int)))))
abbrev s_least_price : Stmt := topS 88
abbrev N_least_price : List Str := ["night", "table", "level", "_"]
theorem sc_least_price : FnScope N_least_price ["night", "table"] (defScope s_least_price) := ⟨rfl, rfl, rfl, by decide +kernel, rfl, by decide +kernel, by decide +kernel⟩
theorem ok_least_price (F : FunX K "least_price" "least_price" s_least_price f fd) (B : Blt mg) (c_level_and_lacks : CallD P w K mg base "level_and_lacks" 5 (S_lal C)) (c_scale_of : CallD P w K mg base "scale_of" 1 S_scale_of) (c_fraction : CallD P w K mg base "fraction" 1 S_fractionW) (c_p_divisors : PropB P w K mg base C "divisors" 1 (S_getD C)) : FnG P w K mg base 6 f fd ["night", "table"] (lift K (S_least_price C)) := by
  refine fnX_of F sc_least_price (fun ds Φ Ψ ⟨_, _, h, _⟩ => by rw [h]; rfl) fun cdv A outer s H E b => ⟨_, (pss_cons (ps_asg (k_cd K c_level_and_lacks (by exact b.room) (by decide) b.pass (pa_cons (pv 0) (pa_cons (pv 1) pa_nil))) (k_pg K (n := 2) rfl (pgs_cons (pg_name (i := 2) sc_least_price.nd rfl (by first | exact .inl rfl | exact .inr rfl)) (pgs_cons (pg_name (i := 3) sc_least_price.nd rfl (by first | exact .inl rfl | exact .inr rfl)) pgs_nil))))
 (pss_one (ps_ret (k_cd K c_fraction (by exact b.room) (by decide) b.pass (pa_cons (pv 2) (pa_cons (k_cd K c_scale_of (by exact b.room) (by decide) b.pass (pa_cons (k_pr K c_p_divisors (by exact b.room) (by decide) (pv 0)) pa_nil)) pa_nil)))))), fun ds Φ Ψ ⟨t, l, h, ht, q⟩ => ?_⟩
  subst h
  show wS _ _ _ [some (.dat _), some (.dat _), none, none]
  have sp := scale_pos ht.ok.d
  have sb := scale_big ht.ok.d
  walk_at "dlt"
  refine ⟨t, l, rfl, ht, fun hl => ?_⟩
  unfold lvlE
  walk_at "dlt"
  refine ⟨_, rfl, t.1, t.2.1, t.2.2, rfl, ?_⟩
  walk_at "dlt"
  refine ⟨t.1, rfl, ht.ok.d, ?_⟩
  walk_at "dlt"
  exact ⟨_, _, rfl, hl.nn, by omega, sb.2, q hl⟩
end
/-! ### two parties, divisors in steps of one -/
def rowN (S : Nat) : List Int := (List.range S).map fun k : Nat => 1 + (k : Int)
theorem rowN_len (S : Nat) : (rowN S).length = S := by unfold rowN; rw [List.length_map, List.length_range]
theorem rowN_dF {S : Nat} {a : Int} (h0 : 0 ≤ a) (h1 : a < S) : dF (rowN S) a = a + 1 := by
  refine getD_of ?_
  unfold rowN
  rw [List.getElem?_map, List.getElem?_range (by omega)]
  show some (1 + (a.toNat : Int)) = _
  congr 1
  omega
def twoT (S : Nat) (x y r : Int) : Tri := (rowN S, [("red", x), ("blue", y)], [(r, ["red", "blue"])])
theorem rowN_ok {S : Nat} (h1 : 1 ≤ S) (h8 : S ≤ 8) : DivOk (rowN S) := by
  refine ⟨by rw [rowN_len]; exact h1, by rw [rowN_len]; omega, fun n hn => ?_, ?_⟩
  · obtain ⟨k, hk, rfl⟩ := List.mem_map.mp hn
    have := List.mem_range.mp hk
    omega
  · unfold rowN
    refine List.Pairwise.map _ (fun a b (h : a < b) => ?_) List.pairwise_lt_range
    show 1 + (a : Int) < 1 + (b : Int)
    omega
theorem two_ok {S : Nat} {x y r : Int} (h1 : 1 ≤ S) (h8 : S ≤ 8) (x0 : 0 ≤ x) (x1 : x ≤ 100) (y0 : 0 ≤ y) (y1 : y ≤ 100) (r0 : 0 ≤ r) (r1 : r ≤ 100) : TriOk (twoT S x y r) := by
  refine ⟨rowN_ok h1 h8, ⟨by show (1 : Nat) ≤ 2; decide, by show (2 : Nat) ≤ 6; decide, fun p hp => ?_, by show ([("red" : Str), "blue"]).Nodup; decide +kernel⟩, ⟨by show (1 : Nat) ≤ 6; decide, fun p hp => ?_⟩⟩
  · have hp : p ∈ [(("red" : Str), x), ("blue", y)] := hp
    simp only [List.mem_cons, List.not_mem_nil, or_false] at hp
    rcases hp with rfl | rfl
    · exact ⟨six_ok ("red" : Str) (by decide +kernel), x0, by show x ≤ 1000000; omega⟩
    · exact ⟨six_ok ("blue" : Str) (by decide +kernel), y0, by show y ≤ 1000000; omega⟩
  · have hp : p ∈ [(r, [("red" : Str), "blue"])] := hp
    rw [List.mem_singleton.mp hp]
    exact ⟨r0, by show r ≤ 1000000; omega, List.cons_ne_nil _ _, List.Sublist.refl _⟩
theorem two_of : ∀ {T : List Int}, T.length = 2 → ∃ p q, T = [p, q]
  | [p, q], _ => ⟨p, q, rfl⟩
/-- results of two parties -/
theorem two_res {S : Nat} {c d p q : Int} (c0 : 0 ≤ c) (d0 : 0 ≤ d) (p0 : 0 ≤ p) (q0 : 0 ≤ q) (s : p + q = S) : ResT (rowN S) [c, d] [p, q] ↔ (0 < q → c * q ≤ d * (p + 1)) ∧ (0 < p → d * p ≤ c * (q + 1)) := by
  have hl : ([p, q] : List Int).length = ([c, d] : List Int).length := rfl
  have hb : ∀ i < ([c, d] : List Int).length, 0 ≤ cF [p, q] i ∧ cF [p, q] i ≤ (rowN S).length := fun i hi => by
    rw [rowN_len]
    match i, hi with
    | 0, _ => show 0 ≤ p ∧ p ≤ S; omega
    | 1, _ => show 0 ≤ q ∧ q ≤ S; omega
  have key : ¬ SwapZ (rowN S) ([c, d].zip [p, q]) ↔ (0 < q → c * q ≤ d * (p + 1)) ∧ (0 < p → d * p ≤ c * (q + 1)) := by
    rw [nosw_iff hl hb, rowN_len]
    constructor
    · intro h
      constructor
      · intro hq
        have := h 0 (by simp) 1 (by simp) (show p < S by omega) hq
        have this : c * dF (rowN S) (q - 1) ≤ d * dF (rowN S) p := this
        rw [rowN_dF (by omega) (by omega), rowN_dF (by omega) (by omega), show q - 1 + 1 = q by omega] at this
        exact this
      · intro hp
        have := h 1 (by simp) 0 (by simp) (show q < S by omega) hp
        have this : d * dF (rowN S) (p - 1) ≤ c * dF (rowN S) q := this
        rw [rowN_dF (by omega) (by omega), rowN_dF (by omega) (by omega), show p - 1 + 1 = p by omega] at this
        exact this
    · intro ⟨h1, h2⟩ i hi j hj hS h0
      match i, hi, j, hj with
      | 0, _, 0, _ =>
        have hS : p < S := hS
        have h0 : 0 < p := h0
        show c * dF (rowN S) (p - 1) ≤ c * dF (rowN S) p
        rw [rowN_dF (by omega) (by omega), rowN_dF (by omega) (by omega)]
        exact Int.mul_le_mul_of_nonneg_left (by omega) c0
      | 0, _, 1, _ =>
        have h0 : 0 < q := h0
        show c * dF (rowN S) (q - 1) ≤ d * dF (rowN S) p
        rw [rowN_dF (by omega) (by omega), rowN_dF (by omega) (by omega), show q - 1 + 1 = q by omega]
        exact h1 h0
      | 1, _, 0, _ =>
        have h0 : 0 < p := h0
        show d * dF (rowN S) (p - 1) ≤ c * dF (rowN S) q
        rw [rowN_dF (by omega) (by omega), rowN_dF (by omega) (by omega), show p - 1 + 1 = p by omega]
        exact h2 h0
      | 1, _, 1, _ =>
        have hS : q < S := hS
        have h0 : 0 < q := h0
        show d * dF (rowN S) (q - 1) ≤ d * dF (rowN S) q
        rw [rowN_dF (by omega) (by omega), rowN_dF (by omega) (by omega)]
        exact Int.mul_le_mul_of_nonneg_left (by omega) d0
  constructor
  · intro h
    exact key.mp h.n
  · intro h
    exact ⟨rfl, fun x hx => by
      simp only [List.mem_cons, List.not_mem_nil, or_false] at hx
      rcases hx with rfl | rfl <;> assumption, by rw [rowN_len]; show p + (q + 0) = (S : Int); omega, key.mpr h⟩
theorem two_tab {S : Nat} {x y r p q : Int} (ok : TriOk (twoT S x y r)) (p0 : 0 ≤ p) (q0 : 0 ≤ q) (s : p + q = S) : TabIn (twoT S x y r) [p, q] :=
  ⟨ok, rfl, fun z hz => by
    simp only [List.mem_cons, List.not_mem_nil, or_false] at hz
    rcases hz with rfl | rfl <;> assumption, by show p + (q + 0) = ((rowN S).length : Int); rw [rowN_len]; omega⟩
theorem two_in {S : Nat} {x y r : Int} {T : List Int} (h : TabIn (twoT S x y r) T) : ∃ p q, T = [p, q] ∧ 0 ≤ p ∧ 0 ≤ q ∧ p + q = S := by
  obtain ⟨p, q, rfl⟩ := two_of h.l
  have s : p + (q + 0) = ((rowN S).length : Int) := h.s
  rw [rowN_len] at s
  exact ⟨p, q, rfl, h.b p (by simp), h.b q (by simp), by omega⟩
/-- with x for one and y for the other one, some result gives it a seats -/
theorem two_some {S : Nat} {x y a : Int} (h1 : 1 ≤ S) (h8 : S ≤ 8) (x0 : 0 ≤ x) (y0 : 0 ≤ y) (a1 : 1 ≤ a) (aS : a ≤ S) (h : y * a ≤ x * (S + 1 - a)) : ∃ p q, ResT (rowN S) [x, y] [p, q] ∧ a ≤ p ∧ 0 ≤ q ∧ p + q = S := by
  have dv := rowN_ok h1 h8
  have c0 : ∀ c ∈ ([x, y] : List Int), 0 ≤ c := fun c hc => by
    simp only [List.mem_cons, List.not_mem_nil, or_false] at hc
    rcases hc with rfl | rfl <;> assumption
  obtain ⟨A, a1', a2'⟩ := resT_some dv (cs := [x, y]) (by simp) c0
  obtain ⟨m, M, s⟩ := span_some 0 a1'
  obtain ⟨T, hT, e⟩ := s.hi
  have hr := (a2' T).mp hT
  obtain ⟨p, q, rfl⟩ := two_of hr.l
  have p0 := hr.z p (by simp)
  have q0 := hr.z q (by simp)
  have sm : p + (q + 0) = ((rowN S).length : Int) := hr.s
  rw [rowN_len] at sm
  have e : p = M := e
  refine ⟨p, q, hr, Int.not_lt.mp fun hlt => ?_, q0, by omega⟩
  have k1 := ((two_res x0 y0 p0 q0 (by omega)).mp hr).1 (by omega)
  -- x * q <= y * (p + 1) <= y * a <= x * (S + 1 - a) <= x * q
  have k2 : y * (p + 1) ≤ y * a := Int.mul_le_mul_of_nonneg_left (by omega) y0
  have k3 : x * (S + 1 - a) ≤ x * q := Int.mul_le_mul_of_nonneg_left (by omega) x0
  have eq : y * (p + 1) = x * q := by omega
  obtain ⟨r1, _, r3⟩ := res_move (upD dv) c0 hr (k := 1) (j := 0) (by simp) (by simp) (by decide) (show 0 < q by omega) (show p < ((rowN S).length : Int) by rw [rowN_len]; omega) (by
    show y * dF (rowN S) p = x * dF (rowN S) (q - 1)
    rw [rowN_dF (by omega) (by omega), rowN_dF (by omega) (by omega), show q - 1 + 1 = q by omega]
    exact eq)
  have := s.ge _ ((a2' _).mpr r1)
  have r3 : cF (moveL [p, q] 1 0) 0 = p + 1 := r3
  omega
theorem two_held {S : Nat} {x y r : Int} (ok : TriOk (twoT S x y r)) (p q : Int) : heldL (namesN (twoT S x y r)) ["red"] [p, q] = p := held_one (show (namesN (twoT S x y r)).Nodup from ok.f.nd) (j := 0) rfl rfl
theorem two_up {S : Nat} {x y r a L : Int} (h1 : 1 ≤ S) (h8 : S ≤ 8) (ok : TriOk (twoT S x y r)) (x0 : 0 ≤ x) (y0 : 0 ≤ y) (a1 : 1 ≤ a) (aS : a ≤ S) (L0 : 0 ≤ L) (hL : y * a ≤ (x + L) * (S + 1 - a)) : ∃ T, TabIn (twoT S x y r) T ∧ a ≤ heldL (namesN (twoT S x y r)) ["red"] T ∧ farN (twoT S x y r) T ≤ L := by
  obtain ⟨p, q, hr, hp, q0, s⟩ := two_some h1 h8 (show 0 ≤ x + L by omega) y0 a1 aS hL
  have ti := two_tab ok (show 0 ≤ p by omega) q0 s
  have f := lack_le ti (g := [L, 0]) rfl (fun z hz => by
    simp only [List.mem_cons, List.not_mem_nil, or_false] at hz
    rcases hz with rfl | rfl
    · exact L0
    · exact Int.le_refl _) (by
    show ResT (rowN S) [x + L, y + 0] [p, q]
    rw [Int.add_zero]
    exact hr)
  have f : farN (twoT S x y r) [p, q] ≤ L + (0 + 0) := f
  exact ⟨[p, q], ti, by rw [two_held ok]; exact hp, by omega⟩
theorem two_low {S : Nat} {x y r a : Int} {T : List Int} (x0 : 0 ≤ x) (y0 : 0 ≤ y) (a1 : 1 ≤ a) (aS : a ≤ S) (hT : TabIn (twoT S x y r) T) (hs : a ≤ heldL (namesN (twoT S x y r)) ["red"] T) : y * a ≤ (x + farN (twoT S x y r) T) * (S + 1 - a) := by
  obtain ⟨p, q, rfl, p0, q0, s⟩ := two_in hT
  rw [two_held hT.ok] at hs
  have li := lack_is hT
  have far : farN (twoT S x y r) [p, q] = (lacksN (twoT S x y r).1 (countsN (twoT S x y r)) [p, q]).sum := rfl
  rw [far]
  generalize lacksN (twoT S x y r).1 (countsN (twoT S x y r)) [p, q] = g at li
  obtain ⟨u, v, rfl⟩ := two_of li.l
  have u0 := li.p u (by simp)
  have v0 := li.p v (by simp)
  have hr : ResT (rowN S) [x + u, y + v] [p, q] := (res_T hT rfl).mp li.r
  have k := ((two_res (by omega) (by omega) p0 q0 s).mp hr).2 (by omega)
  show y * a ≤ (x + (u + (v + 0))) * (S + 1 - a)
  have k1 : y * a ≤ y * p := Int.mul_le_mul_of_nonneg_left hs y0
  have k2 : y * p ≤ (y + v) * p := Int.mul_le_mul_of_nonneg_right (by omega) p0
  have k3 : (x + u) * (q + 1) ≤ (x + u) * (S + 1 - a) := Int.mul_le_mul_of_nonneg_left (by omega) (by omega)
  have k4 : (x + u) * (S + 1 - a) ≤ (x + (u + (v + 0))) * (S + 1 - a) := Int.mul_le_mul_of_nonneg_right (by omega) (by omega)
  omega
theorem two_margin {S : Nat} {x y r a m L : Int} (h1 : 1 ≤ S) (h8 : S ≤ 8) (ok : TriOk (twoT S x y r)) (x0 : 0 ≤ x) (y0 : 0 ≤ y) (a1 : 1 ≤ a) (aS : a ≤ S) (hm : IsMargin (twoT S x y r) ["red"] a m) (L0 : 0 ≤ L) (hL : y * a ≤ (x + L) * (S + 1 - a)) (least : ∀ l, 0 ≤ l → y * a ≤ (x + l) * (S + 1 - a) → L ≤ l) : m = L := by
  refine Int.le_antisymm ?_ ?_
  · obtain ⟨T, t1, t2, t3⟩ := two_up h1 h8 ok x0 y0 a1 aS L0 hL
    have := (hm.le T t1 t2).2
    omega
  · obtain ⟨T, hT, _, hs, e⟩ := hm.ex
    have := two_low x0 y0 a1 aS hT hs
    rw [e] at this
    exact least m hm.nn this
theorem two_may {S : Nat} {x y r a : Int} (h1 : 1 ≤ S) (h8 : S ≤ 8) (ok : TriOk (twoT S x y r)) (x0 : 0 ≤ x) (y0 : 0 ≤ y) (r0 : 0 ≤ r) (a1 : 1 ≤ a) (aS : a ≤ S) : (∃ T ∈ possN (twoT S x y r) (twoT S x y r).2.2, a ≤ heldL (namesN (twoT S x y r)) ["red"] T) ↔ y * a ≤ (x + r) * (S + 1 - a) := by
  have e : possN (twoT S x y r) (twoT S x y r).2.2 = (allT (twoT S x y r)).filter fun T => decide (farN (twoT S x y r) T ≤ r) := poss_one ok r0
  rw [e]
  constructor
  · intro ⟨T, hT, hs⟩
    obtain ⟨h2, h3⟩ := List.mem_filter.mp hT
    have h3 := of_decide_eq_true h3
    have := two_low x0 y0 a1 aS ((all_in ok).mp h2) hs
    have k : (x + farN (twoT S x y r) T) * (S + 1 - a) ≤ (x + r) * (S + 1 - a) := Int.mul_le_mul_of_nonneg_right (by omega) (by omega)
    omega
  · intro h
    obtain ⟨T, t1, t2, t3⟩ := two_up h1 h8 ok x0 y0 a1 aS r0 h
    exact ⟨T, List.mem_filter.mpr ⟨(all_in ok).mpr t1, decide_eq_true t3⟩, t2⟩
theorem two_rng {S : Nat} {x y r : Int} {q : Int × Int} (ok : TriOk (twoT S x y r)) (h : IsRng (twoT S x y r) ["blue", "red"] q) : q = ((S : Int), (S : Int)) := by
  have key : ∀ T ∈ possN (twoT S x y r) (twoT S x y r).2.2, heldL (namesN (twoT S x y r)) ["blue", "red"] T = S := fun T hT => by
    obtain ⟨p, q, rfl, p0, q0, s⟩ := two_in ((poss_in ok).mp hT).1
    have : heldL (namesN (twoT S x y r)) ["blue", "red"] [p, q] = p + (q + 0) := rfl
    rw [this]
    omega
  obtain ⟨T1, a1, b1⟩ := h.a
  obtain ⟨T2, a2, b2⟩ := h.b
  rw [key T1 a1] at b1
  rw [key T2 a2] at b2
  exact Prod.ext b1.symm b2.symm
/-- the least integer whose multiple reaches so much -/
theorem ceil_is {n b : Int} (hb : 0 < b) : n ≤ (0 - (0 - n) / b) * b ∧ ∀ k, n ≤ k * b → 0 - (0 - n) / b ≤ k := by
  have h1 := Int.mul_ediv_add_emod (0 - n) b
  have h2 := Int.emod_nonneg (0 - n) (show b ≠ 0 by omega)
  have h3 := Int.emod_lt_of_pos (0 - n) hb
  generalize (0 - n) / b = d at *
  generalize (0 - n) % b = e at *
  have e1 : (0 - d) * b = - (b * d) := by rw [Int.sub_mul, Int.zero_mul, Int.mul_comm d b]; omega
  refine ⟨by rw [e1]; omega, fun k hk => Int.not_lt.mp fun hlt => ?_⟩
  have h4 : (k + 1) * b ≤ (0 - d) * b := Int.mul_le_mul_of_nonneg_right (by omega) (by omega)
  rw [e1, Int.add_mul] at h4
  omega
/-! ### the night of the document, times a number -/
def threeT (k r : Int) : Tri := ([1, 2, 3], [("red", 50 * k), ("blue", 30 * k), ("gold", 18 * k)], [(r, ["blue", "gold"])])
theorem three_ok {k r : Int} (k0 : 1 ≤ k) (k1 : k ≤ 300) (r0 : 0 ≤ r) (r1 : r ≤ 6000) : TriOk (threeT k r) := by
  refine ⟨⟨by show (1 : Nat) ≤ 3; decide, by show (3 : Nat) ≤ 12; decide, by show ∀ n ∈ ([1, 2, 3] : List Int), 1 ≤ n ∧ n ≤ 100; decide, by show ([1, 2, 3] : List Int).Pairwise (· < ·); decide⟩, ⟨by show (1 : Nat) ≤ 3; decide, by show (3 : Nat) ≤ 6; decide, fun p hp => ?_, by show ([("red" : Str), "blue", "gold"]).Nodup; decide +kernel⟩, ⟨by show (1 : Nat) ≤ 6; decide, fun p hp => ?_⟩⟩
  · have hp : p ∈ [(("red" : Str), 50 * k), ("blue", 30 * k), ("gold", 18 * k)] := hp
    simp only [List.mem_cons, List.not_mem_nil, or_false] at hp
    rcases hp with rfl | rfl | rfl
    · exact ⟨six_ok ("red" : Str) (by decide +kernel), by show 0 ≤ 50 * k; omega, by show 50 * k ≤ 1000000; omega⟩
    · exact ⟨six_ok ("blue" : Str) (by decide +kernel), by show 0 ≤ 30 * k; omega, by show 30 * k ≤ 1000000; omega⟩
    · exact ⟨six_ok ("gold" : Str) (by decide +kernel), by show 0 ≤ 18 * k; omega, by show 18 * k ≤ 1000000; omega⟩
  · have hp : p ∈ [(r, [("blue" : Str), "gold"])] := hp
    rw [List.mem_singleton.mp hp]
    exact ⟨r0, by show r ≤ 1000000; omega, List.cons_ne_nil _ _, List.Sublist.cons _ (List.Sublist.refl _)⟩
theorem three_tab {k r p q s : Int} (ok : TriOk (threeT k r)) (p0 : 0 ≤ p) (q0 : 0 ≤ q) (s0 : 0 ≤ s) (h : p + (q + (s + 0)) = 3) : TabIn (threeT k r) [p, q, s] :=
  ⟨ok, rfl, fun z hz => by
    simp only [List.mem_cons, List.not_mem_nil, or_false] at hz
    rcases hz with rfl | rfl | rfl <;> assumption, h⟩
theorem three_of3 : ∀ {T : List Int}, T.length = 3 → ∃ p q s, T = [p, q, s]
  | [p, q, s], _ => ⟨p, q, s, rfl⟩
theorem p31 : payI [1, 2, 3] 1 = 1 := rfl
theorem p32 : payI [1, 2, 3] 2 = 2 := rfl
theorem p33 : payI [1, 2, 3] 3 = 3 := rfl
theorem lack_003 {k r : Int} (k0 : 1 ≤ k) (ok : TriOk (threeT k r)) : lacksN (threeT k r).1 (countsN (threeT k r)) [0, 0, 3] = [0, 0, 132 * k] := by
  refine lack_eq (three_tab ok (by decide) (by decide) (by decide) (by decide)) ⟨rfl, fun x hx => ?_, res_iff.mpr fun x hx y hy hx0 hy0 => ?_, fun u hu u0 ur => ?_⟩
  · simp only [List.mem_cons, List.not_mem_nil, or_false] at hx
    rcases hx with rfl | rfl | rfl <;> omega
  · have hx : x ∈ [(50 * k + 0, (0 : Int)), (30 * k + 0, 0), (18 * k + 132 * k, 3)] := hx
    have hy : y ∈ [(50 * k + 0, (0 : Int)), (30 * k + 0, 0), (18 * k + 132 * k, 3)] := hy
    have hy0 : y.2 < 3 := hy0
    show y.1 * payI [1, 2, 3] x.2 ≤ x.1 * payI [1, 2, 3] (y.2 + 1)
    simp only [List.mem_cons, List.not_mem_nil, or_false] at hx hy
    rcases hx with rfl | rfl | rfl <;> rcases hy with rfl | rfl | rfl <;> simp [p31, p32, p33] at hx0 hy0 ⊢ <;> omega
  · obtain ⟨a, b, c, rfl⟩ := three_of3 hu
    have a0 := u0 a (by simp)
    have b0 := u0 b (by simp)
    have c0 := u0 c (by simp)
    have h := res_iff.mp ur
    have h : ∀ x ∈ [(50 * k + a, (0 : Int)), (30 * k + b, 0), (18 * k + c, 3)], ∀ y ∈ [(50 * k + a, (0 : Int)), (30 * k + b, 0), (18 * k + c, 3)], 0 < x.2 → y.2 < 3 → y.1 * payI [1, 2, 3] x.2 ≤ x.1 * payI [1, 2, 3] (y.2 + 1) := h
    simp [p31, p32, p33] at h
    intro z hz
    have hz : z ∈ [(0, a), (0, b), (132 * k, c)] := hz
    simp only [List.mem_cons, List.not_mem_nil, or_false] at hz
    rcases hz with rfl | rfl | rfl <;> show _ ≤ _ <;> omega
theorem lack_012 {k r : Int} (k0 : 1 ≤ k) (ok : TriOk (threeT k r)) : lacksN (threeT k r).1 (countsN (threeT k r)) [0, 1, 2] = [0, 20 * k, 82 * k] := by
  refine lack_eq (three_tab ok (by decide) (by decide) (by decide) (by decide)) ⟨rfl, fun x hx => ?_, res_iff.mpr fun x hx y hy hx0 hy0 => ?_, fun u hu u0 ur => ?_⟩
  · simp only [List.mem_cons, List.not_mem_nil, or_false] at hx
    rcases hx with rfl | rfl | rfl <;> omega
  · have hx : x ∈ [(50 * k + 0, (0 : Int)), (30 * k + 20 * k, 1), (18 * k + 82 * k, 2)] := hx
    have hy : y ∈ [(50 * k + 0, (0 : Int)), (30 * k + 20 * k, 1), (18 * k + 82 * k, 2)] := hy
    have hy0 : y.2 < 3 := hy0
    show y.1 * payI [1, 2, 3] x.2 ≤ x.1 * payI [1, 2, 3] (y.2 + 1)
    simp only [List.mem_cons, List.not_mem_nil, or_false] at hx hy
    rcases hx with rfl | rfl | rfl <;> rcases hy with rfl | rfl | rfl <;> simp [p31, p32, p33] at hx0 hy0 ⊢ <;> omega
  · obtain ⟨a, b, c, rfl⟩ := three_of3 hu
    have a0 := u0 a (by simp)
    have b0 := u0 b (by simp)
    have c0 := u0 c (by simp)
    have h := res_iff.mp ur
    have h : ∀ x ∈ [(50 * k + a, (0 : Int)), (30 * k + b, 1), (18 * k + c, 2)], ∀ y ∈ [(50 * k + a, (0 : Int)), (30 * k + b, 1), (18 * k + c, 2)], 0 < x.2 → y.2 < 3 → y.1 * payI [1, 2, 3] x.2 ≤ x.1 * payI [1, 2, 3] (y.2 + 1) := h
    simp [p31, p32, p33] at h
    intro z hz
    have hz : z ∈ [(0, a), (20 * k, b), (82 * k, c)] := hz
    simp only [List.mem_cons, List.not_mem_nil, or_false] at hz
    rcases hz with rfl | rfl | rfl <;> show _ ≤ _ <;> omega
theorem lack_021 {k r : Int} (k0 : 1 ≤ k) (ok : TriOk (threeT k r)) : lacksN (threeT k r).1 (countsN (threeT k r)) [0, 2, 1] = [0, 70 * k, 32 * k] := by
  refine lack_eq (three_tab ok (by decide) (by decide) (by decide) (by decide)) ⟨rfl, fun x hx => ?_, res_iff.mpr fun x hx y hy hx0 hy0 => ?_, fun u hu u0 ur => ?_⟩
  · simp only [List.mem_cons, List.not_mem_nil, or_false] at hx
    rcases hx with rfl | rfl | rfl <;> omega
  · have hx : x ∈ [(50 * k + 0, (0 : Int)), (30 * k + 70 * k, 2), (18 * k + 32 * k, 1)] := hx
    have hy : y ∈ [(50 * k + 0, (0 : Int)), (30 * k + 70 * k, 2), (18 * k + 32 * k, 1)] := hy
    have hy0 : y.2 < 3 := hy0
    show y.1 * payI [1, 2, 3] x.2 ≤ x.1 * payI [1, 2, 3] (y.2 + 1)
    simp only [List.mem_cons, List.not_mem_nil, or_false] at hx hy
    rcases hx with rfl | rfl | rfl <;> rcases hy with rfl | rfl | rfl <;> simp [p31, p32, p33] at hx0 hy0 ⊢ <;> omega
  · obtain ⟨a, b, c, rfl⟩ := three_of3 hu
    have a0 := u0 a (by simp)
    have b0 := u0 b (by simp)
    have c0 := u0 c (by simp)
    have h := res_iff.mp ur
    have h : ∀ x ∈ [(50 * k + a, (0 : Int)), (30 * k + b, 2), (18 * k + c, 1)], ∀ y ∈ [(50 * k + a, (0 : Int)), (30 * k + b, 2), (18 * k + c, 1)], 0 < x.2 → y.2 < 3 → y.1 * payI [1, 2, 3] x.2 ≤ x.1 * payI [1, 2, 3] (y.2 + 1) := h
    simp [p31, p32, p33] at h
    intro z hz
    have hz : z ∈ [(0, a), (70 * k, b), (32 * k, c)] := hz
    simp only [List.mem_cons, List.not_mem_nil, or_false] at hz
    rcases hz with rfl | rfl | rfl <;> show _ ≤ _ <;> omega
theorem lack_030 {k r : Int} (k0 : 1 ≤ k) (ok : TriOk (threeT k r)) : lacksN (threeT k r).1 (countsN (threeT k r)) [0, 3, 0] = [0, 120 * k, 0] := by
  refine lack_eq (three_tab ok (by decide) (by decide) (by decide) (by decide)) ⟨rfl, fun x hx => ?_, res_iff.mpr fun x hx y hy hx0 hy0 => ?_, fun u hu u0 ur => ?_⟩
  · simp only [List.mem_cons, List.not_mem_nil, or_false] at hx
    rcases hx with rfl | rfl | rfl <;> omega
  · have hx : x ∈ [(50 * k + 0, (0 : Int)), (30 * k + 120 * k, 3), (18 * k + 0, 0)] := hx
    have hy : y ∈ [(50 * k + 0, (0 : Int)), (30 * k + 120 * k, 3), (18 * k + 0, 0)] := hy
    have hy0 : y.2 < 3 := hy0
    show y.1 * payI [1, 2, 3] x.2 ≤ x.1 * payI [1, 2, 3] (y.2 + 1)
    simp only [List.mem_cons, List.not_mem_nil, or_false] at hx hy
    rcases hx with rfl | rfl | rfl <;> rcases hy with rfl | rfl | rfl <;> simp [p31, p32, p33] at hx0 hy0 ⊢ <;> omega
  · obtain ⟨a, b, c, rfl⟩ := three_of3 hu
    have a0 := u0 a (by simp)
    have b0 := u0 b (by simp)
    have c0 := u0 c (by simp)
    have h := res_iff.mp ur
    have h : ∀ x ∈ [(50 * k + a, (0 : Int)), (30 * k + b, 3), (18 * k + c, 0)], ∀ y ∈ [(50 * k + a, (0 : Int)), (30 * k + b, 3), (18 * k + c, 0)], 0 < x.2 → y.2 < 3 → y.1 * payI [1, 2, 3] x.2 ≤ x.1 * payI [1, 2, 3] (y.2 + 1) := h
    simp [p31, p32, p33] at h
    intro z hz
    have hz : z ∈ [(0, a), (120 * k, b), (0, c)] := hz
    simp only [List.mem_cons, List.not_mem_nil, or_false] at hz
    rcases hz with rfl | rfl | rfl <;> show _ ≤ _ <;> omega
theorem lack_102 {k r : Int} (k0 : 1 ≤ k) (ok : TriOk (threeT k r)) : lacksN (threeT k r).1 (countsN (threeT k r)) [1, 0, 2] = [0, 0, 42 * k] := by
  refine lack_eq (three_tab ok (by decide) (by decide) (by decide) (by decide)) ⟨rfl, fun x hx => ?_, res_iff.mpr fun x hx y hy hx0 hy0 => ?_, fun u hu u0 ur => ?_⟩
  · simp only [List.mem_cons, List.not_mem_nil, or_false] at hx
    rcases hx with rfl | rfl | rfl <;> omega
  · have hx : x ∈ [(50 * k + 0, (1 : Int)), (30 * k + 0, 0), (18 * k + 42 * k, 2)] := hx
    have hy : y ∈ [(50 * k + 0, (1 : Int)), (30 * k + 0, 0), (18 * k + 42 * k, 2)] := hy
    have hy0 : y.2 < 3 := hy0
    show y.1 * payI [1, 2, 3] x.2 ≤ x.1 * payI [1, 2, 3] (y.2 + 1)
    simp only [List.mem_cons, List.not_mem_nil, or_false] at hx hy
    rcases hx with rfl | rfl | rfl <;> rcases hy with rfl | rfl | rfl <;> simp [p31, p32, p33] at hx0 hy0 ⊢ <;> omega
  · obtain ⟨a, b, c, rfl⟩ := three_of3 hu
    have a0 := u0 a (by simp)
    have b0 := u0 b (by simp)
    have c0 := u0 c (by simp)
    have h := res_iff.mp ur
    have h : ∀ x ∈ [(50 * k + a, (1 : Int)), (30 * k + b, 0), (18 * k + c, 2)], ∀ y ∈ [(50 * k + a, (1 : Int)), (30 * k + b, 0), (18 * k + c, 2)], 0 < x.2 → y.2 < 3 → y.1 * payI [1, 2, 3] x.2 ≤ x.1 * payI [1, 2, 3] (y.2 + 1) := h
    simp [p31, p32, p33] at h
    intro z hz
    have hz : z ∈ [(0, a), (0, b), (42 * k, c)] := hz
    simp only [List.mem_cons, List.not_mem_nil, or_false] at hz
    rcases hz with rfl | rfl | rfl <;> show _ ≤ _ <;> omega
theorem lack_111 {k r : Int} (k0 : 1 ≤ k) (ok : TriOk (threeT k r)) : lacksN (threeT k r).1 (countsN (threeT k r)) [1, 1, 1] = [0, 0, 7 * k] := by
  refine lack_eq (three_tab ok (by decide) (by decide) (by decide) (by decide)) ⟨rfl, fun x hx => ?_, res_iff.mpr fun x hx y hy hx0 hy0 => ?_, fun u hu u0 ur => ?_⟩
  · simp only [List.mem_cons, List.not_mem_nil, or_false] at hx
    rcases hx with rfl | rfl | rfl <;> omega
  · have hx : x ∈ [(50 * k + 0, (1 : Int)), (30 * k + 0, 1), (18 * k + 7 * k, 1)] := hx
    have hy : y ∈ [(50 * k + 0, (1 : Int)), (30 * k + 0, 1), (18 * k + 7 * k, 1)] := hy
    have hy0 : y.2 < 3 := hy0
    show y.1 * payI [1, 2, 3] x.2 ≤ x.1 * payI [1, 2, 3] (y.2 + 1)
    simp only [List.mem_cons, List.not_mem_nil, or_false] at hx hy
    rcases hx with rfl | rfl | rfl <;> rcases hy with rfl | rfl | rfl <;> simp [p31, p32, p33] at hx0 hy0 ⊢ <;> omega
  · obtain ⟨a, b, c, rfl⟩ := three_of3 hu
    have a0 := u0 a (by simp)
    have b0 := u0 b (by simp)
    have c0 := u0 c (by simp)
    have h := res_iff.mp ur
    have h : ∀ x ∈ [(50 * k + a, (1 : Int)), (30 * k + b, 1), (18 * k + c, 1)], ∀ y ∈ [(50 * k + a, (1 : Int)), (30 * k + b, 1), (18 * k + c, 1)], 0 < x.2 → y.2 < 3 → y.1 * payI [1, 2, 3] x.2 ≤ x.1 * payI [1, 2, 3] (y.2 + 1) := h
    simp [p31, p32, p33] at h
    intro z hz
    have hz : z ∈ [(0, a), (0, b), (7 * k, c)] := hz
    simp only [List.mem_cons, List.not_mem_nil, or_false] at hz
    rcases hz with rfl | rfl | rfl <;> show _ ≤ _ <;> omega
theorem lack_120 {k r : Int} (k0 : 1 ≤ k) (ok : TriOk (threeT k r)) : lacksN (threeT k r).1 (countsN (threeT k r)) [1, 2, 0] = [0, 20 * k, 0] := by
  refine lack_eq (three_tab ok (by decide) (by decide) (by decide) (by decide)) ⟨rfl, fun x hx => ?_, res_iff.mpr fun x hx y hy hx0 hy0 => ?_, fun u hu u0 ur => ?_⟩
  · simp only [List.mem_cons, List.not_mem_nil, or_false] at hx
    rcases hx with rfl | rfl | rfl <;> omega
  · have hx : x ∈ [(50 * k + 0, (1 : Int)), (30 * k + 20 * k, 2), (18 * k + 0, 0)] := hx
    have hy : y ∈ [(50 * k + 0, (1 : Int)), (30 * k + 20 * k, 2), (18 * k + 0, 0)] := hy
    have hy0 : y.2 < 3 := hy0
    show y.1 * payI [1, 2, 3] x.2 ≤ x.1 * payI [1, 2, 3] (y.2 + 1)
    simp only [List.mem_cons, List.not_mem_nil, or_false] at hx hy
    rcases hx with rfl | rfl | rfl <;> rcases hy with rfl | rfl | rfl <;> simp [p31, p32, p33] at hx0 hy0 ⊢ <;> omega
  · obtain ⟨a, b, c, rfl⟩ := three_of3 hu
    have a0 := u0 a (by simp)
    have b0 := u0 b (by simp)
    have c0 := u0 c (by simp)
    have h := res_iff.mp ur
    have h : ∀ x ∈ [(50 * k + a, (1 : Int)), (30 * k + b, 2), (18 * k + c, 0)], ∀ y ∈ [(50 * k + a, (1 : Int)), (30 * k + b, 2), (18 * k + c, 0)], 0 < x.2 → y.2 < 3 → y.1 * payI [1, 2, 3] x.2 ≤ x.1 * payI [1, 2, 3] (y.2 + 1) := h
    simp [p31, p32, p33] at h
    intro z hz
    have hz : z ∈ [(0, a), (20 * k, b), (0, c)] := hz
    simp only [List.mem_cons, List.not_mem_nil, or_false] at hz
    rcases hz with rfl | rfl | rfl <;> show _ ≤ _ <;> omega
theorem lack_201 {k r : Int} (k0 : 1 ≤ k) (ok : TriOk (threeT k r)) : lacksN (threeT k r).1 (countsN (threeT k r)) [2, 0, 1] = [10 * k, 0, 12 * k] := by
  refine lack_eq (three_tab ok (by decide) (by decide) (by decide) (by decide)) ⟨rfl, fun x hx => ?_, res_iff.mpr fun x hx y hy hx0 hy0 => ?_, fun u hu u0 ur => ?_⟩
  · simp only [List.mem_cons, List.not_mem_nil, or_false] at hx
    rcases hx with rfl | rfl | rfl <;> omega
  · have hx : x ∈ [(50 * k + 10 * k, (2 : Int)), (30 * k + 0, 0), (18 * k + 12 * k, 1)] := hx
    have hy : y ∈ [(50 * k + 10 * k, (2 : Int)), (30 * k + 0, 0), (18 * k + 12 * k, 1)] := hy
    have hy0 : y.2 < 3 := hy0
    show y.1 * payI [1, 2, 3] x.2 ≤ x.1 * payI [1, 2, 3] (y.2 + 1)
    simp only [List.mem_cons, List.not_mem_nil, or_false] at hx hy
    rcases hx with rfl | rfl | rfl <;> rcases hy with rfl | rfl | rfl <;> simp [p31, p32, p33] at hx0 hy0 ⊢ <;> omega
  · obtain ⟨a, b, c, rfl⟩ := three_of3 hu
    have a0 := u0 a (by simp)
    have b0 := u0 b (by simp)
    have c0 := u0 c (by simp)
    have h := res_iff.mp ur
    have h : ∀ x ∈ [(50 * k + a, (2 : Int)), (30 * k + b, 0), (18 * k + c, 1)], ∀ y ∈ [(50 * k + a, (2 : Int)), (30 * k + b, 0), (18 * k + c, 1)], 0 < x.2 → y.2 < 3 → y.1 * payI [1, 2, 3] x.2 ≤ x.1 * payI [1, 2, 3] (y.2 + 1) := h
    simp [p31, p32, p33] at h
    intro z hz
    have hz : z ∈ [(10 * k, a), (0, b), (12 * k, c)] := hz
    simp only [List.mem_cons, List.not_mem_nil, or_false] at hz
    rcases hz with rfl | rfl | rfl <;> show _ ≤ _ <;> omega
theorem lack_210 {k r : Int} (k0 : 1 ≤ k) (ok : TriOk (threeT k r)) : lacksN (threeT k r).1 (countsN (threeT k r)) [2, 1, 0] = [0, 0, 0] := by
  refine lack_eq (three_tab ok (by decide) (by decide) (by decide) (by decide)) ⟨rfl, fun x hx => ?_, res_iff.mpr fun x hx y hy hx0 hy0 => ?_, fun u hu u0 ur => ?_⟩
  · simp only [List.mem_cons, List.not_mem_nil, or_false] at hx
    rcases hx with rfl | rfl | rfl <;> omega
  · have hx : x ∈ [(50 * k + 0, (2 : Int)), (30 * k + 0, 1), (18 * k + 0, 0)] := hx
    have hy : y ∈ [(50 * k + 0, (2 : Int)), (30 * k + 0, 1), (18 * k + 0, 0)] := hy
    have hy0 : y.2 < 3 := hy0
    show y.1 * payI [1, 2, 3] x.2 ≤ x.1 * payI [1, 2, 3] (y.2 + 1)
    simp only [List.mem_cons, List.not_mem_nil, or_false] at hx hy
    rcases hx with rfl | rfl | rfl <;> rcases hy with rfl | rfl | rfl <;> simp [p31, p32, p33] at hx0 hy0 ⊢ <;> omega
  · obtain ⟨a, b, c, rfl⟩ := three_of3 hu
    have a0 := u0 a (by simp)
    have b0 := u0 b (by simp)
    have c0 := u0 c (by simp)
    have h := res_iff.mp ur
    have h : ∀ x ∈ [(50 * k + a, (2 : Int)), (30 * k + b, 1), (18 * k + c, 0)], ∀ y ∈ [(50 * k + a, (2 : Int)), (30 * k + b, 1), (18 * k + c, 0)], 0 < x.2 → y.2 < 3 → y.1 * payI [1, 2, 3] x.2 ≤ x.1 * payI [1, 2, 3] (y.2 + 1) := h
    simp [p31, p32, p33] at h
    intro z hz
    have hz : z ∈ [(0, a), (0, b), (0, c)] := hz
    simp only [List.mem_cons, List.not_mem_nil, or_false] at hz
    rcases hz with rfl | rfl | rfl <;> show _ ≤ _ <;> omega
theorem lack_300 {k r : Int} (k0 : 1 ≤ k) (ok : TriOk (threeT k r)) : lacksN (threeT k r).1 (countsN (threeT k r)) [3, 0, 0] = [40 * k, 0, 0] := by
  refine lack_eq (three_tab ok (by decide) (by decide) (by decide) (by decide)) ⟨rfl, fun x hx => ?_, res_iff.mpr fun x hx y hy hx0 hy0 => ?_, fun u hu u0 ur => ?_⟩
  · simp only [List.mem_cons, List.not_mem_nil, or_false] at hx
    rcases hx with rfl | rfl | rfl <;> omega
  · have hx : x ∈ [(50 * k + 40 * k, (3 : Int)), (30 * k + 0, 0), (18 * k + 0, 0)] := hx
    have hy : y ∈ [(50 * k + 40 * k, (3 : Int)), (30 * k + 0, 0), (18 * k + 0, 0)] := hy
    have hy0 : y.2 < 3 := hy0
    show y.1 * payI [1, 2, 3] x.2 ≤ x.1 * payI [1, 2, 3] (y.2 + 1)
    simp only [List.mem_cons, List.not_mem_nil, or_false] at hx hy
    rcases hx with rfl | rfl | rfl <;> rcases hy with rfl | rfl | rfl <;> simp [p31, p32, p33] at hx0 hy0 ⊢ <;> omega
  · obtain ⟨a, b, c, rfl⟩ := three_of3 hu
    have a0 := u0 a (by simp)
    have b0 := u0 b (by simp)
    have c0 := u0 c (by simp)
    have h := res_iff.mp ur
    have h : ∀ x ∈ [(50 * k + a, (3 : Int)), (30 * k + b, 0), (18 * k + c, 0)], ∀ y ∈ [(50 * k + a, (3 : Int)), (30 * k + b, 0), (18 * k + c, 0)], 0 < x.2 → y.2 < 3 → y.1 * payI [1, 2, 3] x.2 ≤ x.1 * payI [1, 2, 3] (y.2 + 1) := h
    simp [p31, p32, p33] at h
    intro z hz
    have hz : z ∈ [(40 * k, a), (0, b), (0, c)] := hz
    simp only [List.mem_cons, List.not_mem_nil, or_false] at hz
    rcases hz with rfl | rfl | rfl <;> show _ ≤ _ <;> omega
theorem three_in {k r : Int} (ok : TriOk (threeT k r)) {T : List Int} (h : TabIn (threeT k r) T) : T ∈ ([[0, 0, 3], [0, 1, 2], [0, 2, 1], [0, 3, 0], [1, 0, 2], [1, 1, 1], [1, 2, 0], [2, 0, 1], [2, 1, 0], [3, 0, 0]] : List (List Int)) := by
  have := (all_in ok).mpr h
  have e : allT (threeT k r) = [[0, 0, 3], [0, 1, 2], [0, 2, 1], [0, 3, 0], [1, 0, 2], [1, 1, 1], [1, 2, 0], [2, 0, 1], [2, 1, 0], [3, 0, 0]] := by
    show tabs (allB 3 3) 3 = _
    decide +kernel
  rw [e] at this
  exact this
theorem three_lackS (S : Str → Bool) (a b c : Int) : lackS S ["red", "blue", "gold"] [a, b, c] = (if S "red" = true then a else 0) + ((if S "blue" = true then b else 0) + ((if S "gold" = true then c else 0) + 0)) := rfl
theorem three_roomS (S : Str → Bool) (r : Int) : roomS S [(r, ["blue", "gold"])] = (if (S "blue" || (S "gold" || false)) = true then r else 0) + 0 := rfl
theorem three_poss {k r : Int} (ok : TriOk (threeT k r)) {T v : List Int} (ti : TabIn (threeT k r) T) (hv : lacksN (threeT k r).1 (countsN (threeT k r)) T = v) : T ∈ possN (threeT k r) (threeT k r).2.2 ↔ EnoughS ["red", "blue", "gold"] v [(r, ["blue", "gold"])] := by
  rw [poss_in ok, enough_S ok.f.nd (lackn_len ti) fun p hp z hz => (ok.h.b p hp).sub.subset hz, hv]
  exact ⟨fun h => h.2, fun h => ⟨ti, h⟩⟩
def yes20 (T : List Int) : Bool := T == [1, 1, 1] || T == [1, 2, 0] || T == [2, 1, 0]
theorem three_20 {k : Int} (k0 : 1 ≤ k) (ok : TriOk (threeT k (20 * k))) : possN (threeT k (20 * k)) (threeT k (20 * k)).2.2 = [[1, 1, 1], [1, 2, 0], [2, 1, 0]] := by
  classical
  have e : allT (threeT k (20 * k)) = [[0, 0, 3], [0, 1, 2], [0, 2, 1], [0, 3, 0], [1, 0, 2], [1, 1, 1], [1, 2, 0], [2, 0, 1], [2, 1, 0], [3, 0, 0]] := by
    show tabs (allB 3 3) 3 = _
    decide +kernel
  have key : ∀ T ∈ allT (threeT k (20 * k)), (T ∈ possN (threeT k (20 * k)) (threeT k (20 * k)).2.2 ↔ yes20 T = true) := fun T hT => by
    have ti := (all_in ok).mp hT
    rw [e] at hT
    simp only [List.mem_cons, List.not_mem_nil, or_false] at hT
    rcases hT with rfl | rfl | rfl | rfl | rfl | rfl | rfl | rfl | rfl | rfl
    · rw [three_poss ok ti (lack_003 k0 ok)]
      refine ⟨fun h => ?_, fun h => absurd h (by decide)⟩
      have := h fun _ => true
      have h2 := h fun z => z == "red"
      rw [three_lackS, three_roomS] at this h2
      simp at this h2
      omega
    · rw [three_poss ok ti (lack_012 k0 ok)]
      refine ⟨fun h => ?_, fun h => absurd h (by decide)⟩
      have := h fun _ => true
      have h2 := h fun z => z == "red"
      rw [three_lackS, three_roomS] at this h2
      simp at this h2
      omega
    · rw [three_poss ok ti (lack_021 k0 ok)]
      refine ⟨fun h => ?_, fun h => absurd h (by decide)⟩
      have := h fun _ => true
      have h2 := h fun z => z == "red"
      rw [three_lackS, three_roomS] at this h2
      simp at this h2
      omega
    · rw [three_poss ok ti (lack_030 k0 ok)]
      refine ⟨fun h => ?_, fun h => absurd h (by decide)⟩
      have := h fun _ => true
      have h2 := h fun z => z == "red"
      rw [three_lackS, three_roomS] at this h2
      simp at this h2
      omega
    · rw [three_poss ok ti (lack_102 k0 ok)]
      refine ⟨fun h => ?_, fun h => absurd h (by decide)⟩
      have := h fun _ => true
      have h2 := h fun z => z == "red"
      rw [three_lackS, three_roomS] at this h2
      simp at this h2
      omega
    · rw [three_poss ok ti (lack_111 k0 ok)]
      refine ⟨fun _ => rfl, fun _ S => ?_⟩
      rw [three_lackS, three_roomS]
      cases S "red" <;> cases S "blue" <;> cases S "gold" <;> simp <;> omega
    · rw [three_poss ok ti (lack_120 k0 ok)]
      refine ⟨fun _ => rfl, fun _ S => ?_⟩
      rw [three_lackS, three_roomS]
      cases S "red" <;> cases S "blue" <;> cases S "gold" <;> simp <;> omega
    · rw [three_poss ok ti (lack_201 k0 ok)]
      refine ⟨fun h => ?_, fun h => absurd h (by decide)⟩
      have := h fun _ => true
      have h2 := h fun z => z == "red"
      rw [three_lackS, three_roomS] at this h2
      simp at this h2
      omega
    · rw [three_poss ok ti (lack_210 k0 ok)]
      refine ⟨fun _ => rfl, fun _ S => ?_⟩
      rw [three_lackS, three_roomS]
      cases S "red" <;> cases S "blue" <;> cases S "gold" <;> simp <;> omega
    · rw [three_poss ok ti (lack_300 k0 ok)]
      refine ⟨fun h => ?_, fun h => absurd h (by decide)⟩
      have := h fun _ => true
      have h2 := h fun z => z == "red"
      rw [three_lackS, three_roomS] at this h2
      simp at this h2
      omega
  have f : possN (threeT k (20 * k)) (threeT k (20 * k)).2.2 = (allT (threeT k (20 * k))).filter yes20 := by
    have g : possN (threeT k (20 * k)) (threeT k (20 * k)).2.2 = (allT (threeT k (20 * k))).filter fun T => decide (T ∈ possN (threeT k (20 * k)) (threeT k (20 * k)).2.2) := by
      conv => lhs; unfold possN
      refine List.filter_congr fun T hT => ?_
      rw [Bool.eq_iff_iff, decide_eq_true_eq, decide_eq_true_eq, poss_in ok]
      exact ⟨fun h => ⟨(all_in ok).mp hT, h⟩, fun h => h.2⟩
    rw [g]
    refine List.filter_congr fun T hT => ?_
    rw [Bool.eq_iff_iff, decide_eq_true_eq]
    exact key T hT
  rw [f, e]
  decide +kernel
def yes7 (T : List Int) : Bool := T == [2, 1, 0]
theorem three_7 {k : Int} (k0 : 1 ≤ k) (ok : TriOk (threeT k (7 * k - 1))) : possN (threeT k (7 * k - 1)) (threeT k (7 * k - 1)).2.2 = [[2, 1, 0]] := by
  classical
  have e : allT (threeT k (7 * k - 1)) = [[0, 0, 3], [0, 1, 2], [0, 2, 1], [0, 3, 0], [1, 0, 2], [1, 1, 1], [1, 2, 0], [2, 0, 1], [2, 1, 0], [3, 0, 0]] := by
    show tabs (allB 3 3) 3 = _
    decide +kernel
  have key : ∀ T ∈ allT (threeT k (7 * k - 1)), (T ∈ possN (threeT k (7 * k - 1)) (threeT k (7 * k - 1)).2.2 ↔ yes7 T = true) := fun T hT => by
    have ti := (all_in ok).mp hT
    rw [e] at hT
    simp only [List.mem_cons, List.not_mem_nil, or_false] at hT
    rcases hT with rfl | rfl | rfl | rfl | rfl | rfl | rfl | rfl | rfl | rfl
    · rw [three_poss ok ti (lack_003 k0 ok)]
      refine ⟨fun h => ?_, fun h => absurd h (by decide)⟩
      have := h fun _ => true
      have h2 := h fun z => z == "red"
      rw [three_lackS, three_roomS] at this h2
      simp at this h2
      omega
    · rw [three_poss ok ti (lack_012 k0 ok)]
      refine ⟨fun h => ?_, fun h => absurd h (by decide)⟩
      have := h fun _ => true
      have h2 := h fun z => z == "red"
      rw [three_lackS, three_roomS] at this h2
      simp at this h2
      omega
    · rw [three_poss ok ti (lack_021 k0 ok)]
      refine ⟨fun h => ?_, fun h => absurd h (by decide)⟩
      have := h fun _ => true
      have h2 := h fun z => z == "red"
      rw [three_lackS, three_roomS] at this h2
      simp at this h2
      omega
    · rw [three_poss ok ti (lack_030 k0 ok)]
      refine ⟨fun h => ?_, fun h => absurd h (by decide)⟩
      have := h fun _ => true
      have h2 := h fun z => z == "red"
      rw [three_lackS, three_roomS] at this h2
      simp at this h2
      omega
    · rw [three_poss ok ti (lack_102 k0 ok)]
      refine ⟨fun h => ?_, fun h => absurd h (by decide)⟩
      have := h fun _ => true
      have h2 := h fun z => z == "red"
      rw [three_lackS, three_roomS] at this h2
      simp at this h2
      omega
    · rw [three_poss ok ti (lack_111 k0 ok)]
      refine ⟨fun h => ?_, fun h => absurd h (by decide)⟩
      have := h fun _ => true
      have h2 := h fun z => z == "red"
      rw [three_lackS, three_roomS] at this h2
      simp at this h2
      omega
    · rw [three_poss ok ti (lack_120 k0 ok)]
      refine ⟨fun h => ?_, fun h => absurd h (by decide)⟩
      have := h fun _ => true
      have h2 := h fun z => z == "red"
      rw [three_lackS, three_roomS] at this h2
      simp at this h2
      omega
    · rw [three_poss ok ti (lack_201 k0 ok)]
      refine ⟨fun h => ?_, fun h => absurd h (by decide)⟩
      have := h fun _ => true
      have h2 := h fun z => z == "red"
      rw [three_lackS, three_roomS] at this h2
      simp at this h2
      omega
    · rw [three_poss ok ti (lack_210 k0 ok)]
      refine ⟨fun _ => rfl, fun _ S => ?_⟩
      rw [three_lackS, three_roomS]
      cases S "red" <;> cases S "blue" <;> cases S "gold" <;> simp <;> omega
    · rw [three_poss ok ti (lack_300 k0 ok)]
      refine ⟨fun h => ?_, fun h => absurd h (by decide)⟩
      have := h fun _ => true
      have h2 := h fun z => z == "red"
      rw [three_lackS, three_roomS] at this h2
      simp at this h2
      omega
  have f : possN (threeT k (7 * k - 1)) (threeT k (7 * k - 1)).2.2 = (allT (threeT k (7 * k - 1))).filter yes7 := by
    have g : possN (threeT k (7 * k - 1)) (threeT k (7 * k - 1)).2.2 = (allT (threeT k (7 * k - 1))).filter fun T => decide (T ∈ possN (threeT k (7 * k - 1)) (threeT k (7 * k - 1)).2.2) := by
      conv => lhs; unfold possN
      refine List.filter_congr fun T hT => ?_
      rw [Bool.eq_iff_iff, decide_eq_true_eq, decide_eq_true_eq, poss_in ok]
      exact ⟨fun h => ⟨(all_in ok).mp hT, h⟩, fun h => h.2⟩
    rw [g]
    refine List.filter_congr fun T hT => ?_
    rw [Bool.eq_iff_iff, decide_eq_true_eq]
    exact key T hT
  rw [f, e]
  decide +kernel
theorem three_margin {k m : Int} (k0 : 1 ≤ k) (ok : TriOk (threeT k (20 * k))) (hm : IsMargin (threeT k (20 * k)) ["blue"] 2 m) : m = 20 * k := by
  have nn : (namesN (threeT k (20 * k))).Nodup := ok.f.nd
  have held : ∀ p q s, heldL (namesN (threeT k (20 * k))) ["blue"] [p, q, s] = q := fun p q s => held_one nn (j := 1) rfl rfl
  refine Int.le_antisymm ?_ ?_
  · have ti : TabIn (threeT k (20 * k)) [1, 2, 0] := three_tab ok (by decide) (by decide) (by decide) (by decide)
    have := (hm.le _ ti (by rw [held]; decide)).2
    unfold farN at this
    rw [lack_120 k0 ok] at this
    have this : m ≤ 0 + (20 * k + (0 + 0)) := this
    omega
  · obtain ⟨T, hT, _, hs, e⟩ := hm.ex
    have hi := three_in ok hT
    simp only [List.mem_cons, List.not_mem_nil, or_false] at hi
    unfold farN at e
    rcases hi with rfl | rfl | rfl | rfl | rfl | rfl | rfl | rfl | rfl | rfl
    · exact absurd hs (by rw [held]; decide)
    · exact absurd hs (by rw [held]; decide)
    · rw [lack_021 k0 ok] at e
      have e : 0 + (70 * k + (32 * k + 0)) = m := e
      omega
    · rw [lack_030 k0 ok] at e
      have e : 0 + (120 * k + (0 + 0)) = m := e
      omega
    · exact absurd hs (by rw [held]; decide)
    · exact absurd hs (by rw [held]; decide)
    · rw [lack_120 k0 ok] at e
      have e : 0 + (20 * k + (0 + 0)) = m := e
      omega
    · exact absurd hs (by rw [held]; decide)
    · exact absurd hs (by rw [held]; decide)
    · exact absurd hs (by rw [held]; decide)
theorem three_level {k : Int} (k0 : 1 ≤ k) : lvlT (threeT k (20 * k)) [1, 1, 1] = 150 * k := by
  refine lvl_eq ⟨fun z hz => ?_, fun z hz => ?_, fun M h1 _ => ?_⟩
  · have hz : z ∈ [(50 * k, (1 : Int)), (30 * k, 1), (18 * k, 1)] := hz
    have u : untI [1, 2, 3] 1 = 3 := by decide +kernel
    show z.1 * untI [1, 2, 3] z.2 ≤ _
    simp only [List.mem_cons, List.not_mem_nil, or_false] at hz
    rcases hz with rfl | rfl | rfl <;> simp only [u] <;> omega
  · have hz : z ∈ [(50 * k, (1 : Int)), (30 * k, 1), (18 * k, 1)] := hz
    have z2 : z.2 = 1 := by
      simp only [List.mem_cons, List.not_mem_nil, or_false] at hz
      rcases hz with rfl | rfl | rfl <;> rfl
    have u : untI [1, 2, 3] 1 = 3 := by decide +kernel
    have sc : ((scaleN [1, 2, 3] : Nat) : Int) = 6 := by decide +kernel
    rw [z2]
    show cdivI (150 * k * payI [1, 2, 3] 1) ((scaleN [1, 2, 3] : Nat) : Int) * untI [1, 2, 3] 1 ≤ _
    rw [u, sc, p31]
    unfold cdivI
    omega
  · have h := h1 (50 * k, 1) (by show _ ∈ [(50 * k, (1 : Int)), (30 * k, 1), (18 * k, 1)]; simp)
    have u : untI [1, 2, 3] 1 = 3 := by decide +kernel
    have h : 50 * k * untI [1, 2, 3] 1 ≤ M := h
    rw [u] at h
    omega
theorem three_price {k : Int} (k0 : 1 ≤ k) : fracI (lvlT (threeT k (20 * k)) [1, 1, 1], (scaleN (threeT k (20 * k)).1 : Int)) = (25 * k, 1) := by
  have sc : ((scaleN [1, 2, 3] : Nat) : Int) = 6 := by decide +kernel
  have sc : ((scaleN (threeT k (20 * k)).1 : Nat) : Int) = 6 := sc
  rw [three_level k0, sc]
  obtain ⟨h1, h2, h3, h4, h5⟩ := frac_is (L := 25 * k) (s := 1) (by omega) (by decide)
  have e1 : (fracI (25 * k, 1)).2 = 1 := by omega
  rw [e1] at h3
  have e2 : fracI (25 * k, 1) = (25 * k, 1) := Prod.ext (by omega) e1
  rw [← e2]
  exact frac_eq (by show (0 : Int) ≤ 150 * k; omega) (by show (1 : Int) ≤ 6; decide) (by show (0 : Int) ≤ 25 * k; omega) (by show (1 : Int) ≤ 1; decide) (by show 150 * k * 1 = 25 * k * 6; omega)
/-! two parties without piles -/
def evenT (k : Int) : Tri := ([2, 3], [("a", 3 * k), ("b", 2 * k)], [])
theorem even_ok {k : Int} (k0 : 1 ≤ k) (k1 : k ≤ 300) : TriOk (evenT k) := by
  refine ⟨⟨by show (1 : Nat) ≤ 2; decide, by show (2 : Nat) ≤ 12; decide, by show ∀ n ∈ ([2, 3] : List Int), 1 ≤ n ∧ n ≤ 100; decide, by show ([2, 3] : List Int).Pairwise (· < ·); decide⟩, ⟨by show (1 : Nat) ≤ 2; decide, by show (2 : Nat) ≤ 6; decide, fun p hp => ?_, by show ([("a" : Str), "b"]).Nodup; decide +kernel⟩, ⟨by show (0 : Nat) ≤ 6; decide, fun p hp => by cases hp⟩⟩
  have hp : p ∈ [(("a" : Str), 3 * k), ("b", 2 * k)] := hp
  simp only [List.mem_cons, List.not_mem_nil, or_false] at hp
  rcases hp with rfl | rfl
  · exact ⟨(⟨by decide +kernel, by decide +kernel, ⟨_, rfl, by decide +kernel⟩, by decide +kernel⟩ : NameOk "a"), by show 0 ≤ 3 * k; omega, by show 3 * k ≤ 1000000; omega⟩
  · exact ⟨(⟨by decide +kernel, by decide +kernel, ⟨_, rfl, by decide +kernel⟩, by decide +kernel⟩ : NameOk "b"), by show 0 ≤ 2 * k; omega, by show 2 * k ≤ 1000000; omega⟩
theorem p21 : payI [2, 3] 1 = 2 := rfl
theorem p22 : payI [2, 3] 2 = 3 := rfl
theorem even_poss {k : Int} (k0 : 1 ≤ k) (ok : TriOk (evenT k)) : possN (evenT k) (evenT k).2.2 = [[1, 1], [2, 0]] := by
  show possN (evenT k) [] = _
  rw [poss_none ok]
  unfold resL
  have e : allT (evenT k) = [[0, 2], [1, 1], [2, 0]] := by
    show tabs (allB 2 2) 2 = _
    decide +kernel
  rw [e]
  have h1 : isRes (evenT k).1 (zsN (evenT k) [0, 2]) = false := by
    rw [Bool.eq_false_iff]
    intro h
    have h := res_iff.mp h (2 * k, 2) (by show _ ∈ [(3 * k, (0 : Int)), (2 * k, 2)]; simp) (3 * k, 0) (by show _ ∈ [(3 * k, (0 : Int)), (2 * k, 2)]; simp) (by show (0 : Int) < 2; decide) (by show (0 : Int) < 2; decide)
    have h : 3 * k * 3 ≤ 2 * k * 2 := h
    omega
  have h2 : isRes (evenT k).1 (zsN (evenT k) [1, 1]) = true := res_iff.mpr fun x hx y hy hx0 hy0 => by
    have hx : x ∈ [(3 * k, (1 : Int)), (2 * k, 1)] := hx
    have hy : y ∈ [(3 * k, (1 : Int)), (2 * k, 1)] := hy
    show y.1 * payI [2, 3] x.2 ≤ x.1 * payI [2, 3] (y.2 + 1)
    simp only [List.mem_cons, List.not_mem_nil, or_false] at hx hy
    rcases hx with rfl | rfl <;> rcases hy with rfl | rfl <;> simp [p21, p22] <;> omega
  have h3 : isRes (evenT k).1 (zsN (evenT k) [2, 0]) = true := res_iff.mpr fun x hx y hy hx0 hy0 => by
    have hx : x ∈ [(3 * k, (2 : Int)), (2 * k, 0)] := hx
    have hy : y ∈ [(3 * k, (2 : Int)), (2 * k, 0)] := hy
    have hy0 : y.2 < 2 := hy0
    show y.1 * payI [2, 3] x.2 ≤ x.1 * payI [2, 3] (y.2 + 1)
    simp only [List.mem_cons, List.not_mem_nil, or_false] at hx hy
    rcases hx with rfl | rfl <;> rcases hy with rfl | rfl <;> simp [p21, p22] at hx0 hy0 ⊢ <;> omega
  rw [List.filter_cons_of_neg (by rw [h1]; exact Bool.false_ne_true), List.filter_cons_of_pos (p := fun T => isRes (evenT k).1 (zsN (evenT k) T)) h2, List.filter_cons_of_pos (p := fun T => isRes (evenT k).1 (zsN (evenT k) T)) h3]
  rfl
/-! ### a night with the size of a pile otherwise -/
local macro_rules | `(tactic| walk_at "blk") => `(tactic| first | decide +kernel | rfl)
section
variable {P : Program} {w : World} {K : PySem.W.Frag} {mg : Str → Option Value} {base : Heap} {f C : Addr} {fd : FuncData}
def S_is_index : DSp := fun ds Φ _ => ∃ i n : Int, ds = [.int i, .int n] ∧ 0 ≤ i ∧ i < n ∧ Φ (.bl true)
abbrev s_is_index : Stmt := topS 24
abbrev N_is_index : List Str := ["value", "many"]
theorem sc_is_index : FnScope N_is_index ["value", "many"] (defScope s_is_index) := ⟨rfl, rfl, rfl, by decide +kernel, rfl, by decide +kernel, by decide +kernel⟩
theorem ok_is_index (F : FunX K "is_index" "is_index" s_is_index f fd) (c_is_integer : CallD P w K mg base "is_integer" 1 S_is_integer) : FnG P w K mg base 2 f fd ["value", "many"] (lift K S_is_index) := by
  refine fnX_of F sc_is_index (fun ds Φ Ψ ⟨_, _, h, _⟩ => by rw [h]; rfl) fun cdv A outer s H E b => ⟨_, (pss_one (ps_ret (pe_and (k_cd K c_is_integer (by exact b.room) (by decide) b.pass (pa_cons (pv 0) pa_nil)) (pe_one (pe_chain op_le op_lt pe_int (pv 0) (pv 1)))))), fun ds Φ Ψ ⟨i, n, h, h0, h1, q⟩ => ?_⟩
  subst h
  show wS _ _ _ [some (.dat _), some (.dat _)]
  walk_at "dlt"
  refine ⟨i, rfl, ?_⟩
  walk_at "dlt"
  refine wE_chain opd_le opd_lt ?_
  walk_at "dlt"
  rw [decide_eq_true h1]
  exact q
/-- the size of a pile otherwise -/
def sizeT (t : Tri) (i : Nat) (own : List Str) (v : Int) : Tri := (t.1, t.2.1, t.2.2.set i (v, own))
def chD (i : Nat) (v : Int) : D := .tup [.str "size", .int i, .int v]
def S_names_a_part : DSp := fun ds Φ _ => ∃ (t : Tri) (i : Nat) (v : Int), ds = [chD i v, .tup [divsD t.1, folkD t.2.1, heapsD t.2.2]] ∧ i < t.2.2.length ∧ t.2.2.length ≤ 6 ∧ Φ (.bl true)
theorem kz12 : (Str.ofString "divisor") ≠ Str.ofString "count" := by decide +kernel
theorem kz13 : (Str.ofString "divisor") ≠ Str.ofString "size" := by decide +kernel
theorem kz23 : (Str.ofString "count") ≠ Str.ofString "size" := by decide +kernel
theorem size_row (t : Tri) : (List.lookup (Str.ofString "size") [(Str.ofString "divisor", divsD t.1), (Str.ofString "count", folkD t.2.1), (Str.ofString "size", heapsD t.2.2)]).getD (D.tup []) = heapsD t.2.2 := by
  rw [List.lookup_cons, List.lookup_cons, List.lookup_cons, beq_eq_false_iff_ne.mpr kz13.symm, beq_eq_false_iff_ne.mpr kz23.symm, beq_self_eq_true]
  rfl
abbrev s_names_a_part : Stmt := topS 39
abbrev N_names_a_part : List Str := ["change", "parts", "divisors", "parties", "piles", "rows"]
theorem sc_names_a_part : FnScope N_names_a_part ["change", "parts"] (defScope s_names_a_part) := ⟨rfl, rfl, rfl, by decide +kernel, rfl, by decide +kernel, by decide +kernel⟩
theorem ok_names_a_part (F : FunX K "names_a_part" "names_a_part" s_names_a_part f fd) (B : Blt mg) (c_is_tuple_of : CallD P w K mg base "is_tuple_of" 1 S_is_tuple_of) (c_is_index : CallD P w K mg base "is_index" 2 S_is_index) : FnG P w K mg base 3 f fd ["change", "parts"] (lift K S_names_a_part) := by
  refine fnX_of F sc_names_a_part (fun ds Φ Ψ ⟨_, _, _, h, _⟩ => by rw [h]; rfl) fun cdv A outer s H E b => ⟨_, (pss_cons (ps_if (PW.pt (pw_or (pt_not (pt_val (k_cd K c_is_tuple_of (by exact b.room) (by decide) b.pass (pa_cons (pv 0) (pa_cons pe_int pa_nil))))) (pw_or1 (pt_not (pt_val (pe_callB (k_isi K) (by rfl) B.isinstance bb_isinstance (pa_cons (pe_ix (k_ix K) (pv 0) pe_int (fun _ _ => rfl)) (pa_cons (pe_bty B.str bb_str) pa_nil)))))))) (pss_one (ps_ret pe_bl)) pss_nil)
 (pss_cons (ps_asg (pv 1) (k_pg K (n := 3) rfl (pgs_cons (pg_name (i := 2) sc_names_a_part.nd rfl (by first | exact .inl rfl | exact .inr rfl)) (pgs_cons (pg_name (i := 3) sc_names_a_part.nd rfl (by first | exact .inl rfl | exact .inr rfl)) (pgs_cons (pg_name (i := 4) sc_names_a_part.nd rfl (by first | exact .inl rfl | exact .inr rfl)) pgs_nil)))))
 (pss_cons (ps_set (i := 5) sc_names_a_part.nd rfl (by first | exact .inl rfl | exact .inr rfl) (pe_disp (pps_cons pe_str (pv 2) (pps_cons pe_str (pv 3) (pps_cons pe_str (pv 4) pps_nil))) rfl rfl (by simp) (by decide)))
 (pss_one (ps_ret (k_cd K c_is_index (by exact b.room) (by decide) b.pass (pa_cons (pe_ix (k_ix K) (pv 0) pe_int (fun _ _ => rfl)) (pa_cons (pe_callB (k_len K) (by rfl) B.len bb_len (pa_cons (k_dget2 (by exact b.room) (pv 5) (pe_ix (k_ix K) (pv 0) pe_int (fun _ _ => rfl)) (pe_tup pa_nil)) pa_nil)) pa_nil)))))))), fun ds Φ Ψ ⟨t, i, v, h, hi, h6, q⟩ => ?_⟩
  subst h
  unfold chD
  show wS _ _ _ [some (.dat _), some (.dat _), none, none, none, none]
  walk_at "dlt"
  refine ⟨_, 3, rfl, rfl, ?_⟩
  walk_at "dlt"
  refine wE_disp3 kz12 kz13 kz23 rfl rfl rfl ?_
  walk_at "dlt"
  refine ⟨_, rfl, ?_⟩
  walk_at "dlt"
  rw [size_row]
  unfold heapsD
  walk_at "dlt"
  refine ⟨(i : Int), _, rfl, by omega, by rw [List.length_map]; omega, q⟩
def S_with_item : DSp := fun ds Φ _ => ∃ (l : List D) (i : Nat) (d : D), ds = [.tup l, .int i, d] ∧ i < l.length ∧ l.length ≤ 100 ∧ Φ (.tup (l.set i d))
theorem cut_le' {α : Type} (xs : List α) (lo hi : Option Int) : (cutD xs lo hi).length ≤ xs.length := by
  unfold cutD
  rw [List.length_take, List.length_drop]
  omega
abbrev s_with_item : Stmt := topS 40
abbrev N_with_item : List Str := ["row", "index", "item"]
theorem sc_with_item : FnScope N_with_item ["row", "index", "item"] (defScope s_with_item) := ⟨rfl, rfl, rfl, by decide +kernel, rfl, by decide +kernel, by decide +kernel⟩
theorem ok_with_item (F : FunX K "with_item" "with_item" s_with_item f fd) : FnG P w K mg base 1 f fd ["row", "index", "item"] (lift K S_with_item) := by
  refine fnX_of F sc_with_item (fun ds Φ Ψ ⟨_, _, _, h, _⟩ => by rw [h]; rfl) fun cdv A outer s H E b => ⟨_, (pss_one (ps_ret (pe_op (k_add K) (pe_op (k_add K) (pe_slice (k_sl K) (pv 0) po_none (po_some (pv 1))) (pe_tup (pa_cons (pv 2) pa_nil))) (pe_slice (k_sl K) (pv 0) (po_some (pe_op (k_add K) (pv 1) pe_int)) po_none)))), fun ds Φ Ψ ⟨l, i, d, h, hi, hl, q⟩ => ?_⟩
  subst h
  show wS _ _ _ [some (.dat _), some (.dat _), some (.dat _)]
  have c1 := cut_le' l none (some (i : Int))
  have c2 := cut_le' l (some ((i : Int) + 1)) none
  walk_at "dlt"
  refine addG_t (by simp only [List.length_cons, List.length_nil]; omega) ?_
  walk_at "dlt"
  refine addG_t (by simp only [List.length_append, List.length_cons, List.length_nil]; omega) ?_
  rw [cut_to, show (i : Int) + 1 = ((i + 1 : Nat) : Int) by omega, cut_from, set_split hi]
  exact q
def S_with_change : DSp := fun ds Φ _ => ∃ (t : Tri) (i : Nat) (s v : Int) (own : List Str), ds = [.tup [divsD t.1, folkD t.2.1, heapsD t.2.2], chD i v] ∧ t.2.2[i]? = some (s, own) ∧ t.2.2.length ≤ 6 ∧ Φ (.tup [divsD t.1, folkD t.2.1, heapsD (t.2.2.set i (v, own))])
abbrev s_with_change : Stmt := topS 41
abbrev N_with_change : List Str := ["parts", "change", "divisors", "parties", "piles", "what", "index", "value"]
theorem sc_with_change : FnScope N_with_change ["parts", "change"] (defScope s_with_change) := ⟨rfl, rfl, rfl, by decide +kernel, rfl, by decide +kernel, by decide +kernel⟩
theorem ok_with_change (F : FunX K "with_change" "with_change" s_with_change f fd) (c_with_item : CallD P w K mg base "with_item" 1 S_with_item) : FnG P w K mg base 2 f fd ["parts", "change"] (lift K S_with_change) := by
  refine fnX_of F sc_with_change (fun ds Φ Ψ ⟨_, _, _, _, _, h, _⟩ => by rw [h]; rfl) fun cdv A outer s H E b => ⟨_, (pss_cons (ps_asg (pv 0) (k_pg K (n := 3) rfl (pgs_cons (pg_name (i := 2) sc_with_change.nd rfl (by first | exact .inl rfl | exact .inr rfl)) (pgs_cons (pg_name (i := 3) sc_with_change.nd rfl (by first | exact .inl rfl | exact .inr rfl)) (pgs_cons (pg_name (i := 4) sc_with_change.nd rfl (by first | exact .inl rfl | exact .inr rfl)) pgs_nil)))))
 (pss_cons (ps_asg (pv 1) (k_pg K (n := 3) rfl (pgs_cons (pg_name (i := 5) sc_with_change.nd rfl (by first | exact .inl rfl | exact .inr rfl)) (pgs_cons (pg_name (i := 6) sc_with_change.nd rfl (by first | exact .inl rfl | exact .inr rfl)) (pgs_cons (pg_name (i := 7) sc_with_change.nd rfl (by first | exact .inl rfl | exact .inr rfl)) pgs_nil)))))
 (pss_cons (ps_if (pt_cmpR (k_eq K (by exact b.room)) (pv 5) pe_str (nomark _)) (pss_one (ps_ret (pe_tup (pa_cons (k_cd K c_with_item (by exact b.room) (by decide) b.pass (pa_cons (pv 2) (pa_cons (pv 6) (pa_cons (pv 7) pa_nil)))) (pa_cons (pv 3) (pa_cons (pv 4) pa_nil)))))) pss_nil)
 (pss_cons (ps_if (pt_cmpR (k_eq K (by exact b.room)) (pv 5) pe_str (nomark _)) (pss_one (ps_ret (pe_tup (pa_cons (pv 2) (pa_cons (k_cd K c_with_item (by exact b.room) (by decide) b.pass (pa_cons (pv 3) (pa_cons (pv 6) (pa_cons (pe_tup (pa_cons (pe_ix (k_ix K) (pe_ix (k_ix K) (pv 3) (pv 6) (fun _ _ => rfl)) pe_int (fun _ _ => rfl)) (pa_cons (pv 7) pa_nil))) pa_nil)))) (pa_cons (pv 4) pa_nil)))))) pss_nil)
 (pss_one (ps_ret (pe_tup (pa_cons (pv 2) (pa_cons (pv 3) (pa_cons (k_cd K c_with_item (by exact b.room) (by decide) b.pass (pa_cons (pv 4) (pa_cons (pv 6) (pa_cons (pe_tup (pa_cons (pv 7) (pa_cons (pe_ix (k_ix K) (pe_ix (k_ix K) (pv 4) (pv 6) (fun _ _ => rfl)) pe_int (fun _ _ => rfl)) pa_nil))) pa_nil)))) pa_nil)))))))))), fun ds Φ Ψ ⟨t, i, s, v, own, h, hi, h6, q⟩ => ?_⟩
  subst h
  unfold chD heapsD
  show wS _ _ _ [some (.dat _), some (.dat _), none, none, none, none, none, none]
  have il := (List.getElem?_eq_some_iff.mp hi).1
  walk_at "dlt"
  refine ixG_t (L2.atI_nat (by rw [List.getElem?_map, hi]; rfl)) ?_
  unfold pileD
  walk_at "dlt"
  refine ⟨t.2.2.map pileD, i, pileD (v, own), rfl, by rw [List.length_map]; exact il, by rw [List.length_map]; omega, ?_⟩
  walk_at "dlt"
  unfold heapsD at q
  rw [List.map_set] at q
  exact q
def S_changed (C : Addr) : DSp := fun ds Φ _ => ∃ (t : Tri) (i : Nat) (s v : Int) (own : List Str), ds = [nightD C t, chD i v] ∧ t.2.2[i]? = some (s, own) ∧ TriOk t ∧ TriOk (sizeT t i own v) ∧ Φ (nightD C (sizeT t i own v))
abbrev s_Night_changed : Stmt := inClass (topS 48) 10
abbrev N_Night_changed : List Str := ["self", "change", "parts", "divisors", "parties", "piles"]
theorem sc_Night_changed : FnScope N_Night_changed ["self", "change"] (defScope s_Night_changed) := ⟨rfl, rfl, rfl, by decide +kernel, rfl, by decide +kernel, by decide +kernel⟩
theorem ok_changed (F : FunX K "changed" "Night.changed" s_Night_changed f fd) (T : NightC K C) (c_Night : mg "Night" = some (.ref C)) (c_names_a_part : CallD P w K mg base "names_a_part" 3 S_names_a_part) (c_with_change : CallD P w K mg base "with_change" 2 S_with_change) (c_mkNight3 : MakeB P w K mg base C 5 S_init 3 [] [0, 1, 2] []) : FnG P w K mg base 7 f fd ["self", "change"] (lift K (S_changed C)) := by
  refine fnX_of F sc_Night_changed (fun ds Φ Ψ ⟨_, _, _, _, _, h, _⟩ => by rw [h]; rfl) fun cdv A outer s H E b => ⟨_, (pss_cons (ps_set (i := 2) sc_Night_changed.nd rfl (by first | exact .inl rfl | exact .inr rfl) (pe_tup (pa_cons (k_fld K (pv 0)) (pa_cons (k_fld K (pv 0)) (pa_cons (k_fld K (pv 0)) pa_nil)))))
 (pss_cons (ps_if (pt_not (pt_val (k_cd K c_names_a_part (by exact b.room) (by decide) b.pass (pa_cons (pv 1) (pa_cons (pv 2) pa_nil))))) (pss_one ps_never) pss_nil)
 (pss_cons (ps_asg (k_cd K c_with_change (by exact b.room) (by decide) b.pass (pa_cons (pv 2) (pa_cons (pv 1) pa_nil))) (k_pg K (n := 3) rfl (pgs_cons (pg_name (i := 3) sc_Night_changed.nd rfl (by first | exact .inl rfl | exact .inr rfl)) (pgs_cons (pg_name (i := 4) sc_Night_changed.nd rfl (by first | exact .inl rfl | exact .inr rfl)) (pgs_cons (pg_name (i := 5) sc_Night_changed.nd rfl (by first | exact .inl rfl | exact .inr rfl)) pgs_nil)))))
 (pss_one (ps_try_thru0 (pss_one (ps_ret (k_mk K c_mkNight3 (by exact b.room) (by decide) passN c_Night (pa_cons (pv 3) (pa_cons (pv 4) (pa_cons (pv 5) pa_nil))) pk_nil)))))))), fun ds Φ Ψ ⟨t, i, s0, v, own, h, hi, ht, hs, q⟩ => ?_⟩
  subst h
  show wS _ _ _ [some (.dat _), some (.dat _), none, none, none, none]
  have il := (List.getElem?_eq_some_iff.mp hi).1
  walk_at "dlt"
  refine ⟨_, _, _, rfl, T.cl, T.nD, lk_div, ?_⟩
  walk_at "dlt"
  refine ⟨_, _, _, rfl, T.cl, T.nP, lk_par, ?_⟩
  walk_at "dlt"
  refine ⟨_, _, _, rfl, T.cl, T.nH, lk_pil, ?_⟩
  walk_at "dlt"
  refine ⟨t, i, v, rfl, il, ht.h.l2, ?_⟩
  walk_at "dlt"
  refine ⟨t, i, s0, v, own, rfl, hi, ht.h.l2, ?_⟩
  walk_at "dlt"
  refine wE_quiet (wE_makeD ?_)
  walk_at "dlt"
  exact ⟨rfl, rfl, t.1, t.2.1, t.2.2.set i (v, own), rfl, hs, q⟩
end
/-! ### known nights: the law -/
local macro_rules | `(tactic| walk_at "blk") => `(tactic| first | decide +kernel | rfl)
section
variable {P : Program} {w : World} {K : PySem.W.Frag} {mg : Str → Option Value} {base : Heap} {f C : Addr} {fd : FuncData}
def S_right : DSp := fun ds Φ _ => ds = [.pail] ∧ Φ (.bl true)
abbrev s_l_two_right : Stmt := topS 95
abbrev N_l_two_right : List Str := ["_law_purse_here", "_law_seats_all", "_law_x", "_law_y", "_law_rest", "_law_row", "_law_mine", "_law_a", "_law_b", "_law_lack"]
theorem sc_l_two_right : FnScope N_l_two_right ["_law_purse_here"] (defScope s_l_two_right) := ⟨rfl, rfl, rfl, by decide +kernel, rfl, by decide +kernel, by decide +kernel⟩
theorem ok_two_right (F : FunX K "_law_two_right" "_law_two_right" s_l_two_right f fd) (B : Blt mg) (c_Night : mg "Night" = some (.ref C)) (c_mkNight3 : MakeB P w K mg base C 5 S_init 3 [] [0, 1, 2] []) (c_l_draw : CallD P w K mg base "_law_draw" 1 (pailS P_cast)) (c_may_have : CallD P w K mg base "may_have" 8 (S_may C)) (c_margin : CallD P w K mg base "margin" 6 (S_margin C)) (c_seat_range : CallD P w K mg base "seat_range" 8 (S_seat_range C)) : FnG P w K mg base 9 f fd ["_law_purse_here"] (lift K S_right) := by
  refine fnX_of F sc_l_two_right (fun ds Φ Ψ ⟨h, _⟩ => by rw [h]; rfl) fun cdv A outer s H E b => ⟨_, (pss_cons (ps_asg (pe_tup (pa_cons (pe_op (k_add K) pe_int (k_cd K c_l_draw (by exact b.room) (by decide) b.pass (pa_cons (pv 0) (pa_cons pe_int pa_nil)))) (pa_cons (k_cd K c_l_draw (by exact b.room) (by decide) b.pass (pa_cons (pv 0) (pa_cons pe_int pa_nil))) (pa_cons (k_cd K c_l_draw (by exact b.room) (by decide) b.pass (pa_cons (pv 0) (pa_cons pe_int pa_nil))) (pa_cons (k_cd K c_l_draw (by exact b.room) (by decide) b.pass (pa_cons (pv 0) (pa_cons pe_int pa_nil))) pa_nil))))) (k_pg K (n := 4) rfl (pgs_cons (pg_name (i := 1) sc_l_two_right.nd rfl (by first | exact .inl rfl | exact .inr rfl)) (pgs_cons (pg_name (i := 2) sc_l_two_right.nd rfl (by first | exact .inl rfl | exact .inr rfl)) (pgs_cons (pg_name (i := 3) sc_l_two_right.nd rfl (by first | exact .inl rfl | exact .inr rfl)) (pgs_cons (pg_name (i := 4) sc_l_two_right.nd rfl (by first | exact .inl rfl | exact .inr rfl)) pgs_nil))))))
 (pss_cons (ps_set (i := 5) sc_l_two_right.nd rfl (by first | exact .inl rfl | exact .inr rfl) (pe_tupRg rfl (by rfl) B.tuple (prg_2 (by rfl) B.range pe_int (pe_op (k_add K) (pv 1) pe_int))))
 (pss_cons (ps_set (i := 6) sc_l_two_right.nd rfl (by first | exact .inl rfl | exact .inr rfl) (k_mk K c_mkNight3 (by exact b.room) (by decide) b.pass c_Night (pa_cons (pv 5) (pa_cons (pe_tup (pa_cons (pe_tup (pa_cons pe_str (pa_cons (pv 2) pa_nil))) (pa_cons (pe_tup (pa_cons pe_str (pa_cons (pv 3) pa_nil))) pa_nil))) (pa_cons (pe_tup (pa_cons (pe_tup (pa_cons (pv 4) (pa_cons (pe_tup (pa_cons pe_str (pa_cons pe_str pa_nil))) pa_nil))) pa_nil)) pa_nil))) pk_nil))
 (pss_cons (ps_for b.own rfl (pi_range2 (by rfl) B.range (pa_cons pe_int (pa_cons (pe_op (k_add K) (pv 1) pe_int) pa_nil))) (pg_name (i := 7) sc_l_two_right.nd rfl (by first | exact .inl rfl | exact .inr rfl)) (pss_cons (ps_set (i := 8) sc_l_two_right.nd rfl (by first | exact .inl rfl | exact .inr rfl) (pe_op op_sub (pe_op (k_add K) (pv 1) pe_int) (pv 7)))
 (pss_cons (ps_if (pt_cmpR (k_ne K (by exact b.room)) (k_cd K c_may_have (by exact b.room) (by decide) b.pass (pa_cons (pv 6) (pa_cons (pe_tup (pa_cons pe_str pa_nil)) (pa_cons (pv 7) pa_nil)))) (pe_cmpR op_ge (pe_op opr_mul (pe_op (k_add K) (pv 2) (pv 4)) (pv 8)) (pe_op opr_mul (pv 3) (pv 7)) (nomark _)) (nomark _)) (pss_one (ps_ret pe_bl)) pss_nil)
 (pss_cons (ps_set (i := 9) sc_l_two_right.nd rfl (by first | exact .inl rfl | exact .inr rfl) (pe_callB (call_max2 rfl) (by rfl) B.max bb_max (pa_cons pe_int (pa_cons (pe_op op_sub (pe_op op_sub pe_int (pe_op op_fdiv (pe_op op_sub pe_int (pe_op opr_mul (pv 3) (pv 7))) (pv 8))) (pv 2)) pa_nil))))
 (pss_one (ps_if (pt_cmpR (k_ne K (by exact b.room)) (k_cd K c_margin (by exact b.room) (by decide) b.pass (pa_cons (pv 6) (pa_cons (pe_tup (pa_cons pe_str pa_nil)) (pa_cons (pv 7) pa_nil)))) (pv 9) (nomark _)) (pss_one (ps_ret pe_bl)) pss_nil))))))
 (pss_one (ps_ret (pe_cmpR (k_eq K (by exact b.room)) (k_cd K c_seat_range (by exact b.room) (by decide) b.pass (pa_cons (pv 6) (pa_cons (pe_tup (pa_cons pe_str (pa_cons pe_str pa_nil))) pa_nil))) (pe_tup (pa_cons (pv 1) (pa_cons (pv 1) pa_nil))) (nomark _)))))))), fun ds Φ Ψ ⟨h, q⟩ => ?_⟩
  subst h
  show wS _ _ _ [some (.dat _), none, none, none, none, none, none, none, none, none]
  walk_at "dlt"
  refine use_cast (by decide) (by decide) fun c hc => ?_
  walk_at "dlt"
  refine use_cast (by decide) (by decide) fun x hx => ?_
  walk_at "dlt"
  refine use_cast (by decide) (by decide) fun y hy => ?_
  walk_at "dlt"
  refine use_cast (by decide) (by decide) fun r hr => ?_
  walk_at "dlt"
  refine ⟨1, 1 + (c : Int) + 1, rfl, rfl, RgOk.of_le (by omega) (by omega) (by omega) (by omega), ?_⟩
  rw [show (1 + (c : Int) + 1 - 1).toNat = c + 1 by omega]
  have ok : TriOk (twoT (c + 1) x y r) := two_ok (by omega) (by omega) (by omega) (by omega) (by omega) (by omega) (by omega) (by omega)
  have red : ("red" : Str) ∈ namesN (twoT (c + 1) x y r) := by show ("red" : Str) ∈ [("red" : Str), "blue"]; simp
  have rl : (twoT (c + 1) x y r).1.length = c + 1 := rowN_len _
  walk_at "dlt"
  refine ⟨rfl, rfl, rowN (c + 1), [("red", (x : Int)), ("blue", (y : Int))], [((r : Int), ["red", "blue"])], rfl, ok, ?_⟩
  walk_at "dlt"
  refine wS_forT (fun i : Nat => .int (1 + (i : Int))) (fun _ ρ' => ∃ x7 x8 x9 : Option Sl, ρ' = [some (.dat .pail), some (.dat (.int (1 + (c : Int)))), some (.dat (.int (x : Int))), some (.dat (.int (y : Int))), some (.dat (.int (r : Int))), some (.dat (.tup ((rowN (c + 1)).map D.int))), some (.dat (nightD C (twoT (c + 1) x y r))), x7, x8, x9]) (wI_range2 ?_)
  walk_at "dlt"
  refine ⟨1, 1 + (c : Int) + 1, rfl, by omega, List.range (c + 1), by unfold rangeD; rw [show (1 + (c : Int) + 1 - 1).toNat = c + 1 by omega], ⟨_, _, _, rfl⟩, fun i i0 ρ' hi ⟨x7, x8, x9, e⟩ => ?_, fun ρ' ⟨x7, x8, x9, e⟩ => ?_⟩
  · subst e
    obtain ⟨hil, hx0⟩ := List.getElem?_eq_some_iff.mp hi
    rw [List.length_range] at hil
    rw [List.getElem_range] at hx0
    subst hx0
    have a1 : 1 ≤ 1 + (i : Int) ∧ 1 + (i : Int) ≤ ((c + 1 : Nat) : Int) := by omega
    have eb : 1 + (c : Int) + 1 - (1 + (i : Int)) = ((c + 1 : Nat) : Int) + 1 - (1 + (i : Int)) := by omega
    walk_at "dlt"
    rw [eb]
    have b1 : 1 ≤ ((c + 1 : Nat) : Int) + 1 - (1 + (i : Int)) ∧ ((c + 1 : Nat) : Int) + 1 - (1 + (i : Int)) ≤ 8 := by omega
    have a8 : 1 + (i : Int) ≤ 8 := by omega
    have pne : possN (twoT (c + 1) x y r) (twoT (c + 1) x y r).2.2 ≠ [] := poss_some ok ok.h
    refine ⟨twoT (c + 1) x y r, ["red"], 1 + (i : Int), rfl, ok, one_bloc ok red, by omega, by rw [rl]; exact a1.2, pne, fun bb hbb => ?_⟩
    have mm := two_may (a := 1 + (i : Int)) (show 1 ≤ c + 1 by omega) (show c + 1 ≤ 8 by omega) ok (by omega) (by omega) (by omega) a1.1 a1.2
    have cl := ceil_is (n := (y : Int) * (1 + (i : Int))) (b := ((c + 1 : Nat) : Int) + 1 - (1 + (i : Int))) (by omega)
    have tm := fun (m L : Int) => two_margin (m := m) (L := L) (a := 1 + (i : Int)) (show 1 ≤ c + 1 by omega) (show c + 1 ≤ 8 by omega) ok (by omega) (by omega) a1.1 a1.2
    generalize ((c + 1 : Nat) : Int) + 1 - (1 + (i : Int)) = B at b1 mm cl tm ⊢
    walk_at "dlt"
    have ebb : bb = decide ((y : Int) * (1 + (i : Int)) ≤ ((x : Int) + r) * B) := by
      rw [Bool.eq_iff_iff, decide_eq_true_eq]
      exact hbb.trans mm
    rw [ebb]
    refine ifq_no (by rw [beq_self_eq_true]; rfl) ?_
    walk_at "dlt"
    refine ⟨twoT (c + 1) x y r, ["red"], 1 + (i : Int), rfl, ok, one_bloc ok red, by omega, by rw [rl]; exact a1.2, fun z hz => ?_⟩
    walk_at "dlt"
    generalize 0 - (0 - (y : Int) * (1 + (i : Int))) / B = G at cl ⊢
    have ez : z = if G - (x : Int) > 0 then G - (x : Int) else 0 := by
      refine tm z _ hz ?_ ?_ ?_
      · split <;> omega
      · split
        · rw [show (x : Int) + (G - x) = G by omega]
          exact cl.1
        · have : G * B ≤ ((x : Int) + 0) * B := Int.mul_le_mul_of_nonneg_right (by omega) (by omega)
          have := cl.1
          omega
      · intro l l0 hl
        have := cl.2 _ hl
        split <;> omega
    refine ifNP ez ?_
    walk_at "dlt"
    exact ⟨_, _, _, rfl⟩
  · subst e
    walk_at "dlt"
    refine ⟨twoT (c + 1) x y r, ["blue", "red"], rfl, ok, ⟨List.cons_ne_nil _ _, by simp, by show (2 : Nat) ≤ 6; decide, fun z hz => ?_, fun i a b ha hb => ?_⟩, fun z hq => ?_⟩
    · show z ∈ [("red" : Str), "blue"]
      simp only [List.mem_cons, List.not_mem_nil, or_false] at hz ⊢
      exact hz.symm
    · match i with
      | 0 =>
        have ha : some ("blue" : Str) = some a := ha
        have hb : some ("red" : Str) = some b := hb
        cases ha; cases hb
        decide +kernel
      | 1 => cases hb
      | _ + 2 => cases hb
    rw [two_rng ok hq]
    walk_at "dlt"
    refine eqG_row (a := [((c + 1 : Nat) : Int), ((c + 1 : Nat) : Int)]) (b := [1 + (c : Int), 1 + (c : Int)]) ?_
    rw [decide_eq_true (by rw [show ((c + 1 : Nat) : Int) = 1 + (c : Int) by omega])]
    exact q
abbrev s_l_three_right : Stmt := topS 96
abbrev N_l_three_right : List Str := ["_law_purse_here", "_law_by", "_law_mine", "_law_near", "_law_even"]
theorem sc_l_three_right : FnScope N_l_three_right ["_law_purse_here"] (defScope s_l_three_right) := ⟨rfl, rfl, rfl, by decide +kernel, rfl, by decide +kernel, by decide +kernel⟩
theorem ok_three_right (F : FunX K "_law_three_right" "_law_three_right" s_l_three_right f fd) (B : Blt mg) (c_Night : mg "Night" = some (.ref C)) (c_mkNight3 : MakeB P w K mg base C 5 S_init 3 [] [0, 1, 2] []) (c_l_draw : CallD P w K mg base "_law_draw" 1 (pailS P_cast)) (c_possible : CallD P w K mg base "possible" 7 (S_possible C)) (c_least_price : CallD P w K mg base "least_price" 6 (S_least_price C)) (c_needs : CallD P w K mg base "needs" 6 (S_needs C)) (c_distance : CallD P w K mg base "distance" 6 (S_distance C)) (c_margin : CallD P w K mg base "margin" 6 (S_margin C)) (c_seat_range : CallD P w K mg base "seat_range" 8 (S_seat_range C)) (c_m_changed : MethB P w K mg base C "changed" 7 (S_changed C) 1 [] [0] []) : FnG P w K mg base 9 f fd ["_law_purse_here"] (lift K S_right) := by
  refine fnX_of F sc_l_three_right (fun ds Φ Ψ ⟨h, _⟩ => by rw [h]; rfl) fun cdv A outer s H E b => ⟨_, (pss_cons (ps_set (i := 1) sc_l_three_right.nd rfl (by first | exact .inl rfl | exact .inr rfl) (pe_op (k_add K) pe_int (k_cd K c_l_draw (by exact b.room) (by decide) b.pass (pa_cons (pv 0) (pa_cons pe_int pa_nil)))))
 (pss_cons (ps_set (i := 2) sc_l_three_right.nd rfl (by first | exact .inl rfl | exact .inr rfl) (k_mk K c_mkNight3 (by exact b.room) (by decide) b.pass c_Night (pa_cons (pe_tup (pa_cons pe_int (pa_cons pe_int (pa_cons pe_int pa_nil)))) (pa_cons (pe_tup (pa_cons (pe_tup (pa_cons pe_str (pa_cons (pe_op opr_mul pe_int (pv 1)) pa_nil))) (pa_cons (pe_tup (pa_cons pe_str (pa_cons (pe_op opr_mul pe_int (pv 1)) pa_nil))) (pa_cons (pe_tup (pa_cons pe_str (pa_cons (pe_op opr_mul pe_int (pv 1)) pa_nil))) pa_nil)))) (pa_cons (pe_tup (pa_cons (pe_tup (pa_cons (pe_op opr_mul pe_int (pv 1)) (pa_cons (pe_tup (pa_cons pe_str (pa_cons pe_str pa_nil))) pa_nil))) pa_nil)) pa_nil))) pk_nil))
 (pss_cons (ps_if (pt_cmpR (k_ne K (by exact b.room)) (k_cd K c_possible (by exact b.room) (by decide) b.pass (pa_cons (pv 2) pa_nil)) (pe_tup (pa_cons (pe_tup (pa_cons pe_int (pa_cons pe_int (pa_cons pe_int pa_nil)))) (pa_cons (pe_tup (pa_cons pe_int (pa_cons pe_int (pa_cons pe_int pa_nil)))) (pa_cons (pe_tup (pa_cons pe_int (pa_cons pe_int (pa_cons pe_int pa_nil)))) pa_nil)))) (nomark _)) (pss_one (ps_ret pe_bl)) pss_nil)
 (pss_cons (ps_if (PW.pt (pw_or (pt_cmpR (k_ne K (by exact b.room)) (k_cd K c_least_price (by exact b.room) (by decide) b.pass (pa_cons (pv 2) (pa_cons (pe_tup (pa_cons pe_int (pa_cons pe_int (pa_cons pe_int pa_nil)))) pa_nil))) (pe_tup (pa_cons (pe_op opr_mul pe_int (pv 1)) (pa_cons pe_int pa_nil))) (nomark _)) (pw_or1 (pt_cmpR (k_ne K (by exact b.room)) (k_cd K c_needs (by exact b.room) (by decide) b.pass (pa_cons (pv 2) (pa_cons (pe_tup (pa_cons pe_int (pa_cons pe_int (pa_cons pe_int pa_nil)))) pa_nil))) (pe_tup (pa_cons (pe_op opr_mul pe_int (pv 1)) (pa_cons (pe_op opr_mul pe_int (pv 1)) (pa_cons (pe_op opr_mul pe_int (pv 1)) pa_nil)))) (nomark _))))) (pss_one (ps_ret pe_bl)) pss_nil)
 (pss_cons (ps_if (PW.pt (pw_or (pt_cmpR (k_ne K (by exact b.room)) (k_cd K c_distance (by exact b.room) (by decide) b.pass (pa_cons (pv 2) (pa_cons (pe_tup (pa_cons pe_int (pa_cons pe_int (pa_cons pe_int pa_nil)))) pa_nil))) (pe_op opr_mul pe_int (pv 1)) (nomark _)) (pw_or1 (pt_cmpR (k_ne K (by exact b.room)) (k_cd K c_margin (by exact b.room) (by decide) b.pass (pa_cons (pv 2) (pa_cons (pe_tup (pa_cons pe_str pa_nil)) (pa_cons pe_int pa_nil)))) (pe_op opr_mul pe_int (pv 1)) (nomark _))))) (pss_one (ps_ret pe_bl)) pss_nil)
 (pss_cons (ps_set (i := 3) sc_l_three_right.nd rfl (by first | exact .inl rfl | exact .inr rfl) (k_mm K c_m_changed (by exact b.room) (by decide) b.pass (pv 2) (pa_cons (pe_tup (pa_cons pe_str (pa_cons pe_int (pa_cons (pe_op op_sub (pe_op opr_mul pe_int (pv 1)) pe_int) pa_nil)))) pa_nil) pk_nil))
 (pss_cons (ps_if (PW.pt (pw_or (pt_cmpR (k_ne K (by exact b.room)) (k_cd K c_possible (by exact b.room) (by decide) b.pass (pa_cons (pv 3) pa_nil)) (pe_tup (pa_cons (pe_tup (pa_cons pe_int (pa_cons pe_int (pa_cons pe_int pa_nil)))) pa_nil)) (nomark _)) (pw_or1 (pt_cmpR (k_ne K (by exact b.room)) (k_cd K c_seat_range (by exact b.room) (by decide) b.pass (pa_cons (pv 3) (pa_cons (pe_tup (pa_cons pe_str pa_nil)) pa_nil))) (pe_tup (pa_cons pe_int (pa_cons pe_int pa_nil))) (nomark _))))) (pss_one (ps_ret pe_bl)) pss_nil)
 (pss_cons (ps_set (i := 4) sc_l_three_right.nd rfl (by first | exact .inl rfl | exact .inr rfl) (k_mk K c_mkNight3 (by exact b.room) (by decide) b.pass c_Night (pa_cons (pe_tup (pa_cons pe_int (pa_cons pe_int pa_nil))) (pa_cons (pe_tup (pa_cons (pe_tup (pa_cons pe_str (pa_cons (pe_op opr_mul pe_int (pv 1)) pa_nil))) (pa_cons (pe_tup (pa_cons pe_str (pa_cons (pe_op opr_mul pe_int (pv 1)) pa_nil))) pa_nil))) (pa_cons (pe_tup pa_nil) pa_nil))) pk_nil))
 (pss_one (ps_ret (pe_cmpR (k_eq K (by exact b.room)) (k_cd K c_possible (by exact b.room) (by decide) b.pass (pa_cons (pv 4) pa_nil)) (pe_tup (pa_cons (pe_tup (pa_cons pe_int (pa_cons pe_int pa_nil))) (pa_cons (pe_tup (pa_cons pe_int (pa_cons pe_int pa_nil))) pa_nil))) (nomark _)))))))))))), fun ds Φ Ψ ⟨h, q⟩ => ?_⟩
  subst h
  show wS _ _ _ [some (.dat _), none, none, none, none]
  walk_at "dlt"
  refine use_cast (by decide) (by decide) fun c hc => ?_
  have c1 : 1 ≤ 1 + (c : Int) ∧ 1 + (c : Int) ≤ 300 := by omega
  walk_at "dlt"
  generalize 1 + (c : Int) = m at c1
  have ok := three_ok c1.1 c1.2 (r := 20 * m) (by omega) (by omega)
  have ok7 := three_ok c1.1 c1.2 (r := 7 * m - 1) (by omega) (by omega)
  have red : ("red" : Str) ∈ namesN (threeT m (7 * m - 1)) := by show ("red" : Str) ∈ [("red" : Str), "blue", "gold"]; simp
  have blue : ("blue" : Str) ∈ namesN (threeT m (20 * m)) := by show ("blue" : Str) ∈ [("red" : Str), "blue", "gold"]; simp
  refine ⟨rfl, rfl, [1, 2, 3], [("red", 50 * m), ("blue", 30 * m), ("gold", 18 * m)], [(20 * m, ["blue", "gold"])], rfl, ok, ?_⟩
  walk_at "dlt"
  refine ⟨threeT m (20 * m), rfl, ok, ?_⟩
  rw [three_20 c1.1 ok]
  walk_at "dlt"
  refine neG_tabs (A := [[1, 1, 1], [1, 2, 0], [2, 1, 0]]) (B := [[1, 1, 1], [1, 2, 0], [2, 1, 0]]) ?_
  walk_at "dlt"
  have t111 : TabIn (threeT m (20 * m)) [1, 1, 1] := three_tab ok (by decide) (by decide) (by decide) (by decide)
  have t201 : TabIn (threeT m (20 * m)) [2, 0, 1] := three_tab ok (by decide) (by decide) (by decide) (by decide)
  refine ⟨threeT m (20 * m), [1, 1, 1], rfl, t111, fun _ => ?_⟩
  rw [three_price c1.1]
  walk_at "dlt"
  refine neG_row (a := [25 * m, 1]) (b := [25 * m, 1]) ?_
  walk_at "dlt"
  refine ifNP rfl ?_
  walk_at "dlt"
  refine ⟨threeT m (20 * m), [2, 0, 1], rfl, t201, fun _ => ?_⟩
  have ed : dueN (threeT m (20 * m)) [2, 0, 1] = [60 * m, 30 * m, 30 * m] := by
    have e1 : dueN (threeT m (20 * m)) [2, 0, 1] = ((countsN (threeT m (20 * m))).zip (lacksN (threeT m (20 * m)).1 (countsN (threeT m (20 * m))) [2, 0, 1])).map fun p => p.1 + p.2 := (zip_due _ _).symm
    rw [e1, lack_201 c1.1 ok]
    show [50 * m + 10 * m, 30 * m + 0, 18 * m + 12 * m] = _
    rw [show 50 * m + 10 * m = 60 * m by omega, show 30 * m + 0 = 30 * m by omega, show 18 * m + 12 * m = 30 * m by omega]
  rw [ed]
  walk_at "dlt"
  refine neG_row (a := [60 * m, 30 * m, 30 * m]) (b := [60 * m, 30 * m, 30 * m]) ?_
  walk_at "dlt"
  refine ifNP rfl ?_
  walk_at "dlt"
  refine ⟨threeT m (20 * m), [1, 1, 1], rfl, t111, fun _ => ?_⟩
  have ef : farN (threeT m (20 * m)) [1, 1, 1] = 7 * m := by
    unfold farN
    rw [lack_111 c1.1 ok]
    show 0 + (0 + (7 * m + 0)) = _
    omega
  rw [ef]
  walk_at "dlt"
  refine ⟨threeT m (20 * m), ["blue"], 2, rfl, ok, one_bloc ok blue, by decide, by show (2 : Int) ≤ 3; decide, fun z hz => ?_⟩
  rw [three_margin c1.1 ok hz]
  walk_at "dlt"
  refine ⟨_, rfl, rfl, ?_⟩
  walk_at "dlt"
  refine ⟨rfl, rfl, threeT m (20 * m), 0, 20 * m, 7 * m - 1, ["blue", "gold"], rfl, rfl, ok, ok7, ?_⟩
  walk_at "dlt"
  refine ⟨threeT m (7 * m - 1), rfl, ok7, ?_⟩
  rw [three_7 c1.1 ok7]
  walk_at "dlt"
  refine neG_tabs (A := [[2, 1, 0]]) (B := [[2, 1, 0]]) ?_
  walk_at "dlt"
  refine ⟨threeT m (7 * m - 1), ["red"], rfl, ok7, one_bloc ok7 red, fun z hz => ?_⟩
  have ez : z = (2, 2) := by
    have key : ∀ T ∈ possN (threeT m (7 * m - 1)) (threeT m (7 * m - 1)).2.2, heldL (namesN (threeT m (7 * m - 1))) ["red"] T = 2 := fun T hT => by
      rw [three_7 c1.1 ok7] at hT
      rw [List.mem_singleton.mp hT]
      rfl
    obtain ⟨T1, p1, p2⟩ := hz.a
    obtain ⟨T2, q1, q2⟩ := hz.b
    rw [key T1 p1] at p2
    rw [key T2 q1] at q2
    exact Prod.ext p2.symm q2.symm
  rw [ez]
  walk_at "dlt"
  refine neG_row (a := [2, 2]) (b := [2, 2]) ?_
  walk_at "dlt"
  have oke := even_ok c1.1 c1.2
  refine ⟨rfl, rfl, [2, 3], [("a", 3 * m), ("b", 2 * m)], [], rfl, oke, ?_⟩
  walk_at "dlt"
  refine ⟨evenT m, rfl, oke, ?_⟩
  rw [even_poss c1.1 oke]
  walk_at "dlt"
  refine eqG_tabs (A := [[1, 1], [2, 0]]) (B := [[1, 1], [2, 0]]) ?_
  exact q
abbrev s_l_right : Stmt := topS 97
abbrev N_l_right : List Str := ["_law_purse_here"]
theorem sc_l_right : FnScope N_l_right ["_law_purse_here"] (defScope s_l_right) := ⟨rfl, rfl, rfl, by decide +kernel, rfl, by decide +kernel, by decide +kernel⟩
theorem ok_right (F : FunX K "_law_right" "_law_right" s_l_right f fd) (c_l_two_right : CallD P w K mg base "_law_two_right" 9 S_right) (c_l_three_right : CallD P w K mg base "_law_three_right" 9 S_right) : FnG P w K mg base 10 f fd ["_law_purse_here"] (lift K S_right) := by
  refine fnX_of F sc_l_right (fun ds Φ Ψ ⟨h, _⟩ => by rw [h]; rfl) fun cdv A outer s H E b => ⟨_, (pss_one (ps_ret (pe_and (k_cd K c_l_two_right (by exact b.room) (by decide) b.pass (pa_cons (pv 0) pa_nil)) (pe_one (k_cd K c_l_three_right (by exact b.room) (by decide) b.pass (pa_cons (pv 0) pa_nil)))))), fun ds Φ Ψ ⟨h, q⟩ => ?_⟩
  subst h
  show wS _ _ _ [some (.dat _)]
  walk_at "dlt"
  refine ⟨rfl, ?_⟩
  walk_at "dlt"
  refine ⟨rfl, ?_⟩
  exact q
def S_law : DSp := fun ds Φ _ => ∃ ns : List Int, ds = [.scr ns] ∧ ns.length ≤ 63 ∧ (∀ n ∈ ns, BdOk n) ∧ Φ (.bl true)
abbrev s_law : Stmt := topS 98
abbrev N_law : List Str := ["_law_script", "_law_k"]
theorem sc_law : FnScope N_law ["_law_script"] (defScope s_law) := ⟨rfl, rfl, rfl, by decide +kernel, rfl, by decide +kernel, by decide +kernel⟩
theorem ok_law (F : FunX K "law" "law" s_law f fd) (B : Blt mg) (c_l_right : CallD P w K mg base "_law_right" 10 S_right) (c_l_purse : CallD P w K mg base "_law_purse" 1 S_begun) : FnG P w K mg base 11 f fd ["_law_script"] (lift K S_law) := by
  refine fnX_of F sc_law (fun ds Φ Ψ ⟨_, h, _⟩ => by rw [h]; rfl) fun cdv A outer s H E b => ⟨_, (pss_cons (ps_for b.own rfl (pi_range1 (by rfl) B.range (pa_cons (pe_callB (call_max2 rfl) (by rfl) B.max bb_max (pa_cons pe_int (pa_cons (pe_callB (call_min2 rfl) (by rfl) B.min bb_min (pa_cons (pe_callB (k_len K) (by rfl) B.len bb_len (pa_cons (pv 0) pa_nil)) (pa_cons pe_int pa_nil))) pa_nil))) pa_nil)) (pg_name (i := 1) sc_law.nd rfl (by first | exact .inl rfl | exact .inr rfl)) (pss_one (ps_if (pt_not (pt_val (k_cd K c_l_right (by exact b.room) (by decide) b.pass (pa_cons (k_cd K c_l_purse (by exact b.room) (by decide) b.pass (pa_cons (pv 0) (pa_cons (pv 1) pa_nil))) pa_nil)))) (pss_one (ps_ret pe_bl)) pss_nil)))
 (pss_one (ps_ret pe_bl))), fun ds Φ Ψ ⟨ns, h, hl, hb, q⟩ => ?_⟩
  subst h
  show wS _ _ _ [some (.dat _), none]
  walk_at "dlt"
  refine wS_forT (fun i : Nat => .int (0 + (i : Int))) (fun _ ρ' => ∃ x : Option Sl, ρ' = [some (.dat (.scr ns)), x]) (wI_range1 ?_)
  walk_at "dlt"
  generalize hn : (if (if (6 : Int) < (ns.length : Int) then (6 : Int) else (ns.length : Int)) > 2 then (if (6 : Int) < (ns.length : Int) then (6 : Int) else (ns.length : Int)) else 2) = n
  have n5 : 0 ≤ n ∧ n ≤ 6 := by subst hn; split <;> split <;> omega
  refine ⟨_, rfl, by omega, List.range n.toNat, by unfold rangeD; rw [Int.sub_zero], ⟨_, rfl⟩, fun i _ ρ' hi ⟨x, e⟩ => ?_, fun ρ' ⟨x, e⟩ => ?_⟩
  · subst e
    obtain ⟨hil, hx0⟩ := List.getElem?_eq_some_iff.mp hi
    rw [List.length_range] at hil
    rw [List.getElem_range] at hx0
    subst hx0
    walk_at "dlt"
    refine ⟨ns, _, rfl, by omega, by omega, hb, ?_⟩
    walk_at "dlt"
    refine ⟨rfl, ?_⟩
    walk_at "dlt"
    exact ⟨_, rfl⟩
  · subst e
    walk_at "dlt"
    exact q
end
section
variable {P : Program} {w : World} {K : PySem.W.Frag} {mg : Str → Option Value} {h : Heap} {C fa : Addr}
theorem all_k38 (X : K.In h) (G : h.Ns mainGlobals mg) (hfa : mg "law" = some (.ref fa))
    {f_ini : Addr} {od_ini an_ini : Option Addr} {sl_ini : Array (Option Value)} {oc_ini kV_ini dc_ini pm_ini cd_ini ct_ini : Value}
    {Td ed : Addr} {cT : Value} {oT oE : Option Addr} {mT mE : Nat} {sT sE : Array (Option Value)}
    {f_divisors : Addr} {od_divisors an_divisors : Option Addr} {sl_divisors : Array (Option Value)} {oc_divisors kV_divisors dc_divisors pm_divisors cd_divisors ct_divisors : Value}
    {p_divisors : Addr} {re_divisors : List Value}
    {f_parties : Addr} {od_parties an_parties : Option Addr} {sl_parties : Array (Option Value)} {oc_parties kV_parties dc_parties pm_parties cd_parties ct_parties : Value}
    {p_parties : Addr} {re_parties : List Value}
    {f_piles : Addr} {od_piles an_piles : Option Addr} {sl_piles : Array (Option Value)} {oc_piles kV_piles dc_piles pm_piles cd_piles ct_piles : Value}
    {p_piles : Addr} {re_piles : List Value}
    {f_names : Addr} {od_names an_names : Option Addr} {sl_names : Array (Option Value)} {oc_names kV_names dc_names pm_names cd_names ct_names : Value}
    {p_names : Addr} {re_names : List Value}
    {f_seats : Addr} {od_seats an_seats : Option Addr} {sl_seats : Array (Option Value)} {oc_seats kV_seats dc_seats pm_seats cd_seats ct_seats : Value}
    {p_seats : Addr} {re_seats : List Value}
    {f_lenO : Addr} {od_lenO an_lenO : Option Addr} {sl_lenO : Array (Option Value)} {oc_lenO kV_lenO dc_lenO pm_lenO cd_lenO ct_lenO : Value}
    {f_m_tables : Addr} {od_m_tables an_m_tables : Option Addr} {sl_m_tables : Array (Option Value)} {oc_m_tables kV_m_tables dc_m_tables pm_m_tables cd_m_tables ct_m_tables : Value}
    {f_m_changed : Addr} {od_m_changed an_m_changed : Option Addr} {sl_m_changed : Array (Option Value)} {oc_m_changed kV_m_changed dc_m_changed pm_m_changed cd_m_changed ct_m_changed : Value}
    {t_MOST_LETTERS : Tok}
    {t_MOST_SEATS : Tok}
    {t_MOST_DIVISOR : Tok}
    {t_MOST_COUNT : Tok}
    {t_MOST_PARTIES : Tok}
    {t_MOST_PILES : Tok}
    {t_MOST_DIGITS : Tok}
    {t_LETTERS : Tok}
    {t_LETTERS_AND_DIGITS : Tok}
    {f_c_is_integer : Addr} {od_c_is_integer an_c_is_integer : Option Addr} {sl_c_is_integer : Array (Option Value)} {oc_c_is_integer kV_c_is_integer dc_c_is_integer pm_c_is_integer cd_c_is_integer ct_c_is_integer : Value}
    {f_c_is_between : Addr} {od_c_is_between an_c_is_between : Option Addr} {sl_c_is_between : Array (Option Value)} {oc_c_is_between kV_c_is_between dc_c_is_between pm_c_is_between cd_c_is_between ct_c_is_between : Value}
    {f_c_is_tuple_of : Addr} {od_c_is_tuple_of an_c_is_tuple_of : Option Addr} {sl_c_is_tuple_of : Array (Option Value)} {oc_c_is_tuple_of kV_c_is_tuple_of dc_c_is_tuple_of pm_c_is_tuple_of cd_c_is_tuple_of ct_c_is_tuple_of : Value}
    {f_c_is_name : Addr} {od_c_is_name an_c_is_name : Option Addr} {sl_c_is_name : Array (Option Value)} {oc_c_is_name kV_c_is_name dc_c_is_name pm_c_is_name cd_c_is_name ct_c_is_name : Value}
    {f_c_is_divisors : Addr} {od_c_is_divisors an_c_is_divisors : Option Addr} {sl_c_is_divisors : Array (Option Value)} {oc_c_is_divisors kV_c_is_divisors dc_c_is_divisors pm_c_is_divisors cd_c_is_divisors ct_c_is_divisors : Value}
    {f_c_is_party : Addr} {od_c_is_party an_c_is_party : Option Addr} {sl_c_is_party : Array (Option Value)} {oc_c_is_party kV_c_is_party dc_c_is_party pm_c_is_party cd_c_is_party ct_c_is_party : Value}
    {f_c_is_group : Addr} {od_c_is_group an_c_is_group : Option Addr} {sl_c_is_group : Array (Option Value)} {oc_c_is_group kV_c_is_group dc_c_is_group pm_c_is_group cd_c_is_group ct_c_is_group : Value}
    {f_c_is_pile : Addr} {od_c_is_pile an_c_is_pile : Option Addr} {sl_c_is_pile : Array (Option Value)} {oc_c_is_pile kV_c_is_pile dc_c_is_pile pm_c_is_pile cd_c_is_pile ct_c_is_pile : Value}
    {f_c_names_of : Addr} {od_c_names_of an_c_names_of : Option Addr} {sl_c_names_of : Array (Option Value)} {oc_c_names_of kV_c_names_of dc_c_names_of pm_c_names_of cd_c_names_of ct_c_names_of : Value}
    {f_c_check_divisors : Addr} {od_c_check_divisors an_c_check_divisors : Option Addr} {sl_c_check_divisors : Array (Option Value)} {oc_c_check_divisors kV_c_check_divisors dc_c_check_divisors pm_c_check_divisors cd_c_check_divisors ct_c_check_divisors : Value}
    {f_c_check_parties : Addr} {od_c_check_parties an_c_check_parties : Option Addr} {sl_c_check_parties : Array (Option Value)} {oc_c_check_parties kV_c_check_parties dc_c_check_parties pm_c_check_parties cd_c_check_parties ct_c_check_parties : Value}
    {f_c_check_piles : Addr} {od_c_check_piles an_c_check_piles : Option Addr} {sl_c_check_piles : Array (Option Value)} {oc_c_check_piles kV_c_check_piles dc_c_check_piles pm_c_check_piles cd_c_check_piles ct_c_check_piles : Value}
    {f_c_text_of : Addr} {od_c_text_of an_c_text_of : Option Addr} {sl_c_text_of : Array (Option Value)} {oc_c_text_of kV_c_text_of dc_c_text_of pm_c_text_of cd_c_text_of ct_c_text_of : Value}
    {f_c_number_in : Addr} {od_c_number_in an_c_number_in : Option Addr} {sl_c_number_in : Array (Option Value)} {oc_c_number_in kV_c_number_in dc_c_number_in pm_c_number_in cd_c_number_in ct_c_number_in : Value}
    {f_c_parts_in : Addr} {od_c_parts_in an_c_parts_in : Option Addr} {sl_c_parts_in : Array (Option Value)} {oc_c_parts_in kV_c_parts_in dc_c_parts_in pm_c_parts_in cd_c_parts_in ct_c_parts_in : Value}
    {f_c_counts_of : Addr} {od_c_counts_of an_c_counts_of : Option Addr} {sl_c_counts_of : Array (Option Value)} {oc_c_counts_of kV_c_counts_of dc_c_counts_of pm_c_counts_of cd_c_counts_of ct_c_counts_of : Value}
    {f_c_scale_of : Addr} {od_c_scale_of an_c_scale_of : Option Addr} {sl_c_scale_of : Array (Option Value)} {oc_c_scale_of kV_c_scale_of dc_c_scale_of pm_c_scale_of cd_c_scale_of ct_c_scale_of : Value}
    {f_c_units_of : Addr} {od_c_units_of an_c_units_of : Option Addr} {sl_c_units_of : Array (Option Value)} {oc_c_units_of kV_c_units_of dc_c_units_of pm_c_units_of cd_c_units_of ct_c_units_of : Value}
    {f_c_claims_of : Addr} {od_c_claims_of an_c_claims_of : Option Addr} {sl_c_claims_of : Array (Option Value)} {oc_c_claims_of kV_c_claims_of dc_c_claims_of pm_c_claims_of cd_c_claims_of ct_c_claims_of : Value}
    {f_c_claim_at : Addr} {od_c_claim_at an_c_claim_at : Option Addr} {sl_c_claim_at : Array (Option Value)} {oc_c_claim_at kV_c_claim_at dc_c_claim_at pm_c_claim_at cd_c_claim_at ct_c_claim_at : Value}
    {f_c_seats_above : Addr} {od_c_seats_above an_c_seats_above : Option Addr} {sl_c_seats_above : Array (Option Value)} {oc_c_seats_above kV_c_seats_above dc_c_seats_above pm_c_seats_above cd_c_seats_above ct_c_seats_above : Value}
    {f_c_seats_from : Addr} {od_c_seats_from an_c_seats_from : Option Addr} {sl_c_seats_from : Array (Option Value)} {oc_c_seats_from kV_c_seats_from dc_c_seats_from pm_c_seats_from cd_c_seats_from ct_c_seats_from : Value}
    {f_c_tables_within : Addr} {od_c_tables_within an_c_tables_within : Option Addr} {sl_c_tables_within : Array (Option Value)} {oc_c_tables_within kV_c_tables_within dc_c_tables_within pm_c_tables_within cd_c_tables_within ct_c_tables_within : Value}
    {f_c_check_night : Addr} {od_c_check_night an_c_check_night : Option Addr} {sl_c_check_night : Array (Option Value)} {oc_c_check_night kV_c_check_night dc_c_check_night pm_c_check_night cd_c_check_night ct_c_check_night : Value}
    {f_c_pays_of : Addr} {od_c_pays_of an_c_pays_of : Option Addr} {sl_c_pays_of : Array (Option Value)} {oc_c_pays_of kV_c_pays_of dc_c_pays_of pm_c_pays_of cd_c_pays_of ct_c_pays_of : Value}
    {f_c_settled : Addr} {od_c_settled an_c_settled : Option Addr} {sl_c_settled : Array (Option Value)} {oc_c_settled kV_c_settled dc_c_settled pm_c_settled cd_c_settled ct_c_settled : Value}
    {f_c_levels_and_lacks : Addr} {od_c_levels_and_lacks an_c_levels_and_lacks : Option Addr} {sl_c_levels_and_lacks : Array (Option Value)} {oc_c_levels_and_lacks kV_c_levels_and_lacks dc_c_levels_and_lacks pm_c_levels_and_lacks cd_c_levels_and_lacks ct_c_levels_and_lacks : Value}
    {f_c_is_row : Addr} {od_c_is_row an_c_is_row : Option Addr} {sl_c_is_row : Array (Option Value)} {oc_c_is_row kV_c_is_row dc_c_is_row pm_c_is_row cd_c_is_row ct_c_is_row : Value}
    {f_c_is_table : Addr} {od_c_is_table an_c_is_table : Option Addr} {sl_c_is_table : Array (Option Value)} {oc_c_is_table kV_c_is_table dc_c_is_table pm_c_is_table cd_c_is_table ct_c_is_table : Value}
    {f_c_check_table : Addr} {od_c_check_table an_c_check_table : Option Addr} {sl_c_check_table : Array (Option Value)} {oc_c_check_table kV_c_check_table dc_c_check_table pm_c_check_table cd_c_check_table ct_c_check_table : Value}
    {f_c_level_and_lacks : Addr} {od_c_level_and_lacks an_c_level_and_lacks : Option Addr} {sl_c_level_and_lacks : Array (Option Value)} {oc_c_level_and_lacks kV_c_level_and_lacks dc_c_level_and_lacks pm_c_level_and_lacks cd_c_level_and_lacks ct_c_level_and_lacks : Value}
    {f_c_fraction : Addr} {od_c_fraction an_c_fraction : Option Addr} {sl_c_fraction : Array (Option Value)} {oc_c_fraction kV_c_fraction dc_c_fraction pm_c_fraction cd_c_fraction ct_c_fraction : Value}
    {f_c_least_price : Addr} {od_c_least_price an_c_least_price : Option Addr} {sl_c_least_price : Array (Option Value)} {oc_c_least_price kV_c_least_price dc_c_least_price pm_c_least_price cd_c_least_price ct_c_least_price : Value}
    {f_c_needs : Addr} {od_c_needs an_c_needs : Option Addr} {sl_c_needs : Array (Option Value)} {oc_c_needs kV_c_needs dc_c_needs pm_c_needs cd_c_needs ct_c_needs : Value}
    {f_c_distance : Addr} {od_c_distance an_c_distance : Option Addr} {sl_c_distance : Array (Option Value)} {oc_c_distance kV_c_distance dc_c_distance pm_c_distance cd_c_distance ct_c_distance : Value}
    {f_c_is_bloc : Addr} {od_c_is_bloc an_c_is_bloc : Option Addr} {sl_c_is_bloc : Array (Option Value)} {oc_c_is_bloc kV_c_is_bloc dc_c_is_bloc pm_c_is_bloc cd_c_is_bloc ct_c_is_bloc : Value}
    {f_c_check_bloc : Addr} {od_c_check_bloc an_c_check_bloc : Option Addr} {sl_c_check_bloc : Array (Option Value)} {oc_c_check_bloc kV_c_check_bloc dc_c_check_bloc pm_c_check_bloc cd_c_check_bloc ct_c_check_bloc : Value}
    {f_c_check_seats : Addr} {od_c_check_seats an_c_check_seats : Option Addr} {sl_c_check_seats : Array (Option Value)} {oc_c_check_seats kV_c_check_seats dc_c_check_seats pm_c_check_seats cd_c_check_seats ct_c_check_seats : Value}
    {f_c_seats_in : Addr} {od_c_seats_in an_c_seats_in : Option Addr} {sl_c_seats_in : Array (Option Value)} {oc_c_seats_in kV_c_seats_in dc_c_seats_in pm_c_seats_in cd_c_seats_in ct_c_seats_in : Value}
    {f_c_least_lacks : Addr} {od_c_least_lacks an_c_least_lacks : Option Addr} {sl_c_least_lacks : Array (Option Value)} {oc_c_least_lacks kV_c_least_lacks dc_c_least_lacks pm_c_least_lacks cd_c_least_lacks ct_c_least_lacks : Value}
    {f_c_group_of : Addr} {od_c_group_of an_c_group_of : Option Addr} {sl_c_group_of : Array (Option Value)} {oc_c_group_of kV_c_group_of dc_c_group_of pm_c_group_of cd_c_group_of ct_c_group_of : Value}
    {f_c_group_sums : Addr} {od_c_group_sums an_c_group_sums : Option Addr} {sl_c_group_sums : Array (Option Value)} {oc_c_group_sums kV_c_group_sums dc_c_group_sums pm_c_group_sums cd_c_group_sums ct_c_group_sums : Value}
    {f_c_group_rooms : Addr} {od_c_group_rooms an_c_group_rooms : Option Addr} {sl_c_group_rooms : Array (Option Value)} {oc_c_group_rooms kV_c_group_rooms dc_c_group_rooms pm_c_group_rooms cd_c_group_rooms ct_c_group_rooms : Value}
    {f_c_tight_rooms : Addr} {od_c_tight_rooms an_c_tight_rooms : Option Addr} {sl_c_tight_rooms : Array (Option Value)} {oc_c_tight_rooms kV_c_tight_rooms dc_c_tight_rooms pm_c_tight_rooms cd_c_tight_rooms ct_c_tight_rooms : Value}
    {f_c_is_enough : Addr} {od_c_is_enough an_c_is_enough : Option Addr} {sl_c_is_enough : Array (Option Value)} {oc_c_is_enough kV_c_is_enough dc_c_is_enough pm_c_is_enough cd_c_is_enough ct_c_is_enough : Value}
    {f_c_tables_in_reach : Addr} {od_c_tables_in_reach an_c_tables_in_reach : Option Addr} {sl_c_tables_in_reach : Array (Option Value)} {oc_c_tables_in_reach kV_c_tables_in_reach dc_c_tables_in_reach pm_c_tables_in_reach cd_c_tables_in_reach ct_c_tables_in_reach : Value}
    {f_c_possible_with : Addr} {od_c_possible_with an_c_possible_with : Option Addr} {sl_c_possible_with : Array (Option Value)} {oc_c_possible_with kV_c_possible_with dc_c_possible_with pm_c_possible_with cd_c_possible_with ct_c_possible_with : Value}
    {f_c_possible : Addr} {od_c_possible an_c_possible : Option Addr} {sl_c_possible : Array (Option Value)} {oc_c_possible kV_c_possible dc_c_possible pm_c_possible cd_c_possible ct_c_possible : Value}
    {f_c_margin : Addr} {od_c_margin an_c_margin : Option Addr} {sl_c_margin : Array (Option Value)} {oc_c_margin kV_c_margin dc_c_margin pm_c_margin cd_c_margin ct_c_margin : Value}
    {f_c_range_in : Addr} {od_c_range_in an_c_range_in : Option Addr} {sl_c_range_in : Array (Option Value)} {oc_c_range_in kV_c_range_in dc_c_range_in pm_c_range_in cd_c_range_in ct_c_range_in : Value}
    {f_c_seat_range : Addr} {od_c_seat_range an_c_seat_range : Option Addr} {sl_c_seat_range : Array (Option Value)} {oc_c_seat_range kV_c_seat_range dc_c_seat_range pm_c_seat_range cd_c_seat_range ct_c_seat_range : Value}
    {f_c_may_have : Addr} {od_c_may_have an_c_may_have : Option Addr} {sl_c_may_have : Array (Option Value)} {oc_c_may_have kV_c_may_have dc_c_may_have pm_c_may_have cd_c_may_have ct_c_may_have : Value}
    {f_c_is_index : Addr} {od_c_is_index an_c_is_index : Option Addr} {sl_c_is_index : Array (Option Value)} {oc_c_is_index kV_c_is_index dc_c_is_index pm_c_is_index cd_c_is_index ct_c_is_index : Value}
    {f_c_names_a_part : Addr} {od_c_names_a_part an_c_names_a_part : Option Addr} {sl_c_names_a_part : Array (Option Value)} {oc_c_names_a_part kV_c_names_a_part dc_c_names_a_part pm_c_names_a_part cd_c_names_a_part ct_c_names_a_part : Value}
    {f_c_with_item : Addr} {od_c_with_item an_c_with_item : Option Addr} {sl_c_with_item : Array (Option Value)} {oc_c_with_item kV_c_with_item dc_c_with_item pm_c_with_item cd_c_with_item ct_c_with_item : Value}
    {f_c_with_change : Addr} {od_c_with_change an_c_with_change : Option Addr} {sl_c_with_change : Array (Option Value)} {oc_c_with_change kV_c_with_change dc_c_with_change pm_c_with_change cd_c_with_change ct_c_with_change : Value}
    {f_c_law_purse : Addr} {od_c_law_purse an_c_law_purse : Option Addr} {sl_c_law_purse : Array (Option Value)} {oc_c_law_purse kV_c_law_purse dc_c_law_purse pm_c_law_purse cd_c_law_purse ct_c_law_purse : Value}
    {f_c_law_draw : Addr} {od_c_law_draw an_c_law_draw : Option Addr} {sl_c_law_draw : Array (Option Value)} {oc_c_law_draw kV_c_law_draw dc_c_law_draw pm_c_law_draw cd_c_law_draw ct_c_law_draw : Value}
    {f_c_law_two_right : Addr} {od_c_law_two_right an_c_law_two_right : Option Addr} {sl_c_law_two_right : Array (Option Value)} {oc_c_law_two_right kV_c_law_two_right dc_c_law_two_right pm_c_law_two_right cd_c_law_two_right ct_c_law_two_right : Value}
    {f_c_law_three_right : Addr} {od_c_law_three_right an_c_law_three_right : Option Addr} {sl_c_law_three_right : Array (Option Value)} {oc_c_law_three_right kV_c_law_three_right dc_c_law_three_right pm_c_law_three_right cd_c_law_three_right ct_c_law_three_right : Value}
    {f_c_law_right : Addr} {od_c_law_right an_c_law_right : Option Addr} {sl_c_law_right : Array (Option Value)} {oc_c_law_right kV_c_law_right dc_c_law_right pm_c_law_right cd_c_law_right ct_c_law_right : Value}
    {f_c_law : Addr} {od_c_law an_c_law : Option Addr} {sl_c_law : Array (Option Value)} {oc_c_law kV_c_law dc_c_law pm_c_law cd_c_law ct_c_law : Value}
    (aC : PySem.W.nsIn K mainGlobals "Night" = some (some (.ref C)))
    (pg : PySem.W.plainGet K C Str.empty = true)
    (hd : PySem.W.hasDictIn K C = true)
    (po : PySem.W.plainOver K C = true)
    (sa : PySem.W.findIn K (.ref C) "__setattr__" = some (some (.builtin "object.__setattr__")))
    (no_divisors : PySem.W.findIn K (.ref C) "_divisors" = some none)
    (no_parties : PySem.W.findIn K (.ref C) "_parties" = some none)
    (no_piles : PySem.W.findIn K (.ref C) "_piles" = some none)
    (no_text : PySem.W.findIn K (.ref C) "_text" = some none)
    (ini_m : PySem.W.makesIn K C = true)
    (ini_a : PySem.W.findIn K (.ref C) "__init__" = some (some (.ref f_ini)))
    (ini_i : PySem.W.isFn K (.ref f_ini) = true)
    (ini_k : PySem.W.keepIn K (.ref C) = true)
    (ini_l : K.lookup f_ini = some ⟨oc_ini, od_ini, .func (PySem.W.fnOf "__init__" "Night.__init__" (defArgs s_Night___init) (defBody s_Night___init) (defScope s_Night___init) (.ref Td) kV_ini dc_ini pm_ini an_ini cd_ini ct_ini), sl_ini⟩)
    (ini_c : PySem.W.codeIn K cd_ini "Night.__init__" = true)
    (ini_T : K.lookup Td = some ⟨cT, oT, .seq #[.ref ed] mT, sT⟩)
    (ini_E : K.lookup ed = some ⟨.type "tuple", oE, .seq #[] mE, sE⟩)
    (divisors_a : PySem.W.findIn K (.ref C) "divisors" = some (some (.ref p_divisors)))
    (divisors_g : PySem.W.specialIn K (.ref p_divisors) "__get__" = some (some (.builtin "property.__get__")))
    (divisors_t : PySem.W.takesIn K (.ref p_divisors) = some true)
    (divisors_r : PySem.W.recIn K p_divisors "property" = some (.ref f_divisors :: re_divisors))
    (divisors_l : K.lookup f_divisors = some ⟨oc_divisors, od_divisors, .func (PySem.W.fnOf "divisors" "Night.divisors" (defArgs s_Night_divisors) (defBody s_Night_divisors) (defScope s_Night_divisors) .none kV_divisors dc_divisors pm_divisors an_divisors cd_divisors ct_divisors), sl_divisors⟩)
    (divisors_c : PySem.W.codeIn K cd_divisors "Night.divisors" = true)
    (parties_a : PySem.W.findIn K (.ref C) "parties" = some (some (.ref p_parties)))
    (parties_g : PySem.W.specialIn K (.ref p_parties) "__get__" = some (some (.builtin "property.__get__")))
    (parties_t : PySem.W.takesIn K (.ref p_parties) = some true)
    (parties_r : PySem.W.recIn K p_parties "property" = some (.ref f_parties :: re_parties))
    (parties_l : K.lookup f_parties = some ⟨oc_parties, od_parties, .func (PySem.W.fnOf "parties" "Night.parties" (defArgs s_Night_parties) (defBody s_Night_parties) (defScope s_Night_parties) .none kV_parties dc_parties pm_parties an_parties cd_parties ct_parties), sl_parties⟩)
    (parties_c : PySem.W.codeIn K cd_parties "Night.parties" = true)
    (piles_a : PySem.W.findIn K (.ref C) "piles" = some (some (.ref p_piles)))
    (piles_g : PySem.W.specialIn K (.ref p_piles) "__get__" = some (some (.builtin "property.__get__")))
    (piles_t : PySem.W.takesIn K (.ref p_piles) = some true)
    (piles_r : PySem.W.recIn K p_piles "property" = some (.ref f_piles :: re_piles))
    (piles_l : K.lookup f_piles = some ⟨oc_piles, od_piles, .func (PySem.W.fnOf "piles" "Night.piles" (defArgs s_Night_piles) (defBody s_Night_piles) (defScope s_Night_piles) .none kV_piles dc_piles pm_piles an_piles cd_piles ct_piles), sl_piles⟩)
    (piles_c : PySem.W.codeIn K cd_piles "Night.piles" = true)
    (names_a : PySem.W.findIn K (.ref C) "names" = some (some (.ref p_names)))
    (names_g : PySem.W.specialIn K (.ref p_names) "__get__" = some (some (.builtin "property.__get__")))
    (names_t : PySem.W.takesIn K (.ref p_names) = some true)
    (names_r : PySem.W.recIn K p_names "property" = some (.ref f_names :: re_names))
    (names_l : K.lookup f_names = some ⟨oc_names, od_names, .func (PySem.W.fnOf "names" "Night.names" (defArgs s_Night_names) (defBody s_Night_names) (defScope s_Night_names) .none kV_names dc_names pm_names an_names cd_names ct_names), sl_names⟩)
    (names_c : PySem.W.codeIn K cd_names "Night.names" = true)
    (seats_a : PySem.W.findIn K (.ref C) "seats" = some (some (.ref p_seats)))
    (seats_g : PySem.W.specialIn K (.ref p_seats) "__get__" = some (some (.builtin "property.__get__")))
    (seats_t : PySem.W.takesIn K (.ref p_seats) = some true)
    (seats_r : PySem.W.recIn K p_seats "property" = some (.ref f_seats :: re_seats))
    (seats_l : K.lookup f_seats = some ⟨oc_seats, od_seats, .func (PySem.W.fnOf "seats" "Night.seats" (defArgs s_Night_seats) (defBody s_Night_seats) (defScope s_Night_seats) .none kV_seats dc_seats pm_seats an_seats cd_seats ct_seats), sl_seats⟩)
    (seats_c : PySem.W.codeIn K cd_seats "Night.seats" = true)
    (lenO_a : PySem.W.findIn K (.ref C) "__len__" = some (some (.ref f_lenO)))
    (lenO_i : PySem.W.isFn K (.ref f_lenO) = true)
    (lenO_l : K.lookup f_lenO = some ⟨oc_lenO, od_lenO, .func (PySem.W.fnOf "__len__" "Night.__len__" (defArgs s_Night___len) (defBody s_Night___len) (defScope s_Night___len) .none kV_lenO dc_lenO pm_lenO an_lenO cd_lenO ct_lenO), sl_lenO⟩)
    (lenO_c : PySem.W.codeIn K cd_lenO "Night.__len__" = true)
    (eq_dnNoneType : PySem.W.subIn K (.type "NoneType") (.ref C) = some false)
    (eq_dnbool : PySem.W.subIn K (.type "bool") (.ref C) = some false)
    (eq_dnint : PySem.W.subIn K (.type "int") (.ref C) = some false)
    (eq_dnstr : PySem.W.subIn K (.type "str") (.ref C) = some false)
    (eq_dntuple : PySem.W.subIn K (.type "tuple") (.ref C) = some false)
    (eq_dnlist : PySem.W.subIn K (.type "list") (.ref C) = some false)
    (eq_dndict : PySem.W.subIn K (.type "dict") (.ref C) = some false)
    (is_ha : PySem.W.findIn K (.ref C) "__class__" = some (some (.builtin "object.__class__")))
    (is_hn : PySem.W.specialIn K (.builtin "object.__class__") "__get__" = some (some (.builtin "getset_descriptor.__get__")))
    (is_ht : PySem.W.takesIn K (.builtin "object.__class__") = some true)
    (is_hm : PySem.W.mroIn K C (.type "object") = some true)
    (is_c : PySem.W.isClsIn K C = true)
    (is_t : PySem.W.typeIn K (.ref C) = some (.type "type"))
    (noBool : PySem.W.findIn K (.ref C) "__bool__" = some none)
    (m_tables_a : PySem.W.findIn K (.ref C) "tables" = some (some (.ref f_m_tables)))
    (m_tables_i : PySem.W.isFn K (.ref f_m_tables) = true)
    (m_tables_k : PySem.W.keepIn K (.ref f_m_tables) = true)
    (m_tables_l : K.lookup f_m_tables = some ⟨oc_m_tables, od_m_tables, .func (PySem.W.fnOf "tables" "Night.tables" (defArgs s_Night_tables) (defBody s_Night_tables) (defScope s_Night_tables) .none kV_m_tables dc_m_tables pm_m_tables an_m_tables cd_m_tables ct_m_tables), sl_m_tables⟩)
    (m_tables_c : PySem.W.codeIn K cd_m_tables "Night.tables" = true)
    (m_changed_a : PySem.W.findIn K (.ref C) "changed" = some (some (.ref f_m_changed)))
    (m_changed_i : PySem.W.isFn K (.ref f_m_changed) = true)
    (m_changed_k : PySem.W.keepIn K (.ref f_m_changed) = true)
    (m_changed_l : K.lookup f_m_changed = some ⟨oc_m_changed, od_m_changed, .func (PySem.W.fnOf "changed" "Night.changed" (defArgs s_Night_changed) (defBody s_Night_changed) (defScope s_Night_changed) .none kV_m_changed dc_m_changed pm_m_changed an_m_changed cd_m_changed ct_m_changed), sl_m_changed⟩)
    (m_changed_c : PySem.W.codeIn K cd_m_changed "Night.changed" = true)
    (b_len : PySem.W.nsIn K mainGlobals "len" = some none)
    (b_isinstance : PySem.W.nsIn K mainGlobals "isinstance" = some none)
    (b_int : PySem.W.nsIn K mainGlobals "int" = some none)
    (b_bool : PySem.W.nsIn K mainGlobals "bool" = some none)
    (b_str : PySem.W.nsIn K mainGlobals "str" = some none)
    (b_tuple : PySem.W.nsIn K mainGlobals "tuple" = some none)
    (b_list : PySem.W.nsIn K mainGlobals "list" = some none)
    (b_all : PySem.W.nsIn K mainGlobals "all" = some none)
    (b_sum : PySem.W.nsIn K mainGlobals "sum" = some none)
    (b_min : PySem.W.nsIn K mainGlobals "min" = some none)
    (b_max : PySem.W.nsIn K mainGlobals "max" = some none)
    (b_abs : PySem.W.nsIn K mainGlobals "abs" = some none)
    (b_range : PySem.W.nsIn K mainGlobals "range" = some none)
    (b_enumerate : PySem.W.nsIn K mainGlobals "enumerate" = some none)
    (b_zip : PySem.W.nsIn K mainGlobals "zip" = some none)
    (b_repr : PySem.W.nsIn K mainGlobals "repr" = some none)
    (b_divmod : PySem.W.nsIn K mainGlobals "divmod" = some none)
    (b_sorted : PySem.W.nsIn K mainGlobals "sorted" = some none)
    (b_set : PySem.W.nsIn K mainGlobals "set" = some none)
    (i_gcd : PySem.W.nsIn K mainGlobals "gcd" = some (some (.builtin "math.gcd")))
    (i_lcm : PySem.W.nsIn K mainGlobals "lcm" = some (some (.builtin "math.lcm")))
    (g_MOST_LETTERS : PySem.W.nsIn K mainGlobals "MOST_LETTERS" = some (some (.int 8 t_MOST_LETTERS)))
    (g_MOST_SEATS : PySem.W.nsIn K mainGlobals "MOST_SEATS" = some (some (.int 12 t_MOST_SEATS)))
    (g_MOST_DIVISOR : PySem.W.nsIn K mainGlobals "MOST_DIVISOR" = some (some (.int 100 t_MOST_DIVISOR)))
    (g_MOST_COUNT : PySem.W.nsIn K mainGlobals "MOST_COUNT" = some (some (.int 1000000 t_MOST_COUNT)))
    (g_MOST_PARTIES : PySem.W.nsIn K mainGlobals "MOST_PARTIES" = some (some (.int 6 t_MOST_PARTIES)))
    (g_MOST_PILES : PySem.W.nsIn K mainGlobals "MOST_PILES" = some (some (.int 6 t_MOST_PILES)))
    (g_MOST_DIGITS : PySem.W.nsIn K mainGlobals "MOST_DIGITS" = some (some (.int 7 t_MOST_DIGITS)))
    (g_LETTERS : PySem.W.nsIn K mainGlobals "LETTERS" = some (some (.str letters t_LETTERS)))
    (g_LETTERS_AND_DIGITS : PySem.W.nsIn K mainGlobals "LETTERS_AND_DIGITS" = some (some (.str lettersD t_LETTERS_AND_DIGITS)))
    (c_is_integer_a : PySem.W.nsIn K mainGlobals "is_integer" = some (some (.ref f_c_is_integer)))
    (c_is_integer_l : K.lookup f_c_is_integer = some ⟨oc_c_is_integer, od_c_is_integer, .func (PySem.W.fnOf "is_integer" "is_integer" (defArgs s_is_integer) (defBody s_is_integer) (defScope s_is_integer) .none kV_c_is_integer dc_c_is_integer pm_c_is_integer an_c_is_integer cd_c_is_integer ct_c_is_integer), sl_c_is_integer⟩)
    (c_is_integer_c : PySem.W.codeIn K cd_c_is_integer "is_integer" = true)
    (c_is_integer_k : PySem.W.keepIn K (.ref f_c_is_integer) = true)
    (c_is_between_a : PySem.W.nsIn K mainGlobals "is_between" = some (some (.ref f_c_is_between)))
    (c_is_between_l : K.lookup f_c_is_between = some ⟨oc_c_is_between, od_c_is_between, .func (PySem.W.fnOf "is_between" "is_between" (defArgs s_is_between) (defBody s_is_between) (defScope s_is_between) .none kV_c_is_between dc_c_is_between pm_c_is_between an_c_is_between cd_c_is_between ct_c_is_between), sl_c_is_between⟩)
    (c_is_between_c : PySem.W.codeIn K cd_c_is_between "is_between" = true)
    (c_is_between_k : PySem.W.keepIn K (.ref f_c_is_between) = true)
    (c_is_tuple_of_a : PySem.W.nsIn K mainGlobals "is_tuple_of" = some (some (.ref f_c_is_tuple_of)))
    (c_is_tuple_of_l : K.lookup f_c_is_tuple_of = some ⟨oc_c_is_tuple_of, od_c_is_tuple_of, .func (PySem.W.fnOf "is_tuple_of" "is_tuple_of" (defArgs s_is_tuple_of) (defBody s_is_tuple_of) (defScope s_is_tuple_of) .none kV_c_is_tuple_of dc_c_is_tuple_of pm_c_is_tuple_of an_c_is_tuple_of cd_c_is_tuple_of ct_c_is_tuple_of), sl_c_is_tuple_of⟩)
    (c_is_tuple_of_c : PySem.W.codeIn K cd_c_is_tuple_of "is_tuple_of" = true)
    (c_is_tuple_of_k : PySem.W.keepIn K (.ref f_c_is_tuple_of) = true)
    (c_is_name_a : PySem.W.nsIn K mainGlobals "is_name" = some (some (.ref f_c_is_name)))
    (c_is_name_l : K.lookup f_c_is_name = some ⟨oc_c_is_name, od_c_is_name, .func (PySem.W.fnOf "is_name" "is_name" (defArgs s_is_name) (defBody s_is_name) (defScope s_is_name) .none kV_c_is_name dc_c_is_name pm_c_is_name an_c_is_name cd_c_is_name ct_c_is_name), sl_c_is_name⟩)
    (c_is_name_c : PySem.W.codeIn K cd_c_is_name "is_name" = true)
    (c_is_name_k : PySem.W.keepIn K (.ref f_c_is_name) = true)
    (c_is_divisors_a : PySem.W.nsIn K mainGlobals "is_divisors" = some (some (.ref f_c_is_divisors)))
    (c_is_divisors_l : K.lookup f_c_is_divisors = some ⟨oc_c_is_divisors, od_c_is_divisors, .func (PySem.W.fnOf "is_divisors" "is_divisors" (defArgs s_is_divisors) (defBody s_is_divisors) (defScope s_is_divisors) .none kV_c_is_divisors dc_c_is_divisors pm_c_is_divisors an_c_is_divisors cd_c_is_divisors ct_c_is_divisors), sl_c_is_divisors⟩)
    (c_is_divisors_c : PySem.W.codeIn K cd_c_is_divisors "is_divisors" = true)
    (c_is_divisors_k : PySem.W.keepIn K (.ref f_c_is_divisors) = true)
    (c_is_party_a : PySem.W.nsIn K mainGlobals "is_party" = some (some (.ref f_c_is_party)))
    (c_is_party_l : K.lookup f_c_is_party = some ⟨oc_c_is_party, od_c_is_party, .func (PySem.W.fnOf "is_party" "is_party" (defArgs s_is_party) (defBody s_is_party) (defScope s_is_party) .none kV_c_is_party dc_c_is_party pm_c_is_party an_c_is_party cd_c_is_party ct_c_is_party), sl_c_is_party⟩)
    (c_is_party_c : PySem.W.codeIn K cd_c_is_party "is_party" = true)
    (c_is_party_k : PySem.W.keepIn K (.ref f_c_is_party) = true)
    (c_is_group_a : PySem.W.nsIn K mainGlobals "is_group" = some (some (.ref f_c_is_group)))
    (c_is_group_l : K.lookup f_c_is_group = some ⟨oc_c_is_group, od_c_is_group, .func (PySem.W.fnOf "is_group" "is_group" (defArgs s_is_group) (defBody s_is_group) (defScope s_is_group) .none kV_c_is_group dc_c_is_group pm_c_is_group an_c_is_group cd_c_is_group ct_c_is_group), sl_c_is_group⟩)
    (c_is_group_c : PySem.W.codeIn K cd_c_is_group "is_group" = true)
    (c_is_group_k : PySem.W.keepIn K (.ref f_c_is_group) = true)
    (c_is_pile_a : PySem.W.nsIn K mainGlobals "is_pile" = some (some (.ref f_c_is_pile)))
    (c_is_pile_l : K.lookup f_c_is_pile = some ⟨oc_c_is_pile, od_c_is_pile, .func (PySem.W.fnOf "is_pile" "is_pile" (defArgs s_is_pile) (defBody s_is_pile) (defScope s_is_pile) .none kV_c_is_pile dc_c_is_pile pm_c_is_pile an_c_is_pile cd_c_is_pile ct_c_is_pile), sl_c_is_pile⟩)
    (c_is_pile_c : PySem.W.codeIn K cd_c_is_pile "is_pile" = true)
    (c_is_pile_k : PySem.W.keepIn K (.ref f_c_is_pile) = true)
    (c_names_of_a : PySem.W.nsIn K mainGlobals "names_of" = some (some (.ref f_c_names_of)))
    (c_names_of_l : K.lookup f_c_names_of = some ⟨oc_c_names_of, od_c_names_of, .func (PySem.W.fnOf "names_of" "names_of" (defArgs s_names_of) (defBody s_names_of) (defScope s_names_of) .none kV_c_names_of dc_c_names_of pm_c_names_of an_c_names_of cd_c_names_of ct_c_names_of), sl_c_names_of⟩)
    (c_names_of_c : PySem.W.codeIn K cd_c_names_of "names_of" = true)
    (c_names_of_k : PySem.W.keepIn K (.ref f_c_names_of) = true)
    (c_check_divisors_a : PySem.W.nsIn K mainGlobals "check_divisors" = some (some (.ref f_c_check_divisors)))
    (c_check_divisors_l : K.lookup f_c_check_divisors = some ⟨oc_c_check_divisors, od_c_check_divisors, .func (PySem.W.fnOf "check_divisors" "check_divisors" (defArgs s_check_divisors) (defBody s_check_divisors) (defScope s_check_divisors) .none kV_c_check_divisors dc_c_check_divisors pm_c_check_divisors an_c_check_divisors cd_c_check_divisors ct_c_check_divisors), sl_c_check_divisors⟩)
    (c_check_divisors_c : PySem.W.codeIn K cd_c_check_divisors "check_divisors" = true)
    (c_check_divisors_k : PySem.W.keepIn K (.ref f_c_check_divisors) = true)
    (c_check_parties_a : PySem.W.nsIn K mainGlobals "check_parties" = some (some (.ref f_c_check_parties)))
    (c_check_parties_l : K.lookup f_c_check_parties = some ⟨oc_c_check_parties, od_c_check_parties, .func (PySem.W.fnOf "check_parties" "check_parties" (defArgs s_check_parties) (defBody s_check_parties) (defScope s_check_parties) .none kV_c_check_parties dc_c_check_parties pm_c_check_parties an_c_check_parties cd_c_check_parties ct_c_check_parties), sl_c_check_parties⟩)
    (c_check_parties_c : PySem.W.codeIn K cd_c_check_parties "check_parties" = true)
    (c_check_parties_k : PySem.W.keepIn K (.ref f_c_check_parties) = true)
    (c_check_piles_a : PySem.W.nsIn K mainGlobals "check_piles" = some (some (.ref f_c_check_piles)))
    (c_check_piles_l : K.lookup f_c_check_piles = some ⟨oc_c_check_piles, od_c_check_piles, .func (PySem.W.fnOf "check_piles" "check_piles" (defArgs s_check_piles) (defBody s_check_piles) (defScope s_check_piles) .none kV_c_check_piles dc_c_check_piles pm_c_check_piles an_c_check_piles cd_c_check_piles ct_c_check_piles), sl_c_check_piles⟩)
    (c_check_piles_c : PySem.W.codeIn K cd_c_check_piles "check_piles" = true)
    (c_check_piles_k : PySem.W.keepIn K (.ref f_c_check_piles) = true)
    (c_text_of_a : PySem.W.nsIn K mainGlobals "text_of" = some (some (.ref f_c_text_of)))
    (c_text_of_l : K.lookup f_c_text_of = some ⟨oc_c_text_of, od_c_text_of, .func (PySem.W.fnOf "text_of" "text_of" (defArgs s_text_of) (defBody s_text_of) (defScope s_text_of) .none kV_c_text_of dc_c_text_of pm_c_text_of an_c_text_of cd_c_text_of ct_c_text_of), sl_c_text_of⟩)
    (c_text_of_c : PySem.W.codeIn K cd_c_text_of "text_of" = true)
    (c_text_of_k : PySem.W.keepIn K (.ref f_c_text_of) = true)
    (c_number_in_a : PySem.W.nsIn K mainGlobals "number_in" = some (some (.ref f_c_number_in)))
    (c_number_in_l : K.lookup f_c_number_in = some ⟨oc_c_number_in, od_c_number_in, .func (PySem.W.fnOf "number_in" "number_in" (defArgs s_number_in) (defBody s_number_in) (defScope s_number_in) .none kV_c_number_in dc_c_number_in pm_c_number_in an_c_number_in cd_c_number_in ct_c_number_in), sl_c_number_in⟩)
    (c_number_in_c : PySem.W.codeIn K cd_c_number_in "number_in" = true)
    (c_number_in_k : PySem.W.keepIn K (.ref f_c_number_in) = true)
    (c_parts_in_a : PySem.W.nsIn K mainGlobals "parts_in" = some (some (.ref f_c_parts_in)))
    (c_parts_in_l : K.lookup f_c_parts_in = some ⟨oc_c_parts_in, od_c_parts_in, .func (PySem.W.fnOf "parts_in" "parts_in" (defArgs s_parts_in) (defBody s_parts_in) (defScope s_parts_in) .none kV_c_parts_in dc_c_parts_in pm_c_parts_in an_c_parts_in cd_c_parts_in ct_c_parts_in), sl_c_parts_in⟩)
    (c_parts_in_c : PySem.W.codeIn K cd_c_parts_in "parts_in" = true)
    (c_parts_in_k : PySem.W.keepIn K (.ref f_c_parts_in) = true)
    (c_counts_of_a : PySem.W.nsIn K mainGlobals "counts_of" = some (some (.ref f_c_counts_of)))
    (c_counts_of_l : K.lookup f_c_counts_of = some ⟨oc_c_counts_of, od_c_counts_of, .func (PySem.W.fnOf "counts_of" "counts_of" (defArgs s_counts_of) (defBody s_counts_of) (defScope s_counts_of) .none kV_c_counts_of dc_c_counts_of pm_c_counts_of an_c_counts_of cd_c_counts_of ct_c_counts_of), sl_c_counts_of⟩)
    (c_counts_of_c : PySem.W.codeIn K cd_c_counts_of "counts_of" = true)
    (c_counts_of_k : PySem.W.keepIn K (.ref f_c_counts_of) = true)
    (c_scale_of_a : PySem.W.nsIn K mainGlobals "scale_of" = some (some (.ref f_c_scale_of)))
    (c_scale_of_l : K.lookup f_c_scale_of = some ⟨oc_c_scale_of, od_c_scale_of, .func (PySem.W.fnOf "scale_of" "scale_of" (defArgs s_scale_of) (defBody s_scale_of) (defScope s_scale_of) .none kV_c_scale_of dc_c_scale_of pm_c_scale_of an_c_scale_of cd_c_scale_of ct_c_scale_of), sl_c_scale_of⟩)
    (c_scale_of_c : PySem.W.codeIn K cd_c_scale_of "scale_of" = true)
    (c_scale_of_k : PySem.W.keepIn K (.ref f_c_scale_of) = true)
    (c_units_of_a : PySem.W.nsIn K mainGlobals "units_of" = some (some (.ref f_c_units_of)))
    (c_units_of_l : K.lookup f_c_units_of = some ⟨oc_c_units_of, od_c_units_of, .func (PySem.W.fnOf "units_of" "units_of" (defArgs s_units_of) (defBody s_units_of) (defScope s_units_of) .none kV_c_units_of dc_c_units_of pm_c_units_of an_c_units_of cd_c_units_of ct_c_units_of), sl_c_units_of⟩)
    (c_units_of_c : PySem.W.codeIn K cd_c_units_of "units_of" = true)
    (c_units_of_k : PySem.W.keepIn K (.ref f_c_units_of) = true)
    (c_claims_of_a : PySem.W.nsIn K mainGlobals "claims_of" = some (some (.ref f_c_claims_of)))
    (c_claims_of_l : K.lookup f_c_claims_of = some ⟨oc_c_claims_of, od_c_claims_of, .func (PySem.W.fnOf "claims_of" "claims_of" (defArgs s_claims_of) (defBody s_claims_of) (defScope s_claims_of) .none kV_c_claims_of dc_c_claims_of pm_c_claims_of an_c_claims_of cd_c_claims_of ct_c_claims_of), sl_c_claims_of⟩)
    (c_claims_of_c : PySem.W.codeIn K cd_c_claims_of "claims_of" = true)
    (c_claims_of_k : PySem.W.keepIn K (.ref f_c_claims_of) = true)
    (c_claim_at_a : PySem.W.nsIn K mainGlobals "claim_at" = some (some (.ref f_c_claim_at)))
    (c_claim_at_l : K.lookup f_c_claim_at = some ⟨oc_c_claim_at, od_c_claim_at, .func (PySem.W.fnOf "claim_at" "claim_at" (defArgs s_claim_at) (defBody s_claim_at) (defScope s_claim_at) .none kV_c_claim_at dc_c_claim_at pm_c_claim_at an_c_claim_at cd_c_claim_at ct_c_claim_at), sl_c_claim_at⟩)
    (c_claim_at_c : PySem.W.codeIn K cd_c_claim_at "claim_at" = true)
    (c_claim_at_k : PySem.W.keepIn K (.ref f_c_claim_at) = true)
    (c_seats_above_a : PySem.W.nsIn K mainGlobals "seats_above" = some (some (.ref f_c_seats_above)))
    (c_seats_above_l : K.lookup f_c_seats_above = some ⟨oc_c_seats_above, od_c_seats_above, .func (PySem.W.fnOf "seats_above" "seats_above" (defArgs s_seats_above) (defBody s_seats_above) (defScope s_seats_above) .none kV_c_seats_above dc_c_seats_above pm_c_seats_above an_c_seats_above cd_c_seats_above ct_c_seats_above), sl_c_seats_above⟩)
    (c_seats_above_c : PySem.W.codeIn K cd_c_seats_above "seats_above" = true)
    (c_seats_above_k : PySem.W.keepIn K (.ref f_c_seats_above) = true)
    (c_seats_from_a : PySem.W.nsIn K mainGlobals "seats_from" = some (some (.ref f_c_seats_from)))
    (c_seats_from_l : K.lookup f_c_seats_from = some ⟨oc_c_seats_from, od_c_seats_from, .func (PySem.W.fnOf "seats_from" "seats_from" (defArgs s_seats_from) (defBody s_seats_from) (defScope s_seats_from) .none kV_c_seats_from dc_c_seats_from pm_c_seats_from an_c_seats_from cd_c_seats_from ct_c_seats_from), sl_c_seats_from⟩)
    (c_seats_from_c : PySem.W.codeIn K cd_c_seats_from "seats_from" = true)
    (c_seats_from_k : PySem.W.keepIn K (.ref f_c_seats_from) = true)
    (c_tables_within_a : PySem.W.nsIn K mainGlobals "tables_within" = some (some (.ref f_c_tables_within)))
    (c_tables_within_l : K.lookup f_c_tables_within = some ⟨oc_c_tables_within, od_c_tables_within, .func (PySem.W.fnOf "tables_within" "tables_within" (defArgs s_tables_within) (defBody s_tables_within) (defScope s_tables_within) .none kV_c_tables_within dc_c_tables_within pm_c_tables_within an_c_tables_within cd_c_tables_within ct_c_tables_within), sl_c_tables_within⟩)
    (c_tables_within_c : PySem.W.codeIn K cd_c_tables_within "tables_within" = true)
    (c_tables_within_k : PySem.W.keepIn K (.ref f_c_tables_within) = true)
    (c_check_night_a : PySem.W.nsIn K mainGlobals "check_night" = some (some (.ref f_c_check_night)))
    (c_check_night_l : K.lookup f_c_check_night = some ⟨oc_c_check_night, od_c_check_night, .func (PySem.W.fnOf "check_night" "check_night" (defArgs s_check_night) (defBody s_check_night) (defScope s_check_night) .none kV_c_check_night dc_c_check_night pm_c_check_night an_c_check_night cd_c_check_night ct_c_check_night), sl_c_check_night⟩)
    (c_check_night_c : PySem.W.codeIn K cd_c_check_night "check_night" = true)
    (c_check_night_k : PySem.W.keepIn K (.ref f_c_check_night) = true)
    (c_pays_of_a : PySem.W.nsIn K mainGlobals "pays_of" = some (some (.ref f_c_pays_of)))
    (c_pays_of_l : K.lookup f_c_pays_of = some ⟨oc_c_pays_of, od_c_pays_of, .func (PySem.W.fnOf "pays_of" "pays_of" (defArgs s_pays_of) (defBody s_pays_of) (defScope s_pays_of) .none kV_c_pays_of dc_c_pays_of pm_c_pays_of an_c_pays_of cd_c_pays_of ct_c_pays_of), sl_c_pays_of⟩)
    (c_pays_of_c : PySem.W.codeIn K cd_c_pays_of "pays_of" = true)
    (c_pays_of_k : PySem.W.keepIn K (.ref f_c_pays_of) = true)
    (c_settled_a : PySem.W.nsIn K mainGlobals "settled" = some (some (.ref f_c_settled)))
    (c_settled_l : K.lookup f_c_settled = some ⟨oc_c_settled, od_c_settled, .func (PySem.W.fnOf "settled" "settled" (defArgs s_settled) (defBody s_settled) (defScope s_settled) .none kV_c_settled dc_c_settled pm_c_settled an_c_settled cd_c_settled ct_c_settled), sl_c_settled⟩)
    (c_settled_c : PySem.W.codeIn K cd_c_settled "settled" = true)
    (c_settled_k : PySem.W.keepIn K (.ref f_c_settled) = true)
    (c_levels_and_lacks_a : PySem.W.nsIn K mainGlobals "levels_and_lacks" = some (some (.ref f_c_levels_and_lacks)))
    (c_levels_and_lacks_l : K.lookup f_c_levels_and_lacks = some ⟨oc_c_levels_and_lacks, od_c_levels_and_lacks, .func (PySem.W.fnOf "levels_and_lacks" "levels_and_lacks" (defArgs s_levels_and_lacks) (defBody s_levels_and_lacks) (defScope s_levels_and_lacks) .none kV_c_levels_and_lacks dc_c_levels_and_lacks pm_c_levels_and_lacks an_c_levels_and_lacks cd_c_levels_and_lacks ct_c_levels_and_lacks), sl_c_levels_and_lacks⟩)
    (c_levels_and_lacks_c : PySem.W.codeIn K cd_c_levels_and_lacks "levels_and_lacks" = true)
    (c_levels_and_lacks_k : PySem.W.keepIn K (.ref f_c_levels_and_lacks) = true)
    (c_is_row_a : PySem.W.nsIn K mainGlobals "is_row" = some (some (.ref f_c_is_row)))
    (c_is_row_l : K.lookup f_c_is_row = some ⟨oc_c_is_row, od_c_is_row, .func (PySem.W.fnOf "is_row" "is_row" (defArgs s_is_row) (defBody s_is_row) (defScope s_is_row) .none kV_c_is_row dc_c_is_row pm_c_is_row an_c_is_row cd_c_is_row ct_c_is_row), sl_c_is_row⟩)
    (c_is_row_c : PySem.W.codeIn K cd_c_is_row "is_row" = true)
    (c_is_row_k : PySem.W.keepIn K (.ref f_c_is_row) = true)
    (c_is_table_a : PySem.W.nsIn K mainGlobals "is_table" = some (some (.ref f_c_is_table)))
    (c_is_table_l : K.lookup f_c_is_table = some ⟨oc_c_is_table, od_c_is_table, .func (PySem.W.fnOf "is_table" "is_table" (defArgs s_is_table) (defBody s_is_table) (defScope s_is_table) .none kV_c_is_table dc_c_is_table pm_c_is_table an_c_is_table cd_c_is_table ct_c_is_table), sl_c_is_table⟩)
    (c_is_table_c : PySem.W.codeIn K cd_c_is_table "is_table" = true)
    (c_is_table_k : PySem.W.keepIn K (.ref f_c_is_table) = true)
    (c_check_table_a : PySem.W.nsIn K mainGlobals "check_table" = some (some (.ref f_c_check_table)))
    (c_check_table_l : K.lookup f_c_check_table = some ⟨oc_c_check_table, od_c_check_table, .func (PySem.W.fnOf "check_table" "check_table" (defArgs s_check_table) (defBody s_check_table) (defScope s_check_table) .none kV_c_check_table dc_c_check_table pm_c_check_table an_c_check_table cd_c_check_table ct_c_check_table), sl_c_check_table⟩)
    (c_check_table_c : PySem.W.codeIn K cd_c_check_table "check_table" = true)
    (c_check_table_k : PySem.W.keepIn K (.ref f_c_check_table) = true)
    (c_level_and_lacks_a : PySem.W.nsIn K mainGlobals "level_and_lacks" = some (some (.ref f_c_level_and_lacks)))
    (c_level_and_lacks_l : K.lookup f_c_level_and_lacks = some ⟨oc_c_level_and_lacks, od_c_level_and_lacks, .func (PySem.W.fnOf "level_and_lacks" "level_and_lacks" (defArgs s_level_and_lacks) (defBody s_level_and_lacks) (defScope s_level_and_lacks) .none kV_c_level_and_lacks dc_c_level_and_lacks pm_c_level_and_lacks an_c_level_and_lacks cd_c_level_and_lacks ct_c_level_and_lacks), sl_c_level_and_lacks⟩)
    (c_level_and_lacks_c : PySem.W.codeIn K cd_c_level_and_lacks "level_and_lacks" = true)
    (c_level_and_lacks_k : PySem.W.keepIn K (.ref f_c_level_and_lacks) = true)
    (c_fraction_a : PySem.W.nsIn K mainGlobals "fraction" = some (some (.ref f_c_fraction)))
    (c_fraction_l : K.lookup f_c_fraction = some ⟨oc_c_fraction, od_c_fraction, .func (PySem.W.fnOf "fraction" "fraction" (defArgs s_fraction) (defBody s_fraction) (defScope s_fraction) .none kV_c_fraction dc_c_fraction pm_c_fraction an_c_fraction cd_c_fraction ct_c_fraction), sl_c_fraction⟩)
    (c_fraction_c : PySem.W.codeIn K cd_c_fraction "fraction" = true)
    (c_fraction_k : PySem.W.keepIn K (.ref f_c_fraction) = true)
    (c_least_price_a : PySem.W.nsIn K mainGlobals "least_price" = some (some (.ref f_c_least_price)))
    (c_least_price_l : K.lookup f_c_least_price = some ⟨oc_c_least_price, od_c_least_price, .func (PySem.W.fnOf "least_price" "least_price" (defArgs s_least_price) (defBody s_least_price) (defScope s_least_price) .none kV_c_least_price dc_c_least_price pm_c_least_price an_c_least_price cd_c_least_price ct_c_least_price), sl_c_least_price⟩)
    (c_least_price_c : PySem.W.codeIn K cd_c_least_price "least_price" = true)
    (c_least_price_k : PySem.W.keepIn K (.ref f_c_least_price) = true)
    (c_needs_a : PySem.W.nsIn K mainGlobals "needs" = some (some (.ref f_c_needs)))
    (c_needs_l : K.lookup f_c_needs = some ⟨oc_c_needs, od_c_needs, .func (PySem.W.fnOf "needs" "needs" (defArgs s_needs) (defBody s_needs) (defScope s_needs) .none kV_c_needs dc_c_needs pm_c_needs an_c_needs cd_c_needs ct_c_needs), sl_c_needs⟩)
    (c_needs_c : PySem.W.codeIn K cd_c_needs "needs" = true)
    (c_needs_k : PySem.W.keepIn K (.ref f_c_needs) = true)
    (c_distance_a : PySem.W.nsIn K mainGlobals "distance" = some (some (.ref f_c_distance)))
    (c_distance_l : K.lookup f_c_distance = some ⟨oc_c_distance, od_c_distance, .func (PySem.W.fnOf "distance" "distance" (defArgs s_distance) (defBody s_distance) (defScope s_distance) .none kV_c_distance dc_c_distance pm_c_distance an_c_distance cd_c_distance ct_c_distance), sl_c_distance⟩)
    (c_distance_c : PySem.W.codeIn K cd_c_distance "distance" = true)
    (c_distance_k : PySem.W.keepIn K (.ref f_c_distance) = true)
    (c_is_bloc_a : PySem.W.nsIn K mainGlobals "is_bloc" = some (some (.ref f_c_is_bloc)))
    (c_is_bloc_l : K.lookup f_c_is_bloc = some ⟨oc_c_is_bloc, od_c_is_bloc, .func (PySem.W.fnOf "is_bloc" "is_bloc" (defArgs s_is_bloc) (defBody s_is_bloc) (defScope s_is_bloc) .none kV_c_is_bloc dc_c_is_bloc pm_c_is_bloc an_c_is_bloc cd_c_is_bloc ct_c_is_bloc), sl_c_is_bloc⟩)
    (c_is_bloc_c : PySem.W.codeIn K cd_c_is_bloc "is_bloc" = true)
    (c_is_bloc_k : PySem.W.keepIn K (.ref f_c_is_bloc) = true)
    (c_check_bloc_a : PySem.W.nsIn K mainGlobals "check_bloc" = some (some (.ref f_c_check_bloc)))
    (c_check_bloc_l : K.lookup f_c_check_bloc = some ⟨oc_c_check_bloc, od_c_check_bloc, .func (PySem.W.fnOf "check_bloc" "check_bloc" (defArgs s_check_bloc) (defBody s_check_bloc) (defScope s_check_bloc) .none kV_c_check_bloc dc_c_check_bloc pm_c_check_bloc an_c_check_bloc cd_c_check_bloc ct_c_check_bloc), sl_c_check_bloc⟩)
    (c_check_bloc_c : PySem.W.codeIn K cd_c_check_bloc "check_bloc" = true)
    (c_check_bloc_k : PySem.W.keepIn K (.ref f_c_check_bloc) = true)
    (c_check_seats_a : PySem.W.nsIn K mainGlobals "check_seats" = some (some (.ref f_c_check_seats)))
    (c_check_seats_l : K.lookup f_c_check_seats = some ⟨oc_c_check_seats, od_c_check_seats, .func (PySem.W.fnOf "check_seats" "check_seats" (defArgs s_check_seats) (defBody s_check_seats) (defScope s_check_seats) .none kV_c_check_seats dc_c_check_seats pm_c_check_seats an_c_check_seats cd_c_check_seats ct_c_check_seats), sl_c_check_seats⟩)
    (c_check_seats_c : PySem.W.codeIn K cd_c_check_seats "check_seats" = true)
    (c_check_seats_k : PySem.W.keepIn K (.ref f_c_check_seats) = true)
    (c_seats_in_a : PySem.W.nsIn K mainGlobals "seats_in" = some (some (.ref f_c_seats_in)))
    (c_seats_in_l : K.lookup f_c_seats_in = some ⟨oc_c_seats_in, od_c_seats_in, .func (PySem.W.fnOf "seats_in" "seats_in" (defArgs s_seats_in) (defBody s_seats_in) (defScope s_seats_in) .none kV_c_seats_in dc_c_seats_in pm_c_seats_in an_c_seats_in cd_c_seats_in ct_c_seats_in), sl_c_seats_in⟩)
    (c_seats_in_c : PySem.W.codeIn K cd_c_seats_in "seats_in" = true)
    (c_seats_in_k : PySem.W.keepIn K (.ref f_c_seats_in) = true)
    (c_least_lacks_a : PySem.W.nsIn K mainGlobals "least_lacks" = some (some (.ref f_c_least_lacks)))
    (c_least_lacks_l : K.lookup f_c_least_lacks = some ⟨oc_c_least_lacks, od_c_least_lacks, .func (PySem.W.fnOf "least_lacks" "least_lacks" (defArgs s_least_lacks) (defBody s_least_lacks) (defScope s_least_lacks) .none kV_c_least_lacks dc_c_least_lacks pm_c_least_lacks an_c_least_lacks cd_c_least_lacks ct_c_least_lacks), sl_c_least_lacks⟩)
    (c_least_lacks_c : PySem.W.codeIn K cd_c_least_lacks "least_lacks" = true)
    (c_least_lacks_k : PySem.W.keepIn K (.ref f_c_least_lacks) = true)
    (c_group_of_a : PySem.W.nsIn K mainGlobals "group_of" = some (some (.ref f_c_group_of)))
    (c_group_of_l : K.lookup f_c_group_of = some ⟨oc_c_group_of, od_c_group_of, .func (PySem.W.fnOf "group_of" "group_of" (defArgs s_group_of) (defBody s_group_of) (defScope s_group_of) .none kV_c_group_of dc_c_group_of pm_c_group_of an_c_group_of cd_c_group_of ct_c_group_of), sl_c_group_of⟩)
    (c_group_of_c : PySem.W.codeIn K cd_c_group_of "group_of" = true)
    (c_group_of_k : PySem.W.keepIn K (.ref f_c_group_of) = true)
    (c_group_sums_a : PySem.W.nsIn K mainGlobals "group_sums" = some (some (.ref f_c_group_sums)))
    (c_group_sums_l : K.lookup f_c_group_sums = some ⟨oc_c_group_sums, od_c_group_sums, .func (PySem.W.fnOf "group_sums" "group_sums" (defArgs s_group_sums) (defBody s_group_sums) (defScope s_group_sums) .none kV_c_group_sums dc_c_group_sums pm_c_group_sums an_c_group_sums cd_c_group_sums ct_c_group_sums), sl_c_group_sums⟩)
    (c_group_sums_c : PySem.W.codeIn K cd_c_group_sums "group_sums" = true)
    (c_group_sums_k : PySem.W.keepIn K (.ref f_c_group_sums) = true)
    (c_group_rooms_a : PySem.W.nsIn K mainGlobals "group_rooms" = some (some (.ref f_c_group_rooms)))
    (c_group_rooms_l : K.lookup f_c_group_rooms = some ⟨oc_c_group_rooms, od_c_group_rooms, .func (PySem.W.fnOf "group_rooms" "group_rooms" (defArgs s_group_rooms) (defBody s_group_rooms) (defScope s_group_rooms) .none kV_c_group_rooms dc_c_group_rooms pm_c_group_rooms an_c_group_rooms cd_c_group_rooms ct_c_group_rooms), sl_c_group_rooms⟩)
    (c_group_rooms_c : PySem.W.codeIn K cd_c_group_rooms "group_rooms" = true)
    (c_group_rooms_k : PySem.W.keepIn K (.ref f_c_group_rooms) = true)
    (c_tight_rooms_a : PySem.W.nsIn K mainGlobals "tight_rooms" = some (some (.ref f_c_tight_rooms)))
    (c_tight_rooms_l : K.lookup f_c_tight_rooms = some ⟨oc_c_tight_rooms, od_c_tight_rooms, .func (PySem.W.fnOf "tight_rooms" "tight_rooms" (defArgs s_tight_rooms) (defBody s_tight_rooms) (defScope s_tight_rooms) .none kV_c_tight_rooms dc_c_tight_rooms pm_c_tight_rooms an_c_tight_rooms cd_c_tight_rooms ct_c_tight_rooms), sl_c_tight_rooms⟩)
    (c_tight_rooms_c : PySem.W.codeIn K cd_c_tight_rooms "tight_rooms" = true)
    (c_tight_rooms_k : PySem.W.keepIn K (.ref f_c_tight_rooms) = true)
    (c_is_enough_a : PySem.W.nsIn K mainGlobals "is_enough" = some (some (.ref f_c_is_enough)))
    (c_is_enough_l : K.lookup f_c_is_enough = some ⟨oc_c_is_enough, od_c_is_enough, .func (PySem.W.fnOf "is_enough" "is_enough" (defArgs s_is_enough) (defBody s_is_enough) (defScope s_is_enough) .none kV_c_is_enough dc_c_is_enough pm_c_is_enough an_c_is_enough cd_c_is_enough ct_c_is_enough), sl_c_is_enough⟩)
    (c_is_enough_c : PySem.W.codeIn K cd_c_is_enough "is_enough" = true)
    (c_is_enough_k : PySem.W.keepIn K (.ref f_c_is_enough) = true)
    (c_tables_in_reach_a : PySem.W.nsIn K mainGlobals "tables_in_reach" = some (some (.ref f_c_tables_in_reach)))
    (c_tables_in_reach_l : K.lookup f_c_tables_in_reach = some ⟨oc_c_tables_in_reach, od_c_tables_in_reach, .func (PySem.W.fnOf "tables_in_reach" "tables_in_reach" (defArgs s_tables_in_reach) (defBody s_tables_in_reach) (defScope s_tables_in_reach) .none kV_c_tables_in_reach dc_c_tables_in_reach pm_c_tables_in_reach an_c_tables_in_reach cd_c_tables_in_reach ct_c_tables_in_reach), sl_c_tables_in_reach⟩)
    (c_tables_in_reach_c : PySem.W.codeIn K cd_c_tables_in_reach "tables_in_reach" = true)
    (c_tables_in_reach_k : PySem.W.keepIn K (.ref f_c_tables_in_reach) = true)
    (c_possible_with_a : PySem.W.nsIn K mainGlobals "possible_with" = some (some (.ref f_c_possible_with)))
    (c_possible_with_l : K.lookup f_c_possible_with = some ⟨oc_c_possible_with, od_c_possible_with, .func (PySem.W.fnOf "possible_with" "possible_with" (defArgs s_possible_with) (defBody s_possible_with) (defScope s_possible_with) .none kV_c_possible_with dc_c_possible_with pm_c_possible_with an_c_possible_with cd_c_possible_with ct_c_possible_with), sl_c_possible_with⟩)
    (c_possible_with_c : PySem.W.codeIn K cd_c_possible_with "possible_with" = true)
    (c_possible_with_k : PySem.W.keepIn K (.ref f_c_possible_with) = true)
    (c_possible_a : PySem.W.nsIn K mainGlobals "possible" = some (some (.ref f_c_possible)))
    (c_possible_l : K.lookup f_c_possible = some ⟨oc_c_possible, od_c_possible, .func (PySem.W.fnOf "possible" "possible" (defArgs s_possible) (defBody s_possible) (defScope s_possible) .none kV_c_possible dc_c_possible pm_c_possible an_c_possible cd_c_possible ct_c_possible), sl_c_possible⟩)
    (c_possible_c : PySem.W.codeIn K cd_c_possible "possible" = true)
    (c_possible_k : PySem.W.keepIn K (.ref f_c_possible) = true)
    (c_margin_a : PySem.W.nsIn K mainGlobals "margin" = some (some (.ref f_c_margin)))
    (c_margin_l : K.lookup f_c_margin = some ⟨oc_c_margin, od_c_margin, .func (PySem.W.fnOf "margin" "margin" (defArgs s_margin) (defBody s_margin) (defScope s_margin) .none kV_c_margin dc_c_margin pm_c_margin an_c_margin cd_c_margin ct_c_margin), sl_c_margin⟩)
    (c_margin_c : PySem.W.codeIn K cd_c_margin "margin" = true)
    (c_margin_k : PySem.W.keepIn K (.ref f_c_margin) = true)
    (c_range_in_a : PySem.W.nsIn K mainGlobals "range_in" = some (some (.ref f_c_range_in)))
    (c_range_in_l : K.lookup f_c_range_in = some ⟨oc_c_range_in, od_c_range_in, .func (PySem.W.fnOf "range_in" "range_in" (defArgs s_range_in) (defBody s_range_in) (defScope s_range_in) .none kV_c_range_in dc_c_range_in pm_c_range_in an_c_range_in cd_c_range_in ct_c_range_in), sl_c_range_in⟩)
    (c_range_in_c : PySem.W.codeIn K cd_c_range_in "range_in" = true)
    (c_range_in_k : PySem.W.keepIn K (.ref f_c_range_in) = true)
    (c_seat_range_a : PySem.W.nsIn K mainGlobals "seat_range" = some (some (.ref f_c_seat_range)))
    (c_seat_range_l : K.lookup f_c_seat_range = some ⟨oc_c_seat_range, od_c_seat_range, .func (PySem.W.fnOf "seat_range" "seat_range" (defArgs s_seat_range) (defBody s_seat_range) (defScope s_seat_range) .none kV_c_seat_range dc_c_seat_range pm_c_seat_range an_c_seat_range cd_c_seat_range ct_c_seat_range), sl_c_seat_range⟩)
    (c_seat_range_c : PySem.W.codeIn K cd_c_seat_range "seat_range" = true)
    (c_seat_range_k : PySem.W.keepIn K (.ref f_c_seat_range) = true)
    (c_may_have_a : PySem.W.nsIn K mainGlobals "may_have" = some (some (.ref f_c_may_have)))
    (c_may_have_l : K.lookup f_c_may_have = some ⟨oc_c_may_have, od_c_may_have, .func (PySem.W.fnOf "may_have" "may_have" (defArgs s_may_have) (defBody s_may_have) (defScope s_may_have) .none kV_c_may_have dc_c_may_have pm_c_may_have an_c_may_have cd_c_may_have ct_c_may_have), sl_c_may_have⟩)
    (c_may_have_c : PySem.W.codeIn K cd_c_may_have "may_have" = true)
    (c_may_have_k : PySem.W.keepIn K (.ref f_c_may_have) = true)
    (c_is_index_a : PySem.W.nsIn K mainGlobals "is_index" = some (some (.ref f_c_is_index)))
    (c_is_index_l : K.lookup f_c_is_index = some ⟨oc_c_is_index, od_c_is_index, .func (PySem.W.fnOf "is_index" "is_index" (defArgs s_is_index) (defBody s_is_index) (defScope s_is_index) .none kV_c_is_index dc_c_is_index pm_c_is_index an_c_is_index cd_c_is_index ct_c_is_index), sl_c_is_index⟩)
    (c_is_index_c : PySem.W.codeIn K cd_c_is_index "is_index" = true)
    (c_is_index_k : PySem.W.keepIn K (.ref f_c_is_index) = true)
    (c_names_a_part_a : PySem.W.nsIn K mainGlobals "names_a_part" = some (some (.ref f_c_names_a_part)))
    (c_names_a_part_l : K.lookup f_c_names_a_part = some ⟨oc_c_names_a_part, od_c_names_a_part, .func (PySem.W.fnOf "names_a_part" "names_a_part" (defArgs s_names_a_part) (defBody s_names_a_part) (defScope s_names_a_part) .none kV_c_names_a_part dc_c_names_a_part pm_c_names_a_part an_c_names_a_part cd_c_names_a_part ct_c_names_a_part), sl_c_names_a_part⟩)
    (c_names_a_part_c : PySem.W.codeIn K cd_c_names_a_part "names_a_part" = true)
    (c_names_a_part_k : PySem.W.keepIn K (.ref f_c_names_a_part) = true)
    (c_with_item_a : PySem.W.nsIn K mainGlobals "with_item" = some (some (.ref f_c_with_item)))
    (c_with_item_l : K.lookup f_c_with_item = some ⟨oc_c_with_item, od_c_with_item, .func (PySem.W.fnOf "with_item" "with_item" (defArgs s_with_item) (defBody s_with_item) (defScope s_with_item) .none kV_c_with_item dc_c_with_item pm_c_with_item an_c_with_item cd_c_with_item ct_c_with_item), sl_c_with_item⟩)
    (c_with_item_c : PySem.W.codeIn K cd_c_with_item "with_item" = true)
    (c_with_item_k : PySem.W.keepIn K (.ref f_c_with_item) = true)
    (c_with_change_a : PySem.W.nsIn K mainGlobals "with_change" = some (some (.ref f_c_with_change)))
    (c_with_change_l : K.lookup f_c_with_change = some ⟨oc_c_with_change, od_c_with_change, .func (PySem.W.fnOf "with_change" "with_change" (defArgs s_with_change) (defBody s_with_change) (defScope s_with_change) .none kV_c_with_change dc_c_with_change pm_c_with_change an_c_with_change cd_c_with_change ct_c_with_change), sl_c_with_change⟩)
    (c_with_change_c : PySem.W.codeIn K cd_c_with_change "with_change" = true)
    (c_with_change_k : PySem.W.keepIn K (.ref f_c_with_change) = true)
    (c_law_purse_a : PySem.W.nsIn K mainGlobals "_law_purse" = some (some (.ref f_c_law_purse)))
    (c_law_purse_l : K.lookup f_c_law_purse = some ⟨oc_c_law_purse, od_c_law_purse, .func (PySem.W.fnOf "_law_purse" "_law_purse" (defArgs s_l_purse) (defBody s_l_purse) (defScope s_l_purse) .none kV_c_law_purse dc_c_law_purse pm_c_law_purse an_c_law_purse cd_c_law_purse ct_c_law_purse), sl_c_law_purse⟩)
    (c_law_purse_c : PySem.W.codeIn K cd_c_law_purse "_law_purse" = true)
    (c_law_purse_k : PySem.W.keepIn K (.ref f_c_law_purse) = true)
    (c_law_draw_a : PySem.W.nsIn K mainGlobals "_law_draw" = some (some (.ref f_c_law_draw)))
    (c_law_draw_l : K.lookup f_c_law_draw = some ⟨oc_c_law_draw, od_c_law_draw, .func (PySem.W.fnOf "_law_draw" "_law_draw" (defArgs s_l_draw) (defBody s_l_draw) (defScope s_l_draw) .none kV_c_law_draw dc_c_law_draw pm_c_law_draw an_c_law_draw cd_c_law_draw ct_c_law_draw), sl_c_law_draw⟩)
    (c_law_draw_c : PySem.W.codeIn K cd_c_law_draw "_law_draw" = true)
    (c_law_draw_k : PySem.W.keepIn K (.ref f_c_law_draw) = true)
    (c_law_two_right_a : PySem.W.nsIn K mainGlobals "_law_two_right" = some (some (.ref f_c_law_two_right)))
    (c_law_two_right_l : K.lookup f_c_law_two_right = some ⟨oc_c_law_two_right, od_c_law_two_right, .func (PySem.W.fnOf "_law_two_right" "_law_two_right" (defArgs s_l_two_right) (defBody s_l_two_right) (defScope s_l_two_right) .none kV_c_law_two_right dc_c_law_two_right pm_c_law_two_right an_c_law_two_right cd_c_law_two_right ct_c_law_two_right), sl_c_law_two_right⟩)
    (c_law_two_right_c : PySem.W.codeIn K cd_c_law_two_right "_law_two_right" = true)
    (c_law_two_right_k : PySem.W.keepIn K (.ref f_c_law_two_right) = true)
    (c_law_three_right_a : PySem.W.nsIn K mainGlobals "_law_three_right" = some (some (.ref f_c_law_three_right)))
    (c_law_three_right_l : K.lookup f_c_law_three_right = some ⟨oc_c_law_three_right, od_c_law_three_right, .func (PySem.W.fnOf "_law_three_right" "_law_three_right" (defArgs s_l_three_right) (defBody s_l_three_right) (defScope s_l_three_right) .none kV_c_law_three_right dc_c_law_three_right pm_c_law_three_right an_c_law_three_right cd_c_law_three_right ct_c_law_three_right), sl_c_law_three_right⟩)
    (c_law_three_right_c : PySem.W.codeIn K cd_c_law_three_right "_law_three_right" = true)
    (c_law_three_right_k : PySem.W.keepIn K (.ref f_c_law_three_right) = true)
    (c_law_right_a : PySem.W.nsIn K mainGlobals "_law_right" = some (some (.ref f_c_law_right)))
    (c_law_right_l : K.lookup f_c_law_right = some ⟨oc_c_law_right, od_c_law_right, .func (PySem.W.fnOf "_law_right" "_law_right" (defArgs s_l_right) (defBody s_l_right) (defScope s_l_right) .none kV_c_law_right dc_c_law_right pm_c_law_right an_c_law_right cd_c_law_right ct_c_law_right), sl_c_law_right⟩)
    (c_law_right_c : PySem.W.codeIn K cd_c_law_right "_law_right" = true)
    (c_law_right_k : PySem.W.keepIn K (.ref f_c_law_right) = true)
    (c_law_a : PySem.W.nsIn K mainGlobals "law" = some (some (.ref f_c_law)))
    (c_law_l : K.lookup f_c_law = some ⟨oc_c_law, od_c_law, .func (PySem.W.fnOf "law" "law" (defArgs s_law) (defBody s_law) (defScope s_law) .none kV_c_law dc_c_law pm_c_law an_c_law cd_c_law ct_c_law), sl_c_law⟩)
    (c_law_c : PySem.W.codeIn K cd_c_law "law" = true)
    (c_law_k : PySem.W.keepIn K (.ref f_c_law) = true)
    : ∃ fd : FuncData, (∀ (s : Shared) (v : Value), BindsTo s fd ⟨[v], []⟩ [("_law_script", v)]) ∧ ∀ base : Heap, K.In base → base.Ns mainGlobals mg → FnG P w K mg base 11 fa fd ["_law_script"] (lift K S_law) := by
  have e := hfa.symm.trans (PySem.W.mg_of X G c_law_a)
  have e2 : f_c_law = fa := by cases e; rfl
  subst e2
  have B : Blt mg := ⟨PySem.W.mg_none_of X G b_len, PySem.W.mg_none_of X G b_isinstance, PySem.W.mg_none_of X G b_int, PySem.W.mg_none_of X G b_bool, PySem.W.mg_none_of X G b_str, PySem.W.mg_none_of X G b_tuple, PySem.W.mg_none_of X G b_list, PySem.W.mg_none_of X G b_all, PySem.W.mg_none_of X G b_sum, PySem.W.mg_none_of X G b_min, PySem.W.mg_none_of X G b_max, PySem.W.mg_none_of X G b_abs, PySem.W.mg_none_of X G b_range, PySem.W.mg_none_of X G b_enumerate, PySem.W.mg_none_of X G b_zip, PySem.W.mg_none_of X G b_repr, PySem.W.mg_none_of X G b_divmod⟩
  have n_sorted : mg "sorted" = none := PySem.W.mg_none_of X G b_sorted
  have n_set : mg "set" = none := PySem.W.mg_none_of X G b_set
  have c_gcd : mg "gcd" = some (.builtin "math.gcd") := PySem.W.mg_of X G i_gcd
  have c_lcm : mg "lcm" = some (.builtin "math.lcm") := PySem.W.mg_of X G i_lcm
  have c_MOST_LETTERS : GInt mg "MOST_LETTERS" 8 := ⟨t_MOST_LETTERS, PySem.W.mg_of X G g_MOST_LETTERS⟩
  have c_MOST_SEATS : GInt mg "MOST_SEATS" 12 := ⟨t_MOST_SEATS, PySem.W.mg_of X G g_MOST_SEATS⟩
  have c_MOST_DIVISOR : GInt mg "MOST_DIVISOR" 100 := ⟨t_MOST_DIVISOR, PySem.W.mg_of X G g_MOST_DIVISOR⟩
  have c_MOST_COUNT : GInt mg "MOST_COUNT" 1000000 := ⟨t_MOST_COUNT, PySem.W.mg_of X G g_MOST_COUNT⟩
  have c_MOST_PARTIES : GInt mg "MOST_PARTIES" 6 := ⟨t_MOST_PARTIES, PySem.W.mg_of X G g_MOST_PARTIES⟩
  have c_MOST_PILES : GInt mg "MOST_PILES" 6 := ⟨t_MOST_PILES, PySem.W.mg_of X G g_MOST_PILES⟩
  have c_MOST_DIGITS : GInt mg "MOST_DIGITS" 7 := ⟨t_MOST_DIGITS, PySem.W.mg_of X G g_MOST_DIGITS⟩
  have c_LETTERS : GStr mg "LETTERS" letters := ⟨t_LETTERS, PySem.W.mg_of X G g_LETTERS⟩
  have c_LETTERS_AND_DIGITS : GStr mg "LETTERS_AND_DIGITS" lettersD := ⟨t_LETTERS_AND_DIGITS, PySem.W.mg_of X G g_LETTERS_AND_DIGITS⟩
  have c_Night := PySem.W.mg_of X G aC
  have N : NightC K C := ⟨⟨pg, hd, po, sa⟩, no_divisors, no_parties, no_piles, no_text⟩
  have d_ini : DefAt K "__init__" "Night.__init__" s_Night___init f_ini (.ref Td) _ := ⟨_, _, _, _, _, _, _, _, _, rfl, ini_l, ini_c⟩
  have mk : Mk K C f_ini := ⟨ini_m, ini_a, ini_i, ini_k⟩
  have dfl : ∀ H, RepAll K H [V.ref ed] [D.tup []] := fun H => .cons (.tup (.inr ⟨_, #[], mE, ini_E, rfl, rfl, Nat.zero_le _, .nil⟩) .nil) .nil
  have eq_dn := kinds_all (p := fun T => PySem.W.subIn K (.type T) (.ref C) = some false) eq_dnNoneType eq_dnbool eq_dnint eq_dnstr eq_dntuple eq_dnlist eq_dndict
  have IC : IsC K C := ⟨⟨pg, hd, po, sa⟩, is_ha, is_hn, is_ht, is_hm, fun T hT => kit_no is_c is_t (eq_dn T hT)⟩
  have d_divisors : DefAt K "divisors" "Night.divisors" s_Night_divisors f_divisors .none _ := ⟨_, _, _, _, _, _, _, _, _, rfl, divisors_l, divisors_c⟩
  have q_divisors : PropOf K C "divisors" p_divisors f_divisors := ⟨divisors_a, divisors_g, divisors_t, _, divisors_r⟩
  have d_parties : DefAt K "parties" "Night.parties" s_Night_parties f_parties .none _ := ⟨_, _, _, _, _, _, _, _, _, rfl, parties_l, parties_c⟩
  have q_parties : PropOf K C "parties" p_parties f_parties := ⟨parties_a, parties_g, parties_t, _, parties_r⟩
  have d_piles : DefAt K "piles" "Night.piles" s_Night_piles f_piles .none _ := ⟨_, _, _, _, _, _, _, _, _, rfl, piles_l, piles_c⟩
  have q_piles : PropOf K C "piles" p_piles f_piles := ⟨piles_a, piles_g, piles_t, _, piles_r⟩
  have d_names : DefAt K "names" "Night.names" s_Night_names f_names .none _ := ⟨_, _, _, _, _, _, _, _, _, rfl, names_l, names_c⟩
  have q_names : PropOf K C "names" p_names f_names := ⟨names_a, names_g, names_t, _, names_r⟩
  have d_seats : DefAt K "seats" "Night.seats" s_Night_seats f_seats .none _ := ⟨_, _, _, _, _, _, _, _, _, rfl, seats_l, seats_c⟩
  have q_seats : PropOf K C "seats" p_seats f_seats := ⟨seats_a, seats_g, seats_t, _, seats_r⟩
  have d_lenO : DefAt K "__len__" "Night.__len__" s_Night___len f_lenO .none _ := ⟨_, _, _, _, _, _, _, _, _, rfl, lenO_l, lenO_c⟩
  have o_lenO : Own1 K C "__len__" f_lenO := ⟨lenO_a, lenO_i⟩
  have d_m_tables : DefAt K "tables" "Night.tables" s_Night_tables f_m_tables .none _ := ⟨_, _, _, _, _, _, _, _, _, rfl, m_tables_l, m_tables_c⟩
  have q_m_tables : Meth K C "tables" f_m_tables := ⟨m_tables_a, m_tables_i, m_tables_k⟩
  have d_m_changed : DefAt K "changed" "Night.changed" s_Night_changed f_m_changed .none _ := ⟨_, _, _, _, _, _, _, _, _, rfl, m_changed_l, m_changed_c⟩
  have q_m_changed : Meth K C "changed" f_m_changed := ⟨m_changed_a, m_changed_i, m_changed_k⟩
  have d_c_is_integer : DefAt K "is_integer" "is_integer" s_is_integer f_c_is_integer .none _ := ⟨_, _, _, _, _, _, _, _, _, rfl, c_is_integer_l, c_is_integer_c⟩
  have m_c_is_integer : ModAt K mg "is_integer" s_is_integer f_c_is_integer _ := ⟨d_c_is_integer, PySem.W.mg_of X G c_is_integer_a, c_is_integer_k⟩
  have d_c_is_between : DefAt K "is_between" "is_between" s_is_between f_c_is_between .none _ := ⟨_, _, _, _, _, _, _, _, _, rfl, c_is_between_l, c_is_between_c⟩
  have m_c_is_between : ModAt K mg "is_between" s_is_between f_c_is_between _ := ⟨d_c_is_between, PySem.W.mg_of X G c_is_between_a, c_is_between_k⟩
  have d_c_is_tuple_of : DefAt K "is_tuple_of" "is_tuple_of" s_is_tuple_of f_c_is_tuple_of .none _ := ⟨_, _, _, _, _, _, _, _, _, rfl, c_is_tuple_of_l, c_is_tuple_of_c⟩
  have m_c_is_tuple_of : ModAt K mg "is_tuple_of" s_is_tuple_of f_c_is_tuple_of _ := ⟨d_c_is_tuple_of, PySem.W.mg_of X G c_is_tuple_of_a, c_is_tuple_of_k⟩
  have d_c_is_name : DefAt K "is_name" "is_name" s_is_name f_c_is_name .none _ := ⟨_, _, _, _, _, _, _, _, _, rfl, c_is_name_l, c_is_name_c⟩
  have m_c_is_name : ModAt K mg "is_name" s_is_name f_c_is_name _ := ⟨d_c_is_name, PySem.W.mg_of X G c_is_name_a, c_is_name_k⟩
  have d_c_is_divisors : DefAt K "is_divisors" "is_divisors" s_is_divisors f_c_is_divisors .none _ := ⟨_, _, _, _, _, _, _, _, _, rfl, c_is_divisors_l, c_is_divisors_c⟩
  have m_c_is_divisors : ModAt K mg "is_divisors" s_is_divisors f_c_is_divisors _ := ⟨d_c_is_divisors, PySem.W.mg_of X G c_is_divisors_a, c_is_divisors_k⟩
  have d_c_is_party : DefAt K "is_party" "is_party" s_is_party f_c_is_party .none _ := ⟨_, _, _, _, _, _, _, _, _, rfl, c_is_party_l, c_is_party_c⟩
  have m_c_is_party : ModAt K mg "is_party" s_is_party f_c_is_party _ := ⟨d_c_is_party, PySem.W.mg_of X G c_is_party_a, c_is_party_k⟩
  have d_c_is_group : DefAt K "is_group" "is_group" s_is_group f_c_is_group .none _ := ⟨_, _, _, _, _, _, _, _, _, rfl, c_is_group_l, c_is_group_c⟩
  have m_c_is_group : ModAt K mg "is_group" s_is_group f_c_is_group _ := ⟨d_c_is_group, PySem.W.mg_of X G c_is_group_a, c_is_group_k⟩
  have d_c_is_pile : DefAt K "is_pile" "is_pile" s_is_pile f_c_is_pile .none _ := ⟨_, _, _, _, _, _, _, _, _, rfl, c_is_pile_l, c_is_pile_c⟩
  have m_c_is_pile : ModAt K mg "is_pile" s_is_pile f_c_is_pile _ := ⟨d_c_is_pile, PySem.W.mg_of X G c_is_pile_a, c_is_pile_k⟩
  have d_c_names_of : DefAt K "names_of" "names_of" s_names_of f_c_names_of .none _ := ⟨_, _, _, _, _, _, _, _, _, rfl, c_names_of_l, c_names_of_c⟩
  have m_c_names_of : ModAt K mg "names_of" s_names_of f_c_names_of _ := ⟨d_c_names_of, PySem.W.mg_of X G c_names_of_a, c_names_of_k⟩
  have d_c_check_divisors : DefAt K "check_divisors" "check_divisors" s_check_divisors f_c_check_divisors .none _ := ⟨_, _, _, _, _, _, _, _, _, rfl, c_check_divisors_l, c_check_divisors_c⟩
  have m_c_check_divisors : ModAt K mg "check_divisors" s_check_divisors f_c_check_divisors _ := ⟨d_c_check_divisors, PySem.W.mg_of X G c_check_divisors_a, c_check_divisors_k⟩
  have d_c_check_parties : DefAt K "check_parties" "check_parties" s_check_parties f_c_check_parties .none _ := ⟨_, _, _, _, _, _, _, _, _, rfl, c_check_parties_l, c_check_parties_c⟩
  have m_c_check_parties : ModAt K mg "check_parties" s_check_parties f_c_check_parties _ := ⟨d_c_check_parties, PySem.W.mg_of X G c_check_parties_a, c_check_parties_k⟩
  have d_c_check_piles : DefAt K "check_piles" "check_piles" s_check_piles f_c_check_piles .none _ := ⟨_, _, _, _, _, _, _, _, _, rfl, c_check_piles_l, c_check_piles_c⟩
  have m_c_check_piles : ModAt K mg "check_piles" s_check_piles f_c_check_piles _ := ⟨d_c_check_piles, PySem.W.mg_of X G c_check_piles_a, c_check_piles_k⟩
  have d_c_text_of : DefAt K "text_of" "text_of" s_text_of f_c_text_of .none _ := ⟨_, _, _, _, _, _, _, _, _, rfl, c_text_of_l, c_text_of_c⟩
  have m_c_text_of : ModAt K mg "text_of" s_text_of f_c_text_of _ := ⟨d_c_text_of, PySem.W.mg_of X G c_text_of_a, c_text_of_k⟩
  have d_c_number_in : DefAt K "number_in" "number_in" s_number_in f_c_number_in .none _ := ⟨_, _, _, _, _, _, _, _, _, rfl, c_number_in_l, c_number_in_c⟩
  have m_c_number_in : ModAt K mg "number_in" s_number_in f_c_number_in _ := ⟨d_c_number_in, PySem.W.mg_of X G c_number_in_a, c_number_in_k⟩
  have d_c_parts_in : DefAt K "parts_in" "parts_in" s_parts_in f_c_parts_in .none _ := ⟨_, _, _, _, _, _, _, _, _, rfl, c_parts_in_l, c_parts_in_c⟩
  have m_c_parts_in : ModAt K mg "parts_in" s_parts_in f_c_parts_in _ := ⟨d_c_parts_in, PySem.W.mg_of X G c_parts_in_a, c_parts_in_k⟩
  have d_c_counts_of : DefAt K "counts_of" "counts_of" s_counts_of f_c_counts_of .none _ := ⟨_, _, _, _, _, _, _, _, _, rfl, c_counts_of_l, c_counts_of_c⟩
  have m_c_counts_of : ModAt K mg "counts_of" s_counts_of f_c_counts_of _ := ⟨d_c_counts_of, PySem.W.mg_of X G c_counts_of_a, c_counts_of_k⟩
  have d_c_scale_of : DefAt K "scale_of" "scale_of" s_scale_of f_c_scale_of .none _ := ⟨_, _, _, _, _, _, _, _, _, rfl, c_scale_of_l, c_scale_of_c⟩
  have m_c_scale_of : ModAt K mg "scale_of" s_scale_of f_c_scale_of _ := ⟨d_c_scale_of, PySem.W.mg_of X G c_scale_of_a, c_scale_of_k⟩
  have d_c_units_of : DefAt K "units_of" "units_of" s_units_of f_c_units_of .none _ := ⟨_, _, _, _, _, _, _, _, _, rfl, c_units_of_l, c_units_of_c⟩
  have m_c_units_of : ModAt K mg "units_of" s_units_of f_c_units_of _ := ⟨d_c_units_of, PySem.W.mg_of X G c_units_of_a, c_units_of_k⟩
  have d_c_claims_of : DefAt K "claims_of" "claims_of" s_claims_of f_c_claims_of .none _ := ⟨_, _, _, _, _, _, _, _, _, rfl, c_claims_of_l, c_claims_of_c⟩
  have m_c_claims_of : ModAt K mg "claims_of" s_claims_of f_c_claims_of _ := ⟨d_c_claims_of, PySem.W.mg_of X G c_claims_of_a, c_claims_of_k⟩
  have d_c_claim_at : DefAt K "claim_at" "claim_at" s_claim_at f_c_claim_at .none _ := ⟨_, _, _, _, _, _, _, _, _, rfl, c_claim_at_l, c_claim_at_c⟩
  have m_c_claim_at : ModAt K mg "claim_at" s_claim_at f_c_claim_at _ := ⟨d_c_claim_at, PySem.W.mg_of X G c_claim_at_a, c_claim_at_k⟩
  have d_c_seats_above : DefAt K "seats_above" "seats_above" s_seats_above f_c_seats_above .none _ := ⟨_, _, _, _, _, _, _, _, _, rfl, c_seats_above_l, c_seats_above_c⟩
  have m_c_seats_above : ModAt K mg "seats_above" s_seats_above f_c_seats_above _ := ⟨d_c_seats_above, PySem.W.mg_of X G c_seats_above_a, c_seats_above_k⟩
  have d_c_seats_from : DefAt K "seats_from" "seats_from" s_seats_from f_c_seats_from .none _ := ⟨_, _, _, _, _, _, _, _, _, rfl, c_seats_from_l, c_seats_from_c⟩
  have m_c_seats_from : ModAt K mg "seats_from" s_seats_from f_c_seats_from _ := ⟨d_c_seats_from, PySem.W.mg_of X G c_seats_from_a, c_seats_from_k⟩
  have d_c_tables_within : DefAt K "tables_within" "tables_within" s_tables_within f_c_tables_within .none _ := ⟨_, _, _, _, _, _, _, _, _, rfl, c_tables_within_l, c_tables_within_c⟩
  have m_c_tables_within : ModAt K mg "tables_within" s_tables_within f_c_tables_within _ := ⟨d_c_tables_within, PySem.W.mg_of X G c_tables_within_a, c_tables_within_k⟩
  have d_c_check_night : DefAt K "check_night" "check_night" s_check_night f_c_check_night .none _ := ⟨_, _, _, _, _, _, _, _, _, rfl, c_check_night_l, c_check_night_c⟩
  have m_c_check_night : ModAt K mg "check_night" s_check_night f_c_check_night _ := ⟨d_c_check_night, PySem.W.mg_of X G c_check_night_a, c_check_night_k⟩
  have d_c_pays_of : DefAt K "pays_of" "pays_of" s_pays_of f_c_pays_of .none _ := ⟨_, _, _, _, _, _, _, _, _, rfl, c_pays_of_l, c_pays_of_c⟩
  have m_c_pays_of : ModAt K mg "pays_of" s_pays_of f_c_pays_of _ := ⟨d_c_pays_of, PySem.W.mg_of X G c_pays_of_a, c_pays_of_k⟩
  have d_c_settled : DefAt K "settled" "settled" s_settled f_c_settled .none _ := ⟨_, _, _, _, _, _, _, _, _, rfl, c_settled_l, c_settled_c⟩
  have m_c_settled : ModAt K mg "settled" s_settled f_c_settled _ := ⟨d_c_settled, PySem.W.mg_of X G c_settled_a, c_settled_k⟩
  have d_c_levels_and_lacks : DefAt K "levels_and_lacks" "levels_and_lacks" s_levels_and_lacks f_c_levels_and_lacks .none _ := ⟨_, _, _, _, _, _, _, _, _, rfl, c_levels_and_lacks_l, c_levels_and_lacks_c⟩
  have m_c_levels_and_lacks : ModAt K mg "levels_and_lacks" s_levels_and_lacks f_c_levels_and_lacks _ := ⟨d_c_levels_and_lacks, PySem.W.mg_of X G c_levels_and_lacks_a, c_levels_and_lacks_k⟩
  have d_c_is_row : DefAt K "is_row" "is_row" s_is_row f_c_is_row .none _ := ⟨_, _, _, _, _, _, _, _, _, rfl, c_is_row_l, c_is_row_c⟩
  have m_c_is_row : ModAt K mg "is_row" s_is_row f_c_is_row _ := ⟨d_c_is_row, PySem.W.mg_of X G c_is_row_a, c_is_row_k⟩
  have d_c_is_table : DefAt K "is_table" "is_table" s_is_table f_c_is_table .none _ := ⟨_, _, _, _, _, _, _, _, _, rfl, c_is_table_l, c_is_table_c⟩
  have m_c_is_table : ModAt K mg "is_table" s_is_table f_c_is_table _ := ⟨d_c_is_table, PySem.W.mg_of X G c_is_table_a, c_is_table_k⟩
  have d_c_check_table : DefAt K "check_table" "check_table" s_check_table f_c_check_table .none _ := ⟨_, _, _, _, _, _, _, _, _, rfl, c_check_table_l, c_check_table_c⟩
  have m_c_check_table : ModAt K mg "check_table" s_check_table f_c_check_table _ := ⟨d_c_check_table, PySem.W.mg_of X G c_check_table_a, c_check_table_k⟩
  have d_c_level_and_lacks : DefAt K "level_and_lacks" "level_and_lacks" s_level_and_lacks f_c_level_and_lacks .none _ := ⟨_, _, _, _, _, _, _, _, _, rfl, c_level_and_lacks_l, c_level_and_lacks_c⟩
  have m_c_level_and_lacks : ModAt K mg "level_and_lacks" s_level_and_lacks f_c_level_and_lacks _ := ⟨d_c_level_and_lacks, PySem.W.mg_of X G c_level_and_lacks_a, c_level_and_lacks_k⟩
  have d_c_fraction : DefAt K "fraction" "fraction" s_fraction f_c_fraction .none _ := ⟨_, _, _, _, _, _, _, _, _, rfl, c_fraction_l, c_fraction_c⟩
  have m_c_fraction : ModAt K mg "fraction" s_fraction f_c_fraction _ := ⟨d_c_fraction, PySem.W.mg_of X G c_fraction_a, c_fraction_k⟩
  have d_c_least_price : DefAt K "least_price" "least_price" s_least_price f_c_least_price .none _ := ⟨_, _, _, _, _, _, _, _, _, rfl, c_least_price_l, c_least_price_c⟩
  have m_c_least_price : ModAt K mg "least_price" s_least_price f_c_least_price _ := ⟨d_c_least_price, PySem.W.mg_of X G c_least_price_a, c_least_price_k⟩
  have d_c_needs : DefAt K "needs" "needs" s_needs f_c_needs .none _ := ⟨_, _, _, _, _, _, _, _, _, rfl, c_needs_l, c_needs_c⟩
  have m_c_needs : ModAt K mg "needs" s_needs f_c_needs _ := ⟨d_c_needs, PySem.W.mg_of X G c_needs_a, c_needs_k⟩
  have d_c_distance : DefAt K "distance" "distance" s_distance f_c_distance .none _ := ⟨_, _, _, _, _, _, _, _, _, rfl, c_distance_l, c_distance_c⟩
  have m_c_distance : ModAt K mg "distance" s_distance f_c_distance _ := ⟨d_c_distance, PySem.W.mg_of X G c_distance_a, c_distance_k⟩
  have d_c_is_bloc : DefAt K "is_bloc" "is_bloc" s_is_bloc f_c_is_bloc .none _ := ⟨_, _, _, _, _, _, _, _, _, rfl, c_is_bloc_l, c_is_bloc_c⟩
  have m_c_is_bloc : ModAt K mg "is_bloc" s_is_bloc f_c_is_bloc _ := ⟨d_c_is_bloc, PySem.W.mg_of X G c_is_bloc_a, c_is_bloc_k⟩
  have d_c_check_bloc : DefAt K "check_bloc" "check_bloc" s_check_bloc f_c_check_bloc .none _ := ⟨_, _, _, _, _, _, _, _, _, rfl, c_check_bloc_l, c_check_bloc_c⟩
  have m_c_check_bloc : ModAt K mg "check_bloc" s_check_bloc f_c_check_bloc _ := ⟨d_c_check_bloc, PySem.W.mg_of X G c_check_bloc_a, c_check_bloc_k⟩
  have d_c_check_seats : DefAt K "check_seats" "check_seats" s_check_seats f_c_check_seats .none _ := ⟨_, _, _, _, _, _, _, _, _, rfl, c_check_seats_l, c_check_seats_c⟩
  have m_c_check_seats : ModAt K mg "check_seats" s_check_seats f_c_check_seats _ := ⟨d_c_check_seats, PySem.W.mg_of X G c_check_seats_a, c_check_seats_k⟩
  have d_c_seats_in : DefAt K "seats_in" "seats_in" s_seats_in f_c_seats_in .none _ := ⟨_, _, _, _, _, _, _, _, _, rfl, c_seats_in_l, c_seats_in_c⟩
  have m_c_seats_in : ModAt K mg "seats_in" s_seats_in f_c_seats_in _ := ⟨d_c_seats_in, PySem.W.mg_of X G c_seats_in_a, c_seats_in_k⟩
  have d_c_least_lacks : DefAt K "least_lacks" "least_lacks" s_least_lacks f_c_least_lacks .none _ := ⟨_, _, _, _, _, _, _, _, _, rfl, c_least_lacks_l, c_least_lacks_c⟩
  have m_c_least_lacks : ModAt K mg "least_lacks" s_least_lacks f_c_least_lacks _ := ⟨d_c_least_lacks, PySem.W.mg_of X G c_least_lacks_a, c_least_lacks_k⟩
  have d_c_group_of : DefAt K "group_of" "group_of" s_group_of f_c_group_of .none _ := ⟨_, _, _, _, _, _, _, _, _, rfl, c_group_of_l, c_group_of_c⟩
  have m_c_group_of : ModAt K mg "group_of" s_group_of f_c_group_of _ := ⟨d_c_group_of, PySem.W.mg_of X G c_group_of_a, c_group_of_k⟩
  have d_c_group_sums : DefAt K "group_sums" "group_sums" s_group_sums f_c_group_sums .none _ := ⟨_, _, _, _, _, _, _, _, _, rfl, c_group_sums_l, c_group_sums_c⟩
  have m_c_group_sums : ModAt K mg "group_sums" s_group_sums f_c_group_sums _ := ⟨d_c_group_sums, PySem.W.mg_of X G c_group_sums_a, c_group_sums_k⟩
  have d_c_group_rooms : DefAt K "group_rooms" "group_rooms" s_group_rooms f_c_group_rooms .none _ := ⟨_, _, _, _, _, _, _, _, _, rfl, c_group_rooms_l, c_group_rooms_c⟩
  have m_c_group_rooms : ModAt K mg "group_rooms" s_group_rooms f_c_group_rooms _ := ⟨d_c_group_rooms, PySem.W.mg_of X G c_group_rooms_a, c_group_rooms_k⟩
  have d_c_tight_rooms : DefAt K "tight_rooms" "tight_rooms" s_tight_rooms f_c_tight_rooms .none _ := ⟨_, _, _, _, _, _, _, _, _, rfl, c_tight_rooms_l, c_tight_rooms_c⟩
  have m_c_tight_rooms : ModAt K mg "tight_rooms" s_tight_rooms f_c_tight_rooms _ := ⟨d_c_tight_rooms, PySem.W.mg_of X G c_tight_rooms_a, c_tight_rooms_k⟩
  have d_c_is_enough : DefAt K "is_enough" "is_enough" s_is_enough f_c_is_enough .none _ := ⟨_, _, _, _, _, _, _, _, _, rfl, c_is_enough_l, c_is_enough_c⟩
  have m_c_is_enough : ModAt K mg "is_enough" s_is_enough f_c_is_enough _ := ⟨d_c_is_enough, PySem.W.mg_of X G c_is_enough_a, c_is_enough_k⟩
  have d_c_tables_in_reach : DefAt K "tables_in_reach" "tables_in_reach" s_tables_in_reach f_c_tables_in_reach .none _ := ⟨_, _, _, _, _, _, _, _, _, rfl, c_tables_in_reach_l, c_tables_in_reach_c⟩
  have m_c_tables_in_reach : ModAt K mg "tables_in_reach" s_tables_in_reach f_c_tables_in_reach _ := ⟨d_c_tables_in_reach, PySem.W.mg_of X G c_tables_in_reach_a, c_tables_in_reach_k⟩
  have d_c_possible_with : DefAt K "possible_with" "possible_with" s_possible_with f_c_possible_with .none _ := ⟨_, _, _, _, _, _, _, _, _, rfl, c_possible_with_l, c_possible_with_c⟩
  have m_c_possible_with : ModAt K mg "possible_with" s_possible_with f_c_possible_with _ := ⟨d_c_possible_with, PySem.W.mg_of X G c_possible_with_a, c_possible_with_k⟩
  have d_c_possible : DefAt K "possible" "possible" s_possible f_c_possible .none _ := ⟨_, _, _, _, _, _, _, _, _, rfl, c_possible_l, c_possible_c⟩
  have m_c_possible : ModAt K mg "possible" s_possible f_c_possible _ := ⟨d_c_possible, PySem.W.mg_of X G c_possible_a, c_possible_k⟩
  have d_c_margin : DefAt K "margin" "margin" s_margin f_c_margin .none _ := ⟨_, _, _, _, _, _, _, _, _, rfl, c_margin_l, c_margin_c⟩
  have m_c_margin : ModAt K mg "margin" s_margin f_c_margin _ := ⟨d_c_margin, PySem.W.mg_of X G c_margin_a, c_margin_k⟩
  have d_c_range_in : DefAt K "range_in" "range_in" s_range_in f_c_range_in .none _ := ⟨_, _, _, _, _, _, _, _, _, rfl, c_range_in_l, c_range_in_c⟩
  have m_c_range_in : ModAt K mg "range_in" s_range_in f_c_range_in _ := ⟨d_c_range_in, PySem.W.mg_of X G c_range_in_a, c_range_in_k⟩
  have d_c_seat_range : DefAt K "seat_range" "seat_range" s_seat_range f_c_seat_range .none _ := ⟨_, _, _, _, _, _, _, _, _, rfl, c_seat_range_l, c_seat_range_c⟩
  have m_c_seat_range : ModAt K mg "seat_range" s_seat_range f_c_seat_range _ := ⟨d_c_seat_range, PySem.W.mg_of X G c_seat_range_a, c_seat_range_k⟩
  have d_c_may_have : DefAt K "may_have" "may_have" s_may_have f_c_may_have .none _ := ⟨_, _, _, _, _, _, _, _, _, rfl, c_may_have_l, c_may_have_c⟩
  have m_c_may_have : ModAt K mg "may_have" s_may_have f_c_may_have _ := ⟨d_c_may_have, PySem.W.mg_of X G c_may_have_a, c_may_have_k⟩
  have d_c_is_index : DefAt K "is_index" "is_index" s_is_index f_c_is_index .none _ := ⟨_, _, _, _, _, _, _, _, _, rfl, c_is_index_l, c_is_index_c⟩
  have m_c_is_index : ModAt K mg "is_index" s_is_index f_c_is_index _ := ⟨d_c_is_index, PySem.W.mg_of X G c_is_index_a, c_is_index_k⟩
  have d_c_names_a_part : DefAt K "names_a_part" "names_a_part" s_names_a_part f_c_names_a_part .none _ := ⟨_, _, _, _, _, _, _, _, _, rfl, c_names_a_part_l, c_names_a_part_c⟩
  have m_c_names_a_part : ModAt K mg "names_a_part" s_names_a_part f_c_names_a_part _ := ⟨d_c_names_a_part, PySem.W.mg_of X G c_names_a_part_a, c_names_a_part_k⟩
  have d_c_with_item : DefAt K "with_item" "with_item" s_with_item f_c_with_item .none _ := ⟨_, _, _, _, _, _, _, _, _, rfl, c_with_item_l, c_with_item_c⟩
  have m_c_with_item : ModAt K mg "with_item" s_with_item f_c_with_item _ := ⟨d_c_with_item, PySem.W.mg_of X G c_with_item_a, c_with_item_k⟩
  have d_c_with_change : DefAt K "with_change" "with_change" s_with_change f_c_with_change .none _ := ⟨_, _, _, _, _, _, _, _, _, rfl, c_with_change_l, c_with_change_c⟩
  have m_c_with_change : ModAt K mg "with_change" s_with_change f_c_with_change _ := ⟨d_c_with_change, PySem.W.mg_of X G c_with_change_a, c_with_change_k⟩
  have d_c_law_purse : DefAt K "_law_purse" "_law_purse" s_l_purse f_c_law_purse .none _ := ⟨_, _, _, _, _, _, _, _, _, rfl, c_law_purse_l, c_law_purse_c⟩
  have m_c_law_purse : ModAt K mg "_law_purse" s_l_purse f_c_law_purse _ := ⟨d_c_law_purse, PySem.W.mg_of X G c_law_purse_a, c_law_purse_k⟩
  have d_c_law_draw : DefAt K "_law_draw" "_law_draw" s_l_draw f_c_law_draw .none _ := ⟨_, _, _, _, _, _, _, _, _, rfl, c_law_draw_l, c_law_draw_c⟩
  have m_c_law_draw : ModAt K mg "_law_draw" s_l_draw f_c_law_draw _ := ⟨d_c_law_draw, PySem.W.mg_of X G c_law_draw_a, c_law_draw_k⟩
  have d_c_law_two_right : DefAt K "_law_two_right" "_law_two_right" s_l_two_right f_c_law_two_right .none _ := ⟨_, _, _, _, _, _, _, _, _, rfl, c_law_two_right_l, c_law_two_right_c⟩
  have m_c_law_two_right : ModAt K mg "_law_two_right" s_l_two_right f_c_law_two_right _ := ⟨d_c_law_two_right, PySem.W.mg_of X G c_law_two_right_a, c_law_two_right_k⟩
  have d_c_law_three_right : DefAt K "_law_three_right" "_law_three_right" s_l_three_right f_c_law_three_right .none _ := ⟨_, _, _, _, _, _, _, _, _, rfl, c_law_three_right_l, c_law_three_right_c⟩
  have m_c_law_three_right : ModAt K mg "_law_three_right" s_l_three_right f_c_law_three_right _ := ⟨d_c_law_three_right, PySem.W.mg_of X G c_law_three_right_a, c_law_three_right_k⟩
  have d_c_law_right : DefAt K "_law_right" "_law_right" s_l_right f_c_law_right .none _ := ⟨_, _, _, _, _, _, _, _, _, rfl, c_law_right_l, c_law_right_c⟩
  have m_c_law_right : ModAt K mg "_law_right" s_l_right f_c_law_right _ := ⟨d_c_law_right, PySem.W.mg_of X G c_law_right_a, c_law_right_k⟩
  have d_c_law : DefAt K "law" "law" s_law f_c_law .none _ := ⟨_, _, _, _, _, _, _, _, _, rfl, c_law_l, c_law_c⟩
  have m_c_law : ModAt K mg "law" s_law f_c_law _ := ⟨d_c_law, PySem.W.mg_of X G c_law_a, c_law_k⟩
  refine ⟨PySem.W.fnOf "law" "law" (defArgs s_law) (defBody s_law) (defScope s_law) .none kV_c_law dc_c_law pm_c_law an_c_law cd_c_law ct_c_law, fun s v => .of_eq rfl, fun base _ _ => ?_⟩
  have c_is_integer := m_c_is_integer.call (ok_is_integer (P := P) (w := w) (base := base) m_c_is_integer.d.fx B) (fun _ _ _ _ _ _ us hl => match us, hl with | [_], _ => rfl)
  have c_is_between := m_c_is_between.call (ok_is_between (P := P) (w := w) (base := base) m_c_is_between.d.fx c_is_integer) (fun _ _ _ _ _ _ us hl => match us, hl with | [_, _, _], _ => rfl)
  have c_is_tuple_of := m_c_is_tuple_of.call (ok_is_tuple_of (P := P) (w := w) (base := base) m_c_is_tuple_of.d.fx B) (fun _ _ _ _ _ _ us hl => match us, hl with | [_, _], _ => rfl)
  have c_is_name := m_c_is_name.call (ok_is_name (P := P) (w := w) (base := base) m_c_is_name.d.fx B c_MOST_LETTERS c_LETTERS c_LETTERS_AND_DIGITS) (fun _ _ _ _ _ _ us hl => match us, hl with | [_], _ => rfl)
  have c_is_divisors := m_c_is_divisors.call (ok_is_divisors (P := P) (w := w) (base := base) m_c_is_divisors.d.fx B c_MOST_SEATS c_MOST_DIVISOR c_is_between) (fun _ _ _ _ _ _ us hl => match us, hl with | [_], _ => rfl)
  have c_is_party := m_c_is_party.call (ok_is_party (P := P) (w := w) (base := base) m_c_is_party.d.fx c_MOST_COUNT c_is_tuple_of c_is_name c_is_between) (fun _ _ _ _ _ _ us hl => match us, hl with | [_], _ => rfl)
  have c_is_group := m_c_is_group.call (ok_is_group (P := P) (w := w) (base := base) m_c_is_group.d.fx B) (fun _ _ _ _ _ _ us hl => match us, hl with | [_, _], _ => rfl)
  have c_is_pile := m_c_is_pile.call (ok_is_pile (P := P) (w := w) (base := base) m_c_is_pile.d.fx c_MOST_COUNT c_is_tuple_of c_is_group c_is_between) (fun _ _ _ _ _ _ us hl => match us, hl with | [_, _], _ => rfl)
  have c_names_of := m_c_names_of.call (ok_names_of (P := P) (w := w) (base := base) m_c_names_of.d.fx B) (fun _ _ _ _ _ _ us hl => match us, hl with | [_], _ => rfl)
  have c_check_divisors := m_c_check_divisors.call (ok_check_divisors (P := P) (w := w) (base := base) m_c_check_divisors.d.fx c_is_divisors) (fun _ _ _ _ _ _ us hl => match us, hl with | [_], _ => rfl)
  have c_check_parties := m_c_check_parties.call (ok_check_parties (P := P) (w := w) (base := base) m_c_check_parties.d.fx B c_MOST_PARTIES c_is_party c_names_of) (fun _ _ _ _ _ _ us hl => match us, hl with | [_], _ => rfl)
  have c_check_piles := m_c_check_piles.call (ok_check_piles (P := P) (w := w) (base := base) m_c_check_piles.d.fx B c_MOST_PILES c_is_pile) (fun _ _ _ _ _ _ us hl => match us, hl with | [_, _], _ => rfl)
  have c_text_of := m_c_text_of.call (ok_text_of (P := P) (w := w) (base := base) m_c_text_of.d.fx B) (fun _ _ _ _ _ _ us hl => match us, hl with | [_, _, _], _ => rfl)
  have F_ini := ok_init (P := P) (w := w) (base := base) (C := C) d_ini.fx N c_check_divisors c_check_parties c_check_piles c_names_of c_text_of
  have c_mkNight3 : MakeB P w K mg base C 5 S_init 3 [] [0, 1, 2] [] := ⟨f_ini, _, _, mk, F_ini, d_ini.kbD (its := [.ref ed]) (dvs := []) (dv := []) ini_T rfl .nil (fun _ => .nil) fun _ _ _ _ _ _ us ws h1 h2 => match us, h1, ws, h2 with | [_, _, _, _], _, [], _ => ⟨_, rfl, rfl⟩⟩
  have c_p_divisors : PropB P w K mg base C "divisors" 1 (S_getD C) := ⟨p_divisors, f_divisors, _, _, N.cl, q_divisors, ok_getD d_divisors.fx N, d_divisors.binds (fun _ _ _ _ _ _ us hl => match us, hl with | [_], _ => rfl)⟩
  have c_p_parties : PropB P w K mg base C "parties" 1 (S_getP C) := ⟨p_parties, f_parties, _, _, N.cl, q_parties, ok_getP d_parties.fx N, d_parties.binds (fun _ _ _ _ _ _ us hl => match us, hl with | [_], _ => rfl)⟩
  have c_p_piles : PropB P w K mg base C "piles" 1 (S_getH C) := ⟨p_piles, f_piles, _, _, N.cl, q_piles, ok_getH d_piles.fx N, d_piles.binds (fun _ _ _ _ _ _ us hl => match us, hl with | [_], _ => rfl)⟩
  have c_p_names : PropB P w K mg base C "names" 2 (S_getN C) := ⟨p_names, f_names, _, _, N.cl, q_names, ok_getN d_names.fx N c_names_of, d_names.binds (fun _ _ _ _ _ _ us hl => match us, hl with | [_], _ => rfl)⟩
  have c_p_seats : PropB P w K mg base C "seats" 1 (S_getS C) := ⟨p_seats, f_seats, _, _, N.cl, q_seats, ok_getS d_seats.fx N B, d_seats.binds (fun _ _ _ _ _ _ us hl => match us, hl with | [_], _ => rfl)⟩
  have c_counts_of := m_c_counts_of.call (ok_counts_of (P := P) (w := w) (base := base) m_c_counts_of.d.fx B) (fun _ _ _ _ _ _ us hl => match us, hl with | [_], _ => rfl)
  have c_scale_of := m_c_scale_of.call (ok_scale_of (P := P) (w := w) (base := base) m_c_scale_of.d.fx B  c_lcm) (fun _ _ _ _ _ _ us hl => match us, hl with | [_], _ => rfl)
  have c_units_of := m_c_units_of.call (ok_units_of (P := P) (w := w) (base := base) m_c_units_of.d.fx B c_scale_of) (fun _ _ _ _ _ _ us hl => match us, hl with | [_], _ => rfl)
  have c_claims_of := m_c_claims_of.call (ok_claims_of (P := P) (w := w) (base := base) m_c_claims_of.d.fx B c_units_of) (fun _ _ _ _ _ _ us hl => match us, hl with | [_, _], _ => rfl)
  have c_claim_at := m_c_claim_at.call (ok_claim_at (P := P) (w := w) (base := base) m_c_claim_at.d.fx B  n_sorted) (fun _ _ _ _ _ _ us hl => match us, hl with | [_, _], _ => rfl)
  have c_seats_above := m_c_seats_above.call (ok_seats_above (P := P) (w := w) (base := base) m_c_seats_above.d.fx B) (fun _ _ _ _ _ _ us hl => match us, hl with | [_, _], _ => rfl)
  have c_seats_from := m_c_seats_from.call (ok_seats_from (P := P) (w := w) (base := base) m_c_seats_from.d.fx B) (fun _ _ _ _ _ _ us hl => match us, hl with | [_, _], _ => rfl)
  have c_tables_within := m_c_tables_within.call (ok_tables_within (P := P) (w := w) (base := base) m_c_tables_within.d.fx B) (fun _ _ _ _ _ _ us hl => match us, hl with | [_, _, _], _ => rfl)
  have c_check_night := m_c_check_night.call (ok_check_night (P := P) (w := w) (base := base) m_c_check_night.d.fx B IC c_Night) (fun _ _ _ _ _ _ us hl => match us, hl with | [_], _ => rfl)
  have c_pays_of := m_c_pays_of.call (ok_pays_of (P := P) (w := w) (base := base) m_c_pays_of.d.fx B) (fun _ _ _ _ _ _ us hl => match us, hl with | [_], _ => rfl)
  have c_settled := m_c_settled.call (ok_settled (P := P) (w := w) (base := base) m_c_settled.d.fx ) (fun _ _ _ _ _ _ us hl => match us, hl with | [_, _, _, _, _], _ => rfl)
  have c_levels_and_lacks := m_c_levels_and_lacks.call (ok_levels (P := P) (w := w) (base := base) m_c_levels_and_lacks.d.fx B  n_sorted  n_set c_scale_of c_pays_of c_units_of c_settled) (fun _ _ _ _ _ _ us hl => match us, hl with | [_, _, _], _ => rfl)
  have c_is_row := m_c_is_row.call (ok_is_row (P := P) (w := w) (base := base) m_c_is_row.d.fx B c_is_tuple_of c_is_integer) (fun _ _ _ _ _ _ us hl => match us, hl with | [_, _], _ => rfl)
  have c_is_table := m_c_is_table.call (ok_is_table (P := P) (w := w) (base := base) m_c_is_table.d.fx B c_is_row) (fun _ _ _ _ _ _ us hl => match us, hl with | [_, _, _], _ => rfl)
  have c_len : LenB P w K mg base C 1 (S_getL C) := ⟨⟨f_lenO, _, _, o_lenO, ok_getL d_lenO.fx N B, d_lenO.binds (fun _ _ _ _ _ _ us hl => match us, hl with | [_], _ => rfl)⟩, noBool⟩
  have c_check_table := m_c_check_table.call (ok_check_table (P := P) (w := w) (base := base) m_c_check_table.d.fx B c_is_table c_len c_p_seats) (fun _ _ _ _ _ _ us hl => match us, hl with | [_, _], _ => rfl)
  have c_level_and_lacks := m_c_level_and_lacks.call (ok_lal (P := P) (w := w) (base := base) m_c_level_and_lacks.d.fx B c_check_night c_check_table c_levels_and_lacks c_counts_of c_p_divisors c_p_parties) (fun _ _ _ _ _ _ us hl => match us, hl with | [_, _], _ => rfl)
  have c_fraction := m_c_fraction.call (ok_fractionW (P := P) (w := w) (base := base) m_c_fraction.d.fx B  c_gcd) (fun _ _ _ _ _ _ us hl => match us, hl with | [_, _], _ => rfl)
  have c_least_price := m_c_least_price.call (ok_least_price (P := P) (w := w) (base := base) m_c_least_price.d.fx B c_level_and_lacks c_scale_of c_fraction c_p_divisors) (fun _ _ _ _ _ _ us hl => match us, hl with | [_, _], _ => rfl)
  have c_needs := m_c_needs.call (ok_needs (P := P) (w := w) (base := base) m_c_needs.d.fx B c_level_and_lacks c_counts_of c_p_parties) (fun _ _ _ _ _ _ us hl => match us, hl with | [_, _], _ => rfl)
  have c_distance := m_c_distance.call (ok_distance (P := P) (w := w) (base := base) m_c_distance.d.fx B c_level_and_lacks) (fun _ _ _ _ _ _ us hl => match us, hl with | [_, _], _ => rfl)
  have c_is_bloc := m_c_is_bloc.call (ok_is_bloc (P := P) (w := w) (base := base) m_c_is_bloc.d.fx B) (fun _ _ _ _ _ _ us hl => match us, hl with | [_, _], _ => rfl)
  have c_check_bloc := m_c_check_bloc.call (ok_check_bloc (P := P) (w := w) (base := base) m_c_check_bloc.d.fx B c_is_bloc c_p_names) (fun _ _ _ _ _ _ us hl => match us, hl with | [_, _], _ => rfl)
  have c_check_seats := m_c_check_seats.call (ok_check_seats (P := P) (w := w) (base := base) m_c_check_seats.d.fx B c_is_between c_p_seats) (fun _ _ _ _ _ _ us hl => match us, hl with | [_, _], _ => rfl)
  have c_seats_in := m_c_seats_in.call (ok_seats_in (P := P) (w := w) (base := base) m_c_seats_in.d.fx B c_p_names) (fun _ _ _ _ _ _ us hl => match us, hl with | [_, _, _], _ => rfl)
  have c_least_lacks := m_c_least_lacks.call (ok_least_lacks (P := P) (w := w) (base := base) m_c_least_lacks.d.fx c_levels_and_lacks) (fun _ _ _ _ _ _ us hl => match us, hl with | [_, _, _], _ => rfl)
  have F_m_tables := ok_tablesN (P := P) (w := w) (base := base) (C := C) d_m_tables.fx N B
  have c_m_tables : MethB P w K mg base C "tables" 1 (S_tablesN C) 0 [] [] [] := ⟨f_m_tables, _, _, N.cl, q_m_tables, F_m_tables, d_m_tables.kb fun _ _ _ _ _ _ us ws h1 h2 => match us, h1, ws, h2 with | [_], _, [], _ => rfl⟩
  have c_margin := m_c_margin.call (ok_margin (P := P) (w := w) (base := base) m_c_margin.d.fx B c_check_night c_check_bloc c_check_seats c_seats_in c_least_lacks c_counts_of c_p_divisors c_p_parties c_m_tables) (fun _ _ _ _ _ _ us hl => match us, hl with | [_, _, _], _ => rfl)
  have c_group_of := m_c_group_of.call (ok_group_of (P := P) (w := w) (base := base) m_c_group_of.d.fx B) (fun _ _ _ _ _ _ us hl => match us, hl with | [_, _], _ => rfl)
  have c_group_sums := m_c_group_sums.call (ok_group_sums (P := P) (w := w) (base := base) m_c_group_sums.d.fx ) (fun _ _ _ _ _ _ us hl => match us, hl with | [_], _ => rfl)
  have c_group_rooms := m_c_group_rooms.call (ok_group_rooms (P := P) (w := w) (base := base) m_c_group_rooms.d.fx B c_group_of) (fun _ _ _ _ _ _ us hl => match us, hl with | [_, _], _ => rfl)
  have c_tight_rooms := m_c_tight_rooms.call (ok_tight (P := P) (w := w) (base := base) m_c_tight_rooms.d.fx B) (fun _ _ _ _ _ _ us hl => match us, hl with | [_], _ => rfl)
  have c_is_enough := m_c_is_enough.call (ok_is_enough (P := P) (w := w) (base := base) m_c_is_enough.d.fx B c_group_sums) (fun _ _ _ _ _ _ us hl => match us, hl with | [_, _], _ => rfl)
  have c_claims2 : CallD P w K mg base "claims_of" 3 S_claims2 := m_c_claims_of.call (ok_claims2 (P := P) (w := w) (base := base) m_c_claims_of.d.fx B c_units_of) (fun _ _ _ _ _ _ us hl => match us, hl with | [_, _], _ => rfl)
  have c_tables_in_reach := m_c_tables_in_reach.call (ok_reach (P := P) (w := w) (base := base) m_c_tables_in_reach.d.fx c_claim_at c_tables_within c_seats_above c_seats_from) (fun _ _ _ _ _ _ us hl => match us, hl with | [_, _, _], _ => rfl)
  have c_possible_with := m_c_possible_with.call (ok_possible_with (P := P) (w := w) (base := base) m_c_possible_with.d.fx B c_counts_of c_group_rooms c_claims2 c_tables_in_reach c_tight_rooms c_least_lacks c_is_enough c_p_divisors c_p_parties c_p_names) (fun _ _ _ _ _ _ us hl => match us, hl with | [_, _], _ => rfl)
  have c_possible := m_c_possible.call (ok_possible (P := P) (w := w) (base := base) m_c_possible.d.fx c_check_night c_possible_with c_p_piles) (fun _ _ _ _ _ _ us hl => match us, hl with | [_], _ => rfl)
  have c_range_in := m_c_range_in.call (ok_range_in (P := P) (w := w) (base := base) m_c_range_in.d.fx B c_seats_in) (fun _ _ _ _ _ _ us hl => match us, hl with | [_, _, _], _ => rfl)
  have c_seat_range := m_c_seat_range.call (ok_seat_range (P := P) (w := w) (base := base) m_c_seat_range.d.fx c_check_night c_check_bloc c_range_in c_possible) (fun _ _ _ _ _ _ us hl => match us, hl with | [_, _], _ => rfl)
  have c_may_have := m_c_may_have.call (ok_may (P := P) (w := w) (base := base) m_c_may_have.d.fx c_check_night c_check_bloc c_check_seats c_range_in c_possible) (fun _ _ _ _ _ _ us hl => match us, hl with | [_, _, _], _ => rfl)
  have c_is_index := m_c_is_index.call (ok_is_index (P := P) (w := w) (base := base) m_c_is_index.d.fx c_is_integer) (fun _ _ _ _ _ _ us hl => match us, hl with | [_, _], _ => rfl)
  have c_names_a_part := m_c_names_a_part.call (ok_names_a_part (P := P) (w := w) (base := base) m_c_names_a_part.d.fx B c_is_tuple_of c_is_index) (fun _ _ _ _ _ _ us hl => match us, hl with | [_, _], _ => rfl)
  have c_with_item := m_c_with_item.call (ok_with_item (P := P) (w := w) (base := base) m_c_with_item.d.fx ) (fun _ _ _ _ _ _ us hl => match us, hl with | [_, _, _], _ => rfl)
  have c_with_change := m_c_with_change.call (ok_with_change (P := P) (w := w) (base := base) m_c_with_change.d.fx c_with_item) (fun _ _ _ _ _ _ us hl => match us, hl with | [_, _], _ => rfl)
  have F_m_changed := ok_changed (P := P) (w := w) (base := base) (C := C) d_m_changed.fx N c_Night c_names_a_part c_with_change c_mkNight3
  have c_m_changed : MethB P w K mg base C "changed" 7 (S_changed C) 1 [] [0] [] := ⟨f_m_changed, _, _, N.cl, q_m_changed, F_m_changed, d_m_changed.kb fun _ _ _ _ _ _ us ws h1 h2 => match us, h1, ws, h2 with | [_, _], _, [], _ => rfl⟩
  have c_law_purse := m_c_law_purse.call (ok_begun (P := P) (w := w) (base := base) m_c_law_purse.d.fx B) (fun _ _ _ _ _ _ us hl => match us, hl with | [_, _], _ => rfl)
  have c_law_draw := m_c_law_draw.call (ok_cast (P := P) (w := w) (base := base) m_c_law_draw.d.fx B) (fun _ _ _ _ _ _ us hl => match us, hl with | [_, _], _ => rfl)
  have c_law_two_right := m_c_law_two_right.call (ok_two_right (P := P) (w := w) (base := base) m_c_law_two_right.d.fx B c_Night c_mkNight3 c_law_draw c_may_have c_margin c_seat_range) (fun _ _ _ _ _ _ us hl => match us, hl with | [_], _ => rfl)
  have c_law_three_right := m_c_law_three_right.call (ok_three_right (P := P) (w := w) (base := base) m_c_law_three_right.d.fx B c_Night c_mkNight3 c_law_draw c_possible c_least_price c_needs c_distance c_margin c_seat_range c_m_changed) (fun _ _ _ _ _ _ us hl => match us, hl with | [_], _ => rfl)
  have c_law_right := m_c_law_right.call (ok_right (P := P) (w := w) (base := base) m_c_law_right.d.fx c_law_two_right c_law_three_right) (fun _ _ _ _ _ _ us hl => match us, hl with | [_], _ => rfl)
  exact ok_law m_c_law.d.fx B c_law_right c_law_purse
end
end DL
open PySem PySem.W PyProof.Rows
set_option maxRecDepth 100000 in
set_option maxHeartbeats 0 in
theorem PySem.Challenge.cw_restballots_k38_known_nights_holds : PySem.Challenge.rw_restballots_k38_known_nights.Holds := by
  w_on; o_law; k_head; (case hw => w_witness2)
  k_fill
  refine DL.walk_G (l := PySem.Challenge.rw_restballots_k38_known_nights) (k := 11) (S := DL.S_law) "_law_script" rfl rfl ⟨⟨rfl, by decide, by decide⟩, rfl⟩ (fun w h Y => by first | exact PySem.W.kIn_of Y | exact PySem.W.km_in_of Y) ?F ?S
  case S => exact fun ns Φ Ψ h1 h2 h3 => ⟨ns, rfl, h1, h2, h3⟩
  case F =>
    intro w mg fa h KX G hmg
    refine' DL.all_k38 KX G hmg ?z_aC ?z_pg ?z_hd ?z_po ?z_sa ?z_no_divisors ?z_no_parties ?z_no_piles ?z_no_text ?z_ini_m ?z_ini_a ?z_ini_i ?z_ini_k ?z_ini_l ?z_ini_c ?z_ini_T ?z_ini_E ?z_divisors_a ?z_divisors_g ?z_divisors_t ?z_divisors_r ?z_divisors_l ?z_divisors_c ?z_parties_a ?z_parties_g ?z_parties_t ?z_parties_r ?z_parties_l ?z_parties_c ?z_piles_a ?z_piles_g ?z_piles_t ?z_piles_r ?z_piles_l ?z_piles_c ?z_names_a ?z_names_g ?z_names_t ?z_names_r ?z_names_l ?z_names_c ?z_seats_a ?z_seats_g ?z_seats_t ?z_seats_r ?z_seats_l ?z_seats_c ?z_lenO_a ?z_lenO_i ?z_lenO_l ?z_lenO_c ?z_eq_dnNoneType ?z_eq_dnbool ?z_eq_dnint ?z_eq_dnstr ?z_eq_dntuple ?z_eq_dnlist ?z_eq_dndict ?z_is_ha ?z_is_hn ?z_is_ht ?z_is_hm ?z_is_c ?z_is_t ?z_noBool ?z_m_tables_a ?z_m_tables_i ?z_m_tables_k ?z_m_tables_l ?z_m_tables_c ?z_m_changed_a ?z_m_changed_i ?z_m_changed_k ?z_m_changed_l ?z_m_changed_c ?z_b_len ?z_b_isinstance ?z_b_int ?z_b_bool ?z_b_str ?z_b_tuple ?z_b_list ?z_b_all ?z_b_sum ?z_b_min ?z_b_max ?z_b_abs ?z_b_range ?z_b_enumerate ?z_b_zip ?z_b_repr ?z_b_divmod ?z_b_sorted ?z_b_set ?z_i_gcd ?z_i_lcm ?z_g_MOST_LETTERS ?z_g_MOST_SEATS ?z_g_MOST_DIVISOR ?z_g_MOST_COUNT ?z_g_MOST_PARTIES ?z_g_MOST_PILES ?z_g_MOST_DIGITS ?z_g_LETTERS ?z_g_LETTERS_AND_DIGITS ?z_c_is_integer_a ?z_c_is_integer_l ?z_c_is_integer_c ?z_c_is_integer_k ?z_c_is_between_a ?z_c_is_between_l ?z_c_is_between_c ?z_c_is_between_k ?z_c_is_tuple_of_a ?z_c_is_tuple_of_l ?z_c_is_tuple_of_c ?z_c_is_tuple_of_k ?z_c_is_name_a ?z_c_is_name_l ?z_c_is_name_c ?z_c_is_name_k ?z_c_is_divisors_a ?z_c_is_divisors_l ?z_c_is_divisors_c ?z_c_is_divisors_k ?z_c_is_party_a ?z_c_is_party_l ?z_c_is_party_c ?z_c_is_party_k ?z_c_is_group_a ?z_c_is_group_l ?z_c_is_group_c ?z_c_is_group_k ?z_c_is_pile_a ?z_c_is_pile_l ?z_c_is_pile_c ?z_c_is_pile_k ?z_c_names_of_a ?z_c_names_of_l ?z_c_names_of_c ?z_c_names_of_k ?z_c_check_divisors_a ?z_c_check_divisors_l ?z_c_check_divisors_c ?z_c_check_divisors_k ?z_c_check_parties_a ?z_c_check_parties_l ?z_c_check_parties_c ?z_c_check_parties_k ?z_c_check_piles_a ?z_c_check_piles_l ?z_c_check_piles_c ?z_c_check_piles_k ?z_c_text_of_a ?z_c_text_of_l ?z_c_text_of_c ?z_c_text_of_k ?z_c_number_in_a ?z_c_number_in_l ?z_c_number_in_c ?z_c_number_in_k ?z_c_parts_in_a ?z_c_parts_in_l ?z_c_parts_in_c ?z_c_parts_in_k ?z_c_counts_of_a ?z_c_counts_of_l ?z_c_counts_of_c ?z_c_counts_of_k ?z_c_scale_of_a ?z_c_scale_of_l ?z_c_scale_of_c ?z_c_scale_of_k ?z_c_units_of_a ?z_c_units_of_l ?z_c_units_of_c ?z_c_units_of_k ?z_c_claims_of_a ?z_c_claims_of_l ?z_c_claims_of_c ?z_c_claims_of_k ?z_c_claim_at_a ?z_c_claim_at_l ?z_c_claim_at_c ?z_c_claim_at_k ?z_c_seats_above_a ?z_c_seats_above_l ?z_c_seats_above_c ?z_c_seats_above_k ?z_c_seats_from_a ?z_c_seats_from_l ?z_c_seats_from_c ?z_c_seats_from_k ?z_c_tables_within_a ?z_c_tables_within_l ?z_c_tables_within_c ?z_c_tables_within_k ?z_c_check_night_a ?z_c_check_night_l ?z_c_check_night_c ?z_c_check_night_k ?z_c_pays_of_a ?z_c_pays_of_l ?z_c_pays_of_c ?z_c_pays_of_k ?z_c_settled_a ?z_c_settled_l ?z_c_settled_c ?z_c_settled_k ?z_c_levels_and_lacks_a ?z_c_levels_and_lacks_l ?z_c_levels_and_lacks_c ?z_c_levels_and_lacks_k ?z_c_is_row_a ?z_c_is_row_l ?z_c_is_row_c ?z_c_is_row_k ?z_c_is_table_a ?z_c_is_table_l ?z_c_is_table_c ?z_c_is_table_k ?z_c_check_table_a ?z_c_check_table_l ?z_c_check_table_c ?z_c_check_table_k ?z_c_level_and_lacks_a ?z_c_level_and_lacks_l ?z_c_level_and_lacks_c ?z_c_level_and_lacks_k ?z_c_fraction_a ?z_c_fraction_l ?z_c_fraction_c ?z_c_fraction_k ?z_c_least_price_a ?z_c_least_price_l ?z_c_least_price_c ?z_c_least_price_k ?z_c_needs_a ?z_c_needs_l ?z_c_needs_c ?z_c_needs_k ?z_c_distance_a ?z_c_distance_l ?z_c_distance_c ?z_c_distance_k ?z_c_is_bloc_a ?z_c_is_bloc_l ?z_c_is_bloc_c ?z_c_is_bloc_k ?z_c_check_bloc_a ?z_c_check_bloc_l ?z_c_check_bloc_c ?z_c_check_bloc_k ?z_c_check_seats_a ?z_c_check_seats_l ?z_c_check_seats_c ?z_c_check_seats_k ?z_c_seats_in_a ?z_c_seats_in_l ?z_c_seats_in_c ?z_c_seats_in_k ?z_c_least_lacks_a ?z_c_least_lacks_l ?z_c_least_lacks_c ?z_c_least_lacks_k ?z_c_group_of_a ?z_c_group_of_l ?z_c_group_of_c ?z_c_group_of_k ?z_c_group_sums_a ?z_c_group_sums_l ?z_c_group_sums_c ?z_c_group_sums_k ?z_c_group_rooms_a ?z_c_group_rooms_l ?z_c_group_rooms_c ?z_c_group_rooms_k ?z_c_tight_rooms_a ?z_c_tight_rooms_l ?z_c_tight_rooms_c ?z_c_tight_rooms_k ?z_c_is_enough_a ?z_c_is_enough_l ?z_c_is_enough_c ?z_c_is_enough_k ?z_c_tables_in_reach_a ?z_c_tables_in_reach_l ?z_c_tables_in_reach_c ?z_c_tables_in_reach_k ?z_c_possible_with_a ?z_c_possible_with_l ?z_c_possible_with_c ?z_c_possible_with_k ?z_c_possible_a ?z_c_possible_l ?z_c_possible_c ?z_c_possible_k ?z_c_margin_a ?z_c_margin_l ?z_c_margin_c ?z_c_margin_k ?z_c_range_in_a ?z_c_range_in_l ?z_c_range_in_c ?z_c_range_in_k ?z_c_seat_range_a ?z_c_seat_range_l ?z_c_seat_range_c ?z_c_seat_range_k ?z_c_may_have_a ?z_c_may_have_l ?z_c_may_have_c ?z_c_may_have_k ?z_c_is_index_a ?z_c_is_index_l ?z_c_is_index_c ?z_c_is_index_k ?z_c_names_a_part_a ?z_c_names_a_part_l ?z_c_names_a_part_c ?z_c_names_a_part_k ?z_c_with_item_a ?z_c_with_item_l ?z_c_with_item_c ?z_c_with_item_k ?z_c_with_change_a ?z_c_with_change_l ?z_c_with_change_c ?z_c_with_change_k ?z_c_law_purse_a ?z_c_law_purse_l ?z_c_law_purse_c ?z_c_law_purse_k ?z_c_law_draw_a ?z_c_law_draw_l ?z_c_law_draw_c ?z_c_law_draw_k ?z_c_law_two_right_a ?z_c_law_two_right_l ?z_c_law_two_right_c ?z_c_law_two_right_k ?z_c_law_three_right_a ?z_c_law_three_right_l ?z_c_law_three_right_c ?z_c_law_three_right_k ?z_c_law_right_a ?z_c_law_right_l ?z_c_law_right_c ?z_c_law_right_k ?z_c_law_a ?z_c_law_l ?z_c_law_c ?z_c_law_k
    (case z_aC => k_is)
    (case z_pg => k_is)
    (case z_hd => k_is)
    (case z_po => k_is)
    (case z_sa => k_is)
    (case z_no_divisors => k_is)
    (case z_no_parties => k_is)
    (case z_no_piles => k_is)
    (case z_no_text => k_is)
    (case z_ini_m => k_is)
    (case z_ini_a => k_is)
    (case z_ini_i => k_is)
    (case z_ini_k => k_is)
    (case z_ini_l => k_is)
    (case z_ini_c => k_is)
    (case z_ini_T => k_is)
    (case z_ini_E => k_is)
    (case z_divisors_a => k_is)
    (case z_divisors_g => k_is)
    (case z_divisors_t => k_is)
    (case z_divisors_r => k_is)
    (case z_divisors_l => k_is)
    (case z_divisors_c => k_is)
    (case z_parties_a => k_is)
    (case z_parties_g => k_is)
    (case z_parties_t => k_is)
    (case z_parties_r => k_is)
    (case z_parties_l => k_is)
    (case z_parties_c => k_is)
    (case z_piles_a => k_is)
    (case z_piles_g => k_is)
    (case z_piles_t => k_is)
    (case z_piles_r => k_is)
    (case z_piles_l => k_is)
    (case z_piles_c => k_is)
    (case z_names_a => k_is)
    (case z_names_g => k_is)
    (case z_names_t => k_is)
    (case z_names_r => k_is)
    (case z_names_l => k_is)
    (case z_names_c => k_is)
    (case z_seats_a => k_is)
    (case z_seats_g => k_is)
    (case z_seats_t => k_is)
    (case z_seats_r => k_is)
    (case z_seats_l => k_is)
    (case z_seats_c => k_is)
    (case z_lenO_a => k_is)
    (case z_lenO_i => k_is)
    (case z_lenO_l => k_is)
    (case z_lenO_c => k_is)
    (case z_eq_dnNoneType => k_is)
    (case z_eq_dnbool => k_is)
    (case z_eq_dnint => k_is)
    (case z_eq_dnstr => k_is)
    (case z_eq_dntuple => k_is)
    (case z_eq_dnlist => k_is)
    (case z_eq_dndict => k_is)
    (case z_is_ha => k_is)
    (case z_is_hn => k_is)
    (case z_is_ht => k_is)
    (case z_is_hm => k_is)
    (case z_is_c => k_is)
    (case z_is_t => k_is)
    (case z_noBool => k_is)
    (case z_m_tables_a => k_is)
    (case z_m_tables_i => k_is)
    (case z_m_tables_k => k_is)
    (case z_m_tables_l => k_is)
    (case z_m_tables_c => k_is)
    (case z_m_changed_a => k_is)
    (case z_m_changed_i => k_is)
    (case z_m_changed_k => k_is)
    (case z_m_changed_l => k_is)
    (case z_m_changed_c => k_is)
    (case z_b_len => k_is)
    (case z_b_isinstance => k_is)
    (case z_b_int => k_is)
    (case z_b_bool => k_is)
    (case z_b_str => k_is)
    (case z_b_tuple => k_is)
    (case z_b_list => k_is)
    (case z_b_all => k_is)
    (case z_b_sum => k_is)
    (case z_b_min => k_is)
    (case z_b_max => k_is)
    (case z_b_abs => k_is)
    (case z_b_range => k_is)
    (case z_b_enumerate => k_is)
    (case z_b_zip => k_is)
    (case z_b_repr => k_is)
    (case z_b_divmod => k_is)
    (case z_b_sorted => k_is)
    (case z_b_set => k_is)
    (case z_i_gcd => k_is)
    (case z_i_lcm => k_is)
    (case z_g_MOST_LETTERS => k_is)
    (case z_g_MOST_SEATS => k_is)
    (case z_g_MOST_DIVISOR => k_is)
    (case z_g_MOST_COUNT => k_is)
    (case z_g_MOST_PARTIES => k_is)
    (case z_g_MOST_PILES => k_is)
    (case z_g_MOST_DIGITS => k_is)
    (case z_g_LETTERS => k_is)
    (case z_g_LETTERS_AND_DIGITS => k_is)
    (case z_c_is_integer_a => k_is)
    (case z_c_is_integer_l => k_is)
    (case z_c_is_integer_c => k_is)
    (case z_c_is_integer_k => k_is)
    (case z_c_is_between_a => k_is)
    (case z_c_is_between_l => k_is)
    (case z_c_is_between_c => k_is)
    (case z_c_is_between_k => k_is)
    (case z_c_is_tuple_of_a => k_is)
    (case z_c_is_tuple_of_l => k_is)
    (case z_c_is_tuple_of_c => k_is)
    (case z_c_is_tuple_of_k => k_is)
    (case z_c_is_name_a => k_is)
    (case z_c_is_name_l => k_is)
    (case z_c_is_name_c => k_is)
    (case z_c_is_name_k => k_is)
    (case z_c_is_divisors_a => k_is)
    (case z_c_is_divisors_l => k_is)
    (case z_c_is_divisors_c => k_is)
    (case z_c_is_divisors_k => k_is)
    (case z_c_is_party_a => k_is)
    (case z_c_is_party_l => k_is)
    (case z_c_is_party_c => k_is)
    (case z_c_is_party_k => k_is)
    (case z_c_is_group_a => k_is)
    (case z_c_is_group_l => k_is)
    (case z_c_is_group_c => k_is)
    (case z_c_is_group_k => k_is)
    (case z_c_is_pile_a => k_is)
    (case z_c_is_pile_l => k_is)
    (case z_c_is_pile_c => k_is)
    (case z_c_is_pile_k => k_is)
    (case z_c_names_of_a => k_is)
    (case z_c_names_of_l => k_is)
    (case z_c_names_of_c => k_is)
    (case z_c_names_of_k => k_is)
    (case z_c_check_divisors_a => k_is)
    (case z_c_check_divisors_l => k_is)
    (case z_c_check_divisors_c => k_is)
    (case z_c_check_divisors_k => k_is)
    (case z_c_check_parties_a => k_is)
    (case z_c_check_parties_l => k_is)
    (case z_c_check_parties_c => k_is)
    (case z_c_check_parties_k => k_is)
    (case z_c_check_piles_a => k_is)
    (case z_c_check_piles_l => k_is)
    (case z_c_check_piles_c => k_is)
    (case z_c_check_piles_k => k_is)
    (case z_c_text_of_a => k_is)
    (case z_c_text_of_l => k_is)
    (case z_c_text_of_c => k_is)
    (case z_c_text_of_k => k_is)
    (case z_c_number_in_a => k_is)
    (case z_c_number_in_l => k_is)
    (case z_c_number_in_c => k_is)
    (case z_c_number_in_k => k_is)
    (case z_c_parts_in_a => k_is)
    (case z_c_parts_in_l => k_is)
    (case z_c_parts_in_c => k_is)
    (case z_c_parts_in_k => k_is)
    (case z_c_counts_of_a => k_is)
    (case z_c_counts_of_l => k_is)
    (case z_c_counts_of_c => k_is)
    (case z_c_counts_of_k => k_is)
    (case z_c_scale_of_a => k_is)
    (case z_c_scale_of_l => k_is)
    (case z_c_scale_of_c => k_is)
    (case z_c_scale_of_k => k_is)
    (case z_c_units_of_a => k_is)
    (case z_c_units_of_l => k_is)
    (case z_c_units_of_c => k_is)
    (case z_c_units_of_k => k_is)
    (case z_c_claims_of_a => k_is)
    (case z_c_claims_of_l => k_is)
    (case z_c_claims_of_c => k_is)
    (case z_c_claims_of_k => k_is)
    (case z_c_claim_at_a => k_is)
    (case z_c_claim_at_l => k_is)
    (case z_c_claim_at_c => k_is)
    (case z_c_claim_at_k => k_is)
    (case z_c_seats_above_a => k_is)
    (case z_c_seats_above_l => k_is)
    (case z_c_seats_above_c => k_is)
    (case z_c_seats_above_k => k_is)
    (case z_c_seats_from_a => k_is)
    (case z_c_seats_from_l => k_is)
    (case z_c_seats_from_c => k_is)
    (case z_c_seats_from_k => k_is)
    (case z_c_tables_within_a => k_is)
    (case z_c_tables_within_l => k_is)
    (case z_c_tables_within_c => k_is)
    (case z_c_tables_within_k => k_is)
    (case z_c_check_night_a => k_is)
    (case z_c_check_night_l => k_is)
    (case z_c_check_night_c => k_is)
    (case z_c_check_night_k => k_is)
    (case z_c_pays_of_a => k_is)
    (case z_c_pays_of_l => k_is)
    (case z_c_pays_of_c => k_is)
    (case z_c_pays_of_k => k_is)
    (case z_c_settled_a => k_is)
    (case z_c_settled_l => k_is)
    (case z_c_settled_c => k_is)
    (case z_c_settled_k => k_is)
    (case z_c_levels_and_lacks_a => k_is)
    (case z_c_levels_and_lacks_l => k_is)
    (case z_c_levels_and_lacks_c => k_is)
    (case z_c_levels_and_lacks_k => k_is)
    (case z_c_is_row_a => k_is)
    (case z_c_is_row_l => k_is)
    (case z_c_is_row_c => k_is)
    (case z_c_is_row_k => k_is)
    (case z_c_is_table_a => k_is)
    (case z_c_is_table_l => k_is)
    (case z_c_is_table_c => k_is)
    (case z_c_is_table_k => k_is)
    (case z_c_check_table_a => k_is)
    (case z_c_check_table_l => k_is)
    (case z_c_check_table_c => k_is)
    (case z_c_check_table_k => k_is)
    (case z_c_level_and_lacks_a => k_is)
    (case z_c_level_and_lacks_l => k_is)
    (case z_c_level_and_lacks_c => k_is)
    (case z_c_level_and_lacks_k => k_is)
    (case z_c_fraction_a => k_is)
    (case z_c_fraction_l => k_is)
    (case z_c_fraction_c => k_is)
    (case z_c_fraction_k => k_is)
    (case z_c_least_price_a => k_is)
    (case z_c_least_price_l => k_is)
    (case z_c_least_price_c => k_is)
    (case z_c_least_price_k => k_is)
    (case z_c_needs_a => k_is)
    (case z_c_needs_l => k_is)
    (case z_c_needs_c => k_is)
    (case z_c_needs_k => k_is)
    (case z_c_distance_a => k_is)
    (case z_c_distance_l => k_is)
    (case z_c_distance_c => k_is)
    (case z_c_distance_k => k_is)
    (case z_c_is_bloc_a => k_is)
    (case z_c_is_bloc_l => k_is)
    (case z_c_is_bloc_c => k_is)
    (case z_c_is_bloc_k => k_is)
    (case z_c_check_bloc_a => k_is)
    (case z_c_check_bloc_l => k_is)
    (case z_c_check_bloc_c => k_is)
    (case z_c_check_bloc_k => k_is)
    (case z_c_check_seats_a => k_is)
    (case z_c_check_seats_l => k_is)
    (case z_c_check_seats_c => k_is)
    (case z_c_check_seats_k => k_is)
    (case z_c_seats_in_a => k_is)
    (case z_c_seats_in_l => k_is)
    (case z_c_seats_in_c => k_is)
    (case z_c_seats_in_k => k_is)
    (case z_c_least_lacks_a => k_is)
    (case z_c_least_lacks_l => k_is)
    (case z_c_least_lacks_c => k_is)
    (case z_c_least_lacks_k => k_is)
    (case z_c_group_of_a => k_is)
    (case z_c_group_of_l => k_is)
    (case z_c_group_of_c => k_is)
    (case z_c_group_of_k => k_is)
    (case z_c_group_sums_a => k_is)
    (case z_c_group_sums_l => k_is)
    (case z_c_group_sums_c => k_is)
    (case z_c_group_sums_k => k_is)
    (case z_c_group_rooms_a => k_is)
    (case z_c_group_rooms_l => k_is)
    (case z_c_group_rooms_c => k_is)
    (case z_c_group_rooms_k => k_is)
    (case z_c_tight_rooms_a => k_is)
    (case z_c_tight_rooms_l => k_is)
    (case z_c_tight_rooms_c => k_is)
    (case z_c_tight_rooms_k => k_is)
    (case z_c_is_enough_a => k_is)
    (case z_c_is_enough_l => k_is)
    (case z_c_is_enough_c => k_is)
    (case z_c_is_enough_k => k_is)
    (case z_c_tables_in_reach_a => k_is)
    (case z_c_tables_in_reach_l => k_is)
    (case z_c_tables_in_reach_c => k_is)
    (case z_c_tables_in_reach_k => k_is)
    (case z_c_possible_with_a => k_is)
    (case z_c_possible_with_l => k_is)
    (case z_c_possible_with_c => k_is)
    (case z_c_possible_with_k => k_is)
    (case z_c_possible_a => k_is)
    (case z_c_possible_l => k_is)
    (case z_c_possible_c => k_is)
    (case z_c_possible_k => k_is)
    (case z_c_margin_a => k_is)
    (case z_c_margin_l => k_is)
    (case z_c_margin_c => k_is)
    (case z_c_margin_k => k_is)
    (case z_c_range_in_a => k_is)
    (case z_c_range_in_l => k_is)
    (case z_c_range_in_c => k_is)
    (case z_c_range_in_k => k_is)
    (case z_c_seat_range_a => k_is)
    (case z_c_seat_range_l => k_is)
    (case z_c_seat_range_c => k_is)
    (case z_c_seat_range_k => k_is)
    (case z_c_may_have_a => k_is)
    (case z_c_may_have_l => k_is)
    (case z_c_may_have_c => k_is)
    (case z_c_may_have_k => k_is)
    (case z_c_is_index_a => k_is)
    (case z_c_is_index_l => k_is)
    (case z_c_is_index_c => k_is)
    (case z_c_is_index_k => k_is)
    (case z_c_names_a_part_a => k_is)
    (case z_c_names_a_part_l => k_is)
    (case z_c_names_a_part_c => k_is)
    (case z_c_names_a_part_k => k_is)
    (case z_c_with_item_a => k_is)
    (case z_c_with_item_l => k_is)
    (case z_c_with_item_c => k_is)
    (case z_c_with_item_k => k_is)
    (case z_c_with_change_a => k_is)
    (case z_c_with_change_l => k_is)
    (case z_c_with_change_c => k_is)
    (case z_c_with_change_k => k_is)
    (case z_c_law_purse_a => k_is)
    (case z_c_law_purse_l => k_is)
    (case z_c_law_purse_c => k_is)
    (case z_c_law_purse_k => k_is)
    (case z_c_law_draw_a => k_is)
    (case z_c_law_draw_l => k_is)
    (case z_c_law_draw_c => k_is)
    (case z_c_law_draw_k => k_is)
    (case z_c_law_two_right_a => k_is)
    (case z_c_law_two_right_l => k_is)
    (case z_c_law_two_right_c => k_is)
    (case z_c_law_two_right_k => k_is)
    (case z_c_law_three_right_a => k_is)
    (case z_c_law_three_right_l => k_is)
    (case z_c_law_three_right_c => k_is)
    (case z_c_law_three_right_k => k_is)
    (case z_c_law_right_a => k_is)
    (case z_c_law_right_l => k_is)
    (case z_c_law_right_c => k_is)
    (case z_c_law_right_k => k_is)
    (case z_c_law_a => k_is)
    (case z_c_law_l => k_is)
    (case z_c_law_c => k_is)
    (case z_c_law_k => k_is)
