import PyProof.Rows.All
import Wide.All
import OpenK.AllK
import Wide.FinOn
import KE.KExcInit
import KE.KExcIs
import HandS.ForExc
import HandS.ExcInit
import HandS.ExcField
import HandS.MakeKwOnly
import HandS.Codes
import HandS.ForMost
import HandS.Style
import HandS.HeadEnd
import HandS.HeadHook2
import HandS.Head2
import PyProof.ReprRoads
import HandS.GenCall
import PyProof.Rows.ListAppend
import HandS.GenList
import KE.KTryMore
import HandS.Walk
import HandS.SetFor
import HandS.IsInst
import PyProof.TypeEq
import PyProof.InstEq
import PyProof.TypeOfCall
import HandS.SortInts
import HandS.Strs
import HandS.More
import KE.KDictList
import HandS.EndTab
import HandS.HeadHook4
import HandS.HeadNt
import HandS.HeadHook3
import HandS.Star
import HandS.Property
import HandS.ClsMeth
import PyProof.Rows.RuleB_pow
import PyProof.StrOps2
import HandS.ExcOwn
import HandS.ReplaceLit
import HandS.OwnEq
import PyProof.EqAt
import PyProof.NeKinds
import HandS.DictComp
import HandS.ListItems
import PyProof.TupleOfSeq
import PyProof.Rows.Range3
import KE.GoesMore
import HandS.Text
import HandS.Conv
import HandS.TupAny
import HandS.WordsDict
import HandS.New0
import HandS.RaiseMore
import PySem.Challenge.RW_brinejar_k09_registries
set_option Elab.async false
set_option linter.all false
set_option maxRecDepth 100000
set_option maxHeartbeats 4000000
/-! VxA: exceptions of own classes over any of the built-in bases, with an own __init__, held as values: made, told apart, read. -/
namespace PySem
namespace VxS
open PySem.W PySem.Calls PyProof.Rows PySem.HandSPX
section
open Builtin Builtin.ObjectAttr
variable {prog : Program} {w : World} {A : Around} {E : Value → Shared → Prop} {R : Result → Shared → Prop} {hp : Heap} {g : Array GenState} {d : Drawn} {t : Nat} {os : OsState}
/-- a class chain over a built-in base: own classes, then the base's chain, stores by object.__setattr__ -/
structure Tail (bmB : List Value) (mro : List Value) : Prop where
  tail : excTail bmB mro = true
  pass : ∀ self, refuseLoop self "__setattr__" bmB = pure ()
  obj : bmB.contains (.type "object") = true
theorem Tail.has {bmB mro : List Value} (T : Tail bmB mro) : mro.contains (.type "object") = true := (excTail_contains "object" mro T.tail).trans T.obj
theorem Tail.ne {bmB mro : List Value} (T : Tail bmB mro) : mro.isEmpty = false := by
  cases mro with
  | nil => exact absurd T.has (by decide)
  | cons _ _ => rfl
/-- the first field -/
theorem osa_new {K : W.Frag} {name : Str} {tk : Tok} {v : Value} {x C : Addr} {fv : Array Value} {cd : ClassData} {bmB : List Value}
    (X : K.In hp) (hx : hp.get? x = some { cls := .ref C, data := .fields fv }) (hcd : W.clsIn K C = some cd) (T : Tail bmB cd.mro) (hh : cd.hasDict = true) (ha : W.findIn K (.ref C) name = some none)
    (hq : ∀ h' tk' dx, (∀ b o, b ≠ x → hp.get? b = some o → h'.get? b = some o) → hp.objs.size ≤ dx → dx ≠ x → h'.get? x = some { cls := .ref C, dict := some dx, data := .fields fv } →
      h'.Ns1 dx (fun y => if y = name then some v else none) → R (.ok (.ret .none)) ⟨h', g, d, tk', os⟩) :
    codeAny (model prog w) A (.call (.builtin "object.__setattr__") ⟨[.ref x, .str name tk, v], []⟩) R ⟨hp, g, d, t, os⟩ := by
  have I : W.InstAt hp x { cls := .ref C, data := .fields fv } C none := ⟨hx, rfl, rfl, trivial⟩
  have SF := F.store_object
  have hxs : x ≠ hp.objs.size := Nat.ne_of_lt (Heap.lt_size hx)
  have sub : W.Looks (model prog w) hp (isInstance (.ref x) (.type "object")) true := I.type.andThen (W.looks_mroIn X (by unfold W.mroIn; rw [hcd, Option.bind_some, if_neg (by rw [T.ne]; decide), T.has]))
  refine codeAny_call_builtin SF.slot.plain SF.entry (@W.check_slot (model prog w) _ _ ⟨hp, g, d, t, os⟩ "object.__setattr__" "object" "__setattr__" (.ref x) [.str name tk, v] [] _ SF.kind SF.split sub (SF.args (.ref x) (.str name tk) v) ?_)
  have hmr : W.Looks (model prog w) hp (mroOf (.ref C)) cd.mro := (W.looks_clsIn X hcd).andThen .now
  have L3 : W.Looks (model prog w) hp (storeTaker? none) none := .now
  have hcls : W.Looks (model prog w) hp (classData C) cd := W.looks_clsIn X hcd
  rw [W.osa_eq, refuse_eq]
  refine wpAny_bind (wpAny_bind (I.type.at (wpAny_bind (hmr.at ?_))))
  rw [excTail_pass _ (T.pass _) _ T.tail]
  refine wpAny_pure (wpAny_bind (I.type.at (wpAny_bind ((W.looks_findIn X ha).at (wpAny_bind (L3.at ?_))))))
  show wpAny _ _ (storeInOwnDict (.ref x) (.ref C) (.str name tk) name v false) _ _ _
  obtain ⟨nm, bs, mro, ns, qn, hd, sn, sb, ab, col, del⟩ := cd
  dsimp only at hh
  subst hh
  unfold storeInOwnDict ownDictForStores
  repeat (first | with_reducible refine store_in_new ?_ ?_ | with_reducible refine wpAny_loadPart_at hx ?_ | with_reducible refine hcls.at ?_ | wp_step)
  · exact ⟨_, #[], _, (Heap.get?_update_ne _ _ _ _ hxs.symm).trans (Heap.get?_push_at rfl rfl), rfl, fun e he => absurd he (by simp), fun _ => rfl⟩
  · intro h' tk' hn' hs
    have hx₁ : (hp.push { cls := .type "dict", data := .dict #[] }).get? x = some { cls := .ref C, data := .fields fv } := Heap.get?_push_of_some _ hx
    refine hq h' tk' hp.objs.size (fun b o hb ho => ?_) (Nat.le_refl _) hxs.symm ?_ hn'
    · exact (hs.2 b (Nat.ne_of_lt (Heap.lt_size ho))).trans ((Heap.get?_update_ne _ _ _ _ hb).trans (Heap.get?_push_of_some _ ho))
    · exact (hs.2 x hxs).trans (Heap.get?_update_self _ hx₁ rfl)
/-- a further field -/
theorem osa_old {K : W.Frag} {name : Str} {tk : Tok} {v : Value} {x C dx : Addr} {fv : Array Value} {cd : ClassData} {m0 : Str → Option Value} {nl : List Str} {bmB : List Value}
    (X : K.In hp) (hx : hp.get? x = some { cls := .ref C, dict := some dx, data := .fields fv }) (hns : hp.Ns1 dx m0) (hw : Within m0 nl) (hz : nl.length ≤ 1000) (hcd : W.clsIn K C = some cd) (T : Tail bmB cd.mro) (hh : cd.hasDict = true)
    (ha : W.findIn K (.ref C) name = some none)
    (hq : ∀ h' tk', (∀ b o, b ≠ dx → hp.get? b = some o → h'.get? b = some o) → h'.Ns1 dx (fun y => if y = name then some v else m0 y) → R (.ok (.ret .none)) ⟨h', g, d, tk', os⟩) :
    codeAny (model prog w) A (.call (.builtin "object.__setattr__") ⟨[.ref x, .str name tk, v], []⟩) R ⟨hp, g, d, t, os⟩ := by
  obtain ⟨oD, esD, epD, hoD, hdD, _⟩ := hns.count hw
  have I : W.InstAt hp x { cls := .ref C, dict := some dx, data := .fields fv } C (some oD) := ⟨hx, rfl, rfl, hoD⟩
  have SF := F.store_object
  have sub : W.Looks (model prog w) hp (isInstance (.ref x) (.type "object")) true := I.type.andThen (W.looks_mroIn X (by unfold W.mroIn; rw [hcd, Option.bind_some, if_neg (by rw [T.ne]; decide), T.has]))
  refine codeAny_call_builtin SF.slot.plain SF.entry (@W.check_slot (model prog w) _ _ ⟨hp, g, d, t, os⟩ "object.__setattr__" "object" "__setattr__" (.ref x) [.str name tk, v] [] _ SF.kind SF.split sub (SF.args (.ref x) (.str name tk) v) ?_)
  have hmr : W.Looks (model prog w) hp (mroOf (.ref C)) cd.mro := (W.looks_clsIn X hcd).andThen .now
  have L3 : W.Looks (model prog w) hp (storeTaker? none) none := .now
  have hcls : W.Looks (model prog w) hp (classData C) cd := W.looks_clsIn X hcd
  rw [W.osa_eq, refuse_eq]
  refine wpAny_bind (wpAny_bind (I.type.at (wpAny_bind (hmr.at ?_))))
  rw [excTail_pass _ (T.pass _) _ T.tail]
  refine wpAny_pure (wpAny_bind (I.type.at (wpAny_bind ((W.looks_findIn X ha).at (wpAny_bind (L3.at ?_))))))
  show wpAny _ _ (storeInOwnDict (.ref x) (.ref C) (.str name tk) name v false) _ _ _
  obtain ⟨nm, bs, mro, ns, qn, hd, sn, sb, ab, col, del⟩ := cd
  dsimp only at hh
  subst hh
  unfold storeInOwnDict ownDictForStores
  repeat (first | with_reducible refine OEX.store_in_old hns hw hz ?_ | with_reducible refine wpAny_loadPart_at hx ?_ | with_reducible refine hcls.at ?_ | wp_step)
  intro h' tk' hn' hs
  exact hq h' tk' (fun b o hb ho => (hs.2 b hb).trans ho) hn'
end
end VxS
end PySem

set_option Elab.async false
set_option linter.all false
set_option maxRecDepth 100000
set_option maxHeartbeats 4000000
namespace L2
open PySem PySem.Spec PyProof.Rows

/-- what the written part says of an exception class of the program -/
structure Xc (K : PySem.W.Frag) (C : Addr) : Prop where
  cls : ∃ (nm q : Str) (N : Addr) (bs bm : List Value) (sn : List Str) (sub : List Value) (ab : Bool) (col : Option Bool) (dd : Option Addr) (k0 k1 k2 k3 k5 : Option Value) (B newId initId : String) (bmB : List Value),
    K.lookup C = some (excClassObj nm q C N bs bm true sn sub ab col dd k0 k1 k2 k3 k5 newId) ∧ ExcBaseFacts B newId initId bmB ∧ VxS.Tail bmB (.ref C :: bm)
  sa : PySem.W.findIn K (.ref C) "__setattr__" = some (some (.builtin "object.__setattr__"))
  ga : PySem.W.findIn K (.ref C) "__getattribute__" = some (some (.builtin "BaseException.__getattribute__"))
  gg : PySem.W.findIn K (.ref C) "__getattr__" = some none
  exC : PySem.W.subIn K (.ref C) (.type "BaseException") = some true
  tyC : PySem.W.typeIn K (.ref C) = some (.type "type")
  kC : PySem.W.keepIn K (.ref C) = true
  hdC : PySem.W.hasDictIn K C = true
  ca : PySem.W.findIn K (.ref C) "__class__" = some (some (.builtin "object.__class__"))
  cn : PySem.W.specialIn K (.builtin "object.__class__") "__get__" = some (some (.builtin "getset_descriptor.__get__"))
  ct : PySem.W.takesIn K (.builtin "object.__class__") = some true
  cm : PySem.W.mroIn K C (.type "object") = some true

/-- an exception of the class at C, its own dict at d -/
def exV (e C d : Addr) : HO := .ext fun h => ∃ (oe : Obj) (vs : Array Value), h.get? e = some oe ∧ oe.cls = .ref C ∧ oe.dict = some d ∧ oe.data = .fields vs
theorem exV_ok {P : Program} {w : World} {H : Hp} {h : Heap} {e C d : Addr} {oe : Obj} {vs : Array Value} (he : h.get? e = some oe) (hc : oe.cls = .ref C) (hd : oe.dict = some d) (hv : oe.data = .fields vs) : ObjOk P w H h e (exV e C d) :=
  ⟨⟨oe, vs, he, hc, hd, hv⟩, ⟨_, he⟩, fun h1 h2 z k => by
    obtain ⟨o, v, q, r⟩ := z
    exact ⟨o, v, k _ q, r⟩⟩
theorem exV_at {P : Program} {w : World} {H : Hp} {h : Heap} {e C d : Addr} (hok : HOk P w H h) (he : H e = some (exV e C d)) : ∃ (oe : Obj) (vs : Array Value), h.get? e = some oe ∧ oe.cls = .ref C ∧ oe.dict = some d ∧ oe.data = .fields vs := by
  have x : ObjOk P w H h e (.ext fun h => ∃ (oe : Obj) (vs : Array Value), h.get? e = some oe ∧ oe.cls = .ref C ∧ oe.dict = some d ∧ oe.data = .fields vs) := hok e _ he
  exact x.1
/-- at e: an exception of the class at C with these fields -/
def ExAt (H : Hp) (e C : Addr) (fs : List (Str × V)) : Prop := ∃ d, H e = some (exV e C d) ∧ H d = some (.xd fs)
theorem ExAt.mono {H H' : Hp} {e C : Addr} {fs : List (Str × V)} (x : ExAt H e C fs) (s : Same H H') : ExAt H' e C fs := by
  obtain ⟨d, h1, h2⟩ := x
  exact ⟨d, s _ _ h1, s _ _ h2⟩

section
variable {X : Cx} {pins : List (Addr × Obj)} {σ : St} {H : Hp} {s : Shared} {a C dx : Addr} {f : Str} {y : V} {u : Value} {fs : List (Str × V)} {Q : Unit → Shared → Prop} {E : Value → Shared → Prop} {A : Around}
theorem xst_new (T : Xc X.K C) (I : Inv X pins σ H s) (e : H a = some (exo a C none)) (hno : PySem.W.findIn X.K (.ref C) f = some none) (ry : RelV y u)
    (h : ∀ dx s', H dx = none → dx ≠ a → Inv X pins σ (upd (upd H dx (exd dx [(f, y)])) a (exo a C (some dx))) s' → Q () s') : wpAny (model X.prog X.w) A (setAttr (.ref a) f u) Q E s := by
  obtain ⟨nm, q, N, bs, bm, sn, sub, ab, col, dd, k0, k1, k2, k3, k5, B, newId, initId, bmB, hC, FB, hbm⟩ := T.cls
  have hcl : PySem.W.clsIn X.K C = some { name := nm, bases := bs, mro := .ref C :: bm, ns := N, qualname := q, hasDict := true, slotNames := sn, subclasses := sub, abstract := ab, collection := col, hasDel := false } := by unfold PySem.W.clsIn; rw [hC] <;> rfl
  obtain ⟨t1, ho⟩ := exo_at I.hok e
  obtain ⟨hp, g, d, t, os⟩ := s
  refine PySem.W.set_plain I.kIn (ox := { cls := .ref C, dict := none, data := .fields #[.ref t1, .none, .none, .none, .bool false, .none] }) (od := none) ⟨ho, rfl, rfl, trivial⟩ T.sa ?_
  refine VxS.osa_new I.kIn ho hcl hbm rfl hno (fun h' tk' dx k dn dne hx hn => ?_)
  have hnd : H dx = none := I.hok.fresh dn
  have nd : ∀ {b : Addr} {o : Obj}, hp.get? b = some o → b ≠ dx := fun {b o} q => Nat.ne_of_lt (Nat.lt_of_lt_of_le (Heap.lt_size q) dn)
  have na : ∀ {b : Addr}, H b = none → b ≠ a := fun {b} n z => by
    rw [z, e] at n
    cases n
  have Un1 : Un X.fs [] H (upd (upd H dx (exd dx [(f, y)])) a (exo a C (some dx))) hp h' := {
    keep := fun b o q n _ _ => k b o (na n) q
    slot := fun b o q n _ _ => ⟨o.slots, k b o (na n) q⟩
    free := fun b o q n _ => by rw [upd_ne (na n), upd_ne (nd q)]; exact n
    there := fun b o q _ => by
      by_cases hb : b = a
      · exact ⟨_, by rw [hb]; exact hx⟩
      · exact ⟨o, k b o hb q⟩
    tups := fun b xs q => by rw [upd_ne (at_ne e q exo_tup), upd_ne (ne_of_none q hnd)]; exact q
    frzs := fun b o v q => by rw [upd_ne (at_ne e q exo_frz), upd_ne (ne_of_none q hnd)]; exact q
    tbls := fun b ps q => ⟨#[], by rw [upd_ne (at_ne e q exo_tbl), upd_ne (ne_of_none q hnd), q]; simp⟩ }
  refine h dx _ hnd dne (I.un (t' := tk') Un1 fun b o q => ?_)
  by_cases hb : b = a
  · subst hb
    rw [upd_same] at q
    cases q
    exact exo_ok hx
  · rw [upd_ne hb] at q
    by_cases hd : b = dx
    · subst hd
      rw [upd_same] at q
      cases q
      exact exd_ok hn (relO_put (fs := []) ry fun g => True.intro)
    · rw [upd_ne hd] at q
      exact (I.hok b o q).stay (fun c v hc z => k c v (by
          rcases hc with hc | hc
          · rw [hc]
            exact hb
          · exact at_ne e hc exo_own) z)
        (fun c hc => by rw [upd_ne (at_ne e hc exo_own), upd_ne (ne_of_none hc hnd)]; exact hc) (fun c xs hc => by rw [upd_ne (at_ne e hc exo_tup), upd_ne (ne_of_none hc hnd)]; exact hc)
theorem xst_old (T : Xc X.K C) (I : Inv X pins σ H s) (e : H a = some (exo a C (some dx))) (ed : H dx = some (exd dx fs)) (hl : fs.length ≤ 900) (hno : PySem.W.findIn X.K (.ref C) f = some none) (ry : RelV y u)
    (h : ∀ s', Inv X pins σ (upd H dx (exd dx ((f, y) :: fs))) s' → Q () s') : wpAny (model X.prog X.w) A (setAttr (.ref a) f u) Q E s := by
  obtain ⟨nm, q, N, bs, bm, sn, sub, ab, col, dd, k0, k1, k2, k3, k5, B, newId, initId, bmB, hC, FB, hbm⟩ := T.cls
  have hcl : PySem.W.clsIn X.K C = some { name := nm, bases := bs, mro := .ref C :: bm, ns := N, qualname := q, hasDict := true, slotNames := sn, subclasses := sub, abstract := ab, collection := col, hasDel := false } := by unfold PySem.W.clsIn; rw [hC] <;> rfl
  obtain ⟨t1, ho⟩ := exo_at I.hok e
  obtain ⟨mA, hns, rel⟩ := exd_at I.hok ed
  have hw := within_of rel
  obtain ⟨hp, g, d, t, os⟩ := s
  obtain ⟨oD, _, _, hoD, _, _⟩ := hns.count hw
  refine PySem.W.set_plain I.kIn (ox := { cls := .ref C, dict := some dx, data := .fields #[.ref t1, .none, .none, .none, .bool false, .none] }) (od := some oD) ⟨ho, rfl, rfl, hoD⟩ T.sa ?_
  refine VxS.osa_old I.kIn ho hns hw (by rw [List.length_map]; omega) hcl hbm rfl hno (fun h' tk' k hn => ?_)
  have hd : ∃ o, h'.get? dx = some o := by
    obtain ⟨o, _, _, e', _⟩ := hn
    exact ⟨o, e'⟩
  exact h _ (I.write (t' := tk') (x := dx) (e := dx) (o := exd dx ((f, y) :: fs)) (by rw [ed]; exact True.intro) (.inl rfl) k hd (exd_ok hn (relO_put ry rel)))
end
/-- self.f = e in an exception's __init__ -/
def tXst (K : PySem.W.Frag) (f : Str) (to te : TE) : TS := fun D σ H => te σ H fun y H1 => to σ H1 fun x H2 => ∃ a C : Addr, x = .ref a ∧ Xc K C ∧ PySem.W.findIn K (.ref C) f = some none ∧
  ((H2 a = some (exo a C none) ∧ ∀ dx, H2 dx = none → dx ≠ a → D.nx σ (upd (upd H2 dx (exd dx [(f, y)])) a (exo a C (some dx)))) ∨
    ∃ (dx : Addr) (fs : List (Str × V)), H2 a = some (exo a C (some dx)) ∧ H2 dx = some (exd dx fs) ∧ fs.length ≤ 900 ∧ D.nx σ (upd H2 dx (exd dx ((f, y) :: fs))))
section
variable {X : Cx} {o e : Expr} {es : List Expr} {to te : TE} {ta : TA} {f : Str} {p p' p1 p2 pos : Pos}
theorem ps_xst (ho : PE X o to) (he : PE X e te) (hs : swapsWith e (some (.Attribute o f p')) pos.line X.env = pure false := by rfl) : PS X (.Assign [.Attribute o f p'] e pos) (tXst X.K f to te) := by
  refine ⟨fun pins s σ H D I h => ?_⟩
  refine plainObj_wpAny_Assign_Attribute (thn (he.run pins s σ H _ I h) fun v s1 ⟨y, H1, I1, r1, q1⟩ => thn (ho.run pins s1 σ H1 _ I1 q1) fun u s2 ⟨x, H2, I2, r2, a, C, ex, T, hno, q⟩ => ?_) hs
  subst ex
  obtain rfl : u = Value.ref a := r2
  rcases q with ⟨ea, q⟩ | ⟨dx, fs, ea, ed, hl, q⟩
  · exact xst_new T I2 ea hno r1 fun dx s' n ne J => ⟨σ, _, J, q dx n ne⟩
  · exact xst_old T I2 ea ed hl hno r1 fun s' J => ⟨σ, _, J, q⟩
end
/-- isinstance(e, c), e an exception of the program -/
def rIsX (K : PySem.W.Frag) : List V → Hp → VK → Prop := fun xs H Q => ∃ (a C : Addr) (fs : List (Str × V)) (c : V) (cv : Value) (b : Bool), xs = [.ref a, c] ∧ ExAt H a C fs ∧ Xc K C ∧ (∀ u, RelV c u → u = cv) ∧ PySem.W.kitOne K (.ref C) cv = some b ∧ Q (.bl b) H
theorem exV_inst {X : Cx} {pins : List (Addr × Obj)} {σ : St} {H : Hp} {s : Shared} {a C : Addr} {fs : List (Str × V)} (I : Inv X pins σ H s) (x : ExAt H a C fs) :
    ∃ (oe od : Obj) (mA : Str → Option Value), PySem.W.InstAt s.heap a oe C (some od) ∧ (∀ name, PySem.W.lookIn name od = some (mA name)) ∧ ∀ f, RelO (fs.lookup f) (mA f) := by
  obtain ⟨d, h1, h2⟩ := x
  obtain ⟨oe, vs, he, hc, hd, hv⟩ := exV_at I.hok h1
  have hx : ObjOk X.prog X.w H s.heap d (.xd fs) := I.hok d _ h2
  obtain ⟨mA, hns, hr⟩ := hx
  obtain ⟨od, ho, hl⟩ := lookIn_ns hns
  exact ⟨oe, od, mA, ⟨he, hc, by unfold PySem.W.notCls; rw [hv] <;> rfl, by rw [hd]; exact ho⟩, hl, hr⟩
theorem Xc.kit {K : PySem.W.Frag} {C x : Addr} {ox : Obj} {od : Option Obj} (T : Xc K C) : PySem.W.KitX K (.ref x) (.ref C) (fun h => PySem.W.InstAt h x ox C od) :=
  PySem.W.kitx_exc (by
    obtain ⟨cd, hc, _⟩ := PySem.W.any_some T.hdC
    rw [hc] <;> rfl) T.ga T.gg T.exC T.ca T.cn T.ct T.cm
theorem call_isX {X : Cx} : CallR X (.builtin "isinstance") (rIsX X.K) := by
  intro pins s σ H xs us Q I r h
  obtain ⟨a, C, fs, c, cv, b, rfl, x, T, hcv, e, q⟩ := h
  cases r with
  | cons rx rr =>
    cases rr with
    | cons rt rr =>
      cases rr
      cases rx
      have ec := hcv _ rt
      subst ec
      obtain ⟨oe, od, mA, J, _, _⟩ := exV_inst I x
      exact PySem.W.kia_one T.kit I.kIn J e (fun z => nomatch z) fun tk => ⟨.bl b, H, I.kept (t' := tk) fun _ _ z => z, rfl, q⟩
/-- isinstance(e, (c1, c2, ..)), e an exception of the program -/
def rIsXT (K : PySem.W.Frag) : List V → Hp → VK → Prop := fun xs H Q => ∃ (a C tp : Addr) (fs : List (Str × V)) (ts : List V) (cvs : List Value) (b : Bool), xs = [.ref a, .ref tp] ∧ ExAt H a C fs ∧ Xc K C ∧ H tp = some (.tup ts) ∧
  (∀ us, Vals ts us → us = cvs) ∧ PySem.W.kitAny K (.ref C) cvs = some b ∧ Q (.bl b) H
theorem call_isXT {X : Cx} : CallR X (.builtin "isinstance") (rIsXT X.K) := by
  intro pins s σ H xs us Q I r h
  obtain ⟨a, C, tp, fs, ts, cvs, b, rfl, x, T, ht, hcv, e, q⟩ := h
  cases r with
  | cons rx rr =>
    cases rr with
    | cons rt rr =>
      cases rr
      cases rx
      cases rt
      obtain ⟨oe, od, mA, J, _, _⟩ := exV_inst I x
      obtain ⟨_, its, rv, o, ho, hcl, n, hdt⟩ := I.hok tp _ ht
      have ev := hcv _ rv
      subst ev
      obtain ⟨oc, odd, oda, osl⟩ := o
      dsimp only at hcl hdt
      subst hcl hdt
      exact PySem.W.kia_tup T.kit I.kIn J ho e (fun z => nomatch z) fun tk => ⟨.bl b, H, I.kept (t' := tk) fun _ _ z => z, rfl, q⟩
/-- e.f of an exception of the program -/
def tXfd (K : PySem.W.Frag) (f : Str) (te : TE) : TE := fun σ H Q => te σ H fun x H1 => ∃ (a C : Addr) (fs : List (Str × V)) (v : V), x = .ref a ∧ ExAt H1 a C fs ∧ Xc K C ∧ PySem.W.findIn K (.ref C) f = some none ∧ fs.lookup f = some v ∧ Q v H1
theorem pe_xfd {X : Cx} {e : Expr} {te : TE} {pos : Pos} {n : Str} (he : PE X e te) (hb : attributeBase e n X.env (eval e X.env) = eval e X.env := by rfl) : PE X (.Attribute e n pos) (tXfd X.K n te) := by
  refine ⟨fun pins s σ H Q I h => ?_⟩
  refine attr_of hb (thn (he.run pins s σ H _ I h) fun u s1 hh => ?_)
  obtain ⟨x, H1, I1, rx, a, C, fs, v, ex, xa, T, hno, l, q⟩ := hh
  subst ex
  obtain rfl : u = Value.ref a := rx
  obtain ⟨oe, od, mA, J, hl, hr⟩ := exV_inst I1 xa
  obtain ⟨u, hu, ru⟩ := RelO.some_of (v := v) (o := mA n) (by rw [← l]; exact hr n)
  exact HandSPX.exc_get I1.kIn J T.ga T.gg T.exC (PySem.W.findObj_own T.hdC hno rfl (by rw [hl, hu])) (handed_of ru) ⟨v, H1, I1.tok _, ru, q⟩
end L2

set_option Elab.async false
set_option linter.all false
set_option maxRecDepth 100000
set_option maxHeartbeats 4000000
namespace PySem
namespace VxS
open PySem.W PySem.Calls PyProof.Rows PySem.HandSPX
section
variable {M : Model} {A : Around} {E : Value → Shared → Prop} {h : Heap} {g : Array GenState} {d : Drawn} {t : Nat} {os : OsState}
variable {nm q : Str} {C N : Addr} {bs bm bmB : List Value} {hdct : Bool} {sn : List Str} {sub : List Value} {ab : Bool} {col : Option Bool} {dd : Option Addr} {k0 k1 k2 k3 k5 : Option Value} {B newId initId : String}
theorem check_newK (F : ExcBaseFacts B newId initId bmB) (hT : ∀ X : String, bm.contains (.type X) = bmB.contains (.type X)) {rest : List Value} {kw : List (Str × Value)} {Q : Unit → Shared → Prop}
    (hC : h.get? C = some (excClassObj nm q C N bs bm hdct sn sub ab col dd k0 k1 k2 k3 k5 newId)) (hq : Q () ⟨h, g, d, t, os⟩) : wpAny M A (checkBuiltinCall newId ⟨.ref C :: rest, kw⟩) Q E ⟨h, g, d, t, os⟩ := by
  have hcont : (Value.ref C :: bm).contains (.type B) = true := by rw [List.contains_cons, hT, F.hasB, Bool.or_true]
  have hstar := F.noStar
  simp only [checkBuiltinCall, F.newKind, F.newSplit, F.newRow]
  repeat (first | refine wpAny_loadPart_at hC ?_ | (refine wpAny_isSubtype_exc hC ?_; rw [hcont]) | refine wpAny_staticBase_exc hC ?_ | refine wpAny_madeBy_exc hC ?_ | simp only [bne_self_eq_false, Bool.false_eq_true, if_false] | wp_step)
  exact hq
end
section
variable {prog : Program} {w : World} {A : Around} {E : Value → Shared → Prop} {R : Result → Shared → Prop} {h : Heap} {g : Array GenState} {d : Drawn} {t : Nat} {os : OsState}
variable {nm q : Str} {C N : Addr} {bs bm bmB : List Value} {hdct : Bool} {sn : List Str} {sub : List Value} {ab : Bool} {col : Option Bool} {dd : Option Addr} {k0 k1 k2 k3 k5 : Option Value} {B newId initId : String}
theorem new_K (F : ExcBaseFacts B newId initId bmB) (hT : ∀ X : String, bm.contains (.type X) = bmB.contains (.type X)) {rest : List Value} {kw : List (Str × Value)}
    (hC : h.get? C = some (excClassObj nm q C N bs bm hdct sn sub ab col dd k0 k1 k2 k3 k5 newId))
    (hq : R (.ok (.ret (.ref (h.objs.size + 1)))) ⟨(h.push { cls := .type "tuple", data := .seq rest.toArray }).push
      { cls := .ref C, data := .fields #[.ref h.objs.size, .none, .none, .none, .bool false, .none] }, g, d, t, os⟩) (hrest : rest.length ≤ sizeLine) :
    codeAny (model prog w) A (.builtin newId ⟨.ref C :: rest, kw⟩) R ⟨h, g, d, t, os⟩ := by
  have hends := F.ends
  have hcB : (Value.ref C :: bm).contains (.type B) = true := by rw [List.contains_cons, hT, F.hasB, Bool.or_true]
  have hcA : (Value.ref C :: bm).contains (.type "AttributeError") = false := by rw [List.contains_cons, hT, F.noAttr]; rfl
  have hcN : (Value.ref C :: bm).contains (.type "NameError") = false := by rw [List.contains_cons, hT, F.noName]; rfl
  refine codeAny_builtinAt F.entry ?_
  unfold Builtin.«BaseException.__new__»
  refine wpAt_bind ?_
  show wpAt _ _ _ (stack >>= _) _ _ _
  refine wpAt_bind (wpAt_stack fun p below => wpAt_of_wpAny ?_)
  wp_walk
  refine wpAt_of_wpAny ?_
  rw [F.owner]
  repeat (first | with_reducible refine wpAny_madeHere_exc F.canon hC ?_ | with_reducible refine wpAny_loadPart_at hC ?_ | (with_reducible refine wpAny_isSubtype_exc hC ?_; first | rw [hcB] | rw [hcA] | rw [hcN]) | wp_step)
  show R _ _
  rw [Heap.size_push]
  exact hq
theorem type_call_K (F : ExcBaseFacts B newId initId bmB) (hT : ∀ X : String, bm.contains (.type X) = bmB.contains (.type X)) {rest : List Value} {kw : List (Str × Value)} {fI : Addr} {Q : Fin → Shared → Prop}
    (hC : h.get? C = some (excClassObj nm q C N bs bm hdct sn sub ab col dd k0 k1 k2 k3 k5 newId))
    (hi : W.Looks (model prog w) h (typeLookup (.ref C) "__init__") (some (.ref fI))) (hb : ∀ self, W.Looks (model prog w) h (bindSpecial (.ref fI) self) (.ref fI, [self])) (hrest : rest.length ≤ sizeLine)
    (hq : codeAny (model prog w) A (.call (.ref fI) ⟨.ref (h.objs.size + 1) :: rest, kw⟩)
      (fun r s' => match r with | .ok (.ret v) => v = .none ∧ Q (.done (.ret (.ref (h.objs.size + 1)))) s' | .ok _ => False | .error e => E e s')
      ⟨(h.push (W.kdv_tup rest)).push (excO C h.objs.size), g, d, t, os⟩) :
    wpAny (model prog w) A (Builtin.«type.__call__» ⟨.ref C :: rest, kw⟩) Q E ⟨h, g, d, t, os⟩ := by
  repeat (first | with_reducible refine wpAny_loadPart_at hC ?_ | with_reducible refine wpAny_madeBy_exc hC ?_ | wp_step)
  refine codeAny_call_builtin_code (Code.quiet_builtin _ F.quiet) (check_newK F hT hC ?_)
  refine new_K F hT hC ?_ hrest
  show wpAny _ _ _ _ _ _
  have k : ∀ b o, h.get? b = some o → ((h.push (W.kdv_tup rest)).push (excO C h.objs.size)).get? b = some o := fun b o e => Heap.get?_push_of_some _ (Heap.get?_push_of_some _ e)
  have hC₁ := k _ _ hC
  have hget : ((h.push (W.kdv_tup rest)).push (excO C h.objs.size)).get? (h.objs.size + 1) = some (excO C h.objs.size) := by heap_get
  have hcC : (Value.ref C :: bm).contains (.ref C) = true := by simp
  have i1 := hi.keeps k
  have b1 := (hb (.ref (h.objs.size + 1))).keeps k
  unfold isInstance
  repeat (first | with_reducible refine wpAny_loadPart_at hget ?_ | (with_reducible refine wpAny_isSubtype_exc hC₁ ?_; rw [hcC]) | wp_step)
  show wpAny _ _ (typeLookup (.ref C) _) _ _ _
  refine i1.at ?_
  refine wpAny_holding (wpAny_bind (b1.at ?_))
  refine wpAny_bind (wpAny_call (codeAny_mono hq fun r s' z => ?_))
  rcases r with e | (v | _ | _ | _) <;> first | exact z | exact z.elim | skip
  obtain ⟨rfl, z⟩ := z
  first
    | exact wpAny_pure (wpAny_pure z)
    | (wp_walk; exact z)
theorem call_K (F : ExcBaseFacts B newId initId bmB) (hT : ∀ X : String, bm.contains (.type X) = bmB.contains (.type X)) {rest : List Value} {kw : List (Str × Value)} {fI : Addr}
    (hC : h.get? C = some (excClassObj nm q C N bs bm hdct sn sub ab col dd k0 k1 k2 k3 k5 newId))
    (hi : W.Looks (model prog w) h (typeLookup (.ref C) "__init__") (some (.ref fI))) (hb : ∀ self, W.Looks (model prog w) h (bindSpecial (.ref fI) self) (.ref fI, [self])) (hrest : rest.length ≤ sizeLine)
    (hq : codeAny (model prog w) (A.under (.builtin "type.__call__" ⟨.ref C :: rest, kw⟩)) (.call (.ref fI) ⟨.ref (h.objs.size + 1) :: rest, kw⟩) (W.InitBack (h.objs.size + 1) R)
      ⟨(h.push (W.kdv_tup rest)).push (excO C h.objs.size), g, d, t, os⟩) :
    codeAny (model prog w) A (.call (.ref C) ⟨rest, kw⟩) R ⟨h, g, d, t, os⟩ := by
  have f1 := tc_lookup
  have f2 := tc_bind (.ref C)
  have hTy : (⟨h, g, d, t, os⟩ : Shared).TypeIs (.ref C) "type" := ⟨_, hC, rfl⟩
  refine codeAny_of_tree ?_
  show wpAny _ _ (callAny (.ref C) _) _ _ _
  repeat (any_goals (first | assumption | with_reducible refine wpAny_loadPart_at hC ?_ | wp_step))
  refine ⟨rfl, ?_⟩
  refine codeAny_call_builtin_at (Code.quiet_builtin _ (by decide +kernel)) entry_typeCall (wpAny_check_type_call_sub hC (type_call_K F hT hC hi hb hrest ?_))
  refine codeAny_mono hq fun r s' z => ?_
  rcases r with e | (v | _ | _ | _) <;> exact z
end
end VxS
end PySem

set_option Elab.async false
set_option linter.all false
set_option maxRecDepth 100000
set_option maxHeartbeats 4000000
namespace L2
open PySem PySem.Spec PyProof.Rows
/-- an object is told otherwise -/
theorem HOk.retype {P : Program} {w : World} {H : Hp} {h : Heap} {x : Addr} {o' : HO} (ok : HOk P w H h) (mu : Mut (H x)) (hx : ∃ o, h.get? x = some o) (new : ObjOk P w (upd H x o') h x o') : HOk P w (upd H x o') h :=
  ok.write mu (.inl rfl) (fun _ _ _ e => e) hx new
section
variable {X : Cx} {CX : CXT} {k : Nat} {C fI : Addr} {fd : FuncData} {ps : List Str} {sp : Sp} {x : Str} {p pos : Pos} {e : Expr} {es : List Expr} {kws : List Keyword} {t tk : TA}
/-- behind the __init__: the exception and its dict stand as an exception's -/
theorem xnew_end {pins : List (Addr × Obj)} {σ : St} {H1 H2 : Hp} {hp hp2 h2 : Heap} {g1 g2 : Array GenState} {d1 d2 : Drawn} {t1 t2 : Nat} {os1 os2 : OsState} {a d : Addr} {fs : List (Str × V)} (I1 : Inv X pins σ H1 ⟨hp, g1, d1, t1, os1⟩)
    (ha : hp.objs.size ≤ a) (kk : ∀ b o, hp.get? b = some o → hp2.get? b = some o) (un : Un (frs X.stack) [] (upd H1 a (exo a C none)) H2 hp2 h2) (hok : HOk X.prog X.w H2 h2) (ho : os2 = os1) (hb : AllBare g2)
    (ea : H2 a = some (exo a C (some d))) (ed : H2 d = some (exd d fs)) : Inv X pins σ (upd (upd H2 a (exV a C d)) d (.xd fs)) ⟨h2, g2, d2, t2, os2⟩ := by
  obtain ⟨t0, hoe⟩ := exo_at hok ea
  obtain ⟨mA, hns, rel⟩ := exd_at hok ed
  have hn : H1 a = none := I1.hok.fresh ha
  have hda : d ≠ a := fun z => by
    obtain ⟨o, es, ep, e1, e2, _⟩ := hns
    rw [z, hoe] at e1
    have z2 := Option.some.inj e1
    subst z2
    cases e2
  have nha : ∀ {b : Addr} {o : Obj}, hp.get? b = some o → b ≠ a := fun {b o} z => Nat.ne_of_lt (Nat.lt_of_lt_of_le (Heap.lt_size z) ha)
  have up : ∀ {b : Addr}, b ≠ a → H1 b = none → upd H1 a (exo a C none) b = none := fun {b} hb n => by rw [upd_ne hb]; exact n
  have nd : ∀ {b : Addr} {o : Obj}, hp.get? b = some o → H1 b = none → b ≠ d := fun {b o} z n e => by
    have y := un.free b o (kk b o z) (up (nha z) n) (by simp)
    rw [e, ed] at y
    cases y
  have U : Un (frs X.stack) [] H1 (upd (upd H2 a (exV a C d)) d (.xd fs)) hp h2 := {
    keep := fun b o z n hf hx => un.keep b o (kk b o z) (up (nha z) n) hf hx
    slot := fun b o z n hf hx => un.slot b o (kk b o z) (up (nha z) n) hf hx
    free := fun b o z n hx => by
      rw [upd_ne (nd z n), upd_ne (nha z)]
      exact un.free b o (kk b o z) (up (nha z) n) hx
    there := fun b o z hx => un.there b o (kk b o z) hx
    tups := fun b xs z => by
      have q := un.tups b xs (by rw [upd_ne (ne_of_none z hn)]; exact z)
      rw [upd_ne (at_ne ed q exd_tup), upd_ne (ne_of_none z hn)]
      exact q
    frzs := fun b o v z => by
      have q := un.frzs b o v (by rw [upd_ne (ne_of_none z hn)]; exact z)
      rw [upd_ne (at_ne ed q (fun y => by
        have y' : HO.ext _ = HO.frz o v := y
        cases y')), upd_ne (ne_of_none z hn)]
      exact q
    tbls := fun b ps z => by
      obtain ⟨m, q⟩ := un.tbls b ps (by rw [upd_ne (ne_of_none z hn)]; exact z)
      refine ⟨m, ?_⟩
      rw [upd_ne (at_ne ed q (fun y => by
        have y' : HO.ext _ = HO.tbl (ps ++ m) := y
        cases y')), upd_ne (ne_of_none z hn)]
      exact q }
  have ok1 : HOk X.prog X.w (upd H2 a (exV a C d)) h2 := hok.retype (by rw [ea]; exact True.intro) ⟨_, hoe⟩ (exV_ok hoe rfl rfl rfl)
  have ed1 : (upd H2 a (exV a C d)) d = some (exd d fs) := by rw [upd_ne hda]; exact ed
  have ok2 : HOk X.prog X.w (upd (upd H2 a (exV a C d)) d (.xd fs)) h2 := by
    obtain ⟨o, es, ep, e1, r⟩ := id hns
    exact ok1.retype (by rw [ed1]; exact True.intro) ⟨o, e1⟩ ⟨mA, hns, rel⟩
  exact I1.call' (ch := []) ho U ok2 hb (fun b z => absurd z (by simp))
/-- C(..) of an exception class of the program, as a value. us: the positional values, kw the keywords', zs: bound in the parameters' order -/
theorem run_xnew {pins : List (Addr × Obj)} {σ : St} {H : Hp} {s : Shared} {Q : VK} {us zs : List Value} {kw : List (Str × Value)} {vs : List V} (T : Xc X.K C) (iC : PySem.W.findIn X.K (.ref C) "__init__" = some (some (.ref fI))) (tI : PySem.W.typeIn X.K (.ref fI) = some (.type "function"))
    (F1 : FnOk X.prog X.w X.K X.mg X.base CX k fI fd ps sp) (hr : Room (k + 1) X.A) (hx : Passes CX X (fun _ _ _ => False)) (hz : us.length ≤ sizeLine)
    (hb : ∀ (s : Shared) (a : Addr), X.K.In s.heap → BindsTo s fd ⟨Value.ref a :: us, kw⟩ (ps.zip (Value.ref a :: zs))) (I : Inv X pins σ H s) (r : Vals vs zs)
    (h : ∀ a, H a = none → sp (.ref a :: vs) (upd H a (exo a C none)) (fun v H2 => v = .non ∧ ∃ (d : Addr) (fs : List (Str × V)), H2 a = some (exo a C (some d)) ∧ H2 d = some (exd d fs) ∧ Q (.ref a) (upd (upd H2 a (exV a C d)) d (.xd fs))) (fun _ _ _ => False)) :
    wpAny (model X.prog X.w) X.A (call (.ref C) us kw) (EP X pins σ Q) X.xe s := by
  obtain ⟨nm, q, N, bs, bm, sn, sub, ab, col, dd, k0, k1, k2, k3, k5, B, newId, initId, bmB, hC, FB, hbm⟩ := T.cls
  have hT : ∀ Y : String, bm.contains (.type Y) = bmB.contains (.type Y) := fun Y => by
    have z := PySem.W.excTail_contains Y _ hbm.tail
    rw [List.contains_cons] at z
    have e : (Value.type Y == Value.ref C) = false := rfl
    rw [e, Bool.false_or] at z
    exact z
  obtain ⟨hp, g, dr, tk, os⟩ := s
  have hsz : hp.objs.size ≤ hp.objs.size + 1 := Nat.le_succ _
  have hn : H (hp.objs.size + 1) = none := I.hok.fresh hsz
  have hq := h (hp.objs.size + 1) hn
  have kk : ∀ b o, hp.get? b = some o → ((hp.push (PySem.W.kdv_tup us)).push (PySem.HandSPX.excO C hp.objs.size)).get? b = some o := fun b o e => Heap.get?_push_of_some _ (Heap.get?_push_of_some _ e)
  have hget : ((hp.push (PySem.W.kdv_tup us)).push (PySem.HandSPX.excO C hp.objs.size)).get? (hp.objs.size + 1) = some (PySem.HandSPX.excO C hp.objs.size) := by heap_get
  have I2 : Inv X pins σ (upd H (hp.objs.size + 1) (exo (hp.objs.size + 1) C none)) ⟨(hp.push (PySem.W.kdv_tup us)).push (PySem.HandSPX.excO C hp.objs.size), g, dr, tk, os⟩ :=
    I.laid (t' := tk) (a := hp.objs.size + 1) (o := exo (hp.objs.size + 1) C none) (h' := (hp.push (PySem.W.kdv_tup us)).push (PySem.HandSPX.excO C hp.objs.size)) kk hsz (exo_ok hget)
  have r2 : Vals (V.ref (hp.objs.size + 1) :: vs) (Value.ref (hp.objs.size + 1) :: zs) := .cons rfl r
  refine wpAny_call (VxS.call_K FB hT (I.kIn _ _ hC) (PySem.W.looks_findIn I.kIn iC) (fun self => PySem.W.bind_fn I.kIn self tI) hz
    (codeAny_mono (F1.run _ X.stack _ _ ⟨Value.ref (hp.objs.size + 1) :: us, kw⟩ (Value.ref (hp.objs.size + 1) :: zs) _ _ (fun _ _ _ => False) (hr.make C us kw) (I2.env0.make C us kw) (hb _ _ I2.kIn) r2 hq) fun r s' hq' => ?_))
  cases r with
  | error er => exact hx pins σ _ _ er s' I2 hq'
  | ok fl =>
    cases fl with
    | ret u =>
      obtain ⟨v, H2, os2, bare2, un2, hok2, rv, ev, d, fs, ea, ed, q2⟩ := hq'
      subst ev
      obtain ⟨h2, g2, d2, t2, os'⟩ := s'
      exact ⟨rv, .ref (hp.objs.size + 1), _, xnew_end (d2 := d2) (t2 := t2) I hsz kk un2 hok2 os2 bare2 ea ed, rfl, q2⟩
    | next => exact False.elim hq'
    | brk => exact False.elim hq'
    | cont => exact False.elim hq'
/-- the wish behind C(..): sp is the __init__'s promise, vs the values in the parameters' order -/
def XNew (C : Addr) (sp : Sp) (vs : List V) (H : Hp) (Q : VK) : Prop :=
  ∀ a, H a = none → sp (.ref a :: vs) (upd H a (exo a C none)) (fun v H2 => v = .non ∧ ∃ (d : Addr) (fs : List (Str × V)), H2 a = some (exo a C (some d)) ∧ H2 d = some (exd d fs) ∧ Q (.ref a) (upd (upd H2 a (exV a C d)) d (.xd fs))) (fun _ _ _ => False)
def tXnew (C : Addr) (sp : Sp) (t : TA) : TE := fun σ H Q => t σ H fun vs H1 => vs.length ≤ 1000 ∧ XNew C sp vs H1 Q
theorem pe_xnew (T : Xc X.K C) (iC : PySem.W.findIn X.K (.ref C) "__init__" = some (some (.ref fI))) (tI : PySem.W.typeIn X.K (.ref fI) = some (.type "function"))
    (F1 : FnOk X.prog X.w X.K X.mg X.base CX k fI fd ps sp) (hr : Room (k + 1) X.A) (hbd : Binds X.K fd ps []) (hx : Passes CX X (fun _ _ _ => False)) (hg : Gl X x) (hm : X.mg x = some (.ref C)) (ha : PA X (e :: es) t)
    (hdb : (x == ("__debug__" : Str)) = false := by decide) (he : starEach (e :: es) X.env = (false, eval e X.env) :: starEach es X.env := by rfl) (hpl : (backTo pos (starEach es X.env)).any (·.1) = false := by rfl) :
    PE X (.Call (.Name x p) (e :: es) [] pos) (tXnew C sp t) := by
  refine ⟨fun pins s σ H Q I h => ?_⟩
  refine wpAny_Call_Name_kw (ld_glob I hg hm ?_ hdb)
  refine PySem.W.callWith_K (h₀ := X.base) I.ok.mod.kin T.kC (thn (ha.run pos pins s σ H _ I h) fun us s1 ⟨vs, H1, I1, r1, hz, q1⟩ => ⟨I1.kIn, ?_⟩) he hpl
  have hl : ∀ a : Addr, (Value.ref a :: us).length = ps.length := fun a => by
    have e1 := F1.len _ _ _ _ (q1 s1.heap.objs.size (I1.hok.fresh (Nat.le_refl _)))
    rw [List.length_cons] at e1
    rw [List.length_cons, ← r1.length]
    exact e1
  exact run_xnew (us := us) T iC tI F1 hr hx (by rw [← r1.length, sizeLine_eq]; omega) (fun s a kin => by
    have z := hbd s (Value.ref a :: us) kin (by rw [List.append_nil]; exact hl a)
    rw [List.append_nil] at z
    exact z) I1 r1 q1
/-- C(k = v, ..): one | two keywords, in the parameters' order pe -/
def tXnewK (C : Addr) (sp : Sp) (n : Nat) (gV : List V → List V) (tk : TA) : TE := fun σ H Q => tk σ H fun zs H1 => zs.length = n ∧ XNew C sp (gV zs) H1 Q
theorem pe_xnewK {ks : List Str} {g : List Value → List Value} {gV : List V → List V} (T : Xc X.K C) (iC : PySem.W.findIn X.K (.ref C) "__init__" = some (some (.ref fI))) (tI : PySem.W.typeIn X.K (.ref fI) = some (.type "function"))
    (F1 : FnOk X.prog X.w X.K X.mg X.base CX k fI fd ps sp) (hr : Room (k + 1) X.A) (hbd : ∀ (s : Shared) (a : Addr) (ws : List Value), X.K.In s.heap → ws.length = ks.length → BindsTo s fd ⟨[Value.ref a], ks.zip ws⟩ (ps.zip (Value.ref a :: g ws)))
    (rel : ∀ {zs : List V} {ws : List Value}, Vals zs ws → Vals (gV zs) (g ws)) (hx : Passes CX X (fun _ _ _ => False)) (hg : Gl X x) (hm : X.mg x = some (.ref C)) (hkw : PK X kws tk)
    (hall : (backToKw pos (keywordEach kws X.env)).all (·.1.isSome) = true := by rfl) (hks : (backToKw pos (keywordEach kws X.env)).filterMap (·.1) = ks := by rfl) (hdb : (x == ("__debug__" : Str)) = false := by decide)
    (hpl : ((backTo pos (starEach [] X.env)).any (·.1) || (backToKw pos (keywordEach kws X.env)).any (·.1.isNone)) = false := by rfl) :
    PE X (.Call (.Name x p) [] kws pos) (tXnewK C sp ks.length gV tk) := by
  refine ⟨fun pins s σ H Q I h => ?_⟩
  refine wpAny_Call_Name_kw (ld_glob I hg hm ?_ hdb)
  refine PySem.W.callWith_KW0 (h₀ := X.base) I.ok.mod.kin T.kC hall ?_ hpl
  refine thn (hkw.run pos pins s σ H _ I h) fun ws s2 ⟨zs, H2, I2, rz, l2, q2⟩ => ⟨I2.kIn, ?_⟩
  rw [hks]
  exact run_xnew (us := []) T iC tI F1 hr hx (Nat.zero_le _) (fun s a kin => hbd s a ws kin (by rw [← rz.length]; exact l2)) I2 (rel rz) q2
end
/-! ### what the written part says, by one look -/
def xcB (K : PySem.W.Frag) (C : Addr) (bmB : List Value) (newId : String) : Bool :=
  PySem.W.excInitIn K C bmB newId && (PySem.W.hasDictIn K C && (decide (PySem.W.findIn K (.ref C) "__setattr__" = some (some (.builtin "object.__setattr__"))) && (decide (PySem.W.findIn K (.ref C) "__getattribute__" = some (some (.builtin "BaseException.__getattribute__"))) &&
  (decide (PySem.W.findIn K (.ref C) "__getattr__" = some none) && (decide (PySem.W.subIn K (.ref C) (.type "BaseException") = some true) && (decide (PySem.W.typeIn K (.ref C) = some (.type "type")) && (PySem.W.keepIn K (.ref C) &&
  (decide (PySem.W.findIn K (.ref C) "__class__" = some (some (.builtin "object.__class__"))) && (decide (PySem.W.specialIn K (.builtin "object.__class__") "__get__" = some (some (.builtin "getset_descriptor.__get__"))) &&
  (decide (PySem.W.takesIn K (.builtin "object.__class__") = some true) && decide (PySem.W.mroIn K C (.type "object") = some true)))))))))))
theorem band {a b : Bool} (h : (a && b) = true) : a = true ∧ b = true := Bool.and_eq_true_iff.mp h
theorem xc_of {K : PySem.W.Frag} {C : Addr} {B newId initId : String} {bmB : List Value} (FB : ExcBaseFacts B newId initId bmB) (SF : StoreFacts B bmB "object.__setattr__" "object") (h : xcB K C bmB newId = true) : Xc K C := by
  obtain ⟨h1, h⟩ := band h
  obtain ⟨h2, h⟩ := band h
  obtain ⟨h3, h⟩ := band h
  obtain ⟨h4, h⟩ := band h
  obtain ⟨h5, h⟩ := band h
  obtain ⟨h6, h⟩ := band h
  obtain ⟨h7, h⟩ := band h
  obtain ⟨h8, h⟩ := band h
  obtain ⟨h9, h⟩ := band h
  obtain ⟨h10, h⟩ := band h
  obtain ⟨h11, h12⟩ := band h
  refine ⟨?_, of_decide_eq_true h3, of_decide_eq_true h4, of_decide_eq_true h5, of_decide_eq_true h6, of_decide_eq_true h7, h8, h2, of_decide_eq_true h9, of_decide_eq_true h10, of_decide_eq_true h11, of_decide_eq_true h12⟩
  obtain ⟨cd0, hc0, hd0⟩ := PySem.W.any_some h2
  unfold PySem.W.excInitIn at h1
  split at h1
  · rename_i dd cd sl ho
    split at h1
    · rename_i C' bm k0 k1 k2 k3 n k5 hm hs
      simp only [Bool.and_eq_true, beq_iff_eq, Bool.not_eq_true'] at h1
      obtain ⟨⟨⟨rfl, rfl⟩, hdel⟩, ht⟩ := h1
      have hcl : PySem.W.clsIn K C' = some cd := by unfold PySem.W.clsIn; rw [ho] <;> rfl
      rw [hcl] at hc0
      have ec := Option.some.inj hc0
      rw [← ec] at hd0
      obtain ⟨nm, bs, mro, ns, qn, hd, sn, sub, ab, col, del⟩ := cd
      dsimp only at hm hdel hd0
      subst hm hdel hd0
      have hsl : sl = #[k0, k1, k2, k3, some (.builtin n), k5] := by
        obtain ⟨l⟩ := sl
        simp only at hs
        rw [hs]
      subst hsl
      exact ⟨nm, qn, ns, bs, bm, sn, sub, ab, col, dd, k0, k1, k2, k3, k5, B, n, initId, bmB, ho, FB, ⟨ht, SF.passes, SF.hasOwner⟩⟩
    · cases h1
  · cases h1
/-- the three bases -/
abbrev bmVE : List Value := [.type "ValueError", .type "Exception", .type "BaseException", .type "object"]
abbrev bmRE : List Value := [.type "RuntimeError", .type "Exception", .type "BaseException", .type "object"]
abbrev bmLE : List Value := [.type "LookupError", .type "Exception", .type "BaseException", .type "object"]
theorem xc_VE {K : PySem.W.Frag} {C : Addr} (h : xcB K C bmVE "ValueError.__new__" = true) : Xc K C := xc_of PySem.F.excBase_ValueError PySem.F.store_ValueError h
theorem xc_RE {K : PySem.W.Frag} {C : Addr} (h : xcB K C bmRE "RuntimeError.__new__" = true) : Xc K C := xc_of PySem.F.excBase_RuntimeError PySem.F.store_RuntimeError h
theorem xc_LE {K : PySem.W.Frag} {C : Addr} (h : xcB K C bmLE "LookupError.__new__" = true) : Xc K C := xc_of PySem.F.excBase_LookupError PySem.F.store_LookupError h
end L2

set_option Elab.async false
set_option linter.all false
set_option maxRecDepth 100000
set_option maxHeartbeats 4000000
/-! VxE: list + list where the left one may be the script; the state that draws leave -/
namespace L2
open PySem PySem.Spec PyProof.Rows
section
variable {X : Cx}
def rCatS (K : PySem.W.Frag) : R2 := fun x y H Q => ∃ l b xs zs, x = .ref l ∧ y = .ref b ∧ SqL K H l xs ∧ SqL K H b zs ∧ xs.length + zs.length ≤ sizeLine ∧ ∀ p, H p = none → Q (.ref p) (upd H p (.lst (xs ++ zs)))
theorem op_catS : OpR X (binaryOp .Add) (rCatS X.K) := by
  intro pins s σ H x y v u Q I rx ry h
  obtain ⟨l, b, xs, zs, rfl, rfl, hH, hB, hz, q⟩ := h
  cases rx
  cases ry
  obtain ⟨its, r, ⟨o, n, e, e1, e2, e3⟩, z⟩ := I.list hH
  obtain ⟨its2, r2, ⟨o2, n2, f, f1, f2, f3⟩, z2⟩ := I.list hB
  obtain ⟨c, d, dt, sl⟩ := o
  obtain ⟨c2, d2, dt2, sl2⟩ := o2
  dsimp only at e1 e2 e3 f1 f2 f3
  subst e1 e2 e3 f1 f2 f3
  have ea : its.toArray ++ its2.toArray = (its ++ its2).toArray := by simp
  refine concat_meets ⟨_, e, rfl⟩ ⟨_, f, rfl⟩ noFill_list_add seq_list_add PySem.F.slot_list_add PySem.F.entry_list_add (PySem.F.args_list_add_2 _ _) (list_addW l b its.toArray its2.toArray n n2 none none sl sl2 (by rw [List.size_toArray, List.size_toArray, ← r.length, ← r2.length]; exact hz)) ⟨e, f, ?_⟩
  rw [ea]
  exact ⟨.ref _, _, I.lnew (t' := s.toks) (r.append r2) (by rw [List.length_append]; exact hz), rfl, q _ I.fresh⟩
end
/-! ### draws -/
abbrev kCells : Key := Sum.inr "cells"
abbrev kAt : Key := Sum.inr "at"
abbrev kLeft : Key := Sum.inr "left"
abbrev kUsed : Key := Sum.inr "used"
def drawKv (l : Addr) (a b c : Int) : List (Key × V) := [(kCells, .ref l), (kAt, .int a), (kLeft, .int b), (kUsed, .int c)]
theorem dk_cells {l : Addr} {a b c : Int} : valV (drawKv l a b c) kCells = some (.ref l) := by kernel_rfl
theorem dk_at {l : Addr} {a b c : Int} : valV (drawKv l a b c) kAt = some (.int a) := by kernel_rfl
theorem dk_left {l : Addr} {a b c : Int} : valV (drawKv l a b c) kLeft = some (.int b) := by kernel_rfl
theorem dk_used {l : Addr} {a b c : Int} : valV (drawKv l a b c) kUsed = some (.int c) := by kernel_rfl
theorem dp_at {l : Addr} {a b c z : Int} : putK (drawKv l a b c) kAt (.int z) = drawKv l z b c := by kernel_rfl
theorem dp_left {l : Addr} {a b c z : Int} : putK (drawKv l a b c) kLeft (.int z) = drawKv l a z c := by kernel_rfl
theorem dp_used {l : Addr} {a b c z : Int} : putK (drawKv l a b c) kUsed (.int z) = drawKv l a b z := by kernel_rfl
/-- at p: the dict that the draws go on with; at most N draws are behind it -/
def DrawAt (H : Hp) (p : Addr) (N : Nat) : Prop := ∃ (l : Addr) (cs : List Int) (a b c : Int), H p = some (.dK (drawKv l a b c)) ∧ H l = some (.lst (cs.map V.int)) ∧ 0 < cs.length ∧ cs.length ≤ 64 ∧ 0 ≤ a ∧ a ≤ N ∧ 0 ≤ b ∧ 0 ≤ c ∧ c ≤ N
/-- all that was tracked but p stands -/
def Keep (p : Addr) (H H' : Hp) : Prop := ∀ c o, H c = some o → c ≠ p → H' c = some o
theorem Keep.refl {p : Addr} {H : Hp} : Keep p H H := fun _ _ e _ => e
theorem Keep.trans {p : Addr} {H H1 H2 : Hp} (a : Keep p H H1) (b : Keep p H1 H2) : Keep p H H2 := fun c o e n => b c o (a c o e n) n
theorem Keep.of {p : Addr} {H H' : Hp} (s : Same H H') : Keep p H H' := fun c o e _ => s c o e
theorem Keep.upd {p : Addr} {H : Hp} {o : HO} : Keep p H (upd H p o) := fun c o e n => by rw [upd_ne n]; exact e
theorem same_new {H : Hp} {p : Addr} {o : HO} (h : H p = none) : Same H (upd H p o) := fun c u e => by rw [upd_ne (ne_of_none e h)]; exact e
theorem DrawAt.same {H H' : Hp} {p : Addr} {N : Nat} (d : DrawAt H p N) (s : Same H H') : DrawAt H' p N := by
  obtain ⟨l, cs, a, b, c, h1, h2, r⟩ := d
  exact ⟨l, cs, a, b, c, s _ _ h1, s _ _ h2, r⟩
theorem DrawAt.ne {H : Hp} {p : Addr} {N : Nat} (d : DrawAt H p N) {q : Addr} {o : HO} (h : H q = some o) (n : ∀ kvs, o ≠ .dK kvs) : q ≠ p := by
  obtain ⟨l, cs, a, b, c, h1, _⟩ := d
  exact ne_of h h1 (n _)
theorem DrawAt.mono {H : Hp} {p : Addr} {N M : Nat} (d : DrawAt H p N) (h : N ≤ M) : DrawAt H p M := by
  obtain ⟨l, cs, a, b, c, h1, h2, r1, r2, r3, r4, r5, r6, r7⟩ := d
  exact ⟨l, cs, a, b, c, h1, h2, r1, r2, r3, by omega, r5, r6, by omega⟩
/-- the promises of the three defs -/
def spBegin (K : PySem.W.Frag) : Sp := fun vs H Q _ => ∃ (a : Addr) (ns : List Int), vs = [.ref a] ∧ SqL K H a (ns.map V.int) ∧ ns.length ≤ 63 ∧ ∀ p H', H p = none → Same H H' → DrawAt H' p 0 → Q (.ref p) H'
def spMixed : Sp := fun vs H Q _ => ∃ c k : Int, vs = [.int c, .int k] ∧ 0 ≤ k ∧ k < 1099511627776 ∧ ∀ r : Int, 0 ≤ r → r < 2147483648 → Q (.int r) H
def spNext : Sp := fun vs H Q _ => ∃ (p : Addr) (b : Int) (N : Nat), vs = [.ref p, .int b] ∧ DrawAt H p N ∧ N < 1000000000 ∧ 0 < b ∧ b < 1073741824 ∧ ∀ (r : Int) (H' : Hp), 0 ≤ r → r < b → DrawAt H' p (N + 1) → Keep p H H' → Q (.int r) H'
/-! ### facts behind the top: the facts of HeadHook2 and one look more -/
end L2
namespace He
open PySem PySem.Spec PyProof.Rows L2
def hookXe (n : Nat) (fa : List Fa) (fn : List DefD) (chk : PySem.W.Frag → Bool) : PySem.W.Hook where
  α := AlD × Bool
  obs := fun s => (obsD fa fn (frG s.heap.get? (asD s.heap.get? n)), chk (frG s.heap.get? (asD s.heap.get? n)))
  val := fun _ => (valD fn, true)
  says := fun _ h => ∃ K : PySem.W.Frag, K.In h ∧ SaysD fa fn K ∧ chk K = true
  of := fun _ _ e => ⟨_, frG_in, congrArg Prod.fst e, congrArg Prod.snd e⟩
  keeps := fun _ _ _ ⟨K, hK, c⟩ k => ⟨K, PySem.W.Frag.In.keeps hK k, c⟩
def obsXe (n : Nat) (fa : List Fa) (fn : List DefD) (chk : PySem.W.Frag → Bool) (g : Addr → Option Obj) : AlD × Bool := (obsD fa fn (frG g (asD g n)), chk (frG g (asD g n)))
theorem obsXe_eq {n : Nat} {fa : List Fa} {fn : List DefD} {chk : PySem.W.Frag → Bool} {g : Addr → Option Obj} {s : Shared} (h : ∀ a, g a = s.heap.get? a) : obsXe n fa fn chk g = (hookXe n fa fn chk).obs s := by
  have e : g = s.heap.get? := funext h
  rw [e] <;> rfl
end He

set_option Elab.async false
set_option linter.all false
set_option maxRecDepth 100000
set_option maxHeartbeats 4000000
/-! VxG: defs that are promised where nothing is being shown (no repr runs): FnG; their bodies, their calls; a law's end over them. -/
namespace L2
open PySem PySem.Spec PyProof.Rows
structure FnG (P : Program) (w : World) (K : PySem.W.Frag) (mg : Str → Option Value) (base : Heap) (CX : CXT) (k : Nat) (f : Addr) (fd : FuncData) (ps : List Str) (sp : Sp) : Prop where
  len : ∀ vs H Q E, sp vs H Q E → vs.length = ps.length
  run : ∀ (A : Around), A.guards = some [] → Room k A → ∀ (outer : List Env) (s : Shared) (H : Hp) (args : Args) (us : List Value) (vs : List V) (Q : VK) (E : XK), Env0 P w K mg base A outer s H → BindsTo s fd args (ps.zip us) → Vals vs us → sp vs H Q E →
    codeAny (model P w) A (.call (.ref f) args) (CR CX outer P w H s Q E) s
section
variable {P : Program} {w : World} {K : PySem.W.Frag} {mg : Str → Option Value} {base : Heap} {CX : CXT} {k : Nat} {f : Addr} {fd : FuncData} {N ps : List Str} {sp : Sp}
theorem FnOk.g (F : FnOk P w K mg base CX k f fd ps sp) : FnG P w K mg base CX k f fd ps sp := ⟨F.len, fun A _ hr outer s H args us vs Q E => F.run A outer s H args us vs Q E hr⟩
/-- such a def, by its body -/
theorem FunD.okG {x qual : Str} {params : Arguments} {body : List Stmt} {scope : Scope} {dvs : List V} {kws : List (Str × V)} (F : FunD K x qual params body scope dvs kws f fd) (S : FnScope N ps scope) (len : ∀ vs H Q E, sp vs H Q E → vs.length = ps.length)
    (hbody : ∀ (cdv : Value) (A : Around) (outer : List Env) (s : Shared) (H : Hp) (vs : List V) (Q : VK) (E : XK), (A.deeper (envOfC qual scope s.heap.objs.size f cdv)).guards = some [] → Room k (A.deeper (envOfC qual scope s.heap.objs.size f cdv)) → sp vs H Q E →
      ∃ t, PSs (cxOf CX P w K mg base N qual scope f cdv A outer s H E) body t ∧ t { nx := fun _ H' => Q .non H', rt := Q } (start N vs) H) : FnG P w K mg base CX (k + 1) f fd ps sp := by
  obtain ⟨oc, od, dV, kV, doc, pm, an, cdv, ct, osl, rfl, lk, hcd, _, _⟩ := F.ex
  refine ⟨len, fun A hgu hr outer s H args us vs Q E e0 hb r hsp => ?_⟩
  have kin : K.In s.heap := e0.mod.kin.keeps fun b o e => (e0.bs b o e).1
  have par : ∀ y ∈ ps.zip us, scope.names.lookup y.1 = some .local ∨ (scope.names.lookup y.1 = some .cell ∧ ((cellsFrom (s.heap.objs.size + 1) scope.names []).lookup y.1).isSome = true) := by
    intro y hy
    obtain ⟨n, v⟩ := y
    exact (S.par n (List.of_mem_zip hy).1).imp id fun q => ⟨q, PySem.W.cellsFrom_some _ _ _ (.inl q)⟩
  refine codeAny_call_function hr.depth (kin _ _ lk) rfl S.co S.gen rfl (PySem.W.codeRec_of kin hcd) (hb _ _ _ _ (wpAny_newFunctionEnv_cells S.kind par fun env he s1 x => ?_))
  subst he
  refine ⟨(e0.mod.nolimit.keeps fun b o e => (e0.bs b o e).1).keeps x.toInCall.keep, codeAny_func ?_⟩
  obtain ⟨t, ht, hq⟩ := hbody cdv A outer s H vs Q E hgu (hr.deeper _) hsp
  refine wpAny_mono (ht.run [] s1 (start N vs) H _ (inv_start S hr.hd e0 (len _ _ _ _ hsp) r x) hq) (fun fl s' hs => ?_) fun _ _ hs => hs
  cases fl with
  | ret u =>
    obtain ⟨v, _, H', J, rv, q⟩ := hs
    exact ⟨v, H', J.os, J.bare, J.base, J.hok, rv, q⟩
  | next =>
    obtain ⟨_, H', J, q⟩ := hs
    exact ⟨V.non, H', J.os, J.bare, J.base, J.hok, rfl, q⟩
  | brk => exact hs.elim fun _ z => z.elim fun _ z => z.2.elim
  | cont => exact hs.elim fun _ z => z.elim fun _ z => z.2.elim
end
section
variable {X : Cx} {CX : CXT} {k : Nat} {f : Addr} {fd : FuncData} {ps : List Str} {sp : Sp} {dvs : List V} {ds : List Value} {E : XK} {x : Str} {p pos : Pos} {e : Expr} {es : List Expr} {t : TA}
/-- f(e, ..) -/
theorem pe_callG (hgu : X.A.guards = some []) (F : FnG X.prog X.w X.K X.mg X.base CX k f fd ps sp) (hr : Room k X.A) (hg : Gl X x) (hm : X.mg x = some (.ref f)) (hk : PySem.W.keepIn X.K (.ref f) = true) (hb : Binds X.K fd ps ds) (hd : Vals dvs ds) (hx : Passes CX X E)
    (ha : PA X (e :: es) t) (hdb : (x == ("__debug__" : Str)) = false := by decide) (he : starEach (e :: es) X.env = (false, eval e X.env) :: starEach es X.env := by rfl) (hpl : (backTo pos (starEach es X.env)).any (·.1) = false := by rfl) :
    PE X (.Call (.Name x p) (e :: es) [] pos) (tCall sp dvs E t) := by
  refine ⟨fun pins s σ H Q I h => wpAny_Call_Name_kw (ld_glob I hg hm (PySem.W.callWith_K (h₀ := X.base) I.ok.mod.kin hk (thn (ha.run pos pins s σ H _ I h) fun us s1 z => ?_) he hpl) hdb)⟩
  obtain ⟨vs, H1, I1, r, q⟩ := z
  have r2 : Vals (vs ++ dvs) (us ++ ds) := r.append hd
  refine ⟨I1.kIn, wpAny_call (codeAny_mono (F.run X.A hgu hr X.stack s1 H1 ⟨us, []⟩ (us ++ ds) (vs ++ dvs) Q E I1.env0 (hb s1 us I1.kIn (r2.length.symm.trans (F.len _ _ _ _ q))) r2 q) fun rs s' hq => ?_)⟩
  cases rs with
  | error er => exact hx pins σ H1 s1 er s' I1 hq
  | ok fl =>
    cases fl with
    | ret u => exact I1.after hq
    | next => exact hq.elim
    | brk => exact hq.elim
    | cont => exact hq.elim
end
/-- the script, tracked as the list that it is -/
def onlyAt (a : Addr) (o : Obj) (xs : List V) : Hp := fun b => if b = a then some (.frz o (.lst xs)) else none
/-- a law's end: its def is promised where nothing is being shown -/
theorem law_callG {P : Program} {w : World} {K : PySem.W.Frag} {mg mb : Str → Option Value} {k : Nat} {fa a : Addr} {fd : FuncData} {x : Str} {sp : Sp} {s₁ : Shared} {vs : List Value} {ns : List Int}
    (kin : K.In s₁.heap) (hns : s₁.heap.Ns mainGlobals mg) (hb : s₁.heap.Ns builtinsNs mb) (hbb : ∀ x : Str, x ≠ "__name__" → mb x = bootBuiltins x) (hlim : s₁.heap.NoLimit) (hg : s₁.gens = #[])
    (ha : s₁.heap.get? a = some { cls := .type "list", data := .seq vs.toArray }) (hi : IntsAre vs ns) (hl : ns.length ≤ sizeLine) (hr : Room k callerA)
    (F : ∀ base : Heap, K.In base → base.Ns mainGlobals mg → FnG P w K mg base CX0 k fa fd [x] sp) (hbind : ∀ (s : Shared) (u : Value), BindsTo s fd ⟨[u], []⟩ [(x, u)])
    (hsp : ∀ H : Hp, Only H → SqL K H a (ns.map V.int) → sp [.ref a] H (fun v _ => v = .bl true) fun _ _ _ => False) :
    codeAny (model P w) callerA (.call (.ref fa) ⟨[.ref a], []⟩) (fun r s' => r = .ok (.ret (.bool true)) ∧ OldK s₁.heap s'.heap ∧ s'.os = s₁.os ∧ AllBare s'.gens) s₁ := by
  have rv : Vals (ns.map V.int) vs := vals_ints hi
  have key : ∀ H : Hp, Only H → SqL K H a (ns.map V.int) → HOk P w H s₁.heap → (∀ b, H b ≠ none → b = a) → (H a ≠ none → K.lookup a = none) →
      codeAny (model P w) callerA (.call (.ref fa) ⟨[.ref a], []⟩) (fun r s' => r = .ok (.ret (.bool true)) ∧ OldK s₁.heap s'.heap ∧ s'.os = s₁.os ∧ AllBare s'.gens) s₁ := by
    intro H hO hS hok only hK
    have free : ∀ b, b ≠ a → H b = none := fun b nb => by
      cases q : H b with
      | none => rfl
      | some u => exact absurd (only b (by rw [q]; exact fun z => nomatch z)) nb
    have dictNe : ∀ {b : Addr} {o : Obj} {es : Array DictEntry} {ep : Nat}, s₁.heap.get? b = some o → o.data = .dict es ep → b ≠ a := fun {b o es ep} e d z => by
      rw [z, ha] at e
      have eo := Option.some.inj e
      rw [← eo] at d
      exact nomatch (show Data.seq vs.toArray _ = Data.dict es ep from d)
    have nsK : ∀ {b : Addr} {m : Str → Option Value}, s₁.heap.Ns b m → (hidT s₁.heap H).Ns b m := fun {b m} z => by
      obtain ⟨o, es, ep, e, d, r⟩ := z
      exact ⟨o, es, ep, hidT_get e (free b (dictNe e d)), d, r⟩
    have kinB : K.In (hidT s₁.heap H) := fun b o e => hidT_get (kin b o e) (by
      by_cases nb : b = a
      · cases q : H b with
        | none => rfl
        | some u =>
          have z := hK (by rw [← nb, q]; exact fun z => nomatch z)
          rw [← nb, e] at z
          cases z
      · exact free b nb)
    have md : Mod K mg (hidT s₁.heap H) := ⟨kinB, nsK hns, ⟨mb, nsK hb, hbb⟩, by
      obtain ⟨mc, h1, h2⟩ := hlim
      exact ⟨mc, nsK h1, h2⟩⟩
    have e0 : Env0 P w K mg (hidT s₁.heap H) callerA [] s₁ H := ⟨rfl, md, fun b o e => of_hidT e, Nat.le_of_eq (hidT_size _ _), trivial, fun b z => (List.not_mem_nil z).elim, hok, .of_eq hg⟩
    refine codeAny_mono ((F _ kinB (nsK hns)).run callerA rfl hr [] s₁ H ⟨[.ref a], []⟩ [.ref a] [.ref a] _ _ e0 (hbind s₁ (.ref a)) (.cons rfl .nil) (hsp H hO hS)) fun r s' h => ?_
    cases r with
    | error e => exact False.elim h
    | ok fl =>
      cases fl with
      | next => exact False.elim h
      | brk => exact False.elim h
      | cont => exact False.elim h
      | ret u =>
        obtain ⟨v, H', os, bare, un, hok', r', q⟩ := h
        have ev : v = .bl true := q
        rw [ev] at r'
        have eu : u = Value.bool true := r'
        rw [eu]
        refine ⟨rfl, OldK.of_keep fun b o e => ?_, os, bare⟩
        rcases hO b with z | ⟨ob, xs, z⟩
        · exact un.keep b o e z (fun y => (List.not_mem_nil y).elim) (fun y => (List.not_mem_nil y).elim)
        · have e1 := (hok b _ z).1
          have e2 := (hok' b _ (un.frzs b ob _ z)).1
          rw [e] at e1
          rw [Option.some.inj e1]
          exact e2
  cases hk : K.lookup a with
  | some o =>
    have e := kin a o hk
    rw [ha] at e
    have eo := Option.some.inj e
    refine key (fun _ => none) (fun _ => .inl rfl) (.inr ⟨o, vs.toArray, _, hk, by rw [← eo], by rw [← eo], by rw [← eo], by rw [List.size_toArray, hi.length]; exact hl, by simpa using rv⟩) (fun b u z => nomatch (show (none : Option HO) = some u from z)) (fun b z => absurd rfl z) fun z => absurd rfl z
  | none =>
    have at_ : onlyAt a { cls := .type "list", data := .seq vs.toArray } (ns.map V.int) a = some (.frz { cls := .type "list", data := .seq vs.toArray } (.lst (ns.map V.int))) := if_pos rfl
    have off : ∀ b, b ≠ a → onlyAt a { cls := .type "list", data := .seq vs.toArray } (ns.map V.int) b = none := fun b nb => if_neg nb
    refine key (onlyAt a { cls := .type "list", data := .seq vs.toArray } (ns.map V.int)) (fun b => ?_) (.inl (.inr ⟨_, at_⟩)) (fun b u z => ?_) (fun b z => ?_) fun _ => hk
    · by_cases nb : b = a
      · exact .inr ⟨_, _, by rw [nb]; exact at_⟩
      · exact .inl (off b nb)
    · by_cases nb : b = a
      · subst nb
        rw [at_] at z
        have ez := Option.some.inj z
        subst ez
        exact ⟨ha, by rw [List.length_map]; exact hl, vs, _, rv, ha⟩
      · rw [off b nb] at z
        cases z
    · by_cases nb : b = a
      · exact nb
      · exact absurd (off b nb) z
theorem walk_ofG {l : PySem.W.OpenLaw} {n k : Nat} {q : Program} {loose : List Str} {XP : (Str → Option Value) → Heap → Prop} {YP : World → Heap → Prop} {d : DefRec} {x : Str}
    (hn : l.most = some n) (hn2 : n ≤ sizeLine) (hdf : d.params.defaults = []) (hr : Room k callerA)
    (F : ∀ (w : World) (mg : Str → Option Value) (fa : Addr) (h : Heap), YP w h → h.Ns mainGlobals mg → mg d.name = some (.ref fa) →
      ∃ (K : PySem.W.Frag) (fd : FuncData) (sp : Sp), K.In h ∧ (∀ (s : Shared) (u : Value), BindsTo s fd ⟨[u], []⟩ [(x, u)]) ∧
        (∀ (H : Hp) (a : Addr) (ns : List Int), ns.length ≤ n → Only H → SqL K H a (ns.map V.int) → sp [.ref a] H (fun v _ => v = .bl true) fun _ _ _ => False) ∧
        ∀ base : Heap, K.In base → base.Ns mainGlobals mg → FnG l.prog w K mg base CX0 k fa fd [x] sp) :
    PySem.W.WalkO q loose XP YP l.row.toRowW d [] (fun f vs => PySem.call f vs) :=
  Att.attach_call hn hdf fun w s₀ s₁ mg mb fa o pm cd doc a vs ns G Y ho hd hcd hmg hobj hints hlen hg => by
    obtain ⟨K, fd, sp, kin, hb, hsp, hF⟩ := F w mg fa _ Y G.T.g hmg
    exact law_callG kin G.T.g G.T.b G.T.builtins G.T.nolimit hg hobj hints (Nat.le_trans hlen hn2) hr hF hb fun H hO hS => hsp H a ns hlen hO hS
/-! ### repr -/
/-- what a value says of itself: None, bools, ints, texts, lists, tuples of these, an empty dict -/
inductive Sw (K : PySem.W.Frag) (H : Hp) : V → PyData → Prop
  | non : Sw K H .non .none
  | bl (b : Bool) : Sw K H (.bl b) (.bool b)
  | int (i : Int) : Sw K H (.int i) (.int i)
  | str (x : Str) : Sw K H (.str x) (.str x)
  | emp {a : Addr} : H a = some (.dK []) → Sw K H (.ref a) (.dict [])
end L2

set_option Elab.async false
set_option linter.all false
set_option maxRecDepth 100000
set_option maxHeartbeats 4000000
/-! VxR: repr of values that are data: None, bools, ints, texts, lists and tuples of these, dicts of no or one entry. -/
namespace L2
open PySem PySem.Spec PyProof.Rows
/-- the written part holds sys.modules, which is a dict -/
def SysK (K : PySem.W.Frag) : Prop := ∃ (o : Obj) (es : Array DictEntry) (n : Nat), K.lookup sysModules = some o ∧ o.data = .dict es n
def sysB (K : PySem.W.Frag) : Bool := match K.lookup sysModules with
  | some ⟨_, _, .dict _ _, _⟩ => true
  | _ => false
theorem sys_of {K : PySem.W.Frag} (h : sysB K = true) : SysK K := by
  unfold sysB at h
  split at h
  · rename_i es n sl e
    exact ⟨_, _, _, e, rfl⟩
  · cases h
def keyD : Key → PyData
  | .inl i => .int i
  | .inr x => .str x
mutual
inductive Sd (K : PySem.W.Frag) (H : Hp) : V → PyData → Prop
  | non : Sd K H .non .none
  | bl (b : Bool) : Sd K H (.bl b) (.bool b)
  | int (i : Int) : Sd K H (.int i) (.int i)
  | str (x : Str) : Sd K H (.str x) (.str x)
  | lst {a : Addr} {xs : List V} {ds : List PyData} : SqL K H a xs → SdAll K H xs ds → Sd K H (.ref a) (.list ds)
  | tup {a : Addr} {xs : List V} {ds : List PyData} : SqT K H a xs → SdAll K H xs ds → Sd K H (.ref a) (.tuple ds)
  | emp {a : Addr} : H a = some (.dK []) → Sd K H (.ref a) (.dict [])
  | one {a : Addr} {k : Key} {v : V} {d : PyData} : H a = some (.dK [(k, v)]) → Sd K H v d → Sd K H (.ref a) (.dict [(keyD k, d)])
inductive SdAll (K : PySem.W.Frag) (H : Hp) : List V → List PyData → Prop
  | nil : SdAll K H [] []
  | cons {v : V} {vs : List V} {d : PyData} {ds : List PyData} : Sd K H v d → SdAll K H vs ds → SdAll K H (v :: vs) (d :: ds)
end
section
variable {K : PySem.W.Frag} {H H' : Hp}
theorem SqL.same' {a : Addr} {xs : List V} (s : Same H H') (h : SqL K H a xs) : SqL K H' a xs := s.seq h
mutual
theorem Sd.same (s : Same H H') (st : ∀ {a : Addr} {xs : List V}, SqT K H a xs → SqT K H' a xs) : ∀ {v : V} {d : PyData}, Sd K H v d → Sd K H' v d
  | _, _, .non => .non
  | _, _, .bl b => .bl b
  | _, _, .int i => .int i
  | _, _, .str x => .str x
  | _, _, .lst h a => .lst (s.seq h) (SdAll.same s st a)
  | _, _, .tup h a => .tup (st h) (SdAll.same s st a)
  | _, _, .emp h => .emp (s _ _ h)
  | _, _, .one h a => .one (s _ _ h) (Sd.same s st a)
theorem SdAll.same (s : Same H H') (st : ∀ {a : Addr} {xs : List V}, SqT K H a xs → SqT K H' a xs) : ∀ {vs : List V} {ds : List PyData}, SdAll K H vs ds → SdAll K H' vs ds
  | _, _, .nil => .nil
  | _, _, .cons h a => .cons (Sd.same s st h) (SdAll.same s st a)
end
end
section
variable {X : Cx} {pins : List (Addr × Obj)} {σ : St} {H : Hp} {s : Shared}
theorem sys_free (S : SysK X.K) (I : Inv X pins σ H s) : H sysModules = none := by
  obtain ⟨o, es, n, hk, _⟩ := S
  exact (I.bs _ _ (I.ok.mod.kin _ _ hk)).2
theorem sys_list (S : SysK X.K) (I : Inv X pins σ H s) {a : Addr} {o : Obj} {its : Array Value} {n : Nat} (e : s.heap.get? a = some o) (d : o.data = .seq its n) : a ≠ sysModules := by
  obtain ⟨o2, es, n2, hk, hd⟩ := S
  intro z
  rw [z, I.kIn _ _ hk] at e
  rw [← Option.some.inj e, hd] at d
  cases d
mutual
theorem Sd.reads (S : SysK X.K) (I : Inv X pins σ H s) : ∀ (d : PyData) (v : V) (u : Value), Sd X.K H v d → RelV v u → ∃ as, Reads s.heap u d as ∧ sysModules ∉ as
  | .none, _, _, h, r => by
    cases h
    cases r
    exact ⟨_, Reads.none, List.not_mem_nil⟩
  | .bool b, _, _, h, r => by
    cases h
    cases r
    exact ⟨_, Reads.bool b, List.not_mem_nil⟩
  | .int i, _, _, h, r => by
    cases h
    obtain ⟨t, rfl⟩ := r
    exact ⟨_, Reads.int i t, List.not_mem_nil⟩
  | .str x, _, _, h, r => by
    cases h
    obtain ⟨t, rfl⟩ := r
    exact ⟨_, Reads.str x t, List.not_mem_nil⟩
  | .list ds, _, _, h, r => by
    cases h with
    | lst hs ha =>
      cases r
      obtain ⟨its, rv, ⟨o, n, ho, hc, _, hd⟩, _⟩ := I.list hs
      obtain ⟨as, hr, hn⟩ := SdAll.reads S I ds _ its ha rv
      exact ⟨_, Reads.list ho hc hd hr, fun m => (List.mem_cons.mp m).elim (fun z => sys_list S I ho hd z.symm) hn⟩
  | .tuple ds, _, _, h, r => by
    cases h with
    | tup hs ha =>
      cases r
      obtain ⟨its, rv, ⟨o, ho, hc, n, hd⟩, _⟩ := I.tuple hs
      obtain ⟨as, hr, hn⟩ := SdAll.reads S I ds _ its ha rv
      exact ⟨_, Reads.tuple ho hc hd hr, hn⟩
  | .dict [], _, _, h, r => by
    cases h with
    | emp ha =>
      cases r
      obtain ⟨_, hsy, vs, kv, o, es, ep, ho, hx, hd, _, hp, _⟩ := I.hok _ _ ha
      cases kv
      have e0 : es.toList = [] := by
        generalize es.toList = l at hp
        cases hp
        rfl
      exact ⟨_, Reads.dict ho hx.1 hd (by rw [e0]; exact .nil) (by rw [e0]; exact .nil), fun m => by
        rcases List.mem_append.mp m with m | m
        · rcases List.mem_cons.mp m with z | z
          · rw [z] at hsy
            simp at hsy
          · exact (List.not_mem_nil z)
        · exact (List.not_mem_nil m)⟩
  | .dict [(kd, d)], _, _, h, r => by
    cases h with
    | @one a k v _ ha hv =>
      cases r
      obtain ⟨_, hsy, vs, kv, o, es, ep, ho, hx, hd, _, hp, _⟩ := I.hok _ _ ha
      cases kv with
      | @cons _ q _ _ h1 h2 =>
        cases h2
        obtain ⟨e1, rv⟩ := h1
        obtain ⟨as, hr, hn⟩ := Sd.reads S I d v q.2 hv rv
        obtain ⟨en, ek, ev, e0⟩ : ∃ en : DictEntry, (mixKind X.prog X.w).is q.1 en.key = true ∧ en.val = q.2 ∧ es.toList = [en] := by
          generalize es.toList = l at hp
          cases hp with
          | cons a1 a2 a3 =>
            cases a3
            exact ⟨_, a1, a2, rfl⟩
        have hk : ∃ as, Reads s.heap en.key (keyD k) as ∧ as = [] := by
          have e1' : k = q.1 := e1
          rw [e1']
          rcases keyIs_shape (show keyIs q.1 en.key = true from ek) with ⟨i, t, z1, z2⟩ | ⟨x, t, z1, z2⟩
          · rw [z1, z2]
            exact ⟨_, Reads.int i t, rfl⟩
          · rw [z1, z2]
            exact ⟨_, Reads.str x t, rfl⟩
        obtain ⟨bs, hb, rfl⟩ := hk
        exact ⟨_, Reads.dict ho hx.1 hd (by rw [e0]; exact .cons hb .nil) (by rw [e0]; exact .cons (as := as) (by show Reads s.heap en.val d as; rw [ev]; exact hr) .nil), fun m => by
          rcases List.mem_append.mp m with m | m
          · rcases List.mem_cons.mp m with z | z
            · rw [z] at hsy
              simp at hsy
            · exact (List.not_mem_nil z)
          · rw [List.append_nil] at m
            exact hn m⟩
  | .dict (_ :: _ :: _), _, _, h, _ => by cases h
theorem SdAll.reads (S : SysK X.K) (I : Inv X pins σ H s) : ∀ (ds : List PyData) (vs : List V) (us : List Value), SdAll X.K H vs ds → Vals vs us → ∃ as, ReadsAll s.heap us ds as ∧ sysModules ∉ as
  | [], _, _, h, r => by
    cases h
    cases r
    exact ⟨_, ReadsAll.nil, List.not_mem_nil⟩
  | d :: ds, _, _, h, r => by
    cases h with
    | cons h1 h2 =>
      cases r with
      | cons r1 r2 =>
        obtain ⟨as, q1, n1⟩ := Sd.reads S I d _ _ h1 r1
        obtain ⟨bs, q2, n2⟩ := SdAll.reads S I ds _ _ h2 r2
        exact ⟨_, ReadsAll.cons q1 q2, fun m => (List.mem_append.mp m).elim n1 n2⟩
end
end
/-- repr(v) -/
def rRepr (K : PySem.W.Frag) : List V → Hp → VK → Prop := fun xs H Q => ∃ (v : V) (d : PyData), xs = [v] ∧ Sd K H v d ∧ d.showable = true ∧ d.depth ≤ 40 ∧ d.shown.length ≤ sizeLine ∧ Q (.str d.shown) H
theorem call_repr {X : Cx} {k : Nat} (hgu : X.A.guards = some []) (hr : Room k X.A) (S : SysK X.K) : CallR X (.builtin "repr") (rRepr X.K) := by
  intro pins s σ H xs us Q I r h
  obtain ⟨v, d, rfl, hv, hs, hd, hz, q⟩ := h
  obtain ⟨u, rfl, ru⟩ := vals1 r
  obtain ⟨as, hr1, hn⟩ := Sd.reads S I d v u hv ru
  have fin : ∀ (h' : Heap) (t tk : Nat), (∀ b o, s.heap.get? b = some o → h'.get? b = some o) → EP X pins σ Q (.str d.shown t) { s with heap := h', toks := tk } := fun h' t tk kp => ⟨.str d.shown, H, I.kept (t' := tk) kp, ⟨t, rfl⟩, q⟩
  have ref : ∀ a, u = .ref a → wpAny (model X.prog X.w) X.A (call (.builtin "repr") [u]) (EP X pins σ Q) X.xe s := fun a e => by
    subst e
    exact repr_of_reads' hr1 hs (fun _ => hn) hgu (by have := hr.un; omega) (fun _ _ e => e) (fun h' t tk kp => fin h' t tk kp) hz
  cases hr1 with
  | none =>
    have q' : Q (.str "None") H := by
      have z := q
      simp only [PyData.shown] at z
      exact z
    exact PySem.P.repr_of_none ⟨.str "None", H, I.tok _, ⟨_, rfl⟩, q'⟩
  | bool b =>
    have q' : Q (.str (if b then "True" else "False")) H := by
      have z := q
      simp only [PyData.shown] at z
      cases b <;> exact z
    cases b
    · exact PySem.P.repr_of_bool ⟨.str "False", H, I.tok _, ⟨_, rfl⟩, q'⟩
    · exact PySem.P.repr_of_bool ⟨.str "True", H, I.tok _, ⟨_, rfl⟩, q'⟩
  | int i t =>
    have q' : Q (.str (toString i)) H := by
      have z := q
      simp only [PyData.shown] at z
      exact z
    exact PySem.P.repr_of_int (by simpa [PyData.showable] using hs) ⟨.str (toString i), H, I.tok _, ⟨_, rfl⟩, q'⟩
  | str x t =>
    have q' : Q (.str (reprText x)) H := by
      have z := q
      simp only [PyData.shown] at z
      exact z
    exact PySem.P.repr_of_str ⟨.str (reprText x), H, I.tok _, ⟨_, rfl⟩, q'⟩ (by simpa only [PyData.shown] using hz)
  | list _ _ _ _ => exact ref _ rfl
  | tuple _ _ _ _ => exact ref _ rfl
  | dict _ _ _ _ _ => exact ref _ rfl
/-! ### a bound of what is shown -/
mutual
def wt : PyData → Nat
  | .none => 4
  | .bool _ => 5
  | .int _ => 1921
  | .str x => (reprText x).length
  | .list xs => wtAll xs + 2
  | .tuple xs => wtAll xs + 3
  | .dict kvs => wtKv kvs + 2
def wtAll : List PyData → Nat
  | [] => 0
  | x :: xs => wt x + 2 + wtAll xs
def wtKv : List (PyData × PyData) → Nat
  | [] => 0
  | (k, v) :: r => wt k + wt v + 4 + wtKv r
end
theorem listText_le (ts : List Str) : (listText ts).length ≤ piled ts + 2 := by
  cases ts with
  | nil => decide
  | cons t r =>
    have h1 : (listText (t :: r)).length = (textFrom 1 (("[" : Str) ++ (if (0 : Nat) > 0 then ", " else "" : String) ++ t) r).length + 1 := by
      show (textFrom 0 "[" (t :: r) ++ "]").length = _
      rw [strLen_append]
      rfl
    have h2 := textFrom_length_pos r 1 (("[" : Str) ++ (if (0 : Nat) > 0 then ", " else "" : String) ++ t) (Nat.succ_pos 0)
    have h3 : (("[" : Str) ++ (if (0 : Nat) > 0 then ", " else "" : String) ++ t).length = 1 + t.length := by
      rw [strLen_append, strLen_append]
      rfl
    rw [h1, h2, h3, piled_cons]
    omega
theorem join_le (ts : List Str) : (Str.join ", " ts).length ≤ piled ts := by
  by_cases h : ts = []
  · subst h
    decide
  · have := join_length_add ts h
    omega
theorem tupleText_le (ts : List Str) : (tupleText ts).length ≤ piled ts + 3 := by
  unfold tupleText
  rw [strLen_append, strLen_append]
  have e1 : ((("(" : String) : Str)).length = 1 := rfl
  have e3 : (((if ts.length == 1 then ",)" else ")" : String) : Str)).length ≤ 2 := by split <;> decide
  have := join_le ts
  omega
theorem dictText_le (ts : List Str) : (dictText ts).length ≤ piled ts + 2 := by
  unfold dictText
  rw [strLen_append, strLen_append]
  have e1 : ((("{" : String) : Str)).length = 1 := rfl
  have e2 : ((("}" : String) : Str)).length = 1 := rfl
  have := join_le ts
  omega
mutual
theorem shown_le : ∀ d : PyData, d.showable = true → d.shown.length ≤ wt d
  | .none, _ => by simp only [PyData.shown, wt]; decide
  | .bool b, _ => by cases b <;> simp only [PyData.shown, wt] <;> decide
  | .int i, h => by
    simp only [PyData.shown, wt]
    exact int_text_len_1921 (by simpa [PyData.showable] using h)
  | .str x, _ => by simp only [PyData.shown, wt]; exact Nat.le_refl _
  | .list xs, h => by
    simp only [PyData.shown, wt]
    have h1 := shownAll_le xs (by simpa [PyData.showable] using h)
    have := listText_le (PyData.shownAll xs)
    omega
  | .tuple xs, h => by
    simp only [PyData.shown, wt]
    have h1 := shownAll_le xs (by simpa [PyData.showable] using h)
    have := tupleText_le (PyData.shownAll xs)
    omega
  | .dict kvs, h => by
    simp only [PyData.shown, wt]
    have h1 := shownKv_le kvs (by simpa [PyData.showable] using h)
    have := dictText_le (PyData.shownKv kvs)
    omega
theorem shownAll_le : ∀ xs : List PyData, PyData.showableAll xs = true → piled (PyData.shownAll xs) ≤ wtAll xs
  | [], _ => by simp only [PyData.shownAll, wtAll]; decide
  | x :: xs, h => by
    have h' : x.showable = true ∧ PyData.showableAll xs = true := by simpa [PyData.showableAll] using h
    simp only [PyData.shownAll, wtAll]
    rw [piled_cons]
    have h1 := shown_le x h'.1
    have h2 := shownAll_le xs h'.2
    omega
theorem shownKv_le : ∀ kvs : List (PyData × PyData), PyData.showableKv kvs = true → piled (PyData.shownKv kvs) ≤ wtKv kvs
  | [], _ => by simp only [PyData.shownKv, wtKv]; decide
  | (k, v) :: r, h => by
    have h' : (k.showable = true ∧ v.showable = true) ∧ PyData.showableKv r = true := by simpa [PyData.showableKv] using h
    simp only [PyData.shownKv, wtKv]
    rw [piled_cons, strLen_append, strLen_append]
    have h1 := shown_le k h'.1.1
    have h2 := shown_le v h'.1.2
    have h3 := shownKv_le r h'.2
    have e : (((": " : String) : Str)).length = 2 := rfl
    omega
end
theorem shown_fits {d : PyData} (h : d.showable = true) (h2 : wt d ≤ sizeLine) : d.shown.length ≤ sizeLine := Nat.le_trans (shown_le d h) h2
end L2

set_option Elab.async false
set_option linter.all false
set_option maxRecDepth 100000
set_option maxHeartbeats 4000000
/-! VxX: the classes of errors of a program, each with an __init__ that stores its one or two fields; lists of new errors, lists of isinstance. -/
namespace L2
open PySem PySem.Spec PyProof.Rows
theorem PE.imp {X : Cx} {e : Expr} {t t' : TE} (h : PE X e t) (i : ∀ σ H Q, t' σ H Q → t σ H Q) : PE X e t' := ⟨fun pins s σ H Q I q => h.run pins s σ H Q I (i σ H Q q)⟩
theorem PA.imp {X : Cx} {es : List Expr} {t t' : TA} (h : PA X es t) (i : ∀ σ H Q, t' σ H Q → t σ H Q) : PA X es t' := ⟨fun pos pins s σ H Q I q => h.run pos pins s σ H Q I (i σ H Q q)⟩
theorem Same.refl' {H : Hp} : Same H H := fun _ _ e => e
theorem Same.tr {H H1 H2 : Hp} (a : Same H H1) (b : Same H1 H2) : Same H H2 := fun c o e => b c o (a c o e)
/-- self.f = v -/
def spIni (C : Addr) (f : Str) : Sp := fun vs H Q _ => ∃ (a : Addr) (v : V), vs = [.ref a, v] ∧ H a = some (exo a C none) ∧ ∀ dx, H dx = none → dx ≠ a → Q .non (upd (upd H dx (exd dx [(f, v)])) a (exo a C (some dx)))
/-- self.f = v; self.g = u -/
def spIni2 (C : Addr) (f g : Str) : Sp := fun vs H Q _ => ∃ (a : Addr) (v u : V), vs = [.ref a, v, u] ∧ H a = some (exo a C none) ∧ ∀ dx, H dx = none → dx ≠ a →
  Q .non (upd (upd (upd H dx (exd dx [(f, v)])) a (exo a C (some dx))) dx (exd dx [(g, u), (f, v)]))
theorem xnew1 {C : Addr} {f : Str} {v : V} {H : Hp} {Q : VK} (h : ∀ a H', H a = none → Same H H' → ExAt H' a C [(f, v)] → Q (.ref a) H') : XNew C (spIni C f) [v] H Q := fun a ha => by
  refine ⟨a, v, rfl, upd_same, fun dx n ne => ⟨rfl, dx, [(f, v)], upd_same, (by rw [upd_ne ne, upd_same]), ?_⟩⟩
  have hd : H dx = none := by rw [← n, upd_ne ne]
  refine h a _ ha (fun b o e => ?_) ⟨dx, ?_, upd_same⟩
  · rw [upd_ne (ne_of_none e hd), upd_ne (ne_of_none e ha), upd_ne (ne_of_none e ha), upd_ne (ne_of_none e hd), upd_ne (ne_of_none e ha)]
    exact e
  · rw [upd_ne ne.symm, upd_same]
theorem xnew2 {C : Addr} {f g : Str} {v u : V} {H : Hp} {Q : VK} (h : ∀ a H', H a = none → Same H H' → ExAt H' a C [(g, u), (f, v)] → Q (.ref a) H') : XNew C (spIni2 C f g) [v, u] H Q := fun a ha => by
  refine ⟨a, v, u, rfl, upd_same, fun dx n ne => ⟨rfl, dx, [(g, u), (f, v)], (by rw [upd_ne ne.symm, upd_same]), upd_same, ?_⟩⟩
  have hd : H dx = none := by rw [← n, upd_ne ne]
  refine h a _ ha (fun b o e => ?_) ⟨dx, ?_, upd_same⟩
  · rw [upd_ne (ne_of_none e hd), upd_ne (ne_of_none e ha), upd_ne (ne_of_none e hd), upd_ne (ne_of_none e ha), upd_ne (ne_of_none e hd), upd_ne (ne_of_none e ha)]
    exact e
  · rw [upd_ne ne.symm, upd_same]
/-- one class: its name, its field -/
structure XK1 (P : Program) (w : World) (K : PySem.W.Frag) (mg : Str → Option Value) (base : Heap) (x f : Str) (C : Addr) : Prop where
  T : Xc K C
  hm : mg x = some (.ref C)
  no : PySem.W.findIn K (.ref C) f = some none
  ex : ∃ (fI : Addr) (fd : FuncData), PySem.W.findIn K (.ref C) "__init__" = some (some (.ref fI)) ∧ PySem.W.typeIn K (.ref fI) = some (.type "function") ∧ FnOk P w K mg base CX0 1 fI fd ["self", f] (spIni C f) ∧ Binds K fd ["self", f] [] ∧
    ∀ (s : Shared) (a : Addr) (ws : List Value), K.In s.heap → ws.length = 1 → BindsTo s fd ⟨[Value.ref a], [f].zip ws⟩ ((["self", f] : List Str).zip (Value.ref a :: ws))
/-- a class with two fields -/
structure XK2 (P : Program) (w : World) (K : PySem.W.Frag) (mg : Str → Option Value) (base : Heap) (x f g : Str) (C : Addr) : Prop where
  T : Xc K C
  hm : mg x = some (.ref C)
  no : PySem.W.findIn K (.ref C) f = some none
  no2 : PySem.W.findIn K (.ref C) g = some none
  ex : ∃ (fI : Addr) (fd : FuncData), PySem.W.findIn K (.ref C) "__init__" = some (some (.ref fI)) ∧ PySem.W.typeIn K (.ref fI) = some (.type "function") ∧ FnOk P w K mg base CX0 1 fI fd ["self", f, g] (spIni2 C f g) ∧ Binds K fd ["self", f, g] [] ∧
    ∀ (s : Shared) (a : Addr) (ws : List Value), K.In s.heap → ws.length = 2 → BindsTo s fd ⟨[Value.ref a], [g, f].zip ws⟩ ((["self", f, g] : List Str).zip (Value.ref a :: ws.reverse))
/-- a new error of the class at C with the fields fs of the i-th slot's value -/
def tX1 (C : Addr) (fs : V → List (Str × V)) (i : Nat) : TE := fun σ H Q => ∃ v, σ[i]? = some (some v) ∧ ∀ a H', H a = none → Same H H' → ExAt H' a C (fs v) → Q (.ref a) H'
section
variable {X : Cx} {x f g : Str} {C : Addr} {p pos kp kp2 : Pos} {e e2 : Expr} {i : Nat} {z : Str} {ci : Int} {j1 j2 : Nat} {q1 q2 : Pos}
/-- C(name) -/
theorem pe_x1 (B : XK1 X.prog X.w X.K X.mg X.base x f C) (hr : Room 2 X.A) (hg : Gl X x) (he : PE X e (tVar i)) (hdb : (x == ("__debug__" : Str)) = false := by decide) (hs : starEach [e] X.env = (false, eval e X.env) :: starEach [] X.env := by rfl) :
    PE X (.Call (.Name x p) [e] [] pos) (tX1 C (fun v => [(f, v)]) i) := by
  obtain ⟨fI, fd, i1, i2, F, b, _⟩ := B.ex
  refine PE.imp (pe_xnew B.T i1 i2 F hr b pass0 hg B.hm (pa_cons he pa_nil hs) hdb hs rfl) fun σ H Q h => ?_
  obtain ⟨v, hv, k⟩ := h
  exact ⟨v, hv, (by show 1 ≤ 1000; decide), xnew1 k⟩
/-- C(name, 'text') -/
theorem pe_x2 (B : XK2 X.prog X.w X.K X.mg X.base x f g C) (hr : Room 2 X.A) (hg : Gl X x) (he : PE X e (tVar i)) (hdb : (x == ("__debug__" : Str)) = false := by decide)
    (hs : starEach [e, .Constant (.str z) j1 q1] X.env = (false, eval e X.env) :: starEach [.Constant (.str z) j1 q1] X.env := by rfl) :
    PE X (.Call (.Name x p) [e, .Constant (.str z) j1 q1] [] pos) (tX1 C (fun v => [(g, .str z), (f, v)]) i) := by
  obtain ⟨fI, fd, i1, i2, F, b, _⟩ := B.ex
  refine PE.imp (pe_xnew B.T i1 i2 F hr b pass0 hg B.hm (pa_cons he (pa_cons pe_str pa_nil) hs) hdb hs (by rfl)) fun σ H Q h => ?_
  obtain ⟨v, hv, k⟩ := h
  exact ⟨v, hv, (by show 2 ≤ 1000; decide), xnew2 k⟩
/-- C(f = name) -/
theorem pe_x1K (B : XK1 X.prog X.w X.K X.mg X.base x f C) (hr : Room 2 X.A) (hg : Gl X x) (he : PE X e (tVar i)) (hdb : (x == ("__debug__" : Str)) = false := by decide) :
    PE X (.Call (.Name x p) [] [⟨some f, e, kp⟩] pos) (tX1 C (fun v => [(f, v)]) i) := by
  obtain ⟨fI, fd, i1, i2, F, _, kb⟩ := B.ex
  refine PE.imp (pe_xnewK (ks := [f]) (g := fun ws => ws) (gV := fun zs => zs) B.T i1 i2 F hr (fun s a ws kin hl => kb s a ws kin hl) (fun r => r) pass0 hg B.hm (pk_cons he pk_nil) (by rfl) (by rfl) hdb (by rfl)) fun σ H Q h => ?_
  obtain ⟨v, hv, k⟩ := h
  exact ⟨v, hv, rfl, xnew1 k⟩
theorem vals_rev : ∀ {zs : List V} {ws : List Value}, Vals zs ws → Vals zs.reverse ws.reverse
  | _, _, .nil => .nil
  | _, _, .cons (a := a) (b := b) r t => by
    rw [List.reverse_cons, List.reverse_cons]
    exact (vals_rev t).append (.cons r .nil)
/-- C(g = 'text', f = name) -/
theorem pe_x2K (B : XK2 X.prog X.w X.K X.mg X.base x f g C) (hr : Room 2 X.A) (hg : Gl X x) (he : PE X e (tVar i)) (hdb : (x == ("__debug__" : Str)) = false := by decide) :
    PE X (.Call (.Name x p) [] [⟨some g, .Constant (.str z) j1 q1, kp⟩, ⟨some f, e, kp2⟩] pos) (tX1 C (fun v => [(g, .str z), (f, v)]) i) := by
  obtain ⟨fI, fd, i1, i2, F, _, kb⟩ := B.ex
  refine PE.imp (pe_xnewK (ks := [g, f]) (g := fun ws => ws.reverse) (gV := fun zs => zs.reverse) B.T i1 i2 F hr (fun s a ws kin hl => kb s a ws kin hl) (fun r => vals_rev r) pass0 hg B.hm (pk_cons pe_str (pk_cons he pk_nil)) (by rfl) (by rfl) hdb (by rfl)) fun σ H Q h => ?_
  obtain ⟨v, hv, k⟩ := h
  exact ⟨v, hv, rfl, xnew2 k⟩
/-- C(g = 'text', f = 0) -/
theorem pe_x2KC (B : XK2 X.prog X.w X.K X.mg X.base x f g C) (hr : Room 2 X.A) (hg : Gl X x) (hdb : (x == ("__debug__" : Str)) = false := by decide) :
    PE X (.Call (.Name x p) [] [⟨some g, .Constant (.str z) j1 q1, kp⟩, ⟨some f, .Constant (.int ci) j2 q2, kp2⟩] pos) (fun _ H Q => ∀ a H', H a = none → Same H H' → ExAt H' a C [(g, .str z), (f, .int ci)] → Q (.ref a) H') := by
  obtain ⟨fI, fd, i1, i2, F, _, kb⟩ := B.ex
  refine PE.imp (pe_xnewK (ks := [g, f]) (g := fun ws => ws.reverse) (gV := fun zs => zs.reverse) B.T i1 i2 F hr (fun s a ws kin hl => kb s a ws kin hl) (fun r => vals_rev r) pass0 hg B.hm (pk_cons pe_str (pk_cons pe_int pk_nil)) (by rfl) (by rfl) hdb (by rfl)) fun σ H Q h => ?_
  exact ⟨rfl, xnew2 h⟩
end
/-! ### lists of new errors -/
abbrev XSpec := Addr × (V → List (Str × V))
def Exs (H : Hp) (v : V) : List XSpec → List Addr → Prop
  | [], [] => True
  | c :: cs, a :: as => ExAt H a c.1 (c.2 v) ∧ Exs H v cs as
  | _, _ => False
theorem Exs.mono {H H' : Hp} {v : V} (s : Same H H') : ∀ {cs : List XSpec} {as : List Addr}, Exs H v cs as → Exs H' v cs as
  | [], [], _ => True.intro
  | _ :: _, _ :: _, h => ⟨h.1.mono s, Exs.mono s h.2⟩
  | [], _ :: _, h => h.elim
  | _ :: _, [], h => h.elim
theorem Exs.app {H : Hp} {v : V} : ∀ {cs ds : List XSpec} {as bs : List Addr}, Exs H v cs as → Exs H v ds bs → Exs H v (cs ++ ds) (as ++ bs)
  | [], _, [], _, _, h => h
  | _ :: _, _, _ :: _, _, h, k => ⟨h.1, Exs.app h.2 k⟩
  | [], _, _ :: _, _, h, _ => h.elim
  | _ :: _, _, [], _, h, _ => h.elim
theorem Exs.len {H : Hp} {v : V} : ∀ {cs : List XSpec} {as : List Addr}, Exs H v cs as → as.length = cs.length
  | [], [], _ => rfl
  | _ :: _, _ :: _, h => congrArg Nat.succ (Exs.len h.2)
  | [], _ :: _, h => h.elim
  | _ :: _, [], h => h.elim
theorem Exs.get {H : Hp} {v : V} : ∀ {cs : List XSpec} {as : List Addr} {j : Nat} {c : XSpec}, Exs H v cs as → cs[j]? = some c → ∃ a, as[j]? = some a ∧ ExAt H a c.1 (c.2 v)
  | [], [], _, _, _, e => by simp at e
  | c' :: _, a :: _, 0, c, h, e => by
    have ec : c' = c := by simpa using e
    exact ⟨a, rfl, by rw [← ec]; exact h.1⟩
  | _ :: _, _ :: _, j + 1, c, h, e => by
    obtain ⟨a, h1, h2⟩ := Exs.get (j := j) h.2 (by simpa using e)
    exact ⟨a, by simpa using h1, h2⟩
  | [], _ :: _, _, _, h, _ => h.elim
  | _ :: _, [], _, _, h, _ => h.elim
def tXs (cs : List XSpec) (i : Nat) : TA := fun σ H Q => ∃ v, σ[i]? = some (some v) ∧ ∀ (as : List Addr) H', Same H H' → Exs H' v cs as → Q (as.map V.ref) H'
section
variable {X : Cx} {e : Expr} {es : List Expr} {i : Nat} {C : Addr} {fs : V → List (Str × V)} {cs : List XSpec}
theorem pa_xn : PA X [] (tXs [] i) := PA.imp pa_nil fun σ H Q h => by
  obtain ⟨v, _, k⟩ := h
  exact k [] H Same.refl' True.intro
theorem pa_xc (he : PE X e (tX1 C fs i)) (hr : PA X es (tXs cs i)) (hs : starEach (e :: es) X.env = (false, eval e X.env) :: starEach es X.env := by rfl) : PA X (e :: es) (tXs ((C, fs) :: cs) i) := PA.imp (pa_cons he hr hs) fun σ H Q h => by
  obtain ⟨v, hv, k⟩ := h
  exact ⟨v, hv, fun a H1 _ s1 x1 => ⟨v, hv, fun as H2 s2 x2 => k (a :: as) H2 (s1.tr s2) ⟨x1.mono s2, x2⟩⟩⟩
end
/-! ### lists of isinstance(e, C), e in the slot i, of the class at D -/
def tIss (D : Addr) (bs : List Bool) (i : Nat) : TA := fun σ H Q => ∃ (a : Addr) (fs : List (Str × V)), σ[i]? = some (some (.ref a)) ∧ ExAt H a D fs ∧ Q (bs.map V.bl) H
section
variable {X : Cx} {e : Expr} {es : List Expr} {i : Nat} {D : Addr} {x n : Str} {p1 p2 p3 pos : Pos} {b : Bool} {bs : List Bool}
theorem pe_is1 {C : Addr} (T : Xc X.K D) (hi : Gl X "isinstance") (mi : X.mg "isinstance" = none) (he : PE X e (tVar i)) (hg : Gl X x) (hm : X.mg x = some (.ref C)) (kit : PySem.W.kitOne X.K (.ref D) (.ref C) = some b)
    (hs : starEach [e, .Name x p2] X.env = (false, eval e X.env) :: starEach [.Name x p2] X.env := by rfl) (hpl : (backTo pos (starEach [.Name x p2] X.env)).any (·.1) = false := by rfl) (hd : (x == ("__debug__" : Str)) = false := by decide) :
    PE X (.Call (.Name "isinstance" p1) [e, .Name x p2] [] pos) (fun σ H Q => ∃ (a : Addr) (fs : List (Str × V)), σ[i]? = some (some (.ref a)) ∧ ExAt H a D fs ∧ Q (.bl b) H) :=
  PE.imp (pe_callB call_isX hi mi (by decide +kernel) (pa_cons he (pa_cons (pe_glob (v := .ref C) hg hm rfl hd) pa_nil) hs) (by decide) (by decide) hs hpl) fun σ H Q h => by
    obtain ⟨a, fs, h1, h2, k⟩ := h
    exact ⟨_, h1, a, D, fs, .ref C, .ref C, b, rfl, h2, T, fun u r => r, kit, k⟩
/-- a built-in class -/
theorem pe_is1T {t : String} (T : Xc X.K D) (hi : Gl X "isinstance") (mi : X.mg "isinstance" = none) (he : PE X e (tVar i)) (hg : Gl X x) (hm : X.mg x = none) (hv : bootBuiltins x = some (.type t)) (kit : PySem.W.kitOne X.K (.ref D) (.type t) = some b) (hn : x ≠ "__name__" := by decide)
    (hs : starEach [e, .Name x p2] X.env = (false, eval e X.env) :: starEach [.Name x p2] X.env := by rfl) (hpl : (backTo pos (starEach [.Name x p2] X.env)).any (·.1) = false := by rfl) (hd : (x == ("__debug__" : Str)) = false := by decide) :
    PE X (.Call (.Name "isinstance" p1) [e, .Name x p2] [] pos) (fun σ H Q => ∃ (a : Addr) (fs : List (Str × V)), σ[i]? = some (some (.ref a)) ∧ ExAt H a D fs ∧ Q (.bl b) H) :=
  PE.imp (pe_callB call_isX hi mi (by decide +kernel) (pa_cons he (pa_cons (pe_bltn (v := .ty t) hg hm hv rfl hn hd) pa_nil) hs) (by decide) (by decide) hs hpl) fun σ H Q h => by
    obtain ⟨a, fs, h1, h2, k⟩ := h
    exact ⟨_, h1, a, D, fs, .ty t, .type t, b, rfl, h2, T, fun u r => r, kit, k⟩
theorem pa_isn : PA X [] (tIss D [] i) := PA.imp pa_nil fun σ H Q h => by
  obtain ⟨a, fs, _, _, k⟩ := h
  exact k
theorem pa_isc (he : PE X e (fun σ H Q => ∃ (a : Addr) (fs : List (Str × V)), σ[i]? = some (some (.ref a)) ∧ ExAt H a D fs ∧ Q (.bl b) H)) (hr : PA X es (tIss D bs i)) (hs : starEach (e :: es) X.env = (false, eval e X.env) :: starEach es X.env := by rfl) :
    PA X (e :: es) (tIss D (b :: bs) i) := PA.imp (pa_cons he hr hs) fun σ H Q h => by
  obtain ⟨a, fs, h1, h2, k⟩ := h
  exact ⟨a, fs, h1, h2, a, fs, h1, h2, k⟩
end
end L2

set_option Elab.async false
set_option linter.all false
set_option maxRecDepth 100000
set_option maxHeartbeats 4000000
/-! VxY: generators of the program whose consumer owns some objects (a list, a comprehension's names) that change while the generator sleeps. What a run hands out is told beforehand (xs); j of it are out. -/
namespace L2
open PySem PySem.Spec PyProof.Rows GenW
/-- while the generator sleeps: the consumer's own objects may change, all else stays -/
structure Zzz (Z : List Addr) (s s' : Shared) : Prop where
  os : s'.os = s.os
  bare : AllBare s'.gens
  keep : ∀ b o, b ∉ Z → s.heap.get? b = some o → s'.heap.get? b = some o
  own : ∀ z ∈ Z, ∃ o, s'.heap.get? z = some o ∧ ∀ v, o.data ≠ .cell v
/-- the consumer's objects lie apart of the generator's frame -/
def Aside (X : Cx) (Z : List Addr) : Prop := ∀ z ∈ Z, X.s_0.heap.objs.size ≤ z ∧ z ≠ X.env.locals ∧ (∀ x c, X.env.cells.lookup x = some c → c ≠ z) ∧ ∀ p ∈ X.pn, p.1 ≠ z
/-- running: the consumer's objects stand as they stood when it was woken (s₀) -/
def YRun (X : Cx) (Z : List Addr) (ip : List (Addr × Obj)) (σ : L2.St) (H : Hp) (s₀ s : Shared) : Prop :=
  ∃ zp : List (Addr × Obj), zp.map (·.1) = Z ∧ (∀ p ∈ zp, s₀.heap.get? p.1 = some p.2) ∧ Inv X (zp ++ ip) σ H s
theorem snap {h : Heap} : ∀ {Z : List Addr}, (∀ z ∈ Z, ∃ o, h.get? z = some o ∧ ∀ v, o.data ≠ .cell v) → ∃ zp : List (Addr × Obj), zp.map (·.1) = Z ∧ ∀ p ∈ zp, h.get? p.1 = some p.2 ∧ ∀ v, p.2.data ≠ .cell v
  | [], _ => ⟨[], rfl, fun _ m => (List.not_mem_nil m).elim⟩
  | z :: Z, h1 => by
    obtain ⟨o, e1, e2⟩ := h1 z List.mem_cons_self
    obtain ⟨zp, f1, f2⟩ := snap (Z := Z) fun y hy => h1 y (List.mem_cons_of_mem _ hy)
    refine ⟨(z, o) :: zp, by rw [List.map_cons, f1], fun p m => ?_⟩
    rcases List.mem_cons.mp m with m | m
    · rw [m]
      exact ⟨e1, e2⟩
    · exact f2 p m
section
variable {X : Cx} {Z : List Addr} {ip : List (Addr × Obj)} {σ : L2.St} {H : Hp} {s₀ s s' : Shared}
theorem YRun.at {z : Addr} (r : YRun X Z ip σ H s₀ s) (hz : z ∈ Z) : H z = none ∧ z ∉ X.fs ∧ ∃ o, s₀.heap.get? z = some o ∧ s.heap.get? z = some o := by
  obtain ⟨zp, rfl, e2, I⟩ := r
  obtain ⟨p, hp, rfl⟩ := List.mem_map.mp hz
  obtain ⟨i1, i2, i3, i4, i5⟩ := I.pin p (List.mem_append_right _ (List.mem_append_left _ hp))
  exact ⟨i2, i4, p.2, e2 p hp, i1⟩
theorem YRun.inv (r : YRun X Z ip σ H s₀ s) : Inv X ip σ H s := by
  obtain ⟨zp, _, _, I⟩ := r
  exact I.pins_of fun p hp => I.pin p (List.mem_append_right _ (List.mem_append_right _ hp))
/-- woken again -/
theorem YRun.woken (hA : Aside X Z) (hip : ∀ p ∈ ip, p.1 ∉ Z) (r : YRun X Z ip σ H s₀ s) (w : Zzz Z s s') : YRun X Z ip σ H s' s' := by
  have at_ := fun z (hz : z ∈ Z) => r.at hz
  have I := r.inv
  obtain ⟨zp', f1, f2⟩ := snap w.own
  obtain ⟨w1, w2, w3, w4⟩ := w
  have nz : ∀ b u, H b = some u → b ∉ Z := fun b u q hb => by
    rw [(at_ b hb).1] at q
    cases q
  obtain ⟨hh, g, d, t, o⟩ := s'
  have ho : o = s.os := w1
  subst ho
  have J : Inv X ip σ H { s with heap := hh, gens := g, drawn := d, toks := t } := by
    refine I.step (ch := Z) (fun b hb => ?_) (fun b ob _ _ hc q _ => w3 b ob hc q) (fun b ob _ _ hc q _ => ⟨ob.slots, w3 b ob hc q⟩) (fun _ _ _ _ n => n) (fun b ob hc q => ⟨ob, w3 b ob hc q⟩)
      (fun _ _ q => q) (fun _ _ _ q => q) (fun b ps q => ⟨#[], by rw [q]; simp⟩) (fun m hm => ?_) (fun b u q => ?_) w2
    · obtain ⟨a1, a2, a3, a4⟩ := hA b hb
      refine ⟨.inr a1, a2, a3, fun p hp => ?_⟩
      rcases List.mem_append.mp hp with hp | hp
      · exact a4 p hp
      · exact fun e => hip p hp (by rw [e]; exact hb)
    · obtain ⟨ob, es, ep, ho, rr⟩ := hm
      exact ⟨ob, es, ep, w3 _ ob (fun z => (hA _ z).2.1 rfl) ho, rr⟩
    · refine (I.hok b u q).stay (fun c v hc y => w3 c v ?_ y) (fun _ y => y) fun _ _ y => y
      rcases hc with y | y
      · rw [y]
        exact nz b u q
      · exact nz c _ y
  refine ⟨zp', f1, fun p hp => (f2 p hp).1, J.pins_of fun p hp => ?_⟩
  rcases List.mem_append.mp hp with hp | hp
  · have hz : p.1 ∈ Z := by
      rw [← f1]
      exact List.mem_map.mpr ⟨p, hp, rfl⟩
    exact ⟨(f2 p hp).1, (at_ _ hz).1, (hA _ hz).2.1, (at_ _ hz).2.1, (f2 p hp).2⟩
  · exact J.pin p (List.mem_append_right _ hp)
end
/-! ### the protocol -/
def YP (X : Cx) (Z : List Addr) (xs : List V) : Protocol := fun n s₀ v s kap =>
  ∃ j x ip σ H, n + 1 + j = xs.length ∧ xs[j]? = some x ∧ RelV x v ∧ YRun X Z ip σ H s₀ s ∧ ∀ s', Zzz Z s s' → kap (.send .none) s'
def YR (X : Cx) (Z : List Addr) (xs : List V) (Q : VK) (F : Value → Shared → Prop) : GenEnd := fun n s₀ r s => match r with
  | .ok (.ret u) => ∃ v ip σ H, n = 0 ∧ YRun X Z ip σ H s₀ s ∧ RelV v u ∧ Q v H
  | .ok _ => False
  | .error e => F e s
structure YEnds where
  nx : Nat → L2.St → Hp → Prop
  rt : Nat → VK
  bk : Nat → L2.St → Hp → Prop := fun _ _ _ => False
  ct : Nat → L2.St → Hp → Prop := fun _ _ _ => False
abbrev TY := YEnds → Nat → L2.St → Hp → Prop
def YSP (X : Cx) (Z : List Addr) (ip : List (Addr × Obj)) (D : YEnds) (j : Nat) (s₀ : Shared) (f : Flow) (s : Shared) : Prop :=
  match f with
  | .next => ∃ σ H, YRun X Z ip σ H s₀ s ∧ D.nx j σ H
  | .brk => ∃ σ H, YRun X Z ip σ H s₀ s ∧ D.bk j σ H
  | .cont => ∃ σ H, YRun X Z ip σ H s₀ s ∧ D.ct j σ H
  | .ret u => ∃ v σ H, YRun X Z ip σ H s₀ s ∧ RelV v u ∧ D.rt j v H
/-- where the generator's code stands -/
structure YC (X : Cx) (Z : List Addr) (ip : List (Addr × Obj)) (A : Around) (c : Code) (fs : List Frame) (gd : Bool → Bool) : Prop where
  ip : ∀ p ∈ ip, p.1 ∉ Z
  aside : Aside X Z
  over : A.over c fs = X.A
  split : splitAtGen fs = none
  guard : fs.any Frame.guarded = false
  gd : gd false = false
structure YK (X : Cx) (Z : List Addr) (xs : List V) (ip : List (Addr × Obj)) (A : Around) (R : GenEnd) (c : Code) (fs : List Frame) (K : Flow → Sem PySem.Fin) (J : Value → Sem PySem.Fin) (D : YEnds) : Prop where
  ok : ∀ (n j : Nat) (s₀ s : Shared) (f : Flow), n + j = xs.length → YSP X Z ip D j s₀ f s → Seg (model X.prog X.w) A R (YP X Z xs) n s₀ c (K f) fs s
  exc : ∀ (n : Nat) (s₀ : Shared) (e : Value) (s : Shared), X.xe e s → Seg (model X.prog X.w) A R (YP X Z xs) n s₀ c (J e) fs s
structure YS (X : Cx) (xs : List V) (st : Stmt) (t : TY) : Prop where
  run : ∀ (A : Around) (Z : List Addr) (ip : List (Addr × Obj)) (R : GenEnd) (n j : Nat) (s₀ : Shared) (c : Code) (fs : List Frame) (K : Flow → Sem PySem.Fin) (J : Value → Sem PySem.Fin) (gd : Bool → Bool) (lv : List Value → List Value) (s : Shared) (σ : L2.St) (H : Hp) (D : YEnds),
    YC X Z ip A c fs gd → n + j = xs.length → YK X Z xs ip A R c fs K J D → YRun X Z ip σ H s₀ s → t D j σ H → Seg (model X.prog X.w) A R (YP X Z xs) n s₀ c ((exec st X.env).wrap K J gd lv) fs s
structure YSs (X : Cx) (xs : List V) (st : List Stmt) (t : TY) : Prop where
  run : ∀ (A : Around) (Z : List Addr) (ip : List (Addr × Obj)) (R : GenEnd) (n j : Nat) (s₀ : Shared) (c : Code) (fs : List Frame) (K : Flow → Sem PySem.Fin) (J : Value → Sem PySem.Fin) (gd : Bool → Bool) (lv : List Value → List Value) (s : Shared) (σ : L2.St) (H : Hp) (D : YEnds),
    YC X Z ip A c fs gd → n + j = xs.length → YK X Z xs ip A R c fs K J D → YRun X Z ip σ H s₀ s → t D j σ H → Seg (model X.prog X.w) A R (YP X Z xs) n s₀ c ((execs st X.env).wrap K J gd lv) fs s
section
variable {X : Cx} {xs : List V} {st : Stmt} {rest : List Stmt}
def YEnds.at (D : YEnds) (j : Nat) : Ends := { nx := D.nx j, rt := D.rt j, bk := D.bk j, ct := D.ct j }
theorem ysp_of {Z : List Addr} {ip zp : List (Addr × Obj)} {D : YEnds} {j : Nat} {s₀ s : Shared} {f : Flow} (e1 : zp.map (·.1) = Z) (e2 : ∀ p ∈ zp, s₀.heap.get? p.1 = some p.2) (h : SP X (zp ++ ip) (D.at j) f s) : YSP X Z ip D j s₀ f s := by
  match f, h with
  | .next, ⟨σ, H, I, q⟩ => exact ⟨σ, H, ⟨zp, e1, e2, I⟩, q⟩
  | .brk, ⟨σ, H, I, q⟩ => exact ⟨σ, H, ⟨zp, e1, e2, I⟩, q⟩
  | .cont, ⟨σ, H, I, q⟩ => exact ⟨σ, H, ⟨zp, e1, e2, I⟩, q⟩
  | .ret u, ⟨v, σ, H, I, r, q⟩ => exact ⟨v, σ, H, ⟨zp, e1, e2, I⟩, r, q⟩
/-- a statement that hands out nothing -/
theorem ys_ps {t : TS} (h : PS X st t) : YS X xs st (fun D j σ H => t (D.at j) σ H) := by
  refine ⟨fun A Z ip R n j s₀ c fs K J gd lv s σ H D g hn k r ht => ?_⟩
  obtain ⟨zp, e1, e2, I⟩ := r
  refine seg_wrap ?_
  rw [g.over]
  exact wpAny_mono (h.run _ s σ H (D.at j) I ht) (fun f s' q => k.ok n j s₀ s' f hn (ysp_of e1 e2 q)) fun x s' q => k.exc n s₀ x s' q
theorem yss_nil : YSs X xs [] (fun D j σ H => D.nx j σ H) :=
  ⟨fun A Z ip R n j s₀ c fs K J gd lv s σ H D g hn k r ht => seg_execs_nil (k.ok n j s₀ s .next hn ⟨σ, H, r, ht⟩)⟩
theorem yss_cons {t u : TY} (a : YS X xs st t) (b : YSs X xs rest u) : YSs X xs (st :: rest) (fun D j σ H => t { D with nx := fun j' σ' H' => u D j' σ' H' } j σ H) := by
  refine ⟨fun A Z ip R n j s₀ c fs K J gd lv s σ H D g hn k r ht => seg_execs_cons (a.run A Z ip R n j s₀ c fs _ J gd lv s σ H { D with nx := fun j' σ' H' => u D j' σ' H' } g hn ⟨fun n' j' s₁ s' f hn' hs => ?_, k.exc⟩ r ht)⟩
  match f, hs with
  | .next, ⟨σ', H', r', q⟩ => exact b.run A Z ip R n' j' s₁ c fs K J gd lv s' σ' H' D g hn' k r' q
  | .brk, hs => exact k.ok n' j' s₁ s' .brk hn' hs
  | .cont, hs => exact k.ok n' j' s₁ s' .cont hn' hs
  | .ret u, hs => exact k.ok n' j' s₁ s' (.ret u) hn' hs
/-- yield e -/
theorem ys_yield {e : Expr} {yp pos : Pos} {te : TE} (he : PE X e te) (hco : X.env.scope.isCoroutine = false := by rfl) (hi : interactive X.env = false := by rfl) :
    YS X xs (.Expr (.Yield (some e) yp) pos) (fun D j σ H => j < xs.length ∧ te σ H fun x H1 => xs[j]? = some x ∧ D.nx (j + 1) σ H1) := by
  refine ⟨fun A Z ip R n j s₀ c fs K J gd lv s σ H D g hn k r ht => ?_⟩
  obtain ⟨hlt, ht⟩ := ht
  obtain ⟨zp, e1, e2, I⟩ := r
  obtain ⟨m, rfl⟩ : ∃ m, n = m + 1 := ⟨n - 1, by omega⟩
  refine seg_Expr_Yield g.split g.gd g.guard ?_ hco hi
  rw [g.over]
  refine wpAny_mono (he.run _ s σ H _ I ht) (fun v s' hv => ?_) fun x s' q => k.exc _ s₀ x s' q
  obtain ⟨x, H1, I1, rv, hx, q⟩ := hv
  intro kap hk
  have r1 : YRun X Z ip σ H1 s₀ s' := ⟨zp, e1, e2, I1⟩
  exact ⟨j, x, ip, σ, H1, hn, hx, rv, r1, fun s2 z => hk .none s2 (k.ok m (j + 1) s2 s2 .next (by omega) ⟨σ, H1, r1.woken g.aside g.ip z, q⟩)⟩
/-! ### yield from -/
theorem seg_from {Z : List Addr} {ip : List (Addr × Obj)} {A : Around} {R : GenEnd} {fs : List Frame} {it : Addr} {ys : List V} {St : Nat → Heap → Prop} {σ : L2.St} {H : Hp} {j0 : Nat} (hip : ∀ p ∈ ip, p.1 ∉ Z) (hpi : ∀ p ∈ X.pn ++ ip, p.1 ≠ it) (hA : Aside X Z)
    (hex : it ∈ X.ex ∨ X.s_0.heap.objs.size ≤ it) (hL : it ≠ X.env.locals) (hcell : ∀ x c, X.env.cells.lookup x = some c → c ≠ it) (hZ : it ∉ Z) (hH : H it = none) (q : QIt X H it ys St)
    (ho : (A.over (.builtin "proto.yield_from" ⟨[.ref it, .bool false, .none], []⟩) fs).handled = none) (hsp : splitAtGen fs = none) (hgd : fs.any Frame.guarded = false) (hxs : ∀ i y, ys[i]? = some y → xs[j0 + i]? = some y)
    (hend : ∀ (n : Nat) (s₀ s : Shared), n + (j0 + ys.length) = xs.length → YRun X Z ip σ H s₀ s → Seg (model X.prog X.w) A R (YP X Z xs) n s₀ (.builtin "proto.yield_from" ⟨[.ref it, .bool false, .none], []⟩) (.pure (.done (.ret .none))) fs s) :
    ∀ (r i n : Nat) (s₀ s : Shared), i + r = ys.length → n + (j0 + i) = xs.length → YRun X Z ip σ H s₀ s → St i s.heap →
      Seg (model X.prog X.w) A R (YP X Z xs) n s₀ (.builtin "proto.yield_from" ⟨[.ref it, .bool false, .none], []⟩) ((model X.prog X.w).den (.builtin "proto.yield_from" ⟨[.ref it, .bool false, .none], []⟩)) fs s := by
  obtain ⟨T, tyT, noClose, noGen⟩ := q.ty
  -- the iterator has turned
  have turned : ∀ {s₀ s : Shared} {h' : Heap} {tk : Nat}, YRun X Z ip σ H s₀ s → (∀ b o, b ≠ it → s.heap.get? b = some o → h'.get? b = some o) → YRun X Z ip σ H s₀ { s with heap := h', toks := tk } := by
    intro s₀ s h' tk r hk
    obtain ⟨zp, e1, e2, I⟩ := r
    refine ⟨zp, e1, e2, I.turned (it := it) hk hH hL hex hcell fun p hp => ?_⟩
    rcases List.mem_append.mp hp with hp | hp
    · exact hpi p (List.mem_append_left _ hp)
    · rcases List.mem_append.mp hp with hp | hp
      · intro e
        refine hZ ?_
        rw [← e, ← e1]
        exact List.mem_map.mpr ⟨p, hp, rfl⟩
      · exact hpi p (List.mem_append_right _ hp)
  intro r
  induction r with
  | zero =>
    intro i n s₀ s hi hn rr hst
    obtain rfl : i = ys.length := by omega
    rw [den_yf]
    unfold Builtin.«proto.yield_from»
    try dsimp only
    refine seg_bind (wpAny_pure ?_)
    try dsimp only
    refine seg_bind (wpAny_attempt (wpAny_holding ?_))
    rw [if_neg Bool.false_ne_true, if_pos (show (Value.none == Value.none) = true from rfl)]
    refine wpAny_bind (wpAny_rule (wpAny_bind (q.done _ s _ _ ho hst fun e h' tk stop hk => ?_)))
    obtain ⟨a, o, vs, rfl, oa, oc, od, o5⟩ := stop
    try dsimp only
    refine seg_bind (wpAny_endsTurn oa oc ?_)
    try dsimp only
    rw [if_pos rfl]
    first
      | refine seg_bind (wpAny_rule ?_)
      | (rw [if_neg Bool.false_ne_true]; refine seg_bind (wpAny_rule ?_))
      | (rw [if_neg Bool.false_ne_true]; refine seg_bind (wpAny_pure ?_); refine seg_bind (wpAny_rule ?_))
    exact seg_bind (wpAny_field oa od o5 (hend n s₀ _ hn (turned rr hk)))
  | succ r ih =>
    intro i n s₀ s hi hn rr hst
    obtain ⟨x, hx⟩ : ∃ x, ys[i]? = some x := ⟨_, List.getElem?_eq_getElem (by omega)⟩
    have hx2 := hxs i x hx
    have hlt := (List.getElem?_eq_some_iff.mp hx2).1
    obtain ⟨m, rfl⟩ : ∃ m, n = m + 1 := ⟨n - 1, by omega⟩
    rw [den_yf]
    unfold Builtin.«proto.yield_from»
    try dsimp only
    refine seg_bind (wpAny_pure ?_)
    try dsimp only
    refine seg_bind (wpAny_attempt (wpAny_holding ?_))
    rw [if_neg Bool.false_ne_true, if_pos (show (Value.none == Value.none) = true from rfl)]
    refine wpAny_bind (wpAny_rule (wpAny_bind (q.item _ i x s _ _ ho hx hst fun v h' tk rv hst' hk => wpAny_pure ?_)))
    have r1 := turned (tk := tk) rr hk
    obtain ⟨oi, hoi, hoc⟩ := tyT (i + 1) h' hst'
    try dsimp only
    refine seg_bind (wpAny_typeOf (T := T) ⟨oi, hoi, hoc⟩ ?_)
    try dsimp only
    first
      | (refine seg_bind (wpAny_of_eq noClose ?_); refine seg_bind (wpAny_pure ?_))
      | refine seg_bind (wpAny_bind (wpAny_of_eq noClose (wpAny_pure ?_)))
      | refine seg_bind (wpAny_of_eq noClose ?_)
    try dsimp only
    refine seg_bind (wpAny_sleptOver hoi hoc noGen (seg_yield hsp rfl hgd ⟨j0 + i, x, ip, σ, H, by omega, hx2, rv, r1, fun s2 z => ?_⟩))
    have r2 := r1.woken hA hip z
    have st2 : St (i + 1) s2.heap := q.frame (i + 1) h' s2.heap hst' fun b o hb e => z.keep b o (fun hm => by
      rcases hb with y | y
      · rw [y] at hm
        exact hZ hm
      · exact y (r1.at hm).1) e
    obtain ⟨oj, hoj, hojc⟩ := tyT (i + 1) s2.heap st2
    show Seg _ _ _ _ m s2 _ (Builtin.Generator.sleptOver (.ref it) false >>= fun _ => _) fs s2
    refine seg_bind (wpAny_sleptOver hoj hojc noGen ?_)
    try dsimp only
    exact seg_bind (wpAny_pure (seg_again (plainId_quiet plain_yf _) (ih (i + 1) m s2 s2 (by omega) (by omega) r2 st2)))
theorem ys_from {e : Expr} {yp pos : Pos} {t : TYf} (he : YfE X e t) (hc : X.A.handled = none) (hi : interactive X.env = false := by rfl) :
    YS X xs (.Expr (.YieldFrom e yp) pos) (fun D j σ H => t σ H fun ys H1 => (∀ i y, ys[i]? = some y → xs[j + i]? = some y) ∧ D.nx (j + ys.length) σ H1) := by
  refine ⟨fun A Z ip R n j s₀ c fs K J gd lv s σ H D g hn k r ht => ?_⟩
  obtain ⟨zp, e1, e2, I⟩ := r
  rw [exec_Expr X.env _ pos hi rfl]
  show Seg _ _ _ _ n s₀ c (.at pos fun _ => ((eval e X.env >>= fun v => (standAt yp >>= fun _ => yieldFrom X.env v)) >>= fun x => dropValue (.YieldFrom e yp) pos x).wrap K J gd lv) fs s
  refine seg_at (segw_bind2 ?_)
  rw [g.over]
  refine wpAny_mono (he.run _ s σ H _ I ht) (fun v s1 hv => ?_) fun x s' q => k.exc n s₀ x s' q
  obtain ⟨T, hT, hne, hit⟩ := hv
  refine seg_at ?_
  show Seg _ _ _ _ n s₀ c ((yieldFrom X.env v).wrap (fun b => (dropValue (.YieldFrom e yp) pos b).wrap K J gd lv) J gd lv) fs s1
  unfold yieldFrom
  refine seg_bind_wrap (wpAny_typeOf hT ?_)
  rw [if_neg (show ¬ ((Value.type T == Value.type "coroutine") = true) by rw [hne]; exact Bool.false_ne_true)]
  refine seg_bind_wrap (wpAny_holding ?_)
  rw [g.over]
  refine wpAny_mono hit (fun u s2 hu => ?_) fun x s' q => k.exc n s₀ x s' q
  obtain ⟨it, H', ys, St, rfl, I2, q1, q2, q3, q4, q5, q6, q7, hxs, hq⟩ := hu
  have r2 : YRun X Z ip σ H' s₀ s2 := ⟨zp, e1, e2, I2⟩
  have hZ : it ∉ Z := fun hm => by
    rw [← e1] at hm
    obtain ⟨p, hp, e⟩ := List.mem_map.mp hm
    exact q5 p (List.mem_append_right _ (List.mem_append_left _ hp)) e
  refine seg_call fun p => seg_from (ys := ys) (j0 := j) g.ip (fun p hp => ?_) g.aside q1 q2 q3 hZ q4 q7 ?_ ?_ ?_ hxs (fun n' s₁ s' hn' r' => ?_) ys.length 0 n s₀ s2 (Nat.zero_add _) hn r2 q6
  · rcases List.mem_append.mp hp with hp | hp
    · exact q5 p (List.mem_append_left _ hp)
    · exact q5 p (List.mem_append_right _ (List.mem_append_right _ hp))
  · show (A.over c fs).handled = none
    rw [g.over]
    exact hc
  · show (splitAtGen fs).map _ = none
    rw [g.split] <;> rfl
  · show (gd false || fs.any Frame.guarded) = false
    rw [g.gd, g.guard] <;> rfl
  · exact seg_leaf (.ok (.ret .none)) (k.ok n' (j + ys.length) s₁ s' .next hn' ⟨σ, H', r', hq⟩)
end
end L2

set_option Elab.async false
set_option linter.all false
set_option maxRecDepth 100000
set_option maxHeartbeats 800000
/-! VxZ: a generator def's promise by its body; its call. -/
namespace L2
open PySem PySem.Spec PyProof.Rows GenW
/-- arguments, heap, what will be handed out, what is wanted at the end, exceptions -/
abbrev SpY := List V → Hp → List V → (Hp → Prop) → XK → Prop
/-- the consumer's objects are as they were at the waking -/
def Still (Z : List Addr) (H : Hp) (s₀ s : Shared) : Prop := ∀ z ∈ Z, H z = none ∧ ∃ o, s₀.heap.get? z = some o ∧ s.heap.get? z = some o
def YEnd (P : Program) (w : World) (outer : List Env) (H : Hp) (s : Shared) (Z : List Addr) (a : Addr) (g : Nat) (Q : Hp → Prop) (E : XK) : GenEnd := fun n s₀ r s1 =>
  ((r = .ok (.ret .none) ∨ r = .ok .next) ∧ ∃ H', n = 0 ∧ s1.os = s.os ∧ AllBare s1.gens ∧ Un (frs outer) [] H H' s.heap s1.heap ∧ HOk P w H' s1.heap ∧ Still Z H' s₀ s1 ∧ Q H') ∨
  ∃ e, r = .error e ∧ CX P w outer H s E e s1 ∧ s1.heap.IsGen a g
def YItm (P : Program) (w : World) (outer : List Env) (H : Hp) (s : Shared) (Z : List Addr) (a : Addr) (g : Nat) (xs : List V) : Protocol := fun n s₀ v s1 kap =>
  ∃ j x H', n + 1 + j = xs.length ∧ xs[j]? = some x ∧ RelV x v ∧ s1.os = s.os ∧ AllBare s1.gens ∧ s1.heap.NoLimit ∧ s1.heap.IsGen a g ∧ Un (frs outer) [] H H' s.heap s1.heap ∧ HOk P w H' s1.heap ∧ Still Z H' s₀ s1 ∧
    ∀ s', Zzz Z s1 s' → kap (.send .none) s'
/-- a generator that has not begun -/
def YMade (P : Program) (w : World) (k : Nat) (outer : List Env) (H : Hp) (s : Shared) (xs : List V) (Q : Hp → Prop) (E : XK) (u : Value) (s' : Shared) : Prop :=
  ∃ (a : Addr) (g : Nat) (c : Code), u = .ref a ∧ s.heap.objs.size ≤ a ∧ a < s'.heap.objs.size ∧ s'.heap.IsGen a g ∧ s'.gens[g]? = some (.fresh c) ∧ s'.os = s.os ∧ AllBare s'.gens ∧ s'.heap.NoLimit ∧ (∀ b o, s.heap.get? b = some o → s'.heap.get? b = some o) ∧
    ∀ (A : Around) (Z : List Addr) (s2 : Shared), Room k A → A.frames = some outer → (∀ z ∈ Z, s'.heap.objs.size ≤ z ∧ ∃ o, s2.heap.get? z = some o ∧ ∀ v, o.data ≠ .cell v) → (∀ b o, s'.heap.get? b = some o → s2.heap.get? b = some o) → s2.os = s.os → AllBare s2.gens →
      Seg (model P w) A (YEnd P w outer H s Z a g Q E) (YItm P w outer H s Z a g xs) xs.length s2 c ((model P w).den c) [] s2
structure YDef (P : Program) (w : World) (K : PySem.W.Frag) (mg : Str → Option Value) (base : Heap) (k : Nat) (f : Addr) (fd : FuncData) (ps : List Str) (sp : SpY) : Prop where
  len : ∀ vs H xs Q E, sp vs H xs Q E → vs.length = ps.length
  run : ∀ (A : Around) (outer : List Env) (s : Shared) (H : Hp) (args : Args) (us : List Value) (vs xs : List V) (Q : Hp → Prop) (E : XK), Room k A → Env0 P w K mg base A outer s H → BindsTo s fd args (ps.zip us) → Vals vs us → sp vs H xs Q E →
    codeAny (model P w) A (.call (.ref f) args) (fun r s' => match r with | .ok (.ret u) => YMade P w k outer H s xs Q E u s' | _ => False) s
/-- the rule: such a def, by its body -/
theorem FunD.okY {P : Program} {w : World} {K : PySem.W.Frag} {mg : Str → Option Value} {base : Heap} {k : Nat} {f : Addr} {fd : FuncData} {x qual : Str} {params : Arguments} {body : List Stmt} {scope : Scope} {dvs : List V} {kws : List (Str × V)} {N ps : List Str} {sp : SpY}
    (F : FunD K x qual params body scope dvs kws f fd) (S : GScope N ps scope) (len : ∀ vs H xs Q E, sp vs H xs Q E → vs.length = ps.length)
    (hbody : ∀ (cdv : Value) (A : Around) (outer : List Env) (s : Shared) (H : Hp) (vs xs : List V) (Q : Hp → Prop) (E : XK) (pn : List (Addr × Obj)), Room k (A.deeper (envOfC qual scope s.heap.objs.size f cdv)) → sp vs H xs Q E →
      ∃ t, YSs (gcxOf P w K mg base N qual scope f cdv A outer s H E pn) xs body t ∧ t { nx := fun j _ H' => j = xs.length ∧ Q H', rt := fun j v H' => v = .non ∧ j = xs.length ∧ Q H' } 0 (start N vs) H) : YDef P w K mg base (k + 1) f fd ps sp := by
  obtain ⟨oc, od, dV, kV, doc, pm, an, cdv, ct, osl, rfl, lk, hcd, _, _⟩ := F.ex
  refine ⟨len, fun A outer s H args us vs xs Q E hr e0 hb r hsp => ?_⟩
  have hl := len _ _ _ _ _ hsp
  have kin : K.In s.heap := e0.mod.kin.keeps fun b o e => (e0.bs b o e).1
  have lim : s.heap.NoLimit := e0.mod.nolimit.keeps fun b o e => (e0.bs b o e).1
  have par : ∀ y ∈ ps.zip us, scope.names.lookup y.1 = some .local ∨ (scope.names.lookup y.1 = some .cell ∧ ((cellsFrom (s.heap.objs.size + 1) scope.names []).lookup y.1).isSome = true) := by
    intro y hy
    obtain ⟨n, v⟩ := y
    exact (S.par n (List.of_mem_zip hy).1).imp id fun q => ⟨q, PySem.W.cellsFrom_some _ _ _ (.inl q)⟩
  refine codeAny_call_generator hr.depth (kin _ _ lk) rfl S.co S.gen rfl (PySem.W.codeRec_of kin hcd) (hb _ _ _ _ (wpAny_newFunctionEnv_cells S.kind par fun env he s1 x => ?_))
  subst he
  have lim1 : s1.heap.NoLimit := lim.keeps x.toInCall.keep
  refine ⟨lim1, ?_⟩
  obtain ⟨h1, tk, es1, hk1⟩ := x.done
  have os1 : s1.os = s.os := by rw [es1]
  have gen1 : s1.gens = s.gens := by rw [es1]
  have kp1 : ∀ b o, s.heap.get? b = some o → s1.heap.get? b = some o := x.toInCall.keep
  have lt1 : s.heap.objs.size < s1.heap.objs.size := x.toInCall.ns.lt
  have made : ∀ (go : Obj) (nm qn : Value) (tk2 : Nat), go.cls = .type "generator" → go.data = .fields #[.int s1.gens.size 0, nm, qn] → go.slots = #[] → (∀ h : Heap, (h.push go).get? h.objs.size = some go) →
      YMade P w (k + 1) outer H s xs Q E (.ref s1.heap.objs.size) { s1 with gens := s1.gens.push (.fresh (.func body (envOfC qual scope s.heap.objs.size f cdv))), toks := tk2, heap := s1.heap.push go } := by
    intro go nm qn tk2 gc gd gsl gp
    have isG : ∀ h : Heap, h.get? s1.heap.objs.size = some go → h.IsGen s1.heap.objs.size s1.gens.size := fun h e => ⟨go, nm, qn, e, gc, gd, gsl⟩
    refine ⟨s1.heap.objs.size, s1.gens.size, _, rfl, Nat.le_of_lt lt1, ?_, isG _ (gp _), Array.getElem?_push_size .., os1, ?_, lim1.keeps fun b o e => Heap.get?_push_of_some _ e, fun b o e => Heap.get?_push_of_some _ (kp1 b o e), ?_⟩
    · show _ < (s1.heap.push _).objs.size
      rw [Heap.size_push]
      exact Nat.lt_succ_self _
    · exact AllBare.push (by rw [gen1]; exact e0.bare) rfl
    intro B Z s2 hrB hfB hZ k2 os2 bare2
    have e0B : Env0 P w K mg base B outer s H := ⟨hfB, e0.mod, e0.bs, e0.bsz, e0.funs, e0.frf, e0.hok, e0.bare⟩
    obtain ⟨t, ht, hq⟩ := hbody cdv B outer s H vs xs Q E [(s1.heap.objs.size, go)] (hrB.deeper _) hsp
    have I1 : Inv (gcxOf P w K mg base N qual scope f cdv B outer s H E []) [] (start N vs) H s1 := inv_startG S hrB.hd e0B hl r x
    have kp2 : ∀ b o, s1.heap.get? b = some o → s2.heap.get? b = some o := fun b o e => k2 b o (Heap.get?_push_of_some _ e)
    have I2 : Inv (gcxOf P w K mg base N qual scope f cdv B outer s H E []) [] (start N vs) H s2 :=
      I1.call' (ch := []) (os2.trans os1.symm) (Un.kept kp2) (I1.hok.kept kp2) bare2 fun b z => by simp at z
    have zlt : ∀ z ∈ Z, s1.heap.objs.size < z := fun z hz => by
      have q : (s1.heap.push go).objs.size ≤ z := (hZ z hz).1
      rw [Heap.size_push] at q
      exact q
    have ea : s2.heap.get? s1.heap.objs.size = some go := k2 _ _ (gp s1.heap)
    -- what is younger than the frame
    have young : ∀ b, s1.heap.objs.size ≤ b → H b = none ∧ b ≠ s.heap.objs.size ∧ b ∉ frs outer ∧ s.heap.objs.size ≤ b ∧ ∀ y c, (cellsFrom (s.heap.objs.size + 1) scope.names []).lookup y = some c → c ≠ b := by
      intro b hb
      refine ⟨I1.hok.fresh hb, Nat.ne_of_gt (Nat.lt_of_lt_of_le lt1 hb), I1.nofs hb, Nat.le_trans (Nat.le_of_lt lt1) hb, fun y c e z => ?_⟩
      obtain ⟨v, ob, ho, _⟩ := I1.cell y c e
      have q := Heap.lt_size ho
      rw [z] at q
      exact absurd (Nat.lt_of_lt_of_le q hb) (Nat.lt_irrefl _)
    have hA : Aside (gcxOf P w K mg base N qual scope f cdv B outer s H E [(s1.heap.objs.size, go)]) Z := fun z hz => by
      obtain ⟨_, y2, _, y4, y5⟩ := young z (Nat.le_of_lt (zlt z hz))
      refine ⟨y4, y2, y5, fun p hp => ?_⟩
      rw [List.mem_singleton.mp hp]
      exact Nat.ne_of_lt (zlt z hz)
    obtain ⟨zp, f1, f2⟩ := snap (h := s2.heap) (Z := Z) fun z hz => (hZ z hz).2
    have r0 : YRun (gcxOf P w K mg base N qual scope f cdv B outer s H E [(s1.heap.objs.size, go)]) Z [] (start N vs) H s2 s2 := by
      refine ⟨zp, f1, fun p hp => (f2 p hp).1, Inv.pinnedG I2 fun p hp => ?_⟩
      rcases List.mem_append.mp hp with z | z
      · rw [List.mem_singleton.mp z]
        obtain ⟨y1, y2, y3, _, _⟩ := young s1.heap.objs.size (Nat.le_refl _)
        exact ⟨ea, y1, y2, y3, fun v q => by rw [gd] at q; cases q⟩
      · rw [List.append_nil] at z
        have hz : p.1 ∈ Z := by
          rw [← f1]
          exact List.mem_map.mpr ⟨p, z, rfl⟩
        obtain ⟨y1, y2, y3, _, _⟩ := young p.1 (Nat.le_of_lt (zlt _ hz))
        exact ⟨(f2 p z).1, y1, y2, y3, (f2 p z).2⟩
    have isG2 : ∀ {ip : List (Addr × Obj)} {s₀ s' : Shared} {σ' : L2.St} {H' : Hp}, YRun (gcxOf P w K mg base N qual scope f cdv B outer s H E [(s1.heap.objs.size, go)]) Z ip σ' H' s₀ s' → s'.heap.IsGen s1.heap.objs.size s1.gens.size := fun {ip s₀ s' σ' H'} rr =>
      isG _ (rr.inv.pin (s1.heap.objs.size, go) (List.mem_append_left _ (List.mem_singleton.mpr rfl))).1
    have still : ∀ {ip : List (Addr × Obj)} {s₀ s' : Shared} {σ' : L2.St} {H' : Hp}, YRun (gcxOf P w K mg base N qual scope f cdv B outer s H E [(s1.heap.objs.size, go)]) Z ip σ' H' s₀ s' → Still Z H' s₀ s' := fun {ip s₀ s' σ' H'} rr z hz => ⟨(rr.at hz).1, (rr.at hz).2.2⟩
    refine seg_func (seg_imp (R := YR (gcxOf P w K mg base N qual scope f cdv B outer s H E [(s1.heap.objs.size, go)]) Z xs (fun v H' => v = .non ∧ Q H') fun e s' => CX P w outer H s E e s' ∧ ∀ p ∈ [(s1.heap.objs.size, go)], s'.heap.get? p.1 = some p.2)
      (Y := YP (gcxOf P w K mg base N qual scope f cdv B outer s H E [(s1.heap.objs.size, go)]) Z xs) (fun n s₀ r' s' hR => ?_) (fun n s₀ v s' kap kap' hkk hY => ?_) xs.length ?_)
    · cases r' with
      | error e =>
        obtain ⟨q1, q2⟩ := hR
        exact .inr ⟨e, rfl, q1, isG _ (q2 (s1.heap.objs.size, go) (List.mem_singleton.mpr rfl))⟩
      | ok fl =>
        cases fl with
        | next => exact False.elim hR
        | brk => exact False.elim hR
        | cont => exact False.elim hR
        | ret u =>
          obtain ⟨v, ip, σ', H', hn, rr, rv, ev, hQ⟩ := hR
          subst ev
          have eu : u = Value.none := rv
          subst eu
          have J := rr.inv
          exact .inl ⟨.inl rfl, H', hn, J.os, J.bare, J.base, J.hok, still rr, hQ⟩
    · obtain ⟨j, y, ip, σ', H', hn, hx, rv, rr, h3⟩ := hY
      have J := rr.inv
      exact ⟨j, y, H', hn, hx, rv, J.os, J.bare, J.nolimit, isG2 rr, J.base, J.hok, still rr, fun s3 z => hkk _ _ (h3 s3 z)⟩
    · refine ht.run B Z [] _ xs.length 0 s2 _ [] _ _ id id s2 (start N vs) H _ ⟨fun p hp => by simp at hp, hA, over_func, rfl, rfl, rfl⟩ (Nat.add_zero _) ⟨fun n j s₀ s' fl hn hs => ?_, fun n s₀ e s' hx => ?_⟩ r0 hq
      · cases fl with
        | next =>
          obtain ⟨σ', H', rr, hj, hQ⟩ := hs
          have hn0 : n = 0 := by omega
          exact seg_end (.ok (.ret .none)) ⟨.non, [], σ', H', hn0, rr, rfl, rfl, hQ⟩
        | brk => obtain ⟨_, _, _, q⟩ := hs; exact False.elim q
        | cont => obtain ⟨_, _, _, q⟩ := hs; exact False.elim q
        | ret u =>
          obtain ⟨v, σ', H', rr, rv, ev, hj, hQ⟩ := hs
          have hn0 : n = 0 := by omega
          exact seg_end (.ok (.ret u)) ⟨v, [], σ', H', hn0, rr, rv, ev, hQ⟩
      · refine seg_wrap ?_
        rw [over_func]
        exact wpAny_mono (show wpAny (model P w) (B.deeper (envOfC qual scope s.heap.objs.size f cdv)) (leaving (envOfC qual scope s.heap.objs.size f cdv) e) (fun _ s3 => CX P w outer H s E e s3 ∧ ∀ p ∈ [(s1.heap.objs.size, go)], s3.heap.get? p.1 = some p.2) (fun _ _ => False) s' from hx) (fun _ s3 q => seg_end (.error e) q) fun _ s3 q => q.elim
  exact made _ _ _ _ rfl rfl rfl fun h => Heap.get?_push_size _ rfl
/-- an expression whose value is a generator that has not begun -/
abbrev TYg := L2.St → Hp → List V → (Hp → Prop) → Prop
structure PY (X : Cx) (k : Nat) (e : Expr) (tg : TYg) (E : XK) : Prop where
  run : ∀ (pins : List (Addr × Obj)) (s : Shared) (σ : L2.St) (H : Hp) (xs : List V) (Q : Hp → Prop), Inv X pins σ H s → tg σ H xs Q → wpAny (model X.prog X.w) X.A (eval e X.env)
    (fun u s' => ∃ H1 sc, Inv X pins σ H1 sc ∧ YMade X.prog X.w k X.stack H1 sc xs Q E u s') X.xe s
end L2

set_option Elab.async false
set_option linter.all false
set_option maxRecDepth 100000
set_option maxHeartbeats 1000000
/-! VxQ: [x for x in g()], g a generator of the program. -/
namespace L2
open PySem PySem.Spec PyProof.Rows GenW
theorem no_cx {P : Program} {w : World} {outer : List Env} {H : Hp} {s : Shared} {e : Value} {s1 : Shared} (h : CX P w outer H s E0 e s1) : False := by
  obtain ⟨_, _, _, _, _, _, _, _, _, _, _, _, z⟩ := h
  exact z
section
variable {X : Cx} {e : Expr} {x : Str} {px pe pos : Pos} {scope : Scope} {k : Nat} {tg : TYg}
theorem pe_lcY (h : PY X k e tg E0) (hr : Room (k + 1) X.A) (hk : scope.kind = .function) (hu : ∀ y ∈ scope.names, scope.names.lookup y.1 = some y.2) (hf : ∀ y ∈ scope.names, y.2 ≠ .free) (hx : scope.names.lookup x = some .local)
    (hs : ∀ v, foldedSetIterable e X.env v = pure v := by intro _; rfl) (hd : (x == ("__debug__" : Str)) = false := by decide) :
    PE X (.ListComp (.Name x pe) [⟨.Name x px, e, [], 0⟩] scope pos) (fun σ H Q => ∃ xs : List V, xs.length ≤ sizeLine ∧ tg σ H xs fun H2 => ∀ p, H2 p = none → Q (.ref p) (upd H2 p (.lst xs))) := by
  refine ⟨fun pins s σ H Q I hq => ?_⟩
  obtain ⟨xs, hxs, hq⟩ := hq
  rw [eval_ListComp]
  refine wpAny_comprehension_free (use := none) rfl hs (closure_ok fun y hy q => absurd q (hf y hy)) hk (fun y hy q => by rw [hu y hy, q]) (thn (h.run pins s σ H xs _ I hq) fun u s1 hg => ?_)
  obtain ⟨H1, sc, I1, a, g, c, rfl, a1, a2, isG, hgs, os1, bare1, lim1, kp1, wake⟩ := hg
  refine wpAny_pyIter_gen isG (wpAny_newObj_type (newEnv_comp ?_) (by show 0 ≤ sizeLine; decide))
  -- the list, the names
  generalize hD : s1.heap.objs.size = D
  generalize hs3 : ({ s1 with heap := s1.heap.push { cls := .type "list", data := .seq ([] : List Value).toArray } } : Shared) = s3
  have h3 : s3.heap = s1.heap.push { cls := .type "list", data := .seq ([] : List Value).toArray } := by rw [← hs3]
  generalize hC : s3.heap.objs.size = C
  have hCD : C = D + 1 := by rw [← hC, h3, Heap.size_push, hD]
  show codeAny _ _ (.compStart (.ListComp (.Name x pe) [⟨.Name x px, e, [], 0⟩] scope pos) 0 (.ref a) (.ref D) (compEnvC scope (cellsFrom (C + 1) scope.names (cloFrom X.env.cells scope.names [])) C X.env)) (compPost (model X.prog X.w) X.A X.xe none (EP X pins σ Q) (.ref D) C) { s3 with heap := pushCells (s3.heap.push { cls := .type "dict", data := .dict #[] }) scope.names }
  generalize hce : compEnvC scope (cellsFrom (C + 1) scope.names (cloFrom X.env.cells scope.names [])) C X.env = ce
  have cL : ce.locals = C := by subst hce; rfl
  have cK : ce.scope.kind = .function := by subst hce; exact hk
  have cX : ce.kindOf x = some .local := by
    subst hce
    exact lookup_relabel_local hx
  have cP : (ce.scope.kind == .class || (ce.scope.kind == .module && ce.locals != ce.globals)) = false := by
    rw [cK]
    rfl
  generalize hs4 : ({ s3 with heap := pushCells (s3.heap.push { cls := .type "dict", data := .dict #[] }) scope.names } : Shared) = s4
  have h4 : s4.heap = pushCells (s3.heap.push { cls := .type "dict", data := .dict #[] }) scope.names := by rw [← hs4]
  have k13 : ∀ b o, s1.heap.get? b = some o → s3.heap.get? b = some o := fun b o q => by rw [h3]; exact Heap.get?_push_of_some _ q
  have k34 : ∀ b o, s3.heap.get? b = some o → s4.heap.get? b = some o := fun b o q => by rw [h4]; exact pushCells_keeps _ _ _ _ (Heap.get?_push_of_some _ q)
  have k14 : ∀ b o, s1.heap.get? b = some o → s4.heap.get? b = some o := fun b o q => k34 b o (k13 b o q)
  have os4 : s4.os = sc.os := by rw [← hs4, ← hs3]; exact os1
  have gens4 : s4.gens = s1.gens := by rw [← hs4, ← hs3]
  have eD : s4.heap.get? D = some (lstObj #[] 0) := k34 D _ (by rw [h3, ← hD]; exact Heap.get?_push_size _ rfl)
  have eC : s4.heap.Ns C fun _ => none := by
    rw [h4, ← hC]
    exact (Heap.Ns.new s3.heap (.type "dict")).keeps (pushCells_keeps _ _)
  have aD : a ≠ D := fun z => by
    rw [← hD] at z
    exact Nat.lt_irrefl _ (z ▸ a2)
  have aC : a ≠ C := fun z => by
    rw [hCD, ← hD] at z
    exact Nat.lt_irrefl _ (Nat.lt_of_lt_of_le (z ▸ a2) (Nat.le_succ _))
  have DC : D ≠ C := fun z => by
    rw [hCD] at z
    exact Nat.lt_irrefl D (by
      have q : D < D + 1 := Nat.lt_succ_self D
      rw [← z] at q
      exact q)
  have scD : sc.heap.objs.size ≤ D := by
    rw [← hD]
    exact Nat.le_trans a1 (Nat.le_of_lt a2)
  have scC : sc.heap.objs.size ≤ C := Nat.le_trans scD (by rw [hCD]; exact Nat.le_succ D)
  have sD : cStatics ≠ D := fun z => by
    obtain ⟨mc, hn, _⟩ := lim1
    have q := hn.lt
    rw [z, ← hD] at q
    exact Nat.lt_irrefl _ q
  have sC : cStatics ≠ C := fun z => by
    obtain ⟨mc, hn, _⟩ := lim1
    have q := hn.lt
    rw [z, hCD, ← hD] at q
    exact Nat.lt_irrefl _ (Nat.lt_of_lt_of_le q (Nat.le_succ _))
  -- the state between two items
  have loop : codeAny (model X.prog X.w) X.A (.compLoop (.ListComp (.Name x pe) [⟨.Name x px, e, [], 0⟩] scope pos) 0 (.ref a) (.ref D) ce) (compPost (model X.prog X.w) X.A X.xe none (EP X pins σ Q) (.ref D) C) s4 := by
    refine compLoop_any (fun n s5 => ∃ (j : Nat) (gs : GenState) (acc : Array Value) (cc : Nat) (m : Str → Option Value), n + j = xs.length ∧ s5.gens[g]? = some gs ∧
      gs.Goes (model X.prog X.w) X.A.in1 (YEnd X.prog X.w X.stack H1 sc [D, C] a g (fun H2 => ∀ p, H2 p = none → Q (.ref p) (upd H2 p (.lst xs))) E0) (YItm X.prog X.w X.stack H1 sc [D, C] a g xs) n (.send .none) (s5.setGen g .running) ∧
      s5.heap.get? D = some (lstObj acc cc) ∧ Vals (xs.take j) acc.toList ∧ s5.heap.Ns C m ∧ s5.heap.IsGen a g ∧ s5.heap.NoLimit ∧ s5.os = sc.os ∧ AllBare s5.gens) ?_ xs.length ?_
    · rintro n s5 ⟨j, gs, acc, cc, m, hn, hg5, go5, d5, v5, c5, i5, l5, o5, b5⟩
      have gl : g < s5.gens.size := (Array.getElem?_eq_some_iff.mp hg5).1
      refine wpAny_gsz (n := g + 1) gl (next_genG (A := X.A) hr.hd l5 hr.depth i5 hg5 (F := fun n s₀ s1 => ∃ H', n = 0 ∧ s1.os = sc.os ∧ AllBare s1.gens ∧ Un (frs X.stack) [] H1 H' sc.heap s1.heap ∧ HOk X.prog X.w H' s1.heap ∧ Still [D, C] H' s₀ s1 ∧ ∀ p, H' p = none → Q (.ref p) (upd H' p (.lst xs)))
        (Er := fun e s1 => CX X.prog X.w X.stack H1 sc E0 e s1 ∧ s1.heap.IsGen a g) go5 (fun v s6 gs' bare6 hv => ?_) (fun s6 hp h' hk => ?_) fun er s6 he => (no_cx he.1).elim)
      · -- an item
        intro hsz
        obtain ⟨j', y, H', hn', hy, rv, o6, b6, l6, i6, un6, hok6, st6, kap⟩ := hv
        obtain ⟨q1, oD, q2, q3⟩ := st6 D List.mem_cons_self
        obtain ⟨z1, oC, z2, z3⟩ := st6 C (List.mem_cons_of_mem _ List.mem_cons_self)
        have d6 : s6.heap.get? D = some (lstObj acc cc) := by
          rw [q3, ← q2]
          exact d5
        have c6 : s6.heap.Ns C m := c5.at' fun o eo => by
          have w : some oC = some o := z2.symm.trans eo
          rw [z3, w]
        obtain ⟨og, nm, qn, g1, g2, g3, g4⟩ := id i6
        refine go_of (s := s6.setGen g gs') g1 g2 g3 (by decide) ?_
        refine wpAny_assign_Name (wpAny_storeName_local (s := s6.setGen g gs') cX (by rw [cL]; exact c6) (fun h7 n7 sb7 => ?_) cP)
        rw [cL] at n7 sb7
        refine wpAny_tests_nil ?_
        rw [if_pos rfl]
        refine wpAny_Name (wpAny_loadName_local cK cX (v := v) (by rw [cL]; exact n7) (by simp) ?_) hd
        have d7 : h7.get? D = some (lstObj acc cc) := (sb7.2 D DC).trans d6
        have sz : acc.size = j := by
          have q := v5.length
          rw [List.length_take] at q
          have q2 : acc.toList.length = acc.size := by simp
          omega
        refine append_at d7 (fun h8 sb8 d8 => ?_) (by rw [sz]; omega)
        have k68 : ∀ b o, b ≠ D → b ≠ C → s6.heap.get? b = some o → h8.get? b = some o := fun b o n1 n2 q => (sb8.2 b n1).trans ((sb7.2 b n2).trans q)
        have c8 : h8.Ns C _ := n7.at' fun o q => (sb8.2 C (Ne.symm DC)).trans q
        have g6 : g < s6.gens.size := by
          have q : (s6.setGen g gs').gens.size = s6.gens.size := setGen_size _ _ _
          have q2 : g + 1 ≤ (s6.setGen g gs').gens.size := hsz
          omega
        have b8 : AllBare (s6.setGen g gs').gens := allBare_setGen b6 bare6
        obtain ⟨mc, ln, lx⟩ := l6
        have zz : Zzz [D, C] s6 (({ s6.setGen g gs' with toks := (s6.setGen g gs').toks + 1, heap := h8 } : Shared).setGen g .running) := by
          refine ⟨rfl, allBare_setGen (s := { s6.setGen g gs' with toks := (s6.setGen g gs').toks + 1, heap := h8 }) b8 rfl, fun b o hb q => ?_, fun z hz => ?_⟩
          · exact k68 b o (fun w => hb (by rw [w]; exact List.mem_cons_self)) (fun w => hb (by rw [w]; exact List.mem_cons_of_mem _ List.mem_cons_self)) q
          · rcases List.mem_cons.mp hz with w | w
            · rw [w]
              exact ⟨_, d8, fun v w => by cases w⟩
            · rw [List.mem_singleton.mp w]
              obtain ⟨o, es, ep, w1, w2, _⟩ := id c8
              exact ⟨o, w1, fun v w => by rw [w2] at w; cases w⟩
        have go8 := kap _ zz
        cases n with
        | zero => exact go8.elim
        | succ n =>
          have jj : j' = j := by omega
          subst jj
          refine ⟨n, Nat.lt_succ_self n, j' + 1, gs', acc.push v, cc + 1, _, by omega, setGen_at g6, go8, d8, ?_, c8, ⟨og, nm, qn, k68 a og aD aC g1, g2, g3, g4⟩, ⟨mc, ln.at' fun o q => k68 _ o sD sC q, lx⟩, o6, b8⟩
          rw [Array.toList_push, List.take_add_one, hy]
          exact v5.append (.cons rv .nil)
      · -- the end
        intro _
        obtain ⟨H', hn0, o6, b6, un6, hok6, st6, qq⟩ := hp
        obtain ⟨q1, oD, q2, q3⟩ := st6 D List.mem_cons_self
        obtain ⟨z1, oC, z2, z3⟩ := st6 C (List.mem_cons_of_mem _ List.mem_cons_self)
        have d6 : s6.heap.get? D = some (lstObj acc cc) := by
          rw [q3, ← q2]
          exact d5
        have c6 : s6.heap.Ns C m := c5.at' fun o eo => by
          have w : some oC = some o := z2.symm.trans eo
          rw [z3, w]
        have v6 : Vals xs acc.toList := by
          have w := v5
          rw [List.take_of_length_le (by omega)] at w
          exact w
        have J : Inv X pins σ (upd H' D (.lst xs)) { s6.setGen g .finished with heap := h' } :=
          I1.drained scD hxs (hk _ _ d6) v6 .nil o6 (allBare_setGen (s := s6) b6 rfl) (un6.trans (Un.kept hk)) (hok6.kept hk) q1
        have nC : (upd H' D (.lst xs)) C = none := by
          rw [upd_ne (Ne.symm DC)]
          exact z1
        obtain ⟨f0, f1, f2, f3, f4, f5⟩ := I1.fpOk scC nC
        refine ⟨m, c6.keeps hk, fun h9 sb9 => ⟨.ref D, _, J.turned (t' := s6.toks) (fun b o hb q => (sb9.2 b hb).trans q) f0 f1 f3 f4 f5, rfl, qq D q1⟩⟩
    · refine ⟨0, .fresh c, #[], 0, _, Nat.add_zero _, ?_, ⟨rfl, ?_⟩, eD, .nil, eC, isG.keeps k14, lim1.keeps k14, os4, by rw [gens4]; exact bare1⟩
      · rw [gens4]
        exact hgs
      · refine wake X.A.in1 [D, C] (s4.setGen g .running) hr.in1 I1.ok.frames (fun z hz => ?_) k14 os4 (allBare_setGen (s := s4) (by rw [gens4]; exact bare1) rfl)
        rcases List.mem_cons.mp hz with w | w
        · rw [w]
          exact ⟨Nat.le_of_eq hD, _, eD, fun v w => by cases w⟩
        · rw [List.mem_singleton.mp w]
          obtain ⟨o, es, ep, w1, w2, _⟩ := id eC
          exact ⟨by rw [hCD, hD]; exact Nat.le_succ D, o, w1, fun v w => by rw [w2] at w; cases w⟩
  exact codeAny_compStart_list loop (wpAny_pyIter_gen (isG.keeps k14) loop)
end
end L2

set_option Elab.async false
set_option linter.all false
set_option maxRecDepth 100000
set_option maxHeartbeats 4000000
/-! VxT: try: .. except (A, B, C) as e: caught = e, the error being a tracked value behind it; raise of a program's error that has its own __init__, over any base. -/
namespace L2
open PySem PySem.Spec PyProof.Rows
section
variable {X : Cx} {pins : List (Addr × Obj)} {σ : St} {H : Hp} {s : Shared}
/-- a record that stands untracked, and was not there at the entry, is tracked from here on -/
theorem Inv.adopt {a : Addr} {o : HO} {oe : Obj} {vs : Array Value} (I : Inv X pins σ H s) (e : s.heap.get? a = some oe) (dv : oe.data = .fields vs) (na : H a = none) (h0 : X.s_0.heap.get? a = none) (hp : ∀ p ∈ X.pn ++ pins, p.1 ≠ a)
    (new : ObjOk X.prog X.w (upd H a o) s.heap a o) : Inv X pins σ (upd H a o) s := by
  have nt : ∀ b u, H b = some u → b ≠ a := fun b u z y => by
    rw [y, na] at z
    cases z
  refine ⟨I.ok, I.os, I.bare, ⟨I.base.keep, I.base.slot, fun b u z n hx => ?_, I.base.there, fun b xs z => ?_, fun b u xs z => ?_, fun b ps z => ?_⟩, I.loc, I.cell, ?_, fun x c z => ?_, fun p hq => ?_, fun b u z => ?_, I.len⟩
  · rw [upd_ne (fun y => by
      rw [y, h0] at z
      cases z)]
    exact I.base.free b u z n hx
  · have q := I.base.tups b xs z
    rw [upd_ne (nt _ _ q)]
    exact q
  · have q := I.base.frzs b u xs z
    rw [upd_ne (nt _ _ q)]
    exact q
  · obtain ⟨m, q⟩ := I.base.tbls b ps z
    exact ⟨m, by rw [upd_ne (nt _ _ q)]; exact q⟩
  · rw [upd_ne (fun y => ?_)]
    · exact I.free
    · obtain ⟨m, ⟨o2, es, ep, ho, hd, _⟩, _⟩ := I.loc
      rw [y, e] at ho
      rw [← Option.some.inj ho, dv] at hd
      cases hd
  · rw [upd_ne (fun y => ?_)]
    · exact I.freeC x c z
    · obtain ⟨v, o2, ho, hd⟩ := I.cell x c z
      rw [y, e] at ho
      rw [← Option.some.inj ho, dv] at hd
      cases hd
  · obtain ⟨q1, q2, q3⟩ := I.pin p hq
    exact ⟨q1, by rw [upd_ne (hp p hq)]; exact q2, q3⟩
  · by_cases hb : b = a
    · subst hb
      rw [upd_same] at z
      cases z
      exact new
    · rw [upd_ne hb] at z
      exact (I.hok b u z).stay (fun _ _ _ q => q) (fun c q => by rw [upd_ne (nt _ _ q)]; exact q) fun c xs q => by rw [upd_ne (nt _ _ q)]; exact q
end
/-- what such a clause wishes of an error of the body: slot i is the clause's name, slot j the kept one -/
def wKept (K : PySem.W.Frag) (cs : List Value) (i j : Nat) (Wout : WX) (D : Ends) : WX := fun cls d σ H =>
  ∃ b, PySem.W.exmAny K cls cs = some b ∧ (b = true → ∃ C dd : Addr, cls = .ref C ∧ d = some dd ∧ ∀ a, H a = none → D.nx (((σ.set i (some (.ref a))).set j (some (.ref a))).set i none) (upd H a (exV a C dd))) ∧ (b = false → Wout cls d σ H)
theorem flying_keeps {B h h' : Heap} {l : List Env} {a : Addr} {Z : Obj → Prop} (k : ∀ b o, h.get? b = some o → h'.get? b = some o) (f : HandSPX.FlyingZ B l a Z h) : HandSPX.FlyingZ B l a Z h' := by
  obtain ⟨f1, f2, f3, oe, vs, T, oT, ts, t1, t2, t3, t4, t5, t6, t7, t8, t9⟩ := f
  refine ⟨fun b o e => k b o (f1 b o e), f2, ?_, oe, vs, T, oT, ts, k _ _ t1, t2, t3, t4, t5, t6, k _ _ t7, t8, t9⟩
  clear t1 t2 t3 t4 t5 t6 t7 t8 t9
  induction l with
  | nil => exact True.intro
  | cons env rest ih =>
    obtain ⟨g1, ⟨L, o, g2, g3, g4, g5⟩, g6⟩ := f3
    exact ⟨g1, ⟨L, o, g2, g3, k _ _ g4, g5⟩, ih g6⟩
section
variable {X : Cx} {x1 x2 x3 n m : Str} {C1 C2 C3 : Addr} {i j kk : Nat} {body : List Stmt} {p1 p2 p3 tp pa pb pc pos pos' : Pos} {tb : WX → TS} {Wout : WX}
theorem ps_try_kept (hs : X.stack = X.env :: X.outer) (hf : X.env.frame = some X.env.locals) (hex : X.ex = []) (hN : X.N.Nodup) (hi : X.N[i]? = some n) (hj : X.N[j]? = some m) (hln : X.env.kindOf n = some .local) (hlm : X.env.kindOf m = some .local)
    (g1 : Gl X x1) (m1 : X.mg x1 = some (.ref C1)) (g2 : Gl X x2) (m2 : X.mg x2 = some (.ref C2)) (g3 : Gl X x3) (m3 : X.mg x3 = some (.ref C3)) (tk : Takes X Wout)
    (hb : ∀ (W : WX) (pn : List (Addr × Obj)) (xe : Value → Shared → Prop), Takes (X.tr pn xe) W → PassesOwn (model X.prog X.w) X.A X.env xe → PSs (X.tr pn xe) body (tb W))
    (hij : i ≠ j := by decide) (d1 : (x1 == ("__debug__" : Str)) = false := by decide) (d2 : (x2 == ("__debug__" : Str)) = false := by decide) (d3 : (x3 == ("__debug__" : Str)) = false := by decide) 
    (hn1 : (n == ("__debug__" : Str)) = false := by decide) (hn2 : (n == ("__classdict__" : Str)) = false := by decide)
    (hsw : swapsWith (.Name n pc) (some (.Name m pb)) pa.line X.env = pure false := by rfl)
    : PS X (.Try body [.ExceptHandler (some (.Tuple [.Name x1 p1, .Name x2 p2, .Name x3 p3] kk tp)) (some n) [.Assign [.Name m pb] (.Name n pc) pa] pos'] [] [] pos) (fun D σ H => tb (wKept X.K [.ref C1, .ref C2, .ref C3] i j Wout D) D σ H) := by
  refine ⟨fun pins s σ H D I h => ?_⟩
  have ok := I.ok
  have frs_eq : X.A.frames = some (X.env :: X.outer) := by
    rw [ok.frames, hs]
  let hd1 : ExceptHandler := .ExceptHandler (some (.Tuple [.Name x1 p1, .Name x2 p2, .Name x3 p3] kk tp)) (some n) [.Assign [.Name m pb] (.Name n pc) pa] pos'
  let xe2 : Value → Shared → Prop := fun e t1 => wpAny (model X.prog X.w) X.A (noteFrame e X.env) (fun _ t2 => wpAny (model X.prog X.w) X.A (setFlight e none) (fun _ t3 => wpAny (model X.prog X.w) X.A (handleBy e X.env [hd1]) (SP X pins D) X.xe t3) X.xe t2) X.xe t1
  have B0 : PSs (X.tr (X.pn ++ pins) xe2) body (tb (wKept X.K [.ref C1, .ref C2, .ref C3] i j Wout D)) := hb _ _ xe2 (fun u s' xx => ?caught) PassesOwn.looking
  case caught =>
    obtain ⟨a, B, sI, pins', σ', H', cls, d, rfl, JT, nb, up, sky, na, os, ag, b, hx, hyes, hno⟩ := xx
    have J : Inv X pins σ' H' sI := JT.ofTry ok
    have sky2 : Sky B (X.env :: X.outer) a (Zc cls d) X.env.locals s'.heap := by
      rw [← hs]
      exact sky
    show wpAny (model X.prog X.w) X.A (noteFrame (.ref a) X.env) _ _ _
    refine Sky.land Zc.steady frs_eq hf sky2 fun h3 fl3 up3 => ?_
    have out : ∀ {h : Heap} {o : Obj} {vs : Array Value}, HandSPX.FlyingZ B (X.env :: X.outer) a (Zc cls d) h → h.get? a = some o → o.data = .fields vs → a ≠ X.env.locals ∧ a ∉ X.fs ∧ a ∉ frs X.stack := by
      intro h o vs fl e dd
      have no : a ∉ frs (X.env :: X.outer) := fun hm => by
        obtain ⟨_, o2, e2, hnf⟩ := fl.2.2.1.mem hm
        rw [e] at e2
        cases e2
        exact hnf _ dd
      refine ⟨fun z => no (List.mem_filterMap.mpr ⟨X.env, List.mem_cons_self, ?_⟩), fun hm => ?_, ?_⟩
      · rw [hf, z]
      · obtain ⟨en, he, q⟩ := List.mem_filterMap.mp hm
        exact no (List.mem_filterMap.mpr ⟨en, List.mem_cons_of_mem _ he, q⟩)
      · rw [hs]
        exact no
    obtain ⟨oe3, vs3, he3, hz3, hd3⟩ := fl3.there
    obtain ⟨nL, nF, nS⟩ := out fl3 he3 hd3
    have J3 : Inv X pins σ' H' { s' with heap := h3 } := J.landed nb fl3.1 (up.trans up3) os ag
    have S3 := J3.suite he3 hd3 na nL nF
    -- the clause's tuple
    refine wpAny_handleBy_cons (codeAny_handlers_test (wpAny_Tuple (wpAny_items_cons (ld_glob (X := X.suite a ((a, oe3) :: (X.pn ++ pins))) S3 g1 m1 (wpAny_items_cons (ld_glob (X := X.suite a ((a, oe3) :: (X.pn ++ pins))) S3 g2 m2 (wpAny_items_cons (ld_glob (X := X.suite a ((a, oe3) :: (X.pn ++ pins))) S3 g3 m3 (wpAny_items_nil ⟨by size_fits, ?_⟩) d3)) d2)) d1)))) (fun q => by cases q)
    have kp : ∀ b o, h3.get? b = some o → (h3.push { cls := .type "tuple", data := .seq [Value.ref C1, .ref C2, .ref C3].toArray }).get? b = some o := fun b o z => Heap.get?_push_of_some _ z
    have LT : PySem.W.Looks (model X.prog X.w) h3 (typeOf (.ref a)) cls := fun A Q E t k q => wpAny_typeOf_ref (k _ _ he3) (by rw [hz3.1]; exact q)
    refine (PySem.W.exm_tup3 (J3.kIn.keeps kp) (LT.keeps kp) (Heap.get?_push_size h3 rfl) hx).here ?_
    have fl5 := flying_keeps kp fl3
    have up5 := (up.trans up3).trans (Heap.UpToSlots.of_keeps kp)
    cases b with
    | true =>
      obtain ⟨C, dd, rfl, rfl, kq⟩ := hyes rfl
      refine codeAny_handlers_suite_as ?_
      refine HandSPX.lands_againZ fl5 fun h4 fl4 up4 => ?_
      obtain ⟨oe4, vs4, he4, hz4, hd4⟩ := fl4.there
      have J4 : Inv X pins σ' H' { s' with heap := h4 } := J.landed nb fl4.1 (up5.trans up4) os ag
      have S4 := J4.suite he4 hd4 na nL nF
      refine store_ok (X := X.suite a ((a, oe4) :: (X.pn ++ pins))) (v := .ref a) S4 hN hi (.inl hln) rfl (fun s5 S5 => ?_) (.inr hln)
      have PA5 : PSs (X.suite a ((a, oe4) :: (X.pn ++ pins))) [.Assign [.Name m pb] (.Name n pc) pa] (tSeq (tAsg (tVar i) (gName j)) tNext) := pss_cons (ps_set hN hj (.inl hlm) (pe_var hi (.inl hln) hn1 hn2) hsw (.inr hlm)) pss_nil
      refine wpAny_mono (PA5.run [] s5 _ H' { nx := fun σ6 H6 => σ6 = (σ'.set i (some (.ref a))).set j (some (.ref a)) ∧ H6 = H', rt := fun _ _ => False, bk := fun _ _ => False, ct := fun _ _ => False } S5 ?_) (fun f s6 hsp => ?_) (fun _ _ z => z.elim)
      · refine ⟨.ref a, ?_, rfl, rfl⟩
        rw [List.getElem?_set_self (by rw [J.len]; exact (List.getElem?_eq_some_iff.mp hi).1)]
      · cases f with
        | next =>
          obtain ⟨σ6, H6, S6, e1, e2⟩ := hsp
          subst e1 e2
          have he6 := (S6.pin (a, oe4) (List.mem_append_left _ List.mem_cons_self)).1
          have new : X.s_0.heap.get? a = none := by
            cases z : X.s_0.heap.get? a with
            | none => rfl
            | some o0 =>
              obtain ⟨o1, z1⟩ := J.base.there a o0 z (by rw [hex]; exact List.not_mem_nil)
              have z2 := nb a o1 z1 nS
              rw [fl3.2.1] at z2
              cases z2
          have I6 : Inv X pins ((σ'.set i (some (.ref a))).set j (some (.ref a))) H6 s6 := S6.unsuite ok
          have I7 := I6.adopt (o := exV a C dd) he6 hd4 na new (fun p hq z => ?_) (exV_ok he6 hz4.1 hz4.2 hd4)
          · exact gone_ok I7 hN hi hln fun s7 J7 => ⟨_, _, J7, kq a na⟩
          · obtain ⟨y1, y2, y3, y4, _⟩ := J.pin p hq
            rw [z] at y1
            have z2 := nb a _ y1 nS
            rw [fl3.2.1] at z2
            cases z2
        | brk => exact hsp.elim fun _ z => z.elim fun _ z => z.2.elim
        | cont => exact hsp.elim fun _ z => z.elim fun _ z => z.2.elim
        | ret u => exact hsp.elim fun _ z => z.elim fun _ z => z.elim fun _ z => z.2.2.elim
    | false =>
      show wpAny _ X.A (handleBy (.ref a) X.env []) _ _ _
      refine wpAny_handleBy_nil ?_
      obtain ⟨k1, k2, k3, oe, vs, T, oT, ts', he, hz, hd, h1, hr⟩ := id fl5
      unfold PySem.passOn
      have fin : wpAny (model X.prog X.w) X.A (setFlight (.ref a) X.env.frame) (fun _ t4 => wpAny (model X.prog X.w) X.A (throw (.ref a) : Sem Flow) (SP X pins D) X.xe t4) X.xe { s' with heap := h3.push { cls := .type "tuple", data := .seq [Value.ref C1, .ref C2, .ref C3].toArray } } := by
        rw [hf]
        exact HandSPX.setFlight_upZ fl5 fun h4 hh4 up4 => wpAny_throw (tk _ _ ⟨a, B, sI, pins, σ', H', cls, d, rfl, J, nb, up5.trans up4, .inr (.inr (by rw [hs]; exact hh4)), na, os, ag, hno rfl⟩)
      refine wpAny_bind (wpAny_field he hd h1 ?_)
      rw [if_neg (show ¬ ((Value.ref T == Value.none) = true) from by simp)]
      first
        | exact wpAny_bind (wpAny_pure (wpAny_bind fin))
        | exact wpAny_bind fin
  refine wpAny_Try_except (wpAny_mono (B0.run [] s σ H D (I.toTry _) h) (fun f s1 hsp => ?_) (fun e s1 he => he))
  cases f with
  | next =>
    obtain ⟨σ2, H2, J2, q⟩ := hsp
    exact wpAny_execs_nil ⟨σ2, H2, J2.ofTry ok, q⟩
  | brk =>
    obtain ⟨σ2, H2, J2, q⟩ := hsp
    exact ⟨σ2, H2, J2.ofTry ok, q⟩
  | cont =>
    obtain ⟨σ2, H2, J2, q⟩ := hsp
    exact ⟨σ2, H2, J2.ofTry ok, q⟩
  | ret u =>
    obtain ⟨v, σ2, H2, J2, r, q⟩ := hsp
    exact ⟨v, σ2, H2, J2.ofTry ok, r, q⟩
end
end L2

set_option Elab.async false
set_option linter.all false
set_option maxRecDepth 100000
set_option maxHeartbeats 4000000
/-! VxU: raise C(v), C an error class of the program with its own __init__. -/
namespace L2
open PySem PySem.Spec PyProof.Rows
section
variable {X : Cx} {CX : CXT} {k : Nat} {C fI : Addr} {fd : FuncData} {ps : List Str} {sp : Sp} {x f : Str} {p pos : Pos} {e : Expr} {es : List Expr} {t : TA} {te : TE}
theorem run_xmk {pins : List (Addr × Obj)} {σ : St} {H : Hp} {s : Shared} {Q : XK} {us zs : List Value} {kw : List (Str × Value)} {vs : List V} (T : Xc X.K C) (iC : PySem.W.findIn X.K (.ref C) "__init__" = some (some (.ref fI))) (tI : PySem.W.typeIn X.K (.ref fI) = some (.type "function"))
    (F1 : FnOk X.prog X.w X.K X.mg X.base CX k fI fd ps sp) (hr : Room (k + 1) X.A) (hx : Passes CX X (fun _ _ _ => False)) (hz : us.length ≤ sizeLine)
    (hb : ∀ (s : Shared) (a : Addr), X.K.In s.heap → BindsTo s fd ⟨Value.ref a :: us, kw⟩ (ps.zip (Value.ref a :: zs))) (I : Inv X pins σ H s) (r : Vals vs zs)
    (h : ∀ a, H a = none → sp (.ref a :: vs) (upd H a (exo a C none)) (fun v H2 => v = .non ∧ ∃ (d : Addr) (fs : List (Str × V)), H2 a = some (exo a C (some d)) ∧ H2 d = some (exd d fs) ∧ H d = none ∧ Q (.ref C) (some d) (upd (del H2 a) d (.xd fs))) (fun _ _ _ => False)) :
    wpAny (model X.prog X.w) X.A (call (.ref C) us kw) (MkP X pins σ Q) X.xe s := by
  obtain ⟨nm, q, N, bs, bm, sn, sub, ab, col, dd, k0, k1, k2, k3, k5, B, newId, initId, bmB, hC, FB, hbm⟩ := T.cls
  have hT : ∀ Y : String, bm.contains (.type Y) = bmB.contains (.type Y) := fun Y => by
    have z := PySem.W.excTail_contains Y _ hbm.tail
    rw [List.contains_cons] at z
    have e : (Value.type Y == Value.ref C) = false := rfl
    rw [e, Bool.false_or] at z
    exact z
  obtain ⟨hp, g, dr, tk, os⟩ := s
  have lo : hp.objs.size ≤ hp.objs.size + 1 := Nat.le_succ _
  have hn : H (hp.objs.size + 1) = none := I.hok.fresh lo
  have hq := h (hp.objs.size + 1) hn
  let h2 : Heap := (hp.push (PySem.W.kdv_tup us)).push (PySem.HandSPX.excO C hp.objs.size)
  have kk : ∀ b o, hp.get? b = some o → h2.get? b = some o := fun b o e => Heap.get?_push_of_some _ (Heap.get?_push_of_some _ e)
  have hget : h2.get? (hp.objs.size + 1) = some (PySem.HandSPX.excO C hp.objs.size) := by heap_get
  have I2 : Inv X pins σ (upd H (hp.objs.size + 1) (exo (hp.objs.size + 1) C none)) ⟨h2, g, dr, tk, os⟩ :=
    I.laid (t' := tk) (o := exo (hp.objs.size + 1) C none) kk lo (exo_ok hget)
  have r2 : Vals (V.ref (hp.objs.size + 1) :: vs) (Value.ref (hp.objs.size + 1) :: zs) := .cons rfl r
  refine wpAny_call (VxS.call_K FB hT (I.kIn _ _ hC) (PySem.W.looks_findIn I.kIn iC) (fun self => PySem.W.bind_fn I.kIn self tI) hz
    (codeAny_mono (F1.run _ X.stack _ _ ⟨Value.ref (hp.objs.size + 1) :: us, kw⟩ (Value.ref (hp.objs.size + 1) :: zs) _ _ (fun _ _ _ => False) (hr.make C us kw) (I2.env0.make C us kw) (hb _ _ I2.kIn) r2 hq) fun r s' hq' => ?_))
  match r, hq' with
  | .error er, hq' => exact hx pins σ _ _ er s' I2 hq'
  | .ok (.ret u), hq' =>
    obtain ⟨v, H2, os2, bare2, un2, hok2, rv, ev, d, fs, ea, ed, hd1, q2⟩ := hq'
    subst ev
    obtain ⟨h3, g2, d2, t2, os'⟩ := s'
    exact ⟨rv, mk_end (raises_own T.exC T.tyC) I lo kk un2 hok2 os2 bare2 ea ed hd1 q2⟩
  | .ok .next, hq' => exact hq'.elim
  | .ok .brk, hq' => exact hq'.elim
  | .ok .cont, hq' => exact hq'.elim
/-- raise C(e): W is what is wished of the error -/
def tX1e (C : Addr) (f : Str) (te : TE) : St → Hp → XK → Prop := fun σ H Q => te σ H fun u H1 => ∃ v, [u] = [v] ∧ ∀ dd H', H1 dd = none → Same H1 H' → H' dd = some (.xd [(f, v)]) → Q (.ref C) (some dd) H'
theorem pmk_x1 (B : XK1 X.prog X.w X.K X.mg X.base x f C) (hr : Room 2 X.A) (hg : Gl X x) (he : PE X e te) (hdb : (x == ("__debug__" : Str)) = false := by decide) (hs : starEach [e] X.env = (false, eval e X.env) :: starEach [] X.env := by rfl) (hpl : (backTo pos (starEach [] X.env)).any (·.1) = false := by rfl) :
    PMk X (.Call (.Name x p) [e] [] pos) (tX1e C f te) := by
  obtain ⟨fI, fd, i1, i2, F, bd, _⟩ := B.ex
  intro pins s σ H Q I h
  refine wpAny_Call_Name_kw (ld_glob I hg B.hm ?_ hdb)
  refine PySem.W.callWith_K (h₀ := X.base) I.ok.mod.kin B.T.kC (thn ((pa_cons he pa_nil hs).run pos pins s σ H (fun vs H1 => ∃ v, vs = [v] ∧ ∀ dd H', H1 dd = none → Same H1 H' → H' dd = some (.xd [(f, v)]) → Q (.ref C) (some dd) H') I ?_) fun us s1 hh => ?_) hs hpl
  · exact h
  obtain ⟨vs, H1, I1, r1, v, rfl, q⟩ := hh
  have hl : us.length = 1 := r1.length.symm
  refine ⟨I1.kIn, run_xmk (us := us) (vs := [v]) B.T i1 i2 F hr pass0 (by rw [hl]; decide) (fun s a kin => ?_) I1 r1 fun a ha => ⟨a, v, rfl, upd_same, fun dx n ne => ⟨rfl, dx, [(f, v)], upd_same, (by rw [upd_ne ne, upd_same]), ?_, q dx _ ?_ (fun b o z => ?_) upd_same⟩⟩⟩
  · have z := bd s (Value.ref a :: us) kin (by rw [List.append_nil, List.length_cons, hl]; rfl)
    rw [List.append_nil] at z
    exact z
  · rw [← n, upd_ne ne]
  · rw [← n, upd_ne ne]
  · have hd : H1 dx = none := by rw [← n, upd_ne ne]
    rw [upd_ne (ne_of_none z hd), del_ne (ne_of_none z ha), upd_ne (ne_of_none z ha), upd_ne (ne_of_none z hd), upd_ne (ne_of_none z ha)]
    exact z
/-- raise C(e) -/
theorem ps_x1 {W : WX} {pos2 : Pos} (hc : X.calm = true) (tk : Takes X W) (B : XK1 X.prog X.w X.K X.mg X.base x f C) (hr : Room 2 X.A) (hg : Gl X x) (he : PE X e te) (hdb : (x == ("__debug__" : Str)) = false := by decide)
    (hs : starEach [e] X.env = (false, eval e X.env) :: starEach [] X.env := by rfl) (hpl : (backTo pos (starEach [] X.env)).any (·.1) = false := by rfl) :
    PS X (.Raise (some (.Call (.Name x p) [e] [] pos)) none pos2) (fun _ σ H => tX1e C f te σ H fun cls d H' => W cls d σ H') := ps_raise hc tk (pmk_x1 B hr hg he hdb hs hpl)
end
end L2

set_option Elab.async false
set_option linter.all false
set_option maxRecDepth 100000
set_option maxHeartbeats 4000000
/-! VxK: list.count of a truth value -/
namespace L2
open PySem PySem.Spec PyProof.Rows
def isB (b : Bool) (v : Value) : Bool := match v with
  | .bool c => c == b
  | _ => false
theorem isB_at {A : Around} {s : Shared} {b : Bool} : ∀ {bs : List Bool} {us : List Value}, Vals (bs.map V.bl) us → ∀ y ∈ us, SeqAt.EqAt A s y (.bool b) (isB b y)
  | [], _, r, y, hy => by
    cases r
    cases hy
  | c :: bs, _, r, y, hy => by
    cases r with
    | cons r1 r2 =>
      cases r1
      rcases List.mem_cons.mp hy with e | e
      · rw [e]
        exact SeqAt.EqAt.bool_bool c b
      · exact isB_at r2 y e
theorem isB_count {b : Bool} : ∀ {bs : List Bool} {us : List Value}, Vals (bs.map V.bl) us → us.countP (isB b) = bs.count b
  | [], _, r => by
    cases r
    rfl
  | c :: bs, _, r => by
    cases r with
    | cons r1 r2 =>
      cases r1
      rw [List.countP_cons, List.count_cons, isB_count r2] <;> rfl
def rCntB (K : PySem.W.Frag) : V → List V → Hp → VK → Prop := fun x xs H Q => ∃ (p : Addr) (bs : List Bool) (b : Bool), x = .ref p ∧ xs = [.bl b] ∧ SqL K H p (bs.map V.bl) ∧ Q (.int (bs.count b : Nat)) H
theorem mt_countB {X : Cx} : MtR X "list.count" (rCntB X.K) := by
  intro pins s σ H x xs v us Q I rx rxs h
  obtain ⟨p, bs, b, rfl, rfl, hs, q⟩ := h
  cases rx
  obtain ⟨u, rfl, ru⟩ := rxs.one
  cases ru
  obtain ⟨its, rv, ⟨o, n, ho, hc, hdn, hd⟩, hlen⟩ := I.list hs
  obtain ⟨cls, dd, data, sl⟩ := o
  dsimp only at hc hd
  subst hc hd
  refine call_meets PySem.F.slot_list_count ⟨_, ho, rfl⟩ PySem.F.entry_list_count (PySem.F.args_list_count_2 _ _)
    (SeqAt.list_countAt p its.toArray n dd sl (.bool b) (isB b)) ⟨ho, fun y hy => isB_at rv y (by simpa using hy), ?_⟩
  refine ⟨.int (bs.count b : Nat), H, I.tok _, ⟨s.toks, ?_⟩, q⟩
  have e : its.countP (isB b) = bs.count b := isB_count rv
  show Value.int ((its.toArray.toList.countP (isB b) : Nat) : Int) s.toks = _
  rw [show its.toArray.toList = its from rfl, e]
end L2

set_option Elab.async false
set_option linter.all false
set_option maxRecDepth 100000
set_option maxHeartbeats 2000000
/-! VxP: a value's type and what isinstance says of it, for values that are data. -/
namespace L2
open PySem PySem.Spec PyProof.Rows
def tyN : PyData → String
  | .none => "NoneType"
  | .bool _ => "bool"
  | .int _ => "int"
  | .str _ => "str"
  | .list _ => "list"
  | .tuple _ => "tuple"
  | .dict _ => "dict"
theorem ty_lst {K : PySem.W.Frag} {H : Hp} {a : Addr} {xs : List V} (h : SqL K H a xs) : TyX K H (.ref a) (.type "list") := by
  rcases h with h | ⟨o, its, n, e, c, _⟩
  · rcases h with h | ⟨o, h⟩
    · exact .base (.lst h)
    · exact .base (.frz h)
  · exact .kList e c
theorem ty_tup {K : PySem.W.Frag} {H : Hp} {a : Addr} {xs : List V} (h : SqT K H a xs) : TyX K H (.ref a) (.type "tuple") := by
  rcases h with h | ⟨o, its, n, e, c, _⟩
  · rcases h with h | ⟨o, h⟩
    · exact .base (.tup h)
    · exact .fTuple h
  · exact .kTuple e c
theorem Sd.ty {K : PySem.W.Frag} {H : Hp} {v : V} {d : PyData} (h : Sd K H v d) : TyX K H v (.type (tyN d)) := by
  cases h with
  | non => exact .base .non
  | bl b => exact .base (.bl b)
  | int i => exact .base (.int i)
  | str x => exact .base (.str x)
  | lst h _ => exact ty_lst h
  | tup h _ => exact ty_tup h
  | emp h => exact .base (.dK h)
  | one h _ => exact .base (.dK h)
/-- isinstance's answer -/
def isD (d : PyData) (t : String) : Bool := tyN d == t || (t == "int" && tyN d == "bool")
def plainT (t : String) : Bool := ["int", "bool", "str", "tuple", "list", "dict"].contains t
theorem kit_data {K : PySem.W.Frag} (d : PyData) {t : String} (h : plainT t = true) : PySem.W.kitOne K (.type (tyN d)) (.type t) = some (isD d t) := by
  have e : t = "int" ∨ t = "bool" ∨ t = "str" ∨ t = "tuple" ∨ t = "list" ∨ t = "dict" := by
    unfold plainT at h
    simpa using h
  have key : kitB (tyN d) t = some (isD d t) := by
    rcases e with rfl | rfl | rfl | rfl | rfl | rfl <;> cases d <;> first | decide +kernel | rfl
  exact kit_ty key
section
variable {X : Cx}
/-- isinstance(v, T) of data -/
def rIsD (K : PySem.W.Frag) : List V → Hp → VK → Prop := fun xs H Q => ∃ (v : V) (d : PyData) (t : String), xs = [v, .ty t] ∧ plainT t = true ∧ Sd K H v d ∧ Q (.bl (isD d t)) H
theorem call_isD : CallR X (.builtin "isinstance") (rIsD X.K) := by
  intro pins s σ H xs us Q I r h
  obtain ⟨v, d, t, rfl, ht, hv, q⟩ := h
  exact call_isi pins s σ H _ us Q I r ⟨v, .ty t, _, .type t, _, rfl, .ty t, hv.ty, kit_data d ht, q⟩
end
end L2

set_option Elab.async false
set_option linter.all false
set_option maxRecDepth 100000
/-! VxTy: != of built-in types. -/
namespace PySem.TypeEq
open Sem (wp)
theorem slot_type_ne : Slot "type" (cmpInfo .NotEq).2.1 "object.__ne__" :=
  .of (owner := "object") (n := "__ne__") (by rw [typeLookup_type, builtinLookup_eq_fast]; kernel_rfl) (by decide +kernel) (by decide +kernel) (by decide +kernel)
    (by first | exact .inl (by decide +kernel) | exact .inr (by decide +kernel)) (by rw [isSubtype_type]; kernel_rfl)
theorem slot_type_ne_refl : Slot "type" (cmpInfo .NotEq).2.2 "object.__ne__" :=
  .of (owner := "object") (n := "__ne__") (by rw [typeLookup_type, builtinLookup_eq_fast]; kernel_rfl) (by decide +kernel) (by decide +kernel) (by decide +kernel)
    (by first | exact .inl (by decide +kernel) | exact .inr (by decide +kernel)) (by rw [isSubtype_type]; kernel_rfl)
section
variable {prog : Program} {w : World} {A : Around} {E : Value → Shared → Prop} {s : Shared}
theorem ne_entry_same {X : String} (hX : ∀ s' : Shared, s'.TypeIs (.type X) "type") {Q : PySem.Fin → Shared → Prop} (q : Q (.done (.ret (.bool false))) s) : wpAny (model prog w) A (Builtin.«object.__ne__» ⟨[.type X, .type X], []⟩) Q E s := by
  unfold Builtin.«object.__ne__»
  repeat (first
    | with_reducible refine wpAny_cRoomFor_byValue rfl ?_
    | (refine wpAny_bind (m := callSpecialIfBound? (.type X) (Str.ofString "__eq__") [.type X])
        (wpAny_callSpecialIfBound?_slot (hX s) slot_type_eq (call_gives slot_type_eq (hX s) F.entry_object_eq (F.args_object_eq_2 _ _) (object_eq_same rfl (by simp)) ?_)))
    | wp_step)
  exact wpAny_bind (wpAny_truthy_bool (wpAny_pure q))
theorem ne_entry_other {X Y : String} (hX : ∀ s' : Shared, s'.TypeIs (.type X) "type") (hne : (Value.type X == Value.type Y) = false) {Q : PySem.Fin → Shared → Prop} (q : Q (.done (.ret .notImplemented)) s) : wpAny (model prog w) A (Builtin.«object.__ne__» ⟨[.type X, .type Y], []⟩) Q E s := by
  unfold Builtin.«object.__ne__»
  repeat (first
    | with_reducible refine wpAny_cRoomFor_byValue rfl ?_
    | (refine wpAny_bind (m := callSpecialIfBound? (.type X) (Str.ofString "__eq__") [.type Y])
        (wpAny_callSpecialIfBound?_slot (hX s) slot_type_eq (call_gives slot_type_eq (hX s) F.entry_object_eq (F.args_object_eq_2 _ _) (object_eq_other rfl hne) ?_)))
    | wp_step)
  exact wpAny_pure q
theorem ne_type_same {X : String} {Q : Value → Shared → Prop} (hX : ∀ s' : Shared, s'.TypeIs (.type X) "type") (h : Q (.bool false) s) : wpAny (model prog w) A (compareOp .NotEq (.type X) (.type X)) Q E s := by
  show wpAny _ A (richCompare .NotEq _ _) Q E s
  exact wpAny_richCompare_same (T := "type") (hX s) (hX s) slot_type_ne
    (wpAny_call_entry slot_type_ne (hX s) F.cmpEntry_ne (ne_entry_same hX ⟨_, rfl, (by intro e; cases e), h⟩) (F.cmpArgs_ne _ _))
theorem ne_type_other {X Y : String} {Q : Value → Shared → Prop} (hX : ∀ s' : Shared, s'.TypeIs (.type X) "type") (hY : ∀ s' : Shared, s'.TypeIs (.type Y) "type") (hne : (Value.type X == Value.type Y) = false) (h : Q (.bool true) s) : wpAny (model prog w) A (compareOp .NotEq (.type X) (.type Y)) Q E s := by
  have hne' : (Value.type Y == Value.type X) = false := by
    rw [Bool.eq_false_iff] at hne ⊢
    intro e
    exact hne (by rw [beq_iff_eq] at e ⊢; exact e.symm)
  show wpAny _ A (richCompare .NotEq _ _) Q E s
  simp only [richCompare, cmpInfo_NotEq, (hX s).oneThing_none]
  try with_reducible refine wpAny_holding ?_
  refine wpAny_bind (wpAny_cRoomFor_byValue rfl ?_)
  refine wpAny_bind (wpAny_typeOf (hX s) (wpAny_bind (wpAny_typeOf (hY s) ?_)))
  simp only [bne_self_eq_false, Bool.false_eq_true, if_false, pure_bind, Bool.not_false, if_true]
  refine wpAny_bind (wpAny_tryCompare_declines (hX s) slot_type_ne (wpAny_call_entry slot_type_ne (hX s) F.cmpEntry_ne (ne_entry_other hX hne ⟨_, rfl, rfl, ?_⟩) (F.cmpArgs_ne _ _)))
  refine wpAny_bind (wpAny_tryCompare_declines (hY s) slot_type_ne_refl (wpAny_call_entry slot_type_ne_refl (hY s) F.cmpEntry_ne (ne_entry_other hY hne' ⟨_, rfl, rfl, ?_⟩) (F.cmpArgs_ne _ _)))
  refine wpAny_bind (wpAny_rule (wpAny_bind (wpAny_of_eq (isSame_plain rfl) (wpAny_pure ?_))))
  rw [hne]
  exact h
end
end PySem.TypeEq

set_option Elab.async false
set_option linter.all false
set_option maxRecDepth 100000
set_option maxHeartbeats 2000000
/-! VxSt: type(v) of data, == and != of built-in types, set(t) of a tuple of integers, sorted of a set of any size. -/
namespace L2
open PySem PySem.Spec PyProof.Rows
/-- the heap has grown; nothing else is told of the two states -/
structure Grown (s s' : Shared) : Prop where
  old : ∀ b o, s.heap.get? b = some o → s'.heap.get? b = some o
  big : s.heap.objs.size ≤ s'.heap.objs.size
  gens : s'.gens = s.gens
  os : s'.os = s.os
section
variable {P : Program} {w : World} {A : Around} {E : Value → Shared → Prop} {s : Shared}
/-- sorted(x), where gathering x gives integers, however many -/
theorem sorted_gathered {x : Value} {ns : List Int} {Q : Value → Shared → Prop} (small : ns.length ≤ sizeLine)
    (gather : ∀ R : List Value → Shared → Prop, (∀ s1 vs ms, Grown s s1 → IntsAre vs ms → ms.Perm ns → R vs s1) → wpAny (model P w) A.in1 (collect x) R E s)
    (after : ∀ s' p out c ms, Grown s s' → s.heap.objs.size ≤ p → s'.heap.get? p = some (seqObj "list" (List.toArray out) c) → IntsAre out ms → ms.Perm ns → ms.Pairwise (· ≤ ·) → Q (.ref p) s') :
    wpAny (model P w) A (call (.builtin "sorted") [x]) Q E s := by
  apply Calls.call_function_entry kind_sorted plain_sorted entry_sorted (args_sorted1 x)
  unfold Builtin.«sorted»
  apply wpAny_bind
  apply wpAny_pure
  apply wpAny_bind
  apply gather
  intro s1 vs ms gr whole_ perm
  have room : vs.length ≤ sizeLine := by
    rw [whole_.length, perm.length_eq]
    exact small
  apply wpAny_bind
  refine wpAny_newList ?_ room
  have made : (s1.heap.push (seqObj "list" vs.toArray 0)).get? s1.heap.objs.size = some (seqObj "list" vs.toArray 0) := Heap.get?_push_size _ rfl
  apply wpAny_bind
  apply wpAny_holding
  refine wpAny_call_entry slot_list_sort ⟨_, made, rfl⟩ entry_list_sort ?_ (args_list_sort _)
  refine SrtO.list_sort_ord SrtO.swo_int made room (fun two => SrtO.ints_sortable whole_ two) fun out so st => ?_
  obtain ⟨i1, i2, i3⟩ := SrtO.ints_out whole_ so st
  obtain ⟨c, lies⟩ := sortedHeap_at (vs := vs) (out := out.toArray) made
  refine ⟨_, rfl, wpAny_pure ⟨_, rfl, after _ _ out c _ ⟨fun b u e => ?_, ?_, gr.gens, gr.os⟩ gr.big lies i1 (i2.trans perm) i3⟩⟩
  · have e1 := gr.old b u e
    have lt := Heap.lt_size e1
    have ne : b ≠ s1.heap.objs.size := Nat.ne_of_lt lt
    refine Eq.trans (sortedHeap_old ne ?_) (Heap.get?_push_of_some _ e1)
    rw [size_push']
    exact Nat.lt_succ_of_lt lt
  · exact Nat.le_trans gr.big (Nat.le_of_lt (Heap.lt_size lies))
theorem sorted_setN {a : Addr} {S : Int → Bool} {n : Nat} {Q : Value → Shared → Prop} (R : SetR w s.heap a S n) (hh : A.handled = none) (small : n ≤ sizeLine)
    (after : ∀ s' p out c (ms : List Int), Grown s s' → s.heap.objs.size ≤ p → s'.heap.get? p = some (seqObj "list" (List.toArray out) c) → IntsAre out ms → ms.Pairwise (· < ·) → (∀ k, k ∈ ms ↔ S k = true) → ms.length = n → Q (.ref p) s') :
    wpAny (model P w) A (call (.builtin "sorted") [.ref a]) Q E s := by
  obtain ⟨o, es, ep, t, at_, kind, data, keys, dis, mem, few, fit, count, ris, led⟩ := R
  have len : (es.toList.map keyOf).length = n := by
    rw [List.length_map, Array.length_toList]
    exact count
  refine sorted_gathered (ns := es.toList.map keyOf) (by rw [len]; exact small) (fun G more => ?_) fun s' p out c ms gr hp lies whole_ perm asc => ?_
  · refine collect_set (A := A.in1) hh ⟨o, at_, kind.1, data⟩ fit few ris led fun s1 vs keep big gens os perm => more s1 vs (vs.map Builtin.Re.reRawOf) ⟨keep, big, gens, os⟩ (ints_of vs fun v hv => ?_) ?_
    · obtain ⟨e, he, q⟩ := List.mem_map.mp (perm.mem_iff.mp hv)
      obtain ⟨k, tk, h1, _⟩ := keys e he
      exact ⟨k, tk, q ▸ h1⟩
    · have q := perm.map Builtin.Re.reRawOf
      rwa [List.map_map] at q
  · refine after s' p out c ms gr hp lies whole_ (lt_of_le_nodup _ asc (perm.nodup_iff.mpr dis)) (fun k => ?_) (perm.length_eq.trans len)
    rw [perm.mem_iff, ← mem k]
end
section
variable {X : Cx}
/-- set(t), a tuple of whole_ -/
def rSetT (K : PySem.W.Frag) (w : World) : List V → Hp → VK → Prop := fun vs H Q => ∃ (p : Addr) (ns : List Int), vs = [.ref p] ∧ SqT K H p (ns.map V.int) ∧ ns.length + 1 < scanBound ∧ ∀ a c, H a = none → c ≤ ns.length → Q (.ref a) (upd H a (SetO w a (fun j => decide (j ∈ ns)) c))
theorem cr_setT (hc : X.calm = true) : CallR X (.type "set") (rSetT X.K X.w) := by
  intro pins s σ H vs us Q I r h
  obtain ⟨p, ns, rfl, hq, hb, q⟩ := h
  rw [Vals.ref1 r]
  obtain ⟨its, rv, pt, hz⟩ := I.tuple hq
  refine call_set_tupI ns (I.ok.hd hc) (show s.heap.IsTuple p its.toArray from pt) (ints_of_vals rv) hb fun h' tk c R hcn k => ?_
  exact ⟨.ref _, upd H s.heap.objs.size (SetO X.w s.heap.objs.size (fun j => decide (j ∈ ns)) c), I.laid (t' := tk) k (Nat.le_refl _) (setO_new R), rfl, q _ c (I.hok.fresh (Nat.le_refl _)) hcn⟩
/-- sorted(found), a set of whole_ of any size -/
def rSortedSetN (w : World) : List V → Hp → VK → Prop := fun vs H Q => ∃ (a : Addr) (S : Int → Bool) (n : Nat), vs = [V.ref a] ∧ H a = some (SetO w a S n) ∧ n ≤ sizeLine ∧
  ∀ (ns : List Int) (p : Addr), ns.Pairwise (· < ·) → (∀ k : Int, k ∈ ns ↔ S k = true) → ns.length = n → H p = none → Q (.ref p) (upd H p (.lst (ns.map V.int)))
theorem cr_sortedSetN (hc : X.calm = true) : CallR X (.builtin "sorted") (rSortedSetN X.w) := by
  intro pins s σ H vs us Q I r h
  obtain ⟨a, S, n, rfl, ha, hz, q⟩ := h
  have R := setO_get I ha
  rw [Vals.ref1 r]
  refine sorted_setN R (I.ok.hd hc) hz fun s' p out c ns gr hp lies whole_ asc mem len => ?_
  have room : (ns.map V.int).length ≤ sizeLine := by
    rw [List.length_map, len]
    exact hz
  have fresh : H p = none := I.hok.fresh hp
  have whole : s' = { s with heap := s'.heap, gens := s'.gens, drawn := s'.drawn, toks := s'.toks } := by
    obtain ⟨_, _, _, _, os'⟩ := s'
    have eo : os' = s.os := gr.os
    rw [eo]
  rw [whole]
  refine ⟨.ref p, upd H p (.lst (ns.map V.int)), ?_, rfl, q ns p asc mem len fresh⟩
  exact I.call (ch := []) (Un.laid gr.old hp fresh) (I.hok.laid gr.old hp ⟨room, out, c, vals_of_ints whole_, lies⟩) (by rw [gr.gens]; exact I.bare) fun _ z => nomatch z
/-- type(v) of data -/
theorem sd_typeIs {pins : List (Addr × Obj)} {σ : L2.St} {H : Hp} {s : Shared} {v : V} {u : Value} {d : PyData} (I : Inv X pins σ H s) (r : RelV v u) (h : Sd X.K H v d) : s.TypeIs u (tyN d) := by
  cases h with
  | non => cases (show u = Value.none from r); exact rfl
  | bl b => cases (show u = Value.bool b from r); exact rfl
  | int i => obtain ⟨t, rfl⟩ := (show ∃ t, u = Value.int i t from r); exact rfl
  | str x => obtain ⟨t, rfl⟩ := (show ∃ t, u = Value.str x t from r); exact rfl
  | lst h _ =>
    obtain ⟨its, rv, hl, hz⟩ := I.list h
    obtain ⟨o, n, ho, hc, _⟩ := hl
    cases (show u = Value.ref _ from r)
    exact ⟨o, ho, hc⟩
  | tup h _ =>
    obtain ⟨its, rv, hl, hz⟩ := I.tuple h
    obtain ⟨o, ho, hc, _⟩ := hl
    cases (show u = Value.ref _ from r)
    exact ⟨o, ho, hc⟩
  | emp e =>
    cases (show u = Value.ref _ from r)
    obtain ⟨_, _, vs, _, o, es, ep, h1, h2, _⟩ := I.hok _ _ e
    exact ⟨o, h1, h2.1⟩
  | one e _ =>
    cases (show u = Value.ref _ from r)
    obtain ⟨_, _, vs, _, o, es, ep, h1, h2, _⟩ := I.hok _ _ e
    exact ⟨o, h1, h2.1⟩
def rTyD (K : PySem.W.Frag) : List V → Hp → VK → Prop := fun xs H Q => ∃ (v : V) (d : PyData), xs = [v] ∧ Sd K H v d ∧ Q (.ty (tyN d)) H
theorem call_tyD : CallR X (.type "type") (rTyD X.K) := by
  intro pins s σ H xs us Q I r h
  obtain ⟨v, d, rfl, hv, q⟩ := h
  obtain ⟨u, rfl, ru⟩ := vals1 r
  exact call_type_of (sd_typeIs I ru hv) (by cases d <;> simp only [tyN] <;> decide +kernel) ⟨.ty (tyN d), H, I, rfl, q⟩
/-- T != U of built-in types -/
def tyOk (t : String) : Bool := ["NoneType", "bool", "int", "str", "tuple", "list", "dict"].contains t
theorem meta_tyOk {t : String} (h : tyOk t = true) : ∀ s' : Shared, s'.TypeIs (.type t) "type" := by
  have e : t = "NoneType" ∨ t = "bool" ∨ t = "int" ∨ t = "str" ∨ t = "tuple" ∨ t = "list" ∨ t = "dict" := by
    unfold tyOk at h
    simpa using h
  rcases e with rfl | rfl | rfl | rfl | rfl | rfl | rfl
  · exact PySem.TypeEq.meta_NoneType
  · exact PySem.TypeEq.meta_bool
  · exact PySem.TypeEq.meta_int
  · exact PySem.TypeEq.meta_str
  · exact PySem.TypeEq.meta_tuple
  · exact PySem.TypeEq.meta_list
  · exact PySem.TypeEq.meta_dict
theorem tyN_ok (d : PyData) : tyOk (tyN d) = true := by cases d <;> simp only [tyN] <;> decide
def rNeTy : R2 := fun x y H Q => ∃ m n : String, x = .ty m ∧ y = .ty n ∧ tyOk m = true ∧ tyOk n = true ∧ Q (.bl (!decide (m = n))) H
theorem op_neTy : OpR X (compareOp .NotEq) rNeTy := by
  intro pins s σ H x y v u Q I rx ry h
  obtain ⟨m, n, rfl, rfl, hm, hn, q⟩ := h
  cases (show v = Value.type m from rx)
  cases (show u = Value.type n from ry)
  by_cases e : m = n
  · subst e
    exact PySem.TypeEq.ne_type_same (meta_tyOk hm) ⟨.bl false, H, I, rfl, by simpa using q⟩
  · exact PySem.TypeEq.ne_type_other (meta_tyOk hm) (meta_tyOk hn) (beq_eq_false_iff_ne.mpr fun z => e (Value.type.inj z)) ⟨.bl true, H, I, rfl, by simpa [e] using q⟩
end
end L2

set_option Elab.async false
set_option linter.all false
set_option maxRecDepth 100000
set_option maxHeartbeats 2000000
/-! VxKd: dicts of the written part (module-level constants) with keys that are integers or texts: in, not in, d[k], list(d). -/
namespace L2
open PySem PySem.Spec PyProof.Rows
inductive EntK (w : World) : List DictEntry → List (Key × V) → Prop
  | nil : EntK w [] []
  | cons {e : DictEntry} {k : Key} {v : V} {es : List DictEntry} {kvs : List (Key × V)} : RelV (kV k) e.key → e.hash = keyH w k → RelV v e.val → EntK w es kvs → EntK w (e :: es) ((k, v) :: kvs)
/-- a dict of the written part, its pairs -/
structure KdK (K : PySem.W.Frag) (w : World) (d : Addr) (kvs : List (Key × V)) : Prop where
  low : (d == sysModules) = false
  len : kvs.length ≤ sizeLine
  nd : (kvs.map (·.1)).Nodup
  at_ : ∃ es n, K.lookup d = some ⟨.type "dict", none, .dict es n, #[]⟩ ∧ EntK w es.toList kvs
def valsE : List DictEntry → List (Key × V) → List (Key × Value)
  | e :: es, kv :: kvs => (kv.1, e.val) :: valsE es kvs
  | _, _ => []
theorem entK_kv {w : World} : ∀ {es : List DictEntry} {kvs : List (Key × V)}, EntK w es kvs → KV kvs (valsE es kvs)
  | _, _, .nil => .nil
  | _, _, .cons _ _ r t => .cons ⟨rfl, r⟩ (entK_kv t)
theorem entK_pairs {P : Program} {w : World} : ∀ {es : List DictEntry} {kvs : List (Key × V)}, EntK w es kvs → Pairs (mixKind P w) es (valsE es kvs)
  | _, _, .nil => .nil
  | _, _, .cons k _ _ t => .cons (kV_is k) rfl (entK_pairs t)
theorem entK_keys {P : Program} {w : World} : ∀ {es : List DictEntry} {kvs : List (Key × V)}, EntK w es kvs → ∀ e ∈ es, ∃ k, (mixKind P w).is k e.key = true ∧ e.hash = (mixKind P w).hash k
  | _, _, .nil, e, m => nomatch m
  | _, _, .cons k h _ t, e, m => by
    rcases List.mem_cons.mp m with rfl | m
    · exact ⟨_, kV_is k, h⟩
    · exact entK_keys t e m
theorem kdk_of {P : Program} {K : PySem.W.Frag} {w : World} {h : Heap} {d : Addr} {kvs : List (Key × V)} (X : K.In h) (D : KdK K w d kvs) : ∃ vs, KV kvs vs ∧ h.DictOf (mixKind P w) d vs := by
  obtain ⟨es, n, hl, en⟩ := D.at_
  have kv := entK_kv en
  refine ⟨_, kv, _, es, n, X _ _ hl, ⟨rfl, rfl, rfl⟩, rfl, fun e m => entK_keys en e (Array.mem_toList_iff.mpr m), entK_pairs en, ?_⟩
  rw [← kv.keys]
  exact D.nd
section
variable {X : Cx}
/-- k in d, k not in d -/
def rInKd (K : PySem.W.Frag) (w : World) (neg : Bool) : R2 := fun x y H Q => ∃ (k : Key) (d : Addr) (kvs : List (Key × V)), x = kV k ∧ y = .ref d ∧ KdK K w d kvs ∧ Q (.bl (if neg then !(valV kvs k).isSome else (valV kvs k).isSome)) H
theorem op_inKd : OpR X (compareOp .In) (rInKd X.K X.w false) := by
  intro pins s σ H x y v u Q I rx ry h
  obtain ⟨k, d, kvs, rfl, rfl, D, q⟩ := h
  cases ry
  obtain ⟨vs, rel, dd⟩ := kdk_of (P := X.prog) I.kIn D
  refine wpAny_in_of (kV_is rx) D.low dd.mapOf ?_
  rw [← (rel.val k).isSome_eq]
  exact ⟨.bl _, H, I.tok _, rfl, q⟩
theorem op_notInKd : OpR X (compareOp .NotIn) (rInKd X.K X.w true) := by
  intro pins s σ H x y v u Q I rx ry h
  obtain ⟨k, d, kvs, rfl, rfl, D, q⟩ := h
  cases ry
  obtain ⟨vs, rel, dd⟩ := kdk_of (P := X.prog) I.kIn D
  refine wpAny_notIn_of (kV_is rx) D.low dd.mapOf ?_
  rw [← (rel.val k).isSome_eq]
  exact ⟨.bl _, H, I.tok _, rfl, q⟩
/-- d[k] -/
def rIxKd (K : PySem.W.Frag) (w : World) : R2 := fun x y H Q => ∃ (k : Key) (d : Addr) (kvs : List (Key × V)) (v : V), x = .ref d ∧ y = kV k ∧ KdK K w d kvs ∧ valV kvs k = some v ∧ Q v H
theorem ix_kd : IxR X (rIxKd X.K X.w) := by
  intro value slice pins s σ H x y v u Q I rx ry h hs
  obtain ⟨k, d, kvs, r, rfl, rfl, D, e, q⟩ := h
  obtain rfl : v = Value.ref d := rx
  obtain ⟨vs, rel, dd⟩ := kdk_of (P := X.prog) I.kIn D
  obtain ⟨w', hw, rw'⟩ := RelO.some_of (v := r) (o := valueAt vs k) (by rw [← e]; exact rel.val k)
  exact tail_any dd.typeIs slot_dict_getitem.lookup (wpAny_getItem_of (kV_is ry) dd.mapOf hw ⟨r, H, I.tok _, rw', q⟩) hs
/-- list(d) -/
def rListKd (K : PySem.W.Frag) (w : World) : List V → Hp → VK → Prop := fun xs H Q => ∃ (d : Addr) (kvs : List (Key × V)), xs = [.ref d] ∧ KdK K w d kvs ∧ ∀ p, H p = none → Q (.ref p) (upd H p (.lst (kvs.map fun kv => kV kv.1)))
theorem call_listKd (calm : X.calm = true) : CallR X (.type "list") (rListKd X.K X.w) := by
  intro pins s σ H xs us Q I r h
  obtain ⟨d, kvs, rfl, D, q⟩ := h
  rw [Vals.ref1 r]
  obtain ⟨vs, rel, dd⟩ := kdk_of (P := X.prog) I.kIn D
  obtain ⟨ep, stands⟩ := dd.dictAt
  have names : (kvs.map fun kv => kV kv.1) = vs.map fun kv => kV kv.1 := by
    have e := congrArg (List.map kV) rel.keys
    rw [List.map_map, List.map_map] at e
    exact e
  have many : vs.length ≤ sizeLine := by
    rw [← rel.length]
    exact D.len
  refine PySem.W.kdl_call (PySem.W.kdl_dict (knd := mixKind X.prog X.w) D.low) (I.ok.hd calm) stands many fun h' tk acc c keep lies found => ?_
  have got : Vals (kvs.map fun kv => kV kv.1) acc.toList := by
    rw [names]
    exact keys_at (by rw [Array.length_toList]; exact found.1) fun j v e => found.2 j v (by rwa [Array.getElem?_toList] at e)
  exact ⟨.ref _, upd H s.heap.objs.size (.lst (kvs.map fun kv => kV kv.1)), I.laid (t' := tk) keep (Nat.le_refl _) ⟨by rw [List.length_map]; exact D.len, acc.toList, c, got, by rw [Array.toArray_toList]; exact lies⟩, rfl, q _ (I.hok.fresh (Nat.le_refl _))⟩
end
end L2

set_option Elab.async false
set_option linter.all false
set_option maxRecDepth 100000
set_option maxHeartbeats 4000000
/-! VxLm: a law's end over defs that are promised where nothing is being shown, with the tables of code objects of the defs that make lambdas; the look at the head for it. -/
namespace LamX
open PySem PySem.Spec PyProof.Rows L2
/-- the tables, tracked as empty, beside H -/
def withTabs (T : List Addr) (H : Hp) : Hp := fun b => if b ∈ T then some (.tbl #[]) else H b
theorem withTabs_in {T : List Addr} {H : Hp} {b : Addr} (m : b ∈ T) : withTabs T H b = some (.tbl #[]) := if_pos m
theorem withTabs_off {T : List Addr} {H : Hp} {b : Addr} (m : b ∉ T) : withTabs T H b = H b := if_neg m
abbrev tabO : Obj := { cls := .none, data := .fields #[] }
/-- what is known of a def's code object and its table at the law's call -/
structure TabK (K : PySem.W.Frag) (h : Heap) (p : Addr × Addr) : Prop where
  code : PySem.W.CodeHd h p.1 p.2
  out : K.lookup p.2 = none
  emp : h.get? p.2 = some tabO
section
variable {P : Program} {w : World} {K : PySem.W.Frag} {mg mb : Str → Option Value} {k : Nat} {fa a : Addr} {fd : FuncData} {x : Str} {sp : Sp} {s₁ : Shared} {vs : List Value} {ns : List Int} {cs : List (Addr × Addr)}
/-- over a heap in which the script at most is tracked -/
theorem law_tabs (kin : K.In s₁.heap) (hns : s₁.heap.Ns mainGlobals mg) (hb : s₁.heap.Ns builtinsNs mb) (hbb : ∀ x : Str, x ≠ "__name__" → mb x = bootBuiltins x) (hlim : s₁.heap.NoLimit) (hg : s₁.gens = #[])
    (hbm : ∃ (bm : Addr) (ob : Obj), mg "__builtins__" = some (.ref bm) ∧ bm ≠ builtinsNs ∧ s₁.heap.get? bm = some ob ∧ ob.cls = .type "module" ∧ ob.dict = some builtinsNs ∧ ob.data = .plain)
    (tabs : ∀ p ∈ cs, TabK K s₁.heap p) (ha : s₁.heap.get? a = some { cls := .type "list", data := .seq vs.toArray }) (hr : Room k callerA)
    (F : ∀ base : Heap, K.In base → base.Ns mainGlobals mg → (∀ p ∈ cs, TabB base mg p.1 p.2) → FnG P w K mg base CX0 k fa fd [x] sp) (hbind : ∀ (s : Shared) (u : Value), BindsTo s fd ⟨[u], []⟩ [(x, u)])
    (H : Hp) (only : ∀ b, H b = none ∨ (b = a ∧ ∃ o xs, H b = some (.frz o (.lst xs)))) (hok : HOk P w H s₁.heap) (hK : H a ≠ none → K.lookup a = none)
    (hsp : sp [.ref a] (withTabs (cs.map (·.2)) H) (fun v _ => v = .bl true) fun _ _ _ => False) :
    codeAny (model P w) callerA (.call (.ref fa) ⟨[.ref a], []⟩) (fun r s' => r = .ok (.ret (.bool true)) ∧ OldK s₁.heap s'.heap ∧ s'.os = s₁.os ∧ AllBare s'.gens) s₁ := by
  have isT : ∀ b, b ∈ cs.map (·.2) → ∃ p ∈ cs, p.2 = b ∧ s₁.heap.get? b = some tabO := fun b m => by
    obtain ⟨p, hp, rfl⟩ := List.mem_map.mp m
    exact ⟨p, hp, rfl, (tabs p hp).emp⟩
  have aT : a ∉ cs.map (·.2) := fun m => by
    obtain ⟨_, _, _, z⟩ := isT a m
    rw [ha] at z
    exact nomatch congrArg Obj.data (Option.some.inj z)
  -- an object that is neither the script nor a table is untracked
  have off : ∀ {b : Addr} {o : Obj}, s₁.heap.get? b = some o → b ≠ a → o ≠ tabO → withTabs (cs.map (·.2)) H b = none := fun {b o} e n1 n2 => by
    have nT : b ∉ cs.map (·.2) := fun m => by
      obtain ⟨_, _, _, z⟩ := isT b m
      rw [e] at z
      exact n2 (Option.some.inj z)
    rw [withTabs_off nT]
    rcases only b with z | ⟨z, _⟩
    · exact z
    · exact absurd z n1
  have base_of : ∀ {b : Addr} {o : Obj}, s₁.heap.get? b = some o → b ≠ a → o ≠ tabO → (hidT s₁.heap (withTabs (cs.map (·.2)) H)).get? b = some o := fun e n1 n2 => hidT_get e (off e n1 n2)
  have notA : ∀ {b : Addr} {o : Obj}, s₁.heap.get? b = some o → (∀ xs n, o.data ≠ .seq xs n) → b ≠ a := fun {b o} e n z => by
    rw [z, ha] at e
    have q := congrArg Obj.data (Option.some.inj e)
    exact n _ _ q.symm
  have hokT : HOk P w (withTabs (cs.map (·.2)) H) s₁.heap := fun b u e => by
    by_cases m : b ∈ cs.map (·.2)
    · rw [withTabs_in m] at e
      obtain ⟨_, _, _, z⟩ := isT b m
      cases e
      exact z
    · rw [withTabs_off m] at e
      refine (hok b u e).stay (fun d v hd q => q) (fun d q => ?_) fun d xs q => ?_
      · have nm : d ∉ cs.map (·.2) := fun y => by
          rcases only d with z | ⟨z, _⟩
          · rw [z] at q
            cases q
          · exact aT (z ▸ y)
        rw [withTabs_off nm]
        exact q
      · have nm : d ∉ cs.map (·.2) := fun y => by
          rcases only d with z | ⟨z, _⟩
          · rw [z] at q
            cases q
          · exact aT (z ▸ y)
        rw [withTabs_off nm]
        exact q
  have nsK : ∀ {b : Addr} {m : Str → Option Value}, s₁.heap.Ns b m → (hidT s₁.heap (withTabs (cs.map (·.2)) H)).Ns b m := fun {b m} z => by
    obtain ⟨o, es, ep, e, d, r⟩ := z
    refine ⟨o, es, ep, base_of e (notA e fun xs n y => ?_) fun y => ?_, d, r⟩
    · rw [d] at y
      cases y
    · rw [y] at d
      cases d
  have kinB : K.In (hidT s₁.heap (withTabs (cs.map (·.2)) H)) := fun b o e => hidT_get (kin b o e) (by
    have nT : b ∉ cs.map (·.2) := fun m => by
      obtain ⟨p, hp, e2⟩ := List.mem_map.mp m
      have z := (tabs p hp).out
      rw [e2, e] at z
      cases z
    rw [withTabs_off nT]
    by_cases nb : b = a
    · cases q : H b with
      | none => rfl
      | some u =>
        have z := hK (by rw [← nb, q]; exact fun y => nomatch y)
        rw [← nb, e] at z
        cases z
    · rcases only b with z | ⟨z, _⟩
      · exact z
      · exact absurd z nb)
  have md : L2.Mod K mg (hidT s₁.heap (withTabs (cs.map (·.2)) H)) := ⟨kinB, nsK hns, ⟨mb, nsK hb, hbb⟩, by
    obtain ⟨mc, h1, h2⟩ := hlim
    exact ⟨mc, nsK h1, h2⟩⟩
  have tb : ∀ p ∈ cs, TabB (hidT s₁.heap (withTabs (cs.map (·.2)) H)) mg p.1 p.2 := fun p hp => by
    have tk := tabs p hp
    refine ⟨?_, ?_, fun z => ?_⟩
    · obtain ⟨o, us, f1, f2, f3, f4, f5, f6, f7, e, kind, data, at11, rest⟩ := tk.code
      refine ⟨o, us, f1, f2, f3, f4, f5, f6, f7, base_of e (notA e fun xs n y => ?_) fun y => ?_, kind, data, at11, rest⟩
      · rw [data] at y
        cases y
      · rw [y] at kind
        cases kind
    · obtain ⟨bm, ob, b1, b2, b3, b4, b5, b6⟩ := hbm
      refine ⟨bm, ob, b1, b2, fun z => ?_, fun z => ?_, base_of b3 (notA b3 fun xs n y => ?_) fun y => ?_, b4, b5, b6⟩
      · obtain ⟨o, es, ep, e, d, _⟩ := hns
        rw [← z, b3] at e
        rw [← Option.some.inj e, b6] at d
        cases d
      · have e := tk.emp
        rw [← z, b3] at e
        rw [Option.some.inj e] at b6
        cases b6
      · rw [b6] at y
        cases y
      · rw [y] at b6
        cases b6
    · obtain ⟨o, es, ep, e, d, _⟩ := hns
      rw [z, tk.emp] at e
      rw [← Option.some.inj e] at d
      cases d
  have e0 : Env0 P w K mg (hidT s₁.heap (withTabs (cs.map (·.2)) H)) callerA [] s₁ (withTabs (cs.map (·.2)) H) := ⟨rfl, md, fun b o e => of_hidT e, Nat.le_of_eq (hidT_size _ _), trivial, fun b z => (List.not_mem_nil z).elim, hokT, .of_eq hg⟩
  refine codeAny_mono ((F _ kinB (nsK hns) tb).run callerA rfl hr [] s₁ _ ⟨[.ref a], []⟩ [.ref a] [.ref a] _ _ e0 (hbind s₁ (.ref a)) (.cons rfl .nil) hsp) fun r s' h => ?_
  cases r with
  | error e => exact False.elim h
  | ok fl =>
    cases fl with
    | next => exact False.elim h
    | brk => exact False.elim h
    | cont => exact False.elim h
    | ret u =>
      obtain ⟨v, H', os, bare, un, hok', r', q⟩ := h
      have ev : v = .bl true := q
      rw [ev] at r'
      have eu : u = Value.bool true := r'
      rw [eu]
      have same : ∀ b o, b ∉ cs.map (·.2) → s₁.heap.get? b = some o → s'.heap.get? b = some o := fun b o nb e => by
        rcases only b with z | ⟨_, ob, xs, z⟩
        · exact un.keep b o e (by rw [withTabs_off nb]; exact z) (fun y => (List.not_mem_nil y).elim) fun y => (List.not_mem_nil y).elim
        · have z2 : withTabs (cs.map (·.2)) H b = some (.frz ob (.lst xs)) := by rw [withTabs_off nb]; exact z
          have e1 := (hokT b _ z2).1
          rw [e] at e1
          rw [Option.some.inj e1]
          exact (hok' b _ (un.frzs b ob _ z2)).1
      have grown : ∀ b, b ∈ cs.map (·.2) → ∃ more : Array Value, s'.heap.get? b = some { cls := .none, data := .fields more } := fun b m => by
        obtain ⟨more, z⟩ := un.tbls b #[] (withTabs_in m)
        exact ⟨_, hok' b _ z⟩
      refine ⟨rfl, ⟨fun b o e => ?_, fun b o e => ?_⟩, os, bare⟩
      · by_cases m : b ∈ cs.map (·.2)
        · obtain ⟨p, hp, e2, z⟩ := isT b m
          obtain ⟨more, hm⟩ := grown b m
          subst e2
          rw [z] at e
          cases e
          have tk := tabs p hp
          exact .inr (.inl ⟨(tk.code.tab tk.emp).isCodeTable, rfl, #[], more, rfl, by rw [Array.empty_append]; exact hm⟩)
        · exact .inl (same b o m e)
      · by_cases m : b ∈ cs.map (·.2)
        · obtain ⟨more, hm⟩ := grown b m
          exact ⟨_, hm⟩
        · exact ⟨o, same b o m e⟩
theorem law_callTG (kin : K.In s₁.heap) (hns : s₁.heap.Ns mainGlobals mg) (hb : s₁.heap.Ns builtinsNs mb) (hbb : ∀ x : Str, x ≠ "__name__" → mb x = bootBuiltins x) (hlim : s₁.heap.NoLimit) (hg : s₁.gens = #[])
    (hbm : ∃ (bm : Addr) (ob : Obj), mg "__builtins__" = some (.ref bm) ∧ bm ≠ builtinsNs ∧ s₁.heap.get? bm = some ob ∧ ob.cls = .type "module" ∧ ob.dict = some builtinsNs ∧ ob.data = .plain)
    (tabs : ∀ p ∈ cs, TabK K s₁.heap p) (ha : s₁.heap.get? a = some { cls := .type "list", data := .seq vs.toArray }) (hi : IntsAre vs ns) (hl : ns.length ≤ sizeLine) (hr : Room k callerA)
    (F : ∀ base : Heap, K.In base → base.Ns mainGlobals mg → (∀ p ∈ cs, TabB base mg p.1 p.2) → FnG P w K mg base CX0 k fa fd [x] sp) (hbind : ∀ (s : Shared) (u : Value), BindsTo s fd ⟨[u], []⟩ [(x, u)])
    (hsp : ∀ H : Hp, (∀ p ∈ cs, H p.2 = some (.tbl #[])) → SqL K H a (ns.map V.int) → sp [.ref a] H (fun v _ => v = .bl true) fun _ _ _ => False) :
    codeAny (model P w) callerA (.call (.ref fa) ⟨[.ref a], []⟩) (fun r s' => r = .ok (.ret (.bool true)) ∧ OldK s₁.heap s'.heap ∧ s'.os = s₁.os ∧ AllBare s'.gens) s₁ := by
  have rv : Vals (ns.map V.int) vs := vals_ints hi
  have here : ∀ H : Hp, ∀ p ∈ cs, withTabs (cs.map (·.2)) H p.2 = some (.tbl #[]) := fun H p hp => withTabs_in (List.mem_map.mpr ⟨p, hp, rfl⟩)
  have aT : a ∉ cs.map (·.2) := fun m => by
    obtain ⟨p, hp, e⟩ := List.mem_map.mp m
    have z := (tabs p hp).emp
    rw [e, ha] at z
    exact nomatch congrArg Obj.data (Option.some.inj z)
  cases hk : K.lookup a with
  | some o =>
    have e := kin a o hk
    rw [ha] at e
    have eo := Option.some.inj e
    exact law_tabs kin hns hb hbb hlim hg hbm tabs ha hr F hbind (fun _ => none) (fun _ => .inl rfl) (fun b u z => nomatch (show (none : Option HO) = some u from z)) (fun z => absurd rfl z)
      (hsp _ (here _) (.inr ⟨o, vs.toArray, _, hk, by rw [← eo], by rw [← eo], by rw [← eo], by rw [List.size_toArray, hi.length]; exact hl, by simpa using rv⟩))
  | none =>
    have at_ : onlyAt a { cls := .type "list", data := .seq vs.toArray } (ns.map V.int) a = some (.frz { cls := .type "list", data := .seq vs.toArray } (.lst (ns.map V.int))) := if_pos rfl
    have off : ∀ b, b ≠ a → onlyAt a { cls := .type "list", data := .seq vs.toArray } (ns.map V.int) b = none := fun b nb => if_neg nb
    refine law_tabs kin hns hb hbb hlim hg hbm tabs ha hr F hbind (onlyAt a { cls := .type "list", data := .seq vs.toArray } (ns.map V.int)) (fun b => ?_) (fun b u z => ?_) (fun _ => hk) (hsp _ (here _) (.inl (.inr ⟨{ cls := .type "list", data := .seq vs.toArray }, ?_⟩)))
    · by_cases nb : b = a
      · exact .inr ⟨nb, _, _, by rw [nb]; exact at_⟩
      · exact .inl (off b nb)
    · by_cases nb : b = a
      · subst nb
        rw [at_] at z
        have ez := Option.some.inj z
        subst ez
        exact ⟨ha, by rw [List.length_map]; exact hl, vs, _, rv, ha⟩
      · rw [off b nb] at z
        cases z
    · rw [withTabs_off aT]
      exact at_
end
theorem walk_ofTG {l : PySem.W.OpenLaw} {n k : Nat} {q : Program} {loose : List Str} {XP : (Str → Option Value) → Heap → Prop} {YP : World → Heap → Prop} {d : DefRec} {x : Str}
    (hn : l.most = some n) (hn2 : n ≤ sizeLine) (hdf : d.params.defaults = []) (hr : Room k callerA)
    (F : ∀ (w : World) (mg : Str → Option Value) (fa : Addr) (h : Heap), YP w h → h.Ns mainGlobals mg → mg d.name = some (.ref fa) →
      ∃ (K : PySem.W.Frag) (fd : FuncData) (sp : Sp) (cs : List (Addr × Addr)), K.In h ∧ (∀ p ∈ cs, TabK K h p) ∧ (∀ (s : Shared) (u : Value), BindsTo s fd ⟨[u], []⟩ [(x, u)]) ∧
        (∀ (H : Hp) (a : Addr) (ns : List Int), ns.length ≤ n → (∀ p ∈ cs, H p.2 = some (.tbl #[])) → SqL K H a (ns.map V.int) → sp [.ref a] H (fun v _ => v = .bl true) fun _ _ _ => False) ∧
        ∀ base : Heap, K.In base → base.Ns mainGlobals mg → (∀ p ∈ cs, TabB base mg p.1 p.2) → FnG l.prog w K mg base CX0 k fa fd [x] sp) :
    PySem.W.WalkO q loose XP YP l.row.toRowW d [] (fun f vs => PySem.call f vs) :=
  Att.attach_call hn hdf fun w s₀ s₁ mg mb fa o pm cd doc a vs ns G Y ho hd hcd hmg hobj hints hlen hg => by
    obtain ⟨K, fd, sp, cs, kin, tabs, hb, hsp, hF⟩ := F w mg fa _ Y G.T.g hmg
    exact law_callTG kin G.T.g G.T.b G.T.builtins G.T.nolimit hg G.T.bmain tabs hobj hints (Nat.le_trans hlen hn2) hr hF hb fun H hT hS => hsp H a ns hlen hT hS
end LamX
namespace He
open PySem PySem.Spec PyProof.Rows L2
/-! ### the look at the head: sys.modules beside the module's names, defs at any address, dicts with text keys, one Bool more, empty tables left out -/
abbrev AlL : Type := (AlD × Bool) × List (Option (List (Option (Str × Int))))
def frL (g : Addr → Option Obj) (n : Nat) : PySem.W.Frag := frT g (sysModules :: He5.asA g n)
def obsL (n : Nat) (fa : List Fa) (fn : List He5.DefA) (ts : List Tab) (tf : List Defn) (chk : PySem.W.Frag → Bool) (g : Addr → Option Obj) : AlL :=
  ((He5.obsA fa fn (frL g n), chk (frL g n) && tabsB g tf (frL g n)), ts.map fun t => dicW (frL g n) (t.1 (frL g n)))
structure SaysL (fa : List Fa) (fn : List He5.DefA) (ts : List Tab) (tf : List Defn) (chk : PySem.W.Frag → Bool) (w : World) (h : Heap) (K : PySem.W.Frag) : Prop where
  says : He5.SaysA fa fn K
  chk : chk K = true
  dic : ∀ t ∈ ts, dicW K (t.1 K) = some (keysIn w.params t.2)
  tabs : ∀ p ∈ tf, LamX.TabK K h (cT K p)
theorem map_all {α β : Type} {f g : α → β} : ∀ {l : List α}, l.map f = l.map g → ∀ t ∈ l, f t = g t
  | [], _, _, m => nomatch m
  | x :: r, e, t, m => by
    rw [List.map_cons, List.map_cons] at e
    injection e with e1 e2
    rcases List.mem_cons.mp m with rfl | m
    · exact e1
    · exact map_all e2 t m
theorem saysL_of {n : Nat} {fa : List Fa} {fn : List He5.DefA} {ts : List Tab} {tf : List Defn} {chk : PySem.W.Frag → Bool} {w : World} {h : Heap}
    (e : obsL n fa fn ts tf chk h.get? = ((He5.valA fn, true), ts.map fun t => some (keysIn w.params t.2))) : SaysL fa fn ts tf chk w h (frL h.get? n) := by
  injection e with e1 e2
  injection e1 with e3 e4
  obtain ⟨h1, h2⟩ := ba e4
  refine ⟨e3, h1, map_all e2, fun p hp => ?_⟩
  obtain ⟨h3, h4⟩ := ba (List.all_eq_true.mp h2 p hp)
  cases q : h.get? (cT (frL h.get? n) p).2 with
  | none =>
    rw [q] at h4
    cases h4
  | some o =>
    rw [q] at h4
    exact ⟨PySem.W.codeHd_of_K frT_in h3, frT_none q h4, by rw [q, emptyTab_eq h4]⟩
def hookL (n : Nat) (fa : List Fa) (fn : List He5.DefA) (ts : List Tab) (tf : List Defn) (chk : PySem.W.Frag → Bool) : PySem.W.Hook where
  α := AlL
  obs := fun s => obsL n fa fn ts tf chk s.heap.get?
  val := fun w => ((He5.valA fn, true), ts.map fun t => some (keysIn w.params t.2))
  says := fun w h => ∃ K : PySem.W.Frag, K.In h ∧ SaysL fa fn ts tf chk w h K
  of := fun _ _ e => ⟨_, frT_in, saysL_of e⟩
  keeps := fun _ _ _ ⟨K, hK, c⟩ k => ⟨K, PySem.W.Frag.In.keeps hK k, c.says, c.chk, c.dic, fun p hp => ⟨(c.tabs p hp).code.keeps k, (c.tabs p hp).out, k _ _ (c.tabs p hp).emp⟩⟩
theorem obsL_eq {n : Nat} {fa : List Fa} {fn : List He5.DefA} {ts : List Tab} {tf : List Defn} {chk : PySem.W.Frag → Bool} {g : Addr → Option Obj} {s : Shared} (h : ∀ a, g a = s.heap.get? a) : obsL n fa fn ts tf chk g = (hookL n fa fn ts tf chk).obs s := by
  have e : g = s.heap.get? := funext h
  rw [e] <;> rfl
end He

set_option Elab.async false
set_option linter.all false
set_option maxRecDepth 100000
set_option maxHeartbeats 2000000
namespace Kg
open PySem PySem.Spec PyProof.Rows L2
def top (i : Nat) : Stmt := PySem.Challenge.pw_brinejar_k09_registries.main.body.getD i (.Pass ⟨0, 0, 0, 0⟩)
abbrev gC (K : PySem.W.Frag) (x : Str) : Addr := He.ga K x
def LET : Str := "abcdefghijklmnopqrstuvwxyzABCDEFGHIJKLMNOPQRSTUVWXYZ"
def OTH : Str := "0123456789_."
abbrev sReg : Stmt := top 41
abbrev sRgI : Stmt := inClass sReg 0
abbrev sRgA : Stmt := inClass sReg 1
abbrev sRgE : Stmt := inClass sReg 2
abbrev sRgF : Stmt := inClass sReg 3
abbrev sRgT : Stmt := inClass sReg 4
abbrev sRgG : Stmt := inClass sReg 5
abbrev sRgB : Stmt := inClass sReg 6
abbrev sRgW : Stmt := inClass sReg 7
abbrev sRgC : Stmt := inClass sReg 8
abbrev sRgL : Stmt := inClass sReg 9
abbrev sRgN : Stmt := inClass sReg 10
abbrev sRgK : Stmt := inClass sReg 11
abbrev sAI : Stmt := inClass (top 37) 0
abbrev sEI : Stmt := inClass (top 38) 0
abbrev sFI : Stmt := inClass (top 43) 0
abbrev tC (K : PySem.W.Frag) : Addr × Addr := He.cT K ("_law_call_right", none)
abbrev tR (K : PySem.W.Frag) : Addr × Addr := He.cT K ("_law_read_right", none)
end Kg

set_option Elab.async false
set_option linter.all false
set_option maxRecDepth 100000
set_option maxHeartbeats 4000000
namespace Kg
open PySem PySem.Spec PyProof.Rows L2
/-! ### where the defs stand -/
def gAt (x : Str) : PySem.W.Frag → Addr := fun K => He.ga K x
def mAt (C m : Str) : PySem.W.Frag → Addr := fun K => He.ma K (He.ga K C) m
def wAt (C : Str) (T : String) (m : Str) : PySem.W.Frag → Addr := fun K => He5.wf K (He.ga K C) T m
def dF (x : Str) (i : Nat) : He5.DefA := ⟨gAt x, x, x, defArgs (top i), defBody (top i), defScope (top i), [], []⟩
def dM (a : PySem.W.Frag → Addr) (x qual : Str) (st : Stmt) (kw : List (Str × He.Dv)) : He5.DefA := ⟨a, x, qual, defArgs st, defBody st, defScope st, [], kw⟩
def fn : List He5.DefA := [dF "is_integer" 8, dF "is_brand" 12, dF "is_free_brand" 13, dF "require_labels" 46, dF "_law_begin" 48, dF "_law_mixed" 49, dF "_law_next" 50, dF "_law_brand" 51, dF "_law_caught" 52, dF "_law_entered" 53, dF "_law_call_right" 54, dF "_law_read_right" 55, dF "_law_started" 56, dF "law" 57,
  dM (mAt "InvalidBrand" "__init__") "__init__" "InvalidBrand.__init__" (inClass (top 20) 0) [], dM (mAt "InvalidTakes" "__init__") "__init__" "InvalidTakes.__init__" (inClass (top 21) 0) [], dM (mAt "BrandTaken" "__init__") "__init__" "BrandTaken.__init__" (inClass (top 23) 0) [], dM (mAt "UnknownBrand" "__init__") "__init__" "UnknownBrand.__init__" (inClass (top 24) 0) [],
  dM (mAt "Registry" "__init__") "__init__" "Registry.__init__" sRgI [], dM (mAt "Registry" "allow") "allow" "Registry.allow" sRgA [], dM (mAt "Registry" "enter") "enter" "Registry.enter" sRgE [("takes", .int 0), ("build", .non)], dM (mAt "Registry" "forget") "forget" "Registry.forget" sRgF [], dM (mAt "Registry" "takes_of") "takes_of" "Registry.takes_of" sRgT [], dM (mAt "Registry" "entry_of") "entry_of" "Registry.entry_of" sRgG [],
  dM (wAt "Registry" "property" "brands") "brands" "Registry.brands" sRgB [], dM (mAt "Registry" "twin") "twin" "Registry.twin" sRgW [], dM (mAt "Registry" "__contains__") "__contains__" "Registry.__contains__" sRgC [], dM (mAt "Registry" "__len__") "__len__" "Registry.__len__" sRgL [], dM (mAt "Registry" "_require_new") "_require_new" "Registry._require_new" sRgN [], dM (mAt "Registry" "_require_known") "_require_known" "Registry._require_known" sRgK [],
  dM (mAt "AllowedBrand" "__init__") "__init__" "AllowedBrand.__init__" sAI [], dM (mAt "EnteredBrand" "__init__") "__init__" "EnteredBrand.__init__" sEI [], dM (mAt "Fields" "__init__") "__init__" "Fields.__init__" sFI []]
def fa : List He.Fa := ([.glo "is_integer", .glo "is_brand", .glo "is_free_brand", .glo "require_labels", .glo "_law_begin", .glo "_law_mixed", .glo "_law_next", .glo "_law_brand", .glo "_law_caught", .glo "_law_entered", .glo "_law_call_right", .glo "_law_read_right", .glo "_law_started", .glo "law",
  .glo "InvalidBrand", .glo "InvalidTakes", .glo "BrandTaken", .glo "UnknownBrand", .glo "Registry", .glo "AllowedBrand", .glo "EnteredBrand", .glo "Fields", .glo "Whole", .glo "Refill"] : List He.Fa) ++
  ([.free "isinstance", .free "int", .free "bool", .free "str", .free "tuple", .free "len", .free "all", .free "repr", .free "range", .free "min", .free "dict", .free "sorted", .int "BRAND_LIMIT" 40, .str "LETTERS" LET, .str "OTHER_BRAND_SIGNS" OTH, .str "RESERVED_BRAND" "bag", .int "TAKES_LIMIT" 20] : List He.Fa) ++
  ([.cls "Registry", .noat "Registry" "_known", .mkr "Registry", .meth "Registry" "allow", .meth "Registry" "enter", .meth "Registry" "forget", .meth "Registry" "takes_of", .meth "Registry" "entry_of", .meth "Registry" "twin", .meth "Registry" "__contains__", .meth "Registry" "__len__", .meth "Registry" "_require_new", .meth "Registry" "_require_known",
  .cls "AllowedBrand", .noat "AllowedBrand" "takes", .noat "AllowedBrand" "_brand", .mkr "AllowedBrand", .cls "EnteredBrand", .noat "EnteredBrand" "takes", .noat "EnteredBrand" "_brand", .noat "EnteredBrand" "_make_hook", .noat "EnteredBrand" "_reduce_hook", .noat "EnteredBrand" "_build_hook", .mkr "EnteredBrand", .cls "Fields", .noat "Fields" "_brand", .noat "Fields" "_labels", .mkr "Fields"] : List He.Fa)
def errB (K : PySem.W.Frag) (x fld : Str) : Bool :=
  decide (PySem.W.findIn K (.ref (gC K x)) "__init__" = some (some (.ref (mAt x "__init__" K)))) && (decide (PySem.W.typeIn K (.ref (mAt x "__init__" K)) = some (.type "function")) && decide (PySem.W.findIn K (.ref (gC K x)) fld = some none))
def exB (K : PySem.W.Frag) (x : Str) : Bool := decide (PySem.W.exmAny K (.ref (gC K x)) [.ref (gC K "BrandTaken"), .ref (gC K "InvalidTakes"), .ref (gC K "UnknownBrand")] = some true)
def kitB (K : PySem.W.Frag) (x y : Str) (b : Bool) : Bool := decide (PySem.W.kitOne K (.ref (gC K x)) (.ref (gC K y)) = some b)
def propB (K : PySem.W.Frag) (C m : Str) : Bool :=
  He.eqO (PySem.W.findIn K (.ref (gC K C)) m) (some (some (.ref (mAt C m K)))) && (He.eqO (PySem.W.specialIn K (.ref (mAt C m K)) "__get__") (some (some (.builtin "property.__get__"))) && (decide (PySem.W.takesIn K (.ref (mAt C m K)) = some true) &&
  (match PySem.W.recIn K (mAt C m K) "property" with
    | some (.ref _ :: _) => true
    | _ => false)))
def bareB (K : PySem.W.Frag) (C : Addr) : Bool := PySem.W.makesIn K C && (He.eqO (PySem.W.findIn K (.ref C) "__init__") (some (some (.builtin "object.__init__"))) && (PySem.W.keepIn K (.ref C) && decide (PySem.W.mroIn K C (.type "object") = some true)))
def chk (K : PySem.W.Frag) : Bool :=
  sysB K && (xcB K (gC K "InvalidBrand") bmVE "ValueError.__new__" && (xcB K (gC K "InvalidTakes") bmVE "ValueError.__new__" && (xcB K (gC K "BrandTaken") bmRE "RuntimeError.__new__" && (xcB K (gC K "UnknownBrand") bmLE "LookupError.__new__" &&
  (errB K "InvalidBrand" "given" && (errB K "InvalidTakes" "value" && (errB K "BrandTaken" "given" && (errB K "UnknownBrand" "given" && (exB K "BrandTaken" && (exB K "InvalidTakes" && (exB K "UnknownBrand" &&
  (kitB K "BrandTaken" "InvalidTakes" false && (kitB K "InvalidTakes" "InvalidTakes" true && (kitB K "UnknownBrand" "InvalidTakes" false && (kitB K "BrandTaken" "BrandTaken" true && (kitB K "UnknownBrand" "BrandTaken" false &&
  (propB K "Registry" "brands" && (bareB K (gC K "Whole") && (bareB K (gC K "Refill") && !((tC K).2 == (tR K).2))))))))))))))))))))
def tf : List He.Defn := [("_law_call_right", none), ("_law_read_right", none)]
end Kg

set_option Elab.async false
set_option linter.all false
set_option maxRecDepth 100000
set_option maxHeartbeats 2000000
/-! VxHd: the look at the head as VxLm's, its part of the heap found with a mask of the addresses seen (in the kernel far cheaper than lists without doubles). -/
namespace He
open PySem PySem.Spec PyProof.Rows L2
def bitT (m a : Nat) : Bool := Nat.beq (Nat.land (Nat.shiftRight m a) 1) 1
def putB (m a : Nat) : Nat := Nat.lor m (Nat.shiftLeft 1 a)
/-- what of the list is new, put ahead; the mask with it -/
def newOf : List Addr → Nat → List Addr → (Nat → List Addr → List Addr) → List Addr
  | [], m, acc, k => k m acc
  | b :: r, m, acc, k => match bitT m b with
    | true => newOf r m acc k
    | false => HandSHeadRun.frNat b fun b => HandSHeadRun.frNat (putB m b) fun m => newOf r m (b :: acc) k
def oneUp (g : Addr → Option Obj) : List Addr → Nat → List Addr → (Nat → List Addr → List Addr) → List Addr
  | [], m, acc, k => k m acc
  | a :: r, m, acc, k => match g a with
    | some o => newOf (refsD o) m acc fun m acc => oneUp g r m acc k
    | none => oneUp g r m acc k
/-- what is reached in n steps, the nearest ahead -/
def asM (g : Addr → Option Obj) : Nat → List Addr → Nat → List Addr
  | 0, f, _ => f
  | n + 1, f, m => f ++ oneUp g f m [] fun m f => asM g n f m
def frM (g : Addr → Option Obj) (n : Nat) : PySem.W.Frag := frT g (asM g n [mainGlobals] (putB 0 mainGlobals) ++ [sysModules, cStatics])
def obsM (n : Nat) (fa : List Fa) (fn : List He5.DefA) (ts : List Tab) (tf : List Defn) (chk : PySem.W.Frag → Bool) (g : Addr → Option Obj) : AlL :=
  ((He5.obsA fa fn (frM g n), chk (frM g n) && tabsB g tf (frM g n)), ts.map fun t => dicW (frM g n) (t.1 (frM g n)))
theorem saysM_of {n : Nat} {fa : List Fa} {fn : List He5.DefA} {ts : List Tab} {tf : List Defn} {chk : PySem.W.Frag → Bool} {w : World} {h : Heap}
    (e : obsM n fa fn ts tf chk h.get? = ((He5.valA fn, true), ts.map fun t => some (keysIn w.params t.2))) : SaysL fa fn ts tf chk w h (frM h.get? n) := by
  injection e with e1 e2
  injection e1 with e3 e4
  obtain ⟨h1, h2⟩ := ba e4
  refine ⟨e3, h1, map_all e2, fun p hp => ?_⟩
  obtain ⟨h3, h4⟩ := ba (List.all_eq_true.mp h2 p hp)
  cases q : h.get? (cT (frM h.get? n) p).2 with
  | none =>
    rw [q] at h4
    cases h4
  | some o =>
    rw [q] at h4
    exact ⟨PySem.W.codeHd_of_K frT_in h3, frT_none q h4, by rw [q, emptyTab_eq h4]⟩
def hookM (n : Nat) (fa : List Fa) (fn : List He5.DefA) (ts : List Tab) (tf : List Defn) (chk : PySem.W.Frag → Bool) : PySem.W.Hook where
  α := AlL
  obs := fun s => obsM n fa fn ts tf chk s.heap.get?
  val := fun w => ((He5.valA fn, true), ts.map fun t => some (keysIn w.params t.2))
  says := fun w h => ∃ K : PySem.W.Frag, K.In h ∧ SaysL fa fn ts tf chk w h K
  of := fun _ _ e => ⟨_, frT_in, saysM_of e⟩
  keeps := fun _ _ _ ⟨K, hK, c⟩ k => ⟨K, PySem.W.Frag.In.keeps hK k, c.says, c.chk, c.dic, fun p hp => ⟨(c.tabs p hp).code.keeps k, (c.tabs p hp).out, k _ _ (c.tabs p hp).emp⟩⟩
theorem obsM_eq {n : Nat} {fa : List Fa} {fn : List He5.DefA} {ts : List Tab} {tf : List Defn} {chk : PySem.W.Frag → Bool} {g : Addr → Option Obj} {s : Shared} (h : ∀ a, g a = s.heap.get? a) : obsM n fa fn ts tf chk g = (hookM n fa fn ts tf chk).obs s := by
  have e : g = s.heap.get? := funext h
  rw [e] <;> rfl
end He

set_option Elab.async false
set_option linter.all false
set_option maxRecDepth 100000
set_option maxHeartbeats 0
namespace Kg
open PySem PySem.Spec PyProof.Rows L2
abbrev R : PySem.W.OpenRow := PySem.W.OpenLaw.row PySem.Challenge.rw_brinejar_k09_registries
abbrev hk : PySem.W.Hook := He.hookM 6 fa fn [] tf chk
def ob (s : PySem.W.SharedT) : He.AlL := He.obsM 6 fa fn [] tf chk (HandSHeadRun.getT s)
theorem ob_eq (s : PySem.W.SharedT) : ob s = hk.obs s.abs := He.obsM_eq (HandSHeadRun.getT_eq s)
def loose : List Str := (["_wall", "__name__", "ATOM_LIMIT", "TEXT_LIMIT", "BRAND_LIMIT", "LETTERS", "OTHER_BRAND_SIGNS", "RESERVED_BRAND", "is_integer", "is_text", "is_key", "is_atom", "is_brand", "is_free_brand", "JarError", "StateError", "MissingError", "InvalidValue", "InvalidKey", "InvalidBrand", "InvalidTakes", "KeyTaken", "BrandTaken", "UnknownBrand", "NoEntry"] : List Str) ++
  (["Node", "Book", "Thing", "is_atom_or_node", "require_value", "require_key", "require_label", "are_pairs", "set_fields", "AllowedBrand", "EnteredBrand", "TAKES_LIMIT", "Registry", "Fields", "Whole", "Refill", "require_labels", "_law_begin", "_law_mixed", "_law_next", "_law_brand", "_law_caught", "_law_entered", "_law_call_right", "_law_read_right", "_law_started"] : List Str)
theorem run (w : World) : HandSHeadRun.RunEq R (PySem.W.view R.prog [57]) hk ob 8000 loose w := by
  intro os
  kernel_rfl
end Kg

set_option Elab.async false
set_option linter.all false
set_option maxRecDepth 100000
set_option maxHeartbeats 1000000
/-! VxI: == of objects of the program's classes without an own __eq__: the same object or not. -/
namespace VxS
open PySem PySem.W
section
variable {prog : Program} {w : World} {K : Frag} {A : Around} {E : Value → Shared → Prop} {s : Shared} {C D x y : Addr} {ox oy : Obj}
/-- what of the text a class must have -/
structure EqC (K : Frag) (C : Addr) : Prop where
  eq : findIn K (.ref C) "__eq__" = some (some (.builtin "object.__eq__"))
  top : mroIn K C (.type "object") = some true
theorem eq_check (X : K.In s.heap) (T : EqC K C) (hx : s.heap.get? x = some ox) (hc : ox.cls = .ref C) {b : Value} {Q : Unit → Shared → Prop} (q : Q () s) : wpAny (model prog w) A (checkBuiltinCall "object.__eq__" ⟨[.ref x, b], []⟩) Q E s := by
  simp only [checkBuiltinCall, F.cmpKind_eq, F.cmpSplit_eq]
  refine wpAny_bind ?_
  unfold isInstance
  refine wpAny_bind (wpAny_typeOf_ref hx ?_)
  rw [hc]
  refine (looks_mroIn X T.top).here ?_
  cases hsig : Manifest.signature? "object.__eq__" with
  | none => exact wpAny_pure q
  | some sig =>
    have ha := F.cmpArgs_eq (.ref x) b
    simp only [argsOk, hsig] at ha
    have h2 : Bind.checkArgs "object.__eq__" sig ⟨[.ref x, b], []⟩ = pure () := ha
    show wpAny _ A (Bind.checkArgs "object.__eq__" sig ⟨[.ref x, b], []⟩) Q E _
    rw [h2]
    exact wpAny_pure q
theorem F.objEq_other {M : Model} (hx : s.heap.get? x = some ox) (hy : s.heap.get? y = some oy) (hc : ox.cls = .ref C) (hxy : x ≠ y) {Q : Fin → Shared → Prop} (hq : Q (.done (.ret .notImplemented)) s) : wpAny M A (Builtin.«object.__eq__» ⟨[.ref x, .ref y], []⟩) Q E s :=
  objEq_entry_other hxy hx hy (by rw [hc]; exact fun z => nomatch z) hq
theorem eq_try (X : K.In s.heap) (T : EqC K C) (hx : s.heap.get? x = some ox) (hc : ox.cls = .ref C) (hy : s.heap.get? y = some oy) (hxy : x ≠ y) {Q : Option Value → Shared → Prop} (q : Q none s) : wpAny (model prog w) A (tryCompare (.ref x) "__eq__" (.ref y)) Q E s := by
  simp only [tryCompare, callSpecialIfBound?, bindSpecialIfBound?, specialOf]
  refine wpAny_bind (wpAny_holding (wpAny_bind (wpAny_bind (wpAny_bind (wpAny_typeOf_ref hx ?_)))))
  rw [hc]
  refine (looks_findIn X T.eq).here ?_
  have call_ : ∀ {Q : Value → Shared → Prop}, Q .notImplemented s → wpAny (model prog w) A (call (.builtin "object.__eq__") [.ref x, .ref y]) Q E s := fun {Q} q =>
    wpAny_call (codeAny_call_builtin F.cmp_object.eq.plain F.cmpEntry_eq (eq_check X T hx hc (F.objEq_other hx hy hc hxy q)))
  have bs : bindSpecial (.builtin "object.__eq__") (.ref x) = pure (.builtin "object.__eq__", [.ref x]) := F.cmp_object.eq.bind _
  dsimp only
  rw [bs]
  have fin : wpAny (model prog w) A (call (.builtin "object.__eq__") ([.ref x] ++ [.ref y]) >>= fun v => pure (some v)) (fun a s' => wpAny (model prog w) A (match a with
      | some Value.notImplemented => (pure none : Sem (Option Value))
      | none => pure none
      | some v => pure (some v)) Q E s') E s := wpAny_bind (call_ (wpAny_pure (wpAny_pure q)))
  refine wpAny_bind (wpAny_askSetting (wpAny_ite ?_))
  split
  · exact wpAny_bind (wpAny_pure (wpAny_pure fin))
  · exact wpAny_tryCatch (wpAny_bind (wpAny_pure (wpAny_pure fin)))
/-- x == y, two objects -/
theorem eq_other (hu : A.units < cLine) (X : K.In s.heap) (T : EqC K C) (U : EqC K D) {b : Bool} (sub : mroIn K D (.ref C) = some b) (hx : s.heap.get? x = some ox) (hc : ox.cls = .ref C) (hy : s.heap.get? y = some oy) (hd : oy.cls = .ref D) (hxy : x ≠ y) {Q : Value → Shared → Prop} (q : Q (.bool false) s) :
    wpAny (model prog w) A (compareOp .Eq (.ref x) (.ref y)) Q E s := by
  show wpAny _ _ (richCompare .Eq (.ref x) (.ref y)) _ _ _
  simp only [richCompare, cmpInfo_Eq, oneThing_ref]
  have nt : ox.cls ≠ .type "tuple" := by rw [hc]; exact fun z => nomatch z
  have t1 : ∀ {Q : Option Value → Shared → Prop}, Q none s → wpAny (model prog w) A (tryCompare (.ref x) "__eq__" (.ref y)) Q E s := fun {Q} q => eq_try X T hx hc hy hxy q
  have t2 : ∀ {Q : Option Value → Shared → Prop}, Q none s → wpAny (model prog w) A (tryCompare (.ref y) "__eq__" (.ref x)) Q E s := fun {Q} q => eq_try X U hy hd hx hxy.symm q
  have last : wpAny (model prog w) A (rule "compare.eq-identity" >>= fun _ => isSame (.ref x) (.ref y) >>= fun r => pure (Value.bool r)) Q E s := wpAny_bind (wpAny_rule (wpAny_bind (wpAny_isSame_ref_other hxy hx hy nt (wpAny_pure q))))
  refine wpAny_holding (wpAny_bind (wpAny_cRoomFor hu (wpAny_bind (wpAny_typeOf_ref hx ?_))))
  rw [hc]
  refine wpAny_bind (wpAny_typeOf_ref hy ?_)
  rw [hd]
  split
  · refine wpAny_bind ((looks_mroIn X sub).here ?_)
    cases b with
    | true => exact wpAny_bind (t2 (wpAny_bind (t1 last)))
    | false =>
      rw [if_neg Bool.false_ne_true]
      exact wpAny_bind (t1 (wpAny_bind (t2 last)))
  · refine wpAny_bind (wpAny_pure ?_)
    rw [if_neg Bool.false_ne_true]
    exact wpAny_bind (t1 (wpAny_bind (t2 last)))
theorem eq_same (hu : A.units < cLine) (X : K.In s.heap) (T : EqC K C) (hx : s.heap.get? x = some ox) (hc : ox.cls = .ref C) {Q : Value → Shared → Prop} (q : Q (.bool true) s) : wpAny (model prog w) A (compareOp .Eq (.ref x) (.ref x)) Q E s := by
  show wpAny _ _ (richCompare .Eq (.ref x) (.ref x)) _ _ _
  have call_ : ∀ {Q : Value → Shared → Prop}, Q (.bool true) s → wpAny (model prog w) A (call (.builtin "object.__eq__") [.ref x, .ref x]) Q E s := fun {Q} q =>
    wpAny_call (codeAny_call_builtin F.cmp_object.eq.plain F.cmpEntry_eq (eq_check X T hx hc (objEq_entry_same q)))
  have bs : bindSpecial (.builtin "object.__eq__") (.ref x) = pure (.builtin "object.__eq__", [.ref x]) := F.cmp_object.eq.bind _
  have t1 : wpAny (model prog w) A (tryCompare (.ref x) "__eq__" (.ref x)) (fun r s' => r = some (.bool true) ∧ s' = s) E s := by
    simp only [tryCompare, callSpecialIfBound?, bindSpecialIfBound?, specialOf]
    refine wpAny_bind (wpAny_holding (wpAny_bind (wpAny_bind (wpAny_bind (wpAny_typeOf_ref hx ?_)))))
    rw [hc]
    refine (looks_findIn X T.eq).here ?_
    dsimp only
    rw [bs]
    have fin : wpAny (model prog w) A (call (.builtin "object.__eq__") ([.ref x] ++ [.ref x]) >>= fun v => pure (some v)) (fun a s' => wpAny (model prog w) A (match a with
        | some Value.notImplemented => (pure none : Sem (Option Value))
        | none => pure none
        | some v => pure (some v)) (fun r s' => r = some (.bool true) ∧ s' = s) E s') E s := wpAny_bind (call_ (wpAny_pure (wpAny_pure ⟨rfl, rfl⟩)))
    refine wpAny_bind (wpAny_askSetting (wpAny_ite ?_))
    split
    · exact wpAny_bind (wpAny_pure (wpAny_pure fin))
    · exact wpAny_tryCatch (wpAny_bind (wpAny_pure (wpAny_pure fin)))
  simp only [richCompare, cmpInfo_Eq, oneThing_ref]
  refine wpAny_holding (wpAny_bind (wpAny_cRoomFor hu (wpAny_bind (wpAny_typeOf_ref hx ?_))))
  rw [hc]
  refine wpAny_bind (wpAny_typeOf_ref hx ?_)
  rw [hc, if_neg (by simp)]
  refine wpAny_bind (wpAny_pure (wpAny_bind (wpAny_mono t1 (fun r s' z => ?_) fun _ _ e => e)))
  obtain ⟨rfl, rfl⟩ := z
  exact wpAny_pure q
end
end VxS
namespace L2
open PySem PySem.Spec PyProof.Rows
/-- x == y, objects of the program's classes without __eq__ -/
def rEqO (K : PySem.W.Frag) : R2 := fun x y H Q => ∃ (a b C D da db : Addr) (fa fb : List (Str × V)) (r : Bool), x = .ref a ∧ y = .ref b ∧ H a = some (.ins C da fa) ∧ H b = some (.ins D db fb) ∧ VxS.EqC K C ∧ VxS.EqC K D ∧ PySem.W.mroIn K D (.ref C) = some r ∧ Q (.bl (decide (a = b))) H
theorem op_eqO {X : Cx} (hu : X.A.units < cLine) : OpR X (compareOp .Eq) (rEqO X.K) := by
  intro pins s σ H x y v u Q I rx ry h
  obtain ⟨a, b, C, D, da, db, fa, fb, r, rfl, rfl, ha, hb, T, U, sub, q⟩ := h
  cases rx
  cases ry
  obtain ⟨_, _, _, e1, _⟩ := I.hok a _ ha
  obtain ⟨_, _, _, e2, _⟩ := I.hok b _ hb
  by_cases z : a = b
  · subst z
    rw [decide_eq_true rfl] at q
    exact VxS.eq_same hu I.kIn T e1 rfl ⟨.bl true, H, I, rfl, q⟩
  · rw [decide_eq_false z] at q
    exact VxS.eq_other hu I.kIn T U sub e1 rfl e2 rfl z ⟨.bl false, H, I, rfl, q⟩
end L2

set_option Elab.async false
set_option linter.all false
set_option maxRecDepth 100000
set_option maxHeartbeats 1000000
/-! VxN: a generator method called; cls(*e), cls a local name of a class. -/
namespace L2
open PySem PySem.Spec PyProof.Rows StX
section
variable {X : Cx} {k i : Nat} {f C : Addr} {fd : FuncData} {ps : List Str} {sp : SpY} {x m : Str} {p pos apos : Pos} {o e : Expr} {ta te : TE} {E : XK}
/-- o.m() of a generator method -/
def tMethY (C : Addr) (m : Str) (sp : SpY) (E : XK) (ta : TE) : TYg := fun σ H xs Q => ta σ H fun y H1 => ∃ a dx fs, y = .ref a ∧ H1 a = some (.ins C dx fs) ∧ fs.lookup m = none ∧ sp [y] H1 xs Q E
theorem py_meth0 {pl : Sem Bool} (he : PE X o ta) (c : Cls X.K C) (hm : Meth X.K C m f) (F : YDef X.prog X.w X.K X.mg X.base k f fd ps sp) (hr : Room k X.A) (hb : Binds X.K fd ps [])
    (ht : eval (.Call (.Attribute o m apos) [] [] pos) X.env = (do
      let ov ← eval o X.env
      standAt apos.atName
      let (f, first) ← holding [ov] (getMethod ov m pl)
      callWith pos f first (backTo pos (starEach [] X.env)) (backToKw pos (keywordEach [] X.env))) := by rfl) :
    PY X k (.Call (.Attribute o m apos) [] [] pos) (tMethY C m sp E ta) E := by
  refine ⟨fun pins s σ H xs Q I h => PySem.W.methodCall_KW (pl := pl) (thn (he.run pins s σ H _ I h) fun u s1 hh => ?_) ht⟩
  obtain ⟨y, H1, I1, rx, a, dx, fs, rfl, ea, l, q⟩ := hh
  obtain rfl : u = Value.ref a := rx
  have hl : ([Value.ref a] ++ ([] : List Value)).length = ps.length := by
    have z := F.len _ _ _ _ _ q
    exact z
  refine getmeth_ok I1 ea c hm l (PySem.W.callWith_K0 (first := [.ref a]) I1.kIn hm.kp (wpAny_call (codeAny_mono (F.run X.A X.stack s1 H1 ⟨[.ref a], []⟩ [.ref a] [.ref a] xs Q E hr I1.env0 (hb s1 [.ref a] I1.kIn hl) (.cons rfl .nil) q) fun r s' hq => ?_)))
  cases r with
  | error e => exact False.elim hq
  | ok fl =>
    cases fl with
    | ret u => exact ⟨H1, s1, I1, hq⟩
    | next => exact False.elim hq
    | brk => exact False.elim hq
    | cont => exact False.elim hq
end
section
variable {X : Cx} {CX : CXT} {k i : Nat} {f C : Addr} {sp : Sp} {x : Str} {p spos pos : Pos} {e : Expr} {te : TE} {E : XK}
/-- cls(*e) -/
theorem pe_makeVS (M : Mk X.K C f) (F : FnR X.prog X.w X.K X.mg X.base CX k f sp) (hr : Room (k + 1) X.A) (hN : X.N[i]? = some x) (hv : Vis X.env.scope x) (hx : Passes CX X E) (he : PE X e te) (hd : (x == ("__debug__" : Str)) = false := by decide) (hcd : (x == ("__classdict__" : Str)) = false := by decide)
    (hst : starEach [.Starred e spos] X.env = [(true, eval e X.env)] := by rfl) :
    PE X (.Call (.Name x p) [.Starred e spos] [] pos) (fun σ H Q => σ[i]? = some (some (.ref C)) ∧ te σ H fun y H1 => ∃ a xs, y = V.ref a ∧ (SqT X.K H1 a xs ∨ SqL X.K H1 a xs) ∧
      ∀ n dx, H1 n = none → H1 dx = none → dx ≠ n → sp (V.ref n :: xs) (upd (upd H1 dx (.own n)) n (.ins C dx [])) (fun v H2 => v = .non ∧ Q (.ref n) H2) E) := by
  refine ⟨fun pins s σ H Q I h => ?_⟩
  obtain ⟨ec, h⟩ := h
  refine wpAny_Call_Name_kw (thn ((pe_var (pos := p) hN hv hd hcd).run pins s σ H (fun v H1 => v = .ref C ∧ H1 = H) I ⟨_, ec, rfl, rfl⟩) fun u s0 hh => ?_)
  obtain ⟨v, H0, I0, r0, rfl, rfl⟩ := hh
  obtain rfl : u = Value.ref C := r0
  refine PySem.W.callWith_S (h₀ := X.base) I.ok.mod.kin M.kp (thn (he.run pins s0 σ H0 _ I0 h) fun v s1 hh => ?_) hst
  obtain ⟨y, H1, I1, ry, a, xs, rfl, hxs, q⟩ := hh
  obtain rfl : v = Value.ref a := ry
  exact star_any I1 hxs fun us s2 I2 rv => ⟨I2.kIn, run_makeR M F hr hx I2 rv q⟩
end
end L2

set_option Elab.async false
set_option linter.all false
set_option maxRecDepth 100000
set_option maxHeartbeats 1000000
/-! VxM: ** of large ints, a text times an int, C() of a class whose __init__ has star parameters. -/
namespace L2
open PySem PySem.Spec PyProof.Rows StX ClX
theorem size_repA (a : Array Nat) : ∀ (n : Nat) (b : Array Nat), ((List.replicate n a).foldl (· ++ ·) b).size = b.size + n * a.size
  | 0, b => by simp
  | n + 1, b => by
    rw [List.replicate_succ, List.foldl_cons, size_repA a n, Array.size_append, Nat.add_mul]
    omega
theorem size_rep (a : Array Nat) (n : Nat) : ((List.replicate n a).foldl (· ++ ·) #[]).size = n * a.size := by
  rw [size_repA]
  simp
section
variable {X : Cx}
def CPowW (i j : Int) : Prop := 0 ≤ j ∧ (Builtin.Int.intBits i : Int) * j ≤ 2 ^ 27
theorem op_powW : OpR X (binaryOp .Pow) (rI CPowW fun i j => .int (i ^ j.toNat)) := opI fun _ _ _ _ _ _ _ hc q => pow_int hc.1 hc.2 q
/-- a text times an int of at least 2 -/
def rMulS : R2 := fun x y H Q => ∃ (z : Str) (k : Nat), x = .str z ∧ y = .int (k : Int) ∧ 2 ≤ k ∧ 0 < z.length ∧ z.length * k ≤ 1000000 ∧ Q (.str ⟨(List.replicate k z.cps).foldl (· ++ ·) #[]⟩) H
theorem op_mulS : OpR X (binaryOp .Mult) rMulS := by
  intro pins s σ H x y v u Q I rx ry h
  obtain ⟨z, k, rfl, rfl, h2, h0, hl, q⟩ := h
  obtain ⟨t, rfl⟩ := rx
  obtain ⟨t', rfl⟩ := ry
  have kb : (k : Int) ≤ 1000000 := by
    have : 1 * k ≤ z.length * k := Nat.mul_le_mul_right k h0
    omega
  refine PySem.P.mul_str ?_ (fun _ _ => ?_) (fun _ _ => ?_) ?_
  · rw [decide_eq_false (by omega), decide_eq_false (by omega)]
    rfl
  · have d : (z.length : Int) ≤ (2 ^ 63 - 1) / (k : Int) := by
      refine Int.le_ediv_of_mul_le (by omega) ?_
      have q2 : ((z.length * k : Nat) : Int) ≤ 1000000 := Int.ofNat_le.mpr hl
      rw [Int.natCast_mul] at q2
      omega
    omega
  · have e : (k : Int).toNat = k := rfl
    rw [e]
    exact decide_eq_false (by have q : (1000000 : Nat) ≤ sizeLine := by decide
                              omega)
  · rw [if_neg (by omega)]
    have e : ((k : Int) == 1 || z.length == 0) = false := by
      rw [Bool.or_eq_false_iff]
      exact ⟨beq_eq_false_iff_ne.mpr (by omega), beq_eq_false_iff_ne.mpr (by omega)⟩
    rw [e, if_neg Bool.false_ne_true]
    refine ⟨?_, .str _, H, I.tok _, ⟨_, rfl⟩, q⟩
    show Array.size _ ≤ sizeLine
    have e2 : ((k : Int).toNat) = k := rfl
    rw [e2, size_rep]
    have q3 : (1000000 : Nat) ≤ sizeLine := by decide
    have q4 : k * z.cps.size = z.length * k := Nat.mul_comm _ _
    omega
end
section
variable {X : Cx} {CX : CXT} {k : Nat} {f C p g : Addr} {fd : FuncData} {ps ks : List Str} {sp : Sp} {x m : Str} {np pos apos : Pos} {o : Expr} {kws : List Keyword} {ta : TE} {tk : TA} {E : XK} {mc : Value}
/-- C() -/
theorem pe_makeR0 (M : Mk X.K C f) (F : FnR X.prog X.w X.K X.mg X.base CX k f sp) (hr : Room (k + 1) X.A) (hg : Gl X x) (hm : X.mg x = some (.ref C)) (hx : Passes CX X E) (hdb : (x == ("__debug__" : Str)) = false := by decide) :
    PE X (.Call (.Name x np) [] [] pos) (fun _ H Q => ∀ n dx, H n = none → H dx = none → dx ≠ n → sp [V.ref n] (upd (upd H dx (.own n)) n (.ins C dx [])) (fun v H2 => v = .non ∧ Q (.ref n) H2) E) :=
  ⟨fun pins s σ H Q I h => wpAny_Call_Name_kw (ld_glob I hg hm (PySem.W.callWith_K0 (first := []) I.kIn M.kp (run_makeR (us := []) (vs := []) M F hr hx I .nil h)) hdb)⟩
/-- C.m(k = v, ..), m a classmethod -/
theorem pe_cmethK {pl : Sem Bool} {gv : List Value → List Value} {gV : List V → List V} (he : PE X o ta) (r : CRead X.K C mc) (c : CMet X.K C mc m p g) (F : FnOk X.prog X.w X.K X.mg X.base CX k g fd ps sp) (hr : Room k X.A) (hx : Passes CX X E)
    (hbd : ∀ (s : Shared) (ws : List Value), X.K.In s.heap → ws.length = ks.length → BindsTo s fd ⟨[Value.ref C], ks.zip ws⟩ (ps.zip (Value.ref C :: gv ws))) (rel : ∀ {zs : List V} {ws : List Value}, Vals zs ws → Vals (gV zs) (gv ws)) (hkw : PK X kws tk)
    (hall : (backToKw pos (keywordEach kws X.env)).all (·.1.isSome) = true := by rfl) (hks : (backToKw pos (keywordEach kws X.env)).filterMap (·.1) = ks := by rfl)
    (hpl : ((backTo pos (starEach [] X.env)).any (·.1) || (backToKw pos (keywordEach kws X.env)).any (·.1.isNone)) = false := by rfl)
    (ht : eval (.Call (.Attribute o m apos) [] kws pos) X.env = (do
      let ov ← eval o X.env
      standAt apos.atName
      let (f, first) ← holding [ov] (getMethod ov m pl)
      callWith pos f first (backTo pos (starEach [] X.env)) (backToKw pos (keywordEach kws X.env))) := by rfl) :
    PE X (.Call (.Attribute o m apos) [] kws pos) (fun σ H Q => ta σ H fun y H1 => y = .ref C ∧ tk σ H1 fun zs H2 => zs.length = ks.length ∧ sp (.ref C :: gV zs) H2 Q E) := by
  refine ⟨fun pins s σ H Q I h => PySem.W.methodCall_KW (pl := pl) (thn (he.run pins s σ H _ I h) fun u s1 hh => ?_) ht⟩
  obtain ⟨y, H1, I1, rx, rfl, q⟩ := hh
  obtain rfl : u = Value.ref C := rx
  refine getmethcm_ok I1 r c fun s2 I2 => ?_
  refine PySem.W.callWith_of hpl (PySem.W.keeps_M (K := X.K) (self := .ref C) c.fi) (evalArgs_kw2_nil hall (thn (hkw.run pos _ s2 σ H1 _ I2 q) fun ws s3 hh => ?_))
  obtain ⟨zs, H2, I3, rz, hl, q2⟩ := hh
  refine ⟨⟨pin_at I3, I3.kIn⟩, ?_⟩
  rw [hks]
  have z : wpAny (model X.prog X.w) X.A (call (.ref s1.heap.objs.size) ([] ++ []) (ks.zip ws)) (EP X ((s1.heap.objs.size, PySem.W.methodObj (.ref g) (.ref C)) :: pins) σ Q) X.xe s3 := by
    refine wpAny_call (PySem.W.method_call (pin_at I3) (codeAny_mono (F.run X.A X.stack s3 H2 ⟨[.ref C], ks.zip ws⟩ (.ref C :: gv ws) (.ref C :: gV zs) Q E hr I3.env0 (hbd s3 ws I3.kIn (by rw [← rz.length]; exact hl)) (.cons rfl (rel rz)) q2) fun rs s' hq => ?_))
    cases rs with
    | error er => exact hx _ σ H2 s3 er s' I3 hq
    | ok fl =>
      cases fl with
      | ret u => exact I3.after hq
      | next => exact hq.elim
      | brk => exact hq.elim
      | cont => exact hq.elim
  exact thn z fun _ _ y => unpinE y
end
end L2

set_option Elab.async false
set_option linter.all false
set_option maxRecDepth 100000
set_option maxHeartbeats 1000000
/-! VxJ: within a try whose clause looks at the slots: C(e, ..) and C.m(e, ..), what they let out told at the slots of the call. -/
namespace L2
open PySem PySem.Spec PyProof.Rows StX ClX
section
variable {X : Cx} {CX : CXT} {k : Nat} {f C p g : Addr} {mc : Value} {fd : FuncData} {ps : List Str} {sp : Sp} {dvs : List V} {ds : List Value} {E : St → XK} {x m : Str} {pp pos apos : Pos} {e o : Expr} {es : List Expr} {ta : TE} {t : TA}
theorem run_makeS {pins : List (Addr × Obj)} {σ : St} {H : Hp} {s : Shared} {Q : VK} {us : List Value} {vs : List V} {E : XK} (M : Mk X.K C f) (F : FnOk X.prog X.w X.K X.mg X.base CX k f fd ps sp) (hr : Room (k + 1) X.A) (hb : Binds X.K fd ps ds) (hd : Vals dvs ds)
    (hx : PassesAt CX X σ E) (I : Inv X pins σ H s) (r : Vals vs us)
    (h : ∀ x dx, H x = none → H dx = none → dx ≠ x → sp (.ref x :: (vs ++ dvs)) (upd (upd H dx (.own x)) x (.ins C dx [])) (fun v H2 => v = .non ∧ Q (.ref x) H2) E) :
    wpAny (model X.prog X.w) X.A (call (.ref C) us) (EP X pins σ Q) X.xe s := by
  have hq := h (s.heap.objs.size + 1) s.heap.objs.size (I.hok.fresh (Nat.le_succ _)) (I.hok.fresh (Nat.le_refl _)) (Nat.ne_of_lt (Nat.lt_succ_self _))
  have J := Inv.made (C := C) I
  have rr : Vals (V.ref (s.heap.objs.size + 1) :: (vs ++ dvs)) (Value.ref (s.heap.objs.size + 1) :: (us ++ ds)) := .cons rfl (r.append hd)
  have hl : (Value.ref (s.heap.objs.size + 1) :: us ++ ds).length = ps.length := by
    have z := rr.length
    rw [F.len _ _ _ _ hq] at z
    exact z.symm
  refine wpAny_call (make_map (f := f) I.kIn M.makes M.init (beq_iff_eq.mp M.fn) (codeAny_mono (F.run _ X.stack _ _ ⟨Value.ref (s.heap.objs.size + 1) :: us, []⟩ (Value.ref (s.heap.objs.size + 1) :: (us ++ ds)) _ _ E (hr.make C us [])
    (J.env0.make C us []) (hb _ (Value.ref (s.heap.objs.size + 1) :: us) J.kIn hl) rr hq) fun rs s' z => ?_))
  cases rs with
  | error er => exact hx pins _ _ er s' J z
  | ok fl =>
    cases fl with
    | ret u =>
      obtain ⟨v, H', J2, rv, ev, q⟩ := J.after z
      subst ev
      exact ⟨rv, ⟨V.ref (s.heap.objs.size + 1), H', J2, rfl, q⟩⟩
    | next => exact z.elim
    | brk => exact z.elim
    | cont => exact z.elim
/-- C(e, ..) -/
theorem pe_makeSg (M : Mk X.K C f) (F : FnOk X.prog X.w X.K X.mg X.base CX k f fd ps sp) (hr : Room (k + 1) X.A) (hg : Gl X x) (hm : X.mg x = some (.ref C)) (hb : Binds X.K fd ps ds) (hd : Vals dvs ds) (hx : ∀ σ, PassesAt CX X σ (E σ))
    (ha : PA X (e :: es) t) (hdb : (x == ("__debug__" : Str)) = false := by decide) (he : starEach (e :: es) X.env = (false, eval e X.env) :: starEach es X.env := by rfl) (hpl : (backTo pos (starEach es X.env)).any (·.1) = false := by rfl) :
    PE X (.Call (.Name x pp) (e :: es) [] pos) (fun σ H Q => tMake C sp dvs (E σ) t σ H Q) :=
  ⟨fun pins s σ H Q I h => wpAny_Call_Name_kw (ld_glob I hg hm (PySem.W.callWith_K (h₀ := X.base) I.ok.mod.kin M.kp (thn (ha.run pos pins s σ H _ I h) fun us s1 z => by
    obtain ⟨vs, H1, J, r, q⟩ := z
    exact ⟨J.kIn, run_makeS M F hr hb hd (hx σ) J r q⟩) he hpl) hdb)⟩
/-- C.m(e, ..), m a classmethod -/
theorem pe_cmethSg {pl : Sem Bool} (he : PE X o ta) (r : CRead X.K C mc) (c : CMet X.K C mc m p g) (F : FnOk X.prog X.w X.K X.mg X.base CX k g fd ps sp) (hr : Room k X.A) (hb : Binds X.K fd ps []) (hx : ∀ σ, PassesAt CX X σ (E σ)) (ha : PA X (e :: es) t)
    (hst : starEach (e :: es) X.env = (false, eval e X.env) :: starEach es X.env := by rfl) (hpl : (backTo pos (starEach es X.env)).any (·.1) = false := by rfl)
    (ht : eval (.Call (.Attribute o m apos) (e :: es) [] pos) X.env = (do
      let ov ← eval o X.env
      standAt apos.atName
      let (f, first) ← holding [ov] (getMethod ov m pl)
      callWith pos f first (backTo pos (starEach (e :: es) X.env)) (backToKw pos (keywordEach [] X.env))) := by rfl) :
    PE X (.Call (.Attribute o m apos) (e :: es) [] pos) (fun σ H Q => tCMeth C sp (E σ) ta t σ H Q) := by
  refine ⟨fun pins s σ H Q I h => PySem.W.methodCall_KW (pl := pl) (thn (he.run pins s σ H _ I h) fun u s1 hh => ?_) ht⟩
  obtain ⟨y, H1, I1, rx, rfl, q⟩ := hh
  obtain rfl : u = Value.ref C := rx
  refine getmethcm_ok I1 r c fun s2 I2 => ?_
  refine callwith_cm I2 (base_none I1 (Nat.le_refl _)) c.fi (thn (ha.run pos _ s2 σ H1 _ I2 q) fun us s3 hh => ?_) hst hpl
  obtain ⟨vs, H2, I3, rv, q2⟩ := hh
  refine ⟨⟨pin_at I3, I3.kIn⟩, ?_⟩
  have b := hb s3 (Value.ref C :: us) I3.kIn (by
    have l := F.len _ _ _ _ q2
    have l2 := rv.length
    rw [List.append_nil, List.length_cons, ← l2]
    exact l)
  rw [List.append_nil] at b
  have z : wpAny (model X.prog X.w) X.A (call (.ref s1.heap.objs.size) us) (EP X ((s1.heap.objs.size, PySem.W.methodObj (.ref g) (.ref C)) :: pins) σ Q) X.xe s3 := by
    refine wpAny_call (PySem.W.method_call (pin_at I3) (codeAny_mono (F.run X.A X.stack s3 H2 ⟨.ref C :: us, []⟩ (.ref C :: us) (.ref C :: vs) Q (E σ) hr I3.env0 b (.cons rfl rv) q2) fun rs s' hq => ?_))
    cases rs with
    | error er => exact hx σ _ H2 s3 er s' I3 hq
    | ok fl =>
      cases fl with
      | ret u => exact I3.after hq
      | next => exact hq.elim
      | brk => exact hq.elim
      | cont => exact hq.elim
  exact thn z fun _ _ y => unpinE y
end
end L2

set_option Elab.async false
set_option linter.all false
set_option maxRecDepth 100000
set_option maxHeartbeats 1000000
/-! VxMs: within a try: o.m(e, ..) with what it lets out told at the slots; cls() of a local name of a class. -/
namespace L2
open PySem PySem.Spec PyProof.Rows StX
section
variable {X : Cx} {CX : CXT} {k i : Nat} {f C : Addr} {fd : FuncData} {ps : List Str} {sp : Sp} {E : L2.St → XK} {m x : Str} {p pos apos : Pos} {e o : Expr} {es : List Expr} {ta : TE} {t : TA}
/-- o.m(e, ..) -/
theorem pe_methSg {pl : Sem Bool} (he : PE X o ta) (c : Cls X.K C) (hm : Meth X.K C m f) (F : FnOk X.prog X.w X.K X.mg X.base CX k f fd ps sp) (hr : Room k X.A) (hb : Binds X.K fd ps []) (hx : ∀ σ, PassesAt CX X σ (E σ)) (ha : PA X (e :: es) t)
    (hst : starEach (e :: es) X.env = (false, eval e X.env) :: starEach es X.env := by rfl) (hpl : (backTo pos (starEach es X.env)).any (·.1) = false := by rfl)
    (ht : eval (.Call (.Attribute o m apos) (e :: es) [] pos) X.env = (do
      let ov ← eval o X.env
      standAt apos.atName
      let (f, first) ← holding [ov] (getMethod ov m pl)
      callWith pos f first (backTo pos (starEach (e :: es) X.env)) (backToKw pos (keywordEach [] X.env))) := by rfl) :
    PE X (.Call (.Attribute o m apos) (e :: es) [] pos) (fun σ H Q => ta σ H fun y H1 => ∃ a dx fs, y = .ref a ∧ H1 a = some (.ins C dx fs) ∧ fs.lookup m = none ∧ t σ H1 fun vs H2 => sp (y :: vs) H2 Q (E σ)) := by
  refine ⟨fun pins s σ H Q I h => PySem.W.methodCall_KW (pl := pl) (thn (he.run pins s σ H _ I h) fun u s1 hh => ?_) ht⟩
  obtain ⟨y, H1, I1, rx, a, dx, fs, rfl, ea, l, q⟩ := hh
  obtain rfl : u = Value.ref a := rx
  refine getmeth_ok I1 ea c hm l (PySem.W.callWith_K (first := [.ref a]) (h₀ := X.base) I.ok.mod.kin hm.kp (thn (ha.run pos pins s1 σ H1 _ I1 q) fun us s2 z => ?_) hst hpl)
  obtain ⟨vs, H2, I2, r, q2⟩ := z
  exact ⟨I2.kIn, run_fnS (us := .ref a :: us) (vs := .ref a :: vs) F hr hb (hx σ) I2 (.cons rfl r) q2⟩
/-- cls() -/
theorem pe_makeV0 {E : XK} {dvs : List V} {ds : List Value} (M : Mk X.K C f) (F : FnOk X.prog X.w X.K X.mg X.base CX k f fd ps sp) (hr : Room (k + 1) X.A) (hN : X.N[i]? = some x) (hv : Vis X.env.scope x) (hb : Binds X.K fd ps ds) (hd : Vals dvs ds) (hx : Passes CX X E) (hdd : (x == ("__debug__" : Str)) = false := by decide) (hcd : (x == ("__classdict__" : Str)) = false := by decide) :
    PE X (.Call (.Name x p) [] [] pos) (fun σ H Q => σ[i]? = some (some (.ref C)) ∧ tMake C sp dvs E tNil σ H Q) := by
  refine ⟨fun pins s σ H Q I h => ?_⟩
  obtain ⟨ec, h⟩ := h
  refine wpAny_Call_Name_kw (thn ((pe_var (pos := p) hN hv hdd hcd).run pins s σ H (fun v H1 => v = .ref C ∧ H1 = H) I ⟨_, ec, rfl, rfl⟩) fun u s0 hh => ?_)
  obtain ⟨v, H0, I0, r0, rfl, rfl⟩ := hh
  obtain rfl : u = Value.ref C := r0
  exact PySem.W.callWith_K0 I0.kIn M.kp (run_make (us := []) M F hr hb hd hx I0 .nil h)
end
end L2

set_option Elab.async false
set_option linter.all false
set_option maxRecDepth 100000
set_option maxHeartbeats 2000000
/-! VxLn: g(lambda: e), where g calls what it got within a try whose clause looks at the slots. -/
namespace LamX
open PySem PySem.Spec PyProof.Rows L2
/-- the lambda's function object, made in X's frame -/
abbrev lamO (X : Cx) (params : Arguments) (body : Expr) (scope : Scope) (pm : Value) (c' : Addr) (ctv : Value) : Obj :=
  PySem.W.kla_obj "<lambda>" (X.env.qual ++ "<lambda>") params body scope (cloFrom X.env.cells scope.names []) pm c' ctv
section
variable {X : Cx} {pins : List (Addr × Obj)} {σ : L2.St} {H HZ : Hp} {s s1 : Shared} {f c' : Addr} {pm ctv : Value} {params : Arguments} {body : Expr} {scope : Scope} {k : Nat} {tb : TE} {E : XK} {Q : VK}
/-- the lambda's call, wherever it is called from -/
theorem lam_code {A : Around} {outer : List Env} (I : Inv X pins σ H s) (L : LamS X.env.scope scope) (lies : s1.heap.get? f = some (lamO X params body scope pm c' ctv))
    (noargs : bindArgs (PySem.W.kla_fn "<lambda>" (X.env.qual ++ "<lambda>") params body scope (cloFrom X.env.cells scope.names []) pm (.ref c') ctv) ⟨[], []⟩ = pure [])
    (e0 : Env0 X.prog X.w X.K X.mg X.base A outer s1 HZ) (lim : s1.heap.NoLimit) (un : Un (frs X.stack) [] H HZ s.heap s1.heap) (code : HZ c' = some (CodeO c' (X.env.qual ++ "<lambda>"))) (hr : Room (k + 1) A)
    (run : ∀ s2, Room k (A.deeper (lamEnv X scope s1.heap.objs.size f c')) → PE (lamCx X A outer s1 s2 E scope f c') body tb) (h : tb σ HZ Q) :
    codeAny (model X.prog X.w) A (.call (.ref f) ⟨[], []⟩) (CR (L2.CX X.prog X.w) outer X.prog X.w HZ s1 Q E) s1 := by
  obtain ⟨⟨oc, us, t, at_, data, name⟩, _, _⟩ := e0.hok c' _ code
  refine PySem.W.kla_callFunE hr.depth lies rfl L.co L.gen rfl ⟨c', oc, us, t, rfl, at_, data, name⟩ ?_
  rw [noargs]
  apply wpAny_pure
  refine wpAny_newFunctionEnv (fun y hy => (L.own y hy).2) (fun y hy => nomatch hy) (fun h₁ ns ext => ⟨lim.fresh _ ext, ?_⟩) L.kind
  have more : ∀ b o, s1.heap.get? b = some o → h₁.get? b = some o := fun b o e => by
    refine ext.extBut b o (fun z => ?_) (Heap.get?_push_of_some _ e)
    have lt := Heap.lt_size e
    rw [z] at lt
    exact Nat.lt_irrefl _ lt
  have J := lam_start2 (f := f) (c' := c') (E := E) (tk := s1.toks + ([] : List (Str × Value)).length) I L e0 hr.hd un ns more
  refine PySem.W.kla_codeExpr (wpAny_mono ((run HZ (hr.deeper _)).run [] _ _ HZ Q J h) (fun v s' z => ?_) fun _ _ z => z)
  obtain ⟨w', H', J', rv, q⟩ := z
  exact ⟨w', H', J'.os, J'.bare, J'.base, J'.hok, rv, q⟩
end
/-- the def g at its start, within a try -/
abbrev gCx (X : Cx) (Ng : List Str) (x : Str) (sg : Scope) (g : Addr) (cdg : Value) (s : Shared) (H : Hp) (pn : List (Addr × Obj)) (xe : Value → Shared → Prop) : Cx :=
  (cxOf C8.CX0 X.prog X.w X.K X.mg X.base Ng x sg g cdg X.A X.stack s H C8.E0).tr pn xe
section
variable {X : Cx} {pins : List (Addr × Obj)} {σ : L2.St} {H : Hp} {s : Shared} {f c' g : Addr} {pm ctv cdg : Value} {params : Arguments} {body : Expr} {scope sg : Scope} {k : Nat} {Ng : List Str} {x a : Str} {pn : List (Addr × Obj)} {xe : Value → Shared → Prop} {W : WX} {t : XK → TE} {p1 p2 : Pos}
theorem pe_actS (I : Inv X pins σ H s) (L : LamS X.env.scope scope) (lies : s.heap.get? f = some (lamO X params body scope pm c' ctv)) (hfn : H f = none) (hfr : f ∉ frs X.stack)
    (noargs : bindArgs (PySem.W.kla_fn "<lambda>" (X.env.qual ++ "<lambda>") params body scope (cloFrom X.env.cells scope.names []) pm (.ref c') ctv) ⟨[], []⟩ = pure [])
    (tk : Takes (gCx X Ng x sg g cdg s H pn xe) W) (hr : Room (k + 1) (X.A.deeper (envOfC x sg s.heap.objs.size g cdg)))
    (run : ∀ (A : Around) (outer : List Env) (s : Shared) (H : Hp) (E : XK), Room k (A.deeper (lamEnv X scope s.heap.objs.size f c')) → PE (lamCx X A outer s H E scope f c') body (t E))
    (hN : Ng[0]? = some a) (hv : Vis sg a) (hd : (a == ("__debug__" : Str)) = false) (hcd : (a == ("__classdict__" : Str)) = false) :
    PE (gCx X Ng x sg g cdg s H pn xe) (.Call (.Name a p1) [] [] p2) (fun σZ HZ Q => σZ[0]? = some (some (.ref f)) ∧ HZ c' = some (CodeO c' (X.env.qual ++ "<lambda>")) ∧ t (WE W σZ) σ HZ Q) := by
  refine ⟨fun pinsZ sZ σZ HZ Q IZ h => ?_⟩
  obtain ⟨slot, code, h⟩ := h
  have name := (pe_var (X := gCx X Ng x sg g cdg s H pn xe) (pos := p1) (i := 0) hN hv hd hcd).run pinsZ sZ σZ HZ (fun v H1 => v = .ref f ∧ H1 = HZ) IZ ⟨.ref f, slot, rfl, rfl⟩
  refine wpAny_Call_Name_kw (thn name fun u s1 z => ?_)
  obtain ⟨v, H1, I1, rv, ev, eH⟩ := z
  subst ev eH
  obtain rfl : u = Value.ref f := rv
  have still : s1.heap.get? f = some (lamO X params body scope pm c' ctv) := I1.base.keep f _ lies hfn hfr fun z => nomatch (show f ∈ ([] : List Addr) from z)
  have rc : codeAny (model X.prog X.w) (X.A.deeper (envOfC x sg s.heap.objs.size g cdg)) (.call (.ref f) ⟨[], []⟩) (CR (L2.CX X.prog X.w) (envOfC x sg s.heap.objs.size g cdg :: X.stack) X.prog X.w H1 s1 Q (WE W σZ)) s1 :=
    lam_code (X := X) (A := X.A.deeper (envOfC x sg s.heap.objs.size g cdg)) (outer := envOfC x sg s.heap.objs.size g cdg :: X.stack) I L still noargs I1.env0 I1.nolimit I1.base code hr (fun H2 r => run _ _ _ _ _ r) h
  refine PySem.W.callWith_F0 ⟨_, _, _, _, still⟩ (wpAny_call (codeAny_mono rc fun r s' q => ?_))
  cases r with
  | error e => exact passAt tk σZ pinsZ H1 s1 e s' I1 q
  | ok fl =>
    cases fl with
    | ret u => exact I1.after q
    | next => exact q.elim
    | brk => exact q.elim
    | cont => exact q.elim
/-- what g makes of a lambda's reading -/
def GivesS (X : Cx) (Ng : List Str) (x : Str) (sg : Scope) (g : Addr) (cdg : Value) (bg : List Stmt) (a : Str) (q : Str) (TT : (XK → Hp → VK → Prop) → Hp → VK → Prop) : Prop :=
  ∀ (f c' : Addr) (s : Shared) (H : Hp) (Q : VK) (tl : XK → Hp → VK → Prop),
    (∀ (W : WX) (pn : List (Addr × Obj)) (xe : Value → Shared → Prop) (p1 p2 : Pos), Takes (gCx X Ng x sg g cdg s H pn xe) W →
      PE (gCx X Ng x sg g cdg s H pn xe) (.Call (.Name a p1) [] [] p2) (fun σZ HZ Q => σZ[0]? = some (some (.ref f)) ∧ HZ c' = some (CodeO c' q) ∧ tl (WE W σZ) HZ Q)) →
    H c' = some (CodeO c' q) → TT tl H Q →
    ∃ t, PSs (cxOf C8.CX0 X.prog X.w X.K X.mg X.base Ng x sg g cdg X.A X.stack s H C8.E0).nox bg t ∧ t { nx := fun _ H' => Q .non H', rt := Q } (L2.start Ng [.ref f]) H
/-- g(lambda: e) -/
theorem pe_lamS {T : List (Addr × Str)} {TT : (XK → Hp → VK → Prop) → Hp → VK → Prop} {c P : Addr} {pg : Arguments} {bg : List Stmt} {fd : FuncData} {p lpos pos : Pos} (hg : Gl X x) (hm : X.mg x = some (.ref g)) (hk : PySem.W.keepIn X.K (.ref g) = true)
    (F : L2.FunD X.K x x pg bg sg [] [] g fd) (hb : L2.Binds X.K fd [a] []) (Sg : FnScope Ng [a] sg) (hNg : Ng[0]? = some a) (hva : Vis sg a) (hG : ∀ cdv, GivesS X Ng x sg g cdv bg a (X.env.qual ++ "<lambda>") TT)
    (TB : TabB X.base X.mg c P) (hcode : X.env.code = .ref c) (hmT : (P, X.env.qual ++ "<lambda>") ∈ T) (hu : ∀ p ∈ T, p.1 = P → p.2 = X.env.qual ++ "<lambda>") (hr : Room (k + 2) X.A) (L : LamS X.env.scope scope) (hdef : defaultsOf params X.env = ([], []))
    (noargs : ∀ (q : Str) (cl : List (Str × Addr)) (pm cv ctv : Value), bindArgs (PySem.W.kla_fn "<lambda>" q params body scope cl pm cv ctv) ⟨[], []⟩ = pure [])
    (run : ∀ (A : Around) (outer : List Env) (s : Shared) (H : Hp) (E : XK) (f c' : Addr), Room k (A.deeper (lamEnv X scope s.heap.objs.size f c')) → PE (lamCx X A outer s H E scope f c') body (t E))
    (hdb : (x == ("__debug__" : Str)) = false := by decide) (hd : (a == ("__debug__" : Str)) = false := by decide) (hcd : (a == ("__classdict__" : Str)) = false := by decide) :
    PE X (.Call (.Name x p) [.Lambda params body scope lpos] [] pos) (tLam T TT t) := by
  obtain ⟨oc, od, dV, kV, doc, pm, an, cdv, ct, osl, rfl, lk, hcg, _, _⟩ := F.ex
  refine ⟨fun pins s σ H Q I h => wpAny_Call_Name_kw (ld_glob I hg hm (PySem.W.callWith_K (h₀ := X.base) I.ok.mod.kin hk ?_ rfl rfl) hdb)⟩
  obtain ⟨hT, h⟩ := h
  show wpAny _ _ (spliced ((false, eval (.Lambda params body scope lpos) X.env) :: backTo pos (starEach [] X.env))) _ _ s
  refine Calls.spliced_cons (lam_make2 I TB hcode hmT hu hT hdef (L.has I.ok) fun f c' pm' ctv H1 s' I1 eN T1 lies hfn hfr code => Calls.spliced_nil ⟨I1.kIn, ?_⟩)
  refine wpAny_call (codeAny_mono (run_ofS (CX := C8.CX0) (Q := Q) (E := C8.E0) (N := Ng) (ps := [a]) (us := [.ref f]) (vs := [.ref f]) lk hcg Sg hr I1.env0 (hb s' [.ref f] I1.kIn rfl) (.cons rfl .nil) rfl fun hr' => ?_) fun r s2 q => ?_)
  · obtain ⟨t', ht', hq'⟩ := hG cdv f c' s' H1 Q (fun E H' Q' => t E σ H' Q') (fun W pn xe p1 p2 tk => pe_actS I1 L lies hfn hfr (noargs _ _ _ _ _) tk hr' (fun A outer s H E r => run A outer s H E f c' r) hNg hva hd hcd) code (h H1 eN T1)
    exact ⟨t', ht'.nox, hq'⟩
  · cases r with
    | error e => exact (show False from q).elim
    | ok fl =>
      cases fl with
      | ret u => exact I1.after q
      | next => exact q.elim
      | brk => exact q.elim
      | cont => exact q.elim
end
end LamX

set_option Elab.async false
set_option linter.all false
set_option maxRecDepth 100000
set_option maxHeartbeats 1000000
/-! VxTk: a statement behind which a token is surely out (x = [.., a written text, ..]), and x = e for a term that wants one. -/
namespace L2
open PySem PySem.Spec PyProof.Rows
/-- behind the expressions a token is out -/
def PAU (X : Cx) (es : List Expr) (t : TA) : Prop :=
  ∀ (pos : Pos) (pins : List (Addr × Obj)) (s : Shared) (σ : St) (H : Hp) (Q : List V → Hp → Prop), Inv X pins σ H s → t σ H Q → wpAny (model X.prog X.w) X.A (spliced (backTo pos (starEach es X.env))) (fun us s1 => 1 ≤ s1.toks ∧ AP X pins σ Q us s1) X.xe s
def PEU (X : Cx) (e : Expr) (t : TE) : Prop :=
  ∀ (pins : List (Addr × Obj)) (s : Shared) (σ : St) (H : Hp) (Q : VK), Inv X pins σ H s → t σ H Q → wpAny (model X.prog X.w) X.A (eval e X.env) (fun v s1 => 1 ≤ s1.toks ∧ EP X pins σ Q v s1) X.xe s
section
variable {X : Cx} {e : Expr} {es : List Expr} {te : TE} {ta : TA}
/-- a written text at the front -/
theorem pau_here {c : Str} {j : Nat} {cp : Pos} (hr : PA X es ta) (hs : starEach (.Constant (.str c) j cp :: es) X.env = (false, eval (.Constant (.str c) j cp) X.env) :: starEach es X.env := by rfl) : PAU X (.Constant (.str c) j cp :: es) (tCons (tC (.str c)) ta) := by
  intro pos pins s σ H Q I h
  rw [hs]
  show wpAny _ _ (spliced ((false, eval (.Constant (.str c) j cp) X.env) :: backTo pos (starEach es X.env))) _ _ s
  refine Calls.spliced_cons (Calls.Constant_str (wpAny_mono (PySem.wpAny_toks (hr.run pos pins _ σ H _ (I.tok (s.toks + 1)) h)) (fun us s1 z => ?_) fun _ _ z => z.2))
  obtain ⟨up, xs, H1, I1, r, q⟩ := z
  exact ⟨Nat.le_trans (Nat.le_add_left 1 s.toks) up, .str c :: xs, H1, I1, .cons ⟨_, rfl⟩ r, q⟩
theorem pau_next (he : PE X e te) (hr : PAU X es ta) (hs : starEach (e :: es) X.env = (false, eval e X.env) :: starEach es X.env := by rfl) : PAU X (e :: es) (tCons te ta) := by
  intro pos pins s σ H Q I h
  rw [hs]
  show wpAny _ _ (spliced ((false, eval e X.env) :: backTo pos (starEach es X.env))) _ _ s
  refine Calls.spliced_cons (thn (he.run pins s σ H _ I h) fun v s1 z => ?_)
  obtain ⟨x, H1, I1, r1, q1⟩ := z
  refine wpAny_mono (hr pos pins s1 σ H1 _ I1 q1) (fun us s2 z => ?_) fun _ _ z => z
  obtain ⟨up, xs, H2, I2, r2, q2⟩ := z
  exact ⟨up, x :: xs, H2, I2, .cons r1 r2, q2⟩
theorem peu_lst {pos : Pos} (h : PAU X es ta) : PEU X (.List es pos) (tLst ta) := by
  intro pins s σ H Q I q
  refine wpAny_List_spliced (wpAny_mono (h pos pins s σ H _ I q) (fun us s1 z => ?_) fun _ _ z => z)
  obtain ⟨up, xs, H1, I1, r, many, q1⟩ := z
  refine ⟨by rw [← r.length]; exact many, up, .ref s1.heap.objs.size, upd H1 s1.heap.objs.size (.lst xs), I1.laid (t' := s1.toks) (fun b u e => Heap.get?_push_of_some _ e) (Nat.le_refl _) ⟨many, us, 0, r, Heap.get?_push_size _ rfl⟩, rfl, q1 _ (I1.hok.fresh (Nat.le_refl _))⟩
variable {i : Nat} {x : Str} {pos' pos : Pos} {rest : List Stmt} {u : TS}
/-- x = e, behind which a token is out -/
theorem pss_setU (hN : X.N.Nodup) (hi : X.N[i]? = some x) (hx : Loc X.env.scope x) (he : PEU X e te) (h2 : PSsT X rest u) (hs : swapsWith e (some (.Name x pos')) pos.line X.env = pure false := by rfl) (hf : X.fn x = true ∨ X.env.scope.names.lookup x = some .local := by first | exact .inl rfl | exact .inr rfl | assumption) :
    PSs X (.Assign [.Name x pos'] e pos :: rest) (tSeq (tAsg te (gName i)) u) := by
  refine ⟨fun pins s σ H D I h => wpAny_execs_cons (wpAny_Assign_Name (wpAny_mono (he pins s σ H _ I h) (fun v s1 z => ?_) fun _ _ z => z) hs)⟩
  obtain ⟨up, y, H1, I1, r1, q1⟩ := z
  refine wpAny_mono (PySem.wpAny_toks (store_ok (Q := fun _ s2 => Inv X pins (σ.set i (some y)) H1 s2) I1 hN hi hx r1 (fun _ I2 => I2) hf)) (fun _ s2 z => ?_) fun _ _ z => z.2
  exact h2 pins s2 _ H1 D (Nat.le_trans up z.1) z.2 q1
/-- x = e, where one is -/
theorem pst_set (hN : X.N.Nodup) (hi : X.N[i]? = some x) (hx : Loc X.env.scope x) (he : PET X e te) (hs : swapsWith e (some (.Name x pos')) pos.line X.env = pure false := by rfl) (hf : X.fn x = true ∨ X.env.scope.names.lookup x = some .local := by first | exact .inl rfl | exact .inr rfl | assumption) :
    PST X (.Assign [.Name x pos'] e pos) (tAsg te (gName i)) := by
  intro pins s σ H D h0 I h
  refine wpAny_Assign_Name (thn (he pins s σ H _ h0 I h) fun v s1 z => ?_) hs
  obtain ⟨y, H1, I1, r1, q1⟩ := z
  exact store_ok I1 hN hi hx r1 (fun s2 I2 => ⟨_, H1, I2, q1⟩) hf
end
end L2

set_option Elab.async false
set_option linter.all false
set_option maxRecDepth 100000
set_option maxHeartbeats 2000000
/-! VxLo: f(k = v, ..) without positional ones; a def's body with its code object told; what stands under the tables' growth. -/
namespace L2
open PySem PySem.Spec PyProof.Rows LamX
section
variable {X : Cx} {CX : CXT} {k : Nat} {f : Addr} {fd : FuncData} {ps ks : List Str} {sp : Sp} {E : XK} {x : Str} {p pos : Pos} {kws : List Keyword} {tk : TA} {g : List Value → List Value → List Value} {gV : List V → List V → List V}
theorem pe_callK0 (F : FnOk X.prog X.w X.K X.mg X.base CX k f fd ps sp) (hr : Room k X.A) (hg : Gl X x) (hm : X.mg x = some (.ref f)) (keep : PySem.W.keepIn X.K (.ref f) = true) (hb : KBinds X.K fd ps ks g gV) (hx : Passes CX X E) (hkw : PK X kws tk)
    (hall : (backToKw pos (keywordEach kws X.env)).all (·.1.isSome) = true := by rfl) (names : (backToKw pos (keywordEach kws X.env)).filterMap (·.1) = ks := by rfl) (hdb : (x == ("__debug__" : Str)) = false := by decide)
    (hpl : ((backTo pos (starEach [] X.env)).any (·.1) || (backToKw pos (keywordEach kws X.env)).any (·.1.isNone)) = false := by rfl) :
    PE X (.Call (.Name x p) [] kws pos) (fun σ H Q => tk σ H fun zs H1 => sp (gV [] zs) H1 Q E) := by
  refine ⟨fun pins s σ H Q I h => wpAny_Call_Name_kw (ld_glob I hg hm (PySem.W.callWith_KW0 (h₀ := X.base) I.ok.mod.kin keep hall (thn (hkw.run pos pins s σ H _ I h) fun ws s2 z => ?_) hpl) hdb)⟩
  obtain ⟨zs, H2, I2, rz, q2⟩ := z
  rw [names]
  exact ⟨I2.kIn, run_fnk (us := []) (vs := []) F hr hb hx I2 .nil rz q2⟩
end
section
variable {P : Program} {w : World} {K : PySem.W.Frag} {mg : Str → Option Value} {base : Heap} {CX : CXT} {k : Nat} {f : Addr} {fd : FuncData} {N ps : List Str} {sp : Sp}
/-- a def promised where nothing is being shown, by its body; its code object is told -/
theorem FunD.okGc {x qual : Str} {params : Arguments} {body : List Stmt} {scope : Scope} {dvs : List V} {kws : List (Str × V)} (F : FunD K x qual params body scope dvs kws f fd) (S : FnScope N ps scope) (len : ∀ vs H Q E, sp vs H Q E → vs.length = ps.length)
    (hbody : ∀ (cdv : Value) (A : Around) (outer : List Env) (s : Shared) (H : Hp) (vs : List V) (Q : VK) (E : XK), PySem.W.codeIn K cdv qual = true → (∃ oc od fd' osl, K.lookup f = some ⟨oc, od, .func fd', osl⟩ ∧ fd'.code = cdv) →
      (A.deeper (envOfC qual scope s.heap.objs.size f cdv)).guards = some [] → Room k (A.deeper (envOfC qual scope s.heap.objs.size f cdv)) → sp vs H Q E →
      ∃ t, PSs (cxOf CX P w K mg base N qual scope f cdv A outer s H E) body t ∧ t { nx := fun _ H' => Q .non H', rt := Q } (start N vs) H) : FnG P w K mg base CX (k + 1) f fd ps sp := by
  obtain ⟨oc, od, dV, kV, doc, pm, an, cdv, ct, osl, rfl, lk, hcd, _, _⟩ := F.ex
  refine ⟨len, fun A hgu hr outer s H args us vs Q E e0 hb r hsp => ?_⟩
  have kin : K.In s.heap := e0.mod.kin.keeps fun b o e => (e0.bs b o e).1
  have par : ∀ y ∈ ps.zip us, scope.names.lookup y.1 = some .local ∨ (scope.names.lookup y.1 = some .cell ∧ ((cellsFrom (s.heap.objs.size + 1) scope.names []).lookup y.1).isSome = true) := by
    intro y hy
    obtain ⟨n, v⟩ := y
    exact (S.par n (List.of_mem_zip hy).1).imp id fun q => ⟨q, PySem.W.cellsFrom_some _ _ _ (.inl q)⟩
  refine codeAny_call_function hr.depth (kin _ _ lk) rfl S.co S.gen rfl (PySem.W.codeRec_of kin hcd) (hb _ _ _ _ (wpAny_newFunctionEnv_cells S.kind par fun env he s1 x => ?_))
  subst he
  refine ⟨(e0.mod.nolimit.keeps fun b o e => (e0.bs b o e).1).keeps x.toInCall.keep, codeAny_func ?_⟩
  obtain ⟨t, ht, hq⟩ := hbody cdv A outer s H vs Q E hcd ⟨_, _, _, _, lk, rfl⟩ hgu (hr.deeper _) hsp
  refine wpAny_mono (ht.run [] s1 (start N vs) H _ (inv_start S hr.hd e0 (len _ _ _ _ hsp) r x) hq) (fun fl s' hs => ?_) fun _ _ hs => hs
  cases fl with
  | ret u =>
    obtain ⟨v, _, H', J, rv, q⟩ := hs
    exact ⟨v, H', J.os, J.bare, J.base, J.hok, rv, q⟩
  | next =>
    obtain ⟨_, H', J, q⟩ := hs
    exact ⟨V.non, H', J.os, J.bare, J.base, J.hok, rfl, q⟩
  | brk => exact hs.elim fun _ z => z.elim fun _ z => z.2.elim
  | cont => exact hs.elim fun _ z => z.elim fun _ z => z.2.elim
end
/-! ### under the tables' growth -/
section
variable {K : PySem.W.Frag} {H H' : Hp}
theorem sqL_ext {a : Addr} {xs : List V} (e : ExtN H H') (h : SqL K H a xs) : SqL K H' a xs := by
  rcases h with h | h
  · rcases h with h | ⟨o, h⟩
    · exact .inl (.inl (e _ _ h fun _ z => nomatch z))
    · exact .inl (.inr ⟨o, e _ _ h fun _ z => nomatch z⟩)
  · exact .inr h
theorem sqT_ext {a : Addr} {xs : List V} (e : ExtN H H') (h : SqT K H a xs) : SqT K H' a xs := by
  rcases h with h | h
  · rcases h with h | ⟨o, h⟩
    · exact .inl (.inl (e _ _ h fun _ z => nomatch z))
    · exact .inl (.inr ⟨o, e _ _ h fun _ z => nomatch z⟩)
  · exact .inr h
mutual
theorem sd_ext (e : ExtN H H') : ∀ {v : V} {d : PyData}, Sd K H v d → Sd K H' v d
  | _, _, .non => .non
  | _, _, .bl b => .bl b
  | _, _, .int i => .int i
  | _, _, .str x => .str x
  | _, _, .lst h a => .lst (sqL_ext e h) (sdall_ext e a)
  | _, _, .tup h a => .tup (sqT_ext e h) (sdall_ext e a)
  | _, _, .emp h => .emp (e _ _ h fun _ z => nomatch z)
  | _, _, .one h a => .one (e _ _ h fun _ z => nomatch z) (sd_ext e a)
theorem sdall_ext (e : ExtN H H') : ∀ {vs : List V} {ds : List PyData}, SdAll K H vs ds → SdAll K H' vs ds
  | _, _, .nil => .nil
  | _, _, .cons h r => .cons (sd_ext e h) (sdall_ext e r)
end
theorem DrawAt.ext {p : Addr} {N : Nat} (d : DrawAt H p N) (e : ExtN H H') : DrawAt H' p N := by
  obtain ⟨l, cs, a, b, c, h1, h2, r⟩ := d
  exact ⟨l, cs, a, b, c, e _ _ h1 (fun _ z => nomatch z), e _ _ h2 (fun _ z => nomatch z), r⟩
end
end L2

set_option Elab.async false
set_option linter.all false
set_option maxRecDepth 100000
set_option maxHeartbeats 2000000
/-! VxCo: x in o, x not in o, len(o): the program's own __contains__ and __len__. -/
namespace L2
open PySem PySem.Spec PyProof.Rows
section
variable {X : Cx} {CX : CXT} {k : Nat} {C f : Addr} {fd : FuncData} {ps : List Str} {sp : Sp} {E : XK}
/-- a def run somewhere below the body, where there is room -/
theorem run_fnA {A1 : Around} {pins : List (Addr × Obj)} {σ : St} {H : Hp} {s : Shared} {Q : VK} {us : List Value} {vs : List V} (F : FnOk X.prog X.w X.K X.mg X.base CX k f fd ps sp) (sb : Sub X k A1) (hb : Binds X.K fd ps []) (hx : Passes CX X E)
    (I : Inv X pins σ H s) (r : Vals vs us) (h : sp vs H Q E) : wpAny (model X.prog X.w) A1 (call (.ref f) us) (EP X pins σ Q) X.xe s := by
  have hl : (us ++ []).length = ps.length := by rw [List.append_nil, ← r.length]; exact F.len _ _ _ _ h
  have e0 : Env0 X.prog X.w X.K X.mg X.base A1 X.stack s H := by
    have e := I.env0
    exact ⟨by rw [sb.fr]; exact e.frames, e.mod, e.bs, e.bsz, e.funs, e.frf, e.hok, e.bare⟩
  refine wpAny_call (codeAny_mono (F.run A1 X.stack s H ⟨us, []⟩ us vs Q E sb.room e0 (by
    have z := hb s us I.kIn hl
    rw [List.append_nil] at z
    exact z) r h) fun r s' hq => ?_)
  cases r with
  | error e => exact hx pins σ H s e s' I hq
  | ok fl =>
    cases fl with
    | ret u => exact I.after hq
    | next => exact False.elim hq
    | brk => exact False.elim hq
    | cont => exact False.elim hq
/-- x in o -/
def rInO (C : Addr) (sp : Sp) (E : XK) (neg : Bool) : R2 := fun x y H Q => ∃ (a dx : Addr) (fs : List (Str × V)), y = .ref a ∧ H a = some (.ins C dx fs) ∧ sp [.ref a, x] H (fun v H' => ∃ b, v = .bl b ∧ Q (.bl (if neg then !b else b)) H') E
theorem op_inO (F : FnOk X.prog X.w X.K X.mg X.base CX k f fd ps sp) (hr : Room k X.A) (hb : Binds X.K fd ps []) (hx : Passes CX X E) (hs : PySem.W.findIn X.K (.ref C) "__contains__" = some (some (.ref f))) (hf : PySem.W.isFn X.K (.ref f) = true) : OpR X (compareOp .In) (rInO C sp E false) := by
  intro pins s σ H x y v u Q I rx ry h
  obtain ⟨a, dx, fs, rfl, ha, h⟩ := h
  obtain rfl : u = Value.ref a := ry
  obtain ⟨mA, J, _⟩ := ins_get I.hok ha
  obtain ⟨od, J, _⟩ := J.look
  obtain ⟨m, hF⟩ := I.fr
  refine PySem.W.in_K hF I.ok.mod.kin J hs hf (wpAny_mono (run_fnA F ⟨hr, rfl⟩ hb hx I (vs := [.ref a, x]) (.cons rfl (.cons rx .nil)) h) (fun r s' hq => ?_) fun _ _ z => z)
  obtain ⟨z, H', I', rz, b, rfl, q⟩ := hq
  obtain rfl : r = Value.bool b := rz
  exact wpAny_truthy_bool ⟨.bl b, H', I', rfl, q⟩
theorem op_notInO (F : FnOk X.prog X.w X.K X.mg X.base CX k f fd ps sp) (hr : Room k X.A) (hb : Binds X.K fd ps []) (hx : Passes CX X E) (hs : PySem.W.findIn X.K (.ref C) "__contains__" = some (some (.ref f))) (hf : PySem.W.isFn X.K (.ref f) = true) : OpR X (compareOp .NotIn) (rInO C sp E true) := by
  intro pins s σ H x y v u Q I rx ry h
  obtain ⟨a, dx, fs, rfl, ha, h⟩ := h
  obtain rfl : u = Value.ref a := ry
  obtain ⟨mA, J, _⟩ := ins_get I.hok ha
  obtain ⟨od, J, _⟩ := J.look
  obtain ⟨m, hF⟩ := I.fr
  refine PySem.W.notIn_K hF I.ok.mod.kin J hs hf (wpAny_mono (run_fnA F ⟨hr, rfl⟩ hb hx I (vs := [.ref a, x]) (.cons rfl (.cons rx .nil)) h) (fun r s' hq => ?_) fun _ _ z => z)
  obtain ⟨z, H', I', rz, b, rfl, q⟩ := hq
  obtain rfl : r = Value.bool b := rz
  exact wpAny_truthy_bool ⟨.bl (!b), H', I', rfl, q⟩
/-- len(o) -/
def rLenO (C : Addr) (sp : Sp) (E : XK) : List V → Hp → VK → Prop := fun xs H Q => ∃ (a dx : Addr) (fs : List (Str × V)), xs = [.ref a] ∧ H a = some (.ins C dx fs) ∧ sp [.ref a] H (fun v H' => ∃ n : Int, v = .int n ∧ (0 ≤ n ∧ n < 2 ^ 63) ∧ Q (.int n) H') E
theorem call_lenO (F : FnOk X.prog X.w X.K X.mg X.base CX k f fd ps sp) (hr : Room (k + 1) X.A) (hb : Binds X.K fd ps []) (hx : Passes CX X E) (hs : PySem.W.findIn X.K (.ref C) "__len__" = some (some (.ref f))) (hf : PySem.W.isFn X.K (.ref f) = true) : CallR X (.builtin "len") (rLenO C sp E) := by
  intro pins s σ H xs us Q I r h
  obtain ⟨a, dx, fs, rfl, ha, h⟩ := h
  rw [Vals.ref1 r]
  obtain ⟨mA, J, _⟩ := ins_get I.hok ha
  obtain ⟨od, J, _⟩ := J.look
  obtain ⟨m, hF⟩ := I.fr
  refine PySem.W.len_K hF I.ok.mod.kin J hs hf (wpAny_mono (run_fnA F (Sub.in1 ⟨hr, rfl⟩) hb hx I (vs := [.ref a]) (.cons rfl .nil) h) (fun r s' hq => ?_) fun _ _ z => z)
  obtain ⟨z, H', I', rz, n, rfl, hn, q⟩ := hq
  obtain ⟨t, rfl⟩ : ∃ t, r = Value.int n t := rz
  exact ⟨hn, .int n, H', I'.tok _, ⟨_, rfl⟩, q⟩
end
end L2

set_option Elab.async false
set_option linter.all false
set_option maxRecDepth 100000
set_option maxHeartbeats 1000000
/-! VxL: a list of anything == [] and != []. -/
namespace L2
open PySem PySem.Spec PyProof.Rows
section
variable {X : Cx}
def rEqN (K : PySem.W.Frag) : R2 := fun x y H Q => ∃ (a b : Addr) (xs : List V), x = .ref a ∧ y = .ref b ∧ SqL K H a xs ∧ SqL K H b [] ∧ Q (.bl xs.isEmpty) H
theorem op_eqN (hu : X.A.units < cLine) : OpR X (compareOp .Eq) (rEqN X.K) := by
  intro pins s σ H x y v u Q I rx ry h
  obtain ⟨a, b, xs, rfl, rfl, ha, hb, q⟩ := h
  cases rx
  cases ry
  obtain ⟨us, r1, p1, _⟩ := I.list ha
  obtain ⟨ws, r2, p2, _⟩ := I.list hb
  cases r2
  by_cases z : xs = []
  · subst z
    cases r1
    refine SeqAt.eq_listAt (e := fun _ => true) p1.isList p2.isList rfl hu ?_ ?_
    · intro j h1
      simp at h1
    · exact ⟨.bl true, H, I, rfl, q⟩
  · refine SeqAt.eq_list_lengthsAt p1.isList p2.isList ?_ hu ?_
    · have e : us ≠ [] := fun w => z (by
        subst w
        cases r1
        rfl)
      cases us with
      | nil => exact absurd rfl e
      | cons _ _ => simp
    · cases xs with
      | nil => exact absurd rfl z
      | cons _ _ => exact ⟨.bl false, H, I, rfl, q⟩
def rNeN (K : PySem.W.Frag) : R2 := fun x y H Q => ∃ (a b : Addr) (xs : List V), x = .ref a ∧ y = .ref b ∧ SqL K H a xs ∧ SqL K H b [] ∧ Q (.bl !xs.isEmpty) H
theorem op_neN (hu : X.A.units < cLine) : OpR X (compareOp .NotEq) (rNeN X.K) := by
  intro pins s σ H x y v u Q I rx ry h
  obtain ⟨a, b, xs, rfl, rfl, ha, hb, q⟩ := h
  cases rx
  cases ry
  obtain ⟨us, r1, p1, _⟩ := I.list ha
  obtain ⟨ws, r2, p2, _⟩ := I.list hb
  cases r2
  by_cases z : xs = []
  · subst z
    cases r1
    refine SeqAt.RcNeAt.lists (e := fun _ => true) p1.isList p2.isList rfl hu ?_ X.prog X.w _ _ ?_
    · intro j h1
      simp at h1
    · exact ⟨.bl false, H, I, rfl, q⟩
  · refine SeqAt.RcNeAt.lists_lengths p1.isList p2.isList ?_ hu X.prog X.w _ _ ?_
    · have e : us ≠ [] := fun w => z (by
        subst w
        cases r1
        rfl)
      cases us with
      | nil => exact absurd rfl e
      | cons _ _ => simp
    · cases xs with
      | nil => exact absurd rfl z
      | cons _ _ => exact ⟨.bl true, H, I, rfl, q⟩
end
end L2

set_option Elab.async false
set_option linter.all false
set_option maxRecDepth 100000
set_option maxHeartbeats 2000000
/-! VxO: things: data, or objects of the program's own classes; isinstance of both. -/
namespace L2
open PySem PySem.Spec PyProof.Rows
/-- what of the text a node's class must have; CN: the class above all of them -/
structure NodC (K : PySem.W.Frag) (CN C : Addr) : Prop where
  cls : Cls K C
  ha : PySem.W.findIn K (.ref C) "__class__" = some (some (.builtin "object.__class__"))
  hn : PySem.W.specialIn K (.builtin "object.__class__") "__get__" = some (some (.builtin "getset_descriptor.__get__"))
  htk : PySem.W.takesIn K (.builtin "object.__class__") = some true
  eqc : VxS.EqC K C
  kit : ∀ t ∈ ["int", "bool", "str", "tuple", "list", "dict"], PySem.W.kitOne K (.ref C) (.type t) = some false
  kitN : PySem.W.kitOne K (.ref C) (.ref CN) = some true
  mro : PySem.W.mroIn K C (.ref C) = some true
/-- no datum is a node -/
def DatN (K : PySem.W.Frag) (CN : Addr) : Prop := ∀ t ∈ ["NoneType", "bool", "int", "str", "list", "tuple", "dict"], PySem.W.kitOne K (.type t) (.ref CN) = some false
inductive Tk where
  | dat (d : PyData)
  | nod (C : Addr)
def Tv (K : PySem.W.Frag) (CN : Addr) (H : Hp) (v : V) : Tk → Prop
  | .dat d => Sd K H v d
  | .nod C => NodC K CN C ∧ ∃ a dx fs, v = .ref a ∧ H a = some (.ins C dx fs)
def isTk : Tk → String → Bool
  | .dat d, t => isD d t
  | .nod _, _ => false
def isNod : Tk → Bool
  | .dat _ => false
  | .nod _ => true
theorem NodC.ty {K : PySem.W.Frag} {CN C a dx : Addr} {fs : List (Str × V)} {H : Hp} (n : NodC K CN C) (e : H a = some (.ins C dx fs)) : TyX K H (.ref a) (.ref C) := .base (.ins e n.cls n.ha n.hn n.htk n.eqc.top)
theorem plain_mem {t : String} (h : plainT t = true) : t ∈ ["int", "bool", "str", "tuple", "list", "dict"] := by
  unfold plainT at h
  simpa using h
theorem tyN_mem (d : PyData) : tyN d ∈ ["NoneType", "bool", "int", "str", "list", "tuple", "dict"] := by cases d <;> simp [tyN]
section
variable {X : Cx}
def rIsTk (K : PySem.W.Frag) (CN : Addr) : List V → Hp → VK → Prop := fun xs H Q => ∃ (v : V) (k : Tk) (t : String), xs = [v, .ty t] ∧ plainT t = true ∧ Tv K CN H v k ∧ Q (.bl (isTk k t)) H
theorem call_isTk {CN : Addr} : CallR X (.builtin "isinstance") (rIsTk X.K CN) := by
  intro pins s σ H xs us Q I r h
  obtain ⟨v, k, t, rfl, ht, hv, q⟩ := h
  cases k with
  | dat d => exact call_isD pins s σ H _ us Q I r ⟨v, d, t, rfl, ht, hv, q⟩
  | nod C =>
    obtain ⟨n, a, dx, fs, rfl, e⟩ := hv
    exact call_isi pins s σ H _ us Q I r ⟨.ref a, .ty t, _, .type t, _, rfl, .ty t, n.ty e, n.kit t (plain_mem ht), q⟩
def rIsN (K : PySem.W.Frag) (CN : Addr) : List V → Hp → VK → Prop := fun xs H Q => ∃ (v : V) (k : Tk), xs = [v, .ref CN] ∧ Tv K CN H v k ∧ Q (.bl (isNod k)) H
theorem call_isN {CN : Addr} (D : DatN X.K CN) : CallR X (.builtin "isinstance") (rIsN X.K CN) := by
  intro pins s σ H xs us Q I r h
  obtain ⟨v, k, rfl, hv, q⟩ := h
  cases k with
  | dat d => exact call_isi pins s σ H _ us Q I r ⟨v, .ref CN, _, .ref CN, _, rfl, .own CN, (show Sd X.K H v d from hv).ty, D _ (tyN_mem d), q⟩
  | nod C =>
    obtain ⟨n, a, dx, fs, rfl, e⟩ := hv
    exact call_isi pins s σ H _ us Q I r ⟨.ref a, .ref CN, _, .ref CN, _, rfl, .own CN, n.ty e, n.kitN, q⟩
/-- isinstance(v, tuple), v a sequence of anything or a datum -/
def rIsTup (K : PySem.W.Frag) : List V → Hp → VK → Prop := fun xs H Q => ∃ (v : V) (t : String) (b : Bool), xs = [v, .ty "tuple"] ∧ TyX K H v (.type t) ∧ b = (t == "tuple") ∧ t ∈ ["NoneType", "bool", "int", "str", "list", "tuple", "dict"] ∧ Q (.bl b) H
theorem call_isTup : CallR X (.builtin "isinstance") (rIsTup X.K) := by
  intro pins s σ H xs us Q I r h
  obtain ⟨v, t, b, rfl, ty, rfl, m, q⟩ := h
  refine call_isi pins s σ H _ us Q I r ⟨v, .ty "tuple", _, .type "tuple", _, rfl, .ty "tuple", ty, ?_, q⟩
  simp only [List.mem_cons, List.not_mem_nil, or_false] at m
  rcases m with rfl | rfl | rfl | rfl | rfl | rfl | rfl
  · exact kit_data .none rfl
  · exact kit_data (.bool true) rfl
  · exact kit_data (.int 0) rfl
  · exact kit_data (.str "") rfl
  · exact kit_data (.list []) rfl
  · exact kit_data (.tuple []) rfl
  · exact kit_data (.dict []) rfl
end
end L2

set_option Elab.async false
set_option linter.all false
set_option maxRecDepth 100000
set_option maxHeartbeats 1000000
/-! VxH: within a try whose clause looks at the slots: C.m(k = e, ..) and o.m(k = e, ..). -/
namespace L2
open PySem PySem.Spec PyProof.Rows StX ClX
section
variable {X : Cx} {CX : CXT} {k : Nat} {f C p g : Addr} {fd : FuncData} {ps ks : List Str} {sp : Sp} {x m : Str} {np pos apos : Pos} {o : Expr} {kws : List Keyword} {ta : TE} {tk : TA} {E : L2.St → XK} {mc : Value}
/-- C.m(k = v, ..), m a classmethod -/
theorem pe_cmethKSg {pl : Sem Bool} {gv : List Value → List Value} {gV : List V → List V} (he : PE X o ta) (r : CRead X.K C mc) (c : CMet X.K C mc m p g) (F : FnOk X.prog X.w X.K X.mg X.base CX k g fd ps sp) (hr : Room k X.A) (hx : ∀ σ, PassesAt CX X σ (E σ))
    (hbd : ∀ (s : Shared) (ws : List Value), X.K.In s.heap → ws.length = ks.length → BindsTo s fd ⟨[Value.ref C], ks.zip ws⟩ (ps.zip (Value.ref C :: gv ws))) (rel : ∀ {zs : List V} {ws : List Value}, Vals zs ws → Vals (gV zs) (gv ws)) (hkw : PK X kws tk)
    (hall : (backToKw pos (keywordEach kws X.env)).all (·.1.isSome) = true := by rfl) (hks : (backToKw pos (keywordEach kws X.env)).filterMap (·.1) = ks := by rfl)
    (hpl : ((backTo pos (starEach [] X.env)).any (·.1) || (backToKw pos (keywordEach kws X.env)).any (·.1.isNone)) = false := by rfl)
    (ht : eval (.Call (.Attribute o m apos) [] kws pos) X.env = (do
      let ov ← eval o X.env
      standAt apos.atName
      let (f, first) ← holding [ov] (getMethod ov m pl)
      callWith pos f first (backTo pos (starEach [] X.env)) (backToKw pos (keywordEach kws X.env))) := by rfl) :
    PE X (.Call (.Attribute o m apos) [] kws pos) (fun σ H Q => ta σ H fun y H1 => y = .ref C ∧ tk σ H1 fun zs H2 => zs.length = ks.length ∧ sp (.ref C :: gV zs) H2 Q (E σ)) := by
  refine ⟨fun pins s σ H Q I h => PySem.W.methodCall_KW (pl := pl) (thn (he.run pins s σ H _ I h) fun u s1 hh => ?_) ht⟩
  obtain ⟨y, H1, I1, rx, rfl, q⟩ := hh
  obtain rfl : u = Value.ref C := rx
  refine getmethcm_ok I1 r c fun s2 I2 => ?_
  refine PySem.W.callWith_of hpl (PySem.W.keeps_M (K := X.K) (self := .ref C) c.fi) (evalArgs_kw2_nil hall (thn (hkw.run pos _ s2 σ H1 _ I2 q) fun ws s3 hh => ?_))
  obtain ⟨zs, H2, I3, rz, hl, q2⟩ := hh
  refine ⟨⟨pin_at I3, I3.kIn⟩, ?_⟩
  rw [hks]
  have z : wpAny (model X.prog X.w) X.A (call (.ref s1.heap.objs.size) ([] ++ []) (ks.zip ws)) (EP X ((s1.heap.objs.size, PySem.W.methodObj (.ref g) (.ref C)) :: pins) σ Q) X.xe s3 := by
    refine wpAny_call (PySem.W.method_call (pin_at I3) (codeAny_mono (F.run X.A X.stack s3 H2 ⟨[.ref C], ks.zip ws⟩ (.ref C :: gv ws) (.ref C :: gV zs) Q (E σ) hr I3.env0 (hbd s3 ws I3.kIn (by rw [← rz.length]; exact hl)) (.cons rfl (rel rz)) q2) fun rs s' hq => ?_))
    cases rs with
    | error er => exact hx σ _ H2 s3 er s' I3 hq
    | ok fl =>
      cases fl with
      | ret u => exact I3.after hq
      | next => exact hq.elim
      | brk => exact hq.elim
      | cont => exact hq.elim
  exact thn z fun _ _ y => unpinE y
/-- o.m(k = v, ..) -/
theorem pe_methKSg {pl : Sem Bool} {gv : List Value → List Value} {gV : List V → List V} (he : PE X o ta) (c : Cls X.K C) (hm : Meth X.K C m f) (F : FnOk X.prog X.w X.K X.mg X.base CX k f fd ps sp) (hr : Room k X.A) (hx : ∀ σ, PassesAt CX X σ (E σ))
    (hbd : ∀ (s : Shared) (a : Addr) (ws : List Value), X.K.In s.heap → ws.length = ks.length → BindsTo s fd ⟨[Value.ref a], ks.zip ws⟩ (ps.zip (Value.ref a :: gv ws))) (rel : ∀ {zs : List V} {ws : List Value}, Vals zs ws → Vals (gV zs) (gv ws)) (hkw : PK X kws tk)
    (hall : (backToKw pos (keywordEach kws X.env)).all (·.1.isSome) = true := by rfl) (hks : (backToKw pos (keywordEach kws X.env)).filterMap (·.1) = ks := by rfl)
    (hpl : ((backTo pos (starEach [] X.env)).any (·.1) || (backToKw pos (keywordEach kws X.env)).any (·.1.isNone)) = false := by rfl)
    (ht : eval (.Call (.Attribute o m apos) [] kws pos) X.env = (do
      let ov ← eval o X.env
      standAt apos.atName
      let (f, first) ← holding [ov] (getMethod ov m pl)
      callWith pos f first (backTo pos (starEach [] X.env)) (backToKw pos (keywordEach kws X.env))) := by rfl) :
    PE X (.Call (.Attribute o m apos) [] kws pos) (fun σ H Q => ta σ H fun y H1 => ∃ a dx fs, y = .ref a ∧ H1 a = some (.ins C dx fs) ∧ fs.lookup m = none ∧ tk σ H1 fun zs H2 => zs.length = ks.length ∧ sp (.ref a :: gV zs) H2 Q (E σ)) := by
  refine ⟨fun pins s σ H Q I h => PySem.W.methodCall_KW (pl := pl) (thn (he.run pins s σ H _ I h) fun u s1 hh => ?_) ht⟩
  obtain ⟨y, H1, I1, rx, a, dx, fs, rfl, ea, l, q⟩ := hh
  obtain rfl : u = Value.ref a := rx
  refine getmeth_ok I1 ea c hm l ?_
  refine PySem.W.callWith_of hpl (PySem.W.keeps_K (K := X.K) hm.kp) (evalArgs_kw2_nil hall (thn (hkw.run pos _ s1 σ H1 _ I1 q) fun ws s3 hh => ?_))
  obtain ⟨zs, H2, I3, rz, hl, q2⟩ := hh
  refine ⟨I3.kIn, ?_⟩
  rw [hks]
  refine wpAny_call (codeAny_mono (F.run X.A X.stack s3 H2 ⟨[.ref a], ks.zip ws⟩ (.ref a :: gv ws) (.ref a :: gV zs) Q (E σ) hr I3.env0 (hbd s3 a ws I3.kIn (by rw [← rz.length]; exact hl)) (.cons rfl (rel rz)) q2) fun rs s' hq => ?_)
  cases rs with
  | error er => exact hx σ _ H2 s3 er s' I3 hq
  | ok fl =>
    cases fl with
    | ret u => exact I3.after hq
    | next => exact hq.elim
    | brk => exact hq.elim
    | cont => exact hq.elim
end
end L2

set_option Elab.async false
set_option linter.all false
set_option maxRecDepth 100000
set_option maxHeartbeats 1000000
/-! VxF: v != v, one and the same: data, a list of anything, a dict of flat data. -/
namespace L2
open PySem PySem.Spec PyProof.Rows
section
variable {X : Cx}
def rNeL (K : PySem.W.Frag) : R2 := fun x y H Q => ∃ (a : Addr) (xs : List V), x = .ref a ∧ y = .ref a ∧ SqL K H a xs ∧ Q (.bl false) H
theorem op_neL (hu : X.A.units < cLine) : OpR X (compareOp .NotEq) (rNeL X.K) := by
  intro pins s σ H x y v u Q I rx ry h
  obtain ⟨a, xs, rfl, rfl, ha, q⟩ := h
  cases rx
  cases ry
  obtain ⟨us, r1, p1, _⟩ := I.list ha
  have z := SeqAt.RcNeAt.lists (A := X.A) (s := s) (e := fun _ => true) p1.isList p1.isList rfl hu (fun j h1 h2 => SeqAt.EqAt.same _) X.prog X.w X.xe (EP X pins σ Q)
  refine z ?_
  have e : (List.range us.toArray.size).all (fun _ => true) = true := by simp
  rw [e]
  exact ⟨.bl false, H, I, rfl, q⟩
def rNeS (K : PySem.W.Frag) : R2 := fun x y H Q => rNeD K x y H Q ∨ rNeL K x y H Q ∨ rNeDA x y H Q
theorem op_neS (h64 : X.A.units + 64 < cLine) : OpR X (compareOp .NotEq) (rNeS X.K) := by
  intro pins s σ H x y v u Q I rx ry h
  have hu : X.A.units < cLine := by omega
  rcases h with h | h | h
  · exact op_neD h64 pins s σ H x y v u Q I rx ry h
  · exact op_neL hu pins s σ H x y v u Q I rx ry h
  · exact op_ne_dictA hu pins s σ H x y v u Q I rx ry h
end
end L2

set_option Elab.async false
set_option linter.all false
set_option maxRecDepth 100000
set_option maxHeartbeats 2000000
/-! VxV: tuple(d.items()). -/
namespace PySem
open AutoSeq1 (wpAny_loadPart')
theorem tuple_new_itemsV {prog : Program} {w : World} {K : Type} [DecidableEq K] (knd : KeyKind prog w K) (r d : Addr) (kvs : List (K × Value)) (ep : Nat) (hn : kvs.length ≤ sizeLine) :
    MeetsIn prog w (Builtin.«tuple.__new__» ⟨[.type "tuple", .ref r], []⟩) (fun A R s => A.handled = none ∧ s.heap.IsItemsView r d ∧ s.heap.DictAt knd d kvs ep ∧
      ∀ (h' : Heap) (tk : Nat) (as : List Addr), (∀ b o, s.heap.get? b = some o → h'.get? b = some o) → as.length = kvs.length → PySem.W.KdxG knd kvs s.heap.objs.size h' as →
        R (.ok (.ret (.ref h'.objs.size))) { s with heap := h'.push { cls := .type "tuple", data := .seq (as.map Value.ref).toArray }, toks := tk }) :=
  .of_wp fun A R s h => by
    obtain ⟨hp, g, dr, tk0, os⟩ := s
    obtain ⟨hh, hv, hm, h⟩ := h
    have hsub := sub_tuple_self
    have hinit := init_tuple_lookup
    have hmh := madeHere_tuple
    obtain ⟨o, ho, hc, hd⟩ := hv
    have hT : Shared.TypeIs ⟨hp, g, dr, tk0, os⟩ (.ref r) "dict_items" := ⟨o, ho, hc⟩
    have hh1 : A.in1.handled = none := hh
    have key : ∀ {R' : List Value → Shared → Prop} {E' : Value → Shared → Prop}, (∀ (h' : Heap) (tk : Nat) (as : List Addr), (∀ b o, hp.get? b = some o → h'.get? b = some o) → as.length = kvs.length → PySem.W.KdxG knd kvs hp.objs.size h' as → R' (as.map Value.ref) ⟨h', g, dr, tk, os⟩) →
        wpAny (model prog w) A.in1 (collect (.ref r)) R' E' ⟨hp, g, dr, tk0, os⟩ := fun h => PySem.W.kdx_collect (s := ⟨hp, g, dr, tk0, os⟩) (knd := knd) (kvs := kvs) (ep := ep) hh1 ⟨o, ho, hc, hd⟩ hm hn h
    wp_walk using wpAny_typeOf hT, key
    intro h' tk as hk hl hG
    show wpAny _ _ (Builtin.Tuple.tupleExact (as.map Value.ref).toArray >>= fun v => ret v) _ _ _
    unfold Builtin.Tuple.tupleExact
    refine wpAny_bind (wpAny_newObj_type ?_ (by show (as.map Value.ref).toArray.size ≤ sizeLine; rw [List.size_toArray, List.length_map, hl]; exact hn))
    exact wpAny_pure ⟨_, rfl, h h' tk as hk hl hG⟩
theorem call_tuple_itemsV {prog : Program} {w : World} {A : Around} {E : Value → Shared → Prop} {s : Shared} {K : Type} [DecidableEq K] (knd : KeyKind prog w K) {r d : Addr} {kvs : List (K × Value)} {ep : Nat} {Q : Value → Shared → Prop} (hn : kvs.length ≤ sizeLine)
    (hh : A.handled = none) (hv : s.heap.IsItemsView r d) (hm : s.heap.DictAt knd d kvs ep)
    (h : ∀ (h' : Heap) (tk : Nat) (as : List Addr), (∀ b o, s.heap.get? b = some o → h'.get? b = some o) → as.length = kvs.length → PySem.W.KdxG knd kvs s.heap.objs.size h' as → Q (.ref h'.objs.size) { s with heap := h'.push { cls := .type "tuple", data := .seq (as.map Value.ref).toArray }, toks := tk }) :
    wpAny (model prog w) A (call (.type "tuple") [.ref r]) Q E s :=
  callType_newIn F.called_tuple (by decide) (F.typeCall_tuple_1 _) (F.newCall_tuple_1 _) (fun obj => F.args_object_init_2 obj _) F.entry_tuple_new
    (tuple_new_itemsV knd r d kvs ep hn) ⟨hh, hv, hm, fun h' tk as hk hl hG => ⟨⟨_, Heap.get?_push_size _ rfl, rfl⟩, h h' tk as hk hl hG⟩⟩
end PySem
namespace L2
open PySem PySem.Spec PyProof.Rows LiI
def rItemsTu : V → Hp → VK → Prop := fun x H Q => ∃ (d : Addr) (kvs : List (Key × V)), x = .ref d ∧ H d = some (.dK kvs) ∧
  ∀ (H' : Hp) (p : Addr) (ts : List Addr), Same H H' → H p = none → (∀ t ∈ ts, H t = none) → H' p = some (.tup (ts.map V.ref)) → Paired (fun (t : Addr) (q : Key × V) => H' t = some (.tup [kV q.1, q.2])) ts kvs → Q (.ref p) H'
def tTupItems (te : TE) : TE := fun σ H Q => te σ H fun x H1 => rItemsTu x H1 Q
section
variable {X : Cx} {e : Expr} {te : TE} {p apos cpos pos : Pos}
theorem items_laidT {pins : List (Addr × Obj)} {σ : L2.St} {H : Hp} {s : Shared} {h' : Heap} {tk : Nat} {kvs : List (Key × V)} {vs : List (Key × Value)} {as : List Addr} (I : Inv X pins σ H s) (hz : kvs.length ≤ sizeLine) (kv : KV kvs vs)
    (hk : ∀ b o, s.heap.get? b = some o → h'.get? b = some o) (hl : as.length = vs.length) (hG : PySem.W.KdxG (mixKind X.prog X.w) vs s.heap.objs.size h' as) (le : s.heap.objs.size ≤ h'.objs.size) :
    ∃ H' : Hp, Same H H' ∧ H h'.objs.size = none ∧ (∀ t ∈ as, H t = none) ∧ H' h'.objs.size = some (.tup (as.map V.ref)) ∧ Paired (fun (t : Addr) (q : Key × V) => H' t = some (.tup [kV q.1, q.2])) as kvs ∧
      Inv X pins σ H' { s with heap := h'.push { cls := .type "tuple", data := .seq (as.map Value.ref).toArray }, toks := tk } := by
  have lk : kvs.length = vs.length := Paired.length kv
  have hSn : h'.objs.size ∉ as := fun z => Nat.lt_irrefl _ (hG.there z)
  have nd : as.Nodup := List.Pairwise.imp (fun {a b} (h : a < b) => Nat.ne_of_lt h) hG.rise
  have new : ∀ t ∈ as, H t = none := fun t ht => I.hok.fresh (Nat.le_of_lt (hG.above t ht))
  have newS : H h'.objs.size = none := I.hok.fresh le
  have atP := putT_at as kvs (upd H h'.objs.size (.tup (as.map V.ref))) (by omega) nd
  have off : ∀ b, b ∉ as → b ≠ h'.objs.size → putT (upd H h'.objs.size (.tup (as.map V.ref))) as kvs b = H b := fun b h1 h2 => by rw [putT_off as kvs _ h1, upd_ne h2]
  have low : ∀ b o, s.heap.get? b = some o → b ∉ as ∧ b ≠ h'.objs.size := fun b o e => ⟨fun z => absurd (Heap.lt_size e) (Nat.not_lt.mpr (Nat.le_of_lt (hG.above b z))), fun z => absurd (Heap.lt_size e) (Nat.not_lt.mpr (by rw [z]; exact le))⟩
  have kp : ∀ b u, H b = some u → (putT (upd H h'.objs.size (.tup (as.map V.ref))) as kvs) b = some u := fun b u e => by
    rw [off b (fun z => by rw [new b z] at e; cases e) (fun z => by rw [z, newS] at e; cases e)]
    exact e
  have eS : putT (upd H h'.objs.size (.tup (as.map V.ref))) as kvs h'.objs.size = some (.tup (as.map V.ref)) := by rw [putT_off as kvs _ hSn, upd_same]
  have hk2 : ∀ b o, s.heap.get? b = some o → (h'.push { cls := .type "tuple", data := .seq (as.map Value.ref).toArray }).get? b = some o := fun b o e => Heap.get?_push_of_some _ (hk b o e)
  refine ⟨putT (upd H h'.objs.size (.tup (as.map V.ref))) as kvs, kp, newS, new, eS, atP, ?_⟩
  refine I.call' (ch := []) rfl ⟨fun b o q _ _ _ => hk2 b o q, fun b o q _ _ _ => ⟨o.slots, hk2 b o q⟩, fun b o q n _ => ?_, fun b o q _ => ⟨o, hk2 b o q⟩, fun b xs q => kp b _ q, fun b o u q => kp b _ q, fun b ps q => ⟨#[], by rw [kp b _ q]; simp⟩⟩ (fun b u q => ?_) I.bare fun b z => by simp at z
  · obtain ⟨z1, z2⟩ := low b o q
    rw [off b z1 z2]
    exact n
  · by_cases hb : b ∈ as
    · obtain ⟨j, pk, e1, e2, e3⟩ := paired_ix atP hb
      rw [e3] at q
      cases q
      obtain ⟨key, k, x, f1, f2, f3⟩ := hG.pairs j b e1
      obtain ⟨qv, g1, g2, g3⟩ := paired_get kv e2
      rw [f1] at g1
      cases g1
      have rk : RelV (kV pk.1) key := by
        rw [g2]
        exact relV_key (show keyIs k key = true from f2)
      exact ⟨by show 2 ≤ sizeLine; decide, [key, x], .cons rk (.cons g3 .nil), ⟨_, Heap.get?_push_of_some _ f3, rfl, _, rfl⟩⟩
    · by_cases hb2 : b = h'.objs.size
      · rw [hb2] at q ⊢
        rw [eS] at q
        cases q
        refine ⟨by rw [List.length_map]; omega, as.map Value.ref, vals_refs as, ?_⟩
        exact ⟨_, Heap.get?_push_size _ rfl, rfl, _, rfl⟩
      · rw [off b hb hb2] at q
        exact (I.hok b u q).stay (fun d v _ y => hk2 d v y) (fun d y => kp d _ y) fun d xs y => kp d _ y
/-- tuple(e.items()) -/
theorem pe_tupItems (hc : X.calm = true) (he : PE X e te) (hg : Gl X "tuple") (hm : X.mg "tuple" = none) (hv : bootBuiltins "tuple" = some (.type "tuple")) (hbase : attributeBase e "items" X.env (eval e X.env) = eval e X.env := by rfl) (hline : (apos.endLine == cpos.line) = true := by rfl)
    (hs : starEach [.Call (.Attribute e "items" apos) [] [] cpos] X.env = (false, eval (.Call (.Attribute e "items" apos) [] [] cpos) X.env) :: starEach [] X.env := by rfl) :
    PE X (.Call (.Name "tuple" p) [.Call (.Attribute e "items" apos) [] [] cpos] [] pos) (tTupItems te) := by
  refine ⟨fun pins s σ H Q I hq => ?_⟩
  refine wpAny_Call_Name_kw (ld_blt I hg hm hv ?_)
  refine PyProof.Rows.callWith_type1 ?_ hs rfl
  rw [hs]
  show wpAny _ _ (spliced ((false, eval (.Call (.Attribute e "items" apos) [] [] cpos) X.env) :: backTo pos (starEach [] X.env))) _ _ s
  refine Calls.spliced_cons ?_
  refine wpAny_Call_method (T := "dict") (id := "dict.items") hbase rfl hline F.plainAttrs_dict F.slot_dict_items F.type_dict_items (thn (he.run pins s σ H _ I hq) fun u s1 ⟨x, H1, I1, rx, d, kvs, ex, hd, q⟩ => ?_)
  subst ex
  obtain rfl : u = Value.ref d := rx
  obtain ⟨hz, hs0, vs, kv, hdo⟩ := I1.hok d _ hd
  obtain ⟨ep, hat⟩ := hdo.dictAt
  have lk : kvs.length = vs.length := Paired.length kv
  have I2 : Inv X pins σ H1 { s1 with heap := s1.heap.push { cls := .type "dict_items", data := .fields #[.ref d] } } := I1.kept (t' := s1.toks) fun b ob q => Heap.get?_push_of_some _ q
  refine ⟨hdo.typeIs, hdo.mapOf.noDict, ?_⟩
  show wpAny _ _ (callWith cpos (.builtin "dict.items") [.ref d] [] []) _ X.xe s1
  refine method_meetsIn F.slot_dict_items F.entry_dict_items rfl (PySem.evalArgs_none ⟨rfl, hdo.typeIs, F.args_dict_items_1 _, _, meets_dict_items (mixKind X.prog X.w) d hs0, ⟨vs, hdo⟩, ?_⟩)
  refine Calls.spliced_nil ?_
  refine PySem.call_tuple_itemsV (mixKind X.prog X.w) (kvs := vs) (ep := ep) (by omega) (I1.ok.hd hc) ⟨_, Heap.get?_push_size _ rfl, rfl, rfl⟩ (hat.push _) fun h' tk as hk hl hG => ?_
  obtain ⟨H', k1, k2, k3, k4, k5, J⟩ := items_laidT (tk := tk) I2 hz kv hk hl hG (by show (s1.heap.push _).objs.size ≤ _; rw [Heap.size_push]; exact Heap.lt_size (hk _ _ (Heap.get?_push_size _ rfl)))
  exact ⟨.ref _, H', J, rfl, q H' _ as k1 k2 k3 k4 k5⟩
end
end L2

set_option Elab.async false
set_option linter.all false
set_option maxRecDepth 100000
set_option maxHeartbeats 2000000
/-! VxW: a walk over enumerate(text). -/
namespace L2
open PySem PySem.Spec PyProof.Rows
/-- the signs of x, each in a new pair -/
def Itns (x : Str) : It :=
  ⟨fun i _ => i < x.cps.size, fun i H v H' => ∃ T c, v = .ref T ∧ H T = none ∧ H' = upd H T (.tup [.int (i : Nat), .str ⟨#[c]⟩]) ∧ x.cps[i]? = some c, fun i _ => i = x.cps.size⟩
theorem turn_enumS {P : Program} {w : World} {K : PySem.W.Frag} {elts : List Expr} {kk : Nat} {tpos : Pos} (x : Str) (t : Tok) (e it : Addr) :
    Turn P w K (.Tuple elts kk tpos) (Itns x) [e, it] e (fun i h => (∃ old, IsEnum h e it ((i : Nat) : Int) old) ∧ h.IsStrIter it (strIterType x) x t i ∧ e ≠ it) where
  mem := by simp
  obj := fun i h st b hb => by
    obtain ⟨⟨old, he⟩, ⟨o, ho, hc, hd⟩, _⟩ := st
    have e' : b = e ∨ b = it := by simpa using hb
    rcases e' with z | z
    · rw [z]; exact ⟨_, he, fun v q => nomatch q⟩
    · rw [z]; exact ⟨o, ho, fun v q => by rw [hd] at q; cases q⟩
  keep := fun i h h' st k => let ⟨⟨old, he⟩, ⟨o, ho, r⟩, hne⟩ := st; ⟨⟨old, k e (by simp) _ he⟩, ⟨o, k it (by simp) o ho, r⟩, hne⟩
  item := by
    intro X hP hw hK hc i pins s σ H E I hf st hg
    subst hP hw hK
    obtain ⟨⟨old, he⟩, hit, hne⟩ := st
    have hel : e < s.heap.objs.size := Heap.lt_size he
    have hil : it < s.heap.objs.size := by obtain ⟨_, q, _⟩ := hit; exact Heap.lt_size q
    have hh1 : X.A.in1.handled = none := I.ok.hd hc
    refine wpAny_pyNext_enum_itemD (Draws.text (prog := X.prog) (w := X.w) hh1 it x t) he hit hg hne (by simpa using hne) fun v h' tk hv ho hit' hT hsz hk => ?_
    obtain ⟨c, u, hcx, rfl⟩ := hv
    refine ⟨_, rfl, wpAny_letOwnedTupleGo_enum (s := { s with heap := h', toks := tk + 1 }) ho fun h'' he' sb => ?_⟩
    have hT2 : h''.get? s.heap.objs.size = some { cls := .type "tuple", data := .seq #[.int i tk, .str ⟨#[c]⟩ u] } := (sb.2 _ (Nat.ne_of_gt hel)).trans hT
    have new : ObjOk X.prog X.w (upd H s.heap.objs.size (.tup [.int (i : Nat), .str ⟨#[c]⟩])) h'' s.heap.objs.size (.tup [.int (i : Nat), .str ⟨#[c]⟩]) :=
      ⟨by show 2 ≤ sizeLine; decide, [.int i tk, .str ⟨#[c]⟩ u], .cons ⟨_, rfl⟩ (.cons ⟨_, rfl⟩ .nil), ⟨_, hT2, rfl, _, rfl⟩⟩
    have I1 : Inv X pins σ (upd H s.heap.objs.size (.tup [.int (i : Nat), .str ⟨#[c]⟩])) { s with heap := h'', toks := tk + 1 } :=
      I.turnedNew (ch := [e, it]) (fun b ob hb q => (sb.2 b (fun z => hb (by simp [z]))).trans (hk b ob (fun z => hb (by simp [z])) (fun z => hb (by simp [z])) q)) hf (Nat.le_refl _) new
    refine ⟨.ref s.heap.objs.size, _, I1, rfl, ⟨_, c, rfl, I.hok.fresh (Nat.le_refl _), rfl, hcx⟩, ⟨⟨.str ⟨#[c]⟩ u, ?_⟩, ?_, hne⟩, fun b hb => ?_⟩
    · have e1 : ((i + 1 : Nat) : Int) = (i : Int) + 1 := by omega
      rw [e1]; exact he'
    · obtain ⟨o, ho2, r⟩ := hit'
      exact ⟨o, (sb.2 it (Ne.symm hne)).trans ho2, r⟩
    · have hb' : b < s.heap.objs.size := by
        have e' : b = e ∨ b = it := by simpa using hb
        rcases e' with z | z
        · rw [z]; exact hel
        · rw [z]; exact hil
      rw [upd_ne (Nat.ne_of_lt hb')]
      exact (hf b hb).1
  done := by
    intro X hP hw hK hc i pins s σ H E I hf st hg
    subst hP hw hK
    obtain ⟨⟨old, he⟩, hit, hne⟩ := st
    obtain ⟨f0, f1, f2, f3, f4, f5⟩ := hf it (by simp)
    have hh1 : X.A.in1.handled = none := I.ok.hd hc
    have D0 := Draws.text (prog := X.prog) (w := X.w) hh1 it x t
    have hg' : i = x.cps.size := hg
    subst hg'
    exact wpAny_pyNext_enum_endD D0 he hit fun h' eb => ⟨rfl, I.turned (t' := s.toks) (fun b o hb q => eb b o hb q) f0 f1 f3 f4 f5⟩
  self := fun A i s Q E st h => let ⟨⟨_, he⟩, _⟩ := st; wpAny_pyIter_enum he h
/-- it goes once for each sign -/
theorem walk_enumS {x : Str} : Walk (Itns x) x.cps.size (fun _ => True) (fun i H v H' => ∃ T c, v = .ref T ∧ H T = none ∧ H' = upd H T (.tup [.int (i : Nat), .str ⟨#[c]⟩]) ∧ x.cps[i]? = some c) :=
  ⟨fun _ _ hi _ => hi, fun _ _ => rfl, fun _ _ _ _ _ _ y => y⟩
def iEnumS (ta : TA) : TI := fun σ H R => ta σ H fun vs H1 => ∃ x, vs = [.str x] ∧ R (Itns x) H1
theorem pi_enumS {X : Cx} {e : Expr} {ta : TA} {p pos tpos : Pos} {elts : List Expr} {kk : Nat} (hg : Gl X "enumerate") (hm : X.mg "enumerate" = none) (ha : PA X [e] ta) (hs : starEach [e] X.env = [(false, eval e X.env)] := by rfl) :
    PI X (.Tuple elts kk tpos) (.Call (.Name "enumerate" p) [e] [] pos) (iEnumS ta) := by
  refine ⟨fun pins s σ H R I h => ?_⟩
  refine Call_ (ld_blt I hg hm boot_enumerate (PyProof.Rows.callWith_type1 (thn (ha.run pos pins s σ H _ I h) fun us s1 ⟨vs, H1, I1, r1, q1⟩ => ?_) hs rfl))
  obtain ⟨x, ex, q⟩ := q1
  subst ex
  cases r1 with
  | cons r rr =>
    cases rr
    obtain ⟨t, rfl⟩ := r
    refine call_enumerate_str fun h' he hit hsz hk => wpAny_pyIter_enum he ?_
    have I2 : Inv X pins σ H1 { s1 with heap := h' } := I1.kept (t' := s1.toks) hk
    refine ⟨s1.heap.objs.size + 1, [s1.heap.objs.size + 1, s1.heap.objs.size], _, _, H1, rfl, I2, turn_enumS x t (s1.heap.objs.size + 1) s1.heap.objs.size, ⟨⟨.none, he⟩, hit, Nat.succ_ne_self _⟩, fun b hb => ?_, q⟩
    have e' : b = s1.heap.objs.size + 1 ∨ b = s1.heap.objs.size := by simpa using hb
    have hle : s1.heap.objs.size ≤ b := by
      rcases e' with z | z
      · rw [z]; exact Nat.le_add_right _ _
      · rw [z]; exact Nat.le_refl _
    exact I1.fpOk hle (I1.hok.fresh hle)
end L2

set_option Elab.async false
set_option linter.all false
set_option maxRecDepth 100000
set_option maxHeartbeats 1000000
/-! VxMk: within a try: C(k = e, ..), what __init__ lets out told at the slots of the call. -/
namespace L2
open PySem PySem.Spec PyProof.Rows
section
variable {X : Cx} {CX : CXT} {k : Nat} {f C : Addr} {fd : FuncData} {ps ks : List Str} {sp : Sp} {x : Str} {p pos : Pos} {kws : List Keyword} {tk : TA} {E : L2.St → XK}
theorem pe_makeKSg {gv : List Value → List Value} {gV : List V → List V} (M : Mk X.K C f) (F : FnOk X.prog X.w X.K X.mg X.base CX k f fd ps sp) (hr : Room (k + 1) X.A) (hg : Gl X x) (hm : X.mg x = some (.ref C)) (hx : ∀ σ, PassesAt CX X σ (E σ))
    (hbd : ∀ (s : Shared) (a : Addr) (ws : List Value), X.K.In s.heap → ws.length = ks.length → BindsTo s fd ⟨[Value.ref a], ks.zip ws⟩ (ps.zip (Value.ref a :: gv ws))) (rel : ∀ {zs : List V} {ws : List Value}, Vals zs ws → Vals (gV zs) (gv ws)) (hkw : PK X kws tk)
    (hall : (backToKw pos (keywordEach kws X.env)).all (·.1.isSome) = true := by rfl) (hks : (backToKw pos (keywordEach kws X.env)).filterMap (·.1) = ks := by rfl) (hdb : (x == ("__debug__" : Str)) = false := by decide)
    (hpl : ((backTo pos (starEach [] X.env)).any (·.1) || (backToKw pos (keywordEach kws X.env)).any (·.1.isNone)) = false := by rfl) :
    PE X (.Call (.Name x p) [] kws pos) (fun σ H Q => tk σ H fun zs H2 => zs.length = ks.length ∧ ∀ n dx, H2 n = none → H2 dx = none → dx ≠ n → sp (.ref n :: gV zs) (upd (upd H2 dx (.own n)) n (.ins C dx [])) (fun v H3 => v = .non ∧ Q (.ref n) H3) (E σ)) := by
  refine ⟨fun pins s σ H Q I h => ?_⟩
  refine wpAny_Call_Name_kw (ld_glob I hg hm ?_ hdb)
  refine PySem.W.callWith_KW0 (h₀ := X.base) I.ok.mod.kin M.kp hall ?_ hpl
  refine thn (hkw.run pos pins s σ H _ I h) fun ws s2 ⟨zs, H2, I2, rz, l2, q2⟩ => ⟨I2.kIn, ?_⟩
  rw [hks]
  have hq := q2 (s2.heap.objs.size + 1) s2.heap.objs.size (I2.hok.fresh (Nat.le_succ _)) (I2.hok.fresh (Nat.le_refl _)) (Nat.ne_of_lt (Nat.lt_succ_self _))
  have J := Inv.made (C := C) I2
  have l3 : ws.length = ks.length := rz.length.symm.trans l2
  refine wpAny_call (make_map (vs := []) (f := f) I2.kIn M.makes M.init (beq_iff_eq.mp M.fn) (codeAny_mono (F.run _ X.stack _ _ ⟨[Value.ref (s2.heap.objs.size + 1)], ks.zip ws⟩ (Value.ref (s2.heap.objs.size + 1) :: gv ws) (V.ref (s2.heap.objs.size + 1) :: gV zs) _ (E σ) (hr.make C [] (ks.zip ws))
    (J.env0.make C [] (ks.zip ws)) (hbd _ _ ws J.kIn l3) (.cons rfl (rel rz)) hq) fun r s' hq' => ?_))
  cases r with
  | error e => exact hx σ pins _ _ e s' J hq'
  | ok fl =>
    cases fl with
    | ret u =>
      obtain ⟨v, H', I3, rv, ev, q3⟩ := J.after hq'
      subst ev
      exact ⟨rv, ⟨V.ref (s2.heap.objs.size + 1), H', I3, rfl, q3⟩⟩
    | next => exact False.elim hq'
    | brk => exact False.elim hq'
    | cont => exact False.elim hq'
end
end L2

set_option Elab.async false
set_option linter.all false
set_option maxRecDepth 100000
set_option maxHeartbeats 2000000
namespace Kg
open PySem PySem.Spec PyProof.Rows L2 StX
abbrev FnP (K : PySem.W.Frag) (x : Str) (st : Stmt) (f : Addr) (fd : FuncData) : Prop := FunD K x x (defArgs st) (defBody st) (defScope st) [] [] f fd
def isI : PyData → Bool
  | .int _ => true
  | _ => false
def fits (d : PyData) : Prop := ∀ x, d = .str x → x.length ≤ sizeLine
/-! ### small things -/
theorem yesT {σ : L2.St} {H : Hp} {A B : Hp → Prop} (h : A H) : tYes σ H fun b H3 => if b = true then A H3 else B H3 := @iteT (A H) (B H) h
theorem same_updN {H H' : Hp} {p : Addr} {o : HO} (s : Same H H') (n : H p = none) : Same H (upd H' p o) := fun b u e => by
  rw [upd_ne (ne_of_none e n)]
  exact s b u e
theorem none_of {H H' : Hp} {b : Addr} (s : Same H H') (n : H' b = none) : H b = none := by
  cases e : H b with
  | none => rfl
  | some o =>
    rw [s _ _ e] at n
    cases n
theorem sdall_len {K : PySem.W.Frag} {H : Hp} : ∀ {xs : List V} {ds : List PyData}, SdAll K H xs ds → xs.length = ds.length
  | _, _, .nil => rfl
  | _, _, .cons _ h => by rw [List.length_cons, List.length_cons, sdall_len h]
theorem sdall_get {K : PySem.W.Frag} {H : Hp} : ∀ {xs : List V} {ds : List PyData} {i : Nat} {x : V}, SdAll K H xs ds → xs[i]? = some x → ∃ d, ds[i]? = some d ∧ Sd K H x d
  | _, _, 0, _, .cons h _, e => by
    cases e
    exact ⟨_, rfl, h⟩
  | _, _, i + 1, _, .cons _ h, e => sdall_get (i := i) h e
theorem sqT_to {K : PySem.W.Frag} {H H' : Hp} {a : Addr} {xs : List V} (s : Same H H') (h : SqT K H a xs) : SqT K H' a xs := by
  rcases h with h | h
  · rcases h with h | ⟨o, h⟩
    · exact .inl (.inl (s _ _ h))
    · exact .inl (.inr ⟨o, s _ _ h⟩)
  · exact .inr h
theorem sd_to {K : PySem.W.Frag} {H H' : Hp} {v : V} {d : PyData} (h : Sd K H v d) (s : Same H H') : Sd K H' v d := Sd.same s (fun z => sqT_to s z) h
theorem sdall_to {K : PySem.W.Frag} {H H' : Hp} {xs : List V} {ds : List PyData} (h : SdAll K H xs ds) (s : Same H H') : SdAll K H' xs ds := SdAll.same s (fun z => sqT_to s z) h
/-- the error with the object, to be raised at a heap that has grown -/
def Err (C : Addr) (fld : Str) (v : V) (H : Hp) (E : XK) : Prop := ∀ dd H', H dd = none → Same H H' → H' dd = some (.xd [(fld, v)]) → E (.ref C) (some dd) H'
theorem err_to {C : Addr} {f : Str} {v : V} {H H' : Hp} {E : XK} (s : Same H H') (h : Err C f v H E) : Err C f v H' E := fun dd H2 n s2 x => h dd H2 (none_of s n) (s.tr s2) x
def spTest (K : PySem.W.Frag) (t : PyData → Bool) : Sp := fun vs H Q _ => ∃ (v : V) (d : PyData), vs = [v] ∧ Sd K H v d ∧ Q (.bl (t d)) H
/-- a statement that is never reached -/
theorem pss_dead {X : Cx} {st : List Stmt} : PSs X st (fun _ _ _ => False) := ⟨fun _ _ _ _ _ _ h => False.elim h⟩
/-- the built-in names and the constants -/
structure Nm (mg : Str → Option Value) : Prop where
  isi : mg "isinstance" = none
  int : mg "int" = none
  bool : mg "bool" = none
  str : mg "str" = none
  tuple : mg "tuple" = none
  len : mg "len" = none
  all : mg "all" = none
  repr : mg "repr" = none
  rng : mg "range" = none
  min : mg "min" = none
  dict : mg "dict" = none
  sorted : mg "sorted" = none
  lim : ∃ t, mg "BRAND_LIMIT" = some (.int 40 t)
  lets : ∃ t, mg "LETTERS" = some (.str LET t)
  oths : ∃ t, mg "OTHER_BRAND_SIGNS" = some (.str OTH t)
  resv : ∃ t, mg "RESERVED_BRAND" = some (.str "bag" t)
  takes : ∃ t, mg "TAKES_LIMIT" = some (.int 20 t)
section
variable {P : Program} {w : World} {K : PySem.W.Frag} {mg : Str → Option Value} {base : Heap}
abbrev sIsInt : Stmt := top 8
theorem scIsInt : FnScope ["thing"] ["thing"] (defScope sIsInt) := ⟨rfl, rfl, rfl, by decide +kernel, rfl, by decide +kernel, by decide +kernel⟩
theorem ok_isInt {f : Addr} {fd : FuncData} (F : FnP K "is_integer" sIsInt f fd) (N : Nm mg) : FnOk P w K mg base CX0 1 f fd ["thing"] (spTest K isI) := by
  refine F.ok scIsInt (fun vs H Q E h => ?_) (fun cdv A outer s H vs Q E hr h => ?_)
  · obtain ⟨v, d, rfl, _⟩ := h
    rfl
  · refine ⟨_, PSs.nox (pss_one (ps_ret (pe_and (pe_callB call_isD (by rfl) N.isi (by decide +kernel) (pa_cons (pv 0) (pa_cons (pe_bltn (v := .ty "int") (by rfl) N.int (by decide +kernel) rfl) pa_nil)))
      (pe_one (pe_not (pe_callB call_isD (by rfl) N.isi (by decide +kernel) (pa_cons (pv 0) (pa_cons (pe_bltn (v := .ty "bool") (by rfl) N.bool (by decide +kernel) rfl) pa_nil)))))))), ?_⟩
    obtain ⟨v, d, rfl, hv, k⟩ := h
    refine ⟨_, rfl, v, d, "int", rfl, rfl, hv, _, rfl, ?_⟩
    cases d with
    | int i => exact ⟨_, rfl, v, _, "bool", rfl, rfl, hv, _, rfl, k⟩
    | bool b => exact ⟨_, rfl, v, _, "bool", rfl, rfl, hv, _, rfl, k⟩
    | none => exact k
    | str _ => exact k
    | list _ => exact k
    | tuple _ => exact k
    | dict _ => exact k
def signB (c : Nat) : Bool := decide (c ∈ LET.cps.toList) || decide (c ∈ OTH.cps.toList)
def brandB : PyData → Bool
  | .str x => (decide (1 ≤ x.length) && decide (x.length ≤ 40)) && ((match x.cps.toList with
    | [] => false
    | c :: _ => decide (c ∈ LET.cps.toList)) && x.cps.toList.all signB)
  | _ => false
def freeB (d : PyData) : Bool := brandB d && !(match d with
  | .str x => decide (x = "bag")
  | _ => false)
def spBrand (K : PySem.W.Frag) (b : PyData → Bool) : Sp := fun vs H Q _ => ∃ (v : V) (d : PyData), vs = [v] ∧ Sd K H v d ∧ fits d ∧ ∀ H', Same H H' → Q (.bl (b d)) H'
abbrev sBrand : Stmt := top 12
abbrev sFree : Stmt := top 13
theorem scBrand : FnScope ["thing", "sign"] ["thing"] (defScope sBrand) := ⟨rfl, rfl, rfl, by decide +kernel, rfl, by decide +kernel, by decide +kernel⟩
theorem scFree : FnScope ["thing"] ["thing"] (defScope sFree) := ⟨rfl, rfl, rfl, by decide +kernel, rfl, by decide +kernel, by decide +kernel⟩
theorem ok_brand {f : Addr} {fd : FuncData} (F : FnP K "is_brand" sBrand f fd) (N : Nm mg) : FnOk P w K mg base CX0 1 f fd ["thing"] (spBrand K brandB) := by
  obtain ⟨t1, g1⟩ := N.lim
  obtain ⟨t2, g2⟩ := N.lets
  obtain ⟨t3, g3⟩ := N.oths
  refine F.ok scBrand (fun vs H Q E h => ?_) (fun cdv A outer s H vs Q E hr h => ?_)
  · obtain ⟨v, d, rfl, _⟩ := h
    rfl
  · refine ⟨_, PSs.nox (pss_cons (ps_if (PW.pt (pw_or (pt_not (pt_val (pe_callB call_isD (by rfl) N.isi (by decide +kernel) (pa_cons (pv 0) (pa_cons (pe_bltn (v := .ty "str") (by rfl) N.str (by decide +kernel) rfl) pa_nil)))))
        (pw_or1 (pt_not (pt_chain op_le op_le pe_int (pe_callB call_len (by rfl) N.len PySem.boot_len (pa_cons (pv 0) pa_nil)) (pe_glob (v := .int 40) (by rfl) g1 ⟨_, rfl⟩)))))) (pss_one (ps_ret pe_bl)) pss_nil)
      (pss_one (ps_ret (pe_and (pe_cmpR op_in_sign (pe_ix ix_str (pv 0) pe_int (fun _ _ => rfl)) (pe_glob (v := .str LET) (by rfl) g2 ⟨_, rfl⟩) rfl)
        (pe_one (pe_callB (cr_all rfl) (by rfl) N.all (by decide +kernel) (pa_cons (pe_lc (own := [("sign", 1)]) (g := gName 1) (tt := tYes) rfl scBrand.nd (pi_str (pv 0)) (blkOk_by (own := [("sign", 1)]) (N := ["thing", "sign"]) (sc := defScope sBrand) (by decide +kernel))
          (fun _ _ _ _ _ => pg_name (i := 1) scBrand.nd rfl (Or.inl rfl)) (fun _ _ _ _ _ => pts_nil)
          (fun _ _ _ _ _ => pe_or (pe_cmpR op_in_sign (pv 1) (pe_glob (v := .str LET) (by rfl) g2 ⟨_, rfl⟩) rfl) (pe_one (pe_cmpR op_in_sign (pv 1) (pe_glob (v := .str OTH) (by rfl) g3 ⟨_, rfl⟩) rfl)))) pa_nil))))))), ?_⟩
    obtain ⟨v, d, rfl, hv, hf, k⟩ := h
    refine ⟨_, rfl, v, d, "str", rfl, rfl, hv, _, rfl, ?_⟩
    cases d with
    | none => exact iteT (iteT (k _ Same.refl'))
    | bool b => exact iteT (iteT (k _ Same.refl'))
    | int b => exact iteT (iteT (k _ Same.refl'))
    | tuple b => exact iteT (iteT (k _ Same.refl'))
    | list b => exact iteT (iteT (k _ Same.refl'))
    | dict b => exact iteT (iteT (k _ Same.refl'))
    | str x =>
      cases hv
      refine iteF ⟨_, rfl, _, x.length, rfl, ⟨hf x rfl, rfl⟩, _, _, rfl, rfl, _, rfl, ?_⟩
      have no : ∀ {b : Bool}, (decide (1 ≤ x.length) && decide (x.length ≤ 40)) = false → brandB (.str x) = b → b = false := fun {b} e e2 => by
        rw [← e2]
        show ((decide (1 ≤ x.length) && decide (x.length ≤ 40)) && _) = false
        rw [e]
        rfl
      by_cases c1 : (1 : Int) ≤ (x.length : Int)
      · rw [decide_eq_true c1]
        refine iteT ⟨_, _, rfl, rfl, _, rfl, ?_⟩
        by_cases c2 : (x.length : Int) ≤ 40
        · rw [decide_eq_true c2]
          refine iteF ?_
          have l1 : 1 ≤ x.length := by omega
          have l2 : x.length ≤ 40 := by omega
          obtain ⟨c, r, hx⟩ : ∃ c r, x.cps.toList = c :: r := by
            cases e : x.cps.toList with
            | nil =>
              have z : x.cps.toList.length = 0 := by rw [e]; rfl
              have z2 : x.length = x.cps.toList.length := by simp [Str.length]
              omega
            | cons c r => exact ⟨c, r, rfl⟩
          have eb : brandB (.str x) = (decide (c ∈ LET.cps.toList) && x.cps.toList.all signB) := by
            show ((decide (1 ≤ x.length) && decide (x.length ≤ 40)) && ((match x.cps.toList with
              | [] => false
              | c :: _ => decide (c ∈ LET.cps.toList)) && x.cps.toList.all signB)) = _
            rw [decide_eq_true l1, decide_eq_true l2, hx]
            rfl
          refine ⟨_, rfl, x, 0, c, rfl, rfl, hf x rfl, ?_, c, LET, rfl, rfl, _, rfl, ?_⟩
          · show atI x.cps.toList 0 = some c
            rw [hx]
            show (ixN (r.length + 1) 0).bind _ = _
            have e0 : ixN (r.length + 1) 0 = some 0 := by
              unfold ixN
              rw [if_pos (by omega), if_pos (by omega)]
              rfl
            rw [e0]
            rfl
          by_cases c3 : c ∈ LET.cps.toList
          · rw [decide_eq_true c3] at eb ⊢
            refine iteT ⟨_, rfl, x, rfl, fun D nD => lc_it walk_str (fun i H' => Same H H' ∧ H' D = some (.lst (((x.cps.toList.take i).map signB).map V.bl))) ⟨same_new nD, upd_same⟩ (fun _ _ _ _ => True.intro) ?_ ?_⟩
            · rintro i y H' H'' hi ⟨s1, hD⟩ ⟨rfl, c', hc', rfl⟩
              refine ⟨rfl, yesT ⟨_, rfl, c', LET, rfl, rfl, _, rfl, ?_⟩⟩
              have hl : x.cps.toList[i]? = some c' := by rw [← hc']; simp
              have fin : ∀ b, b = signB c' → ∃ acc, H'' D = some (.lst acc) ∧ acc.length < sizeLine ∧ (Same H (upd H'' D (.lst (acc ++ [.bl b]))) ∧ (upd H'' D (.lst (acc ++ [.bl b]))) D = some (.lst (((x.cps.toList.take (i + 1)).map signB).map V.bl))) := fun b hb => by
                refine ⟨_, hD, ?_, same_updN s1 nD, ?_⟩
                · rw [List.length_map, List.length_map, List.length_take]
                  have z2 : x.length = x.cps.toList.length := by simp [Str.length]
                  exact Nat.lt_of_le_of_lt (Nat.min_le_right _ _) (Nat.lt_of_le_of_lt (m := 40) (by omega) (by decide))
                · rw [upd_same, List.take_add_one, hl, hb, List.map_append, List.map_append]
                  rfl
              by_cases c4 : c' ∈ LET.cps.toList
              · rw [decide_eq_true c4]
                refine iteT (fin _ ?_)
                show true = (decide (c' ∈ LET.cps.toList) || decide (c' ∈ OTH.cps.toList))
                rw [decide_eq_true c4]
                rfl
              · rw [decide_eq_false c4]
                refine iteF ⟨_, rfl, c', OTH, rfl, rfl, fin _ ?_⟩
                show _ = (decide (c' ∈ LET.cps.toList) || decide (c' ∈ OTH.cps.toList))
                rw [decide_eq_false c4, Bool.false_or]
            · rintro H' ⟨s1, hD⟩
              have z2 : x.cps.size = x.cps.toList.length := by simp
              rw [z2, List.take_length] at hD
              refine ⟨D, x.cps.toList.map signB, rfl, SqL.of hD, ?_⟩
              rw [eb, Bool.true_and] at k
              have e : (x.cps.toList.map signB).all id = x.cps.toList.all signB := by
                rw [List.all_map]
                rfl
              rw [e]
              exact k _ s1
          · rw [decide_eq_false c3] at eb ⊢
            rw [eb, Bool.false_and] at k
            exact iteF (k _ Same.refl')
        · rw [decide_eq_false c2]
          refine iteT ?_
          rw [no (b := brandB (.str x)) (by rw [decide_eq_false (p := x.length ≤ 40) (by omega), Bool.and_false]) rfl] at k
          exact k _ Same.refl'
      · rw [decide_eq_false c1]
        refine iteF ⟨_, rfl, iteT ?_⟩
        rw [no (b := brandB (.str x)) (by rw [decide_eq_false (p := 1 ≤ x.length) (by omega), Bool.false_and]) rfl] at k
        exact k _ Same.refl'
theorem ok_free {f : Addr} {fd : FuncData} (F : FnP K "is_free_brand" sFree f fd) (N : Nm mg) (B : ∃ f fd, FnP K "is_brand" sBrand f fd ∧ mg "is_brand" = some (.ref f)) : FnOk P w K mg base CX0 2 f fd ["thing"] (spBrand K freeB) := by
  obtain ⟨fb, db, FB, gB⟩ := B
  have GB : FnOk P w K mg base CX0 1 fb db ["thing"] (spBrand K brandB) := ok_brand FB N
  have bB : Binds K db ["thing"] [] := FB.bindsN fun _ _ _ _ _ _ us hl => match us, hl with | [_], _ => rfl
  obtain ⟨t1, g1⟩ := N.resv
  refine F.ok scFree (fun vs H Q E h => ?_) (fun cdv A outer s H vs Q E hr h => ?_)
  · obtain ⟨v, d, rfl, _⟩ := h
    rfl
  · refine ⟨_, PSs.nox (pss_one (ps_ret (pe_and (pe_call GB hr (by rfl) gB FB.kp bB .nil pass0 (pa_cons (pv 0) pa_nil)) (pe_one (pe_cmpR op_ne (pv 0) (pe_glob (v := .str "bag") (by rfl) g1 ⟨_, rfl⟩) (nomark _)))))), ?_⟩
    obtain ⟨v, d, rfl, hv, hf, k⟩ := h
    refine ⟨_, rfl, v, d, rfl, hv, hf, fun H1 s1 => ⟨_, rfl, ?_⟩⟩
    have k := k _ s1
    cases e : brandB d with
    | false =>
      have e2 : freeB d = false := by
        unfold freeB
        rw [e, Bool.false_and]
      rw [e2] at k
      exact iteF k
    | true =>
      cases d with
      | str x =>
        cases hv
        refine iteT ⟨_, rfl, rfl, ?_⟩
        have e2 : freeB (.str x) = !decide (x = "bag") := by
          unfold freeB
          rw [e, Bool.true_and]
        rw [e2] at k
        have e3 : decide (V.str x = V.str "bag") = decide (x = ("bag" : Str)) := by
          rw [Bool.eq_iff_iff, decide_eq_true_iff, decide_eq_true_iff]
          exact ⟨fun z => by cases z; rfl, fun z => by rw [z]⟩
        show Q (.bl (!decide (V.str x = V.str "bag"))) H1
        rw [e3]
        exact k
      | none => cases e
      | bool _ => cases e
      | int _ => cases e
      | list _ => cases e
      | tuple _ => cases e
      | dict _ => cases e
end
end Kg

set_option Elab.async false
set_option linter.all false
set_option maxRecDepth 100000
set_option maxHeartbeats 4000000
namespace Kg
open PySem PySem.Spec PyProof.Rows L2 StX ClX
abbrev FnM (K : PySem.W.Frag) (x qual : Str) (st : Stmt) (dvs : List V) (f : Addr) (fd : FuncData) : Prop := FunD K x qual (defArgs st) (defBody st) (defScope st) dvs [] f fd
abbrev CR (K : PySem.W.Frag) : Addr := gC K "Registry"
abbrev CA (K : PySem.W.Frag) : Addr := gC K "AllowedBrand"
abbrev CEn (K : PySem.W.Frag) : Addr := gC K "EnteredBrand"
/-- a Registry and what it knows -/
def RegAt (K : PySem.W.Frag) (H : Hp) (a q : Addr) (kvs : List (Key × V)) : Prop := ∃ dx, H a = some (.ins (CR K) dx [("_known", .ref q)]) ∧ H q = some (.dK kvs)
theorem RegAt.to {K : PySem.W.Frag} {H H' : Hp} {a q : Addr} {kvs : List (Key × V)} (h : RegAt K H a q kvs) (s : Same H H') : RegAt K H' a q kvs := by
  obtain ⟨dx, h1, h2⟩ := h
  exact ⟨dx, s _ _ h1, s _ _ h2⟩
/-- is it known there? -/
def hasB (kvs : List (Key × V)) : PyData → Bool
  | .str x => (valV kvs (.inr x)).isSome
  | _ => false
theorem scRgC : FnScope ["self", "brand"] ["self", "brand"] (defScope sRgC) := ⟨rfl, rfl, rfl, by decide +kernel, rfl, by decide +kernel, by decide +kernel⟩
theorem scRgL : FnScope ["self"] ["self"] (defScope sRgL) := ⟨rfl, rfl, rfl, by decide +kernel, rfl, by decide +kernel, by decide +kernel⟩
theorem scRgN : FnScope ["self", "brand"] ["self", "brand"] (defScope sRgN) := ⟨rfl, rfl, rfl, by decide +kernel, rfl, by decide +kernel, by decide +kernel⟩
theorem scRgK : FnScope ["self", "brand"] ["self", "brand"] (defScope sRgK) := ⟨rfl, rfl, rfl, by decide +kernel, rfl, by decide +kernel, by decide +kernel⟩
theorem scRgG : FnScope ["self", "brand"] ["self", "brand"] (defScope sRgG) := ⟨rfl, rfl, rfl, by decide +kernel, rfl, by decide +kernel, by decide +kernel⟩
theorem scRgT : FnScope ["self", "brand"] ["self", "brand"] (defScope sRgT) := ⟨rfl, rfl, rfl, by decide +kernel, rfl, by decide +kernel, by decide +kernel⟩
theorem scRgF : FnScope ["self", "brand"] ["self", "brand"] (defScope sRgF) := ⟨rfl, rfl, rfl, by decide +kernel, rfl, by decide +kernel, by decide +kernel⟩
theorem scRgB : FnScope ["self"] ["self"] (defScope sRgB) := ⟨rfl, rfl, rfl, by decide +kernel, rfl, by decide +kernel, by decide +kernel⟩
structure Es (P : Program) (w : World) (K : PySem.W.Frag) (mg : Str → Option Value) (base : Heap) : Prop where
  brand : XK1 P w K mg base "InvalidBrand" "given" (gC K "InvalidBrand")
  taken : XK1 P w K mg base "BrandTaken" "given" (gC K "BrandTaken")
  takes : XK1 P w K mg base "InvalidTakes" "value" (gC K "InvalidTakes")
  unk : XK1 P w K mg base "UnknownBrand" "given" (gC K "UnknownBrand")
structure Ts (K : PySem.W.Frag) (mg : Str → Option Value) : Prop where
  isI : ∃ f fd, FnP K "is_integer" sIsInt f fd ∧ mg "is_integer" = some (.ref f)
  brand : ∃ f fd, FnP K "is_brand" sBrand f fd ∧ mg "is_brand" = some (.ref f)
  free : ∃ f fd, FnP K "is_free_brand" sFree f fd ∧ mg "is_free_brand" = some (.ref f)
/-- the class, its private methods and those by which an operator calls it -/
structure RgC (K : PySem.W.Frag) : Prop where
  cls : Cls K (CR K)
  no : NoAttr K (CR K) "_known"
  con : ∃ f fd, PySem.W.findIn K (.ref (CR K)) "__contains__" = some (some (.ref f)) ∧ PySem.W.isFn K (.ref f) = true ∧ FnM K "__contains__" "Registry.__contains__" sRgC [] f fd
  new_ : ∃ f fd, Meth K (CR K) "_require_new" f ∧ FnM K "_require_new" "Registry._require_new" sRgN [] f fd
  known : ∃ f fd, Meth K (CR K) "_require_known" f ∧ FnM K "_require_known" "Registry._require_known" sRgK [] f fd
  ent : ∃ f fd, Meth K (CR K) "entry_of" f ∧ FnM K "entry_of" "Registry.entry_of" sRgG [] f fd
def spCon (K : PySem.W.Frag) : Sp := fun vs H Q _ => ∃ (a q : Addr) (kvs : List (Key × V)) (v : V) (d : PyData), vs = [.ref a, v] ∧ RegAt K H a q kvs ∧ Sd K H v d ∧ Q (.bl (hasB kvs d)) H
def spLen (K : PySem.W.Frag) : Sp := fun vs H Q _ => ∃ (a q : Addr) (kvs : List (Key × V)), vs = [.ref a] ∧ RegAt K H a q kvs ∧ Q (.int kvs.length) H
def spNew (K : PySem.W.Frag) : Sp := fun vs H Q E => ∃ (a q : Addr) (kvs : List (Key × V)) (v : V) (d : PyData), vs = [.ref a, v] ∧ RegAt K H a q kvs ∧ Sd K H v d ∧ fits d ∧
  (freeB d = true → (hasB kvs d = false → ∀ H', Same H H' → Q .non H') ∧ (hasB kvs d = true → Err (gC K "BrandTaken") "given" v H E)) ∧ (freeB d = false → Err (gC K "InvalidBrand") "given" v H E)
def spKnown (K : PySem.W.Frag) : Sp := fun vs H Q E => ∃ (a q : Addr) (kvs : List (Key × V)) (v : V) (d : PyData), vs = [.ref a, v] ∧ RegAt K H a q kvs ∧ Sd K H v d ∧
  (hasB kvs d = true → Q .non H) ∧ (hasB kvs d = false → Err (gC K "UnknownBrand") "given" v H E)
def spEnt (K : PySem.W.Frag) : Sp := fun vs H Q E => ∃ (a q : Addr) (kvs : List (Key × V)) (x : Str), vs = [.ref a, .str x] ∧ RegAt K H a q kvs ∧
  (∀ e, valV kvs (.inr x) = some e → Q e H) ∧ (valV kvs (.inr x) = none → Err (gC K "UnknownBrand") "given" (.str x) H E)
section
variable {P : Program} {w : World} {K : PySem.W.Frag} {mg : Str → Option Value} {base : Heap}
theorem ok_con {f : Addr} {fd : FuncData} (B : RgC K) (F : FnM K "__contains__" "Registry.__contains__" sRgC [] f fd) (N : Nm mg) : FnOk P w K mg base CX0 2 f fd ["self", "brand"] (spCon K) := by
  refine F.ok scRgC (fun vs H Q E h => ?_) (fun cdv A outer s H vs Q E hr h => ?_)
  · obtain ⟨a, q, kvs, v, d, rfl, _⟩ := h
    rfl
  · have hu := hu_of hr
    refine ⟨_, PSs.nox (pss_one (ps_ret (pe_and (pe_callB call_isD (by rfl) N.isi (by decide +kernel) (pa_cons (pv 1) (pa_cons (pe_bltn (v := .ty "str") (by rfl) N.str (by decide +kernel) rfl) pa_nil)))
      (pe_one (pe_cmp (pc_din hu (pv 1) (pe_fld (pv 0) (by rfl))) (by with_unfolding_all rfl)))))), ?_⟩
    obtain ⟨a, q, kvs, v, d, rfl, ⟨dx, ha, hq⟩, hv, k⟩ := h
    refine ⟨_, rfl, v, d, "str", rfl, rfl, hv, _, rfl, ?_⟩
    cases d with
    | str x =>
      cases hv
      exact iteT ⟨_, rfl, _, rfl, a, _, dx, _, .ref q, rfl, ha, B.cls, B.no, rfl, q, _, rfl, DGet.k (k := .inr x) hq, k⟩
    | none => exact iteF k
    | bool _ => exact iteF k
    | int _ => exact iteF k
    | list _ => exact iteF k
    | tuple _ => exact iteF k
    | dict _ => exact iteF k
theorem ok_len {f : Addr} {fd : FuncData} (B : RgC K) (F : FnM K "__len__" "Registry.__len__" sRgL [] f fd) (N : Nm mg) : FnOk P w K mg base CX0 1 f fd ["self"] (spLen K) := by
  refine F.ok scRgL (fun vs H Q E h => ?_) (fun cdv A outer s H vs Q E hr h => ?_)
  · obtain ⟨a, q, kvs, rfl, _⟩ := h
    rfl
  · refine ⟨_, PSs.nox (pss_one (ps_ret (pe_callB call_lenD (by rfl) N.len PySem.boot_len (pa_cons (pe_fld (pv 0) (by rfl)) pa_nil)))), ?_⟩
    obtain ⟨a, q, kvs, rfl, ⟨dx, ha, hq⟩, k⟩ := h
    exact ⟨_, rfl, a, _, dx, _, .ref q, rfl, ha, B.cls, B.no, rfl, q, kvs, rfl, hq, k⟩
theorem ok_new {f : Addr} {fd : FuncData} (B : RgC K) (F : FnM K "_require_new" "Registry._require_new" sRgN [] f fd) (N : Nm mg) (S : Es P w K mg base) (T : Ts K mg) : FnOk P w K mg base (L2.CX P w) 3 f fd ["self", "brand"] (spNew K) := by
  obtain ⟨fb, db, FB, gB⟩ := T.free
  have GB : FnOk P w K mg base CX0 2 fb db ["thing"] (spBrand K freeB) := ok_free FB N T.brand
  have bB : Binds K db ["thing"] [] := FB.bindsN fun _ _ _ _ _ _ us hl => match us, hl with | [_], _ => rfl
  refine F.ok scRgN (fun vs H Q E h => ?_) (fun cdv A outer s H vs Q E hr h => ?_)
  · obtain ⟨a, q, kvs, v, d, rfl, _⟩ := h
    rfl
  · have hu := hu_of hr
    refine ⟨_, pss_cons (ps_if (pt_not (pt_val (pe_call GB hr (by rfl) gB FB.kp bB .nil pass0 (pa_cons (pv 1) pa_nil)))) (pss_one (ps_x1 rfl (takes_of rfl rfl rfl rfl) S.brand hr (by rfl) (pv 1))) pss_nil)
      (pss_one (ps_if (pt_cmp (pc_din hu (pv 1) (pe_fld (pv 0) (by rfl))) (by with_unfolding_all rfl)) (pss_one (ps_x1 rfl (takes_of rfl rfl rfl rfl) S.taken hr (by rfl) (pv 1))) pss_nil)), ?_⟩
    obtain ⟨a, q, kvs, v, d, rfl, ⟨dx, ha, hq⟩, hv, hf, k1, k2⟩ := h
    refine ⟨_, rfl, v, d, rfl, hv, hf, fun H1 s1 => ⟨_, rfl, ?_⟩⟩
    cases e : freeB d with
    | true =>
      obtain ⟨k3, k4⟩ := k1 e
      obtain ⟨x, rfl⟩ : ∃ x, d = .str x := by
        cases d with
        | str x => exact ⟨x, rfl⟩
        | none => cases e
        | bool _ => cases e
        | int _ => cases e
        | list _ => cases e
        | tuple _ => cases e
        | dict _ => cases e
      cases hv
      refine iteF ⟨_, rfl, _, rfl, a, _, dx, _, .ref q, rfl, s1 _ _ ha, B.cls, B.no, rfl, q, _, rfl, DGet.k (k := .inr x) (s1 _ _ hq), _, rfl, ?_⟩
      cases e2 : (valV kvs (.inr x)).isSome with
      | true => exact iteT ⟨_, rfl, .str x, rfl, fun dd H' n s y => k4 e2 dd H' (none_of s1 n) (s1.tr s) y⟩
      | false => exact iteF (k3 e2 _ s1)
    | false => exact iteT ⟨_, rfl, v, rfl, fun dd H' n s x => k2 e dd H' (none_of s1 n) (s1.tr s) x⟩
end
end Kg

set_option Elab.async false
set_option linter.all false
set_option maxRecDepth 100000
set_option maxHeartbeats 4000000
namespace Kg
open PySem PySem.Spec PyProof.Rows L2 StX ClX
/-- an entry with what it takes -/
def EntAt (K : PySem.W.Frag) (H : Hp) (e u : V) : Prop := ∃ (a C dx : Addr) (fs : List (Str × V)), e = .ref a ∧ H a = some (.ins C dx fs) ∧ Cls K C ∧ NoAttr K C "takes" ∧ fs.lookup ("takes" : Str) = some u
theorem EntAt.to {K : PySem.W.Frag} {H H' : Hp} {e u : V} (h : EntAt K H e u) (s : Same H H') : EntAt K H' e u := by
  obtain ⟨a, C, dx, fs, e1, h1, h2⟩ := h
  exact ⟨a, C, dx, fs, e1, s _ _ h1, h2⟩
def spTakes (K : PySem.W.Frag) : Sp := fun vs H Q E => ∃ (a q : Addr) (kvs : List (Key × V)) (x : Str), vs = [.ref a, .str x] ∧ RegAt K H a q kvs ∧
  (∀ e, valV kvs (.inr x) = some e → ∃ u, EntAt K H e u ∧ Q u H) ∧ (valV kvs (.inr x) = none → Err (gC K "UnknownBrand") "given" (.str x) H E)
def spForget (K : PySem.W.Frag) : Sp := fun vs H Q E => ∃ (a q : Addr) (kvs : List (Key × V)) (x : Str), vs = [.ref a, .str x] ∧ RegAt K H a q kvs ∧
  ((valV kvs (.inr x)).isSome = true → Q .non (upd H q (.dK (dropK kvs (.inr x))))) ∧ (valV kvs (.inr x) = none → Err (gC K "UnknownBrand") "given" (.str x) H E)
def spBrands (K : PySem.W.Frag) : Sp := fun vs H Q _ => ∃ (a q : Addr) (kvs : List (Key × V)) (ks : List Str), vs = [.ref a] ∧ RegAt K H a q kvs ∧ kvs.map (·.1) = ks.map Sum.inr ∧ ks.length < 64 ∧
  ∀ ys p H', ys.Perm ks → sortedS ys = true → Same H H' → H' p = some (.tup (ys.map V.str)) → Q (.ref p) H'
section
variable {P : Program} {w : World} {K : PySem.W.Frag} {mg : Str → Option Value} {base : Heap}
theorem ok_known {f : Addr} {fd : FuncData} (B : RgC K) (F : FnM K "_require_known" "Registry._require_known" sRgK [] f fd) (N : Nm mg) (S : Es P w K mg base) : FnOk P w K mg base (L2.CX P w) 3 f fd ["self", "brand"] (spKnown K) := by
  obtain ⟨fc, dc, c1, c2, FC⟩ := B.con
  have GC : FnOk P w K mg base CX0 2 fc dc ["self", "brand"] (spCon K) := ok_con B FC N
  have bC : Binds K dc ["self", "brand"] [] := FC.bindsN fun _ _ _ _ _ _ us hl => match us, hl with | [_, _], _ => rfl
  refine F.ok scRgK (fun vs H Q E h => ?_) (fun cdv A outer s H vs Q E hr h => ?_)
  · obtain ⟨a, q, kvs, v, d, rfl, _⟩ := h
    rfl
  · refine ⟨_, pss_one (ps_if (pt_cmpR (op_notInO (C := CR K) (E := E0) GC hr bC pass0 c1 c2) (pv 1) (pv 0) (by with_unfolding_all rfl)) (pss_one (ps_x1 rfl (takes_of rfl rfl rfl rfl) S.unk hr (by rfl) (pv 1))) pss_nil), ?_⟩
    obtain ⟨a, q, kvs, v, d, rfl, ⟨dx, ha, hq⟩, hv, k1, k2⟩ := h
    refine ⟨_, rfl, _, rfl, a, dx, _, rfl, ha, a, q, kvs, v, d, rfl, ⟨dx, ha, hq⟩, hv, hasB kvs d, rfl, _, rfl, ?_⟩
    cases e : hasB kvs d with
    | true => exact iteF (k1 e)
    | false => exact iteT ⟨_, rfl, v, rfl, fun dd H' n s x => k2 e dd H' n s x⟩
theorem ok_ent {f : Addr} {fd : FuncData} (B : RgC K) (F : FnM K "entry_of" "Registry.entry_of" sRgG [] f fd) (N : Nm mg) (S : Es P w K mg base) : FnOk P w K mg base (L2.CX P w) 4 f fd ["self", "brand"] (spEnt K) := by
  obtain ⟨fk, dk, MK, FK⟩ := B.known
  have GK : FnOk P w K mg base (L2.CX P w) 3 fk dk ["self", "brand"] (spKnown K) := ok_known B FK N S
  have bK : Binds K dk ["self", "brand"] [] := FK.bindsN fun _ _ _ _ _ _ us hl => match us, hl with | [_, _], _ => rfl
  refine F.ok scRgG (fun vs H Q E h => ?_) (fun cdv A outer s H vs Q E hr h => ?_)
  · obtain ⟨a, q, kvs, x, rfl, _⟩ := h
    rfl
  · have hu := hu_of hr
    refine ⟨_, pss_cons (ps_expr (pe_methSg (pv 0) B.cls MK GK hr bK (fun σ => passAt (takes_of rfl rfl rfl rfl) σ) (pa_cons (pv 1) pa_nil)))
      (pss_one (ps_ret (pe_dget hu (pe_fld (pv 0) (by rfl)) (pv 1) (fun _ _ => rfl)))), ?_⟩
    obtain ⟨a, q, kvs, x, rfl, ⟨dx, ha, hq⟩, k1, k2⟩ := h
    refine ⟨_, rfl, a, dx, _, rfl, ha, rfl, _, rfl, a, q, kvs, .str x, .str x, rfl, ⟨dx, ha, hq⟩, .str x, fun e => ?_, fun e => ?_⟩
    · cases z : valV kvs (.inr x) with
      | none =>
        have e' : (valV kvs (.inr x)).isSome = true := e
        rw [z] at e'
        cases e'
      | some u =>
        refine ⟨_, rfl, a, _, dx, _, .ref q, rfl, ha, B.cls, B.no, rfl, _, rfl, q, u, rfl, ?_, k1 u z⟩
        have g := DGet.k (k := .inr x) hq
        rw [z] at g
        exact g
    · cases z : valV kvs (.inr x) with
      | none => exact k2 z
      | some u =>
        have e' : (valV kvs (.inr x)).isSome = false := e
        rw [z] at e'
        cases e'
theorem ok_takes {f : Addr} {fd : FuncData} (B : RgC K) (F : FnM K "takes_of" "Registry.takes_of" sRgT [] f fd) (N : Nm mg) (S : Es P w K mg base) : FnOk P w K mg base (L2.CX P w) 5 f fd ["self", "brand"] (spTakes K) := by
  obtain ⟨fk, dk, MK, FK⟩ := B.ent
  have GK : FnOk P w K mg base (L2.CX P w) 4 fk dk ["self", "brand"] (spEnt K) := ok_ent B FK N S
  have bK : Binds K dk ["self", "brand"] [] := FK.bindsN fun _ _ _ _ _ _ us hl => match us, hl with | [_, _], _ => rfl
  refine F.ok scRgT (fun vs H Q E h => ?_) (fun cdv A outer s H vs Q E hr h => ?_)
  · obtain ⟨a, q, kvs, x, rfl, _⟩ := h
    rfl
  · refine ⟨_, pss_one (ps_ret (pe_fld (pe_methSg (pv 0) B.cls MK GK hr bK (fun σ => passAt (takes_of rfl rfl rfl rfl) σ) (pa_cons (pv 1) pa_nil)) (by rfl))), ?_⟩
    obtain ⟨a, q, kvs, x, rfl, ⟨dx, ha, hq⟩, k1, k2⟩ := h
    refine ⟨_, rfl, a, dx, _, rfl, ha, rfl, _, rfl, a, q, kvs, x, rfl, ⟨dx, ha, hq⟩, fun e he => ?_, fun e => k2 e⟩
    obtain ⟨u, ⟨ea, C, ex, fs, rfl, h1, h2, h3, h4⟩, h5⟩ := k1 e he
    exact ⟨ea, C, ex, fs, u, rfl, h1, h2, h3, h4, h5⟩
theorem ok_forget {f : Addr} {fd : FuncData} (B : RgC K) (F : FnM K "forget" "Registry.forget" sRgF [] f fd) (N : Nm mg) (S : Es P w K mg base) : FnOk P w K mg base (L2.CX P w) 4 f fd ["self", "brand"] (spForget K) := by
  obtain ⟨fk, dk, MK, FK⟩ := B.known
  have GK : FnOk P w K mg base (L2.CX P w) 3 fk dk ["self", "brand"] (spKnown K) := ok_known B FK N S
  have bK : Binds K dk ["self", "brand"] [] := FK.bindsN fun _ _ _ _ _ _ us hl => match us, hl with | [_, _], _ => rfl
  refine F.ok scRgF (fun vs H Q E h => ?_) (fun cdv A outer s H vs Q E hr h => ?_)
  · obtain ⟨a, q, kvs, x, rfl, _⟩ := h
    rfl
  · refine ⟨_, pss_cons (ps_expr (pe_methSg (pv 0) B.cls MK GK hr bK (fun σ => passAt (takes_of rfl rfl rfl rfl) σ) (pa_cons (pv 1) pa_nil)))
      (pss_one (ps_ddel (pe_fld (pv 0) (by rfl)) (pv 1))), ?_⟩
    obtain ⟨a, q, kvs, x, rfl, ⟨dx, ha, hq⟩, k1, k2⟩ := h
    refine ⟨_, rfl, a, dx, _, rfl, ha, rfl, _, rfl, a, q, kvs, .str x, .str x, rfl, ⟨dx, ha, hq⟩, .str x, fun e => ?_, fun e => k2 ?_⟩
    · exact ⟨_, rfl, a, _, dx, _, .ref q, rfl, ha, B.cls, B.no, rfl, _, rfl, q, kvs, .inr x, rfl, hq, rfl, e, k1 e⟩
    · cases z : valV kvs (.inr x) with
      | none => rfl
      | some u =>
        have e' : (valV kvs (.inr x)).isSome = false := e
        rw [z] at e'
        cases e'
theorem ok_brands {f : Addr} {fd : FuncData} (B : RgC K) (F : FnM K "brands" "Registry.brands" sRgB [] f fd) (N : Nm mg) : FnOk P w K mg base CX0 1 f fd ["self"] (spBrands K) := by
  refine F.ok scRgB (fun vs H Q E h => ?_) (fun cdv A outer s H vs Q E hr h => ?_)
  · obtain ⟨a, q, kvs, ks, rfl, _⟩ := h
    rfl
  · refine ⟨_, PSs.nox (pss_one (ps_ret (pe_callTy call_tuple_of (by rfl) N.tuple (by decide +kernel) (pa_cons (pe_callB (call_sortedD rfl) (by rfl) N.sorted (by decide +kernel) (pa_cons (pe_fld (pv 0) (by rfl)) pa_nil)) pa_nil)))), ?_⟩
    obtain ⟨a, q, kvs, ks, rfl, ⟨dx, ha, hq⟩, hk, hl, k⟩ := h
    refine ⟨_, rfl, a, _, dx, _, .ref q, rfl, ha, B.cls, B.no, rfl, q, kvs, ks, rfl, .inl hq, hk, hl, fun ys p hp hs np => ?_⟩
    refine ⟨p, _, rfl, .inl ⟨SqL.of upd_same, fun l nl => ?_⟩⟩
    exact k ys l _ hp hs ((same_new np).tr (same_new nl)) upd_same
end
end Kg

set_option Elab.async false
set_option linter.all false
set_option maxRecDepth 100000
set_option maxHeartbeats 4000000
namespace Kg
open PySem PySem.Spec PyProof.Rows L2 StX ClX
abbrev NE : List Str := ["self", "brand", "make", "reduce", "takes", "build"]
theorem scAI : FnScope ["self", "brand"] ["self", "brand"] (defScope sAI) := ⟨rfl, rfl, rfl, by decide +kernel, rfl, by decide +kernel, by decide +kernel⟩
theorem scEI : FnScope NE NE (defScope sEI) := ⟨rfl, rfl, rfl, by decide +kernel, rfl, by decide +kernel, by decide +kernel⟩
theorem scRgA : FnScope ["self", "brand"] ["self", "brand"] (defScope sRgA) := ⟨rfl, rfl, rfl, by decide +kernel, rfl, by decide +kernel, by decide +kernel⟩
theorem scRgE : FnScope NE NE (defScope sRgE) := ⟨rfl, rfl, rfl, by decide +kernel, rfl, by decide +kernel, by decide +kernel⟩
abbrev AF (v : V) : List (Str × V) := [("takes", .int 0), ("_brand", v)]
abbrev EF (v m r t b : V) : List (Str × V) := [("takes", t), ("_brand", v), ("_make_hook", m), ("_reduce_hook", r), ("_build_hook", b)]
/-- all but q stays -/
abbrev KpQ (q : Addr) (H H' : Hp) : Prop := L2.Keep q H H'
def spAI (K : PySem.W.Frag) : Sp := fun vs H Q _ => ∃ (a dx : Addr) (v : V) (H0 : Hp), vs = [.ref a, v] ∧ H a = some (.ins (CA K) dx []) ∧ H0 a = none ∧ Same H0 H ∧ ∀ H', Same H0 H' → H' a = some (.ins (CA K) dx (AF v)) → Q .non H'
def spEI (K : PySem.W.Frag) : Sp := fun vs H Q _ => ∃ (a dx : Addr) (v m r t b : V) (H0 : Hp), vs = [.ref a, v, m, r, t, b] ∧ H a = some (.ins (CEn K) dx []) ∧ H0 a = none ∧ Same H0 H ∧ ∀ H', Same H0 H' → H' a = some (.ins (CEn K) dx (EF v m r t b)) → Q .non H'
def tkB : PyData → Bool
  | .int i => decide (0 ≤ i) && decide (i ≤ 20)
  | _ => false
def spAllow (K : PySem.W.Frag) : Sp := fun vs H Q E => ∃ (a q : Addr) (kvs : List (Key × V)) (v : V) (d : PyData), vs = [.ref a, v] ∧ RegAt K H a q kvs ∧ kvs.length ≤ 100 ∧ Sd K H v d ∧ fits d ∧
  (freeB d = true → (hasB kvs d = false → ∀ x e H', v = .str x → KpQ q H H' → H' q = some (.dK (putK kvs (.inr x) e)) → EntAt K H' e (.int 0) → Q .non H') ∧ (hasB kvs d = true → Err (gC K "BrandTaken") "given" v H E)) ∧ (freeB d = false → Err (gC K "InvalidBrand") "given" v H E)
def spEnter (K : PySem.W.Frag) : Sp := fun vs H Q E => ∃ (a q : Addr) (kvs : List (Key × V)) (v m r t b : V) (d dt : PyData), vs = [.ref a, v, m, r, t, b] ∧ RegAt K H a q kvs ∧ kvs.length ≤ 100 ∧ Sd K H v d ∧ fits d ∧ Sd K H t dt ∧
  (freeB d = true → (hasB kvs d = false → (tkB dt = true → ∀ x e H', v = .str x → KpQ q H H' → H' q = some (.dK (putK kvs (.inr x) e)) → EntAt K H' e t → Q .non H') ∧ (tkB dt = false → Err (gC K "InvalidTakes") "value" t H E)) ∧ (hasB kvs d = true → Err (gC K "BrandTaken") "given" v H E)) ∧ (freeB d = false → Err (gC K "InvalidBrand") "given" v H E)
/-- the classes of the entries -/
structure EnC (K : PySem.W.Frag) (mg : Str → Option Value) : Prop where
  ca : Cls K (CA K)
  at_ : NoAttr K (CA K) "takes"
  ab : NoAttr K (CA K) "_brand"
  ai : ∃ f fd, Mk K (CA K) f ∧ FnM K "__init__" "AllowedBrand.__init__" sAI [] f fd
  am : mg "AllowedBrand" = some (.ref (CA K))
  ce : Cls K (CEn K)
  et : NoAttr K (CEn K) "takes"
  eb : NoAttr K (CEn K) "_brand"
  em : NoAttr K (CEn K) "_make_hook"
  er : NoAttr K (CEn K) "_reduce_hook"
  eu : NoAttr K (CEn K) "_build_hook"
  ei : ∃ f fd, Mk K (CEn K) f ∧ FnM K "__init__" "EnteredBrand.__init__" sEI [] f fd
  enm : mg "EnteredBrand" = some (.ref (CEn K))
/-- a new object's field, stored -/
theorem same_fld {H0 H : Hp} {a : Addr} {o : HO} (s : Same H0 H) (n : H0 a = none) : Same H0 (upd H a o) := same_updN s n
section
variable {P : Program} {w : World} {K : PySem.W.Frag} {mg : Str → Option Value} {base : Heap}
theorem ok_ai {f : Addr} {fd : FuncData} (C : EnC K mg) (F : FnM K "__init__" "AllowedBrand.__init__" sAI [] f fd) : FnOk P w K mg base CX0 1 f fd ["self", "brand"] (spAI K) := by
  refine F.ok scAI (fun vs H Q E h => ?_) (fun cdv A outer s H vs Q E hr h => ?_)
  · obtain ⟨a, dx, v, H0, rfl, _⟩ := h
    rfl
  · refine ⟨_, PSs.nox (pss_cons (ps_fld (pv 0) pe_int (by rfl)) (pss_one (ps_fld (pv 0) (pv 1) (by rfl)))), ?_⟩
    obtain ⟨a, dx, v, H0, rfl, ha, n0, s0, k⟩ := h
    refine ⟨_, rfl, a, _, dx, [], rfl, ha, C.ca, C.at_, by decide, ?_⟩
    refine ⟨_, rfl, _, rfl, a, _, dx, [("takes", .int 0)], rfl, upd_same, C.ca, C.ab, by decide, ?_⟩
    exact k _ (same_updN (same_updN s0 n0) n0) upd_same
theorem ok_ei {f : Addr} {fd : FuncData} (C : EnC K mg) (F : FnM K "__init__" "EnteredBrand.__init__" sEI [] f fd) : FnOk P w K mg base CX0 1 f fd NE (spEI K) := by
  refine F.ok scEI (fun vs H Q E h => ?_) (fun cdv A outer s H vs Q E hr h => ?_)
  · obtain ⟨a, dx, v, m, r, t, b, H0, rfl, _⟩ := h
    rfl
  · refine ⟨_, PSs.nox (pss_cons (ps_fld (pv 0) (pv 4) (by rfl)) (pss_cons (ps_fld (pv 0) (pv 1) (by rfl)) (pss_cons (ps_fld (pv 0) (pv 2) (by rfl)) (pss_cons (ps_fld (pv 0) (pv 3) (by rfl)) (pss_one (ps_fld (pv 0) (pv 5) (by rfl))))))), ?_⟩
    obtain ⟨a, dx, v, m, r, t, b, H0, rfl, ha, n0, s0, k⟩ := h
    refine ⟨_, rfl, _, rfl, a, _, dx, [], rfl, ha, C.ce, C.et, by decide, ?_⟩
    refine ⟨_, rfl, _, rfl, a, _, dx, [("takes", t)], rfl, upd_same, C.ce, C.eb, (by show 1 < 1000; decide), ?_⟩
    refine ⟨_, rfl, _, rfl, a, _, dx, [("takes", t), ("_brand", v)], rfl, upd_same, C.ce, C.em, (by show 2 < 1000; decide), ?_⟩
    refine ⟨_, rfl, _, rfl, a, _, dx, [("takes", t), ("_brand", v), ("_make_hook", m)], rfl, upd_same, C.ce, C.er, (by show 3 < 1000; decide), ?_⟩
    refine ⟨_, rfl, _, rfl, a, _, dx, [("takes", t), ("_brand", v), ("_make_hook", m), ("_reduce_hook", r)], rfl, upd_same, C.ce, C.eu, (by show 4 < 1000; decide), ?_⟩
    exact k _ (same_updN (same_updN (same_updN (same_updN (same_updN s0 n0) n0) n0) n0) n0) upd_same
theorem ok_allow {f : Addr} {fd : FuncData} (B : RgC K) (C : EnC K mg) (F : FnM K "allow" "Registry.allow" sRgA [] f fd) (N : Nm mg) (S : Es P w K mg base) (T : Ts K mg) : FnOk P w K mg base (L2.CX P w) 4 f fd ["self", "brand"] (spAllow K) := by
  obtain ⟨fk, dk, MK, FK⟩ := B.new_
  have GK : FnOk P w K mg base (L2.CX P w) 3 fk dk ["self", "brand"] (spNew K) := ok_new B FK N S T
  have bK : Binds K dk ["self", "brand"] [] := FK.bindsN fun _ _ _ _ _ _ us hl => match us, hl with | [_, _], _ => rfl
  obtain ⟨fi, di, MI, FI⟩ := C.ai
  have GI : FnOk P w K mg base CX0 1 fi di ["self", "brand"] (spAI K) := ok_ai C FI
  have bI : Binds K di ["self", "brand"] [] := FI.bindsN fun _ _ _ _ _ _ us hl => match us, hl with | [_, _], _ => rfl
  refine F.ok scRgA (fun vs H Q E h => ?_) (fun cdv A outer s H vs Q E hr h => ?_)
  · obtain ⟨a, q, kvs, v, d, rfl, _⟩ := h
    rfl
  · have hu := hu_of hr
    refine ⟨_, pss_cons (ps_expr (pe_methSg (pv 0) B.cls MK GK hr bK (fun σ => passAt (takes_of rfl rfl rfl rfl) σ) (pa_cons (pv 1) pa_nil)))
      (pss_one (ps_dput hu (pe_fld (pv 0) (by rfl)) (pv 1) (pe_make (E := E0) MI GI (hr.mono (by decide)) (by rfl) C.am bI .nil pass0 (pa_cons (pv 1) pa_nil)) rfl)), ?_⟩
    obtain ⟨a, q, kvs, v, d, rfl, ⟨dx, ha, hq⟩, hl, hv, hf, k1, k2⟩ := h
    refine ⟨_, rfl, a, dx, _, rfl, ha, rfl, _, rfl, a, q, kvs, v, d, rfl, ⟨dx, ha, hq⟩, hv, hf, fun e => ⟨fun e2 H1 s1 => ?_, fun e2 => (k1 e).2 e2⟩, fun e => k2 e⟩
    obtain ⟨x, rfl⟩ : ∃ x, v = .str x := by
      cases d with
      | str x =>
        cases hv
        exact ⟨x, rfl⟩
      | none => cases e
      | bool _ => cases e
      | int _ => cases e
      | list _ => cases e
      | tuple _ => cases e
      | dict _ => cases e
    refine ⟨_, rfl, fun n nx hn hd ne => ?_⟩
    have sn : Same H1 (upd (upd H1 nx (.own n)) n (.ins (CA K) nx [])) := same_updN (same_updN Same.refl' hd) hn
    refine ⟨n, nx, .str x, H1, rfl, upd_same, hn, sn, fun H2 s2 hn2 => ⟨rfl, ?_⟩⟩
    have hq2 := s2 _ _ (s1 _ _ hq)
    have nq : n ≠ q := (ne_of_none (s1 _ _ hq) hn).symm
    refine ⟨_, rfl, a, _, dx, _, .ref q, rfl, s2 _ _ (s1 _ _ ha), B.cls, B.no, rfl, _, rfl, q, _, rfl, DPut.k (k := .inr x) hq2 (Nat.lt_of_le_of_lt hl (by decide)), ?_⟩
    refine (k1 e).1 e2 x (.ref n) _ rfl (fun b o hb nb => ?_) upd_same ⟨n, _, nx, _, rfl, by rw [upd_ne nq]; exact hn2, C.ca, C.at_, rfl⟩
    rw [upd_ne nb]
    exact s2 _ _ (s1 _ _ hb)
theorem ok_enter {f : Addr} {fd : FuncData} (B : RgC K) (C : EnC K mg) (F : FunD K "enter" "Registry.enter" (defArgs sRgE) (defBody sRgE) (defScope sRgE) [] [("takes", .int 0), ("build", .non)] f fd) (N : Nm mg) (S : Es P w K mg base) (T : Ts K mg) : FnOk P w K mg base (L2.CX P w) 4 f fd NE (spEnter K) := by
  obtain ⟨fk, dk, MK, FK⟩ := B.new_
  have GK : FnOk P w K mg base (L2.CX P w) 3 fk dk ["self", "brand"] (spNew K) := ok_new B FK N S T
  have bK : Binds K dk ["self", "brand"] [] := FK.bindsN fun _ _ _ _ _ _ us hl => match us, hl with | [_, _], _ => rfl
  obtain ⟨fi, di, MI, FI⟩ := C.ei
  have GI : FnOk P w K mg base CX0 1 fi di NE (spEI K) := ok_ei C FI
  have bI : Binds K di NE [] := FI.bindsN fun _ _ _ _ _ _ us hl => match us, hl with | [_, _, _, _, _, _], _ => rfl
  obtain ⟨fz, dz, FZ, gZ⟩ := T.isI
  have GZ : FnOk P w K mg base CX0 1 fz dz ["thing"] (spTest K isI) := ok_isInt FZ N
  have bZ : Binds K dz ["thing"] [] := FZ.bindsN fun _ _ _ _ _ _ us hl => match us, hl with | [_], _ => rfl
  obtain ⟨t0, g0⟩ := N.takes
  refine F.ok scRgE (fun vs H Q E h => ?_) (fun cdv A outer s H vs Q E hr h => ?_)
  · obtain ⟨a, q, kvs, v, m, r, t, b, d, dt, rfl, _⟩ := h
    rfl
  · have hu := hu_of hr
    refine ⟨_, pss_cons (ps_expr (pe_methSg (pv 0) B.cls MK GK hr bK (fun σ => passAt (takes_of rfl rfl rfl rfl) σ) (pa_cons (pv 1) pa_nil)))
      (pss_cons (ps_if (PW.pt (pw_or (pt_not (pt_val (pe_call GZ (hr.mono (by decide)) (by rfl) gZ FZ.kp bZ .nil pass0 (pa_cons (pv 4) pa_nil)))) (pw_or1 (pt_not (pt_chain op_le op_le pe_int (pv 4) (pe_glob (v := .int 20) (by rfl) g0 ⟨_, rfl⟩))))))
        (pss_one (ps_x1 rfl (takes_of rfl rfl rfl rfl) S.takes (hr.mono (by decide)) (by rfl) (pv 4))) pss_nil)
      (pss_one (ps_dput hu (pe_fld (pv 0) (by rfl)) (pv 1) (pe_make (E := E0) MI GI (hr.mono (by decide)) (by rfl) C.enm bI .nil pass0 (pa_cons (pv 1) (pa_cons (pv 2) (pa_cons (pv 3) (pa_cons (pv 4) (pa_cons (pv 5) pa_nil)))))) rfl))), ?_⟩
    obtain ⟨a, q, kvs, v, m, r, t, b, d, dt, rfl, ⟨dx, ha, hq⟩, hl, hv, hf, ht, k1, k2⟩ := h
    refine ⟨_, rfl, a, dx, _, rfl, ha, rfl, _, rfl, a, q, kvs, v, d, rfl, ⟨dx, ha, hq⟩, hv, hf, fun e => ⟨fun e2 H1 s1 => ?_, fun e2 => (k1 e).2 e2⟩, fun e => k2 e⟩
    obtain ⟨k3, k4⟩ := (k1 e).1 e2
    obtain ⟨x, rfl⟩ : ∃ x, v = .str x := by
      cases d with
      | str x =>
        cases hv
        exact ⟨x, rfl⟩
      | none => cases e
      | bool _ => cases e
      | int _ => cases e
      | list _ => cases e
      | tuple _ => cases e
      | dict _ => cases e
    have ht1 := sd_to ht s1
    have bad : tkB dt = false → Err (gC K "InvalidTakes") "value" t H1 E := fun e => err_to s1 (k4 e)
    refine ⟨_, rfl, t, dt, rfl, ht1, _, rfl, ?_⟩
    cases dt with
    | none => exact iteT (iteT ⟨_, rfl, t, rfl, fun dd H' n s y => bad rfl dd H' n s y⟩)
    | bool _ => exact iteT (iteT ⟨_, rfl, t, rfl, fun dd H' n s y => bad rfl dd H' n s y⟩)
    | str _ => exact iteT (iteT ⟨_, rfl, t, rfl, fun dd H' n s y => bad rfl dd H' n s y⟩)
    | list _ => exact iteT (iteT ⟨_, rfl, t, rfl, fun dd H' n s y => bad rfl dd H' n s y⟩)
    | tuple _ => exact iteT (iteT ⟨_, rfl, t, rfl, fun dd H' n s y => bad rfl dd H' n s y⟩)
    | dict _ => exact iteT (iteT ⟨_, rfl, t, rfl, fun dd H' n s y => bad rfl dd H' n s y⟩)
    | int i =>
      cases ht1
      refine iteF ⟨_, rfl, _, _, rfl, rfl, _, rfl, ?_⟩
      have eb : tkB (.int i) = (decide ((0 : Int) ≤ i) && decide (i ≤ 20)) := rfl
      by_cases c1 : (0 : Int) ≤ i
      · rw [decide_eq_true c1] at eb ⊢
        refine iteT ⟨_, _, rfl, rfl, _, rfl, ?_⟩
        by_cases c2 : i ≤ 20
        · rw [decide_eq_true c2] at eb ⊢
          refine iteF ?_
          refine ⟨_, rfl, _, rfl, _, rfl, _, rfl, _, rfl, fun n nx hn hd ne => ?_⟩
          have sn : Same H1 (upd (upd H1 nx (.own n)) n (.ins (CEn K) nx [])) := same_updN (same_updN Same.refl' hd) hn
          refine ⟨n, nx, .str x, m, r, .int i, b, H1, rfl, upd_same, hn, sn, fun H2 s2 hn2 => ⟨rfl, ?_⟩⟩
          have hq2 := s2 _ _ (s1 _ _ hq)
          have nq : n ≠ q := (ne_of_none (s1 _ _ hq) hn).symm
          refine ⟨_, rfl, a, _, dx, _, .ref q, rfl, s2 _ _ (s1 _ _ ha), B.cls, B.no, rfl, _, rfl, q, _, rfl, DPut.k (k := .inr x) hq2 (Nat.lt_of_le_of_lt hl (by decide)), ?_⟩
          refine k3 eb x (.ref n) _ rfl (fun b o hb nb => ?_) upd_same ⟨n, _, nx, _, rfl, by rw [upd_ne nq]; exact hn2, C.ce, C.et, rfl⟩
          rw [upd_ne nb]
          exact s2 _ _ (s1 _ _ hb)
        · rw [decide_eq_false c2] at eb ⊢
          exact iteT ⟨_, rfl, _, rfl, fun dd H' n s y => bad eb dd H' n s y⟩
      · rw [decide_eq_false c1] at eb ⊢
        exact iteF ⟨_, rfl, iteT ⟨_, rfl, _, rfl, fun dd H' n s y => bad eb dd H' n s y⟩⟩
end
end Kg

set_option Elab.async false
set_option linter.all false
set_option maxRecDepth 100000
set_option maxHeartbeats 4000000
namespace Kg
open PySem PySem.Spec PyProof.Rows L2 StX ClX
/-! ### what is known: a word, its entry, what it takes -/
abbrev Rw : Type := Str × V × V
def wE (R : List Rw) : List (Key × V) := R.map fun r => (.inr r.1, r.2.1)
def wU (R : List Rw) : List (Key × V) := R.map fun r => (.inr r.1, r.2.2)
def fR (R : List Rw) (x : Str) : Option Rw := R.find? fun r => decide (r.1 = x)
theorem valV_w (g : Rw → V) (R : List Rw) (x : Str) : valV (R.map fun r => ((.inr r.1 : Key), g r)) (.inr x) = (fR R x).map g := by
  unfold valV fR
  rw [List.find?_map]
  have e : ((fun kv : Key × V => decide (kv.1 = (.inr x : Key))) ∘ fun r : Rw => ((.inr r.1 : Key), g r)) = fun r => decide (r.1 = x) := by
    funext r
    show decide ((Sum.inr r.1 : Key) = .inr x) = _
    rw [Bool.eq_iff_iff, decide_eq_true_iff, decide_eq_true_iff]
    exact ⟨fun z => by cases z; rfl, fun z => by rw [z]⟩
  rw [e, Option.map_map]
  rfl
theorem valE (R : List Rw) (x : Str) : valV (wE R) (.inr x) = (fR R x).map (·.2.1) := valV_w _ R x
theorem valU (R : List Rw) (x : Str) : valV (wU R) (.inr x) = (fR R x).map (·.2.2) := valV_w _ R x
theorem hasE (R : List Rw) (x : Str) : hasB (wE R) (.str x) = (fR R x).isSome := by
  show (valV (wE R) (.inr x)).isSome = _
  rw [valE, Option.isSome_map]
theorem fR_mem {R : List Rw} {x : Str} {r : Rw} (h : fR R x = some r) : r ∈ R ∧ r.1 = x := ⟨List.mem_of_find?_eq_some h, of_decide_eq_true (List.find?_some (p := fun r : Rw => decide (r.1 = x)) h)⟩
theorem fR_none {R : List Rw} {x : Str} : fR R x = none ↔ x ∉ R.map (·.1) := by
  unfold fR
  rw [List.find?_eq_none]
  constructor
  · intro h m
    obtain ⟨r, hr, e⟩ := List.mem_map.mp m
    exact h r hr (decide_eq_true e)
  · intro h r hr z
    exact h (List.mem_map.mpr ⟨r, hr, of_decide_eq_true z⟩)
theorem w_app (g : Rw → V) (R : List Rw) (r : Rw) (h : fR R r.1 = none) : putK (R.map fun r => ((.inr r.1 : Key), g r)) (.inr r.1) (g r) = (R ++ [r]).map fun r => ((.inr r.1 : Key), g r) := by
  rw [putK_new _ (by rw [valV_w, h]; rfl), List.map_append]
  rfl
theorem wE_app (R : List Rw) (x : Str) (e u : V) (h : fR R x = none) : putK (wE R) (.inr x) e = wE (R ++ [(x, e, u)]) := w_app (·.2.1) R (x, e, u) h
theorem wU_app (R : List Rw) (x : Str) (e u : V) (h : fR R x = none) : putK (wU R) (.inr x) u = wU (R ++ [(x, e, u)]) := w_app (·.2.2) R (x, e, u) h
def dR (R : List Rw) (x : Str) : List Rw := R.filter fun r => decide (r.1 ≠ x)
theorem w_drop (g : Rw → V) (R : List Rw) (x : Str) : dropK (R.map fun r => ((.inr r.1 : Key), g r)) (.inr x) = (dR R x).map fun r => ((.inr r.1 : Key), g r) := by
  unfold dropK dR
  rw [List.filter_map]
  have e : ((fun kv : Key × V => decide (kv.1 ≠ (.inr x : Key))) ∘ fun r : Rw => ((.inr r.1 : Key), g r)) = fun r => decide (r.1 ≠ x) := by
    funext r
    show decide ((Sum.inr r.1 : Key) ≠ .inr x) = _
    rw [Bool.eq_iff_iff, decide_eq_true_iff, decide_eq_true_iff]
    exact ⟨fun z y => z (by rw [y]), fun z y => z (by cases y; rfl)⟩
  rw [e]
theorem wE_drop (R : List Rw) (x : Str) : dropK (wE R) (.inr x) = wE (dR R x) := w_drop _ R x
theorem wU_drop (R : List Rw) (x : Str) : dropK (wU R) (.inr x) = wU (dR R x) := w_drop _ R x
theorem putK_same {kvs : List (Key × V)} {k : Key} {v : V} (nd : (kvs.map (·.1)).Nodup) (h : valV kvs k = some v) : putK kvs k v = kvs := by
  unfold putK
  rw [valV_any, h, if_pos (show (some v).isSome = true from rfl)]
  induction kvs with
  | nil => rfl
  | cons p r ih =>
    have nd' : (p.1 :: r.map (·.1)).Nodup := nd
    obtain ⟨n1, n2⟩ := List.nodup_cons.mp nd'
    by_cases e : p.1 = k
    · rw [valV_pos e] at h
      have hp : p.2 = v := by injection h
      have hr : r.map (fun kv => if kv.1 = k then (kv.1, v) else kv) = r := by
        have : ∀ q ∈ r, (fun kv : Key × V => if kv.1 = k then (kv.1, v) else kv) q = q := fun q hq => by
          have ne : ¬ q.1 = k := fun z => n1 (by rw [e, ← z]; exact List.mem_map.mpr ⟨q, hq, rfl⟩)
          show (if q.1 = k then (q.1, v) else q) = q
          rw [if_neg ne]
        exact (List.map_congr_left this).trans (List.map_id' r)
      rw [List.map_cons, hr, if_pos e, ← hp]
    · rw [valV_neg e] at h
      rw [List.map_cons, ih n2 h, if_neg e]
theorem drop_put (kvs : List (Key × V)) (k : Key) (v : V) : dropK (putK kvs k v) k = dropK kvs k := by
  unfold putK
  split
  · unfold dropK
    induction kvs with
    | nil => rfl
    | cons p r ih =>
      rw [List.map_cons]
      by_cases e : p.1 = k
      · rw [if_pos e, List.filter_cons, List.filter_cons, if_neg (by simp [e]), if_neg (by simp [e])]
        by_cases a : (r.any fun kv => decide (kv.1 = k)) = true
        · exact ih a
        · have : ∀ q ∈ r, (fun kv : Key × V => if kv.1 = k then (kv.1, v) else kv) q = q := fun q hq => by
            have ne : ¬ q.1 = k := fun z => a (List.any_eq_true.mpr ⟨q, hq, decide_eq_true z⟩)
            show (if q.1 = k then (q.1, v) else q) = q
            rw [if_neg ne]
          rw [(List.map_congr_left this).trans (List.map_id' r)]
      · rw [if_neg e, List.filter_cons, List.filter_cons, if_pos (by simp [e]), if_pos (by simp [e])]
        by_cases a : (r.any fun kv => decide (kv.1 = k)) = true
        · rw [ih a]
        · have : ∀ q ∈ r, (fun kv : Key × V => if kv.1 = k then (kv.1, v) else kv) q = q := fun q hq => by
            have ne : ¬ q.1 = k := fun z => a (List.any_eq_true.mpr ⟨q, hq, decide_eq_true z⟩)
            show (if q.1 = k then (q.1, v) else q) = q
            rw [if_neg ne]
          rw [(List.map_congr_left this).trans (List.map_id' r)]
  · unfold dropK
    rw [List.filter_append]
    have z : List.filter (fun kv : Key × V => decide (kv.1 ≠ k)) [(k, v)] = [] := by simp
    rw [z, List.append_nil]
theorem dR_no {R : List Rw} {x : Str} (h : fR R x = none) : dR R x = R := by
  unfold dR
  rw [List.filter_eq_self]
  intro r hr
  exact decide_eq_true fun z => fR_none.mp h (List.mem_map.mpr ⟨r, hr, z⟩)
theorem wU_keys (R : List Rw) : (wU R).map (·.1) = (R.map (·.1)).map Sum.inr := by
  unfold wU
  rw [List.map_map, List.map_map]
  rfl
theorem wE_keys (R : List Rw) : (wE R).map (·.1) = (R.map (·.1)).map Sum.inr := by
  unfold wE
  rw [List.map_map, List.map_map]
  rfl
def okW (x : Str) : Bool := PyData.strOk x && decide (1 ≤ x.length)
/-- the entries stand, no word twice -/
structure OkR (K : PySem.W.Frag) (H : Hp) (R : List Rw) : Prop where
  ent : ∀ r ∈ R, EntAt K H r.2.1 r.2.2
  num : ∀ r ∈ R, ∃ n : Int, r.2.2 = .int n ∧ 0 ≤ n ∧ n ≤ 20
  nd : (R.map (·.1)).Nodup
  len : R.length ≤ 60
  sok : ∀ r ∈ R, okW r.1 = true
theorem OkR.keep {K : PySem.W.Frag} {H H' : Hp} {R : List Rw} (h : OkR K H R) (k : ∀ a C dx fs, H a = some (.ins C dx fs) → H' a = some (.ins C dx fs)) : OkR K H' R :=
  ⟨fun r m => by
    obtain ⟨a, C, dx, fs, e1, h1, h2⟩ := h.ent r m
    exact ⟨a, C, dx, fs, e1, k _ _ _ _ h1, h2⟩, h.num, h.nd, h.len, h.sok⟩
theorem OkR.drop {K : PySem.W.Frag} {H : Hp} {R : List Rw} (h : OkR K H R) (x : Str) : OkR K H (dR R x) := by
  have sub : ∀ r ∈ dR R x, r ∈ R := fun r m => (List.mem_filter.mp m).1
  exact ⟨fun r m => h.ent r (sub r m), fun r m => h.num r (sub r m), List.Nodup.sublist ((List.filter_sublist).map _) h.nd, Nat.le_trans (List.length_filter_le _ _) h.len, fun r m => h.sok r (sub r m)⟩
theorem OkR.app {K : PySem.W.Frag} {H : Hp} {R : List Rw} (h : OkR K H R) {x : Str} {e : V} {n : Int} (f : fR R x = none) (he : EntAt K H e (.int n)) (n0 : 0 ≤ n) (n1 : n ≤ 20) (hl : R.length < 60) (hs : okW x = true) : OkR K H (R ++ [(x, e, .int n)]) := by
  refine ⟨fun r m => ?_, fun r m => ?_, ?_, ?_, fun r m => ?_⟩
  · rcases List.mem_append.mp m with m | m
    · exact h.ent r m
    · rw [List.mem_singleton.mp m]
      exact he
  · rcases List.mem_append.mp m with m | m
    · exact h.num r m
    · rw [List.mem_singleton.mp m]
      exact ⟨n, rfl, n0, n1⟩
  · rw [List.map_append]
    exact nd_snoc h.nd (fR_none.mp f)
  · rw [List.length_append]
    exact hl
  · rcases List.mem_append.mp m with m | m
    · exact h.sok r m
    · rw [List.mem_singleton.mp m]
      exact hs
end Kg

set_option Elab.async false
set_option linter.all false
set_option maxRecDepth 100000
set_option maxHeartbeats 4000000
namespace Kg
open PySem PySem.Spec PyProof.Rows L2 StX ClX
theorem scRgI : FnScope ["self", "brands", "brand"] ((["self"] : List Str) ++ (["brands"] : List Str)) (defScope sRgI) := ⟨rfl, rfl, rfl, by decide +kernel, rfl, by decide +kernel, by decide +kernel⟩
theorem scRgW : FnScope ["self", "other"] ["self"] (defScope sRgW) := ⟨rfl, rfl, rfl, by decide +kernel, rfl, by decide +kernel, by decide +kernel⟩
/-- brands that may be told, no one twice -/
structure BrL (xs : List Str) : Prop where
  free : ∀ x ∈ xs, freeB (.str x) = true ∧ x.length ≤ 100
  sok : ∀ x ∈ xs, okW x = true
  nd : xs.Nodup
  len : xs.length ≤ 10
/-- known from the start: nothing is taken -/
structure R0 (R : List Rw) (xs : List Str) : Prop where
  ws : R.map (·.1) = xs
  zero : ∀ r ∈ R, r.2.2 = V.int 0
def RgI (K : PySem.W.Frag) (xs : List Str) (H : Hp) (Q : V → Hp → Prop) : Prop := ∀ n q R H', Same H H' → H n = none → H q = none → RegAt K H' n q (wE R) → OkR K H' R → R0 R xs → Q (.ref n) H'
def spRgI (K : PySem.W.Frag) : Sp := fun vs H Q E => ∃ (a dx : Addr) (xs : List Str) (H0 : Hp), vs = .ref a :: xs.map V.str ∧ H a = some (.ins (CR K) dx []) ∧ H0 a = none ∧ Same H0 H ∧ BrL xs ∧ ∀ q R H', Same H0 H' → H0 q = none → RegAt K H' a q (wE R) → OkR K H' R → R0 R xs → Q .non H'
def spRgIT (K : PySem.W.Frag) : Sp := fun vs H Q E => ∃ (a t dx : Addr) (xs : List Str) (H0 : Hp), vs = [.ref a, .ref t] ∧ H t = some (.tup (xs.map V.str)) ∧ H a = some (.ins (CR K) dx []) ∧ H0 a = none ∧ H0 t = none ∧ Same H0 H ∧ BrL xs ∧ ∀ q R H', Same H0 H' → H0 q = none → RegAt K H' a q (wE R) → OkR K H' R → R0 R xs → Q .non H'
theorem mkRg {K : PySem.W.Frag} {xs : List Str} {H : Hp} {Q : V → Hp → Prop} {E : XK} (b : BrL xs) (m : RgI K xs H Q) (n dx : Addr) (hn : H n = none) (hd : H dx = none) (ne : dx ≠ n) :
    spRgI K (V.ref n :: xs.map V.str) (upd (upd H dx (.own n)) n (.ins (CR K) dx [])) (fun v H2 => v = .non ∧ Q (.ref n) H2) E :=
  ⟨n, dx, xs, H, rfl, upd_same, hn, same_updN (same_updN Same.refl' hd) hn, b, fun q R H' s hq r o z => ⟨rfl, m n q R H' s hn hq r o z⟩⟩
theorem spRgI_mono {K : PySem.W.Frag} {vs : List V} {H : Hp} {Q Q' : VK} {E : XK} (h : spRgI K vs H Q E) (m : ∀ v H, Q v H → Q' v H) : spRgI K vs H Q' E := by
  obtain ⟨a, dx, xs, H0, e, h1, h2, h3, h4, k⟩ := h
  exact ⟨a, dx, xs, H0, e, h1, h2, h3, h4, fun q R H' s1 hq r o z => m _ _ (k q R H' s1 hq r o z)⟩
/-- a Registry that was made -/
def Made (K : PySem.W.Frag) (xs : List Str) (H : Hp) (v : V) (H' : Hp) : Prop := ∃ n q R, v = .ref n ∧ Same H H' ∧ H n = none ∧ H q = none ∧ RegAt K H' n q (wE R) ∧ OkR K H' R ∧ R0 R xs
theorem mkRg2 {K : PySem.W.Frag} {xs : List Str} {H : Hp} {Q : VK} {E : XK} (b : BrL xs) (n dx : Addr) (hn : H n = none) (hd : H dx = none) (ne : dx ≠ n) (m : ∀ H', Made K xs H (.ref n) H' → Q .non H') :
    spRgI K (V.ref n :: xs.map V.str) (upd (upd H dx (.own n)) n (.ins (CR K) dx [])) Q E :=
  spRgI_mono (mkRg (Q := Made K xs H) b (fun n q R H' s hn hq r o z => ⟨n, q, R, rfl, s, hn, hq, r, o, z⟩) n dx hn hd ne) fun v H' z => by
    obtain ⟨rfl, z⟩ := z
    exact m H' z
section
variable {P : Program} {w : World} {K : PySem.W.Frag} {mg : Str → Option Value} {base : Heap}
theorem ok_rgI {f fa : Addr} {fd da : FuncData} (B : RgC K) (C : EnC K mg) (MA : Meth K (CR K) "allow" fa) (FA : FnM K "allow" "Registry.allow" sRgA [] fa da) (F : FnM K "__init__" "Registry.__init__" sRgI [] f fd) (N : Nm mg) (S : Es P w K mg base) (T : Ts K mg) : FnR P w K mg base (L2.CX P w) 5 f (spRgI K) := by
  have GA : FnOk P w K mg base (L2.CX P w) 4 fa da ["self", "brand"] (spAllow K) := ok_allow B C FA N S T
  have bA : Binds K da ["self", "brand"] [] := FA.bindsN fun _ _ _ _ _ _ us hl => match us, hl with | [_, _], _ => rfl
  obtain ⟨oc, od, dV, kV', doc, pm, an, cdv, ct, osl, rfl, lk, hcd, hD, hK⟩ := F.ex
  obtain rfl : dV = .none := hD.elim (fun z => z.2) fun z => absurd rfl z.1
  have R := fn_star (P := P) (w := w) (mg := mg) (base := base) (CX := L2.CX P w) (k := 4) (ps := ["self"]) (pv := "brands") lk hcd scRgI cxUp (fun us rest hl => ?bind) (sp := spRgIT K) fun A outer s H vs Q E hr h => ?body
  case bind =>
    match us, hl with
    | [u], _ => exact bind_star1 (B := fun us => bindArgs (PySem.W.fnOf "__init__" "Registry.__init__" (defArgs sRgI) (defBody sRgI) (defScope sRgI) .none kV' doc pm an cdv ct) ⟨us, []⟩) (fun _ => rfl) (fun _ _ _ => rfl) [u] rest rfl
  case body =>
    refine ⟨_, pss_cons (ps_fld (pv 0) pe_dnewK (by rfl)) (pss_one (ps_for (passes_of rfl) rfl (pi_tup (pv 1)) (pg_name (i := 2) scRgI.nd rfl (Or.inl rfl))
      (pss_one (ps_expr (pe_methSg (pv 0) B.cls MA GA hr bA (fun σ => passAt (takes_of rfl rfl rfl rfl) σ) (pa_cons (pv 2) pa_nil)))))), ?_⟩
    obtain ⟨a, t, dx, xs, H0, rfl, ht, ha, a0, t0, s0, b, k⟩ := h
    intro q nq
    have nqa : q ≠ a := (ne_of_none ha nq).symm
    have nqt : q ≠ t := (ne_of_none ht nq).symm
    have q0 := none_of s0 nq
    have nat_ : a ≠ t := fun z => by
      rw [z, ht] at ha
      cases ha
    refine ⟨_, rfl, a, _, dx, [], rfl, by rw [upd_ne nqa.symm]; exact ha, B.cls, B.no, by decide, ?_⟩
    refine ⟨_, rfl, t, rfl, ⟨_, SqT.of (by rw [upd_ne nat_.symm, upd_ne nqt.symm]; exact ht)⟩, for_it (walk_tup (xs := xs.map V.str)) (fun i σ H' => ∃ (t2 : Option V) (R : List Rw), σ = [some (.ref a), some (.ref t), t2] ∧ Same H0 H' ∧ H' a = some (.ins (CR K) dx [("_known", .ref q)]) ∧ H' t = some (.tup (xs.map V.str)) ∧ H' q = some (.dK (wE R)) ∧ OkR K H' R ∧ R0 R (xs.take i))
      ⟨none, [], rfl, same_updN (same_updN s0 q0) a0, upd_same, by rw [upd_ne nat_.symm, upd_ne nqt.symm]; exact ht, by rw [upd_ne nqa, upd_same]; rfl, ⟨fun _ m => (List.not_mem_nil m).elim, fun _ m => (List.not_mem_nil m).elim, List.nodup_nil, Nat.zero_le _, fun _ m => (List.not_mem_nil m).elim⟩, ⟨rfl, fun _ m => (List.not_mem_nil m).elim⟩⟩ (fun i σ H' _ z => ?_) ?_ ?_⟩
    · obtain ⟨_, _, _, _, _, h, _⟩ := z
      exact SqT.of h
    · rintro i x σ H' H'' hi ⟨t2, R, rfl, s1, h1, h2, h3, ok, z⟩ ⟨eH, hx⟩
      subst eH
      rw [List.getElem?_map] at hx
      obtain ⟨y, ey, rfl⟩ := Option.map_eq_some_iff.mp hx
      have my := List.mem_of_getElem? ey
      obtain ⟨fy, ly⟩ := b.free y my
      have hlen : i < xs.length := by
        rw [List.length_map] at hi
        exact hi
      have no : fR R y = none := fR_none.mpr (by
        rw [z.ws]
        intro m
        obtain ⟨j, hj, e⟩ := List.mem_take_iff_getElem.mp m
        have hj' : j < xs.length := by omega
        have ei : xs[i]'hlen = y := by
          have := List.getElem?_eq_getElem hlen
          rw [this] at ey
          exact Option.some.inj ey
        have : j = i := (List.getElem_inj b.nd).mp (e.trans ei.symm)
        omega)
      have hR : R.length ≤ 10 := by
        have e := congrArg List.length z.ws
        rw [List.length_map, List.length_take] at e
        have := b.len
        omega
      have kl : (wE R).length ≤ 100 := by
        unfold wE
        rw [List.length_map]
        omega
      refine ⟨_, rfl, a, dx, _, rfl, h1, rfl, _, rfl, a, q, wE R, .str y, .str y, rfl, ⟨dx, h1, h3⟩, kl, .str y, fun x e => by cases e; exact Nat.le_trans ly (by decide), fun _ => ⟨fun _ x e H2 ex kq hq2 en => ?_, fun e => ?_⟩, fun e => ?_⟩
      · cases ex
        rw [wE_app R y e (.int 0) no] at hq2
        have sH : Same H0 H2 := fun c o hc => kq c o (s1 _ _ hc) fun zc => by
          rw [zc, q0] at hc
          cases hc
        refine ⟨_, R ++ [(y, e, .int 0)], rfl, sH, kq _ _ h1 nqa.symm, kq _ _ h2 nqt.symm, hq2, ?_, ?_⟩
        · refine OkR.app (ok.keep fun c C' dx' fs hc => kq _ _ hc fun zc => ?_) no en (by decide) (by decide) (by omega) (b.sok y my)
          rw [zc, h3] at hc
          cases hc
        · refine ⟨?_, fun r m => ?_⟩
          · rw [List.map_append, z.ws, List.take_add_one, ey]
            rfl
          · rcases List.mem_append.mp m with m | m
            · exact z.zero r m
            · rw [List.mem_singleton.mp m]
      · rw [hasE, no] at e
        cases e
      · rw [fy] at e
        cases e
    · rintro σ H' ⟨t2, R, rfl, s1, h1, h2, h3, ok, z⟩
      rw [List.length_map, List.take_length] at z
      exact k q R H' s1 q0 ⟨dx, h1, h3⟩ ok z
  intro A outer s H us vs Q E hr e0 r hsp
  obtain ⟨a, dx, xs, H0, rfl, ha, a0, s0, b, k⟩ := hsp
  refine R A outer s H us _ Q E hr e0 r ⟨[.ref a], xs.map V.str, rfl, rfl, by rw [List.length_map]; exact Nat.le_trans b.len (by decide), fun p np => ?_⟩
  have s1 := same_new (o := .tup (xs.map V.str)) np
  exact ⟨a, p, dx, xs, H0, rfl, upd_same, s1 _ _ ha, a0, none_of s0 np, s0.tr s1, b, k⟩
def spTwin (K : PySem.W.Frag) : Sp := fun vs H Q _ => ∃ (a q : Addr) (R : List Rw), vs = [.ref a] ∧ RegAt K H a q (wE R) ∧ OkR K H R ∧ ∀ n q' H', Same H H' → H n = none → H q' = none → RegAt K H' n q' (wE R) → OkR K H' R → Q (.ref n) H'
theorem ok_twin {f fi : Addr} {fd : FuncData} (B : RgC K) (MI : Mk K (CR K) fi) (GI : FnR P w K mg base (L2.CX P w) 5 fi (spRgI K)) (gR : mg "Registry" = some (.ref (CR K))) (F : FnM K "twin" "Registry.twin" sRgW [] f fd) (N : Nm mg) : FnOk P w K mg base (L2.CX P w) 7 f fd ["self"] (spTwin K) := by
  refine F.ok scRgW (fun vs H Q E h => ?_) (fun cdv A outer s H vs Q E hr h => ?_)
  · obtain ⟨a, q, R, rfl, _⟩ := h
    rfl
  · refine ⟨_, pss_cons (ps_set (i := 1) scRgW.nd rfl (Or.inl rfl) (pe_makeR0 (E := E0) MI GI hr (by rfl) gR (fun _ _ _ _ _ _ _ z => (no_cx z).elim)))
      (pss_cons (ps_fld (pv 1) (pe_callTy call_dictD (by rfl) N.dict (by decide +kernel) (pa_cons (pe_fld (pv 0) (by rfl)) pa_nil)) (by rfl)) (pss_one (ps_ret (pv 1)))), ?_⟩
    obtain ⟨a, q, R, rfl, ⟨dx, ha, hq⟩, ok, k⟩ := h
    intro n nx hn hd ne
    refine mkRg2 (xs := []) ⟨fun _ m => (List.not_mem_nil m).elim, fun _ m => (List.not_mem_nil m).elim, List.nodup_nil, Nat.zero_le _⟩ n nx hn hd ne fun H1 z => ⟨rfl, ?_⟩
    obtain ⟨n', q2, R2, en, s1, hn, hq2, r2, ok2, z⟩ := z
    obtain rfl : n = n' := by injection en
    obtain ⟨dx2, h1, h2⟩ := r2
    refine ⟨_, rfl, a, _, dx, _, .ref q, rfl, s1 _ _ ha, B.cls, B.no, rfl, q, _, rfl, .inl (s1 _ _ hq), fun q3 n3 => ?_⟩
    have n3n : n ≠ q3 := ne_of_none h1 n3
    refine ⟨_, rfl, n, _, dx2, _, rfl, by rw [upd_ne n3n]; exact h1, B.cls, B.no, (by show 1 < 1000; decide), ?_⟩
    have s2 : Same H (upd (upd H1 q3 (.dK (wE R))) n (.ins (CR K) dx2 [("_known", .ref q3)])) := same_updN (same_updN s1 (none_of s1 n3)) hn
    exact ⟨_, rfl, k n q3 _ s2 hn (none_of s1 n3) ⟨dx2, upd_same, by rw [upd_ne n3n.symm, upd_same]⟩ (ok.keep fun c C dx fs hc => s2 _ _ hc)⟩
end
end Kg

set_option Elab.async false
set_option linter.all false
set_option maxRecDepth 100000
set_option maxHeartbeats 4000000
namespace Kg
open PySem PySem.Spec PyProof.Rows L2
/-- the cells' list of the draws at p stands at l -/
def CellsAt (H : Hp) (p l : Addr) : Prop := ∃ a b c : Int, H p = some (.dK (drawKv l a b c))
/-- all that was tracked but p stands, and the cells' list is the same -/
structure Keep (p : Addr) (H H' : Hp) : Prop where
  old : L2.Keep p H H'
  cells : ∀ l, CellsAt H p l → CellsAt H' p l
instance {p : Addr} {H H' : Hp} : CoeFun (Keep p H H') (fun _ => ∀ c o, H c = some o → c ≠ p → H' c = some o) := ⟨Keep.old⟩
theorem Keep.refl {p : Addr} {H : Hp} : Keep p H H := ⟨L2.Keep.refl, fun _ h => h⟩
theorem Keep.trans {p : Addr} {H H1 H2 : Hp} (a : Keep p H H1) (b : Keep p H1 H2) : Keep p H H2 := ⟨a.old.trans b.old, fun l h => b.cells l (a.cells l h)⟩
theorem Keep.of {p : Addr} {H H' : Hp} (s : Same H H') : Keep p H H' := ⟨L2.Keep.of s, fun _ ⟨a, b, c, h⟩ => ⟨a, b, c, s _ _ h⟩⟩
theorem cells_one {H : Hp} {p l l' : Addr} (h : CellsAt H p l) (k : CellsAt H p l') : l = l' := by
  obtain ⟨a, b, c, h⟩ := h
  obtain ⟨a', b', c', k⟩ := k
  rw [h] at k
  have z := congrArg (fun o => match o with
    | some (HO.dK ((_, V.ref x) :: _)) => x
    | _ => 0) k
  exact z
theorem Keep.upd {p l : Addr} {x y z : Int} {H : Hp} (h : CellsAt H p l) : Keep p H (upd H p (.dK (drawKv l x y z))) := ⟨L2.Keep.upd, fun l' k => by
  cases cells_one h k
  exact ⟨x, y, z, upd_same⟩⟩
def spNext : Sp := fun vs H Q _ => ∃ (p : Addr) (b : Int) (N : Nat), vs = [.ref p, .int b] ∧ DrawAt H p N ∧ N < 1000000000 ∧ 0 < b ∧ b < 1073741824 ∧ ∀ (r : Int) (H' : Hp), 0 ≤ r → r < b → DrawAt H' p (N + 1) → Keep p H H' → Q (.int r) H'
abbrev sBegin : Stmt := top 48
abbrev sMixed : Stmt := top 49
abbrev sNext : Stmt := top 50
section
variable {P : Program} {w : World} {K : PySem.W.Frag} {mg : Str → Option Value} {base : Heap}
theorem scBegin : FnScope ["script"] ["script"] (defScope sBegin) := ⟨rfl, rfl, rfl, by decide +kernel, rfl, by decide +kernel, by decide +kernel⟩
theorem scMixed : FnScope ["cell", "k", "mixed"] ["cell", "k"] (defScope sMixed) := ⟨rfl, rfl, rfl, by decide +kernel, rfl, by decide +kernel, by decide +kernel⟩
theorem scNext : FnScope ["draw", "bound", "found", "cells", "cell"] ["draw", "bound"] (defScope sNext) := ⟨rfl, rfl, rfl, by decide +kernel, rfl, by decide +kernel, by decide +kernel⟩
theorem ok_begin {f : Addr} {fd : FuncData} (F : FnP K "_law_begin" sBegin f fd) : FnOk P w K mg base CX0 1 f fd ["script"] (spBegin K) := by
  refine F.ok scBegin (fun vs H Q E h => ?_) (fun cdv A outer s H vs Q E hr h => ⟨_, PSs.nox (pss_one (ps_ret (pe_disp (pps_cons pe_str (pe_op op_catS (pv 0) (pe_lst (pa_cons pe_int pa_nil)))
    (pps_cons pe_str pe_int (pps_cons pe_str pe_int (pps_cons pe_str pe_int pps_nil)))) (by rfl) (by rfl) (fun z => by cases z) (by decide)))), ?_⟩)
  · obtain ⟨a, ns, rfl, _⟩ := h
    rfl
  · obtain ⟨a, ns, rfl, hS, hl, k⟩ := h
    intro p hp
    refine ⟨_, rfl, (by show 1 ≤ sizeLine; decide), fun q hq => ?_⟩
    have npq : p ≠ q := fun z => by rw [z, upd_same] at hq; cases hq
    have hq' : H q = none := by rw [← hq, upd_ne npq.symm]
    have s1 : Same H (upd (upd H p (.dK [])) q (.lst [V.int 0])) := fun b o e => by
      rw [upd_ne (ne_of_none e hq'), upd_ne (ne_of_none e hp)]
      exact e
    refine ⟨a, q, ns.map V.int, [V.int 0], rfl, rfl, s1.seq hS, SqL.of upd_same, (by rw [List.length_map]; show ns.length + 1 ≤ sizeLine; exact Nat.le_trans (Nat.succ_le_succ hl) (by decide)), fun l hlz => ?_⟩
    have nl : l ≠ p := fun z => by rw [z, upd_ne npq, upd_same] at hlz; cases hlz
    have nlq : l ≠ q := fun z => by rw [z, upd_same] at hlz; cases hlz
    have hl' : H l = none := by rw [upd_ne nlq, upd_ne nl] at hlz; exact hlz
    refine ⟨(by rw [upd_ne nl.symm, upd_ne npq, upd_same]), [(kCells, .ref l), (kAt, .int 0), (kLeft, .int 0), (kUsed, .int 0)], rfl, (by show 4 ≤ 15; decide), ?_⟩
    have em : mergeK [] [(kCells, V.ref l), (kAt, .int 0), (kLeft, .int 0), (kUsed, .int 0)] = drawKv l 0 0 0 := by kernel_rfl
    rw [em]
    refine k p _ hp (fun b o e => ?_) ⟨l, ns ++ [0], 0, 0, 0, upd_same, ?_, ?_, ?_, by decide, by decide, by decide, by decide, by decide⟩
    · rw [upd_ne (ne_of_none e hp), upd_ne (ne_of_none e hl')]
      exact s1 b o e
    · rw [upd_ne nl, upd_same, List.map_append]
      rfl
    · rw [List.length_append]
      exact Nat.succ_pos _
    · rw [List.length_append]
      exact Nat.succ_le_succ hl
theorem mix_lo (x : Int) : 0 ≤ x % 2147483647 / 7 := by omega
theorem mix_hi (x : Int) : x % 2147483647 / 7 < 2147483648 := by omega
theorem ok_mixed {f : Addr} {fd : FuncData} (F : FnP K "_law_mixed" sMixed f fd) : FnOk P w K mg base CX0 1 f fd ["cell", "k"] spMixed := by
  refine F.ok scMixed (fun vs H Q E h => ?_) (fun cdv A outer s H vs Q E hr h => ⟨_, PSs.nox (pss_cons (ps_set (i := 2) scMixed.nd rfl (Or.inl rfl)
      (pe_op op_mod (pe_op op_add (pe_op op_add (pe_op op_add (pe_op op_mod (pv 0) pe_int) (pe_op op_mul (pe_op op_mul pe_int (pv 1)) (pv 1))) (pe_op op_mul pe_int (pv 1))) pe_int) pe_int))
    (pss_cons (ps_set (i := 2) scMixed.nd rfl (Or.inl rfl) (pe_op op_mod (pe_op op_mul (pe_op op_mod (pe_op op_mul (pv 2) (pv 2)) pe_int) (pv 2)) pe_int))
    (pss_one (ps_ret (pe_op op_fdiv (pe_op op_mod (pe_op op_mul (pv 2) (pe_op op_add pe_int (pe_op op_mul pe_int (pe_op op_mod (pv 1) pe_int)))) pe_int) pe_int))))), ?_⟩)
  · obtain ⟨c, k, rfl, _⟩ := h
    rfl
  · obtain ⟨c, k, rfl, k0, k1, kq⟩ := h
    refine ⟨_, rfl, _, _, rfl, rfl, (by show (0 : Int) < 1000000007; decide), _, rfl, _, _, rfl, rfl, .inl ⟨by decide, by decide⟩, _, rfl, _, _, rfl, rfl, .inl ⟨by omega, by omega⟩, _, _, rfl, rfl, _, rfl, _, _, rfl, rfl, .inl ⟨by decide, by decide⟩, _, _, rfl, rfl,
      _, _, rfl, rfl, _, _, rfl, rfl, (by show (0 : Int) < 2147483647; decide), ?_⟩
    refine ⟨_, rfl, _, rfl, _, _, rfl, rfl, .inl ⟨by omega, by omega⟩, _, _, rfl, rfl, (by show (0 : Int) < 2147483647; decide), _, rfl, _, _, rfl, rfl, .inl ⟨by omega, by omega⟩, _, _, rfl, rfl, (by show (0 : Int) < 2147483629; decide), ?_⟩
    refine ⟨_, rfl, _, rfl, _, _, rfl, rfl, (by show (0 : Int) < 1000; decide), _, _, rfl, rfl, .inl ⟨by decide, by decide⟩, _, _, rfl, rfl, _, _, rfl, rfl, .inl ⟨by omega, by omega⟩, _, _, rfl, rfl, (by show (0 : Int) < 2147483647; decide), _, _, rfl, rfl, ⟨by decide, by decide⟩, ?_⟩
    exact kq _ (mix_lo _) (mix_hi _)
theorem ok_next {f fm : Addr} {fd fdm : FuncData} (F : FnP K "_law_next" sNext f fd) (FM : FnP K "_law_mixed" sMixed fm fdm) (gM : mg "_law_mixed" = some (.ref fm)) (gL : mg "len" = none) : FnOk P w K mg base CX0 2 f fd ["draw", "bound"] spNext := by
  have GM : FnOk P w K mg base CX0 1 fm fdm ["cell", "k"] spMixed := ok_mixed FM
  have bM : Binds K fdm ["cell", "k"] [] := FM.bindsN fun _ _ _ _ _ _ us hl => match us, hl with | [_, _], _ => rfl
  refine F.ok scNext (fun vs H Q E h => ?_) (fun cdv A outer s H vs Q E hr h => ?_)
  · obtain ⟨p, b, N, rfl, _⟩ := h
    rfl
  · have hu := hu_of hr
    refine ⟨_, PSs.nox (pss_cons (ps_if (pt_cmpR op_gt (pe_dget hu (pv 0) pe_str (fun _ _ => rfl)) pe_int (nomark _))
        (pss_cons (ps_set (i := 2) scNext.nd rfl (Or.inl rfl) (pe_op op_mod (pe_dget hu (pv 0) pe_str (fun _ _ => rfl)) (pv 1)))
        (pss_cons (ps_dput hu (pv 0) pe_str (pe_op op_fdiv (pe_dget hu (pv 0) pe_str (fun _ _ => rfl)) (pv 1)) rfl)
        (pss_one (ps_ret (pv 2))))) pss_nil)
      (pss_cons (ps_set (i := 3) scNext.nd rfl (Or.inl rfl) (pe_dget hu (pv 0) pe_str (fun _ _ => rfl)))
      (pss_cons (ps_set (i := 4) scNext.nd rfl (Or.inl rfl) (pe_ix ix_list (pv 3) (pe_op op_mod (pe_dget hu (pv 0) pe_str (fun _ _ => rfl)) (pe_callB call_len (by rfl) gL PySem.boot_len (pa_cons (pv 3) pa_nil))) (fun _ _ => rfl)))
      (pss_cons (ps_dput hu (pv 0) pe_str (pe_op op_add (pe_dget hu (pv 0) pe_str (fun _ _ => rfl)) pe_int) rfl)
      (pss_cons (ps_if (PW.pt (pw_and (pt_cmpR op_ge (pv 4) (pe_op op_pow pe_int pe_int) (nomark _)) (pw_and1 (pt_cmpR op_le (pe_dget hu (pv 0) pe_str (fun _ _ => rfl)) (pe_callB call_len (by rfl) gL PySem.boot_len (pa_cons (pv 3) pa_nil)) (nomark _)))))
        (pss_cons (ps_dput hu (pv 0) pe_str (pe_op op_fdiv (pv 4) (pv 1)) rfl) (pss_one (ps_ret (pe_op op_mod (pv 4) (pv 1))))) pss_nil)
      (pss_cons (ps_dput hu (pv 0) pe_str (pe_op op_add (pe_dget hu (pv 0) pe_str (fun _ _ => rfl)) pe_int) rfl)
      (pss_one (ps_ret (pe_op op_mod (pe_call GM hr (by rfl) gM FM.kp bM .nil pass0 (pa_cons (pe_call GM hr (by rfl) gM FM.kp bM .nil pass0 (pa_cons (pv 4) (pa_cons (pe_dget hu (pv 0) pe_str (fun _ _ => rfl)) pa_nil))) (pa_cons (pe_dget hu (pv 0) pe_str (fun _ _ => rfl)) pa_nil))) (pv 1)))))))))), ?_⟩
    obtain ⟨p, b, N, rfl, D, hN, b0, b1, k⟩ := h
    obtain ⟨l, cs, a, lf, us, hp, hl, l0, l1, a0, a1, f0, u0, u1⟩ := D
    have npl : l ≠ p := ne_of hl hp (by intro z; cases z)
    have hl' : ∀ o, (upd H p o) l = some (.lst (cs.map V.int)) := fun o => by rw [upd_ne npl]; exact hl
    -- if draw['left'] > 0
    refine ⟨_, rfl, p, _, rfl, (by rw [← dk_left]; exact DGet.k (k := kLeft) hp), _, _, rfl, rfl, _, rfl, ?_⟩
    have hz4 : ∀ x y z, (drawKv l x y z).length < sizeLine := fun x y z => by show 4 < sizeLine; decide
    refine ite2 (fun c => ?_) (fun c => ?_)
    · -- found = draw['left'] % bound; draw['left'] = draw['left'] // bound; return found
      have c' : 0 < lf := of_decide_eq_true c
      refine ⟨_, rfl, p, _, rfl, (by rw [← dk_left]; exact DGet.k (k := kLeft) hp), _, rfl, _, _, rfl, rfl, b0, ?_⟩
      refine ⟨_, rfl, p, _, rfl, (by rw [← dk_left]; exact DGet.k (k := kLeft) hp), _, rfl, _, _, rfl, rfl, ⟨b0, b1⟩, _, rfl, p, _, rfl, DPut.k (k := kLeft) hp (hz4 _ _ _), ?_⟩
      rw [dp_left]
      refine ⟨_, rfl, k _ _ (Int.emod_nonneg _ (by omega)) (Int.emod_lt_of_pos _ b0) ⟨l, cs, a, lf / b, us, upd_same, hl' _, l0, l1, a0, by omega, Int.ediv_nonneg (by omega) (by omega), u0, by omega⟩ (Keep.upd ⟨_, _, _, hp⟩)⟩
    · -- cells = draw['cells']; cell = cells[draw['at'] % len(cells)]
      refine ⟨_, rfl, p, _, rfl, (by rw [← dk_cells]; exact DGet.k (k := kCells) hp), ?_⟩
      have ix0 : 0 ≤ a % (cs.length : Int) := Int.emod_nonneg _ (by omega)
      have ix1 : a % (cs.length : Int) < (cs.length : Int) := Int.emod_lt_of_pos _ (by omega)
      have hlt : (a % (cs.length : Int)).toNat < cs.length := by omega
      obtain ⟨z, hz⟩ : ∃ z, cs[(a % (cs.length : Int)).toNat]? = some z := ⟨_, List.getElem?_eq_getElem hlt⟩
      refine ⟨_, rfl, _, rfl, p, _, rfl, (by rw [← dk_at]; exact DGet.k (k := kAt) hp), _, rfl, _, (cs.map V.int).length, rfl, .inl ⟨_, SqL.of hl, rfl⟩, _, _, rfl, rfl, (by rw [List.length_map]; omega), ?_⟩
      refine ⟨l, _, _, V.int z, rfl, rfl, SqL.of hl, at_of (j := (a % (cs.length : Int)).toNat) (by rw [List.length_map]; omega) (by rw [List.getElem?_map, hz]; rfl), ?_⟩
      -- draw['at'] = draw['at'] + 1
      refine ⟨_, rfl, p, _, rfl, (by rw [← dk_at]; exact DGet.k (k := kAt) hp), _, _, rfl, rfl, _, rfl, p, _, rfl, DPut.k (k := kAt) hp (hz4 _ _ _), ?_⟩
      rw [dp_at]
      have hp1 := (upd_same (H := H) (a := p) (o := .dK (drawKv l (a + 1) lf us)))
      -- the test
      refine ⟨_, rfl, _, _, rfl, rfl, ⟨by decide, by decide, by decide⟩, _, _, rfl, rfl, _, rfl, ?_⟩
      have last : ∀ H1 : Hp, H1 p = some (.dK (drawKv l (a + 1) lf us)) → H1 l = some (.lst (cs.map V.int)) → Keep p H H1 → True := fun _ _ _ _ => True.intro
      refine ite2 (fun c1 => ?_) (fun c1 => ?_)
      · refine ⟨_, rfl, p, _, rfl, (by rw [← dk_at]; exact DGet.k (k := kAt) hp1), _, rfl, _, (cs.map V.int).length, rfl, .inl ⟨_, SqL.of (hl' _), rfl⟩, _, _, rfl, rfl, _, rfl, ?_⟩
        refine ite2 (fun c2 => ?_) (fun c2 => ?_)
        · have z0 : (1000000000000000000 : Int) ≤ z := of_decide_eq_true c1
          refine ⟨_, rfl, _, rfl, _, _, rfl, rfl, ⟨b0, b1⟩, _, rfl, p, _, rfl, DPut.k (k := kLeft) hp1 (hz4 _ _ _), ?_⟩
          rw [dp_left]
          refine ⟨_, rfl, _, rfl, _, _, rfl, rfl, b0, ?_⟩
          exact k _ _ (Int.emod_nonneg _ (by omega)) (Int.emod_lt_of_pos _ b0) ⟨l, cs, a + 1, z / b, us, upd_same, by rw [upd_ne npl]; exact hl' _, l0, l1, by omega, by omega, Int.ediv_nonneg (by omega) (by omega), u0, by omega⟩ ((Keep.upd ⟨_, _, _, hp⟩).trans (Keep.upd ⟨_, _, _, upd_same⟩))
        · refine ⟨_, rfl, p, _, rfl, (by rw [← dk_used]; exact DGet.k (k := kUsed) hp1), _, _, rfl, rfl, _, rfl, p, _, rfl, DPut.k (k := kUsed) hp1 (hz4 _ _ _), ?_⟩
          rw [dp_used]
          have hp2 := (upd_same (H := upd H p (.dK (drawKv l (a + 1) lf us))) (a := p) (o := .dK (drawKv l (a + 1) lf (us + 1))))
          refine ⟨_, rfl, _, rfl, p, _, rfl, (by rw [← dk_at]; exact DGet.k (k := kAt) hp2), _, _, rfl, by omega, by omega, fun r1 _ _ => ?_⟩
          refine ⟨_, rfl, p, _, rfl, (by rw [← dk_used]; exact DGet.k (k := kUsed) hp2), _, _, rfl, by omega, by omega, fun r2 _ _ => ?_⟩
          refine ⟨_, rfl, _, _, rfl, rfl, b0, ?_⟩
          exact k _ _ (Int.emod_nonneg _ (by omega)) (Int.emod_lt_of_pos _ b0) ⟨l, cs, a + 1, lf, us + 1, hp2, by rw [upd_ne npl]; exact hl' _, l0, l1, by omega, by omega, f0, by omega, by omega⟩ ((Keep.upd ⟨_, _, _, hp⟩).trans (Keep.upd ⟨_, _, _, upd_same⟩))
      · refine iteF ?_
        refine ⟨_, rfl, p, _, rfl, (by rw [← dk_used]; exact DGet.k (k := kUsed) hp1), _, _, rfl, rfl, _, rfl, p, _, rfl, DPut.k (k := kUsed) hp1 (hz4 _ _ _), ?_⟩
        rw [dp_used]
        have hp2 := (upd_same (H := upd H p (.dK (drawKv l (a + 1) lf us))) (a := p) (o := .dK (drawKv l (a + 1) lf (us + 1))))
        refine ⟨_, rfl, _, rfl, p, _, rfl, (by rw [← dk_at]; exact DGet.k (k := kAt) hp2), _, _, rfl, by omega, by omega, fun r1 _ _ => ?_⟩
        refine ⟨_, rfl, p, _, rfl, (by rw [← dk_used]; exact DGet.k (k := kUsed) hp2), _, _, rfl, by omega, by omega, fun r2 _ _ => ?_⟩
        refine ⟨_, rfl, _, _, rfl, rfl, b0, ?_⟩
        exact k _ _ (Int.emod_nonneg _ (by omega)) (Int.emod_lt_of_pos _ b0) ⟨l, cs, a + 1, lf, us + 1, hp2, by rw [upd_ne npl]; exact hl' _, l0, l1, by omega, by omega, f0, by omega, by omega⟩ ((Keep.upd ⟨_, _, _, hp⟩).trans (Keep.upd ⟨_, _, _, upd_same⟩))
/-! ### a brand, drawn -/
def X40 : Str := ⟨(List.replicate 40 ("x" : Str).cps).foldl (· ++ ·) #[]⟩
def WL : List Str := ["a", "Z", "shop", "shop.item", "shop_item", "None", "bag.", "bagA", X40, "a1.b2_c3", "Bag", "bags"]
theorem WL_free : (WL.all fun x => freeB (.str x) && decide (x.length ≤ 100)) = true := by kernel_rfl
theorem WL_sokB : (WL.all fun x => okW x) = true := by kernel_rfl
theorem WL_sok {x : Str} (h : x ∈ WL) : okW x = true := List.all_eq_true.mp WL_sokB x h
theorem WL_ok {x : Str} (h : x ∈ WL) : freeB (.str x) = true ∧ x.length ≤ 100 := by
  have z := List.all_eq_true.mp WL_free x h
  rw [Bool.and_eq_true] at z
  exact ⟨z.1, of_decide_eq_true z.2⟩
abbrev sLBr : Stmt := top 51
theorem scLBr : FnScope ["draw", "some"] ["draw"] (defScope sLBr) := ⟨rfl, rfl, rfl, by decide +kernel, rfl, by decide +kernel, by decide +kernel⟩
structure Dr (K : PySem.W.Frag) (mg : Str → Option Value) : Prop where
  begin_ : ∃ f fd, FnP K "_law_begin" sBegin f fd ∧ mg "_law_begin" = some (.ref f)
  mixed : ∃ f fd, FnP K "_law_mixed" sMixed f fd ∧ mg "_law_mixed" = some (.ref f)
  next : ∃ f fd, FnP K "_law_next" sNext f fd ∧ mg "_law_next" = some (.ref f)
def spLBr : Sp := fun vs H Q _ => ∃ (p : Addr) (N : Nat), vs = [.ref p] ∧ DrawAt H p N ∧ N < 100000 ∧ ∀ x H', x ∈ WL → DrawAt H' p (N + 1) → Keep p H H' → Q (.str x) H'
theorem sz (n : Nat) (h : n ≤ 1000) : n ≤ sizeLine := Nat.le_trans h (by decide)
theorem ok_lbr {f : Addr} {fd : FuncData} (F : FnP K "_law_brand" sLBr f fd) (N : Nm mg) (D : Dr K mg) : FnOk P w K mg base CX0 3 f fd ["draw"] spLBr := by
  obtain ⟨fX, dX, FX, gX⟩ := D.next
  obtain ⟨fM, dM, FM, gM⟩ := D.mixed
  have GX : FnOk P w K mg base CX0 2 fX dX ["draw", "bound"] spNext := ok_next FX FM gM N.len
  have bX : Binds K dX ["draw", "bound"] [] := FX.bindsN fun _ _ _ _ _ _ us hl => match us, hl with | [_, _], _ => rfl
  refine F.ok scLBr (fun vs H Q E h => ?_) (fun cdv A outer s H vs Q E hr h => ?_)
  · obtain ⟨p, n, rfl, _⟩ := h
    rfl
  · refine ⟨_, PSs.nox (pss_cons (ps_set (i := 1) scLBr.nd rfl (Or.inl rfl) (pe_lst (pa_cons pe_str (pa_cons pe_str (pa_cons pe_str (pa_cons pe_str (pa_cons pe_str (pa_cons pe_str (pa_cons pe_str (pa_cons pe_str (pa_cons (pe_op op_mulS pe_str pe_int) (pa_cons pe_str (pa_cons pe_str (pa_cons pe_str pa_nil))))))))))))))
      (pss_one (ps_ret (pe_ix (show IxR _ (rIxL K) from ix_list) (pv 1) (pe_call GX hr (by rfl) gX FX.kp bX .nil pass0 (pa_cons (pv 0) (pa_cons pe_int pa_nil))) (fun _ _ => rfl))))), ?_⟩
    obtain ⟨p, n, rfl, D0, hn, k⟩ := h
    refine ⟨_, 40, rfl, rfl, by decide, by decide, by decide, sz 12 (by decide), fun l nl => ?_⟩
    have s0 := same_new (o := .lst (WL.map V.str)) nl
    have hl : (upd H l (.lst (WL.map V.str))) l = some (.lst (WL.map V.str)) := upd_same
    have D1 := D0.same s0
    refine ⟨_, rfl, _, rfl, p, 12, n, rfl, D1, by omega, by decide, by decide, fun r H1 ra rb D2 k1 => ?_⟩
    obtain ⟨i, rfl⟩ := Int.eq_ofNat_of_zero_le ra
    have hi : i < 12 := by omega
    have hlt : i < WL.length := hi
    have ei : (WL.map V.str)[i]? = some (.str (WL[i]'hlt)) := by
      rw [List.getElem?_map, List.getElem?_eq_getElem hlt]
      rfl
    refine ⟨l, _, _, _, rfl, rfl, SqL.of (k1 l _ hl (D1.ne hl fun _ z => nomatch z)), atI_nat ei, ?_⟩
    exact k _ H1 (List.getElem_mem hlt) D2 ((Keep.of s0).trans k1)
end
end Kg

set_option Elab.async false
set_option linter.all false
set_option maxRecDepth 100000
set_option maxHeartbeats 2000000
/-! VxBa: C() of a class without an __init__ of its own. -/
namespace L2
open PySem PySem.Spec PyProof.Rows
structure Bare (K : PySem.W.Frag) (C : Addr) : Prop where
  makes : PySem.W.makesIn K C = true
  init : PySem.W.findIn K (.ref C) "__init__" = some (some (.builtin "object.__init__"))
  kp : PySem.W.keepIn K (.ref C) = true
  top : PySem.W.mroIn K C (.type "object") = some true
section
variable {X : Cx} {C : Addr} {pins : List (Addr × Obj)} {σ : St} {H : Hp} {s : Shared} {Q : VK} {x : Str} {p pos : Pos}
open NwA PySem.W PySem.Calls in
theorem run_bare (B : Bare X.K C) (I : Inv X pins σ H s) (h : ∀ x dx, H x = Option.none → H dx = Option.none → dx ≠ x → Q (V.ref x) (upd (upd H dx (.own x)) x (.ins C dx []))) :
    wpAny (model X.prog X.w) X.A (call (.ref C) []) (EP X pins σ Q) X.xe s := by
  have hq := h (s.heap.objs.size + 1) s.heap.objs.size (I.hok.fresh (Nat.le_succ _)) (I.hok.fresh (Nat.le_refl _)) (Nat.ne_of_lt (Nat.lt_succ_self _))
  have I2 := Inv.made (C := C) I
  refine wpAny_call (make_map0 I.kIn B.makes B.init (fun self => PySem.W.Looks.of_pure (oi_bind _)) ?_)
  have obj : ((s.heap.push PySem.W.emptyDict).push (PySem.W.instObj C s.heap.objs.size)).get? (s.heap.objs.size + 1) = some (PySem.W.instObj C s.heap.objs.size) := by heap_get
  have t1 : PySem.W.Looks (model X.prog X.w) ((s.heap.push PySem.W.emptyDict).push (PySem.W.instObj C s.heap.objs.size)) (typeOf (.ref (s.heap.objs.size + 1))) (.ref C) := type_at obj rfl
  have t2 : PySem.W.Looks (model X.prog X.w) ((s.heap.push PySem.W.emptyDict).push (PySem.W.instObj C s.heap.objs.size)) (isInstance (.ref (s.heap.objs.size + 1)) (.type "object")) true := t1.andThen (PySem.W.looks_mroIn I2.kIn B.top)
  refine codeAny_call_builtin oi_plain entry_oi (@check_slot (model X.prog X.w) _ _ _ "object.__init__" "object" "__init__" (.ref (s.heap.objs.size + 1)) [] [] _ oi_kind oi_split t2 (oi_args_any _ [] []) ?_)
  rw [oi_run]
  exact wpAny_pure (And.intro rfl ⟨V.ref _, _, I2, rfl, hq⟩)
/-- C() -/
theorem pe_bare (B : Bare X.K C) (hg : Gl X x) (hm : X.mg x = some (.ref C)) (hdb : (x == ("__debug__" : Str)) = false := by decide) :
    PE X (.Call (.Name x p) [] [] pos) (fun _ H Q => ∀ n dx, H n = none → H dx = none → dx ≠ n → Q (V.ref n) (upd (upd H dx (.own n)) n (.ins C dx []))) :=
  ⟨fun pins s σ H Q I h => wpAny_Call_Name_kw (ld_glob I hg hm (PySem.W.callWith_K0 (first := []) I.kIn B.kp (run_bare B I h)) hdb)⟩
end
end L2

set_option Elab.async false
set_option linter.all false
set_option maxRecDepth 100000
set_option maxHeartbeats 4000000
namespace Kg
open PySem PySem.Spec PyProof.Rows L2 StX ClX LamX
/-! ### the hooks -/
abbrev sLabs : Stmt := top 46
abbrev CF (K : PySem.W.Frag) : Addr := gC K "Fields"
theorem scLabs : FnScope ["labels", "taken", "label"] ["labels"] (defScope sLabs) := ⟨rfl, rfl, rfl, by decide +kernel, rfl, by decide +kernel, by decide +kernel⟩
theorem scFI : FnScope ["self", "brand", "labels"] ((["self", "brand"] : List Str) ++ (["labels"] : List Str)) (defScope sFI) := ⟨rfl, rfl, rfl, by decide +kernel, rfl, by decide +kernel, by decide +kernel⟩
def spLabs (K : PySem.W.Frag) : Sp := fun vs H Q _ => ∃ t : Addr, vs = [.ref t] ∧ SqT K H t [] ∧ ∀ H', Same H H' → Q .non H'
def spFI (K : PySem.W.Frag) : Sp := fun vs H Q _ => ∃ (a dx : Addr) (x : Str) (H0 : Hp), vs = [.ref a, .str x] ∧ H a = some (.ins (CF K) dx []) ∧ H0 a = none ∧ Same H0 H ∧ freeB (.str x) = true ∧ x.length ≤ 100 ∧ ∀ H', Same H0 H' → Q .non H'
def spFIT (K : PySem.W.Frag) : Sp := fun vs H Q _ => ∃ (a t dx : Addr) (x : Str) (H0 : Hp), vs = [.ref a, .str x, .ref t] ∧ H t = some (.tup []) ∧ H a = some (.ins (CF K) dx []) ∧ H0 a = none ∧ Same H0 H ∧ freeB (.str x) = true ∧ x.length ≤ 100 ∧ ∀ H', Same H0 H' → Q .non H'
theorem spFI_mono {K : PySem.W.Frag} {vs : List V} {H : Hp} {Q Q' : VK} {E : XK} (h : spFI K vs H Q E) (m : ∀ v H, Q v H → Q' v H) : spFI K vs H Q' E := by
  obtain ⟨a, dx, x, H0, e, h1, h2, h3, h4, h5, k⟩ := h
  exact ⟨a, dx, x, H0, e, h1, h2, h3, h4, h5, fun H' s => m _ _ (k H' s)⟩
/-- the classes of the hooks -/
structure HkC (K : PySem.W.Frag) (mg : Str → Option Value) : Prop where
  fc : Cls K (CF K)
  fb : NoAttr K (CF K) "_brand"
  fl : NoAttr K (CF K) "_labels"
  fi : ∃ f fd, Mk K (CF K) f ∧ FnM K "__init__" "Fields.__init__" sFI [] f fd
  fm : mg "Fields" = some (.ref (CF K))
  labs : ∃ f fd, FnP K "require_labels" sLabs f fd ∧ mg "require_labels" = some (.ref f)
  wh : Bare K (gC K "Whole")
  wm : mg "Whole" = some (.ref (gC K "Whole"))
  rf : Bare K (gC K "Refill")
  rm : mg "Refill" = some (.ref (gC K "Refill"))
section
variable {P : Program} {w : World} {K : PySem.W.Frag} {mg : Str → Option Value} {base : Heap}
theorem ok_labs {f : Addr} {fd : FuncData} (F : FnP K "require_labels" sLabs f fd) : FnOk P w K mg base CX0 1 f fd ["labels"] (spLabs K) := by
  refine F.ok scLabs (fun vs H Q E h => ?_) (fun cdv A outer s H vs Q E hr h => ?_)
  · obtain ⟨t, rfl, _⟩ := h
    rfl
  · refine ⟨_, PSs.nox (pss_cons (ps_set (i := 1) scLabs.nd rfl (Or.inl rfl) pe_dnewK) (pss_one (ps_for PassesOwn.never rfl (pi_tup (pv 0)) (pg_name (i := 2) scLabs.nd rfl (Or.inl rfl)) pss_dead))), ?_⟩
    obtain ⟨t, rfl, ht, k⟩ := h
    intro q nq
    have s0 := same_new (o := .dK []) nq
    refine ⟨_, rfl, t, rfl, ⟨_, sqT_to s0 ht⟩, for_it (tb := fun _ _ _ => False) (walk_tup (K := K) (a := t) (xs := [])) (fun i σ H' => Same H H') s0 (fun i σ H' _ z => sqT_to z ht) (fun i x σ H' H'' hi => absurd hi (Nat.not_lt_zero _)) fun σ H' z => k H' z⟩
theorem ok_fi {f : Addr} {fd : FuncData} (C : HkC K mg) (F : FnM K "__init__" "Fields.__init__" sFI [] f fd) (N : Nm mg) (T : Ts K mg) : FnR P w K mg base CX0 4 f (spFI K) := by
  obtain ⟨fb, db, FB, gB⟩ := T.free
  have GB : FnOk P w K mg base CX0 2 fb db ["thing"] (spBrand K freeB) := ok_free FB N T.brand
  have bB : Binds K db ["thing"] [] := FB.bindsN fun _ _ _ _ _ _ us hl => match us, hl with | [_], _ => rfl
  obtain ⟨fl, dl, FL, gL⟩ := C.labs
  have GL : FnOk P w K mg base CX0 1 fl dl ["labels"] (spLabs K) := ok_labs FL
  have bL : Binds K dl ["labels"] [] := FL.bindsN fun _ _ _ _ _ _ us hl => match us, hl with | [_], _ => rfl
  obtain ⟨oc, od, dV, kV', doc, pm, an, cdv, ct, osl, rfl, lk, hcd, hD, hK⟩ := F.ex
  obtain rfl : dV = .none := hD.elim (fun z => z.2) fun z => absurd rfl z.1
  have R := fn_star (P := P) (w := w) (mg := mg) (base := base) (CX := CX0) (k := 3) (ps := ["self", "brand"]) (pv := "labels") lk hcd scFI cxUp_none (fun us rest hl => ?bind) (sp := spFIT K) fun A outer s H vs Q E hr h => ?body
  case bind =>
    match us, hl with
    | [u, v], _ => exact bind_star2 (B := fun us => bindArgs (PySem.W.fnOf "__init__" "Fields.__init__" (defArgs sFI) (defBody sFI) (defScope sFI) .none kV' doc pm an cdv ct) ⟨us, []⟩) (fun _ _ => rfl) (fun _ _ _ _ => rfl) [u, v] rest rfl
  case body =>
    refine ⟨_, PSs.nox (pss_cons (ps_if (pt_not (pt_val (pe_call GB (hr.mono (by decide)) (by rfl) gB FB.kp bB .nil pass0 (pa_cons (pv 1) pa_nil)))) pss_dead pss_nil)
      (pss_cons (ps_expr (pe_call GL (hr.mono (by decide)) (by rfl) gL FL.kp bL .nil pass0 (pa_cons (pv 2) pa_nil)))
      (pss_cons (ps_fld (pv 0) (pv 1) (by rfl)) (pss_one (ps_fld (pv 0) (pv 2) (by rfl)))))), ?_⟩
    obtain ⟨a, t, dx, x, H0, rfl, ht, ha, a0, s0, fx, lx, k⟩ := h
    refine ⟨_, rfl, .str x, .str x, rfl, .str x, fun y e => by cases e; exact Nat.le_trans lx (by decide), fun H1 s1 => ⟨_, rfl, ?_⟩⟩
    rw [fx]
    refine iteF ⟨_, rfl, t, rfl, SqT.of (s1 _ _ ht), fun H2 s2 => ?_⟩
    have s12 := s1.tr s2
    refine ⟨_, rfl, _, rfl, a, _, dx, [], rfl, s12 _ _ ha, C.fc, C.fb, by decide, ?_⟩
    refine ⟨_, rfl, _, rfl, a, _, dx, [("_brand", .str x)], rfl, upd_same, C.fc, C.fl, (by show 1 < 1000; decide), ?_⟩
    exact k _ (same_updN (same_updN (s0.tr s12) a0) a0)
  intro A outer s H us vs Q E hr e0 r hsp
  obtain ⟨a, dx, x, H0, rfl, ha, a0, s0, fx, lx, k⟩ := hsp
  refine R A outer s H us _ Q E hr e0 r ⟨[.ref a, .str x], [], rfl, rfl, by decide, fun p np => ?_⟩
  have s1 := same_new (o := .tup []) np
  exact ⟨a, p, dx, x, H0, rfl, upd_same, s1 _ _ ha, a0, s0.tr s1, fx, lx, k⟩
end
/-! ### what a call comes to -/
abbrev sCt : Stmt := top 52
abbrev NC : List Str := ["call", "caught", "found", "e"]
theorem scCt : FnScope NC ["call"] (defScope sCt) := ⟨rfl, rfl, rfl, by decide +kernel, rfl, by decide +kernel, by decide +kernel⟩
structure ErrC (K : PySem.W.Frag) (x fld : Str) : Prop where
  xc : Xc K (gC K x)
  no : PySem.W.findIn K (.ref (gC K x)) fld = some none
  exm : PySem.W.exmAny K (.ref (gC K x)) [.ref (gC K "BrandTaken"), .ref (gC K "InvalidTakes"), .ref (gC K "UnknownBrand")] = some true
structure Cg (K : PySem.W.Frag) (mg : Str → Option Value) : Prop where
  mT : mg "BrandTaken" = some (.ref (gC K "BrandTaken"))
  mI : mg "InvalidTakes" = some (.ref (gC K "InvalidTakes"))
  mU : mg "UnknownBrand" = some (.ref (gC K "UnknownBrand"))
  t : ErrC K "BrandTaken" "given"
  i : ErrC K "InvalidTakes" "value"
  u : ErrC K "UnknownBrand" "given"
  it : PySem.W.kitOne K (.ref (gC K "BrandTaken")) (.ref (gC K "InvalidTakes")) = some false
  ii : PySem.W.kitOne K (.ref (gC K "InvalidTakes")) (.ref (gC K "InvalidTakes")) = some true
  iu : PySem.W.kitOne K (.ref (gC K "UnknownBrand")) (.ref (gC K "InvalidTakes")) = some false
  tt : PySem.W.kitOne K (.ref (gC K "BrandTaken")) (.ref (gC K "BrandTaken")) = some true
  tu : PySem.W.kitOne K (.ref (gC K "UnknownBrand")) (.ref (gC K "BrandTaken")) = some false
/-- a new pair -/
def Pr (z : Str) (v : V) (H : Hp) (Q : VK) : Prop := ∀ p H3, H p = none → Same H H3 → H3 p = some (.tup [.str z, v]) → Q (.ref p) H3
/-- what _law_caught makes of a call -/
def TTc (K : PySem.W.Frag) : (XK → Hp → VK → Prop) → Hp → VK → Prop := fun tl H Q => ∀ (H1 : Hp) (E : XK) (Q' : VK), Same H H1 → (∀ v H2, Pr "returned" v H2 Q → Q' v H2) →
  (∀ (dd : Addr) (v : V) (H2 : Hp), H2 dd = some (.xd [("given", v)]) → Pr "taken" v H2 Q → E (.ref (gC K "BrandTaken")) (some dd) H2) →
  (∀ (dd : Addr) (v : V) (H2 : Hp), H2 dd = some (.xd [("value", v)]) → Pr "takes" v H2 Q → E (.ref (gC K "InvalidTakes")) (some dd) H2) →
  (∀ (dd : Addr) (v : V) (H2 : Hp), H2 dd = some (.xd [("given", v)]) → Pr "unknown" v H2 Q → E (.ref (gC K "UnknownBrand")) (some dd) H2) → tl E H1 Q'
theorem caught_gives {X : Cx} {g : Addr} {cdg : Value} {q : Str} (N : Nm X.mg) (C : Cg X.K X.mg) : GivesS X NC "_law_caught" (defScope sCt) g cdg (defBody sCt) "call" q (TTc X.K) := by
  intro f c' s H Q tl act code h
  refine ⟨_, pss_cons (ps_asg (pe_tup (pa_cons pe_non (pa_cons pe_non pa_nil))) (pg_tup rfl (pgs_cons (pg_name (i := 1) scCt.nd rfl (Or.inl rfl)) (pgs_cons (pg_name (i := 2) scCt.nd rfl (Or.inl rfl)) pgs_nil))))
    (pss_cons (ps_try_kept (i := 3) (j := 1) (Wout := fun _ _ _ _ => False) rfl rfl rfl scCt.nd rfl rfl rfl rfl (by rfl) C.mT (by rfl) C.mI (by rfl) C.mU (fun u s' z => by obtain ⟨_, _, _, _, _, _, _, _, _, _, _, _, _, _, _, _, z⟩ := z; exact z.elim)
      (fun W pn xe tk' _ => pss_one (ps_set (i := 2) scCt.nd rfl (Or.inl rfl) (act W pn xe _ _ tk'))))
    (pss_cons (ps_if (pt_cmp (pc_isN (pv 1))) (pss_one (ps_ret (pe_tup (pa_cons pe_str (pa_cons (pv 2) pa_nil))))) pss_nil)
    (pss_cons (ps_if (pt_val (pe_callB call_isX (by rfl) N.isi (by decide +kernel) (pa_cons (pv 1) (pa_cons (pe_glob (v := .ref (gC X.K "InvalidTakes")) (by rfl) C.mI rfl) pa_nil))))
        (pss_one (ps_ret (pe_tup (pa_cons pe_str (pa_cons (pe_xfd (pv 1)) pa_nil))))) pss_nil)
    (pss_one (ps_ret (pe_ifExp (pt_val (pe_callB call_isX (by rfl) N.isi (by decide +kernel) (pa_cons (pv 1) (pa_cons (pe_glob (v := .ref (gC X.K "BrandTaken")) (by rfl) C.mT rfl) pa_nil))))
      (pe_tup (pa_cons pe_str (pa_cons (pe_xfd (pv 1)) pa_nil))) (pe_tup (pa_cons pe_str (pa_cons (pe_xfd (pv 1)) pa_nil))))))))), ?_⟩
  refine ⟨sz 2 (by decide), fun p0 n0 => ⟨p0, _, rfl, SqT.of upd_same, rfl, _, _, rfl, _, _, rfl, rfl, ?_⟩⟩
  have s0 := same_new (o := .tup [V.non, V.non]) n0
  refine ⟨rfl, s0 _ _ code, h _ _ _ s0 (fun v H2 k => ?ret) (fun dd v H2 hx k => ⟨true, C.t.exm, fun _ => ⟨_, dd, rfl, rfl, fun b nb => ?taken⟩, fun z => by cases z⟩)
    (fun dd v H2 hx k => ⟨true, C.i.exm, fun _ => ⟨_, dd, rfl, rfl, fun b nb => ?takes⟩, fun z => by cases z⟩) (fun dd v H2 hx k => ⟨true, C.u.exm, fun _ => ⟨_, dd, rfl, rfl, fun b nb => ?unk⟩, fun z => by cases z⟩)⟩
  case ret =>
    refine ⟨_, rfl, true, rfl, iteT ?_⟩
    exact ⟨_, rfl, sz 2 (by decide), fun p np => k p _ np (same_new np) upd_same⟩
  case taken =>
    have s3 := same_new (o := exV b (gC X.K "BrandTaken") dd) nb
    have ex : ExAt (upd H2 b (exV b (gC X.K "BrandTaken") dd)) b (gC X.K "BrandTaken") [("given", v)] := ⟨dd, upd_same, s3 _ _ hx⟩
    refine ⟨_, rfl, false, rfl, iteF ?_⟩
    refine ⟨_, rfl, b, _, _, _, _, false, rfl, ex, C.t.xc, fun u r => r, C.it, _, rfl, iteF ?_⟩
    refine ⟨_, rfl, b, _, _, _, _, true, rfl, ex, C.t.xc, fun u r => r, C.tt, _, rfl, iteT ?_⟩
    exact ⟨_, rfl, b, _, _, v, rfl, ex, C.t.xc, C.t.no, rfl, sz 2 (by decide), fun p np => k p _ (none_of s3 np) (s3.tr (same_new np)) upd_same⟩
  case takes =>
    have s3 := same_new (o := exV b (gC X.K "InvalidTakes") dd) nb
    have ex : ExAt (upd H2 b (exV b (gC X.K "InvalidTakes") dd)) b (gC X.K "InvalidTakes") [("value", v)] := ⟨dd, upd_same, s3 _ _ hx⟩
    refine ⟨_, rfl, false, rfl, iteF ?_⟩
    refine ⟨_, rfl, b, _, _, _, _, true, rfl, ex, C.i.xc, fun u r => r, C.ii, _, rfl, iteT ?_⟩
    exact ⟨_, rfl, b, _, _, v, rfl, ex, C.i.xc, C.i.no, rfl, sz 2 (by decide), fun p np => k p _ (none_of s3 np) (s3.tr (same_new np)) upd_same⟩
  case unk =>
    have s3 := same_new (o := exV b (gC X.K "UnknownBrand") dd) nb
    have ex : ExAt (upd H2 b (exV b (gC X.K "UnknownBrand") dd)) b (gC X.K "UnknownBrand") [("given", v)] := ⟨dd, upd_same, s3 _ _ hx⟩
    refine ⟨_, rfl, false, rfl, iteF ?_⟩
    refine ⟨_, rfl, b, _, _, _, _, false, rfl, ex, C.u.xc, fun u r => r, C.iu, _, rfl, iteF ?_⟩
    refine ⟨_, rfl, b, _, _, _, _, false, rfl, ex, C.u.xc, fun u r => r, C.tu, _, rfl, iteF ?_⟩
    exact ⟨_, rfl, b, _, _, v, rfl, ex, C.u.xc, C.u.no, rfl, sz 2 (by decide), fun p np => k p _ (none_of s3 np) (s3.tr (same_new np)) upd_same⟩
end Kg

set_option Elab.async false
set_option linter.all false
set_option maxRecDepth 100000
set_option maxHeartbeats 2000000
/-! VxKw: o.m(e, .., k = v, ..), what it lets out told at the slots. -/
namespace L2
open PySem PySem.Spec PyProof.Rows StX ClX
/-- a def without defaults, called by keywords too: by position, then by the last parameters' names -/
theorem FunD.kbindsP {K : PySem.W.Frag} {x qual : Str} {params : Arguments} {body : List Stmt} {scope : Scope} {kws : List (Str × V)} {f : Addr} {fd : FuncData} {ps ks : List Str} (F : FunD K x qual params body scope [] kws f fd)
    (h : ∀ (kV doc pm : Value) (an : Option Addr) (cdv ct : Value) (us ws : List Value), ws.length = ks.length → us.length + ws.length = ps.length → bindArgs (PySem.W.fnOf x qual params body scope .none kV doc pm an cdv ct) ⟨us, ks.zip ws⟩ = pure (ps.zip (us ++ ws))) (s : Shared) (us ws : List Value) (l1 : ws.length = ks.length) (l2 : us.length + ws.length = ps.length) : BindsTo s fd ⟨us, ks.zip ws⟩ (ps.zip (us ++ ws)) := by
  obtain ⟨oc, od, dV, kV, doc, pm, an, cdv, ct, osl, rfl, lk, hcd, hD, hK⟩ := F.ex
  rcases hD with ⟨_, rfl⟩ | ⟨e, _⟩
  · exact .of_eq (h kV doc pm an cdv ct us ws l1 l2)
  · exact absurd rfl e
section
variable {X : Cx} {CX : CXT} {k n : Nat} {f C : Addr} {fd : FuncData} {ps ks : List Str} {sp : Sp} {m : Str} {pos apos : Pos} {o e : Expr} {es : List Expr} {kws : List Keyword} {ta : TE} {t tk : TA} {E : L2.St → XK} {g : List Value → List Value → List Value} {gV : List V → List V → List V}
/-- o.m(e, .., k = v, ..) -/
theorem pe_methKNg {pl : Sem Bool} (he : PE X o ta) (c : Cls X.K C) (hm : Meth X.K C m f) (F : FnOk X.prog X.w X.K X.mg X.base CX k f fd ps sp) (hr : Room k X.A) (hx : ∀ σ, PassesAt CX X σ (E σ)) (hb : KBn X.K fd ps (n + 1) ks g gV) (ha : PA X (e :: es) t) (hkw : PK X kws tk)
    (hall : (backToKw pos (keywordEach kws X.env)).all (·.1.isSome) = true := by rfl) (hks : (backToKw pos (keywordEach kws X.env)).filterMap (·.1) = ks := by rfl)
    (hst : starEach (e :: es) X.env = (false, eval e X.env) :: starEach es X.env := by rfl)
    (hpl : ((backTo pos (starEach (e :: es) X.env)).any (·.1) || (backToKw pos (keywordEach kws X.env)).any (·.1.isNone)) = false := by rfl)
    (ht : eval (.Call (.Attribute o m apos) (e :: es) kws pos) X.env = (do
      let ov ← eval o X.env
      standAt apos.atName
      let (f, first) ← holding [ov] (getMethod ov m pl)
      callWith pos f first (backTo pos (starEach (e :: es) X.env)) (backToKw pos (keywordEach kws X.env))) := by rfl) :
    PE X (.Call (.Attribute o m apos) (e :: es) kws pos) (fun σ H Q => ta σ H fun y H1 => ∃ a dx fs, y = .ref a ∧ H1 a = some (.ins C dx fs) ∧ fs.lookup m = none ∧ t σ H1 fun vs H2 => tk σ H2 fun zs H3 => vs.length = n ∧ zs.length = ks.length ∧ sp (gV (y :: vs) zs) H3 Q (E σ)) := by
  refine ⟨fun pins s σ H Q I h => PySem.W.methodCall_KW (pl := pl) (thn (he.run pins s σ H _ I h) fun u s1 hh => ?_) ht⟩
  obtain ⟨y, H1, I1, rx, a, dx, fs, rfl, ea, l, q⟩ := hh
  obtain rfl : u = Value.ref a := rx
  refine getmeth_ok I1 ea c hm l (PySem.W.callWith_KW (first := [.ref a]) (h₀ := X.base) I.ok.mod.kin hm.kp hall (thn (ha.run pos pins s1 σ H1 _ I1 q) fun us s2 z => ?_) hpl hst)
  obtain ⟨vs, H2, I2, r, q2⟩ := z
  refine thn (hkw.run pos pins s2 σ H2 _ I2 q2) fun ws s3 z => ?_
  obtain ⟨zs, H3, I3, rz, l1, l2, q3⟩ := z
  refine ⟨I3.kIn, ?_⟩
  rw [hks]
  have r2 : Vals (V.ref a :: vs) (Value.ref a :: us) := .cons rfl r
  refine wpAny_call (codeAny_mono (F.run X.A X.stack s3 H3 ⟨Value.ref a :: us, ks.zip ws⟩ (g (Value.ref a :: us) ws) (gV (V.ref a :: vs) zs) Q (E σ) hr I3.env0 (hb.to s3 _ ws I3.kIn (by rw [List.length_cons, ← r.length, l1]) (by rw [← rz.length]; exact l2)) (hb.rel r2 rz) q3) fun rs s' hq => ?_)
  cases rs with
  | error er => exact hx σ _ H3 s3 er s' I3 hq
  | ok fl =>
    cases fl with
    | ret u => exact I3.after hq
    | next => exact hq.elim
    | brk => exact hq.elim
    | cont => exact hq.elim
end
end L2

set_option Elab.async false
set_option linter.all false
set_option maxRecDepth 100000
set_option maxHeartbeats 4000000
namespace Kg
open PySem PySem.Spec PyProof.Rows L2 StX ClX LamX
abbrev FnE (K : PySem.W.Frag) (f : Addr) (fd : FuncData) : Prop := FunD K "enter" "Registry.enter" (defArgs sRgE) (defBody sRgE) (defScope sRgE) [] [("takes", .int 0), ("build", .non)] f fd
abbrev sEd : Stmt := top 53
abbrev NEd : List Str := ["book", "word", "many", "is_named", "make_here", "build_here"]
theorem scEd : FnScope NEd ["book", "word", "many", "is_named"] (defScope sEd) := ⟨rfl, rfl, rfl, by decide +kernel, rfl, by decide +kernel, by decide +kernel⟩
/-- what _law_entered(book, word, many, is_named) comes to -/
def spEd (K : PySem.W.Frag) : Sp := fun vs H Q E => ∃ (a q : Addr) (R : List Rw) (x : Str) (t : V) (dt : PyData) (b : Bool), vs = [.ref a, .str x, t, .bl b] ∧ RegAt K H a q (wE R) ∧ R.length ≤ 60 ∧ x ∈ WL ∧ Sd K H t dt ∧
  (fR R x = none → (tkB dt = true → ∀ e H', KpQ q H H' → H' q = some (.dK (putK (wE R) (.inr x) e)) → EntAt K H' e t → Q .non H') ∧ (tkB dt = false → Err (gC K "InvalidTakes") "value" t H E)) ∧ ((fR R x).isSome = true → Err (gC K "BrandTaken") "given" (.str x) H E)
theorem len_wE (R : List Rw) : (wE R).length = R.length := List.length_map _
theorem vals_rev {zs : List V} {ws : List Value} (r : Vals zs ws) : Vals zs.reverse ws.reverse := by
  induction r with
  | nil => exact .nil
  | cons h _ ih =>
    rw [List.reverse_cons, List.reverse_cons]
    exact ih.append (.cons h .nil)
section
variable {P : Program} {w : World} {K : PySem.W.Frag} {mg : Str → Option Value} {base : Heap}
/-- all by keyword, from the last to the first -/
theorem enter_kw {f : Addr} {fd : FuncData} (F : FnE K f fd) : ∃ mv : List Value, KBn K fd NE 1 ["build", "takes", "reduce", "make", "brand"] (fun us ws => us ++ ws.reverse) (fun vs zs => vs ++ zs.reverse) := by
  refine F.kbinds0 (ps := NE) 1 ["build", "takes", "reduce", "make", "brand"] [] (fun us _ ws => us ++ ws.reverse) (by decide) (fun q m => nomatch m) (fun r1 _ r3 => r1.append (vals_rev r3)) fun D doc pm an cdv ct us mv ws l1 l2 l3 => ?_
  match us, mv, ws, l1, l2, l3 with
  | [_], [], [_, _, _, _, _], _, _, _ => exact rfl
/-- three by position, what it takes by keyword, build's default -/
theorem enter_pos {f : Addr} {fd : FuncData} (F : FnE K f fd) : ∃ mv : List Value, KBn K fd NE 4 ["takes"] (fun us ws => us ++ (ws ++ mv)) (fun vs zs => vs ++ (zs ++ [.non])) := by
  refine F.kbinds0 (ps := NE) 4 ["takes"] [("build", .non)] (fun us mv ws => us ++ (ws ++ mv)) (by decide) (fun q m => by rw [List.mem_singleton.mp m]; exact .tail _ (.head _)) (fun r1 r2 r3 => r1.append (r3.append r2)) fun D doc pm an cdv ct us mv ws l1 l2 l3 => ?_
  match us, mv, ws, l1, l2, l3 with
  | [_, _, _, _], [b], [_], _, _, _ => exact ⟨_, _, _, _, _, _, rfl, rfl, rfl⟩
theorem ok_entered {f : Addr} {fd : FuncData} (B : RgC K) (C : EnC K mg) (HK : HkC K mg) (ME : ∃ f fd, Meth K (CR K) "enter" f ∧ FnE K f fd) (F : FnP K "_law_entered" sEd f fd) (N : Nm mg) (S : Es P w K mg base) (T : Ts K mg) : FnOk P w K mg base (L2.CX P w) 6 f fd ["book", "word", "many", "is_named"] (spEd K) := by
  obtain ⟨fe, de, ME, FE⟩ := ME
  have GE : FnOk P w K mg base (L2.CX P w) 4 fe de NE (spEnter K) := ok_enter B C FE N S T
  obtain ⟨mv1, kb1⟩ := enter_kw FE
  obtain ⟨mv2, kb2⟩ := enter_pos FE
  obtain ⟨fi, di, MI, FI⟩ := HK.fi
  have GI : FnR P w K mg base CX0 4 fi (spFI K) := ok_fi HK FI N T
  refine F.ok scEd (fun vs H Q E h => ?_) (fun cdv A outer s H vs Q E hr h => ?_)
  · obtain ⟨a, q, R, x, t, dt, b, rfl, _⟩ := h
    rfl
  · refine ⟨_, pss_cons (ps_par (i := 4) (j := 5) rfl scEd.nd rfl rfl (by decide) rfl rfl (pa_cons (pe_makeR (E := E0) MI GI hr (by rfl) HK.fm pass0 (pa_cons pe_str pa_nil)) (pa_cons (pe_bare HK.rf (by rfl) HK.rm) pa_nil)) (by rfl))
      (pss_cons (ps_if (pt_val (pv 3)) (pss_one (ps_ret (pe_methKSg (pv 0) B.cls ME GE (hr.mono (by decide)) (fun σ => passAt (takes_of rfl rfl rfl rfl) σ) (fun s a ws kin hl => kb1.to s [.ref a] ws kin rfl hl) vals_rev (pk_cons (pv 5) (pk_cons (pv 2) (pk_cons (pe_bare HK.wh (by rfl) HK.wm) (pk_cons (pv 4) (pk_cons (pv 1) pk_nil)))))))) pss_nil)
      (pss_one (ps_ret (pe_methKNg (n := 3) (pv 0) B.cls ME GE (hr.mono (by decide)) (fun σ => passAt (takes_of rfl rfl rfl rfl) σ) kb2 (pa_cons (pv 1) (pa_cons (pv 4) (pa_cons (pe_bare HK.wh (by rfl) HK.wm) pa_nil))) (pk_cons (pv 2) pk_nil))))), ?_⟩
    obtain ⟨a, q, R, x, t, dt, b, rfl, ⟨dx, ha, hq⟩, hl, hx, ht, k1, k2⟩ := h
    intro n1 x1 hn1 hd1 ne1
    have sA : Same H (upd (upd H x1 (.own n1)) n1 (.ins (CF K) x1 [])) := same_updN (same_updN Same.refl' hd1) hn1
    refine spFI_mono (Q := fun v H2 => v = .non ∧ Same H H2) ⟨n1, x1, "made", H, rfl, upd_same, hn1, sA, by kernel_rfl, by decide +kernel, fun H2 s2 => ⟨rfl, s2⟩⟩ fun v H2 z => ?_
    obtain ⟨rfl, s2⟩ := z
    refine ⟨rfl, fun n2 x2 hn2 hd2 ne2 => ⟨_, _, rfl, ?_⟩⟩
    have sB : Same H2 (upd (upd H2 x2 (.own n2)) n2 (.ins (gC K "Refill") x2 [])) := same_updN (same_updN Same.refl' hd2) hn2
    have s3 := s2.tr sB
    generalize upd (upd H2 x2 (.own n2)) n2 (.ins (gC K "Refill") x2 []) = H3 at *
    refine ⟨_, rfl, b, rfl, ?_⟩
    obtain ⟨fx, lx⟩ := WL_ok hx
    have hfit : fits (.str x) := fun y e => by
      cases e
      exact Nat.le_trans lx (by decide)
    have hl100 : (wE R).length ≤ 100 := by
      rw [len_wE]
      omega
    -- the entry's promise, over a heap that has grown
    have fin : ∀ {H4 : Hp} (m r bu : V), Same H H4 → spEnter K [.ref a, .str x, m, r, t, bu] H4 Q E := fun {H4} m r bu s4 =>
      ⟨a, q, wE R, .str x, m, r, t, bu, .str x, dt, rfl, ⟨dx, s4 _ _ ha, s4 _ _ hq⟩, hl100, .str x, hfit, sd_to ht s4, fun _ => ⟨fun e => ?_, fun e => ?_⟩, fun e => ?_⟩
    case refine_1 =>
      have e2 : fR R x = none := by
        rw [hasE] at e
        cases z : fR R x with
        | none => rfl
        | some r =>
          rw [z] at e
          cases e
      obtain ⟨k3, k4⟩ := k1 e2
      refine ⟨fun e3 y e H' ey kq hq' en => ?_, fun e3 => err_to s4 (k4 e3)⟩
      cases ey
      exact k3 e3 e H' (fun c o hc nc => kq c o (s4 _ _ hc) nc) hq' en
    case refine_2 =>
      rw [hasE] at e
      exact err_to s4 (k2 e)
    case refine_3 =>
      rw [fx] at e
      cases e
    cases b with
    | true =>
      refine iteT ⟨_, rfl, a, dx, _, rfl, s3 _ _ ha, rfl, ?_⟩
      refine ⟨_, rfl, _, rfl, fun n3 x3 hn3 hd3 ne3 => ⟨_, rfl, _, rfl, rfl, fin _ _ _ (s3.tr (same_updN (same_updN Same.refl' hd3) hn3))⟩⟩
    | false =>
      refine iteF ⟨_, rfl, a, dx, _, rfl, s3 _ _ ha, rfl, ?_⟩
      refine ⟨_, rfl, _, rfl, fun n3 x3 hn3 hd3 ne3 => ⟨_, rfl, rfl, rfl, fin _ _ _ (s3.tr (same_updN (same_updN Same.refl' hd3) hn3))⟩⟩
end
end Kg

set_option Elab.async false
set_option linter.all false
set_option maxRecDepth 100000
set_option maxHeartbeats 4000000
namespace Kg
open PySem PySem.Spec PyProof.Rows L2 StX ClX LamX
abbrev sCR : Stmt := top 54
abbrev NR : List Str := ["draw", "book", "known", "word", "way", "many", "due", "told"]
theorem scCR : FnScope NR ["draw", "book", "known"] (defScope sCR) := ⟨rfl, rfl, rfl, by decide +kernel, rfl, by decide +kernel, by decide +kernel⟩
def sC (k : Nat) : Stmt := (defBody sCR).getD k (.Pass ⟨0, 0, 0, 0⟩)
def qC : Str := "_law_call_right.<locals>.<lambda>"
def qR : Str := "_law_read_right.<locals>.<lambda>"
abbrev T2 (K : PySem.W.Frag) : List (Addr × Str) := [((tC K).2, qC), ((tR K).2, qR)]
abbrev XR (P : Program) (w : World) (K : PySem.W.Frag) (mg : Str → Option Value) (base : Heap) (f : Addr) (cdv : Value) (A : Around) (outer : List Env) (s : Shared) (H : Hp) (E : XK) : Cx := (cxOf CX0 P w K mg base NR "_law_call_right" (defScope sCR) f cdv A outer s H E).nox
theorem qC_eq {P : Program} {w : World} {K : PySem.W.Frag} {mg : Str → Option Value} {base : Heap} {f : Addr} {cdv : Value} {A : Around} {outer : List Env} {s : Shared} {H : Hp} {E : XK} : (XR P w K mg base f cdv A outer s H E).env.qual ++ "<lambda>" = qC := by
  show ("_law_call_right.<locals>." : Str) ++ "<lambda>" = qC
  kernel_rfl
/-! ### what is drawn and told -/
def ML : List V := [.int 0, .int 1, .int 20, .int 21, .int (0 - 1), .bl true, .non, .str "2"]
def MD : List PyData := [.int 0, .int 1, .int 20, .int 21, .int (0 - 1), .bool true, .none, .str "2"]
def Mn (v : V) (d : PyData) : Prop := ∃ j, j < 8 ∧ ML[j]? = some v ∧ MD[j]? = some d
theorem Mn.sd {v : V} {d : PyData} (h : Mn v d) (K : PySem.W.Frag) (H : Hp) : Sd K H v d := by
  obtain ⟨j, hj, e1, e2⟩ := h
  match j, hj with
  | 0, _ => cases e1; cases e2; exact .int _
  | 1, _ => cases e1; cases e2; exact .int _
  | 2, _ => cases e1; cases e2; exact .int _
  | 3, _ => cases e1; cases e2; exact .int _
  | 4, _ => cases e1; cases e2; exact .int _
  | 5, _ => cases e1; cases e2; exact .bl _
  | 6, _ => cases e1; cases e2; exact .non
  | 7, _ => cases e1; cases e2; exact .str _
def prB (z : Str) (d : PyData) : Bool := (PyData.tuple [.str z, d]).showable && (decide ((PyData.tuple [.str z, d]).depth ≤ 40) && decide ((PyData.tuple [.str z, d]).shown.length ≤ 1000))
def wds : List Str := ["returned", "taken", "takes", "unknown"]
theorem prB_w : (wds.all fun z => WL.all fun x => prB z (.str x)) = true := by kernel_rfl
theorem prB_m : (wds.all fun z => MD.all fun d => prB z d) = true := by kernel_rfl
theorem prB_fit {z : Str} {d : PyData} (h : prB z d = true) : (PyData.tuple [.str z, d]).showable = true ∧ (PyData.tuple [.str z, d]).depth ≤ 40 ∧ (PyData.tuple [.str z, d]).shown.length ≤ sizeLine := by
  unfold prB at h
  rw [Bool.and_eq_true, Bool.and_eq_true] at h
  exact ⟨h.1, of_decide_eq_true h.2.1, Nat.le_trans (of_decide_eq_true h.2.2) (by decide)⟩
theorem pr_w {z : Str} {x : Str} (hz : z ∈ wds) (hx : x ∈ WL) : prB z (.str x) = true := List.all_eq_true.mp (List.all_eq_true.mp prB_w z hz) x hx
theorem pr_m {z : Str} {v : V} {d : PyData} (hz : z ∈ wds) (h : Mn v d) : prB z d = true := by
  obtain ⟨j, _, _, e⟩ := h
  exact List.all_eq_true.mp (List.all_eq_true.mp prB_m z hz) d (List.mem_of_getElem? e)
/-- repr(many) in ('0', '1', '20') -/
theorem mn_in {v : V} {d : PyData} (h : Mn v d) : inV (.str d.shown) [.str "0", .str "1", .str "20"] = tkB d := by
  obtain ⟨j, hj, e1, e2⟩ := h
  match j, hj with
  | 0, _ => cases e2; kernel_rfl
  | 1, _ => cases e2; kernel_rfl
  | 2, _ => cases e2; kernel_rfl
  | 3, _ => cases e2; kernel_rfl
  | 4, _ => cases e2; kernel_rfl
  | 5, _ => cases e2; kernel_rfl
  | 6, _ => cases e2; kernel_rfl
  | 7, _ => cases e2; kernel_rfl
theorem mn_sh {v : V} {d : PyData} (h : Mn v d) : d.showable = true ∧ d.depth ≤ 40 ∧ d.shown.length ≤ sizeLine := by
  have z : (MD.all fun d => d.showable && (decide (d.depth ≤ 40) && decide (d.shown.length ≤ 1000))) = true := by kernel_rfl
  obtain ⟨j, _, _, e⟩ := h
  have y := List.all_eq_true.mp z d (List.mem_of_getElem? e)
  rw [Bool.and_eq_true, Bool.and_eq_true] at y
  exact ⟨y.1, of_decide_eq_true y.2.1, Nat.le_trans (of_decide_eq_true y.2.2) (by decide)⟩
theorem mn_tk {v : V} {d : PyData} (h : Mn v d) (t : tkB d = true) : ∃ n : Int, v = .int n ∧ 0 ≤ n ∧ n ≤ 20 := by
  obtain ⟨j, hj, e1, e2⟩ := h
  match j, hj with
  | 0, _ => cases e1; exact ⟨_, rfl, by decide, by decide⟩
  | 1, _ => cases e1; exact ⟨_, rfl, by decide, by decide⟩
  | 2, _ => cases e1; exact ⟨_, rfl, by decide, by decide⟩
  | 3, _ => cases e2; cases t
  | 4, _ => cases e2; cases t
  | 5, _ => cases e2; cases t
  | 6, _ => cases e2; cases t
  | 7, _ => cases e2; cases t
/-! ### the state: the draws, a Registry, what the law holds it to know -/
structure Ks (K : PySem.W.Frag) (p b q kd : Addr) (N : Nat) (RE RU : List Rw) (H : Hp) : Prop where
  draw : DrawAt H p N
  reg : RegAt K H b q (wE RE)
  kn : H kd = some (.dK (wU RU))
  ok : OkR K H RE
  tabs : Tabs (T2 K) H
  npq : p ≠ q
  npk : p ≠ kd
  nqk : q ≠ kd
/-- all but q and the tables stands -/
def FrQ (q : Addr) (H H' : Hp) : Prop := ∀ c o, H c = some o → c ≠ q → (∀ ps, o ≠ .tbl ps) → H' c = some o
theorem FrQ.of {q : Addr} {H H' : Hp} (e : ExtN H H') : FrQ q H H' := fun c o h _ n => e c o h n
theorem FrQ.kp {q : Addr} {H H' : Hp} (e : KpQ q H H') : FrQ q H H' := fun c o h n _ => e c o h n
theorem FrQ.tr {q : Addr} {H H1 H2 : Hp} (a : FrQ q H H1) (b : FrQ q H1 H2) : FrQ q H H2 := fun c o h n t => b c o (a c o h n t) n t
theorem tabs_kp {T : List (Addr × Str)} {H H' : Hp} {q : Addr} {kvs : List (Key × V)} (t : Tabs T H) (hq : H q = some (.dK kvs)) (k : KpQ q H H') : Tabs T H' := by
  intro r hr
  obtain ⟨ps, h1, h2, h3⟩ := t r hr
  refine ⟨ps, k _ _ h1 (fun z => by rw [z, hq] at h1; cases h1), h2, fun pos cv hc => ?_⟩
  obtain ⟨c, e1, e2⟩ := h3 pos cv hc
  exact ⟨c, e1, k _ _ e2 (fun z => by rw [z, hq] at e2; cases e2)⟩
section
variable {K : PySem.W.Frag} {p b q kd : Addr} {N : Nat} {RE RU R' : List Rw} {H H' : Hp}
theorem drawAt_fr {p q : Addr} {N : Nat} {H H' : Hp} (d : DrawAt H p N) (n : p ≠ q) (e : FrQ q H H') (hq : ∃ kvs, H q = some (.dK kvs)) : DrawAt H' p N := by
  obtain ⟨l, cs, a, b, c, h1, h2, r⟩ := d
  refine ⟨l, cs, a, b, c, e _ _ h1 n (fun _ z => nomatch z), e _ _ h2 (fun z => ?_) (fun _ z => nomatch z), r⟩
  obtain ⟨kvs, hq⟩ := hq
  rw [z, hq] at h2
  cases h2
theorem Ks.frame (k : Ks K p b q kd N RE RU H) (e : FrQ q H H') (T : Tabs (T2 K) H') (hq : H' q = some (.dK (wE R'))) (ok : OkR K H' R') : Ks K p b q kd N R' RU H' := by
  obtain ⟨dx, hb, hq0⟩ := k.reg
  exact ⟨drawAt_fr k.draw k.npq e ⟨_, hq0⟩, ⟨dx, e _ _ hb (fun z => by rw [z, hq0] at hb; cases hb) (fun _ z => nomatch z), hq⟩, e _ _ k.kn k.nqk.symm (fun _ z => nomatch z), ok, T, k.npq, k.npk, k.nqk⟩
theorem Ks.ext (k : Ks K p b q kd N RE RU H) (e : ExtN H H') (T : Tabs (T2 K) H') : Ks K p b q kd N RE RU H' := by
  obtain ⟨dx, hb, hq0⟩ := k.reg
  exact k.frame (.of e) T (e _ _ hq0 fun _ z => nomatch z) (k.ok.keep fun a C dx fs h => e _ _ h fun _ z => nomatch z)
theorem Ks.same (k : Ks K p b q kd N RE RU H) (s : Same H H') : Ks K p b q kd N RE RU H' := k.ext (fun c o h _ => s c o h) (k.tabs.ext s)
/-- what the law holds it to know, stored anew -/
theorem Ks.know (k : Ks K p b q kd N RE RU H) : Ks K p b q kd N RE R' (upd H kd (.dK (wU R'))) := by
  obtain ⟨dx, hb, hq0⟩ := k.reg
  have kk : KpQ kd H (upd H kd (.dK (wU R'))) := fun c o h n => by
    rw [upd_ne n]
    exact h
  refine ⟨drawAt_fr k.draw k.npk (.kp kk) ⟨_, k.kn⟩, ⟨dx, kk _ _ hb (fun z => by rw [z, k.kn] at hb; cases hb), kk _ _ hq0 k.nqk⟩, upd_same, k.ok.keep fun a C dx fs h => kk _ _ h (fun z => by rw [z, k.kn] at h; cases h), tabs_kp k.tabs k.kn kk, k.npq, k.npk, k.nqk⟩
end
end Kg

set_option Elab.async false
set_option linter.all false
set_option maxRecDepth 100000
set_option maxHeartbeats 4000000
namespace Kg
open PySem PySem.Spec PyProof.Rows L2 StX ClX LamX
/-- all but q, kd and the tables stands -/
def Fr3 (q kd : Addr) (H H' : Hp) : Prop := ∀ c o, H c = some o → c ≠ q → c ≠ kd → (∀ ps, o ≠ .tbl ps) → H' c = some o
theorem Fr3.q {q kd : Addr} {H H' : Hp} (e : FrQ q H H') : Fr3 q kd H H' := fun c o h n _ t => e c o h n t
theorem Fr3.kd {q kd : Addr} {H : Hp} {o : HO} : Fr3 q kd H (upd H kd o) := fun c u h _ n _ => by
  rw [upd_ne n]
  exact h
theorem Fr3.tr {q kd : Addr} {H H1 H2 : Hp} (a : Fr3 q kd H H1) (b : Fr3 q kd H1 H2) : Fr3 q kd H H2 := fun c o h n n2 t => b c o (a c o h n n2 t) n n2 t
theorem isSome_ex {α : Type} {o : Option α} (h : o.isSome = true) : ∃ r, o = some r := by
  cases o with
  | none => cases h
  | some r => exact ⟨r, rfl⟩
theorem isD {H : Hp} {a : Addr} {kvs : List (Key × V)} (h : H a = some (.dK kvs)) : IsD H a := .inl ⟨kvs, .inl h⟩
theorem lenU (R : List Rw) (h : R.length < 60) : (wU R).length < sizeLine := by
  have e : (wU R).length = R.length := List.length_map _
  rw [e]
  exact Nat.lt_of_lt_of_le h (by decide)
theorem nd_inr {xs : List Str} (h : xs.Nodup) : (xs.map (Sum.inr : Str → Key)).Nodup := List.Pairwise.map _ (fun a b n z => n (Sum.inr.inj z)) h
theorem val_put (kvs : List (Key × V)) (k : Key) (v : V) : valV (putK kvs k v) k = some v := by
  rw [valV_put, if_pos rfl]
theorem upd_upd {H : Hp} {a : Addr} {o u : HO} : upd (upd H a o) a u = upd H a u := by
  funext c
  by_cases e : c = a
  · rw [e, upd_same, upd_same]
  · rw [upd_ne e, upd_ne e, upd_ne e]
/-- the law's defs that the calls want -/
structure Wk (K : PySem.W.Frag) (mg : Str → Option Value) : Prop where
  B : RgC K
  C : EnC K mg
  HK : HkC K mg
  T : Ts K mg
  G : Cg K mg
  allow : ∃ f fd, Meth K (CR K) "allow" f ∧ FnM K "allow" "Registry.allow" sRgA [] f fd
  forget : ∃ f fd, Meth K (CR K) "forget" f ∧ FnM K "forget" "Registry.forget" sRgF [] f fd
  enter : ∃ f fd, Meth K (CR K) "enter" f ∧ FnE K f fd
  takes : ∃ f fd, Meth K (CR K) "takes_of" f ∧ FnM K "takes_of" "Registry.takes_of" sRgT [] f fd
  caught : ∃ f fd, FnP K "_law_caught" sCt f fd ∧ mg "_law_caught" = some (.ref f)
  entered : ∃ f fd, FnP K "_law_entered" sEd f fd ∧ mg "_law_entered" = some (.ref f)
  ne : (tC K).2 ≠ (tR K).2
section
variable {P : Program} {w : World} {K : PySem.W.Frag} {mg : Str → Option Value} {base : Heap} {f : Addr} {cdv : Value} {A : Around} {outer : List Env} {s : Shared} {H : Hp} {E : XK}
/-- _law_caught(lambda: body) -/
theorem cr_lam {scope : Scope} {params : Arguments} {body : Expr} {k : Nat} {t : XK → TE} {p pos lpos : Pos} (N : Nm mg) (W : Wk K mg) (TB : TabB base mg (tC K).1 (tC K).2) (hcode : cdv = .ref (tC K).1)
    (hr : Room 8 (A.deeper (envOfC "_law_call_right" (defScope sCR) s.heap.objs.size f cdv))) (hk : k ≤ 6) (L : LamS (defScope sCR) scope) (hdef : defaultsOf params (XR P w K mg base f cdv A outer s H E).env = ([], []))
    (noargs : ∀ (q : Str) (cl : List (Str × Addr)) (pm cv ctv : Value), bindArgs (PySem.W.kla_fn "<lambda>" q params body scope cl pm cv ctv) ⟨[], []⟩ = pure [])
    (run : ∀ (A' : Around) (outer' : List Env) (s' : Shared) (H' : Hp) (E' : XK) (f' c' : Addr), Room k (A'.deeper (lamEnv (XR P w K mg base f cdv A outer s H E) scope s'.heap.objs.size f' c')) → PE (lamCx (XR P w K mg base f cdv A outer s H E) A' outer' s' H' E' scope f' c') body (t E')) :
    PE (XR P w K mg base f cdv A outer s H E) (.Call (.Name "_law_caught" p) [.Lambda params body scope lpos] [] pos) (tLam (T2 K) (TTc K) t) := by
  obtain ⟨fm, dm, FM, gM⟩ := W.caught
  have bM : L2.Binds K dm ["call"] [] := FM.bindsN fun _ _ _ _ _ _ us hl => match us, hl with | [_], _ => rfl
  refine pe_lamS (X := XR P w K mg base f cdv A outer s H E) (k := 6) (by rfl) gM FM.kp FM bM scCt rfl (Or.inl rfl) (fun cdv => caught_gives N W.G) TB hcode (by rw [qC_eq]; exact .head _) (fun p m hp => ?_) hr L hdef noargs (fun A2 outer2 s2 H2 E2 f2 c2 hr2 => run _ _ _ _ _ _ _ (hr2.mono hk))
  rcases List.mem_cons.mp m with rfl | m
  · rw [qC_eq]
  · rw [List.mem_singleton.mp m] at hp
    exact absurd hp.symm W.ne
/-- what the law asks of the Registry, and what is due -/
theorem cr_s2 (N : Nm mg) (W : Wk K mg) (S : Es P w K mg base) (SY : SysK K) (TB : TabB base mg (tC K).1 (tC K).2) (hcode : cdv = .ref (tC K).1) (hgu : (XR P w K mg base f cdv A outer s H E).A.guards = some []) (hr : Room 8 (XR P w K mg base f cdv A outer s H E).A) :
    ∃ t, PS (XR P w K mg base f cdv A outer s H E) (sC 2) t ∧ ∀ (D : Ends) (H0 : Hp) (p b q kd d0 : Addr) (n : Nat) (R : List Rw) (x : Str) (way : Int) (v : V) (d : PyData), Ks K p b q kd n R R H0 → R.length < 60 → x ∈ WL → Mn v d → H0 d0 = some (.tup [.str "returned", .non]) →
      (∀ H' R' dU tO z u du, Ks K p b q kd n R' R' H' → R'.length ≤ R.length + 1 → Fr3 q kd H0 H' → H' dU = some (.tup [.str z, u]) → H' tO = some (.tup [.str z, u]) → Sd K H' u du → prB z du = true →
        D.nx [some (.ref p), some (.ref b), some (.ref kd), some (.str x), some (.int way), some v, some (.ref dU), some (.ref tO)] H') →
      t D [some (.ref p), some (.ref b), some (.ref kd), some (.str x), some (.int way), some v, some (.ref d0), some .non] H0 := by
  obtain ⟨fA, dA, MA, FA⟩ := W.allow
  obtain ⟨fF, dF, MF, FF⟩ := W.forget
  obtain ⟨fN, dN, FN, gN⟩ := W.entered
  have GA : FnOk P w K mg base (L2.CX P w) 4 fA dA ["self", "brand"] (spAllow K) := ok_allow W.B W.C FA N S W.T
  have GF : FnOk P w K mg base (L2.CX P w) 4 fF dF ["self", "brand"] (spForget K) := ok_forget W.B FF N S
  have GN : FnOk P w K mg base (L2.CX P w) 6 fN dN ["book", "word", "many", "is_named"] (spEd K) := ok_entered W.B W.C W.HK W.enter FN N S W.T
  have bN : L2.Binds K dN ["book", "word", "many", "is_named"] [] := FN.bindsN fun _ _ _ _ _ _ us hl => match us, hl with | [_, _, _, _], _ => rfl
  have kA := FA.kbindsP (ps := ["self", "brand"]) (ks := ["brand"]) fun _ _ _ _ _ _ us ws h1 h2 => by
    match ws, h1 with
    | [_], _ =>
      match us, h2 with
      | [_], _ => rfl
      | [], z => simp at z
      | _ :: _ :: _, z => simp at z
  have kF := FF.kbindsP (ps := ["self", "brand"]) (ks := ["brand"]) fun _ _ _ _ _ _ us ws h1 h2 => by
    match ws, h1 with
    | [_], _ =>
      match us, h2 with
      | [_], _ => rfl
      | [], z => simp at z
      | _ :: _ :: _, z => simp at z
  have hu := hu_of hr
  refine ⟨_, ps_if (pt_cmpR op_eq (pv 4) pe_int (nomark _))
      (pss_cons (ps_set (i := 7) scCR.nd rfl (Or.inl rfl) (cr_lam (k := 4) N W TB hcode hr (by decide) (lamS_by (by decide +kernel)) rfl (fun _ _ _ _ _ => rfl)
          (fun A' outer' s' H' E' f' c' hr' => pe_methKSg (pe_var (i := 1) rfl (Or.inr (Or.inr rfl))) W.B.cls MA GA hr' (fun σ => passAt (takes_of rfl rfl rfl rfl) σ) (fun s a ws kin hl => kA s [.ref a] ws hl (congrArg (fun z => 1 + z) hl)) (fun r => r) (pk_cons (pe_var (i := 3) rfl (Or.inr (Or.inr rfl))) pk_nil))))
        (pss_cons (ps_set (i := 6) scCR.nd rfl (Or.inl rfl) (pe_ifExp (pt_cmp (pc_din hu (pv 3) (pv 2)) (by with_unfolding_all rfl)) (pe_tup (pa_cons pe_str (pa_cons (pv 3) pa_nil))) (pv 6)))
        (pss_one (ps_dput hu (pv 2) (pv 3) (pe_dget2 hu (pv 2) (pv 3) pe_int ⟨by rfl, by rfl, by rfl, by rfl⟩) (by rfl)))))
      (pss_one (ps_if (pt_cmpR op_eq (pv 4) pe_int (nomark _))
        (pss_cons (ps_set (i := 7) scCR.nd rfl (Or.inl rfl) (cr_lam (k := 4) N W TB hcode hr (by decide) (lamS_by (by decide +kernel)) rfl (fun _ _ _ _ _ => rfl)
            (fun A' outer' s' H' E' f' c' hr' => pe_methKSg (pe_var (i := 1) rfl (Or.inr (Or.inr rfl))) W.B.cls MF GF hr' (fun σ => passAt (takes_of rfl rfl rfl rfl) σ) (fun s a ws kin hl => kF s [.ref a] ws hl (congrArg (fun z => 1 + z) hl)) (fun r => r) (pk_cons (pe_var (i := 3) rfl (Or.inr (Or.inr rfl))) pk_nil))))
          (pss_cons (ps_set (i := 6) scCR.nd rfl (Or.inl rfl) (pe_ifExp (pt_cmp (pc_din hu (pv 3) (pv 2)) (by with_unfolding_all rfl)) (pv 6) (pe_tup (pa_cons pe_str (pa_cons (pv 3) pa_nil)))))
          (pss_cons (ps_dput hu (pv 2) (pv 3) pe_int (by rfl)) (pss_one (ps_expr (pe_dpop1 (pv 2) (pv 3) ⟨by rfl, by rfl, by rfl, by rfl⟩))))))
        (pss_cons (ps_set (i := 7) scCR.nd rfl (Or.inl rfl) (cr_lam (k := 6) N W TB hcode hr (by decide) (lamS_by (by decide +kernel)) rfl (fun _ _ _ _ _ => rfl)
            (fun A' outer' s' H' E' f' c' hr' => pe_callS GN hr' (by rfl) gN FN.kp bN (fun σ => passAt (takes_of rfl rfl rfl rfl) σ) (pa_cons (pe_var (i := 1) rfl (Or.inr (Or.inr rfl))) (pa_cons (pe_var (i := 3) rfl (Or.inr (Or.inr rfl))) (pa_cons (pe_var (i := 5) rfl (Or.inr (Or.inr rfl))) (pa_cons (pe_cmpR op_eq (pe_var (i := 4) rfl (Or.inr (Or.inr rfl))) pe_int (nomark _)) pa_nil)))))))
          (pss_one (ps_if (pt_cmp (pc_din hu (pv 3) (pv 2)) (by with_unfolding_all rfl)) (pss_one (ps_set (i := 6) scCR.nd rfl (Or.inl rfl) (pe_tup (pa_cons pe_str (pa_cons (pv 3) pa_nil)))))
            (pss_one (ps_if (pt_cmpR op_notIn_seq (pe_callB (call_repr hgu hr SY) (by rfl) N.repr boot_repr (pa_cons (pv 5) pa_nil)) (pe_tup (pa_cons pe_str (pa_cons pe_str (pa_cons pe_str pa_nil)))) (by with_unfolding_all rfl))
              (pss_one (ps_set (i := 6) scCR.nd rfl (Or.inl rfl) (pe_tup (pa_cons pe_str (pa_cons (pv 5) pa_nil)))))
              (pss_one (ps_dput hu (pv 2) (pv 3) (pv 5) (by rfl)))))))))), fun D H0 p b q kd d0 n R x way v d k0 hl hx hm hd0 kk => ?_⟩
  obtain ⟨dx, hb, hq⟩ := k0.reg
  obtain ⟨fx, lx⟩ := WL_ok hx
  have hfit : fits (.str x) := fun y e => by
    cases e
    exact Nat.le_trans lx (by decide)
  have hl100 : (wE R).length ≤ 100 := by
    rw [len_wE]
    omega
  have d0q : d0 ≠ q := fun z => by rw [z, hq] at hd0; cases hd0
  have d0k : d0 ≠ kd := fun z => by rw [z, k0.kn] at hd0; cases hd0
  -- told with the word, nothing has changed
  have same3 : ∀ {H2 H3 : Hp}, ExtN H0 H2 → Tabs (T2 K) H2 → Same H2 H3 → Ks K p b q kd n R R H3 := fun e t s => (k0.ext e t).same s
  refine ⟨_, rfl, rfl, _, rfl, ?_⟩
  by_cases c0 : way = 0
  · subst c0
    rw [decide_eq_true rfl]
    refine iteT ⟨k0.tabs, fun H1 e1 T1 => fun H2 E' Q' s12 ret taken takes unk => ?_⟩
    have e02 : ExtN H0 H2 := e1.trans (.of s12)
    have t2 := T1.ext s12
    have k2 := k0.ext e02 t2
    obtain ⟨dx2, hb2, hq2⟩ := k2.reg
    refine ⟨_, rfl, b, dx2, _, rfl, hb2, rfl, _, rfl, rfl, b, q, wE R, .str x, .str x, rfl, ⟨dx2, hb2, hq2⟩, hl100, .str x, hfit, fun _ => ⟨fun e => ?_, fun e => ?_⟩, fun e => by rw [fx] at e; cases e⟩
    · have no : fR R x = none := by
        rw [hasE] at e
        cases z : fR R x with
        | none => rfl
        | some r =>
          rw [z] at e
          cases e
      intro y en H3 ey kq hq3 ent
      cases ey
      rw [wE_app R x en (.int 0) no] at hq3
      have ok3 : OkR K H3 (R ++ [(x, en, .int 0)]) := OkR.app (k2.ok.keep fun a C dx fs h => kq _ _ h (fun z => by rw [z, hq2] at h; cases h)) no ent (by decide) (by decide) hl (WL_sok hx)
      have k3 : Ks K p b q kd n (R ++ [(x, en, .int 0)]) R H3 := k2.frame (.kp kq) (tabs_kp k2.tabs hq2 kq) hq3 ok3
      refine ret .non H3 fun p7 H4 np s4 h7 => ?_
      have k4 := k3.same s4
      have f04 : Fr3 q kd H0 H4 := (Fr3.q ((FrQ.of e02).tr (.kp kq))).tr (Fr3.q (.of (.of s4)))
      refine ⟨_, rfl, _, rfl, kd, _, rfl, DGet.k (k := .inr x) k4.kn, _, rfl, ?_⟩
      rw [valU, no]
      refine iteF ⟨_, rfl, ?_⟩
      refine ⟨_, rfl, kd, rfl, isD k4.kn, _, rfl, _, DGet.k (k := .inr x) k4.kn, _, rfl, _, rfl, kd, _, rfl, DPut.k (k := .inr x) k4.kn (lenU R hl), ?_⟩
      have e5 : putK (wU R) (.inr x) ((valV (wU R) (.inr x)).getD (.int 0)) = wU (R ++ [(x, en, .int 0)]) := by
        rw [valU, no]
        exact wU_app R x en (.int 0) no
      rw [e5]
      have k5 := k4.know (R' := R ++ [(x, en, .int 0)])
      have f05 : Fr3 q kd H0 (upd H4 kd (.dK (wU (R ++ [(x, en, .int 0)])))) := f04.tr Fr3.kd
      have d5 := f05 _ _ hd0 d0q d0k (fun _ z => nomatch z)
      have p7k : p7 ≠ kd := fun z => by rw [z, k4.kn] at h7; cases h7
      exact kk _ _ d0 p7 "returned" .non .none k5 (by rw [List.length_append]; exact Nat.le_refl _) f05 d5 (by rw [upd_ne p7k]; exact h7) .non (pr_m (.head _) ⟨6, by decide, rfl, rfl⟩)
    · obtain ⟨r, hr0⟩ := isSome_ex (by rw [hasE] at e; exact e)
      intro dd H3 nd s3 hxd
      refine taken dd (.str x) H3 hxd fun p7 H4 np s4 h7 => ?_
      have k4 : Ks K p b q kd n R R H4 := k2.same (s3.tr s4)
      have f04 : Fr3 q kd H0 H4 := Fr3.q ((FrQ.of e02).tr (.of (.of (s3.tr s4))))
      refine ⟨_, rfl, _, rfl, kd, _, rfl, DGet.k (k := .inr x) k4.kn, _, rfl, ?_⟩
      rw [valU, hr0]
      refine iteT ⟨_, rfl, sz 2 (by decide), fun p6 n6 => ?_⟩
      have s5 := same_new (o := .tup [V.str "taken", V.str x]) n6
      have k5 := k4.same s5
      refine ⟨_, rfl, kd, rfl, isD k5.kn, _, rfl, _, DGet.k (k := .inr x) k5.kn, _, rfl, _, rfl, kd, _, rfl, DPut.k (k := .inr x) k5.kn (lenU R hl), ?_⟩
      have e5 : putK (wU R) (.inr x) ((valV (wU R) (.inr x)).getD (.int 0)) = wU R := by
        have z : valV (wU R) (.inr x) = some r.2.2 := by
          rw [valU, hr0]
          rfl
        rw [z]
        exact putK_same (by rw [wU_keys]; exact nd_inr k0.ok.nd) z
      rw [e5]
      have k6 := k5.know (R' := R)
      have f06 : Fr3 q kd H0 (upd (upd H4 p6 (.tup [V.str "taken", V.str x])) kd (.dK (wU R))) := (f04.tr (Fr3.q (.of (.of s5)))).tr Fr3.kd
      have p7k : p7 ≠ kd := fun z => by rw [z, k4.kn] at h7; cases h7
      have p6k : p6 ≠ kd := (ne_of_none k4.kn n6).symm
      have p76 : p7 ≠ p6 := ne_of_none h7 n6
      exact kk _ _ p6 p7 "taken" (.str x) (.str x) k6 (Nat.le_succ _) f06 (by rw [upd_ne p6k, upd_same]) (by rw [upd_ne p7k]; exact s5 _ _ h7) (.str x) (pr_w (.tail _ (.head _)) hx)
  · rw [decide_eq_false (fun z => c0 (by injection z))]
    refine iteF ⟨_, rfl, rfl, _, rfl, ?_⟩
    by_cases c3 : way = 3
    · subst c3
      rw [decide_eq_true rfl]
      refine iteT ⟨k0.tabs, fun H1 e1 T1 => fun H2 E' Q' s12 ret taken takes unk => ?_⟩
      have e02 : ExtN H0 H2 := e1.trans (.of s12)
      have t2 := T1.ext s12
      have k2 := k0.ext e02 t2
      obtain ⟨dx2, hb2, hq2⟩ := k2.reg
      refine ⟨_, rfl, b, dx2, _, rfl, hb2, rfl, _, rfl, rfl, b, q, wE R, x, rfl, ⟨dx2, hb2, hq2⟩, fun e => ?_, fun e => ?_⟩
      · obtain ⟨r, hr0⟩ := isSome_ex (o := fR R x) (by rw [valE, Option.isSome_map] at e; exact e)
        rw [wE_drop]
        have kq : KpQ q H2 (upd H2 q (.dK (wE (dR R x)))) := fun c o h n => by
          rw [upd_ne n]
          exact h
        have ok3 : OkR K (upd H2 q (.dK (wE (dR R x)))) (dR R x) := (k2.ok.drop x).keep fun a C dx fs h => kq _ _ h (fun z => by rw [z, hq2] at h; cases h)
        have k3 : Ks K p b q kd n (dR R x) R (upd H2 q (.dK (wE (dR R x)))) := k2.frame (.kp kq) (tabs_kp k2.tabs hq2 kq) upd_same ok3
        have fq : FrQ q H0 (upd H2 q (.dK (wE (dR R x)))) := (FrQ.of e02).tr (.kp kq)
        generalize upd H2 q (.dK (wE (dR R x))) = H3 at *
        refine ret .non H3 fun p7 H4 np s4 h7 => ?_
        have k4 := k3.same s4
        have f04 : Fr3 q kd H0 H4 := (Fr3.q fq).tr (Fr3.q (.of (.of s4)))
        refine ⟨_, rfl, _, rfl, kd, _, rfl, DGet.k (k := .inr x) k4.kn, _, rfl, ?_⟩
        rw [valU, hr0]
        refine iteT ⟨_, rfl, ?_⟩
        refine ⟨_, rfl, _, rfl, kd, _, rfl, DPut.k (k := .inr x) k4.kn (lenU R hl), ?_⟩
        refine ⟨_, rfl, kd, rfl, isD upd_same, _, rfl, _, .inr x, .int 0, upd_same, rfl, val_put _ _ _, ?_⟩
        rw [drop_put, wU_drop, upd_upd]
        have k5 := k4.know (R' := dR R x)
        have f05 : Fr3 q kd H0 (upd H4 kd (.dK (wU (dR R x)))) := f04.tr Fr3.kd
        have d5 := f05 _ _ hd0 d0q d0k (fun _ z => nomatch z)
        have p7k : p7 ≠ kd := fun z => by rw [z, k4.kn] at h7; cases h7
        exact kk _ _ d0 p7 "returned" .non .none k5 (Nat.le_succ_of_le (List.length_filter_le _ _)) f05 d5 (by rw [upd_ne p7k]; exact h7) .non (pr_m (.head _) ⟨6, by decide, rfl, rfl⟩)
      · have no : fR R x = none := by
          rw [valE] at e
          cases z : fR R x with
          | none => rfl
          | some r =>
            rw [z] at e
            cases e
        intro dd H3 nd s3 hxd
        refine unk dd (.str x) H3 hxd fun p7 H4 np s4 h7 => ?_
        have k4 : Ks K p b q kd n R R H4 := k2.same (s3.tr s4)
        have f04 : Fr3 q kd H0 H4 := Fr3.q ((FrQ.of e02).tr (.of (.of (s3.tr s4))))
        refine ⟨_, rfl, _, rfl, kd, _, rfl, DGet.k (k := .inr x) k4.kn, _, rfl, ?_⟩
        rw [valU, no]
        refine iteF ⟨_, rfl, sz 2 (by decide), fun p6 n6 => ?_⟩
        have s5 := same_new (o := .tup [V.str "unknown", V.str x]) n6
        have k5 := k4.same s5
        refine ⟨_, rfl, _, rfl, kd, _, rfl, DPut.k (k := .inr x) k5.kn (lenU R hl), ?_⟩
        refine ⟨_, rfl, kd, rfl, isD upd_same, _, rfl, _, .inr x, .int 0, upd_same, rfl, val_put _ _ _, ?_⟩
        rw [drop_put, wU_drop, dR_no no, upd_upd]
        have k6 := k5.know (R' := R)
        have f06 : Fr3 q kd H0 (upd (upd H4 p6 (.tup [V.str "unknown", V.str x])) kd (.dK (wU R))) := (f04.tr (Fr3.q (.of (.of s5)))).tr Fr3.kd
        have p7k : p7 ≠ kd := fun z => by rw [z, k4.kn] at h7; cases h7
        have p6k : p6 ≠ kd := (ne_of_none k4.kn n6).symm
        exact kk _ _ p6 p7 "unknown" (.str x) (.str x) k6 (Nat.le_succ _) f06 (by rw [upd_ne p6k, upd_same]) (by rw [upd_ne p7k]; exact s5 _ _ h7) (.str x) (pr_w (.tail _ (.tail _ (.tail _ (.head _)))) hx)
    · rw [decide_eq_false (fun z => c3 (by injection z))]
      refine iteF ⟨k0.tabs, fun H1 e1 T1 => fun H2 E' Q' s12 ret taken takes unk => ?_⟩
      have e02 : ExtN H0 H2 := e1.trans (.of s12)
      have t2 := T1.ext s12
      have k2 := k0.ext e02 t2
      obtain ⟨dx2, hb2, hq2⟩ := k2.reg
      refine ⟨_, rfl, _, rfl, _, rfl, _, rfl, rfl, b, q, R, x, v, d, decide (V.int way = V.int 1), rfl, ⟨dx2, hb2, hq2⟩, Nat.le_of_lt hl, hx, hm.sd K H2, fun no => ⟨fun tk en H3 kq hq3 ent => ?_, fun tk => ?_⟩, fun e => ?_⟩
      · obtain ⟨i, rfl, i0, i1⟩ := mn_tk hm tk
        rw [wE_app R x en (.int i) no] at hq3
        have ok3 : OkR K H3 (R ++ [(x, en, .int i)]) := OkR.app (k2.ok.keep fun a C dx fs h => kq _ _ h (fun z => by rw [z, hq2] at h; cases h)) no ent i0 i1 hl (WL_sok hx)
        have k3 : Ks K p b q kd n (R ++ [(x, en, .int i)]) R H3 := k2.frame (.kp kq) (tabs_kp k2.tabs hq2 kq) hq3 ok3
        refine ret .non H3 fun p7 H4 np s4 h7 => ?_
        have k4 := k3.same s4
        have f04 : Fr3 q kd H0 H4 := (Fr3.q ((FrQ.of e02).tr (.kp kq))).tr (Fr3.q (.of (.of s4)))
        refine ⟨_, rfl, _, rfl, kd, _, rfl, DGet.k (k := .inr x) k4.kn, _, rfl, ?_⟩
        rw [valU, no]
        refine iteF ⟨_, rfl, .int i, d, rfl, hm.sd K H4, (mn_sh hm).1, (mn_sh hm).2.1, (mn_sh hm).2.2, sz 3 (by decide), fun p8 n8 => ?_⟩
        have s5 := same_new (o := .tup [V.str "0", V.str "1", V.str "20"]) n8
        have k5 := k4.same s5
        refine ⟨p8, _, rfl, .inr (SqT.of upd_same), rfl, rfl, _, rfl, ?_⟩
        rw [mn_in hm, tk]
        refine iteF ⟨_, rfl, _, rfl, _, rfl, kd, _, rfl, DPut.k (k := .inr x) k5.kn (lenU R hl), ?_⟩
        rw [wU_app R x en (.int i) no]
        have k6 := k5.know (R' := R ++ [(x, en, .int i)])
        have f06 : Fr3 q kd H0 (upd (upd H4 p8 (.tup [V.str "0", V.str "1", V.str "20"])) kd (.dK (wU (R ++ [(x, en, .int i)])))) := (f04.tr (Fr3.q (.of (.of s5)))).tr Fr3.kd
        have d6 := f06 _ _ hd0 d0q d0k (fun _ z => nomatch z)
        have p7k : p7 ≠ kd := fun z => by rw [z, k4.kn] at h7; cases h7
        exact kk _ _ d0 p7 "returned" .non .none k6 (by rw [List.length_append]; exact Nat.le_refl _) f06 d6 (by rw [upd_ne p7k]; exact s5 _ _ h7) .non (pr_m (.head _) ⟨6, by decide, rfl, rfl⟩)
      · intro dd H3 nd s3 hxd
        refine takes dd v H3 hxd fun p7 H4 np s4 h7 => ?_
        have k4 : Ks K p b q kd n R R H4 := k2.same (s3.tr s4)
        have f04 : Fr3 q kd H0 H4 := Fr3.q ((FrQ.of e02).tr (.of (.of (s3.tr s4))))
        refine ⟨_, rfl, _, rfl, kd, _, rfl, DGet.k (k := .inr x) k4.kn, _, rfl, ?_⟩
        rw [valU, no]
        refine iteF ⟨_, rfl, v, d, rfl, hm.sd K H4, (mn_sh hm).1, (mn_sh hm).2.1, (mn_sh hm).2.2, sz 3 (by decide), fun p8 n8 => ?_⟩
        have s5 := same_new (o := .tup [V.str "0", V.str "1", V.str "20"]) n8
        refine ⟨p8, _, rfl, .inr (SqT.of upd_same), rfl, rfl, _, rfl, ?_⟩
        rw [mn_in hm, tk]
        refine iteT ⟨_, rfl, sz 2 (by decide), fun p6 n6 => ?_⟩
        have s6 := same_new (o := .tup [V.str "takes", v]) n6
        have s56 := s5.tr s6
        exact kk _ _ p6 p7 "takes" v d (k4.same s56) (Nat.le_succ _) (f04.tr (Fr3.q (.of (.of s56)))) upd_same (s56 _ _ h7) (hm.sd K _) (pr_m (.tail _ (.tail _ (.head _))) hm)
      · obtain ⟨r, hr0⟩ := isSome_ex e
        intro dd H3 nd s3 hxd
        refine taken dd (.str x) H3 hxd fun p7 H4 np s4 h7 => ?_
        have k4 : Ks K p b q kd n R R H4 := k2.same (s3.tr s4)
        have f04 : Fr3 q kd H0 H4 := Fr3.q ((FrQ.of e02).tr (.of (.of (s3.tr s4))))
        refine ⟨_, rfl, _, rfl, kd, _, rfl, DGet.k (k := .inr x) k4.kn, _, rfl, ?_⟩
        rw [valU, hr0]
        refine iteT ⟨_, rfl, sz 2 (by decide), fun p6 n6 => ?_⟩
        have s5 := same_new (o := .tup [V.str "taken", V.str x]) n6
        exact kk _ _ p6 p7 "taken" (.str x) (.str x) (k4.same s5) (Nat.le_succ _) (f04.tr (Fr3.q (.of (.of s5)))) upd_same (s5 _ _ h7) (.str x) (pr_w (.tail _ (.head _)) hx)
end
end Kg

set_option Elab.async false
set_option linter.all false
set_option maxRecDepth 100000
set_option maxHeartbeats 4000000
namespace Kg
open PySem PySem.Spec PyProof.Rows L2 StX ClX LamX
/-- all but the draws, q, kd and the tables stands -/
def FrC (p q kd : Addr) (H H' : Hp) : Prop := ∀ c o, H c = some o → c ≠ p → c ≠ q → c ≠ kd → (∀ ps, o ≠ .tbl ps) → H' c = some o
theorem FrC.of {p q kd : Addr} {H H' : Hp} (e : Same H H') : FrC p q kd H H' := fun c o h _ _ _ _ => e c o h
theorem FrC.p {p q kd : Addr} {H H' : Hp} (e : Keep p H H') : FrC p q kd H H' := fun c o h n _ _ _ => e c o h n
theorem FrC.q {p q kd : Addr} {H H' : Hp} (e : Fr3 q kd H H') : FrC p q kd H H' := fun c o h _ n n2 t => e c o h n n2 t
theorem FrC.tr {p q kd : Addr} {H H1 H2 : Hp} (a : FrC p q kd H H1) (b : FrC p q kd H1 H2) : FrC p q kd H H2 := fun c o h n n1 n2 t => b c o (a c o h n n1 n2 t) n n1 n2 t
section
variable {K : PySem.W.Frag} {p b q kd : Addr} {n m : Nat} {RE RU : List Rw} {H H' : Hp}
theorem Ks.drawn (k : Ks K p b q kd n RE RU H) (e : Keep p H H') (d : DrawAt H' p m) : Ks K p b q kd m RE RU H' := by
  obtain ⟨dx, hb, hq⟩ := k.reg
  have hp : ∃ kvs, H p = some (.dK kvs) := by
    obtain ⟨_, _, _, _, _, h1, _⟩ := k.draw
    exact ⟨_, h1⟩
  obtain ⟨kvs, hp⟩ := hp
  exact ⟨d, ⟨dx, e _ _ hb (fun z => by rw [z, hp] at hb; cases hb), e _ _ hq k.npq.symm⟩, e _ _ k.kn k.npk.symm, k.ok.keep fun a C dx fs h => e _ _ h (fun z => by rw [z, hp] at h; cases h), tabs_kp k.tabs hp e.old, k.npq, k.npk, k.nqk⟩
end
def spCR (K : PySem.W.Frag) : Sp := fun vs H Q _ => ∃ (p b q kd : Addr) (n : Nat) (R : List Rw), vs = [.ref p, .ref b, .ref kd] ∧ Ks K p b q kd n R R H ∧ R.length < 60 ∧ n < 50000 ∧
  ∀ H' R', Ks K p b q kd (n + 3) R' R' H' → R'.length ≤ R.length + 1 → FrC p q kd H H' → Q (.bl true) H'
theorem cr_body : defBody sCR = [sC 0, sC 1, sC 2, sC 3] := by rfl
section
variable {P : Program} {w : World} {K : PySem.W.Frag} {mg : Str → Option Value} {base : Heap}
theorem ok_cr {f : Addr} {fd : FuncData} (F : FnP K "_law_call_right" sCR f fd) (ef : f = He.fAd K ("_law_call_right", none)) (N : Nm mg) (W : Wk K mg) (S : Es P w K mg base) (SY : SysK K) (D : Dr K mg) (LB : ∃ f fd, FnP K "_law_brand" sLBr f fd ∧ mg "_law_brand" = some (.ref f)) (TB : TabB base mg (tC K).1 (tC K).2) : FnG P w K mg base CX0 9 f fd ["draw", "book", "known"] (spCR K) := by
  obtain ⟨fX, dX, FX, gX⟩ := D.next
  obtain ⟨fM, dM, FM, gM⟩ := D.mixed
  obtain ⟨fB, dB, FB, gB⟩ := LB
  have GX : FnOk P w K mg base CX0 2 fX dX ["draw", "bound"] spNext := ok_next FX FM gM N.len
  have bX : L2.Binds K dX ["draw", "bound"] [] := FX.bindsN fun _ _ _ _ _ _ us hl => match us, hl with | [_, _], _ => rfl
  have GB : FnOk P w K mg base CX0 3 fB dB ["draw"] spLBr := ok_lbr FB N D
  have bB : L2.Binds K dB ["draw"] [] := FB.bindsN fun _ _ _ _ _ _ us hl => match us, hl with | [_], _ => rfl
  refine FunD.okGc F scCR (fun vs H Q E h => ?_) (fun cdv A outer s H vs Q E hcd hk hgu hr h => ?_)
  · obtain ⟨p, b, q, kd, n, R, rfl, _⟩ := h
    rfl
  · have hcode : cdv = .ref (tC K).1 := by
      obtain ⟨c, rfl⟩ := He.codeIn_ref hcd
      obtain ⟨oc, od, fd', osl, lk, e⟩ := hk
      rw [ef] at lk
      rw [← He.codeOf_eq lk e]
      rfl
    obtain ⟨t2, p2, q2⟩ := cr_s2 (P := P) (w := w) (base := base) (f := f) (cdv := cdv) (A := A) (outer := outer) (s := s) (H := H) (E := E) N W S SY TB hcode hgu hr
    have p0 : PS (XR P w K mg base f cdv A outer s H E) (sC 0) _ := ps_asg (pe_tup (pa_cons (pe_call GB (hr.mono (by decide)) (by rfl) gB FB.kp bB .nil pass0 (pa_cons (pv 0) pa_nil)) (pa_cons (pe_call GX (hr.mono (by decide)) (by rfl) gX FX.kp bX .nil pass0 (pa_cons (pv 0) (pa_cons pe_int pa_nil)))
        (pa_cons (pe_ix (show IxR _ (rIxL K) from ix_list) (pe_lst (pa_cons pe_int (pa_cons pe_int (pa_cons pe_int (pa_cons pe_int (pa_cons (pe_op op_sub pe_int pe_int) (pa_cons pe_bl (pa_cons pe_non (pa_cons pe_str pa_nil))))))))) (pe_call GX (hr.mono (by decide)) (by rfl) gX FX.kp bX .nil pass0 (pa_cons (pv 0) (pa_cons pe_int pa_nil))) (fun _ _ => rfl)) pa_nil))))
      (pg_tup rfl (pgs_cons (pg_name (i := 3) scCR.nd rfl (Or.inr rfl)) (pgs_cons (pg_name (i := 4) scCR.nd rfl (Or.inr rfl)) (pgs_cons (pg_name (i := 5) scCR.nd rfl (Or.inr rfl)) pgs_nil))))
    have p1 : PS (XR P w K mg base f cdv A outer s H E) (sC 1) _ := ps_asg (pe_tup (pa_cons (pe_tup (pa_cons pe_str (pa_cons pe_non pa_nil))) (pa_cons pe_non pa_nil))) (pg_tup rfl (pgs_cons (pg_name (i := 6) scCR.nd rfl (Or.inl rfl)) (pgs_cons (pg_name (i := 7) scCR.nd rfl (Or.inl rfl)) pgs_nil)))
    have p3 : PS (XR P w K mg base f cdv A outer s H E) (sC 3) _ := ps_ret (pe_cmpR op_eq (pe_callB (call_repr hgu hr SY) (by rfl) N.repr boot_repr (pa_cons (pv 7) pa_nil)) (pe_callB (call_repr hgu hr SY) (by rfl) N.repr boot_repr (pa_cons (pv 6) pa_nil)) (nomark _))
    rw [cr_body]
    refine ⟨_, PSs.nox (pss_cons p0 (pss_cons p1 (pss_cons p2 (pss_one p3)))), ?_⟩
    obtain ⟨p, b, q, kd, n, R, rfl, k0, hl, hn, k⟩ := h
    refine ⟨_, rfl, p, n, rfl, k0.draw, by omega, fun x H1 hx d1 e1 => ?_⟩
    have k1 := k0.drawn e1 d1
    refine ⟨_, rfl, p, 4, n + 1, rfl, k1.draw, by omega, by decide, by decide, fun way H2 w0 w4 d2 e2 => ?_⟩
    have k2 := k1.drawn e2 d2
    refine ⟨_, _, rfl, rfl, sz 8 (by decide), fun l nl => ?_⟩
    have s3 := same_new (o := .lst ML) nl
    have hll : (upd H2 l (.lst ML)) l = some (.lst ML) := upd_same
    have k3 := k2.same s3
    have lp : l ≠ p := by
      obtain ⟨_, _, _, _, _, h1, _⟩ := d2
      exact (ne_of_none h1 nl).symm
    refine ⟨_, rfl, p, 8, n + 2, rfl, k3.draw, by omega, by decide, by decide, fun r H4 r0 r8 d4 e4 => ?_⟩
    have k4 := k3.drawn e4 d4
    obtain ⟨i, rfl⟩ := Int.eq_ofNat_of_zero_le r0
    have hi : i < 8 := by omega
    obtain ⟨v, d, ev, hm⟩ : ∃ v d, ML[i]? = some v ∧ Mn v d := by
      have l1 : i < ML.length := hi
      have l2 : i < MD.length := hi
      exact ⟨ML[i], MD[i], List.getElem?_eq_getElem l1, i, hi, List.getElem?_eq_getElem l1, List.getElem?_eq_getElem l2⟩
    refine ⟨l, ML, _, v, rfl, rfl, SqL.of (e4 _ _ hll lp), atI_nat ev, sz 3 (by decide), fun tp ntp => ?_⟩
    have s5 := same_new (o := .tup [.str x, .int way, v]) ntp
    refine ⟨tp, _, rfl, SqT.of upd_same, rfl, _, _, rfl, _, _, rfl, _, _, rfl, rfl, ?_⟩
    refine ⟨sz 2 (by decide), fun d0 nd0 => ⟨sz 2 (by decide), fun t0 nt0 => ?_⟩⟩
    have s6 := same_new (o := .tup [.str "returned", .non]) nd0
    have k6 := (k4.same s5).same s6
    have s7 := same_new (o := .tup [.ref d0, .non]) nt0
    refine ⟨t0, _, rfl, SqT.of upd_same, rfl, _, _, rfl, _, _, rfl, rfl, ?_⟩
    have hd0 := s7 _ _ (upd_same (H := upd H4 tp (.tup [.str x, .int way, v])) (a := d0) (o := .tup [.str "returned", .non]))
    refine q2 _ _ p b q kd d0 (n + 2 + 1) R x way v d (k6.same s7) hl hx hm hd0 fun H' R' dU tO z u du k7 lr f7 hU hO su pb => ?_
    obtain ⟨o1, o2, o3⟩ := prB_fit pb
    refine ⟨_, rfl, .ref tO, .tuple [.str z, du], rfl, .tup (SqT.of hO) (.cons (.str _) (.cons su .nil)), o1, o2, o3, _, rfl, .ref dU, .tuple [.str z, du], rfl, .tup (SqT.of hU) (.cons (.str _) (.cons su .nil)), o1, o2, o3, rfl, ?_⟩
    rw [decide_eq_true rfl]
    exact k H' R' k7 lr ((((FrC.p e1).tr (FrC.p e2)).tr ((FrC.of s3).tr (FrC.p e4))).tr (((FrC.of s5).tr (FrC.of (s6.tr s7))).tr (FrC.q f7)))
end
end Kg

set_option Elab.async false
set_option linter.all false
set_option maxRecDepth 100000
set_option maxHeartbeats 4000000
namespace Kg
open PySem PySem.Spec PyProof.Rows L2 StX ClX LamX
abbrev sRR : Stmt := top 55
abbrev NRr : List Str := ["draw", "book", "known", "word", "due", "told", "odd"]
theorem scRR : FnScope NRr ["draw", "book", "known"] (defScope sRR) := ⟨rfl, rfl, rfl, by decide +kernel, rfl, by decide +kernel, by decide +kernel⟩
def sR (k : Nat) : Stmt := (defBody sRR).getD k (.Pass ⟨0, 0, 0, 0⟩)
abbrev XQ (P : Program) (w : World) (K : PySem.W.Frag) (mg : Str → Option Value) (base : Heap) (f : Addr) (cdv : Value) (A : Around) (outer : List Env) (s : Shared) (H : Hp) (E : XK) : Cx := (cxOf CX0 P w K mg base NRr "_law_read_right" (defScope sRR) f cdv A outer s H E).nox
theorem qR_eq {P : Program} {w : World} {K : PySem.W.Frag} {mg : Str → Option Value} {base : Heap} {f : Addr} {cdv : Value} {A : Around} {outer : List Env} {s : Shared} {H : Hp} {E : XK} : (XQ P w K mg base f cdv A outer s H E).env.qual ++ "<lambda>" = qR := by
  show ("_law_read_right.<locals>." : Str) ++ "<lambda>" = qR
  kernel_rfl
theorem rr_body : defBody sRR = [sR 0, sR 1, sR 2] := by rfl
/-! a sorted list of texts is one -/
def leS (a b : Str) : Prop := a.cps.toList ≤ b.cps.toList
theorem leS_of {x p : Str} (h : (!ltCps x.cps.toList p.cps.toList) = true) : leS p x := by
  rw [ltCps_eq] at h
  intro z
  rw [decide_eq_true z] at h
  cases h
theorem rising_pair : ∀ (r : List Str) (p : Str), risingS p r = true → (∀ y ∈ r, leS p y) ∧ r.Pairwise leS
  | [], _, _ => ⟨fun _ m => (List.not_mem_nil m).elim, .nil⟩
  | x :: r, p, h => by
    have z : (!ltCps x.cps.toList p.cps.toList && risingS x r) = true := h
    obtain ⟨z1, z2⟩ := Bool.and_eq_true_iff.mp z
    obtain ⟨a, b⟩ := rising_pair r x z2
    refine ⟨fun y m => ?_, .cons a b⟩
    rcases List.mem_cons.mp m with m | m
    · rw [m]
      exact leS_of z1
    · exact List.le_trans (leS_of z1) (a y m)
theorem sorted_pair {l : List Str} (h : sortedS l = true) : l.Pairwise leS := by
  cases l with
  | nil => exact .nil
  | cons x r =>
    obtain ⟨a, b⟩ := rising_pair r x h
    exact .cons a b
theorem leS_anti {x y : Str} (h1 : leS x y) (h2 : leS y x) : x = y := by
  have z : x.cps.toList = y.cps.toList := List.le_antisymm h1 h2
  cases x
  cases y
  congr 1
  exact Array.toList_inj.mp z
theorem texts_one {a b : List Str} (p : a.Perm b) (ha : sortedS a = true) (hb : sortedS b = true) : a = b :=
  List.Perm.eq_of_pairwise (le := leS) (fun x y _ _ h1 h2 => leS_anti h1 h2) (sorted_pair ha) (sorted_pair hb) p
theorem eqv_texts : ∀ xs : List Str, PyData.eqvAll (xs.map .str) (xs.map .str) = true
  | [] => rfl
  | x :: xs => by
    show ((x == x) && PyData.eqvAll _ _) = true
    rw [eqv_texts xs]
    simp
theorem dp_texts {K : PySem.W.Frag} {H : Hp} : ∀ xs : List Str, DpAll K H (xs.map V.str) (xs.map PyData.str)
  | [] => .nil
  | x :: xs => .cons (.str x) (dp_texts xs)
theorem lay_texts : ∀ R : List Rw, (∀ r ∈ R, PyData.strOk r.1 = true) → PyData.canLayAll0 ((R.map (·.1)).map .str) = true
  | [], _ => rfl
  | r :: R, h => by
    show (PyData.strOk r.1 && PyData.canLayAll0 _) = true
    rw [h r (.head _), lay_texts R fun r m => h r (.tail _ m)]
    rfl
theorem lay_perm {xs : List Str} : (∀ x ∈ xs, PyData.strOk x = true) → PyData.canLayAll0 (xs.map .str) = true := by
  induction xs with
  | nil => intro _; rfl
  | cons x xs ih =>
    intro h
    show (PyData.strOk x && PyData.canLayAll0 _) = true
    rw [h x (.head _), ih fun y m => h y (.tail _ m)]
    rfl
theorem dep_texts : ∀ xs : List Str, PyData.depthAll (xs.map .str) ≤ 1
  | [] => Nat.zero_le _
  | x :: xs => Nat.max_le.mpr ⟨by simp [PyData.depth], dep_texts xs⟩
theorem shaped_texts {xs : List Str} (h : ∀ x ∈ xs, PyData.strOk x = true) : SeqAt.shaped (.tuple (xs.map .str)) = true := by
  show (PyData.canLayAll0 (xs.map .str) && decide (PyData.depthAll (xs.map .str) + 1 ≤ 64)) = true
  rw [lay_perm h, decide_eq_true (by have := dep_texts xs; omega)]
  rfl
/-- a dict locked and unlocked is as it was -/
theorem same_unlock {H H2 : Hp} {d : Addr} {od : Obj} {u : HO} (h : H d = some u) (s : Same (upd H d (.frz od u)) H2) : Same H (upd H2 d u) := fun c o e => by
  by_cases z : c = d
  · rw [z, upd_same]
    rw [z, h] at e
    exact e
  · rw [upd_ne z]
    exact s c o (by rw [upd_ne z]; exact e)
section
variable {P : Program} {w : World} {K : PySem.W.Frag} {mg : Str → Option Value} {base : Heap} {f : Addr} {cdv : Value} {A : Around} {outer : List Env} {s : Shared} {H : Hp} {E : XK}
theorem rr_s0 (N : Nm mg) (W : Wk K mg) (BP : ∃ p g fd, PropOf K (CR K) "brands" p g ∧ FnM K "brands" "Registry.brands" sRgB [] g fd) (LN : ∃ f fd, PySem.W.findIn K (.ref (CR K)) "__len__" = some (some (.ref f)) ∧ PySem.W.isFn K (.ref f) = true ∧ FnM K "__len__" "Registry.__len__" sRgL [] f fd) (hr : Room 8 (XQ P w K mg base f cdv A outer s H E).A) :
    ∃ t, PS (XQ P w K mg base f cdv A outer s H E) (sR 0) t ∧ ∀ (D : Ends) (H0 : Hp) (p b q kd : Addr) (n : Nat) (R : List Rw) (t3 t4 t5 : Option V), Ks K p b q kd n R R H0 →
      (∀ H', Same H0 H' → D.nx [some (.ref p), some (.ref b), some (.ref kd), t3, t4, t5, none] H') → t D [some (.ref p), some (.ref b), some (.ref kd), t3, t4, t5, none] H0 := by
  obtain ⟨pp, pg, pd, PO, FB⟩ := BP
  obtain ⟨fl, dl, l1, l2, FL⟩ := LN
  have GB : FnOk P w K mg base CX0 1 pg pd ["self"] (spBrands K) := ok_brands W.B FB N
  have bB : L2.Binds K pd ["self"] [] := FB.bindsN fun _ _ _ _ _ _ us hl => match us, hl with | [_], _ => rfl
  have GL : FnOk P w K mg base CX0 1 fl dl ["self"] (spLen K) := ok_len W.B FL N
  have bL : L2.Binds K dl ["self"] [] := FL.bindsN fun _ _ _ _ _ _ us hl => match us, hl with | [_], _ => rfl
  refine ⟨_, ps_if (PW.pt (pw_or (pt_cmpR (op_neD hr.units) (pe_prop (pv 1) W.B.cls PO GB (hr.mono (by decide)) bB .nil pass0 (by rfl))
        (pe_callTy call_tuple_of (by rfl) N.tuple (by decide +kernel) (pa_cons (pe_callB cr_sortedS (by rfl) N.sorted (by decide +kernel) (pa_cons (pe_lock (pe_lc (own := [("word", 3)]) (g := gName 3) (tt := tYes) rfl scRR.nd (pi_keys (pv 2)) (blkOk_by (own := [("word", 3)]) (N := NRr) (sc := defScope sRR) (by decide +kernel))
          (fun _ _ _ _ _ => pg_name (i := 3) scRR.nd rfl (Or.inl rfl)) (fun _ _ _ _ _ => pts_nil) (fun _ _ _ _ _ => pe_callTy (show CallR _ (.type "str") _ from SkE.call_str_str) (by rfl) N.str (by decide +kernel) (pa_cons (pv 3) pa_nil)))) pa_nil)) pa_nil)) (nomark _))
      (pw_or1 (pt_cmpR op_ne (pe_callB (call_lenO (C := CR K) (E := E0) GL (hr.mono (by decide)) bL pass0 l1 l2) (by rfl) N.len PySem.boot_len (pa_cons (pv 1) pa_nil)) (pe_callB call_lenD (by rfl) N.len PySem.boot_len (pa_cons (pv 2) pa_nil)) (nomark _))))) (pss_one (ps_ret pe_bl)) pss_nil, fun D H0 p b q kd n R t3 t4 t5 k0 kk => ?_⟩
  obtain ⟨dx, hb, hq⟩ := k0.reg
  have hl64 : (R.map (·.1)).length < 64 := by
    rw [List.length_map]
    have := k0.ok.len
    omega
  refine ⟨_, rfl, b, dx, _, rfl, hb, b, q, wE R, R.map (·.1), rfl, ⟨dx, hb, hq⟩, wE_keys R, hl64, fun ys p1 H1 hp hs s1 h1 => ?_⟩
  have kn1 := s1 _ _ k0.kn
  refine ⟨kd, .dK (wU R), kn1, trivial, fun od => ?_⟩
  refine ⟨_, rfl, kd, od, rfl, .inl ⟨wU R, upd_same, fun D1 n1 => ?_⟩⟩
  refine lc_it (walk_keys (kvs := wU R)) (fun i H2 => Same (upd H1 kd (.frz od (.dK (wU R)))) H2 ∧ H2 D1 = some (.lst (((R.take i).map (·.1)).map V.str))) ⟨same_new n1, upd_same⟩ (fun i H2 _ z => z.1 _ _ upd_same) ?_ ?_
  · rintro i x H2 H3 hi ⟨s2, hD⟩ ⟨eH, ky, vy, ek, rfl⟩
    subst eH
    unfold wU at ek
    rw [List.getElem?_map] at ek
    obtain ⟨r, er, e2⟩ := Option.map_eq_some_iff.mp ek
    have e3 : ky = .inr r.1 := (congrArg Prod.fst e2).symm
    subst e3
    refine ⟨rfl, yesT ⟨_, rfl, _, rfl, _, hD, ?_, same_updN s2 n1, ?_⟩⟩
    · rw [List.length_map, List.length_map, List.length_take]
      have := k0.ok.len
      exact Nat.lt_of_le_of_lt (Nat.min_le_right _ _) (Nat.lt_of_le_of_lt this (by decide))
    · rw [upd_same, List.take_add_one, er, List.map_append, List.map_append]
      rfl
  · rintro H2 ⟨s2, hD⟩
    have eL : (wU R).length = R.length := List.length_map _
    rw [eL, List.take_length] at hD
    refine ⟨s2 _ _ upd_same, ?_⟩
    have s3 := same_unlock kn1 s2
    have nD : D1 ≠ kd := fun z => by
      rw [z, upd_same] at n1
      cases n1
    have hD3 : (upd H2 kd (.dK (wU R))) D1 = some (.lst ((R.map (·.1)).map V.str)) := by
      rw [upd_ne nD]
      exact hD
    generalize upd H2 kd (.dK (wU R)) = H3 at *
    refine ⟨D1, R.map (·.1), rfl, SqL.of hD3, hl64, fun zs p2 hp2 hs2 np2 => ?_⟩
    obtain rfl : zs = ys := texts_one (hp2.trans hp.symm) hs2 hs
    have s4 := same_new (o := .lst (zs.map V.str)) np2
    refine ⟨p2, _, rfl, .inl ⟨SqL.of upd_same, fun l nl => ?_⟩⟩
    have s5 := same_new (o := .tup (zs.map V.str)) nl
    have s35 := s3.tr (s4.tr s5)
    have s15 := s1.tr s35
    have sh : SeqAt.shaped (.tuple (zs.map .str)) = true := shaped_texts fun x m => by
      obtain ⟨r, hr, e⟩ := List.mem_map.mp (hp.mem_iff.mp m)
      rw [← e]
      exact (Bool.and_eq_true_iff.mp (k0.ok.sok r hr)).1
    refine ⟨.tuple (zs.map .str), .tuple (zs.map .str), .tup (SqT.of (s35 _ _ h1)) (dp_texts zs), .tup (SqT.of upd_same) (dp_texts zs), sh, sh, false, ?_, iteF ?_⟩
    · show V.bl (!PyData.eqvAll (zs.map .str) (zs.map .str)) = .bl false
      rw [eqv_texts]
      rfl
    · have hb5 := s15 _ _ hb
      have hq5 := s15 _ _ hq
      have e1 : (wE R).length = R.length := List.length_map _
      have := k0.ok.len
      refine ⟨_, rfl, b, dx, _, rfl, hb5, b, q, wE R, rfl, ⟨dx, hb5, hq5⟩, _, rfl, ⟨by omega, by omega⟩, _, rfl, kd, wU R, rfl, s15 _ _ k0.kn, rfl, false, ?_, iteF (kk _ s15)⟩
      rw [e1, eL, decide_eq_true rfl]
      rfl
end
end Kg

set_option Elab.async false
set_option linter.all false
set_option maxRecDepth 100000
set_option maxHeartbeats 4000000
namespace Kg
open PySem PySem.Spec PyProof.Rows L2 StX ClX LamX
/-! ### what is told of a word -/
def zz (R : List Rw) (x : Str) : Str := match fR R x with
  | some _ => "returned"
  | none => "unknown"
def vv (R : List Rw) (x : Str) : V := match fR R x with
  | some r => r.2.2
  | none => .str x
def dd_ (R : List Rw) (x : Str) : PyData := match fR R x with
  | some r => (match r.2.2 with
    | .int n => .int n
    | _ => .none)
  | none => .str x
def WB : List Str := WL ++ (["bag"] : List Str)
def prL (z : Str) (d : PyData) : Bool := (PyData.list [.tuple [.str z, d], .tuple [.str z, d]]).showable && (decide ((PyData.list [.tuple [.str z, d], .tuple [.str z, d]]).depth ≤ 40) && decide ((PyData.list [.tuple [.str z, d], .tuple [.str z, d]]).shown.length ≤ 1000))
theorem prL_u : (WB.all fun x => prL "unknown" (.str x)) = true := by kernel_rfl
theorem prL_r : ((List.range 21).all fun n => prL "returned" (.int (n : Nat))) = true := by kernel_rfl
theorem prL_fit {z : Str} {d : PyData} (h : prL z d = true) : (PyData.list [.tuple [.str z, d], .tuple [.str z, d]]).showable = true ∧ (PyData.list [.tuple [.str z, d], .tuple [.str z, d]]).depth ≤ 40 ∧ (PyData.list [.tuple [.str z, d], .tuple [.str z, d]]).shown.length ≤ sizeLine := by
  unfold prL at h
  rw [Bool.and_eq_true, Bool.and_eq_true] at h
  exact ⟨h.1, of_decide_eq_true h.2.1, Nat.le_trans (of_decide_eq_true h.2.2) (by decide)⟩
section
variable {K : PySem.W.Frag} {p b q kd : Addr} {n : Nat} {R : List Rw} {H : Hp} {x : Str}
theorem zz_fit (ok : OkR K H R) (hx : x ∈ WB) : prL (zz R x) (dd_ R x) = true ∧ ∀ H2, Sd K H2 (vv R x) (dd_ R x) := by
  unfold zz dd_ vv
  cases e : fR R x with
  | none => exact ⟨List.all_eq_true.mp prL_u x hx, fun H2 => .str x⟩
  | some r =>
    obtain ⟨i, ei, h0, h1⟩ := ok.num r (fR_mem e).1
    obtain ⟨r1, r2, r3⟩ := r
    have ei : r3 = .int i := ei
    subst ei
    obtain ⟨m, rfl⟩ := Int.eq_ofNat_of_zero_le h0
    exact ⟨List.all_eq_true.mp prL_r m (List.mem_range.mpr (by omega)), fun H2 => .int _⟩
/-- takes_of, over a state -/
theorem tk_call (k : Ks K p b q kd n R R H) {Q Q' : VK} {E : XK} (cont : ∀ p1 H6, Same H H6 → H p1 = none → H6 p1 = some (.tup [.str (zz R x), vv R x]) → Q (.ref p1) H6) (ret : ∀ v H2, Pr "returned" v H2 Q → Q' v H2)
    (unk : ∀ (dd : Addr) (v : V) (H2 : Hp), H2 dd = some (.xd [("given", v)]) → Pr "unknown" v H2 Q → E (.ref (gC K "UnknownBrand")) (some dd) H2) : spTakes K [.ref b, .str x] H Q' E := by
  refine ⟨b, q, wE R, x, rfl, k.reg, fun e he => ?_, fun e dd H5 nd s5 hx => unk dd _ H5 hx fun p1 H6 np s6 h6 => ?_⟩
  · rw [valE] at he
    obtain ⟨r, er, e2⟩ := Option.map_eq_some_iff.mp he
    subst e2
    refine ⟨r.2.2, k.ok.ent r (fR_mem er).1, ret _ H fun p1 H6 np s6 h6 => cont p1 H6 s6 np ?_⟩
    rw [h6]
    unfold zz vv
    rw [er]
  · rw [valE] at e
    have no : fR R x = none := by
      cases z : fR R x with
      | none => rfl
      | some r =>
        rw [z] at e
        cases e
    refine cont p1 H6 (s5.tr s6) (none_of s5 np) ?_
    rw [h6]
    unfold zz vv
    rw [no]
end
theorem tabs_upd {T : List (Addr × Str)} {H : Hp} {L : Addr} {xs ys : List V} (t : Tabs T H) (h : H L = some (.lst xs)) : Tabs T (upd H L (.lst ys)) := by
  intro q hq
  obtain ⟨ps, h1, h2, h3⟩ := t q hq
  refine ⟨ps, ?_, h2, fun pos cv hc => ?_⟩
  · rw [upd_ne (fun z => by rw [z, h] at h1; cases h1)]
    exact h1
  · obtain ⟨c, e1, e2⟩ := h3 pos cv hc
    refine ⟨c, e1, ?_⟩
    rw [upd_ne (fun z => by rw [z, h] at e2; cases e2)]
    exact e2
/-- what is due, read -/
theorem due_read {K : PySem.W.Frag} {p b q kd : Addr} {n : Nat} {R : List Rw} {H : Hp} {x : Str} (k : Ks K p b q kd n R R H) {σ : L2.St} {Q : VK} (e2 : σ[2]? = some (some (.ref kd))) (e3 : σ[3]? = some (some (.str x))) (h : ∀ d0, H d0 = none → Q (.ref d0) (upd H d0 (.tup [.str (zz R x), vv R x]))) :
    tIf (tB (tDIn (tVar 3) (tVar 2))) (tTup (tCons (L2.tC (V.str "returned")) (tCons (tDGet (tVar 2) (tVar 3)) tNil))) (tTup (tCons (L2.tC (V.str "unknown")) (tCons (tVar 3) tNil))) σ H Q := by
  refine ⟨_, e3, _, e2, kd, _, rfl, DGet.k (k := .inr x) k.kn, _, rfl, ?_⟩
  rw [valU]
  unfold zz vv at h
  cases z : fR R x with
  | none =>
    rw [z] at h
    exact iteF ⟨_, e3, sz 2 (by decide), h⟩
  | some r =>
    rw [z] at h
    refine iteT ⟨_, e2, _, e3, kd, r.2.2, rfl, ?_, sz 2 (by decide), h⟩
    have g := DGet.k (k := .inr x) k.kn
    rw [valU, z] at g
    exact g
theorem bool_fit (c : Bool) : (PyData.bool c).showable = true ∧ (PyData.bool c).depth ≤ 40 ∧ (PyData.bool c).shown.length ≤ sizeLine := by
  cases c <;> exact ⟨rfl, by decide, Nat.le_trans (by decide : _ ≤ 5) (by decide)⟩
theorem FrC.e {p q kd : Addr} {H H' : Hp} (e : ExtN H H') : FrC p q kd H H' := fun c o h _ _ _ t => e c o h t
section
variable {P : Program} {w : World} {K : PySem.W.Frag} {mg : Str → Option Value} {base : Heap} {f : Addr} {cdv : Value} {A : Around} {outer : List Env} {s : Shared} {H : Hp} {E : XK}
/-- _law_caught(lambda: body), in the reading def -/
theorem rr_lam {scope : Scope} {params : Arguments} {body : Expr} {k : Nat} {t : XK → TE} {p pos lpos : Pos} (N : Nm mg) (W : Wk K mg) (TB : TabB base mg (tR K).1 (tR K).2) (hcode : cdv = .ref (tR K).1)
    (hr : Room 8 (A.deeper (envOfC "_law_read_right" (defScope sRR) s.heap.objs.size f cdv))) (hk : k ≤ 6) (L : LamS (defScope sRR) scope) (hdef : defaultsOf params (XQ P w K mg base f cdv A outer s H E).env = ([], []))
    (noargs : ∀ (q : Str) (cl : List (Str × Addr)) (pm cv ctv : Value), bindArgs (PySem.W.kla_fn "<lambda>" q params body scope cl pm cv ctv) ⟨[], []⟩ = pure [])
    (run : ∀ (A' : Around) (outer' : List Env) (s' : Shared) (H' : Hp) (E' : XK) (f' c' : Addr), Room k (A'.deeper (lamEnv (XQ P w K mg base f cdv A outer s H E) scope s'.heap.objs.size f' c')) → PE (lamCx (XQ P w K mg base f cdv A outer s H E) A' outer' s' H' E' scope f' c') body (t E')) :
    PE (XQ P w K mg base f cdv A outer s H E) (.Call (.Name "_law_caught" p) [.Lambda params body scope lpos] [] pos) (tLam (T2 K) (TTc K) t) := by
  obtain ⟨fm, dm, FM, gM⟩ := W.caught
  have bM : L2.Binds K dm ["call"] [] := FM.bindsN fun _ _ _ _ _ _ us hl => match us, hl with | [_], _ => rfl
  refine pe_lamS (X := XQ P w K mg base f cdv A outer s H E) (k := 6) (by rfl) gM FM.kp FM bM scCt rfl (Or.inl rfl) (fun cdv => caught_gives N W.G) TB hcode (by rw [qR_eq]; exact .tail _ (.head _)) (fun p m hp => ?_) hr L hdef noargs (fun A2 outer2 s2 H2 E2 f2 c2 hr2 => run _ _ _ _ _ _ _ (hr2.mono hk))
  rcases List.mem_cons.mp m with rfl | m
  · exact absurd hp W.ne
  · rw [List.mem_singleton.mp m, qR_eq]
theorem rr_s1 (N : Nm mg) (W : Wk K mg) (S : Es P w K mg base) (SY : SysK K) (D : Dr K mg) (LB : ∃ f fd, FnP K "_law_brand" sLBr f fd ∧ mg "_law_brand" = some (.ref f)) (TB : TabB base mg (tR K).1 (tR K).2) (hcode : cdv = .ref (tR K).1) (hgu : (XQ P w K mg base f cdv A outer s H E).A.guards = some []) (hr : Room 8 (XQ P w K mg base f cdv A outer s H E).A) :
    ∃ t, PS (XQ P w K mg base f cdv A outer s H E) (sR 1) t ∧ ∀ (D : Ends) (H0 : Hp) (p b q kd : Addr) (n : Nat) (R : List Rw) (t3 t4 t5 : Option V), Ks K p b q kd n R R H0 → n < 50000 →
      (∀ H' t3 t4 t5, Ks K p b q kd (n + 2) R R H' → FrC p q kd H0 H' → D.nx [some (.ref p), some (.ref b), some (.ref kd), t3, t4, t5, none] H') → t D [some (.ref p), some (.ref b), some (.ref kd), t3, t4, t5, none] H0 := by
  obtain ⟨fB, dB, FB, gB⟩ := LB
  obtain ⟨fT, dT, MT, FT⟩ := W.takes
  obtain ⟨fc, dc, c1, c2, FC⟩ := W.B.con
  have GB : FnOk P w K mg base CX0 3 fB dB ["draw"] spLBr := ok_lbr FB N D
  have bB : L2.Binds K dB ["draw"] [] := FB.bindsN fun _ _ _ _ _ _ us hl => match us, hl with | [_], _ => rfl
  have GT : FnOk P w K mg base (L2.CX P w) 5 fT dT ["self", "brand"] (spTakes K) := ok_takes W.B FT N S
  have bT : L2.Binds K dT ["self", "brand"] [] := FT.bindsN fun _ _ _ _ _ _ us hl => match us, hl with | [_, _], _ => rfl
  have kT := FT.kbindsP (ps := ["self", "brand"]) (ks := ["brand"]) fun _ _ _ _ _ _ us ws h1 h2 => by
    match ws, h1 with
    | [_], _ =>
      match us, h2 with
      | [_], _ => rfl
      | [], z => simp at z
      | _ :: _ :: _, z => simp at z
  have GC : FnOk P w K mg base CX0 2 fc dc ["self", "brand"] (spCon K) := ok_con W.B FC N
  have bC : L2.Binds K dc ["self", "brand"] [] := FC.bindsN fun _ _ _ _ _ _ us hl => match us, hl with | [_, _], _ => rfl
  have hu := hu_of hr
  refine ⟨_, ps_for PassesOwn.never rfl (pi_list (pe_lst (pa_cons (pe_call GB (hr.mono (by decide)) (by rfl) gB FB.kp bB .nil pass0 (pa_cons (pv 0) pa_nil)) (pa_cons (pe_call GB (hr.mono (by decide)) (by rfl) gB FB.kp bB .nil pass0 (pa_cons (pv 0) pa_nil)) (pa_cons pe_str pa_nil))))) (pg_name (i := 3) scRR.nd rfl (Or.inr rfl))
      (pss_cons (ps_set (i := 4) scRR.nd rfl (Or.inl rfl) (pe_ifExp (pt_cmp (pc_din hu (pv 3) (pv 2)) (by with_unfolding_all rfl)) (pe_tup (pa_cons pe_str (pa_cons (pe_dget hu (pv 2) (pv 3) (fun _ _ => rfl)) pa_nil))) (pe_tup (pa_cons pe_str (pa_cons (pv 3) pa_nil)))))
      (pss_cons (ps_set (i := 5) scRR.nd rfl (Or.inl rfl) (pe_lst (pa_cons (rr_lam (k := 5) N W TB hcode hr (by decide) (lamS_by (by decide +kernel)) rfl (fun _ _ _ _ _ => rfl)
          (fun A' outer' s' H' E' f' c' hr' => pe_methSg (pe_var (i := 1) rfl (Or.inr (Or.inr rfl))) W.B.cls MT GT hr' bT (fun σ => passAt (takes_of rfl rfl rfl rfl) σ) (pa_cons (pe_var (i := 3) rfl (Or.inr (Or.inr rfl))) pa_nil))) pa_nil)))
      (pss_cons (ps_expr (pe_bm PySem.F.plainAttrs_list PySem.F.slot_list_append PySem.F.type_list_append mt_append (pv 5) (pa_cons (rr_lam (k := 5) N W TB hcode hr (by decide) (lamS_by (by decide +kernel)) rfl (fun _ _ _ _ _ => rfl)
          (fun A' outer' s' H' E' f' c' hr' => pe_methKSg (pe_var (i := 1) rfl (Or.inr (Or.inr rfl))) W.B.cls MT GT hr' (fun σ => passAt (takes_of rfl rfl rfl rfl) σ) (fun s a ws kin hl => kT s [.ref a] ws hl (congrArg (fun z => 1 + z) hl)) (fun r => r) (pk_cons (pe_var (i := 3) rfl (Or.inr (Or.inr rfl))) pk_nil))) pa_nil)))
      (pss_one (ps_if (PW.pt (pw_or (pt_cmpR op_ne (pe_callB (call_repr hgu hr SY) (by rfl) N.repr boot_repr (pa_cons (pv 5) pa_nil)) (pe_callB (call_repr hgu hr SY) (by rfl) N.repr boot_repr (pa_cons (pe_lst (pa_cons (pv 4) (pa_cons (pv 4) pa_nil))) pa_nil)) (nomark _))
        (pw_or1 (pt_cmpR op_ne (pe_callB (call_repr hgu hr SY) (by rfl) N.repr boot_repr (pa_cons (pe_cmpR (op_inO (C := CR K) (E := E0) GC (hr.mono (by decide)) bC pass0 c1 c2) (pv 3) (pv 1) (by with_unfolding_all rfl)) pa_nil))
          (pe_callB (call_repr hgu hr SY) (by rfl) N.repr boot_repr (pa_cons (pe_cmp (pc_din hu (pv 3) (pv 2)) (by with_unfolding_all rfl)) pa_nil)) (nomark _))))) (pss_one (ps_ret pe_bl)) pss_nil))))), fun D H0 p b q kd n R t3 t4 t5 k0 hn kk => ?_⟩
  refine ⟨_, rfl, p, n, rfl, k0.draw, by omega, fun x1 H1 hx1 d1 e1 => ?_⟩
  have k1 := k0.drawn e1 d1
  refine ⟨_, rfl, p, n + 1, rfl, k1.draw, by omega, fun x2 H2 hx2 d2 e2 => ?_⟩
  have k2 := k1.drawn e2 d2
  refine ⟨sz 3 (by decide), fun l nl => ?_⟩
  have s3 := same_new (o := .lst [.str x1, .str x2, .str "bag"]) nl
  have kS := k2.same s3
  have hlS : (upd H2 l (.lst [.str x1, .str x2, .str "bag"])) l = some (.lst [.str x1, .str x2, .str "bag"]) := upd_same
  have fS : FrC p q kd H0 (upd H2 l (.lst [.str x1, .str x2, .str "bag"])) := ((FrC.p e1).tr (FrC.p e2)).tr (FrC.of s3)
  generalize upd H2 l (.lst [.str x1, .str x2, .str "bag"]) = HS at *
  refine ⟨l, rfl, ⟨_, SqL.of hlS⟩, for_it (walk_list (K := K) (a := l) (xs := [.str x1, .str x2, .str "bag"])) (fun i σ H' => ∃ t3 t4 t5 : Option V, σ = [some (.ref p), some (.ref b), some (.ref kd), t3, t4, t5, none] ∧ ExtN HS H' ∧ Tabs (T2 K) H') ⟨t3, t4, t5, rfl, ExtN.refl _, kS.tabs⟩ (fun i σ H' _ z => ?_) ?_ ?_⟩
  · obtain ⟨_, _, _, _, e, _⟩ := z
    exact sqL_ext e (SqL.of hlS)
  · rintro i v σ Ha0 Hb0 hi ⟨t3, t4, t5, rfl, eS, TS⟩ ⟨eH, ev⟩
    subst eH
    obtain ⟨x, rfl, hx⟩ : ∃ x, v = .str x ∧ x ∈ WB := by
      match i, hi with
      | 0, _ => cases ev; exact ⟨_, rfl, List.mem_append.mpr (.inl hx1)⟩
      | 1, _ => cases ev; exact ⟨_, rfl, List.mem_append.mpr (.inl hx2)⟩
      | 2, _ => cases ev; exact ⟨_, rfl, List.mem_append.mpr (.inr (.head _))⟩
    have kA := kS.ext eS TS
    obtain ⟨fit, sdv⟩ := zz_fit kA.ok hx
    obtain ⟨o1, o2, o3⟩ := prL_fit fit
    refine due_read kA rfl rfl fun d0 nd0 => ?_
    have sA := same_new (o := .tup [.str (zz R x), vv R x]) nd0
    have hd0 : (upd Hb0 d0 (.tup [.str (zz R x), vv R x])) d0 = some (.tup [.str (zz R x), vv R x]) := upd_same
    have kB := kA.same sA
    have eB : ExtN HS (upd Hb0 d0 (.tup [.str (zz R x), vv R x])) := eS.trans (.of sA)
    generalize upd Hb0 d0 (.tup [.str (zz R x), vv R x]) = HB at *
    refine ⟨kB.tabs, fun H3 e23 T3 => fun H4 E' Q' s34 ret taken takes unk => ?_⟩
    have eB4 : ExtN HB H4 := e23.trans (.of s34)
    have k4 := kB.ext eB4 (T3.ext s34)
    obtain ⟨dx4, hb4, _⟩ := k4.reg
    refine ⟨_, rfl, b, dx4, _, rfl, hb4, rfl, _, rfl, tk_call k4 (fun p1 H6 s46 np1 hp1 => ?_) ret unk⟩
    have eB6 : ExtN HB H6 := eB4.trans (.of s46)
    have T6 := (T3.ext s34).ext s46
    refine ⟨sz 1 (by decide), fun L nL => ?_⟩
    have sL := same_new (o := .lst [.ref p1]) nL
    have np1L : p1 ≠ L := ne_of_none hp1 nL
    have T7 := T6.ext sL
    refine ⟨_, rfl, .inl ⟨rfl, _, SqL.of upd_same⟩, T7, fun H7 e67 T8 => fun H8 E'' Q'' s78 ret2 taken2 takes2 unk2 => ?_⟩
    have e68 : ExtN (upd H6 L (.lst [.ref p1])) H8 := e67.trans (.of s78)
    have k8 := kB.ext ((eB6.trans (.of sL)).trans e68) (T8.ext s78)
    obtain ⟨dx8, hb8, _⟩ := k8.reg
    refine ⟨_, rfl, b, dx8, _, rfl, hb8, rfl, _, rfl, rfl, tk_call k8 (fun p2 Ha s8a np2 hp2 => ?_) ret2 unk2⟩
    have e7a : ExtN (upd H6 L (.lst [.ref p1])) Ha := e68.trans (.of s8a)
    have hL8 := e68 _ _ (upd_same (H := H6) (a := L) (o := .lst [.ref p1])) (fun _ z => nomatch z)
    have hLa := s8a _ _ hL8
    have hp1a := e7a _ _ (sL _ _ hp1) (fun _ z => nomatch z)
    have np2L : p2 ≠ L := (ne_of_none hL8 np2).symm
    have Ta := tabs_upd (T8.ext (s78.tr s8a)) hLa (ys := [.ref p1] ++ [.ref p2])
    refine ⟨L, _, _, rfl, rfl, hLa, sz 2 (by decide), ?_⟩
    have e2b : ExtN HB (upd Ha L (.lst ([.ref p1] ++ [.ref p2]))) := fun c o hc nt => by
      have cL : c ≠ L := ne_of_none (eB6 _ _ hc nt) nL
      rw [upd_ne cL]
      exact e7a _ _ (sL _ _ (eB6 _ _ hc nt)) nt
    have h1b : (upd Ha L (.lst ([.ref p1] ++ [.ref p2]))) p1 = some (.tup [.str (zz R x), vv R x]) := by
      rw [upd_ne np1L]
      exact hp1a
    have h2b : (upd Ha L (.lst ([.ref p1] ++ [.ref p2]))) p2 = some (.tup [.str (zz R x), vv R x]) := by
      rw [upd_ne np2L]
      exact hp2
    have hLb := (upd_same (H := Ha) (a := L) (o := .lst ([.ref p1] ++ [.ref p2])))
    have kb := kB.ext e2b Ta
    have hd0b := e2b _ _ hd0 (fun _ z => nomatch z)
    generalize upd Ha L (.lst ([.ref p1] ++ [.ref p2])) = Hb at *
    have tp : ∀ {Hc : Hp} {c : Addr}, Hc c = some (.tup [.str (zz R x), vv R x]) → Sd K Hc (.ref c) (.tuple [.str (zz R x), dd_ R x]) := fun h => .tup (SqT.of h) (.cons (.str _) (.cons (sdv _) .nil))
    refine ⟨_, rfl, .ref L, .list [.tuple [.str (zz R x), dd_ R x], .tuple [.str (zz R x), dd_ R x]], rfl, .lst (SqL.of hLb) (.cons (tp h1b) (.cons (tp h2b) .nil)), o1, o2, o3, ?_⟩
    refine ⟨_, rfl, _, rfl, sz 2 (by decide), fun L5 n5 => ?_⟩
    have s5 := same_new (o := .lst [.ref d0, .ref d0]) n5
    refine ⟨.ref L5, .list [.tuple [.str (zz R x), dd_ R x], .tuple [.str (zz R x), dd_ R x]], rfl, .lst (SqL.of upd_same) (.cons (tp (s5 _ _ hd0b)) (.cons (tp (s5 _ _ hd0b)) .nil)), o1, o2, o3, rfl, false, by rw [decide_eq_true rfl]; rfl, iteF ?_⟩
    have k5 := kb.same s5
    obtain ⟨dx5, hb5, hq5⟩ := k5.reg
    refine ⟨_, rfl, _, rfl, b, dx5, _, rfl, hb5, b, q, wE R, .str x, .str x, rfl, ⟨dx5, hb5, hq5⟩, .str x, _, rfl, ?_⟩
    refine ⟨.bl (hasB (wE R) (.str x)), .bool (hasB (wE R) (.str x)), rfl, .bl _, (bool_fit _).1, (bool_fit _).2.1, (bool_fit _).2.2, ?_⟩
    refine ⟨_, rfl, _, rfl, kd, _, rfl, DGet.k (k := .inr x) k5.kn, ?_⟩
    rw [valU, Option.isSome_map]
    refine ⟨.bl _, .bool _, rfl, .bl _, (bool_fit _).1, (bool_fit _).2.1, (bool_fit _).2.2, rfl, false, by rw [hasE, decide_eq_true rfl]; rfl, iteF ?_⟩
    exact ⟨_, _, _, rfl, (eB.trans e2b).trans (.of s5), k5.tabs⟩
  · rintro σ H' ⟨t3, t4, t5, rfl, eS, TS⟩
    exact kk H' t3 t4 t5 (kS.ext eS TS) (fS.tr (.e eS))
end
end Kg

set_option Elab.async false
set_option linter.all false
set_option maxRecDepth 100000
set_option maxHeartbeats 4000000
namespace Kg
open PySem PySem.Spec PyProof.Rows L2 StX ClX LamX
theorem no_empty {K : PySem.W.Frag} {H : Hp} {R : List Rw} (ok : OkR K H R) : fR R "" = none := by
  cases z : fR R "" with
  | none => rfl
  | some r =>
    obtain ⟨m, e⟩ := fR_mem z
    have y := ok.sok r m
    rw [e] at y
    exact absurd y (by decide +kernel)
section
variable {P : Program} {w : World} {K : PySem.W.Frag} {mg : Str → Option Value} {base : Heap} {f : Addr} {cdv : Value} {A : Around} {outer : List Env} {s : Shared} {H : Hp} {E : XK}
theorem rr_s2 (N : Nm mg) (W : Wk K mg) (hr : Room 8 (XQ P w K mg base f cdv A outer s H E).A) :
    ∃ t, PS (XQ P w K mg base f cdv A outer s H E) (sR 2) t ∧ ∀ (D : Ends) (H0 : Hp) (p b q kd : Addr) (n : Nat) (R : List Rw) (t3 t4 t5 : Option V), Ks K p b q kd n R R H0 →
      (∀ H', Same H0 H' → D.rt (.bl true) H') → t D [some (.ref p), some (.ref b), some (.ref kd), t3, t4, t5, none] H0 := by
  obtain ⟨fc, dc, c1, c2, FC⟩ := W.B.con
  have GC : FnOk P w K mg base CX0 2 fc dc ["self", "brand"] (spCon K) := ok_con W.B FC N
  have bC : L2.Binds K dc ["self", "brand"] [] := FC.bindsN fun _ _ _ _ _ _ us hl => match us, hl with | [_, _], _ => rfl
  have hu1 := Nat.lt_of_succ_lt (hu_of hr)
  have hr2 := hr.mono (show 2 ≤ 8 by decide)
  refine ⟨_, ps_ret (pe_cmpR (op_eqN hu1) (pe_lc (own := [("odd", 6)]) (g := gName 6) rfl scRR.nd (pi_tup (pe_tup (pa_cons pe_non (pa_cons pe_int (pa_cons pe_bl (pa_cons (pe_lst pa_nil) (pa_cons pe_dnewK (pa_cons (pe_tup (pa_cons pe_str pa_nil)) (pa_cons pe_str pa_nil)))))))))
      (blkOk_by (own := [("odd", 6)]) (N := NRr) (sc := defScope sRR) (by decide +kernel))
      (fun _ _ _ _ _ => pg_name (i := 6) scRR.nd rfl (Or.inl rfl))
      (fun _ _ _ _ _ => pts_one (pt_cmpR (show OpR _ (compareOp .IsNot) rNotB from op_notBl) (pe_cmpR (show OpR _ (compareOp .In) (rInO (CR K) (spCon K) E0 false) from op_inO (C := CR K) (E := E0) GC hr2 bC pass0 c1 c2) (pv 6) (pv 1) (by with_unfolding_all rfl)) pe_bl (nomark _)))
      (fun _ _ _ _ _ => pe_int)) (pe_lst pa_nil) (nomark _)), fun D H0 p b q kd n R t3 t4 t5 k0 kk => ?_⟩
  refine ⟨sz 0 (by decide), fun a1 n1 => ?_⟩
  intro a2 n2
  refine ⟨sz 1 (by decide), fun a3 n3 => ⟨sz 7 (by decide), fun tT nT => ?_⟩⟩
  have s1 := same_new (o := .lst []) n1
  have s2 := same_new (o := .dK []) n2
  have s3 := same_new (o := .tup [.str "a"]) n3
  have sT := same_new (o := .tup [.non, .int 5, .bl true, .ref a1, .ref a2, .ref a3, .str ""]) nT
  have h1 := (s2.tr (s3.tr sT)) _ _ (upd_same (H := H0) (a := a1) (o := .lst []))
  have h2 := (s3.tr sT) _ _ (upd_same (H := upd H0 a1 (.lst [])) (a := a2) (o := .dK []))
  have h3 := sT _ _ (upd_same (H := upd (upd H0 a1 (.lst [])) a2 (.dK [])) (a := a3) (o := .tup [.str "a"]))
  have hT : (upd (upd (upd (upd H0 a1 (.lst [])) a2 (.dK [])) a3 (.tup [.str "a"])) tT (.tup [.non, .int 5, .bl true, .ref a1, .ref a2, .ref a3, .str ""])) tT = some (.tup [.non, .int 5, .bl true, .ref a1, .ref a2, .ref a3, .str ""]) := upd_same
  have s0 := s1.tr (s2.tr (s3.tr sT))
  generalize upd (upd (upd (upd H0 a1 (.lst [])) a2 (.dK [])) a3 (.tup [.str "a"])) tT (.tup [.non, .int 5, .bl true, .ref a1, .ref a2, .ref a3, .str ""]) = HS at *
  have kS := k0.same s0
  have all : ∀ (i : Nat) (x : V), ([.non, .int 5, .bl true, .ref a1, .ref a2, .ref a3, .str ""] : List V)[i]? = some x → i < 7 → ∃ d, hasB (wE R) d = false ∧ ∀ H', Same HS H' → Sd K H' x d := fun i x e hi => by
    match i, hi with
    | 0, _ => cases e; exact ⟨.none, rfl, fun _ _ => .non⟩
    | 1, _ => cases e; exact ⟨.int 5, rfl, fun _ _ => .int _⟩
    | 2, _ => cases e; exact ⟨.bool true, rfl, fun _ _ => .bl _⟩
    | 3, _ => cases e; exact ⟨.list [], rfl, fun _ s => .lst (SqL.of (s _ _ h1)) .nil⟩
    | 4, _ => cases e; exact ⟨.dict [], rfl, fun _ s => .emp (s _ _ h2)⟩
    | 5, _ => cases e; exact ⟨.tuple [.str "a"], rfl, fun _ s => .tup (SqT.of (s _ _ h3)) (.cons (.str _) .nil)⟩
    | 6, _ => cases e; exact ⟨.str "", by rw [hasE, no_empty k0.ok]; rfl, fun _ _ => .str _⟩
  refine ⟨tT, rfl, ⟨_, SqT.of hT⟩, fun D1 nD => ?_⟩
  refine lc_it (walk_tup (K := K) (a := tT) (xs := [.non, .int 5, .bl true, .ref a1, .ref a2, .ref a3, .str ""])) (fun i H2 => Same HS H2 ∧ H2 D1 = some (.lst [])) ⟨same_new nD, upd_same⟩ (fun i H2 _ z => SqT.of (z.1 _ _ hT)) ?_ ?_
  · rintro i x H2 H3 hi ⟨s5, hD⟩ ⟨eH, ex⟩
    subst eH
    obtain ⟨d, nb, sd⟩ := all i x ex hi
    have k5 := kS.same s5
    obtain ⟨dx, hb, hq⟩ := k5.reg
    refine ⟨rfl, ⟨_, rfl, _, rfl, b, dx, _, rfl, hb, b, q, wE R, x, d, rfl, ⟨dx, hb, hq⟩, sd _ s5, hasB (wE R) d, rfl, ?_⟩⟩
    refine ⟨hasB (wE R) d, false, rfl, rfl, false, ?_, iteF ⟨s5, hD⟩⟩
    rw [nb]
    rfl
  · rintro H2 ⟨s5, hD⟩
    refine ⟨sz 0 (by decide), fun L nL => ?_⟩
    have s6 := same_new (o := .lst []) nL
    refine ⟨D1, L, [], rfl, rfl, SqL.of (s6 _ _ hD), SqL.of upd_same, ?_⟩
    exact kk _ (s0.tr (s5.tr s6))
/-- what the law reads of the Registry -/
def spRR (K : PySem.W.Frag) : Sp := fun vs H Q _ => ∃ (p b q kd : Addr) (n : Nat) (R : List Rw), vs = [.ref p, .ref b, .ref kd] ∧ Ks K p b q kd n R R H ∧ n < 50000 ∧ ∀ H', Ks K p b q kd (n + 2) R R H' → FrC p q kd H H' → Q (.bl true) H'
theorem ok_rr (F : ∃ fd, FnP K "_law_read_right" sRR f fd) (ef : f = He.fAd K ("_law_read_right", none)) (N : Nm mg) (W : Wk K mg) (S : Es P w K mg base) (SY : SysK K) (D : Dr K mg) (LB : ∃ f fd, FnP K "_law_brand" sLBr f fd ∧ mg "_law_brand" = some (.ref f)) (BP : ∃ p g fd, PropOf K (CR K) "brands" p g ∧ FnM K "brands" "Registry.brands" sRgB [] g fd)
    (LN : ∃ f fd, PySem.W.findIn K (.ref (CR K)) "__len__" = some (some (.ref f)) ∧ PySem.W.isFn K (.ref f) = true ∧ FnM K "__len__" "Registry.__len__" sRgL [] f fd) (TB : TabB base mg (tR K).1 (tR K).2) : ∃ fd, FnP K "_law_read_right" sRR f fd ∧ FnG P w K mg base CX0 9 f fd ["draw", "book", "known"] (spRR K) := by
  obtain ⟨fd, F⟩ := F
  refine ⟨fd, F, FunD.okGc F scRR (fun vs H Q E h => ?_) (fun cdv A outer s H vs Q E hcd hk hgu hr h => ?_)⟩
  · obtain ⟨p, b, q, kd, n, R, rfl, _⟩ := h
    rfl
  · have hcode : cdv = .ref (tR K).1 := by
      obtain ⟨c, rfl⟩ := He.codeIn_ref hcd
      obtain ⟨oc, od, fd', osl, lk, e⟩ := hk
      rw [ef] at lk
      rw [← He.codeOf_eq lk e]
      rfl
    obtain ⟨t0, p0, q0⟩ := rr_s0 (P := P) (w := w) (base := base) (f := f) (cdv := cdv) (A := A) (outer := outer) (s := s) (H := H) (E := E) N W BP LN hr
    obtain ⟨t1, p1, q1⟩ := rr_s1 (P := P) (w := w) (base := base) (f := f) (cdv := cdv) (A := A) (outer := outer) (s := s) (H := H) (E := E) N W S SY D LB TB hcode hgu hr
    obtain ⟨t2, p2, q2⟩ := rr_s2 (P := P) (w := w) (base := base) (f := f) (cdv := cdv) (A := A) (outer := outer) (s := s) (H := H) (E := E) N W hr
    rw [rr_body]
    refine ⟨_, PSs.nox (pss_cons p0 (pss_cons p1 (pss_one p2))), ?_⟩
    obtain ⟨p, b, q, kd, n, R, rfl, k0, hn, k⟩ := h
    refine q0 _ H p b q kd n R none none none k0 fun H1 s1 => ?_
    refine q1 _ H1 p b q kd n R none none none (k0.same s1) hn fun H2 t3 t4 t5 k2 f2 => ?_
    exact q2 _ H2 p b q kd (n + 2) R t3 t4 t5 k2 fun H3 s3 => k H3 (k2.same s3) (((FrC.of s1).tr f2).tr (.of s3))
end
end Kg

set_option Elab.async false
set_option linter.all false
set_option maxRecDepth 100000
set_option maxHeartbeats 4000000
namespace Kg
open PySem PySem.Spec PyProof.Rows L2 StX ClX LamX
abbrev sSt : Stmt := top 56
abbrev NSt : List Str := ["draw", "words", "many", "known", "word", "books"]
theorem scSt : FnScope NSt ["draw"] (defScope sSt) := ⟨rfl, rfl, rfl, by decide +kernel, rfl, by decide +kernel, by decide +kernel⟩
def W4 : List Str := ["a", "shop.item", "Z", X40]
def z0 (xs : List Str) : List (Key × V) := xs.map fun x => (.inr x, .int 0)
theorem z0_put : ((List.range 5).all fun m => (List.range m).all fun i => decide (putK (z0 ((W4.take m).take i)) (.inr (W4.getD i "")) (.int 0) = z0 ((W4.take m).take (i + 1)))) = true := by kernel_rfl
theorem W4_ok : (W4.all fun x => freeB (.str x) && (decide (x.length ≤ 100) && okW x)) = true := by kernel_rfl
theorem W4_nd : W4.Nodup := by decide +kernel
theorem br4 {j : Nat} (h : j < 5) : BrL (W4.take j) := by
  have mem : ∀ x ∈ W4.take j, x ∈ W4 := fun x m => List.mem_of_mem_take m
  have all : ∀ x ∈ W4.take j, freeB (.str x) = true ∧ x.length ≤ 100 ∧ okW x = true := fun x m => by
    have z := List.all_eq_true.mp W4_ok x (mem x m)
    rw [Bool.and_eq_true, Bool.and_eq_true] at z
    exact ⟨z.1, of_decide_eq_true z.2.1, z.2.2⟩
  exact ⟨fun x m => ⟨(all x m).1, (all x m).2.1⟩, fun x m => (all x m).2.2, List.Nodup.sublist (List.take_sublist _ _) W4_nd, by rw [List.length_take]; exact Nat.le_trans (Nat.min_le_right _ _) (by decide)⟩
theorem R0_wU {R : List Rw} {xs : List Str} (h : R0 R xs) : wU R = z0 xs := by
  rw [← h.ws]
  unfold wU z0
  rw [List.map_map]
  exact List.map_congr_left fun r m => by
    show ((.inr r.1 : Key), r.2.2) = (.inr r.1, .int 0)
    rw [h.zero r m]
/-- all but one object stands -/
def spSt (K : PySem.W.Frag) : Sp := fun vs H Q _ => ∃ (p : Addr) (n : Nat), vs = [.ref p] ∧ DrawAt H p n ∧ n < 50000 ∧ Tabs (T2 K) H ∧ ∀ H' t b q kd R, Ks K p b q kd (n + 1) R R H' → R.length ≤ 4 → L2.Keep p H H' → H' t = some (.tup [.ref b, .ref kd]) → Q (.ref t) H'
section
variable {P : Program} {w : World} {K : PySem.W.Frag} {mg : Str → Option Value} {base : Heap}
theorem ok_st {f fi : Addr} {fd : FuncData} (F : FnP K "_law_started" sSt f fd) (N : Nm mg) (D : Dr K mg) (MI : Mk K (CR K) fi) (GI : FnR P w K mg base (L2.CX P w) 5 fi (spRgI K)) (gR : mg "Registry" = some (.ref (CR K))) : FnOk P w K mg base CX0 7 f fd ["draw"] (spSt K) := by
  obtain ⟨fX, dX, FX, gX⟩ := D.next
  obtain ⟨fM, dM, FM, gM⟩ := D.mixed
  have GX : FnOk P w K mg base CX0 2 fX dX ["draw", "bound"] spNext := ok_next FX FM gM N.len
  have bX : L2.Binds K dX ["draw", "bound"] [] := FX.bindsN fun _ _ _ _ _ _ us hl => match us, hl with | [_, _], _ => rfl
  refine F.ok scSt (fun vs H Q E h => ?_) (fun cdv A outer s H vs Q E hr h => ?_)
  · obtain ⟨p, n, rfl, _⟩ := h
    rfl
  · have hu := hu_of hr
    refine ⟨_, PSs.nox (pss_cons (ps_par (i := 1) (j := 2) rfl scSt.nd rfl rfl (by decide) rfl rfl (pa_cons (pe_lst (pa_cons pe_str (pa_cons pe_str (pa_cons pe_str (pa_cons (pe_op op_mulS pe_str pe_int) pa_nil))))) (pa_cons (pe_call GX (hr.mono (by decide)) (by rfl) gX FX.kp bX .nil pass0 (pa_cons (pv 0) (pa_cons pe_int pa_nil))) pa_nil)) (by rfl))
      (pss_cons (ps_set (i := 3) scSt.nd rfl (Or.inl rfl) pe_dnewK)
      (pss_cons (ps_for PassesOwn.never rfl (pi_list (pe_slice sl_list (pv 1) po_none (po_some (pv 2)))) (pg_name (i := 4) scSt.nd rfl (Or.inl rfl)) (pss_one (ps_dput hu (pv 3) (pv 4) pe_int (by rfl))))
      (pss_cons (ps_set (i := 5) scSt.nd rfl (Or.inl rfl) (pe_lst (pa_cons (pe_makeR0 (E := E0) MI GI hr (by rfl) gR (fun _ _ _ _ _ _ _ z => (no_cx z).elim))
          (pa_cons (pe_makeR (E := E0) MI GI hr (by rfl) gR (fun _ _ _ _ _ _ _ z => (no_cx z).elim) (pa_cons pe_str pa_nil)) (pa_cons (pe_makeR (E := E0) MI GI hr (by rfl) gR (fun _ _ _ _ _ _ _ z => (no_cx z).elim) (pa_cons pe_str (pa_cons pe_str pa_nil)))
          (pa_cons (pe_makeR (E := E0) MI GI hr (by rfl) gR (fun _ _ _ _ _ _ _ z => (no_cx z).elim) (pa_cons pe_str (pa_cons pe_str (pa_cons pe_str pa_nil)))) pa_nil))))))
      (pss_cons (ps_expr (pe_bm PySem.F.plainAttrs_list PySem.F.slot_list_append PySem.F.type_list_append mt_append (pv 5) (pa_cons (pe_makeR (E := E0) MI GI hr (by rfl) gR (fun _ _ _ _ _ _ _ z => (no_cx z).elim) (pa_cons pe_str (pa_cons pe_str (pa_cons pe_str (pa_cons (pe_op op_mulS pe_str pe_int) pa_nil))))) pa_nil)))
      (pss_one (ps_ret (pe_tup (pa_cons (pe_ix (show IxR _ (rIxL K) from ix_list) (pv 5) (pv 2) (fun _ _ => rfl)) (pa_cons (pv 3) pa_nil)))))))))), ?_⟩
    obtain ⟨p, n, rfl, d0, hn, tb, k⟩ := h
    refine ⟨_, 40, rfl, rfl, by decide, by decide, by decide, sz 4 (by decide), fun l nl => ?_⟩
    have s0 := same_new (o := .lst (W4.map V.str)) nl
    have hl0 : (upd H l (.lst (W4.map V.str))) l = some (.lst (W4.map V.str)) := upd_same
    have d1 := d0.same s0
    have lp : l ≠ p := d1.ne hl0 fun _ z => nomatch z
    refine ⟨_, rfl, p, 5, n, rfl, d1, by omega, by decide, by decide, fun r H1 r0 r5 d2 e2 => ⟨_, _, rfl, ?_⟩⟩
    have hl1 := e2 _ _ hl0 lp
    have f1 : L2.Keep p H H1 := (L2.Keep.of s0).trans e2.old
    obtain ⟨m, rfl⟩ := Int.eq_ofNat_of_zero_le r0
    have hm : m < 5 := by omega
    intro kd nkd
    have s2 := same_new (o := .dK []) nkd
    have hkd : (upd H1 kd (.dK [])) kd = some (.dK []) := upd_same
    have d3 := d2.same s2
    have hp3 : ∃ o, (upd H1 kd (.dK [])) p = some o := by
      obtain ⟨_, _, _, _, _, h1, _⟩ := d3
      exact ⟨_, h1⟩
    have pk : p ≠ kd := by
      obtain ⟨_, _, _, _, _, h1, _⟩ := d2
      exact ne_of_none h1 nkd
    have f2 : L2.Keep p H (upd H1 kd (.dK [])) := f1.trans (L2.Keep.of s2)
    have nk0 : H kd = none ∨ kd = p := .inl (by
      cases z : H kd with
      | none => rfl
      | some o =>
        have y := f1 _ _ z pk.symm
        rw [y] at nkd
        cases nkd)
    have hl2 := s2 _ _ hl1
    generalize upd H1 kd (.dK []) = H2 at *
    refine ⟨_, rfl, _, rfl, _, rfl, l, _, rfl, SqL.of hl2, fun c nc => ?_⟩
    have s3 := same_new (o := .lst (cutV (W4.map V.str) none (some (m : Int)))) nc
    have ec : cutV (W4.map V.str) none (some (m : Int)) = (W4.take m).map V.str := by
      match m, hm with
      | 0, _ => rfl
      | 1, _ => rfl
      | 2, _ => rfl
      | 3, _ => rfl
      | 4, _ => rfl
    rw [ec] at s3 ⊢
    have hc3 : (upd H2 c (.lst ((W4.take m).map V.str))) c = some (.lst ((W4.take m).map V.str)) := upd_same
    have hk3 := s3 _ _ hkd
    have d4 := d3.same s3
    have f3 : L2.Keep p H (upd H2 c (.lst ((W4.take m).map V.str))) := f2.trans (L2.Keep.of s3)
    generalize upd H2 c (.lst ((W4.take m).map V.str)) = H3 at *
    have ck : c ≠ kd := fun z => by rw [z, hk3] at hc3; cases hc3
    refine ⟨c, rfl, ⟨_, SqL.of hc3⟩, for_it (walk_list (K := K) (a := c) (xs := (W4.take m).map V.str)) (fun i σ H' => ∃ t4 : Option V, σ = [some (.ref p), some (.ref l), some (.int (m : Nat)), some (.ref kd), t4, none] ∧ L2.Keep kd H3 H' ∧ H' kd = some (.dK (z0 ((W4.take m).take i)))) ⟨none, rfl, L2.Keep.refl, hk3⟩ (fun i σ H' _ z => ?_) ?_ ?_⟩
    · obtain ⟨_, _, e, _⟩ := z
      exact SqL.of (e _ _ hc3 ck)
    · rintro i v σ Ha Hb hi ⟨t4, rfl, ea, hka⟩ ⟨eH, ev⟩
      subst eH
      rw [List.length_map, List.length_take] at hi
      have him : i < m := Nat.lt_of_lt_of_le hi (Nat.min_le_left _ _)
      have eW : ((W4.take m).map V.str)[i]? = some (.str (W4.getD i "")) := by
        rw [List.getElem?_map, List.getElem?_take_of_lt him]
        have : i < 4 := by omega
        match i, this with
        | 0, _ => rfl
        | 1, _ => rfl
        | 2, _ => rfl
        | 3, _ => rfl
      rw [eW] at ev
      obtain rfl : V.str (W4.getD i "") = v := by injection ev
      refine ⟨_, rfl, _, rfl, kd, _, rfl, DPut.k (k := .inr (W4.getD i "")) hka ?_, ?_⟩
      · unfold z0
        rw [List.length_map]
        exact Nat.lt_of_le_of_lt (Nat.le_trans (List.length_take_le _ _) (by omega : i ≤ 4)) (by decide)
      · have ep := of_decide_eq_true (List.all_eq_true.mp (List.all_eq_true.mp z0_put m (List.mem_range.mpr hm)) i (List.mem_range.mpr him))
        rw [ep]
        exact ⟨_, rfl, ea.trans L2.Keep.upd, upd_same⟩
    · rintro σ H4 ⟨t4, rfl, e4, hk4⟩
      have et : (W4.take m).take (((W4.take m).map V.str).length) = W4.take m := by rw [List.length_map, List.take_length]
      rw [et] at hk4
      have hp3' : ∃ o, H3 p = some o := by
        obtain ⟨_, _, _, _, _, h1, _⟩ := d4
        exact ⟨_, h1⟩
      have d5 : DrawAt H4 p (n + 1) := by
        obtain ⟨l', cs, a', b', c', h1, h2, r⟩ := d4
        exact ⟨l', cs, a', b', c', e4 _ _ h1 pk, e4 _ _ h2 (fun z => by rw [z, hk3] at h2; cases h2), r⟩
      have f4 : L2.Keep p H H4 := fun c' o hc np => by
        by_cases z : c' = kd
        · rcases nk0 with y | y
          · rw [z, y] at hc
            cases hc
          · exact absurd y.symm pk
        · exact e4 _ _ (f3 _ _ hc np) z
      have t4' : Tabs (T2 K) H4 := by
        obtain ⟨o, hp0⟩ : ∃ kvs, H p = some (.dK kvs) := by
          obtain ⟨_, _, _, _, _, h1, _⟩ := d0
          exact ⟨_, h1⟩
        exact tabs_kp tb hp0 f4
      intro n0 x0 hn0 hd0 ne0
      refine mkRg2 (xs := W4.take 0) (br4 (by decide)) n0 x0 hn0 hd0 ne0 fun H5 M0 => ⟨rfl, ?_⟩
      obtain ⟨n0', q0, Ra, e0, sa, -, hqa, ga, oka, za⟩ := M0
      obtain rfl : n0 = n0' := by injection e0
      intro n1 x1 hn1 hd1 ne1
      refine mkRg2 (xs := W4.take 1) (br4 (by decide)) n1 x1 hn1 hd1 ne1 fun H6 M1 => ⟨rfl, ?_⟩
      obtain ⟨n1', q1, Rb, e1', sb, -, hqb, gb, okb, zb⟩ := M1
      obtain rfl : n1 = n1' := by injection e1'
      intro n2 x2 hn2 hd2 ne2
      refine mkRg2 (xs := W4.take 2) (br4 (by decide)) n2 x2 hn2 hd2 ne2 fun H7 M2 => ⟨rfl, ?_⟩
      obtain ⟨n2', q2, Rc, e2', sc, -, hqc, gc, okc, zc⟩ := M2
      obtain rfl : n2 = n2' := by injection e2'
      intro n3 x3 hn3 hd3 ne3
      refine mkRg2 (xs := W4.take 3) (br4 (by decide)) n3 x3 hn3 hd3 ne3 fun H8 M3 => ⟨rfl, ?_⟩
      obtain ⟨n3', q3, Rd, e3', sd, -, hqd, gd, okd, zd⟩ := M3
      obtain rfl : n3 = n3' := by injection e3'
      refine ⟨sz 4 (by decide), fun L nL => ?_⟩
      have sL := same_new (o := .lst [.ref n0, .ref n1, .ref n2, .ref n3]) nL
      have hL0 : (upd H8 L (.lst [.ref n0, .ref n1, .ref n2, .ref n3])) L = some (.lst [.ref n0, .ref n1, .ref n2, .ref n3]) := upd_same
      generalize upd H8 L (.lst [.ref n0, .ref n1, .ref n2, .ref n3]) = H9 at *
      refine ⟨_, rfl, .inl ⟨rfl, _, SqL.of hL0⟩, _, 40, rfl, rfl, by decide, by decide, by decide, ?_⟩
      intro n4 x4 hn4 hd4 ne4
      refine mkRg2 (xs := W4.take 4) (br4 (by decide)) n4 x4 hn4 hd4 ne4 fun HA M4 => ⟨rfl, ?_⟩
      obtain ⟨n4', q4, Re, e4', se, -, hqe, ge, oke, ze⟩ := M4
      obtain rfl : n4 = n4' := by injection e4'
      have hLA := se _ _ hL0
      refine ⟨L, _, _, rfl, rfl, hLA, sz 5 (by decide), ?_⟩
      have kL : KpQ L HA (upd HA L (.lst ([.ref n0, .ref n1, .ref n2, .ref n3] ++ [.ref n4]))) := fun c o h n => by
        rw [upd_ne n]
        exact h
      have hLB : (upd HA L (.lst ([.ref n0, .ref n1, .ref n2, .ref n3] ++ [.ref n4]))) L = some (.lst ([.ref n0, .ref n1, .ref n2, .ref n3] ++ [.ref n4])) := upd_same
      have s4A : Same H4 HA := sa.tr (sb.tr (sc.tr (sd.tr (sL.tr se))))
      have nL4 : H4 L = none := none_of (sa.tr (sb.tr (sc.tr sd))) nL
      generalize upd HA L (.lst ([.ref n0, .ref n1, .ref n2, .ref n3] ++ [.ref n4])) = HB at *
      have s4B : Same H4 HB := fun c o h => kL _ _ (s4A _ _ h) (fun z => by rw [z, nL4] at h; cases h)
      -- each of the five, at the end
      have five : ∀ {Hx : Hp} {a q : Addr} {Rx : List Rw}, Same Hx HA → RegAt K Hx a q (wE Rx) → OkR K Hx Rx → RegAt K HB a q (wE Rx) ∧ OkR K HB Rx := fun sx g o => by
        obtain ⟨dx, g1, g2⟩ := g.to sx
        exact ⟨⟨dx, kL _ _ g1 (fun z => by rw [z, hLA] at g1; cases g1), kL _ _ g2 (fun z => by rw [z, hLA] at g2; cases g2)⟩, (o.keep fun c C dx fs h => sx _ _ h).keep fun c C dx fs h => kL _ _ h (fun z => by rw [z, hLA] at h; cases h)⟩
      have each : ∃ b q R, (([.ref n0, .ref n1, .ref n2, .ref n3] : List V) ++ [.ref n4])[m]? = some (.ref b) ∧ RegAt K HB b q (wE R) ∧ OkR K HB R ∧ R0 R (W4.take m) ∧ H4 q = none := by
        match m, hm with
        | 0, _ => exact ⟨n0, q0, Ra, rfl, (five (sb.tr (sc.tr (sd.tr (sL.tr se)))) ga oka).1, (five (sb.tr (sc.tr (sd.tr (sL.tr se)))) ga oka).2, za, hqa⟩
        | 1, _ => exact ⟨n1, q1, Rb, rfl, (five (sc.tr (sd.tr (sL.tr se))) gb okb).1, (five (sc.tr (sd.tr (sL.tr se))) gb okb).2, zb, none_of sa hqb⟩
        | 2, _ => exact ⟨n2, q2, Rc, rfl, (five (sd.tr (sL.tr se)) gc okc).1, (five (sd.tr (sL.tr se)) gc okc).2, zc, none_of (sa.tr sb) hqc⟩
        | 3, _ => exact ⟨n3, q3, Rd, rfl, (five (sL.tr se) gd okd).1, (five (sL.tr se) gd okd).2, zd, none_of (sa.tr (sb.tr sc)) hqd⟩
        | 4, _ => exact ⟨n4, q4, Re, rfl, (five Same.refl' ge oke).1, (five Same.refl' ge oke).2, ze, none_of (sa.tr (sb.tr (sc.tr (sd.tr sL)))) hqe⟩
      obtain ⟨b, q, R, eb, gB, okB, zB, nq⟩ := each
      refine ⟨_, rfl, _, rfl, L, _, _, .ref b, rfl, rfl, SqL.of hLB, atI_nat eb, _, rfl, sz 2 (by decide), fun t nt => ?_⟩
      have sF := same_new (o := .tup [.ref b, .ref kd]) nt
      have s4F := s4B.tr sF
      have hkF := s4F _ _ hk4
      have dF' := d5.same s4F
      obtain ⟨op, hp4⟩ : ∃ o, H4 p = some o := by
        obtain ⟨_, _, _, _, _, h1, _⟩ := d5
        exact ⟨_, h1⟩
      refine k _ t b q kd R ⟨dF', gB.to sF, by rw [hkF, R0_wU zB], okB.keep (fun c C dx fs h => sF _ _ h), t4'.ext s4F, ne_of_none hp4 nq, pk, (ne_of_none hk4 nq).symm⟩ ?_ (f4.trans (L2.Keep.of s4F)) upd_same
      have := congrArg List.length zB.ws
      rw [List.length_map, List.length_take] at this
      rw [this]
      exact Nat.le_trans (Nat.min_le_left _ _) (by omega)
end
end Kg

set_option Elab.async false
set_option linter.all false
set_option maxRecDepth 100000
set_option maxHeartbeats 4000000
namespace Kg
open PySem PySem.Spec PyProof.Rows L2 StX ClX LamX
abbrev sLaw : Stmt := top 57
abbrev NL : List Str := ["script", "draw", "turn", "book", "known", "again", "other", "other_known"]
theorem scLaw : FnScope NL ["script"] (defScope sLaw) := ⟨rfl, rfl, rfl, by decide +kernel, rfl, by decide +kernel, by decide +kernel⟩
def spLaw (K : PySem.W.Frag) : Sp := fun vs H Q _ => ∃ (a : Addr) (ns : List Int), vs = [.ref a] ∧ SqL K H a (ns.map V.int) ∧ ns.length ≤ 63 ∧ H (tC K).2 = some (.tbl #[]) ∧ H (tR K).2 = some (.tbl #[]) ∧ ∀ H', Q (.bl true) H'
section
variable {K : PySem.W.Frag} {p b q kd b2 q2 kd2 : Addr} {n m : Nat} {R R2 R2' : List Rw} {H H' : Hp}
/-- another Registry has been asked -/
theorem Ks.other (k : Ks K p b q kd n R R H) (k2 : Ks K p b2 q2 kd2 n R2 R2 H) (k3 : Ks K p b2 q2 kd2 m R2' R2' H') (f : FrC p q2 kd2 H H') (n1 : q ≠ q2) (n2 : q ≠ kd2) (n3 : kd ≠ q2) (n4 : kd ≠ kd2) : Ks K p b q kd m R R H' := by
  obtain ⟨dx, hb, hq⟩ := k.reg
  obtain ⟨dx2, hb2, hq2⟩ := k2.reg
  have hp : ∃ kvs, H p = some (.dK kvs) := by
    obtain ⟨_, _, _, _, _, h1, _⟩ := k.draw
    exact ⟨_, h1⟩
  obtain ⟨kvs, hp⟩ := hp
  have ins : ∀ a C dx fs, H a = some (.ins C dx fs) → H' a = some (.ins C dx fs) := fun a C dx fs h => f _ _ h (fun z => by rw [z, hp] at h; cases h) (fun z => by rw [z, hq2] at h; cases h) (fun z => by rw [z, k2.kn] at h; cases h) (fun _ z => nomatch z)
  exact ⟨k3.draw, ⟨dx, ins _ _ _ _ hb, f _ _ hq k.npq.symm n1 n2 (fun _ z => nomatch z)⟩, f _ _ k.kn k.npk.symm n3 n4 (fun _ z => nomatch z), k.ok.keep ins, k3.tabs, k.npq, k.npk, k.nqk⟩
end
section
variable {P : Program} {w : World} {K : PySem.W.Frag} {mg : Str → Option Value} {base : Heap}
theorem ok_law {f fS fi fT fC fR : Addr} {fd dS dT dC dR : FuncData} (F : FnP K "law" sLaw f fd) (N : Nm mg) (W : Wk K mg) (D : Dr K mg) (FS : FnP K "_law_started" sSt fS dS) (gS : mg "_law_started" = some (.ref fS)) (MI : Mk K (CR K) fi) (GI : FnR P w K mg base (L2.CX P w) 5 fi (spRgI K)) (gR : mg "Registry" = some (.ref (CR K)))
    (MT : Meth K (CR K) "twin" fT) (FT : FnM K "twin" "Registry.twin" sRgW [] fT dT) (FC : FnP K "_law_call_right" sCR fC dC) (gC : mg "_law_call_right" = some (.ref fC)) (GC : FnG P w K mg base CX0 9 fC dC ["draw", "book", "known"] (spCR K)) (FR : FnP K "_law_read_right" sRR fR dR) (gRR : mg "_law_read_right" = some (.ref fR)) (GR : FnG P w K mg base CX0 9 fR dR ["draw", "book", "known"] (spRR K)) : FnG P w K mg base CX0 10 f fd ["script"] (spLaw K) := by
  obtain ⟨f1, d1, F1, g1⟩ := D.begin_
  have G1 : FnOk P w K mg base CX0 1 f1 d1 ["script"] (spBegin K) := ok_begin F1
  have b1 : L2.Binds K d1 ["script"] [] := F1.bindsN fun _ _ _ _ _ _ us hl => match us, hl with | [_], _ => rfl
  have GS : FnOk P w K mg base CX0 7 fS dS ["draw"] (spSt K) := ok_st FS N D MI GI gR
  have bS : L2.Binds K dS ["draw"] [] := FS.bindsN fun _ _ _ _ _ _ us hl => match us, hl with | [_], _ => rfl
  have GT : FnOk P w K mg base (L2.CX P w) 7 fT dT ["self"] (spTwin K) := ok_twin W.B MI GI gR FT N
  have bT : L2.Binds K dT ["self"] [] := FT.bindsN fun _ _ _ _ _ _ us hl => match us, hl with | [_], _ => rfl
  have bC : L2.Binds K dC ["draw", "book", "known"] [] := FC.bindsN fun _ _ _ _ _ _ us hl => match us, hl with | [_, _, _], _ => rfl
  have bR : L2.Binds K dR ["draw", "book", "known"] [] := FR.bindsN fun _ _ _ _ _ _ us hl => match us, hl with | [_, _, _], _ => rfl
  refine F.okG scLaw (fun vs H Q E h => ?_) (fun cdv A outer s H vs Q E hgu hr h => ?_)
  · obtain ⟨a, ns, rfl, _⟩ := h
    rfl
  · refine ⟨_, PSs.nox (pss_cons (ps_set (i := 1) scLaw.nd rfl (Or.inl rfl) (pe_call G1 (hr.mono (by decide)) (by rfl) g1 F1.kp b1 .nil pass0 (pa_cons (pv 0) pa_nil)))
      (pss_cons (ps_for PassesOwn.never rfl (pi_range1 (by rfl) N.rng (pa_cons (pe_callB (call_min2 rfl) (by rfl) N.min boot_min (pa_cons pe_int (pa_cons (pe_op op_add pe_int (pe_op op_fdiv (pe_callB call_len (by rfl) N.len PySem.boot_len (pa_cons (pv 0) pa_nil)) pe_int)) pa_nil))) pa_nil)) (pg_name (i := 2) scLaw.nd rfl (Or.inl rfl))
        (pss_cons (ps_asg (pe_call GS (hr.mono (by decide)) (by rfl) gS FS.kp bS .nil pass0 (pa_cons (pv 1) pa_nil)) (pg_tup rfl (pgs_cons (pg_name (i := 3) scLaw.nd rfl (Or.inl rfl)) (pgs_cons (pg_name (i := 4) scLaw.nd rfl (Or.inl rfl)) pgs_nil))))
        (pss_cons (ps_for PassesOwn.never rfl (pi_range1 (by rfl) N.rng (pa_cons pe_int pa_nil)) (pg_name (i := 5) scLaw.nd rfl (Or.inl rfl))
          (pss_one (ps_if (PW.pt (pw_or (pt_not (pt_val (pe_callG hgu GC hr (by rfl) gC FC.kp bC .nil pass0 (pa_cons (pv 1) (pa_cons (pv 3) (pa_cons (pv 4) pa_nil)))))) (pw_or1 (pt_not (pt_val (pe_callG hgu GR hr (by rfl) gRR FR.kp bR .nil pass0 (pa_cons (pv 1) (pa_cons (pv 3) (pa_cons (pv 4) pa_nil)))))))))
            (pss_one (ps_ret pe_bl)) pss_nil)))
        (pss_cons (ps_par (i := 6) (j := 7) rfl scLaw.nd rfl rfl (by decide) rfl rfl (pa_cons (pe_meth0 (E := E0) (pv 3) W.B.cls MT GT (hr.mono (by decide)) bT .nil (fun _ _ _ _ _ _ _ z => (no_cx z).elim)) (pa_cons (pe_callTy call_dictD (by rfl) N.dict (by decide +kernel) (pa_cons (pv 4) pa_nil)) pa_nil)) (by rfl))
        (pss_one (ps_for PassesOwn.never rfl (pi_range1 (by rfl) N.rng (pa_cons pe_int pa_nil)) (pg_name (i := 5) scLaw.nd rfl (Or.inl rfl))
          (pss_cons (ps_if (PW.pt (pw_or (pt_not (pt_val (pe_callG hgu GC hr (by rfl) gC FC.kp bC .nil pass0 (pa_cons (pv 1) (pa_cons (pv 6) (pa_cons (pv 7) pa_nil)))))) (pw_or1 (pt_not (pt_val (pe_callG hgu GC hr (by rfl) gC FC.kp bC .nil pass0 (pa_cons (pv 1) (pa_cons (pv 3) (pa_cons (pv 4) pa_nil))))))))) (pss_one (ps_ret pe_bl)) pss_nil)
          (pss_one (ps_if (PW.pt (pw_or (pt_not (pt_val (pe_callG hgu GR hr (by rfl) gRR FR.kp bR .nil pass0 (pa_cons (pv 1) (pa_cons (pv 6) (pa_cons (pv 7) pa_nil)))))) (pw_or1 (pt_not (pt_val (pe_callG hgu GR hr (by rfl) gRR FR.kp bR .nil pass0 (pa_cons (pv 1) (pa_cons (pv 3) (pa_cons (pv 4) pa_nil))))))))) (pss_one (ps_ret pe_bl)) pss_nil)))))))))
      (pss_one (ps_ret pe_bl)))), ?_⟩
    obtain ⟨a, ns, rfl, hS, hl, hP, hQ, k⟩ := h
    refine ⟨_, rfl, a, ns, rfl, hS, hl, fun p H1 np s1 dr1 => ?_⟩
    have tb1 : Tabs (T2 K) H1 := fun r hr => by
      rcases List.mem_cons.mp hr with rfl | m
      · exact TabS.nil (s1 _ _ hP)
      · rw [List.mem_singleton.mp m]
        exact TabS.nil (s1 _ _ hQ)
    refine ⟨_, rfl, _, ns.length, rfl, .inl ⟨_, s1.seq hS, (List.length_map (f := V.int) (as := ns)).symm⟩, ?_⟩
    refine ⟨_, _, rfl, rfl, ⟨by decide, by decide⟩, _, _, rfl, rfl, _, _, rfl, _, rfl, ?_⟩
    have jb : ∃ t : Nat, t ≤ 5 ∧ (if (2 + (ns.length : Int) / 3) < 5 then 2 + (ns.length : Int) / 3 else 5) = (t : Int) := by
      by_cases c : (2 + (ns.length : Int) / 3) < 5
      · exact ⟨(2 + (ns.length : Int) / 3).toNat, by omega, by rw [if_pos c]; omega⟩
      · exact ⟨5, by omega, by rw [if_neg c]; rfl⟩
    obtain ⟨t, ht, et⟩ := jb
    rw [et]
    refine ⟨by omega, by omega, ?_⟩
    rw [Int.toNat_natCast]
    refine for_it walk_range (fun i σ H' => ∃ t2 t3 t4 t5 t6 t7 : Option V, σ = [some (.ref a), some (.ref p), t2, t3, t4, t5, t6, t7] ∧ DrawAt H' p (201 * i) ∧ Tabs (T2 K) H') ⟨none, none, none, none, none, none, rfl, dr1, tb1⟩ (fun _ _ _ _ _ => True.intro) ?_ ?_
    · rintro i x σ Ha Ha' hi ⟨t2, t3, t4, t5, t6, t7, rfl, dA, tA⟩ ⟨eH, rfl⟩
      subst eH
      refine ⟨_, rfl, p, 201 * i, rfl, dA, by omega, tA, fun H2 tp b q kd R k2 lr kp htp => ?_⟩
      refine ⟨tp, _, rfl, SqT.of htp, rfl, _, _, rfl, _, _, rfl, rfl, ?_⟩
      refine ⟨_, rfl, by decide, by decide, for_it (walk_range (lo := 0) (n := 20)) (fun i1 σ H' => ∃ (t5 : Option V) (R : List Rw), σ = [some (.ref a), some (.ref p), some (.int (0 + (i : Nat))), some (.ref b), some (.ref kd), t5, t6, t7] ∧ Ks K p b q kd (201 * i + 1 + 5 * i1) R R H' ∧ R.length ≤ 4 + i1) ⟨t5, R, rfl, k2, lr⟩ (fun _ _ _ _ _ => True.intro) ?_ ?_⟩
      · rintro i1 x1 σ Hb Hb' hi1 ⟨t5, R1, rfl, k3, l3⟩ ⟨eH, rfl⟩
        subst eH
        refine ⟨_, rfl, _, rfl, _, rfl, p, b, q, kd, _, R1, rfl, k3, by omega, by omega, fun H4 R4 k4 l4 f4 => ⟨_, rfl, iteF ?_⟩⟩
        refine ⟨_, rfl, _, rfl, _, rfl, p, b, q, kd, _, R4, rfl, k4, by omega, fun H5 k5 f5 => ⟨_, rfl, iteF ?_⟩⟩
        exact ⟨_, R4, rfl, k5, by omega⟩
      · rintro σ Hc ⟨t5, R1, rfl, k3, l3⟩
        obtain ⟨dx, hb, hq⟩ := k3.reg
        refine ⟨_, rfl, b, dx, _, rfl, hb, rfl, b, q, R1, rfl, ⟨dx, hb, hq⟩, k3.ok, fun b2 q2 H6 s6 nb2 nq2 g2 ok2 => ?_⟩
        have k6 := k3.same s6
        refine ⟨_, rfl, kd, _, rfl, .inl k6.kn, fun kd2 nkd2 => ⟨_, _, rfl, ?_⟩⟩
        have s7 := same_new (o := .dK (wU R1)) nkd2
        have k7 := k6.same s7
        have hk7 : (upd H6 kd2 (.dK (wU R1))) kd2 = some (.dK (wU R1)) := upd_same
        have op : ∃ o, Hc p = some o := by
          obtain ⟨_, _, _, _, _, h1, _⟩ := k3.draw
          exact ⟨_, h1⟩
        obtain ⟨o, hp⟩ := op
        have n1 : q ≠ q2 := ne_of_none hq nq2
        have n2 : q ≠ kd2 := ne_of_none (s6 _ _ hq) nkd2
        have n3 : kd ≠ q2 := ne_of_none k3.kn nq2
        have n4 : kd ≠ kd2 := ne_of_none (s6 _ _ k3.kn) nkd2
        have n5 : q2 ≠ kd2 := by
          obtain ⟨_, _, hq2⟩ := g2
          exact ne_of_none hq2 nkd2
        have k7' : Ks K p b2 q2 kd2 (201 * i + 1 + 5 * 20) R1 R1 (upd H6 kd2 (.dK (wU R1))) := ⟨k7.draw, g2.to s7, hk7, ok2.keep (fun c C dx fs h => s7 _ _ h), k7.tabs, ne_of_none hp nq2, ne_of_none (s6 _ _ hp) nkd2, n5⟩
        generalize upd H6 kd2 (.dK (wU R1)) = H7 at *
        refine ⟨_, rfl, by decide, by decide, for_it (walk_range (lo := 0) (n := 10)) (fun i2 σ H' => ∃ (t5 : Option V) (R R2 : List Rw), σ = [some (.ref a), some (.ref p), some (.int (0 + (i : Nat))), some (.ref b), some (.ref kd), t5, some (.ref b2), some (.ref kd2)] ∧ Ks K p b q kd (201 * i + 101 + 10 * i2) R R H' ∧ Ks K p b2 q2 kd2 (201 * i + 101 + 10 * i2) R2 R2 H' ∧ R.length ≤ 24 + i2 ∧ R2.length ≤ 24 + i2) ⟨t5, R1, R1, rfl, k7, k7', l3, l3⟩ (fun _ _ _ _ _ => True.intro) ?_ ?_⟩
        · rintro i2 x2 σ Hd Hd' hi2 ⟨t5, RA, RB, rfl, kA, kB, lA, lB⟩ ⟨eH, rfl⟩
          subst eH
          refine ⟨_, rfl, _, rfl, _, rfl, p, b2, q2, kd2, _, RB, rfl, kB, by omega, by omega, fun H8 RB8 kB8 lB8 f8 => ⟨_, rfl, iteF ?_⟩⟩
          have kA8 := kA.other kB kB8 f8 n1 n2 n3 n4
          refine ⟨_, rfl, _, rfl, _, rfl, p, b, q, kd, _, RA, rfl, kA8, by omega, by omega, fun H9 RA9 kA9 lA9 f9 => ⟨_, rfl, iteF ?_⟩⟩
          have kB9 := kB8.other kA8 kA9 f9 n1.symm n3.symm n2.symm n4.symm
          refine ⟨_, rfl, _, rfl, _, rfl, p, b2, q2, kd2, _, RB8, rfl, kB9, by omega, fun HA kBA fA => ⟨_, rfl, iteF ?_⟩⟩
          have kAA := kA9.other kB9 kBA fA n1 n2 n3 n4
          refine ⟨_, rfl, _, rfl, _, rfl, p, b, q, kd, _, RA9, rfl, kAA, by omega, fun HB kAB fB => ⟨_, rfl, iteF ?_⟩⟩
          have kBB := kBA.other kAA kAB fB n1.symm n3.symm n2.symm n4.symm
          exact ⟨_, RA9, RB8, rfl, kAB, kBB, by omega, by omega⟩
        · rintro σ He ⟨t5, RA, RB, rfl, kA, kB, lA, lB⟩
          exact ⟨_, _, _, _, _, _, rfl, by have e : 201 * (i + 1) = 201 * i + 101 + 10 * 10 := by omega
                                           rw [e]; exact kA.draw, kA.tabs⟩
    · rintro σ H' ⟨t2, t3, t4, t5, t6, t7, rfl, dA, tA⟩
      exact k H'
end
end Kg

set_option Elab.async false
set_option linter.all false
set_option maxRecDepth 100000
set_option maxHeartbeats 4000000
namespace Kg
open PySem PySem.Spec PyProof.Rows L2 StX ClX LamX
section
variable {P : Program} {w : World} {K : PySem.W.Frag} {mg : Str → Option Value} {h : Heap}
theorem fn_glo (c : He5.SaysA fa fn K) (X : K.In h) (G : h.Ns mainGlobals mg) (i : Nat) {x : Str} {n : Nat} (e1 : fn[i]? = some (dF x n)) (e2 : fa[i]? = some (.glo x)) : ∃ f fd, FnP K x (top n) f fd ∧ mg x = some (.ref f) := by
  obtain ⟨fd, F⟩ := c.def_ i e1
  exact ⟨He.ga K x, fd, F, He.glo_ok X G (c.fact i e2)⟩
theorem names_of (c : He5.SaysA fa fn K) (X : K.In h) (G : h.Ns mainGlobals mg) : Nm mg where
  isi := He.free_ok X G (c.fact 24 (f := .free "isinstance") rfl)
  int := He.free_ok X G (c.fact 25 (f := .free "int") rfl)
  bool := He.free_ok X G (c.fact 26 (f := .free "bool") rfl)
  str := He.free_ok X G (c.fact 27 (f := .free "str") rfl)
  tuple := He.free_ok X G (c.fact 28 (f := .free "tuple") rfl)
  len := He.free_ok X G (c.fact 29 (f := .free "len") rfl)
  all := He.free_ok X G (c.fact 30 (f := .free "all") rfl)
  repr := He.free_ok X G (c.fact 31 (f := .free "repr") rfl)
  rng := He.free_ok X G (c.fact 32 (f := .free "range") rfl)
  min := He.free_ok X G (c.fact 33 (f := .free "min") rfl)
  dict := He.free_ok X G (c.fact 34 (f := .free "dict") rfl)
  sorted := He.free_ok X G (c.fact 35 (f := .free "sorted") rfl)
  lim := He.int_ok X G (c.fact 36 (f := .int "BRAND_LIMIT" 40) rfl)
  lets := He.str_ok X G (c.fact 37 (f := .str "LETTERS" LET) rfl)
  oths := He.str_ok X G (c.fact 38 (f := .str "OTHER_BRAND_SIGNS" OTH) rfl)
  resv := He.str_ok X G (c.fact 39 (f := .str "RESERVED_BRAND" "bag") rfl)
  takes := He.int_ok X G (c.fact 40 (f := .int "TAKES_LIMIT" 20) rfl)
structure ErrI (K : PySem.W.Frag) (x fld : Str) : Prop where
  ini : PySem.W.findIn K (.ref (gC K x)) "__init__" = some (some (.ref (mAt x "__init__" K)))
  fn : PySem.W.typeIn K (.ref (mAt x "__init__" K)) = some (.type "function")
  no : PySem.W.findIn K (.ref (gC K x)) fld = some none
theorem err_ok {x fld : Str} (h : errB K x fld = true) : ErrI K x fld := by
  obtain ⟨h1, h⟩ := band h
  obtain ⟨h2, h3⟩ := band h
  exact ⟨of_decide_eq_true h1, of_decide_eq_true h2, of_decide_eq_true h3⟩
theorem prop_ok {C m : Str} (h : propB K C m = true) : PropOf K (gC K C) m (mAt C m K) (wAt C "property" m K) := by
  obtain ⟨h1, h⟩ := band h
  obtain ⟨h2, h⟩ := band h
  obtain ⟨h3, h4⟩ := band h
  refine ⟨He.eqO_ok h1, He.eqO_ok h2, of_decide_eq_true h3, ?_⟩
  show ∃ rest, PySem.W.recIn K (mAt C m K) "property" = some (.ref (match PySem.W.recIn K (mAt C m K) "property" with
    | some (.ref f :: _) => f
    | _ => 0) :: rest)
  split at h4
  · rename_i f r e
    exact ⟨r, by rw [e]⟩
  · cases h4
theorem bare_ok {C : Addr} (h : bareB K C = true) : Bare K C := by
  obtain ⟨h1, h⟩ := band h
  obtain ⟨h2, h⟩ := band h
  obtain ⟨h3, h4⟩ := band h
  exact ⟨h1, He.eqO_ok h2, h3, of_decide_eq_true h4⟩
theorem xk_b {base : Heap} (T : Xc K (gC K "InvalidBrand")) (e : ErrI K "InvalidBrand" "given") (F : ∃ fd, FunD K "__init__" "InvalidBrand.__init__" (defArgs (inClass (top 20) 0)) (defBody (inClass (top 20) 0)) (defScope (inClass (top 20) 0)) [] [] (mAt "InvalidBrand" "__init__" K) fd) (hm : mg "InvalidBrand" = some (.ref (gC K "InvalidBrand"))) : XK1 P w K mg base "InvalidBrand" "given" (gC K "InvalidBrand") := by
  obtain ⟨fd, F⟩ := F
  have sc : FnScope ["self", "given"] ["self", "given"] (defScope (inClass (top 20) 0)) := ⟨rfl, rfl, rfl, by decide +kernel, rfl, by decide +kernel, by decide +kernel⟩
  refine ⟨T, hm, e.no, _, fd, e.ini, e.fn, F.ok sc (fun vs H Q E h => ?_) (fun cdv A outer s H vs Q E hr h => ⟨_, PSs.nox (pss_one (ps_xst (pv 0) (pv 1))), ?_⟩), F.bindsN (fun _ _ _ _ _ _ us hl => match us, hl with | [_, _], _ => rfl), fun s a ws kin hl => ?_⟩
  · obtain ⟨a, v, rfl, _⟩ := h
    rfl
  · obtain ⟨a, v, rfl, ha, q⟩ := h
    exact ⟨_, rfl, _, rfl, a, _, rfl, T, e.no, .inl ⟨ha, fun dx n ne => q dx n ne⟩⟩
  · obtain ⟨oc, od, dV, kV, doc, pm, an, cdv, ct, osl, rfl, lk, hcd, hD, hK⟩ := F.ex
    rcases hD with ⟨_, rfl⟩ | ⟨y, _⟩
    · match ws, hl with
      | [r], _ => exact .of_eq rfl
    · exact absurd rfl y
theorem xk_i {base : Heap} (T : Xc K (gC K "InvalidTakes")) (e : ErrI K "InvalidTakes" "value") (F : ∃ fd, FunD K "__init__" "InvalidTakes.__init__" (defArgs (inClass (top 21) 0)) (defBody (inClass (top 21) 0)) (defScope (inClass (top 21) 0)) [] [] (mAt "InvalidTakes" "__init__" K) fd) (hm : mg "InvalidTakes" = some (.ref (gC K "InvalidTakes"))) : XK1 P w K mg base "InvalidTakes" "value" (gC K "InvalidTakes") := by
  obtain ⟨fd, F⟩ := F
  have sc : FnScope ["self", "value"] ["self", "value"] (defScope (inClass (top 21) 0)) := ⟨rfl, rfl, rfl, by decide +kernel, rfl, by decide +kernel, by decide +kernel⟩
  refine ⟨T, hm, e.no, _, fd, e.ini, e.fn, F.ok sc (fun vs H Q E h => ?_) (fun cdv A outer s H vs Q E hr h => ⟨_, PSs.nox (pss_one (ps_xst (pv 0) (pv 1))), ?_⟩), F.bindsN (fun _ _ _ _ _ _ us hl => match us, hl with | [_, _], _ => rfl), fun s a ws kin hl => ?_⟩
  · obtain ⟨a, v, rfl, _⟩ := h
    rfl
  · obtain ⟨a, v, rfl, ha, q⟩ := h
    exact ⟨_, rfl, _, rfl, a, _, rfl, T, e.no, .inl ⟨ha, fun dx n ne => q dx n ne⟩⟩
  · obtain ⟨oc, od, dV, kV, doc, pm, an, cdv, ct, osl, rfl, lk, hcd, hD, hK⟩ := F.ex
    rcases hD with ⟨_, rfl⟩ | ⟨y, _⟩
    · match ws, hl with
      | [r], _ => exact .of_eq rfl
    · exact absurd rfl y
theorem xk_t {base : Heap} (T : Xc K (gC K "BrandTaken")) (e : ErrI K "BrandTaken" "given") (F : ∃ fd, FunD K "__init__" "BrandTaken.__init__" (defArgs (inClass (top 23) 0)) (defBody (inClass (top 23) 0)) (defScope (inClass (top 23) 0)) [] [] (mAt "BrandTaken" "__init__" K) fd) (hm : mg "BrandTaken" = some (.ref (gC K "BrandTaken"))) : XK1 P w K mg base "BrandTaken" "given" (gC K "BrandTaken") := by
  obtain ⟨fd, F⟩ := F
  have sc : FnScope ["self", "given"] ["self", "given"] (defScope (inClass (top 23) 0)) := ⟨rfl, rfl, rfl, by decide +kernel, rfl, by decide +kernel, by decide +kernel⟩
  refine ⟨T, hm, e.no, _, fd, e.ini, e.fn, F.ok sc (fun vs H Q E h => ?_) (fun cdv A outer s H vs Q E hr h => ⟨_, PSs.nox (pss_one (ps_xst (pv 0) (pv 1))), ?_⟩), F.bindsN (fun _ _ _ _ _ _ us hl => match us, hl with | [_, _], _ => rfl), fun s a ws kin hl => ?_⟩
  · obtain ⟨a, v, rfl, _⟩ := h
    rfl
  · obtain ⟨a, v, rfl, ha, q⟩ := h
    exact ⟨_, rfl, _, rfl, a, _, rfl, T, e.no, .inl ⟨ha, fun dx n ne => q dx n ne⟩⟩
  · obtain ⟨oc, od, dV, kV, doc, pm, an, cdv, ct, osl, rfl, lk, hcd, hD, hK⟩ := F.ex
    rcases hD with ⟨_, rfl⟩ | ⟨y, _⟩
    · match ws, hl with
      | [r], _ => exact .of_eq rfl
    · exact absurd rfl y
theorem xk_u {base : Heap} (T : Xc K (gC K "UnknownBrand")) (e : ErrI K "UnknownBrand" "given") (F : ∃ fd, FunD K "__init__" "UnknownBrand.__init__" (defArgs (inClass (top 24) 0)) (defBody (inClass (top 24) 0)) (defScope (inClass (top 24) 0)) [] [] (mAt "UnknownBrand" "__init__" K) fd) (hm : mg "UnknownBrand" = some (.ref (gC K "UnknownBrand"))) : XK1 P w K mg base "UnknownBrand" "given" (gC K "UnknownBrand") := by
  obtain ⟨fd, F⟩ := F
  have sc : FnScope ["self", "given"] ["self", "given"] (defScope (inClass (top 24) 0)) := ⟨rfl, rfl, rfl, by decide +kernel, rfl, by decide +kernel, by decide +kernel⟩
  refine ⟨T, hm, e.no, _, fd, e.ini, e.fn, F.ok sc (fun vs H Q E h => ?_) (fun cdv A outer s H vs Q E hr h => ⟨_, PSs.nox (pss_one (ps_xst (pv 0) (pv 1))), ?_⟩), F.bindsN (fun _ _ _ _ _ _ us hl => match us, hl with | [_, _], _ => rfl), fun s a ws kin hl => ?_⟩
  · obtain ⟨a, v, rfl, _⟩ := h
    rfl
  · obtain ⟨a, v, rfl, ha, q⟩ := h
    exact ⟨_, rfl, _, rfl, a, _, rfl, T, e.no, .inl ⟨ha, fun dx n ne => q dx n ne⟩⟩
  · obtain ⟨oc, od, dV, kV, doc, pm, an, cdv, ct, osl, rfl, lk, hcd, hD, hK⟩ := F.ex
    rcases hD with ⟨_, rfl⟩ | ⟨y, _⟩
    · match ws, hl with
      | [r], _ => exact .of_eq rfl
    · exact absurd rfl y
theorem facts {f : Addr} (X : K.In h) (G : h.Ns mainGlobals mg) (hfa : mg ("law" : Str) = some (.ref f)) (c : He.SaysL fa fn [] tf chk w h K) :
    ∃ fd : FuncData, (∀ (s : Shared) (v : Value), BindsTo s fd ⟨[v], []⟩ [("script", v)]) ∧ (∀ p ∈ [tC K, tR K], TabK K h p) ∧ ∀ base : Heap, K.In base → base.Ns mainGlobals mg → (∀ p ∈ [tC K, tR K], TabB base mg p.1 p.2) → FnG P w K mg base CX0 10 f fd ["script"] (spLaw K) := by
  have k := c.chk
  obtain ⟨h1, k⟩ := band k
  obtain ⟨h2, k⟩ := band k
  obtain ⟨h3, k⟩ := band k
  obtain ⟨h4, k⟩ := band k
  obtain ⟨h5, k⟩ := band k
  obtain ⟨h6, k⟩ := band k
  obtain ⟨h7, k⟩ := band k
  obtain ⟨h8, k⟩ := band k
  obtain ⟨h9, k⟩ := band k
  obtain ⟨h10, k⟩ := band k
  obtain ⟨h11, k⟩ := band k
  obtain ⟨h12, k⟩ := band k
  obtain ⟨h13, k⟩ := band k
  obtain ⟨h14, k⟩ := band k
  obtain ⟨h15, k⟩ := band k
  obtain ⟨h16, k⟩ := band k
  obtain ⟨h17, k⟩ := band k
  obtain ⟨h18, k⟩ := band k
  obtain ⟨h19, k⟩ := band k
  obtain ⟨h20, h21⟩ := band k
  have sy := sys_of h1
  have cs := c.says
  have N := names_of cs X G
  have glo : ∀ (i : Nat) {x : Str}, fa[i]? = some (.glo x) → mg x = some (.ref (gC K x)) := fun i x e => He.glo_ok X G (cs.fact i e)
  have eb := err_ok h6
  have ei := err_ok h7
  have et := err_ok h8
  have eu := err_ok h9
  have xb := xc_VE h2
  have xi := xc_VE h3
  have xt := xc_RE h4
  have xu := xc_LE h5
  have S : ∀ base : Heap, Es P w K mg base := fun base => ⟨xk_b xb eb (cs.def_ 14 rfl) (glo 14 rfl), xk_t xt et (cs.def_ 16 rfl) (glo 16 rfl), xk_i xi ei (cs.def_ 15 rfl) (glo 15 rfl), xk_u xu eu (cs.def_ 17 rfl) (glo 17 rfl)⟩
  have T : Ts K mg := ⟨fn_glo cs X G 0 rfl rfl, fn_glo cs X G 1 rfl rfl, fn_glo cs X G 2 rfl rfl⟩
  have mCon := He.meth_ok (cs.fact 50 (f := .meth "Registry" "__contains__") rfl)
  have mLen := He.meth_ok (cs.fact 51 (f := .meth "Registry" "__len__") rfl)
  obtain ⟨dCon, FCon⟩ := cs.def_ 26 rfl
  obtain ⟨dLen, FLen⟩ := cs.def_ 27 rfl
  obtain ⟨dNew, FNew⟩ := cs.def_ 28 rfl
  obtain ⟨dKn, FKn⟩ := cs.def_ 29 rfl
  obtain ⟨dEnt, FEnt⟩ := cs.def_ 23 rfl
  have B : RgC K := ⟨He.cls_ok (cs.fact 41 (f := .cls "Registry") rfl), He.noat_ok (cs.fact 42 (f := .noat "Registry" "_known") rfl), ⟨_, dCon, mCon.at_, mCon.fn, FCon⟩, ⟨_, dNew, He.meth_ok (cs.fact 52 (f := .meth "Registry" "_require_new") rfl), FNew⟩, ⟨_, dKn, He.meth_ok (cs.fact 53 (f := .meth "Registry" "_require_known") rfl), FKn⟩, ⟨_, dEnt, He.meth_ok (cs.fact 48 (f := .meth "Registry" "entry_of") rfl), FEnt⟩⟩
  obtain ⟨dAI, FAI⟩ := cs.def_ 30 rfl
  obtain ⟨dEI, FEI⟩ := cs.def_ 31 rfl
  obtain ⟨dFI, FFI⟩ := cs.def_ 32 rfl
  have C : EnC K mg := ⟨He.cls_ok (cs.fact 54 (f := .cls "AllowedBrand") rfl), He.noat_ok (cs.fact 55 (f := .noat "AllowedBrand" "takes") rfl), He.noat_ok (cs.fact 56 (f := .noat "AllowedBrand" "_brand") rfl), ⟨_, dAI, He.mkr_ok (cs.fact 57 (f := .mkr "AllowedBrand") rfl), FAI⟩, glo 19 rfl,
    He.cls_ok (cs.fact 58 (f := .cls "EnteredBrand") rfl), He.noat_ok (cs.fact 59 (f := .noat "EnteredBrand" "takes") rfl), He.noat_ok (cs.fact 60 (f := .noat "EnteredBrand" "_brand") rfl), He.noat_ok (cs.fact 61 (f := .noat "EnteredBrand" "_make_hook") rfl), He.noat_ok (cs.fact 62 (f := .noat "EnteredBrand" "_reduce_hook") rfl), He.noat_ok (cs.fact 63 (f := .noat "EnteredBrand" "_build_hook") rfl), ⟨_, dEI, He.mkr_ok (cs.fact 64 (f := .mkr "EnteredBrand") rfl), FEI⟩, glo 20 rfl⟩
  have HK : HkC K mg := ⟨He.cls_ok (cs.fact 65 (f := .cls "Fields") rfl), He.noat_ok (cs.fact 66 (f := .noat "Fields" "_brand") rfl), He.noat_ok (cs.fact 67 (f := .noat "Fields" "_labels") rfl), ⟨_, dFI, He.mkr_ok (cs.fact 68 (f := .mkr "Fields") rfl), FFI⟩, glo 21 rfl, fn_glo cs X G 3 rfl rfl, bare_ok h19, glo 22 rfl, bare_ok h20, glo 23 rfl⟩
  have Gg : Cg K mg := ⟨glo 16 rfl, glo 15 rfl, glo 17 rfl, ⟨xt, et.no, of_decide_eq_true h10⟩, ⟨xi, ei.no, of_decide_eq_true h11⟩, ⟨xu, eu.no, of_decide_eq_true h12⟩, of_decide_eq_true h13, of_decide_eq_true h14, of_decide_eq_true h15, of_decide_eq_true h16, of_decide_eq_true h17⟩
  have D : Dr K mg := ⟨fn_glo cs X G 4 rfl rfl, fn_glo cs X G 5 rfl rfl, fn_glo cs X G 6 rfl rfl⟩
  have LB := fn_glo cs X G 7 (x := "_law_brand") (n := 51) rfl rfl
  obtain ⟨dAl, FAl⟩ := cs.def_ 19 rfl
  obtain ⟨dEn, FEn⟩ := cs.def_ 20 rfl
  obtain ⟨dFo, FFo⟩ := cs.def_ 21 rfl
  obtain ⟨dTk, FTk⟩ := cs.def_ 22 rfl
  obtain ⟨dBr, FBr⟩ := cs.def_ 24 rfl
  obtain ⟨dTw, FTw⟩ := cs.def_ 25 rfl
  obtain ⟨dRI, FRI⟩ := cs.def_ 18 rfl
  have mAl := He.meth_ok (cs.fact 44 (f := .meth "Registry" "allow") rfl)
  have mTw := He.meth_ok (cs.fact 49 (f := .meth "Registry" "twin") rfl)
  have mRI := He.mkr_ok (cs.fact 43 (f := .mkr "Registry") rfl)
  have ne : (tC K).2 ≠ (tR K).2 := fun z => by
    rw [z] at h21
    simp at h21
  have W : Wk K mg := ⟨B, C, HK, T, Gg, ⟨_, dAl, mAl, FAl⟩, ⟨_, dFo, He.meth_ok (cs.fact 46 (f := .meth "Registry" "forget") rfl), FFo⟩, ⟨_, dEn, He.meth_ok (cs.fact 45 (f := .meth "Registry" "enter") rfl), FEn⟩, ⟨_, dTk, He.meth_ok (cs.fact 47 (f := .meth "Registry" "takes_of") rfl), FTk⟩, fn_glo cs X G 8 rfl rfl, fn_glo cs X G 9 rfl rfl, ne⟩
  obtain ⟨dCR, FCR⟩ := cs.def_ 10 rfl
  have FCR : FnP K "_law_call_right" sCR (gC K "_law_call_right") dCR := FCR
  have FRR : ∃ fd, FnP K "_law_read_right" sRR (gC K "_law_read_right") fd := cs.def_ 11 rfl
  obtain ⟨dSt, FSt⟩ := cs.def_ 12 rfl
  have FSt : FnP K "_law_started" sSt (gC K "_law_started") dSt := FSt
  obtain ⟨fd, F⟩ := cs.def_ 13 rfl
  have e := hfa.symm.trans (glo 13 (x := "law") rfl)
  obtain rfl : f = He.ga K "law" := by
    injection e with e
    injection e
  have F : FnP K "law" sLaw (He.ga K "law") fd := F
  have b := FunD.bindsA (ps := ["script"]) F fun _ _ _ _ _ _ us hl => match us, hl with | [_], _ => rfl
  refine ⟨fd, fun s v => b s [v] rfl, fun p hp => ?_, fun base _ _ tb => ?_⟩
  · rcases List.mem_cons.mp hp with rfl | m
    · exact c.tabs _ (.head _)
    · rw [List.mem_singleton.mp m]
      exact c.tabs _ (.tail _ (.head _))
  · have GI : FnR P w K mg base (L2.CX P w) 5 _ (spRgI K) := ok_rgI B C mAl FAl FRI N (S base) T
    have GC := ok_cr (P := P) (w := w) (base := base) FCR rfl N W (S base) sy D LB (tb _ (.head _))
    obtain ⟨dRR, FR2, GR⟩ := ok_rr (P := P) (w := w) (base := base) FRR rfl N W (S base) sy D LB ⟨_, _, dBr, prop_ok h18, FBr⟩ ⟨_, dLen, mLen.at_, mLen.fn, FLen⟩ (tb _ (.tail _ (.head _)))
    exact ok_law F N W D FSt (glo 12 rfl) mRI GI (glo 18 rfl) mTw FTw FCR (glo 10 rfl) GC FR2 (glo 11 rfl) GR
end
end Kg
open PySem PySem.W PySem.Calls PyProof.Rows
theorem PySem.Challenge.cw_brinejar_k09_registries_holds : PySem.Challenge.rw_brinejar_k09_registries.Holds := by
  w_on
  o_law
  refine HandSHeadRun.head_any (r := OpenLaw.row PySem.Challenge.rw_brinejar_k09_registries) (q := view (OpenLaw.row PySem.Challenge.rw_brinejar_k09_registries).prog [57]) (H := Kg.hk) (ob := Kg.ob) (M := 8000) (loose := Kg.loose) (d := HandSHeadRun.topDef (OpenLaw.row PySem.Challenge.rw_brinejar_k09_registries).prog 57) (kwd := []) Kg.ob_eq
    (by kernel_rfl) (fun s => by kernel_rfl) Kg.run (by kernel_rfl) (by kernel_rfl) (by kernel_rfl) (by rfl) (by first | assumption | decide +kernel) (by decide +kernel) ⟨rfl, rfl, rfl, rfl, rfl, by decide +kernel⟩ ?hw ?hc
  case hw => w_witness2
  case hc =>
    refine LamX.walk_ofTG (l := PySem.Challenge.rw_brinejar_k09_registries) (n := 63) (k := 10) (x := "script") rfl (by decide) (by kernel_rfl) ⟨rfl, by decide, by decide⟩ ?F
    intro w mg fa h Y G hmg0
    obtain ⟨K, KX, c⟩ := Y
    have hmg : mg ("law" : PySem.Str) = some (.ref fa) := by
      have e : (HandSHeadRun.topDef (OpenLaw.row PySem.Challenge.rw_brinejar_k09_registries).prog 57).name = ("law" : PySem.Str) := by kernel_rfl
      rw [← e]
      exact hmg0
    obtain ⟨fd, hb, ht, hF⟩ := Kg.facts (P := (PySem.Challenge.rw_brinejar_k09_registries).prog) (w := w) KX G hmg c
    exact ⟨K, fd, Kg.spLaw K, [Kg.tC K, Kg.tR K], KX, ht, hb, fun H a ns hl hT hS => ⟨a, ns, rfl, hS, hl, hT _ (.head _), hT _ (.tail _ (.head _)), fun _ => rfl⟩, hF⟩
