import PyProof.Rows.All
import Wide.All
import OpenK.AllK
import Wide.FinOn
import KE.KExcInit
import KE.KExcIs
import HandS.ForExc
import HandS.ExcInit
import HandS.ExcField
import HandS.MakeKwOnly
import HandS.Codes
import HandS.ForMost
import HandS.Style
import HandS.HeadEnd
import HandS.HeadHook2
import HandS.Head2
import PyProof.ReprRoads
import HandS.GenCall
import PyProof.Rows.ListAppend
import HandS.GenList
import KE.KTryMore
import HandS.Walk
import HandS.SetFor
import HandS.IsInst
import PyProof.TypeEq
import PyProof.InstEq
import PyProof.TypeOfCall
import HandS.SortInts
import HandS.Strs
import HandS.More
import KE.KDictList
import HandS.EndTab
import HandS.HeadHook4
import HandS.HeadNt
import HandS.HeadHook3
import HandS.Star
import HandS.Property
import HandS.ClsMeth
import PyProof.Rows.RuleB_pow
import PyProof.StrOps2
import PyProof.EqAt
import PyProof.NeKinds
import HandS.ExcOwn
import HandS.DictComp
import HandS.ListItems
import PyProof.TupleOfSeq
import PyProof.Rows.Range3
import KE.GoesMore
import HandS.Text
import HandS.Conv
import HandS.TupAny
import HandS.GenYield
import HandS.ReplaceLit
import HandS.OwnEq
import HandS.New0
import KE.KCallOwn
import HandS.Zip
import PyProof.EqKinds
import HandS.WordsDict
import KE.KDictZip
import HandS.TryOnly
import PySem.Challenge.RW_brinejar_k14_ready_hooks
set_option Elab.async false
set_option linter.all false
set_option maxRecDepth 100000
set_option maxHeartbeats 4000000
/-! VxA: exceptions of own classes over any of the built-in bases, with an own __init__, held as values: made, told apart, read. -/
namespace PySem
namespace VxS
open PySem.W PySem.Calls PyProof.Rows PySem.HandSPX
section
open Builtin Builtin.ObjectAttr
variable {prog : Program} {w : World} {A : Around} {E : Value → Shared → Prop} {R : Result → Shared → Prop} {hp : Heap} {g : Array GenState} {d : Drawn} {t : Nat} {os : OsState}
/-- a class chain over a built-in base: own classes, then the base's chain, stores by object.__setattr__ -/
structure Tail (bmB : List Value) (mro : List Value) : Prop where
  tail : excTail bmB mro = true
  pass : ∀ self, refuseLoop self "__setattr__" bmB = pure ()
  obj : bmB.contains (.type "object") = true
theorem Tail.has {bmB mro : List Value} (T : Tail bmB mro) : mro.contains (.type "object") = true := (excTail_contains "object" mro T.tail).trans T.obj
theorem Tail.ne {bmB mro : List Value} (T : Tail bmB mro) : mro.isEmpty = false := by
  cases mro with
  | nil => exact absurd T.has (by decide)
  | cons _ _ => rfl
/-- the first field -/
theorem osa_new {K : W.Frag} {name : Str} {tk : Tok} {v : Value} {x C : Addr} {fv : Array Value} {cd : ClassData} {bmB : List Value}
    (X : K.In hp) (hx : hp.get? x = some { cls := .ref C, data := .fields fv }) (hcd : W.clsIn K C = some cd) (T : Tail bmB cd.mro) (hh : cd.hasDict = true) (ha : W.findIn K (.ref C) name = some none)
    (hq : ∀ h' tk' dx, (∀ b o, b ≠ x → hp.get? b = some o → h'.get? b = some o) → hp.objs.size ≤ dx → dx ≠ x → h'.get? x = some { cls := .ref C, dict := some dx, data := .fields fv } →
      h'.Ns1 dx (fun y => if y = name then some v else none) → R (.ok (.ret .none)) ⟨h', g, d, tk', os⟩) :
    codeAny (model prog w) A (.call (.builtin "object.__setattr__") ⟨[.ref x, .str name tk, v], []⟩) R ⟨hp, g, d, t, os⟩ := by
  have I : W.InstAt hp x { cls := .ref C, data := .fields fv } C none := ⟨hx, rfl, rfl, trivial⟩
  have SF := F.store_object
  have hxs : x ≠ hp.objs.size := Nat.ne_of_lt (Heap.lt_size hx)
  have sub : W.Looks (model prog w) hp (isInstance (.ref x) (.type "object")) true := I.type.andThen (W.looks_mroIn X (by unfold W.mroIn; rw [hcd, Option.bind_some, if_neg (by rw [T.ne]; decide), T.has]))
  refine codeAny_call_builtin SF.slot.plain SF.entry (@W.check_slot (model prog w) _ _ ⟨hp, g, d, t, os⟩ "object.__setattr__" "object" "__setattr__" (.ref x) [.str name tk, v] [] _ SF.kind SF.split sub (SF.args (.ref x) (.str name tk) v) ?_)
  have hmr : W.Looks (model prog w) hp (mroOf (.ref C)) cd.mro := (W.looks_clsIn X hcd).andThen .now
  have L3 : W.Looks (model prog w) hp (storeTaker? none) none := .now
  have hcls : W.Looks (model prog w) hp (classData C) cd := W.looks_clsIn X hcd
  rw [W.osa_eq, refuse_eq]
  refine wpAny_bind (wpAny_bind (I.type.at (wpAny_bind (hmr.at ?_))))
  rw [excTail_pass _ (T.pass _) _ T.tail]
  refine wpAny_pure (wpAny_bind (I.type.at (wpAny_bind ((W.looks_findIn X ha).at (wpAny_bind (L3.at ?_))))))
  show wpAny _ _ (storeInOwnDict (.ref x) (.ref C) (.str name tk) name v false) _ _ _
  obtain ⟨nm, bs, mro, ns, qn, hd, sn, sb, ab, col, del⟩ := cd
  dsimp only at hh
  subst hh
  unfold storeInOwnDict ownDictForStores
  repeat (first | with_reducible refine store_in_new ?_ ?_ | with_reducible refine wpAny_loadPart_at hx ?_ | with_reducible refine hcls.at ?_ | wp_step)
  · exact ⟨_, #[], _, (Heap.get?_update_ne _ _ _ _ hxs.symm).trans (Heap.get?_push_at rfl rfl), rfl, fun e he => absurd he (by simp), fun _ => rfl⟩
  · intro h' tk' hn' hs
    have hx₁ : (hp.push { cls := .type "dict", data := .dict #[] }).get? x = some { cls := .ref C, data := .fields fv } := Heap.get?_push_of_some _ hx
    refine hq h' tk' hp.objs.size (fun b o hb ho => ?_) (Nat.le_refl _) hxs.symm ?_ hn'
    · exact (hs.2 b (Nat.ne_of_lt (Heap.lt_size ho))).trans ((Heap.get?_update_ne _ _ _ _ hb).trans (Heap.get?_push_of_some _ ho))
    · exact (hs.2 x hxs).trans (Heap.get?_update_self _ hx₁ rfl)
/-- a further field -/
theorem osa_old {K : W.Frag} {name : Str} {tk : Tok} {v : Value} {x C dx : Addr} {fv : Array Value} {cd : ClassData} {m0 : Str → Option Value} {nl : List Str} {bmB : List Value}
    (X : K.In hp) (hx : hp.get? x = some { cls := .ref C, dict := some dx, data := .fields fv }) (hns : hp.Ns1 dx m0) (hw : Within m0 nl) (hz : nl.length ≤ 1000) (hcd : W.clsIn K C = some cd) (T : Tail bmB cd.mro) (hh : cd.hasDict = true)
    (ha : W.findIn K (.ref C) name = some none)
    (hq : ∀ h' tk', (∀ b o, b ≠ dx → hp.get? b = some o → h'.get? b = some o) → h'.Ns1 dx (fun y => if y = name then some v else m0 y) → R (.ok (.ret .none)) ⟨h', g, d, tk', os⟩) :
    codeAny (model prog w) A (.call (.builtin "object.__setattr__") ⟨[.ref x, .str name tk, v], []⟩) R ⟨hp, g, d, t, os⟩ := by
  obtain ⟨oD, esD, epD, hoD, hdD, _⟩ := hns.count hw
  have I : W.InstAt hp x { cls := .ref C, dict := some dx, data := .fields fv } C (some oD) := ⟨hx, rfl, rfl, hoD⟩
  have SF := F.store_object
  have sub : W.Looks (model prog w) hp (isInstance (.ref x) (.type "object")) true := I.type.andThen (W.looks_mroIn X (by unfold W.mroIn; rw [hcd, Option.bind_some, if_neg (by rw [T.ne]; decide), T.has]))
  refine codeAny_call_builtin SF.slot.plain SF.entry (@W.check_slot (model prog w) _ _ ⟨hp, g, d, t, os⟩ "object.__setattr__" "object" "__setattr__" (.ref x) [.str name tk, v] [] _ SF.kind SF.split sub (SF.args (.ref x) (.str name tk) v) ?_)
  have hmr : W.Looks (model prog w) hp (mroOf (.ref C)) cd.mro := (W.looks_clsIn X hcd).andThen .now
  have L3 : W.Looks (model prog w) hp (storeTaker? none) none := .now
  have hcls : W.Looks (model prog w) hp (classData C) cd := W.looks_clsIn X hcd
  rw [W.osa_eq, refuse_eq]
  refine wpAny_bind (wpAny_bind (I.type.at (wpAny_bind (hmr.at ?_))))
  rw [excTail_pass _ (T.pass _) _ T.tail]
  refine wpAny_pure (wpAny_bind (I.type.at (wpAny_bind ((W.looks_findIn X ha).at (wpAny_bind (L3.at ?_))))))
  show wpAny _ _ (storeInOwnDict (.ref x) (.ref C) (.str name tk) name v false) _ _ _
  obtain ⟨nm, bs, mro, ns, qn, hd, sn, sb, ab, col, del⟩ := cd
  dsimp only at hh
  subst hh
  unfold storeInOwnDict ownDictForStores
  repeat (first | with_reducible refine OEX.store_in_old hns hw hz ?_ | with_reducible refine wpAny_loadPart_at hx ?_ | with_reducible refine hcls.at ?_ | wp_step)
  intro h' tk' hn' hs
  exact hq h' tk' (fun b o hb ho => (hs.2 b hb).trans ho) hn'
end
end VxS
end PySem

set_option Elab.async false
set_option linter.all false
set_option maxRecDepth 100000
set_option maxHeartbeats 4000000
namespace L2
open PySem PySem.Spec PyProof.Rows

/-- what the written part says of an exception class of the program -/
structure Xc (K : PySem.W.Frag) (C : Addr) : Prop where
  cls : ∃ (nm q : Str) (N : Addr) (bs bm : List Value) (sn : List Str) (sub : List Value) (ab : Bool) (col : Option Bool) (dd : Option Addr) (k0 k1 k2 k3 k5 : Option Value) (B newId initId : String) (bmB : List Value),
    K.lookup C = some (excClassObj nm q C N bs bm true sn sub ab col dd k0 k1 k2 k3 k5 newId) ∧ ExcBaseFacts B newId initId bmB ∧ VxS.Tail bmB (.ref C :: bm)
  sa : PySem.W.findIn K (.ref C) "__setattr__" = some (some (.builtin "object.__setattr__"))
  ga : PySem.W.findIn K (.ref C) "__getattribute__" = some (some (.builtin "BaseException.__getattribute__"))
  gg : PySem.W.findIn K (.ref C) "__getattr__" = some none
  exC : PySem.W.subIn K (.ref C) (.type "BaseException") = some true
  tyC : PySem.W.typeIn K (.ref C) = some (.type "type")
  kC : PySem.W.keepIn K (.ref C) = true
  hdC : PySem.W.hasDictIn K C = true
  ca : PySem.W.findIn K (.ref C) "__class__" = some (some (.builtin "object.__class__"))
  cn : PySem.W.specialIn K (.builtin "object.__class__") "__get__" = some (some (.builtin "getset_descriptor.__get__"))
  ct : PySem.W.takesIn K (.builtin "object.__class__") = some true
  cm : PySem.W.mroIn K C (.type "object") = some true

/-- an exception of the class at C, its own dict at d -/
def exV (e C d : Addr) : HO := .ext fun h => ∃ (oe : Obj) (vs : Array Value), h.get? e = some oe ∧ oe.cls = .ref C ∧ oe.dict = some d ∧ oe.data = .fields vs
theorem exV_ok {P : Program} {w : World} {H : Hp} {h : Heap} {e C d : Addr} {oe : Obj} {vs : Array Value} (he : h.get? e = some oe) (hc : oe.cls = .ref C) (hd : oe.dict = some d) (hv : oe.data = .fields vs) : ObjOk P w H h e (exV e C d) :=
  ⟨⟨oe, vs, he, hc, hd, hv⟩, ⟨_, he⟩, fun h1 h2 z k => by
    obtain ⟨o, v, q, r⟩ := z
    exact ⟨o, v, k _ q, r⟩⟩
theorem exV_at {P : Program} {w : World} {H : Hp} {h : Heap} {e C d : Addr} (hok : HOk P w H h) (he : H e = some (exV e C d)) : ∃ (oe : Obj) (vs : Array Value), h.get? e = some oe ∧ oe.cls = .ref C ∧ oe.dict = some d ∧ oe.data = .fields vs := by
  have x : ObjOk P w H h e (.ext fun h => ∃ (oe : Obj) (vs : Array Value), h.get? e = some oe ∧ oe.cls = .ref C ∧ oe.dict = some d ∧ oe.data = .fields vs) := hok e _ he
  exact x.1
/-- at e: an exception of the class at C with these fields -/
def ExAt (H : Hp) (e C : Addr) (fs : List (Str × V)) : Prop := ∃ d, H e = some (exV e C d) ∧ H d = some (.xd fs)
theorem ExAt.mono {H H' : Hp} {e C : Addr} {fs : List (Str × V)} (x : ExAt H e C fs) (s : Same H H') : ExAt H' e C fs := by
  obtain ⟨d, h1, h2⟩ := x
  exact ⟨d, s _ _ h1, s _ _ h2⟩

section
variable {X : Cx} {pins : List (Addr × Obj)} {σ : St} {H : Hp} {s : Shared} {a C dx : Addr} {f : Str} {y : V} {u : Value} {fs : List (Str × V)} {Q : Unit → Shared → Prop} {E : Value → Shared → Prop} {A : Around}
theorem xst_new (T : Xc X.K C) (I : Inv X pins σ H s) (e : H a = some (exo a C none)) (hno : PySem.W.findIn X.K (.ref C) f = some none) (ry : RelV y u)
    (h : ∀ dx s', H dx = none → dx ≠ a → Inv X pins σ (upd (upd H dx (exd dx [(f, y)])) a (exo a C (some dx))) s' → Q () s') : wpAny (model X.prog X.w) A (setAttr (.ref a) f u) Q E s := by
  obtain ⟨nm, q, N, bs, bm, sn, sub, ab, col, dd, k0, k1, k2, k3, k5, B, newId, initId, bmB, hC, FB, hbm⟩ := T.cls
  have hcl : PySem.W.clsIn X.K C = some { name := nm, bases := bs, mro := .ref C :: bm, ns := N, qualname := q, hasDict := true, slotNames := sn, subclasses := sub, abstract := ab, collection := col, hasDel := false } := by unfold PySem.W.clsIn; rw [hC] <;> rfl
  obtain ⟨t1, ho⟩ := exo_at I.hok e
  obtain ⟨hp, g, d, t, os⟩ := s
  refine PySem.W.set_plain I.kIn (ox := { cls := .ref C, dict := none, data := .fields #[.ref t1, .none, .none, .none, .bool false, .none] }) (od := none) ⟨ho, rfl, rfl, trivial⟩ T.sa ?_
  refine VxS.osa_new I.kIn ho hcl hbm rfl hno (fun h' tk' dx k dn dne hx hn => ?_)
  have hnd : H dx = none := I.hok.fresh dn
  have nd : ∀ {b : Addr} {o : Obj}, hp.get? b = some o → b ≠ dx := fun {b o} q => Nat.ne_of_lt (Nat.lt_of_lt_of_le (Heap.lt_size q) dn)
  have na : ∀ {b : Addr}, H b = none → b ≠ a := fun {b} n z => by
    rw [z, e] at n
    cases n
  have Un1 : Un X.fs [] H (upd (upd H dx (exd dx [(f, y)])) a (exo a C (some dx))) hp h' := {
    keep := fun b o q n _ _ => k b o (na n) q
    slot := fun b o q n _ _ => ⟨o.slots, k b o (na n) q⟩
    free := fun b o q n _ => by rw [upd_ne (na n), upd_ne (nd q)]; exact n
    there := fun b o q _ => by
      by_cases hb : b = a
      · exact ⟨_, by rw [hb]; exact hx⟩
      · exact ⟨o, k b o hb q⟩
    tups := fun b xs q => by rw [upd_ne (at_ne e q exo_tup), upd_ne (ne_of_none q hnd)]; exact q
    frzs := fun b o v q => by rw [upd_ne (at_ne e q exo_frz), upd_ne (ne_of_none q hnd)]; exact q
    tbls := fun b ps q => ⟨#[], by rw [upd_ne (at_ne e q exo_tbl), upd_ne (ne_of_none q hnd), q]; simp⟩ }
  refine h dx _ hnd dne (I.un (t' := tk') Un1 fun b o q => ?_)
  by_cases hb : b = a
  · subst hb
    rw [upd_same] at q
    cases q
    exact exo_ok hx
  · rw [upd_ne hb] at q
    by_cases hd : b = dx
    · subst hd
      rw [upd_same] at q
      cases q
      exact exd_ok hn (relO_put (fs := []) ry fun g => True.intro)
    · rw [upd_ne hd] at q
      exact (I.hok b o q).stay (fun c v hc z => k c v (by
          rcases hc with hc | hc
          · rw [hc]
            exact hb
          · exact at_ne e hc exo_own) z)
        (fun c hc => by rw [upd_ne (at_ne e hc exo_own), upd_ne (ne_of_none hc hnd)]; exact hc) (fun c xs hc => by rw [upd_ne (at_ne e hc exo_tup), upd_ne (ne_of_none hc hnd)]; exact hc)
theorem xst_old (T : Xc X.K C) (I : Inv X pins σ H s) (e : H a = some (exo a C (some dx))) (ed : H dx = some (exd dx fs)) (hl : fs.length ≤ 900) (hno : PySem.W.findIn X.K (.ref C) f = some none) (ry : RelV y u)
    (h : ∀ s', Inv X pins σ (upd H dx (exd dx ((f, y) :: fs))) s' → Q () s') : wpAny (model X.prog X.w) A (setAttr (.ref a) f u) Q E s := by
  obtain ⟨nm, q, N, bs, bm, sn, sub, ab, col, dd, k0, k1, k2, k3, k5, B, newId, initId, bmB, hC, FB, hbm⟩ := T.cls
  have hcl : PySem.W.clsIn X.K C = some { name := nm, bases := bs, mro := .ref C :: bm, ns := N, qualname := q, hasDict := true, slotNames := sn, subclasses := sub, abstract := ab, collection := col, hasDel := false } := by unfold PySem.W.clsIn; rw [hC] <;> rfl
  obtain ⟨t1, ho⟩ := exo_at I.hok e
  obtain ⟨mA, hns, rel⟩ := exd_at I.hok ed
  have hw := within_of rel
  obtain ⟨hp, g, d, t, os⟩ := s
  obtain ⟨oD, _, _, hoD, _, _⟩ := hns.count hw
  refine PySem.W.set_plain I.kIn (ox := { cls := .ref C, dict := some dx, data := .fields #[.ref t1, .none, .none, .none, .bool false, .none] }) (od := some oD) ⟨ho, rfl, rfl, hoD⟩ T.sa ?_
  refine VxS.osa_old I.kIn ho hns hw (by rw [List.length_map]; omega) hcl hbm rfl hno (fun h' tk' k hn => ?_)
  have hd : ∃ o, h'.get? dx = some o := by
    obtain ⟨o, _, _, e', _⟩ := hn
    exact ⟨o, e'⟩
  exact h _ (I.write (t' := tk') (x := dx) (e := dx) (o := exd dx ((f, y) :: fs)) (by rw [ed]; exact True.intro) (.inl rfl) k hd (exd_ok hn (relO_put ry rel)))
end
/-- self.f = e in an exception's __init__ -/
def tXst (K : PySem.W.Frag) (f : Str) (to te : TE) : TS := fun D σ H => te σ H fun y H1 => to σ H1 fun x H2 => ∃ a C : Addr, x = .ref a ∧ Xc K C ∧ PySem.W.findIn K (.ref C) f = some none ∧
  ((H2 a = some (exo a C none) ∧ ∀ dx, H2 dx = none → dx ≠ a → D.nx σ (upd (upd H2 dx (exd dx [(f, y)])) a (exo a C (some dx)))) ∨
    ∃ (dx : Addr) (fs : List (Str × V)), H2 a = some (exo a C (some dx)) ∧ H2 dx = some (exd dx fs) ∧ fs.length ≤ 900 ∧ D.nx σ (upd H2 dx (exd dx ((f, y) :: fs))))
section
variable {X : Cx} {o e : Expr} {es : List Expr} {to te : TE} {ta : TA} {f : Str} {p p' p1 p2 pos : Pos}
theorem ps_xst (ho : PE X o to) (he : PE X e te) (hs : swapsWith e (some (.Attribute o f p')) pos.line X.env = pure false := by rfl) : PS X (.Assign [.Attribute o f p'] e pos) (tXst X.K f to te) := by
  refine ⟨fun pins s σ H D I h => ?_⟩
  refine plainObj_wpAny_Assign_Attribute (thn (he.run pins s σ H _ I h) fun v s1 ⟨y, H1, I1, r1, q1⟩ => thn (ho.run pins s1 σ H1 _ I1 q1) fun u s2 ⟨x, H2, I2, r2, a, C, ex, T, hno, q⟩ => ?_) hs
  subst ex
  obtain rfl : u = Value.ref a := r2
  rcases q with ⟨ea, q⟩ | ⟨dx, fs, ea, ed, hl, q⟩
  · exact xst_new T I2 ea hno r1 fun dx s' n ne J => ⟨σ, _, J, q dx n ne⟩
  · exact xst_old T I2 ea ed hl hno r1 fun s' J => ⟨σ, _, J, q⟩
end
/-- isinstance(e, c), e an exception of the program -/
def rIsX (K : PySem.W.Frag) : List V → Hp → VK → Prop := fun xs H Q => ∃ (a C : Addr) (fs : List (Str × V)) (c : V) (cv : Value) (b : Bool), xs = [.ref a, c] ∧ ExAt H a C fs ∧ Xc K C ∧ (∀ u, RelV c u → u = cv) ∧ PySem.W.kitOne K (.ref C) cv = some b ∧ Q (.bl b) H
theorem exV_inst {X : Cx} {pins : List (Addr × Obj)} {σ : St} {H : Hp} {s : Shared} {a C : Addr} {fs : List (Str × V)} (I : Inv X pins σ H s) (x : ExAt H a C fs) :
    ∃ (oe od : Obj) (mA : Str → Option Value), PySem.W.InstAt s.heap a oe C (some od) ∧ (∀ name, PySem.W.lookIn name od = some (mA name)) ∧ ∀ f, RelO (fs.lookup f) (mA f) := by
  obtain ⟨d, h1, h2⟩ := x
  obtain ⟨oe, vs, he, hc, hd, hv⟩ := exV_at I.hok h1
  have hx : ObjOk X.prog X.w H s.heap d (.xd fs) := I.hok d _ h2
  obtain ⟨mA, hns, hr⟩ := hx
  obtain ⟨od, ho, hl⟩ := lookIn_ns hns
  exact ⟨oe, od, mA, ⟨he, hc, by unfold PySem.W.notCls; rw [hv] <;> rfl, by rw [hd]; exact ho⟩, hl, hr⟩
theorem Xc.kit {K : PySem.W.Frag} {C x : Addr} {ox : Obj} {od : Option Obj} (T : Xc K C) : PySem.W.KitX K (.ref x) (.ref C) (fun h => PySem.W.InstAt h x ox C od) :=
  PySem.W.kitx_exc (by
    obtain ⟨cd, hc, _⟩ := PySem.W.any_some T.hdC
    rw [hc] <;> rfl) T.ga T.gg T.exC T.ca T.cn T.ct T.cm
theorem call_isX {X : Cx} : CallR X (.builtin "isinstance") (rIsX X.K) := by
  intro pins s σ H xs us Q I r h
  obtain ⟨a, C, fs, c, cv, b, rfl, x, T, hcv, e, q⟩ := h
  cases r with
  | cons rx rr =>
    cases rr with
    | cons rt rr =>
      cases rr
      cases rx
      have ec := hcv _ rt
      subst ec
      obtain ⟨oe, od, mA, J, _, _⟩ := exV_inst I x
      exact PySem.W.kia_one T.kit I.kIn J e (fun z => nomatch z) fun tk => ⟨.bl b, H, I.kept (t' := tk) fun _ _ z => z, rfl, q⟩
/-- isinstance(e, (c1, c2, ..)), e an exception of the program -/
def rIsXT (K : PySem.W.Frag) : List V → Hp → VK → Prop := fun xs H Q => ∃ (a C tp : Addr) (fs : List (Str × V)) (ts : List V) (cvs : List Value) (b : Bool), xs = [.ref a, .ref tp] ∧ ExAt H a C fs ∧ Xc K C ∧ H tp = some (.tup ts) ∧
  (∀ us, Vals ts us → us = cvs) ∧ PySem.W.kitAny K (.ref C) cvs = some b ∧ Q (.bl b) H
theorem call_isXT {X : Cx} : CallR X (.builtin "isinstance") (rIsXT X.K) := by
  intro pins s σ H xs us Q I r h
  obtain ⟨a, C, tp, fs, ts, cvs, b, rfl, x, T, ht, hcv, e, q⟩ := h
  cases r with
  | cons rx rr =>
    cases rr with
    | cons rt rr =>
      cases rr
      cases rx
      cases rt
      obtain ⟨oe, od, mA, J, _, _⟩ := exV_inst I x
      obtain ⟨_, its, rv, o, ho, hcl, n, hdt⟩ := I.hok tp _ ht
      have ev := hcv _ rv
      subst ev
      obtain ⟨oc, odd, oda, osl⟩ := o
      dsimp only at hcl hdt
      subst hcl hdt
      exact PySem.W.kia_tup T.kit I.kIn J ho e (fun z => nomatch z) fun tk => ⟨.bl b, H, I.kept (t' := tk) fun _ _ z => z, rfl, q⟩
/-- e.f of an exception of the program -/
def tXfd (K : PySem.W.Frag) (f : Str) (te : TE) : TE := fun σ H Q => te σ H fun x H1 => ∃ (a C : Addr) (fs : List (Str × V)) (v : V), x = .ref a ∧ ExAt H1 a C fs ∧ Xc K C ∧ PySem.W.findIn K (.ref C) f = some none ∧ fs.lookup f = some v ∧ Q v H1
theorem pe_xfd {X : Cx} {e : Expr} {te : TE} {pos : Pos} {n : Str} (he : PE X e te) (hb : attributeBase e n X.env (eval e X.env) = eval e X.env := by rfl) : PE X (.Attribute e n pos) (tXfd X.K n te) := by
  refine ⟨fun pins s σ H Q I h => ?_⟩
  refine attr_of hb (thn (he.run pins s σ H _ I h) fun u s1 hh => ?_)
  obtain ⟨x, H1, I1, rx, a, C, fs, v, ex, xa, T, hno, l, q⟩ := hh
  subst ex
  obtain rfl : u = Value.ref a := rx
  obtain ⟨oe, od, mA, J, hl, hr⟩ := exV_inst I1 xa
  obtain ⟨u, hu, ru⟩ := RelO.some_of (v := v) (o := mA n) (by rw [← l]; exact hr n)
  exact HandSPX.exc_get I1.kIn J T.ga T.gg T.exC (PySem.W.findObj_own T.hdC hno rfl (by rw [hl, hu])) (handed_of ru) ⟨v, H1, I1.tok _, ru, q⟩
end L2

set_option Elab.async false
set_option linter.all false
set_option maxRecDepth 100000
set_option maxHeartbeats 4000000
namespace PySem
namespace VxS
open PySem.W PySem.Calls PyProof.Rows PySem.HandSPX
section
variable {M : Model} {A : Around} {E : Value → Shared → Prop} {h : Heap} {g : Array GenState} {d : Drawn} {t : Nat} {os : OsState}
variable {nm q : Str} {C N : Addr} {bs bm bmB : List Value} {hdct : Bool} {sn : List Str} {sub : List Value} {ab : Bool} {col : Option Bool} {dd : Option Addr} {k0 k1 k2 k3 k5 : Option Value} {B newId initId : String}
theorem check_newK (F : ExcBaseFacts B newId initId bmB) (hT : ∀ X : String, bm.contains (.type X) = bmB.contains (.type X)) {rest : List Value} {kw : List (Str × Value)} {Q : Unit → Shared → Prop}
    (hC : h.get? C = some (excClassObj nm q C N bs bm hdct sn sub ab col dd k0 k1 k2 k3 k5 newId)) (hq : Q () ⟨h, g, d, t, os⟩) : wpAny M A (checkBuiltinCall newId ⟨.ref C :: rest, kw⟩) Q E ⟨h, g, d, t, os⟩ := by
  have hcont : (Value.ref C :: bm).contains (.type B) = true := by rw [List.contains_cons, hT, F.hasB, Bool.or_true]
  have hstar := F.noStar
  simp only [checkBuiltinCall, F.newKind, F.newSplit, F.newRow]
  repeat (first | refine wpAny_loadPart_at hC ?_ | (refine wpAny_isSubtype_exc hC ?_; rw [hcont]) | refine wpAny_staticBase_exc hC ?_ | refine wpAny_madeBy_exc hC ?_ | simp only [bne_self_eq_false, Bool.false_eq_true, if_false] | wp_step)
  exact hq
end
section
variable {prog : Program} {w : World} {A : Around} {E : Value → Shared → Prop} {R : Result → Shared → Prop} {h : Heap} {g : Array GenState} {d : Drawn} {t : Nat} {os : OsState}
variable {nm q : Str} {C N : Addr} {bs bm bmB : List Value} {hdct : Bool} {sn : List Str} {sub : List Value} {ab : Bool} {col : Option Bool} {dd : Option Addr} {k0 k1 k2 k3 k5 : Option Value} {B newId initId : String}
theorem new_K (F : ExcBaseFacts B newId initId bmB) (hT : ∀ X : String, bm.contains (.type X) = bmB.contains (.type X)) {rest : List Value} {kw : List (Str × Value)}
    (hC : h.get? C = some (excClassObj nm q C N bs bm hdct sn sub ab col dd k0 k1 k2 k3 k5 newId))
    (hq : R (.ok (.ret (.ref (h.objs.size + 1)))) ⟨(h.push { cls := .type "tuple", data := .seq rest.toArray }).push
      { cls := .ref C, data := .fields #[.ref h.objs.size, .none, .none, .none, .bool false, .none] }, g, d, t, os⟩) (hrest : rest.length ≤ sizeLine) :
    codeAny (model prog w) A (.builtin newId ⟨.ref C :: rest, kw⟩) R ⟨h, g, d, t, os⟩ := by
  have hends := F.ends
  have hcB : (Value.ref C :: bm).contains (.type B) = true := by rw [List.contains_cons, hT, F.hasB, Bool.or_true]
  have hcA : (Value.ref C :: bm).contains (.type "AttributeError") = false := by rw [List.contains_cons, hT, F.noAttr]; rfl
  have hcN : (Value.ref C :: bm).contains (.type "NameError") = false := by rw [List.contains_cons, hT, F.noName]; rfl
  refine codeAny_builtinAt F.entry ?_
  unfold Builtin.«BaseException.__new__»
  refine wpAt_bind ?_
  show wpAt _ _ _ (stack >>= _) _ _ _
  refine wpAt_bind (wpAt_stack fun p below => wpAt_of_wpAny ?_)
  wp_walk
  refine wpAt_of_wpAny ?_
  rw [F.owner]
  repeat (first | with_reducible refine wpAny_madeHere_exc F.canon hC ?_ | with_reducible refine wpAny_loadPart_at hC ?_ | (with_reducible refine wpAny_isSubtype_exc hC ?_; first | rw [hcB] | rw [hcA] | rw [hcN]) | wp_step)
  show R _ _
  rw [Heap.size_push]
  exact hq
theorem type_call_K (F : ExcBaseFacts B newId initId bmB) (hT : ∀ X : String, bm.contains (.type X) = bmB.contains (.type X)) {rest : List Value} {kw : List (Str × Value)} {fI : Addr} {Q : Fin → Shared → Prop}
    (hC : h.get? C = some (excClassObj nm q C N bs bm hdct sn sub ab col dd k0 k1 k2 k3 k5 newId))
    (hi : W.Looks (model prog w) h (typeLookup (.ref C) "__init__") (some (.ref fI))) (hb : ∀ self, W.Looks (model prog w) h (bindSpecial (.ref fI) self) (.ref fI, [self])) (hrest : rest.length ≤ sizeLine)
    (hq : codeAny (model prog w) A (.call (.ref fI) ⟨.ref (h.objs.size + 1) :: rest, kw⟩)
      (fun r s' => match r with | .ok (.ret v) => v = .none ∧ Q (.done (.ret (.ref (h.objs.size + 1)))) s' | .ok _ => False | .error e => E e s')
      ⟨(h.push (W.kdv_tup rest)).push (excO C h.objs.size), g, d, t, os⟩) :
    wpAny (model prog w) A (Builtin.«type.__call__» ⟨.ref C :: rest, kw⟩) Q E ⟨h, g, d, t, os⟩ := by
  repeat (first | with_reducible refine wpAny_loadPart_at hC ?_ | with_reducible refine wpAny_madeBy_exc hC ?_ | wp_step)
  refine codeAny_call_builtin_code (Code.quiet_builtin _ F.quiet) (check_newK F hT hC ?_)
  refine new_K F hT hC ?_ hrest
  show wpAny _ _ _ _ _ _
  have k : ∀ b o, h.get? b = some o → ((h.push (W.kdv_tup rest)).push (excO C h.objs.size)).get? b = some o := fun b o e => Heap.get?_push_of_some _ (Heap.get?_push_of_some _ e)
  have hC₁ := k _ _ hC
  have hget : ((h.push (W.kdv_tup rest)).push (excO C h.objs.size)).get? (h.objs.size + 1) = some (excO C h.objs.size) := by heap_get
  have hcC : (Value.ref C :: bm).contains (.ref C) = true := by simp
  have i1 := hi.keeps k
  have b1 := (hb (.ref (h.objs.size + 1))).keeps k
  unfold isInstance
  repeat (first | with_reducible refine wpAny_loadPart_at hget ?_ | (with_reducible refine wpAny_isSubtype_exc hC₁ ?_; rw [hcC]) | wp_step)
  show wpAny _ _ (typeLookup (.ref C) _) _ _ _
  refine i1.at ?_
  refine wpAny_holding (wpAny_bind (b1.at ?_))
  refine wpAny_bind (wpAny_call (codeAny_mono hq fun r s' z => ?_))
  rcases r with e | (v | _ | _ | _) <;> first | exact z | exact z.elim | skip
  obtain ⟨rfl, z⟩ := z
  first
    | exact wpAny_pure (wpAny_pure z)
    | (wp_walk; exact z)
theorem call_K (F : ExcBaseFacts B newId initId bmB) (hT : ∀ X : String, bm.contains (.type X) = bmB.contains (.type X)) {rest : List Value} {kw : List (Str × Value)} {fI : Addr}
    (hC : h.get? C = some (excClassObj nm q C N bs bm hdct sn sub ab col dd k0 k1 k2 k3 k5 newId))
    (hi : W.Looks (model prog w) h (typeLookup (.ref C) "__init__") (some (.ref fI))) (hb : ∀ self, W.Looks (model prog w) h (bindSpecial (.ref fI) self) (.ref fI, [self])) (hrest : rest.length ≤ sizeLine)
    (hq : codeAny (model prog w) (A.under (.builtin "type.__call__" ⟨.ref C :: rest, kw⟩)) (.call (.ref fI) ⟨.ref (h.objs.size + 1) :: rest, kw⟩) (W.InitBack (h.objs.size + 1) R)
      ⟨(h.push (W.kdv_tup rest)).push (excO C h.objs.size), g, d, t, os⟩) :
    codeAny (model prog w) A (.call (.ref C) ⟨rest, kw⟩) R ⟨h, g, d, t, os⟩ := by
  have f1 := tc_lookup
  have f2 := tc_bind (.ref C)
  have hTy : (⟨h, g, d, t, os⟩ : Shared).TypeIs (.ref C) "type" := ⟨_, hC, rfl⟩
  refine codeAny_of_tree ?_
  show wpAny _ _ (callAny (.ref C) _) _ _ _
  repeat (any_goals (first | assumption | with_reducible refine wpAny_loadPart_at hC ?_ | wp_step))
  refine ⟨rfl, ?_⟩
  refine codeAny_call_builtin_at (Code.quiet_builtin _ (by decide +kernel)) entry_typeCall (wpAny_check_type_call_sub hC (type_call_K F hT hC hi hb hrest ?_))
  refine codeAny_mono hq fun r s' z => ?_
  rcases r with e | (v | _ | _ | _) <;> exact z
end
end VxS
end PySem

set_option Elab.async false
set_option linter.all false
set_option maxRecDepth 100000
set_option maxHeartbeats 4000000
namespace L2
open PySem PySem.Spec PyProof.Rows
/-- an object is told otherwise -/
theorem HOk.retype {P : Program} {w : World} {H : Hp} {h : Heap} {x : Addr} {o' : HO} (ok : HOk P w H h) (mu : Mut (H x)) (hx : ∃ o, h.get? x = some o) (new : ObjOk P w (upd H x o') h x o') : HOk P w (upd H x o') h :=
  ok.write mu (.inl rfl) (fun _ _ _ e => e) hx new
section
variable {X : Cx} {CX : CXT} {k : Nat} {C fI : Addr} {fd : FuncData} {ps : List Str} {sp : Sp} {x : Str} {p pos : Pos} {e : Expr} {es : List Expr} {kws : List Keyword} {t tk : TA}
/-- behind the __init__: the exception and its dict stand as an exception's -/
theorem xnew_end {pins : List (Addr × Obj)} {σ : St} {H1 H2 : Hp} {hp hp2 h2 : Heap} {g1 g2 : Array GenState} {d1 d2 : Drawn} {t1 t2 : Nat} {os1 os2 : OsState} {a d : Addr} {fs : List (Str × V)} (I1 : Inv X pins σ H1 ⟨hp, g1, d1, t1, os1⟩)
    (ha : hp.objs.size ≤ a) (kk : ∀ b o, hp.get? b = some o → hp2.get? b = some o) (un : Un (frs X.stack) [] (upd H1 a (exo a C none)) H2 hp2 h2) (hok : HOk X.prog X.w H2 h2) (ho : os2 = os1) (hb : AllBare g2)
    (ea : H2 a = some (exo a C (some d))) (ed : H2 d = some (exd d fs)) : Inv X pins σ (upd (upd H2 a (exV a C d)) d (.xd fs)) ⟨h2, g2, d2, t2, os2⟩ := by
  obtain ⟨t0, hoe⟩ := exo_at hok ea
  obtain ⟨mA, hns, rel⟩ := exd_at hok ed
  have hn : H1 a = none := I1.hok.fresh ha
  have hda : d ≠ a := fun z => by
    obtain ⟨o, es, ep, e1, e2, _⟩ := hns
    rw [z, hoe] at e1
    have z2 := Option.some.inj e1
    subst z2
    cases e2
  have nha : ∀ {b : Addr} {o : Obj}, hp.get? b = some o → b ≠ a := fun {b o} z => Nat.ne_of_lt (Nat.lt_of_lt_of_le (Heap.lt_size z) ha)
  have up : ∀ {b : Addr}, b ≠ a → H1 b = none → upd H1 a (exo a C none) b = none := fun {b} hb n => by rw [upd_ne hb]; exact n
  have nd : ∀ {b : Addr} {o : Obj}, hp.get? b = some o → H1 b = none → b ≠ d := fun {b o} z n e => by
    have y := un.free b o (kk b o z) (up (nha z) n) (by simp)
    rw [e, ed] at y
    cases y
  have U : Un (frs X.stack) [] H1 (upd (upd H2 a (exV a C d)) d (.xd fs)) hp h2 := {
    keep := fun b o z n hf hx => un.keep b o (kk b o z) (up (nha z) n) hf hx
    slot := fun b o z n hf hx => un.slot b o (kk b o z) (up (nha z) n) hf hx
    free := fun b o z n hx => by
      rw [upd_ne (nd z n), upd_ne (nha z)]
      exact un.free b o (kk b o z) (up (nha z) n) hx
    there := fun b o z hx => un.there b o (kk b o z) hx
    tups := fun b xs z => by
      have q := un.tups b xs (by rw [upd_ne (ne_of_none z hn)]; exact z)
      rw [upd_ne (at_ne ed q exd_tup), upd_ne (ne_of_none z hn)]
      exact q
    frzs := fun b o v z => by
      have q := un.frzs b o v (by rw [upd_ne (ne_of_none z hn)]; exact z)
      rw [upd_ne (at_ne ed q (fun y => by
        have y' : HO.ext _ = HO.frz o v := y
        cases y')), upd_ne (ne_of_none z hn)]
      exact q
    tbls := fun b ps z => by
      obtain ⟨m, q⟩ := un.tbls b ps (by rw [upd_ne (ne_of_none z hn)]; exact z)
      refine ⟨m, ?_⟩
      rw [upd_ne (at_ne ed q (fun y => by
        have y' : HO.ext _ = HO.tbl (ps ++ m) := y
        cases y')), upd_ne (ne_of_none z hn)]
      exact q }
  have ok1 : HOk X.prog X.w (upd H2 a (exV a C d)) h2 := hok.retype (by rw [ea]; exact True.intro) ⟨_, hoe⟩ (exV_ok hoe rfl rfl rfl)
  have ed1 : (upd H2 a (exV a C d)) d = some (exd d fs) := by rw [upd_ne hda]; exact ed
  have ok2 : HOk X.prog X.w (upd (upd H2 a (exV a C d)) d (.xd fs)) h2 := by
    obtain ⟨o, es, ep, e1, r⟩ := id hns
    exact ok1.retype (by rw [ed1]; exact True.intro) ⟨o, e1⟩ ⟨mA, hns, rel⟩
  exact I1.call' (ch := []) ho U ok2 hb (fun b z => absurd z (by simp))
/-- C(..) of an exception class of the program, as a value. us: the positional values, kw the keywords', zs: bound in the parameters' order -/
theorem run_xnew {pins : List (Addr × Obj)} {σ : St} {H : Hp} {s : Shared} {Q : VK} {us zs : List Value} {kw : List (Str × Value)} {vs : List V} (T : Xc X.K C) (iC : PySem.W.findIn X.K (.ref C) "__init__" = some (some (.ref fI))) (tI : PySem.W.typeIn X.K (.ref fI) = some (.type "function"))
    (F1 : FnOk X.prog X.w X.K X.mg X.base CX k fI fd ps sp) (hr : Room (k + 1) X.A) (hx : Passes CX X (fun _ _ _ => False)) (hz : us.length ≤ sizeLine)
    (hb : ∀ (s : Shared) (a : Addr), X.K.In s.heap → BindsTo s fd ⟨Value.ref a :: us, kw⟩ (ps.zip (Value.ref a :: zs))) (I : Inv X pins σ H s) (r : Vals vs zs)
    (h : ∀ a, H a = none → sp (.ref a :: vs) (upd H a (exo a C none)) (fun v H2 => v = .non ∧ ∃ (d : Addr) (fs : List (Str × V)), H2 a = some (exo a C (some d)) ∧ H2 d = some (exd d fs) ∧ Q (.ref a) (upd (upd H2 a (exV a C d)) d (.xd fs))) (fun _ _ _ => False)) :
    wpAny (model X.prog X.w) X.A (call (.ref C) us kw) (EP X pins σ Q) X.xe s := by
  obtain ⟨nm, q, N, bs, bm, sn, sub, ab, col, dd, k0, k1, k2, k3, k5, B, newId, initId, bmB, hC, FB, hbm⟩ := T.cls
  have hT : ∀ Y : String, bm.contains (.type Y) = bmB.contains (.type Y) := fun Y => by
    have z := PySem.W.excTail_contains Y _ hbm.tail
    rw [List.contains_cons] at z
    have e : (Value.type Y == Value.ref C) = false := rfl
    rw [e, Bool.false_or] at z
    exact z
  obtain ⟨hp, g, dr, tk, os⟩ := s
  have hsz : hp.objs.size ≤ hp.objs.size + 1 := Nat.le_succ _
  have hn : H (hp.objs.size + 1) = none := I.hok.fresh hsz
  have hq := h (hp.objs.size + 1) hn
  have kk : ∀ b o, hp.get? b = some o → ((hp.push (PySem.W.kdv_tup us)).push (PySem.HandSPX.excO C hp.objs.size)).get? b = some o := fun b o e => Heap.get?_push_of_some _ (Heap.get?_push_of_some _ e)
  have hget : ((hp.push (PySem.W.kdv_tup us)).push (PySem.HandSPX.excO C hp.objs.size)).get? (hp.objs.size + 1) = some (PySem.HandSPX.excO C hp.objs.size) := by heap_get
  have I2 : Inv X pins σ (upd H (hp.objs.size + 1) (exo (hp.objs.size + 1) C none)) ⟨(hp.push (PySem.W.kdv_tup us)).push (PySem.HandSPX.excO C hp.objs.size), g, dr, tk, os⟩ :=
    I.laid (t' := tk) (a := hp.objs.size + 1) (o := exo (hp.objs.size + 1) C none) (h' := (hp.push (PySem.W.kdv_tup us)).push (PySem.HandSPX.excO C hp.objs.size)) kk hsz (exo_ok hget)
  have r2 : Vals (V.ref (hp.objs.size + 1) :: vs) (Value.ref (hp.objs.size + 1) :: zs) := .cons rfl r
  refine wpAny_call (VxS.call_K FB hT (I.kIn _ _ hC) (PySem.W.looks_findIn I.kIn iC) (fun self => PySem.W.bind_fn I.kIn self tI) hz
    (codeAny_mono (F1.run _ X.stack _ _ ⟨Value.ref (hp.objs.size + 1) :: us, kw⟩ (Value.ref (hp.objs.size + 1) :: zs) _ _ (fun _ _ _ => False) (hr.make C us kw) (I2.env0.make C us kw) (hb _ _ I2.kIn) r2 hq) fun r s' hq' => ?_))
  cases r with
  | error er => exact hx pins σ _ _ er s' I2 hq'
  | ok fl =>
    cases fl with
    | ret u =>
      obtain ⟨v, H2, os2, bare2, un2, hok2, rv, ev, d, fs, ea, ed, q2⟩ := hq'
      subst ev
      obtain ⟨h2, g2, d2, t2, os'⟩ := s'
      exact ⟨rv, .ref (hp.objs.size + 1), _, xnew_end (d2 := d2) (t2 := t2) I hsz kk un2 hok2 os2 bare2 ea ed, rfl, q2⟩
    | next => exact False.elim hq'
    | brk => exact False.elim hq'
    | cont => exact False.elim hq'
/-- the wish behind C(..): sp is the __init__'s promise, vs the values in the parameters' order -/
def XNew (C : Addr) (sp : Sp) (vs : List V) (H : Hp) (Q : VK) : Prop :=
  ∀ a, H a = none → sp (.ref a :: vs) (upd H a (exo a C none)) (fun v H2 => v = .non ∧ ∃ (d : Addr) (fs : List (Str × V)), H2 a = some (exo a C (some d)) ∧ H2 d = some (exd d fs) ∧ Q (.ref a) (upd (upd H2 a (exV a C d)) d (.xd fs))) (fun _ _ _ => False)
def tXnew (C : Addr) (sp : Sp) (t : TA) : TE := fun σ H Q => t σ H fun vs H1 => vs.length ≤ 1000 ∧ XNew C sp vs H1 Q
theorem pe_xnew (T : Xc X.K C) (iC : PySem.W.findIn X.K (.ref C) "__init__" = some (some (.ref fI))) (tI : PySem.W.typeIn X.K (.ref fI) = some (.type "function"))
    (F1 : FnOk X.prog X.w X.K X.mg X.base CX k fI fd ps sp) (hr : Room (k + 1) X.A) (hbd : Binds X.K fd ps []) (hx : Passes CX X (fun _ _ _ => False)) (hg : Gl X x) (hm : X.mg x = some (.ref C)) (ha : PA X (e :: es) t)
    (hdb : (x == ("__debug__" : Str)) = false := by decide) (he : starEach (e :: es) X.env = (false, eval e X.env) :: starEach es X.env := by rfl) (hpl : (backTo pos (starEach es X.env)).any (·.1) = false := by rfl) :
    PE X (.Call (.Name x p) (e :: es) [] pos) (tXnew C sp t) := by
  refine ⟨fun pins s σ H Q I h => ?_⟩
  refine wpAny_Call_Name_kw (ld_glob I hg hm ?_ hdb)
  refine PySem.W.callWith_K (h₀ := X.base) I.ok.mod.kin T.kC (thn (ha.run pos pins s σ H _ I h) fun us s1 ⟨vs, H1, I1, r1, hz, q1⟩ => ⟨I1.kIn, ?_⟩) he hpl
  have hl : ∀ a : Addr, (Value.ref a :: us).length = ps.length := fun a => by
    have e1 := F1.len _ _ _ _ (q1 s1.heap.objs.size (I1.hok.fresh (Nat.le_refl _)))
    rw [List.length_cons] at e1
    rw [List.length_cons, ← r1.length]
    exact e1
  exact run_xnew (us := us) T iC tI F1 hr hx (by rw [← r1.length, sizeLine_eq]; omega) (fun s a kin => by
    have z := hbd s (Value.ref a :: us) kin (by rw [List.append_nil]; exact hl a)
    rw [List.append_nil] at z
    exact z) I1 r1 q1
/-- C(k = v, ..): one | two keywords, in the parameters' order pe -/
def tXnewK (C : Addr) (sp : Sp) (n : Nat) (gV : List V → List V) (tk : TA) : TE := fun σ H Q => tk σ H fun zs H1 => zs.length = n ∧ XNew C sp (gV zs) H1 Q
theorem pe_xnewK {ks : List Str} {g : List Value → List Value} {gV : List V → List V} (T : Xc X.K C) (iC : PySem.W.findIn X.K (.ref C) "__init__" = some (some (.ref fI))) (tI : PySem.W.typeIn X.K (.ref fI) = some (.type "function"))
    (F1 : FnOk X.prog X.w X.K X.mg X.base CX k fI fd ps sp) (hr : Room (k + 1) X.A) (hbd : ∀ (s : Shared) (a : Addr) (ws : List Value), X.K.In s.heap → ws.length = ks.length → BindsTo s fd ⟨[Value.ref a], ks.zip ws⟩ (ps.zip (Value.ref a :: g ws)))
    (rel : ∀ {zs : List V} {ws : List Value}, Vals zs ws → Vals (gV zs) (g ws)) (hx : Passes CX X (fun _ _ _ => False)) (hg : Gl X x) (hm : X.mg x = some (.ref C)) (hkw : PK X kws tk)
    (hall : (backToKw pos (keywordEach kws X.env)).all (·.1.isSome) = true := by rfl) (hks : (backToKw pos (keywordEach kws X.env)).filterMap (·.1) = ks := by rfl) (hdb : (x == ("__debug__" : Str)) = false := by decide)
    (hpl : ((backTo pos (starEach [] X.env)).any (·.1) || (backToKw pos (keywordEach kws X.env)).any (·.1.isNone)) = false := by rfl) :
    PE X (.Call (.Name x p) [] kws pos) (tXnewK C sp ks.length gV tk) := by
  refine ⟨fun pins s σ H Q I h => ?_⟩
  refine wpAny_Call_Name_kw (ld_glob I hg hm ?_ hdb)
  refine PySem.W.callWith_KW0 (h₀ := X.base) I.ok.mod.kin T.kC hall ?_ hpl
  refine thn (hkw.run pos pins s σ H _ I h) fun ws s2 ⟨zs, H2, I2, rz, l2, q2⟩ => ⟨I2.kIn, ?_⟩
  rw [hks]
  exact run_xnew (us := []) T iC tI F1 hr hx (Nat.zero_le _) (fun s a kin => hbd s a ws kin (by rw [← rz.length]; exact l2)) I2 (rel rz) q2
end
/-! ### what the written part says, by one look -/
def xcB (K : PySem.W.Frag) (C : Addr) (bmB : List Value) (newId : String) : Bool :=
  PySem.W.excInitIn K C bmB newId && (PySem.W.hasDictIn K C && (decide (PySem.W.findIn K (.ref C) "__setattr__" = some (some (.builtin "object.__setattr__"))) && (decide (PySem.W.findIn K (.ref C) "__getattribute__" = some (some (.builtin "BaseException.__getattribute__"))) &&
  (decide (PySem.W.findIn K (.ref C) "__getattr__" = some none) && (decide (PySem.W.subIn K (.ref C) (.type "BaseException") = some true) && (decide (PySem.W.typeIn K (.ref C) = some (.type "type")) && (PySem.W.keepIn K (.ref C) &&
  (decide (PySem.W.findIn K (.ref C) "__class__" = some (some (.builtin "object.__class__"))) && (decide (PySem.W.specialIn K (.builtin "object.__class__") "__get__" = some (some (.builtin "getset_descriptor.__get__"))) &&
  (decide (PySem.W.takesIn K (.builtin "object.__class__") = some true) && decide (PySem.W.mroIn K C (.type "object") = some true)))))))))))
theorem band {a b : Bool} (h : (a && b) = true) : a = true ∧ b = true := Bool.and_eq_true_iff.mp h
theorem xc_of {K : PySem.W.Frag} {C : Addr} {B newId initId : String} {bmB : List Value} (FB : ExcBaseFacts B newId initId bmB) (SF : StoreFacts B bmB "object.__setattr__" "object") (h : xcB K C bmB newId = true) : Xc K C := by
  obtain ⟨h1, h⟩ := band h
  obtain ⟨h2, h⟩ := band h
  obtain ⟨h3, h⟩ := band h
  obtain ⟨h4, h⟩ := band h
  obtain ⟨h5, h⟩ := band h
  obtain ⟨h6, h⟩ := band h
  obtain ⟨h7, h⟩ := band h
  obtain ⟨h8, h⟩ := band h
  obtain ⟨h9, h⟩ := band h
  obtain ⟨h10, h⟩ := band h
  obtain ⟨h11, h12⟩ := band h
  refine ⟨?_, of_decide_eq_true h3, of_decide_eq_true h4, of_decide_eq_true h5, of_decide_eq_true h6, of_decide_eq_true h7, h8, h2, of_decide_eq_true h9, of_decide_eq_true h10, of_decide_eq_true h11, of_decide_eq_true h12⟩
  obtain ⟨cd0, hc0, hd0⟩ := PySem.W.any_some h2
  unfold PySem.W.excInitIn at h1
  split at h1
  · rename_i dd cd sl ho
    split at h1
    · rename_i C' bm k0 k1 k2 k3 n k5 hm hs
      simp only [Bool.and_eq_true, beq_iff_eq, Bool.not_eq_true'] at h1
      obtain ⟨⟨⟨rfl, rfl⟩, hdel⟩, ht⟩ := h1
      have hcl : PySem.W.clsIn K C' = some cd := by unfold PySem.W.clsIn; rw [ho] <;> rfl
      rw [hcl] at hc0
      have ec := Option.some.inj hc0
      rw [← ec] at hd0
      obtain ⟨nm, bs, mro, ns, qn, hd, sn, sub, ab, col, del⟩ := cd
      dsimp only at hm hdel hd0
      subst hm hdel hd0
      have hsl : sl = #[k0, k1, k2, k3, some (.builtin n), k5] := by
        obtain ⟨l⟩ := sl
        simp only at hs
        rw [hs]
      subst hsl
      exact ⟨nm, qn, ns, bs, bm, sn, sub, ab, col, dd, k0, k1, k2, k3, k5, B, n, initId, bmB, ho, FB, ⟨ht, SF.passes, SF.hasOwner⟩⟩
    · cases h1
  · cases h1
/-- the three bases -/
abbrev bmVE : List Value := [.type "ValueError", .type "Exception", .type "BaseException", .type "object"]
abbrev bmRE : List Value := [.type "RuntimeError", .type "Exception", .type "BaseException", .type "object"]
abbrev bmLE : List Value := [.type "LookupError", .type "Exception", .type "BaseException", .type "object"]
theorem xc_VE {K : PySem.W.Frag} {C : Addr} (h : xcB K C bmVE "ValueError.__new__" = true) : Xc K C := xc_of PySem.F.excBase_ValueError PySem.F.store_ValueError h
theorem xc_RE {K : PySem.W.Frag} {C : Addr} (h : xcB K C bmRE "RuntimeError.__new__" = true) : Xc K C := xc_of PySem.F.excBase_RuntimeError PySem.F.store_RuntimeError h
theorem xc_LE {K : PySem.W.Frag} {C : Addr} (h : xcB K C bmLE "LookupError.__new__" = true) : Xc K C := xc_of PySem.F.excBase_LookupError PySem.F.store_LookupError h
end L2

set_option Elab.async false
set_option linter.all false
set_option maxRecDepth 100000
set_option maxHeartbeats 4000000
/-! VxE: list + list where the left one may be the script; the state that draws leave -/
namespace L2
open PySem PySem.Spec PyProof.Rows
section
variable {X : Cx}
def rCatS (K : PySem.W.Frag) : R2 := fun x y H Q => ∃ l b xs zs, x = .ref l ∧ y = .ref b ∧ SqL K H l xs ∧ SqL K H b zs ∧ xs.length + zs.length ≤ sizeLine ∧ ∀ p, H p = none → Q (.ref p) (upd H p (.lst (xs ++ zs)))
theorem op_catS : OpR X (binaryOp .Add) (rCatS X.K) := by
  intro pins s σ H x y v u Q I rx ry h
  obtain ⟨l, b, xs, zs, rfl, rfl, hH, hB, hz, q⟩ := h
  cases rx
  cases ry
  obtain ⟨its, r, ⟨o, n, e, e1, e2, e3⟩, z⟩ := I.list hH
  obtain ⟨its2, r2, ⟨o2, n2, f, f1, f2, f3⟩, z2⟩ := I.list hB
  obtain ⟨c, d, dt, sl⟩ := o
  obtain ⟨c2, d2, dt2, sl2⟩ := o2
  dsimp only at e1 e2 e3 f1 f2 f3
  subst e1 e2 e3 f1 f2 f3
  have ea : its.toArray ++ its2.toArray = (its ++ its2).toArray := by simp
  refine concat_meets ⟨_, e, rfl⟩ ⟨_, f, rfl⟩ noFill_list_add seq_list_add PySem.F.slot_list_add PySem.F.entry_list_add (PySem.F.args_list_add_2 _ _) (list_addW l b its.toArray its2.toArray n n2 none none sl sl2 (by rw [List.size_toArray, List.size_toArray, ← r.length, ← r2.length]; exact hz)) ⟨e, f, ?_⟩
  rw [ea]
  exact ⟨.ref _, _, I.lnew (t' := s.toks) (r.append r2) (by rw [List.length_append]; exact hz), rfl, q _ I.fresh⟩
end
/-! ### draws -/
abbrev kCells : Key := Sum.inr "cells"
abbrev kAt : Key := Sum.inr "at"
abbrev kLeft : Key := Sum.inr "left"
abbrev kUsed : Key := Sum.inr "used"
def drawKv (l : Addr) (a b c : Int) : List (Key × V) := [(kCells, .ref l), (kAt, .int a), (kLeft, .int b), (kUsed, .int c)]
theorem dk_cells {l : Addr} {a b c : Int} : valV (drawKv l a b c) kCells = some (.ref l) := by kernel_rfl
theorem dk_at {l : Addr} {a b c : Int} : valV (drawKv l a b c) kAt = some (.int a) := by kernel_rfl
theorem dk_left {l : Addr} {a b c : Int} : valV (drawKv l a b c) kLeft = some (.int b) := by kernel_rfl
theorem dk_used {l : Addr} {a b c : Int} : valV (drawKv l a b c) kUsed = some (.int c) := by kernel_rfl
theorem dp_at {l : Addr} {a b c z : Int} : putK (drawKv l a b c) kAt (.int z) = drawKv l z b c := by kernel_rfl
theorem dp_left {l : Addr} {a b c z : Int} : putK (drawKv l a b c) kLeft (.int z) = drawKv l a z c := by kernel_rfl
theorem dp_used {l : Addr} {a b c z : Int} : putK (drawKv l a b c) kUsed (.int z) = drawKv l a b z := by kernel_rfl
/-- at p: the dict that the draws go on with; at most N draws are behind it -/
def DrawAt (H : Hp) (p : Addr) (N : Nat) : Prop := ∃ (l : Addr) (cs : List Int) (a b c : Int), H p = some (.dK (drawKv l a b c)) ∧ H l = some (.lst (cs.map V.int)) ∧ 0 < cs.length ∧ cs.length ≤ 64 ∧ 0 ≤ a ∧ a ≤ N ∧ 0 ≤ b ∧ 0 ≤ c ∧ c ≤ N
/-- all that was tracked but p stands -/
def Keep (p : Addr) (H H' : Hp) : Prop := ∀ c o, H c = some o → c ≠ p → H' c = some o
theorem Keep.refl {p : Addr} {H : Hp} : Keep p H H := fun _ _ e _ => e
theorem Keep.trans {p : Addr} {H H1 H2 : Hp} (a : Keep p H H1) (b : Keep p H1 H2) : Keep p H H2 := fun c o e n => b c o (a c o e n) n
theorem Keep.of {p : Addr} {H H' : Hp} (s : Same H H') : Keep p H H' := fun c o e _ => s c o e
theorem Keep.upd {p : Addr} {H : Hp} {o : HO} : Keep p H (upd H p o) := fun c o e n => by rw [upd_ne n]; exact e
theorem same_new {H : Hp} {p : Addr} {o : HO} (h : H p = none) : Same H (upd H p o) := fun c u e => by rw [upd_ne (ne_of_none e h)]; exact e
theorem DrawAt.same {H H' : Hp} {p : Addr} {N : Nat} (d : DrawAt H p N) (s : Same H H') : DrawAt H' p N := by
  obtain ⟨l, cs, a, b, c, h1, h2, r⟩ := d
  exact ⟨l, cs, a, b, c, s _ _ h1, s _ _ h2, r⟩
theorem DrawAt.ne {H : Hp} {p : Addr} {N : Nat} (d : DrawAt H p N) {q : Addr} {o : HO} (h : H q = some o) (n : ∀ kvs, o ≠ .dK kvs) : q ≠ p := by
  obtain ⟨l, cs, a, b, c, h1, _⟩ := d
  exact ne_of h h1 (n _)
theorem DrawAt.mono {H : Hp} {p : Addr} {N M : Nat} (d : DrawAt H p N) (h : N ≤ M) : DrawAt H p M := by
  obtain ⟨l, cs, a, b, c, h1, h2, r1, r2, r3, r4, r5, r6, r7⟩ := d
  exact ⟨l, cs, a, b, c, h1, h2, r1, r2, r3, by omega, r5, r6, by omega⟩
/-- the promises of the three defs -/
def spBegin (K : PySem.W.Frag) : Sp := fun vs H Q _ => ∃ (a : Addr) (ns : List Int), vs = [.ref a] ∧ SqL K H a (ns.map V.int) ∧ ns.length ≤ 63 ∧ ∀ p H', H p = none → Same H H' → DrawAt H' p 0 → Q (.ref p) H'
def spMixed : Sp := fun vs H Q _ => ∃ c k : Int, vs = [.int c, .int k] ∧ 0 ≤ k ∧ k < 1099511627776 ∧ ∀ r : Int, 0 ≤ r → r < 2147483648 → Q (.int r) H
def spNext : Sp := fun vs H Q _ => ∃ (p : Addr) (b : Int) (N : Nat), vs = [.ref p, .int b] ∧ DrawAt H p N ∧ N < 1000000000 ∧ 0 < b ∧ b < 1073741824 ∧ ∀ (r : Int) (H' : Hp), 0 ≤ r → r < b → DrawAt H' p (N + 1) → Keep p H H' → Q (.int r) H'
/-! ### facts behind the top: the facts of HeadHook2 and one look more -/
end L2
namespace He
open PySem PySem.Spec PyProof.Rows L2
def hookXe (n : Nat) (fa : List Fa) (fn : List DefD) (chk : PySem.W.Frag → Bool) : PySem.W.Hook where
  α := AlD × Bool
  obs := fun s => (obsD fa fn (frG s.heap.get? (asD s.heap.get? n)), chk (frG s.heap.get? (asD s.heap.get? n)))
  val := fun _ => (valD fn, true)
  says := fun _ h => ∃ K : PySem.W.Frag, K.In h ∧ SaysD fa fn K ∧ chk K = true
  of := fun _ _ e => ⟨_, frG_in, congrArg Prod.fst e, congrArg Prod.snd e⟩
  keeps := fun _ _ _ ⟨K, hK, c⟩ k => ⟨K, PySem.W.Frag.In.keeps hK k, c⟩
def obsXe (n : Nat) (fa : List Fa) (fn : List DefD) (chk : PySem.W.Frag → Bool) (g : Addr → Option Obj) : AlD × Bool := (obsD fa fn (frG g (asD g n)), chk (frG g (asD g n)))
theorem obsXe_eq {n : Nat} {fa : List Fa} {fn : List DefD} {chk : PySem.W.Frag → Bool} {g : Addr → Option Obj} {s : Shared} (h : ∀ a, g a = s.heap.get? a) : obsXe n fa fn chk g = (hookXe n fa fn chk).obs s := by
  have e : g = s.heap.get? := funext h
  rw [e] <;> rfl
end He

set_option Elab.async false
set_option linter.all false
set_option maxRecDepth 100000
set_option maxHeartbeats 4000000
/-! VxG: defs that are promised where nothing is being shown (no repr runs): FnG; their bodies, their calls; a law's end over them. -/
namespace L2
open PySem PySem.Spec PyProof.Rows
structure FnG (P : Program) (w : World) (K : PySem.W.Frag) (mg : Str → Option Value) (base : Heap) (CX : CXT) (k : Nat) (f : Addr) (fd : FuncData) (ps : List Str) (sp : Sp) : Prop where
  len : ∀ vs H Q E, sp vs H Q E → vs.length = ps.length
  run : ∀ (A : Around), A.guards = some [] → Room k A → ∀ (outer : List Env) (s : Shared) (H : Hp) (args : Args) (us : List Value) (vs : List V) (Q : VK) (E : XK), Env0 P w K mg base A outer s H → BindsTo s fd args (ps.zip us) → Vals vs us → sp vs H Q E →
    codeAny (model P w) A (.call (.ref f) args) (CR CX outer P w H s Q E) s
section
variable {P : Program} {w : World} {K : PySem.W.Frag} {mg : Str → Option Value} {base : Heap} {CX : CXT} {k : Nat} {f : Addr} {fd : FuncData} {N ps : List Str} {sp : Sp}
theorem FnOk.g (F : FnOk P w K mg base CX k f fd ps sp) : FnG P w K mg base CX k f fd ps sp := ⟨F.len, fun A _ hr outer s H args us vs Q E => F.run A outer s H args us vs Q E hr⟩
/-- such a def, by its body -/
theorem FunD.okG {x qual : Str} {params : Arguments} {body : List Stmt} {scope : Scope} {dvs : List V} {kws : List (Str × V)} (F : FunD K x qual params body scope dvs kws f fd) (S : FnScope N ps scope) (len : ∀ vs H Q E, sp vs H Q E → vs.length = ps.length)
    (hbody : ∀ (cdv : Value) (A : Around) (outer : List Env) (s : Shared) (H : Hp) (vs : List V) (Q : VK) (E : XK), (A.deeper (envOfC qual scope s.heap.objs.size f cdv)).guards = some [] → Room k (A.deeper (envOfC qual scope s.heap.objs.size f cdv)) → sp vs H Q E →
      ∃ t, PSs (cxOf CX P w K mg base N qual scope f cdv A outer s H E) body t ∧ t { nx := fun _ H' => Q .non H', rt := Q } (start N vs) H) : FnG P w K mg base CX (k + 1) f fd ps sp := by
  obtain ⟨oc, od, dV, kV, doc, pm, an, cdv, ct, osl, rfl, lk, hcd, _, _⟩ := F.ex
  refine ⟨len, fun A hgu hr outer s H args us vs Q E e0 hb r hsp => ?_⟩
  have kin : K.In s.heap := e0.mod.kin.keeps fun b o e => (e0.bs b o e).1
  have par : ∀ y ∈ ps.zip us, scope.names.lookup y.1 = some .local ∨ (scope.names.lookup y.1 = some .cell ∧ ((cellsFrom (s.heap.objs.size + 1) scope.names []).lookup y.1).isSome = true) := by
    intro y hy
    obtain ⟨n, v⟩ := y
    exact (S.par n (List.of_mem_zip hy).1).imp id fun q => ⟨q, PySem.W.cellsFrom_some _ _ _ (.inl q)⟩
  refine codeAny_call_function hr.depth (kin _ _ lk) rfl S.co S.gen rfl (PySem.W.codeRec_of kin hcd) (hb _ _ _ _ (wpAny_newFunctionEnv_cells S.kind par fun env he s1 x => ?_))
  subst he
  refine ⟨(e0.mod.nolimit.keeps fun b o e => (e0.bs b o e).1).keeps x.toInCall.keep, codeAny_func ?_⟩
  obtain ⟨t, ht, hq⟩ := hbody cdv A outer s H vs Q E hgu (hr.deeper _) hsp
  refine wpAny_mono (ht.run [] s1 (start N vs) H _ (inv_start S hr.hd e0 (len _ _ _ _ hsp) r x) hq) (fun fl s' hs => ?_) fun _ _ hs => hs
  cases fl with
  | ret u =>
    obtain ⟨v, _, H', J, rv, q⟩ := hs
    exact ⟨v, H', J.os, J.bare, J.base, J.hok, rv, q⟩
  | next =>
    obtain ⟨_, H', J, q⟩ := hs
    exact ⟨V.non, H', J.os, J.bare, J.base, J.hok, rfl, q⟩
  | brk => exact hs.elim fun _ z => z.elim fun _ z => z.2.elim
  | cont => exact hs.elim fun _ z => z.elim fun _ z => z.2.elim
end
section
variable {X : Cx} {CX : CXT} {k : Nat} {f : Addr} {fd : FuncData} {ps : List Str} {sp : Sp} {dvs : List V} {ds : List Value} {E : XK} {x : Str} {p pos : Pos} {e : Expr} {es : List Expr} {t : TA}
/-- f(e, ..) -/
theorem pe_callG (hgu : X.A.guards = some []) (F : FnG X.prog X.w X.K X.mg X.base CX k f fd ps sp) (hr : Room k X.A) (hg : Gl X x) (hm : X.mg x = some (.ref f)) (hk : PySem.W.keepIn X.K (.ref f) = true) (hb : Binds X.K fd ps ds) (hd : Vals dvs ds) (hx : Passes CX X E)
    (ha : PA X (e :: es) t) (hdb : (x == ("__debug__" : Str)) = false := by decide) (he : starEach (e :: es) X.env = (false, eval e X.env) :: starEach es X.env := by rfl) (hpl : (backTo pos (starEach es X.env)).any (·.1) = false := by rfl) :
    PE X (.Call (.Name x p) (e :: es) [] pos) (tCall sp dvs E t) := by
  refine ⟨fun pins s σ H Q I h => wpAny_Call_Name_kw (ld_glob I hg hm (PySem.W.callWith_K (h₀ := X.base) I.ok.mod.kin hk (thn (ha.run pos pins s σ H _ I h) fun us s1 z => ?_) he hpl) hdb)⟩
  obtain ⟨vs, H1, I1, r, q⟩ := z
  have r2 : Vals (vs ++ dvs) (us ++ ds) := r.append hd
  refine ⟨I1.kIn, wpAny_call (codeAny_mono (F.run X.A hgu hr X.stack s1 H1 ⟨us, []⟩ (us ++ ds) (vs ++ dvs) Q E I1.env0 (hb s1 us I1.kIn (r2.length.symm.trans (F.len _ _ _ _ q))) r2 q) fun rs s' hq => ?_)⟩
  cases rs with
  | error er => exact hx pins σ H1 s1 er s' I1 hq
  | ok fl =>
    cases fl with
    | ret u => exact I1.after hq
    | next => exact hq.elim
    | brk => exact hq.elim
    | cont => exact hq.elim
end
/-- the script, tracked as the list that it is -/
def onlyAt (a : Addr) (o : Obj) (xs : List V) : Hp := fun b => if b = a then some (.frz o (.lst xs)) else none
/-- a law's end: its def is promised where nothing is being shown -/
theorem law_callG {P : Program} {w : World} {K : PySem.W.Frag} {mg mb : Str → Option Value} {k : Nat} {fa a : Addr} {fd : FuncData} {x : Str} {sp : Sp} {s₁ : Shared} {vs : List Value} {ns : List Int}
    (kin : K.In s₁.heap) (hns : s₁.heap.Ns mainGlobals mg) (hb : s₁.heap.Ns builtinsNs mb) (hbb : ∀ x : Str, x ≠ "__name__" → mb x = bootBuiltins x) (hlim : s₁.heap.NoLimit) (hg : s₁.gens = #[])
    (ha : s₁.heap.get? a = some { cls := .type "list", data := .seq vs.toArray }) (hi : IntsAre vs ns) (hl : ns.length ≤ sizeLine) (hr : Room k callerA)
    (F : ∀ base : Heap, K.In base → base.Ns mainGlobals mg → FnG P w K mg base CX0 k fa fd [x] sp) (hbind : ∀ (s : Shared) (u : Value), BindsTo s fd ⟨[u], []⟩ [(x, u)])
    (hsp : ∀ H : Hp, Only H → SqL K H a (ns.map V.int) → sp [.ref a] H (fun v _ => v = .bl true) fun _ _ _ => False) :
    codeAny (model P w) callerA (.call (.ref fa) ⟨[.ref a], []⟩) (fun r s' => r = .ok (.ret (.bool true)) ∧ OldK s₁.heap s'.heap ∧ s'.os = s₁.os ∧ AllBare s'.gens) s₁ := by
  have rv : Vals (ns.map V.int) vs := vals_ints hi
  have key : ∀ H : Hp, Only H → SqL K H a (ns.map V.int) → HOk P w H s₁.heap → (∀ b, H b ≠ none → b = a) → (H a ≠ none → K.lookup a = none) →
      codeAny (model P w) callerA (.call (.ref fa) ⟨[.ref a], []⟩) (fun r s' => r = .ok (.ret (.bool true)) ∧ OldK s₁.heap s'.heap ∧ s'.os = s₁.os ∧ AllBare s'.gens) s₁ := by
    intro H hO hS hok only hK
    have free : ∀ b, b ≠ a → H b = none := fun b nb => by
      cases q : H b with
      | none => rfl
      | some u => exact absurd (only b (by rw [q]; exact fun z => nomatch z)) nb
    have dictNe : ∀ {b : Addr} {o : Obj} {es : Array DictEntry} {ep : Nat}, s₁.heap.get? b = some o → o.data = .dict es ep → b ≠ a := fun {b o es ep} e d z => by
      rw [z, ha] at e
      have eo := Option.some.inj e
      rw [← eo] at d
      exact nomatch (show Data.seq vs.toArray _ = Data.dict es ep from d)
    have nsK : ∀ {b : Addr} {m : Str → Option Value}, s₁.heap.Ns b m → (hidT s₁.heap H).Ns b m := fun {b m} z => by
      obtain ⟨o, es, ep, e, d, r⟩ := z
      exact ⟨o, es, ep, hidT_get e (free b (dictNe e d)), d, r⟩
    have kinB : K.In (hidT s₁.heap H) := fun b o e => hidT_get (kin b o e) (by
      by_cases nb : b = a
      · cases q : H b with
        | none => rfl
        | some u =>
          have z := hK (by rw [← nb, q]; exact fun z => nomatch z)
          rw [← nb, e] at z
          cases z
      · exact free b nb)
    have md : Mod K mg (hidT s₁.heap H) := ⟨kinB, nsK hns, ⟨mb, nsK hb, hbb⟩, by
      obtain ⟨mc, h1, h2⟩ := hlim
      exact ⟨mc, nsK h1, h2⟩⟩
    have e0 : Env0 P w K mg (hidT s₁.heap H) callerA [] s₁ H := ⟨rfl, md, fun b o e => of_hidT e, Nat.le_of_eq (hidT_size _ _), trivial, fun b z => (List.not_mem_nil z).elim, hok, .of_eq hg⟩
    refine codeAny_mono ((F _ kinB (nsK hns)).run callerA rfl hr [] s₁ H ⟨[.ref a], []⟩ [.ref a] [.ref a] _ _ e0 (hbind s₁ (.ref a)) (.cons rfl .nil) (hsp H hO hS)) fun r s' h => ?_
    cases r with
    | error e => exact False.elim h
    | ok fl =>
      cases fl with
      | next => exact False.elim h
      | brk => exact False.elim h
      | cont => exact False.elim h
      | ret u =>
        obtain ⟨v, H', os, bare, un, hok', r', q⟩ := h
        have ev : v = .bl true := q
        rw [ev] at r'
        have eu : u = Value.bool true := r'
        rw [eu]
        refine ⟨rfl, OldK.of_keep fun b o e => ?_, os, bare⟩
        rcases hO b with z | ⟨ob, xs, z⟩
        · exact un.keep b o e z (fun y => (List.not_mem_nil y).elim) (fun y => (List.not_mem_nil y).elim)
        · have e1 := (hok b _ z).1
          have e2 := (hok' b _ (un.frzs b ob _ z)).1
          rw [e] at e1
          rw [Option.some.inj e1]
          exact e2
  cases hk : K.lookup a with
  | some o =>
    have e := kin a o hk
    rw [ha] at e
    have eo := Option.some.inj e
    refine key (fun _ => none) (fun _ => .inl rfl) (.inr ⟨o, vs.toArray, _, hk, by rw [← eo], by rw [← eo], by rw [← eo], by rw [List.size_toArray, hi.length]; exact hl, by simpa using rv⟩) (fun b u z => nomatch (show (none : Option HO) = some u from z)) (fun b z => absurd rfl z) fun z => absurd rfl z
  | none =>
    have at_ : onlyAt a { cls := .type "list", data := .seq vs.toArray } (ns.map V.int) a = some (.frz { cls := .type "list", data := .seq vs.toArray } (.lst (ns.map V.int))) := if_pos rfl
    have off : ∀ b, b ≠ a → onlyAt a { cls := .type "list", data := .seq vs.toArray } (ns.map V.int) b = none := fun b nb => if_neg nb
    refine key (onlyAt a { cls := .type "list", data := .seq vs.toArray } (ns.map V.int)) (fun b => ?_) (.inl (.inr ⟨_, at_⟩)) (fun b u z => ?_) (fun b z => ?_) fun _ => hk
    · by_cases nb : b = a
      · exact .inr ⟨_, _, by rw [nb]; exact at_⟩
      · exact .inl (off b nb)
    · by_cases nb : b = a
      · subst nb
        rw [at_] at z
        have ez := Option.some.inj z
        subst ez
        exact ⟨ha, by rw [List.length_map]; exact hl, vs, _, rv, ha⟩
      · rw [off b nb] at z
        cases z
    · by_cases nb : b = a
      · exact nb
      · exact absurd (off b nb) z
theorem walk_ofG {l : PySem.W.OpenLaw} {n k : Nat} {q : Program} {loose : List Str} {XP : (Str → Option Value) → Heap → Prop} {YP : World → Heap → Prop} {d : DefRec} {x : Str}
    (hn : l.most = some n) (hn2 : n ≤ sizeLine) (hdf : d.params.defaults = []) (hr : Room k callerA)
    (F : ∀ (w : World) (mg : Str → Option Value) (fa : Addr) (h : Heap), YP w h → h.Ns mainGlobals mg → mg d.name = some (.ref fa) →
      ∃ (K : PySem.W.Frag) (fd : FuncData) (sp : Sp), K.In h ∧ (∀ (s : Shared) (u : Value), BindsTo s fd ⟨[u], []⟩ [(x, u)]) ∧
        (∀ (H : Hp) (a : Addr) (ns : List Int), ns.length ≤ n → Only H → SqL K H a (ns.map V.int) → sp [.ref a] H (fun v _ => v = .bl true) fun _ _ _ => False) ∧
        ∀ base : Heap, K.In base → base.Ns mainGlobals mg → FnG l.prog w K mg base CX0 k fa fd [x] sp) :
    PySem.W.WalkO q loose XP YP l.row.toRowW d [] (fun f vs => PySem.call f vs) :=
  Att.attach_call hn hdf fun w s₀ s₁ mg mb fa o pm cd doc a vs ns G Y ho hd hcd hmg hobj hints hlen hg => by
    obtain ⟨K, fd, sp, kin, hb, hsp, hF⟩ := F w mg fa _ Y G.T.g hmg
    exact law_callG kin G.T.g G.T.b G.T.builtins G.T.nolimit hg hobj hints (Nat.le_trans hlen hn2) hr hF hb fun H hO hS => hsp H a ns hlen hO hS
/-! ### repr -/
/-- what a value says of itself: None, bools, ints, texts, lists, tuples of these, an empty dict -/
inductive Sw (K : PySem.W.Frag) (H : Hp) : V → PyData → Prop
  | non : Sw K H .non .none
  | bl (b : Bool) : Sw K H (.bl b) (.bool b)
  | int (i : Int) : Sw K H (.int i) (.int i)
  | str (x : Str) : Sw K H (.str x) (.str x)
  | emp {a : Addr} : H a = some (.dK []) → Sw K H (.ref a) (.dict [])
end L2

set_option Elab.async false
set_option linter.all false
set_option maxRecDepth 100000
set_option maxHeartbeats 4000000
/-! VxR: repr of values that are data: None, bools, ints, texts, lists and tuples of these, dicts of no or one entry. -/
namespace L2
open PySem PySem.Spec PyProof.Rows
/-- the written part holds sys.modules, which is a dict -/
def SysK (K : PySem.W.Frag) : Prop := ∃ (o : Obj) (es : Array DictEntry) (n : Nat), K.lookup sysModules = some o ∧ o.data = .dict es n
def sysB (K : PySem.W.Frag) : Bool := match K.lookup sysModules with
  | some ⟨_, _, .dict _ _, _⟩ => true
  | _ => false
theorem sys_of {K : PySem.W.Frag} (h : sysB K = true) : SysK K := by
  unfold sysB at h
  split at h
  · rename_i es n sl e
    exact ⟨_, _, _, e, rfl⟩
  · cases h
def keyD : Key → PyData
  | .inl i => .int i
  | .inr x => .str x
mutual
inductive Sd (K : PySem.W.Frag) (H : Hp) : V → PyData → Prop
  | non : Sd K H .non .none
  | bl (b : Bool) : Sd K H (.bl b) (.bool b)
  | int (i : Int) : Sd K H (.int i) (.int i)
  | str (x : Str) : Sd K H (.str x) (.str x)
  | lst {a : Addr} {xs : List V} {ds : List PyData} : SqL K H a xs → SdAll K H xs ds → Sd K H (.ref a) (.list ds)
  | tup {a : Addr} {xs : List V} {ds : List PyData} : SqT K H a xs → SdAll K H xs ds → Sd K H (.ref a) (.tuple ds)
  | emp {a : Addr} : H a = some (.dK []) → Sd K H (.ref a) (.dict [])
  | one {a : Addr} {k : Key} {v : V} {d : PyData} : H a = some (.dK [(k, v)]) → Sd K H v d → Sd K H (.ref a) (.dict [(keyD k, d)])
inductive SdAll (K : PySem.W.Frag) (H : Hp) : List V → List PyData → Prop
  | nil : SdAll K H [] []
  | cons {v : V} {vs : List V} {d : PyData} {ds : List PyData} : Sd K H v d → SdAll K H vs ds → SdAll K H (v :: vs) (d :: ds)
end
section
variable {K : PySem.W.Frag} {H H' : Hp}
theorem SqL.same' {a : Addr} {xs : List V} (s : Same H H') (h : SqL K H a xs) : SqL K H' a xs := s.seq h
mutual
theorem Sd.same (s : Same H H') (st : ∀ {a : Addr} {xs : List V}, SqT K H a xs → SqT K H' a xs) : ∀ {v : V} {d : PyData}, Sd K H v d → Sd K H' v d
  | _, _, .non => .non
  | _, _, .bl b => .bl b
  | _, _, .int i => .int i
  | _, _, .str x => .str x
  | _, _, .lst h a => .lst (s.seq h) (SdAll.same s st a)
  | _, _, .tup h a => .tup (st h) (SdAll.same s st a)
  | _, _, .emp h => .emp (s _ _ h)
  | _, _, .one h a => .one (s _ _ h) (Sd.same s st a)
theorem SdAll.same (s : Same H H') (st : ∀ {a : Addr} {xs : List V}, SqT K H a xs → SqT K H' a xs) : ∀ {vs : List V} {ds : List PyData}, SdAll K H vs ds → SdAll K H' vs ds
  | _, _, .nil => .nil
  | _, _, .cons h a => .cons (Sd.same s st h) (SdAll.same s st a)
end
end
section
variable {X : Cx} {pins : List (Addr × Obj)} {σ : St} {H : Hp} {s : Shared}
theorem sys_free (S : SysK X.K) (I : Inv X pins σ H s) : H sysModules = none := by
  obtain ⟨o, es, n, hk, _⟩ := S
  exact (I.bs _ _ (I.ok.mod.kin _ _ hk)).2
theorem sys_list (S : SysK X.K) (I : Inv X pins σ H s) {a : Addr} {o : Obj} {its : Array Value} {n : Nat} (e : s.heap.get? a = some o) (d : o.data = .seq its n) : a ≠ sysModules := by
  obtain ⟨o2, es, n2, hk, hd⟩ := S
  intro z
  rw [z, I.kIn _ _ hk] at e
  rw [← Option.some.inj e, hd] at d
  cases d
mutual
theorem Sd.reads (S : SysK X.K) (I : Inv X pins σ H s) : ∀ (d : PyData) (v : V) (u : Value), Sd X.K H v d → RelV v u → ∃ as, Reads s.heap u d as ∧ sysModules ∉ as
  | .none, _, _, h, r => by
    cases h
    cases r
    exact ⟨_, Reads.none, List.not_mem_nil⟩
  | .bool b, _, _, h, r => by
    cases h
    cases r
    exact ⟨_, Reads.bool b, List.not_mem_nil⟩
  | .int i, _, _, h, r => by
    cases h
    obtain ⟨t, rfl⟩ := r
    exact ⟨_, Reads.int i t, List.not_mem_nil⟩
  | .str x, _, _, h, r => by
    cases h
    obtain ⟨t, rfl⟩ := r
    exact ⟨_, Reads.str x t, List.not_mem_nil⟩
  | .list ds, _, _, h, r => by
    cases h with
    | lst hs ha =>
      cases r
      obtain ⟨its, rv, ⟨o, n, ho, hc, _, hd⟩, _⟩ := I.list hs
      obtain ⟨as, hr, hn⟩ := SdAll.reads S I ds _ its ha rv
      exact ⟨_, Reads.list ho hc hd hr, fun m => (List.mem_cons.mp m).elim (fun z => sys_list S I ho hd z.symm) hn⟩
  | .tuple ds, _, _, h, r => by
    cases h with
    | tup hs ha =>
      cases r
      obtain ⟨its, rv, ⟨o, ho, hc, n, hd⟩, _⟩ := I.tuple hs
      obtain ⟨as, hr, hn⟩ := SdAll.reads S I ds _ its ha rv
      exact ⟨_, Reads.tuple ho hc hd hr, hn⟩
  | .dict [], _, _, h, r => by
    cases h with
    | emp ha =>
      cases r
      obtain ⟨_, hsy, vs, kv, o, es, ep, ho, hx, hd, _, hp, _⟩ := I.hok _ _ ha
      cases kv
      have e0 : es.toList = [] := by
        generalize es.toList = l at hp
        cases hp
        rfl
      exact ⟨_, Reads.dict ho hx.1 hd (by rw [e0]; exact .nil) (by rw [e0]; exact .nil), fun m => by
        rcases List.mem_append.mp m with m | m
        · rcases List.mem_cons.mp m with z | z
          · rw [z] at hsy
            simp at hsy
          · exact (List.not_mem_nil z)
        · exact (List.not_mem_nil m)⟩
  | .dict [(kd, d)], _, _, h, r => by
    cases h with
    | @one a k v _ ha hv =>
      cases r
      obtain ⟨_, hsy, vs, kv, o, es, ep, ho, hx, hd, _, hp, _⟩ := I.hok _ _ ha
      cases kv with
      | @cons _ q _ _ h1 h2 =>
        cases h2
        obtain ⟨e1, rv⟩ := h1
        obtain ⟨as, hr, hn⟩ := Sd.reads S I d v q.2 hv rv
        obtain ⟨en, ek, ev, e0⟩ : ∃ en : DictEntry, (mixKind X.prog X.w).is q.1 en.key = true ∧ en.val = q.2 ∧ es.toList = [en] := by
          generalize es.toList = l at hp
          cases hp with
          | cons a1 a2 a3 =>
            cases a3
            exact ⟨_, a1, a2, rfl⟩
        have hk : ∃ as, Reads s.heap en.key (keyD k) as ∧ as = [] := by
          have e1' : k = q.1 := e1
          rw [e1']
          rcases keyIs_shape (show keyIs q.1 en.key = true from ek) with ⟨i, t, z1, z2⟩ | ⟨x, t, z1, z2⟩
          · rw [z1, z2]
            exact ⟨_, Reads.int i t, rfl⟩
          · rw [z1, z2]
            exact ⟨_, Reads.str x t, rfl⟩
        obtain ⟨bs, hb, rfl⟩ := hk
        exact ⟨_, Reads.dict ho hx.1 hd (by rw [e0]; exact .cons hb .nil) (by rw [e0]; exact .cons (as := as) (by show Reads s.heap en.val d as; rw [ev]; exact hr) .nil), fun m => by
          rcases List.mem_append.mp m with m | m
          · rcases List.mem_cons.mp m with z | z
            · rw [z] at hsy
              simp at hsy
            · exact (List.not_mem_nil z)
          · rw [List.append_nil] at m
            exact hn m⟩
  | .dict (_ :: _ :: _), _, _, h, _ => by cases h
theorem SdAll.reads (S : SysK X.K) (I : Inv X pins σ H s) : ∀ (ds : List PyData) (vs : List V) (us : List Value), SdAll X.K H vs ds → Vals vs us → ∃ as, ReadsAll s.heap us ds as ∧ sysModules ∉ as
  | [], _, _, h, r => by
    cases h
    cases r
    exact ⟨_, ReadsAll.nil, List.not_mem_nil⟩
  | d :: ds, _, _, h, r => by
    cases h with
    | cons h1 h2 =>
      cases r with
      | cons r1 r2 =>
        obtain ⟨as, q1, n1⟩ := Sd.reads S I d _ _ h1 r1
        obtain ⟨bs, q2, n2⟩ := SdAll.reads S I ds _ _ h2 r2
        exact ⟨_, ReadsAll.cons q1 q2, fun m => (List.mem_append.mp m).elim n1 n2⟩
end
end
/-- repr(v) -/
def rRepr (K : PySem.W.Frag) : List V → Hp → VK → Prop := fun xs H Q => ∃ (v : V) (d : PyData), xs = [v] ∧ Sd K H v d ∧ d.showable = true ∧ d.depth ≤ 40 ∧ d.shown.length ≤ sizeLine ∧ Q (.str d.shown) H
theorem call_repr {X : Cx} {k : Nat} (hgu : X.A.guards = some []) (hr : Room k X.A) (S : SysK X.K) : CallR X (.builtin "repr") (rRepr X.K) := by
  intro pins s σ H xs us Q I r h
  obtain ⟨v, d, rfl, hv, hs, hd, hz, q⟩ := h
  obtain ⟨u, rfl, ru⟩ := vals1 r
  obtain ⟨as, hr1, hn⟩ := Sd.reads S I d v u hv ru
  have fin : ∀ (h' : Heap) (t tk : Nat), (∀ b o, s.heap.get? b = some o → h'.get? b = some o) → EP X pins σ Q (.str d.shown t) { s with heap := h', toks := tk } := fun h' t tk kp => ⟨.str d.shown, H, I.kept (t' := tk) kp, ⟨t, rfl⟩, q⟩
  have ref : ∀ a, u = .ref a → wpAny (model X.prog X.w) X.A (call (.builtin "repr") [u]) (EP X pins σ Q) X.xe s := fun a e => by
    subst e
    exact repr_of_reads' hr1 hs (fun _ => hn) hgu (by have := hr.un; omega) (fun _ _ e => e) (fun h' t tk kp => fin h' t tk kp) hz
  cases hr1 with
  | none =>
    have q' : Q (.str "None") H := by
      have z := q
      simp only [PyData.shown] at z
      exact z
    exact PySem.P.repr_of_none ⟨.str "None", H, I.tok _, ⟨_, rfl⟩, q'⟩
  | bool b =>
    have q' : Q (.str (if b then "True" else "False")) H := by
      have z := q
      simp only [PyData.shown] at z
      cases b <;> exact z
    cases b
    · exact PySem.P.repr_of_bool ⟨.str "False", H, I.tok _, ⟨_, rfl⟩, q'⟩
    · exact PySem.P.repr_of_bool ⟨.str "True", H, I.tok _, ⟨_, rfl⟩, q'⟩
  | int i t =>
    have q' : Q (.str (toString i)) H := by
      have z := q
      simp only [PyData.shown] at z
      exact z
    exact PySem.P.repr_of_int (by simpa [PyData.showable] using hs) ⟨.str (toString i), H, I.tok _, ⟨_, rfl⟩, q'⟩
  | str x t =>
    have q' : Q (.str (reprText x)) H := by
      have z := q
      simp only [PyData.shown] at z
      exact z
    exact PySem.P.repr_of_str ⟨.str (reprText x), H, I.tok _, ⟨_, rfl⟩, q'⟩ (by simpa only [PyData.shown] using hz)
  | list _ _ _ _ => exact ref _ rfl
  | tuple _ _ _ _ => exact ref _ rfl
  | dict _ _ _ _ _ => exact ref _ rfl
/-! ### a bound of what is shown -/
mutual
def wt : PyData → Nat
  | .none => 4
  | .bool _ => 5
  | .int _ => 1921
  | .str x => (reprText x).length
  | .list xs => wtAll xs + 2
  | .tuple xs => wtAll xs + 3
  | .dict kvs => wtKv kvs + 2
def wtAll : List PyData → Nat
  | [] => 0
  | x :: xs => wt x + 2 + wtAll xs
def wtKv : List (PyData × PyData) → Nat
  | [] => 0
  | (k, v) :: r => wt k + wt v + 4 + wtKv r
end
theorem listText_le (ts : List Str) : (listText ts).length ≤ piled ts + 2 := by
  cases ts with
  | nil => decide
  | cons t r =>
    have h1 : (listText (t :: r)).length = (textFrom 1 (("[" : Str) ++ (if (0 : Nat) > 0 then ", " else "" : String) ++ t) r).length + 1 := by
      show (textFrom 0 "[" (t :: r) ++ "]").length = _
      rw [strLen_append]
      rfl
    have h2 := textFrom_length_pos r 1 (("[" : Str) ++ (if (0 : Nat) > 0 then ", " else "" : String) ++ t) (Nat.succ_pos 0)
    have h3 : (("[" : Str) ++ (if (0 : Nat) > 0 then ", " else "" : String) ++ t).length = 1 + t.length := by
      rw [strLen_append, strLen_append]
      rfl
    rw [h1, h2, h3, piled_cons]
    omega
theorem join_le (ts : List Str) : (Str.join ", " ts).length ≤ piled ts := by
  by_cases h : ts = []
  · subst h
    decide
  · have := join_length_add ts h
    omega
theorem tupleText_le (ts : List Str) : (tupleText ts).length ≤ piled ts + 3 := by
  unfold tupleText
  rw [strLen_append, strLen_append]
  have e1 : ((("(" : String) : Str)).length = 1 := rfl
  have e3 : (((if ts.length == 1 then ",)" else ")" : String) : Str)).length ≤ 2 := by split <;> decide
  have := join_le ts
  omega
theorem dictText_le (ts : List Str) : (dictText ts).length ≤ piled ts + 2 := by
  unfold dictText
  rw [strLen_append, strLen_append]
  have e1 : ((("{" : String) : Str)).length = 1 := rfl
  have e2 : ((("}" : String) : Str)).length = 1 := rfl
  have := join_le ts
  omega
mutual
theorem shown_le : ∀ d : PyData, d.showable = true → d.shown.length ≤ wt d
  | .none, _ => by simp only [PyData.shown, wt]; decide
  | .bool b, _ => by cases b <;> simp only [PyData.shown, wt] <;> decide
  | .int i, h => by
    simp only [PyData.shown, wt]
    exact int_text_len_1921 (by simpa [PyData.showable] using h)
  | .str x, _ => by simp only [PyData.shown, wt]; exact Nat.le_refl _
  | .list xs, h => by
    simp only [PyData.shown, wt]
    have h1 := shownAll_le xs (by simpa [PyData.showable] using h)
    have := listText_le (PyData.shownAll xs)
    omega
  | .tuple xs, h => by
    simp only [PyData.shown, wt]
    have h1 := shownAll_le xs (by simpa [PyData.showable] using h)
    have := tupleText_le (PyData.shownAll xs)
    omega
  | .dict kvs, h => by
    simp only [PyData.shown, wt]
    have h1 := shownKv_le kvs (by simpa [PyData.showable] using h)
    have := dictText_le (PyData.shownKv kvs)
    omega
theorem shownAll_le : ∀ xs : List PyData, PyData.showableAll xs = true → piled (PyData.shownAll xs) ≤ wtAll xs
  | [], _ => by simp only [PyData.shownAll, wtAll]; decide
  | x :: xs, h => by
    have h' : x.showable = true ∧ PyData.showableAll xs = true := by simpa [PyData.showableAll] using h
    simp only [PyData.shownAll, wtAll]
    rw [piled_cons]
    have h1 := shown_le x h'.1
    have h2 := shownAll_le xs h'.2
    omega
theorem shownKv_le : ∀ kvs : List (PyData × PyData), PyData.showableKv kvs = true → piled (PyData.shownKv kvs) ≤ wtKv kvs
  | [], _ => by simp only [PyData.shownKv, wtKv]; decide
  | (k, v) :: r, h => by
    have h' : (k.showable = true ∧ v.showable = true) ∧ PyData.showableKv r = true := by simpa [PyData.showableKv] using h
    simp only [PyData.shownKv, wtKv]
    rw [piled_cons, strLen_append, strLen_append]
    have h1 := shown_le k h'.1.1
    have h2 := shown_le v h'.1.2
    have h3 := shownKv_le r h'.2
    have e : (((": " : String) : Str)).length = 2 := rfl
    omega
end
theorem shown_fits {d : PyData} (h : d.showable = true) (h2 : wt d ≤ sizeLine) : d.shown.length ≤ sizeLine := Nat.le_trans (shown_le d h) h2
end L2

set_option Elab.async false
set_option linter.all false
set_option maxRecDepth 100000
set_option maxHeartbeats 4000000
/-! VxX: the classes of errors of a program, each with an __init__ that stores its one or two fields; lists of new errors, lists of isinstance. -/
namespace L2
open PySem PySem.Spec PyProof.Rows
theorem PE.imp {X : Cx} {e : Expr} {t t' : TE} (h : PE X e t) (i : ∀ σ H Q, t' σ H Q → t σ H Q) : PE X e t' := ⟨fun pins s σ H Q I q => h.run pins s σ H Q I (i σ H Q q)⟩
theorem PA.imp {X : Cx} {es : List Expr} {t t' : TA} (h : PA X es t) (i : ∀ σ H Q, t' σ H Q → t σ H Q) : PA X es t' := ⟨fun pos pins s σ H Q I q => h.run pos pins s σ H Q I (i σ H Q q)⟩
theorem Same.refl' {H : Hp} : Same H H := fun _ _ e => e
theorem Same.tr {H H1 H2 : Hp} (a : Same H H1) (b : Same H1 H2) : Same H H2 := fun c o e => b c o (a c o e)
/-- self.f = v -/
def spIni (C : Addr) (f : Str) : Sp := fun vs H Q _ => ∃ (a : Addr) (v : V), vs = [.ref a, v] ∧ H a = some (exo a C none) ∧ ∀ dx, H dx = none → dx ≠ a → Q .non (upd (upd H dx (exd dx [(f, v)])) a (exo a C (some dx)))
/-- self.f = v; self.g = u -/
def spIni2 (C : Addr) (f g : Str) : Sp := fun vs H Q _ => ∃ (a : Addr) (v u : V), vs = [.ref a, v, u] ∧ H a = some (exo a C none) ∧ ∀ dx, H dx = none → dx ≠ a →
  Q .non (upd (upd (upd H dx (exd dx [(f, v)])) a (exo a C (some dx))) dx (exd dx [(g, u), (f, v)]))
theorem xnew1 {C : Addr} {f : Str} {v : V} {H : Hp} {Q : VK} (h : ∀ a H', H a = none → Same H H' → ExAt H' a C [(f, v)] → Q (.ref a) H') : XNew C (spIni C f) [v] H Q := fun a ha => by
  refine ⟨a, v, rfl, upd_same, fun dx n ne => ⟨rfl, dx, [(f, v)], upd_same, (by rw [upd_ne ne, upd_same]), ?_⟩⟩
  have hd : H dx = none := by rw [← n, upd_ne ne]
  refine h a _ ha (fun b o e => ?_) ⟨dx, ?_, upd_same⟩
  · rw [upd_ne (ne_of_none e hd), upd_ne (ne_of_none e ha), upd_ne (ne_of_none e ha), upd_ne (ne_of_none e hd), upd_ne (ne_of_none e ha)]
    exact e
  · rw [upd_ne ne.symm, upd_same]
theorem xnew2 {C : Addr} {f g : Str} {v u : V} {H : Hp} {Q : VK} (h : ∀ a H', H a = none → Same H H' → ExAt H' a C [(g, u), (f, v)] → Q (.ref a) H') : XNew C (spIni2 C f g) [v, u] H Q := fun a ha => by
  refine ⟨a, v, u, rfl, upd_same, fun dx n ne => ⟨rfl, dx, [(g, u), (f, v)], (by rw [upd_ne ne.symm, upd_same]), upd_same, ?_⟩⟩
  have hd : H dx = none := by rw [← n, upd_ne ne]
  refine h a _ ha (fun b o e => ?_) ⟨dx, ?_, upd_same⟩
  · rw [upd_ne (ne_of_none e hd), upd_ne (ne_of_none e ha), upd_ne (ne_of_none e hd), upd_ne (ne_of_none e ha), upd_ne (ne_of_none e hd), upd_ne (ne_of_none e ha)]
    exact e
  · rw [upd_ne ne.symm, upd_same]
/-- one class: its name, its field -/
structure XK1 (P : Program) (w : World) (K : PySem.W.Frag) (mg : Str → Option Value) (base : Heap) (x f : Str) (C : Addr) : Prop where
  T : Xc K C
  hm : mg x = some (.ref C)
  no : PySem.W.findIn K (.ref C) f = some none
  ex : ∃ (fI : Addr) (fd : FuncData), PySem.W.findIn K (.ref C) "__init__" = some (some (.ref fI)) ∧ PySem.W.typeIn K (.ref fI) = some (.type "function") ∧ FnOk P w K mg base CX0 1 fI fd ["self", f] (spIni C f) ∧ Binds K fd ["self", f] [] ∧
    ∀ (s : Shared) (a : Addr) (ws : List Value), K.In s.heap → ws.length = 1 → BindsTo s fd ⟨[Value.ref a], [f].zip ws⟩ ((["self", f] : List Str).zip (Value.ref a :: ws))
/-- a class with two fields -/
structure XK2 (P : Program) (w : World) (K : PySem.W.Frag) (mg : Str → Option Value) (base : Heap) (x f g : Str) (C : Addr) : Prop where
  T : Xc K C
  hm : mg x = some (.ref C)
  no : PySem.W.findIn K (.ref C) f = some none
  no2 : PySem.W.findIn K (.ref C) g = some none
  ex : ∃ (fI : Addr) (fd : FuncData), PySem.W.findIn K (.ref C) "__init__" = some (some (.ref fI)) ∧ PySem.W.typeIn K (.ref fI) = some (.type "function") ∧ FnOk P w K mg base CX0 1 fI fd ["self", f, g] (spIni2 C f g) ∧ Binds K fd ["self", f, g] [] ∧
    ∀ (s : Shared) (a : Addr) (ws : List Value), K.In s.heap → ws.length = 2 → BindsTo s fd ⟨[Value.ref a], [g, f].zip ws⟩ ((["self", f, g] : List Str).zip (Value.ref a :: ws.reverse))
/-- a new error of the class at C with the fields fs of the i-th slot's value -/
def tX1 (C : Addr) (fs : V → List (Str × V)) (i : Nat) : TE := fun σ H Q => ∃ v, σ[i]? = some (some v) ∧ ∀ a H', H a = none → Same H H' → ExAt H' a C (fs v) → Q (.ref a) H'
section
variable {X : Cx} {x f g : Str} {C : Addr} {p pos kp kp2 : Pos} {e e2 : Expr} {i : Nat} {z : Str} {ci : Int} {j1 j2 : Nat} {q1 q2 : Pos}
/-- C(name) -/
theorem pe_x1 (B : XK1 X.prog X.w X.K X.mg X.base x f C) (hr : Room 2 X.A) (hg : Gl X x) (he : PE X e (tVar i)) (hdb : (x == ("__debug__" : Str)) = false := by decide) (hs : starEach [e] X.env = (false, eval e X.env) :: starEach [] X.env := by rfl) :
    PE X (.Call (.Name x p) [e] [] pos) (tX1 C (fun v => [(f, v)]) i) := by
  obtain ⟨fI, fd, i1, i2, F, b, _⟩ := B.ex
  refine PE.imp (pe_xnew B.T i1 i2 F hr b pass0 hg B.hm (pa_cons he pa_nil hs) hdb hs rfl) fun σ H Q h => ?_
  obtain ⟨v, hv, k⟩ := h
  exact ⟨v, hv, (by show 1 ≤ 1000; decide), xnew1 k⟩
/-- C(name, 'text') -/
theorem pe_x2 (B : XK2 X.prog X.w X.K X.mg X.base x f g C) (hr : Room 2 X.A) (hg : Gl X x) (he : PE X e (tVar i)) (hdb : (x == ("__debug__" : Str)) = false := by decide)
    (hs : starEach [e, .Constant (.str z) j1 q1] X.env = (false, eval e X.env) :: starEach [.Constant (.str z) j1 q1] X.env := by rfl) :
    PE X (.Call (.Name x p) [e, .Constant (.str z) j1 q1] [] pos) (tX1 C (fun v => [(g, .str z), (f, v)]) i) := by
  obtain ⟨fI, fd, i1, i2, F, b, _⟩ := B.ex
  refine PE.imp (pe_xnew B.T i1 i2 F hr b pass0 hg B.hm (pa_cons he (pa_cons pe_str pa_nil) hs) hdb hs (by rfl)) fun σ H Q h => ?_
  obtain ⟨v, hv, k⟩ := h
  exact ⟨v, hv, (by show 2 ≤ 1000; decide), xnew2 k⟩
/-- C(f = name) -/
theorem pe_x1K (B : XK1 X.prog X.w X.K X.mg X.base x f C) (hr : Room 2 X.A) (hg : Gl X x) (he : PE X e (tVar i)) (hdb : (x == ("__debug__" : Str)) = false := by decide) :
    PE X (.Call (.Name x p) [] [⟨some f, e, kp⟩] pos) (tX1 C (fun v => [(f, v)]) i) := by
  obtain ⟨fI, fd, i1, i2, F, _, kb⟩ := B.ex
  refine PE.imp (pe_xnewK (ks := [f]) (g := fun ws => ws) (gV := fun zs => zs) B.T i1 i2 F hr (fun s a ws kin hl => kb s a ws kin hl) (fun r => r) pass0 hg B.hm (pk_cons he pk_nil) (by rfl) (by rfl) hdb (by rfl)) fun σ H Q h => ?_
  obtain ⟨v, hv, k⟩ := h
  exact ⟨v, hv, rfl, xnew1 k⟩
theorem vals_rev : ∀ {zs : List V} {ws : List Value}, Vals zs ws → Vals zs.reverse ws.reverse
  | _, _, .nil => .nil
  | _, _, .cons (a := a) (b := b) r t => by
    rw [List.reverse_cons, List.reverse_cons]
    exact (vals_rev t).append (.cons r .nil)
/-- C(g = 'text', f = name) -/
theorem pe_x2K (B : XK2 X.prog X.w X.K X.mg X.base x f g C) (hr : Room 2 X.A) (hg : Gl X x) (he : PE X e (tVar i)) (hdb : (x == ("__debug__" : Str)) = false := by decide) :
    PE X (.Call (.Name x p) [] [⟨some g, .Constant (.str z) j1 q1, kp⟩, ⟨some f, e, kp2⟩] pos) (tX1 C (fun v => [(g, .str z), (f, v)]) i) := by
  obtain ⟨fI, fd, i1, i2, F, _, kb⟩ := B.ex
  refine PE.imp (pe_xnewK (ks := [g, f]) (g := fun ws => ws.reverse) (gV := fun zs => zs.reverse) B.T i1 i2 F hr (fun s a ws kin hl => kb s a ws kin hl) (fun r => vals_rev r) pass0 hg B.hm (pk_cons pe_str (pk_cons he pk_nil)) (by rfl) (by rfl) hdb (by rfl)) fun σ H Q h => ?_
  obtain ⟨v, hv, k⟩ := h
  exact ⟨v, hv, rfl, xnew2 k⟩
/-- C(g = 'text', f = 0) -/
theorem pe_x2KC (B : XK2 X.prog X.w X.K X.mg X.base x f g C) (hr : Room 2 X.A) (hg : Gl X x) (hdb : (x == ("__debug__" : Str)) = false := by decide) :
    PE X (.Call (.Name x p) [] [⟨some g, .Constant (.str z) j1 q1, kp⟩, ⟨some f, .Constant (.int ci) j2 q2, kp2⟩] pos) (fun _ H Q => ∀ a H', H a = none → Same H H' → ExAt H' a C [(g, .str z), (f, .int ci)] → Q (.ref a) H') := by
  obtain ⟨fI, fd, i1, i2, F, _, kb⟩ := B.ex
  refine PE.imp (pe_xnewK (ks := [g, f]) (g := fun ws => ws.reverse) (gV := fun zs => zs.reverse) B.T i1 i2 F hr (fun s a ws kin hl => kb s a ws kin hl) (fun r => vals_rev r) pass0 hg B.hm (pk_cons pe_str (pk_cons pe_int pk_nil)) (by rfl) (by rfl) hdb (by rfl)) fun σ H Q h => ?_
  exact ⟨rfl, xnew2 h⟩
end
/-! ### lists of new errors -/
abbrev XSpec := Addr × (V → List (Str × V))
def Exs (H : Hp) (v : V) : List XSpec → List Addr → Prop
  | [], [] => True
  | c :: cs, a :: as => ExAt H a c.1 (c.2 v) ∧ Exs H v cs as
  | _, _ => False
theorem Exs.mono {H H' : Hp} {v : V} (s : Same H H') : ∀ {cs : List XSpec} {as : List Addr}, Exs H v cs as → Exs H' v cs as
  | [], [], _ => True.intro
  | _ :: _, _ :: _, h => ⟨h.1.mono s, Exs.mono s h.2⟩
  | [], _ :: _, h => h.elim
  | _ :: _, [], h => h.elim
theorem Exs.app {H : Hp} {v : V} : ∀ {cs ds : List XSpec} {as bs : List Addr}, Exs H v cs as → Exs H v ds bs → Exs H v (cs ++ ds) (as ++ bs)
  | [], _, [], _, _, h => h
  | _ :: _, _, _ :: _, _, h, k => ⟨h.1, Exs.app h.2 k⟩
  | [], _, _ :: _, _, h, _ => h.elim
  | _ :: _, _, [], _, h, _ => h.elim
theorem Exs.len {H : Hp} {v : V} : ∀ {cs : List XSpec} {as : List Addr}, Exs H v cs as → as.length = cs.length
  | [], [], _ => rfl
  | _ :: _, _ :: _, h => congrArg Nat.succ (Exs.len h.2)
  | [], _ :: _, h => h.elim
  | _ :: _, [], h => h.elim
theorem Exs.get {H : Hp} {v : V} : ∀ {cs : List XSpec} {as : List Addr} {j : Nat} {c : XSpec}, Exs H v cs as → cs[j]? = some c → ∃ a, as[j]? = some a ∧ ExAt H a c.1 (c.2 v)
  | [], [], _, _, _, e => by simp at e
  | c' :: _, a :: _, 0, c, h, e => by
    have ec : c' = c := by simpa using e
    exact ⟨a, rfl, by rw [← ec]; exact h.1⟩
  | _ :: _, _ :: _, j + 1, c, h, e => by
    obtain ⟨a, h1, h2⟩ := Exs.get (j := j) h.2 (by simpa using e)
    exact ⟨a, by simpa using h1, h2⟩
  | [], _ :: _, _, _, h, _ => h.elim
  | _ :: _, [], _, _, h, _ => h.elim
def tXs (cs : List XSpec) (i : Nat) : TA := fun σ H Q => ∃ v, σ[i]? = some (some v) ∧ ∀ (as : List Addr) H', Same H H' → Exs H' v cs as → Q (as.map V.ref) H'
section
variable {X : Cx} {e : Expr} {es : List Expr} {i : Nat} {C : Addr} {fs : V → List (Str × V)} {cs : List XSpec}
theorem pa_xn : PA X [] (tXs [] i) := PA.imp pa_nil fun σ H Q h => by
  obtain ⟨v, _, k⟩ := h
  exact k [] H Same.refl' True.intro
theorem pa_xc (he : PE X e (tX1 C fs i)) (hr : PA X es (tXs cs i)) (hs : starEach (e :: es) X.env = (false, eval e X.env) :: starEach es X.env := by rfl) : PA X (e :: es) (tXs ((C, fs) :: cs) i) := PA.imp (pa_cons he hr hs) fun σ H Q h => by
  obtain ⟨v, hv, k⟩ := h
  exact ⟨v, hv, fun a H1 _ s1 x1 => ⟨v, hv, fun as H2 s2 x2 => k (a :: as) H2 (s1.tr s2) ⟨x1.mono s2, x2⟩⟩⟩
end
/-! ### lists of isinstance(e, C), e in the slot i, of the class at D -/
def tIss (D : Addr) (bs : List Bool) (i : Nat) : TA := fun σ H Q => ∃ (a : Addr) (fs : List (Str × V)), σ[i]? = some (some (.ref a)) ∧ ExAt H a D fs ∧ Q (bs.map V.bl) H
section
variable {X : Cx} {e : Expr} {es : List Expr} {i : Nat} {D : Addr} {x n : Str} {p1 p2 p3 pos : Pos} {b : Bool} {bs : List Bool}
theorem pe_is1 {C : Addr} (T : Xc X.K D) (hi : Gl X "isinstance") (mi : X.mg "isinstance" = none) (he : PE X e (tVar i)) (hg : Gl X x) (hm : X.mg x = some (.ref C)) (kit : PySem.W.kitOne X.K (.ref D) (.ref C) = some b)
    (hs : starEach [e, .Name x p2] X.env = (false, eval e X.env) :: starEach [.Name x p2] X.env := by rfl) (hpl : (backTo pos (starEach [.Name x p2] X.env)).any (·.1) = false := by rfl) (hd : (x == ("__debug__" : Str)) = false := by decide) :
    PE X (.Call (.Name "isinstance" p1) [e, .Name x p2] [] pos) (fun σ H Q => ∃ (a : Addr) (fs : List (Str × V)), σ[i]? = some (some (.ref a)) ∧ ExAt H a D fs ∧ Q (.bl b) H) :=
  PE.imp (pe_callB call_isX hi mi (by decide +kernel) (pa_cons he (pa_cons (pe_glob (v := .ref C) hg hm rfl hd) pa_nil) hs) (by decide) (by decide) hs hpl) fun σ H Q h => by
    obtain ⟨a, fs, h1, h2, k⟩ := h
    exact ⟨_, h1, a, D, fs, .ref C, .ref C, b, rfl, h2, T, fun u r => r, kit, k⟩
/-- a built-in class -/
theorem pe_is1T {t : String} (T : Xc X.K D) (hi : Gl X "isinstance") (mi : X.mg "isinstance" = none) (he : PE X e (tVar i)) (hg : Gl X x) (hm : X.mg x = none) (hv : bootBuiltins x = some (.type t)) (kit : PySem.W.kitOne X.K (.ref D) (.type t) = some b) (hn : x ≠ "__name__" := by decide)
    (hs : starEach [e, .Name x p2] X.env = (false, eval e X.env) :: starEach [.Name x p2] X.env := by rfl) (hpl : (backTo pos (starEach [.Name x p2] X.env)).any (·.1) = false := by rfl) (hd : (x == ("__debug__" : Str)) = false := by decide) :
    PE X (.Call (.Name "isinstance" p1) [e, .Name x p2] [] pos) (fun σ H Q => ∃ (a : Addr) (fs : List (Str × V)), σ[i]? = some (some (.ref a)) ∧ ExAt H a D fs ∧ Q (.bl b) H) :=
  PE.imp (pe_callB call_isX hi mi (by decide +kernel) (pa_cons he (pa_cons (pe_bltn (v := .ty t) hg hm hv rfl hn hd) pa_nil) hs) (by decide) (by decide) hs hpl) fun σ H Q h => by
    obtain ⟨a, fs, h1, h2, k⟩ := h
    exact ⟨_, h1, a, D, fs, .ty t, .type t, b, rfl, h2, T, fun u r => r, kit, k⟩
theorem pa_isn : PA X [] (tIss D [] i) := PA.imp pa_nil fun σ H Q h => by
  obtain ⟨a, fs, _, _, k⟩ := h
  exact k
theorem pa_isc (he : PE X e (fun σ H Q => ∃ (a : Addr) (fs : List (Str × V)), σ[i]? = some (some (.ref a)) ∧ ExAt H a D fs ∧ Q (.bl b) H)) (hr : PA X es (tIss D bs i)) (hs : starEach (e :: es) X.env = (false, eval e X.env) :: starEach es X.env := by rfl) :
    PA X (e :: es) (tIss D (b :: bs) i) := PA.imp (pa_cons he hr hs) fun σ H Q h => by
  obtain ⟨a, fs, h1, h2, k⟩ := h
  exact ⟨a, fs, h1, h2, a, fs, h1, h2, k⟩
end
end L2

set_option Elab.async false
set_option linter.all false
set_option maxRecDepth 100000
set_option maxHeartbeats 4000000
/-! VxY: generators of the program whose consumer owns some objects (a list, a comprehension's names) that change while the generator sleeps. What a run hands out is told beforehand (xs); j of it are out. -/
namespace L2
open PySem PySem.Spec PyProof.Rows GenW
/-- while the generator sleeps: the consumer's own objects may change, all else stays -/
structure Zzz (Z : List Addr) (s s' : Shared) : Prop where
  os : s'.os = s.os
  bare : AllBare s'.gens
  keep : ∀ b o, b ∉ Z → s.heap.get? b = some o → s'.heap.get? b = some o
  own : ∀ z ∈ Z, ∃ o, s'.heap.get? z = some o ∧ ∀ v, o.data ≠ .cell v
/-- the consumer's objects lie apart of the generator's frame -/
def Aside (X : Cx) (Z : List Addr) : Prop := ∀ z ∈ Z, X.s_0.heap.objs.size ≤ z ∧ z ≠ X.env.locals ∧ (∀ x c, X.env.cells.lookup x = some c → c ≠ z) ∧ ∀ p ∈ X.pn, p.1 ≠ z
/-- running: the consumer's objects stand as they stood when it was woken (s₀) -/
def YRun (X : Cx) (Z : List Addr) (ip : List (Addr × Obj)) (σ : L2.St) (H : Hp) (s₀ s : Shared) : Prop :=
  ∃ zp : List (Addr × Obj), zp.map (·.1) = Z ∧ (∀ p ∈ zp, s₀.heap.get? p.1 = some p.2) ∧ Inv X (zp ++ ip) σ H s
theorem snap {h : Heap} : ∀ {Z : List Addr}, (∀ z ∈ Z, ∃ o, h.get? z = some o ∧ ∀ v, o.data ≠ .cell v) → ∃ zp : List (Addr × Obj), zp.map (·.1) = Z ∧ ∀ p ∈ zp, h.get? p.1 = some p.2 ∧ ∀ v, p.2.data ≠ .cell v
  | [], _ => ⟨[], rfl, fun _ m => (List.not_mem_nil m).elim⟩
  | z :: Z, h1 => by
    obtain ⟨o, e1, e2⟩ := h1 z List.mem_cons_self
    obtain ⟨zp, f1, f2⟩ := snap (Z := Z) fun y hy => h1 y (List.mem_cons_of_mem _ hy)
    refine ⟨(z, o) :: zp, by rw [List.map_cons, f1], fun p m => ?_⟩
    rcases List.mem_cons.mp m with m | m
    · rw [m]
      exact ⟨e1, e2⟩
    · exact f2 p m
section
variable {X : Cx} {Z : List Addr} {ip : List (Addr × Obj)} {σ : L2.St} {H : Hp} {s₀ s s' : Shared}
theorem YRun.at {z : Addr} (r : YRun X Z ip σ H s₀ s) (hz : z ∈ Z) : H z = none ∧ z ∉ X.fs ∧ ∃ o, s₀.heap.get? z = some o ∧ s.heap.get? z = some o := by
  obtain ⟨zp, rfl, e2, I⟩ := r
  obtain ⟨p, hp, rfl⟩ := List.mem_map.mp hz
  obtain ⟨i1, i2, i3, i4, i5⟩ := I.pin p (List.mem_append_right _ (List.mem_append_left _ hp))
  exact ⟨i2, i4, p.2, e2 p hp, i1⟩
theorem YRun.inv (r : YRun X Z ip σ H s₀ s) : Inv X ip σ H s := by
  obtain ⟨zp, _, _, I⟩ := r
  exact I.pins_of fun p hp => I.pin p (List.mem_append_right _ (List.mem_append_right _ hp))
/-- woken again -/
theorem YRun.woken (hA : Aside X Z) (hip : ∀ p ∈ ip, p.1 ∉ Z) (r : YRun X Z ip σ H s₀ s) (w : Zzz Z s s') : YRun X Z ip σ H s' s' := by
  have at_ := fun z (hz : z ∈ Z) => r.at hz
  have I := r.inv
  obtain ⟨zp', f1, f2⟩ := snap w.own
  obtain ⟨w1, w2, w3, w4⟩ := w
  have nz : ∀ b u, H b = some u → b ∉ Z := fun b u q hb => by
    rw [(at_ b hb).1] at q
    cases q
  obtain ⟨hh, g, d, t, o⟩ := s'
  have ho : o = s.os := w1
  subst ho
  have J : Inv X ip σ H { s with heap := hh, gens := g, drawn := d, toks := t } := by
    refine I.step (ch := Z) (fun b hb => ?_) (fun b ob _ _ hc q _ => w3 b ob hc q) (fun b ob _ _ hc q _ => ⟨ob.slots, w3 b ob hc q⟩) (fun _ _ _ _ n => n) (fun b ob hc q => ⟨ob, w3 b ob hc q⟩)
      (fun _ _ q => q) (fun _ _ _ q => q) (fun b ps q => ⟨#[], by rw [q]; simp⟩) (fun m hm => ?_) (fun b u q => ?_) w2
    · obtain ⟨a1, a2, a3, a4⟩ := hA b hb
      refine ⟨.inr a1, a2, a3, fun p hp => ?_⟩
      rcases List.mem_append.mp hp with hp | hp
      · exact a4 p hp
      · exact fun e => hip p hp (by rw [e]; exact hb)
    · obtain ⟨ob, es, ep, ho, rr⟩ := hm
      exact ⟨ob, es, ep, w3 _ ob (fun z => (hA _ z).2.1 rfl) ho, rr⟩
    · refine (I.hok b u q).stay (fun c v hc y => w3 c v ?_ y) (fun _ y => y) fun _ _ y => y
      rcases hc with y | y
      · rw [y]
        exact nz b u q
      · exact nz c _ y
  refine ⟨zp', f1, fun p hp => (f2 p hp).1, J.pins_of fun p hp => ?_⟩
  rcases List.mem_append.mp hp with hp | hp
  · have hz : p.1 ∈ Z := by
      rw [← f1]
      exact List.mem_map.mpr ⟨p, hp, rfl⟩
    exact ⟨(f2 p hp).1, (at_ _ hz).1, (hA _ hz).2.1, (at_ _ hz).2.1, (f2 p hp).2⟩
  · exact J.pin p (List.mem_append_right _ hp)
end
/-! ### the protocol -/
def YP (X : Cx) (Z : List Addr) (xs : List V) : Protocol := fun n s₀ v s kap =>
  ∃ j x ip σ H, n + 1 + j = xs.length ∧ xs[j]? = some x ∧ RelV x v ∧ YRun X Z ip σ H s₀ s ∧ ∀ s', Zzz Z s s' → kap (.send .none) s'
def YR (X : Cx) (Z : List Addr) (xs : List V) (Q : VK) (F : Value → Shared → Prop) : GenEnd := fun n s₀ r s => match r with
  | .ok (.ret u) => ∃ v ip σ H, n = 0 ∧ YRun X Z ip σ H s₀ s ∧ RelV v u ∧ Q v H
  | .ok _ => False
  | .error e => F e s
structure YEnds where
  nx : Nat → L2.St → Hp → Prop
  rt : Nat → VK
  bk : Nat → L2.St → Hp → Prop := fun _ _ _ => False
  ct : Nat → L2.St → Hp → Prop := fun _ _ _ => False
abbrev TY := YEnds → Nat → L2.St → Hp → Prop
def YSP (X : Cx) (Z : List Addr) (ip : List (Addr × Obj)) (D : YEnds) (j : Nat) (s₀ : Shared) (f : Flow) (s : Shared) : Prop :=
  match f with
  | .next => ∃ σ H, YRun X Z ip σ H s₀ s ∧ D.nx j σ H
  | .brk => ∃ σ H, YRun X Z ip σ H s₀ s ∧ D.bk j σ H
  | .cont => ∃ σ H, YRun X Z ip σ H s₀ s ∧ D.ct j σ H
  | .ret u => ∃ v σ H, YRun X Z ip σ H s₀ s ∧ RelV v u ∧ D.rt j v H
/-- where the generator's code stands -/
structure YC (X : Cx) (Z : List Addr) (ip : List (Addr × Obj)) (A : Around) (c : Code) (fs : List Frame) (gd : Bool → Bool) : Prop where
  ip : ∀ p ∈ ip, p.1 ∉ Z
  aside : Aside X Z
  over : A.over c fs = X.A
  split : splitAtGen fs = none
  guard : fs.any Frame.guarded = false
  gd : gd false = false
structure YK (X : Cx) (Z : List Addr) (xs : List V) (ip : List (Addr × Obj)) (A : Around) (R : GenEnd) (c : Code) (fs : List Frame) (K : Flow → Sem PySem.Fin) (J : Value → Sem PySem.Fin) (D : YEnds) : Prop where
  ok : ∀ (n j : Nat) (s₀ s : Shared) (f : Flow), n + j = xs.length → YSP X Z ip D j s₀ f s → Seg (model X.prog X.w) A R (YP X Z xs) n s₀ c (K f) fs s
  exc : ∀ (n : Nat) (s₀ : Shared) (e : Value) (s : Shared), X.xe e s → Seg (model X.prog X.w) A R (YP X Z xs) n s₀ c (J e) fs s
structure YS (X : Cx) (xs : List V) (st : Stmt) (t : TY) : Prop where
  run : ∀ (A : Around) (Z : List Addr) (ip : List (Addr × Obj)) (R : GenEnd) (n j : Nat) (s₀ : Shared) (c : Code) (fs : List Frame) (K : Flow → Sem PySem.Fin) (J : Value → Sem PySem.Fin) (gd : Bool → Bool) (lv : List Value → List Value) (s : Shared) (σ : L2.St) (H : Hp) (D : YEnds),
    YC X Z ip A c fs gd → n + j = xs.length → YK X Z xs ip A R c fs K J D → YRun X Z ip σ H s₀ s → t D j σ H → Seg (model X.prog X.w) A R (YP X Z xs) n s₀ c ((exec st X.env).wrap K J gd lv) fs s
structure YSs (X : Cx) (xs : List V) (st : List Stmt) (t : TY) : Prop where
  run : ∀ (A : Around) (Z : List Addr) (ip : List (Addr × Obj)) (R : GenEnd) (n j : Nat) (s₀ : Shared) (c : Code) (fs : List Frame) (K : Flow → Sem PySem.Fin) (J : Value → Sem PySem.Fin) (gd : Bool → Bool) (lv : List Value → List Value) (s : Shared) (σ : L2.St) (H : Hp) (D : YEnds),
    YC X Z ip A c fs gd → n + j = xs.length → YK X Z xs ip A R c fs K J D → YRun X Z ip σ H s₀ s → t D j σ H → Seg (model X.prog X.w) A R (YP X Z xs) n s₀ c ((execs st X.env).wrap K J gd lv) fs s
section
variable {X : Cx} {xs : List V} {st : Stmt} {rest : List Stmt}
def YEnds.at (D : YEnds) (j : Nat) : Ends := { nx := D.nx j, rt := D.rt j, bk := D.bk j, ct := D.ct j }
theorem ysp_of {Z : List Addr} {ip zp : List (Addr × Obj)} {D : YEnds} {j : Nat} {s₀ s : Shared} {f : Flow} (e1 : zp.map (·.1) = Z) (e2 : ∀ p ∈ zp, s₀.heap.get? p.1 = some p.2) (h : SP X (zp ++ ip) (D.at j) f s) : YSP X Z ip D j s₀ f s := by
  match f, h with
  | .next, ⟨σ, H, I, q⟩ => exact ⟨σ, H, ⟨zp, e1, e2, I⟩, q⟩
  | .brk, ⟨σ, H, I, q⟩ => exact ⟨σ, H, ⟨zp, e1, e2, I⟩, q⟩
  | .cont, ⟨σ, H, I, q⟩ => exact ⟨σ, H, ⟨zp, e1, e2, I⟩, q⟩
  | .ret u, ⟨v, σ, H, I, r, q⟩ => exact ⟨v, σ, H, ⟨zp, e1, e2, I⟩, r, q⟩
/-- a statement that hands out nothing -/
theorem ys_ps {t : TS} (h : PS X st t) : YS X xs st (fun D j σ H => t (D.at j) σ H) := by
  refine ⟨fun A Z ip R n j s₀ c fs K J gd lv s σ H D g hn k r ht => ?_⟩
  obtain ⟨zp, e1, e2, I⟩ := r
  refine seg_wrap ?_
  rw [g.over]
  exact wpAny_mono (h.run _ s σ H (D.at j) I ht) (fun f s' q => k.ok n j s₀ s' f hn (ysp_of e1 e2 q)) fun x s' q => k.exc n s₀ x s' q
theorem yss_nil : YSs X xs [] (fun D j σ H => D.nx j σ H) :=
  ⟨fun A Z ip R n j s₀ c fs K J gd lv s σ H D g hn k r ht => seg_execs_nil (k.ok n j s₀ s .next hn ⟨σ, H, r, ht⟩)⟩
theorem yss_cons {t u : TY} (a : YS X xs st t) (b : YSs X xs rest u) : YSs X xs (st :: rest) (fun D j σ H => t { D with nx := fun j' σ' H' => u D j' σ' H' } j σ H) := by
  refine ⟨fun A Z ip R n j s₀ c fs K J gd lv s σ H D g hn k r ht => seg_execs_cons (a.run A Z ip R n j s₀ c fs _ J gd lv s σ H { D with nx := fun j' σ' H' => u D j' σ' H' } g hn ⟨fun n' j' s₁ s' f hn' hs => ?_, k.exc⟩ r ht)⟩
  match f, hs with
  | .next, ⟨σ', H', r', q⟩ => exact b.run A Z ip R n' j' s₁ c fs K J gd lv s' σ' H' D g hn' k r' q
  | .brk, hs => exact k.ok n' j' s₁ s' .brk hn' hs
  | .cont, hs => exact k.ok n' j' s₁ s' .cont hn' hs
  | .ret u, hs => exact k.ok n' j' s₁ s' (.ret u) hn' hs
/-- yield e -/
theorem ys_yield {e : Expr} {yp pos : Pos} {te : TE} (he : PE X e te) (hco : X.env.scope.isCoroutine = false := by rfl) (hi : interactive X.env = false := by rfl) :
    YS X xs (.Expr (.Yield (some e) yp) pos) (fun D j σ H => j < xs.length ∧ te σ H fun x H1 => xs[j]? = some x ∧ D.nx (j + 1) σ H1) := by
  refine ⟨fun A Z ip R n j s₀ c fs K J gd lv s σ H D g hn k r ht => ?_⟩
  obtain ⟨hlt, ht⟩ := ht
  obtain ⟨zp, e1, e2, I⟩ := r
  obtain ⟨m, rfl⟩ : ∃ m, n = m + 1 := ⟨n - 1, by omega⟩
  refine seg_Expr_Yield g.split g.gd g.guard ?_ hco hi
  rw [g.over]
  refine wpAny_mono (he.run _ s σ H _ I ht) (fun v s' hv => ?_) fun x s' q => k.exc _ s₀ x s' q
  obtain ⟨x, H1, I1, rv, hx, q⟩ := hv
  intro kap hk
  have r1 : YRun X Z ip σ H1 s₀ s' := ⟨zp, e1, e2, I1⟩
  exact ⟨j, x, ip, σ, H1, hn, hx, rv, r1, fun s2 z => hk .none s2 (k.ok m (j + 1) s2 s2 .next (by omega) ⟨σ, H1, r1.woken g.aside g.ip z, q⟩)⟩
/-! ### yield from -/
theorem seg_from {Z : List Addr} {ip : List (Addr × Obj)} {A : Around} {R : GenEnd} {fs : List Frame} {it : Addr} {ys : List V} {St : Nat → Heap → Prop} {σ : L2.St} {H : Hp} {j0 : Nat} (hip : ∀ p ∈ ip, p.1 ∉ Z) (hpi : ∀ p ∈ X.pn ++ ip, p.1 ≠ it) (hA : Aside X Z)
    (hex : it ∈ X.ex ∨ X.s_0.heap.objs.size ≤ it) (hL : it ≠ X.env.locals) (hcell : ∀ x c, X.env.cells.lookup x = some c → c ≠ it) (hZ : it ∉ Z) (hH : H it = none) (q : QIt X H it ys St)
    (ho : (A.over (.builtin "proto.yield_from" ⟨[.ref it, .bool false, .none], []⟩) fs).handled = none) (hsp : splitAtGen fs = none) (hgd : fs.any Frame.guarded = false) (hxs : ∀ i y, ys[i]? = some y → xs[j0 + i]? = some y)
    (hend : ∀ (n : Nat) (s₀ s : Shared), n + (j0 + ys.length) = xs.length → YRun X Z ip σ H s₀ s → Seg (model X.prog X.w) A R (YP X Z xs) n s₀ (.builtin "proto.yield_from" ⟨[.ref it, .bool false, .none], []⟩) (.pure (.done (.ret .none))) fs s) :
    ∀ (r i n : Nat) (s₀ s : Shared), i + r = ys.length → n + (j0 + i) = xs.length → YRun X Z ip σ H s₀ s → St i s.heap →
      Seg (model X.prog X.w) A R (YP X Z xs) n s₀ (.builtin "proto.yield_from" ⟨[.ref it, .bool false, .none], []⟩) ((model X.prog X.w).den (.builtin "proto.yield_from" ⟨[.ref it, .bool false, .none], []⟩)) fs s := by
  obtain ⟨T, tyT, noClose, noGen⟩ := q.ty
  -- the iterator has turned
  have turned : ∀ {s₀ s : Shared} {h' : Heap} {tk : Nat}, YRun X Z ip σ H s₀ s → (∀ b o, b ≠ it → s.heap.get? b = some o → h'.get? b = some o) → YRun X Z ip σ H s₀ { s with heap := h', toks := tk } := by
    intro s₀ s h' tk r hk
    obtain ⟨zp, e1, e2, I⟩ := r
    refine ⟨zp, e1, e2, I.turned (it := it) hk hH hL hex hcell fun p hp => ?_⟩
    rcases List.mem_append.mp hp with hp | hp
    · exact hpi p (List.mem_append_left _ hp)
    · rcases List.mem_append.mp hp with hp | hp
      · intro e
        refine hZ ?_
        rw [← e, ← e1]
        exact List.mem_map.mpr ⟨p, hp, rfl⟩
      · exact hpi p (List.mem_append_right _ hp)
  intro r
  induction r with
  | zero =>
    intro i n s₀ s hi hn rr hst
    obtain rfl : i = ys.length := by omega
    rw [den_yf]
    unfold Builtin.«proto.yield_from»
    try dsimp only
    refine seg_bind (wpAny_pure ?_)
    try dsimp only
    refine seg_bind (wpAny_attempt (wpAny_holding ?_))
    rw [if_neg Bool.false_ne_true, if_pos (show (Value.none == Value.none) = true from rfl)]
    refine wpAny_bind (wpAny_rule (wpAny_bind (q.done _ s _ _ ho hst fun e h' tk stop hk => ?_)))
    obtain ⟨a, o, vs, rfl, oa, oc, od, o5⟩ := stop
    try dsimp only
    refine seg_bind (wpAny_endsTurn oa oc ?_)
    try dsimp only
    rw [if_pos rfl]
    first
      | refine seg_bind (wpAny_rule ?_)
      | (rw [if_neg Bool.false_ne_true]; refine seg_bind (wpAny_rule ?_))
      | (rw [if_neg Bool.false_ne_true]; refine seg_bind (wpAny_pure ?_); refine seg_bind (wpAny_rule ?_))
    exact seg_bind (wpAny_field oa od o5 (hend n s₀ _ hn (turned rr hk)))
  | succ r ih =>
    intro i n s₀ s hi hn rr hst
    obtain ⟨x, hx⟩ : ∃ x, ys[i]? = some x := ⟨_, List.getElem?_eq_getElem (by omega)⟩
    have hx2 := hxs i x hx
    have hlt := (List.getElem?_eq_some_iff.mp hx2).1
    obtain ⟨m, rfl⟩ : ∃ m, n = m + 1 := ⟨n - 1, by omega⟩
    rw [den_yf]
    unfold Builtin.«proto.yield_from»
    try dsimp only
    refine seg_bind (wpAny_pure ?_)
    try dsimp only
    refine seg_bind (wpAny_attempt (wpAny_holding ?_))
    rw [if_neg Bool.false_ne_true, if_pos (show (Value.none == Value.none) = true from rfl)]
    refine wpAny_bind (wpAny_rule (wpAny_bind (q.item _ i x s _ _ ho hx hst fun v h' tk rv hst' hk => wpAny_pure ?_)))
    have r1 := turned (tk := tk) rr hk
    obtain ⟨oi, hoi, hoc⟩ := tyT (i + 1) h' hst'
    try dsimp only
    refine seg_bind (wpAny_typeOf (T := T) ⟨oi, hoi, hoc⟩ ?_)
    try dsimp only
    first
      | (refine seg_bind (wpAny_of_eq noClose ?_); refine seg_bind (wpAny_pure ?_))
      | refine seg_bind (wpAny_bind (wpAny_of_eq noClose (wpAny_pure ?_)))
      | refine seg_bind (wpAny_of_eq noClose ?_)
    try dsimp only
    refine seg_bind (wpAny_sleptOver hoi hoc noGen (seg_yield hsp rfl hgd ⟨j0 + i, x, ip, σ, H, by omega, hx2, rv, r1, fun s2 z => ?_⟩))
    have r2 := r1.woken hA hip z
    have st2 : St (i + 1) s2.heap := q.frame (i + 1) h' s2.heap hst' fun b o hb e => z.keep b o (fun hm => by
      rcases hb with y | y
      · rw [y] at hm
        exact hZ hm
      · exact y (r1.at hm).1) e
    obtain ⟨oj, hoj, hojc⟩ := tyT (i + 1) s2.heap st2
    show Seg _ _ _ _ m s2 _ (Builtin.Generator.sleptOver (.ref it) false >>= fun _ => _) fs s2
    refine seg_bind (wpAny_sleptOver hoj hojc noGen ?_)
    try dsimp only
    exact seg_bind (wpAny_pure (seg_again (plainId_quiet plain_yf _) (ih (i + 1) m s2 s2 (by omega) (by omega) r2 st2)))
theorem ys_from {e : Expr} {yp pos : Pos} {t : TYf} (he : YfE X e t) (hc : X.A.handled = none) (hi : interactive X.env = false := by rfl) :
    YS X xs (.Expr (.YieldFrom e yp) pos) (fun D j σ H => t σ H fun ys H1 => (∀ i y, ys[i]? = some y → xs[j + i]? = some y) ∧ D.nx (j + ys.length) σ H1) := by
  refine ⟨fun A Z ip R n j s₀ c fs K J gd lv s σ H D g hn k r ht => ?_⟩
  obtain ⟨zp, e1, e2, I⟩ := r
  rw [exec_Expr X.env _ pos hi rfl]
  show Seg _ _ _ _ n s₀ c (.at pos fun _ => ((eval e X.env >>= fun v => (standAt yp >>= fun _ => yieldFrom X.env v)) >>= fun x => dropValue (.YieldFrom e yp) pos x).wrap K J gd lv) fs s
  refine seg_at (segw_bind2 ?_)
  rw [g.over]
  refine wpAny_mono (he.run _ s σ H _ I ht) (fun v s1 hv => ?_) fun x s' q => k.exc n s₀ x s' q
  obtain ⟨T, hT, hne, hit⟩ := hv
  refine seg_at ?_
  show Seg _ _ _ _ n s₀ c ((yieldFrom X.env v).wrap (fun b => (dropValue (.YieldFrom e yp) pos b).wrap K J gd lv) J gd lv) fs s1
  unfold yieldFrom
  refine seg_bind_wrap (wpAny_typeOf hT ?_)
  rw [if_neg (show ¬ ((Value.type T == Value.type "coroutine") = true) by rw [hne]; exact Bool.false_ne_true)]
  refine seg_bind_wrap (wpAny_holding ?_)
  rw [g.over]
  refine wpAny_mono hit (fun u s2 hu => ?_) fun x s' q => k.exc n s₀ x s' q
  obtain ⟨it, H', ys, St, rfl, I2, q1, q2, q3, q4, q5, q6, q7, hxs, hq⟩ := hu
  have r2 : YRun X Z ip σ H' s₀ s2 := ⟨zp, e1, e2, I2⟩
  have hZ : it ∉ Z := fun hm => by
    rw [← e1] at hm
    obtain ⟨p, hp, e⟩ := List.mem_map.mp hm
    exact q5 p (List.mem_append_right _ (List.mem_append_left _ hp)) e
  refine seg_call fun p => seg_from (ys := ys) (j0 := j) g.ip (fun p hp => ?_) g.aside q1 q2 q3 hZ q4 q7 ?_ ?_ ?_ hxs (fun n' s₁ s' hn' r' => ?_) ys.length 0 n s₀ s2 (Nat.zero_add _) hn r2 q6
  · rcases List.mem_append.mp hp with hp | hp
    · exact q5 p (List.mem_append_left _ hp)
    · exact q5 p (List.mem_append_right _ (List.mem_append_right _ hp))
  · show (A.over c fs).handled = none
    rw [g.over]
    exact hc
  · show (splitAtGen fs).map _ = none
    rw [g.split] <;> rfl
  · show (gd false || fs.any Frame.guarded) = false
    rw [g.gd, g.guard] <;> rfl
  · exact seg_leaf (.ok (.ret .none)) (k.ok n' (j + ys.length) s₁ s' .next hn' ⟨σ, H', r', hq⟩)
end
end L2

set_option Elab.async false
set_option linter.all false
set_option maxRecDepth 100000
set_option maxHeartbeats 800000
/-! VxZ: a generator def's promise by its body; its call. -/
namespace L2
open PySem PySem.Spec PyProof.Rows GenW
/-- arguments, heap, what will be handed out, what is wanted at the end, exceptions -/
abbrev SpY := List V → Hp → List V → (Hp → Prop) → XK → Prop
/-- the consumer's objects are as they were at the waking -/
def Still (Z : List Addr) (H : Hp) (s₀ s : Shared) : Prop := ∀ z ∈ Z, H z = none ∧ ∃ o, s₀.heap.get? z = some o ∧ s.heap.get? z = some o
def YEnd (P : Program) (w : World) (outer : List Env) (H : Hp) (s : Shared) (Z : List Addr) (a : Addr) (g : Nat) (Q : Hp → Prop) (E : XK) : GenEnd := fun n s₀ r s1 =>
  ((r = .ok (.ret .none) ∨ r = .ok .next) ∧ ∃ H', n = 0 ∧ s1.os = s.os ∧ AllBare s1.gens ∧ Un (frs outer) [] H H' s.heap s1.heap ∧ HOk P w H' s1.heap ∧ Still Z H' s₀ s1 ∧ Q H') ∨
  ∃ e, r = .error e ∧ CX P w outer H s E e s1 ∧ s1.heap.IsGen a g
def YItm (P : Program) (w : World) (outer : List Env) (H : Hp) (s : Shared) (Z : List Addr) (a : Addr) (g : Nat) (xs : List V) : Protocol := fun n s₀ v s1 kap =>
  ∃ j x H', n + 1 + j = xs.length ∧ xs[j]? = some x ∧ RelV x v ∧ s1.os = s.os ∧ AllBare s1.gens ∧ s1.heap.NoLimit ∧ s1.heap.IsGen a g ∧ Un (frs outer) [] H H' s.heap s1.heap ∧ HOk P w H' s1.heap ∧ Still Z H' s₀ s1 ∧
    ∀ s', Zzz Z s1 s' → kap (.send .none) s'
/-- a generator that has not begun -/
def YMade (P : Program) (w : World) (k : Nat) (outer : List Env) (H : Hp) (s : Shared) (xs : List V) (Q : Hp → Prop) (E : XK) (u : Value) (s' : Shared) : Prop :=
  ∃ (a : Addr) (g : Nat) (c : Code), u = .ref a ∧ s.heap.objs.size ≤ a ∧ a < s'.heap.objs.size ∧ s'.heap.IsGen a g ∧ s'.gens[g]? = some (.fresh c) ∧ s'.os = s.os ∧ AllBare s'.gens ∧ s'.heap.NoLimit ∧ (∀ b o, s.heap.get? b = some o → s'.heap.get? b = some o) ∧
    ∀ (A : Around) (Z : List Addr) (s2 : Shared), Room k A → A.frames = some outer → (∀ z ∈ Z, s'.heap.objs.size ≤ z ∧ ∃ o, s2.heap.get? z = some o ∧ ∀ v, o.data ≠ .cell v) → (∀ b o, s'.heap.get? b = some o → s2.heap.get? b = some o) → s2.os = s.os → AllBare s2.gens →
      Seg (model P w) A (YEnd P w outer H s Z a g Q E) (YItm P w outer H s Z a g xs) xs.length s2 c ((model P w).den c) [] s2
structure YDef (P : Program) (w : World) (K : PySem.W.Frag) (mg : Str → Option Value) (base : Heap) (k : Nat) (f : Addr) (fd : FuncData) (ps : List Str) (sp : SpY) : Prop where
  len : ∀ vs H xs Q E, sp vs H xs Q E → vs.length = ps.length
  run : ∀ (A : Around) (outer : List Env) (s : Shared) (H : Hp) (args : Args) (us : List Value) (vs xs : List V) (Q : Hp → Prop) (E : XK), Room k A → Env0 P w K mg base A outer s H → BindsTo s fd args (ps.zip us) → Vals vs us → sp vs H xs Q E →
    codeAny (model P w) A (.call (.ref f) args) (fun r s' => match r with | .ok (.ret u) => YMade P w k outer H s xs Q E u s' | _ => False) s
/-- the rule: such a def, by its body -/
theorem FunD.okY {P : Program} {w : World} {K : PySem.W.Frag} {mg : Str → Option Value} {base : Heap} {k : Nat} {f : Addr} {fd : FuncData} {x qual : Str} {params : Arguments} {body : List Stmt} {scope : Scope} {dvs : List V} {kws : List (Str × V)} {N ps : List Str} {sp : SpY}
    (F : FunD K x qual params body scope dvs kws f fd) (S : GScope N ps scope) (len : ∀ vs H xs Q E, sp vs H xs Q E → vs.length = ps.length)
    (hbody : ∀ (cdv : Value) (A : Around) (outer : List Env) (s : Shared) (H : Hp) (vs xs : List V) (Q : Hp → Prop) (E : XK) (pn : List (Addr × Obj)), Room k (A.deeper (envOfC qual scope s.heap.objs.size f cdv)) → sp vs H xs Q E →
      ∃ t, YSs (gcxOf P w K mg base N qual scope f cdv A outer s H E pn) xs body t ∧ t { nx := fun j _ H' => j = xs.length ∧ Q H', rt := fun j v H' => v = .non ∧ j = xs.length ∧ Q H' } 0 (start N vs) H) : YDef P w K mg base (k + 1) f fd ps sp := by
  obtain ⟨oc, od, dV, kV, doc, pm, an, cdv, ct, osl, rfl, lk, hcd, _, _⟩ := F.ex
  refine ⟨len, fun A outer s H args us vs xs Q E hr e0 hb r hsp => ?_⟩
  have hl := len _ _ _ _ _ hsp
  have kin : K.In s.heap := e0.mod.kin.keeps fun b o e => (e0.bs b o e).1
  have lim : s.heap.NoLimit := e0.mod.nolimit.keeps fun b o e => (e0.bs b o e).1
  have par : ∀ y ∈ ps.zip us, scope.names.lookup y.1 = some .local ∨ (scope.names.lookup y.1 = some .cell ∧ ((cellsFrom (s.heap.objs.size + 1) scope.names []).lookup y.1).isSome = true) := by
    intro y hy
    obtain ⟨n, v⟩ := y
    exact (S.par n (List.of_mem_zip hy).1).imp id fun q => ⟨q, PySem.W.cellsFrom_some _ _ _ (.inl q)⟩
  refine codeAny_call_generator hr.depth (kin _ _ lk) rfl S.co S.gen rfl (PySem.W.codeRec_of kin hcd) (hb _ _ _ _ (wpAny_newFunctionEnv_cells S.kind par fun env he s1 x => ?_))
  subst he
  have lim1 : s1.heap.NoLimit := lim.keeps x.toInCall.keep
  refine ⟨lim1, ?_⟩
  obtain ⟨h1, tk, es1, hk1⟩ := x.done
  have os1 : s1.os = s.os := by rw [es1]
  have gen1 : s1.gens = s.gens := by rw [es1]
  have kp1 : ∀ b o, s.heap.get? b = some o → s1.heap.get? b = some o := x.toInCall.keep
  have lt1 : s.heap.objs.size < s1.heap.objs.size := x.toInCall.ns.lt
  have made : ∀ (go : Obj) (nm qn : Value) (tk2 : Nat), go.cls = .type "generator" → go.data = .fields #[.int s1.gens.size 0, nm, qn] → go.slots = #[] → (∀ h : Heap, (h.push go).get? h.objs.size = some go) →
      YMade P w (k + 1) outer H s xs Q E (.ref s1.heap.objs.size) { s1 with gens := s1.gens.push (.fresh (.func body (envOfC qual scope s.heap.objs.size f cdv))), toks := tk2, heap := s1.heap.push go } := by
    intro go nm qn tk2 gc gd gsl gp
    have isG : ∀ h : Heap, h.get? s1.heap.objs.size = some go → h.IsGen s1.heap.objs.size s1.gens.size := fun h e => ⟨go, nm, qn, e, gc, gd, gsl⟩
    refine ⟨s1.heap.objs.size, s1.gens.size, _, rfl, Nat.le_of_lt lt1, ?_, isG _ (gp _), Array.getElem?_push_size .., os1, ?_, lim1.keeps fun b o e => Heap.get?_push_of_some _ e, fun b o e => Heap.get?_push_of_some _ (kp1 b o e), ?_⟩
    · show _ < (s1.heap.push _).objs.size
      rw [Heap.size_push]
      exact Nat.lt_succ_self _
    · exact AllBare.push (by rw [gen1]; exact e0.bare) rfl
    intro B Z s2 hrB hfB hZ k2 os2 bare2
    have e0B : Env0 P w K mg base B outer s H := ⟨hfB, e0.mod, e0.bs, e0.bsz, e0.funs, e0.frf, e0.hok, e0.bare⟩
    obtain ⟨t, ht, hq⟩ := hbody cdv B outer s H vs xs Q E [(s1.heap.objs.size, go)] (hrB.deeper _) hsp
    have I1 : Inv (gcxOf P w K mg base N qual scope f cdv B outer s H E []) [] (start N vs) H s1 := inv_startG S hrB.hd e0B hl r x
    have kp2 : ∀ b o, s1.heap.get? b = some o → s2.heap.get? b = some o := fun b o e => k2 b o (Heap.get?_push_of_some _ e)
    have I2 : Inv (gcxOf P w K mg base N qual scope f cdv B outer s H E []) [] (start N vs) H s2 :=
      I1.call' (ch := []) (os2.trans os1.symm) (Un.kept kp2) (I1.hok.kept kp2) bare2 fun b z => by simp at z
    have zlt : ∀ z ∈ Z, s1.heap.objs.size < z := fun z hz => by
      have q : (s1.heap.push go).objs.size ≤ z := (hZ z hz).1
      rw [Heap.size_push] at q
      exact q
    have ea : s2.heap.get? s1.heap.objs.size = some go := k2 _ _ (gp s1.heap)
    -- what is younger than the frame
    have young : ∀ b, s1.heap.objs.size ≤ b → H b = none ∧ b ≠ s.heap.objs.size ∧ b ∉ frs outer ∧ s.heap.objs.size ≤ b ∧ ∀ y c, (cellsFrom (s.heap.objs.size + 1) scope.names []).lookup y = some c → c ≠ b := by
      intro b hb
      refine ⟨I1.hok.fresh hb, Nat.ne_of_gt (Nat.lt_of_lt_of_le lt1 hb), I1.nofs hb, Nat.le_trans (Nat.le_of_lt lt1) hb, fun y c e z => ?_⟩
      obtain ⟨v, ob, ho, _⟩ := I1.cell y c e
      have q := Heap.lt_size ho
      rw [z] at q
      exact absurd (Nat.lt_of_lt_of_le q hb) (Nat.lt_irrefl _)
    have hA : Aside (gcxOf P w K mg base N qual scope f cdv B outer s H E [(s1.heap.objs.size, go)]) Z := fun z hz => by
      obtain ⟨_, y2, _, y4, y5⟩ := young z (Nat.le_of_lt (zlt z hz))
      refine ⟨y4, y2, y5, fun p hp => ?_⟩
      rw [List.mem_singleton.mp hp]
      exact Nat.ne_of_lt (zlt z hz)
    obtain ⟨zp, f1, f2⟩ := snap (h := s2.heap) (Z := Z) fun z hz => (hZ z hz).2
    have r0 : YRun (gcxOf P w K mg base N qual scope f cdv B outer s H E [(s1.heap.objs.size, go)]) Z [] (start N vs) H s2 s2 := by
      refine ⟨zp, f1, fun p hp => (f2 p hp).1, Inv.pinnedG I2 fun p hp => ?_⟩
      rcases List.mem_append.mp hp with z | z
      · rw [List.mem_singleton.mp z]
        obtain ⟨y1, y2, y3, _, _⟩ := young s1.heap.objs.size (Nat.le_refl _)
        exact ⟨ea, y1, y2, y3, fun v q => by rw [gd] at q; cases q⟩
      · rw [List.append_nil] at z
        have hz : p.1 ∈ Z := by
          rw [← f1]
          exact List.mem_map.mpr ⟨p, z, rfl⟩
        obtain ⟨y1, y2, y3, _, _⟩ := young p.1 (Nat.le_of_lt (zlt _ hz))
        exact ⟨(f2 p z).1, y1, y2, y3, (f2 p z).2⟩
    have isG2 : ∀ {ip : List (Addr × Obj)} {s₀ s' : Shared} {σ' : L2.St} {H' : Hp}, YRun (gcxOf P w K mg base N qual scope f cdv B outer s H E [(s1.heap.objs.size, go)]) Z ip σ' H' s₀ s' → s'.heap.IsGen s1.heap.objs.size s1.gens.size := fun {ip s₀ s' σ' H'} rr =>
      isG _ (rr.inv.pin (s1.heap.objs.size, go) (List.mem_append_left _ (List.mem_singleton.mpr rfl))).1
    have still : ∀ {ip : List (Addr × Obj)} {s₀ s' : Shared} {σ' : L2.St} {H' : Hp}, YRun (gcxOf P w K mg base N qual scope f cdv B outer s H E [(s1.heap.objs.size, go)]) Z ip σ' H' s₀ s' → Still Z H' s₀ s' := fun {ip s₀ s' σ' H'} rr z hz => ⟨(rr.at hz).1, (rr.at hz).2.2⟩
    refine seg_func (seg_imp (R := YR (gcxOf P w K mg base N qual scope f cdv B outer s H E [(s1.heap.objs.size, go)]) Z xs (fun v H' => v = .non ∧ Q H') fun e s' => CX P w outer H s E e s' ∧ ∀ p ∈ [(s1.heap.objs.size, go)], s'.heap.get? p.1 = some p.2)
      (Y := YP (gcxOf P w K mg base N qual scope f cdv B outer s H E [(s1.heap.objs.size, go)]) Z xs) (fun n s₀ r' s' hR => ?_) (fun n s₀ v s' kap kap' hkk hY => ?_) xs.length ?_)
    · cases r' with
      | error e =>
        obtain ⟨q1, q2⟩ := hR
        exact .inr ⟨e, rfl, q1, isG _ (q2 (s1.heap.objs.size, go) (List.mem_singleton.mpr rfl))⟩
      | ok fl =>
        cases fl with
        | next => exact False.elim hR
        | brk => exact False.elim hR
        | cont => exact False.elim hR
        | ret u =>
          obtain ⟨v, ip, σ', H', hn, rr, rv, ev, hQ⟩ := hR
          subst ev
          have eu : u = Value.none := rv
          subst eu
          have J := rr.inv
          exact .inl ⟨.inl rfl, H', hn, J.os, J.bare, J.base, J.hok, still rr, hQ⟩
    · obtain ⟨j, y, ip, σ', H', hn, hx, rv, rr, h3⟩ := hY
      have J := rr.inv
      exact ⟨j, y, H', hn, hx, rv, J.os, J.bare, J.nolimit, isG2 rr, J.base, J.hok, still rr, fun s3 z => hkk _ _ (h3 s3 z)⟩
    · refine ht.run B Z [] _ xs.length 0 s2 _ [] _ _ id id s2 (start N vs) H _ ⟨fun p hp => by simp at hp, hA, over_func, rfl, rfl, rfl⟩ (Nat.add_zero _) ⟨fun n j s₀ s' fl hn hs => ?_, fun n s₀ e s' hx => ?_⟩ r0 hq
      · cases fl with
        | next =>
          obtain ⟨σ', H', rr, hj, hQ⟩ := hs
          have hn0 : n = 0 := by omega
          exact seg_end (.ok (.ret .none)) ⟨.non, [], σ', H', hn0, rr, rfl, rfl, hQ⟩
        | brk => obtain ⟨_, _, _, q⟩ := hs; exact False.elim q
        | cont => obtain ⟨_, _, _, q⟩ := hs; exact False.elim q
        | ret u =>
          obtain ⟨v, σ', H', rr, rv, ev, hj, hQ⟩ := hs
          have hn0 : n = 0 := by omega
          exact seg_end (.ok (.ret u)) ⟨v, [], σ', H', hn0, rr, rv, ev, hQ⟩
      · refine seg_wrap ?_
        rw [over_func]
        exact wpAny_mono (show wpAny (model P w) (B.deeper (envOfC qual scope s.heap.objs.size f cdv)) (leaving (envOfC qual scope s.heap.objs.size f cdv) e) (fun _ s3 => CX P w outer H s E e s3 ∧ ∀ p ∈ [(s1.heap.objs.size, go)], s3.heap.get? p.1 = some p.2) (fun _ _ => False) s' from hx) (fun _ s3 q => seg_end (.error e) q) fun _ s3 q => q.elim
  exact made _ _ _ _ rfl rfl rfl fun h => Heap.get?_push_size _ rfl
/-- an expression whose value is a generator that has not begun -/
abbrev TYg := L2.St → Hp → List V → (Hp → Prop) → Prop
structure PY (X : Cx) (k : Nat) (e : Expr) (tg : TYg) (E : XK) : Prop where
  run : ∀ (pins : List (Addr × Obj)) (s : Shared) (σ : L2.St) (H : Hp) (xs : List V) (Q : Hp → Prop), Inv X pins σ H s → tg σ H xs Q → wpAny (model X.prog X.w) X.A (eval e X.env)
    (fun u s' => ∃ H1 sc, Inv X pins σ H1 sc ∧ YMade X.prog X.w k X.stack H1 sc xs Q E u s') X.xe s
end L2

set_option Elab.async false
set_option linter.all false
set_option maxRecDepth 100000
set_option maxHeartbeats 1000000
/-! VxQ: [x for x in g()], g a generator of the program. -/
namespace L2
open PySem PySem.Spec PyProof.Rows GenW
theorem no_cx {P : Program} {w : World} {outer : List Env} {H : Hp} {s : Shared} {e : Value} {s1 : Shared} (h : CX P w outer H s E0 e s1) : False := by
  obtain ⟨_, _, _, _, _, _, _, _, _, _, _, _, z⟩ := h
  exact z
section
variable {X : Cx} {e : Expr} {x : Str} {px pe pos : Pos} {scope : Scope} {k : Nat} {tg : TYg}
theorem pe_lcY (h : PY X k e tg E0) (hr : Room (k + 1) X.A) (hk : scope.kind = .function) (hu : ∀ y ∈ scope.names, scope.names.lookup y.1 = some y.2) (hf : ∀ y ∈ scope.names, y.2 ≠ .free) (hx : scope.names.lookup x = some .local)
    (hs : ∀ v, foldedSetIterable e X.env v = pure v := by intro _; rfl) (hd : (x == ("__debug__" : Str)) = false := by decide) :
    PE X (.ListComp (.Name x pe) [⟨.Name x px, e, [], 0⟩] scope pos) (fun σ H Q => ∃ xs : List V, xs.length ≤ sizeLine ∧ tg σ H xs fun H2 => ∀ p, H2 p = none → Q (.ref p) (upd H2 p (.lst xs))) := by
  refine ⟨fun pins s σ H Q I hq => ?_⟩
  obtain ⟨xs, hxs, hq⟩ := hq
  rw [eval_ListComp]
  refine wpAny_comprehension_free (use := none) rfl hs (closure_ok fun y hy q => absurd q (hf y hy)) hk (fun y hy q => by rw [hu y hy, q]) (thn (h.run pins s σ H xs _ I hq) fun u s1 hg => ?_)
  obtain ⟨H1, sc, I1, a, g, c, rfl, a1, a2, isG, hgs, os1, bare1, lim1, kp1, wake⟩ := hg
  refine wpAny_pyIter_gen isG (wpAny_newObj_type (newEnv_comp ?_) (by show 0 ≤ sizeLine; decide))
  -- the list, the names
  generalize hD : s1.heap.objs.size = D
  generalize hs3 : ({ s1 with heap := s1.heap.push { cls := .type "list", data := .seq ([] : List Value).toArray } } : Shared) = s3
  have h3 : s3.heap = s1.heap.push { cls := .type "list", data := .seq ([] : List Value).toArray } := by rw [← hs3]
  generalize hC : s3.heap.objs.size = C
  have hCD : C = D + 1 := by rw [← hC, h3, Heap.size_push, hD]
  show codeAny _ _ (.compStart (.ListComp (.Name x pe) [⟨.Name x px, e, [], 0⟩] scope pos) 0 (.ref a) (.ref D) (compEnvC scope (cellsFrom (C + 1) scope.names (cloFrom X.env.cells scope.names [])) C X.env)) (compPost (model X.prog X.w) X.A X.xe none (EP X pins σ Q) (.ref D) C) { s3 with heap := pushCells (s3.heap.push { cls := .type "dict", data := .dict #[] }) scope.names }
  generalize hce : compEnvC scope (cellsFrom (C + 1) scope.names (cloFrom X.env.cells scope.names [])) C X.env = ce
  have cL : ce.locals = C := by subst hce; rfl
  have cK : ce.scope.kind = .function := by subst hce; exact hk
  have cX : ce.kindOf x = some .local := by
    subst hce
    exact lookup_relabel_local hx
  have cP : (ce.scope.kind == .class || (ce.scope.kind == .module && ce.locals != ce.globals)) = false := by
    rw [cK]
    rfl
  generalize hs4 : ({ s3 with heap := pushCells (s3.heap.push { cls := .type "dict", data := .dict #[] }) scope.names } : Shared) = s4
  have h4 : s4.heap = pushCells (s3.heap.push { cls := .type "dict", data := .dict #[] }) scope.names := by rw [← hs4]
  have k13 : ∀ b o, s1.heap.get? b = some o → s3.heap.get? b = some o := fun b o q => by rw [h3]; exact Heap.get?_push_of_some _ q
  have k34 : ∀ b o, s3.heap.get? b = some o → s4.heap.get? b = some o := fun b o q => by rw [h4]; exact pushCells_keeps _ _ _ _ (Heap.get?_push_of_some _ q)
  have k14 : ∀ b o, s1.heap.get? b = some o → s4.heap.get? b = some o := fun b o q => k34 b o (k13 b o q)
  have os4 : s4.os = sc.os := by rw [← hs4, ← hs3]; exact os1
  have gens4 : s4.gens = s1.gens := by rw [← hs4, ← hs3]
  have eD : s4.heap.get? D = some (lstObj #[] 0) := k34 D _ (by rw [h3, ← hD]; exact Heap.get?_push_size _ rfl)
  have eC : s4.heap.Ns C fun _ => none := by
    rw [h4, ← hC]
    exact (Heap.Ns.new s3.heap (.type "dict")).keeps (pushCells_keeps _ _)
  have aD : a ≠ D := fun z => by
    rw [← hD] at z
    exact Nat.lt_irrefl _ (z ▸ a2)
  have aC : a ≠ C := fun z => by
    rw [hCD, ← hD] at z
    exact Nat.lt_irrefl _ (Nat.lt_of_lt_of_le (z ▸ a2) (Nat.le_succ _))
  have DC : D ≠ C := fun z => by
    rw [hCD] at z
    exact Nat.lt_irrefl D (by
      have q : D < D + 1 := Nat.lt_succ_self D
      rw [← z] at q
      exact q)
  have scD : sc.heap.objs.size ≤ D := by
    rw [← hD]
    exact Nat.le_trans a1 (Nat.le_of_lt a2)
  have scC : sc.heap.objs.size ≤ C := Nat.le_trans scD (by rw [hCD]; exact Nat.le_succ D)
  have sD : cStatics ≠ D := fun z => by
    obtain ⟨mc, hn, _⟩ := lim1
    have q := hn.lt
    rw [z, ← hD] at q
    exact Nat.lt_irrefl _ q
  have sC : cStatics ≠ C := fun z => by
    obtain ⟨mc, hn, _⟩ := lim1
    have q := hn.lt
    rw [z, hCD, ← hD] at q
    exact Nat.lt_irrefl _ (Nat.lt_of_lt_of_le q (Nat.le_succ _))
  -- the state between two items
  have loop : codeAny (model X.prog X.w) X.A (.compLoop (.ListComp (.Name x pe) [⟨.Name x px, e, [], 0⟩] scope pos) 0 (.ref a) (.ref D) ce) (compPost (model X.prog X.w) X.A X.xe none (EP X pins σ Q) (.ref D) C) s4 := by
    refine compLoop_any (fun n s5 => ∃ (j : Nat) (gs : GenState) (acc : Array Value) (cc : Nat) (m : Str → Option Value), n + j = xs.length ∧ s5.gens[g]? = some gs ∧
      gs.Goes (model X.prog X.w) X.A.in1 (YEnd X.prog X.w X.stack H1 sc [D, C] a g (fun H2 => ∀ p, H2 p = none → Q (.ref p) (upd H2 p (.lst xs))) E0) (YItm X.prog X.w X.stack H1 sc [D, C] a g xs) n (.send .none) (s5.setGen g .running) ∧
      s5.heap.get? D = some (lstObj acc cc) ∧ Vals (xs.take j) acc.toList ∧ s5.heap.Ns C m ∧ s5.heap.IsGen a g ∧ s5.heap.NoLimit ∧ s5.os = sc.os ∧ AllBare s5.gens) ?_ xs.length ?_
    · rintro n s5 ⟨j, gs, acc, cc, m, hn, hg5, go5, d5, v5, c5, i5, l5, o5, b5⟩
      have gl : g < s5.gens.size := (Array.getElem?_eq_some_iff.mp hg5).1
      refine wpAny_gsz (n := g + 1) gl (next_genG (A := X.A) hr.hd l5 hr.depth i5 hg5 (F := fun n s₀ s1 => ∃ H', n = 0 ∧ s1.os = sc.os ∧ AllBare s1.gens ∧ Un (frs X.stack) [] H1 H' sc.heap s1.heap ∧ HOk X.prog X.w H' s1.heap ∧ Still [D, C] H' s₀ s1 ∧ ∀ p, H' p = none → Q (.ref p) (upd H' p (.lst xs)))
        (Er := fun e s1 => CX X.prog X.w X.stack H1 sc E0 e s1 ∧ s1.heap.IsGen a g) go5 (fun v s6 gs' bare6 hv => ?_) (fun s6 hp h' hk => ?_) fun er s6 he => (no_cx he.1).elim)
      · -- an item
        intro hsz
        obtain ⟨j', y, H', hn', hy, rv, o6, b6, l6, i6, un6, hok6, st6, kap⟩ := hv
        obtain ⟨q1, oD, q2, q3⟩ := st6 D List.mem_cons_self
        obtain ⟨z1, oC, z2, z3⟩ := st6 C (List.mem_cons_of_mem _ List.mem_cons_self)
        have d6 : s6.heap.get? D = some (lstObj acc cc) := by
          rw [q3, ← q2]
          exact d5
        have c6 : s6.heap.Ns C m := c5.at' fun o eo => by
          have w : some oC = some o := z2.symm.trans eo
          rw [z3, w]
        obtain ⟨og, nm, qn, g1, g2, g3, g4⟩ := id i6
        refine go_of (s := s6.setGen g gs') g1 g2 g3 (by decide) ?_
        refine wpAny_assign_Name (wpAny_storeName_local (s := s6.setGen g gs') cX (by rw [cL]; exact c6) (fun h7 n7 sb7 => ?_) cP)
        rw [cL] at n7 sb7
        refine wpAny_tests_nil ?_
        rw [if_pos rfl]
        refine wpAny_Name (wpAny_loadName_local cK cX (v := v) (by rw [cL]; exact n7) (by simp) ?_) hd
        have d7 : h7.get? D = some (lstObj acc cc) := (sb7.2 D DC).trans d6
        have sz : acc.size = j := by
          have q := v5.length
          rw [List.length_take] at q
          have q2 : acc.toList.length = acc.size := by simp
          omega
        refine append_at d7 (fun h8 sb8 d8 => ?_) (by rw [sz]; omega)
        have k68 : ∀ b o, b ≠ D → b ≠ C → s6.heap.get? b = some o → h8.get? b = some o := fun b o n1 n2 q => (sb8.2 b n1).trans ((sb7.2 b n2).trans q)
        have c8 : h8.Ns C _ := n7.at' fun o q => (sb8.2 C (Ne.symm DC)).trans q
        have g6 : g < s6.gens.size := by
          have q : (s6.setGen g gs').gens.size = s6.gens.size := setGen_size _ _ _
          have q2 : g + 1 ≤ (s6.setGen g gs').gens.size := hsz
          omega
        have b8 : AllBare (s6.setGen g gs').gens := allBare_setGen b6 bare6
        obtain ⟨mc, ln, lx⟩ := l6
        have zz : Zzz [D, C] s6 (({ s6.setGen g gs' with toks := (s6.setGen g gs').toks + 1, heap := h8 } : Shared).setGen g .running) := by
          refine ⟨rfl, allBare_setGen (s := { s6.setGen g gs' with toks := (s6.setGen g gs').toks + 1, heap := h8 }) b8 rfl, fun b o hb q => ?_, fun z hz => ?_⟩
          · exact k68 b o (fun w => hb (by rw [w]; exact List.mem_cons_self)) (fun w => hb (by rw [w]; exact List.mem_cons_of_mem _ List.mem_cons_self)) q
          · rcases List.mem_cons.mp hz with w | w
            · rw [w]
              exact ⟨_, d8, fun v w => by cases w⟩
            · rw [List.mem_singleton.mp w]
              obtain ⟨o, es, ep, w1, w2, _⟩ := id c8
              exact ⟨o, w1, fun v w => by rw [w2] at w; cases w⟩
        have go8 := kap _ zz
        cases n with
        | zero => exact go8.elim
        | succ n =>
          have jj : j' = j := by omega
          subst jj
          refine ⟨n, Nat.lt_succ_self n, j' + 1, gs', acc.push v, cc + 1, _, by omega, setGen_at g6, go8, d8, ?_, c8, ⟨og, nm, qn, k68 a og aD aC g1, g2, g3, g4⟩, ⟨mc, ln.at' fun o q => k68 _ o sD sC q, lx⟩, o6, b8⟩
          rw [Array.toList_push, List.take_add_one, hy]
          exact v5.append (.cons rv .nil)
      · -- the end
        intro _
        obtain ⟨H', hn0, o6, b6, un6, hok6, st6, qq⟩ := hp
        obtain ⟨q1, oD, q2, q3⟩ := st6 D List.mem_cons_self
        obtain ⟨z1, oC, z2, z3⟩ := st6 C (List.mem_cons_of_mem _ List.mem_cons_self)
        have d6 : s6.heap.get? D = some (lstObj acc cc) := by
          rw [q3, ← q2]
          exact d5
        have c6 : s6.heap.Ns C m := c5.at' fun o eo => by
          have w : some oC = some o := z2.symm.trans eo
          rw [z3, w]
        have v6 : Vals xs acc.toList := by
          have w := v5
          rw [List.take_of_length_le (by omega)] at w
          exact w
        have J : Inv X pins σ (upd H' D (.lst xs)) { s6.setGen g .finished with heap := h' } :=
          I1.drained scD hxs (hk _ _ d6) v6 .nil o6 (allBare_setGen (s := s6) b6 rfl) (un6.trans (Un.kept hk)) (hok6.kept hk) q1
        have nC : (upd H' D (.lst xs)) C = none := by
          rw [upd_ne (Ne.symm DC)]
          exact z1
        obtain ⟨f0, f1, f2, f3, f4, f5⟩ := I1.fpOk scC nC
        refine ⟨m, c6.keeps hk, fun h9 sb9 => ⟨.ref D, _, J.turned (t' := s6.toks) (fun b o hb q => (sb9.2 b hb).trans q) f0 f1 f3 f4 f5, rfl, qq D q1⟩⟩
    · refine ⟨0, .fresh c, #[], 0, _, Nat.add_zero _, ?_, ⟨rfl, ?_⟩, eD, .nil, eC, isG.keeps k14, lim1.keeps k14, os4, by rw [gens4]; exact bare1⟩
      · rw [gens4]
        exact hgs
      · refine wake X.A.in1 [D, C] (s4.setGen g .running) hr.in1 I1.ok.frames (fun z hz => ?_) k14 os4 (allBare_setGen (s := s4) (by rw [gens4]; exact bare1) rfl)
        rcases List.mem_cons.mp hz with w | w
        · rw [w]
          exact ⟨Nat.le_of_eq hD, _, eD, fun v w => by cases w⟩
        · rw [List.mem_singleton.mp w]
          obtain ⟨o, es, ep, w1, w2, _⟩ := id eC
          exact ⟨by rw [hCD, hD]; exact Nat.le_succ D, o, w1, fun v w => by rw [w2] at w; cases w⟩
  exact codeAny_compStart_list loop (wpAny_pyIter_gen (isG.keeps k14) loop)
end
end L2

set_option Elab.async false
set_option linter.all false
set_option maxRecDepth 100000
set_option maxHeartbeats 4000000
/-! VxT: try: .. except (A, B, C) as e: caught = e, the error being a tracked value behind it; raise of a program's error that has its own __init__, over any base. -/
namespace L2
open PySem PySem.Spec PyProof.Rows
section
variable {X : Cx} {pins : List (Addr × Obj)} {σ : St} {H : Hp} {s : Shared}
/-- a record that stands untracked, and was not there at the entry, is tracked from here on -/
theorem Inv.adopt {a : Addr} {o : HO} {oe : Obj} {vs : Array Value} (I : Inv X pins σ H s) (e : s.heap.get? a = some oe) (dv : oe.data = .fields vs) (na : H a = none) (h0 : X.s_0.heap.get? a = none) (hp : ∀ p ∈ X.pn ++ pins, p.1 ≠ a)
    (new : ObjOk X.prog X.w (upd H a o) s.heap a o) : Inv X pins σ (upd H a o) s := by
  have nt : ∀ b u, H b = some u → b ≠ a := fun b u z y => by
    rw [y, na] at z
    cases z
  refine ⟨I.ok, I.os, I.bare, ⟨I.base.keep, I.base.slot, fun b u z n hx => ?_, I.base.there, fun b xs z => ?_, fun b u xs z => ?_, fun b ps z => ?_⟩, I.loc, I.cell, ?_, fun x c z => ?_, fun p hq => ?_, fun b u z => ?_, I.len⟩
  · rw [upd_ne (fun y => by
      rw [y, h0] at z
      cases z)]
    exact I.base.free b u z n hx
  · have q := I.base.tups b xs z
    rw [upd_ne (nt _ _ q)]
    exact q
  · have q := I.base.frzs b u xs z
    rw [upd_ne (nt _ _ q)]
    exact q
  · obtain ⟨m, q⟩ := I.base.tbls b ps z
    exact ⟨m, by rw [upd_ne (nt _ _ q)]; exact q⟩
  · rw [upd_ne (fun y => ?_)]
    · exact I.free
    · obtain ⟨m, ⟨o2, es, ep, ho, hd, _⟩, _⟩ := I.loc
      rw [y, e] at ho
      rw [← Option.some.inj ho, dv] at hd
      cases hd
  · rw [upd_ne (fun y => ?_)]
    · exact I.freeC x c z
    · obtain ⟨v, o2, ho, hd⟩ := I.cell x c z
      rw [y, e] at ho
      rw [← Option.some.inj ho, dv] at hd
      cases hd
  · obtain ⟨q1, q2, q3⟩ := I.pin p hq
    exact ⟨q1, by rw [upd_ne (hp p hq)]; exact q2, q3⟩
  · by_cases hb : b = a
    · subst hb
      rw [upd_same] at z
      cases z
      exact new
    · rw [upd_ne hb] at z
      exact (I.hok b u z).stay (fun _ _ _ q => q) (fun c q => by rw [upd_ne (nt _ _ q)]; exact q) fun c xs q => by rw [upd_ne (nt _ _ q)]; exact q
end
/-- what such a clause wishes of an error of the body: slot i is the clause's name, slot j the kept one -/
def wKept (K : PySem.W.Frag) (cs : List Value) (i j : Nat) (Wout : WX) (D : Ends) : WX := fun cls d σ H =>
  ∃ b, PySem.W.exmAny K cls cs = some b ∧ (b = true → ∃ C dd : Addr, cls = .ref C ∧ d = some dd ∧ ∀ a, H a = none → D.nx (((σ.set i (some (.ref a))).set j (some (.ref a))).set i none) (upd H a (exV a C dd))) ∧ (b = false → Wout cls d σ H)
theorem flying_keeps {B h h' : Heap} {l : List Env} {a : Addr} {Z : Obj → Prop} (k : ∀ b o, h.get? b = some o → h'.get? b = some o) (f : HandSPX.FlyingZ B l a Z h) : HandSPX.FlyingZ B l a Z h' := by
  obtain ⟨f1, f2, f3, oe, vs, T, oT, ts, t1, t2, t3, t4, t5, t6, t7, t8, t9⟩ := f
  refine ⟨fun b o e => k b o (f1 b o e), f2, ?_, oe, vs, T, oT, ts, k _ _ t1, t2, t3, t4, t5, t6, k _ _ t7, t8, t9⟩
  clear t1 t2 t3 t4 t5 t6 t7 t8 t9
  induction l with
  | nil => exact True.intro
  | cons env rest ih =>
    obtain ⟨g1, ⟨L, o, g2, g3, g4, g5⟩, g6⟩ := f3
    exact ⟨g1, ⟨L, o, g2, g3, k _ _ g4, g5⟩, ih g6⟩
section
variable {X : Cx} {x1 x2 x3 n m : Str} {C1 C2 C3 : Addr} {i j kk : Nat} {body : List Stmt} {p1 p2 p3 tp pa pb pc pos pos' : Pos} {tb : WX → TS} {Wout : WX}
theorem ps_try_kept (hs : X.stack = X.env :: X.outer) (hf : X.env.frame = some X.env.locals) (hex : X.ex = []) (hN : X.N.Nodup) (hi : X.N[i]? = some n) (hj : X.N[j]? = some m) (hln : X.env.kindOf n = some .local) (hlm : X.env.kindOf m = some .local)
    (g1 : Gl X x1) (m1 : X.mg x1 = some (.ref C1)) (g2 : Gl X x2) (m2 : X.mg x2 = some (.ref C2)) (g3 : Gl X x3) (m3 : X.mg x3 = some (.ref C3)) (tk : Takes X Wout)
    (hb : ∀ (W : WX) (pn : List (Addr × Obj)) (xe : Value → Shared → Prop), Takes (X.tr pn xe) W → PassesOwn (model X.prog X.w) X.A X.env xe → PSs (X.tr pn xe) body (tb W))
    (hij : i ≠ j := by decide) (d1 : (x1 == ("__debug__" : Str)) = false := by decide) (d2 : (x2 == ("__debug__" : Str)) = false := by decide) (d3 : (x3 == ("__debug__" : Str)) = false := by decide) 
    (hn1 : (n == ("__debug__" : Str)) = false := by decide) (hn2 : (n == ("__classdict__" : Str)) = false := by decide)
    (hsw : swapsWith (.Name n pc) (some (.Name m pb)) pa.line X.env = pure false := by rfl)
    : PS X (.Try body [.ExceptHandler (some (.Tuple [.Name x1 p1, .Name x2 p2, .Name x3 p3] kk tp)) (some n) [.Assign [.Name m pb] (.Name n pc) pa] pos'] [] [] pos) (fun D σ H => tb (wKept X.K [.ref C1, .ref C2, .ref C3] i j Wout D) D σ H) := by
  refine ⟨fun pins s σ H D I h => ?_⟩
  have ok := I.ok
  have frs_eq : X.A.frames = some (X.env :: X.outer) := by
    rw [ok.frames, hs]
  let hd1 : ExceptHandler := .ExceptHandler (some (.Tuple [.Name x1 p1, .Name x2 p2, .Name x3 p3] kk tp)) (some n) [.Assign [.Name m pb] (.Name n pc) pa] pos'
  let xe2 : Value → Shared → Prop := fun e t1 => wpAny (model X.prog X.w) X.A (noteFrame e X.env) (fun _ t2 => wpAny (model X.prog X.w) X.A (setFlight e none) (fun _ t3 => wpAny (model X.prog X.w) X.A (handleBy e X.env [hd1]) (SP X pins D) X.xe t3) X.xe t2) X.xe t1
  have B0 : PSs (X.tr (X.pn ++ pins) xe2) body (tb (wKept X.K [.ref C1, .ref C2, .ref C3] i j Wout D)) := hb _ _ xe2 (fun u s' xx => ?caught) PassesOwn.looking
  case caught =>
    obtain ⟨a, B, sI, pins', σ', H', cls, d, rfl, JT, nb, up, sky, na, os, ag, b, hx, hyes, hno⟩ := xx
    have J : Inv X pins σ' H' sI := JT.ofTry ok
    have sky2 : Sky B (X.env :: X.outer) a (Zc cls d) X.env.locals s'.heap := by
      rw [← hs]
      exact sky
    show wpAny (model X.prog X.w) X.A (noteFrame (.ref a) X.env) _ _ _
    refine Sky.land Zc.steady frs_eq hf sky2 fun h3 fl3 up3 => ?_
    have out : ∀ {h : Heap} {o : Obj} {vs : Array Value}, HandSPX.FlyingZ B (X.env :: X.outer) a (Zc cls d) h → h.get? a = some o → o.data = .fields vs → a ≠ X.env.locals ∧ a ∉ X.fs ∧ a ∉ frs X.stack := by
      intro h o vs fl e dd
      have no : a ∉ frs (X.env :: X.outer) := fun hm => by
        obtain ⟨_, o2, e2, hnf⟩ := fl.2.2.1.mem hm
        rw [e] at e2
        cases e2
        exact hnf _ dd
      refine ⟨fun z => no (List.mem_filterMap.mpr ⟨X.env, List.mem_cons_self, ?_⟩), fun hm => ?_, ?_⟩
      · rw [hf, z]
      · obtain ⟨en, he, q⟩ := List.mem_filterMap.mp hm
        exact no (List.mem_filterMap.mpr ⟨en, List.mem_cons_of_mem _ he, q⟩)
      · rw [hs]
        exact no
    obtain ⟨oe3, vs3, he3, hz3, hd3⟩ := fl3.there
    obtain ⟨nL, nF, nS⟩ := out fl3 he3 hd3
    have J3 : Inv X pins σ' H' { s' with heap := h3 } := J.landed nb fl3.1 (up.trans up3) os ag
    have S3 := J3.suite he3 hd3 na nL nF
    -- the clause's tuple
    refine wpAny_handleBy_cons (codeAny_handlers_test (wpAny_Tuple (wpAny_items_cons (ld_glob (X := X.suite a ((a, oe3) :: (X.pn ++ pins))) S3 g1 m1 (wpAny_items_cons (ld_glob (X := X.suite a ((a, oe3) :: (X.pn ++ pins))) S3 g2 m2 (wpAny_items_cons (ld_glob (X := X.suite a ((a, oe3) :: (X.pn ++ pins))) S3 g3 m3 (wpAny_items_nil ⟨by size_fits, ?_⟩) d3)) d2)) d1)))) (fun q => by cases q)
    have kp : ∀ b o, h3.get? b = some o → (h3.push { cls := .type "tuple", data := .seq [Value.ref C1, .ref C2, .ref C3].toArray }).get? b = some o := fun b o z => Heap.get?_push_of_some _ z
    have LT : PySem.W.Looks (model X.prog X.w) h3 (typeOf (.ref a)) cls := fun A Q E t k q => wpAny_typeOf_ref (k _ _ he3) (by rw [hz3.1]; exact q)
    refine (PySem.W.exm_tup3 (J3.kIn.keeps kp) (LT.keeps kp) (Heap.get?_push_size h3 rfl) hx).here ?_
    have fl5 := flying_keeps kp fl3
    have up5 := (up.trans up3).trans (Heap.UpToSlots.of_keeps kp)
    cases b with
    | true =>
      obtain ⟨C, dd, rfl, rfl, kq⟩ := hyes rfl
      refine codeAny_handlers_suite_as ?_
      refine HandSPX.lands_againZ fl5 fun h4 fl4 up4 => ?_
      obtain ⟨oe4, vs4, he4, hz4, hd4⟩ := fl4.there
      have J4 : Inv X pins σ' H' { s' with heap := h4 } := J.landed nb fl4.1 (up5.trans up4) os ag
      have S4 := J4.suite he4 hd4 na nL nF
      refine store_ok (X := X.suite a ((a, oe4) :: (X.pn ++ pins))) (v := .ref a) S4 hN hi (.inl hln) rfl (fun s5 S5 => ?_) (.inr hln)
      have PA5 : PSs (X.suite a ((a, oe4) :: (X.pn ++ pins))) [.Assign [.Name m pb] (.Name n pc) pa] (tSeq (tAsg (tVar i) (gName j)) tNext) := pss_cons (ps_set hN hj (.inl hlm) (pe_var hi (.inl hln) hn1 hn2) hsw (.inr hlm)) pss_nil
      refine wpAny_mono (PA5.run [] s5 _ H' { nx := fun σ6 H6 => σ6 = (σ'.set i (some (.ref a))).set j (some (.ref a)) ∧ H6 = H', rt := fun _ _ => False, bk := fun _ _ => False, ct := fun _ _ => False } S5 ?_) (fun f s6 hsp => ?_) (fun _ _ z => z.elim)
      · refine ⟨.ref a, ?_, rfl, rfl⟩
        rw [List.getElem?_set_self (by rw [J.len]; exact (List.getElem?_eq_some_iff.mp hi).1)]
      · cases f with
        | next =>
          obtain ⟨σ6, H6, S6, e1, e2⟩ := hsp
          subst e1 e2
          have he6 := (S6.pin (a, oe4) (List.mem_append_left _ List.mem_cons_self)).1
          have new : X.s_0.heap.get? a = none := by
            cases z : X.s_0.heap.get? a with
            | none => rfl
            | some o0 =>
              obtain ⟨o1, z1⟩ := J.base.there a o0 z (by rw [hex]; exact List.not_mem_nil)
              have z2 := nb a o1 z1 nS
              rw [fl3.2.1] at z2
              cases z2
          have I6 : Inv X pins ((σ'.set i (some (.ref a))).set j (some (.ref a))) H6 s6 := S6.unsuite ok
          have I7 := I6.adopt (o := exV a C dd) he6 hd4 na new (fun p hq z => ?_) (exV_ok he6 hz4.1 hz4.2 hd4)
          · exact gone_ok I7 hN hi hln fun s7 J7 => ⟨_, _, J7, kq a na⟩
          · obtain ⟨y1, y2, y3, y4, _⟩ := J.pin p hq
            rw [z] at y1
            have z2 := nb a _ y1 nS
            rw [fl3.2.1] at z2
            cases z2
        | brk => exact hsp.elim fun _ z => z.elim fun _ z => z.2.elim
        | cont => exact hsp.elim fun _ z => z.elim fun _ z => z.2.elim
        | ret u => exact hsp.elim fun _ z => z.elim fun _ z => z.elim fun _ z => z.2.2.elim
    | false =>
      show wpAny _ X.A (handleBy (.ref a) X.env []) _ _ _
      refine wpAny_handleBy_nil ?_
      obtain ⟨k1, k2, k3, oe, vs, T, oT, ts', he, hz, hd, h1, hr⟩ := id fl5
      unfold PySem.passOn
      have fin : wpAny (model X.prog X.w) X.A (setFlight (.ref a) X.env.frame) (fun _ t4 => wpAny (model X.prog X.w) X.A (throw (.ref a) : Sem Flow) (SP X pins D) X.xe t4) X.xe { s' with heap := h3.push { cls := .type "tuple", data := .seq [Value.ref C1, .ref C2, .ref C3].toArray } } := by
        rw [hf]
        exact HandSPX.setFlight_upZ fl5 fun h4 hh4 up4 => wpAny_throw (tk _ _ ⟨a, B, sI, pins, σ', H', cls, d, rfl, J, nb, up5.trans up4, .inr (.inr (by rw [hs]; exact hh4)), na, os, ag, hno rfl⟩)
      refine wpAny_bind (wpAny_field he hd h1 ?_)
      rw [if_neg (show ¬ ((Value.ref T == Value.none) = true) from by simp)]
      first
        | exact wpAny_bind (wpAny_pure (wpAny_bind fin))
        | exact wpAny_bind fin
  refine wpAny_Try_except (wpAny_mono (B0.run [] s σ H D (I.toTry _) h) (fun f s1 hsp => ?_) (fun e s1 he => he))
  cases f with
  | next =>
    obtain ⟨σ2, H2, J2, q⟩ := hsp
    exact wpAny_execs_nil ⟨σ2, H2, J2.ofTry ok, q⟩
  | brk =>
    obtain ⟨σ2, H2, J2, q⟩ := hsp
    exact ⟨σ2, H2, J2.ofTry ok, q⟩
  | cont =>
    obtain ⟨σ2, H2, J2, q⟩ := hsp
    exact ⟨σ2, H2, J2.ofTry ok, q⟩
  | ret u =>
    obtain ⟨v, σ2, H2, J2, r, q⟩ := hsp
    exact ⟨v, σ2, H2, J2.ofTry ok, r, q⟩
end
end L2

set_option Elab.async false
set_option linter.all false
set_option maxRecDepth 100000
set_option maxHeartbeats 4000000
/-! VxU: raise C(v), C an error class of the program with its own __init__. -/
namespace L2
open PySem PySem.Spec PyProof.Rows
section
variable {X : Cx} {CX : CXT} {k : Nat} {C fI : Addr} {fd : FuncData} {ps : List Str} {sp : Sp} {x f : Str} {p pos : Pos} {e : Expr} {es : List Expr} {t : TA} {te : TE}
theorem run_xmk {pins : List (Addr × Obj)} {σ : St} {H : Hp} {s : Shared} {Q : XK} {us zs : List Value} {kw : List (Str × Value)} {vs : List V} (T : Xc X.K C) (iC : PySem.W.findIn X.K (.ref C) "__init__" = some (some (.ref fI))) (tI : PySem.W.typeIn X.K (.ref fI) = some (.type "function"))
    (F1 : FnOk X.prog X.w X.K X.mg X.base CX k fI fd ps sp) (hr : Room (k + 1) X.A) (hx : Passes CX X (fun _ _ _ => False)) (hz : us.length ≤ sizeLine)
    (hb : ∀ (s : Shared) (a : Addr), X.K.In s.heap → BindsTo s fd ⟨Value.ref a :: us, kw⟩ (ps.zip (Value.ref a :: zs))) (I : Inv X pins σ H s) (r : Vals vs zs)
    (h : ∀ a, H a = none → sp (.ref a :: vs) (upd H a (exo a C none)) (fun v H2 => v = .non ∧ ∃ (d : Addr) (fs : List (Str × V)), H2 a = some (exo a C (some d)) ∧ H2 d = some (exd d fs) ∧ H d = none ∧ Q (.ref C) (some d) (upd (del H2 a) d (.xd fs))) (fun _ _ _ => False)) :
    wpAny (model X.prog X.w) X.A (call (.ref C) us kw) (MkP X pins σ Q) X.xe s := by
  obtain ⟨nm, q, N, bs, bm, sn, sub, ab, col, dd, k0, k1, k2, k3, k5, B, newId, initId, bmB, hC, FB, hbm⟩ := T.cls
  have hT : ∀ Y : String, bm.contains (.type Y) = bmB.contains (.type Y) := fun Y => by
    have z := PySem.W.excTail_contains Y _ hbm.tail
    rw [List.contains_cons] at z
    have e : (Value.type Y == Value.ref C) = false := rfl
    rw [e, Bool.false_or] at z
    exact z
  obtain ⟨hp, g, dr, tk, os⟩ := s
  have lo : hp.objs.size ≤ hp.objs.size + 1 := Nat.le_succ _
  have hn : H (hp.objs.size + 1) = none := I.hok.fresh lo
  have hq := h (hp.objs.size + 1) hn
  let h2 : Heap := (hp.push (PySem.W.kdv_tup us)).push (PySem.HandSPX.excO C hp.objs.size)
  have kk : ∀ b o, hp.get? b = some o → h2.get? b = some o := fun b o e => Heap.get?_push_of_some _ (Heap.get?_push_of_some _ e)
  have hget : h2.get? (hp.objs.size + 1) = some (PySem.HandSPX.excO C hp.objs.size) := by heap_get
  have I2 : Inv X pins σ (upd H (hp.objs.size + 1) (exo (hp.objs.size + 1) C none)) ⟨h2, g, dr, tk, os⟩ :=
    I.laid (t' := tk) (o := exo (hp.objs.size + 1) C none) kk lo (exo_ok hget)
  have r2 : Vals (V.ref (hp.objs.size + 1) :: vs) (Value.ref (hp.objs.size + 1) :: zs) := .cons rfl r
  refine wpAny_call (VxS.call_K FB hT (I.kIn _ _ hC) (PySem.W.looks_findIn I.kIn iC) (fun self => PySem.W.bind_fn I.kIn self tI) hz
    (codeAny_mono (F1.run _ X.stack _ _ ⟨Value.ref (hp.objs.size + 1) :: us, kw⟩ (Value.ref (hp.objs.size + 1) :: zs) _ _ (fun _ _ _ => False) (hr.make C us kw) (I2.env0.make C us kw) (hb _ _ I2.kIn) r2 hq) fun r s' hq' => ?_))
  match r, hq' with
  | .error er, hq' => exact hx pins σ _ _ er s' I2 hq'
  | .ok (.ret u), hq' =>
    obtain ⟨v, H2, os2, bare2, un2, hok2, rv, ev, d, fs, ea, ed, hd1, q2⟩ := hq'
    subst ev
    obtain ⟨h3, g2, d2, t2, os'⟩ := s'
    exact ⟨rv, mk_end (raises_own T.exC T.tyC) I lo kk un2 hok2 os2 bare2 ea ed hd1 q2⟩
  | .ok .next, hq' => exact hq'.elim
  | .ok .brk, hq' => exact hq'.elim
  | .ok .cont, hq' => exact hq'.elim
/-- raise C(e): W is what is wished of the error -/
def tX1e (C : Addr) (f : Str) (te : TE) : St → Hp → XK → Prop := fun σ H Q => te σ H fun u H1 => ∃ v, [u] = [v] ∧ ∀ dd H', H1 dd = none → Same H1 H' → H' dd = some (.xd [(f, v)]) → Q (.ref C) (some dd) H'
theorem pmk_x1 (B : XK1 X.prog X.w X.K X.mg X.base x f C) (hr : Room 2 X.A) (hg : Gl X x) (he : PE X e te) (hdb : (x == ("__debug__" : Str)) = false := by decide) (hs : starEach [e] X.env = (false, eval e X.env) :: starEach [] X.env := by rfl) (hpl : (backTo pos (starEach [] X.env)).any (·.1) = false := by rfl) :
    PMk X (.Call (.Name x p) [e] [] pos) (tX1e C f te) := by
  obtain ⟨fI, fd, i1, i2, F, bd, _⟩ := B.ex
  intro pins s σ H Q I h
  refine wpAny_Call_Name_kw (ld_glob I hg B.hm ?_ hdb)
  refine PySem.W.callWith_K (h₀ := X.base) I.ok.mod.kin B.T.kC (thn ((pa_cons he pa_nil hs).run pos pins s σ H (fun vs H1 => ∃ v, vs = [v] ∧ ∀ dd H', H1 dd = none → Same H1 H' → H' dd = some (.xd [(f, v)]) → Q (.ref C) (some dd) H') I ?_) fun us s1 hh => ?_) hs hpl
  · exact h
  obtain ⟨vs, H1, I1, r1, v, rfl, q⟩ := hh
  have hl : us.length = 1 := r1.length.symm
  refine ⟨I1.kIn, run_xmk (us := us) (vs := [v]) B.T i1 i2 F hr pass0 (by rw [hl]; decide) (fun s a kin => ?_) I1 r1 fun a ha => ⟨a, v, rfl, upd_same, fun dx n ne => ⟨rfl, dx, [(f, v)], upd_same, (by rw [upd_ne ne, upd_same]), ?_, q dx _ ?_ (fun b o z => ?_) upd_same⟩⟩⟩
  · have z := bd s (Value.ref a :: us) kin (by rw [List.append_nil, List.length_cons, hl]; rfl)
    rw [List.append_nil] at z
    exact z
  · rw [← n, upd_ne ne]
  · rw [← n, upd_ne ne]
  · have hd : H1 dx = none := by rw [← n, upd_ne ne]
    rw [upd_ne (ne_of_none z hd), del_ne (ne_of_none z ha), upd_ne (ne_of_none z ha), upd_ne (ne_of_none z hd), upd_ne (ne_of_none z ha)]
    exact z
/-- raise C(e) -/
theorem ps_x1 {W : WX} {pos2 : Pos} (hc : X.calm = true) (tk : Takes X W) (B : XK1 X.prog X.w X.K X.mg X.base x f C) (hr : Room 2 X.A) (hg : Gl X x) (he : PE X e te) (hdb : (x == ("__debug__" : Str)) = false := by decide)
    (hs : starEach [e] X.env = (false, eval e X.env) :: starEach [] X.env := by rfl) (hpl : (backTo pos (starEach [] X.env)).any (·.1) = false := by rfl) :
    PS X (.Raise (some (.Call (.Name x p) [e] [] pos)) none pos2) (fun _ σ H => tX1e C f te σ H fun cls d H' => W cls d σ H') := ps_raise hc tk (pmk_x1 B hr hg he hdb hs hpl)
end
end L2

set_option Elab.async false
set_option linter.all false
set_option maxRecDepth 100000
set_option maxHeartbeats 4000000
/-! VxK: list.count of a truth value -/
namespace L2
open PySem PySem.Spec PyProof.Rows
def isB (b : Bool) (v : Value) : Bool := match v with
  | .bool c => c == b
  | _ => false
theorem isB_at {A : Around} {s : Shared} {b : Bool} : ∀ {bs : List Bool} {us : List Value}, Vals (bs.map V.bl) us → ∀ y ∈ us, SeqAt.EqAt A s y (.bool b) (isB b y)
  | [], _, r, y, hy => by
    cases r
    cases hy
  | c :: bs, _, r, y, hy => by
    cases r with
    | cons r1 r2 =>
      cases r1
      rcases List.mem_cons.mp hy with e | e
      · rw [e]
        exact SeqAt.EqAt.bool_bool c b
      · exact isB_at r2 y e
theorem isB_count {b : Bool} : ∀ {bs : List Bool} {us : List Value}, Vals (bs.map V.bl) us → us.countP (isB b) = bs.count b
  | [], _, r => by
    cases r
    rfl
  | c :: bs, _, r => by
    cases r with
    | cons r1 r2 =>
      cases r1
      rw [List.countP_cons, List.count_cons, isB_count r2] <;> rfl
def rCntB (K : PySem.W.Frag) : V → List V → Hp → VK → Prop := fun x xs H Q => ∃ (p : Addr) (bs : List Bool) (b : Bool), x = .ref p ∧ xs = [.bl b] ∧ SqL K H p (bs.map V.bl) ∧ Q (.int (bs.count b : Nat)) H
theorem mt_countB {X : Cx} : MtR X "list.count" (rCntB X.K) := by
  intro pins s σ H x xs v us Q I rx rxs h
  obtain ⟨p, bs, b, rfl, rfl, hs, q⟩ := h
  cases rx
  obtain ⟨u, rfl, ru⟩ := rxs.one
  cases ru
  obtain ⟨its, rv, ⟨o, n, ho, hc, hdn, hd⟩, hlen⟩ := I.list hs
  obtain ⟨cls, dd, data, sl⟩ := o
  dsimp only at hc hd
  subst hc hd
  refine call_meets PySem.F.slot_list_count ⟨_, ho, rfl⟩ PySem.F.entry_list_count (PySem.F.args_list_count_2 _ _)
    (SeqAt.list_countAt p its.toArray n dd sl (.bool b) (isB b)) ⟨ho, fun y hy => isB_at rv y (by simpa using hy), ?_⟩
  refine ⟨.int (bs.count b : Nat), H, I.tok _, ⟨s.toks, ?_⟩, q⟩
  have e : its.countP (isB b) = bs.count b := isB_count rv
  show Value.int ((its.toArray.toList.countP (isB b) : Nat) : Int) s.toks = _
  rw [show its.toArray.toList = its from rfl, e]
end L2

set_option Elab.async false
set_option linter.all false
set_option maxRecDepth 100000
set_option maxHeartbeats 2000000
/-! VxP: a value's type and what isinstance says of it, for values that are data. -/
namespace L2
open PySem PySem.Spec PyProof.Rows
def tyN : PyData → String
  | .none => "NoneType"
  | .bool _ => "bool"
  | .int _ => "int"
  | .str _ => "str"
  | .list _ => "list"
  | .tuple _ => "tuple"
  | .dict _ => "dict"
theorem ty_lst {K : PySem.W.Frag} {H : Hp} {a : Addr} {xs : List V} (h : SqL K H a xs) : TyX K H (.ref a) (.type "list") := by
  rcases h with h | ⟨o, its, n, e, c, _⟩
  · rcases h with h | ⟨o, h⟩
    · exact .base (.lst h)
    · exact .base (.frz h)
  · exact .kList e c
theorem ty_tup {K : PySem.W.Frag} {H : Hp} {a : Addr} {xs : List V} (h : SqT K H a xs) : TyX K H (.ref a) (.type "tuple") := by
  rcases h with h | ⟨o, its, n, e, c, _⟩
  · rcases h with h | ⟨o, h⟩
    · exact .base (.tup h)
    · exact .fTuple h
  · exact .kTuple e c
theorem Sd.ty {K : PySem.W.Frag} {H : Hp} {v : V} {d : PyData} (h : Sd K H v d) : TyX K H v (.type (tyN d)) := by
  cases h with
  | non => exact .base .non
  | bl b => exact .base (.bl b)
  | int i => exact .base (.int i)
  | str x => exact .base (.str x)
  | lst h _ => exact ty_lst h
  | tup h _ => exact ty_tup h
  | emp h => exact .base (.dK h)
  | one h _ => exact .base (.dK h)
/-- isinstance's answer -/
def isD (d : PyData) (t : String) : Bool := tyN d == t || (t == "int" && tyN d == "bool")
def plainT (t : String) : Bool := ["int", "bool", "str", "tuple", "list", "dict"].contains t
theorem kit_data {K : PySem.W.Frag} (d : PyData) {t : String} (h : plainT t = true) : PySem.W.kitOne K (.type (tyN d)) (.type t) = some (isD d t) := by
  have e : t = "int" ∨ t = "bool" ∨ t = "str" ∨ t = "tuple" ∨ t = "list" ∨ t = "dict" := by
    unfold plainT at h
    simpa using h
  have key : kitB (tyN d) t = some (isD d t) := by
    rcases e with rfl | rfl | rfl | rfl | rfl | rfl <;> cases d <;> first | decide +kernel | rfl
  exact kit_ty key
section
variable {X : Cx}
/-- isinstance(v, T) of data -/
def rIsD (K : PySem.W.Frag) : List V → Hp → VK → Prop := fun xs H Q => ∃ (v : V) (d : PyData) (t : String), xs = [v, .ty t] ∧ plainT t = true ∧ Sd K H v d ∧ Q (.bl (isD d t)) H
theorem call_isD : CallR X (.builtin "isinstance") (rIsD X.K) := by
  intro pins s σ H xs us Q I r h
  obtain ⟨v, d, t, rfl, ht, hv, q⟩ := h
  exact call_isi pins s σ H _ us Q I r ⟨v, .ty t, _, .type t, _, rfl, .ty t, hv.ty, kit_data d ht, q⟩
end
end L2

set_option Elab.async false
set_option linter.all false
set_option maxRecDepth 100000
/-! VxTy: != of built-in types. -/
namespace PySem.TypeEq
open Sem (wp)
theorem slot_type_ne : Slot "type" (cmpInfo .NotEq).2.1 "object.__ne__" :=
  .of (owner := "object") (n := "__ne__") (by rw [typeLookup_type, builtinLookup_eq_fast]; kernel_rfl) (by decide +kernel) (by decide +kernel) (by decide +kernel)
    (by first | exact .inl (by decide +kernel) | exact .inr (by decide +kernel)) (by rw [isSubtype_type]; kernel_rfl)
theorem slot_type_ne_refl : Slot "type" (cmpInfo .NotEq).2.2 "object.__ne__" :=
  .of (owner := "object") (n := "__ne__") (by rw [typeLookup_type, builtinLookup_eq_fast]; kernel_rfl) (by decide +kernel) (by decide +kernel) (by decide +kernel)
    (by first | exact .inl (by decide +kernel) | exact .inr (by decide +kernel)) (by rw [isSubtype_type]; kernel_rfl)
section
variable {prog : Program} {w : World} {A : Around} {E : Value → Shared → Prop} {s : Shared}
theorem ne_entry_same {X : String} (hX : ∀ s' : Shared, s'.TypeIs (.type X) "type") {Q : PySem.Fin → Shared → Prop} (q : Q (.done (.ret (.bool false))) s) : wpAny (model prog w) A (Builtin.«object.__ne__» ⟨[.type X, .type X], []⟩) Q E s := by
  unfold Builtin.«object.__ne__»
  repeat (first
    | with_reducible refine wpAny_cRoomFor_byValue rfl ?_
    | (refine wpAny_bind (m := callSpecialIfBound? (.type X) (Str.ofString "__eq__") [.type X])
        (wpAny_callSpecialIfBound?_slot (hX s) slot_type_eq (call_gives slot_type_eq (hX s) F.entry_object_eq (F.args_object_eq_2 _ _) (object_eq_same rfl (by simp)) ?_)))
    | wp_step)
  exact wpAny_bind (wpAny_truthy_bool (wpAny_pure q))
theorem ne_entry_other {X Y : String} (hX : ∀ s' : Shared, s'.TypeIs (.type X) "type") (hne : (Value.type X == Value.type Y) = false) {Q : PySem.Fin → Shared → Prop} (q : Q (.done (.ret .notImplemented)) s) : wpAny (model prog w) A (Builtin.«object.__ne__» ⟨[.type X, .type Y], []⟩) Q E s := by
  unfold Builtin.«object.__ne__»
  repeat (first
    | with_reducible refine wpAny_cRoomFor_byValue rfl ?_
    | (refine wpAny_bind (m := callSpecialIfBound? (.type X) (Str.ofString "__eq__") [.type Y])
        (wpAny_callSpecialIfBound?_slot (hX s) slot_type_eq (call_gives slot_type_eq (hX s) F.entry_object_eq (F.args_object_eq_2 _ _) (object_eq_other rfl hne) ?_)))
    | wp_step)
  exact wpAny_pure q
theorem ne_type_same {X : String} {Q : Value → Shared → Prop} (hX : ∀ s' : Shared, s'.TypeIs (.type X) "type") (h : Q (.bool false) s) : wpAny (model prog w) A (compareOp .NotEq (.type X) (.type X)) Q E s := by
  show wpAny _ A (richCompare .NotEq _ _) Q E s
  exact wpAny_richCompare_same (T := "type") (hX s) (hX s) slot_type_ne
    (wpAny_call_entry slot_type_ne (hX s) F.cmpEntry_ne (ne_entry_same hX ⟨_, rfl, (by intro e; cases e), h⟩) (F.cmpArgs_ne _ _))
theorem ne_type_other {X Y : String} {Q : Value → Shared → Prop} (hX : ∀ s' : Shared, s'.TypeIs (.type X) "type") (hY : ∀ s' : Shared, s'.TypeIs (.type Y) "type") (hne : (Value.type X == Value.type Y) = false) (h : Q (.bool true) s) : wpAny (model prog w) A (compareOp .NotEq (.type X) (.type Y)) Q E s := by
  have hne' : (Value.type Y == Value.type X) = false := by
    rw [Bool.eq_false_iff] at hne ⊢
    intro e
    exact hne (by rw [beq_iff_eq] at e ⊢; exact e.symm)
  show wpAny _ A (richCompare .NotEq _ _) Q E s
  simp only [richCompare, cmpInfo_NotEq, (hX s).oneThing_none]
  try with_reducible refine wpAny_holding ?_
  refine wpAny_bind (wpAny_cRoomFor_byValue rfl ?_)
  refine wpAny_bind (wpAny_typeOf (hX s) (wpAny_bind (wpAny_typeOf (hY s) ?_)))
  simp only [bne_self_eq_false, Bool.false_eq_true, if_false, pure_bind, Bool.not_false, if_true]
  refine wpAny_bind (wpAny_tryCompare_declines (hX s) slot_type_ne (wpAny_call_entry slot_type_ne (hX s) F.cmpEntry_ne (ne_entry_other hX hne ⟨_, rfl, rfl, ?_⟩) (F.cmpArgs_ne _ _)))
  refine wpAny_bind (wpAny_tryCompare_declines (hY s) slot_type_ne_refl (wpAny_call_entry slot_type_ne_refl (hY s) F.cmpEntry_ne (ne_entry_other hY hne' ⟨_, rfl, rfl, ?_⟩) (F.cmpArgs_ne _ _)))
  refine wpAny_bind (wpAny_rule (wpAny_bind (wpAny_of_eq (isSame_plain rfl) (wpAny_pure ?_))))
  rw [hne]
  exact h
end
end PySem.TypeEq

set_option Elab.async false
set_option linter.all false
set_option maxRecDepth 100000
set_option maxHeartbeats 2000000
/-! VxSt: type(v) of data, == and != of built-in types, set(t) of a tuple of integers, sorted of a set of any size. -/
namespace L2
open PySem PySem.Spec PyProof.Rows
/-- the heap has grown; nothing else is told of the two states -/
structure Grown (s s' : Shared) : Prop where
  old : ∀ b o, s.heap.get? b = some o → s'.heap.get? b = some o
  big : s.heap.objs.size ≤ s'.heap.objs.size
  gens : s'.gens = s.gens
  os : s'.os = s.os
section
variable {P : Program} {w : World} {A : Around} {E : Value → Shared → Prop} {s : Shared}
/-- sorted(x), where gathering x gives integers, however many -/
theorem sorted_gathered {x : Value} {ns : List Int} {Q : Value → Shared → Prop} (small : ns.length ≤ sizeLine)
    (gather : ∀ R : List Value → Shared → Prop, (∀ s1 vs ms, Grown s s1 → IntsAre vs ms → ms.Perm ns → R vs s1) → wpAny (model P w) A.in1 (collect x) R E s)
    (after : ∀ s' p out c ms, Grown s s' → s.heap.objs.size ≤ p → s'.heap.get? p = some (seqObj "list" (List.toArray out) c) → IntsAre out ms → ms.Perm ns → ms.Pairwise (· ≤ ·) → Q (.ref p) s') :
    wpAny (model P w) A (call (.builtin "sorted") [x]) Q E s := by
  apply Calls.call_function_entry kind_sorted plain_sorted entry_sorted (args_sorted1 x)
  unfold Builtin.«sorted»
  apply wpAny_bind
  apply wpAny_pure
  apply wpAny_bind
  apply gather
  intro s1 vs ms gr whole_ perm
  have room : vs.length ≤ sizeLine := by
    rw [whole_.length, perm.length_eq]
    exact small
  apply wpAny_bind
  refine wpAny_newList ?_ room
  have made : (s1.heap.push (seqObj "list" vs.toArray 0)).get? s1.heap.objs.size = some (seqObj "list" vs.toArray 0) := Heap.get?_push_size _ rfl
  apply wpAny_bind
  apply wpAny_holding
  refine wpAny_call_entry slot_list_sort ⟨_, made, rfl⟩ entry_list_sort ?_ (args_list_sort _)
  refine SrtO.list_sort_ord SrtO.swo_int made room (fun two => SrtO.ints_sortable whole_ two) fun out so st => ?_
  obtain ⟨i1, i2, i3⟩ := SrtO.ints_out whole_ so st
  obtain ⟨c, lies⟩ := sortedHeap_at (vs := vs) (out := out.toArray) made
  refine ⟨_, rfl, wpAny_pure ⟨_, rfl, after _ _ out c _ ⟨fun b u e => ?_, ?_, gr.gens, gr.os⟩ gr.big lies i1 (i2.trans perm) i3⟩⟩
  · have e1 := gr.old b u e
    have lt := Heap.lt_size e1
    have ne : b ≠ s1.heap.objs.size := Nat.ne_of_lt lt
    refine Eq.trans (sortedHeap_old ne ?_) (Heap.get?_push_of_some _ e1)
    rw [size_push']
    exact Nat.lt_succ_of_lt lt
  · exact Nat.le_trans gr.big (Nat.le_of_lt (Heap.lt_size lies))
theorem sorted_setN {a : Addr} {S : Int → Bool} {n : Nat} {Q : Value → Shared → Prop} (R : SetR w s.heap a S n) (hh : A.handled = none) (small : n ≤ sizeLine)
    (after : ∀ s' p out c (ms : List Int), Grown s s' → s.heap.objs.size ≤ p → s'.heap.get? p = some (seqObj "list" (List.toArray out) c) → IntsAre out ms → ms.Pairwise (· < ·) → (∀ k, k ∈ ms ↔ S k = true) → ms.length = n → Q (.ref p) s') :
    wpAny (model P w) A (call (.builtin "sorted") [.ref a]) Q E s := by
  obtain ⟨o, es, ep, t, at_, kind, data, keys, dis, mem, few, fit, count, ris, led⟩ := R
  have len : (es.toList.map keyOf).length = n := by
    rw [List.length_map, Array.length_toList]
    exact count
  refine sorted_gathered (ns := es.toList.map keyOf) (by rw [len]; exact small) (fun G more => ?_) fun s' p out c ms gr hp lies whole_ perm asc => ?_
  · refine collect_set (A := A.in1) hh ⟨o, at_, kind.1, data⟩ fit few ris led fun s1 vs keep big gens os perm => more s1 vs (vs.map Builtin.Re.reRawOf) ⟨keep, big, gens, os⟩ (ints_of vs fun v hv => ?_) ?_
    · obtain ⟨e, he, q⟩ := List.mem_map.mp (perm.mem_iff.mp hv)
      obtain ⟨k, tk, h1, _⟩ := keys e he
      exact ⟨k, tk, q ▸ h1⟩
    · have q := perm.map Builtin.Re.reRawOf
      rwa [List.map_map] at q
  · refine after s' p out c ms gr hp lies whole_ (lt_of_le_nodup _ asc (perm.nodup_iff.mpr dis)) (fun k => ?_) (perm.length_eq.trans len)
    rw [perm.mem_iff, ← mem k]
end
section
variable {X : Cx}
/-- set(t), a tuple of whole_ -/
def rSetT (K : PySem.W.Frag) (w : World) : List V → Hp → VK → Prop := fun vs H Q => ∃ (p : Addr) (ns : List Int), vs = [.ref p] ∧ SqT K H p (ns.map V.int) ∧ ns.length + 1 < scanBound ∧ ∀ a c, H a = none → c ≤ ns.length → Q (.ref a) (upd H a (SetO w a (fun j => decide (j ∈ ns)) c))
theorem cr_setT (hc : X.calm = true) : CallR X (.type "set") (rSetT X.K X.w) := by
  intro pins s σ H vs us Q I r h
  obtain ⟨p, ns, rfl, hq, hb, q⟩ := h
  rw [Vals.ref1 r]
  obtain ⟨its, rv, pt, hz⟩ := I.tuple hq
  refine call_set_tupI ns (I.ok.hd hc) (show s.heap.IsTuple p its.toArray from pt) (ints_of_vals rv) hb fun h' tk c R hcn k => ?_
  exact ⟨.ref _, upd H s.heap.objs.size (SetO X.w s.heap.objs.size (fun j => decide (j ∈ ns)) c), I.laid (t' := tk) k (Nat.le_refl _) (setO_new R), rfl, q _ c (I.hok.fresh (Nat.le_refl _)) hcn⟩
/-- sorted(found), a set of whole_ of any size -/
def rSortedSetN (w : World) : List V → Hp → VK → Prop := fun vs H Q => ∃ (a : Addr) (S : Int → Bool) (n : Nat), vs = [V.ref a] ∧ H a = some (SetO w a S n) ∧ n ≤ sizeLine ∧
  ∀ (ns : List Int) (p : Addr), ns.Pairwise (· < ·) → (∀ k : Int, k ∈ ns ↔ S k = true) → ns.length = n → H p = none → Q (.ref p) (upd H p (.lst (ns.map V.int)))
theorem cr_sortedSetN (hc : X.calm = true) : CallR X (.builtin "sorted") (rSortedSetN X.w) := by
  intro pins s σ H vs us Q I r h
  obtain ⟨a, S, n, rfl, ha, hz, q⟩ := h
  have R := setO_get I ha
  rw [Vals.ref1 r]
  refine sorted_setN R (I.ok.hd hc) hz fun s' p out c ns gr hp lies whole_ asc mem len => ?_
  have room : (ns.map V.int).length ≤ sizeLine := by
    rw [List.length_map, len]
    exact hz
  have fresh : H p = none := I.hok.fresh hp
  have whole : s' = { s with heap := s'.heap, gens := s'.gens, drawn := s'.drawn, toks := s'.toks } := by
    obtain ⟨_, _, _, _, os'⟩ := s'
    have eo : os' = s.os := gr.os
    rw [eo]
  rw [whole]
  refine ⟨.ref p, upd H p (.lst (ns.map V.int)), ?_, rfl, q ns p asc mem len fresh⟩
  exact I.call (ch := []) (Un.laid gr.old hp fresh) (I.hok.laid gr.old hp ⟨room, out, c, vals_of_ints whole_, lies⟩) (by rw [gr.gens]; exact I.bare) fun _ z => nomatch z
/-- type(v) of data -/
theorem sd_typeIs {pins : List (Addr × Obj)} {σ : L2.St} {H : Hp} {s : Shared} {v : V} {u : Value} {d : PyData} (I : Inv X pins σ H s) (r : RelV v u) (h : Sd X.K H v d) : s.TypeIs u (tyN d) := by
  cases h with
  | non => cases (show u = Value.none from r); exact rfl
  | bl b => cases (show u = Value.bool b from r); exact rfl
  | int i => obtain ⟨t, rfl⟩ := (show ∃ t, u = Value.int i t from r); exact rfl
  | str x => obtain ⟨t, rfl⟩ := (show ∃ t, u = Value.str x t from r); exact rfl
  | lst h _ =>
    obtain ⟨its, rv, hl, hz⟩ := I.list h
    obtain ⟨o, n, ho, hc, _⟩ := hl
    cases (show u = Value.ref _ from r)
    exact ⟨o, ho, hc⟩
  | tup h _ =>
    obtain ⟨its, rv, hl, hz⟩ := I.tuple h
    obtain ⟨o, ho, hc, _⟩ := hl
    cases (show u = Value.ref _ from r)
    exact ⟨o, ho, hc⟩
  | emp e =>
    cases (show u = Value.ref _ from r)
    obtain ⟨_, _, vs, _, o, es, ep, h1, h2, _⟩ := I.hok _ _ e
    exact ⟨o, h1, h2.1⟩
  | one e _ =>
    cases (show u = Value.ref _ from r)
    obtain ⟨_, _, vs, _, o, es, ep, h1, h2, _⟩ := I.hok _ _ e
    exact ⟨o, h1, h2.1⟩
def rTyD (K : PySem.W.Frag) : List V → Hp → VK → Prop := fun xs H Q => ∃ (v : V) (d : PyData), xs = [v] ∧ Sd K H v d ∧ Q (.ty (tyN d)) H
theorem call_tyD : CallR X (.type "type") (rTyD X.K) := by
  intro pins s σ H xs us Q I r h
  obtain ⟨v, d, rfl, hv, q⟩ := h
  obtain ⟨u, rfl, ru⟩ := vals1 r
  exact call_type_of (sd_typeIs I ru hv) (by cases d <;> simp only [tyN] <;> decide +kernel) ⟨.ty (tyN d), H, I, rfl, q⟩
/-- T != U of built-in types -/
def tyOk (t : String) : Bool := ["NoneType", "bool", "int", "str", "tuple", "list", "dict"].contains t
theorem meta_tyOk {t : String} (h : tyOk t = true) : ∀ s' : Shared, s'.TypeIs (.type t) "type" := by
  have e : t = "NoneType" ∨ t = "bool" ∨ t = "int" ∨ t = "str" ∨ t = "tuple" ∨ t = "list" ∨ t = "dict" := by
    unfold tyOk at h
    simpa using h
  rcases e with rfl | rfl | rfl | rfl | rfl | rfl | rfl
  · exact PySem.TypeEq.meta_NoneType
  · exact PySem.TypeEq.meta_bool
  · exact PySem.TypeEq.meta_int
  · exact PySem.TypeEq.meta_str
  · exact PySem.TypeEq.meta_tuple
  · exact PySem.TypeEq.meta_list
  · exact PySem.TypeEq.meta_dict
theorem tyN_ok (d : PyData) : tyOk (tyN d) = true := by cases d <;> simp only [tyN] <;> decide
def rNeTy : R2 := fun x y H Q => ∃ m n : String, x = .ty m ∧ y = .ty n ∧ tyOk m = true ∧ tyOk n = true ∧ Q (.bl (!decide (m = n))) H
theorem op_neTy : OpR X (compareOp .NotEq) rNeTy := by
  intro pins s σ H x y v u Q I rx ry h
  obtain ⟨m, n, rfl, rfl, hm, hn, q⟩ := h
  cases (show v = Value.type m from rx)
  cases (show u = Value.type n from ry)
  by_cases e : m = n
  · subst e
    exact PySem.TypeEq.ne_type_same (meta_tyOk hm) ⟨.bl false, H, I, rfl, by simpa using q⟩
  · exact PySem.TypeEq.ne_type_other (meta_tyOk hm) (meta_tyOk hn) (beq_eq_false_iff_ne.mpr fun z => e (Value.type.inj z)) ⟨.bl true, H, I, rfl, by simpa [e] using q⟩
end
end L2

set_option Elab.async false
set_option linter.all false
set_option maxRecDepth 100000
set_option maxHeartbeats 2000000
/-! VxKd: dicts of the written part (module-level constants) with keys that are integers or texts: in, not in, d[k], list(d). -/
namespace L2
open PySem PySem.Spec PyProof.Rows
inductive EntK (w : World) : List DictEntry → List (Key × V) → Prop
  | nil : EntK w [] []
  | cons {e : DictEntry} {k : Key} {v : V} {es : List DictEntry} {kvs : List (Key × V)} : RelV (kV k) e.key → e.hash = keyH w k → RelV v e.val → EntK w es kvs → EntK w (e :: es) ((k, v) :: kvs)
/-- a dict of the written part, its pairs -/
structure KdK (K : PySem.W.Frag) (w : World) (d : Addr) (kvs : List (Key × V)) : Prop where
  low : (d == sysModules) = false
  len : kvs.length ≤ sizeLine
  nd : (kvs.map (·.1)).Nodup
  at_ : ∃ es n, K.lookup d = some ⟨.type "dict", none, .dict es n, #[]⟩ ∧ EntK w es.toList kvs
def valsE : List DictEntry → List (Key × V) → List (Key × Value)
  | e :: es, kv :: kvs => (kv.1, e.val) :: valsE es kvs
  | _, _ => []
theorem entK_kv {w : World} : ∀ {es : List DictEntry} {kvs : List (Key × V)}, EntK w es kvs → KV kvs (valsE es kvs)
  | _, _, .nil => .nil
  | _, _, .cons _ _ r t => .cons ⟨rfl, r⟩ (entK_kv t)
theorem entK_pairs {P : Program} {w : World} : ∀ {es : List DictEntry} {kvs : List (Key × V)}, EntK w es kvs → Pairs (mixKind P w) es (valsE es kvs)
  | _, _, .nil => .nil
  | _, _, .cons k _ _ t => .cons (kV_is k) rfl (entK_pairs t)
theorem entK_keys {P : Program} {w : World} : ∀ {es : List DictEntry} {kvs : List (Key × V)}, EntK w es kvs → ∀ e ∈ es, ∃ k, (mixKind P w).is k e.key = true ∧ e.hash = (mixKind P w).hash k
  | _, _, .nil, e, m => nomatch m
  | _, _, .cons k h _ t, e, m => by
    rcases List.mem_cons.mp m with rfl | m
    · exact ⟨_, kV_is k, h⟩
    · exact entK_keys t e m
theorem kdk_of {P : Program} {K : PySem.W.Frag} {w : World} {h : Heap} {d : Addr} {kvs : List (Key × V)} (X : K.In h) (D : KdK K w d kvs) : ∃ vs, KV kvs vs ∧ h.DictOf (mixKind P w) d vs := by
  obtain ⟨es, n, hl, en⟩ := D.at_
  have kv := entK_kv en
  refine ⟨_, kv, _, es, n, X _ _ hl, ⟨rfl, rfl, rfl⟩, rfl, fun e m => entK_keys en e (Array.mem_toList_iff.mpr m), entK_pairs en, ?_⟩
  rw [← kv.keys]
  exact D.nd
section
variable {X : Cx}
/-- k in d, k not in d -/
def rInKd (K : PySem.W.Frag) (w : World) (neg : Bool) : R2 := fun x y H Q => ∃ (k : Key) (d : Addr) (kvs : List (Key × V)), x = kV k ∧ y = .ref d ∧ KdK K w d kvs ∧ Q (.bl (if neg then !(valV kvs k).isSome else (valV kvs k).isSome)) H
theorem op_inKd : OpR X (compareOp .In) (rInKd X.K X.w false) := by
  intro pins s σ H x y v u Q I rx ry h
  obtain ⟨k, d, kvs, rfl, rfl, D, q⟩ := h
  cases ry
  obtain ⟨vs, rel, dd⟩ := kdk_of (P := X.prog) I.kIn D
  refine wpAny_in_of (kV_is rx) D.low dd.mapOf ?_
  rw [← (rel.val k).isSome_eq]
  exact ⟨.bl _, H, I.tok _, rfl, q⟩
theorem op_notInKd : OpR X (compareOp .NotIn) (rInKd X.K X.w true) := by
  intro pins s σ H x y v u Q I rx ry h
  obtain ⟨k, d, kvs, rfl, rfl, D, q⟩ := h
  cases ry
  obtain ⟨vs, rel, dd⟩ := kdk_of (P := X.prog) I.kIn D
  refine wpAny_notIn_of (kV_is rx) D.low dd.mapOf ?_
  rw [← (rel.val k).isSome_eq]
  exact ⟨.bl _, H, I.tok _, rfl, q⟩
/-- d[k] -/
def rIxKd (K : PySem.W.Frag) (w : World) : R2 := fun x y H Q => ∃ (k : Key) (d : Addr) (kvs : List (Key × V)) (v : V), x = .ref d ∧ y = kV k ∧ KdK K w d kvs ∧ valV kvs k = some v ∧ Q v H
theorem ix_kd : IxR X (rIxKd X.K X.w) := by
  intro value slice pins s σ H x y v u Q I rx ry h hs
  obtain ⟨k, d, kvs, r, rfl, rfl, D, e, q⟩ := h
  obtain rfl : v = Value.ref d := rx
  obtain ⟨vs, rel, dd⟩ := kdk_of (P := X.prog) I.kIn D
  obtain ⟨w', hw, rw'⟩ := RelO.some_of (v := r) (o := valueAt vs k) (by rw [← e]; exact rel.val k)
  exact tail_any dd.typeIs slot_dict_getitem.lookup (wpAny_getItem_of (kV_is ry) dd.mapOf hw ⟨r, H, I.tok _, rw', q⟩) hs
/-- list(d) -/
def rListKd (K : PySem.W.Frag) (w : World) : List V → Hp → VK → Prop := fun xs H Q => ∃ (d : Addr) (kvs : List (Key × V)), xs = [.ref d] ∧ KdK K w d kvs ∧ ∀ p, H p = none → Q (.ref p) (upd H p (.lst (kvs.map fun kv => kV kv.1)))
theorem call_listKd (calm : X.calm = true) : CallR X (.type "list") (rListKd X.K X.w) := by
  intro pins s σ H xs us Q I r h
  obtain ⟨d, kvs, rfl, D, q⟩ := h
  rw [Vals.ref1 r]
  obtain ⟨vs, rel, dd⟩ := kdk_of (P := X.prog) I.kIn D
  obtain ⟨ep, stands⟩ := dd.dictAt
  have names : (kvs.map fun kv => kV kv.1) = vs.map fun kv => kV kv.1 := by
    have e := congrArg (List.map kV) rel.keys
    rw [List.map_map, List.map_map] at e
    exact e
  have many : vs.length ≤ sizeLine := by
    rw [← rel.length]
    exact D.len
  refine PySem.W.kdl_call (PySem.W.kdl_dict (knd := mixKind X.prog X.w) D.low) (I.ok.hd calm) stands many fun h' tk acc c keep lies found => ?_
  have got : Vals (kvs.map fun kv => kV kv.1) acc.toList := by
    rw [names]
    exact keys_at (by rw [Array.length_toList]; exact found.1) fun j v e => found.2 j v (by rwa [Array.getElem?_toList] at e)
  exact ⟨.ref _, upd H s.heap.objs.size (.lst (kvs.map fun kv => kV kv.1)), I.laid (t' := tk) keep (Nat.le_refl _) ⟨by rw [List.length_map]; exact D.len, acc.toList, c, got, by rw [Array.toArray_toList]; exact lies⟩, rfl, q _ (I.hok.fresh (Nat.le_refl _))⟩
end
end L2

set_option Elab.async false
set_option linter.all false
set_option maxRecDepth 100000
set_option maxHeartbeats 4000000
/-! VxLm: a law's end over defs that are promised where nothing is being shown, with the tables of code objects of the defs that make lambdas; the look at the head for it. -/
namespace LamX
open PySem PySem.Spec PyProof.Rows L2
/-- the tables, tracked as empty, beside H -/
def withTabs (T : List Addr) (H : Hp) : Hp := fun b => if b ∈ T then some (.tbl #[]) else H b
theorem withTabs_in {T : List Addr} {H : Hp} {b : Addr} (m : b ∈ T) : withTabs T H b = some (.tbl #[]) := if_pos m
theorem withTabs_off {T : List Addr} {H : Hp} {b : Addr} (m : b ∉ T) : withTabs T H b = H b := if_neg m
abbrev tabO : Obj := { cls := .none, data := .fields #[] }
/-- what is known of a def's code object and its table at the law's call -/
structure TabK (K : PySem.W.Frag) (h : Heap) (p : Addr × Addr) : Prop where
  code : PySem.W.CodeHd h p.1 p.2
  out : K.lookup p.2 = none
  emp : h.get? p.2 = some tabO
section
variable {P : Program} {w : World} {K : PySem.W.Frag} {mg mb : Str → Option Value} {k : Nat} {fa a : Addr} {fd : FuncData} {x : Str} {sp : Sp} {s₁ : Shared} {vs : List Value} {ns : List Int} {cs : List (Addr × Addr)}
/-- over a heap in which the script at most is tracked -/
theorem law_tabs (kin : K.In s₁.heap) (hns : s₁.heap.Ns mainGlobals mg) (hb : s₁.heap.Ns builtinsNs mb) (hbb : ∀ x : Str, x ≠ "__name__" → mb x = bootBuiltins x) (hlim : s₁.heap.NoLimit) (hg : s₁.gens = #[])
    (hbm : ∃ (bm : Addr) (ob : Obj), mg "__builtins__" = some (.ref bm) ∧ bm ≠ builtinsNs ∧ s₁.heap.get? bm = some ob ∧ ob.cls = .type "module" ∧ ob.dict = some builtinsNs ∧ ob.data = .plain)
    (tabs : ∀ p ∈ cs, TabK K s₁.heap p) (ha : s₁.heap.get? a = some { cls := .type "list", data := .seq vs.toArray }) (hr : Room k callerA)
    (F : ∀ base : Heap, K.In base → base.Ns mainGlobals mg → (∀ p ∈ cs, TabB base mg p.1 p.2) → FnG P w K mg base CX0 k fa fd [x] sp) (hbind : ∀ (s : Shared) (u : Value), BindsTo s fd ⟨[u], []⟩ [(x, u)])
    (H : Hp) (only : ∀ b, H b = none ∨ (b = a ∧ ∃ o xs, H b = some (.frz o (.lst xs)))) (hok : HOk P w H s₁.heap) (hK : H a ≠ none → K.lookup a = none)
    (hsp : sp [.ref a] (withTabs (cs.map (·.2)) H) (fun v _ => v = .bl true) fun _ _ _ => False) :
    codeAny (model P w) callerA (.call (.ref fa) ⟨[.ref a], []⟩) (fun r s' => r = .ok (.ret (.bool true)) ∧ OldK s₁.heap s'.heap ∧ s'.os = s₁.os ∧ AllBare s'.gens) s₁ := by
  have isT : ∀ b, b ∈ cs.map (·.2) → ∃ p ∈ cs, p.2 = b ∧ s₁.heap.get? b = some tabO := fun b m => by
    obtain ⟨p, hp, rfl⟩ := List.mem_map.mp m
    exact ⟨p, hp, rfl, (tabs p hp).emp⟩
  have aT : a ∉ cs.map (·.2) := fun m => by
    obtain ⟨_, _, _, z⟩ := isT a m
    rw [ha] at z
    exact nomatch congrArg Obj.data (Option.some.inj z)
  -- an object that is neither the script nor a table is untracked
  have off : ∀ {b : Addr} {o : Obj}, s₁.heap.get? b = some o → b ≠ a → o ≠ tabO → withTabs (cs.map (·.2)) H b = none := fun {b o} e n1 n2 => by
    have nT : b ∉ cs.map (·.2) := fun m => by
      obtain ⟨_, _, _, z⟩ := isT b m
      rw [e] at z
      exact n2 (Option.some.inj z)
    rw [withTabs_off nT]
    rcases only b with z | ⟨z, _⟩
    · exact z
    · exact absurd z n1
  have base_of : ∀ {b : Addr} {o : Obj}, s₁.heap.get? b = some o → b ≠ a → o ≠ tabO → (hidT s₁.heap (withTabs (cs.map (·.2)) H)).get? b = some o := fun e n1 n2 => hidT_get e (off e n1 n2)
  have notA : ∀ {b : Addr} {o : Obj}, s₁.heap.get? b = some o → (∀ xs n, o.data ≠ .seq xs n) → b ≠ a := fun {b o} e n z => by
    rw [z, ha] at e
    have q := congrArg Obj.data (Option.some.inj e)
    exact n _ _ q.symm
  have hokT : HOk P w (withTabs (cs.map (·.2)) H) s₁.heap := fun b u e => by
    by_cases m : b ∈ cs.map (·.2)
    · rw [withTabs_in m] at e
      obtain ⟨_, _, _, z⟩ := isT b m
      cases e
      exact z
    · rw [withTabs_off m] at e
      refine (hok b u e).stay (fun d v hd q => q) (fun d q => ?_) fun d xs q => ?_
      · have nm : d ∉ cs.map (·.2) := fun y => by
          rcases only d with z | ⟨z, _⟩
          · rw [z] at q
            cases q
          · exact aT (z ▸ y)
        rw [withTabs_off nm]
        exact q
      · have nm : d ∉ cs.map (·.2) := fun y => by
          rcases only d with z | ⟨z, _⟩
          · rw [z] at q
            cases q
          · exact aT (z ▸ y)
        rw [withTabs_off nm]
        exact q
  have nsK : ∀ {b : Addr} {m : Str → Option Value}, s₁.heap.Ns b m → (hidT s₁.heap (withTabs (cs.map (·.2)) H)).Ns b m := fun {b m} z => by
    obtain ⟨o, es, ep, e, d, r⟩ := z
    refine ⟨o, es, ep, base_of e (notA e fun xs n y => ?_) fun y => ?_, d, r⟩
    · rw [d] at y
      cases y
    · rw [y] at d
      cases d
  have kinB : K.In (hidT s₁.heap (withTabs (cs.map (·.2)) H)) := fun b o e => hidT_get (kin b o e) (by
    have nT : b ∉ cs.map (·.2) := fun m => by
      obtain ⟨p, hp, e2⟩ := List.mem_map.mp m
      have z := (tabs p hp).out
      rw [e2, e] at z
      cases z
    rw [withTabs_off nT]
    by_cases nb : b = a
    · cases q : H b with
      | none => rfl
      | some u =>
        have z := hK (by rw [← nb, q]; exact fun y => nomatch y)
        rw [← nb, e] at z
        cases z
    · rcases only b with z | ⟨z, _⟩
      · exact z
      · exact absurd z nb)
  have md : L2.Mod K mg (hidT s₁.heap (withTabs (cs.map (·.2)) H)) := ⟨kinB, nsK hns, ⟨mb, nsK hb, hbb⟩, by
    obtain ⟨mc, h1, h2⟩ := hlim
    exact ⟨mc, nsK h1, h2⟩⟩
  have tb : ∀ p ∈ cs, TabB (hidT s₁.heap (withTabs (cs.map (·.2)) H)) mg p.1 p.2 := fun p hp => by
    have tk := tabs p hp
    refine ⟨?_, ?_, fun z => ?_⟩
    · obtain ⟨o, us, f1, f2, f3, f4, f5, f6, f7, e, kind, data, at11, rest⟩ := tk.code
      refine ⟨o, us, f1, f2, f3, f4, f5, f6, f7, base_of e (notA e fun xs n y => ?_) fun y => ?_, kind, data, at11, rest⟩
      · rw [data] at y
        cases y
      · rw [y] at kind
        cases kind
    · obtain ⟨bm, ob, b1, b2, b3, b4, b5, b6⟩ := hbm
      refine ⟨bm, ob, b1, b2, fun z => ?_, fun z => ?_, base_of b3 (notA b3 fun xs n y => ?_) fun y => ?_, b4, b5, b6⟩
      · obtain ⟨o, es, ep, e, d, _⟩ := hns
        rw [← z, b3] at e
        rw [← Option.some.inj e, b6] at d
        cases d
      · have e := tk.emp
        rw [← z, b3] at e
        rw [Option.some.inj e] at b6
        cases b6
      · rw [b6] at y
        cases y
      · rw [y] at b6
        cases b6
    · obtain ⟨o, es, ep, e, d, _⟩ := hns
      rw [z, tk.emp] at e
      rw [← Option.some.inj e] at d
      cases d
  have e0 : Env0 P w K mg (hidT s₁.heap (withTabs (cs.map (·.2)) H)) callerA [] s₁ (withTabs (cs.map (·.2)) H) := ⟨rfl, md, fun b o e => of_hidT e, Nat.le_of_eq (hidT_size _ _), trivial, fun b z => (List.not_mem_nil z).elim, hokT, .of_eq hg⟩
  refine codeAny_mono ((F _ kinB (nsK hns) tb).run callerA rfl hr [] s₁ _ ⟨[.ref a], []⟩ [.ref a] [.ref a] _ _ e0 (hbind s₁ (.ref a)) (.cons rfl .nil) hsp) fun r s' h => ?_
  cases r with
  | error e => exact False.elim h
  | ok fl =>
    cases fl with
    | next => exact False.elim h
    | brk => exact False.elim h
    | cont => exact False.elim h
    | ret u =>
      obtain ⟨v, H', os, bare, un, hok', r', q⟩ := h
      have ev : v = .bl true := q
      rw [ev] at r'
      have eu : u = Value.bool true := r'
      rw [eu]
      have same : ∀ b o, b ∉ cs.map (·.2) → s₁.heap.get? b = some o → s'.heap.get? b = some o := fun b o nb e => by
        rcases only b with z | ⟨_, ob, xs, z⟩
        · exact un.keep b o e (by rw [withTabs_off nb]; exact z) (fun y => (List.not_mem_nil y).elim) fun y => (List.not_mem_nil y).elim
        · have z2 : withTabs (cs.map (·.2)) H b = some (.frz ob (.lst xs)) := by rw [withTabs_off nb]; exact z
          have e1 := (hokT b _ z2).1
          rw [e] at e1
          rw [Option.some.inj e1]
          exact (hok' b _ (un.frzs b ob _ z2)).1
      have grown : ∀ b, b ∈ cs.map (·.2) → ∃ more : Array Value, s'.heap.get? b = some { cls := .none, data := .fields more } := fun b m => by
        obtain ⟨more, z⟩ := un.tbls b #[] (withTabs_in m)
        exact ⟨_, hok' b _ z⟩
      refine ⟨rfl, ⟨fun b o e => ?_, fun b o e => ?_⟩, os, bare⟩
      · by_cases m : b ∈ cs.map (·.2)
        · obtain ⟨p, hp, e2, z⟩ := isT b m
          obtain ⟨more, hm⟩ := grown b m
          subst e2
          rw [z] at e
          cases e
          have tk := tabs p hp
          exact .inr (.inl ⟨(tk.code.tab tk.emp).isCodeTable, rfl, #[], more, rfl, by rw [Array.empty_append]; exact hm⟩)
        · exact .inl (same b o m e)
      · by_cases m : b ∈ cs.map (·.2)
        · obtain ⟨more, hm⟩ := grown b m
          exact ⟨_, hm⟩
        · exact ⟨o, same b o m e⟩
theorem law_callTG (kin : K.In s₁.heap) (hns : s₁.heap.Ns mainGlobals mg) (hb : s₁.heap.Ns builtinsNs mb) (hbb : ∀ x : Str, x ≠ "__name__" → mb x = bootBuiltins x) (hlim : s₁.heap.NoLimit) (hg : s₁.gens = #[])
    (hbm : ∃ (bm : Addr) (ob : Obj), mg "__builtins__" = some (.ref bm) ∧ bm ≠ builtinsNs ∧ s₁.heap.get? bm = some ob ∧ ob.cls = .type "module" ∧ ob.dict = some builtinsNs ∧ ob.data = .plain)
    (tabs : ∀ p ∈ cs, TabK K s₁.heap p) (ha : s₁.heap.get? a = some { cls := .type "list", data := .seq vs.toArray }) (hi : IntsAre vs ns) (hl : ns.length ≤ sizeLine) (hr : Room k callerA)
    (F : ∀ base : Heap, K.In base → base.Ns mainGlobals mg → (∀ p ∈ cs, TabB base mg p.1 p.2) → FnG P w K mg base CX0 k fa fd [x] sp) (hbind : ∀ (s : Shared) (u : Value), BindsTo s fd ⟨[u], []⟩ [(x, u)])
    (hsp : ∀ H : Hp, (∀ p ∈ cs, H p.2 = some (.tbl #[])) → SqL K H a (ns.map V.int) → sp [.ref a] H (fun v _ => v = .bl true) fun _ _ _ => False) :
    codeAny (model P w) callerA (.call (.ref fa) ⟨[.ref a], []⟩) (fun r s' => r = .ok (.ret (.bool true)) ∧ OldK s₁.heap s'.heap ∧ s'.os = s₁.os ∧ AllBare s'.gens) s₁ := by
  have rv : Vals (ns.map V.int) vs := vals_ints hi
  have here : ∀ H : Hp, ∀ p ∈ cs, withTabs (cs.map (·.2)) H p.2 = some (.tbl #[]) := fun H p hp => withTabs_in (List.mem_map.mpr ⟨p, hp, rfl⟩)
  have aT : a ∉ cs.map (·.2) := fun m => by
    obtain ⟨p, hp, e⟩ := List.mem_map.mp m
    have z := (tabs p hp).emp
    rw [e, ha] at z
    exact nomatch congrArg Obj.data (Option.some.inj z)
  cases hk : K.lookup a with
  | some o =>
    have e := kin a o hk
    rw [ha] at e
    have eo := Option.some.inj e
    exact law_tabs kin hns hb hbb hlim hg hbm tabs ha hr F hbind (fun _ => none) (fun _ => .inl rfl) (fun b u z => nomatch (show (none : Option HO) = some u from z)) (fun z => absurd rfl z)
      (hsp _ (here _) (.inr ⟨o, vs.toArray, _, hk, by rw [← eo], by rw [← eo], by rw [← eo], by rw [List.size_toArray, hi.length]; exact hl, by simpa using rv⟩))
  | none =>
    have at_ : onlyAt a { cls := .type "list", data := .seq vs.toArray } (ns.map V.int) a = some (.frz { cls := .type "list", data := .seq vs.toArray } (.lst (ns.map V.int))) := if_pos rfl
    have off : ∀ b, b ≠ a → onlyAt a { cls := .type "list", data := .seq vs.toArray } (ns.map V.int) b = none := fun b nb => if_neg nb
    refine law_tabs kin hns hb hbb hlim hg hbm tabs ha hr F hbind (onlyAt a { cls := .type "list", data := .seq vs.toArray } (ns.map V.int)) (fun b => ?_) (fun b u z => ?_) (fun _ => hk) (hsp _ (here _) (.inl (.inr ⟨{ cls := .type "list", data := .seq vs.toArray }, ?_⟩)))
    · by_cases nb : b = a
      · exact .inr ⟨nb, _, _, by rw [nb]; exact at_⟩
      · exact .inl (off b nb)
    · by_cases nb : b = a
      · subst nb
        rw [at_] at z
        have ez := Option.some.inj z
        subst ez
        exact ⟨ha, by rw [List.length_map]; exact hl, vs, _, rv, ha⟩
      · rw [off b nb] at z
        cases z
    · rw [withTabs_off aT]
      exact at_
end
theorem walk_ofTG {l : PySem.W.OpenLaw} {n k : Nat} {q : Program} {loose : List Str} {XP : (Str → Option Value) → Heap → Prop} {YP : World → Heap → Prop} {d : DefRec} {x : Str}
    (hn : l.most = some n) (hn2 : n ≤ sizeLine) (hdf : d.params.defaults = []) (hr : Room k callerA)
    (F : ∀ (w : World) (mg : Str → Option Value) (fa : Addr) (h : Heap), YP w h → h.Ns mainGlobals mg → mg d.name = some (.ref fa) →
      ∃ (K : PySem.W.Frag) (fd : FuncData) (sp : Sp) (cs : List (Addr × Addr)), K.In h ∧ (∀ p ∈ cs, TabK K h p) ∧ (∀ (s : Shared) (u : Value), BindsTo s fd ⟨[u], []⟩ [(x, u)]) ∧
        (∀ (H : Hp) (a : Addr) (ns : List Int), ns.length ≤ n → (∀ p ∈ cs, H p.2 = some (.tbl #[])) → SqL K H a (ns.map V.int) → sp [.ref a] H (fun v _ => v = .bl true) fun _ _ _ => False) ∧
        ∀ base : Heap, K.In base → base.Ns mainGlobals mg → (∀ p ∈ cs, TabB base mg p.1 p.2) → FnG l.prog w K mg base CX0 k fa fd [x] sp) :
    PySem.W.WalkO q loose XP YP l.row.toRowW d [] (fun f vs => PySem.call f vs) :=
  Att.attach_call hn hdf fun w s₀ s₁ mg mb fa o pm cd doc a vs ns G Y ho hd hcd hmg hobj hints hlen hg => by
    obtain ⟨K, fd, sp, cs, kin, tabs, hb, hsp, hF⟩ := F w mg fa _ Y G.T.g hmg
    exact law_callTG kin G.T.g G.T.b G.T.builtins G.T.nolimit hg G.T.bmain tabs hobj hints (Nat.le_trans hlen hn2) hr hF hb fun H hT hS => hsp H a ns hlen hT hS
end LamX
namespace He
open PySem PySem.Spec PyProof.Rows L2
/-! ### the look at the head: sys.modules beside the module's names, defs at any address, dicts with text keys, one Bool more, empty tables left out -/
abbrev AlL : Type := (AlD × Bool) × List (Option (List (Option (Str × Int))))
def frL (g : Addr → Option Obj) (n : Nat) : PySem.W.Frag := frT g (sysModules :: He5.asA g n)
def obsL (n : Nat) (fa : List Fa) (fn : List He5.DefA) (ts : List Tab) (tf : List Defn) (chk : PySem.W.Frag → Bool) (g : Addr → Option Obj) : AlL :=
  ((He5.obsA fa fn (frL g n), chk (frL g n) && tabsB g tf (frL g n)), ts.map fun t => dicW (frL g n) (t.1 (frL g n)))
structure SaysL (fa : List Fa) (fn : List He5.DefA) (ts : List Tab) (tf : List Defn) (chk : PySem.W.Frag → Bool) (w : World) (h : Heap) (K : PySem.W.Frag) : Prop where
  says : He5.SaysA fa fn K
  chk : chk K = true
  dic : ∀ t ∈ ts, dicW K (t.1 K) = some (keysIn w.params t.2)
  tabs : ∀ p ∈ tf, LamX.TabK K h (cT K p)
theorem map_all {α β : Type} {f g : α → β} : ∀ {l : List α}, l.map f = l.map g → ∀ t ∈ l, f t = g t
  | [], _, _, m => nomatch m
  | x :: r, e, t, m => by
    rw [List.map_cons, List.map_cons] at e
    injection e with e1 e2
    rcases List.mem_cons.mp m with rfl | m
    · exact e1
    · exact map_all e2 t m
theorem saysL_of {n : Nat} {fa : List Fa} {fn : List He5.DefA} {ts : List Tab} {tf : List Defn} {chk : PySem.W.Frag → Bool} {w : World} {h : Heap}
    (e : obsL n fa fn ts tf chk h.get? = ((He5.valA fn, true), ts.map fun t => some (keysIn w.params t.2))) : SaysL fa fn ts tf chk w h (frL h.get? n) := by
  injection e with e1 e2
  injection e1 with e3 e4
  obtain ⟨h1, h2⟩ := ba e4
  refine ⟨e3, h1, map_all e2, fun p hp => ?_⟩
  obtain ⟨h3, h4⟩ := ba (List.all_eq_true.mp h2 p hp)
  cases q : h.get? (cT (frL h.get? n) p).2 with
  | none =>
    rw [q] at h4
    cases h4
  | some o =>
    rw [q] at h4
    exact ⟨PySem.W.codeHd_of_K frT_in h3, frT_none q h4, by rw [q, emptyTab_eq h4]⟩
def hookL (n : Nat) (fa : List Fa) (fn : List He5.DefA) (ts : List Tab) (tf : List Defn) (chk : PySem.W.Frag → Bool) : PySem.W.Hook where
  α := AlL
  obs := fun s => obsL n fa fn ts tf chk s.heap.get?
  val := fun w => ((He5.valA fn, true), ts.map fun t => some (keysIn w.params t.2))
  says := fun w h => ∃ K : PySem.W.Frag, K.In h ∧ SaysL fa fn ts tf chk w h K
  of := fun _ _ e => ⟨_, frT_in, saysL_of e⟩
  keeps := fun _ _ _ ⟨K, hK, c⟩ k => ⟨K, PySem.W.Frag.In.keeps hK k, c.says, c.chk, c.dic, fun p hp => ⟨(c.tabs p hp).code.keeps k, (c.tabs p hp).out, k _ _ (c.tabs p hp).emp⟩⟩
theorem obsL_eq {n : Nat} {fa : List Fa} {fn : List He5.DefA} {ts : List Tab} {tf : List Defn} {chk : PySem.W.Frag → Bool} {g : Addr → Option Obj} {s : Shared} (h : ∀ a, g a = s.heap.get? a) : obsL n fa fn ts tf chk g = (hookL n fa fn ts tf chk).obs s := by
  have e : g = s.heap.get? := funext h
  rw [e] <;> rfl
end He

set_option Elab.async false
set_option linter.all false
set_option maxRecDepth 100000
set_option maxHeartbeats 2000000
/-! VxHd: the look at the head as VxLm's, its part of the heap found with a mask of the addresses seen (in the kernel far cheaper than lists without doubles). -/
namespace He
open PySem PySem.Spec PyProof.Rows L2
def bitT (m a : Nat) : Bool := Nat.beq (Nat.land (Nat.shiftRight m a) 1) 1
def putB (m a : Nat) : Nat := Nat.lor m (Nat.shiftLeft 1 a)
/-- what of the list is new, put ahead; the mask with it -/
def newOf : List Addr → Nat → List Addr → (Nat → List Addr → List Addr) → List Addr
  | [], m, acc, k => k m acc
  | b :: r, m, acc, k => match bitT m b with
    | true => newOf r m acc k
    | false => HandSHeadRun.frNat b fun b => HandSHeadRun.frNat (putB m b) fun m => newOf r m (b :: acc) k
def oneUp (g : Addr → Option Obj) : List Addr → Nat → List Addr → (Nat → List Addr → List Addr) → List Addr
  | [], m, acc, k => k m acc
  | a :: r, m, acc, k => match g a with
    | some o => newOf (refsD o) m acc fun m acc => oneUp g r m acc k
    | none => oneUp g r m acc k
/-- what is reached in n steps, the nearest ahead -/
def asM (g : Addr → Option Obj) : Nat → List Addr → Nat → List Addr
  | 0, f, _ => f
  | n + 1, f, m => f ++ oneUp g f m [] fun m f => asM g n f m
def frM (g : Addr → Option Obj) (n : Nat) : PySem.W.Frag := frT g (asM g n [mainGlobals] (putB 0 mainGlobals) ++ [sysModules, cStatics])
def obsM (n : Nat) (fa : List Fa) (fn : List He5.DefA) (ts : List Tab) (tf : List Defn) (chk : PySem.W.Frag → Bool) (g : Addr → Option Obj) : AlL :=
  ((He5.obsA fa fn (frM g n), chk (frM g n) && tabsB g tf (frM g n)), ts.map fun t => dicW (frM g n) (t.1 (frM g n)))
theorem saysM_of {n : Nat} {fa : List Fa} {fn : List He5.DefA} {ts : List Tab} {tf : List Defn} {chk : PySem.W.Frag → Bool} {w : World} {h : Heap}
    (e : obsM n fa fn ts tf chk h.get? = ((He5.valA fn, true), ts.map fun t => some (keysIn w.params t.2))) : SaysL fa fn ts tf chk w h (frM h.get? n) := by
  injection e with e1 e2
  injection e1 with e3 e4
  obtain ⟨h1, h2⟩ := ba e4
  refine ⟨e3, h1, map_all e2, fun p hp => ?_⟩
  obtain ⟨h3, h4⟩ := ba (List.all_eq_true.mp h2 p hp)
  cases q : h.get? (cT (frM h.get? n) p).2 with
  | none =>
    rw [q] at h4
    cases h4
  | some o =>
    rw [q] at h4
    exact ⟨PySem.W.codeHd_of_K frT_in h3, frT_none q h4, by rw [q, emptyTab_eq h4]⟩
def hookM (n : Nat) (fa : List Fa) (fn : List He5.DefA) (ts : List Tab) (tf : List Defn) (chk : PySem.W.Frag → Bool) : PySem.W.Hook where
  α := AlL
  obs := fun s => obsM n fa fn ts tf chk s.heap.get?
  val := fun w => ((He5.valA fn, true), ts.map fun t => some (keysIn w.params t.2))
  says := fun w h => ∃ K : PySem.W.Frag, K.In h ∧ SaysL fa fn ts tf chk w h K
  of := fun _ _ e => ⟨_, frT_in, saysM_of e⟩
  keeps := fun _ _ _ ⟨K, hK, c⟩ k => ⟨K, PySem.W.Frag.In.keeps hK k, c.says, c.chk, c.dic, fun p hp => ⟨(c.tabs p hp).code.keeps k, (c.tabs p hp).out, k _ _ (c.tabs p hp).emp⟩⟩
theorem obsM_eq {n : Nat} {fa : List Fa} {fn : List He5.DefA} {ts : List Tab} {tf : List Defn} {chk : PySem.W.Frag → Bool} {g : Addr → Option Obj} {s : Shared} (h : ∀ a, g a = s.heap.get? a) : obsM n fa fn ts tf chk g = (hookM n fa fn ts tf chk).obs s := by
  have e : g = s.heap.get? := funext h
  rw [e] <;> rfl
end He

set_option Elab.async false
set_option linter.all false
set_option maxRecDepth 100000
set_option maxHeartbeats 2000000
namespace Kh
open PySem PySem.Spec PyProof.Rows L2
def top (i : Nat) : Stmt := PySem.Challenge.pw_brinejar_k14_ready_hooks.main.body.getD i (.Pass ⟨0, 0, 0, 0⟩)
abbrev gC (K : PySem.W.Frag) (x : Str) : Addr := He.ga K x
def LET : Str := "abcdefghijklmnopqrstuvwxyzABCDEFGHIJKLMNOPQRSTUVWXYZ"
def OTH : Str := "0123456789_."
end Kh

set_option Elab.async false
set_option linter.all false
set_option maxRecDepth 100000
set_option maxHeartbeats 4000000
namespace Kh
open PySem PySem.Spec PyProof.Rows L2
/-! ### where the defs stand -/
def gAt (x : Str) : PySem.W.Frag → Addr := fun K => He.ga K x
def mAt (C m : Str) : PySem.W.Frag → Addr := fun K => He.ma K (He.ga K C) m
def wAt (C : Str) (T : String) (m : Str) : PySem.W.Frag → Addr := fun K => He5.wf K (He.ga K C) T m
def dF (x : Str) (i : Nat) : He5.DefA := ⟨gAt x, x, x, defArgs (top i), defBody (top i), defScope (top i), [], []⟩
def dM (a : PySem.W.Frag → Addr) (x qual : Str) (st : Stmt) (ds : List He.Dv) : He5.DefA := ⟨a, x, qual, defArgs st, defBody st, defScope st, ds, []⟩
def bigA : Int := (10 ^ 60) ^ 5
def fn : List He5.DefA := ([dF "is_integer" 9, dF "is_text" 10, dF "is_key" 11, dF "is_atom" 12, dF "is_atom_or_node" 35, dF "is_brand" 13, dF "is_free_brand" 14, dF "require_value" 36, dF "require_values" 37, dF "require_key" 39, dF "require_label" 40, dF "require_labels" 51, dF "are_pairs" 41, dF "set_fields" 43, dF "_law_begin" 53, dF "_law_mixed" 54, dF "_law_next" 55, dF "_law_atom" 56, dF "_law_labels" 58, dF "_law_thing" 64, dF "_law_like" 65, dF "_law_fields_right" 66, dF "_law_taken_right" 67, dF "_law_refilled_right" 68, dF "law" 69] : List He5.DefA) ++
  ([dM (mAt "Thing" "__init__") "__init__" "Thing.__init__" (inClass (top 34) 1) [], dM (wAt "Thing" "property" "brand") "brand" "Thing.brand" (inClass (top 34) 2) [], dM (wAt "Thing" "property" "fields") "fields" "Thing.fields" (inClass (top 34) 3) [], dM (mAt "Thing" "set_field") "set_field" "Thing.set_field" (inClass (top 34) 4) [], dM (mAt "Thing" "field") "field" "Thing.field" (inClass (top 34) 5) [], dM (mAt "Book" "__init__") "__init__" "Book.__init__" (inClass (top 32) 1) [], dM (wAt "Book" "classmethod" "of") "of" "Book.of" (inClass (top 32) 2) [], dM (wAt "Book" "property" "pairs") "pairs" "Book.pairs" (inClass (top 32) 3) [], dM (mAt "Book" "enter") "enter" "Book.enter" (inClass (top 32) 4) [], dM (mAt "Row" "__init__") "__init__" "Row.__init__" (inClass (top 31) 1) [], dM (mAt "Fields" "__init__") "__init__" "Fields.__init__" (inClass (top 46) 0) [], dM (mAt "Fields" "__call__") "__call__" "Fields.__call__" (inClass (top 46) 1) [], dM (mAt "Single" "__init__") "__init__" "Single.__init__" (inClass (top 47) 0) [], dM (mAt "Single" "__call__") "__call__" "Single.__call__" (inClass (top 47) 1) [], dM (mAt "Parts" "__init__") "__init__" "Parts.__init__" (inClass (top 48) 0) [], dM (mAt "Parts" "__call__") "__call__" "Parts.__call__" (inClass (top 48) 1) [], dM (mAt "Whole" "__call__") "__call__" "Whole.__call__" (inClass (top 49) 0) [], dM (mAt "Refill" "__call__") "__call__" "Refill.__call__" (inClass (top 50) 0) []] : List He5.DefA)
def fa : List He.Fa := ([.glo "is_integer", .glo "is_text", .glo "is_key", .glo "is_atom", .glo "is_atom_or_node", .glo "is_brand", .glo "is_free_brand", .glo "require_value", .glo "require_values", .glo "require_key", .glo "require_label", .glo "require_labels", .glo "are_pairs", .glo "set_fields", .glo "_law_begin", .glo "_law_mixed", .glo "_law_next", .glo "_law_atom", .glo "_law_labels", .glo "_law_thing", .glo "_law_like", .glo "_law_fields_right", .glo "_law_taken_right", .glo "_law_refilled_right", .glo "law", .glo "Node", .glo "Book", .glo "Thing", .glo "Row", .glo "Fields", .glo "Single", .glo "Parts", .glo "Whole", .glo "Refill"] : List He.Fa) ++
  ([.free "isinstance", .free "int", .free "bool", .free "str", .free "tuple", .free "len", .free "all", .free "list", .free "repr", .free "range", .free "min", .free "zip", .int "ATOM_LIMIT" bigA, .int "TEXT_LIMIT" 2000, .int "BRAND_LIMIT" 40, .str "LETTERS" LET, .str "OTHER_BRAND_SIGNS" OTH, .str "RESERVED_BRAND" "bag"] : List He.Fa) ++
  ([.cls "Thing", .cls "Book", .cls "Row", .cls "Fields", .cls "Single", .cls "Parts", .noat "Thing" "_entries", .noat "Thing" "_brand", .noat "Book" "_entries", .noat "Row" "_sequence", .noat "Fields" "_brand", .noat "Fields" "_labels", .noat "Single" "_thing", .noat "Parts" "_labels", .mkr "Thing", .mkr "Book", .mkr "Row", .mkr "Fields", .mkr "Single", .mkr "Parts", .meth "Thing" "set_field", .meth "Thing" "field", .meth "Book" "enter", .meth "Fields" "__call__", .meth "Single" "__call__", .meth "Parts" "__call__", .meth "Whole" "__call__", .meth "Refill" "__call__"] : List He.Fa)
def propB (K : PySem.W.Frag) (C m : Str) : Bool :=
  He.eqO (PySem.W.findIn K (.ref (gC K C)) m) (some (some (.ref (mAt C m K)))) && (He.eqO (PySem.W.specialIn K (.ref (mAt C m K)) "__get__") (some (some (.builtin "property.__get__"))) && (decide (PySem.W.takesIn K (.ref (mAt C m K)) = some true) &&
  (match PySem.W.recIn K (mAt C m K) "property" with
    | some (.ref _ :: _) => true
    | _ => false)))
def eqB (K : PySem.W.Frag) (C : Str) : Bool :=
  He.eqO (PySem.W.findIn K (.ref (gC K C)) "__eq__") (some (some (.builtin "object.__eq__"))) && (decide (PySem.W.mroIn K (gC K C) (.type "object") = some true) && decide (PySem.W.mroIn K (gC K C) (.ref (gC K C)) = some true))
def nodB (K : PySem.W.Frag) (C : Str) : Bool :=
  He.eqO (PySem.W.findIn K (.ref (gC K C)) "__class__") (some (some (.builtin "object.__class__"))) && (He.eqO (PySem.W.specialIn K (.builtin "object.__class__") "__get__") (some (some (.builtin "getset_descriptor.__get__"))) && (decide (PySem.W.takesIn K (.builtin "object.__class__") = some true) &&
  ((["int", "bool", "str", "tuple", "list", "dict"] : List String).all (fun t => decide (PySem.W.kitOne K (.ref (gC K C)) (.type t) = some false)) && (decide (PySem.W.kitOne K (.ref (gC K C)) (.ref (gC K "Node")) = some true) && eqB K C))))
def datB (K : PySem.W.Frag) : Bool := (["NoneType", "bool", "int", "str", "list", "tuple", "dict"] : List String).all (fun t => decide (PySem.W.kitOne K (.type t) (.ref (gC K "Node")) = some false))
def cmB (K : PySem.W.Frag) (C : Str) : Bool := PySem.W.readsIn K (gC K C) (.type "type") && (He5.wrapB K (gC K C) "classmethod" "classmethod.__get__" "of" && PySem.W.fnIn K (wAt C "classmethod" "of" K))
def neB (K : PySem.W.Frag) (C : Str) : Bool := He.eqO (PySem.W.findIn K (.ref (gC K C)) "__ne__") (some (some (.builtin "object.__ne__")))
def bareB (K : PySem.W.Frag) (C : Addr) : Bool := PySem.W.makesIn K C && (He.eqO (PySem.W.findIn K (.ref C) "__init__") (some (some (.builtin "object.__init__"))) && (PySem.W.keepIn K (.ref C) && decide (PySem.W.mroIn K C (.type "object") = some true)))
def kitB (K : PySem.W.Frag) (x y : Str) (b : Bool) : Bool := decide (PySem.W.kitOne K (.ref (gC K x)) (.ref (gC K y)) = some b)
def chk (K : PySem.W.Frag) : Bool :=
  sysB K && (propB K "Thing" "brand" && (propB K "Thing" "fields" && (propB K "Book" "pairs" && (nodB K "Thing" && (nodB K "Book" && (nodB K "Row" && (datB K && (cmB K "Book" && (neB K "Thing" && (neB K "Row" && (bareB K (gC K "Whole") && (bareB K (gC K "Refill") && (kitB K "Thing" "Thing" true && kitB K "Book" "Book" true)))))))))))))
end Kh

set_option Elab.async false
set_option linter.all false
set_option maxRecDepth 100000
set_option maxHeartbeats 0
namespace Kh
open PySem PySem.Spec PyProof.Rows L2
abbrev R : PySem.W.OpenRow := PySem.W.OpenLaw.row PySem.Challenge.rw_brinejar_k14_ready_hooks
abbrev hk : PySem.W.Hook := He.hookM 6 fa fn [] [] chk
def ob (s : PySem.W.SharedT) : He.AlL := He.obsM 6 fa fn [] [] chk (HandSHeadRun.getT s)
theorem ob_eq (s : PySem.W.SharedT) : ob s = hk.obs s.abs := He.obsM_eq (HandSHeadRun.getT_eq s)
def loose : List Str := (["_wall", "__name__", "ATOM_LIMIT", "TEXT_LIMIT", "BRAND_LIMIT", "LETTERS", "OTHER_BRAND_SIGNS", "RESERVED_BRAND", "OCTET_LIMIT", "is_integer", "is_text", "is_key", "is_atom", "is_brand", "is_free_brand", "are_octets", "JarError", "StateError", "MissingError", "InvalidValue", "InvalidNumbers", "InvalidKey", "InvalidBrand", "KeyTaken", "NoEntry"] : List Str) ++
  (["NUMBERS_LIMIT", "Node", "Octets", "Pack", "Row", "Book", "Bag", "Thing", "is_atom_or_node", "require_value", "require_values", "require_tuple", "require_key", "require_label", "are_pairs", "ascending", "set_fields", "add_members", "Fields", "Single", "Parts", "Whole", "Refill", "require_labels", "_law_begin"] : List Str) ++
  (["_law_mixed", "_law_next", "_law_atom", "_law_keys", "_law_labels", "_law_item", "_law_plan", "_law_picked", "_law_begun", "_law_built", "_law_thing", "_law_like", "_law_fields_right", "_law_taken_right", "_law_refilled_right"] : List Str)
theorem run (w : World) : HandSHeadRun.RunEq R (PySem.W.view R.prog [69]) hk ob 20000 loose w := by
  intro os
  kernel_rfl
end Kh

set_option Elab.async false
set_option linter.all false
set_option maxRecDepth 100000
set_option maxHeartbeats 1000000
/-! VxI: == of objects of the program's classes without an own __eq__: the same object or not. -/
namespace VxS
open PySem PySem.W
section
variable {prog : Program} {w : World} {K : Frag} {A : Around} {E : Value → Shared → Prop} {s : Shared} {C D x y : Addr} {ox oy : Obj}
/-- what of the text a class must have -/
structure EqC (K : Frag) (C : Addr) : Prop where
  eq : findIn K (.ref C) "__eq__" = some (some (.builtin "object.__eq__"))
  top : mroIn K C (.type "object") = some true
theorem eq_check (X : K.In s.heap) (T : EqC K C) (hx : s.heap.get? x = some ox) (hc : ox.cls = .ref C) {b : Value} {Q : Unit → Shared → Prop} (q : Q () s) : wpAny (model prog w) A (checkBuiltinCall "object.__eq__" ⟨[.ref x, b], []⟩) Q E s := by
  simp only [checkBuiltinCall, F.cmpKind_eq, F.cmpSplit_eq]
  refine wpAny_bind ?_
  unfold isInstance
  refine wpAny_bind (wpAny_typeOf_ref hx ?_)
  rw [hc]
  refine (looks_mroIn X T.top).here ?_
  cases hsig : Manifest.signature? "object.__eq__" with
  | none => exact wpAny_pure q
  | some sig =>
    have ha := F.cmpArgs_eq (.ref x) b
    simp only [argsOk, hsig] at ha
    have h2 : Bind.checkArgs "object.__eq__" sig ⟨[.ref x, b], []⟩ = pure () := ha
    show wpAny _ A (Bind.checkArgs "object.__eq__" sig ⟨[.ref x, b], []⟩) Q E _
    rw [h2]
    exact wpAny_pure q
theorem F.objEq_other {M : Model} (hx : s.heap.get? x = some ox) (hy : s.heap.get? y = some oy) (hc : ox.cls = .ref C) (hxy : x ≠ y) {Q : Fin → Shared → Prop} (hq : Q (.done (.ret .notImplemented)) s) : wpAny M A (Builtin.«object.__eq__» ⟨[.ref x, .ref y], []⟩) Q E s :=
  objEq_entry_other hxy hx hy (by rw [hc]; exact fun z => nomatch z) hq
theorem eq_try (X : K.In s.heap) (T : EqC K C) (hx : s.heap.get? x = some ox) (hc : ox.cls = .ref C) (hy : s.heap.get? y = some oy) (hxy : x ≠ y) {Q : Option Value → Shared → Prop} (q : Q none s) : wpAny (model prog w) A (tryCompare (.ref x) "__eq__" (.ref y)) Q E s := by
  simp only [tryCompare, callSpecialIfBound?, bindSpecialIfBound?, specialOf]
  refine wpAny_bind (wpAny_holding (wpAny_bind (wpAny_bind (wpAny_bind (wpAny_typeOf_ref hx ?_)))))
  rw [hc]
  refine (looks_findIn X T.eq).here ?_
  have call_ : ∀ {Q : Value → Shared → Prop}, Q .notImplemented s → wpAny (model prog w) A (call (.builtin "object.__eq__") [.ref x, .ref y]) Q E s := fun {Q} q =>
    wpAny_call (codeAny_call_builtin F.cmp_object.eq.plain F.cmpEntry_eq (eq_check X T hx hc (F.objEq_other hx hy hc hxy q)))
  have bs : bindSpecial (.builtin "object.__eq__") (.ref x) = pure (.builtin "object.__eq__", [.ref x]) := F.cmp_object.eq.bind _
  dsimp only
  rw [bs]
  have fin : wpAny (model prog w) A (call (.builtin "object.__eq__") ([.ref x] ++ [.ref y]) >>= fun v => pure (some v)) (fun a s' => wpAny (model prog w) A (match a with
      | some Value.notImplemented => (pure none : Sem (Option Value))
      | none => pure none
      | some v => pure (some v)) Q E s') E s := wpAny_bind (call_ (wpAny_pure (wpAny_pure q)))
  refine wpAny_bind (wpAny_askSetting (wpAny_ite ?_))
  split
  · exact wpAny_bind (wpAny_pure (wpAny_pure fin))
  · exact wpAny_tryCatch (wpAny_bind (wpAny_pure (wpAny_pure fin)))
/-- x == y, two objects -/
theorem eq_other (hu : A.units < cLine) (X : K.In s.heap) (T : EqC K C) (U : EqC K D) {b : Bool} (sub : mroIn K D (.ref C) = some b) (hx : s.heap.get? x = some ox) (hc : ox.cls = .ref C) (hy : s.heap.get? y = some oy) (hd : oy.cls = .ref D) (hxy : x ≠ y) {Q : Value → Shared → Prop} (q : Q (.bool false) s) :
    wpAny (model prog w) A (compareOp .Eq (.ref x) (.ref y)) Q E s := by
  show wpAny _ _ (richCompare .Eq (.ref x) (.ref y)) _ _ _
  simp only [richCompare, cmpInfo_Eq, oneThing_ref]
  have nt : ox.cls ≠ .type "tuple" := by rw [hc]; exact fun z => nomatch z
  have t1 : ∀ {Q : Option Value → Shared → Prop}, Q none s → wpAny (model prog w) A (tryCompare (.ref x) "__eq__" (.ref y)) Q E s := fun {Q} q => eq_try X T hx hc hy hxy q
  have t2 : ∀ {Q : Option Value → Shared → Prop}, Q none s → wpAny (model prog w) A (tryCompare (.ref y) "__eq__" (.ref x)) Q E s := fun {Q} q => eq_try X U hy hd hx hxy.symm q
  have last : wpAny (model prog w) A (rule "compare.eq-identity" >>= fun _ => isSame (.ref x) (.ref y) >>= fun r => pure (Value.bool r)) Q E s := wpAny_bind (wpAny_rule (wpAny_bind (wpAny_isSame_ref_other hxy hx hy nt (wpAny_pure q))))
  refine wpAny_holding (wpAny_bind (wpAny_cRoomFor hu (wpAny_bind (wpAny_typeOf_ref hx ?_))))
  rw [hc]
  refine wpAny_bind (wpAny_typeOf_ref hy ?_)
  rw [hd]
  split
  · refine wpAny_bind ((looks_mroIn X sub).here ?_)
    cases b with
    | true => exact wpAny_bind (t2 (wpAny_bind (t1 last)))
    | false =>
      rw [if_neg Bool.false_ne_true]
      exact wpAny_bind (t1 (wpAny_bind (t2 last)))
  · refine wpAny_bind (wpAny_pure ?_)
    rw [if_neg Bool.false_ne_true]
    exact wpAny_bind (t1 (wpAny_bind (t2 last)))
theorem eq_same (hu : A.units < cLine) (X : K.In s.heap) (T : EqC K C) (hx : s.heap.get? x = some ox) (hc : ox.cls = .ref C) {Q : Value → Shared → Prop} (q : Q (.bool true) s) : wpAny (model prog w) A (compareOp .Eq (.ref x) (.ref x)) Q E s := by
  show wpAny _ _ (richCompare .Eq (.ref x) (.ref x)) _ _ _
  have call_ : ∀ {Q : Value → Shared → Prop}, Q (.bool true) s → wpAny (model prog w) A (call (.builtin "object.__eq__") [.ref x, .ref x]) Q E s := fun {Q} q =>
    wpAny_call (codeAny_call_builtin F.cmp_object.eq.plain F.cmpEntry_eq (eq_check X T hx hc (objEq_entry_same q)))
  have bs : bindSpecial (.builtin "object.__eq__") (.ref x) = pure (.builtin "object.__eq__", [.ref x]) := F.cmp_object.eq.bind _
  have t1 : wpAny (model prog w) A (tryCompare (.ref x) "__eq__" (.ref x)) (fun r s' => r = some (.bool true) ∧ s' = s) E s := by
    simp only [tryCompare, callSpecialIfBound?, bindSpecialIfBound?, specialOf]
    refine wpAny_bind (wpAny_holding (wpAny_bind (wpAny_bind (wpAny_bind (wpAny_typeOf_ref hx ?_)))))
    rw [hc]
    refine (looks_findIn X T.eq).here ?_
    dsimp only
    rw [bs]
    have fin : wpAny (model prog w) A (call (.builtin "object.__eq__") ([.ref x] ++ [.ref x]) >>= fun v => pure (some v)) (fun a s' => wpAny (model prog w) A (match a with
        | some Value.notImplemented => (pure none : Sem (Option Value))
        | none => pure none
        | some v => pure (some v)) (fun r s' => r = some (.bool true) ∧ s' = s) E s') E s := wpAny_bind (call_ (wpAny_pure (wpAny_pure ⟨rfl, rfl⟩)))
    refine wpAny_bind (wpAny_askSetting (wpAny_ite ?_))
    split
    · exact wpAny_bind (wpAny_pure (wpAny_pure fin))
    · exact wpAny_tryCatch (wpAny_bind (wpAny_pure (wpAny_pure fin)))
  simp only [richCompare, cmpInfo_Eq, oneThing_ref]
  refine wpAny_holding (wpAny_bind (wpAny_cRoomFor hu (wpAny_bind (wpAny_typeOf_ref hx ?_))))
  rw [hc]
  refine wpAny_bind (wpAny_typeOf_ref hx ?_)
  rw [hc, if_neg (by simp)]
  refine wpAny_bind (wpAny_pure (wpAny_bind (wpAny_mono t1 (fun r s' z => ?_) fun _ _ e => e)))
  obtain ⟨rfl, rfl⟩ := z
  exact wpAny_pure q
end
end VxS
namespace L2
open PySem PySem.Spec PyProof.Rows
/-- x == y, objects of the program's classes without __eq__ -/
def rEqO (K : PySem.W.Frag) : R2 := fun x y H Q => ∃ (a b C D da db : Addr) (fa fb : List (Str × V)) (r : Bool), x = .ref a ∧ y = .ref b ∧ H a = some (.ins C da fa) ∧ H b = some (.ins D db fb) ∧ VxS.EqC K C ∧ VxS.EqC K D ∧ PySem.W.mroIn K D (.ref C) = some r ∧ Q (.bl (decide (a = b))) H
theorem op_eqO {X : Cx} (hu : X.A.units < cLine) : OpR X (compareOp .Eq) (rEqO X.K) := by
  intro pins s σ H x y v u Q I rx ry h
  obtain ⟨a, b, C, D, da, db, fa, fb, r, rfl, rfl, ha, hb, T, U, sub, q⟩ := h
  cases rx
  cases ry
  obtain ⟨_, _, _, e1, _⟩ := I.hok a _ ha
  obtain ⟨_, _, _, e2, _⟩ := I.hok b _ hb
  by_cases z : a = b
  · subst z
    rw [decide_eq_true rfl] at q
    exact VxS.eq_same hu I.kIn T e1 rfl ⟨.bl true, H, I, rfl, q⟩
  · rw [decide_eq_false z] at q
    exact VxS.eq_other hu I.kIn T U sub e1 rfl e2 rfl z ⟨.bl false, H, I, rfl, q⟩
end L2

set_option Elab.async false
set_option linter.all false
set_option maxRecDepth 100000
set_option maxHeartbeats 1000000
/-! VxN: a generator method called; cls(*e), cls a local name of a class. -/
namespace L2
open PySem PySem.Spec PyProof.Rows StX
section
variable {X : Cx} {k i : Nat} {f C : Addr} {fd : FuncData} {ps : List Str} {sp : SpY} {x m : Str} {p pos apos : Pos} {o e : Expr} {ta te : TE} {E : XK}
/-- o.m() of a generator method -/
def tMethY (C : Addr) (m : Str) (sp : SpY) (E : XK) (ta : TE) : TYg := fun σ H xs Q => ta σ H fun y H1 => ∃ a dx fs, y = .ref a ∧ H1 a = some (.ins C dx fs) ∧ fs.lookup m = none ∧ sp [y] H1 xs Q E
theorem py_meth0 {pl : Sem Bool} (he : PE X o ta) (c : Cls X.K C) (hm : Meth X.K C m f) (F : YDef X.prog X.w X.K X.mg X.base k f fd ps sp) (hr : Room k X.A) (hb : Binds X.K fd ps [])
    (ht : eval (.Call (.Attribute o m apos) [] [] pos) X.env = (do
      let ov ← eval o X.env
      standAt apos.atName
      let (f, first) ← holding [ov] (getMethod ov m pl)
      callWith pos f first (backTo pos (starEach [] X.env)) (backToKw pos (keywordEach [] X.env))) := by rfl) :
    PY X k (.Call (.Attribute o m apos) [] [] pos) (tMethY C m sp E ta) E := by
  refine ⟨fun pins s σ H xs Q I h => PySem.W.methodCall_KW (pl := pl) (thn (he.run pins s σ H _ I h) fun u s1 hh => ?_) ht⟩
  obtain ⟨y, H1, I1, rx, a, dx, fs, rfl, ea, l, q⟩ := hh
  obtain rfl : u = Value.ref a := rx
  have hl : ([Value.ref a] ++ ([] : List Value)).length = ps.length := by
    have z := F.len _ _ _ _ _ q
    exact z
  refine getmeth_ok I1 ea c hm l (PySem.W.callWith_K0 (first := [.ref a]) I1.kIn hm.kp (wpAny_call (codeAny_mono (F.run X.A X.stack s1 H1 ⟨[.ref a], []⟩ [.ref a] [.ref a] xs Q E hr I1.env0 (hb s1 [.ref a] I1.kIn hl) (.cons rfl .nil) q) fun r s' hq => ?_)))
  cases r with
  | error e => exact False.elim hq
  | ok fl =>
    cases fl with
    | ret u => exact ⟨H1, s1, I1, hq⟩
    | next => exact False.elim hq
    | brk => exact False.elim hq
    | cont => exact False.elim hq
end
section
variable {X : Cx} {CX : CXT} {k i : Nat} {f C : Addr} {sp : Sp} {x : Str} {p spos pos : Pos} {e : Expr} {te : TE} {E : XK}
/-- cls(*e) -/
theorem pe_makeVS (M : Mk X.K C f) (F : FnR X.prog X.w X.K X.mg X.base CX k f sp) (hr : Room (k + 1) X.A) (hN : X.N[i]? = some x) (hv : Vis X.env.scope x) (hx : Passes CX X E) (he : PE X e te) (hd : (x == ("__debug__" : Str)) = false := by decide) (hcd : (x == ("__classdict__" : Str)) = false := by decide)
    (hst : starEach [.Starred e spos] X.env = [(true, eval e X.env)] := by rfl) :
    PE X (.Call (.Name x p) [.Starred e spos] [] pos) (fun σ H Q => σ[i]? = some (some (.ref C)) ∧ te σ H fun y H1 => ∃ a xs, y = V.ref a ∧ (SqT X.K H1 a xs ∨ SqL X.K H1 a xs) ∧
      ∀ n dx, H1 n = none → H1 dx = none → dx ≠ n → sp (V.ref n :: xs) (upd (upd H1 dx (.own n)) n (.ins C dx [])) (fun v H2 => v = .non ∧ Q (.ref n) H2) E) := by
  refine ⟨fun pins s σ H Q I h => ?_⟩
  obtain ⟨ec, h⟩ := h
  refine wpAny_Call_Name_kw (thn ((pe_var (pos := p) hN hv hd hcd).run pins s σ H (fun v H1 => v = .ref C ∧ H1 = H) I ⟨_, ec, rfl, rfl⟩) fun u s0 hh => ?_)
  obtain ⟨v, H0, I0, r0, rfl, rfl⟩ := hh
  obtain rfl : u = Value.ref C := r0
  refine PySem.W.callWith_S (h₀ := X.base) I.ok.mod.kin M.kp (thn (he.run pins s0 σ H0 _ I0 h) fun v s1 hh => ?_) hst
  obtain ⟨y, H1, I1, ry, a, xs, rfl, hxs, q⟩ := hh
  obtain rfl : v = Value.ref a := ry
  exact star_any I1 hxs fun us s2 I2 rv => ⟨I2.kIn, run_makeR M F hr hx I2 rv q⟩
end
end L2

set_option Elab.async false
set_option linter.all false
set_option maxRecDepth 100000
set_option maxHeartbeats 1000000
/-! VxM: ** of large ints, a text times an int, C() of a class whose __init__ has star parameters. -/
namespace L2
open PySem PySem.Spec PyProof.Rows StX ClX
theorem size_repA (a : Array Nat) : ∀ (n : Nat) (b : Array Nat), ((List.replicate n a).foldl (· ++ ·) b).size = b.size + n * a.size
  | 0, b => by simp
  | n + 1, b => by
    rw [List.replicate_succ, List.foldl_cons, size_repA a n, Array.size_append, Nat.add_mul]
    omega
theorem size_rep (a : Array Nat) (n : Nat) : ((List.replicate n a).foldl (· ++ ·) #[]).size = n * a.size := by
  rw [size_repA]
  simp
section
variable {X : Cx}
def CPowW (i j : Int) : Prop := 0 ≤ j ∧ (Builtin.Int.intBits i : Int) * j ≤ 2 ^ 27
theorem op_powW : OpR X (binaryOp .Pow) (rI CPowW fun i j => .int (i ^ j.toNat)) := opI fun _ _ _ _ _ _ _ hc q => pow_int hc.1 hc.2 q
/-- a text times an int of at least 2 -/
def rMulS : R2 := fun x y H Q => ∃ (z : Str) (k : Nat), x = .str z ∧ y = .int (k : Int) ∧ 2 ≤ k ∧ 0 < z.length ∧ z.length * k ≤ 1000000 ∧ Q (.str ⟨(List.replicate k z.cps).foldl (· ++ ·) #[]⟩) H
theorem op_mulS : OpR X (binaryOp .Mult) rMulS := by
  intro pins s σ H x y v u Q I rx ry h
  obtain ⟨z, k, rfl, rfl, h2, h0, hl, q⟩ := h
  obtain ⟨t, rfl⟩ := rx
  obtain ⟨t', rfl⟩ := ry
  have kb : (k : Int) ≤ 1000000 := by
    have : 1 * k ≤ z.length * k := Nat.mul_le_mul_right k h0
    omega
  refine PySem.P.mul_str ?_ (fun _ _ => ?_) (fun _ _ => ?_) ?_
  · rw [decide_eq_false (by omega), decide_eq_false (by omega)]
    rfl
  · have d : (z.length : Int) ≤ (2 ^ 63 - 1) / (k : Int) := by
      refine Int.le_ediv_of_mul_le (by omega) ?_
      have q2 : ((z.length * k : Nat) : Int) ≤ 1000000 := Int.ofNat_le.mpr hl
      rw [Int.natCast_mul] at q2
      omega
    omega
  · have e : (k : Int).toNat = k := rfl
    rw [e]
    exact decide_eq_false (by have q : (1000000 : Nat) ≤ sizeLine := by decide
                              omega)
  · rw [if_neg (by omega)]
    have e : ((k : Int) == 1 || z.length == 0) = false := by
      rw [Bool.or_eq_false_iff]
      exact ⟨beq_eq_false_iff_ne.mpr (by omega), beq_eq_false_iff_ne.mpr (by omega)⟩
    rw [e, if_neg Bool.false_ne_true]
    refine ⟨?_, .str _, H, I.tok _, ⟨_, rfl⟩, q⟩
    show Array.size _ ≤ sizeLine
    have e2 : ((k : Int).toNat) = k := rfl
    rw [e2, size_rep]
    have q3 : (1000000 : Nat) ≤ sizeLine := by decide
    have q4 : k * z.cps.size = z.length * k := Nat.mul_comm _ _
    omega
end
section
variable {X : Cx} {CX : CXT} {k : Nat} {f C p g : Addr} {fd : FuncData} {ps ks : List Str} {sp : Sp} {x m : Str} {np pos apos : Pos} {o : Expr} {kws : List Keyword} {ta : TE} {tk : TA} {E : XK} {mc : Value}
/-- C() -/
theorem pe_makeR0 (M : Mk X.K C f) (F : FnR X.prog X.w X.K X.mg X.base CX k f sp) (hr : Room (k + 1) X.A) (hg : Gl X x) (hm : X.mg x = some (.ref C)) (hx : Passes CX X E) (hdb : (x == ("__debug__" : Str)) = false := by decide) :
    PE X (.Call (.Name x np) [] [] pos) (fun _ H Q => ∀ n dx, H n = none → H dx = none → dx ≠ n → sp [V.ref n] (upd (upd H dx (.own n)) n (.ins C dx [])) (fun v H2 => v = .non ∧ Q (.ref n) H2) E) :=
  ⟨fun pins s σ H Q I h => wpAny_Call_Name_kw (ld_glob I hg hm (PySem.W.callWith_K0 (first := []) I.kIn M.kp (run_makeR (us := []) (vs := []) M F hr hx I .nil h)) hdb)⟩
/-- C.m(k = v, ..), m a classmethod -/
theorem pe_cmethK {pl : Sem Bool} {gv : List Value → List Value} {gV : List V → List V} (he : PE X o ta) (r : CRead X.K C mc) (c : CMet X.K C mc m p g) (F : FnOk X.prog X.w X.K X.mg X.base CX k g fd ps sp) (hr : Room k X.A) (hx : Passes CX X E)
    (hbd : ∀ (s : Shared) (ws : List Value), X.K.In s.heap → ws.length = ks.length → BindsTo s fd ⟨[Value.ref C], ks.zip ws⟩ (ps.zip (Value.ref C :: gv ws))) (rel : ∀ {zs : List V} {ws : List Value}, Vals zs ws → Vals (gV zs) (gv ws)) (hkw : PK X kws tk)
    (hall : (backToKw pos (keywordEach kws X.env)).all (·.1.isSome) = true := by rfl) (hks : (backToKw pos (keywordEach kws X.env)).filterMap (·.1) = ks := by rfl)
    (hpl : ((backTo pos (starEach [] X.env)).any (·.1) || (backToKw pos (keywordEach kws X.env)).any (·.1.isNone)) = false := by rfl)
    (ht : eval (.Call (.Attribute o m apos) [] kws pos) X.env = (do
      let ov ← eval o X.env
      standAt apos.atName
      let (f, first) ← holding [ov] (getMethod ov m pl)
      callWith pos f first (backTo pos (starEach [] X.env)) (backToKw pos (keywordEach kws X.env))) := by rfl) :
    PE X (.Call (.Attribute o m apos) [] kws pos) (fun σ H Q => ta σ H fun y H1 => y = .ref C ∧ tk σ H1 fun zs H2 => zs.length = ks.length ∧ sp (.ref C :: gV zs) H2 Q E) := by
  refine ⟨fun pins s σ H Q I h => PySem.W.methodCall_KW (pl := pl) (thn (he.run pins s σ H _ I h) fun u s1 hh => ?_) ht⟩
  obtain ⟨y, H1, I1, rx, rfl, q⟩ := hh
  obtain rfl : u = Value.ref C := rx
  refine getmethcm_ok I1 r c fun s2 I2 => ?_
  refine PySem.W.callWith_of hpl (PySem.W.keeps_M (K := X.K) (self := .ref C) c.fi) (evalArgs_kw2_nil hall (thn (hkw.run pos _ s2 σ H1 _ I2 q) fun ws s3 hh => ?_))
  obtain ⟨zs, H2, I3, rz, hl, q2⟩ := hh
  refine ⟨⟨pin_at I3, I3.kIn⟩, ?_⟩
  rw [hks]
  have z : wpAny (model X.prog X.w) X.A (call (.ref s1.heap.objs.size) ([] ++ []) (ks.zip ws)) (EP X ((s1.heap.objs.size, PySem.W.methodObj (.ref g) (.ref C)) :: pins) σ Q) X.xe s3 := by
    refine wpAny_call (PySem.W.method_call (pin_at I3) (codeAny_mono (F.run X.A X.stack s3 H2 ⟨[.ref C], ks.zip ws⟩ (.ref C :: gv ws) (.ref C :: gV zs) Q E hr I3.env0 (hbd s3 ws I3.kIn (by rw [← rz.length]; exact hl)) (.cons rfl (rel rz)) q2) fun rs s' hq => ?_))
    cases rs with
    | error er => exact hx _ σ H2 s3 er s' I3 hq
    | ok fl =>
      cases fl with
      | ret u => exact I3.after hq
      | next => exact hq.elim
      | brk => exact hq.elim
      | cont => exact hq.elim
  exact thn z fun _ _ y => unpinE y
end
end L2

set_option Elab.async false
set_option linter.all false
set_option maxRecDepth 100000
set_option maxHeartbeats 1000000
/-! VxL: a list of anything == [] and != []. -/
namespace L2
open PySem PySem.Spec PyProof.Rows
section
variable {X : Cx}
def rEqN (K : PySem.W.Frag) : R2 := fun x y H Q => ∃ (a b : Addr) (xs : List V), x = .ref a ∧ y = .ref b ∧ SqL K H a xs ∧ SqL K H b [] ∧ Q (.bl xs.isEmpty) H
theorem op_eqN (hu : X.A.units < cLine) : OpR X (compareOp .Eq) (rEqN X.K) := by
  intro pins s σ H x y v u Q I rx ry h
  obtain ⟨a, b, xs, rfl, rfl, ha, hb, q⟩ := h
  cases rx
  cases ry
  obtain ⟨us, r1, p1, _⟩ := I.list ha
  obtain ⟨ws, r2, p2, _⟩ := I.list hb
  cases r2
  by_cases z : xs = []
  · subst z
    cases r1
    refine SeqAt.eq_listAt (e := fun _ => true) p1.isList p2.isList rfl hu ?_ ?_
    · intro j h1
      simp at h1
    · exact ⟨.bl true, H, I, rfl, q⟩
  · refine SeqAt.eq_list_lengthsAt p1.isList p2.isList ?_ hu ?_
    · have e : us ≠ [] := fun w => z (by
        subst w
        cases r1
        rfl)
      cases us with
      | nil => exact absurd rfl e
      | cons _ _ => simp
    · cases xs with
      | nil => exact absurd rfl z
      | cons _ _ => exact ⟨.bl false, H, I, rfl, q⟩
def rNeN (K : PySem.W.Frag) : R2 := fun x y H Q => ∃ (a b : Addr) (xs : List V), x = .ref a ∧ y = .ref b ∧ SqL K H a xs ∧ SqL K H b [] ∧ Q (.bl !xs.isEmpty) H
theorem op_neN (hu : X.A.units < cLine) : OpR X (compareOp .NotEq) (rNeN X.K) := by
  intro pins s σ H x y v u Q I rx ry h
  obtain ⟨a, b, xs, rfl, rfl, ha, hb, q⟩ := h
  cases rx
  cases ry
  obtain ⟨us, r1, p1, _⟩ := I.list ha
  obtain ⟨ws, r2, p2, _⟩ := I.list hb
  cases r2
  by_cases z : xs = []
  · subst z
    cases r1
    refine SeqAt.RcNeAt.lists (e := fun _ => true) p1.isList p2.isList rfl hu ?_ X.prog X.w _ _ ?_
    · intro j h1
      simp at h1
    · exact ⟨.bl false, H, I, rfl, q⟩
  · refine SeqAt.RcNeAt.lists_lengths p1.isList p2.isList ?_ hu X.prog X.w _ _ ?_
    · have e : us ≠ [] := fun w => z (by
        subst w
        cases r1
        rfl)
      cases us with
      | nil => exact absurd rfl e
      | cons _ _ => simp
    · cases xs with
      | nil => exact absurd rfl z
      | cons _ _ => exact ⟨.bl true, H, I, rfl, q⟩
end
end L2

set_option Elab.async false
set_option linter.all false
set_option maxRecDepth 100000
set_option maxHeartbeats 1000000
/-! VxJ: within a try whose clause looks at the slots: C(e, ..) and C.m(e, ..), what they let out told at the slots of the call. -/
namespace L2
open PySem PySem.Spec PyProof.Rows StX ClX
section
variable {X : Cx} {CX : CXT} {k : Nat} {f C p g : Addr} {mc : Value} {fd : FuncData} {ps : List Str} {sp : Sp} {dvs : List V} {ds : List Value} {E : St → XK} {x m : Str} {pp pos apos : Pos} {e o : Expr} {es : List Expr} {ta : TE} {t : TA}
theorem run_makeS {pins : List (Addr × Obj)} {σ : St} {H : Hp} {s : Shared} {Q : VK} {us : List Value} {vs : List V} {E : XK} (M : Mk X.K C f) (F : FnOk X.prog X.w X.K X.mg X.base CX k f fd ps sp) (hr : Room (k + 1) X.A) (hb : Binds X.K fd ps ds) (hd : Vals dvs ds)
    (hx : PassesAt CX X σ E) (I : Inv X pins σ H s) (r : Vals vs us)
    (h : ∀ x dx, H x = none → H dx = none → dx ≠ x → sp (.ref x :: (vs ++ dvs)) (upd (upd H dx (.own x)) x (.ins C dx [])) (fun v H2 => v = .non ∧ Q (.ref x) H2) E) :
    wpAny (model X.prog X.w) X.A (call (.ref C) us) (EP X pins σ Q) X.xe s := by
  have hq := h (s.heap.objs.size + 1) s.heap.objs.size (I.hok.fresh (Nat.le_succ _)) (I.hok.fresh (Nat.le_refl _)) (Nat.ne_of_lt (Nat.lt_succ_self _))
  have J := Inv.made (C := C) I
  have rr : Vals (V.ref (s.heap.objs.size + 1) :: (vs ++ dvs)) (Value.ref (s.heap.objs.size + 1) :: (us ++ ds)) := .cons rfl (r.append hd)
  have hl : (Value.ref (s.heap.objs.size + 1) :: us ++ ds).length = ps.length := by
    have z := rr.length
    rw [F.len _ _ _ _ hq] at z
    exact z.symm
  refine wpAny_call (make_map (f := f) I.kIn M.makes M.init (beq_iff_eq.mp M.fn) (codeAny_mono (F.run _ X.stack _ _ ⟨Value.ref (s.heap.objs.size + 1) :: us, []⟩ (Value.ref (s.heap.objs.size + 1) :: (us ++ ds)) _ _ E (hr.make C us [])
    (J.env0.make C us []) (hb _ (Value.ref (s.heap.objs.size + 1) :: us) J.kIn hl) rr hq) fun rs s' z => ?_))
  cases rs with
  | error er => exact hx pins _ _ er s' J z
  | ok fl =>
    cases fl with
    | ret u =>
      obtain ⟨v, H', J2, rv, ev, q⟩ := J.after z
      subst ev
      exact ⟨rv, ⟨V.ref (s.heap.objs.size + 1), H', J2, rfl, q⟩⟩
    | next => exact z.elim
    | brk => exact z.elim
    | cont => exact z.elim
/-- C(e, ..) -/
theorem pe_makeSg (M : Mk X.K C f) (F : FnOk X.prog X.w X.K X.mg X.base CX k f fd ps sp) (hr : Room (k + 1) X.A) (hg : Gl X x) (hm : X.mg x = some (.ref C)) (hb : Binds X.K fd ps ds) (hd : Vals dvs ds) (hx : ∀ σ, PassesAt CX X σ (E σ))
    (ha : PA X (e :: es) t) (hdb : (x == ("__debug__" : Str)) = false := by decide) (he : starEach (e :: es) X.env = (false, eval e X.env) :: starEach es X.env := by rfl) (hpl : (backTo pos (starEach es X.env)).any (·.1) = false := by rfl) :
    PE X (.Call (.Name x pp) (e :: es) [] pos) (fun σ H Q => tMake C sp dvs (E σ) t σ H Q) :=
  ⟨fun pins s σ H Q I h => wpAny_Call_Name_kw (ld_glob I hg hm (PySem.W.callWith_K (h₀ := X.base) I.ok.mod.kin M.kp (thn (ha.run pos pins s σ H _ I h) fun us s1 z => by
    obtain ⟨vs, H1, J, r, q⟩ := z
    exact ⟨J.kIn, run_makeS M F hr hb hd (hx σ) J r q⟩) he hpl) hdb)⟩
/-- C.m(e, ..), m a classmethod -/
theorem pe_cmethSg {pl : Sem Bool} (he : PE X o ta) (r : CRead X.K C mc) (c : CMet X.K C mc m p g) (F : FnOk X.prog X.w X.K X.mg X.base CX k g fd ps sp) (hr : Room k X.A) (hb : Binds X.K fd ps []) (hx : ∀ σ, PassesAt CX X σ (E σ)) (ha : PA X (e :: es) t)
    (hst : starEach (e :: es) X.env = (false, eval e X.env) :: starEach es X.env := by rfl) (hpl : (backTo pos (starEach es X.env)).any (·.1) = false := by rfl)
    (ht : eval (.Call (.Attribute o m apos) (e :: es) [] pos) X.env = (do
      let ov ← eval o X.env
      standAt apos.atName
      let (f, first) ← holding [ov] (getMethod ov m pl)
      callWith pos f first (backTo pos (starEach (e :: es) X.env)) (backToKw pos (keywordEach [] X.env))) := by rfl) :
    PE X (.Call (.Attribute o m apos) (e :: es) [] pos) (fun σ H Q => tCMeth C sp (E σ) ta t σ H Q) := by
  refine ⟨fun pins s σ H Q I h => PySem.W.methodCall_KW (pl := pl) (thn (he.run pins s σ H _ I h) fun u s1 hh => ?_) ht⟩
  obtain ⟨y, H1, I1, rx, rfl, q⟩ := hh
  obtain rfl : u = Value.ref C := rx
  refine getmethcm_ok I1 r c fun s2 I2 => ?_
  refine callwith_cm I2 (base_none I1 (Nat.le_refl _)) c.fi (thn (ha.run pos _ s2 σ H1 _ I2 q) fun us s3 hh => ?_) hst hpl
  obtain ⟨vs, H2, I3, rv, q2⟩ := hh
  refine ⟨⟨pin_at I3, I3.kIn⟩, ?_⟩
  have b := hb s3 (Value.ref C :: us) I3.kIn (by
    have l := F.len _ _ _ _ q2
    have l2 := rv.length
    rw [List.append_nil, List.length_cons, ← l2]
    exact l)
  rw [List.append_nil] at b
  have z : wpAny (model X.prog X.w) X.A (call (.ref s1.heap.objs.size) us) (EP X ((s1.heap.objs.size, PySem.W.methodObj (.ref g) (.ref C)) :: pins) σ Q) X.xe s3 := by
    refine wpAny_call (PySem.W.method_call (pin_at I3) (codeAny_mono (F.run X.A X.stack s3 H2 ⟨.ref C :: us, []⟩ (.ref C :: us) (.ref C :: vs) Q (E σ) hr I3.env0 b (.cons rfl rv) q2) fun rs s' hq => ?_))
    cases rs with
    | error er => exact hx σ _ H2 s3 er s' I3 hq
    | ok fl =>
      cases fl with
      | ret u => exact I3.after hq
      | next => exact hq.elim
      | brk => exact hq.elim
      | cont => exact hq.elim
  exact thn z fun _ _ y => unpinE y
end
end L2

set_option Elab.async false
set_option linter.all false
set_option maxRecDepth 100000
set_option maxHeartbeats 2000000
/-! VxO: things: data, or objects of the program's own classes; isinstance of both. -/
namespace L2
open PySem PySem.Spec PyProof.Rows
/-- what of the text a node's class must have; CN: the class above all of them -/
structure NodC (K : PySem.W.Frag) (CN C : Addr) : Prop where
  cls : Cls K C
  ha : PySem.W.findIn K (.ref C) "__class__" = some (some (.builtin "object.__class__"))
  hn : PySem.W.specialIn K (.builtin "object.__class__") "__get__" = some (some (.builtin "getset_descriptor.__get__"))
  htk : PySem.W.takesIn K (.builtin "object.__class__") = some true
  eqc : VxS.EqC K C
  kit : ∀ t ∈ ["int", "bool", "str", "tuple", "list", "dict"], PySem.W.kitOne K (.ref C) (.type t) = some false
  kitN : PySem.W.kitOne K (.ref C) (.ref CN) = some true
  mro : PySem.W.mroIn K C (.ref C) = some true
/-- no datum is a node -/
def DatN (K : PySem.W.Frag) (CN : Addr) : Prop := ∀ t ∈ ["NoneType", "bool", "int", "str", "list", "tuple", "dict"], PySem.W.kitOne K (.type t) (.ref CN) = some false
inductive Tk where
  | dat (d : PyData)
  | nod (C : Addr)
def Tv (K : PySem.W.Frag) (CN : Addr) (H : Hp) (v : V) : Tk → Prop
  | .dat d => Sd K H v d
  | .nod C => NodC K CN C ∧ ∃ a dx fs, v = .ref a ∧ H a = some (.ins C dx fs)
def isTk : Tk → String → Bool
  | .dat d, t => isD d t
  | .nod _, _ => false
def isNod : Tk → Bool
  | .dat _ => false
  | .nod _ => true
theorem NodC.ty {K : PySem.W.Frag} {CN C a dx : Addr} {fs : List (Str × V)} {H : Hp} (n : NodC K CN C) (e : H a = some (.ins C dx fs)) : TyX K H (.ref a) (.ref C) := .base (.ins e n.cls n.ha n.hn n.htk n.eqc.top)
theorem plain_mem {t : String} (h : plainT t = true) : t ∈ ["int", "bool", "str", "tuple", "list", "dict"] := by
  unfold plainT at h
  simpa using h
theorem tyN_mem (d : PyData) : tyN d ∈ ["NoneType", "bool", "int", "str", "list", "tuple", "dict"] := by cases d <;> simp [tyN]
section
variable {X : Cx}
def rIsTk (K : PySem.W.Frag) (CN : Addr) : List V → Hp → VK → Prop := fun xs H Q => ∃ (v : V) (k : Tk) (t : String), xs = [v, .ty t] ∧ plainT t = true ∧ Tv K CN H v k ∧ Q (.bl (isTk k t)) H
theorem call_isTk {CN : Addr} : CallR X (.builtin "isinstance") (rIsTk X.K CN) := by
  intro pins s σ H xs us Q I r h
  obtain ⟨v, k, t, rfl, ht, hv, q⟩ := h
  cases k with
  | dat d => exact call_isD pins s σ H _ us Q I r ⟨v, d, t, rfl, ht, hv, q⟩
  | nod C =>
    obtain ⟨n, a, dx, fs, rfl, e⟩ := hv
    exact call_isi pins s σ H _ us Q I r ⟨.ref a, .ty t, _, .type t, _, rfl, .ty t, n.ty e, n.kit t (plain_mem ht), q⟩
def rIsN (K : PySem.W.Frag) (CN : Addr) : List V → Hp → VK → Prop := fun xs H Q => ∃ (v : V) (k : Tk), xs = [v, .ref CN] ∧ Tv K CN H v k ∧ Q (.bl (isNod k)) H
theorem call_isN {CN : Addr} (D : DatN X.K CN) : CallR X (.builtin "isinstance") (rIsN X.K CN) := by
  intro pins s σ H xs us Q I r h
  obtain ⟨v, k, rfl, hv, q⟩ := h
  cases k with
  | dat d => exact call_isi pins s σ H _ us Q I r ⟨v, .ref CN, _, .ref CN, _, rfl, .own CN, (show Sd X.K H v d from hv).ty, D _ (tyN_mem d), q⟩
  | nod C =>
    obtain ⟨n, a, dx, fs, rfl, e⟩ := hv
    exact call_isi pins s σ H _ us Q I r ⟨.ref a, .ref CN, _, .ref CN, _, rfl, .own CN, n.ty e, n.kitN, q⟩
/-- isinstance(v, tuple), v a sequence of anything or a datum -/
def rIsTup (K : PySem.W.Frag) : List V → Hp → VK → Prop := fun xs H Q => ∃ (v : V) (t : String) (b : Bool), xs = [v, .ty "tuple"] ∧ TyX K H v (.type t) ∧ b = (t == "tuple") ∧ t ∈ ["NoneType", "bool", "int", "str", "list", "tuple", "dict"] ∧ Q (.bl b) H
theorem call_isTup : CallR X (.builtin "isinstance") (rIsTup X.K) := by
  intro pins s σ H xs us Q I r h
  obtain ⟨v, t, b, rfl, ty, rfl, m, q⟩ := h
  refine call_isi pins s σ H _ us Q I r ⟨v, .ty "tuple", _, .type "tuple", _, rfl, .ty "tuple", ty, ?_, q⟩
  simp only [List.mem_cons, List.not_mem_nil, or_false] at m
  rcases m with rfl | rfl | rfl | rfl | rfl | rfl | rfl
  · exact kit_data .none rfl
  · exact kit_data (.bool true) rfl
  · exact kit_data (.int 0) rfl
  · exact kit_data (.str "") rfl
  · exact kit_data (.list []) rfl
  · exact kit_data (.tuple []) rfl
  · exact kit_data (.dict []) rfl
end
end L2

set_option Elab.async false
set_option linter.all false
set_option maxRecDepth 100000
set_option maxHeartbeats 1000000
/-! VxH: within a try whose clause looks at the slots: C.m(k = e, ..) and o.m(k = e, ..). -/
namespace L2
open PySem PySem.Spec PyProof.Rows StX ClX
section
variable {X : Cx} {CX : CXT} {k : Nat} {f C p g : Addr} {fd : FuncData} {ps ks : List Str} {sp : Sp} {x m : Str} {np pos apos : Pos} {o : Expr} {kws : List Keyword} {ta : TE} {tk : TA} {E : L2.St → XK} {mc : Value}
/-- C.m(k = v, ..), m a classmethod -/
theorem pe_cmethKSg {pl : Sem Bool} {gv : List Value → List Value} {gV : List V → List V} (he : PE X o ta) (r : CRead X.K C mc) (c : CMet X.K C mc m p g) (F : FnOk X.prog X.w X.K X.mg X.base CX k g fd ps sp) (hr : Room k X.A) (hx : ∀ σ, PassesAt CX X σ (E σ))
    (hbd : ∀ (s : Shared) (ws : List Value), X.K.In s.heap → ws.length = ks.length → BindsTo s fd ⟨[Value.ref C], ks.zip ws⟩ (ps.zip (Value.ref C :: gv ws))) (rel : ∀ {zs : List V} {ws : List Value}, Vals zs ws → Vals (gV zs) (gv ws)) (hkw : PK X kws tk)
    (hall : (backToKw pos (keywordEach kws X.env)).all (·.1.isSome) = true := by rfl) (hks : (backToKw pos (keywordEach kws X.env)).filterMap (·.1) = ks := by rfl)
    (hpl : ((backTo pos (starEach [] X.env)).any (·.1) || (backToKw pos (keywordEach kws X.env)).any (·.1.isNone)) = false := by rfl)
    (ht : eval (.Call (.Attribute o m apos) [] kws pos) X.env = (do
      let ov ← eval o X.env
      standAt apos.atName
      let (f, first) ← holding [ov] (getMethod ov m pl)
      callWith pos f first (backTo pos (starEach [] X.env)) (backToKw pos (keywordEach kws X.env))) := by rfl) :
    PE X (.Call (.Attribute o m apos) [] kws pos) (fun σ H Q => ta σ H fun y H1 => y = .ref C ∧ tk σ H1 fun zs H2 => zs.length = ks.length ∧ sp (.ref C :: gV zs) H2 Q (E σ)) := by
  refine ⟨fun pins s σ H Q I h => PySem.W.methodCall_KW (pl := pl) (thn (he.run pins s σ H _ I h) fun u s1 hh => ?_) ht⟩
  obtain ⟨y, H1, I1, rx, rfl, q⟩ := hh
  obtain rfl : u = Value.ref C := rx
  refine getmethcm_ok I1 r c fun s2 I2 => ?_
  refine PySem.W.callWith_of hpl (PySem.W.keeps_M (K := X.K) (self := .ref C) c.fi) (evalArgs_kw2_nil hall (thn (hkw.run pos _ s2 σ H1 _ I2 q) fun ws s3 hh => ?_))
  obtain ⟨zs, H2, I3, rz, hl, q2⟩ := hh
  refine ⟨⟨pin_at I3, I3.kIn⟩, ?_⟩
  rw [hks]
  have z : wpAny (model X.prog X.w) X.A (call (.ref s1.heap.objs.size) ([] ++ []) (ks.zip ws)) (EP X ((s1.heap.objs.size, PySem.W.methodObj (.ref g) (.ref C)) :: pins) σ Q) X.xe s3 := by
    refine wpAny_call (PySem.W.method_call (pin_at I3) (codeAny_mono (F.run X.A X.stack s3 H2 ⟨[.ref C], ks.zip ws⟩ (.ref C :: gv ws) (.ref C :: gV zs) Q (E σ) hr I3.env0 (hbd s3 ws I3.kIn (by rw [← rz.length]; exact hl)) (.cons rfl (rel rz)) q2) fun rs s' hq => ?_))
    cases rs with
    | error er => exact hx σ _ H2 s3 er s' I3 hq
    | ok fl =>
      cases fl with
      | ret u => exact I3.after hq
      | next => exact hq.elim
      | brk => exact hq.elim
      | cont => exact hq.elim
  exact thn z fun _ _ y => unpinE y
/-- o.m(k = v, ..) -/
theorem pe_methKSg {pl : Sem Bool} {gv : List Value → List Value} {gV : List V → List V} (he : PE X o ta) (c : Cls X.K C) (hm : Meth X.K C m f) (F : FnOk X.prog X.w X.K X.mg X.base CX k f fd ps sp) (hr : Room k X.A) (hx : ∀ σ, PassesAt CX X σ (E σ))
    (hbd : ∀ (s : Shared) (a : Addr) (ws : List Value), X.K.In s.heap → ws.length = ks.length → BindsTo s fd ⟨[Value.ref a], ks.zip ws⟩ (ps.zip (Value.ref a :: gv ws))) (rel : ∀ {zs : List V} {ws : List Value}, Vals zs ws → Vals (gV zs) (gv ws)) (hkw : PK X kws tk)
    (hall : (backToKw pos (keywordEach kws X.env)).all (·.1.isSome) = true := by rfl) (hks : (backToKw pos (keywordEach kws X.env)).filterMap (·.1) = ks := by rfl)
    (hpl : ((backTo pos (starEach [] X.env)).any (·.1) || (backToKw pos (keywordEach kws X.env)).any (·.1.isNone)) = false := by rfl)
    (ht : eval (.Call (.Attribute o m apos) [] kws pos) X.env = (do
      let ov ← eval o X.env
      standAt apos.atName
      let (f, first) ← holding [ov] (getMethod ov m pl)
      callWith pos f first (backTo pos (starEach [] X.env)) (backToKw pos (keywordEach kws X.env))) := by rfl) :
    PE X (.Call (.Attribute o m apos) [] kws pos) (fun σ H Q => ta σ H fun y H1 => ∃ a dx fs, y = .ref a ∧ H1 a = some (.ins C dx fs) ∧ fs.lookup m = none ∧ tk σ H1 fun zs H2 => zs.length = ks.length ∧ sp (.ref a :: gV zs) H2 Q (E σ)) := by
  refine ⟨fun pins s σ H Q I h => PySem.W.methodCall_KW (pl := pl) (thn (he.run pins s σ H _ I h) fun u s1 hh => ?_) ht⟩
  obtain ⟨y, H1, I1, rx, a, dx, fs, rfl, ea, l, q⟩ := hh
  obtain rfl : u = Value.ref a := rx
  refine getmeth_ok I1 ea c hm l ?_
  refine PySem.W.callWith_of hpl (PySem.W.keeps_K (K := X.K) hm.kp) (evalArgs_kw2_nil hall (thn (hkw.run pos _ s1 σ H1 _ I1 q) fun ws s3 hh => ?_))
  obtain ⟨zs, H2, I3, rz, hl, q2⟩ := hh
  refine ⟨I3.kIn, ?_⟩
  rw [hks]
  refine wpAny_call (codeAny_mono (F.run X.A X.stack s3 H2 ⟨[.ref a], ks.zip ws⟩ (.ref a :: gv ws) (.ref a :: gV zs) Q (E σ) hr I3.env0 (hbd s3 a ws I3.kIn (by rw [← rz.length]; exact hl)) (.cons rfl (rel rz)) q2) fun rs s' hq => ?_)
  cases rs with
  | error er => exact hx σ _ H2 s3 er s' I3 hq
  | ok fl =>
    cases fl with
    | ret u => exact I3.after hq
    | next => exact hq.elim
    | brk => exact hq.elim
    | cont => exact hq.elim
end
end L2

set_option Elab.async false
set_option linter.all false
set_option maxRecDepth 100000
set_option maxHeartbeats 1000000
/-! VxF: v != v, one and the same: data, a list of anything, a dict of flat data. -/
namespace L2
open PySem PySem.Spec PyProof.Rows
section
variable {X : Cx}
def rNeL (K : PySem.W.Frag) : R2 := fun x y H Q => ∃ (a : Addr) (xs : List V), x = .ref a ∧ y = .ref a ∧ SqL K H a xs ∧ Q (.bl false) H
theorem op_neL (hu : X.A.units < cLine) : OpR X (compareOp .NotEq) (rNeL X.K) := by
  intro pins s σ H x y v u Q I rx ry h
  obtain ⟨a, xs, rfl, rfl, ha, q⟩ := h
  cases rx
  cases ry
  obtain ⟨us, r1, p1, _⟩ := I.list ha
  have z := SeqAt.RcNeAt.lists (A := X.A) (s := s) (e := fun _ => true) p1.isList p1.isList rfl hu (fun j h1 h2 => SeqAt.EqAt.same _) X.prog X.w X.xe (EP X pins σ Q)
  refine z ?_
  have e : (List.range us.toArray.size).all (fun _ => true) = true := by simp
  rw [e]
  exact ⟨.bl false, H, I, rfl, q⟩
def rNeS (K : PySem.W.Frag) : R2 := fun x y H Q => rNeD K x y H Q ∨ rNeL K x y H Q ∨ rNeDA x y H Q
theorem op_neS (h64 : X.A.units + 64 < cLine) : OpR X (compareOp .NotEq) (rNeS X.K) := by
  intro pins s σ H x y v u Q I rx ry h
  have hu : X.A.units < cLine := by omega
  rcases h with h | h | h
  · exact op_neD h64 pins s σ H x y v u Q I rx ry h
  · exact op_neL hu pins s σ H x y v u Q I rx ry h
  · exact op_ne_dictA hu pins s σ H x y v u Q I rx ry h
end
end L2

set_option Elab.async false
set_option linter.all false
set_option maxRecDepth 100000
set_option maxHeartbeats 2000000
/-! VxV: tuple(d.items()). -/
namespace PySem
open AutoSeq1 (wpAny_loadPart')
theorem tuple_new_itemsV {prog : Program} {w : World} {K : Type} [DecidableEq K] (knd : KeyKind prog w K) (r d : Addr) (kvs : List (K × Value)) (ep : Nat) (hn : kvs.length ≤ sizeLine) :
    MeetsIn prog w (Builtin.«tuple.__new__» ⟨[.type "tuple", .ref r], []⟩) (fun A R s => A.handled = none ∧ s.heap.IsItemsView r d ∧ s.heap.DictAt knd d kvs ep ∧
      ∀ (h' : Heap) (tk : Nat) (as : List Addr), (∀ b o, s.heap.get? b = some o → h'.get? b = some o) → as.length = kvs.length → PySem.W.KdxG knd kvs s.heap.objs.size h' as →
        R (.ok (.ret (.ref h'.objs.size))) { s with heap := h'.push { cls := .type "tuple", data := .seq (as.map Value.ref).toArray }, toks := tk }) :=
  .of_wp fun A R s h => by
    obtain ⟨hp, g, dr, tk0, os⟩ := s
    obtain ⟨hh, hv, hm, h⟩ := h
    have hsub := sub_tuple_self
    have hinit := init_tuple_lookup
    have hmh := madeHere_tuple
    obtain ⟨o, ho, hc, hd⟩ := hv
    have hT : Shared.TypeIs ⟨hp, g, dr, tk0, os⟩ (.ref r) "dict_items" := ⟨o, ho, hc⟩
    have hh1 : A.in1.handled = none := hh
    have key : ∀ {R' : List Value → Shared → Prop} {E' : Value → Shared → Prop}, (∀ (h' : Heap) (tk : Nat) (as : List Addr), (∀ b o, hp.get? b = some o → h'.get? b = some o) → as.length = kvs.length → PySem.W.KdxG knd kvs hp.objs.size h' as → R' (as.map Value.ref) ⟨h', g, dr, tk, os⟩) →
        wpAny (model prog w) A.in1 (collect (.ref r)) R' E' ⟨hp, g, dr, tk0, os⟩ := fun h => PySem.W.kdx_collect (s := ⟨hp, g, dr, tk0, os⟩) (knd := knd) (kvs := kvs) (ep := ep) hh1 ⟨o, ho, hc, hd⟩ hm hn h
    wp_walk using wpAny_typeOf hT, key
    intro h' tk as hk hl hG
    show wpAny _ _ (Builtin.Tuple.tupleExact (as.map Value.ref).toArray >>= fun v => ret v) _ _ _
    unfold Builtin.Tuple.tupleExact
    refine wpAny_bind (wpAny_newObj_type ?_ (by show (as.map Value.ref).toArray.size ≤ sizeLine; rw [List.size_toArray, List.length_map, hl]; exact hn))
    exact wpAny_pure ⟨_, rfl, h h' tk as hk hl hG⟩
theorem call_tuple_itemsV {prog : Program} {w : World} {A : Around} {E : Value → Shared → Prop} {s : Shared} {K : Type} [DecidableEq K] (knd : KeyKind prog w K) {r d : Addr} {kvs : List (K × Value)} {ep : Nat} {Q : Value → Shared → Prop} (hn : kvs.length ≤ sizeLine)
    (hh : A.handled = none) (hv : s.heap.IsItemsView r d) (hm : s.heap.DictAt knd d kvs ep)
    (h : ∀ (h' : Heap) (tk : Nat) (as : List Addr), (∀ b o, s.heap.get? b = some o → h'.get? b = some o) → as.length = kvs.length → PySem.W.KdxG knd kvs s.heap.objs.size h' as → Q (.ref h'.objs.size) { s with heap := h'.push { cls := .type "tuple", data := .seq (as.map Value.ref).toArray }, toks := tk }) :
    wpAny (model prog w) A (call (.type "tuple") [.ref r]) Q E s :=
  callType_newIn F.called_tuple (by decide) (F.typeCall_tuple_1 _) (F.newCall_tuple_1 _) (fun obj => F.args_object_init_2 obj _) F.entry_tuple_new
    (tuple_new_itemsV knd r d kvs ep hn) ⟨hh, hv, hm, fun h' tk as hk hl hG => ⟨⟨_, Heap.get?_push_size _ rfl, rfl⟩, h h' tk as hk hl hG⟩⟩
end PySem
namespace L2
open PySem PySem.Spec PyProof.Rows LiI
def rItemsTu : V → Hp → VK → Prop := fun x H Q => ∃ (d : Addr) (kvs : List (Key × V)), x = .ref d ∧ H d = some (.dK kvs) ∧
  ∀ (H' : Hp) (p : Addr) (ts : List Addr), Same H H' → H p = none → (∀ t ∈ ts, H t = none) → H' p = some (.tup (ts.map V.ref)) → Paired (fun (t : Addr) (q : Key × V) => H' t = some (.tup [kV q.1, q.2])) ts kvs → Q (.ref p) H'
def tTupItems (te : TE) : TE := fun σ H Q => te σ H fun x H1 => rItemsTu x H1 Q
section
variable {X : Cx} {e : Expr} {te : TE} {p apos cpos pos : Pos}
theorem items_laidT {pins : List (Addr × Obj)} {σ : L2.St} {H : Hp} {s : Shared} {h' : Heap} {tk : Nat} {kvs : List (Key × V)} {vs : List (Key × Value)} {as : List Addr} (I : Inv X pins σ H s) (hz : kvs.length ≤ sizeLine) (kv : KV kvs vs)
    (hk : ∀ b o, s.heap.get? b = some o → h'.get? b = some o) (hl : as.length = vs.length) (hG : PySem.W.KdxG (mixKind X.prog X.w) vs s.heap.objs.size h' as) (le : s.heap.objs.size ≤ h'.objs.size) :
    ∃ H' : Hp, Same H H' ∧ H h'.objs.size = none ∧ (∀ t ∈ as, H t = none) ∧ H' h'.objs.size = some (.tup (as.map V.ref)) ∧ Paired (fun (t : Addr) (q : Key × V) => H' t = some (.tup [kV q.1, q.2])) as kvs ∧
      Inv X pins σ H' { s with heap := h'.push { cls := .type "tuple", data := .seq (as.map Value.ref).toArray }, toks := tk } := by
  have lk : kvs.length = vs.length := Paired.length kv
  have hSn : h'.objs.size ∉ as := fun z => Nat.lt_irrefl _ (hG.there z)
  have nd : as.Nodup := List.Pairwise.imp (fun {a b} (h : a < b) => Nat.ne_of_lt h) hG.rise
  have new : ∀ t ∈ as, H t = none := fun t ht => I.hok.fresh (Nat.le_of_lt (hG.above t ht))
  have newS : H h'.objs.size = none := I.hok.fresh le
  have atP := putT_at as kvs (upd H h'.objs.size (.tup (as.map V.ref))) (by omega) nd
  have off : ∀ b, b ∉ as → b ≠ h'.objs.size → putT (upd H h'.objs.size (.tup (as.map V.ref))) as kvs b = H b := fun b h1 h2 => by rw [putT_off as kvs _ h1, upd_ne h2]
  have low : ∀ b o, s.heap.get? b = some o → b ∉ as ∧ b ≠ h'.objs.size := fun b o e => ⟨fun z => absurd (Heap.lt_size e) (Nat.not_lt.mpr (Nat.le_of_lt (hG.above b z))), fun z => absurd (Heap.lt_size e) (Nat.not_lt.mpr (by rw [z]; exact le))⟩
  have kp : ∀ b u, H b = some u → (putT (upd H h'.objs.size (.tup (as.map V.ref))) as kvs) b = some u := fun b u e => by
    rw [off b (fun z => by rw [new b z] at e; cases e) (fun z => by rw [z, newS] at e; cases e)]
    exact e
  have eS : putT (upd H h'.objs.size (.tup (as.map V.ref))) as kvs h'.objs.size = some (.tup (as.map V.ref)) := by rw [putT_off as kvs _ hSn, upd_same]
  have hk2 : ∀ b o, s.heap.get? b = some o → (h'.push { cls := .type "tuple", data := .seq (as.map Value.ref).toArray }).get? b = some o := fun b o e => Heap.get?_push_of_some _ (hk b o e)
  refine ⟨putT (upd H h'.objs.size (.tup (as.map V.ref))) as kvs, kp, newS, new, eS, atP, ?_⟩
  refine I.call' (ch := []) rfl ⟨fun b o q _ _ _ => hk2 b o q, fun b o q _ _ _ => ⟨o.slots, hk2 b o q⟩, fun b o q n _ => ?_, fun b o q _ => ⟨o, hk2 b o q⟩, fun b xs q => kp b _ q, fun b o u q => kp b _ q, fun b ps q => ⟨#[], by rw [kp b _ q]; simp⟩⟩ (fun b u q => ?_) I.bare fun b z => by simp at z
  · obtain ⟨z1, z2⟩ := low b o q
    rw [off b z1 z2]
    exact n
  · by_cases hb : b ∈ as
    · obtain ⟨j, pk, e1, e2, e3⟩ := paired_ix atP hb
      rw [e3] at q
      cases q
      obtain ⟨key, k, x, f1, f2, f3⟩ := hG.pairs j b e1
      obtain ⟨qv, g1, g2, g3⟩ := paired_get kv e2
      rw [f1] at g1
      cases g1
      have rk : RelV (kV pk.1) key := by
        rw [g2]
        exact relV_key (show keyIs k key = true from f2)
      exact ⟨by show 2 ≤ sizeLine; decide, [key, x], .cons rk (.cons g3 .nil), ⟨_, Heap.get?_push_of_some _ f3, rfl, _, rfl⟩⟩
    · by_cases hb2 : b = h'.objs.size
      · rw [hb2] at q ⊢
        rw [eS] at q
        cases q
        refine ⟨by rw [List.length_map]; omega, as.map Value.ref, vals_refs as, ?_⟩
        exact ⟨_, Heap.get?_push_size _ rfl, rfl, _, rfl⟩
      · rw [off b hb hb2] at q
        exact (I.hok b u q).stay (fun d v _ y => hk2 d v y) (fun d y => kp d _ y) fun d xs y => kp d _ y
/-- tuple(e.items()) -/
theorem pe_tupItems (hc : X.calm = true) (he : PE X e te) (hg : Gl X "tuple") (hm : X.mg "tuple" = none) (hv : bootBuiltins "tuple" = some (.type "tuple")) (hbase : attributeBase e "items" X.env (eval e X.env) = eval e X.env := by rfl) (hline : (apos.endLine == cpos.line) = true := by rfl)
    (hs : starEach [.Call (.Attribute e "items" apos) [] [] cpos] X.env = (false, eval (.Call (.Attribute e "items" apos) [] [] cpos) X.env) :: starEach [] X.env := by rfl) :
    PE X (.Call (.Name "tuple" p) [.Call (.Attribute e "items" apos) [] [] cpos] [] pos) (tTupItems te) := by
  refine ⟨fun pins s σ H Q I hq => ?_⟩
  refine wpAny_Call_Name_kw (ld_blt I hg hm hv ?_)
  refine PyProof.Rows.callWith_type1 ?_ hs rfl
  rw [hs]
  show wpAny _ _ (spliced ((false, eval (.Call (.Attribute e "items" apos) [] [] cpos) X.env) :: backTo pos (starEach [] X.env))) _ _ s
  refine Calls.spliced_cons ?_
  refine wpAny_Call_method (T := "dict") (id := "dict.items") hbase rfl hline F.plainAttrs_dict F.slot_dict_items F.type_dict_items (thn (he.run pins s σ H _ I hq) fun u s1 ⟨x, H1, I1, rx, d, kvs, ex, hd, q⟩ => ?_)
  subst ex
  obtain rfl : u = Value.ref d := rx
  obtain ⟨hz, hs0, vs, kv, hdo⟩ := I1.hok d _ hd
  obtain ⟨ep, hat⟩ := hdo.dictAt
  have lk : kvs.length = vs.length := Paired.length kv
  have I2 : Inv X pins σ H1 { s1 with heap := s1.heap.push { cls := .type "dict_items", data := .fields #[.ref d] } } := I1.kept (t' := s1.toks) fun b ob q => Heap.get?_push_of_some _ q
  refine ⟨hdo.typeIs, hdo.mapOf.noDict, ?_⟩
  show wpAny _ _ (callWith cpos (.builtin "dict.items") [.ref d] [] []) _ X.xe s1
  refine method_meetsIn F.slot_dict_items F.entry_dict_items rfl (PySem.evalArgs_none ⟨rfl, hdo.typeIs, F.args_dict_items_1 _, _, meets_dict_items (mixKind X.prog X.w) d hs0, ⟨vs, hdo⟩, ?_⟩)
  refine Calls.spliced_nil ?_
  refine PySem.call_tuple_itemsV (mixKind X.prog X.w) (kvs := vs) (ep := ep) (by omega) (I1.ok.hd hc) ⟨_, Heap.get?_push_size _ rfl, rfl, rfl⟩ (hat.push _) fun h' tk as hk hl hG => ?_
  obtain ⟨H', k1, k2, k3, k4, k5, J⟩ := items_laidT (tk := tk) I2 hz kv hk hl hG (by show (s1.heap.push _).objs.size ≤ _; rw [Heap.size_push]; exact Heap.lt_size (hk _ _ (Heap.get?_push_size _ rfl)))
  exact ⟨.ref _, H', J, rfl, q H' _ as k1 k2 k3 k4 k5⟩
end
end L2

set_option Elab.async false
set_option linter.all false
set_option maxRecDepth 100000
set_option maxHeartbeats 2000000
/-! VxW: a walk over enumerate(text). -/
namespace L2
open PySem PySem.Spec PyProof.Rows
/-- the signs of x, each in a new pair -/
def Itns (x : Str) : It :=
  ⟨fun i _ => i < x.cps.size, fun i H v H' => ∃ T c, v = .ref T ∧ H T = none ∧ H' = upd H T (.tup [.int (i : Nat), .str ⟨#[c]⟩]) ∧ x.cps[i]? = some c, fun i _ => i = x.cps.size⟩
theorem turn_enumS {P : Program} {w : World} {K : PySem.W.Frag} {elts : List Expr} {kk : Nat} {tpos : Pos} (x : Str) (t : Tok) (e it : Addr) :
    Turn P w K (.Tuple elts kk tpos) (Itns x) [e, it] e (fun i h => (∃ old, IsEnum h e it ((i : Nat) : Int) old) ∧ h.IsStrIter it (strIterType x) x t i ∧ e ≠ it) where
  mem := by simp
  obj := fun i h st b hb => by
    obtain ⟨⟨old, he⟩, ⟨o, ho, hc, hd⟩, _⟩ := st
    have e' : b = e ∨ b = it := by simpa using hb
    rcases e' with z | z
    · rw [z]; exact ⟨_, he, fun v q => nomatch q⟩
    · rw [z]; exact ⟨o, ho, fun v q => by rw [hd] at q; cases q⟩
  keep := fun i h h' st k => let ⟨⟨old, he⟩, ⟨o, ho, r⟩, hne⟩ := st; ⟨⟨old, k e (by simp) _ he⟩, ⟨o, k it (by simp) o ho, r⟩, hne⟩
  item := by
    intro X hP hw hK hc i pins s σ H E I hf st hg
    subst hP hw hK
    obtain ⟨⟨old, he⟩, hit, hne⟩ := st
    have hel : e < s.heap.objs.size := Heap.lt_size he
    have hil : it < s.heap.objs.size := by obtain ⟨_, q, _⟩ := hit; exact Heap.lt_size q
    have hh1 : X.A.in1.handled = none := I.ok.hd hc
    refine wpAny_pyNext_enum_itemD (Draws.text (prog := X.prog) (w := X.w) hh1 it x t) he hit hg hne (by simpa using hne) fun v h' tk hv ho hit' hT hsz hk => ?_
    obtain ⟨c, u, hcx, rfl⟩ := hv
    refine ⟨_, rfl, wpAny_letOwnedTupleGo_enum (s := { s with heap := h', toks := tk + 1 }) ho fun h'' he' sb => ?_⟩
    have hT2 : h''.get? s.heap.objs.size = some { cls := .type "tuple", data := .seq #[.int i tk, .str ⟨#[c]⟩ u] } := (sb.2 _ (Nat.ne_of_gt hel)).trans hT
    have new : ObjOk X.prog X.w (upd H s.heap.objs.size (.tup [.int (i : Nat), .str ⟨#[c]⟩])) h'' s.heap.objs.size (.tup [.int (i : Nat), .str ⟨#[c]⟩]) :=
      ⟨by show 2 ≤ sizeLine; decide, [.int i tk, .str ⟨#[c]⟩ u], .cons ⟨_, rfl⟩ (.cons ⟨_, rfl⟩ .nil), ⟨_, hT2, rfl, _, rfl⟩⟩
    have I1 : Inv X pins σ (upd H s.heap.objs.size (.tup [.int (i : Nat), .str ⟨#[c]⟩])) { s with heap := h'', toks := tk + 1 } :=
      I.turnedNew (ch := [e, it]) (fun b ob hb q => (sb.2 b (fun z => hb (by simp [z]))).trans (hk b ob (fun z => hb (by simp [z])) (fun z => hb (by simp [z])) q)) hf (Nat.le_refl _) new
    refine ⟨.ref s.heap.objs.size, _, I1, rfl, ⟨_, c, rfl, I.hok.fresh (Nat.le_refl _), rfl, hcx⟩, ⟨⟨.str ⟨#[c]⟩ u, ?_⟩, ?_, hne⟩, fun b hb => ?_⟩
    · have e1 : ((i + 1 : Nat) : Int) = (i : Int) + 1 := by omega
      rw [e1]; exact he'
    · obtain ⟨o, ho2, r⟩ := hit'
      exact ⟨o, (sb.2 it (Ne.symm hne)).trans ho2, r⟩
    · have hb' : b < s.heap.objs.size := by
        have e' : b = e ∨ b = it := by simpa using hb
        rcases e' with z | z
        · rw [z]; exact hel
        · rw [z]; exact hil
      rw [upd_ne (Nat.ne_of_lt hb')]
      exact (hf b hb).1
  done := by
    intro X hP hw hK hc i pins s σ H E I hf st hg
    subst hP hw hK
    obtain ⟨⟨old, he⟩, hit, hne⟩ := st
    obtain ⟨f0, f1, f2, f3, f4, f5⟩ := hf it (by simp)
    have hh1 : X.A.in1.handled = none := I.ok.hd hc
    have D0 := Draws.text (prog := X.prog) (w := X.w) hh1 it x t
    have hg' : i = x.cps.size := hg
    subst hg'
    exact wpAny_pyNext_enum_endD D0 he hit fun h' eb => ⟨rfl, I.turned (t' := s.toks) (fun b o hb q => eb b o hb q) f0 f1 f3 f4 f5⟩
  self := fun A i s Q E st h => let ⟨⟨_, he⟩, _⟩ := st; wpAny_pyIter_enum he h
/-- it goes once for each sign -/
theorem walk_enumS {x : Str} : Walk (Itns x) x.cps.size (fun _ => True) (fun i H v H' => ∃ T c, v = .ref T ∧ H T = none ∧ H' = upd H T (.tup [.int (i : Nat), .str ⟨#[c]⟩]) ∧ x.cps[i]? = some c) :=
  ⟨fun _ _ hi _ => hi, fun _ _ => rfl, fun _ _ _ _ _ _ y => y⟩
def iEnumS (ta : TA) : TI := fun σ H R => ta σ H fun vs H1 => ∃ x, vs = [.str x] ∧ R (Itns x) H1
theorem pi_enumS {X : Cx} {e : Expr} {ta : TA} {p pos tpos : Pos} {elts : List Expr} {kk : Nat} (hg : Gl X "enumerate") (hm : X.mg "enumerate" = none) (ha : PA X [e] ta) (hs : starEach [e] X.env = [(false, eval e X.env)] := by rfl) :
    PI X (.Tuple elts kk tpos) (.Call (.Name "enumerate" p) [e] [] pos) (iEnumS ta) := by
  refine ⟨fun pins s σ H R I h => ?_⟩
  refine Call_ (ld_blt I hg hm boot_enumerate (PyProof.Rows.callWith_type1 (thn (ha.run pos pins s σ H _ I h) fun us s1 ⟨vs, H1, I1, r1, q1⟩ => ?_) hs rfl))
  obtain ⟨x, ex, q⟩ := q1
  subst ex
  cases r1 with
  | cons r rr =>
    cases rr
    obtain ⟨t, rfl⟩ := r
    refine call_enumerate_str fun h' he hit hsz hk => wpAny_pyIter_enum he ?_
    have I2 : Inv X pins σ H1 { s1 with heap := h' } := I1.kept (t' := s1.toks) hk
    refine ⟨s1.heap.objs.size + 1, [s1.heap.objs.size + 1, s1.heap.objs.size], _, _, H1, rfl, I2, turn_enumS x t (s1.heap.objs.size + 1) s1.heap.objs.size, ⟨⟨.none, he⟩, hit, Nat.succ_ne_self _⟩, fun b hb => ?_, q⟩
    have e' : b = s1.heap.objs.size + 1 ∨ b = s1.heap.objs.size := by simpa using hb
    have hle : s1.heap.objs.size ≤ b := by
      rcases e' with z | z
      · rw [z]; exact Nat.le_add_right _ _
      · rw [z]; exact Nat.le_refl _
    exact I1.fpOk hle (I1.hok.fresh hle)
end L2

set_option Elab.async false
set_option linter.all false
set_option maxRecDepth 100000
set_option maxHeartbeats 1000000
/-! VxMk: within a try: C(k = e, ..), what __init__ lets out told at the slots of the call. -/
namespace L2
open PySem PySem.Spec PyProof.Rows
section
variable {X : Cx} {CX : CXT} {k : Nat} {f C : Addr} {fd : FuncData} {ps ks : List Str} {sp : Sp} {x : Str} {p pos : Pos} {kws : List Keyword} {tk : TA} {E : L2.St → XK}
theorem pe_makeKSg {gv : List Value → List Value} {gV : List V → List V} (M : Mk X.K C f) (F : FnOk X.prog X.w X.K X.mg X.base CX k f fd ps sp) (hr : Room (k + 1) X.A) (hg : Gl X x) (hm : X.mg x = some (.ref C)) (hx : ∀ σ, PassesAt CX X σ (E σ))
    (hbd : ∀ (s : Shared) (a : Addr) (ws : List Value), X.K.In s.heap → ws.length = ks.length → BindsTo s fd ⟨[Value.ref a], ks.zip ws⟩ (ps.zip (Value.ref a :: gv ws))) (rel : ∀ {zs : List V} {ws : List Value}, Vals zs ws → Vals (gV zs) (gv ws)) (hkw : PK X kws tk)
    (hall : (backToKw pos (keywordEach kws X.env)).all (·.1.isSome) = true := by rfl) (hks : (backToKw pos (keywordEach kws X.env)).filterMap (·.1) = ks := by rfl) (hdb : (x == ("__debug__" : Str)) = false := by decide)
    (hpl : ((backTo pos (starEach [] X.env)).any (·.1) || (backToKw pos (keywordEach kws X.env)).any (·.1.isNone)) = false := by rfl) :
    PE X (.Call (.Name x p) [] kws pos) (fun σ H Q => tk σ H fun zs H2 => zs.length = ks.length ∧ ∀ n dx, H2 n = none → H2 dx = none → dx ≠ n → sp (.ref n :: gV zs) (upd (upd H2 dx (.own n)) n (.ins C dx [])) (fun v H3 => v = .non ∧ Q (.ref n) H3) (E σ)) := by
  refine ⟨fun pins s σ H Q I h => ?_⟩
  refine wpAny_Call_Name_kw (ld_glob I hg hm ?_ hdb)
  refine PySem.W.callWith_KW0 (h₀ := X.base) I.ok.mod.kin M.kp hall ?_ hpl
  refine thn (hkw.run pos pins s σ H _ I h) fun ws s2 ⟨zs, H2, I2, rz, l2, q2⟩ => ⟨I2.kIn, ?_⟩
  rw [hks]
  have hq := q2 (s2.heap.objs.size + 1) s2.heap.objs.size (I2.hok.fresh (Nat.le_succ _)) (I2.hok.fresh (Nat.le_refl _)) (Nat.ne_of_lt (Nat.lt_succ_self _))
  have J := Inv.made (C := C) I2
  have l3 : ws.length = ks.length := rz.length.symm.trans l2
  refine wpAny_call (make_map (vs := []) (f := f) I2.kIn M.makes M.init (beq_iff_eq.mp M.fn) (codeAny_mono (F.run _ X.stack _ _ ⟨[Value.ref (s2.heap.objs.size + 1)], ks.zip ws⟩ (Value.ref (s2.heap.objs.size + 1) :: gv ws) (V.ref (s2.heap.objs.size + 1) :: gV zs) _ (E σ) (hr.make C [] (ks.zip ws))
    (J.env0.make C [] (ks.zip ws)) (hbd _ _ ws J.kIn l3) (.cons rfl (rel rz)) hq) fun r s' hq' => ?_))
  cases r with
  | error e => exact hx σ pins _ _ e s' J hq'
  | ok fl =>
    cases fl with
    | ret u =>
      obtain ⟨v, H', I3, rv, ev, q3⟩ := J.after hq'
      subst ev
      exact ⟨rv, ⟨V.ref (s2.heap.objs.size + 1), H', I3, rfl, q3⟩⟩
    | next => exact False.elim hq'
    | brk => exact False.elim hq'
    | cont => exact False.elim hq'
end
end L2

set_option Elab.async false
set_option linter.all false
set_option maxRecDepth 100000
set_option maxHeartbeats 2000000
namespace Kh
open PySem PySem.Spec PyProof.Rows L2
abbrev FnP (K : PySem.W.Frag) (x : Str) (st : Stmt) (f : Addr) (fd : FuncData) : Prop := FunD K x x (defArgs st) (defBody st) (defScope st) [] [] f fd
abbrev CN (K : PySem.W.Frag) : Addr := gC K "Node"
/-- 10 ** 300 -/
def big : Int := (10 ^ 60) ^ 5
def isI : PyData → Bool
  | .int _ => true
  | _ => false
def isT : PyData → Bool
  | .str x => decide (x.length ≤ 2000)
  | _ => false
def isK : PyData → Bool
  | .int i => decide (-big < i) && decide (i < big)
  | .str x => decide (x.length ≤ 2000)
  | _ => false
def isA : PyData → Bool
  | .none => true
  | .bool _ => true
  | d => isK d
def fits (d : PyData) : Prop := ∀ x, d = .str x → x.length ≤ sizeLine
/-- a test of data, of a thing -/
def onT (t : PyData → Bool) (n : Bool) : Tk → Bool
  | .dat d => t d
  | .nod _ => n
def fitsT : Tk → Prop
  | .dat d => fits d
  | .nod _ => True
def spTest (K : PySem.W.Frag) (t : PyData → Bool) (n : Bool) : Sp := fun vs H Q _ => ∃ (v : V) (k : Tk), vs = [v] ∧ Tv K (CN K) H v k ∧ fitsT k ∧ Q (.bl (onT t n k)) H
section
variable {P : Program} {w : World} {K : PySem.W.Frag} {mg : Str → Option Value} {base : Heap}
abbrev sIsInt : Stmt := top 9
abbrev sIsText : Stmt := top 10
abbrev sIsKey : Stmt := top 11
abbrev sIsAtom : Stmt := top 12
abbrev sIsVal : Stmt := top 35
theorem scIsInt : FnScope ["thing"] ["thing"] (defScope sIsInt) := ⟨rfl, rfl, rfl, by decide +kernel, rfl, by decide +kernel, by decide +kernel⟩
theorem scIsText : FnScope ["thing"] ["thing"] (defScope sIsText) := ⟨rfl, rfl, rfl, by decide +kernel, rfl, by decide +kernel, by decide +kernel⟩
theorem scIsKey : FnScope ["thing"] ["thing"] (defScope sIsKey) := ⟨rfl, rfl, rfl, by decide +kernel, rfl, by decide +kernel, by decide +kernel⟩
theorem scIsAtom : FnScope ["thing"] ["thing"] (defScope sIsAtom) := ⟨rfl, rfl, rfl, by decide +kernel, rfl, by decide +kernel, by decide +kernel⟩
theorem scIsVal : FnScope ["thing"] ["thing"] (defScope sIsVal) := ⟨rfl, rfl, rfl, by decide +kernel, rfl, by decide +kernel, by decide +kernel⟩
/-- the built-in names and the constants -/
structure Nm (K : PySem.W.Frag) (mg : Str → Option Value) : Prop where
  isi : mg "isinstance" = none
  int : mg "int" = none
  bool : mg "bool" = none
  str : mg "str" = none
  tuple : mg "tuple" = none
  len : mg "len" = none
  all : mg "all" = none
  list : mg "list" = none
  repr : mg "repr" = none
  rng : mg "range" = none
  min : mg "min" = none
  atom : ∃ t, mg "ATOM_LIMIT" = some (.int big t)
  text : ∃ t, mg "TEXT_LIMIT" = some (.int 2000 t)
  lim : ∃ t, mg "BRAND_LIMIT" = some (.int 40 t)
  lets : ∃ t, mg "LETTERS" = some (.str LET t)
  oths : ∃ t, mg "OTHER_BRAND_SIGNS" = some (.str OTH t)
  resv : ∃ t, mg "RESERVED_BRAND" = some (.str "bag" t)
  zip : mg "zip" = none
  node : mg "Node" = some (.ref (CN K))
  dat : DatN K (CN K)
theorem ok_isInt {f : Addr} {fd : FuncData} (F : FnP K "is_integer" sIsInt f fd) (N : Nm K mg) : FnOk P w K mg base CX0 1 f fd ["thing"] (spTest K isI false) := by
  refine F.ok scIsInt (fun vs H Q E h => ?_) (fun cdv A outer s H vs Q E hr h => ?_)
  · obtain ⟨v, d, rfl, _⟩ := h
    rfl
  · refine ⟨_, PSs.nox (pss_one (ps_ret (pe_and (pe_callB (call_isTk (CN := CN K)) (by rfl) N.isi (by decide +kernel) (pa_cons (pv 0) (pa_cons (pe_bltn (v := .ty "int") (by rfl) N.int (by decide +kernel) rfl) pa_nil)))
      (pe_one (pe_not (pe_callB (call_isTk (CN := CN K)) (by rfl) N.isi (by decide +kernel) (pa_cons (pv 0) (pa_cons (pe_bltn (v := .ty "bool") (by rfl) N.bool (by decide +kernel) rfl) pa_nil)))))))), ?_⟩
    obtain ⟨v, k, rfl, hv, hf, q⟩ := h
    refine ⟨_, rfl, v, k, "int", rfl, rfl, hv, _, rfl, ?_⟩
    cases k with
    | nod C => exact q
    | dat d =>
      cases d with
      | int i => exact ⟨_, rfl, v, _, "bool", rfl, rfl, hv, _, rfl, q⟩
      | bool b => exact ⟨_, rfl, v, _, "bool", rfl, rfl, hv, _, rfl, q⟩
      | none => exact q
      | str _ => exact q
      | list _ => exact q
      | tuple _ => exact q
      | dict _ => exact q
theorem ok_isText {f : Addr} {fd : FuncData} (F : FnP K "is_text" sIsText f fd) (N : Nm K mg) : FnOk P w K mg base CX0 1 f fd ["thing"] (spTest K isT false) := by
  obtain ⟨tt, gt⟩ := N.text
  refine F.ok scIsText (fun vs H Q E h => ?_) (fun cdv A outer s H vs Q E hr h => ?_)
  · obtain ⟨v, d, rfl, _⟩ := h
    rfl
  · refine ⟨_, PSs.nox (pss_one (ps_ret (pe_and (pe_callB (call_isTk (CN := CN K)) (by rfl) N.isi (by decide +kernel) (pa_cons (pv 0) (pa_cons (pe_bltn (v := .ty "str") (by rfl) N.str (by decide +kernel) rfl) pa_nil)))
      (pe_one (pe_cmpR op_le (pe_callB call_len (by rfl) N.len PySem.boot_len (pa_cons (pv 0) pa_nil)) (pe_glob (v := .int 2000) (by rfl) gt ⟨_, rfl⟩) (nomark _)))))), ?_⟩
    obtain ⟨v, k, rfl, hv, hf, q⟩ := h
    refine ⟨_, rfl, v, k, "str", rfl, rfl, hv, _, rfl, ?_⟩
    cases k with
    | nod C => exact q
    | dat d =>
      cases d with
      | str x =>
        cases hv
        refine ⟨_, rfl, _, x.length, rfl, ⟨hf x rfl, rfl⟩, _, _, rfl, rfl, ?_⟩
        have e : decide ((x.length : Int) ≤ 2000) = onT isT false (.dat (.str x)) := by
          show _ = decide (x.length ≤ 2000)
          rw [Bool.eq_iff_iff, decide_eq_true_iff, decide_eq_true_iff]
          omega
        rw [← e] at q
        exact q
      | int i => exact q
      | bool b => exact q
      | none => exact q
      | list _ => exact q
      | tuple _ => exact q
      | dict _ => exact q
/-- the tests that the package has -/
structure Ts (K : PySem.W.Frag) (mg : Str → Option Value) : Prop where
  isI : ∃ f fd, FnP K "is_integer" sIsInt f fd ∧ mg "is_integer" = some (.ref f)
  isT : ∃ f fd, FnP K "is_text" sIsText f fd ∧ mg "is_text" = some (.ref f)
  isK : ∃ f fd, FnP K "is_key" sIsKey f fd ∧ mg "is_key" = some (.ref f)
  isA : ∃ f fd, FnP K "is_atom" sIsAtom f fd ∧ mg "is_atom" = some (.ref f)
  isV : ∃ f fd, FnP K "is_atom_or_node" sIsVal f fd ∧ mg "is_atom_or_node" = some (.ref f)
theorem ok_isKey {f : Addr} {fd : FuncData} (F : FnP K "is_key" sIsKey f fd) (T : Ts K mg) (N : Nm K mg) : FnOk P w K mg base CX0 2 f fd ["thing"] (spTest K isK false) := by
  obtain ⟨fi, fdi, FI, gI⟩ := T.isI
  obtain ⟨ft, fdt, FT, gT⟩ := T.isT
  have GI : FnOk P w K mg base CX0 1 fi fdi ["thing"] (spTest K isI false) := ok_isInt FI N
  have GT : FnOk P w K mg base CX0 1 ft fdt ["thing"] (spTest K isT false) := ok_isText FT N
  have bI : Binds K fdi ["thing"] [] := FI.bindsN fun _ _ _ _ _ _ us hl => match us, hl with | [_], _ => rfl
  have bT : Binds K fdt ["thing"] [] := FT.bindsN fun _ _ _ _ _ _ us hl => match us, hl with | [_], _ => rfl
  obtain ⟨ta, ga⟩ := N.atom
  refine F.ok scIsKey (fun vs H Q E h => ?_) (fun cdv A outer s H vs Q E hr h => ?_)
  · obtain ⟨v, d, rfl, _⟩ := h
    rfl
  · refine ⟨_, PSs.nox (pss_cons (ps_if (pt_val (pe_call GI hr (by rfl) gI FI.kp bI .nil pass0 (pa_cons (pv 0) pa_nil)))
        (pss_one (ps_ret (pe_chain op_lt op_lt (pe_un un_neg (pe_glob (v := .int big) (by rfl) ga ⟨_, rfl⟩)) (pv 0) (pe_glob (v := .int big) (by rfl) ga ⟨_, rfl⟩)))) pss_nil)
      (pss_one (ps_ret (pe_call GT hr (by rfl) gT FT.kp bT .nil pass0 (pa_cons (pv 0) pa_nil))))), ?_⟩
    obtain ⟨v, k, rfl, hv, hf, q⟩ := h
    refine ⟨_, rfl, v, k, rfl, hv, hf, _, rfl, ?_⟩
    cases k with
    | nod C => exact ⟨_, rfl, v, _, rfl, hv, hf, q⟩
    | dat d =>
      cases d with
      | int i =>
        cases hv
        refine iteT ?_
        refine ⟨_, rfl, _, rfl, _, _, rfl, rfl, _, rfl, ?_⟩
        by_cases c : -big < i
        · rw [decide_eq_true c]
          refine iteT ?_
          refine ⟨_, _, rfl, rfl, ?_⟩
          have e : onT isK false (.dat (.int i)) = decide (i < big) := by
            show (decide (-big < i) && decide (i < big)) = _
            rw [decide_eq_true c, Bool.true_and]
          rw [e] at q
          exact q
        · rw [decide_eq_false c]
          refine iteF ?_
          have e : onT isK false (.dat (.int i)) = false := by
            show (decide (-big < i) && decide (i < big)) = _
            rw [decide_eq_false c, Bool.false_and]
          rw [e] at q
          exact q
      | str x => exact ⟨_, rfl, v, _, rfl, hv, hf, q⟩
      | bool b => exact ⟨_, rfl, v, _, rfl, hv, hf, q⟩
      | none => exact ⟨_, rfl, v, _, rfl, hv, hf, q⟩
      | list _ => exact ⟨_, rfl, v, _, rfl, hv, hf, q⟩
      | tuple _ => exact ⟨_, rfl, v, _, rfl, hv, hf, q⟩
      | dict _ => exact ⟨_, rfl, v, _, rfl, hv, hf, q⟩
theorem non_of {CN : Addr} {H : Hp} {v : V} {k : Tk} (h : Tv K CN H v k) : (v = V.non ∧ k = .dat .none) ∨ (v ≠ V.non ∧ k ≠ .dat .none) := by
  cases k with
  | nod C =>
    obtain ⟨_, a, _, _, rfl, _⟩ := h
    exact .inr ⟨(fun z => nomatch z), (fun z => nomatch z)⟩
  | dat d =>
    have h' : Sd K H v d := h
    cases h' with
    | non => exact .inl ⟨rfl, rfl⟩
    | bl b => exact .inr ⟨(fun z => nomatch z), (fun z => nomatch z)⟩
    | int b => exact .inr ⟨(fun z => nomatch z), (fun z => nomatch z)⟩
    | str b => exact .inr ⟨(fun z => nomatch z), (fun z => nomatch z)⟩
    | lst _ _ => exact .inr ⟨(fun z => nomatch z), (fun z => nomatch z)⟩
    | tup _ _ => exact .inr ⟨(fun z => nomatch z), (fun z => nomatch z)⟩
    | emp _ => exact .inr ⟨(fun z => nomatch z), (fun z => nomatch z)⟩
    | one _ _ => exact .inr ⟨(fun z => nomatch z), (fun z => nomatch z)⟩
theorem ok_isAtom {f : Addr} {fd : FuncData} (F : FnP K "is_atom" sIsAtom f fd) (T : Ts K mg) (N : Nm K mg) : FnOk P w K mg base CX0 3 f fd ["thing"] (spTest K isA false) := by
  obtain ⟨fk, fdk, FK, gK⟩ := T.isK
  have GK : FnOk P w K mg base CX0 2 fk fdk ["thing"] (spTest K isK false) := ok_isKey FK T N
  have bK : Binds K fdk ["thing"] [] := FK.bindsN fun _ _ _ _ _ _ us hl => match us, hl with | [_], _ => rfl
  refine F.ok scIsAtom (fun vs H Q E h => ?_) (fun cdv A outer s H vs Q E hr h => ?_)
  · obtain ⟨v, d, rfl, _⟩ := h
    rfl
  · refine ⟨_, PSs.nox (pss_one (ps_ret (pe_or (pe_cmp (pc_isN (pv 0))) (pe_or (pe_callB (call_isTk (CN := CN K)) (by rfl) N.isi (by decide +kernel) (pa_cons (pv 0) (pa_cons (pe_bltn (v := .ty "bool") (by rfl) N.bool (by decide +kernel) rfl) pa_nil)))
      (pe_one (pe_call GK hr (by rfl) gK FK.kp bK .nil pass0 (pa_cons (pv 0) pa_nil))))))), ?_⟩
    obtain ⟨v, k, rfl, hv, hf, q⟩ := h
    rcases non_of hv with ⟨rfl, rfl⟩ | ⟨n1, n2⟩
    · exact ⟨_, rfl, true, by rw [decide_eq_true rfl], iteT q⟩
    · refine ⟨_, rfl, false, by rw [decide_eq_false n1], iteF ⟨_, rfl, v, k, "bool", rfl, rfl, hv, _, rfl, ?_⟩⟩
      cases k with
      | nod C => exact iteF ⟨_, rfl, v, _, rfl, hv, hf, q⟩
      | dat d =>
        cases d with
        | none => exact absurd rfl n2
        | bool b => exact iteT q
        | int i => exact iteF ⟨_, rfl, v, _, rfl, hv, hf, q⟩
        | str x => exact iteF ⟨_, rfl, v, _, rfl, hv, hf, q⟩
        | list _ => exact iteF ⟨_, rfl, v, _, rfl, hv, hf, q⟩
        | tuple _ => exact iteF ⟨_, rfl, v, _, rfl, hv, hf, q⟩
        | dict _ => exact iteF ⟨_, rfl, v, _, rfl, hv, hf, q⟩
theorem ok_isVal {f : Addr} {fd : FuncData} (F : FnP K "is_atom_or_node" sIsVal f fd) (T : Ts K mg) (N : Nm K mg) : FnOk P w K mg base CX0 4 f fd ["thing"] (spTest K isA true) := by
  obtain ⟨fk, fdk, FK, gK⟩ := T.isA
  have GK : FnOk P w K mg base CX0 3 fk fdk ["thing"] (spTest K isA false) := ok_isAtom FK T N
  have bK : Binds K fdk ["thing"] [] := FK.bindsN fun _ _ _ _ _ _ us hl => match us, hl with | [_], _ => rfl
  refine F.ok scIsVal (fun vs H Q E h => ?_) (fun cdv A outer s H vs Q E hr h => ?_)
  · obtain ⟨v, d, rfl, _⟩ := h
    rfl
  · refine ⟨_, PSs.nox (pss_one (ps_ret (pe_or (pe_call GK hr (by rfl) gK FK.kp bK .nil pass0 (pa_cons (pv 0) pa_nil))
      (pe_one (pe_callB (call_isN N.dat) (by rfl) N.isi (by decide +kernel) (pa_cons (pv 0) (pa_cons (pe_glob (v := .ref (CN K)) (by rfl) N.node rfl) pa_nil))))))), ?_⟩
    obtain ⟨v, k, rfl, hv, hf, q⟩ := h
    refine ⟨_, rfl, v, k, rfl, hv, hf, _, rfl, ?_⟩
    cases k with
    | nod C => exact iteF ⟨_, rfl, v, _, rfl, hv, q⟩
    | dat d =>
      cases e : isA d with
      | true =>
        have q' : Q (.bl (isA d)) H := q
        rw [e] at q'
        show if isA d = true then _ else _
        rw [e]
        exact iteT q'
      | false =>
        have q' : Q (.bl (isA d)) H := q
        rw [e] at q'
        show if isA d = true then _ else _
        rw [e]
        exact iteF ⟨_, rfl, v, _, rfl, hv, q'⟩
/-! ### brands -/
theorem yesT {σ : L2.St} {H : Hp} {A B : Hp → Prop} (h : A H) : tYes σ H fun b H3 => if b = true then A H3 else B H3 := @iteT (A H) (B H) h
theorem same_updN {H H' : Hp} {p : Addr} {o : HO} (s : Same H H') (n : H p = none) : Same H (upd H' p o) := fun b u e => by
  rw [upd_ne (ne_of_none e n)]
  exact s b u e
def signB (c : Nat) : Bool := decide (c ∈ LET.cps.toList) || decide (c ∈ OTH.cps.toList)
def brandB : PyData → Bool
  | .str x => (decide (1 ≤ x.length) && decide (x.length ≤ 40)) && ((match x.cps.toList with
    | [] => false
    | c :: _ => decide (c ∈ LET.cps.toList)) && x.cps.toList.all signB)
  | _ => false
def freeB (d : PyData) : Bool := brandB d && !(match d with
  | .str x => decide (x = "bag")
  | _ => false)
def spBrand (K : PySem.W.Frag) (b : PyData → Bool) : Sp := fun vs H Q _ => ∃ (v : V) (d : PyData), vs = [v] ∧ Sd K H v d ∧ fits d ∧ ∀ H', Same H H' → Q (.bl (b d)) H'
abbrev sBrand : Stmt := top 13
abbrev sFree : Stmt := top 14
theorem scBrand : FnScope ["thing", "sign"] ["thing"] (defScope sBrand) := ⟨rfl, rfl, rfl, by decide +kernel, rfl, by decide +kernel, by decide +kernel⟩
theorem scFree : FnScope ["thing"] ["thing"] (defScope sFree) := ⟨rfl, rfl, rfl, by decide +kernel, rfl, by decide +kernel, by decide +kernel⟩
theorem ok_brand {f : Addr} {fd : FuncData} (F : FnP K "is_brand" sBrand f fd) (N : Nm K mg) : FnOk P w K mg base CX0 1 f fd ["thing"] (spBrand K brandB) := by
  obtain ⟨t1, g1⟩ := N.lim
  obtain ⟨t2, g2⟩ := N.lets
  obtain ⟨t3, g3⟩ := N.oths
  refine F.ok scBrand (fun vs H Q E h => ?_) (fun cdv A outer s H vs Q E hr h => ?_)
  · obtain ⟨v, d, rfl, _⟩ := h
    rfl
  · refine ⟨_, PSs.nox (pss_cons (ps_if (PW.pt (pw_or (pt_not (pt_val (pe_callB call_isD (by rfl) N.isi (by decide +kernel) (pa_cons (pv 0) (pa_cons (pe_bltn (v := .ty "str") (by rfl) N.str (by decide +kernel) rfl) pa_nil)))))
        (pw_or1 (pt_not (pt_chain op_le op_le pe_int (pe_callB call_len (by rfl) N.len PySem.boot_len (pa_cons (pv 0) pa_nil)) (pe_glob (v := .int 40) (by rfl) g1 ⟨_, rfl⟩)))))) (pss_one (ps_ret pe_bl)) pss_nil)
      (pss_one (ps_ret (pe_and (pe_cmpR op_in_sign (pe_ix ix_str (pv 0) pe_int (fun _ _ => rfl)) (pe_glob (v := .str LET) (by rfl) g2 ⟨_, rfl⟩) rfl)
        (pe_one (pe_callB (cr_all rfl) (by rfl) N.all (by decide +kernel) (pa_cons (pe_lc (own := [("sign", 1)]) (g := gName 1) (tt := tYes) rfl scBrand.nd (pi_str (pv 0)) (blkOk_by (own := [("sign", 1)]) (N := ["thing", "sign"]) (sc := defScope sBrand) (by decide +kernel))
          (fun _ _ _ _ _ => pg_name (i := 1) scBrand.nd rfl (Or.inl rfl)) (fun _ _ _ _ _ => pts_nil)
          (fun _ _ _ _ _ => pe_or (pe_cmpR op_in_sign (pv 1) (pe_glob (v := .str LET) (by rfl) g2 ⟨_, rfl⟩) rfl) (pe_one (pe_cmpR op_in_sign (pv 1) (pe_glob (v := .str OTH) (by rfl) g3 ⟨_, rfl⟩) rfl)))) pa_nil))))))), ?_⟩
    obtain ⟨v, d, rfl, hv, hf, k⟩ := h
    refine ⟨_, rfl, v, d, "str", rfl, rfl, hv, _, rfl, ?_⟩
    cases d with
    | none => exact iteT (iteT (k _ Same.refl'))
    | bool b => exact iteT (iteT (k _ Same.refl'))
    | int b => exact iteT (iteT (k _ Same.refl'))
    | tuple b => exact iteT (iteT (k _ Same.refl'))
    | list b => exact iteT (iteT (k _ Same.refl'))
    | dict b => exact iteT (iteT (k _ Same.refl'))
    | str x =>
      cases hv
      refine iteF ⟨_, rfl, _, x.length, rfl, ⟨hf x rfl, rfl⟩, _, _, rfl, rfl, _, rfl, ?_⟩
      have no : ∀ {b : Bool}, (decide (1 ≤ x.length) && decide (x.length ≤ 40)) = false → brandB (.str x) = b → b = false := fun {b} e e2 => by
        rw [← e2]
        show ((decide (1 ≤ x.length) && decide (x.length ≤ 40)) && _) = false
        rw [e]
        rfl
      by_cases c1 : (1 : Int) ≤ (x.length : Int)
      · rw [decide_eq_true c1]
        refine iteT ⟨_, _, rfl, rfl, _, rfl, ?_⟩
        by_cases c2 : (x.length : Int) ≤ 40
        · rw [decide_eq_true c2]
          refine iteF ?_
          have l1 : 1 ≤ x.length := by omega
          have l2 : x.length ≤ 40 := by omega
          obtain ⟨c, r, hx⟩ : ∃ c r, x.cps.toList = c :: r := by
            cases e : x.cps.toList with
            | nil =>
              have z : x.cps.toList.length = 0 := by rw [e]; rfl
              have z2 : x.length = x.cps.toList.length := by simp [Str.length]
              omega
            | cons c r => exact ⟨c, r, rfl⟩
          have eb : brandB (.str x) = (decide (c ∈ LET.cps.toList) && x.cps.toList.all signB) := by
            show ((decide (1 ≤ x.length) && decide (x.length ≤ 40)) && ((match x.cps.toList with
              | [] => false
              | c :: _ => decide (c ∈ LET.cps.toList)) && x.cps.toList.all signB)) = _
            rw [decide_eq_true l1, decide_eq_true l2, hx]
            rfl
          refine ⟨_, rfl, x, 0, c, rfl, rfl, hf x rfl, ?_, c, LET, rfl, rfl, _, rfl, ?_⟩
          · show atI x.cps.toList 0 = some c
            rw [hx]
            show (ixN (r.length + 1) 0).bind _ = _
            have e0 : ixN (r.length + 1) 0 = some 0 := by
              unfold ixN
              rw [if_pos (by omega), if_pos (by omega)]
              rfl
            rw [e0]
            rfl
          by_cases c3 : c ∈ LET.cps.toList
          · rw [decide_eq_true c3] at eb ⊢
            refine iteT ⟨_, rfl, x, rfl, fun D nD => lc_it walk_str (fun i H' => Same H H' ∧ H' D = some (.lst (((x.cps.toList.take i).map signB).map V.bl))) ⟨same_new nD, upd_same⟩ (fun _ _ _ _ => True.intro) ?_ ?_⟩
            · rintro i y H' H'' hi ⟨s1, hD⟩ ⟨rfl, c', hc', rfl⟩
              refine ⟨rfl, yesT ⟨_, rfl, c', LET, rfl, rfl, _, rfl, ?_⟩⟩
              have hl : x.cps.toList[i]? = some c' := by rw [← hc']; simp
              have fin : ∀ b, b = signB c' → ∃ acc, H'' D = some (.lst acc) ∧ acc.length < sizeLine ∧ (Same H (upd H'' D (.lst (acc ++ [.bl b]))) ∧ (upd H'' D (.lst (acc ++ [.bl b]))) D = some (.lst (((x.cps.toList.take (i + 1)).map signB).map V.bl))) := fun b hb => by
                refine ⟨_, hD, ?_, same_updN s1 nD, ?_⟩
                · rw [List.length_map, List.length_map, List.length_take]
                  have z2 : x.length = x.cps.toList.length := by simp [Str.length]
                  exact Nat.lt_of_le_of_lt (Nat.min_le_right _ _) (Nat.lt_of_le_of_lt (m := 40) (by omega) (by decide))
                · rw [upd_same, List.take_add_one, hl, hb, List.map_append, List.map_append]
                  rfl
              by_cases c4 : c' ∈ LET.cps.toList
              · rw [decide_eq_true c4]
                refine iteT (fin _ ?_)
                show true = (decide (c' ∈ LET.cps.toList) || decide (c' ∈ OTH.cps.toList))
                rw [decide_eq_true c4]
                rfl
              · rw [decide_eq_false c4]
                refine iteF ⟨_, rfl, c', OTH, rfl, rfl, fin _ ?_⟩
                show _ = (decide (c' ∈ LET.cps.toList) || decide (c' ∈ OTH.cps.toList))
                rw [decide_eq_false c4, Bool.false_or]
            · rintro H' ⟨s1, hD⟩
              have z2 : x.cps.size = x.cps.toList.length := by simp
              rw [z2, List.take_length] at hD
              refine ⟨D, x.cps.toList.map signB, rfl, SqL.of hD, ?_⟩
              rw [eb, Bool.true_and] at k
              have e : (x.cps.toList.map signB).all id = x.cps.toList.all signB := by
                rw [List.all_map]
                rfl
              rw [e]
              exact k _ s1
          · rw [decide_eq_false c3] at eb ⊢
            rw [eb, Bool.false_and] at k
            exact iteF (k _ Same.refl')
        · rw [decide_eq_false c2]
          refine iteT ?_
          rw [no (b := brandB (.str x)) (by rw [decide_eq_false (p := x.length ≤ 40) (by omega), Bool.and_false]) rfl] at k
          exact k _ Same.refl'
      · rw [decide_eq_false c1]
        refine iteF ⟨_, rfl, iteT ?_⟩
        rw [no (b := brandB (.str x)) (by rw [decide_eq_false (p := 1 ≤ x.length) (by omega), Bool.false_and]) rfl] at k
        exact k _ Same.refl'
theorem ok_free {f : Addr} {fd : FuncData} (F : FnP K "is_free_brand" sFree f fd) (N : Nm K mg) (B : ∃ f fd, FnP K "is_brand" sBrand f fd ∧ mg "is_brand" = some (.ref f)) : FnOk P w K mg base CX0 2 f fd ["thing"] (spBrand K freeB) := by
  obtain ⟨fb, db, FB, gB⟩ := B
  have GB : FnOk P w K mg base CX0 1 fb db ["thing"] (spBrand K brandB) := ok_brand FB N
  have bB : Binds K db ["thing"] [] := FB.bindsN fun _ _ _ _ _ _ us hl => match us, hl with | [_], _ => rfl
  obtain ⟨t1, g1⟩ := N.resv
  refine F.ok scFree (fun vs H Q E h => ?_) (fun cdv A outer s H vs Q E hr h => ?_)
  · obtain ⟨v, d, rfl, _⟩ := h
    rfl
  · refine ⟨_, PSs.nox (pss_one (ps_ret (pe_and (pe_call GB hr (by rfl) gB FB.kp bB .nil pass0 (pa_cons (pv 0) pa_nil)) (pe_one (pe_cmpR op_ne (pv 0) (pe_glob (v := .str "bag") (by rfl) g1 ⟨_, rfl⟩) (nomark _)))))), ?_⟩
    obtain ⟨v, d, rfl, hv, hf, k⟩ := h
    refine ⟨_, rfl, v, d, rfl, hv, hf, fun H1 s1 => ⟨_, rfl, ?_⟩⟩
    have k := k _ s1
    cases e : brandB d with
    | false =>
      have e2 : freeB d = false := by
        unfold freeB
        rw [e, Bool.false_and]
      rw [e2] at k
      exact iteF k
    | true =>
      cases d with
      | str x =>
        cases hv
        refine iteT ⟨_, rfl, rfl, ?_⟩
        have e2 : freeB (.str x) = !decide (x = "bag") := by
          unfold freeB
          rw [e, Bool.true_and]
        rw [e2] at k
        have e3 : decide (V.str x = V.str "bag") = decide (x = ("bag" : Str)) := by
          rw [Bool.eq_iff_iff, decide_eq_true_iff, decide_eq_true_iff]
          exact ⟨fun z => by cases z; rfl, fun z => by rw [z]⟩
        show Q (.bl (!decide (V.str x = V.str "bag"))) H1
        rw [e3]
        exact k
      | none => cases e
      | bool _ => cases e
      | int _ => cases e
      | list _ => cases e
      | tuple _ => cases e
      | dict _ => cases e
end
end Kh

set_option Elab.async false
set_option linter.all false
set_option maxRecDepth 100000
set_option maxHeartbeats 2000000
/-! VxYl: yield from a list. -/
namespace L2
open PySem PySem.Spec PyProof.Rows
section
variable {prog : Program} {w : World} {A : Around} {E : Value → Shared → Prop} {s : Shared}
theorem special_lst_item {it t : Addr} {i : Nat} {items : Array Value} {x : Value} {Q : Option Value → Shared → Prop} (hit : s.heap.IsListIter it t i) (ht : s.heap.IsList t items) (hx : items[i]? = some x)
    (hQ : ∀ h', h'.IsListIter it t (i + 1) → Heap.SameBut it s.heap h' → Q (some x) { s with heap := h' }) : wpAny (model prog w) A (callSpecial? (.ref it) "__next__") Q E s := by
  obtain ⟨o, ho, hc, hd⟩ := id hit
  obtain ⟨ol, hol, _, nl, hdl⟩ := ht
  refine wpAny_callSpecial?_slot (name := Str.ofString "__next__") hit.typeIs slot_listiter_next (wpAny_call_entry slot_listiter_next hit.typeIs entry_listiter_next ?_ (args_listiter_next _))
  show wpAny _ _ (field (.ref it) 0 >>= _) _ _ s
  refine wpAny_bind (wpAny_field ho hd (x := .ref t) rfl ?_)
  show wpAny _ _ (if (Value.ref t == Value.none) = true then _ else _) _ _ s
  rw [if_neg (show ¬ ((Value.ref t == Value.none) = true) from Bool.false_ne_true)]
  show wpAny _ _ (field (.ref it) 1 >>= _) _ _ s
  refine wpAny_bind (wpAny_field ho hd (x := .int i 0) rfl ?_)
  show wpAny _ _ (seqItems? (.ref t) >>= _) _ _ s
  refine wpAny_bind (wpAny_seqItems hol hdl ?_)
  simp only [Int.toNat_natCast, hx]
  refine wpAny_bind (wpAny_setField ho hd (by simp) (wpAny_pure ⟨x, rfl, hQ _ ?_ (Heap.SameBut.update ..)⟩))
  exact ⟨_, Heap.get?_update_self _ ho (Obj.isFreed_of_fields (Obj.data_mapFields hd _)), (Obj.cls_mapFields ..).trans hc, by
    rw [Obj.data_mapFields hd]; simp [rawInt]⟩
theorem special_lst_end {it t : Addr} {i : Nat} {items : Array Value} {Q : Option Value → Shared → Prop} (hh : A.handled = none) (hit : s.heap.IsListIter it t i) (ht : s.heap.IsList t items) (hx : items[i]? = none)
    (hE : ∀ e h', StopX e h' → Heap.ExtBut it s.heap h' → E e { s with heap := h' }) : wpAny (model prog w) A (callSpecial? (.ref it) "__next__") Q E s := by
  obtain ⟨o, ho, hc, hd⟩ := id hit
  obtain ⟨ol, hol, _, nl, hdl⟩ := ht
  refine wpAny_callSpecial?_slot (name := Str.ofString "__next__") hit.typeIs slot_listiter_next (wpAny_call_entry slot_listiter_next hit.typeIs entry_listiter_next ?_ (args_listiter_next _))
  show wpAny _ _ (field (.ref it) 0 >>= _) _ _ s
  refine wpAny_bind (wpAny_field ho hd (x := .ref t) rfl ?_)
  show wpAny _ _ (if (Value.ref t == Value.none) = true then _ else _) _ _ s
  rw [if_neg (show ¬ ((Value.ref t == Value.none) = true) from Bool.false_ne_true)]
  show wpAny _ _ (field (.ref it) 1 >>= _) _ _ s
  refine wpAny_bind (wpAny_field ho hd (x := .int i 0) rfl ?_)
  show wpAny _ _ (seqItems? (.ref t) >>= _) _ _ s
  refine wpAny_bind (wpAny_seqItems hol hdl ?_)
  simp only [Int.toNat_natCast, hx]
  refine wpAny_bind (wpAny_rule (wpAny_bind (wpAny_setField ho hd (by simp) ?_)))
  show wpAny _ _ (newExc (.type "StopIteration") [] >>= _) _ _ _
  refine wpAny_bind ?_
  simp only [newExc, newTuple]
  refine wpAny_bind (wpAny_newObj_type ?_ (by size_fits))
  refine wpAny_bind (m := firstArgMember _ _) (wpAny_of_eq (a := Value.none) (by first | rfl | (simp only [firstArgMember]; rfl)) ?_)
  refine wpAny_newObj_type ?_ (by size_fits)
  simp only [raiseNew]
  refine wpAny_bind (wpAny_handled ?_)
  first | rw [show A.in1.handled = none from hh] | rw [hh]
  refine wpAny_bind (wpAny_pure (wpAny_throw ?_))
  refine hE _ _ ⟨_, _, _, rfl, Heap.get?_push_size _ rfl, rfl, rfl, ?_⟩ (((Heap.SameBut.update ..).extBut.push _).push _)
  first
    | rfl
    | (rw [Array.getElem?_append_left (by decide)]; rfl)
    | kernel_rfl
end
section
variable {X : Cx} {e : Expr} {te : TE}
def tYfLst (te : TE) : TYf := fun σ H Q => te σ H fun x H1 => ∃ a xs, x = .ref a ∧ H1 a = some (.lst xs) ∧ Q xs H1
theorem close_lst : typeLookup (.type "list_iterator") "close" = pure none := by rw [typeLookup_type, builtinLookup_eq_fast]; kernel_rfl
theorem yf_lst (he : PE X e te) : YfE X e (tYfLst te) := by
  refine ⟨fun pins s σ H Q I h => ?_⟩
  refine thn (he.run pins s σ H _ I h) fun v s1 ⟨x, H1, I1, r1, a, xs, ex, ha, hq⟩ => ?_
  subst ex
  obtain rfl : v = Value.ref a := r1
  obtain ⟨hlen, its, n, rits, ht⟩ := I1.hok a _ ha
  have htl : s1.heap.IsList a its.toArray := ⟨_, ht, rfl, _, rfl⟩
  refine ⟨"list", ⟨_, ht, rfl⟩, by decide, wpAny_pyIter_list htl ?_⟩
  have ksz : ∀ b o, s1.heap.get? b = some o → b ≠ s1.heap.objs.size := fun b o e => Nat.ne_of_lt (Heap.lt_size e)
  have kp : ∀ b o, s1.heap.get? b = some o → (s1.heap.push { cls := .type "list_iterator", data := .fields #[.ref a, .int 0 0] }).get? b = some o := fun b o e => Heap.get?_push_of_some _ e
  refine ⟨s1.heap.objs.size, H1, xs, fun j h => h.IsListIter s1.heap.objs.size a j ∧ h.IsList a its.toArray, rfl, I1.kept (t' := s1.toks) kp, .inr I1.sz, Nat.ne_of_gt I1.lt, fun y c hy => ?_, I1.hok.fresh (Nat.le_refl _), fun p hp => ?_,
    ⟨⟨_, Heap.get?_push_size _ rfl, rfl, rfl⟩, ⟨_, kp _ _ ht, rfl, _, rfl⟩⟩, ⟨⟨"list_iterator", fun j h q => ?_, close_lst, by decide⟩, fun j h h' q hk => ?_, fun A' j x s2 Q' E' hA hx q hQ => ?_, fun A' s2 Q' E' hA q hE => ?_⟩, hq⟩
  · obtain ⟨v, o, ho, _⟩ := I1.cell y c hy
    exact ksz c o ho
  · exact ksz p.1 _ (I1.pin p hp).1
  · obtain ⟨⟨o, ho, hc, _⟩, _⟩ := q
    exact ⟨o, ho, hc⟩
  · obtain ⟨⟨o, ho, r⟩, o2, ho2, r2⟩ := q
    exact ⟨⟨o, hk _ o (.inl rfl) ho, r⟩, o2, hk _ o2 (.inr (by rw [ha]; exact fun z => by cases z)) ho2, r2⟩
  · obtain ⟨q1, q2⟩ := q
    obtain ⟨u, hu, ru⟩ := rits.get hx
    have hne : a ≠ s1.heap.objs.size := ksz _ _ ht
    exact special_lst_item q1 q2 (x := u) (by simpa using hu) fun h' q1' hs => hQ u h' s2.toks ru ⟨q1', q2.extBut hs.extBut hne⟩ fun b o hb eb => hs.extBut b o hb eb
  · obtain ⟨q1, q2⟩ := q
    have hnone : its.toArray[xs.length]? = none := by
      have e := rits.length
      have e2 : its[xs.length]? = none := List.getElem?_eq_none_iff.mpr (by omega)
      simpa using e2
    exact special_lst_end hA q1 q2 hnone fun e h' hS hk => hE e h' s2.toks hS fun b o hb eb => hk b o hb eb
end
end L2

set_option Elab.async false
set_option linter.all false
set_option maxRecDepth 100000
set_option maxHeartbeats 2000000
/-! VxLc: a comprehension with two fors: the outer and the inner walk. -/
namespace L2
open PySem PySem.Spec PyProof.Rows
section
variable {J : It} {n : Nat} {G : Hp → Prop} {Y : Nat → Hp → V → Hp → Prop}
/-- a walk, told to whoever asks for the turns; B: what is asked of each item, N: what must hold behind it -/
theorem turns_it (w : Walk J n G Y) {B : V → Hp → (Hp → Prop) → Prop} {Z : Hp → Prop} {H1 : Hp} (Pv : Nat → Hp → Prop) (h0 : Pv 0 H1) (hG : ∀ i H, i ≤ n → Pv i H → G H)
    (hs : ∀ i x H H', i < n → Pv i H → Y i H x H' → B x H' (Pv (i + 1))) (hd : ∀ H, Pv n H → Z H) :
    ∃ W : Nat → Nat → Hp → Prop, (∃ m, W 0 m H1) ∧ ∀ i m H, W i m H → (J.stop i H ∧ Z H) ∨ (J.go i H ∧ ∃ Nx : Hp → Prop, (∀ H', Nx H' → ∃ m', m' < m ∧ W (i + 1) m' H') ∧ ∀ x H', J.yld i H x H' → B x H' Nx) := by
  refine ⟨fun i m H => m = n - i ∧ i ≤ n ∧ Pv i H, ⟨n, by simp, Nat.zero_le _, h0⟩, ?_⟩
  rintro i m H ⟨rfl, hi, p⟩
  have q := hG i H hi p
  by_cases hlt : i < n
  · exact .inr ⟨w.goes i H hlt q, Pv (i + 1), fun H' p' => ⟨n - (i + 1), by omega, rfl, hlt, p'⟩, fun x H' y => hs i x H H' hlt p (w.yields i H x H' hlt q y)⟩
  · have e : i = n := by omega
    subst e
    exact .inl ⟨w.stops H q, hd H p⟩
end
end L2

set_option Elab.async false
set_option linter.all false
set_option maxRecDepth 100000
set_option maxHeartbeats 1000000
/-! VxMs: within a try: o.m(e, ..) with what it lets out told at the slots; cls() of a local name of a class. -/
namespace L2
open PySem PySem.Spec PyProof.Rows StX
section
variable {X : Cx} {CX : CXT} {k i : Nat} {f C : Addr} {fd : FuncData} {ps : List Str} {sp : Sp} {E : L2.St → XK} {m x : Str} {p pos apos : Pos} {e o : Expr} {es : List Expr} {ta : TE} {t : TA}
/-- o.m(e, ..) -/
theorem pe_methSg {pl : Sem Bool} (he : PE X o ta) (c : Cls X.K C) (hm : Meth X.K C m f) (F : FnOk X.prog X.w X.K X.mg X.base CX k f fd ps sp) (hr : Room k X.A) (hb : Binds X.K fd ps []) (hx : ∀ σ, PassesAt CX X σ (E σ)) (ha : PA X (e :: es) t)
    (hst : starEach (e :: es) X.env = (false, eval e X.env) :: starEach es X.env := by rfl) (hpl : (backTo pos (starEach es X.env)).any (·.1) = false := by rfl)
    (ht : eval (.Call (.Attribute o m apos) (e :: es) [] pos) X.env = (do
      let ov ← eval o X.env
      standAt apos.atName
      let (f, first) ← holding [ov] (getMethod ov m pl)
      callWith pos f first (backTo pos (starEach (e :: es) X.env)) (backToKw pos (keywordEach [] X.env))) := by rfl) :
    PE X (.Call (.Attribute o m apos) (e :: es) [] pos) (fun σ H Q => ta σ H fun y H1 => ∃ a dx fs, y = .ref a ∧ H1 a = some (.ins C dx fs) ∧ fs.lookup m = none ∧ t σ H1 fun vs H2 => sp (y :: vs) H2 Q (E σ)) := by
  refine ⟨fun pins s σ H Q I h => PySem.W.methodCall_KW (pl := pl) (thn (he.run pins s σ H _ I h) fun u s1 hh => ?_) ht⟩
  obtain ⟨y, H1, I1, rx, a, dx, fs, rfl, ea, l, q⟩ := hh
  obtain rfl : u = Value.ref a := rx
  refine getmeth_ok I1 ea c hm l (PySem.W.callWith_K (first := [.ref a]) (h₀ := X.base) I.ok.mod.kin hm.kp (thn (ha.run pos pins s1 σ H1 _ I1 q) fun us s2 z => ?_) hst hpl)
  obtain ⟨vs, H2, I2, r, q2⟩ := z
  exact ⟨I2.kIn, run_fnS (us := .ref a :: us) (vs := .ref a :: vs) F hr hb (hx σ) I2 (.cons rfl r) q2⟩
/-- cls() -/
theorem pe_makeV0 {E : XK} {dvs : List V} {ds : List Value} (M : Mk X.K C f) (F : FnOk X.prog X.w X.K X.mg X.base CX k f fd ps sp) (hr : Room (k + 1) X.A) (hN : X.N[i]? = some x) (hv : Vis X.env.scope x) (hb : Binds X.K fd ps ds) (hd : Vals dvs ds) (hx : Passes CX X E) (hdd : (x == ("__debug__" : Str)) = false := by decide) (hcd : (x == ("__classdict__" : Str)) = false := by decide) :
    PE X (.Call (.Name x p) [] [] pos) (fun σ H Q => σ[i]? = some (some (.ref C)) ∧ tMake C sp dvs E tNil σ H Q) := by
  refine ⟨fun pins s σ H Q I h => ?_⟩
  obtain ⟨ec, h⟩ := h
  refine wpAny_Call_Name_kw (thn ((pe_var (pos := p) hN hv hdd hcd).run pins s σ H (fun v H1 => v = .ref C ∧ H1 = H) I ⟨_, ec, rfl, rfl⟩) fun u s0 hh => ?_)
  obtain ⟨v, H0, I0, r0, rfl, rfl⟩ := hh
  obtain rfl : u = Value.ref C := r0
  exact PySem.W.callWith_K0 I0.kIn M.kp (run_make (us := []) M F hr hb hd hx I0 .nil h)
end
end L2

set_option Elab.async false
set_option linter.all false
set_option maxRecDepth 100000
set_option maxHeartbeats 2000000
/-! VxLn: g(lambda: e), where g calls what it got within a try whose clause looks at the slots. -/
namespace LamX
open PySem PySem.Spec PyProof.Rows L2
/-- the lambda's function object, made in X's frame -/
abbrev lamO (X : Cx) (params : Arguments) (body : Expr) (scope : Scope) (pm : Value) (c' : Addr) (ctv : Value) : Obj :=
  PySem.W.kla_obj "<lambda>" (X.env.qual ++ "<lambda>") params body scope (cloFrom X.env.cells scope.names []) pm c' ctv
section
variable {X : Cx} {pins : List (Addr × Obj)} {σ : L2.St} {H HZ : Hp} {s s1 : Shared} {f c' : Addr} {pm ctv : Value} {params : Arguments} {body : Expr} {scope : Scope} {k : Nat} {tb : TE} {E : XK} {Q : VK}
/-- the lambda's call, wherever it is called from -/
theorem lam_code {A : Around} {outer : List Env} (I : Inv X pins σ H s) (L : LamS X.env.scope scope) (lies : s1.heap.get? f = some (lamO X params body scope pm c' ctv))
    (noargs : bindArgs (PySem.W.kla_fn "<lambda>" (X.env.qual ++ "<lambda>") params body scope (cloFrom X.env.cells scope.names []) pm (.ref c') ctv) ⟨[], []⟩ = pure [])
    (e0 : Env0 X.prog X.w X.K X.mg X.base A outer s1 HZ) (lim : s1.heap.NoLimit) (un : Un (frs X.stack) [] H HZ s.heap s1.heap) (code : HZ c' = some (CodeO c' (X.env.qual ++ "<lambda>"))) (hr : Room (k + 1) A)
    (run : ∀ s2, Room k (A.deeper (lamEnv X scope s1.heap.objs.size f c')) → PE (lamCx X A outer s1 s2 E scope f c') body tb) (h : tb σ HZ Q) :
    codeAny (model X.prog X.w) A (.call (.ref f) ⟨[], []⟩) (CR (L2.CX X.prog X.w) outer X.prog X.w HZ s1 Q E) s1 := by
  obtain ⟨⟨oc, us, t, at_, data, name⟩, _, _⟩ := e0.hok c' _ code
  refine PySem.W.kla_callFunE hr.depth lies rfl L.co L.gen rfl ⟨c', oc, us, t, rfl, at_, data, name⟩ ?_
  rw [noargs]
  apply wpAny_pure
  refine wpAny_newFunctionEnv (fun y hy => (L.own y hy).2) (fun y hy => nomatch hy) (fun h₁ ns ext => ⟨lim.fresh _ ext, ?_⟩) L.kind
  have more : ∀ b o, s1.heap.get? b = some o → h₁.get? b = some o := fun b o e => by
    refine ext.extBut b o (fun z => ?_) (Heap.get?_push_of_some _ e)
    have lt := Heap.lt_size e
    rw [z] at lt
    exact Nat.lt_irrefl _ lt
  have J := lam_start2 (f := f) (c' := c') (E := E) (tk := s1.toks + ([] : List (Str × Value)).length) I L e0 hr.hd un ns more
  refine PySem.W.kla_codeExpr (wpAny_mono ((run HZ (hr.deeper _)).run [] _ _ HZ Q J h) (fun v s' z => ?_) fun _ _ z => z)
  obtain ⟨w', H', J', rv, q⟩ := z
  exact ⟨w', H', J'.os, J'.bare, J'.base, J'.hok, rv, q⟩
end
/-- the def g at its start, within a try -/
abbrev gCx (X : Cx) (Ng : List Str) (x : Str) (sg : Scope) (g : Addr) (cdg : Value) (s : Shared) (H : Hp) (pn : List (Addr × Obj)) (xe : Value → Shared → Prop) : Cx :=
  (cxOf C8.CX0 X.prog X.w X.K X.mg X.base Ng x sg g cdg X.A X.stack s H C8.E0).tr pn xe
section
variable {X : Cx} {pins : List (Addr × Obj)} {σ : L2.St} {H : Hp} {s : Shared} {f c' g : Addr} {pm ctv cdg : Value} {params : Arguments} {body : Expr} {scope sg : Scope} {k : Nat} {Ng : List Str} {x a : Str} {pn : List (Addr × Obj)} {xe : Value → Shared → Prop} {W : WX} {t : XK → TE} {p1 p2 : Pos}
theorem pe_actS (I : Inv X pins σ H s) (L : LamS X.env.scope scope) (lies : s.heap.get? f = some (lamO X params body scope pm c' ctv)) (hfn : H f = none) (hfr : f ∉ frs X.stack)
    (noargs : bindArgs (PySem.W.kla_fn "<lambda>" (X.env.qual ++ "<lambda>") params body scope (cloFrom X.env.cells scope.names []) pm (.ref c') ctv) ⟨[], []⟩ = pure [])
    (tk : Takes (gCx X Ng x sg g cdg s H pn xe) W) (hr : Room (k + 1) (X.A.deeper (envOfC x sg s.heap.objs.size g cdg)))
    (run : ∀ (A : Around) (outer : List Env) (s : Shared) (H : Hp) (E : XK), Room k (A.deeper (lamEnv X scope s.heap.objs.size f c')) → PE (lamCx X A outer s H E scope f c') body (t E))
    (hN : Ng[0]? = some a) (hv : Vis sg a) (hd : (a == ("__debug__" : Str)) = false) (hcd : (a == ("__classdict__" : Str)) = false) :
    PE (gCx X Ng x sg g cdg s H pn xe) (.Call (.Name a p1) [] [] p2) (fun σZ HZ Q => σZ[0]? = some (some (.ref f)) ∧ HZ c' = some (CodeO c' (X.env.qual ++ "<lambda>")) ∧ t (WE W σZ) σ HZ Q) := by
  refine ⟨fun pinsZ sZ σZ HZ Q IZ h => ?_⟩
  obtain ⟨slot, code, h⟩ := h
  have name := (pe_var (X := gCx X Ng x sg g cdg s H pn xe) (pos := p1) (i := 0) hN hv hd hcd).run pinsZ sZ σZ HZ (fun v H1 => v = .ref f ∧ H1 = HZ) IZ ⟨.ref f, slot, rfl, rfl⟩
  refine wpAny_Call_Name_kw (thn name fun u s1 z => ?_)
  obtain ⟨v, H1, I1, rv, ev, eH⟩ := z
  subst ev eH
  obtain rfl : u = Value.ref f := rv
  have still : s1.heap.get? f = some (lamO X params body scope pm c' ctv) := I1.base.keep f _ lies hfn hfr fun z => nomatch (show f ∈ ([] : List Addr) from z)
  have rc : codeAny (model X.prog X.w) (X.A.deeper (envOfC x sg s.heap.objs.size g cdg)) (.call (.ref f) ⟨[], []⟩) (CR (L2.CX X.prog X.w) (envOfC x sg s.heap.objs.size g cdg :: X.stack) X.prog X.w H1 s1 Q (WE W σZ)) s1 :=
    lam_code (X := X) (A := X.A.deeper (envOfC x sg s.heap.objs.size g cdg)) (outer := envOfC x sg s.heap.objs.size g cdg :: X.stack) I L still noargs I1.env0 I1.nolimit I1.base code hr (fun H2 r => run _ _ _ _ _ r) h
  refine PySem.W.callWith_F0 ⟨_, _, _, _, still⟩ (wpAny_call (codeAny_mono rc fun r s' q => ?_))
  cases r with
  | error e => exact passAt tk σZ pinsZ H1 s1 e s' I1 q
  | ok fl =>
    cases fl with
    | ret u => exact I1.after q
    | next => exact q.elim
    | brk => exact q.elim
    | cont => exact q.elim
/-- what g makes of a lambda's reading -/
def GivesS (X : Cx) (Ng : List Str) (x : Str) (sg : Scope) (g : Addr) (cdg : Value) (bg : List Stmt) (a : Str) (q : Str) (TT : (XK → Hp → VK → Prop) → Hp → VK → Prop) : Prop :=
  ∀ (f c' : Addr) (s : Shared) (H : Hp) (Q : VK) (tl : XK → Hp → VK → Prop),
    (∀ (W : WX) (pn : List (Addr × Obj)) (xe : Value → Shared → Prop) (p1 p2 : Pos), Takes (gCx X Ng x sg g cdg s H pn xe) W →
      PE (gCx X Ng x sg g cdg s H pn xe) (.Call (.Name a p1) [] [] p2) (fun σZ HZ Q => σZ[0]? = some (some (.ref f)) ∧ HZ c' = some (CodeO c' q) ∧ tl (WE W σZ) HZ Q)) →
    H c' = some (CodeO c' q) → TT tl H Q →
    ∃ t, PSs (cxOf C8.CX0 X.prog X.w X.K X.mg X.base Ng x sg g cdg X.A X.stack s H C8.E0).nox bg t ∧ t { nx := fun _ H' => Q .non H', rt := Q } (L2.start Ng [.ref f]) H
/-- g(lambda: e) -/
theorem pe_lamS {T : List (Addr × Str)} {TT : (XK → Hp → VK → Prop) → Hp → VK → Prop} {c P : Addr} {pg : Arguments} {bg : List Stmt} {fd : FuncData} {p lpos pos : Pos} (hg : Gl X x) (hm : X.mg x = some (.ref g)) (hk : PySem.W.keepIn X.K (.ref g) = true)
    (F : L2.FunD X.K x x pg bg sg [] [] g fd) (hb : L2.Binds X.K fd [a] []) (Sg : FnScope Ng [a] sg) (hNg : Ng[0]? = some a) (hva : Vis sg a) (hG : ∀ cdv, GivesS X Ng x sg g cdv bg a (X.env.qual ++ "<lambda>") TT)
    (TB : TabB X.base X.mg c P) (hcode : X.env.code = .ref c) (hmT : (P, X.env.qual ++ "<lambda>") ∈ T) (hu : ∀ p ∈ T, p.1 = P → p.2 = X.env.qual ++ "<lambda>") (hr : Room (k + 2) X.A) (L : LamS X.env.scope scope) (hdef : defaultsOf params X.env = ([], []))
    (noargs : ∀ (q : Str) (cl : List (Str × Addr)) (pm cv ctv : Value), bindArgs (PySem.W.kla_fn "<lambda>" q params body scope cl pm cv ctv) ⟨[], []⟩ = pure [])
    (run : ∀ (A : Around) (outer : List Env) (s : Shared) (H : Hp) (E : XK) (f c' : Addr), Room k (A.deeper (lamEnv X scope s.heap.objs.size f c')) → PE (lamCx X A outer s H E scope f c') body (t E))
    (hdb : (x == ("__debug__" : Str)) = false := by decide) (hd : (a == ("__debug__" : Str)) = false := by decide) (hcd : (a == ("__classdict__" : Str)) = false := by decide) :
    PE X (.Call (.Name x p) [.Lambda params body scope lpos] [] pos) (tLam T TT t) := by
  obtain ⟨oc, od, dV, kV, doc, pm, an, cdv, ct, osl, rfl, lk, hcg, _, _⟩ := F.ex
  refine ⟨fun pins s σ H Q I h => wpAny_Call_Name_kw (ld_glob I hg hm (PySem.W.callWith_K (h₀ := X.base) I.ok.mod.kin hk ?_ rfl rfl) hdb)⟩
  obtain ⟨hT, h⟩ := h
  show wpAny _ _ (spliced ((false, eval (.Lambda params body scope lpos) X.env) :: backTo pos (starEach [] X.env))) _ _ s
  refine Calls.spliced_cons (lam_make2 I TB hcode hmT hu hT hdef (L.has I.ok) fun f c' pm' ctv H1 s' I1 eN T1 lies hfn hfr code => Calls.spliced_nil ⟨I1.kIn, ?_⟩)
  refine wpAny_call (codeAny_mono (run_ofS (CX := C8.CX0) (Q := Q) (E := C8.E0) (N := Ng) (ps := [a]) (us := [.ref f]) (vs := [.ref f]) lk hcg Sg hr I1.env0 (hb s' [.ref f] I1.kIn rfl) (.cons rfl .nil) rfl fun hr' => ?_) fun r s2 q => ?_)
  · obtain ⟨t', ht', hq'⟩ := hG cdv f c' s' H1 Q (fun E H' Q' => t E σ H' Q') (fun W pn xe p1 p2 tk => pe_actS I1 L lies hfn hfr (noargs _ _ _ _ _) tk hr' (fun A outer s H E r => run A outer s H E f c' r) hNg hva hd hcd) code (h H1 eN T1)
    exact ⟨t', ht'.nox, hq'⟩
  · cases r with
    | error e => exact (show False from q).elim
    | ok fl =>
      cases fl with
      | ret u => exact I1.after q
      | next => exact q.elim
      | brk => exact q.elim
      | cont => exact q.elim
end
end LamX

set_option Elab.async false
set_option linter.all false
set_option maxRecDepth 100000
set_option maxHeartbeats 1000000
/-! VxTk: a statement behind which a token is surely out (x = [.., a written text, ..]), and x = e for a term that wants one. -/
namespace L2
open PySem PySem.Spec PyProof.Rows
/-- behind the expressions a token is out -/
def PAU (X : Cx) (es : List Expr) (t : TA) : Prop :=
  ∀ (pos : Pos) (pins : List (Addr × Obj)) (s : Shared) (σ : St) (H : Hp) (Q : List V → Hp → Prop), Inv X pins σ H s → t σ H Q → wpAny (model X.prog X.w) X.A (spliced (backTo pos (starEach es X.env))) (fun us s1 => 1 ≤ s1.toks ∧ AP X pins σ Q us s1) X.xe s
def PEU (X : Cx) (e : Expr) (t : TE) : Prop :=
  ∀ (pins : List (Addr × Obj)) (s : Shared) (σ : St) (H : Hp) (Q : VK), Inv X pins σ H s → t σ H Q → wpAny (model X.prog X.w) X.A (eval e X.env) (fun v s1 => 1 ≤ s1.toks ∧ EP X pins σ Q v s1) X.xe s
section
variable {X : Cx} {e : Expr} {es : List Expr} {te : TE} {ta : TA}
/-- a written text at the front -/
theorem pau_here {c : Str} {j : Nat} {cp : Pos} (hr : PA X es ta) (hs : starEach (.Constant (.str c) j cp :: es) X.env = (false, eval (.Constant (.str c) j cp) X.env) :: starEach es X.env := by rfl) : PAU X (.Constant (.str c) j cp :: es) (tCons (tC (.str c)) ta) := by
  intro pos pins s σ H Q I h
  rw [hs]
  show wpAny _ _ (spliced ((false, eval (.Constant (.str c) j cp) X.env) :: backTo pos (starEach es X.env))) _ _ s
  refine Calls.spliced_cons (Calls.Constant_str (wpAny_mono (PySem.wpAny_toks (hr.run pos pins _ σ H _ (I.tok (s.toks + 1)) h)) (fun us s1 z => ?_) fun _ _ z => z.2))
  obtain ⟨up, xs, H1, I1, r, q⟩ := z
  exact ⟨Nat.le_trans (Nat.le_add_left 1 s.toks) up, .str c :: xs, H1, I1, .cons ⟨_, rfl⟩ r, q⟩
theorem pau_next (he : PE X e te) (hr : PAU X es ta) (hs : starEach (e :: es) X.env = (false, eval e X.env) :: starEach es X.env := by rfl) : PAU X (e :: es) (tCons te ta) := by
  intro pos pins s σ H Q I h
  rw [hs]
  show wpAny _ _ (spliced ((false, eval e X.env) :: backTo pos (starEach es X.env))) _ _ s
  refine Calls.spliced_cons (thn (he.run pins s σ H _ I h) fun v s1 z => ?_)
  obtain ⟨x, H1, I1, r1, q1⟩ := z
  refine wpAny_mono (hr pos pins s1 σ H1 _ I1 q1) (fun us s2 z => ?_) fun _ _ z => z
  obtain ⟨up, xs, H2, I2, r2, q2⟩ := z
  exact ⟨up, x :: xs, H2, I2, .cons r1 r2, q2⟩
theorem peu_lst {pos : Pos} (h : PAU X es ta) : PEU X (.List es pos) (tLst ta) := by
  intro pins s σ H Q I q
  refine wpAny_List_spliced (wpAny_mono (h pos pins s σ H _ I q) (fun us s1 z => ?_) fun _ _ z => z)
  obtain ⟨up, xs, H1, I1, r, many, q1⟩ := z
  refine ⟨by rw [← r.length]; exact many, up, .ref s1.heap.objs.size, upd H1 s1.heap.objs.size (.lst xs), I1.laid (t' := s1.toks) (fun b u e => Heap.get?_push_of_some _ e) (Nat.le_refl _) ⟨many, us, 0, r, Heap.get?_push_size _ rfl⟩, rfl, q1 _ (I1.hok.fresh (Nat.le_refl _))⟩
variable {i : Nat} {x : Str} {pos' pos : Pos} {rest : List Stmt} {u : TS}
/-- x = e, behind which a token is out -/
theorem pss_setU (hN : X.N.Nodup) (hi : X.N[i]? = some x) (hx : Loc X.env.scope x) (he : PEU X e te) (h2 : PSsT X rest u) (hs : swapsWith e (some (.Name x pos')) pos.line X.env = pure false := by rfl) (hf : X.fn x = true ∨ X.env.scope.names.lookup x = some .local := by first | exact .inl rfl | exact .inr rfl | assumption) :
    PSs X (.Assign [.Name x pos'] e pos :: rest) (tSeq (tAsg te (gName i)) u) := by
  refine ⟨fun pins s σ H D I h => wpAny_execs_cons (wpAny_Assign_Name (wpAny_mono (he pins s σ H _ I h) (fun v s1 z => ?_) fun _ _ z => z) hs)⟩
  obtain ⟨up, y, H1, I1, r1, q1⟩ := z
  refine wpAny_mono (PySem.wpAny_toks (store_ok (Q := fun _ s2 => Inv X pins (σ.set i (some y)) H1 s2) I1 hN hi hx r1 (fun _ I2 => I2) hf)) (fun _ s2 z => ?_) fun _ _ z => z.2
  exact h2 pins s2 _ H1 D (Nat.le_trans up z.1) z.2 q1
/-- x = e, where one is -/
theorem pst_set (hN : X.N.Nodup) (hi : X.N[i]? = some x) (hx : Loc X.env.scope x) (he : PET X e te) (hs : swapsWith e (some (.Name x pos')) pos.line X.env = pure false := by rfl) (hf : X.fn x = true ∨ X.env.scope.names.lookup x = some .local := by first | exact .inl rfl | exact .inr rfl | assumption) :
    PST X (.Assign [.Name x pos'] e pos) (tAsg te (gName i)) := by
  intro pins s σ H D h0 I h
  refine wpAny_Assign_Name (thn (he pins s σ H _ h0 I h) fun v s1 z => ?_) hs
  obtain ⟨y, H1, I1, r1, q1⟩ := z
  exact store_ok I1 hN hi hx r1 (fun s2 I2 => ⟨_, H1, I2, q1⟩) hf
end
end L2

set_option Elab.async false
set_option linter.all false
set_option maxRecDepth 100000
set_option maxHeartbeats 2000000
/-! VxLo: f(k = v, ..) without positional ones; a def's body with its code object told; what stands under the tables' growth. -/
namespace L2
open PySem PySem.Spec PyProof.Rows LamX
section
variable {X : Cx} {CX : CXT} {k : Nat} {f : Addr} {fd : FuncData} {ps ks : List Str} {sp : Sp} {E : XK} {x : Str} {p pos : Pos} {kws : List Keyword} {tk : TA} {g : List Value → List Value → List Value} {gV : List V → List V → List V}
theorem pe_callK0 (F : FnOk X.prog X.w X.K X.mg X.base CX k f fd ps sp) (hr : Room k X.A) (hg : Gl X x) (hm : X.mg x = some (.ref f)) (keep : PySem.W.keepIn X.K (.ref f) = true) (hb : KBinds X.K fd ps ks g gV) (hx : Passes CX X E) (hkw : PK X kws tk)
    (hall : (backToKw pos (keywordEach kws X.env)).all (·.1.isSome) = true := by rfl) (names : (backToKw pos (keywordEach kws X.env)).filterMap (·.1) = ks := by rfl) (hdb : (x == ("__debug__" : Str)) = false := by decide)
    (hpl : ((backTo pos (starEach [] X.env)).any (·.1) || (backToKw pos (keywordEach kws X.env)).any (·.1.isNone)) = false := by rfl) :
    PE X (.Call (.Name x p) [] kws pos) (fun σ H Q => tk σ H fun zs H1 => sp (gV [] zs) H1 Q E) := by
  refine ⟨fun pins s σ H Q I h => wpAny_Call_Name_kw (ld_glob I hg hm (PySem.W.callWith_KW0 (h₀ := X.base) I.ok.mod.kin keep hall (thn (hkw.run pos pins s σ H _ I h) fun ws s2 z => ?_) hpl) hdb)⟩
  obtain ⟨zs, H2, I2, rz, q2⟩ := z
  rw [names]
  exact ⟨I2.kIn, run_fnk (us := []) (vs := []) F hr hb hx I2 .nil rz q2⟩
end
section
variable {P : Program} {w : World} {K : PySem.W.Frag} {mg : Str → Option Value} {base : Heap} {CX : CXT} {k : Nat} {f : Addr} {fd : FuncData} {N ps : List Str} {sp : Sp}
/-- a def promised where nothing is being shown, by its body; its code object is told -/
theorem FunD.okGc {x qual : Str} {params : Arguments} {body : List Stmt} {scope : Scope} {dvs : List V} {kws : List (Str × V)} (F : FunD K x qual params body scope dvs kws f fd) (S : FnScope N ps scope) (len : ∀ vs H Q E, sp vs H Q E → vs.length = ps.length)
    (hbody : ∀ (cdv : Value) (A : Around) (outer : List Env) (s : Shared) (H : Hp) (vs : List V) (Q : VK) (E : XK), PySem.W.codeIn K cdv qual = true → (∃ oc od fd' osl, K.lookup f = some ⟨oc, od, .func fd', osl⟩ ∧ fd'.code = cdv) →
      (A.deeper (envOfC qual scope s.heap.objs.size f cdv)).guards = some [] → Room k (A.deeper (envOfC qual scope s.heap.objs.size f cdv)) → sp vs H Q E →
      ∃ t, PSs (cxOf CX P w K mg base N qual scope f cdv A outer s H E) body t ∧ t { nx := fun _ H' => Q .non H', rt := Q } (start N vs) H) : FnG P w K mg base CX (k + 1) f fd ps sp := by
  obtain ⟨oc, od, dV, kV, doc, pm, an, cdv, ct, osl, rfl, lk, hcd, _, _⟩ := F.ex
  refine ⟨len, fun A hgu hr outer s H args us vs Q E e0 hb r hsp => ?_⟩
  have kin : K.In s.heap := e0.mod.kin.keeps fun b o e => (e0.bs b o e).1
  have par : ∀ y ∈ ps.zip us, scope.names.lookup y.1 = some .local ∨ (scope.names.lookup y.1 = some .cell ∧ ((cellsFrom (s.heap.objs.size + 1) scope.names []).lookup y.1).isSome = true) := by
    intro y hy
    obtain ⟨n, v⟩ := y
    exact (S.par n (List.of_mem_zip hy).1).imp id fun q => ⟨q, PySem.W.cellsFrom_some _ _ _ (.inl q)⟩
  refine codeAny_call_function hr.depth (kin _ _ lk) rfl S.co S.gen rfl (PySem.W.codeRec_of kin hcd) (hb _ _ _ _ (wpAny_newFunctionEnv_cells S.kind par fun env he s1 x => ?_))
  subst he
  refine ⟨(e0.mod.nolimit.keeps fun b o e => (e0.bs b o e).1).keeps x.toInCall.keep, codeAny_func ?_⟩
  obtain ⟨t, ht, hq⟩ := hbody cdv A outer s H vs Q E hcd ⟨_, _, _, _, lk, rfl⟩ hgu (hr.deeper _) hsp
  refine wpAny_mono (ht.run [] s1 (start N vs) H _ (inv_start S hr.hd e0 (len _ _ _ _ hsp) r x) hq) (fun fl s' hs => ?_) fun _ _ hs => hs
  cases fl with
  | ret u =>
    obtain ⟨v, _, H', J, rv, q⟩ := hs
    exact ⟨v, H', J.os, J.bare, J.base, J.hok, rv, q⟩
  | next =>
    obtain ⟨_, H', J, q⟩ := hs
    exact ⟨V.non, H', J.os, J.bare, J.base, J.hok, rfl, q⟩
  | brk => exact hs.elim fun _ z => z.elim fun _ z => z.2.elim
  | cont => exact hs.elim fun _ z => z.elim fun _ z => z.2.elim
end
/-! ### under the tables' growth -/
section
variable {K : PySem.W.Frag} {H H' : Hp}
theorem sqL_ext {a : Addr} {xs : List V} (e : ExtN H H') (h : SqL K H a xs) : SqL K H' a xs := by
  rcases h with h | h
  · rcases h with h | ⟨o, h⟩
    · exact .inl (.inl (e _ _ h fun _ z => nomatch z))
    · exact .inl (.inr ⟨o, e _ _ h fun _ z => nomatch z⟩)
  · exact .inr h
theorem sqT_ext {a : Addr} {xs : List V} (e : ExtN H H') (h : SqT K H a xs) : SqT K H' a xs := by
  rcases h with h | h
  · rcases h with h | ⟨o, h⟩
    · exact .inl (.inl (e _ _ h fun _ z => nomatch z))
    · exact .inl (.inr ⟨o, e _ _ h fun _ z => nomatch z⟩)
  · exact .inr h
mutual
theorem sd_ext (e : ExtN H H') : ∀ {v : V} {d : PyData}, Sd K H v d → Sd K H' v d
  | _, _, .non => .non
  | _, _, .bl b => .bl b
  | _, _, .int i => .int i
  | _, _, .str x => .str x
  | _, _, .lst h a => .lst (sqL_ext e h) (sdall_ext e a)
  | _, _, .tup h a => .tup (sqT_ext e h) (sdall_ext e a)
  | _, _, .emp h => .emp (e _ _ h fun _ z => nomatch z)
  | _, _, .one h a => .one (e _ _ h fun _ z => nomatch z) (sd_ext e a)
theorem sdall_ext (e : ExtN H H') : ∀ {vs : List V} {ds : List PyData}, SdAll K H vs ds → SdAll K H' vs ds
  | _, _, .nil => .nil
  | _, _, .cons h r => .cons (sd_ext e h) (sdall_ext e r)
end
theorem DrawAt.ext {p : Addr} {N : Nat} (d : DrawAt H p N) (e : ExtN H H') : DrawAt H' p N := by
  obtain ⟨l, cs, a, b, c, h1, h2, r⟩ := d
  exact ⟨l, cs, a, b, c, e _ _ h1 (fun _ z => nomatch z), e _ _ h2 (fun _ z => nomatch z), r⟩
end
end L2

set_option Elab.async false
set_option linter.all false
set_option maxRecDepth 100000
set_option maxHeartbeats 2000000
/-! VxCo: x in o, x not in o, len(o): the program's own __contains__ and __len__. -/
namespace L2
open PySem PySem.Spec PyProof.Rows
section
variable {X : Cx} {CX : CXT} {k : Nat} {C f : Addr} {fd : FuncData} {ps : List Str} {sp : Sp} {E : XK}
/-- a def run somewhere below the body, where there is room -/
theorem run_fnA {A1 : Around} {pins : List (Addr × Obj)} {σ : St} {H : Hp} {s : Shared} {Q : VK} {us : List Value} {vs : List V} (F : FnOk X.prog X.w X.K X.mg X.base CX k f fd ps sp) (sb : Sub X k A1) (hb : Binds X.K fd ps []) (hx : Passes CX X E)
    (I : Inv X pins σ H s) (r : Vals vs us) (h : sp vs H Q E) : wpAny (model X.prog X.w) A1 (call (.ref f) us) (EP X pins σ Q) X.xe s := by
  have hl : (us ++ []).length = ps.length := by rw [List.append_nil, ← r.length]; exact F.len _ _ _ _ h
  have e0 : Env0 X.prog X.w X.K X.mg X.base A1 X.stack s H := by
    have e := I.env0
    exact ⟨by rw [sb.fr]; exact e.frames, e.mod, e.bs, e.bsz, e.funs, e.frf, e.hok, e.bare⟩
  refine wpAny_call (codeAny_mono (F.run A1 X.stack s H ⟨us, []⟩ us vs Q E sb.room e0 (by
    have z := hb s us I.kIn hl
    rw [List.append_nil] at z
    exact z) r h) fun r s' hq => ?_)
  cases r with
  | error e => exact hx pins σ H s e s' I hq
  | ok fl =>
    cases fl with
    | ret u => exact I.after hq
    | next => exact False.elim hq
    | brk => exact False.elim hq
    | cont => exact False.elim hq
/-- x in o -/
def rInO (C : Addr) (sp : Sp) (E : XK) (neg : Bool) : R2 := fun x y H Q => ∃ (a dx : Addr) (fs : List (Str × V)), y = .ref a ∧ H a = some (.ins C dx fs) ∧ sp [.ref a, x] H (fun v H' => ∃ b, v = .bl b ∧ Q (.bl (if neg then !b else b)) H') E
theorem op_inO (F : FnOk X.prog X.w X.K X.mg X.base CX k f fd ps sp) (hr : Room k X.A) (hb : Binds X.K fd ps []) (hx : Passes CX X E) (hs : PySem.W.findIn X.K (.ref C) "__contains__" = some (some (.ref f))) (hf : PySem.W.isFn X.K (.ref f) = true) : OpR X (compareOp .In) (rInO C sp E false) := by
  intro pins s σ H x y v u Q I rx ry h
  obtain ⟨a, dx, fs, rfl, ha, h⟩ := h
  obtain rfl : u = Value.ref a := ry
  obtain ⟨mA, J, _⟩ := ins_get I.hok ha
  obtain ⟨od, J, _⟩ := J.look
  obtain ⟨m, hF⟩ := I.fr
  refine PySem.W.in_K hF I.ok.mod.kin J hs hf (wpAny_mono (run_fnA F ⟨hr, rfl⟩ hb hx I (vs := [.ref a, x]) (.cons rfl (.cons rx .nil)) h) (fun r s' hq => ?_) fun _ _ z => z)
  obtain ⟨z, H', I', rz, b, rfl, q⟩ := hq
  obtain rfl : r = Value.bool b := rz
  exact wpAny_truthy_bool ⟨.bl b, H', I', rfl, q⟩
theorem op_notInO (F : FnOk X.prog X.w X.K X.mg X.base CX k f fd ps sp) (hr : Room k X.A) (hb : Binds X.K fd ps []) (hx : Passes CX X E) (hs : PySem.W.findIn X.K (.ref C) "__contains__" = some (some (.ref f))) (hf : PySem.W.isFn X.K (.ref f) = true) : OpR X (compareOp .NotIn) (rInO C sp E true) := by
  intro pins s σ H x y v u Q I rx ry h
  obtain ⟨a, dx, fs, rfl, ha, h⟩ := h
  obtain rfl : u = Value.ref a := ry
  obtain ⟨mA, J, _⟩ := ins_get I.hok ha
  obtain ⟨od, J, _⟩ := J.look
  obtain ⟨m, hF⟩ := I.fr
  refine PySem.W.notIn_K hF I.ok.mod.kin J hs hf (wpAny_mono (run_fnA F ⟨hr, rfl⟩ hb hx I (vs := [.ref a, x]) (.cons rfl (.cons rx .nil)) h) (fun r s' hq => ?_) fun _ _ z => z)
  obtain ⟨z, H', I', rz, b, rfl, q⟩ := hq
  obtain rfl : r = Value.bool b := rz
  exact wpAny_truthy_bool ⟨.bl (!b), H', I', rfl, q⟩
/-- len(o) -/
def rLenO (C : Addr) (sp : Sp) (E : XK) : List V → Hp → VK → Prop := fun xs H Q => ∃ (a dx : Addr) (fs : List (Str × V)), xs = [.ref a] ∧ H a = some (.ins C dx fs) ∧ sp [.ref a] H (fun v H' => ∃ n : Int, v = .int n ∧ (0 ≤ n ∧ n < 2 ^ 63) ∧ Q (.int n) H') E
theorem call_lenO (F : FnOk X.prog X.w X.K X.mg X.base CX k f fd ps sp) (hr : Room (k + 1) X.A) (hb : Binds X.K fd ps []) (hx : Passes CX X E) (hs : PySem.W.findIn X.K (.ref C) "__len__" = some (some (.ref f))) (hf : PySem.W.isFn X.K (.ref f) = true) : CallR X (.builtin "len") (rLenO C sp E) := by
  intro pins s σ H xs us Q I r h
  obtain ⟨a, dx, fs, rfl, ha, h⟩ := h
  rw [Vals.ref1 r]
  obtain ⟨mA, J, _⟩ := ins_get I.hok ha
  obtain ⟨od, J, _⟩ := J.look
  obtain ⟨m, hF⟩ := I.fr
  refine PySem.W.len_K hF I.ok.mod.kin J hs hf (wpAny_mono (run_fnA F (Sub.in1 ⟨hr, rfl⟩) hb hx I (vs := [.ref a]) (.cons rfl .nil) h) (fun r s' hq => ?_) fun _ _ z => z)
  obtain ⟨z, H', I', rz, n, rfl, hn, q⟩ := hq
  obtain ⟨t, rfl⟩ : ∃ t, r = Value.int n t := rz
  exact ⟨hn, .int n, H', I'.tok _, ⟨_, rfl⟩, q⟩
end
end L2

set_option Elab.async false
set_option linter.all false
set_option maxRecDepth 100000
set_option maxHeartbeats 2000000
/-! VxBa: C() of a class without an __init__ of its own. -/
namespace L2
open PySem PySem.Spec PyProof.Rows
structure Bare (K : PySem.W.Frag) (C : Addr) : Prop where
  makes : PySem.W.makesIn K C = true
  init : PySem.W.findIn K (.ref C) "__init__" = some (some (.builtin "object.__init__"))
  kp : PySem.W.keepIn K (.ref C) = true
  top : PySem.W.mroIn K C (.type "object") = some true
section
variable {X : Cx} {C : Addr} {pins : List (Addr × Obj)} {σ : St} {H : Hp} {s : Shared} {Q : VK} {x : Str} {p pos : Pos}
open NwA PySem.W PySem.Calls in
theorem run_bare (B : Bare X.K C) (I : Inv X pins σ H s) (h : ∀ x dx, H x = Option.none → H dx = Option.none → dx ≠ x → Q (V.ref x) (upd (upd H dx (.own x)) x (.ins C dx []))) :
    wpAny (model X.prog X.w) X.A (call (.ref C) []) (EP X pins σ Q) X.xe s := by
  have hq := h (s.heap.objs.size + 1) s.heap.objs.size (I.hok.fresh (Nat.le_succ _)) (I.hok.fresh (Nat.le_refl _)) (Nat.ne_of_lt (Nat.lt_succ_self _))
  have I2 := Inv.made (C := C) I
  refine wpAny_call (make_map0 I.kIn B.makes B.init (fun self => PySem.W.Looks.of_pure (oi_bind _)) ?_)
  have obj : ((s.heap.push PySem.W.emptyDict).push (PySem.W.instObj C s.heap.objs.size)).get? (s.heap.objs.size + 1) = some (PySem.W.instObj C s.heap.objs.size) := by heap_get
  have t1 : PySem.W.Looks (model X.prog X.w) ((s.heap.push PySem.W.emptyDict).push (PySem.W.instObj C s.heap.objs.size)) (typeOf (.ref (s.heap.objs.size + 1))) (.ref C) := type_at obj rfl
  have t2 : PySem.W.Looks (model X.prog X.w) ((s.heap.push PySem.W.emptyDict).push (PySem.W.instObj C s.heap.objs.size)) (isInstance (.ref (s.heap.objs.size + 1)) (.type "object")) true := t1.andThen (PySem.W.looks_mroIn I2.kIn B.top)
  refine codeAny_call_builtin oi_plain entry_oi (@check_slot (model X.prog X.w) _ _ _ "object.__init__" "object" "__init__" (.ref (s.heap.objs.size + 1)) [] [] _ oi_kind oi_split t2 (oi_args_any _ [] []) ?_)
  rw [oi_run]
  exact wpAny_pure (And.intro rfl ⟨V.ref _, _, I2, rfl, hq⟩)
/-- C() -/
theorem pe_bare (B : Bare X.K C) (hg : Gl X x) (hm : X.mg x = some (.ref C)) (hdb : (x == ("__debug__" : Str)) = false := by decide) :
    PE X (.Call (.Name x p) [] [] pos) (fun _ H Q => ∀ n dx, H n = none → H dx = none → dx ≠ n → Q (V.ref n) (upd (upd H dx (.own n)) n (.ins C dx []))) :=
  ⟨fun pins s σ H Q I h => wpAny_Call_Name_kw (ld_glob I hg hm (PySem.W.callWith_K0 (first := []) I.kIn B.kp (run_bare B I h)) hdb)⟩
end
end L2

set_option Elab.async false
set_option linter.all false
set_option maxRecDepth 100000
set_option maxHeartbeats 2000000
/-! VxKw: o.m(e, .., k = v, ..), what it lets out told at the slots. -/
namespace L2
open PySem PySem.Spec PyProof.Rows StX ClX
/-- a def without defaults, called by keywords too: by position, then by the last parameters' names -/
theorem FunD.kbindsP {K : PySem.W.Frag} {x qual : Str} {params : Arguments} {body : List Stmt} {scope : Scope} {kws : List (Str × V)} {f : Addr} {fd : FuncData} {ps ks : List Str} (F : FunD K x qual params body scope [] kws f fd)
    (h : ∀ (kV doc pm : Value) (an : Option Addr) (cdv ct : Value) (us ws : List Value), ws.length = ks.length → us.length + ws.length = ps.length → bindArgs (PySem.W.fnOf x qual params body scope .none kV doc pm an cdv ct) ⟨us, ks.zip ws⟩ = pure (ps.zip (us ++ ws))) (s : Shared) (us ws : List Value) (l1 : ws.length = ks.length) (l2 : us.length + ws.length = ps.length) : BindsTo s fd ⟨us, ks.zip ws⟩ (ps.zip (us ++ ws)) := by
  obtain ⟨oc, od, dV, kV, doc, pm, an, cdv, ct, osl, rfl, lk, hcd, hD, hK⟩ := F.ex
  rcases hD with ⟨_, rfl⟩ | ⟨e, _⟩
  · exact .of_eq (h kV doc pm an cdv ct us ws l1 l2)
  · exact absurd rfl e
section
variable {X : Cx} {CX : CXT} {k n : Nat} {f C : Addr} {fd : FuncData} {ps ks : List Str} {sp : Sp} {m : Str} {pos apos : Pos} {o e : Expr} {es : List Expr} {kws : List Keyword} {ta : TE} {t tk : TA} {E : L2.St → XK} {g : List Value → List Value → List Value} {gV : List V → List V → List V}
/-- o.m(e, .., k = v, ..) -/
theorem pe_methKNg {pl : Sem Bool} (he : PE X o ta) (c : Cls X.K C) (hm : Meth X.K C m f) (F : FnOk X.prog X.w X.K X.mg X.base CX k f fd ps sp) (hr : Room k X.A) (hx : ∀ σ, PassesAt CX X σ (E σ)) (hb : KBn X.K fd ps (n + 1) ks g gV) (ha : PA X (e :: es) t) (hkw : PK X kws tk)
    (hall : (backToKw pos (keywordEach kws X.env)).all (·.1.isSome) = true := by rfl) (hks : (backToKw pos (keywordEach kws X.env)).filterMap (·.1) = ks := by rfl)
    (hst : starEach (e :: es) X.env = (false, eval e X.env) :: starEach es X.env := by rfl)
    (hpl : ((backTo pos (starEach (e :: es) X.env)).any (·.1) || (backToKw pos (keywordEach kws X.env)).any (·.1.isNone)) = false := by rfl)
    (ht : eval (.Call (.Attribute o m apos) (e :: es) kws pos) X.env = (do
      let ov ← eval o X.env
      standAt apos.atName
      let (f, first) ← holding [ov] (getMethod ov m pl)
      callWith pos f first (backTo pos (starEach (e :: es) X.env)) (backToKw pos (keywordEach kws X.env))) := by rfl) :
    PE X (.Call (.Attribute o m apos) (e :: es) kws pos) (fun σ H Q => ta σ H fun y H1 => ∃ a dx fs, y = .ref a ∧ H1 a = some (.ins C dx fs) ∧ fs.lookup m = none ∧ t σ H1 fun vs H2 => tk σ H2 fun zs H3 => vs.length = n ∧ zs.length = ks.length ∧ sp (gV (y :: vs) zs) H3 Q (E σ)) := by
  refine ⟨fun pins s σ H Q I h => PySem.W.methodCall_KW (pl := pl) (thn (he.run pins s σ H _ I h) fun u s1 hh => ?_) ht⟩
  obtain ⟨y, H1, I1, rx, a, dx, fs, rfl, ea, l, q⟩ := hh
  obtain rfl : u = Value.ref a := rx
  refine getmeth_ok I1 ea c hm l (PySem.W.callWith_KW (first := [.ref a]) (h₀ := X.base) I.ok.mod.kin hm.kp hall (thn (ha.run pos pins s1 σ H1 _ I1 q) fun us s2 z => ?_) hpl hst)
  obtain ⟨vs, H2, I2, r, q2⟩ := z
  refine thn (hkw.run pos pins s2 σ H2 _ I2 q2) fun ws s3 z => ?_
  obtain ⟨zs, H3, I3, rz, l1, l2, q3⟩ := z
  refine ⟨I3.kIn, ?_⟩
  rw [hks]
  have r2 : Vals (V.ref a :: vs) (Value.ref a :: us) := .cons rfl r
  refine wpAny_call (codeAny_mono (F.run X.A X.stack s3 H3 ⟨Value.ref a :: us, ks.zip ws⟩ (g (Value.ref a :: us) ws) (gV (V.ref a :: vs) zs) Q (E σ) hr I3.env0 (hb.to s3 _ ws I3.kIn (by rw [List.length_cons, ← r.length, l1]) (by rw [← rz.length]; exact l2)) (hb.rel r2 rz) q3) fun rs s' hq => ?_)
  cases rs with
  | error er => exact hx σ _ H3 s3 er s' I3 hq
  | ok fl =>
    cases fl with
    | ret u => exact I3.after hq
    | next => exact hq.elim
    | brk => exact hq.elim
    | cont => exact hq.elim
end
end L2

set_option Elab.async false
set_option linter.all false
set_option maxRecDepth 100000
set_option maxHeartbeats 2000000
/-! VxHk: o(e, ..) and o(k = v, ..): a local's object, by its class's own __call__. -/
namespace L2
open PySem PySem.Spec PyProof.Rows StX ClX
theorem FunD.fnI {K : PySem.W.Frag} {x qual : Str} {params : Arguments} {body : List Stmt} {scope : Scope} {dvs : List V} {kws : List (Str × V)} {f : Addr} {fd : FuncData} (F : FunD K x qual params body scope dvs kws f fd) : PySem.W.fnIn K f = true := by
  obtain ⟨oc, od, dV, kV, doc, pm, an, cdv, ct, osl, rfl, lk, hcd, hD, hK⟩ := F.ex
  unfold PySem.W.fnIn
  rw [lk]
section
variable {M : Model} {A : Around} {E : Value → Shared → Prop} {s : Shared} {K : PySem.W.Frag} {pos : Pos} {x C : Addr} {Q : Value → Shared → Prop}
/-- the arguments first, then the object is looked at as it then stands -/
theorem own_call {args : List (Bool × Sem Value)} {kws : List (Option Str × Sem Value)} (hp : (args.any (·.1) || kws.any (·.1.isNone)) = false)
    (h : wpAny M A (evalArgs (.ref x) true args kws) (fun a s₁ => (∃ dx od, PySem.W.InstAt s₁.heap x (PySem.W.instObj C dx) C od) ∧ wpAny M A (call (.ref x) a.pos a.kw) Q E s₁) E s) : wpAny M A (callWith pos (.ref x) [] args kws) Q E s := by
  unfold callWith
  refine wpAny_bind (wpAny_holding (thn h fun a s₁ z => wpAny_bind (wpAny_standAt ?_)))
  obtain ⟨⟨dx, od, J⟩, z⟩ := z
  have L := PySem.W.kco_keeper (M := M) J rfl
  simp only [hp]
  refine wpAny_bind (L.here ?_)
  have tl : ∀ {t : Sem Value}, wpAny M A t Q E s₁ → wpAny M A (t >>= fun r => holding [r] point >>= fun _ => pure r) Q E s₁ := fun g => wpAny_bind (thn g fun r s₂ q => wpAny_bind (wpAny_holding (wpAny_point (wpAny_pure q))))
  exact tl (wpAny_operateT z)
end
section
variable {X : Cx} {CX : CXT} {k : Nat} {C f : Addr} {fd : FuncData} {ps ks : List Str} {sp : Sp} {x : Str} {p pos : Pos} {e : Expr} {es : List Expr} {kws : List Keyword} {ta : TE} {t tk : TA} {E : XK} {g : List Value → List Value → List Value} {gV : List V → List V → List V}
/-- the object's def runs -/
theorem own_run {pins : List (Addr × Obj)} {σ : St} {H : Hp} {s : Shared} {Q : VK} {a dx : Addr} {fs : List (Str × V)} {us us' : List Value} {kw : List (Str × Value)} {vs : List V} (hm : Meth X.K C "__call__" f) (fi : PySem.W.fnIn X.K f = true) (F : FnOk X.prog X.w X.K X.mg X.base CX k f fd ps sp) (hr : Room k X.A) (hx : Passes CX X E)
    (I : Inv X pins σ H s) (ha : H a = some (.ins C dx fs)) (hb : BindsTo s fd ⟨.ref a :: us, kw⟩ (ps.zip us')) (r : Vals vs us') (h : sp vs H Q E) : wpAny (model X.prog X.w) X.A (call (.ref a) us kw) (EP X pins σ Q) X.xe s := by
  obtain ⟨mA, J, _⟩ := ins_get I.hok ha
  obtain ⟨od, J, _⟩ := J.look
  refine wpAny_call (PySem.W.kco_code I.kIn J rfl hm.at_ hm.fn fi (codeAny_mono (F.run X.A X.stack s H ⟨.ref a :: us, kw⟩ us' vs Q E hr I.env0 hb r h) fun rs s' hq => ?_))
  cases rs with
  | error er => exact hx pins σ H s er s' I hq
  | ok fl =>
    cases fl with
    | ret u => exact I.after hq
    | next => exact hq.elim
    | brk => exact hq.elim
    | cont => exact hq.elim
theorem inst_of {pins : List (Addr × Obj)} {σ : St} {H : Hp} {s : Shared} {a dx : Addr} {fs : List (Str × V)} (I : Inv X pins σ H s) (ha : H a = some (.ins C dx fs)) : ∃ dx od, PySem.W.InstAt s.heap a (PySem.W.instObj C dx) C od := by
  obtain ⟨mA, J, _⟩ := ins_get I.hok ha
  obtain ⟨od, J, _⟩ := J.look
  exact ⟨_, _, J⟩
theorem r2 (a : Addr) {vs : List V} {us : List Value} (r : Vals vs us) : Vals (.ref a :: vs) (.ref a :: us) := .cons rfl r
/-- o(e, ..) -/
theorem pe_hook (hm : Meth X.K C "__call__" f) (fi : PySem.W.fnIn X.K f = true) (F : FnOk X.prog X.w X.K X.mg X.base CX k f fd ps sp) (hr : Room k X.A) (hb : Binds X.K fd ps []) (hx : Passes CX X E) (he : PE X (.Name x p) ta) (ha : PA X (e :: es) t)
    (hst : starEach (e :: es) X.env = (false, eval e X.env) :: starEach es X.env := by rfl) (hpl : (backTo pos (starEach es X.env)).any (·.1) = false := by rfl) :
    PE X (.Call (.Name x p) (e :: es) [] pos) (fun σ H Q => ta σ H fun y H0 => ∃ a, y = .ref a ∧ t σ H0 fun vs H1 => ∃ dx fs, H1 a = some (.ins C dx fs) ∧ sp (.ref a :: vs) H1 Q E) := by
  refine ⟨fun pins s σ H Q I h => wpAny_Call_Name_kw (thn (he.run pins s σ H _ I h) fun u s1 hh => ?_)⟩
  obtain ⟨y, H0, I0, r0, a, rfl, q⟩ := hh
  obtain rfl : u = Value.ref a := r0
  have z := ha.run pos pins s1 σ H0 _ I0 q
  rw [hst] at z ⊢
  refine own_call (C := C) (by show ((false || (backTo pos (starEach es X.env)).any (·.1)) || false) = false; rw [hpl]; rfl) (Calls.evalArgs_plain (thn z fun us s2 hh => ?_))
  obtain ⟨vs, H1, I1, r1, dx, fs, e1, q1⟩ := hh
  refine ⟨inst_of I1 e1, ?_⟩
  have hl : (Value.ref a :: us).length = ps.length := by rw [List.length_cons, ← r1.length]; exact F.len _ _ _ _ q1
  refine own_run hm fi F hr hx I1 e1 ?_ (r2 a r1) q1
  have w := hb s2 (.ref a :: us) I1.kIn (by rw [List.append_nil]; exact hl)
  rw [List.append_nil] at w
  exact w
/-- o(k = v, ..) -/
theorem pe_hookK (hm : Meth X.K C "__call__" f) (fi : PySem.W.fnIn X.K f = true) (F : FnOk X.prog X.w X.K X.mg X.base CX k f fd ps sp) (hr : Room k X.A) (hb : KBn X.K fd ps 1 ks g gV) (hx : Passes CX X E) (he : PE X (.Name x p) ta) (hkw : PK X kws tk)
    (hall : (backToKw pos (keywordEach kws X.env)).all (·.1.isSome) = true := by rfl) (hks : (backToKw pos (keywordEach kws X.env)).filterMap (·.1) = ks := by rfl)
    (hpl : ((backTo pos (starEach [] X.env)).any (·.1) || (backToKw pos (keywordEach kws X.env)).any (·.1.isNone)) = false := by rfl) :
    PE X (.Call (.Name x p) [] kws pos) (fun σ H Q => ta σ H fun y H0 => ∃ a, y = .ref a ∧ tk σ H0 fun zs H1 => ∃ dx fs, H1 a = some (.ins C dx fs) ∧ zs.length = ks.length ∧ sp (gV [.ref a] zs) H1 Q E) := by
  refine ⟨fun pins s σ H Q I h => wpAny_Call_Name_kw (thn (he.run pins s σ H _ I h) fun u s1 hh => ?_)⟩
  obtain ⟨y, H0, I0, r0, a, rfl, q⟩ := hh
  obtain rfl : u = Value.ref a := r0
  refine own_call (C := C) hpl (evalArgs_kw2_nil hall (thn (hkw.run pos pins s1 σ H0 _ I0 q) fun ws s2 hh => ?_))
  obtain ⟨zs, H1, I1, rz, dx, fs, e1, hl, q1⟩ := hh
  refine ⟨inst_of I1 e1, ?_⟩
  rw [hks]
  exact own_run hm fi F hr hx I1 e1 (hb.to s2 [.ref a] ws I1.kIn rfl (by rw [← rz.length]; exact hl)) (hb.rel (r2 a .nil) rz) q1
end
end L2

set_option Elab.async false
set_option linter.all false
set_option maxRecDepth 100000
set_option maxHeartbeats 2000000
/-! VxRv: xs[::-1]; a, b = a list; o != o'; [o, ..] != [o, ..] of the same. -/
namespace L2
open PySem PySem.Spec PyProof.Rows
theorem pick_back (its : List Value) : slicePick its.toArray none none (some (-1)) = its.reverse.toArray := by
  unfold slicePick
  have e1 : (sliceBounds none none (some (-1)) its.toArray.size) = ((its.length : Int) - 1, -1, -1) := by
    rw [List.size_toArray]
    rfl
  rw [e1]
  congr 1
  show ((sliceRange ((its.length : Int) - 1) (-1) (-1)).filterMap (its.toArray[·]?)) = its.reverse
  have e2 : sliceRange ((its.length : Int) - 1) (-1) (-1) = (List.range its.length).map fun k => its.length - 1 - k := by
    unfold sliceRange
    have c : (if (-1 : Int) > 0 then (if (its.length : Int) - 1 < -1 then ((-1 : Int) - ((its.length : Int) - 1) + -1 - 1) / -1 else 0) else (if (its.length : Int) - 1 > -1 then ((its.length : Int) - 1 - -1 - -1 - 1) / (- -1) else 0)) = (its.length : Int) := by
      rw [if_neg (by decide)]
      by_cases z : (its.length : Int) - 1 > -1
      · rw [if_pos z]
        have : (- (-1 : Int)) = 1 := by decide
        rw [this, Int.ediv_one]
        omega
      · rw [if_neg z]
        omega
    simp only [c, Int.toNat_natCast]
    apply List.map_congr_left
    intro k hk
    have := List.mem_range.mp hk
    omega
  rw [e2, List.filterMap_map]
  have e3 : ∀ i ∈ List.range its.length, ((its.toArray[·]?) ∘ fun k => its.length - 1 - k) i = its.reverse[i]? := by
    intro i hi
    have h := List.mem_range.mp hi
    show its.toArray[its.length - 1 - i]? = _
    rw [List.getElem?_reverse h]
    simp
  have e4 : (List.range its.length).filterMap ((its.toArray[·]?) ∘ fun k => its.length - 1 - k) = (List.range its.length).filterMap fun i => its.reverse[i]? := by
    generalize List.range its.length = l at e3
    clear e2 e1
    induction l with
    | nil => rfl
    | cons j l ih =>
      rw [List.filterMap_cons, List.filterMap_cons, e3 j (List.mem_cons_self ..), ih fun i hi => e3 i (List.mem_cons_of_mem _ hi)]
  rw [e4]
  have e5 : its.length = its.reverse.length := by simp
  rw [e5]
  generalize its.reverse = ys
  apply List.ext_getElem?
  intro i
  have : (List.range ys.length).filterMap (fun i => ys[i]?) = ys := by
    clear e5
    induction ys with
    | nil => rfl
    | cons y ys ih =>
      rw [List.length_cons, List.range_succ_eq_map, List.filterMap_cons]
      show y :: _ = _
      rw [List.filterMap_map]
      congr 1
  rw [this]
theorem vals_rv : ∀ {xs : List V} {us : List Value}, Vals xs us → Vals xs.reverse us.reverse
  | _, _, .nil => .nil
  | _ :: _, _ :: _, .cons a r => by
    rw [List.reverse_cons, List.reverse_cons]
    exact (vals_rv r).append (.cons a .nil)
section
variable {X : Cx} {e m : Expr} {te tm : TE} {p2 pos : Pos}
/-- xs[::m], m is -1 -/
theorem pe_back (he : PE X e te) (hm : PE X m tm) : PE X (.Subscript e (.Slice none none (some m) p2) pos) (fun σ H Q => te σ H fun x H1 => tm σ H1 fun y H2 => y = .int (-1) ∧ ∃ a xs, x = .ref a ∧ SqL X.K H2 a xs ∧ ∀ p, H2 p = none → Q (.ref p) (upd H2 p (.lst xs.reverse))) := by
  refine ⟨fun pins s σ H Q I h => ?_⟩
  refine Subscript_ (thn (he.run pins s σ H _ I h) fun v s1 hh => ?_)
  obtain ⟨x, H1, I1, r1, q1⟩ := hh
  refine wpAny_Slice ?_
  rw [evalPart_none, evalPart_some]
  refine wpAny_pure (wpAny_pure (thn (hm.run pins s1 σ H1 _ I1 q1) fun vs s2 hh => ?_))
  obtain ⟨y, H2, I2, r2, rfl, a, xs, rfl, hx, q⟩ := hh
  obtain ⟨t, rfl⟩ : ∃ t, vs = Value.int (-1) t := r2
  obtain rfl : v = Value.ref a := r1
  have I4 : Inv X pins σ H2 { s2 with heap := s2.heap.push { cls := .type "slice", data := .fields #[.none, .none, .int (-1) t] } } := I2.kept (t' := s2.toks) fun b ob q => Heap.get?_push_of_some _ q
  obtain ⟨its, r, ht, hz⟩ := I4.list hx
  refine tail_any (ops := [.ref a, .ref s2.heap.objs.size]) ht.isList.typeIs slot_list_getitem.lookup ?_ (by with_unfolding_all rfl)
  refine wpAny_getItem_list_slice ht.isList (Heap.IsSliceOf.new ..) .none .none (.int (-1) t) (by simp) ?_ (by rw [List.size_toArray, ← r.length]; exact hz)
  rw [pick_back]
  refine ⟨.ref _, _, I4.laid (t' := s2.toks) (o := .lst xs.reverse) (fun b ob q => Heap.get?_push_of_some _ q) (Nat.le_refl _) ?_, rfl, q _ (I4.hok.fresh (Nat.le_refl _))⟩
  refine ⟨by rw [List.length_reverse]; exact hz, _, 0, ?_, Heap.get?_push_size _ rfl⟩
  exact vals_rv r
end
end L2

set_option Elab.async false
set_option linter.all false
set_option maxRecDepth 100000
set_option maxHeartbeats 1000000
/-! VxLq: == of two lists: data, or of different lengths. -/
namespace L2
open PySem PySem.Spec PyProof.Rows
section
variable {X : Cx}
def rEqS (K : PySem.W.Frag) : R2 := fun x y H Q => (∃ (a b : Addr) (xs ys : List V), x = .ref a ∧ y = .ref b ∧ SqL K H a xs ∧ SqL K H b ys ∧ xs.length ≠ ys.length ∧ Q (.bl false) H) ∨ rEqD K x y H Q
theorem op_eqS (h64 : X.A.units + 64 < cLine) : OpR X (compareOp .Eq) (rEqS X.K) := by
  intro pins s σ H x y v u Q I rx ry h
  have hu : X.A.units < cLine := by omega
  rcases h with h | h
  · obtain ⟨a, b, xs, ys, rfl, rfl, ha, hb, ne, q⟩ := h
    cases rx
    cases ry
    obtain ⟨us, r1, p1, _⟩ := I.list ha
    obtain ⟨ws, r2, p2, _⟩ := I.list hb
    refine SeqAt.eq_list_lengthsAt p1.isList p2.isList ?_ hu ⟨.bl false, H, I, rfl, q⟩
    have e1 := r1.length
    have e2 := r2.length
    rw [bne_iff_ne]
    intro z
    apply ne
    have z' : us.length = ws.length := by simpa using z
    omega
  · exact op_eqD h64 pins s σ H x y v u Q I rx ry h
end
end L2

set_option Elab.async false
set_option linter.all false
set_option maxRecDepth 100000
set_option maxHeartbeats 2000000
/-! VxNo: o != o' (objects without an own __eq__, __ne__). -/
namespace VxS
open PySem PySem.W
section
variable {prog : Program} {w : World} {K : Frag} {A : Around} {E : Value → Shared → Prop} {s : Shared} {C x : Addr} {ox : Obj}
structure NeC (K : Frag) (C : Addr) : Prop where
  e : EqC K C
  ne : findIn K (.ref C) "__ne__" = some (some (.builtin "object.__ne__"))
theorem ne_check (X : K.In s.heap) (T : NeC K C) (hx : s.heap.get? x = some ox) (hc : ox.cls = .ref C) {b : Value} {Q : Unit → Shared → Prop} (q : Q () s) : wpAny (model prog w) A (checkBuiltinCall "object.__ne__" ⟨[.ref x, b], []⟩) Q E s := by
  simp only [checkBuiltinCall, F.cmpKind_ne, F.cmpSplit_ne]
  refine wpAny_bind ?_
  unfold isInstance
  refine wpAny_bind (wpAny_typeOf_ref hx ?_)
  rw [hc]
  refine (looks_mroIn X T.e.top).here ?_
  cases hsig : Manifest.signature? "object.__ne__" with
  | none => exact wpAny_pure q
  | some sig =>
    have ha := F.cmpArgs_ne (.ref x) b
    simp only [argsOk, hsig] at ha
    have h2 : Bind.checkArgs "object.__ne__" sig ⟨[.ref x, b], []⟩ = pure () := ha
    show wpAny _ A (Bind.checkArgs "object.__ne__" sig ⟨[.ref x, b], []⟩) Q E _
    rw [h2]
    exact wpAny_pure q
/-- the inner __eq__, of the same object -/
theorem special_same (X : K.In s.heap) (T : NeC K C) (hx : s.heap.get? x = some ox) (hc : ox.cls = .ref C) {Q : Option Value → Shared → Prop} (q : Q (some (.bool true)) s) : wpAny (model prog w) A (callSpecialIfBound? (.ref x) "__eq__" [.ref x]) Q E s := by
  have call_ : ∀ {Q : Value → Shared → Prop}, Q (.bool true) s → wpAny (model prog w) A (call (.builtin "object.__eq__") [.ref x, .ref x]) Q E s := fun {Q} q =>
    wpAny_call (codeAny_call_builtin F.cmp_object.eq.plain F.cmpEntry_eq (eq_check X T.e hx hc (objEq_entry_same q)))
  have bs : bindSpecial (.builtin "object.__eq__") (.ref x) = pure (.builtin "object.__eq__", [.ref x]) := F.cmp_object.eq.bind _
  simp only [callSpecialIfBound?, bindSpecialIfBound?, specialOf]
  refine wpAny_holding (wpAny_bind (wpAny_bind (wpAny_bind (wpAny_typeOf_ref hx ?_))))
  rw [hc]
  refine (looks_findIn X T.e.eq).here ?_
  dsimp only
  rw [bs]
  have fin : wpAny (model prog w) A (call (.builtin "object.__eq__") ([.ref x] ++ [.ref x]) >>= fun v => pure (some v)) Q E s := wpAny_bind (call_ (wpAny_pure q))
  refine wpAny_bind (wpAny_askSetting (wpAny_ite ?_))
  split
  · exact wpAny_bind (wpAny_pure (wpAny_pure fin))
  · exact wpAny_tryCatch (wpAny_bind (wpAny_pure (wpAny_pure fin)))
theorem objNe_same (hu : A.units < cLine) (X : K.In s.heap) (T : NeC K C) (hx : s.heap.get? x = some ox) (hc : ox.cls = .ref C) {Q : Fin → Shared → Prop} (q : Q (.done (.ret (.bool false))) s) : wpAny (model prog w) A (Builtin.«object.__ne__» ⟨[.ref x, .ref x], []⟩) Q E s := by
  unfold Builtin.«object.__ne__»
  repeat (first | with_reducible refine wpAny_cRoomFor hu ?_ | with_reducible refine special_same X T hx hc ?_ | wp_step)
  exact q
theorem ne_same (hu : A.units + 1 < cLine) (X : K.In s.heap) (T : NeC K C) (hx : s.heap.get? x = some ox) (hc : ox.cls = .ref C) {Q : Value → Shared → Prop} (q : Q (.bool false) s) : wpAny (model prog w) A (compareOp .NotEq (.ref x) (.ref x)) Q E s := by
  show wpAny _ _ (richCompare .NotEq (.ref x) (.ref x)) _ _ _
  have call_ : ∀ {Q : Value → Shared → Prop}, Q (.bool false) s → wpAny (model prog w) A (call (.builtin "object.__ne__") [.ref x, .ref x]) Q E s := fun {Q} q =>
    wpAny_call (codeAny_call_builtin F.cmp_object.ne.plain F.cmpEntry_ne (ne_check X T hx hc (objNe_same (A := A.in1) hu X T hx hc q)))
  have bs : bindSpecial (.builtin "object.__ne__") (.ref x) = pure (.builtin "object.__ne__", [.ref x]) := F.cmp_object.ne.bind _
  have t1 : wpAny (model prog w) A (tryCompare (.ref x) "__ne__" (.ref x)) (fun r s' => r = some (.bool false) ∧ s' = s) E s := by
    simp only [tryCompare, callSpecialIfBound?, bindSpecialIfBound?, specialOf]
    refine wpAny_bind (wpAny_holding (wpAny_bind (wpAny_bind (wpAny_bind (wpAny_typeOf_ref hx ?_)))))
    rw [hc]
    refine (looks_findIn X T.ne).here ?_
    dsimp only
    rw [bs]
    have fin : wpAny (model prog w) A (call (.builtin "object.__ne__") ([.ref x] ++ [.ref x]) >>= fun v => pure (some v)) (fun a s' => wpAny (model prog w) A (match a with
        | some Value.notImplemented => (pure none : Sem (Option Value))
        | none => pure none
        | some v => pure (some v)) (fun r s' => r = some (.bool false) ∧ s' = s) E s') E s := wpAny_bind (call_ (wpAny_pure (wpAny_pure ⟨rfl, rfl⟩)))
    refine wpAny_bind (wpAny_askSetting (wpAny_ite ?_))
    split
    · exact wpAny_bind (wpAny_pure (wpAny_pure fin))
    · exact wpAny_tryCatch (wpAny_bind (wpAny_pure (wpAny_pure fin)))
  simp only [richCompare, cmpInfo_NotEq, oneThing_ref]
  refine wpAny_holding (wpAny_bind (wpAny_cRoomFor (by omega) (wpAny_bind (wpAny_typeOf_ref hx ?_))))
  rw [hc]
  refine wpAny_bind (wpAny_typeOf_ref hx ?_)
  rw [hc, if_neg (by simp)]
  refine wpAny_bind (wpAny_pure (wpAny_bind (wpAny_mono t1 (fun r s' z => ?_) fun _ _ e => e)))
  obtain ⟨rfl, rfl⟩ := z
  exact wpAny_pure q
end
end VxS
namespace L2
open PySem PySem.Spec PyProof.Rows
/-- x != x, an object of the program's without __eq__, __ne__ -/
def rNeO (K : PySem.W.Frag) : R2 := fun x y H Q => ∃ (a C da : Addr) (fa : List (Str × V)), x = .ref a ∧ y = .ref a ∧ H a = some (.ins C da fa) ∧ VxS.NeC K C ∧ Q (.bl false) H
theorem op_neO {X : Cx} (hu : X.A.units + 1 < cLine) : OpR X (compareOp .NotEq) (rNeO X.K) := by
  intro pins s σ H x y v u Q I rx ry h
  obtain ⟨a, C, da, fa, rfl, rfl, ha, T, q⟩ := h
  cases rx
  cases ry
  obtain ⟨_, _, _, e1, _⟩ := I.hok a _ ha
  exact VxS.ne_same hu I.kIn T e1 rfl ⟨.bl false, H, I, rfl, q⟩
/-- [o, ..] != [o, ..], the very same objects -/
def rNeR (K : PySem.W.Frag) : R2 := fun x y H Q => ∃ (a b : Addr) (ts : List Addr), x = .ref a ∧ y = .ref b ∧ SqL K H a (ts.map V.ref) ∧ SqL K H b (ts.map V.ref) ∧ Q (.bl false) H
theorem refsR : ∀ {ts : List Addr} {us : List Value}, Vals (ts.map V.ref) us → us = ts.map Value.ref
  | [], _, .nil => rfl
  | t :: ts, _, .cons a r => by
    rw [refsR r]
    cases a
    rfl
theorem op_neR {X : Cx} (hu : X.A.units < cLine) : OpR X (compareOp .NotEq) (rNeR X.K) := by
  intro pins s σ H x y v u Q I rx ry h
  obtain ⟨a, b, ts, rfl, rfl, ha, hb, q⟩ := h
  cases rx
  cases ry
  obtain ⟨us, r1, p1, _⟩ := I.list ha
  obtain ⟨ws, r2, p2, _⟩ := I.list hb
  cases refsR r1
  cases refsR r2
  refine SeqAt.RcNeAt.lists (e := fun _ => true) p1.isList p2.isList rfl hu (fun j h1 h2 => ?_) X.prog X.w _ _ ?_
  · exact SeqAt.EqAt.same _
  · have z : ((List.range (ts.map Value.ref).toArray.size).all fun _ => true) = true := by simp
    first
      | (simp only [z]; exact ⟨.bl false, H, I, rfl, q⟩)
      | exact ⟨.bl false, H, I, rfl, q⟩
end L2

set_option Elab.async false
set_option linter.all false
set_option maxRecDepth 100000
set_option maxHeartbeats 4000000
namespace Kh
open PySem PySem.Spec PyProof.Rows L2 StX ClX
/-! ### small things -/
theorem sqT_to {K : PySem.W.Frag} {H H' : Hp} {a : Addr} {xs : List V} (s : Same H H') (h : SqT K H a xs) : SqT K H' a xs := by
  rcases h with h | h
  · rcases h with h | ⟨o, h⟩
    · exact .inl (.inl (s _ _ h))
    · exact .inl (.inr ⟨o, s _ _ h⟩)
  · exact .inr h
theorem sd_to {K : PySem.W.Frag} {H H' : Hp} {v : V} {d : PyData} (h : Sd K H v d) (s : Same H H') : Sd K H' v d := Sd.same s (fun z => sqT_to s z) h
theorem none_of {H H' : Hp} {b : Addr} (s : Same H H') (n : H' b = none) : H b = none := by
  cases e : H b with
  | none => rfl
  | some o =>
    rw [s _ _ e] at n
    cases n
/-- a statement that is never reached -/
theorem pss_dead {X : Cx} {st : List Stmt} : PSs X st (fun _ _ _ => False) := ⟨fun _ _ _ _ _ _ h => False.elim h⟩
def okT (k : Tk) : Bool := onT isA true k
/-! ### atoms, things -/
def big5 : Int := 10 ^ 40
def AV : List (V × PyData) := [(.non, .none), (.bl true, .bool true), (.bl false, .bool false), (.int 0, .int 0), (.int 1, .int 1), (.int (0 - 1), .int (0 - 1)), (.int 255, .int 255), (.int 256, .int 256), (.int (0 - 129), .int (0 - 129)), (.int (10 ^ 40), .int (10 ^ 40)),
  (.str "", .str ""), (.str "a", .str "a"), (.str "abc", .str "abc"), (.str "salt", .str "salt"), (.str "pepper\n", .str "pepper\n"), (.str "a \\ b", .str "a \\ b"), (.int 5, .int 5)]
def At (v : V) (d : PyData) : Prop := (v, d) ∈ AV
/-- flat -/
def flatD : V → PyData → Bool
  | .non, .none => true
  | .bl a, .bool b => a == b
  | .int a, .int b => a == b
  | .str a, .str b => a == b
  | _, _ => false
theorem flatD_sd {v : V} {d : PyData} (h : flatD v d = true) (K : PySem.W.Frag) (H : Hp) : Sd K H v d := by
  cases v <;> cases d <;> first | (cases h; done) | skip
  · exact .non
  · rw [eq_of_beq (show (_ == _) = true from h)]; exact .bl _
  · rw [eq_of_beq (show (_ == _) = true from h)]; exact .int _
  · rw [eq_of_beq (show (_ == _) = true from h)]; exact .str _
def fitB : PyData → Bool
  | .str x => decide (x.length ≤ 100)
  | _ => true
theorem AV_all : (AV.all fun p => flatD p.1 p.2 && (isA p.2 && (fitB p.2 && (p.2.showable && (decide (p.2.depth ≤ 40) && decide (p.2.shown.length ≤ 1000)))))) = true := by kernel_rfl
structure AtOk (v : V) (d : PyData) : Prop where
  sd : ∀ K H, Sd K H v d
  fit : fits d
  ok : isA d = true
  show_ : d.showable = true
  dep : d.depth ≤ 40
  len : d.shown.length ≤ sizeLine
theorem at_ok {v : V} {d : PyData} (h : At v d) : AtOk v d := by
  have z := List.all_eq_true.mp AV_all _ h
  simp only [Bool.and_eq_true] at z
  obtain ⟨z1, z2, z3, z4, z5, z6⟩ := z
  refine ⟨flatD_sd z1, fun x e => ?_, z2, z4, of_decide_eq_true z5, Nat.le_trans (of_decide_eq_true z6) (by decide)⟩
  have e' : d = .str x := e
  rw [e'] at z3
  exact Nat.le_trans (of_decide_eq_true z3) (by decide)
/-- an atom of the law, or a node -/
def Ev (K : PySem.W.Frag) (H : Hp) (v : V) : Tk → Prop
  | .dat d => At v d
  | .nod C => (NodC K (CN K) C ∧ ∃ a dx fs, v = .ref a ∧ H a = some (.ins C dx fs)) ∧ VxS.NeC K C
/-- the objects of the program's own classes stand -/
def KI (H H' : Hp) : Prop := ∀ a C dx fs, H a = some (.ins C dx fs) → H' a = some (.ins C dx fs)
theorem KI.of {H H' : Hp} (s : Same H H') : KI H H' := fun _ _ _ _ e => s _ _ e
theorem KI.tr {H H1 H2 : Hp} (a : KI H H1) (b : KI H1 H2) : KI H H2 := fun x C dx fs e => b x C dx fs (a x C dx fs e)
theorem KI.keep {H H' : Hp} {q : Addr} {kvs : List (Key × V)} (h : H q = some (.dK kvs)) (k : L2.Keep q H H') : KI H H' := fun a C dx fs e => k a _ e fun z => by rw [z, h] at e; cases e
section
variable {K : PySem.W.Frag} {H H' : Hp}
theorem Ev.to {v : V} {k : Tk} (h : Ev K H v k) (s : KI H H') : Ev K H' v k := by
  cases k with
  | dat d => exact h
  | nod C =>
    obtain ⟨⟨n, a, dx, fs, e, ha⟩, z⟩ := h
    exact ⟨⟨n, a, dx, fs, e, s _ _ _ _ ha⟩, z⟩
theorem Ev.tv {v : V} {k : Tk} (h : Ev K H v k) : Tv K (CN K) H v k := by
  cases k with
  | dat d => exact (at_ok (show At v d from h)).sd K H
  | nod C => exact (show (NodC K (CN K) C ∧ _) ∧ _ from h).1
theorem Ev.fit {v : V} {k : Tk} (h : Ev K H v k) : fitsT k := by
  cases k with
  | dat d => exact (at_ok (show At v d from h)).fit
  | nod C => exact True.intro
theorem Ev.ok {v : V} {k : Tk} (h : Ev K H v k) : okT k = true := by
  cases k with
  | dat d => exact (at_ok (show At v d from h)).ok
  | nod C => rfl
end
def Val (K : PySem.W.Frag) (H : Hp) (v : V) : Prop := ∃ k, Ev K H v k
theorem Val.to {K : PySem.W.Frag} {H H' : Hp} {v : V} (h : Val K H v) (s : KI H H') : Val K H' v := by
  obtain ⟨k, h⟩ := h
  exact ⟨k, h.to s⟩
/-! ### labels -/
def LABS : List Str := ["", "n", "left", "right", "a b", "later"]
theorem LABS_ok : (LABS.all fun x => decide (x.length ≤ 100)) = true := by kernel_rfl
theorem lab_len {x : Str} (h : x ∈ LABS) : x.length ≤ 100 := of_decide_eq_true (List.all_eq_true.mp LABS_ok x h)
/-! ### what is required -/
abbrev sReq : Stmt := top 36
abbrev sReqs : Stmt := top 37
abbrev sReqK : Stmt := top 39
abbrev sReqL : Stmt := top 40
theorem scReq : FnScope ["value"] ["value"] (defScope sReq) := ⟨rfl, rfl, rfl, by decide +kernel, rfl, by decide +kernel, by decide +kernel⟩
theorem scReqs : FnScope ["parts", "part"] ["parts"] (defScope sReqs) := ⟨rfl, rfl, rfl, by decide +kernel, rfl, by decide +kernel, by decide +kernel⟩
theorem scReqK : FnScope ["key"] ["key"] (defScope sReqK) := ⟨rfl, rfl, rfl, by decide +kernel, rfl, by decide +kernel, by decide +kernel⟩
theorem scReqL : FnScope ["label"] ["label"] (defScope sReqL) := ⟨rfl, rfl, rfl, by decide +kernel, rfl, by decide +kernel, by decide +kernel⟩
def spReq (K : PySem.W.Frag) : Sp := fun vs H Q _ => ∃ v : V, vs = [v] ∧ Val K H v ∧ Q .non H
def spReqL : Sp := fun vs H Q _ => ∃ x : Str, vs = [.str x] ∧ x.length ≤ 100 ∧ Q .non H
def spReqs (K : PySem.W.Frag) : Sp := fun vs H Q _ => ∃ t : Addr, vs = [.ref t] ∧ SqT K H t [] ∧ Q .non H
structure Rq (K : PySem.W.Frag) (mg : Str → Option Value) : Prop where
  req : ∃ f fd, FnP K "require_value" sReq f fd ∧ mg "require_value" = some (.ref f)
  reqs : ∃ f fd, FnP K "require_values" sReqs f fd ∧ mg "require_values" = some (.ref f)
  reqK : ∃ f fd, FnP K "require_key" sReqK f fd ∧ mg "require_key" = some (.ref f)
  reqL : ∃ f fd, FnP K "require_label" sReqL f fd ∧ mg "require_label" = some (.ref f)
  brand : ∃ f fd, FnP K "is_brand" sBrand f fd ∧ mg "is_brand" = some (.ref f)
  free : ∃ f fd, FnP K "is_free_brand" sFree f fd ∧ mg "is_free_brand" = some (.ref f)
section
variable {P : Program} {w : World} {K : PySem.W.Frag} {mg : Str → Option Value} {base : Heap}
theorem fit_str {x : Str} (h : x.length ≤ 100) : fits (.str x) := fun y e => by cases e; exact Nat.le_trans h (by decide)
theorem isT_str {x : Str} (h : x.length ≤ 100) : isT (.str x) = true := decide_eq_true (p := x.length ≤ 2000) (by omega)
theorem isK_str {x : Str} (h : x.length ≤ 100) : isK (.str x) = true := decide_eq_true (p := x.length ≤ 2000) (by omega)
theorem ok_req {f : Addr} {fd : FuncData} (F : FnP K "require_value" sReq f fd) (N : Nm K mg) (T : Ts K mg) : FnOk P w K mg base CX0 5 f fd ["value"] (spReq K) := by
  obtain ⟨fk, dk, FK, gK⟩ := T.isV
  have GK : FnOk P w K mg base CX0 4 fk dk ["thing"] (spTest K isA true) := ok_isVal FK T N
  have bK : Binds K dk ["thing"] [] := FK.bindsN fun _ _ _ _ _ _ us hl => match us, hl with | [_], _ => rfl
  refine F.ok scReq (fun vs H Q E h => ?_) (fun cdv A outer s H vs Q E hr h => ?_)
  · obtain ⟨v, rfl, _⟩ := h
    rfl
  · refine ⟨_, PSs.nox (pss_one (ps_if (pt_not (pt_val (pe_call GK hr (by rfl) gK FK.kp bK .nil pass0 (pa_cons (pv 0) pa_nil)))) pss_dead pss_nil)), ?_⟩
    obtain ⟨v, rfl, ⟨k, hv⟩, q⟩ := h
    refine ⟨_, rfl, v, k, rfl, hv.tv, hv.fit, _, rfl, ?_⟩
    have e : onT isA true k = true := hv.ok
    rw [e]
    exact iteF q
theorem ok_reqL {f : Addr} {fd : FuncData} (F : FnP K "require_label" sReqL f fd) (N : Nm K mg) (T : Ts K mg) : FnOk P w K mg base CX0 2 f fd ["label"] spReqL := by
  obtain ⟨fk, dk, FK, gK⟩ := T.isT
  have GK : FnOk P w K mg base CX0 1 fk dk ["thing"] (spTest K isT false) := ok_isText FK N
  have bK : Binds K dk ["thing"] [] := FK.bindsN fun _ _ _ _ _ _ us hl => match us, hl with | [_], _ => rfl
  refine F.ok scReqL (fun vs H Q E h => ?_) (fun cdv A outer s H vs Q E hr h => ?_)
  · obtain ⟨v, rfl, _⟩ := h
    rfl
  · refine ⟨_, PSs.nox (pss_one (ps_if (pt_not (pt_val (pe_call GK hr (by rfl) gK FK.kp bK .nil pass0 (pa_cons (pv 0) pa_nil)))) pss_dead pss_nil)), ?_⟩
    obtain ⟨x, rfl, hx, q⟩ := h
    refine ⟨_, rfl, .str x, .dat (.str x), rfl, Sd.str x, fit_str hx, _, rfl, ?_⟩
    have e : onT isT false (.dat (.str x)) = true := isT_str hx
    rw [e]
    exact iteF q
theorem ok_reqK {f : Addr} {fd : FuncData} (F : FnP K "require_key" sReqK f fd) (N : Nm K mg) (T : Ts K mg) : FnOk P w K mg base CX0 3 f fd ["key"] spReqL := by
  obtain ⟨fk, dk, FK, gK⟩ := T.isK
  have GK : FnOk P w K mg base CX0 2 fk dk ["thing"] (spTest K isK false) := ok_isKey FK T N
  have bK : Binds K dk ["thing"] [] := FK.bindsN fun _ _ _ _ _ _ us hl => match us, hl with | [_], _ => rfl
  refine F.ok scReqK (fun vs H Q E h => ?_) (fun cdv A outer s H vs Q E hr h => ?_)
  · obtain ⟨v, rfl, _⟩ := h
    rfl
  · refine ⟨_, PSs.nox (pss_one (ps_if (pt_not (pt_val (pe_call GK hr (by rfl) gK FK.kp bK .nil pass0 (pa_cons (pv 0) pa_nil)))) pss_dead pss_nil)), ?_⟩
    obtain ⟨x, rfl, hx, q⟩ := h
    refine ⟨_, rfl, .str x, .dat (.str x), rfl, Sd.str x, fit_str hx, _, rfl, ?_⟩
    have e : onT isK false (.dat (.str x)) = true := isK_str hx
    rw [e]
    exact iteF q
theorem ok_reqs {f : Addr} {fd : FuncData} (F : FnP K "require_values" sReqs f fd) : FnOk P w K mg base CX0 1 f fd ["parts"] (spReqs K) := by
  refine F.ok scReqs (fun vs H Q E h => ?_) (fun cdv A outer s H vs Q E hr h => ?_)
  · obtain ⟨v, rfl, _⟩ := h
    rfl
  · refine ⟨_, PSs.nox (pss_one (ps_for PassesOwn.never rfl (pi_tup (pv 0)) (pg_name (i := 1) scReqs.nd rfl (Or.inl rfl)) pss_dead)), ?_⟩
    obtain ⟨t, rfl, ht, k⟩ := h
    exact ⟨_, rfl, t, rfl, ⟨_, ht⟩, for_it (tb := fun _ _ _ => False) (walk_tup (K := K) (a := t) (xs := [])) (fun i σ H' => H' = H) rfl (fun i σ H' _ z => by rw [z]; exact ht) (fun i x σ H' H'' hi => absurd hi (Nat.not_lt_zero _)) fun σ H' z => by rw [z]; exact k⟩
end
/-! ### classes -/
abbrev FnM (K : PySem.W.Frag) (x qual : Str) (st : Stmt) (dvs : List V) (f : Addr) (fd : FuncData) : Prop := FunD K x qual (defArgs st) (defBody st) (defScope st) dvs [] f fd
abbrev sRow : Stmt := top 31
abbrev sBook : Stmt := top 32
abbrev sThg : Stmt := top 34
abbrev CR (K : PySem.W.Frag) : Addr := gC K "Row"
abbrev CB (K : PySem.W.Frag) : Addr := gC K "Book"
abbrev CT (K : PySem.W.Frag) : Addr := gC K "Thing"
abbrev sRowI : Stmt := inClass sRow 1
abbrev sBkI : Stmt := inClass sBook 1
abbrev sBkO : Stmt := inClass sBook 2
abbrev sBkP : Stmt := inClass sBook 3
abbrev sBkE : Stmt := inClass sBook 4
abbrev sThgI : Stmt := inClass sThg 1
abbrev sThgB : Stmt := inClass sThg 2
abbrev sThgF : Stmt := inClass sThg 3
abbrev sThgS : Stmt := inClass sThg 4
abbrev sThgG : Stmt := inClass sThg 5
theorem scRowI : FnScope ["self", "parts"] ((["self"] : List Str) ++ (["parts"] : List Str)) (defScope sRowI) := ⟨rfl, rfl, rfl, by decide +kernel, rfl, by decide +kernel, by decide +kernel⟩
theorem scBkI : FnScope ["self"] ["self"] (defScope sBkI) := ⟨rfl, rfl, rfl, by decide +kernel, rfl, by decide +kernel, by decide +kernel⟩
theorem scBkP : FnScope ["self"] ["self"] (defScope sBkP) := ⟨rfl, rfl, rfl, by decide +kernel, rfl, by decide +kernel, by decide +kernel⟩
theorem scBkE : FnScope ["self", "key", "value"] ["self", "key", "value"] (defScope sBkE) := ⟨rfl, rfl, rfl, by decide +kernel, rfl, by decide +kernel, by decide +kernel⟩
theorem scThgI : FnScope ["self", "brand"] ["self", "brand"] (defScope sThgI) := ⟨rfl, rfl, rfl, by decide +kernel, rfl, by decide +kernel, by decide +kernel⟩
theorem scThgB : FnScope ["self"] ["self"] (defScope sThgB) := ⟨rfl, rfl, rfl, by decide +kernel, rfl, by decide +kernel, by decide +kernel⟩
theorem scThgF : FnScope ["self"] ["self"] (defScope sThgF) := ⟨rfl, rfl, rfl, by decide +kernel, rfl, by decide +kernel, by decide +kernel⟩
theorem scThgS : FnScope ["self", "label", "value"] ["self", "label", "value"] (defScope sThgS) := ⟨rfl, rfl, rfl, by decide +kernel, rfl, by decide +kernel, by decide +kernel⟩
theorem scThgG : FnScope ["self", "label"] ["self", "label"] (defScope sThgG) := ⟨rfl, rfl, rfl, by decide +kernel, rfl, by decide +kernel, by decide +kernel⟩
abbrev TF (v : V) (q : Addr) : List (Str × V) := [("_brand", v), ("_entries", .ref q)]
abbrev BF (q : Addr) : List (Str × V) := [("_entries", .ref q)]
def ThgAt (K : PySem.W.Frag) (H : Hp) (a q : Addr) (bv : V) (kvs : List (Key × V)) : Prop := ∃ dx, H a = some (.ins (CT K) dx (TF bv q)) ∧ H q = some (.dK kvs)
def BkAt (K : PySem.W.Frag) (H : Hp) (a q : Addr) (kvs : List (Key × V)) : Prop := ∃ dx, H a = some (.ins (CB K) dx (BF q)) ∧ H q = some (.dK kvs)
theorem ThgAt.to {K : PySem.W.Frag} {H H' : Hp} {a q : Addr} {bv : V} {kvs : List (Key × V)} (h : ThgAt K H a q bv kvs) (s : Same H H') : ThgAt K H' a q bv kvs := by
  obtain ⟨dx, h1, h2⟩ := h
  exact ⟨dx, s _ _ h1, s _ _ h2⟩
theorem BkAt.to {K : PySem.W.Frag} {H H' : Hp} {a q : Addr} {kvs : List (Key × V)} (h : BkAt K H a q kvs) (s : Same H H') : BkAt K H' a q kvs := by
  obtain ⟨dx, h1, h2⟩ := h
  exact ⟨dx, s _ _ h1, s _ _ h2⟩
/-- pairs, each in a tuple of its own -/
def Prs (H : Hp) (ts : List Addr) (kvs : List (Key × V)) : Prop := Paired (fun (t : Addr) (q : Key × V) => H t = some (.tup [kV q.1, q.2])) ts kvs
theorem Prs.mono {H H' : Hp} (s : ∀ t k v, H t = some (.tup [k, v]) → H' t = some (.tup [k, v])) : ∀ {ts : List Addr} {kvs : List (Key × V)}, Prs H ts kvs → Prs H' ts kvs
  | _, _, .nil => .nil
  | _, _, .cons h r => .cons (s _ _ _ h) (Prs.mono s r)
theorem Prs.to {H H' : Hp} {ts : List Addr} {kvs : List (Key × V)} (h : Prs H ts kvs) (s : Same H H') : Prs H' ts kvs := h.mono fun _ _ _ e => s _ _ e
theorem Prs.keep {H H' : Hp} {ts : List Addr} {kvs : List (Key × V)} {q : Addr} {l : List (Key × V)} (h : Prs H ts kvs) (hq : H q = some (.dK l)) (k : L2.Keep q H H') : Prs H' ts kvs := h.mono fun t _ _ e => k t _ e fun z => by rw [z, hq] at e; cases e
def PairsT (K : PySem.W.Frag) (H : Hp) (p : Addr) (kvs : List (Key × V)) : Prop := ∃ ts : List Addr, SqT K H p (ts.map V.ref) ∧ Prs H ts kvs
def PairsL (K : PySem.W.Frag) (H : Hp) (p : Addr) (kvs : List (Key × V)) : Prop := ∃ ts : List Addr, H p = some (.lst (ts.map V.ref)) ∧ Prs H ts kvs
/-- labels with values -/
structure Rws (K : PySem.W.Frag) (H : Hp) (kvs : List (Key × V)) : Prop where
  key : ∀ r ∈ kvs, ∃ x ∈ LABS, r.1 = .inr x
  val : ∀ r ∈ kvs, Val K H r.2
theorem Rws.to {K : PySem.W.Frag} {H H' : Hp} {kvs : List (Key × V)} (h : Rws K H kvs) (s : KI H H') : Rws K H' kvs := ⟨h.key, fun r m => (h.val r m).to s⟩
end Kh

set_option Elab.async false
set_option linter.all false
set_option maxRecDepth 100000
set_option maxHeartbeats 4000000
namespace Kh
open PySem PySem.Spec PyProof.Rows L2 StX ClX
/-! ### Thing, Book, Row -/
def spThgI (K : PySem.W.Frag) : Sp := fun vs H Q _ => ∃ (a dx : Addr) (x : Str) (H0 : Hp), vs = [.ref a, .str x] ∧ H a = some (.ins (CT K) dx []) ∧ H0 a = none ∧ Same H0 H ∧ x.length ≤ 100 ∧ freeB (.str x) = true ∧
  (∀ q H', Same H0 H' → H0 q = none → H' a = some (.ins (CT K) dx (TF (.str x) q)) → H' q = some (.dK []) → Q .non H')
def spBkI (K : PySem.W.Frag) : Sp := fun vs H Q _ => ∃ (a dx : Addr) (H0 : Hp), vs = [.ref a] ∧ H a = some (.ins (CB K) dx []) ∧ H0 a = none ∧ Same H0 H ∧
  (∀ q H', Same H0 H' → H0 q = none → H' a = some (.ins (CB K) dx (BF q)) → H' q = some (.dK []) → Q .non H')
/-- Row() -/
def spRowI (K : PySem.W.Frag) : Sp := fun vs H Q _ => ∃ (a dx : Addr) (H0 : Hp), vs = [.ref a] ∧ H a = some (.ins (CR K) dx []) ∧ H0 a = none ∧ Same H0 H ∧ (∀ H' fs, Same H0 H' → H' a = some (.ins (CR K) dx fs) → Q .non H')
def spRowT (K : PySem.W.Frag) : Sp := fun vs H Q _ => ∃ (a t dx : Addr) (H0 : Hp), vs = [.ref a, .ref t] ∧ H t = some (.tup []) ∧ H a = some (.ins (CR K) dx []) ∧ H0 a = none ∧ Same H0 H ∧ (∀ H' fs, Same H0 H' → H' a = some (.ins (CR K) dx fs) → Q .non H')
/-- a field, read -/
def spFld (C : Addr) (f : Str) : Sp := fun vs H Q _ => ∃ (a dx : Addr) (fs : List (Str × V)) (v : V), vs = [.ref a] ∧ H a = some (.ins C dx fs) ∧ fs.lookup f = some v ∧ Q v H
def spFields (K : PySem.W.Frag) : Sp := fun vs H Q _ => ∃ (a q : Addr) (bv : V) (kvs : List (Key × V)), vs = [.ref a] ∧ ThgAt K H a q bv kvs ∧ ∀ H' p, Same H H' → PairsT K H' p kvs → Q (.ref p) H'
def spPairs (K : PySem.W.Frag) : Sp := fun vs H Q _ => ∃ (a q : Addr) (kvs : List (Key × V)), vs = [.ref a] ∧ BkAt K H a q kvs ∧ ∀ H' p, Same H H' → PairsT K H' p kvs → Q (.ref p) H'
def spSet (K : PySem.W.Frag) : Sp := fun vs H Q _ => ∃ (a q : Addr) (bv : V) (kvs : List (Key × V)) (x : Str) (v : V), vs = [.ref a, .str x, v] ∧ ThgAt K H a q bv kvs ∧ kvs.length ≤ 1000 ∧ x.length ≤ 100 ∧ Val K H v ∧ Q .non (upd H q (.dK (putK kvs (.inr x) v)))
def spGet (K : PySem.W.Frag) : Sp := fun vs H Q _ => ∃ (a q : Addr) (bv : V) (kvs : List (Key × V)) (x : Str) (v : V), vs = [.ref a, .str x] ∧ ThgAt K H a q bv kvs ∧ x.length ≤ 100 ∧ valV kvs (.inr x) = some v ∧ Q v H
def spEnt (K : PySem.W.Frag) : Sp := fun vs H Q _ => ∃ (a q : Addr) (kvs : List (Key × V)) (x : Str) (v : V), vs = [.ref a, .str x, v] ∧ BkAt K H a q kvs ∧ kvs.length ≤ 1000 ∧ x.length ≤ 100 ∧ Val K H v ∧ valV kvs (.inr x) = none ∧ Q .non (upd H q (.dK (putK kvs (.inr x) v)))
structure ThgC (K : PySem.W.Frag) : Prop where
  cls : Cls K (CT K)
  noE : NoAttr K (CT K) "_entries"
  noB : NoAttr K (CT K) "_brand"
structure BkC (K : PySem.W.Frag) : Prop where
  cls : Cls K (CB K)
  noE : NoAttr K (CB K) "_entries"
section
variable {P : Program} {w : World} {K : PySem.W.Frag} {mg : Str → Option Value} {base : Heap} {C : Addr}
theorem ok_thgI {f : Addr} {fd : FuncData} (B : ThgC K) (F : FnM K "__init__" "Thing.__init__" sThgI [] f fd) (N : Nm K mg) (R : Rq K mg) : FnOk P w K mg base CX0 3 f fd ["self", "brand"] (spThgI K) := by
  obtain ⟨fb, db, FB, gB⟩ := R.free
  have GB : FnOk P w K mg base CX0 2 fb db ["thing"] (spBrand K freeB) := ok_free FB N R.brand
  have bB : Binds K db ["thing"] [] := FB.bindsN fun _ _ _ _ _ _ us hl => match us, hl with | [_], _ => rfl
  refine F.ok scThgI (fun vs H Q E h => ?_) (fun cdv A outer s H vs Q E hr h => ?_)
  · obtain ⟨a, dx, x, H0, rfl, _⟩ := h
    rfl
  · refine ⟨_, PSs.nox (pss_cons (ps_if (pt_not (pt_val (pe_call GB hr (by rfl) gB FB.kp bB .nil pass0 (pa_cons (pv 1) pa_nil)))) pss_dead pss_nil)
      (pss_cons (ps_fld (pv 0) (pv 1) (by rfl)) (pss_one (ps_fld (pv 0) pe_dnewK (by rfl))))), ?_⟩
    obtain ⟨a, dx, x, H0, rfl, ha, a0, s0, lx, fx, k1⟩ := h
    refine ⟨_, rfl, .str x, .str x, rfl, Sd.str x, fit_str lx, fun H1 s1 => ⟨_, rfl, ?_⟩⟩
    have s01 := s0.tr s1
    rw [fx]
    refine iteF ?_
    have ha1 := s1 _ _ ha
    refine ⟨_, rfl, _, rfl, a, _, dx, [], rfl, ha1, B.cls, B.noB, by decide, fun q nq => ?_⟩
    have nqa : q ≠ a := fun z => by
      rw [z, upd_same] at nq
      cases nq
    have nq1 : H1 q = none := by
      rw [upd_ne nqa] at nq
      exact nq
    refine ⟨_, rfl, a, _, dx, [("_brand", .str x)], rfl, by rw [upd_ne nqa.symm, upd_same]; rfl, B.cls, B.noE, (by show 1 < 1000; decide), ?_⟩
    refine k1 q _ (fun b o e1 => ?_) (none_of s01 nq1) upd_same (by rw [upd_ne nqa, upd_same])
    have nba : b ≠ a := fun z => by
      rw [z, a0] at e1
      cases e1
    have nbq : b ≠ q := fun z => by
      rw [z, none_of s01 nq1] at e1
      cases e1
    rw [upd_ne nba, upd_ne nbq, upd_ne nba]
    exact s01 _ _ e1
theorem ok_bkI {f : Addr} {fd : FuncData} (B : BkC K) (F : FnM K "__init__" "Book.__init__" sBkI [] f fd) : FnOk P w K mg base CX0 1 f fd ["self"] (spBkI K) := by
  refine F.ok scBkI (fun vs H Q E h => ?_) (fun cdv A outer s H vs Q E hr h => ?_)
  · obtain ⟨a, dx, H0, rfl, _⟩ := h
    rfl
  · refine ⟨_, PSs.nox (pss_one (ps_fld (pv 0) pe_dnewK (by rfl))), ?_⟩
    obtain ⟨a, dx, H0, rfl, ha, a0, s0, k1⟩ := h
    refine fun q nq => ?_
    have nqa : q ≠ a := fun z => by
      rw [z, ha] at nq
      cases nq
    refine ⟨_, rfl, a, _, dx, [], rfl, by rw [upd_ne nqa.symm]; exact ha, B.cls, B.noE, by decide, ?_⟩
    refine k1 q _ (fun b o e1 => ?_) (none_of s0 nq) upd_same (by rw [upd_ne nqa, upd_same])
    have nba : b ≠ a := fun z => by
      rw [z, a0] at e1
      cases e1
    have nbq : b ≠ q := fun z => by
      rw [z, none_of s0 nq] at e1
      cases e1
    rw [upd_ne nba, upd_ne nbq]
    exact s0 _ _ e1
theorem ok_rowI {f : Addr} {fd : FuncData} (c : Cls K (CR K)) (na : NoAttr K (CR K) "_sequence") (F : FnM K "__init__" "Row.__init__" sRowI [] f fd) (N : Nm K mg) (R : Rq K mg) : FnR P w K mg base CX0 2 f (spRowI K) := by
  obtain ⟨fa, da, FA, gA⟩ := R.reqs
  have GA : FnOk P w K mg base CX0 1 fa da ["parts"] (spReqs K) := ok_reqs FA
  have bA : Binds K da ["parts"] [] := FA.bindsN fun _ _ _ _ _ _ us hl => match us, hl with | [_], _ => rfl
  obtain ⟨oc, od, dV, kV', doc, pm, an, cdv, ct, osl, rfl, lk, hcd, hD, hK⟩ := F.ex
  obtain rfl : dV = .none := hD.elim (fun z => z.2) fun z => absurd rfl z.1
  have R := fn_star (P := P) (w := w) (mg := mg) (base := base) (CX := CX0) (k := 1) (ps := ["self"]) (pv := "parts") lk hcd scRowI cxUp_none (fun us rest hl => ?bind) (sp := spRowT K) fun A outer s H vs Q E hr h => ?body
  case bind =>
    match us, hl with
    | [u], _ => exact bind_star1 (B := fun us => bindArgs (PySem.W.fnOf "__init__" "Row.__init__" (defArgs sRowI) (defBody sRowI) (defScope sRowI) .none kV' doc pm an cdv ct) ⟨us, []⟩) (fun _ => rfl) (fun _ _ _ => rfl) [u] rest rfl
  case body =>
    refine ⟨_, PSs.nox (pss_cons (ps_expr (pe_call GA hr (by rfl) gA FA.kp bA .nil pass0 (pa_cons (pv 1) pa_nil)))
      (pss_one (ps_fld (pv 0) (pe_callTy call_list_of (by rfl) N.list (by decide +kernel) (pa_cons (pv 1) pa_nil)) (by rfl)))), ?_⟩
    obtain ⟨a, t, dx, H0, rfl, ht, ha, a0, s0, k0⟩ := h
    refine ⟨_, rfl, t, rfl, SqT.of ht, ?_⟩
    refine ⟨_, rfl, t, [], rfl, .inr (SqT.of ht), fun l nl => ?_⟩
    have nla : l ≠ a := fun z => by
      rw [z, ha] at nl
      cases nl
    have ha2 : (upd H l (.lst [])) a = some (.ins (CR K) dx []) := by rw [upd_ne nla.symm]; exact ha
    exact ⟨_, rfl, a, CR K, dx, [], rfl, ha2, c, na, by decide, k0 _ _ (same_updN (s0.tr (same_new nl)) a0) upd_same⟩
  intro A outer s H us vs Q E hr e0 r hsp
  obtain ⟨a, dx, H0, rfl, ha, a0, s0, k0⟩ := hsp
  refine R A outer s H us _ Q E hr e0 r ⟨[.ref a], [], rfl, rfl, by decide, fun p np => ?_⟩
  have s1 := same_new (o := .tup []) np
  exact ⟨a, p, dx, H0, rfl, upd_same, s1 _ _ ha, a0, s0.tr s1, k0⟩
theorem ok_fld {f : Addr} {fd : FuncData} {g : Str} {x qual : Str} {st : Stmt} {p1 p2 p3 : Pos} (hb : defBody st = [.Return (some (.Attribute (.Name "self" p1) g p2)) p3]) (sc : FnScope ["self"] ["self"] (defScope st)) (hvis : Vis (defScope st) "self") (c : Cls K C) (na : NoAttr K C g) (F : FnM K x qual st [] f fd) : FnOk P w K mg base CX0 1 f fd ["self"] (spFld C g) := by
  refine F.ok sc (fun vs H Q E h => ?_) (fun cdv A outer s H vs Q E hr h => ?_)
  · obtain ⟨a, dx, fs, v, rfl, _⟩ := h
    rfl
  · rw [hb]
    refine ⟨_, PSs.nox (pss_one (ps_ret (pe_fld (pe_var (i := 0) rfl hvis) (by rfl)))), ?_⟩
    obtain ⟨a, dx, fs, v, rfl, ha, hl, k⟩ := h
    exact ⟨_, rfl, a, C, dx, fs, v, rfl, ha, c, na, hl, k⟩
theorem ok_fields {f : Addr} {fd : FuncData} (B : ThgC K) (F : FnM K "fields" "Thing.fields" sThgF [] f fd) (N : Nm K mg) : FnOk P w K mg base CX0 1 f fd ["self"] (spFields K) := by
  refine F.ok scThgF (fun vs H Q E h => ?_) (fun cdv A outer s H vs Q E hr h => ?_)
  · obtain ⟨a, q, bv, kvs, rfl, _⟩ := h
    rfl
  · refine ⟨_, PSs.nox (pss_one (ps_ret (pe_tupItems rfl (pe_fld (pv 0) (by rfl)) (by rfl) N.tuple (by decide +kernel)))), ?_⟩
    obtain ⟨a, q, bv, kvs, rfl, ⟨dx, ha, hq⟩, k⟩ := h
    exact ⟨_, rfl, a, _, dx, _, .ref q, rfl, ha, B.cls, B.noE, rfl, q, kvs, rfl, hq, fun H' p ts s1 _ _ hp hts => k H' p s1 ⟨ts, SqT.of hp, hts⟩⟩
theorem ok_pairs {f : Addr} {fd : FuncData} (B : BkC K) (F : FnM K "pairs" "Book.pairs" sBkP [] f fd) (N : Nm K mg) : FnOk P w K mg base CX0 1 f fd ["self"] (spPairs K) := by
  refine F.ok scBkP (fun vs H Q E h => ?_) (fun cdv A outer s H vs Q E hr h => ?_)
  · obtain ⟨a, q, kvs, rfl, _⟩ := h
    rfl
  · refine ⟨_, PSs.nox (pss_one (ps_ret (pe_tupItems rfl (pe_fld (pv 0) (by rfl)) (by rfl) N.tuple (by decide +kernel)))), ?_⟩
    obtain ⟨a, q, kvs, rfl, ⟨dx, ha, hq⟩, k⟩ := h
    exact ⟨_, rfl, a, _, dx, _, .ref q, rfl, ha, B.cls, B.noE, rfl, q, kvs, rfl, hq, fun H' p ts s1 _ _ hp hts => k H' p s1 ⟨ts, SqT.of hp, hts⟩⟩
theorem ok_set {f : Addr} {fd : FuncData} (B : ThgC K) (F : FnM K "set_field" "Thing.set_field" sThgS [] f fd) (N : Nm K mg) (T : Ts K mg) (R : Rq K mg) : FnOk P w K mg base CX0 6 f fd ["self", "label", "value"] (spSet K) := by
  obtain ⟨fl, dl, FL, gL⟩ := R.reqL
  obtain ⟨fr, dr, FR, gR⟩ := R.req
  have GL : FnOk P w K mg base CX0 2 fl dl ["label"] spReqL := ok_reqL FL N T
  have GR : FnOk P w K mg base CX0 5 fr dr ["value"] (spReq K) := ok_req FR N T
  have bL : Binds K dl ["label"] [] := FL.bindsN fun _ _ _ _ _ _ us hl => match us, hl with | [_], _ => rfl
  have bR : Binds K dr ["value"] [] := FR.bindsN fun _ _ _ _ _ _ us hl => match us, hl with | [_], _ => rfl
  refine F.ok scThgS (fun vs H Q E h => ?_) (fun cdv A outer s H vs Q E hr h => ?_)
  · obtain ⟨a, q, bv, kvs, x, v, rfl, _⟩ := h
    rfl
  · have hu := hu_of hr
    refine ⟨_, PSs.nox (pss_cons (ps_expr (pe_call GL (hr.mono (by decide)) (by rfl) gL FL.kp bL .nil pass0 (pa_cons (pv 1) pa_nil)))
      (pss_cons (ps_expr (pe_call GR hr (by rfl) gR FR.kp bR .nil pass0 (pa_cons (pv 2) pa_nil)))
      (pss_one (ps_dput hu (pe_fld (pv 0) (by rfl)) (pv 1) (pv 2) rfl)))), ?_⟩
    obtain ⟨a, q, bv, kvs, x, v, rfl, ⟨dx, ha, hq⟩, hl, lx, hv, k1⟩ := h
    refine ⟨_, rfl, x, rfl, lx, _, rfl, v, rfl, hv, ?_⟩
    exact ⟨_, rfl, _, rfl, a, _, dx, _, .ref q, rfl, ha, B.cls, B.noE, rfl, _, rfl, q, _, rfl, DPut.k (k := .inr x) hq (Nat.lt_of_le_of_lt hl (by decide)), k1⟩
theorem ok_get {f : Addr} {fd : FuncData} (B : ThgC K) (F : FnM K "field" "Thing.field" sThgG [] f fd) (N : Nm K mg) (T : Ts K mg) (R : Rq K mg) : FnOk P w K mg base CX0 3 f fd ["self", "label"] (spGet K) := by
  obtain ⟨fl, dl, FL, gL⟩ := R.reqL
  have GL : FnOk P w K mg base CX0 2 fl dl ["label"] spReqL := ok_reqL FL N T
  have bL : Binds K dl ["label"] [] := FL.bindsN fun _ _ _ _ _ _ us hl => match us, hl with | [_], _ => rfl
  refine F.ok scThgG (fun vs H Q E h => ?_) (fun cdv A outer s H vs Q E hr h => ?_)
  · obtain ⟨a, q, bv, kvs, x, v, rfl, _⟩ := h
    rfl
  · have hu := hu_of hr
    refine ⟨_, PSs.nox (pss_cons (ps_expr (pe_call GL hr (by rfl) gL FL.kp bL .nil pass0 (pa_cons (pv 1) pa_nil)))
      (pss_cons (ps_if (pt_cmp (pc_dnotin hu (pv 1) (pe_fld (pv 0) (by rfl)))) pss_dead pss_nil)
      (pss_one (ps_ret (pe_dget hu (pe_fld (pv 0) (by rfl)) (pv 1) (fun _ _ => rfl)))))), ?_⟩
    obtain ⟨a, q, bv, kvs, x, v, rfl, ⟨dx, ha, hq⟩, lx, e, k1⟩ := h
    have z := DGet.k (k := .inr x) hq
    rw [e] at z
    refine ⟨_, rfl, x, rfl, lx, _, rfl, _, rfl, a, _, dx, _, .ref q, rfl, ha, B.cls, B.noE, rfl, q, _, rfl, z, _, rfl, iteF ?_⟩
    exact ⟨_, rfl, a, _, dx, _, .ref q, rfl, ha, B.cls, B.noE, rfl, _, rfl, q, v, rfl, z, k1⟩
theorem ok_ent {f : Addr} {fd : FuncData} (B : BkC K) (F : FnM K "enter" "Book.enter" sBkE [] f fd) (N : Nm K mg) (T : Ts K mg) (R : Rq K mg) : FnOk P w K mg base CX0 6 f fd ["self", "key", "value"] (spEnt K) := by
  obtain ⟨fl, dl, FL, gL⟩ := R.reqK
  obtain ⟨fr, dr, FR, gR⟩ := R.req
  have GL : FnOk P w K mg base CX0 3 fl dl ["key"] spReqL := ok_reqK FL N T
  have GR : FnOk P w K mg base CX0 5 fr dr ["value"] (spReq K) := ok_req FR N T
  have bL : Binds K dl ["key"] [] := FL.bindsN fun _ _ _ _ _ _ us hl => match us, hl with | [_], _ => rfl
  have bR : Binds K dr ["value"] [] := FR.bindsN fun _ _ _ _ _ _ us hl => match us, hl with | [_], _ => rfl
  refine F.ok scBkE (fun vs H Q E h => ?_) (fun cdv A outer s H vs Q E hr h => ?_)
  · obtain ⟨a, q, kvs, x, v, rfl, _⟩ := h
    rfl
  · have hu := hu_of hr
    refine ⟨_, PSs.nox (pss_cons (ps_expr (pe_call GL (hr.mono (by decide)) (by rfl) gL FL.kp bL .nil pass0 (pa_cons (pv 1) pa_nil)))
      (pss_cons (ps_if (pt_cmp (pc_din hu (pv 1) (pe_fld (pv 0) (by rfl)))) pss_dead pss_nil)
      (pss_cons (ps_expr (pe_call GR hr (by rfl) gR FR.kp bR .nil pass0 (pa_cons (pv 2) pa_nil)))
      (pss_one (ps_dput hu (pe_fld (pv 0) (by rfl)) (pv 1) (pv 2) rfl))))), ?_⟩
    obtain ⟨a, q, kvs, x, v, rfl, ⟨dx, ha, hq⟩, hl, lx, hv, e, k1⟩ := h
    have z := DGet.k (k := .inr x) hq
    rw [e] at z
    refine ⟨_, rfl, x, rfl, lx, _, rfl, _, rfl, a, _, dx, _, .ref q, rfl, ha, B.cls, B.noE, rfl, q, _, rfl, z, _, rfl, iteF ⟨_, rfl, v, rfl, hv, ?_⟩⟩
    exact ⟨_, rfl, _, rfl, a, _, dx, _, .ref q, rfl, ha, B.cls, B.noE, rfl, _, rfl, q, _, rfl, DPut.k (k := .inr x) hq (Nat.lt_of_le_of_lt hl (by decide)), k1⟩
end
end Kh

set_option Elab.async false
set_option linter.all false
set_option maxRecDepth 100000
set_option maxHeartbeats 4000000
namespace Kh
open PySem PySem.Spec PyProof.Rows L2 StX ClX
/-! ### are_pairs, Book.of, set_fields -/
abbrev sAre : Stmt := top 41
abbrev sSFs : Stmt := top 43
theorem scAre : FnScope ["pairs", "pair"] ["pairs"] (defScope sAre) := ⟨rfl, rfl, rfl, by decide +kernel, rfl, by decide +kernel, by decide +kernel⟩
theorem scOf : FnScope ["cls", "pairs", "book", "key", "value"] ["cls", "pairs"] (defScope sBkO) := ⟨rfl, rfl, rfl, by decide +kernel, rfl, by decide +kernel, by decide +kernel⟩
theorem scSFs : FnScope ["thing", "pairs", "label", "value"] ["thing", "pairs"] (defScope sSFs) := ⟨rfl, rfl, rfl, by decide +kernel, rfl, by decide +kernel, by decide +kernel⟩
theorem sqT_keep {K : PySem.W.Frag} {H H' : Hp} {a q : Addr} {xs : List V} {l : List (Key × V)} (hq : H q = some (.dK l)) (k : L2.Keep q H H') (h : SqT K H a xs) : SqT K H' a xs := by
  rcases h with h | h
  · rcases h with h | ⟨o, h⟩
    · exact .inl (.inl (k _ _ h fun z => by rw [z, hq] at h; cases h))
    · exact .inl (.inr ⟨o, k _ _ h fun z => by rw [z, hq] at h; cases h⟩)
  · exact .inr h
/-! what the dicts come to -/
theorem val_take {kvs : List (Key × V)} {i : Nat} {r : Key × V} (nd : (kvs.map (·.1)).Nodup) (e : kvs[i]? = some r) : valV (kvs.take i) r.1 = none := by
  have z := valV_any r.1 (kvs.take i)
  have a : ((kvs.take i).any fun kv => decide (kv.1 = r.1)) = false := by
    rw [Bool.eq_false_iff]
    intro y
    obtain ⟨x, hx, ex⟩ := List.any_eq_true.mp y
    obtain ⟨j, hj⟩ := List.mem_iff_getElem?.mp hx
    rw [List.getElem?_take] at hj
    by_cases c : j < i
    · rw [if_pos c] at hj
      have m1 : (kvs.map (·.1))[j]? = some r.1 := by
        rw [List.getElem?_map, hj]
        show some x.1 = _
        rw [of_decide_eq_true ex]
      have m2 : (kvs.map (·.1))[i]? = some r.1 := by
        rw [List.getElem?_map, e]
        rfl
      have hl : j < (kvs.map (·.1)).length := by
        rcases Nat.lt_or_ge j (kvs.map (·.1)).length with h | h
        · exact h
        · rw [List.getElem?_eq_none h] at m1
          cases m1
      have ji : j = i := (List.getElem?_inj hl nd).mp (m1.trans m2.symm)
      omega
    · rw [if_neg c] at hj
      cases hj
  rw [a] at z
  cases q : valV (kvs.take i) r.1 with
  | none => rfl
  | some v =>
    rw [q] at z
    cases z
theorem put_take {kvs : List (Key × V)} {i : Nat} {r : Key × V} (nd : (kvs.map (·.1)).Nodup) (e : kvs[i]? = some r) : putK (kvs.take i) r.1 r.2 = kvs.take (i + 1) := by
  rw [putK_new _ (val_take nd e), List.take_add_one, e]
  rfl
theorem merge_snoc (kvs more : List (Key × V)) (r : Key × V) : mergeK kvs (more ++ [r]) = putK (mergeK kvs more) r.1 r.2 := by
  show (more ++ [r]).foldl _ kvs = _
  rw [List.foldl_append]
  rfl
theorem merge_take {kvs more : List (Key × V)} {i : Nat} {r : Key × V} (e : more[i]? = some r) : mergeK kvs (more.take (i + 1)) = putK (mergeK kvs (more.take i)) r.1 r.2 := by
  rw [List.take_add_one, e]
  exact merge_snoc _ _ _
theorem put_len (kvs : List (Key × V)) (y : Key) (v : V) : (putK kvs y v).length ≤ kvs.length + 1 := by
  unfold putK
  split
  · rw [List.length_map]
    omega
  · rw [List.length_append]
    exact Nat.le_refl _
theorem merge_len : ∀ (more kvs : List (Key × V)), (mergeK kvs more).length ≤ kvs.length + more.length
  | [], kvs => Nat.le_refl _
  | r :: more, kvs => by
    have a := merge_len more (putK kvs r.1 r.2)
    have b := put_len kvs r.1 r.2
    have e : mergeK kvs (r :: more) = mergeK (putK kvs r.1 r.2) more := rfl
    rw [e, List.length_cons]
    omega
theorem merge_nil {kvs : List (Key × V)} (nd : (kvs.map (·.1)).Nodup) : ∀ i, i ≤ kvs.length → mergeK [] (kvs.take i) = kvs.take i
  | 0, _ => by rw [List.take_zero]; rfl
  | i + 1, h => by
    have e : kvs[i]? = some (kvs[i]'(by omega)) := List.getElem?_eq_getElem (by omega)
    rw [merge_take e, merge_nil nd i (by omega), put_take nd e]
theorem merge_self {kvs : List (Key × V)} (nd : (kvs.map (·.1)).Nodup) : mergeK [] kvs = kvs := by
  have z := merge_nil nd kvs.length (Nat.le_refl _)
  rw [List.take_length] at z
  exact z
def spAre (K : PySem.W.Frag) : Sp := fun vs H Q _ => ∃ (p : Addr) (kvs : List (Key × V)), vs = [.ref p] ∧ PairsT K H p kvs ∧ kvs.length ≤ 100 ∧ ∀ H', Same H H' → Q (.bl true) H'
def spOf (K : PySem.W.Frag) : Sp := fun vs H Q _ => ∃ (p : Addr) (kvs : List (Key × V)), vs = [.ref (CB K), .ref p] ∧ PairsT K H p kvs ∧ kvs.length ≤ 100 ∧ Rws K H kvs ∧ (kvs.map (·.1)).Nodup ∧ ∀ n q H', Same H H' → H n = none → BkAt K H' n q kvs → H q = none → Q (.ref n) H'
def spSFs (K : PySem.W.Frag) : Sp := fun vs H Q _ => ∃ (a p q : Addr) (bv : V) (kvs more : List (Key × V)), vs = [.ref a, .ref p] ∧ ThgAt K H a q bv kvs ∧ kvs.length + more.length ≤ 500 ∧ PairsT K H p more ∧ Rws K H more ∧ ∀ H', L2.Keep q H H' → H' q = some (.dK (mergeK kvs more)) → Q .non H'
section
variable {P : Program} {w : World} {K : PySem.W.Frag} {mg : Str → Option Value} {base : Heap} {C : Addr}
theorem ok_are {f : Addr} {fd : FuncData} (F : FnP K "are_pairs" sAre f fd) (N : Nm K mg) : FnOk P w K mg base CX0 1 f fd ["pairs"] (spAre K) := by
  refine F.ok scAre (fun vs H Q E h => ?_) (fun cdv A outer s H vs Q E hr h => ?_)
  · obtain ⟨v, kvs, rfl, _⟩ := h
    rfl
  · refine ⟨_, PSs.nox (pss_cons (ps_if (pt_not (pt_val (pe_callB call_isTup (by rfl) N.isi (by decide +kernel) (pa_cons (pv 0) (pa_cons (pe_bltn (v := .ty "tuple") (by rfl) N.tuple (by decide +kernel) rfl) pa_nil))))) (pss_one (ps_ret pe_bl)) pss_nil)
      (pss_one (ps_ret (pe_callB (cr_all rfl) (by rfl) N.all (by decide +kernel) (pa_cons (pe_lc (own := [("pair", 1)]) (g := gName 1) (tt := tYes) rfl scAre.nd (pi_tup (pv 0)) (blkOk_by (own := [("pair", 1)]) (N := ["pairs", "pair"]) (sc := defScope sAre) (by decide +kernel))
          (fun _ _ _ _ _ => pg_name (i := 1) scAre.nd rfl (Or.inl rfl)) (fun _ _ _ _ _ => pts_nil)
          (fun _ _ _ _ _ => pe_and (pe_callB (show CallR _ _ (rIsTup K) from call_isTup) (by rfl) N.isi (by decide +kernel) (pa_cons (pv 1) (pa_cons (pe_bltn (v := .ty "tuple") (by rfl) N.tuple (by decide +kernel) rfl) pa_nil))) (pe_one (pe_cmpR op_eq (pe_callB (show CallR _ _ (fun xs H Q => ∃ (x : V) (n : Nat), xs = [x] ∧ LenV K x H n ∧ Q (V.int (n : Int)) H) from call_len) (by rfl) N.len PySem.boot_len (pa_cons (pv 1) pa_nil)) pe_int (nomark _))))) pa_nil))))), ?_⟩
    obtain ⟨a, kvs, rfl, ⟨ts, hT, hts⟩, hl, k⟩ := h
    have lt : ts.length = kvs.length := Paired.length hts
    refine ⟨_, rfl, .ref a, "tuple", true, rfl, ty_tup hT, rfl, by decide, _, rfl, iteF ?_⟩
    refine ⟨_, rfl, a, rfl, ⟨_, hT⟩, fun D nD => lc_it (walk_tup (xs := ts.map V.ref)) (fun i H' => Same H H' ∧ H' D = some (.lst ((List.replicate i true).map V.bl))) ⟨same_new nD, upd_same⟩ (fun i H' _ z => sqT_to z.1 hT) ?_ ?_⟩
    · rintro i y H' H'' hi ⟨s1, hD⟩ ⟨rfl, hx⟩
      rw [List.getElem?_map] at hx
      obtain ⟨t, ht, rfl⟩ := Option.map_eq_some_iff.mp hx
      obtain ⟨r, hr, hy⟩ := LiI.paired_get hts ht
      have tt : SqT K H'' t [kV r.1, r.2] := SqT.of (s1 _ _ hy)
      refine ⟨rfl, yesT ⟨_, rfl, .ref t, "tuple", true, rfl, ty_tup tt, rfl, by decide, _, rfl, iteT ⟨_, rfl, _, 2, rfl, .inr ⟨_, tt, rfl⟩, rfl, ?_⟩⟩⟩
      refine ⟨_, hD, ?_, same_updN s1 nD, ?_⟩
      · rw [List.length_map, List.length_replicate]
        rw [List.length_map] at hi
        exact Nat.lt_of_lt_of_le (show i < 1000 by omega) (by decide)
      · rw [upd_same, List.replicate_succ', List.map_append]
        rfl
    · rintro H' ⟨s1, hD⟩
      refine ⟨D, _, rfl, SqL.of hD, ?_⟩
      have e : (List.replicate (ts.map V.ref).length true).all id = true := by simp
      rw [e]
      exact k _ s1
theorem ok_of {f fi fe : Addr} {fd di de : FuncData} (B : BkC K) (F : FnM K "of" "Book.of" sBkO [] f fd) (N : Nm K mg) (T : Ts K mg) (R : Rq K mg) (MI : Mk K (CB K) fi) (FI : FnM K "__init__" "Book.__init__" sBkI [] fi di) (ME : Meth K (CB K) "enter" fe) (FE : FnM K "enter" "Book.enter" sBkE [] fe de)
    (LA : ∃ f fd, FnP K "are_pairs" sAre f fd ∧ mg "are_pairs" = some (.ref f)) : FnOk P w K mg base CX0 7 f fd ["cls", "pairs"] (spOf K) := by
  obtain ⟨fa, da, FA, gA⟩ := LA
  have GA : FnOk P w K mg base CX0 1 fa da ["pairs"] (spAre K) := ok_are FA N
  have GI : FnOk P w K mg base CX0 1 fi di ["self"] (spBkI K) := ok_bkI B FI
  have GE : FnOk P w K mg base CX0 6 fe de ["self", "key", "value"] (spEnt K) := ok_ent B FE N T R
  have bA : Binds K da ["pairs"] [] := FA.bindsN fun _ _ _ _ _ _ us hl => match us, hl with | [_], _ => rfl
  have bI : Binds K di ["self"] [] := FI.bindsN fun _ _ _ _ _ _ us hl => match us, hl with | [_], _ => rfl
  have bE : Binds K de ["self", "key", "value"] [] := FE.bindsN fun _ _ _ _ _ _ us hl => match us, hl with | [_, _, _], _ => rfl
  refine F.ok scOf (fun vs H Q E h => ?_) (fun cdv A outer s H vs Q E hr h => ?_)
  · obtain ⟨v, o, rfl, _⟩ := h
    rfl
  · refine ⟨_, PSs.nox (pss_cons (ps_if (pt_not (pt_val (pe_call GA (hr.mono (by decide)) (by rfl) gA FA.kp bA .nil pass0 (pa_cons (pv 1) pa_nil)))) pss_dead pss_nil)
      (pss_cons (ps_set (i := 2) scOf.nd rfl (Or.inl rfl) (pe_makeV0 (i := 0) MI GI (hr.mono (by decide)) rfl (by first | exact .inl rfl | rfl) bI .nil pass0))
      (pss_cons (ps_for PassesOwn.never rfl (pi_tup (pv 1)) (pg_tup rfl (pgs_cons (pg_name (i := 3) scOf.nd rfl (Or.inl rfl)) (pgs_cons (pg_name (i := 4) scOf.nd rfl (Or.inl rfl)) pgs_nil)))
        (pss_one (ps_expr (pe_meth (pv 2) B.cls ME GE hr bE .nil pass0 (pa_cons (pv 3) (pa_cons (pv 4) pa_nil))))))
      (pss_one (ps_ret (pv 2)))))), ?_⟩
    obtain ⟨a, kvs, rfl, hp, hl, hR, nd, k⟩ := h
    obtain ⟨ts, hT, hts⟩ := hp
    have lt : ts.length = kvs.length := Paired.length hts
    refine ⟨_, rfl, a, kvs, rfl, ⟨ts, hT, hts⟩, hl, fun H1 s1 => ⟨_, rfl, iteF ?_⟩⟩
    refine ⟨rfl, fun n dx hn hd ne => ⟨n, dx, H1, rfl, upd_same, hn, fun b o e => by
        rw [upd_ne (ne_of_none e hn), upd_ne (ne_of_none e hd)]
        exact e, fun q H2 s2 nq hb hq => ⟨rfl, ?_⟩⟩⟩
    have s12 := s1.tr s2
    have n0 := none_of s1 hn
    have q0 := none_of s1 nq
    refine ⟨_, rfl, a, rfl, ⟨_, sqT_to s12 hT⟩, for_it (walk_tup (xs := ts.map V.ref)) (fun i σ H' => ∃ (t3 t4 : Option V), σ = [some (.ref (CB K)), some (.ref a), some (.ref n), t3, t4] ∧ Same H H' ∧ H' n = some (.ins (CB K) dx (BF q)) ∧ H' q = some (.dK (kvs.take i))) ⟨none, none, rfl, s12, hb, hq⟩ (fun i σ H' _ z => ?_) ?_ ?_⟩
    · obtain ⟨_, _, rfl, s3, _⟩ := z
      exact sqT_to s3 hT
    · rintro i x σ H' H'' hi ⟨t3, t4, rfl, s3, hb3, hq3⟩ ⟨rfl, hx⟩
      rw [List.getElem?_map] at hx
      obtain ⟨t, ht, rfl⟩ := Option.map_eq_some_iff.mp hx
      obtain ⟨r, hr, hy⟩ := LiI.paired_get hts ht
      have mr := List.mem_of_getElem? hr
      obtain ⟨x, hx1, ex⟩ := hR.key r mr
      obtain ⟨key, v⟩ := r
      have ex' : key = .inr x := ex
      subst ex'
      refine ⟨t, _, rfl, SqT.of (s3 _ _ hy), rfl, _, _, rfl, _, _, rfl, rfl, ?_⟩
      refine ⟨_, rfl, n, dx, _, rfl, hb3, rfl, _, rfl, _, rfl, n, q, _, x, v, rfl, ⟨dx, hb3, hq3⟩, by rw [List.length_take]; omega, lab_len hx1, (hR.val _ mr).to (KI.of s3), val_take nd hr, ?_⟩
      refine ⟨some (.str x), some v, rfl, same_updN s3 q0, ?_, ?_⟩
      · rw [upd_ne (ne_of hb3 hq3 (by intro z; cases z))]
        exact hb3
      · rw [upd_same]
        exact congrArg (fun l => some (HO.dK l)) (put_take nd hr)
    · rintro σ H' ⟨t3, t4, rfl, s3, hb3, hq3⟩
      rw [List.length_map, lt, List.take_length] at hq3
      exact ⟨_, rfl, k n q _ s3 n0 ⟨dx, hb3, hq3⟩ q0⟩
theorem ok_sfs {f fs : Addr} {fd ds : FuncData} (B : ThgC K) (F : FnP K "set_fields" sSFs f fd) (N : Nm K mg) (T : Ts K mg) (R : Rq K mg) (MS : Meth K (CT K) "set_field" fs) (FS : FnM K "set_field" "Thing.set_field" sThgS [] fs ds) : FnOk P w K mg base CX0 7 f fd ["thing", "pairs"] (spSFs K) := by
  have GS : FnOk P w K mg base CX0 6 fs ds ["self", "label", "value"] (spSet K) := ok_set B FS N T R
  have bS : Binds K ds ["self", "label", "value"] [] := FS.bindsN fun _ _ _ _ _ _ us hl => match us, hl with | [_, _, _], _ => rfl
  refine F.ok scSFs (fun vs H Q E h => ?_) (fun cdv A outer s H vs Q E hr h => ?_)
  · obtain ⟨a, p, q, bv, kvs, more, rfl, _⟩ := h
    rfl
  · refine ⟨_, PSs.nox (pss_one (ps_for PassesOwn.never rfl (pi_tup (pv 1)) (pg_tup rfl (pgs_cons (pg_name (i := 2) scSFs.nd rfl (Or.inl rfl)) (pgs_cons (pg_name (i := 3) scSFs.nd rfl (Or.inl rfl)) pgs_nil)))
        (pss_one (ps_expr (pe_meth (pv 0) B.cls MS GS hr bS .nil pass0 (pa_cons (pv 2) (pa_cons (pv 3) pa_nil))))))), ?_⟩
    obtain ⟨a, p, q, bv, kvs, more, rfl, ⟨dx, ha, hq⟩, hl, ⟨ts, hT, hts⟩, hR, k⟩ := h
    have lt : ts.length = more.length := Paired.length hts
    have nqa : a ≠ q := ne_of ha hq (by intro z; cases z)
    refine ⟨_, rfl, p, rfl, ⟨_, hT⟩, for_it (walk_tup (xs := ts.map V.ref)) (fun i σ H' => ∃ (t3 t4 : Option V), σ = [some (.ref a), some (.ref p), t3, t4] ∧ L2.Keep q H H' ∧ H' q = some (.dK (mergeK kvs (more.take i)))) ⟨none, none, rfl, L2.Keep.refl, by rw [List.take_zero]; exact hq⟩ (fun i σ H' _ z => ?_) ?_ ?_⟩
    · obtain ⟨_, _, rfl, kp, _⟩ := z
      exact sqT_keep hq kp hT
    · rintro i x σ H' H'' hi ⟨t3, t4, rfl, kp, hq3⟩ ⟨rfl, hx⟩
      rw [List.getElem?_map] at hx
      obtain ⟨t, ht, rfl⟩ := Option.map_eq_some_iff.mp hx
      obtain ⟨r, hr, hy⟩ := LiI.paired_get hts ht
      have mr := List.mem_of_getElem? hr
      obtain ⟨x, hx1, ex⟩ := hR.key r mr
      obtain ⟨key, v⟩ := r
      have ex' : key = .inr x := ex
      subst ex'
      refine ⟨t, _, rfl, SqT.of (kp t _ hy fun z => by rw [z, hq] at hy; cases hy), rfl, _, _, rfl, _, _, rfl, rfl, ?_⟩
      refine ⟨_, rfl, a, dx, _, rfl, kp a _ ha nqa, rfl, _, rfl, _, rfl, a, q, bv, _, x, v, rfl, ⟨dx, kp a _ ha nqa, hq3⟩, ?_, lab_len hx1, (hR.val _ mr).to (KI.keep hq kp), ?_⟩
      · have z := merge_len (more.take i) kvs
        rw [List.length_take] at z
        omega
      · refine ⟨some (.str x), some v, rfl, kp.trans L2.Keep.upd, ?_⟩
        rw [upd_same]
        exact congrArg (fun l => some (HO.dK l)) (merge_take hr).symm
    · rintro σ H' ⟨t3, t4, rfl, kp, hq3⟩
      rw [List.length_map, lt, List.take_length] at hq3
      exact k H' kp hq3
end
end Kh

set_option Elab.async false
set_option linter.all false
set_option maxRecDepth 100000
set_option maxHeartbeats 2000000
/-! VxZt: tuple(zip(t, u)) of two tuples. -/
namespace VxZt
open PySem RZ PySem.W PyProof.Rows
section
variable {prog : Program} {w : World} {A : Around} {E : Value → Shared → Prop} {s : Shared}
theorem item_held {z TI TO T i1 i2 l1 l2 : Addr} {f : Bool} {oT : Obj} {k1 k2 : Nat} {xs ys : Array Value} {x y : Value} {Q : Value → Shared → Prop} (D : ZipApart z TI TO i1 i2 l1 l2)
    (hz : IsZipHeld s.heap z TI TO T f) (hT : s.heap.get? T = some oT) (hTI : IsPair s.heap TI (.ref i1) (.ref i2))
    (h1 : s.heap.IsTupleIter i1 l1 k1) (h2 : s.heap.IsTupleIter i2 l2 k2) (hl1 : s.heap.IsTuple l1 xs) (hl2 : s.heap.IsTuple l2 ys) (hx : xs[k1]? = some x) (hy : ys[k2]? = some y)
    (hQ : ∀ h', IsZipHeld h' z TI TO T true → h'.IsTupleIter i1 l1 (k1 + 1) → h'.IsTupleIter i2 l2 (k2 + 1) → IsPair h' s.heap.objs.size x y → h'.objs.size = s.heap.objs.size + 1 →
      (∀ c o, c ≠ z → c ≠ i1 → c ≠ i2 → s.heap.get? c = some o → h'.get? c = some o) → Q (.ref s.heap.objs.size) { s with heap := h' }) :
    wpAny (model prog w) A (Builtin.«zip.__next__» ⟨[.ref z], []⟩) (fun fin s' => ∃ v, fin = .done (.ret v) ∧ Q v s') E s := by
  show wpAny _ _ (field (.ref z) 2 >>= _) _ _ _
  refine wpAny_bind (wpAny_field hz rfl (x := .bool false) rfl ?_)
  show wpAny _ _ (field (.ref z) 3 >>= _) _ _ _
  refine wpAny_bind (wpAny_field hz rfl (x := .ref TI) rfl (wpAny_bind (wpAny_seqItems hTI rfl ?_)))
  show wpAny _ _ (Builtin.SmallTypes.ownedTupleIsFree (.ref z) >>= _) _ _ _
  refine wpAny_bind (wpAny_tupleHeld_zip hz hT fun h₁ hz₁ hs₁ => ?_)
  simp only [Bool.false_eq_true, if_false]
  refine wpAny_bind ?_
  rw [← Array.forIn_toList]
  simp only [List.forIn_cons, List.forIn_nil]
  refine wpAny_bind (wpAny_bind (wpAny_holding ?_))
  show wpAny _ _ (Builtin.SmallTypes.nextOf (.ref i1) >>= _) _ _ _
  refine wpAny_bind (nextOf_tuple_item (s := { s with heap := h₁ }) (h1.extBut hs₁.extBut D.i1z) (hl1.extBut hs₁.extBut D.l1z) hx fun h₂ h1₂ hs₂ => wpAny_pure (wpAny_pure ?_))
  refine wpAny_bind (wpAny_bind (wpAny_holding ?_))
  show wpAny _ _ (Builtin.SmallTypes.nextOf (.ref i2) >>= _) _ _ _
  refine wpAny_bind (nextOf_tuple_item (s := { s with heap := h₂ }) ((h2.extBut hs₁.extBut D.i2z).extBut hs₂.extBut D.i12.symm) ((hl2.extBut hs₁.extBut D.l2z).extBut hs₂.extBut D.l2i1) hy fun h₃ h2₃ hs₃ => wpAny_pure (wpAny_pure (wpAny_pure ?_)))
  show wpAny _ _ (newTuple [x, y] >>= _) _ _ _
  refine wpAny_bind (wpAny_newTuple (wpAny_pure ⟨_, rfl, ?_⟩))
  have size3 : h₃.objs.size = s.heap.objs.size := by rw [hs₃.1, hs₂.1, hs₁.1]
  have zip3 : IsZipHeld h₃ z TI TO T true := hs₃.extBut _ _ D.i2z.symm (hs₂.extBut _ _ D.i1z.symm hz₁)
  have stay : ∀ c o, c ≠ z → c ≠ i1 → c ≠ i2 → s.heap.get? c = some o → h₃.get? c = some o := fun c o c1 c2 c3 e => hs₃.extBut _ _ c3 (hs₂.extBut _ _ c2 (hs₁.extBut _ _ c1 e))
  have it1 : h₃.IsTupleIter i1 l1 (k1 + 1) := h1₂.extBut hs₃.extBut D.i12
  show Q (.ref h₃.objs.size) _
  have pair : IsPair (h₃.push { cls := .type "tuple", data := .seq #[x, y] }) h₃.objs.size x y := Heap.get?_push_size _ rfl
  have size4 : (h₃.push { cls := .type "tuple", data := .seq #[x, y] }).objs.size = h₃.objs.size + 1 := Heap.size_push ..
  rw [size3] at pair size4 ⊢
  exact hQ _ (Heap.get?_push_of_some _ zip3) (it1.at fun o e => Heap.get?_push_of_some _ e) (h2₃.at fun o e => Heap.get?_push_of_some _ e) pair size4 fun c o c1 c2 c3 e => Heap.get?_push_of_some _ (stay c o c1 c2 c3 e)
theorem end_held {z TI TO T i1 i2 l1 l2 : Addr} {f : Bool} {oT : Obj} {k1 k2 : Nat} {xs ys : Array Value} {Q : Fin → Shared → Prop} (hh : A.handled = none) (D : ZipApart z TI TO i1 i2 l1 l2)
    (hz : IsZipHeld s.heap z TI TO T f) (hT : s.heap.get? T = some oT) (hTI : IsPair s.heap TI (.ref i1) (.ref i2))
    (h1 : s.heap.IsTupleIter i1 l1 k1) (h2 : s.heap.IsTupleIter i2 l2 k2) (hl1 : s.heap.IsTuple l1 xs) (hl2 : s.heap.IsTuple l2 ys) (hend : xs[k1]? = none ∨ ys[k2]? = none)
    (hE : ∀ h' e, (∀ c o, c ≠ z → c ≠ i1 → c ≠ i2 → s.heap.get? c = some o → h'.get? c = some o) → (∃ o, h'.get? e = some o ∧ o.cls = .type "StopIteration") → E (.ref e) { s with heap := h' }) :
    wpAny (model prog w) A (Builtin.«zip.__next__» ⟨[.ref z], []⟩) Q E s := by
  show wpAny _ _ (field (.ref z) 2 >>= _) _ _ _
  refine wpAny_bind (wpAny_field hz rfl (x := .bool false) rfl ?_)
  show wpAny _ _ (field (.ref z) 3 >>= _) _ _ _
  refine wpAny_bind (wpAny_field hz rfl (x := .ref TI) rfl (wpAny_bind (wpAny_seqItems hTI rfl ?_)))
  show wpAny _ _ (Builtin.SmallTypes.ownedTupleIsFree (.ref z) >>= _) _ _ _
  refine wpAny_bind (wpAny_tupleHeld_zip hz hT fun h₁ hz₁ hs₁ => ?_)
  simp only [Bool.false_eq_true, if_false]
  refine wpAny_bind ?_
  rw [← Array.forIn_toList]
  simp only [List.forIn_cons, List.forIn_nil]
  refine wpAny_bind (wpAny_bind (wpAny_holding ?_))
  show wpAny _ _ (Builtin.SmallTypes.nextOf (.ref i1) >>= _) _ _ _
  cases hx : xs[k1]? with
  | none =>
    refine wpAny_bind (nextOf_tuple_end (s := { s with heap := h₁ }) hh (h1.extBut hs₁.extBut D.i1z) (hl1.extBut hs₁.extBut D.l1z) hx fun h₂ e hs₂ he => ?_)
    exact hE h₂ e (fun c o c1 c2 _ x => hs₂ _ _ c2 (hs₁.extBut _ _ c1 x)) he
  | some x =>
    have hy : ys[k2]? = none := by rcases hend with h | h; rw [hx] at h; cases h; exact h
    refine wpAny_bind (nextOf_tuple_item (s := { s with heap := h₁ }) (h1.extBut hs₁.extBut D.i1z) (hl1.extBut hs₁.extBut D.l1z) hx fun h₂ h1₂ hs₂ => wpAny_pure (wpAny_pure ?_))
    refine wpAny_bind (wpAny_bind (wpAny_holding ?_))
    show wpAny _ _ (Builtin.SmallTypes.nextOf (.ref i2) >>= _) _ _ _
    refine wpAny_bind (nextOf_tuple_end (s := { s with heap := h₂ }) hh ((h2.extBut hs₁.extBut D.i2z).extBut hs₂.extBut D.i12.symm) ((hl2.extBut hs₁.extBut D.l2z).extBut hs₂.extBut D.l2i1) hy fun h₃ e hs₃ he => ?_)
    exact hE h₃ e (fun c o c1 c2 c3 x => hs₃ _ _ c3 (hs₂.extBut _ _ c2 (hs₁.extBut _ _ c1 x))) he
theorem next_held {z TI TO T i1 i2 l1 l2 : Addr} {f : Bool} {oT : Obj} {k1 k2 : Nat} {xs ys : Array Value} {x y : Value} {Q : Option Value → Shared → Prop} (D : ZipApart z TI TO i1 i2 l1 l2)
    (hz : IsZipHeld s.heap z TI TO T f) (hT : s.heap.get? T = some oT) (hTI : IsPair s.heap TI (.ref i1) (.ref i2))
    (h1 : s.heap.IsTupleIter i1 l1 k1) (h2 : s.heap.IsTupleIter i2 l2 k2) (hl1 : s.heap.IsTuple l1 xs) (hl2 : s.heap.IsTuple l2 ys) (hx : xs[k1]? = some x) (hy : ys[k2]? = some y)
    (hQ : ∀ h', IsZipHeld h' z TI TO T true → h'.IsTupleIter i1 l1 (k1 + 1) → h'.IsTupleIter i2 l2 (k2 + 1) → IsPair h' s.heap.objs.size x y → h'.objs.size = s.heap.objs.size + 1 →
      (∀ c o, c ≠ z → c ≠ i1 → c ≠ i2 → s.heap.get? c = some o → h'.get? c = some o) → Q (some (.ref s.heap.objs.size)) { s with heap := h' }) :
    wpAny (model prog w) A (pyNext (.ref z)) Q E s := by
  have ty : s.TypeIs (.ref z) "zip" := ⟨_, hz, rfl⟩
  unfold pyNext
  exact wpAny_bind (wpAny_attempt (wpAny_callSpecial?_slot (name := Str.ofString "__next__") ty F.slot_zip_next (wpAny_call_entry F.slot_zip_next ty F.entry_zip_next
      (item_held D hz hT hTI h1 h2 hl1 hl2 hx hy fun h' a1 a3 a4 a5 a6 a7 => wpAny_pure (hQ h' a1 a3 a4 a5 a6 a7)) (F.args_zip_next_1 _))))
theorem stop_held {z TI TO T i1 i2 l1 l2 : Addr} {f : Bool} {oT : Obj} {k1 k2 : Nat} {xs ys : Array Value} {Q : Option Value → Shared → Prop} (hh : A.handled = none) (D : ZipApart z TI TO i1 i2 l1 l2)
    (hz : IsZipHeld s.heap z TI TO T f) (hT : s.heap.get? T = some oT) (hTI : IsPair s.heap TI (.ref i1) (.ref i2))
    (h1 : s.heap.IsTupleIter i1 l1 k1) (h2 : s.heap.IsTupleIter i2 l2 k2) (hl1 : s.heap.IsTuple l1 xs) (hl2 : s.heap.IsTuple l2 ys) (hend : xs[k1]? = none ∨ ys[k2]? = none)
    (hQ : ∀ h', (∀ c o, c ≠ z → c ≠ i1 → c ≠ i2 → s.heap.get? c = some o → h'.get? c = some o) → Q none { s with heap := h' }) : wpAny (model prog w) A (pyNext (.ref z)) Q E s := by
  have ty : s.TypeIs (.ref z) "zip" := ⟨_, hz, rfl⟩
  unfold pyNext
  refine wpAny_bind (wpAny_attempt (wpAny_callSpecial?_slot (name := Str.ofString "__next__") ty F.slot_zip_next (wpAny_call_entry F.slot_zip_next ty F.entry_zip_next (end_held hh D hz hT hTI h1 h2 hl1 hl2 hend fun h' e hk he => ?_) (F.args_zip_next_1 _))))
  obtain ⟨o, ho, hc⟩ := he
  exact wpAny_bind (wpAny_isInstance (T := "StopIteration") (b := true) ⟨o, ho, hc⟩ isSubtype_stop (wpAny_pure (hQ _ hk)))
end
/-- the zip at z, i turns done; S stands apart -/
def ZS (h : Heap) (z TI TO i1 i2 l1 l2 S : Addr) (xs ys : Array Value) (i : Nat) : Prop :=
  IsPair h TI (.ref i1) (.ref i2) ∧ h.IsTupleIter i1 l1 i ∧ h.IsTupleIter i2 l2 i ∧ h.IsTuple l1 xs ∧ h.IsTuple l2 ys ∧
    ((IsZip h z TI TO .none ∧ ∃ a b, IsPair h TO a b) ∨ ∃ T f oT, IsZipHeld h z TI TO T f ∧ h.get? T = some oT ∧ T ≠ z ∧ T ≠ i1 ∧ T ≠ i2 ∧ T ≠ S)
structure Off (z TI TO i1 i2 l1 l2 S : Addr) : Prop where
  D : ZipApart z TI TO i1 i2 l1 l2
  z : z ≠ S
  ti : TI ≠ S
  to : TO ≠ S
  a : i1 ≠ S
  b : i2 ≠ S
  c : l1 ≠ S
  d : l2 ≠ S
section
variable {z TI TO i1 i2 l1 l2 S : Addr} {xs ys : Array Value} {i : Nat} {h h' : Heap}
theorem ZS.keep (st : ZS h z TI TO i1 i2 l1 l2 S xs ys i) (O : Off z TI TO i1 i2 l1 l2 S) (hk : ∀ b o, b ≠ S → h.get? b = some o → h'.get? b = some o) : ZS h' z TI TO i1 i2 l1 l2 S xs ys i := by
  obtain ⟨hTI, h1, h2, hl1, hl2, hz⟩ := st
  refine ⟨hk _ _ O.ti hTI, h1.at fun o e => hk _ o O.a e, h2.at fun o e => hk _ o O.b e, hl1.at fun o e => hk _ o O.c e, hl2.at fun o e => hk _ o O.d e, ?_⟩
  rcases hz with ⟨hz, a, b, hTO⟩ | ⟨T, f, oT, hz, hT, r1, r2, r3, r4⟩
  · exact .inl ⟨hk _ _ O.z hz, a, b, hk _ _ O.to hTO⟩
  · exact .inr ⟨T, f, oT, hk _ _ O.z hz, hk _ _ r4 hT, r1, r2, r3, r4⟩
end
section
variable {prog : Program} {w : World} {A : Around} {E : Value → Shared → Prop} {s : Shared} {z TI TO i1 i2 l1 l2 S : Addr} {xs ys : Array Value} {i : Nat}
/-- what a turn writes to -/
def Wr (z TO i1 i2 b : Addr) : Prop := b = z ∨ b = TO ∨ b = i1 ∨ b = i2
theorem zs_item {x y : Value} {Q : Option Value → Shared → Prop} (O : Off z TI TO i1 i2 l1 l2 S) (hS : S < s.heap.objs.size) (st : ZS s.heap z TI TO i1 i2 l1 l2 S xs ys i) (hx : xs[i]? = some x) (hy : ys[i]? = some y)
    (hQ : ∀ h', ZS h' z TI TO i1 i2 l1 l2 S xs ys (i + 1) → h'.get? s.heap.objs.size = some { cls := .type "tuple", data := .seq #[x, y] } → h'.objs.size = s.heap.objs.size + 1 →
      (∀ b o, ¬ Wr z TO i1 i2 b → s.heap.get? b = some o → h'.get? b = some o) → Q (some (.ref s.heap.objs.size)) { s with heap := h' }) : wpAny (model prog w) A (pyNext (.ref z)) Q E s := by
  obtain ⟨hTI, h1, h2, hl1, hl2, hz⟩ := st
  have D := O.D
  have lt : ∀ {c o}, s.heap.get? c = some o → s.heap.objs.size ≠ c := fun e => Nat.ne_of_gt (Heap.lt_size e)
  have n1 : s.heap.objs.size ≠ i1 := let ⟨_, e, _⟩ := h1; lt e
  have n2 : s.heap.objs.size ≠ i2 := let ⟨_, e, _⟩ := h2; lt e
  rcases hz with ⟨hz, a, b, hTO⟩ | ⟨T, f, oT, hz, hT, r1, r2, r3, r4⟩
  · refine pyNext_zipT_item D hz hTI hTO h1 h2 hl1 hl2 hx hy fun h' a1 a2 a3 a4 a5 a6 hk => ?_
    refine hQ h' ⟨hk _ _ D.TIz D.TITO D.TIi1 D.TIi2 hTI, a3, a4, hl1.at fun o e => hk _ o D.l1z D.l1TO D.l1i1 D.l1i2 e, hl2.at fun o e => hk _ o D.l2z D.l2TO D.l2i1 D.l2i2 e, .inr ⟨s.heap.objs.size, false, _, a1, a5, lt hz, n1, n2, Nat.ne_of_gt hS⟩⟩ a5 a6 fun c o hc e => ?_
    exact hk c o (fun x => hc (.inl x)) (fun x => hc (.inr (.inl x))) (fun x => hc (.inr (.inr (.inl x)))) (fun x => hc (.inr (.inr (.inr x)))) e
  · refine next_held D hz hT hTI h1 h2 hl1 hl2 hx hy fun h' a1 a3 a4 a5 a6 hk => ?_
    refine hQ h' ⟨hk _ _ D.TIz D.TIi1 D.TIi2 hTI, a3, a4, hl1.at fun o e => hk _ o D.l1z D.l1i1 D.l1i2 e, hl2.at fun o e => hk _ o D.l2z D.l2i1 D.l2i2 e, .inr ⟨T, true, oT, a1, hk _ _ r1 r2 r3 hT, r1, r2, r3, r4⟩⟩ a5 a6 fun c o hc e => ?_
    exact hk c o (fun x => hc (.inl x)) (fun x => hc (.inr (.inr (.inl x)))) (fun x => hc (.inr (.inr (.inr x)))) e
theorem zs_done {Q : Option Value → Shared → Prop} (hh : A.handled = none) (O : Off z TI TO i1 i2 l1 l2 S) (st : ZS s.heap z TI TO i1 i2 l1 l2 S xs ys i) (hx : xs[i]? = none ∨ ys[i]? = none)
    (hQ : ∀ h', (∀ b o, ¬ Wr z TO i1 i2 b → s.heap.get? b = some o → h'.get? b = some o) → Q none { s with heap := h' }) : wpAny (model prog w) A (pyNext (.ref z)) Q E s := by
  obtain ⟨hTI, h1, h2, hl1, hl2, hz⟩ := st
  rcases hz with ⟨hz, a, b, hTO⟩ | ⟨T, f, oT, hz, hT, r1, r2, r3, r4⟩
  · exact pyNext_zipT_end hh O.D hz hTI hTO h1 h2 hl1 hl2 hx fun h' hk => hQ h' fun c o hc e => hk c o (fun x => hc (.inl x)) (fun x => hc (.inr (.inl x))) (fun x => hc (.inr (.inr (.inl x)))) (fun x => hc (.inr (.inr (.inr x)))) e
  · exact stop_held hh O.D hz hT hTI h1 h2 hl1 hl2 hx fun h' hk => hQ h' fun c o hc e => hk c o (fun x => hc (.inl x)) (fun x => hc (.inr (.inr (.inl x)))) (fun x => hc (.inr (.inr (.inr x)))) e
end
/-- the pairs handed out so far -/
structure ZG (xs ys : Array Value) (lo : Addr) (h : Heap) (as : List Addr) : Prop where
  rise : as.Pairwise (· < ·)
  above : ∀ a ∈ as, lo < a
  pairs : ∀ (j : Nat) (a : Addr), as[j]? = some a → ∃ x y, xs[j]? = some x ∧ ys[j]? = some y ∧ h.get? a = some { cls := .type "tuple", data := .seq #[x, y] }
theorem ZG.there {xs ys : Array Value} {lo : Addr} {h : Heap} {as : List Addr} (g : ZG xs ys lo h as) {a : Addr} (ha : a ∈ as) : a < h.objs.size := by
  obtain ⟨j, hj⟩ := List.mem_iff_getElem?.mp ha
  obtain ⟨_, _, _, _, e⟩ := g.pairs j a hj
  exact Heap.lt_size e
end VxZt

set_option Elab.async false
set_option linter.all false
set_option maxRecDepth 100000
set_option maxHeartbeats 2000000
/-! VxZu: tuple(zip(t, u)), on. -/
namespace VxZt
open PySem RZ PySem.W PyProof.Rows
section
variable {prog : Program} {w : World} {A : Around} {s : Shared} {R : Result → Shared → Prop} {z TI TO i1 i2 l1 l2 S : Addr} {xs ys : Array Value}
/-- what stands apart from list and zip -/
def Apt (z TO i1 i2 S b : Addr) : Prop := b ≠ S ∧ ¬ Wr z TO i1 i2 b
theorem zt_loop (hh : A.handled = none) (O : Off z TI TO i1 i2 l1 l2 S) (lo : Addr) (hlz : z ≤ lo) (hlT : TO ≤ lo) (hl1 : i1 ≤ lo) (hl2 : i2 ≤ lo) (hlS : S ≤ lo) (hn : xs.size ≤ sizeLine) (he : ys.size = xs.size) (res : Value) {h₁ : Heap}
    (hR : ∀ h' tk acc c as, (∀ b o, Apt z TO i1 i2 S b → h₁.get? b = some o → h'.get? b = some o) → h'.get? S = some { cls := .type "list", dict := none, data := .seq acc c, slots := #[] } → as.length = xs.size → ZG xs ys lo h' as →
      acc.toList = as.map Value.ref → R (.ok (.ret res)) { s with heap := h', toks := tk }) :
    ∀ (k i : Nat) (h : Heap) (tk c : Nat) (acc : Array Value) (as : List Addr), xs.size - i = k → i ≤ xs.size → ZS h z TI TO i1 i2 l1 l2 S xs ys i → (∀ b o, Apt z TO i1 i2 S b → h₁.get? b = some o → h.get? b = some o) →
      h.get? S = some { cls := .type "list", dict := none, data := .seq acc c, slots := #[] } → acc.toList = as.map Value.ref → as.length = i → ZG xs ys lo h as → lo < h.objs.size →
      codeAny (model prog w) A (.builtin "list.extend.loop" ⟨[.ref S, .ref z, res], []⟩) R { s with heap := h, toks := tk } := by
  have nS : ¬ Wr z TO i1 i2 S := fun y => by
    rcases y with y | y | y | y
    · exact O.z y.symm
    · exact O.to y.symm
    · exact O.a y.symm
    · exact O.b y.symm
  have nA : ∀ {b}, lo < b → ¬ Wr z TO i1 i2 b := fun {b} hb y => by
    rcases y with y | y | y | y
    · exact absurd (y ▸ hb) (Nat.not_lt.mpr hlz)
    · exact absurd (y ▸ hb) (Nat.not_lt.mpr hlT)
    · exact absurd (y ▸ hb) (Nat.not_lt.mpr hl1)
    · exact absurd (y ▸ hb) (Nat.not_lt.mpr hl2)
  intro k
  induction k with
  | zero =>
    intro i h tk c acc as hk hi st hkeep hS hacc hal hG hIs
    have hin : i = xs.size := by omega
    refine codeAny_builtin PySem.F.entry_extend_loop ?_
    rw [Around.under_plainId PySem.F.plain_extend_loop _]
    show wpAny _ A.in1 (pyNext (.ref z) >>= _) _ _ _
    refine wpAny_bind (zs_done (s := { s with heap := h, toks := tk }) (A := A.in1) hh O st (.inl (by rw [hin]; exact Array.getElem?_eq_none (Nat.le_refl _))) fun h' ke => ?_)
    refine wpAny_pure (hR h' tk acc c as (fun b o hb e => ke b o hb.2 (hkeep b o hb e)) (ke S _ nS hS) (by omega) ⟨hG.rise, hG.above, fun j a hj => ?_⟩ hacc)
    obtain ⟨x, y, e1, e2, e3⟩ := hG.pairs j a hj
    exact ⟨x, y, e1, e2, ke a _ (nA (hG.above a (List.mem_of_getElem? hj))) e3⟩
  | succ k ih =>
    intro i h tk c acc as hk hi st hkeep hS hacc hal hG hIs
    have hlt : i < xs.size := by omega
    have hx := Array.getElem?_eq_getElem hlt
    have hy := Array.getElem?_eq_getElem (show i < ys.size by omega)
    have hsz : acc.size = i := by rw [← Array.length_toList, hacc, List.length_map, hal]
    refine codeAny_builtin PySem.F.entry_extend_loop ?_
    rw [Around.under_plainId PySem.F.plain_extend_loop _]
    show wpAny _ A.in1 (pyNext (.ref z) >>= _) _ _ _
    refine wpAny_bind (zs_item (s := { s with heap := h, toks := tk }) (S := S) O (Heap.lt_size hS) st hx hy fun h' st' ht hz hkp => ?_)
    dsimp only at ht hz hkp ⊢
    have hS' := hkp S _ nS hS
    have up : ∀ b o, b ≠ S → h'.get? b = some o → (h'.update S (Obj.mapSeq (·.push (Value.ref h.objs.size)))).get? b = some o := fun b o hb e => (Heap.get?_update_other _ _ (Ne.symm hb)).trans e
    have hSl : S < h.objs.size := Heap.lt_size hS
    show wpAny _ A.in1 (updateSeq S (·.push (Value.ref h.objs.size)) >>= _) _ _ _
    refine wpAny_bind ?_
    refine wpAny_updateSeq hS' rfl (wpAny_pure ⟨plainId_quiet PySem.F.plain_extend_loop _, ih (i + 1) _ tk _ (acc.push (Value.ref h.objs.size)) (as ++ [h.objs.size]) (by omega) hlt (st'.keep O up)
      (fun b o hb e => up b o hb.1 (hkp b o hb.2 (hkeep b o hb e))) (Heap.get?_update_self _ hS' rfl) (by rw [Array.toList_push, hacc, List.map_append]; rfl) (by rw [List.length_append, hal]; rfl) ⟨?_, ?_, ?_⟩ ?_⟩) (by rw [hsz]; omega) (by show (acc.push (Value.ref h.objs.size)).size ≤ sizeLine + 1; rw [Array.size_push, hsz]; omega)
    · refine List.pairwise_append.mpr ⟨hG.rise, List.pairwise_singleton _ _, fun a ha b hb => ?_⟩
      rw [List.mem_singleton.mp hb]
      exact hG.there ha
    · intro a ha
      rcases List.mem_append.mp ha with ha | ha
      · exact hG.above a ha
      · rw [List.mem_singleton.mp ha]; exact hIs
    · intro j b hj
      rcases Nat.lt_trichotomy j as.length with h1 | h1 | h1
      · rw [List.getElem?_append_left h1] at hj
        obtain ⟨x', y', e1, e2, e3⟩ := hG.pairs j b hj
        have hb := hG.above b (List.mem_of_getElem? hj)
        exact ⟨x', y', e1, e2, up b _ (Nat.ne_of_gt (Nat.lt_of_le_of_lt hlS hb)) (hkp b _ (nA hb) e3)⟩
      · subst h1
        have hb : h.objs.size = b := by simpa using hj
        subst hb
        exact ⟨_, _, by rw [hal]; exact hx, by rw [hal]; exact hy, up _ _ (Nat.ne_of_gt hSl) ht⟩
      · have hnone : (as ++ [h.objs.size])[j]? = none := List.getElem?_eq_none (by rw [List.length_append, List.length_singleton]; omega)
        rw [hnone] at hj; cases hj
    · have e : (h'.update S (Obj.mapSeq (·.push (Value.ref h.objs.size)))).get? h.objs.size = _ := up _ _ (Nat.ne_of_gt hSl) ht
      exact Nat.lt_trans hIs (Heap.lt_size e)
end
theorem zip_nolen : typeLookup (.type "zip") "__len__" = pure none := by rw [typeLookup_type, builtinLookup_eq_fast]; kernel_rfl
theorem zip_nohint : typeLookup (.type "zip") "__length_hint__" = pure none := by rw [typeLookup_type, builtinLookup_eq_fast]; kernel_rfl
section
variable {prog : Program} {w : World} {A : Around} {E : Value → Shared → Prop} {s : Shared} {z TI TO i1 i2 l1 l2 : Addr} {xs ys : Array Value}
theorem zip_hint (hT : s.TypeIs (.ref z) "zip") {Q : Bool → Shared → Prop} (h : Q true s) : wpAny (model prog w) A (Builtin.List.listLengthHint (.ref z)) Q E s := by
  unfold Builtin.List.listLengthHint
  refine wpAny_bind (wpAny_specialOf hT zip_nolen ?_)
  refine wpAny_ite_split (fun hab => absurd hab (by decide)) (fun _ => ?_)
  refine wpAny_ite_split (fun hab => absurd hab (by decide)) (fun _ => ?_)
  first
    | exact wpAny_bind (wpAny_specialOf hT zip_nohint (wpAny_pure h))
    | exact wpAny_bind (wpAny_pure (wpAny_bind (wpAny_specialOf hT zip_nohint (wpAny_pure h))))
theorem zt_extend {S : Addr} {R : Result → Shared → Prop} (hh : A.handled = none) (O : Off z TI TO i1 i2 l1 l2 S) (hSs : S < s.heap.objs.size) (lo : Addr) (hlz : z ≤ lo) (hlT : TO ≤ lo) (hl1 : i1 ≤ lo) (hl2 : i2 ≤ lo) (hlS : S ≤ lo) (hls : lo < s.heap.objs.size) (hn : xs.size ≤ sizeLine) (he : ys.size = xs.size)
    (st : ZS s.heap z TI TO i1 i2 l1 l2 S xs ys 0) (hz : IsZip s.heap z TI TO .none) (res : Value) (c₀ : Nat) (hS : s.heap.get? S = some { cls := .type "list", data := .seq #[] c₀ })
    (hR : ∀ h' tk acc c as, (∀ b o, Apt z TO i1 i2 S b → s.heap.get? b = some o → h'.get? b = some o) → h'.get? S = some { cls := .type "list", dict := none, data := .seq acc c, slots := #[] } → as.length = xs.size → ZG xs ys lo h' as →
      acc.toList = as.map Value.ref → R (.ok (.ret res)) { s with heap := h', toks := tk }) :
    wpAny (model prog w) A.in1 (Builtin.List.listExtendWith (.ref S) (.ref z) res)
      (fun fin s' => match fin with | .done f => R (.ok f) s' | .again c' => c'.quiet = true ∧ codeAny (model prog w) A c' R s') (fun e s' => R (.error e) s') s := by
  have hT : s.TypeIs (.ref z) "zip" := ⟨_, hz, rfl⟩
  have key : ∀ (h : Heap) (c₁ tk : Nat), (∀ b o, b ≠ S → s.heap.get? b = some o → h.get? b = some o) → h.get? S = some { cls := .type "list", data := .seq #[] c₁ } → h.objs.size = s.heap.objs.size →
      codeAny (model prog w) A (.builtin "list.extend.loop" ⟨[.ref S, .ref z, res], []⟩) R { s with heap := h, toks := tk } := by
    intro h c₁ tk hk hS₁ hsz
    exact zt_loop (s := s) (h₁ := s.heap) hh O lo hlz hlT hl1 hl2 hlS hn he res hR xs.size 0 h tk c₁ #[] [] (Nat.sub_zero _) (Nat.zero_le _) (st.keep O hk) (fun b o hb e => hk b o hb.1 e) hS₁ rfl rfl
      ⟨List.Pairwise.nil, (fun _ ha => nomatch ha), (fun j a hj => by simp at hj)⟩ (by rw [hsz]; exact hls)
  unfold Builtin.List.listExtendWith
  refine wpAny_bind (wpAny_typeOf (T := "zip") hT ?_)
  have h1 : Builtin.List.listSameRef (.ref S) (.ref z) = false := by simp [Builtin.List.listSameRef, O.z.symm]
  have h2 : (Value.type "zip" == Value.type "list") = false := by decide
  have h3 : (Value.type "zip" == Value.type "tuple") = false := by decide
  simp only [h1, h2, h3, Bool.or_false, Bool.false_eq_true, if_false]
  refine wpAny_bind (wpAny_pyIter_zip hz ?_)
  refine wpAny_bind (wpAny_holding (zip_hint hT ?_))
  refine wpAny_ite_split (fun _ => ?_) (fun _ => wpAny_pure ⟨plainId_quiet PySem.F.plain_extend_loop _, key _ c₀ _ (fun b o _ e => e) hS rfl⟩)
  refine wpAny_bind (wpAny_rule ?_)
  refine wpAny_bind ?_
  show wpAny _ _ (updateSeq S (·.push .none) >>= fun _ => updateSeq S (·.pop)) _ _ _
  refine wpAny_bind (wpAny_updateSeq hS rfl ?_)
  have hS₂ := Heap.get?_update_self (Obj.mapSeq (·.push Value.none)) hS rfl
  refine wpAny_updateSeq (hz := by seq_fits) hS₂ rfl ?_
  have hS₃ := Heap.get?_update_self (Obj.mapSeq (·.pop)) hS₂ rfl
  refine wpAny_pure ⟨plainId_quiet PySem.F.plain_extend_loop _, key _ _ _ (fun b o hb e => ?_) hS₃ (by rw [Heap.size_update, Heap.size_update])⟩
  exact (Heap.get?_update_other _ _ (Ne.symm hb)).trans ((Heap.get?_update_other _ _ (Ne.symm hb)).trans e)
theorem zt_collect {R : List Value → Shared → Prop} (hh : A.handled = none) (D : ZipApart z TI TO i1 i2 l1 l2) (hz : IsZip s.heap z TI TO .none) (hTI : IsPair s.heap TI (.ref i1) (.ref i2)) {a b : Value} (hTO : IsPair s.heap TO a b)
    (h1 : s.heap.IsTupleIter i1 l1 0) (h2 : s.heap.IsTupleIter i2 l2 0) (hl1 : s.heap.IsTuple l1 xs) (hl2 : s.heap.IsTuple l2 ys) (hn : xs.size ≤ sizeLine) (he : ys.size = xs.size)
    (h : ∀ (h' : Heap) (tk : Nat) (as : List Addr), (∀ b o, ¬ Wr z TO i1 i2 b → s.heap.get? b = some o → h'.get? b = some o) → as.length = xs.size → ZG xs ys s.heap.objs.size h' as → R (as.map Value.ref) { s with heap := h', toks := tk }) :
    wpAny (model prog w) A (collect (.ref z)) R E s := by
  have lt : ∀ {c o}, s.heap.get? c = some o → c < s.heap.objs.size := fun e => Heap.lt_size e
  have zl := lt hz
  have tl := lt hTI
  have ol := lt hTO
  have al : i1 < s.heap.objs.size := let ⟨_, e, _⟩ := h1; lt e
  have bl : i2 < s.heap.objs.size := let ⟨_, e, _⟩ := h2; lt e
  have cl : l1 < s.heap.objs.size := let ⟨_, e, _⟩ := hl1; lt e
  have dl : l2 < s.heap.objs.size := let ⟨_, e, _⟩ := hl2; lt e
  have O : Off z TI TO i1 i2 l1 l2 s.heap.objs.size := ⟨D, Nat.ne_of_lt zl, Nat.ne_of_lt tl, Nat.ne_of_lt ol, Nat.ne_of_lt al, Nat.ne_of_lt bl, Nat.ne_of_lt cl, Nat.ne_of_lt dl⟩
  unfold collect
  refine wpAny_bind (wpAny_runValue (codeAny_builtin entry_proto_collect' ?_))
  rw [Around.under_plainId PySem.F.plain_proto_collect _]
  show wpAny _ A.in1 (newList [] >>= fun l => again (.builtin "list.__iadd__" ⟨[l, .ref z], []⟩)) _ _ s
  refine wpAny_bind (wpAny_newObj_type ?_)
  refine wpAny_pure ⟨plainId_quiet PySem.F.plain_list_iadd _, codeAny_builtin entry_list_iadd' ?_⟩
  rw [Around.under_plainId PySem.F.plain_list_iadd _]
  have hS₁ : (s.heap.push { cls := .type "list", data := .seq ([] : List Value).toArray }).get? s.heap.objs.size = some { cls := .type "list", data := .seq #[] } := Heap.get?_push_size _ rfl
  have up : ∀ {c o}, s.heap.get? c = some o → (s.heap.push { cls := .type "list", data := .seq ([] : List Value).toArray }).get? c = some o := fun e => Heap.get?_push_of_some _ e
  have hsz : (s.heap.push { cls := .type "list", data := .seq ([] : List Value).toArray }).objs.size = s.heap.objs.size + 1 := Heap.size_push ..
  show wpAny _ A.in1 (Builtin.List.listExtendWith (.ref s.heap.objs.size) (.ref z) (.ref s.heap.objs.size)) _ _ _
  have key := zt_extend (prog := prog) (w := w) (A := A) (s := { s with heap := s.heap.push { cls := .type "list", data := .seq ([] : List Value).toArray } }) (z := z) (TI := TI) (TO := TO) (i1 := i1) (i2 := i2) (l1 := l1) (l2 := l2) (xs := xs) (ys := ys) (S := s.heap.objs.size)
    (R := fun (q : Result) (s' : Shared) => ∃ (h' : Heap) (tk : Nat) (acc' : Array Value) (c' : Nat) (as : List Addr), q = .ok (.ret (.ref s.heap.objs.size)) ∧ s' = { s with heap := h', toks := tk } ∧
      (∀ b o, ¬ Wr z TO i1 i2 b → s.heap.get? b = some o → h'.get? b = some o) ∧ h'.get? s.heap.objs.size = some { cls := .type "list", dict := none, data := .seq acc' c', slots := #[] } ∧ as.length = xs.size ∧ ZG xs ys s.heap.objs.size h' as ∧ acc'.toList = as.map Value.ref)
    hh O (by show s.heap.objs.size < (s.heap.push _).objs.size; rw [hsz]; exact Nat.lt_succ_self _) s.heap.objs.size (Nat.le_of_lt zl) (Nat.le_of_lt ol) (Nat.le_of_lt al) (Nat.le_of_lt bl) (Nat.le_refl _) (by show s.heap.objs.size < (s.heap.push _).objs.size; rw [hsz]; exact Nat.lt_succ_self _) hn he
    ⟨up hTI, h1.at fun o e => up e, h2.at fun o e => up e, hl1.at fun o e => up e, hl2.at fun o e => up e, .inl ⟨up hz, a, b, up hTO⟩⟩ (up hz) (.ref s.heap.objs.size) 0 hS₁
    (fun h' tk acc' c' as hk hS' hl hG hacc => ⟨h', tk, acc', c', as, rfl, rfl, fun b o nb e => hk b o ⟨Nat.ne_of_lt (lt e), nb⟩ (up e), hS', hl, hG, hacc⟩)
  refine wpAny_mono key (fun fin s' x => ?_) fun e s' x => ?_
  · cases fin with
    | done f =>
      obtain ⟨h', tk, acc', c', as, e, rfl, hk, hS', hl, hG, hacc⟩ := x
      cases e
      show wpAny _ A (load s.heap.objs.size >>= _) _ _ _
      refine wpAny_bind (wpAny_load hS' (wpAny_pure ?_))
      show R acc'.toList _
      rw [hacc]
      exact h h' tk as hk hl hG
    | again c₁ =>
      refine ⟨x.1, codeAny_mono x.2 fun q s₂ y => ?_⟩
      obtain ⟨h', tk, acc', c', as, rfl, rfl, hk, hS', hl, hG, hacc⟩ := y
      show wpAny _ A (load s.heap.objs.size >>= _) _ _ _
      refine wpAny_bind (wpAny_load hS' (wpAny_pure ?_))
      show R acc'.toList _
      rw [hacc]
      exact h h' tk as hk hl hG
  · obtain ⟨_, _, _, _, _, e', _⟩ := x
    cases e'
end
open AutoSeq1 (wpAny_loadPart')
theorem tuple_new_zip {prog : Program} {w : World} (z TI TO i1 i2 l1 l2 : Addr) (xs ys : Array Value) (D : ZipApart z TI TO i1 i2 l1 l2) (hn : xs.size ≤ sizeLine) (he : ys.size = xs.size) :
    MeetsIn prog w (Builtin.«tuple.__new__» ⟨[.type "tuple", .ref z], []⟩) (fun A R s => A.handled = none ∧ IsZip s.heap z TI TO .none ∧ IsPair s.heap TI (.ref i1) (.ref i2) ∧ (∃ a b, IsPair s.heap TO a b) ∧ s.heap.IsTupleIter i1 l1 0 ∧ s.heap.IsTupleIter i2 l2 0 ∧ s.heap.IsTuple l1 xs ∧ s.heap.IsTuple l2 ys ∧
      ∀ (h' : Heap) (tk : Nat) (as : List Addr), (∀ b o, ¬ Wr z TO i1 i2 b → s.heap.get? b = some o → h'.get? b = some o) → as.length = xs.size → ZG xs ys s.heap.objs.size h' as →
        R (.ok (.ret (.ref h'.objs.size))) { s with heap := h'.push { cls := .type "tuple", data := .seq (as.map Value.ref).toArray }, toks := tk }) :=
  .of_wp fun A R s h => by
    obtain ⟨hp, g, dr, tk0, os⟩ := s
    obtain ⟨hh, hz, hTI, ⟨a, b, hTO⟩, h1, h2, hl1, hl2, h⟩ := h
    have hsub := sub_tuple_self
    have hinit := init_tuple_lookup
    have hmh := madeHere_tuple
    have hT : Shared.TypeIs ⟨hp, g, dr, tk0, os⟩ (.ref z) "zip" := ⟨_, hz, rfl⟩
    have hh1 : A.in1.handled = none := hh
    have key : ∀ {R' : List Value → Shared → Prop} {E' : Value → Shared → Prop}, (∀ (h' : Heap) (tk : Nat) (as : List Addr), (∀ b o, ¬ Wr z TO i1 i2 b → hp.get? b = some o → h'.get? b = some o) → as.length = xs.size → ZG xs ys hp.objs.size h' as → R' (as.map Value.ref) ⟨h', g, dr, tk, os⟩) →
        wpAny (model prog w) A.in1 (collect (.ref z)) R' E' ⟨hp, g, dr, tk0, os⟩ := fun h => zt_collect (s := ⟨hp, g, dr, tk0, os⟩) hh1 D hz hTI hTO h1 h2 hl1 hl2 hn he h
    wp_walk using wpAny_typeOf hT, key
    intro h' tk as hk hl hG
    show wpAny _ _ (Builtin.Tuple.tupleExact (as.map Value.ref).toArray >>= fun v => ret v) _ _ _
    unfold Builtin.Tuple.tupleExact
    refine wpAny_bind (wpAny_newObj_type ?_ (by show (as.map Value.ref).toArray.size ≤ sizeLine; rw [List.size_toArray, List.length_map, hl]; exact hn))
    exact wpAny_pure ⟨_, rfl, h h' tk as hk hl hG⟩
theorem call_tuple_zip {prog : Program} {w : World} {A : Around} {E : Value → Shared → Prop} {s : Shared} {z TI TO i1 i2 l1 l2 : Addr} {xs ys : Array Value} {Q : Value → Shared → Prop} (D : ZipApart z TI TO i1 i2 l1 l2) (hn : xs.size ≤ sizeLine) (he : ys.size = xs.size)
    (hh : A.handled = none) (hz : IsZip s.heap z TI TO .none) (hTI : IsPair s.heap TI (.ref i1) (.ref i2)) (hTO : ∃ a b, IsPair s.heap TO a b) (h1 : s.heap.IsTupleIter i1 l1 0) (h2 : s.heap.IsTupleIter i2 l2 0) (hl1 : s.heap.IsTuple l1 xs) (hl2 : s.heap.IsTuple l2 ys)
    (h : ∀ (h' : Heap) (tk : Nat) (as : List Addr), (∀ b o, ¬ Wr z TO i1 i2 b → s.heap.get? b = some o → h'.get? b = some o) → as.length = xs.size → ZG xs ys s.heap.objs.size h' as → Q (.ref h'.objs.size) { s with heap := h'.push { cls := .type "tuple", data := .seq (as.map Value.ref).toArray }, toks := tk }) :
    wpAny (model prog w) A (call (.type "tuple") [.ref z]) Q E s :=
  callType_newIn F.called_tuple (by decide) (F.typeCall_tuple_1 _) (F.newCall_tuple_1 _) (fun obj => F.args_object_init_2 obj _) F.entry_tuple_new
    (tuple_new_zip z TI TO i1 i2 l1 l2 xs ys D hn he) ⟨hh, hz, hTI, hTO, h1, h2, hl1, hl2, fun h' tk as hk hl hG => ⟨⟨_, Heap.get?_push_size _ rfl, rfl⟩, h h' tk as hk hl hG⟩⟩
end VxZt

set_option Elab.async false
set_option linter.all false
set_option maxRecDepth 100000
set_option maxHeartbeats 2000000
/-! VxZv: tuple(zip(t, u)): the rule. -/
namespace L2
open PySem PySem.Spec PyProof.Rows
def laidP : Hp → List Addr → List (V × V) → Hp
  | H, a :: as, p :: ps => laidP (upd H a (.tup [p.1, p.2])) as ps
  | H, _, _ => H
theorem laidP_off {b : Addr} : ∀ (as : List Addr) (ps : List (V × V)) (H : Hp), b ∉ as → laidP H as ps b = H b
  | [], _, _, _ => rfl
  | _ :: _, [], _, _ => rfl
  | a :: as, p :: ps, H, h => by
    show laidP (upd H a (.tup [p.1, p.2])) as ps b = H b
    rw [laidP_off as ps _ (fun z => h (List.mem_cons_of_mem _ z)), upd_ne (fun z => h (by rw [z]; exact List.mem_cons_self))]
theorem laidP_at : ∀ (as : List Addr) (ps : List (V × V)) (H : Hp), as.length = ps.length → as.Nodup → Paired (fun (t : Addr) (p : V × V) => laidP H as ps t = some (.tup [p.1, p.2])) as ps
  | [], [], _, _, _ => .nil
  | [], _ :: _, _, h, _ => by cases h
  | _ :: _, [], _, h, _ => by cases h
  | a :: as, p :: ps, H, h, hn => by
    have hn' := List.nodup_cons.mp hn
    have ih := laidP_at as ps (upd H a (.tup [p.1, p.2])) (Nat.succ.inj h) hn'.2
    refine .cons ?_ ih
    show laidP (upd H a (.tup [p.1, p.2])) as ps a = some (.tup [p.1, p.2])
    rw [laidP_off as ps _ hn'.1, upd_same]
/-- tuple(zip(t, u)): new pairs in a new tuple -/
def rTupZip (K : PySem.W.Frag) : List V → Hp → VK → Prop := fun vs H Q => ∃ (a b : Addr) (xs ys : List V), vs = [.ref a, .ref b] ∧ SqT K H a xs ∧ SqT K H b ys ∧ ys.length = xs.length ∧
  ∀ (H' : Hp) (p : Addr) (ts : List Addr), Same H H' → H p = none → (∀ t ∈ ts, H t = none) → H' p = some (.tup (ts.map V.ref)) → Paired (fun (t : Addr) (q : V × V) => H' t = some (.tup [q.1, q.2])) ts (xs.zip ys) → Q (.ref p) H'
section
variable {X : Cx}
theorem pairs_laid {pins : List (Addr × Obj)} {σ : L2.St} {H : Hp} {s : Shared} {h' : Heap} {tk : Nat} {xs ys : List V} {us ws : List Value} {as : List Addr} {lo : Addr} (I : Inv X pins σ H s) (hz : xs.length ≤ sizeLine) (rx : Vals xs us) (ry : Vals ys ws) (he : ys.length = xs.length)
    (hk : ∀ b o, s.heap.get? b = some o → h'.get? b = some o) (hl : as.length = us.length) (hG : VxZt.ZG us.toArray ws.toArray lo h' as) (le0 : s.heap.objs.size ≤ lo) (le : s.heap.objs.size ≤ h'.objs.size) :
    ∃ H' : Hp, Same H H' ∧ H h'.objs.size = none ∧ (∀ t ∈ as, H t = none) ∧ H' h'.objs.size = some (.tup (as.map V.ref)) ∧ Paired (fun (t : Addr) (q : V × V) => H' t = some (.tup [q.1, q.2])) as (xs.zip ys) ∧
      Inv X pins σ H' { s with heap := h'.push { cls := .type "tuple", data := .seq (as.map Value.ref).toArray }, toks := tk } := by
  have lx : xs.length = us.length := rx.length
  have lz : (xs.zip ys).length = xs.length := by rw [List.length_zip, he, Nat.min_self]
  have hSn : h'.objs.size ∉ as := fun z => Nat.lt_irrefl _ (hG.there z)
  have nd : as.Nodup := List.Pairwise.imp (fun {a b} (h : a < b) => Nat.ne_of_lt h) hG.rise
  have abv : ∀ t ∈ as, s.heap.objs.size ≤ t := fun t ht => Nat.le_trans le0 (Nat.le_of_lt (hG.above t ht))
  have new : ∀ t ∈ as, H t = none := fun t ht => I.hok.fresh (abv t ht)
  have newS : H h'.objs.size = none := I.hok.fresh le
  have atP := laidP_at as (xs.zip ys) (upd H h'.objs.size (.tup (as.map V.ref))) (by omega) nd
  have off : ∀ b, b ∉ as → b ≠ h'.objs.size → laidP (upd H h'.objs.size (.tup (as.map V.ref))) as (xs.zip ys) b = H b := fun b h1 h2 => by rw [laidP_off as _ _ h1, upd_ne h2]
  have low : ∀ b o, s.heap.get? b = some o → b ∉ as ∧ b ≠ h'.objs.size := fun b o e => ⟨fun z => absurd (Heap.lt_size e) (Nat.not_lt.mpr (abv b z)), fun z => absurd (Heap.lt_size e) (Nat.not_lt.mpr (by rw [z]; exact le))⟩
  have kp : ∀ b u, H b = some u → (laidP (upd H h'.objs.size (.tup (as.map V.ref))) as (xs.zip ys)) b = some u := fun b u e => by
    rw [off b (fun z => by rw [new b z] at e; cases e) (fun z => by rw [z, newS] at e; cases e)]
    exact e
  have eS : laidP (upd H h'.objs.size (.tup (as.map V.ref))) as (xs.zip ys) h'.objs.size = some (.tup (as.map V.ref)) := by rw [laidP_off as _ _ hSn, upd_same]
  have hk2 : ∀ b o, s.heap.get? b = some o → (h'.push { cls := .type "tuple", data := .seq (as.map Value.ref).toArray }).get? b = some o := fun b o e => Heap.get?_push_of_some _ (hk b o e)
  refine ⟨laidP (upd H h'.objs.size (.tup (as.map V.ref))) as (xs.zip ys), kp, newS, new, eS, atP, ?_⟩
  refine I.call' (ch := []) rfl ⟨fun b o q _ _ _ => hk2 b o q, fun b o q _ _ _ => ⟨o.slots, hk2 b o q⟩, fun b o q n _ => ?_, fun b o q _ => ⟨o, hk2 b o q⟩, fun b xs q => kp b _ q, fun b o u q => kp b _ q, fun b ps q => ⟨#[], by rw [kp b _ q]; simp⟩⟩ (fun b u q => ?_) I.bare fun b z => by simp at z
  · obtain ⟨z1, z2⟩ := low b o q
    rw [off b z1 z2]
    exact n
  · by_cases hb : b ∈ as
    · obtain ⟨j, pk, e1, e2, e3⟩ := LiI.paired_ix atP hb
      rw [e3] at q
      cases q
      obtain ⟨x, y, f1, f2, f3⟩ := hG.pairs j b e1
      rw [List.getElem?_zip_eq_some] at e2
      obtain ⟨g1, g2⟩ := e2
      obtain ⟨u, hu, ru⟩ := rx.get g1
      obtain ⟨v, hv, rv⟩ := ry.get g2
      have e4 : x = u := by
        have : us[j]? = some x := by simpa using f1
        rw [hu] at this
        exact (Option.some.inj this).symm
      have e5 : y = v := by
        have : ws[j]? = some y := by simpa using f2
        rw [hv] at this
        exact (Option.some.inj this).symm
      subst e4 e5
      exact ⟨by show 2 ≤ sizeLine; decide, [x, y], .cons ru (.cons rv .nil), ⟨_, Heap.get?_push_of_some _ f3, rfl, _, rfl⟩⟩
    · by_cases hb2 : b = h'.objs.size
      · rw [hb2] at q ⊢
        rw [eS] at q
        cases q
        refine ⟨by rw [List.length_map]; omega, as.map Value.ref, LiI.vals_refs as, ?_⟩
        exact ⟨_, Heap.get?_push_size _ rfl, rfl, _, rfl⟩
      · rw [off b hb hb2] at q
        exact (I.hok b u q).stay (fun d v _ y => hk2 d v y) (fun d y => kp d _ y) fun d xs y => kp d _ y
/-- tuple(zip(e, e2)) -/
theorem pe_tupZip {e e2 : Expr} {ta : TA} {p p2 cpos pos : Pos} (hc : X.calm = true) (ha : PA X [e, e2] ta) (hg : Gl X "tuple") (hm : X.mg "tuple" = none) (hv : bootBuiltins "tuple" = some (.type "tuple")) (hg2 : Gl X "zip") (hm2 : X.mg "zip" = none)
    (hs : starEach [.Call (.Name "zip" p2) [e, e2] [] cpos] X.env = (false, eval (.Call (.Name "zip" p2) [e, e2] [] cpos) X.env) :: starEach [] X.env := by rfl)
    (hs2 : starEach [e, e2] X.env = (false, eval e X.env) :: starEach [e2] X.env := by rfl) (hpl : (backTo cpos (starEach [e2] X.env)).any (·.1) = false := by rfl) :
    PE X (.Call (.Name "tuple" p) [.Call (.Name "zip" p2) [e, e2] [] cpos] [] pos) (fun σ H Q => ta σ H fun vs H1 => rTupZip X.K vs H1 Q) := by
  refine ⟨fun pins s σ H Q I hq => ?_⟩
  refine wpAny_Call_Name_kw (ld_blt I hg hm hv ?_)
  refine PyProof.Rows.callWith_type1 ?_ hs rfl
  rw [hs]
  show wpAny _ _ (spliced ((false, eval (.Call (.Name "zip" p2) [e, e2] [] cpos) X.env) :: backTo pos (starEach [] X.env))) _ _ s
  refine Calls.spliced_cons ?_
  refine wpAny_Call_Name_kw (ld_blt I hg2 hm2 PyProof.Rows.boot_zip ?_)
  refine PyProof.Rows.callWith_type1 (thn (ha.run cpos pins s σ H _ I hq) fun us s1 hh => ?_) hs2 hpl
  obtain ⟨vs, H1, I1, r1, a, b, xs, ys, rfl, hx, hy, hl, q⟩ := hh
  cases r1 with
  | cons r rr =>
    cases rr with
    | cons r' rr =>
      cases rr
      cases r
      cases r'
      obtain ⟨its, rv, p1, hz1⟩ := I1.tuple hx
      obtain ⟨its2, rv2, p2, _⟩ := I1.tuple hy
      obtain ⟨o1, ho1, _⟩ := id p1
      obtain ⟨o2, ho2, _⟩ := id p2
      refine RZ.call_zipT (show s1.heap.IsTuple a its.toArray from p1) (show s1.heap.IsTuple b its2.toArray from p2) fun h' hz hTI hTO h1 h2 hsz hk => ?_
      have I2 : Inv X pins σ H1 { s1 with heap := h' } := I1.kept (t' := s1.toks) hk
      refine Calls.spliced_nil ?_
      have e1 := rv.length
      have e2 := rv2.length
      have t1 : h'.IsTuple a its.toArray := (show s1.heap.IsTuple a its.toArray from p1).at fun o e => hk _ o e
      have t2 : h'.IsTuple b its2.toArray := (show s1.heap.IsTuple b its2.toArray from p2).at fun o e => hk _ o e
      refine VxZt.call_tuple_zip (s := { s1 with heap := h' }) (PySem.W.ktu_apart s1.heap.objs.size a b (Heap.lt_size ho1) (Heap.lt_size ho2)) (by rw [List.size_toArray]; omega) (by rw [List.size_toArray, List.size_toArray]; omega) (I1.ok.hd hc) hz hTI ⟨_, _, hTO⟩ h1 h2 t1 t2 fun h2' tk as hk2 hl2 hG => ?_
      have hk3 : ∀ c o, s1.heap.get? c = some o → h2'.get? c = some o := fun c o e => hk2 c o (fun y => by
        have cl := Heap.lt_size e
        rcases y with y | y | y | y
        · rw [y] at cl; exact absurd cl (Nat.not_lt.mpr (Nat.le_add_right _ _))
        · rw [y] at cl; exact absurd cl (Nat.not_lt.mpr (Nat.le_add_right _ _))
        · rw [y] at cl; exact Nat.lt_irrefl _ cl
        · rw [y] at cl; exact absurd cl (Nat.not_lt.mpr (Nat.le_add_right _ _))) (hk c o e)
      have tin : h'.get? (s1.heap.objs.size + 2) = some _ := hTI
      have le : s1.heap.objs.size ≤ h2'.objs.size := by
        have z := hk2 _ _ (fun y => by
          rcases y with y | y | y | y
          · exact nomatch Nat.add_left_cancel y
          · exact nomatch Nat.add_left_cancel y
          · exact nomatch Nat.add_left_cancel (show s1.heap.objs.size + 2 = s1.heap.objs.size + 0 from y)
          · exact nomatch Nat.add_left_cancel y) tin
        exact Nat.le_trans (Nat.le_add_right _ _) (Nat.le_of_lt (Heap.lt_size z))
      obtain ⟨H', k1, k2, k3, k4, k5, J⟩ := pairs_laid (tk := tk) I1 (by omega) rv rv2 (by omega) hk3 (by rw [hl2, List.size_toArray]) hG (by show s1.heap.objs.size ≤ h'.objs.size; omega) le
      exact ⟨.ref _, H', J, rfl, q H' _ as k1 k2 k3 k4 k5⟩
end
end L2

set_option Elab.async false
set_option linter.all false
set_option maxRecDepth 100000
set_option maxHeartbeats 4000000
namespace Kh
open PySem PySem.Spec PyProof.Rows L2 StX ClX
/-! ### the hooks: made -/
abbrev sLabs : Stmt := top 51
abbrev sFI : Stmt := inClass (top 46) 0
abbrev sFC : Stmt := inClass (top 46) 1
abbrev sSI : Stmt := inClass (top 47) 0
abbrev sSC : Stmt := inClass (top 47) 1
abbrev sPI : Stmt := inClass (top 48) 0
abbrev sPC : Stmt := inClass (top 48) 1
abbrev sWC : Stmt := inClass (top 49) 0
abbrev sXC : Stmt := inClass (top 50) 0
abbrev CF (K : PySem.W.Frag) : Addr := gC K "Fields"
abbrev CS (K : PySem.W.Frag) : Addr := gC K "Single"
abbrev CP (K : PySem.W.Frag) : Addr := gC K "Parts"
abbrev CW (K : PySem.W.Frag) : Addr := gC K "Whole"
abbrev CX_ (K : PySem.W.Frag) : Addr := gC K "Refill"
theorem scLabs : FnScope ["labels", "taken", "label"] ["labels"] (defScope sLabs) := ⟨rfl, rfl, rfl, by decide +kernel, rfl, by decide +kernel, by decide +kernel⟩
theorem scFI : FnScope ["self", "brand", "labels"] ((["self", "brand"] : List Str) ++ (["labels"] : List Str)) (defScope sFI) := ⟨rfl, rfl, rfl, by decide +kernel, rfl, by decide +kernel, by decide +kernel⟩
theorem scPI : FnScope ["self", "labels"] ((["self"] : List Str) ++ (["labels"] : List Str)) (defScope sPI) := ⟨rfl, rfl, rfl, by decide +kernel, rfl, by decide +kernel, by decide +kernel⟩
theorem scSI : FnScope ["self", "thing"] ["self", "thing"] (defScope sSI) := ⟨rfl, rfl, rfl, by decide +kernel, rfl, by decide +kernel, by decide +kernel⟩
/-- words: labels, each once -/
structure Wds (ws : List Str) : Prop where
  lab : ∀ x ∈ ws, x ∈ LABS
  nd : ws.Nodup
  len : ws.length ≤ 5
def spLabs (K : PySem.W.Frag) : Sp := fun vs H Q _ => ∃ (t : Addr) (ws : List Str), vs = [.ref t] ∧ SqT K H t (ws.map V.str) ∧ Wds ws ∧ ∀ H', Same H H' → Q .non H'
def spFI (K : PySem.W.Frag) : Sp := fun vs H Q _ => ∃ (a dx : Addr) (x : Str) (ws : List Str) (H0 : Hp), vs = .ref a :: .str x :: ws.map V.str ∧ H a = some (.ins (CF K) dx []) ∧ H0 a = none ∧ Same H0 H ∧ freeB (.str x) = true ∧ x.length ≤ 100 ∧ Wds ws ∧
  ∀ t H', Same H0 H' → H' a = some (.ins (CF K) dx [("_brand", .str x), ("_labels", .ref t)]) → H' t = some (.tup (ws.map V.str)) → Q .non H'
def spFIT (K : PySem.W.Frag) : Sp := fun vs H Q _ => ∃ (a t dx : Addr) (x : Str) (ws : List Str) (H0 : Hp), vs = [.ref a, .str x, .ref t] ∧ H t = some (.tup (ws.map V.str)) ∧ H a = some (.ins (CF K) dx []) ∧ H0 a = none ∧ Same H0 H ∧ freeB (.str x) = true ∧ x.length ≤ 100 ∧ Wds ws ∧
  ∀ H', Same H0 H' → H' a = some (.ins (CF K) dx [("_brand", .str x), ("_labels", .ref t)]) → H' t = some (.tup (ws.map V.str)) → Q .non H'
def spPI (K : PySem.W.Frag) : Sp := fun vs H Q _ => ∃ (a dx : Addr) (ws : List Str) (H0 : Hp), vs = .ref a :: ws.map V.str ∧ H a = some (.ins (CP K) dx []) ∧ H0 a = none ∧ Same H0 H ∧ Wds ws ∧
  ∀ t H', Same H0 H' → H' a = some (.ins (CP K) dx [("_labels", .ref t)]) → H' t = some (.tup (ws.map V.str)) → Q .non H'
def spPIT (K : PySem.W.Frag) : Sp := fun vs H Q _ => ∃ (a t dx : Addr) (ws : List Str) (H0 : Hp), vs = [.ref a, .ref t] ∧ H t = some (.tup (ws.map V.str)) ∧ H a = some (.ins (CP K) dx []) ∧ H0 a = none ∧ Same H0 H ∧ Wds ws ∧
  ∀ H', Same H0 H' → H' a = some (.ins (CP K) dx [("_labels", .ref t)]) → H' t = some (.tup (ws.map V.str)) → Q .non H'
def spSI (K : PySem.W.Frag) : Sp := fun vs H Q _ => ∃ (a dx m dx2 : Addr) (fs : List (Str × V)) (H0 : Hp), vs = [.ref a, .ref m] ∧ H a = some (.ins (CS K) dx []) ∧ H0 a = none ∧ Same H0 H ∧ H0 m = some (.ins (CT K) dx2 fs) ∧ ∀ H', Same H0 H' → H' a = some (.ins (CS K) dx [("_thing", .ref m)]) → Q .non H'
/-- isinstance(o, D), o an object of the program's -/
def rIsC (K : PySem.W.Frag) (CN : Addr) : List V → Hp → VK → Prop := fun xs H Q => ∃ (a C D dx : Addr) (fs : List (Str × V)) (b : Bool), xs = [.ref a, .ref D] ∧ NodC K CN C ∧ H a = some (.ins C dx fs) ∧ PySem.W.kitOne K (.ref C) (.ref D) = some b ∧ Q (.bl b) H
theorem call_isC {X : Cx} {CN : Addr} : CallR X (.builtin "isinstance") (rIsC X.K CN) := by
  intro pins s σ H xs us Q I r h
  obtain ⟨a, C, D, dx, fs, b, rfl, n, ha, e, q⟩ := h
  exact call_isi pins s σ H _ us Q I r ⟨.ref a, .ref D, _, .ref D, _, rfl, .own D, n.ty ha, e, q⟩
/-- the classes of the hooks -/
structure HkC (K : PySem.W.Frag) (mg : Str → Option Value) : Prop where
  fc : Cls K (CF K)
  fb : NoAttr K (CF K) "_brand"
  fl : NoAttr K (CF K) "_labels"
  fm : mg "Fields" = some (.ref (CF K))
  sc : Cls K (CS K)
  st : NoAttr K (CS K) "_thing"
  sm : mg "Single" = some (.ref (CS K))
  pc : Cls K (CP K)
  pl : NoAttr K (CP K) "_labels"
  pm : mg "Parts" = some (.ref (CP K))
  wh : Bare K (CW K)
  wm : mg "Whole" = some (.ref (CW K))
  rf : Bare K (CX_ K)
  rm : mg "Refill" = some (.ref (CX_ K))
  labs : ∃ f fd, FnP K "require_labels" sLabs f fd ∧ mg "require_labels" = some (.ref f)
  tn : NodC K (CN K) (CT K)
  tk : PySem.W.kitOne K (.ref (CT K)) (.ref (CT K)) = some true
  tm : mg "Thing" = some (.ref (CT K))
  bn : NodC K (CN K) (CB K)
  bk : PySem.W.kitOne K (.ref (CB K)) (.ref (CB K)) = some true
  bm : mg "Book" = some (.ref (CB K))
  rn : NodC K (CN K) (CR K)
  rwm : mg "Row" = some (.ref (CR K))
  tne : VxS.NeC K (CT K)
  rne : VxS.NeC K (CR K)
section
variable {P : Program} {w : World} {K : PySem.W.Frag} {mg : Str → Option Value} {base : Heap}
def tk_ (ws : List Str) : List (Key × V) := ws.map fun x => (.inr x, .bl true)
theorem tk_val {ws : List Str} {i : Nat} {x : Str} (nd : ws.Nodup) (e : ws[i]? = some x) : valV (tk_ (ws.take i)) (.inr x) = none := by
  have z := val_take (kvs := tk_ ws) (i := i) (r := (.inr x, .bl true)) (by
    unfold tk_
    rw [List.map_map]
    exact List.Pairwise.map _ (fun a b h z => h (by injection z)) nd) (by unfold tk_; rw [List.getElem?_map, e]; rfl)
  unfold tk_ at z ⊢
  rw [List.map_take]
  exact z
theorem ok_labs {f : Addr} {fd : FuncData} (F : FnP K "require_labels" sLabs f fd) (N : Nm K mg) (T : Ts K mg) : FnOk P w K mg base CX0 2 f fd ["labels"] (spLabs K) := by
  obtain ⟨fk, dk, FK, gK⟩ := T.isT
  have GK : FnOk P w K mg base CX0 1 fk dk ["thing"] (spTest K isT false) := ok_isText FK N
  have bK : Binds K dk ["thing"] [] := FK.bindsN fun _ _ _ _ _ _ us hl => match us, hl with | [_], _ => rfl
  refine F.ok scLabs (fun vs H Q E h => ?_) (fun cdv A outer s H vs Q E hr h => ?_)
  · obtain ⟨t, ws, rfl, _⟩ := h
    rfl
  · have hu := hu_of hr
    refine ⟨_, PSs.nox (pss_cons (ps_set (i := 1) scLabs.nd rfl (Or.inl rfl) pe_dnewK) (pss_one (ps_for PassesOwn.never rfl (pi_tup (pv 0)) (pg_name (i := 2) scLabs.nd rfl (Or.inl rfl))
      (pss_cons (ps_if (PW.pt (pw_or (pt_not (pt_val (pe_call GK hr (by rfl) gK FK.kp bK .nil pass0 (pa_cons (pv 2) pa_nil)))) (pw_or1 (pt_cmp (pc_din hu (pv 2) (pv 1)))))) pss_dead pss_nil)
      (pss_one (ps_dput hu (pv 1) (pv 2) pe_bl rfl)))))), ?_⟩
    obtain ⟨t, ws, rfl, ht, W, k⟩ := h
    intro q nq
    have s0 := same_new (o := .dK []) nq
    refine ⟨_, rfl, t, rfl, ⟨_, sqT_to s0 ht⟩, for_it (walk_tup (K := K) (a := t) (xs := ws.map V.str)) (fun i σ H' => ∃ t2 : Option V, σ = [some (.ref t), some (.ref q), t2] ∧ Same H H' ∧ H' q = some (.dK (tk_ (ws.take i)))) ⟨none, rfl, s0, by rw [List.take_zero]; exact upd_same⟩ (fun i σ H' _ z => ?_) ?_ ?_⟩
    · obtain ⟨_, _, s1, _⟩ := z
      exact sqT_to s1 ht
    · rintro i y σ H' H'' hi ⟨t2, rfl, s1, hq⟩ ⟨rfl, hx⟩
      rw [List.getElem?_map] at hx
      obtain ⟨x, ex, rfl⟩ := Option.map_eq_some_iff.mp hx
      have lx := lab_len (W.lab x (List.mem_of_getElem? ex))
      have e1 : onT isT false (.dat (.str x)) = true := isT_str lx
      refine ⟨_, rfl, .str x, .dat (.str x), rfl, Sd.str x, fit_str lx, _, rfl, ?_⟩
      rw [e1]
      have z := DGet.k (k := .inr x) hq
      rw [tk_val W.nd ex] at z
      refine iteF ⟨_, rfl, _, rfl, q, _, rfl, z, _, rfl, iteF ?_⟩
      refine ⟨_, rfl, _, rfl, q, _, rfl, DPut.k (k := .inr x) hq ?_, some (.str x), rfl, same_updN s1 nq, ?_⟩
      · have : (tk_ (ws.take i)).length ≤ 5 := by
          unfold tk_
          rw [List.length_map, List.length_take]
          have := W.len
          omega
        exact Nat.lt_of_le_of_lt this (by decide)
      · rw [upd_same, putK_new _ (tk_val W.nd ex), List.take_add_one, ex]
        unfold tk_
        rw [List.map_append]
        rfl
    · rintro σ H' ⟨t2, rfl, s1, hq⟩
      exact k H' s1
theorem ok_fi {f : Addr} {fd : FuncData} (C : HkC K mg) (F : FnM K "__init__" "Fields.__init__" sFI [] f fd) (N : Nm K mg) (T : Ts K mg) (R : Rq K mg) : FnR P w K mg base CX0 4 f (spFI K) := by
  obtain ⟨fb, db, FB, gB⟩ := R.free
  have GB : FnOk P w K mg base CX0 2 fb db ["thing"] (spBrand K freeB) := ok_free FB N R.brand
  have bB : Binds K db ["thing"] [] := FB.bindsN fun _ _ _ _ _ _ us hl => match us, hl with | [_], _ => rfl
  obtain ⟨fl, dl, FL, gL⟩ := C.labs
  have GL : FnOk P w K mg base CX0 2 fl dl ["labels"] (spLabs K) := ok_labs FL N T
  have bL : Binds K dl ["labels"] [] := FL.bindsN fun _ _ _ _ _ _ us hl => match us, hl with | [_], _ => rfl
  obtain ⟨oc, od, dV, kV', doc, pm, an, cdv, ct, osl, rfl, lk, hcd, hD, hK⟩ := F.ex
  obtain rfl : dV = .none := hD.elim (fun z => z.2) fun z => absurd rfl z.1
  have R := fn_star (P := P) (w := w) (mg := mg) (base := base) (CX := CX0) (k := 3) (ps := ["self", "brand"]) (pv := "labels") lk hcd scFI cxUp_none (fun us rest hl => ?bind) (sp := spFIT K) fun A outer s H vs Q E hr h => ?body
  case bind =>
    match us, hl with
    | [u, v], _ => exact bind_star2 (B := fun us => bindArgs (PySem.W.fnOf "__init__" "Fields.__init__" (defArgs sFI) (defBody sFI) (defScope sFI) .none kV' doc pm an cdv ct) ⟨us, []⟩) (fun _ _ => rfl) (fun _ _ _ _ => rfl) [u, v] rest rfl
  case body =>
    refine ⟨_, PSs.nox (pss_cons (ps_if (pt_not (pt_val (pe_call GB (hr.mono (by decide)) (by rfl) gB FB.kp bB .nil pass0 (pa_cons (pv 1) pa_nil)))) pss_dead pss_nil)
      (pss_cons (ps_expr (pe_call GL (hr.mono (by decide)) (by rfl) gL FL.kp bL .nil pass0 (pa_cons (pv 2) pa_nil)))
      (pss_cons (ps_fld (pv 0) (pv 1) (by rfl)) (pss_one (ps_fld (pv 0) (pv 2) (by rfl)))))), ?_⟩
    obtain ⟨a, t, dx, x, ws, H0, rfl, ht, ha, a0, s0, fx, lx, W, k⟩ := h
    refine ⟨_, rfl, .str x, .str x, rfl, Sd.str x, fit_str lx, fun H1 s1 => ⟨_, rfl, ?_⟩⟩
    rw [fx]
    refine iteF ⟨_, rfl, t, ws, rfl, SqT.of (s1 _ _ ht), W, fun H2 s2 => ?_⟩
    have s12 := s1.tr s2
    have nat : t ≠ a := ne_of ht ha (by intro z; cases z)
    refine ⟨_, rfl, _, rfl, a, _, dx, [], rfl, s12 _ _ ha, C.fc, C.fb, by decide, ?_⟩
    refine ⟨_, rfl, _, rfl, a, _, dx, [("_brand", .str x)], rfl, upd_same, C.fc, C.fl, (by show 1 < 1000; decide), ?_⟩
    exact k _ (same_updN (same_updN (s0.tr s12) a0) a0) upd_same (by rw [upd_ne nat, upd_ne nat]; exact s12 _ _ ht)
  intro A outer s H us vs Q E hr e0 r hsp
  obtain ⟨a, dx, x, ws, H0, rfl, ha, a0, s0, fx, lx, W, k⟩ := hsp
  refine R A outer s H us _ Q E hr e0 r ⟨[.ref a, .str x], ws.map V.str, rfl, rfl, by rw [List.length_map]; exact Nat.le_trans W.len (by decide), fun p np => ?_⟩
  have s1 := same_new (o := .tup (ws.map V.str)) np
  exact ⟨a, p, dx, x, ws, H0, rfl, upd_same, s1 _ _ ha, a0, s0.tr s1, fx, lx, W, k p⟩
theorem ok_pi {f : Addr} {fd : FuncData} (C : HkC K mg) (F : FnM K "__init__" "Parts.__init__" sPI [] f fd) (N : Nm K mg) (T : Ts K mg) : FnR P w K mg base CX0 3 f (spPI K) := by
  obtain ⟨fl, dl, FL, gL⟩ := C.labs
  have GL : FnOk P w K mg base CX0 2 fl dl ["labels"] (spLabs K) := ok_labs FL N T
  have bL : Binds K dl ["labels"] [] := FL.bindsN fun _ _ _ _ _ _ us hl => match us, hl with | [_], _ => rfl
  obtain ⟨oc, od, dV, kV', doc, pm, an, cdv, ct, osl, rfl, lk, hcd, hD, hK⟩ := F.ex
  obtain rfl : dV = .none := hD.elim (fun z => z.2) fun z => absurd rfl z.1
  have R := fn_star (P := P) (w := w) (mg := mg) (base := base) (CX := CX0) (k := 2) (ps := ["self"]) (pv := "labels") lk hcd scPI cxUp_none (fun us rest hl => ?bind) (sp := spPIT K) fun A outer s H vs Q E hr h => ?body
  case bind =>
    match us, hl with
    | [u], _ => exact bind_star1 (B := fun us => bindArgs (PySem.W.fnOf "__init__" "Parts.__init__" (defArgs sPI) (defBody sPI) (defScope sPI) .none kV' doc pm an cdv ct) ⟨us, []⟩) (fun _ => rfl) (fun _ _ _ => rfl) [u] rest rfl
  case body =>
    refine ⟨_, PSs.nox (pss_cons (ps_expr (pe_call GL (hr.mono (by decide)) (by rfl) gL FL.kp bL .nil pass0 (pa_cons (pv 1) pa_nil)))
      (pss_one (ps_fld (pv 0) (pv 1) (by rfl)))), ?_⟩
    obtain ⟨a, t, dx, ws, H0, rfl, ht, ha, a0, s0, W, k⟩ := h
    refine ⟨_, rfl, t, ws, rfl, SqT.of ht, W, fun H2 s2 => ?_⟩
    have nat : t ≠ a := ne_of ht ha (by intro z; cases z)
    refine ⟨_, rfl, _, rfl, a, _, dx, [], rfl, s2 _ _ ha, C.pc, C.pl, by decide, ?_⟩
    exact k _ (same_updN (s0.tr s2) a0) upd_same (by rw [upd_ne nat]; exact s2 _ _ ht)
  intro A outer s H us vs Q E hr e0 r hsp
  obtain ⟨a, dx, ws, H0, rfl, ha, a0, s0, W, k⟩ := hsp
  refine R A outer s H us _ Q E hr e0 r ⟨[.ref a], ws.map V.str, rfl, rfl, by rw [List.length_map]; exact Nat.le_trans W.len (by decide), fun p np => ?_⟩
  have s1 := same_new (o := .tup (ws.map V.str)) np
  exact ⟨a, p, dx, ws, H0, rfl, upd_same, s1 _ _ ha, a0, s0.tr s1, W, k p⟩
theorem ok_si {f : Addr} {fd : FuncData} (C : HkC K mg) (F : FnM K "__init__" "Single.__init__" sSI [] f fd) (N : Nm K mg) : FnOk P w K mg base CX0 1 f fd ["self", "thing"] (spSI K) := by
  refine F.ok scSI (fun vs H Q E h => ?_) (fun cdv A outer s H vs Q E hr h => ?_)
  · obtain ⟨a, dx, m, dx2, fs, H0, rfl, _⟩ := h
    rfl
  · refine ⟨_, PSs.nox (pss_cons (ps_if (pt_not (pt_val (pe_callB (call_isC (CN := CN K)) (by rfl) N.isi (by decide +kernel) (pa_cons (pv 1) (pa_cons (pe_glob (v := .ref (CT K)) (by rfl) C.tm rfl) pa_nil))))) pss_dead pss_nil)
      (pss_one (ps_fld (pv 0) (pv 1) (by rfl)))), ?_⟩
    obtain ⟨a, dx, m, dx2, fs, H0, rfl, ha, a0, s0, hm, k⟩ := h
    refine ⟨_, rfl, m, CT K, CT K, dx2, fs, true, rfl, C.tn, s0 _ _ hm, C.tk, _, rfl, iteF ?_⟩
    exact ⟨_, rfl, _, rfl, a, _, dx, [], rfl, ha, C.sc, C.st, by decide, k _ (same_updN s0 a0) upd_same⟩
end
end Kh

set_option Elab.async false
set_option linter.all false
set_option maxRecDepth 100000
set_option maxHeartbeats 4000000
namespace Kh
open PySem PySem.Spec PyProof.Rows L2 StX ClX
/-! ### the hooks: called -/
theorem scFC : FnScope ["self", "arguments", "thing"] ["self", "arguments"] (defScope sFC) := ⟨rfl, rfl, rfl, by decide +kernel, rfl, by decide +kernel, by decide +kernel⟩
theorem scSC : FnScope ["self", "arguments"] ["self", "arguments"] (defScope sSC) := ⟨rfl, rfl, rfl, by decide +kernel, rfl, by decide +kernel, by decide +kernel⟩
theorem scPC : FnScope ["self", "thing", "label"] ["self", "thing"] (defScope sPC) := ⟨rfl, rfl, rfl, by decide +kernel, rfl, by decide +kernel, by decide +kernel⟩
theorem scWC : FnScope ["self", "thing"] ["self", "thing"] (defScope sWC) := ⟨rfl, rfl, rfl, by decide +kernel, rfl, by decide +kernel, by decide +kernel⟩
theorem scXC : FnScope ["self", "thing", "state"] ["self", "thing", "state"] (defScope sXC) := ⟨rfl, rfl, rfl, by decide +kernel, rfl, by decide +kernel, by decide +kernel⟩
/-- labels and values, as pairs -/
def zk (ws : List Str) (vs : List V) : List (Key × V) := (ws.zip vs).map fun r => (.inr r.1, r.2)
theorem prs_zip {H : Hp} : ∀ {ts : List Addr} {ws : List Str} {vs : List V}, Paired (fun (t : Addr) (q : V × V) => H t = some (.tup [q.1, q.2])) ts ((ws.map V.str).zip vs) → Prs H ts (zk ws vs)
  | [], [], _, _ => .nil
  | [], _ :: _, [], _ => .nil
  | [], _ :: _, _ :: _, h => nomatch h
  | _ :: _, [], _, h => nomatch h
  | _ :: _, _ :: _, [], h => nomatch h
  | _ :: _, _ :: _, _ :: _, .cons h r => .cons h (prs_zip r)
theorem zk_len {ws : List Str} {vs : List V} (h : vs.length = ws.length) : (zk ws vs).length = ws.length := by
  unfold zk
  rw [List.length_map, List.length_zip, h, Nat.min_self]
theorem zk_keys {ws : List Str} {vs : List V} (h : vs.length = ws.length) : (zk ws vs).map (·.1) = ws.map (Sum.inr (α := Int)) := by
  unfold zk
  rw [List.map_map]
  have e : ((fun (x : Key × V) => x.1) ∘ fun (r : Str × V) => ((.inr r.1 : Key), r.2)) = (Sum.inr (α := Int)) ∘ Prod.fst := rfl
  rw [e, ← List.map_map, List.map_fst_zip (by omega)]
theorem inr_nodup {ws : List Str} (h : ws.Nodup) : (ws.map (Sum.inr (α := Int))).Nodup := List.Pairwise.map _ (fun a b h z => h (by injection z)) h
theorem zk_nodup {ws : List Str} {vs : List V} (h : vs.length = ws.length) (nd : ws.Nodup) : ((zk ws vs).map (·.1)).Nodup := by
  rw [zk_keys h]
  exact inr_nodup nd
theorem zk_rws {K : PySem.W.Frag} {H : Hp} {ws : List Str} {vs : List V} (l : ∀ x ∈ ws, x ∈ LABS) (v : ∀ y ∈ vs, Val K H y) : Rws K H (zk ws vs) := by
  refine ⟨fun r m => ?_, fun r m => ?_⟩
  · obtain ⟨p, hp, rfl⟩ := List.mem_map.mp m
    exact ⟨p.1, l _ (List.of_mem_zip hp).1, rfl⟩
  · obtain ⟨p, hp, rfl⟩ := List.mem_map.mp m
    exact v _ (List.of_mem_zip hp).2
theorem same_keep {H H2 H3 : Hp} {q : Addr} (s : Same H H2) (n : H q = none) (k : L2.Keep q H2 H3) : Same H H3 := fun b o e => k b o (s _ _ e) (ne_of_none e n)
def spFC (K : PySem.W.Frag) : Sp := fun vs H Q _ => ∃ (a t t2 dx : Addr) (x : Str) (ws : List Str) (ys : List V), vs = [.ref a, .ref t2] ∧ H a = some (.ins (CF K) dx [("_brand", .str x), ("_labels", .ref t)]) ∧ SqT K H t (ws.map V.str) ∧ SqT K H t2 ys ∧ ys.length = ws.length ∧ Wds ws ∧ (∀ v ∈ ys, Val K H v) ∧ freeB (.str x) = true ∧ x.length ≤ 100 ∧
  ∀ n q H', Same H H' → H n = none → H q = none → ThgAt K H' n q (.str x) (zk ws ys) → Q (.ref n) H'
def spSC (K : PySem.W.Frag) : Sp := fun vs H Q _ => ∃ (a dx : Addr) (x v : V), vs = [.ref a, x] ∧ H a = some (.ins (CS K) dx [("_thing", v)]) ∧ Q v H
def spPC (K : PySem.W.Frag) : Sp := fun vs H Q _ => ∃ (a t m dx q : Addr) (bv : V) (ws : List Str) (kvs : List (Key × V)) (f : Str → V), vs = [.ref a, .ref m] ∧ H a = some (.ins (CP K) dx [("_labels", .ref t)]) ∧ SqT K H t (ws.map V.str) ∧ Wds ws ∧ ThgAt K H m q bv kvs ∧ (∀ x ∈ ws, valV kvs (.inr x) = some (f x)) ∧
  ∀ t1 t2 H', Same H H' → H' t1 = some (.tup [.ref t2, .non]) → H' t2 = some (.tup (ws.map f)) → Q (.ref t1) H'
def spWC (K : PySem.W.Frag) : Sp := fun vs H Q _ => ∃ (a m dx q : Addr) (fs : List (Str × V)) (bv : V) (kvs : List (Key × V)), vs = [.ref a, .ref m] ∧ H a = some (.ins (CW K) dx fs) ∧ ThgAt K H m q bv kvs ∧ kvs.length ≤ 100 ∧ Rws K H kvs ∧ (kvs.map (·.1)).Nodup ∧
  ∀ t1 t0 n q2 H', Same H H' → H' t1 = some (.tup [.ref t0, .ref n]) → H' t0 = some (.tup []) → H n = none → H q2 = none → BkAt K H' n q2 kvs → Q (.ref t1) H'
def spXC (K : PySem.W.Frag) : Sp := fun vs H Q _ => ∃ (a m b dx q q2 : Addr) (fs : List (Str × V)) (bv : V) (kvs more : List (Key × V)), vs = [.ref a, .ref m, .ref b] ∧ H a = some (.ins (CX_ K) dx fs) ∧ ThgAt K H m q bv kvs ∧ BkAt K H b q2 more ∧ kvs.length + more.length ≤ 500 ∧ Rws K H more ∧
  ∀ H', L2.Keep q H H' → H' q = some (.dK (mergeK kvs more)) → Q .non H'
/-- the methods' places -/
structure Mt (K : PySem.W.Frag) (mg : Str → Option Value) : Prop where
  ti : ∃ f fd, Mk K (CT K) f ∧ FnM K "__init__" "Thing.__init__" sThgI [] f fd
  tb : ∃ p f fd, PropOf K (CT K) "brand" p f ∧ FnM K "brand" "Thing.brand" sThgB [] f fd
  tf : ∃ p f fd, PropOf K (CT K) "fields" p f ∧ FnM K "fields" "Thing.fields" sThgF [] f fd
  ts : ∃ f fd, Meth K (CT K) "set_field" f ∧ FnM K "set_field" "Thing.set_field" sThgS [] f fd
  tg : ∃ f fd, Meth K (CT K) "field" f ∧ FnM K "field" "Thing.field" sThgG [] f fd
  bi : ∃ f fd, Mk K (CB K) f ∧ FnM K "__init__" "Book.__init__" sBkI [] f fd
  bo : ∃ mc p g fd, CRead K (CB K) mc ∧ CMet K (CB K) mc "of" p g ∧ FnM K "of" "Book.of" sBkO [] g fd
  bp : ∃ p f fd, PropOf K (CB K) "pairs" p f ∧ FnM K "pairs" "Book.pairs" sBkP [] f fd
  be : ∃ f fd, Meth K (CB K) "enter" f ∧ FnM K "enter" "Book.enter" sBkE [] f fd
  ri : ∃ f fd, Mk K (CR K) f ∧ FnM K "__init__" "Row.__init__" sRowI [] f fd
  sfs : ∃ f fd, FnP K "set_fields" sSFs f fd ∧ mg "set_fields" = some (.ref f)
  are : ∃ f fd, FnP K "are_pairs" sAre f fd ∧ mg "are_pairs" = some (.ref f)
  B : ThgC K
  C : BkC K
  rc : Cls K (CR K)
  rs : NoAttr K (CR K) "_sequence"
section
variable {P : Program} {w : World} {K : PySem.W.Frag} {mg : Str → Option Value} {base : Heap}
theorem ok_fc {f : Addr} {fd : FuncData} (C : HkC K mg) (M : Mt K mg) (F : FnM K "__call__" "Fields.__call__" sFC [] f fd) (N : Nm K mg) (T : Ts K mg) (R : Rq K mg) : FnOk P w K mg base CX0 8 f fd ["self", "arguments"] (spFC K) := by
  obtain ⟨fi, di, MI, FI⟩ := M.ti
  obtain ⟨fs, ds, MS, FS⟩ := M.ts
  obtain ⟨fq, dq, FQ, gQ⟩ := M.sfs
  have GI : FnOk P w K mg base CX0 3 fi di ["self", "brand"] (spThgI K) := ok_thgI M.B FI N R
  have bI : Binds K di ["self", "brand"] [] := FI.bindsN fun _ _ _ _ _ _ us hl => match us, hl with | [_, _], _ => rfl
  have GQ : FnOk P w K mg base CX0 7 fq dq ["thing", "pairs"] (spSFs K) := ok_sfs M.B FQ N T R MS FS
  have bQ : Binds K dq ["thing", "pairs"] [] := FQ.bindsN fun _ _ _ _ _ _ us hl => match us, hl with | [_, _], _ => rfl
  refine F.ok scFC (fun vs H Q E h => ?_) (fun cdv A outer s H vs Q E hr h => ?_)
  · obtain ⟨a, t, t2, dx, x, ws, ys, rfl, _⟩ := h
    rfl
  · refine ⟨_, PSs.nox (pss_cons (ps_set (i := 2) scFC.nd rfl (Or.inl rfl) (pe_make MI GI (hr.mono (by decide)) (by rfl) C.tm bI .nil pass0 (pa_cons (pe_fld (pv 0) (by rfl)) pa_nil)))
      (pss_cons (ps_expr (pe_call GQ hr (by rfl) gQ FQ.kp bQ .nil pass0 (pa_cons (pv 2) (pa_cons (pe_tupZip rfl (pa_cons (pe_fld (pv 0) (by rfl)) (pa_cons (pv 1) pa_nil)) (by rfl) N.tuple (by decide +kernel) (by rfl) N.zip) pa_nil))))
      (pss_one (ps_ret (pv 2))))), ?_⟩
    obtain ⟨a, t, t2, dx, x, ws, ys, rfl, ha, ht, ht2, hl, W, hv, fx, lx, k⟩ := h
    refine ⟨_, rfl, a, _, dx, _, .str x, rfl, ha, C.fc, C.fb, rfl, fun n dn nn nd ne => ⟨n, dn, x, H, rfl, upd_same, nn, fun b o e => ?_, lx, fx, fun q H1 s1 nq hn hq => ⟨rfl, ?_⟩⟩⟩
    · rw [upd_ne (ne_of_none e nn), upd_ne (ne_of_none e nd)]
      exact e
    refine ⟨_, rfl, _, rfl, a, _, dx, _, .ref t, rfl, s1 _ _ ha, C.fc, C.fl, rfl, _, rfl, ?_⟩
    refine ⟨t, t2, ws.map V.str, ys, rfl, sqT_to s1 ht, sqT_to s1 ht2, by rw [List.length_map]; exact hl, fun H2 p ts s2 np nts hp hts => ?_⟩
    have s12 := s1.tr s2
    have W5 := W.len
    refine ⟨n, p, q, .str x, [], zk ws ys, rfl, ⟨dn, s2 _ _ hn, s2 _ _ hq⟩, by rw [zk_len hl]; show 0 + ws.length ≤ 500; omega, ⟨ts, SqT.of hp, prs_zip hts⟩, (zk_rws W.lab hv).to (KI.of s12), fun H3 kp hq3 => ?_⟩
    rw [merge_self (zk_nodup hl W.nd)] at hq3
    have nqn : n ≠ q := ne_of hn hq (by intro z; cases z)
    exact ⟨_, rfl, k n q H3 (same_keep s12 nq kp) nn nq ⟨dn, kp n _ (s2 _ _ hn) nqn, hq3⟩⟩
theorem ok_sc {f : Addr} {fd : FuncData} (C : HkC K mg) (F : FnM K "__call__" "Single.__call__" sSC [] f fd) : FnOk P w K mg base CX0 1 f fd ["self", "arguments"] (spSC K) := by
  refine F.ok scSC (fun vs H Q E h => ?_) (fun cdv A outer s H vs Q E hr h => ?_)
  · obtain ⟨a, dx, x, v, rfl, _⟩ := h
    rfl
  · refine ⟨_, PSs.nox (pss_one (ps_ret (pe_fld (pv 0) (by rfl)))), ?_⟩
    obtain ⟨a, dx, x, v, rfl, ha, k⟩ := h
    exact ⟨_, rfl, a, _, dx, _, v, rfl, ha, C.sc, C.st, rfl, k⟩
theorem ok_pc {f : Addr} {fd : FuncData} (C : HkC K mg) (M : Mt K mg) (F : FnM K "__call__" "Parts.__call__" sPC [] f fd) (N : Nm K mg) (T : Ts K mg) (R : Rq K mg) : FnOk P w K mg base CX0 4 f fd ["self", "thing"] (spPC K) := by
  obtain ⟨fg, dg, MG, FG⟩ := M.tg
  have GG : FnOk P w K mg base CX0 3 fg dg ["self", "label"] (spGet K) := ok_get M.B FG N T R
  have bG : Binds K dg ["self", "label"] [] := FG.bindsN fun _ _ _ _ _ _ us hl => match us, hl with | [_, _], _ => rfl
  refine F.ok scPC (fun vs H Q E h => ?_) (fun cdv A outer s H vs Q E hr h => ?_)
  · obtain ⟨a, t, m, dx, q, bv, ws, kvs, g, rfl, _⟩ := h
    rfl
  · refine ⟨_, PSs.nox (pss_one (ps_ret (pe_tup (pa_cons (pe_callTy call_tuple_of (by rfl) N.tuple (by decide +kernel) (pa_cons (pe_lc (own := [("label", 2)]) (g := gName 2) (tt := tYes) rfl scPC.nd (pi_tup (pe_fld (pv 0) (by rfl))) (blkOk_by (own := [("label", 2)]) (N := ["self", "thing", "label"]) (sc := defScope sPC) (by decide +kernel))
          (fun _ _ _ _ _ => pg_name (i := 2) scPC.nd rfl (Or.inl rfl)) (fun _ _ _ _ _ => pts_nil) (fun _ _ _ _ _ => pe_meth (pv 1) M.B.cls MG GG hr bG .nil pass0 (pa_cons (pv 2) pa_nil))) pa_nil)) (pa_cons pe_non pa_nil))))), ?_⟩
    obtain ⟨a, t, m, dx, q, bv, ws, kvs, g, rfl, ha, ht, W, ⟨dm, hm, hq⟩, hv, k⟩ := h
    refine ⟨_, rfl, a, _, dx, _, .ref t, rfl, ha, C.pc, C.pl, rfl, t, rfl, ⟨_, ht⟩, fun D nD => lc_it (walk_tup (xs := ws.map V.str)) (fun i H' => Same H H' ∧ H' D = some (.lst ((ws.take i).map g))) ⟨same_new nD, upd_same⟩ (fun i H' _ z => sqT_to z.1 ht) ?_ ?_⟩
    · rintro i y H' H'' hi ⟨s1, hD⟩ ⟨rfl, hx⟩
      rw [List.getElem?_map] at hx
      obtain ⟨x, ex, rfl⟩ := Option.map_eq_some_iff.mp hx
      have mx := List.mem_of_getElem? ex
      refine ⟨rfl, yesT ⟨_, rfl, m, dm, _, rfl, s1 _ _ hm, rfl, _, rfl, m, q, bv, kvs, x, g x, rfl, ⟨dm, s1 _ _ hm, s1 _ _ hq⟩, lab_len (W.lab x mx), hv x mx, _, hD, ?_, same_updN s1 nD, ?_⟩⟩
      · rw [List.length_map, List.length_take]
        have := W.len
        exact Nat.lt_of_le_of_lt (show _ ≤ 5 by omega) (by decide)
      · rw [upd_same, List.take_add_one, ex, List.map_append]
        rfl
    · rintro H' ⟨s1, hD⟩
      rw [List.length_map, List.take_length] at hD
      refine ⟨D, _, rfl, .inl ⟨SqL.of hD, fun t2 n2 => ⟨(by show 2 ≤ sizeLine; decide), fun t1 n1 => ?_⟩⟩⟩
      have s2 := same_new (o := .tup (ws.map g)) n2
      have s3 := same_new (o := .tup [.ref t2, .non]) n1
      exact k t1 t2 _ (s1.tr (s2.tr s3)) upd_same (s3 _ _ upd_same)
theorem ok_wc {f : Addr} {fd : FuncData} (C : HkC K mg) (M : Mt K mg) (F : FnM K "__call__" "Whole.__call__" sWC [] f fd) (N : Nm K mg) (T : Ts K mg) (R : Rq K mg) : FnOk P w K mg base CX0 8 f fd ["self", "thing"] (spWC K) := by
  obtain ⟨fi, di, MI, FI⟩ := M.bi
  obtain ⟨fe, de, ME, FE⟩ := M.be
  obtain ⟨mc, po, fo, do_, RO, CO, FO⟩ := M.bo
  obtain ⟨pf, ff, df, PF, FF⟩ := M.tf
  have GO : FnOk P w K mg base CX0 7 fo do_ ["cls", "pairs"] (spOf K) := ok_of M.C FO N T R MI FI ME FE M.are
  have bO : Binds K do_ ["cls", "pairs"] [] := FO.bindsN fun _ _ _ _ _ _ us hl => match us, hl with | [_, _], _ => rfl
  have GF : FnOk P w K mg base CX0 1 ff df ["self"] (spFields K) := ok_fields M.B FF N
  have bF : Binds K df ["self"] [] := FF.bindsN fun _ _ _ _ _ _ us hl => match us, hl with | [_], _ => rfl
  refine F.ok scWC (fun vs H Q E h => ?_) (fun cdv A outer s H vs Q E hr h => ?_)
  · obtain ⟨a, m, dx, q, fs, bv, kvs, rfl, _⟩ := h
    rfl
  · refine ⟨_, PSs.nox (pss_one (ps_ret (pe_tup (pa_cons (pe_tup pa_nil) (pa_cons (pe_cmethSg (E := fun _ => E0) (pe_glob (v := .ref (CB K)) (by rfl) C.bm rfl) RO CO GO hr bO (fun σ _ _ _ _ _ _ z => False.elim z) (pa_cons (pe_prop (pv 1) M.B.cls PF GF (hr.mono (by decide)) bF .nil pass0 (by rfl)) pa_nil)) pa_nil))))), ?_⟩
    obtain ⟨a, m, dx, q, fs, bv, kvs, rfl, ha, ⟨dm, hm, hq⟩, hl, hR, nd, k⟩ := h
    refine ⟨Nat.zero_le _, fun t0 n0 => ?_⟩
    have s0 := same_new (o := .tup []) n0
    refine ⟨rfl, _, rfl, m, dm, _, rfl, s0 _ _ hm, m, q, bv, kvs, rfl, ⟨dm, s0 _ _ hm, s0 _ _ hq⟩, fun H1 p s1 hp => ?_⟩
    have s01 := s0.tr s1
    refine ⟨p, kvs, rfl, hp, hl, hR.to (KI.of s01), nd, fun n q2 H2 s2 nn hb nq => ⟨(by show 2 ≤ sizeLine; decide), fun t1 n1 => ?_⟩⟩
    have s3 := same_new (o := .tup [.ref t0, .ref n]) n1
    exact k t1 t0 n q2 _ (s01.tr (s2.tr s3)) upd_same (s3 _ _ (s2 _ _ (s1 _ _ upd_same))) (none_of s01 nn) (none_of s01 nq) (hb.to s3)
theorem ok_xc {f : Addr} {fd : FuncData} (C : HkC K mg) (M : Mt K mg) (F : FnM K "__call__" "Refill.__call__" sXC [] f fd) (N : Nm K mg) (T : Ts K mg) (R : Rq K mg) : FnOk P w K mg base CX0 8 f fd ["self", "thing", "state"] (spXC K) := by
  obtain ⟨fs, ds, MS, FS⟩ := M.ts
  obtain ⟨fq, dq, FQ, gQ⟩ := M.sfs
  obtain ⟨pf, ff, df, PF, FF⟩ := M.bp
  have GQ : FnOk P w K mg base CX0 7 fq dq ["thing", "pairs"] (spSFs K) := ok_sfs M.B FQ N T R MS FS
  have bQ : Binds K dq ["thing", "pairs"] [] := FQ.bindsN fun _ _ _ _ _ _ us hl => match us, hl with | [_, _], _ => rfl
  have GF : FnOk P w K mg base CX0 1 ff df ["self"] (spPairs K) := ok_pairs M.C FF N
  have bF : Binds K df ["self"] [] := FF.bindsN fun _ _ _ _ _ _ us hl => match us, hl with | [_], _ => rfl
  refine F.ok scXC (fun vs H Q E h => ?_) (fun cdv A outer s H vs Q E hr h => ?_)
  · obtain ⟨a, m, b, dx, q, q2, fs, bv, kvs, more, rfl, _⟩ := h
    rfl
  · refine ⟨_, PSs.nox (pss_one (ps_expr (pe_call GQ hr (by rfl) gQ FQ.kp bQ .nil pass0 (pa_cons (pv 1) (pa_cons (pe_prop (pv 2) M.C.cls PF GF (hr.mono (by decide)) bF .nil pass0 (by rfl)) pa_nil))))), ?_⟩
    obtain ⟨a, m, b, dx, q, q2, fs, bv, kvs, more, rfl, ha, ⟨dm, hm, hq⟩, ⟨db, hb, hq2⟩, hl, hR, k⟩ := h
    refine ⟨_, rfl, _, rfl, b, db, _, rfl, hb, b, q2, more, rfl, ⟨db, hb, hq2⟩, fun H1 p s1 hp => ?_⟩
    exact ⟨m, p, q, bv, kvs, more, rfl, ⟨dm, s1 _ _ hm, s1 _ _ hq⟩, hl, hp, hR.to (KI.of s1), fun H2 kp hq3 => k H2 (fun c o e n => kp c o (s1 _ _ e) n) hq3⟩
end
end Kh

set_option Elab.async false
set_option linter.all false
set_option maxRecDepth 100000
set_option maxHeartbeats 4000000
namespace Kh
open PySem PySem.Spec PyProof.Rows L2 StX ClX
/-- the cells' list of the draws at p stands at l -/
def CellsAt (H : Hp) (p l : Addr) : Prop := ∃ a b c : Int, H p = some (.dK (drawKv l a b c))
/-- all that was tracked but p stands, and the cells' list is the same -/
structure Keep (p : Addr) (H H' : Hp) : Prop where
  old : L2.Keep p H H'
  cells : ∀ l, CellsAt H p l → CellsAt H' p l
instance {p : Addr} {H H' : Hp} : CoeFun (Keep p H H') (fun _ => ∀ c o, H c = some o → c ≠ p → H' c = some o) := ⟨Keep.old⟩
theorem Keep.refl {p : Addr} {H : Hp} : Keep p H H := ⟨L2.Keep.refl, fun _ h => h⟩
theorem Keep.trans {p : Addr} {H H1 H2 : Hp} (a : Keep p H H1) (b : Keep p H1 H2) : Keep p H H2 := ⟨a.old.trans b.old, fun l h => b.cells l (a.cells l h)⟩
theorem Keep.of {p : Addr} {H H' : Hp} (s : Same H H') : Keep p H H' := ⟨L2.Keep.of s, fun _ ⟨a, b, c, h⟩ => ⟨a, b, c, s _ _ h⟩⟩
theorem cells_one {H : Hp} {p l l' : Addr} (h : CellsAt H p l) (k : CellsAt H p l') : l = l' := by
  obtain ⟨a, b, c, h⟩ := h
  obtain ⟨a', b', c', k⟩ := k
  rw [h] at k
  have z := congrArg (fun o => match o with
    | some (HO.dK ((_, V.ref x) :: _)) => x
    | _ => 0) k
  exact z
theorem Keep.upd {p l : Addr} {x y z : Int} {H : Hp} (h : CellsAt H p l) : Keep p H (upd H p (.dK (drawKv l x y z))) := ⟨L2.Keep.upd, fun l' k => by
  cases cells_one h k
  exact ⟨x, y, z, upd_same⟩⟩
def spNext : Sp := fun vs H Q _ => ∃ (p : Addr) (b : Int) (N : Nat), vs = [.ref p, .int b] ∧ DrawAt H p N ∧ N < 1000000000 ∧ 0 < b ∧ b < 1073741824 ∧ ∀ (r : Int) (H' : Hp), 0 ≤ r → r < b → DrawAt H' p (N + 1) → Keep p H H' → Q (.int r) H'
abbrev sBegin : Stmt := top 53
abbrev sMixed : Stmt := top 54
abbrev sNext : Stmt := top 55
section
variable {P : Program} {w : World} {K : PySem.W.Frag} {mg : Str → Option Value} {base : Heap}
theorem scBegin : FnScope ["script"] ["script"] (defScope sBegin) := ⟨rfl, rfl, rfl, by decide +kernel, rfl, by decide +kernel, by decide +kernel⟩
theorem scMixed : FnScope ["cell", "k", "mixed"] ["cell", "k"] (defScope sMixed) := ⟨rfl, rfl, rfl, by decide +kernel, rfl, by decide +kernel, by decide +kernel⟩
theorem scNext : FnScope ["draw", "bound", "found", "cells", "cell"] ["draw", "bound"] (defScope sNext) := ⟨rfl, rfl, rfl, by decide +kernel, rfl, by decide +kernel, by decide +kernel⟩
theorem ok_begin {f : Addr} {fd : FuncData} (F : FnP K "_law_begin" sBegin f fd) : FnOk P w K mg base CX0 1 f fd ["script"] (spBegin K) := by
  refine F.ok scBegin (fun vs H Q E h => ?_) (fun cdv A outer s H vs Q E hr h => ⟨_, PSs.nox (pss_one (ps_ret (pe_disp (pps_cons pe_str (pe_op op_catS (pv 0) (pe_lst (pa_cons pe_int pa_nil)))
    (pps_cons pe_str pe_int (pps_cons pe_str pe_int (pps_cons pe_str pe_int pps_nil)))) (by rfl) (by rfl) (fun z => by cases z) (by decide)))), ?_⟩)
  · obtain ⟨a, ns, rfl, _⟩ := h
    rfl
  · obtain ⟨a, ns, rfl, hS, hl, k⟩ := h
    intro p hp
    refine ⟨_, rfl, (by show 1 ≤ sizeLine; decide), fun q hq => ?_⟩
    have npq : p ≠ q := fun z => by rw [z, upd_same] at hq; cases hq
    have hq' : H q = none := by rw [← hq, upd_ne npq.symm]
    have s1 : Same H (upd (upd H p (.dK [])) q (.lst [V.int 0])) := fun b o e => by
      rw [upd_ne (ne_of_none e hq'), upd_ne (ne_of_none e hp)]
      exact e
    refine ⟨a, q, ns.map V.int, [V.int 0], rfl, rfl, s1.seq hS, SqL.of upd_same, (by rw [List.length_map]; show ns.length + 1 ≤ sizeLine; exact Nat.le_trans (Nat.succ_le_succ hl) (by decide)), fun l hlz => ?_⟩
    have nl : l ≠ p := fun z => by rw [z, upd_ne npq, upd_same] at hlz; cases hlz
    have nlq : l ≠ q := fun z => by rw [z, upd_same] at hlz; cases hlz
    have hl' : H l = none := by rw [upd_ne nlq, upd_ne nl] at hlz; exact hlz
    refine ⟨(by rw [upd_ne nl.symm, upd_ne npq, upd_same]), [(kCells, .ref l), (kAt, .int 0), (kLeft, .int 0), (kUsed, .int 0)], rfl, (by show 4 ≤ 15; decide), ?_⟩
    have em : mergeK [] [(kCells, V.ref l), (kAt, .int 0), (kLeft, .int 0), (kUsed, .int 0)] = drawKv l 0 0 0 := by kernel_rfl
    rw [em]
    refine k p _ hp (fun b o e => ?_) ⟨l, ns ++ [0], 0, 0, 0, upd_same, ?_, ?_, ?_, by decide, by decide, by decide, by decide, by decide⟩
    · rw [upd_ne (ne_of_none e hp), upd_ne (ne_of_none e hl')]
      exact s1 b o e
    · rw [upd_ne nl, upd_same, List.map_append]
      rfl
    · rw [List.length_append]
      exact Nat.succ_pos _
    · rw [List.length_append]
      exact Nat.succ_le_succ hl
theorem mix_lo (x : Int) : 0 ≤ x % 2147483647 / 7 := by omega
theorem mix_hi (x : Int) : x % 2147483647 / 7 < 2147483648 := by omega
theorem ok_mixed {f : Addr} {fd : FuncData} (F : FnP K "_law_mixed" sMixed f fd) : FnOk P w K mg base CX0 1 f fd ["cell", "k"] spMixed := by
  refine F.ok scMixed (fun vs H Q E h => ?_) (fun cdv A outer s H vs Q E hr h => ⟨_, PSs.nox (pss_cons (ps_set (i := 2) scMixed.nd rfl (Or.inl rfl)
      (pe_op op_mod (pe_op op_add (pe_op op_add (pe_op op_add (pe_op op_mod (pv 0) pe_int) (pe_op op_mul (pe_op op_mul pe_int (pv 1)) (pv 1))) (pe_op op_mul pe_int (pv 1))) pe_int) pe_int))
    (pss_cons (ps_set (i := 2) scMixed.nd rfl (Or.inl rfl) (pe_op op_mod (pe_op op_mul (pe_op op_mod (pe_op op_mul (pv 2) (pv 2)) pe_int) (pv 2)) pe_int))
    (pss_one (ps_ret (pe_op op_fdiv (pe_op op_mod (pe_op op_mul (pv 2) (pe_op op_add pe_int (pe_op op_mul pe_int (pe_op op_mod (pv 1) pe_int)))) pe_int) pe_int))))), ?_⟩)
  · obtain ⟨c, k, rfl, _⟩ := h
    rfl
  · obtain ⟨c, k, rfl, k0, k1, kq⟩ := h
    refine ⟨_, rfl, _, _, rfl, rfl, (by show (0 : Int) < 1000000007; decide), _, rfl, _, _, rfl, rfl, .inl ⟨by decide, by decide⟩, _, rfl, _, _, rfl, rfl, .inl ⟨by omega, by omega⟩, _, _, rfl, rfl, _, rfl, _, _, rfl, rfl, .inl ⟨by decide, by decide⟩, _, _, rfl, rfl,
      _, _, rfl, rfl, _, _, rfl, rfl, (by show (0 : Int) < 2147483647; decide), ?_⟩
    refine ⟨_, rfl, _, rfl, _, _, rfl, rfl, .inl ⟨by omega, by omega⟩, _, _, rfl, rfl, (by show (0 : Int) < 2147483647; decide), _, rfl, _, _, rfl, rfl, .inl ⟨by omega, by omega⟩, _, _, rfl, rfl, (by show (0 : Int) < 2147483629; decide), ?_⟩
    refine ⟨_, rfl, _, rfl, _, _, rfl, rfl, (by show (0 : Int) < 1000; decide), _, _, rfl, rfl, .inl ⟨by decide, by decide⟩, _, _, rfl, rfl, _, _, rfl, rfl, .inl ⟨by omega, by omega⟩, _, _, rfl, rfl, (by show (0 : Int) < 2147483647; decide), _, _, rfl, rfl, ⟨by decide, by decide⟩, ?_⟩
    exact kq _ (mix_lo _) (mix_hi _)
theorem ok_next {f fm : Addr} {fd fdm : FuncData} (F : FnP K "_law_next" sNext f fd) (FM : FnP K "_law_mixed" sMixed fm fdm) (gM : mg "_law_mixed" = some (.ref fm)) (gL : mg "len" = none) : FnOk P w K mg base CX0 2 f fd ["draw", "bound"] spNext := by
  have GM : FnOk P w K mg base CX0 1 fm fdm ["cell", "k"] spMixed := ok_mixed FM
  have bM : Binds K fdm ["cell", "k"] [] := FM.bindsN fun _ _ _ _ _ _ us hl => match us, hl with | [_, _], _ => rfl
  refine F.ok scNext (fun vs H Q E h => ?_) (fun cdv A outer s H vs Q E hr h => ?_)
  · obtain ⟨p, b, N, rfl, _⟩ := h
    rfl
  · have hu := hu_of hr
    refine ⟨_, PSs.nox (pss_cons (ps_if (pt_cmpR op_gt (pe_dget hu (pv 0) pe_str (fun _ _ => rfl)) pe_int (nomark _))
        (pss_cons (ps_set (i := 2) scNext.nd rfl (Or.inl rfl) (pe_op op_mod (pe_dget hu (pv 0) pe_str (fun _ _ => rfl)) (pv 1)))
        (pss_cons (ps_dput hu (pv 0) pe_str (pe_op op_fdiv (pe_dget hu (pv 0) pe_str (fun _ _ => rfl)) (pv 1)) rfl)
        (pss_one (ps_ret (pv 2))))) pss_nil)
      (pss_cons (ps_set (i := 3) scNext.nd rfl (Or.inl rfl) (pe_dget hu (pv 0) pe_str (fun _ _ => rfl)))
      (pss_cons (ps_set (i := 4) scNext.nd rfl (Or.inl rfl) (pe_ix ix_list (pv 3) (pe_op op_mod (pe_dget hu (pv 0) pe_str (fun _ _ => rfl)) (pe_callB call_len (by rfl) gL PySem.boot_len (pa_cons (pv 3) pa_nil))) (fun _ _ => rfl)))
      (pss_cons (ps_dput hu (pv 0) pe_str (pe_op op_add (pe_dget hu (pv 0) pe_str (fun _ _ => rfl)) pe_int) rfl)
      (pss_cons (ps_if (PW.pt (pw_and (pt_cmpR op_ge (pv 4) (pe_op op_pow pe_int pe_int) (nomark _)) (pw_and1 (pt_cmpR op_le (pe_dget hu (pv 0) pe_str (fun _ _ => rfl)) (pe_callB call_len (by rfl) gL PySem.boot_len (pa_cons (pv 3) pa_nil)) (nomark _)))))
        (pss_cons (ps_dput hu (pv 0) pe_str (pe_op op_fdiv (pv 4) (pv 1)) rfl) (pss_one (ps_ret (pe_op op_mod (pv 4) (pv 1))))) pss_nil)
      (pss_cons (ps_dput hu (pv 0) pe_str (pe_op op_add (pe_dget hu (pv 0) pe_str (fun _ _ => rfl)) pe_int) rfl)
      (pss_one (ps_ret (pe_op op_mod (pe_call GM hr (by rfl) gM FM.kp bM .nil pass0 (pa_cons (pe_call GM hr (by rfl) gM FM.kp bM .nil pass0 (pa_cons (pv 4) (pa_cons (pe_dget hu (pv 0) pe_str (fun _ _ => rfl)) pa_nil))) (pa_cons (pe_dget hu (pv 0) pe_str (fun _ _ => rfl)) pa_nil))) (pv 1)))))))))), ?_⟩
    obtain ⟨p, b, N, rfl, D, hN, b0, b1, k⟩ := h
    obtain ⟨l, cs, a, lf, us, hp, hl, l0, l1, a0, a1, f0, u0, u1⟩ := D
    have npl : l ≠ p := ne_of hl hp (by intro z; cases z)
    have hl' : ∀ o, (upd H p o) l = some (.lst (cs.map V.int)) := fun o => by rw [upd_ne npl]; exact hl
    -- if draw['left'] > 0
    refine ⟨_, rfl, p, _, rfl, (by rw [← dk_left]; exact DGet.k (k := kLeft) hp), _, _, rfl, rfl, _, rfl, ?_⟩
    have hz4 : ∀ x y z, (drawKv l x y z).length < sizeLine := fun x y z => by show 4 < sizeLine; decide
    refine ite2 (fun c => ?_) (fun c => ?_)
    · -- found = draw['left'] % bound; draw['left'] = draw['left'] // bound; return found
      have c' : 0 < lf := of_decide_eq_true c
      refine ⟨_, rfl, p, _, rfl, (by rw [← dk_left]; exact DGet.k (k := kLeft) hp), _, rfl, _, _, rfl, rfl, b0, ?_⟩
      refine ⟨_, rfl, p, _, rfl, (by rw [← dk_left]; exact DGet.k (k := kLeft) hp), _, rfl, _, _, rfl, rfl, ⟨b0, b1⟩, _, rfl, p, _, rfl, DPut.k (k := kLeft) hp (hz4 _ _ _), ?_⟩
      rw [dp_left]
      refine ⟨_, rfl, k _ _ (Int.emod_nonneg _ (by omega)) (Int.emod_lt_of_pos _ b0) ⟨l, cs, a, lf / b, us, upd_same, hl' _, l0, l1, a0, by omega, Int.ediv_nonneg (by omega) (by omega), u0, by omega⟩ (Keep.upd ⟨_, _, _, hp⟩)⟩
    · -- cells = draw['cells']; cell = cells[draw['at'] % len(cells)]
      refine ⟨_, rfl, p, _, rfl, (by rw [← dk_cells]; exact DGet.k (k := kCells) hp), ?_⟩
      have ix0 : 0 ≤ a % (cs.length : Int) := Int.emod_nonneg _ (by omega)
      have ix1 : a % (cs.length : Int) < (cs.length : Int) := Int.emod_lt_of_pos _ (by omega)
      have hlt : (a % (cs.length : Int)).toNat < cs.length := by omega
      obtain ⟨z, hz⟩ : ∃ z, cs[(a % (cs.length : Int)).toNat]? = some z := ⟨_, List.getElem?_eq_getElem hlt⟩
      refine ⟨_, rfl, _, rfl, p, _, rfl, (by rw [← dk_at]; exact DGet.k (k := kAt) hp), _, rfl, _, (cs.map V.int).length, rfl, .inl ⟨_, SqL.of hl, rfl⟩, _, _, rfl, rfl, (by rw [List.length_map]; omega), ?_⟩
      refine ⟨l, _, _, V.int z, rfl, rfl, SqL.of hl, at_of (j := (a % (cs.length : Int)).toNat) (by rw [List.length_map]; omega) (by rw [List.getElem?_map, hz]; rfl), ?_⟩
      -- draw['at'] = draw['at'] + 1
      refine ⟨_, rfl, p, _, rfl, (by rw [← dk_at]; exact DGet.k (k := kAt) hp), _, _, rfl, rfl, _, rfl, p, _, rfl, DPut.k (k := kAt) hp (hz4 _ _ _), ?_⟩
      rw [dp_at]
      have hp1 := (upd_same (H := H) (a := p) (o := .dK (drawKv l (a + 1) lf us)))
      -- the test
      refine ⟨_, rfl, _, _, rfl, rfl, ⟨by decide, by decide, by decide⟩, _, _, rfl, rfl, _, rfl, ?_⟩
      have last : ∀ H1 : Hp, H1 p = some (.dK (drawKv l (a + 1) lf us)) → H1 l = some (.lst (cs.map V.int)) → Keep p H H1 → True := fun _ _ _ _ => True.intro
      refine ite2 (fun c1 => ?_) (fun c1 => ?_)
      · refine ⟨_, rfl, p, _, rfl, (by rw [← dk_at]; exact DGet.k (k := kAt) hp1), _, rfl, _, (cs.map V.int).length, rfl, .inl ⟨_, SqL.of (hl' _), rfl⟩, _, _, rfl, rfl, _, rfl, ?_⟩
        refine ite2 (fun c2 => ?_) (fun c2 => ?_)
        · have z0 : (1000000000000000000 : Int) ≤ z := of_decide_eq_true c1
          refine ⟨_, rfl, _, rfl, _, _, rfl, rfl, ⟨b0, b1⟩, _, rfl, p, _, rfl, DPut.k (k := kLeft) hp1 (hz4 _ _ _), ?_⟩
          rw [dp_left]
          refine ⟨_, rfl, _, rfl, _, _, rfl, rfl, b0, ?_⟩
          exact k _ _ (Int.emod_nonneg _ (by omega)) (Int.emod_lt_of_pos _ b0) ⟨l, cs, a + 1, z / b, us, upd_same, by rw [upd_ne npl]; exact hl' _, l0, l1, by omega, by omega, Int.ediv_nonneg (by omega) (by omega), u0, by omega⟩ ((Keep.upd ⟨_, _, _, hp⟩).trans (Keep.upd ⟨_, _, _, upd_same⟩))
        · refine ⟨_, rfl, p, _, rfl, (by rw [← dk_used]; exact DGet.k (k := kUsed) hp1), _, _, rfl, rfl, _, rfl, p, _, rfl, DPut.k (k := kUsed) hp1 (hz4 _ _ _), ?_⟩
          rw [dp_used]
          have hp2 := (upd_same (H := upd H p (.dK (drawKv l (a + 1) lf us))) (a := p) (o := .dK (drawKv l (a + 1) lf (us + 1))))
          refine ⟨_, rfl, _, rfl, p, _, rfl, (by rw [← dk_at]; exact DGet.k (k := kAt) hp2), _, _, rfl, by omega, by omega, fun r1 _ _ => ?_⟩
          refine ⟨_, rfl, p, _, rfl, (by rw [← dk_used]; exact DGet.k (k := kUsed) hp2), _, _, rfl, by omega, by omega, fun r2 _ _ => ?_⟩
          refine ⟨_, rfl, _, _, rfl, rfl, b0, ?_⟩
          exact k _ _ (Int.emod_nonneg _ (by omega)) (Int.emod_lt_of_pos _ b0) ⟨l, cs, a + 1, lf, us + 1, hp2, by rw [upd_ne npl]; exact hl' _, l0, l1, by omega, by omega, f0, by omega, by omega⟩ ((Keep.upd ⟨_, _, _, hp⟩).trans (Keep.upd ⟨_, _, _, upd_same⟩))
      · refine iteF ?_
        refine ⟨_, rfl, p, _, rfl, (by rw [← dk_used]; exact DGet.k (k := kUsed) hp1), _, _, rfl, rfl, _, rfl, p, _, rfl, DPut.k (k := kUsed) hp1 (hz4 _ _ _), ?_⟩
        rw [dp_used]
        have hp2 := (upd_same (H := upd H p (.dK (drawKv l (a + 1) lf us))) (a := p) (o := .dK (drawKv l (a + 1) lf (us + 1))))
        refine ⟨_, rfl, _, rfl, p, _, rfl, (by rw [← dk_at]; exact DGet.k (k := kAt) hp2), _, _, rfl, by omega, by omega, fun r1 _ _ => ?_⟩
        refine ⟨_, rfl, p, _, rfl, (by rw [← dk_used]; exact DGet.k (k := kUsed) hp2), _, _, rfl, by omega, by omega, fun r2 _ _ => ?_⟩
        refine ⟨_, rfl, _, _, rfl, rfl, b0, ?_⟩
        exact k _ _ (Int.emod_nonneg _ (by omega)) (Int.emod_lt_of_pos _ b0) ⟨l, cs, a + 1, lf, us + 1, hp2, by rw [upd_ne npl]; exact hl' _, l0, l1, by omega, by omega, f0, by omega, by omega⟩ ((Keep.upd ⟨_, _, _, hp⟩).trans (Keep.upd ⟨_, _, _, upd_same⟩))
theorem draw_updL {H : Hp} {p l : Addr} {N : Nat} {xs ys : List V} (d : DrawAt H p N) (n1 : l ≠ p) (h : H l = some (.lst xs)) (nc : ∀ l', CellsAt H p l' → l' ≠ l) : DrawAt (upd H l (.lst ys)) p N := by
  obtain ⟨c, cs, a, lf, us, hp, hl, r⟩ := d
  have nl : c ≠ l := nc c ⟨a, lf, us, hp⟩
  exact ⟨c, cs, a, lf, us, by rw [upd_ne n1.symm]; exact hp, by rw [upd_ne nl]; exact hl, r⟩
theorem cells_ne {H H' : Hp} {p l : Addr} {N : Nat} (d : DrawAt H p N) (k : Keep p H H') (n : H l = none) : ∀ l', CellsAt H' p l' → l' ≠ l := fun l' z => by
  obtain ⟨c, cs, a, lf, us, hp, hl, r⟩ := d
  rw [cells_one z (k.cells c ⟨a, lf, us, hp⟩)]
  exact ne_of_none hl n
theorem pick_perm {α : Type} : ∀ (l : List α) (j : Nat) (h : j < l.length), (l[j] :: l.eraseIdx j).Perm l
  | a :: l, 0, _ => List.Perm.refl _
  | a :: l, j + 1, h => (List.Perm.swap a _ _).trans ((pick_perm l j (Nat.lt_of_succ_lt_succ h)).cons a)
theorem erase_map {α β : Type} (f : α → β) : ∀ (l : List α) (j : Nat), (l.map f).eraseIdx j = (l.eraseIdx j).map f
  | [], _ => rfl
  | _ :: _, 0 => rfl
  | a :: l, j + 1 => congrArg (f a :: ·) (erase_map f l j)
theorem keep_updN {H H' : Hp} {p l : Addr} {o : HO} (k : Keep p H H') (n : H l = none) (n1 : l ≠ p) : Keep p H (upd H' l o) := ⟨fun b u e nb => by
  rw [upd_ne (ne_of_none e n)]
  exact k b u e nb, fun c h => by
  obtain ⟨x, y, z, e⟩ := k.cells c h
  exact ⟨x, y, z, by rw [upd_ne n1.symm]; exact e⟩⟩
structure Dr (K : PySem.W.Frag) (mg : Str → Option Value) : Prop where
  begin_ : ∃ f fd, FnP K "_law_begin" sBegin f fd ∧ mg "_law_begin" = some (.ref f)
  mixed : ∃ f fd, FnP K "_law_mixed" sMixed f fd ∧ mg "_law_mixed" = some (.ref f)
  next : ∃ f fd, FnP K "_law_next" sNext f fd ∧ mg "_law_next" = some (.ref f)
theorem sz (n : Nat) (h : n ≤ 1000) : n ≤ sizeLine := Nat.le_trans h (by decide)
/-! ### an atom, drawn -/
abbrev sAtom : Stmt := top 56
abbrev sLbs : Stmt := top 58
theorem scAtom : FnScope ["draw", "some"] ["draw"] (defScope sAtom) := ⟨rfl, rfl, rfl, by decide +kernel, rfl, by decide +kernel, by decide +kernel⟩
theorem scLbs : FnScope ["draw", "many", "some", "found", "turn"] ["draw", "many"] (defScope sLbs) := ⟨rfl, rfl, rfl, by decide +kernel, rfl, by decide +kernel, by decide +kernel⟩
def spAtom : Sp := fun vs H Q _ => ∃ (p : Addr) (N : Nat), vs = [.ref p] ∧ DrawAt H p N ∧ N < 100000 ∧ ∀ v d H', At v d → DrawAt H' p (N + 1) → Keep p H H' → Q v H'
theorem ok_atom {f : Addr} {fd : FuncData} (F : FnP K "_law_atom" sAtom f fd) (N : Nm K mg) (D : Dr K mg) : FnOk P w K mg base CX0 3 f fd ["draw"] spAtom := by
  obtain ⟨fX, dX, FX, gX⟩ := D.next
  obtain ⟨fM, dM, FM, gM⟩ := D.mixed
  have GX : FnOk P w K mg base CX0 2 fX dX ["draw", "bound"] spNext := ok_next FX FM gM N.len
  have bX : Binds K dX ["draw", "bound"] [] := FX.bindsN fun _ _ _ _ _ _ us hl => match us, hl with | [_, _], _ => rfl
  refine F.ok scAtom (fun vs H Q E h => ?_) (fun cdv A outer s H vs Q E hr h => ?_)
  · obtain ⟨p, n, rfl, _⟩ := h
    rfl
  · refine ⟨_, PSs.nox (pss_cons (ps_set (i := 1) scAtom.nd rfl (Or.inl rfl) (pe_lst (pa_cons pe_non (pa_cons pe_bl (pa_cons pe_bl (pa_cons pe_int (pa_cons pe_int (pa_cons (pe_op op_sub pe_int pe_int) (pa_cons pe_int (pa_cons pe_int (pa_cons (pe_op op_sub pe_int pe_int) (pa_cons (pe_op op_pow pe_int pe_int)
          (pa_cons pe_str (pa_cons pe_str (pa_cons pe_str (pa_cons pe_str (pa_cons pe_str pa_nil)))))))))))))))))
      (pss_one (ps_ret (pe_ix (show IxR _ (rIxL K) from ix_list) (pe_op op_cat (pv 1) (pe_lst (pa_cons pe_str pa_nil))) (pe_call GX hr (by rfl) gX FX.kp bX .nil pass0 (pa_cons (pv 0) (pa_cons pe_int pa_nil))) (fun _ _ => rfl))))), ?_⟩
    obtain ⟨p, n, rfl, D0, hn, k⟩ := h
    refine ⟨_, _, rfl, rfl, _, _, rfl, rfl, _, _, rfl, rfl, ⟨by decide, by decide, by decide⟩, sz 15 (by decide), fun l1 n1 => ?_⟩
    have s1 := same_new (o := .lst [.non, .bl true, .bl false, .int 0, .int 1, .int (0 - 1), .int 255, .int 256, .int (0 - 129), .int (10 ^ (40 : Int).toNat), .str "", .str "a", .str "abc", .str "salt", .str "pepper\n"]) n1
    refine ⟨_, rfl, sz 1 (by decide), fun l2 n2 => ?_⟩
    have s2 := same_new (o := .lst [V.str "a \\ b"]) n2
    refine ⟨l1, l2, _, _, rfl, rfl, s2 _ _ upd_same, upd_same, sz 16 (by decide), fun l3 n3 => ?_⟩
    have s3 := same_new (o := .lst ([.non, .bl true, .bl false, .int 0, .int 1, .int (0 - 1), .int 255, .int 256, .int (0 - 129), .int (10 ^ (40 : Int).toNat), .str "", .str "a", .str "abc", .str "salt", .str "pepper\n"] ++ [V.str "a \\ b"])) n3
    have sA := s1.tr (s2.tr s3)
    have D1 := D0.same sA
    refine ⟨_, rfl, p, 16, n, rfl, D1, by omega, by decide, by decide, fun r H1 ra rb D2 k1 => ?_⟩
    obtain ⟨j, rfl⟩ := Int.eq_ofNat_of_zero_le ra
    have hj : j < 16 := by omega
    have key : ∃ v d, ([.non, .bl true, .bl false, .int 0, .int 1, .int (0 - 1), .int 255, .int 256, .int (0 - 129), .int (10 ^ (40 : Int).toNat), .str "", .str "a", .str "abc", .str "salt", .str "pepper\n"] ++ [V.str "a \\ b"])[j]? = some v ∧ At v d := by
      match j, hj with
      | 0, _ => exact ⟨_, _, rfl, List.mem_of_getElem? (i := 0) rfl⟩
      | 1, _ => exact ⟨_, _, rfl, List.mem_of_getElem? (i := 1) rfl⟩
      | 2, _ => exact ⟨_, _, rfl, List.mem_of_getElem? (i := 2) rfl⟩
      | 3, _ => exact ⟨_, _, rfl, List.mem_of_getElem? (i := 3) rfl⟩
      | 4, _ => exact ⟨_, _, rfl, List.mem_of_getElem? (i := 4) rfl⟩
      | 5, _ => exact ⟨_, _, rfl, List.mem_of_getElem? (i := 5) rfl⟩
      | 6, _ => exact ⟨_, _, rfl, List.mem_of_getElem? (i := 6) rfl⟩
      | 7, _ => exact ⟨_, _, rfl, List.mem_of_getElem? (i := 7) rfl⟩
      | 8, _ => exact ⟨_, _, rfl, List.mem_of_getElem? (i := 8) rfl⟩
      | 9, _ => exact ⟨_, _, rfl, List.mem_of_getElem? (i := 9) rfl⟩
      | 10, _ => exact ⟨_, _, rfl, List.mem_of_getElem? (i := 10) rfl⟩
      | 11, _ => exact ⟨_, _, rfl, List.mem_of_getElem? (i := 11) rfl⟩
      | 12, _ => exact ⟨_, _, rfl, List.mem_of_getElem? (i := 12) rfl⟩
      | 13, _ => exact ⟨_, _, rfl, List.mem_of_getElem? (i := 13) rfl⟩
      | 14, _ => exact ⟨_, _, rfl, List.mem_of_getElem? (i := 14) rfl⟩
      | 15, _ => exact ⟨_, _, rfl, List.mem_of_getElem? (i := 15) rfl⟩
    obtain ⟨v, d, hv, ha⟩ := key
    exact ⟨l3, _, _, v, rfl, rfl, SqL.of (k1 l3 _ upd_same (D1.ne upd_same fun _ z => nomatch z)), atI_nat hv, k v d H1 ha D2 ((Keep.of sA).trans k1)⟩
/-! ### labels, drawn -/
def L5 : List Str := ["", "n", "left", "right", "a b"]
theorem L5_nd : L5.Nodup := by decide +kernel
theorem L5_sub {x : Str} (h : x ∈ L5) : x ∈ LABS := List.mem_append_left (as := L5) ["later"] h
theorem L5_later : ("later" : Str) ∉ L5 := by decide +kernel
/-- drawn labels -/
structure Lbs (ws : List Str) : Prop where
  lab : ∀ x ∈ ws, x ∈ L5
  nd : ws.Nodup
  len : ws.length ≤ 5
theorem Lbs.wds {ws : List Str} (h : Lbs ws) : Wds ws := ⟨fun x m => L5_sub (h.lab x m), h.nd, h.len⟩
def spLbs : Sp := fun vs H Q _ => ∃ (p : Addr) (N m : Nat), vs = [.ref p, .int m] ∧ m ≤ 5 ∧ DrawAt H p N ∧ N < 100000 ∧ ∀ l ws H', Lbs ws → ws.length = m → H l = none → H' l = some (.lst (ws.map V.str)) → DrawAt H' p (N + m) → Keep p H H' → Q (.ref l) H'
theorem ok_lbs {f : Addr} {fd : FuncData} (F : FnP K "_law_labels" sLbs f fd) (N : Nm K mg) (D : Dr K mg) : FnOk P w K mg base CX0 3 f fd ["draw", "many"] spLbs := by
  obtain ⟨fX, dX, FX, gX⟩ := D.next
  obtain ⟨fM, dM, FM, gM⟩ := D.mixed
  have GX : FnOk P w K mg base CX0 2 fX dX ["draw", "bound"] spNext := ok_next FX FM gM N.len
  have bX : Binds K dX ["draw", "bound"] [] := FX.bindsN fun _ _ _ _ _ _ us hl => match us, hl with | [_, _], _ => rfl
  refine F.ok scLbs (fun vs H Q E h => ?_) (fun cdv A outer s H vs Q E hr h => ?_)
  · obtain ⟨p, n, m, rfl, _⟩ := h
    rfl
  · refine ⟨_, PSs.nox (pss_cons (ps_par (i := 2) (j := 3) rfl scLbs.nd rfl rfl (by decide) rfl rfl (pa_cons (pe_lst (pa_cons pe_str (pa_cons pe_str (pa_cons pe_str (pa_cons pe_str (pa_cons pe_str pa_nil)))))) (pa_cons (pe_lst pa_nil) pa_nil)) (by rfl))
      (pss_cons (ps_for PassesOwn.never rfl (pi_range1 (by rfl) N.rng (pa_cons (pv 1) pa_nil)) (pg_name (i := 4) scLbs.nd rfl (Or.inl rfl))
        (pss_one (ps_expr (pe_bm PySem.F.plainAttrs_list PySem.F.slot_list_append PySem.F.type_list_append mt_append (pv 3)
          (pa_cons (pe_bm PySem.F.plainAttrs_list PySem.F.slot_list_pop PySem.F.type_list_pop mt_popAt (pv 2) (pa_cons (pe_call GX hr (by rfl) gX FX.kp bX .nil pass0 (pa_cons (pv 0) (pa_cons (pe_callB call_len (by rfl) N.len PySem.boot_len (pa_cons (pv 2) pa_nil)) pa_nil))) pa_nil)) pa_nil)))))
      (pss_one (ps_ret (pv 3))))), ?_⟩
    obtain ⟨p, n, m, rfl, hm, D0, hn, k⟩ := h
    refine ⟨sz 5 (by decide), fun l1 n1 => ⟨Nat.zero_le _, fun l2 n2 => ⟨_, _, rfl, ?_⟩⟩⟩
    have s1 := same_new (o := .lst (L5.map V.str)) n1
    have s2 := same_new (o := .lst []) n2
    have n20 : H l2 = none := none_of s1 n2
    have D1 := D0.same (s1.tr s2)
    have n12 : l1 ≠ l2 := fun z => by rw [← z, upd_same] at n2; cases n2
    refine ⟨_, rfl, (m : Int), rfl, by omega, by omega, ?_⟩
    rw [Int.toNat_natCast]
    refine for_it walk_range (fun i σ H' => ∃ (t4 : Option V) (ws rest : List Str), σ = [some (.ref p), some (.int m), some (.ref l1), some (.ref l2), t4] ∧ ws.length = i ∧ (ws ++ rest).Perm L5 ∧ H' l1 = some (.lst (rest.map V.str)) ∧ H' l2 = some (.lst (ws.map V.str)) ∧ DrawAt H' p (n + i) ∧ Keep p H H') ⟨none, [], L5, rfl, rfl, List.Perm.refl _, (s2 _ _ upd_same), upd_same, D1, Keep.of (s1.tr s2)⟩ (fun _ _ _ _ _ => True.intro) ?_ ?_
    · rintro i x σ Ha Ha' hi ⟨t4, ws, rest, rfl, lw, pm, h1, h2, DA, kp⟩ ⟨eH, rfl⟩
      subst eH
      have ll : ws.length + rest.length = 5 := by
        have := pm.length_eq
        rw [List.length_append] at this
        exact this
      refine ⟨_, rfl, .inl ⟨rfl, _, SqL.of h2⟩, _, rfl, .inl ⟨rfl, _, SqL.of h1⟩, _, rfl, _, rfl, _, (rest.map V.str).length, rfl, .inl ⟨_, SqL.of h1, rfl⟩, ?_⟩
      rw [List.length_map]
      refine ⟨p, (rest.length : Nat), n + i, rfl, DA, by omega, by omega, by omega, fun r H1 ra rb D2 k1 => ?_⟩
      obtain ⟨j, rfl⟩ := Int.eq_ofNat_of_zero_le ra
      have hj : j < rest.length := by omega
      have h11 := k1 l1 _ h1 (DA.ne h1 fun _ z => nomatch z)
      have h12 := k1 l2 _ h2 (DA.ne h2 fun _ z => nomatch z)
      refine ⟨l1, rest.map V.str, j, j, .str (rest[j]'hj), rfl, rfl, h11, by omega, by omega, ?_, by rw [List.getElem?_map, List.getElem?_eq_getElem hj]; rfl, ?_⟩
      · unfold PySem.seqIndex?
        rw [List.length_map]
        simp
        omega
      have h22 : (upd H1 l1 (.lst ((rest.map V.str).eraseIdx j))) l2 = some (.lst (ws.map V.str)) := by rw [upd_ne n12.symm]; exact h12
      refine ⟨l2, _, _, rfl, rfl, h22, ?_, some (.int (0 + (i : Nat))), ws ++ [rest[j]'hj], rest.eraseIdx j, rfl, by rw [List.length_append, lw]; rfl, ?_, ?_, ?_, ?_, ?_⟩
      · rw [List.length_map]
        exact Nat.lt_of_le_of_lt (show ws.length ≤ 5 by omega) (by decide)
      · rw [List.append_assoc]
        refine List.Perm.trans (List.Perm.append_left ws ?_) pm
        exact pick_perm rest j hj
      · rw [upd_ne n12, upd_same]
        have e : (rest.map V.str).eraseIdx j = (rest.eraseIdx j).map V.str := erase_map _ _ _
        rw [e]
      · rw [upd_same, List.map_append]
        rfl
      · have q1 : l1 ≠ p := DA.ne h1 fun _ z => nomatch z
        have q2 : l2 ≠ p := DA.ne h2 fun _ z => nomatch z
        exact draw_updL (draw_updL D2 q1 h11 (cells_ne D0 (kp.trans k1) n1)) q2 h22 (cells_ne D0 (keep_updN (kp.trans k1) n1 q1) n20)
      · have q1 : l1 ≠ p := DA.ne h1 fun _ z => nomatch z
        have q2 : l2 ≠ p := DA.ne h2 fun _ z => nomatch z
        exact keep_updN (keep_updN (kp.trans k1) n1 q1) n20 q2
    · rintro σ H' ⟨t4, ws, rest, rfl, lw, pm, h1, h2, DA, kp⟩
      have nd : (ws ++ rest).Nodup := pm.nodup_iff.mpr L5_nd
      refine ⟨_, rfl, k l2 ws H' ⟨fun x m => pm.mem_iff.mp (List.mem_append_left _ m), (List.nodup_append.mp nd).1, by omega⟩ lw n20 h2 (by rw [← Nat.add_comm] at DA; rw [Nat.add_comm]; exact DA) kp⟩
end
end Kh

set_option Elab.async false
set_option linter.all false
set_option maxRecDepth 100000
set_option maxHeartbeats 4000000
namespace Kh
open PySem PySem.Spec PyProof.Rows L2 StX ClX
/-- a test by two tests -/
def tIfT (tA t1 t2 : TT) : TT := fun σ H Q => tA σ H fun b H1 => if b = true then t1 σ H1 Q else t2 σ H1 Q
theorem pt_ifT {X : Cx} {c a b : Expr} {pos : Pos} {tA t1 t2 : TT} (hc : PT X c tA) (ha : PT X a t1) (hb : PT X b t2) : PT X (.IfExp c a b pos) (tIfT tA t1 t2) := by
  refine ⟨fun pins s σ H Q I h => isTrue_IfExp (thn (hc.run pins s σ H _ I h) fun d s1 hh => ?_)⟩
  obtain ⟨H1, I1, q1⟩ := hh
  cases d with
  | true => exact ha.run pins s1 σ H1 Q I1 q1
  | false => exact hb.run pins s1 σ H1 Q I1 q1
/-! ### two lists of pairs, alike -/
abbrev sLike : Stmt := top 65
abbrev NK : List Str := ["pairs_here", "others", "one", "far", "other", "value_here", "is_node"]
theorem scLike : FnScope NK ["pairs_here", "others"] (defScope sLike) := ⟨rfl, rfl, rfl, by decide +kernel, rfl, by decide +kernel, by decide +kernel⟩
def spLike (K : PySem.W.Frag) : Sp := fun vs H Q _ => ∃ (a b : Addr) (ts us : List Addr) (kvs : List (Key × V)), vs = [.ref a, .ref b] ∧ SqL K H a (ts.map V.ref) ∧ SqL K H b (us.map V.ref) ∧ Prs H ts kvs ∧ Prs H us kvs ∧ Rws K H kvs ∧ kvs.length ≤ 100 ∧ ∀ H', Same H H' → Q (.bl true) H'
theorem sqL_to {K : PySem.W.Frag} {H H' : Hp} {a : Addr} {xs : List V} (s : Same H H') (h : SqL K H a xs) : SqL K H' a xs := s.seq h
section
variable {P : Program} {w : World} {K : PySem.W.Frag} {mg : Str → Option Value} {base : Heap}
theorem ok_like {f : Addr} {fd : FuncData} (F : FnP K "_law_like" sLike f fd) (N : Nm K mg) (SY : SysK K) : FnG P w K mg base CX0 2 f fd ["pairs_here", "others"] (spLike K) := by
  refine F.okG scLike (fun vs H Q E h => ?_) (fun cdv A outer s H vs Q E hgu hr h => ?_)
  · obtain ⟨a, b, ts, us, kvs, rfl, _⟩ := h
    rfl
  · have hu := hu_of hr
    refine ⟨_, PSs.nox (pss_cons (ps_if (pt_cmpR op_ne (pe_callB call_len (by rfl) N.len PySem.boot_len (pa_cons (pv 0) pa_nil)) (pe_callB call_len (by rfl) N.len PySem.boot_len (pa_cons (pv 1) pa_nil)) (nomark _)) (pss_one (ps_ret pe_bl)) pss_nil)
      (pss_cons (ps_for PassesOwn.never rfl (pi_zip (by rfl) N.zip (pa_cons (pv 0) (pa_cons (pv 1) pa_nil)))
          (pg_tup rfl (pgs_cons (pg_tup rfl (pgs_cons (pg_name (i := 2) scLike.nd rfl (Or.inl rfl)) (pgs_cons (pg_name (i := 3) scLike.nd rfl (Or.inl rfl)) pgs_nil))) (pgs_cons (pg_tup rfl (pgs_cons (pg_name (i := 4) scLike.nd rfl (Or.inl rfl)) (pgs_cons (pg_name (i := 5) scLike.nd rfl (Or.inl rfl)) pgs_nil))) pgs_nil)))
        (pss_cons (ps_set (i := 6) scLike.nd rfl (Or.inl rfl) (pe_or (pe_callB (call_isN N.dat) (by rfl) N.isi (by decide +kernel) (pa_cons (pv 3) (pa_cons (pe_glob (v := .ref (CN K)) (by rfl) N.node rfl) pa_nil))) (pe_one (pe_callB (call_isN N.dat) (by rfl) N.isi (by decide +kernel) (pa_cons (pv 5) (pa_cons (pe_glob (v := .ref (CN K)) (by rfl) N.node rfl) pa_nil))))))
        (pss_one (ps_if (PW.pt (pw_or (pt_cmpR op_ne (pv 2) (pv 4) (nomark _)) (pw_or1 (pt_ifT (pt_val (pv 6)) (pt_cmpR (op_neO hu) (pv 3) (pv 5) (nomark _))
            (pt_cmpR op_ne (pe_callB (call_repr hgu hr SY) (by rfl) N.repr boot_repr (pa_cons (pv 3) pa_nil)) (pe_callB (call_repr hgu hr SY) (by rfl) N.repr boot_repr (pa_cons (pv 5) pa_nil)) (nomark _)))))) (pss_one (ps_ret pe_bl)) pss_nil))))
      (pss_one (ps_ret pe_bl)))), ?_⟩
    obtain ⟨a, b, ts, us, kvs, rfl, ha, hb, ht, hu2, hR, hl, k⟩ := h
    have lt : ts.length = kvs.length := Paired.length ht
    have lu : us.length = kvs.length := Paired.length hu2
    refine ⟨_, rfl, _, kvs.length, rfl, .inl ⟨_, ha, by rw [List.length_map, lt]⟩, _, rfl, _, kvs.length, rfl, .inl ⟨_, hb, by rw [List.length_map, lu]⟩, rfl, _, rfl, iteNS rfl ?_⟩
    refine ⟨_, rfl, _, rfl, a, b, _, _, rfl, ha, hb, ?_⟩
    refine for_it (walk_zip (n := kvs.length) (xs := ts.map V.ref) (ys := us.map V.ref) (by rw [List.length_map, List.length_map, lt, lu, Nat.min_self])) (fun i σ H' => ∃ t2 t3 t4 t5 t6 : Option V, σ = [some (.ref a), some (.ref b), t2, t3, t4, t5, t6] ∧ Same H H') ⟨none, none, none, none, none, rfl, Same.refl'⟩ (fun i σ H' _ z => ?_) ?_ ?_
    · obtain ⟨_, _, _, _, _, rfl, s1⟩ := z
      exact ⟨sqL_to s1 ha, sqL_to s1 hb⟩
    · rintro i x σ H1 H2 hi ⟨t2, t3, t4, t5, t6, rfl, s1⟩ ⟨T, x1, x2, rfl, nT, rfl, e1, e2⟩
      have e1' : (ts.map V.ref)[i]? = some x1 := e1
      have e2' : (us.map V.ref)[i]? = some x2 := e2
      rw [List.getElem?_map] at e1' e2'
      obtain ⟨t, et, rfl⟩ := Option.map_eq_some_iff.mp e1'
      obtain ⟨u, eu, rfl⟩ := Option.map_eq_some_iff.mp e2'
      obtain ⟨r, er, ht1⟩ := LiI.paired_get ht et
      obtain ⟨r', er', hu1⟩ := LiI.paired_get hu2 eu
      rw [er] at er'
      cases er'
      have s2 := s1.tr (same_new (o := .tup [.ref t, .ref u]) nT)
      have mr := List.mem_of_getElem? er
      obtain ⟨z, _, ez⟩ := hR.key r mr
      obtain ⟨key, v⟩ := r
      have ez' : key = .inr z := ez
      subst ez'
      obtain ⟨kd, hv⟩ := (hR.val _ mr).to (KI.of s2)
      refine ⟨T, _, rfl, SqT.of upd_same, rfl, _, _, rfl, ⟨t, _, rfl, SqT.of (s2 _ _ ht1), rfl, _, _, rfl, _, _, rfl, rfl, _, _, rfl, ⟨u, _, rfl, SqT.of (s2 _ _ hu1), rfl, _, _, rfl, _, _, rfl, rfl, rfl, ?_⟩⟩⟩
      generalize upd H1 T (.tup [.ref t, .ref u]) = H2 at *
      cases kd with
      | nod C =>
        obtain ⟨⟨n, x, dx, fs, rfl, e⟩, ne⟩ := hv
        refine ⟨_, rfl, .ref x, .nod C, rfl, ⟨n, x, dx, fs, rfl, e⟩, _, rfl, iteT ?_⟩
        refine ⟨_, rfl, _, rfl, rfl, _, rfl, ?_⟩
        rw [decide_eq_true rfl]
        refine iteF ⟨_, rfl, _, rfl, iteT ⟨_, rfl, _, rfl, x, C, dx, fs, rfl, rfl, e, ne, _, rfl, iteF ⟨_, _, _, _, _, rfl, s2⟩⟩⟩
      | dat d =>
        have o := at_ok (show At v d from hv)
        have sd := o.sd K H2
        refine ⟨_, rfl, v, .dat d, rfl, sd, _, rfl, iteF ⟨_, rfl, v, .dat d, rfl, sd, ?_⟩⟩
        refine ⟨_, rfl, _, rfl, rfl, _, rfl, ?_⟩
        rw [decide_eq_true rfl]
        refine iteF ⟨_, rfl, _, rfl, iteF ⟨_, rfl, v, d, rfl, sd, o.show_, o.dep, o.len, _, rfl, v, d, rfl, sd, o.show_, o.dep, o.len, rfl, _, rfl, ?_⟩⟩
        rw [decide_eq_true rfl]
        exact iteF ⟨_, _, _, _, _, rfl, s2⟩
    · rintro σ H' ⟨t2, t3, t4, t5, t6, rfl, s1⟩
      exact k H' s1
end
end Kh

set_option Elab.async false
set_option linter.all false
set_option maxRecDepth 100000
set_option maxHeartbeats 4000000
namespace Kh
open PySem PySem.Spec PyProof.Rows L2 StX ClX
/-! ### a thing, drawn -/
/-- however the value comes about, what follows is the same -/
theorem by_fin {T : VK → Prop} {Q : VK} (P : V → Hp → Prop) (fin : ∀ v H, P v H → Q v H) (main : ∀ Q', (∀ v H, P v H → Q' v H) → T Q') : T Q := main Q fin
abbrev sThing : Stmt := top 64
abbrev NT : List Str := ["draw", "most", "made", "pairs_here", "one", "far"]
theorem scThing : FnScope NT ["draw", "most"] (defScope sThing) := ⟨rfl, rfl, rfl, by decide +kernel, rfl, by decide +kernel, by decide +kernel⟩
/-- the keys are drawn labels -/
def KL (kvs : List (Key × V)) : Prop := ∃ ws, Lbs ws ∧ kvs.map (·.1) = ws.map (Sum.inr (α := Int))
theorem KL.nd {kvs : List (Key × V)} (h : KL kvs) : (kvs.map (·.1)).Nodup := by
  obtain ⟨ws, W, e⟩ := h
  rw [e]
  exact inr_nodup W.nd
theorem KL.len {kvs : List (Key × V)} (h : KL kvs) : kvs.length ≤ 5 := by
  obtain ⟨ws, W, e⟩ := h
  have z := congrArg List.length e
  rw [List.length_map, List.length_map] at z
  have := W.len
  omega
def spThing (K : PySem.W.Frag) : Sp := fun vs H Q _ => ∃ (p : Addr) (N : Nat), vs = [.ref p, .int 5] ∧ DrawAt H p N ∧ N < 90000 ∧
  ∀ t n q l kvs H', Keep p H H' → DrawAt H' p (N + 40) → H' t = some (.tup [.ref n, .ref l]) → ThgAt K H' n q (.str "shop.item") kvs → PairsL K H' l kvs → Rws K H' kvs → KL kvs → q ≠ p → Q (.ref t) H'
theorem shop_free : freeB (.str "shop.item") = true := by kernel_rfl
theorem keys_val {kvs : List (Key × V)} {ws : List Str} {i : Nat} {x : Str} (nd : ws.Nodup) (e : kvs.map (·.1) = (ws.take i).map (Sum.inr (α := Int))) (hx : ws[i]? = some x) : valV kvs (.inr x) = none := by
  cases q : valV kvs (.inr x) with
  | none => rfl
  | some v =>
    have m := valV_in q
    rw [e] at m
    obtain ⟨y, my, ey⟩ := List.mem_map.mp m
    have ey' : y = x := by injection ey
    subst ey'
    obtain ⟨j, hj⟩ := List.mem_iff_getElem?.mp my
    rw [List.getElem?_take] at hj
    by_cases c : j < i
    · rw [if_pos c] at hj
      have hl : j < ws.length := by
        rcases Nat.lt_or_ge j ws.length with h | h
        · exact h
        · rw [List.getElem?_eq_none h] at hj
          cases hj
      have ji : j = i := (List.getElem?_inj hl nd).mp (hj.trans hx.symm)
      omega
    · rw [if_neg c] at hj
      cases hj
theorem prs_app {H : Hp} : ∀ {ts us : List Addr} {a b : List (Key × V)}, Prs H ts a → Prs H us b → Prs H (ts ++ us) (a ++ b)
  | _, _, _, _, .nil, y => y
  | _, _, _, _, .cons h r, y => .cons h (prs_app r y)
section
variable {P : Program} {w : World} {K : PySem.W.Frag} {mg : Str → Option Value} {base : Heap}
theorem ok_thing {f : Addr} {fd : FuncData} (F : FnP K "_law_thing" sThing f fd) (C : HkC K mg) (M : Mt K mg) (N : Nm K mg) (T : Ts K mg) (R : Rq K mg) (D : Dr K mg) (LA : ∃ f fd, FnP K "_law_atom" sAtom f fd ∧ mg "_law_atom" = some (.ref f)) (LB : ∃ f fd, FnP K "_law_labels" sLbs f fd ∧ mg "_law_labels" = some (.ref f)) : FnOk P w K mg base CX0 7 f fd ["draw", "most"] (spThing K) := by
  obtain ⟨fX, dX, FX, gX⟩ := D.next
  obtain ⟨fM, dM, FM, gM⟩ := D.mixed
  have GX : FnOk P w K mg base CX0 2 fX dX ["draw", "bound"] spNext := ok_next FX FM gM N.len
  have bX : Binds K dX ["draw", "bound"] [] := FX.bindsN fun _ _ _ _ _ _ us hl => match us, hl with | [_, _], _ => rfl
  obtain ⟨fA, dA, FA, gA⟩ := LA
  have GA : FnOk P w K mg base CX0 3 fA dA ["draw"] spAtom := ok_atom FA N D
  have bA : Binds K dA ["draw"] [] := FA.bindsN fun _ _ _ _ _ _ us hl => match us, hl with | [_], _ => rfl
  obtain ⟨fB, dB, FB, gB⟩ := LB
  have GB : FnOk P w K mg base CX0 3 fB dB ["draw", "many"] spLbs := ok_lbs FB N D
  have bB : Binds K dB ["draw", "many"] [] := FB.bindsN fun _ _ _ _ _ _ us hl => match us, hl with | [_, _], _ => rfl
  obtain ⟨fi, di, MI, FI⟩ := M.ti
  have GI : FnOk P w K mg base CX0 3 fi di ["self", "brand"] (spThgI K) := ok_thgI M.B FI N R
  have bI : Binds K di ["self", "brand"] [] := FI.bindsN fun _ _ _ _ _ _ us hl => match us, hl with | [_, _], _ => rfl
  obtain ⟨fs, ds, MS, FS⟩ := M.ts
  have GS : FnOk P w K mg base CX0 6 fs ds ["self", "label", "value"] (spSet K) := ok_set M.B FS N T R
  have bS : Binds K ds ["self", "label", "value"] [] := FS.bindsN fun _ _ _ _ _ _ us hl => match us, hl with | [_, _, _], _ => rfl
  obtain ⟨fr, dr, MR, FR⟩ := M.ri
  have GR : FnR P w K mg base CX0 2 fr (spRowI K) := ok_rowI M.rc M.rs FR N R
  refine F.ok scThing (fun vs H Q E h => ?_) (fun cdv A outer s H vs Q E hr h => ?_)
  · obtain ⟨p, n, rfl, _⟩ := h
    rfl
  · refine ⟨_, PSs.nox (pss_cons (ps_par (i := 2) (j := 3) rfl scThing.nd rfl rfl (by decide) rfl rfl (pa_cons (pe_make MI GI (hr.mono (by decide)) (by rfl) C.tm bI .nil pass0 (pa_cons pe_str pa_nil)) (pa_cons (pe_lst pa_nil) pa_nil)) (by rfl))
      (pss_cons (ps_for PassesOwn.never rfl (pi_list (pe_call GB (hr.mono (by decide)) (by rfl) gB FB.kp bB .nil pass0 (pa_cons (pv 0) (pa_cons (pe_call GX (hr.mono (by decide)) (by rfl) gX FX.kp bX .nil pass0 (pa_cons (pv 0) (pa_cons (pe_op op_add (pv 1) pe_int) pa_nil))) pa_nil)))) (pg_name (i := 4) scThing.nd rfl (Or.inl rfl))
        (pss_cons (ps_set (i := 5) scThing.nd rfl (Or.inl rfl) (pe_ifExp (pt_cmpR op_eq (pe_call GX (hr.mono (by decide)) (by rfl) gX FX.kp bX .nil pass0 (pa_cons (pv 0) (pa_cons pe_int pa_nil))) pe_int (nomark _)) (pv 2)
            (pe_ifExp (pt_cmpR op_eq (pe_call GX (hr.mono (by decide)) (by rfl) gX FX.kp bX .nil pass0 (pa_cons (pv 0) (pa_cons pe_int pa_nil))) pe_int (nomark _)) (pe_makeR0 MR GR (hr.mono (by decide)) (by rfl) C.rwm pass0) (pe_call GA (hr.mono (by decide)) (by rfl) gA FA.kp bA .nil pass0 (pa_cons (pv 0) pa_nil)))))
        (pss_cons (ps_expr (pe_meth (pv 2) M.B.cls MS GS hr bS .nil pass0 (pa_cons (pv 4) (pa_cons (pv 5) pa_nil))))
        (pss_one (ps_expr (pe_bm PySem.F.plainAttrs_list PySem.F.slot_list_append PySem.F.type_list_append mt_append (pv 3) (pa_cons (pe_tup (pa_cons (pv 4) (pa_cons (pv 5) pa_nil))) pa_nil)))))))
      (pss_one (ps_ret (pe_tup (pa_cons (pv 2) (pa_cons (pv 3) pa_nil))))))), ?_⟩
    obtain ⟨p, N0, rfl, D0, hN, k⟩ := h
    refine fun n dn nn nd ne => ⟨n, dn, "shop.item", H, rfl, upd_same, nn, fun b o e => ?_, by decide, shop_free, fun q H1 s1 nq hn hq => ⟨rfl, ?_⟩⟩
    · rw [upd_ne (ne_of_none e nn), upd_ne (ne_of_none e nd)]
      exact e
    refine ⟨Nat.zero_le _, fun l nl => ⟨_, _, rfl, ?_⟩⟩
    have s2 := s1.tr (same_new (o := .lst []) nl)
    have nl0 : H l = none := none_of s1 nl
    have nln : l ≠ n := fun z => by rw [z, hn] at nl; cases nl
    have nlq : l ≠ q := fun z => by rw [z, hq] at nl; cases nl
    have D1 := D0.same s2
    have op : ∃ o, H p = some o := by
      obtain ⟨_, _, _, _, _, h1, _⟩ := D0
      exact ⟨_, h1⟩
    obtain ⟨op, hp⟩ := op
    have nqp : q ≠ p := fun z => by rw [z, hp] at nq; cases nq
    have nlp : l ≠ p := fun z => by rw [z, hp] at nl0; cases nl0
    have nqn : n ≠ q := ne_of hn hq (by intro z; cases z)
    refine ⟨_, rfl, _, rfl, _, rfl, _, _, rfl, rfl, p, 5 + 1, N0, rfl, D1, by omega, by decide, by decide, fun r H2 ra rb D2 k1 => ?_⟩
    obtain ⟨m, rfl⟩ := Int.eq_ofNat_of_zero_le ra
    refine ⟨p, N0 + 1, m, rfl, by omega, D2, by omega, fun lw ws H3 W lm nlw hlw D3 k2 => ?_⟩
    have hn1 : (upd H1 l (.lst [])) n = some (.ins (CT K) dn (TF (.str "shop.item") q)) := by rw [upd_ne nln.symm]; exact hn
    have hq1 : (upd H1 l (.lst [])) q = some (.dK []) := by rw [upd_ne nlq.symm]; exact hq
    have nnp : n ≠ p := D1.ne hn1 fun _ z => nomatch z
    have K3 : Keep p H H3 := (Keep.of s2).trans (k1.trans k2)
    have k12 := k1.trans k2
    refine ⟨lw, rfl, ⟨_, SqL.of hlw⟩, for_it (walk_list (xs := ws.map V.str)) (fun i σ H' => ∃ (t4 t5 : Option V) (kvs : List (Key × V)) (ts : List Addr), σ = [some (.ref p), some (.int 5), some (.ref n), some (.ref l), t4, t5] ∧ H' n = some (.ins (CT K) dn (TF (.str "shop.item") q)) ∧ H' q = some (.dK kvs) ∧ H' l = some (.lst (ts.map V.ref)) ∧ Prs H' ts kvs ∧ Rws K H' kvs ∧
        kvs.map (·.1) = (ws.take i).map (Sum.inr (α := Int)) ∧ H' lw = some (.lst (ws.map V.str)) ∧ DrawAt H' p (N0 + 1 + m + 3 * i) ∧ Keep p H H') ⟨none, none, [], [], rfl, k12 n _ hn1 nnp, k12 q _ hq1 nqp, k12 l _ upd_same nlp, .nil, ⟨(fun _ m => nomatch m), fun _ m => nomatch m⟩, rfl, hlw, D3, K3⟩ (fun i σ H' _ z => ?_) ?_ ?_⟩
    · obtain ⟨_, _, _, _, rfl, _, _, _, _, _, _, z, _⟩ := z
      exact SqL.of z
    · rintro i y σ Ha Ha' hi ⟨t4, t5, kvs, ts, rfl, an, aq, al, ap, aR, ak, aw, aD, aK⟩ ⟨rfl, hx⟩
      rw [List.getElem?_map] at hx
      obtain ⟨x, ex, rfl⟩ := Option.map_eq_some_iff.mp hx
      have hi5 : i < 5 := by
        rw [List.length_map] at hi
        have := W.len
        omega
      have nlwl : lw ≠ l := fun z => by
        have y := k1 l _ upd_same nlp
        rw [z, y] at nlw
        cases nlw
      have lk : kvs.length = i := by
        have z := congrArg List.length ak
        rw [List.length_map, List.length_map, List.length_take] at z
        rw [List.length_map] at hi
        omega
      refine by_fin (T := tIf _ _ _ _ _) (fun v H5 => Val K H5 v ∧ Keep p Ha' H5 ∧ DrawAt H5 p (N0 + 1 + m + 3 * i + 3)) ?_ ?_
      · rintro v H5 ⟨hv, k5, D5⟩
        have nnp2 : n ≠ p := nnp
        have bn := k5 n _ an nnp
        have bq := k5 q _ aq nqp
        have bl := k5 l _ al nlp
        have nlwp : lw ≠ p := aD.ne aw fun _ z => nomatch z
        have bw := k5 lw _ aw nlwp
        have bp : Prs H5 ts kvs := ap.mono fun t a b e => k5 t _ e (aD.ne e fun _ z => nomatch z)
        have bI5 : KI Ha' H5 := fun a C dx fs e => k5 a _ e (aD.ne e fun _ z => nomatch z)
        have kv0 : valV kvs (.inr x) = none := keys_val W.nd ak ex
        have mx := W.lab x (List.mem_of_getElem? ex)
        refine ⟨_, rfl, n, dn, _, rfl, bn, rfl, _, rfl, _, rfl, n, q, .str "shop.item", kvs, x, v, rfl, ⟨dn, bn, bq⟩, by omega, lab_len (L5_sub mx), hv, ?_⟩
        have hput : putK kvs (.inr x) v = kvs ++ [(.inr x, v)] := putK_new _ kv0
        rw [hput]
        have cl : (upd H5 q (.dK (kvs ++ [(.inr x, v)]))) l = some (.lst (ts.map V.ref)) := by rw [upd_ne nlq]; exact bl
        refine ⟨_, rfl, .inl ⟨rfl, _, SqL.of cl⟩, _, rfl, _, rfl, (by show 2 ≤ sizeLine; decide), fun t nt => ?_⟩
        have st := same_new (o := .tup [.str x, v]) nt
        refine ⟨l, _, _, rfl, rfl, st _ _ cl, ?_, ?_⟩
        · have z := Paired.length bp
          rw [List.length_map]
          exact Nat.lt_of_le_of_lt (show ts.length ≤ 5 by omega) (by decide)
        have ntl : t ≠ l := fun z => by rw [z, cl] at nt; cases nt
        have ntq : t ≠ q := fun z => by rw [z, upd_same] at nt; cases nt
        have ntn : t ≠ n := fun z => by rw [z, upd_ne nqn, bn] at nt; cases nt
        have nt5 : H5 t = none := by rw [upd_ne ntq] at nt; exact nt
        have fq : ∀ o, (upd (upd (upd H5 q (.dK (kvs ++ [(.inr x, v)]))) t (.tup [.str x, v])) l o) q = some (.dK (kvs ++ [(.inr x, v)])) := fun o => by rw [upd_ne nlq.symm, upd_ne ntq.symm, upd_same]
        have fI : ∀ o, KI H5 (upd (upd (upd H5 q (.dK (kvs ++ [(.inr x, v)]))) t (.tup [.str x, v])) l o) := fun o a C dx fs e => by
          rw [upd_ne (ne_of e bl (by intro z; cases z)), upd_ne (ne_of_none e nt5), upd_ne (ne_of e bq (by intro z; cases z))]
          exact e
        have ft : ∀ o, ∀ t1 a b, H5 t1 = some (.tup [a, b]) → (upd (upd (upd H5 q (.dK (kvs ++ [(.inr x, v)]))) t (.tup [.str x, v])) l o) t1 = some (.tup [a, b]) := fun o t1 a b e => by
          rw [upd_ne (ne_of e bl (by intro z; cases z)), upd_ne (ne_of_none e nt5), upd_ne (ne_of e bq (by intro z; cases z))]
          exact e
        refine ⟨some (.str x), some v, kvs ++ [(.inr x, v)], ts ++ [t], rfl, fI _ _ _ _ _ bn, fq _, by rw [upd_same, List.map_append]; rfl, ?_, ?_, ?_, ?_, ?_, ?_⟩
        · exact prs_app (bp.mono (ft _)) (.cons (by show _ = _; rw [upd_ne ntl, upd_same]; rfl) .nil)
        · refine ⟨fun r mr => ?_, fun r mr => ?_⟩
          · rcases List.mem_append.mp mr with mr | mr
            · exact aR.key r mr
            · rw [List.mem_singleton.mp mr]
              exact ⟨x, L5_sub mx, rfl⟩
          · rcases List.mem_append.mp mr with mr | mr
            · exact ((aR.val r mr).to bI5).to (fI _)
            · rw [List.mem_singleton.mp mr]
              exact hv.to (fI _)
        · rw [List.map_append, ak, List.take_add_one, ex, List.map_append]
          rfl
        · rw [upd_ne nlwl, upd_ne (ne_of_none bw nt5), upd_ne (ne_of bw bq (by intro z; cases z))]
          exact bw
        · have d1 : DrawAt (upd H5 q (.dK (kvs ++ [(.inr x, v)]))) p (N0 + 1 + m + 3 * i + 3) := by
            obtain ⟨c, cs, a, lf, us, g1, g2, r⟩ := D5
            exact ⟨c, cs, a, lf, us, by rw [upd_ne nqp.symm]; exact g1, by rw [upd_ne (ne_of g2 bq (by intro z; cases z))]; exact g2, r⟩
          have k6 : Keep p H (upd H5 q (.dK (kvs ++ [(.inr x, v)]))) := keep_updN (aK.trans k5) nq nqp
          have d2 := d1.same st
          have k7 : Keep p H (upd (upd H5 q (.dK (kvs ++ [(.inr x, v)]))) t (.tup [.str x, v])) := k6.trans (Keep.of st)
          have d3 := draw_updL (ys := ts.map V.ref ++ [.ref t]) d2 nlp (st _ _ cl) (cells_ne D0 k7 nl0)
          exact d3.mono (by omega)
        · have k6 : Keep p H (upd H5 q (.dK (kvs ++ [(.inr x, v)]))) := keep_updN (aK.trans k5) nq nqp
          exact keep_updN (k6.trans (Keep.of st)) nl0 nlp
      · intro Q' fin
        refine ⟨_, rfl, p, 5, _, rfl, aD, by omega, by decide, by decide, fun r1 H4 _ _ D4 k4 => ⟨rfl, _, rfl, ?_⟩⟩
        generalize decide (V.int r1 = V.int 0) = b1
        cases b1 with
        | true => exact iteT ⟨_, rfl, fin _ _ ⟨⟨.nod (CT K), ⟨C.tn, n, dn, _, rfl, k4 n _ an nnp⟩, C.tne⟩, k4, D4.mono (by omega)⟩⟩
        | false =>
          refine iteF ⟨_, rfl, p, 4, _, rfl, D4, by omega, by decide, by decide, fun r2 H5 _ _ D5 k5 => ⟨rfl, _, rfl, ?_⟩⟩
          generalize decide (V.int r2 = V.int 0) = b2
          cases b2 with
          | true =>
            refine iteT fun a dx na nd ne => ⟨a, dx, H5, rfl, upd_same, na, fun b o e => ?_, fun H6 fs s6 h6 => ⟨rfl, fin _ _ ⟨⟨.nod (CR K), ⟨C.rn, a, dx, fs, rfl, h6⟩, C.rne⟩, (k4.trans k5).trans (Keep.of s6), (D5.same s6).mono (by omega)⟩⟩⟩
            rw [upd_ne (ne_of_none e na), upd_ne (ne_of_none e nd)]
            exact e
          | false => exact iteF ⟨_, rfl, p, _, rfl, D5, by omega, fun v d H6 ha D6 k6 => fin v H6 ⟨⟨.dat d, ha⟩, (k4.trans k5).trans k6, D6.mono (by omega)⟩⟩
    · rintro σ H' ⟨t4, t5, kvs, ts, rfl, an, aq, al, ap, aR, ak, aw, aD, aK⟩
      rw [List.length_map, List.take_length] at ak
      rw [List.length_map] at aD
      have W5 := W.len
      refine ⟨_, rfl, _, rfl, (by show 2 ≤ sizeLine; decide), fun t nt => ?_⟩
      have st := same_new (o := .tup [.ref n, .ref l]) nt
      exact k t n q l kvs _ (aK.trans (Keep.of st)) ((aD.same st).mono (by omega)) upd_same ⟨dn, st _ _ an, st _ _ aq⟩ ⟨ts, st _ _ al, ap.to st⟩ (aR.to (KI.of st)) ⟨ws, W, ak⟩ nqp
end
end Kh

set_option Elab.async false
set_option linter.all false
set_option maxRecDepth 100000
set_option maxHeartbeats 4000000
namespace Kh
open PySem PySem.Spec PyProof.Rows L2 StX ClX
/-! ### Fields, looked at -/
abbrev sFR : Stmt := top 66
abbrev NF : List Str := ["draw", "words", "items", "hook", "first_word", "next_word", "one", "other", "due", "at"]
theorem scFR : FnScope NF ["draw", "words", "items"] (defScope sFR) := ⟨rfl, rfl, rfl, by decide +kernel, rfl, by decide +kernel, by decide +kernel⟩
/-- however a statement ends, what follows is the same -/
theorem by_nx {T : (L2.St → Hp → Prop) → Prop} {R : L2.St → Hp → Prop} (P : L2.St → Hp → Prop) (fin : ∀ σ H, P σ H → R σ H) (main : ∀ R', (∀ σ H, P σ H → R' σ H) → T R') : T R := main R fin
/-- called by keywords, in any order -/
theorem kbn_of {K : PySem.W.Frag} {x qual : Str} {params : Arguments} {body : List Stmt} {scope : Scope} {kws : List (Str × V)} {f : Addr} {fd : FuncData} {ps ks : List Str} {n : Nat} {g : List Value → List Value → List Value} {gV : List V → List V → List V} (F : FunD K x qual params body scope [] kws f fd)
    (h : ∀ (kV doc pm : Value) (an : Option Addr) (cdv ct : Value) (us ws : List Value), us.length = n → ws.length = ks.length → bindArgs (PySem.W.fnOf x qual params body scope .none kV doc pm an cdv ct) ⟨us, ks.zip ws⟩ = pure (ps.zip (g us ws)))
    (rel : ∀ {vs : List V} {us : List Value} {zs : List V} {ws : List Value}, Vals vs us → Vals zs ws → Vals (gV vs zs) (g us ws)) : KBn K fd ps n ks g gV := by
  obtain ⟨oc, od, dV, kV, doc, pm, an, cdv, ct, osl, rfl, lk, hcd, hD, hK⟩ := F.ex
  rcases hD with ⟨_, rfl⟩ | ⟨e, _⟩
  · exact ⟨fun s us ws _ h1 h2 => .of_eq (h kV doc pm an cdv ct us ws h1 h2), rel⟩
  · exact absurd rfl e
/-- where the hooks' calls stand -/
structure Hc (K : PySem.W.Frag) (mg : Str → Option Value) : Prop where
  C : HkC K mg
  M : Mt K mg
  fi : ∃ f fd, Mk K (CF K) f ∧ FnM K "__init__" "Fields.__init__" sFI [] f fd
  fc : ∃ f fd, Meth K (CF K) "__call__" f ∧ FnM K "__call__" "Fields.__call__" sFC [] f fd
  si : ∃ f fd, Mk K (CS K) f ∧ FnM K "__init__" "Single.__init__" sSI [] f fd
  sc : ∃ f fd, Meth K (CS K) "__call__" f ∧ FnM K "__call__" "Single.__call__" sSC [] f fd
  pi : ∃ f fd, Mk K (CP K) f ∧ FnM K "__init__" "Parts.__init__" sPI [] f fd
  pc : ∃ f fd, Meth K (CP K) "__call__" f ∧ FnM K "__call__" "Parts.__call__" sPC [] f fd
  wc : ∃ f fd, Meth K (CW K) "__call__" f ∧ FnM K "__call__" "Whole.__call__" sWC [] f fd
  xc : ∃ f fd, Meth K (CX_ K) "__call__" f ∧ FnM K "__call__" "Refill.__call__" sXC [] f fd
  like : ∃ f fd, FnP K "_law_like" sLike f fd ∧ mg "_law_like" = some (.ref f)
theorem iteD {p A B : Prop} [Decidable p] (h : p) (a : A) : if decide p = true then A else B := by
  rw [decide_eq_true h]
  exact iteT a
theorem iteDN {p A B : Prop} [Decidable p] (h : ¬ p) (b : B) : if decide p = true then A else B := by
  rw [decide_eq_false h]
  exact iteF b
theorem int_ne {i j : Int} (h : i ≠ j) : ¬ V.int i = V.int j := fun z => h (by injection z)
def spFR (K : PySem.W.Frag) : Sp := fun vs H Q _ => ∃ (x : V) (lw li : Addr) (ws : List Str) (ys : List V), vs = [x, .ref lw, .ref li] ∧ SqL K H lw (ws.map V.str) ∧ SqL K H li ys ∧ ys.length = ws.length ∧ Lbs ws ∧ ws.length ≤ 3 ∧ (∀ v ∈ ys, Val K H v) ∧ ∀ H', Same H H' → Q (.bl true) H'
theorem ab_free : freeB (.str "a.b") = true := by kernel_rfl
section
variable {P : Program} {w : World} {K : PySem.W.Frag} {mg : Str → Option Value} {base : Heap} {f : Addr} {cdv : Value} {A : Around} {outer : List Env} {s : Shared} {H : Hp} {E : XK}
abbrev XF (P : Program) (w : World) (K : PySem.W.Frag) (mg : Str → Option Value) (base : Heap) (f : Addr) (cdv : Value) (A : Around) (outer : List Env) (s : Shared) (H : Hp) (E : XK) : Cx := (cxOf CX0 P w K mg base NF "_law_fields_right" (defScope sFR) f cdv A outer s H E).nox
def sF (k : Nat) : Stmt := (defBody sFR).getD k (.Pass ⟨0, 0, 0, 0⟩)
/-- a hook with the words -/
def HookF (K : PySem.W.Frag) (H : Hp) (hk : Addr) (ws : List Str) : Prop := ∃ dk t, H hk = some (.ins (CF K) dk [("_brand", .str "a.b"), ("_labels", .ref t)]) ∧ H t = some (.tup (ws.map V.str))
theorem fr_s0 (G : Hc K mg) (N : Nm K mg) (T : Ts K mg) (R : Rq K mg) (hr : Room 8 (XF P w K mg base f cdv A outer s H E).A) :
    ∃ t, PS (XF P w K mg base f cdv A outer s H E) (sF 0) t ∧ ∀ (D : Ends) (H0 : Hp) (x : V) (lw li : Addr) (ws : List Str), SqL K H0 lw (ws.map V.str) → Lbs ws → ws.length ≤ 3 →
      (∀ H1 hk t4 t5, Same H0 H1 → HookF K H1 hk ws → D.nx [some x, some (.ref lw), some (.ref li), some (.ref hk), t4, t5, none, none, none, none] H1) → t D [some x, some (.ref lw), some (.ref li), none, none, none, none, none, none, none] H0 := by
  obtain ⟨fi, di, MI, FI⟩ := G.fi
  have GI : FnR P w K mg base CX0 4 fi (spFI K) := ok_fi G.C FI N T R
  refine ⟨_, ps_if (pt_cmpR op_eq (pe_callB call_len (by rfl) N.len PySem.boot_len (pa_cons (pv 1) pa_nil)) pe_int (nomark _)) (pss_one (ps_set (i := 3) scFR.nd rfl (Or.inl rfl) (pe_makeR MI GI (hr.mono (by decide)) (by rfl) G.C.fm pass0 (pa_cons pe_str pa_nil))))
    (pss_one (ps_if (pt_cmpR op_eq (pe_callB call_len (by rfl) N.len PySem.boot_len (pa_cons (pv 1) pa_nil)) pe_int (nomark _)) (pss_one (ps_set (i := 3) scFR.nd rfl (Or.inl rfl) (pe_makeR MI GI (hr.mono (by decide)) (by rfl) G.C.fm pass0 (pa_cons pe_str (pa_cons (pe_ix (show IxR _ (rIxL K) from ix_list) (pv 1) pe_int (fun _ _ => rfl)) pa_nil)))))
      (pss_cons (ps_asg (pe_slice (show SlR _ (rSlL K) from sl_list) (pv 1) po_none (po_some pe_int)) (pg_lst rfl (pgs_cons (pg_name (i := 4) scFR.nd rfl (Or.inl rfl)) (pgs_cons (pg_name (i := 5) scFR.nd rfl (Or.inl rfl)) pgs_nil))))
      (pss_cons (ps_set (i := 3) scFR.nd rfl (Or.inl rfl) (pe_makeR MI GI (hr.mono (by decide)) (by rfl) G.C.fm pass0 (pa_cons pe_str (pa_cons (pv 4) (pa_cons (pv 5) pa_nil)))))
      (pss_one (ps_if (pt_cmpR op_eq (pe_callB call_len (by rfl) N.len PySem.boot_len (pa_cons (pv 1) pa_nil)) pe_int (nomark _)) (pss_one (ps_set (i := 3) scFR.nd rfl (Or.inl rfl) (pe_makeR MI GI (hr.mono (by decide)) (by rfl) G.C.fm pass0 (pa_cons pe_str (pa_cons (pv 4) (pa_cons (pv 5) (pa_cons (pe_ix (show IxR _ (rIxL K) from ix_list) (pv 1) pe_int (fun _ _ => rfl)) pa_nil))))))) pss_nil)))))), ?_⟩
  intro D H0 x lw li ws hw W l3 k
  have pre : ∀ (H1 : Hp) (n dn : Addr), H1 n = none → H1 dn = none → Same H1 (upd (upd H1 dn (.own n)) n (.ins (CF K) dn [])) := fun H1 n dn nn nd b o e => by
    rw [upd_ne (ne_of_none e nn), upd_ne (ne_of_none e nd)]
    exact e
  have W' := W.wds
  rcases ws with _ | ⟨x0, _ | ⟨x1, _ | ⟨x2, ws⟩⟩⟩
  · refine ⟨_, rfl, _, 0, rfl, .inl ⟨_, hw, rfl⟩, rfl, _, rfl, iteD rfl ?_⟩
    refine fun n dn nn nd ne => ⟨n, dn, "a.b", [], _, rfl, upd_same, nn, pre _ _ _ nn nd, ab_free, by decide, W', fun t H2 s' h1 h2 => ⟨rfl, ?_⟩⟩
    exact k H2 n none none s' ⟨dn, t, h1, h2⟩
  · refine ⟨_, rfl, _, 1, rfl, .inl ⟨_, hw, rfl⟩, rfl, _, rfl, iteDN (int_ne (by decide)) ?_⟩
    refine ⟨_, rfl, _, 1, rfl, .inl ⟨_, hw, rfl⟩, rfl, _, rfl, iteD rfl ?_⟩
    refine ⟨_, rfl, lw, _, 0, .str x0, rfl, rfl, hw, rfl, ?_⟩
    refine fun n dn nn nd ne => ⟨n, dn, "a.b", [x0], _, rfl, upd_same, nn, pre _ _ _ nn nd, ab_free, by decide, W', fun t H2 s' h1 h2 => ⟨rfl, ?_⟩⟩
    exact k H2 n none none s' ⟨dn, t, h1, h2⟩
  · refine ⟨_, rfl, _, 2, rfl, .inl ⟨_, hw, rfl⟩, rfl, _, rfl, iteDN (int_ne (by decide)) ?_⟩
    refine ⟨_, rfl, _, 2, rfl, .inl ⟨_, hw, rfl⟩, rfl, _, rfl, iteDN (int_ne (by decide)) ?_⟩
    refine ⟨_, rfl, _, rfl, lw, _, rfl, hw, fun p np => ?_⟩
    have e : cutV ([x0, x1].map V.str) none (some 2) = [.str x0, .str x1] := rfl
    rw [e]
    have s1 := same_new (o := .lst [V.str x0, .str x1]) np
    refine ⟨p, _, rfl, SqL.of upd_same, rfl, _, _, rfl, _, _, rfl, rfl, ?_⟩
    refine ⟨_, rfl, _, rfl, ?_⟩
    refine fun n dn nn nd ne => ⟨n, dn, "a.b", [x0, x1], _, rfl, upd_same, nn, pre _ _ _ nn nd, ab_free, by decide, W', fun t H2 s' h1 h2 => ⟨rfl, ?_⟩⟩
    have s2 := s1.tr s'
    exact ⟨_, rfl, _, 2, rfl, .inl ⟨_, sqL_to s2 hw, rfl⟩, rfl, _, rfl, iteDN (int_ne (by decide)) (k H2 n _ _ s2 ⟨dn, t, h1, h2⟩)⟩
  · obtain rfl : ws = [] := by
      cases ws with
      | nil => rfl
      | cons a b =>
        rw [List.length_cons, List.length_cons, List.length_cons, List.length_cons] at l3
        omega
    refine ⟨_, rfl, _, 3, rfl, .inl ⟨_, hw, rfl⟩, rfl, _, rfl, iteDN (int_ne (by decide)) ?_⟩
    refine ⟨_, rfl, _, 3, rfl, .inl ⟨_, hw, rfl⟩, rfl, _, rfl, iteDN (int_ne (by decide)) ?_⟩
    refine ⟨_, rfl, _, rfl, lw, _, rfl, hw, fun p np => ?_⟩
    have e : cutV ([x0, x1, x2].map V.str) none (some 2) = [.str x0, .str x1] := rfl
    rw [e]
    have s1 := same_new (o := .lst [V.str x0, .str x1]) np
    have W2 : Wds [x0, x1] := ⟨fun z m => W'.lab z (by simp at m ⊢; rcases m with m | m <;> simp [m]), by
      have z := W'.nd
      simp at z ⊢
      exact z.1.1, (by show 2 ≤ 5; decide)⟩
    refine ⟨p, _, rfl, SqL.of upd_same, rfl, _, _, rfl, _, _, rfl, rfl, ?_⟩
    refine ⟨_, rfl, _, rfl, ?_⟩
    refine fun n dn nn nd ne => ⟨n, dn, "a.b", [x0, x1], _, rfl, upd_same, nn, pre _ _ _ nn nd, ab_free, by decide, W2, fun t H2 s' h1 h2 => ⟨rfl, ?_⟩⟩
    have s2 := s1.tr s'
    refine ⟨_, rfl, _, 3, rfl, .inl ⟨_, sqL_to s2 hw, rfl⟩, rfl, _, rfl, iteD rfl ?_⟩
    refine ⟨_, rfl, _, rfl, _, rfl, lw, _, 2, .str x2, rfl, rfl, sqL_to s2 hw, rfl, ?_⟩
    refine fun n dn nn nd ne => ⟨n, dn, "a.b", [x0, x1, x2], _, rfl, upd_same, nn, pre _ _ _ nn nd, ab_free, by decide, W', fun t H3 s' h1 h2 => ⟨rfl, ?_⟩⟩
    exact k H3 n _ _ (s2.tr s') ⟨dn, t, h1, h2⟩
end
end Kh

set_option Elab.async false
set_option linter.all false
set_option maxRecDepth 100000
set_option maxHeartbeats 4000000
namespace Kh
open PySem PySem.Spec PyProof.Rows L2 StX ClX
theorem fr_body : defBody sFR = [sF 0, sF 1, sF 2, sF 3, sF 4, sF 5] := rfl
theorem cut_last (xs : List V) (y : V) : cutV (xs ++ [y]) none (some (-1)) = xs := by
  have e : (HT.sIx (xs ++ [y]).length (xs ++ [y]).length (some (-1))) = xs.length := by
    show (if (-1 : Int) < 0 then ((-1 : Int) + ((xs ++ [y]).length : Int)).toNat else min (-1 : Int).toNat (xs ++ [y]).length) = _
    rw [if_pos (by decide), List.length_append]
    show ((-1 : Int) + ((xs.length + 1 : Nat) : Int)).toNat = _
    omega
  unfold cutV
  rw [e]
  show ((xs ++ [y]).drop 0).take (xs.length - 0) = xs
  rw [List.drop_zero, Nat.sub_zero, List.take_left']
  rfl
theorem zk_get {ws : List Str} {ys : List V} {i : Nat} {x : Str} {y : V} (h1 : ws[i]? = some x) (h2 : ys[i]? = some y) : (zk ws ys)[i]? = some (.inr x, y) := by
  unfold zk
  rw [List.getElem?_map]
  have z : (ws.zip ys)[i]? = some (x, y) := List.getElem?_zip_eq_some.mpr ⟨h1, h2⟩
  rw [z]
  rfl
theorem ref_snoc {H : Hp} {r : Key × V} : ∀ {kvs : List (Key × V)} {ts : List Addr}, Prs H ts (kvs ++ [r]) → ∃ us u, ts = us ++ [u] ∧ Prs H us kvs
  | [], ts, h => by
    cases h with
    | cons h1 h2 =>
      cases h2
      exact ⟨[], _, rfl, .nil⟩
  | k :: kvs, ts, h => by
    cases h with
    | cons h1 h2 =>
      obtain ⟨us, u, e, p⟩ := ref_snoc h2
      exact ⟨_ :: us, u, by rw [e]; rfl, .cons h1 p⟩
theorem later_none {kvs : List (Key × V)} {ws : List Str} (W : ∀ x ∈ ws, x ∈ L5) (e : kvs.map (·.1) = ws.map (Sum.inr (α := Int))) : valV kvs (.inr "later") = none := by
  cases q : valV kvs (.inr "later") with
  | none => rfl
  | some v =>
    have m := valV_in q
    rw [e] at m
    obtain ⟨y, my, ey⟩ := List.mem_map.mp m
    have ey' : y = "later" := by injection ey
    rw [ey'] at my
    exact absurd (W _ my) L5_later
theorem later_val (K : PySem.W.Frag) (H : Hp) : Val K H (.int 5) := ⟨.dat (.int 5), List.mem_of_getElem? (i := 16) rfl⟩
theorem ab_eqv : PyData.eqv (.list [.str "a.b", .str "a.b", .bool true]) (.list [.str "a.b", .str "a.b", .bool true]) = true := by decide +kernel
section
variable {P : Program} {w : World} {K : PySem.W.Frag} {mg : Str → Option Value} {base : Heap}
theorem ok_fr {f : Addr} {fd : FuncData} (F : FnP K "_law_fields_right" sFR f fd) (G : Hc K mg) (N : Nm K mg) (T : Ts K mg) (R : Rq K mg) (SY : SysK K) : FnG P w K mg base CX0 9 f fd ["draw", "words", "items"] (spFR K) := by
  obtain ⟨fc, dc, MC, FC⟩ := G.fc
  have GC : FnOk P w K mg base CX0 8 fc dc ["self", "arguments"] (spFC K) := ok_fc G.C G.M FC N T R
  have bC : L2.Binds K dc ["self", "arguments"] [] := FC.bindsN fun _ _ _ _ _ _ us hl => match us, hl with | [_, _], _ => rfl
  have kC : KBn K dc ["self", "arguments"] 1 ["arguments"] (fun us ws => us ++ ws) (fun vs zs => vs ++ zs) := kbn_of FC (fun _ _ _ _ _ _ us ws h1 h2 => match us, ws, h1, h2 with | [_], [_], _, _ => rfl) (fun r1 r2 => r1.append r2)
  obtain ⟨fl, dl, FL, gL⟩ := G.like
  have GL : FnG P w K mg base CX0 2 fl dl ["pairs_here", "others"] (spLike K) := ok_like FL N SY
  have bL : L2.Binds K dl ["pairs_here", "others"] [] := FL.bindsN fun _ _ _ _ _ _ us hl => match us, hl with | [_, _], _ => rfl
  obtain ⟨fs, ds, MS, FS⟩ := G.M.ts
  have GS : FnOk P w K mg base CX0 6 fs ds ["self", "label", "value"] (spSet K) := ok_set G.M.B FS N T R
  have bS : L2.Binds K ds ["self", "label", "value"] [] := FS.bindsN fun _ _ _ _ _ _ us hl => match us, hl with | [_, _, _], _ => rfl
  obtain ⟨pb, fb, db, PB, FB⟩ := G.M.tb
  have GB : FnOk P w K mg base CX0 1 fb db ["self"] (spFld (CT K) "_brand") := ok_fld rfl scThgB (by first | exact .inl rfl | rfl) G.M.B.cls G.M.B.noB FB
  have bB : L2.Binds K db ["self"] [] := FB.bindsN fun _ _ _ _ _ _ us hl => match us, hl with | [_], _ => rfl
  obtain ⟨pf, ff, df, PF, FF⟩ := G.M.tf
  have GF : FnOk P w K mg base CX0 1 ff df ["self"] (spFields K) := ok_fields G.M.B FF N
  have bF : L2.Binds K df ["self"] [] := FF.bindsN fun _ _ _ _ _ _ us hl => match us, hl with | [_], _ => rfl
  refine F.okG scFR (fun vs H Q E h => ?_) (fun cdv A outer s H vs Q E hgu hr h => ?_)
  · obtain ⟨x, lw, li, ws, ys, rfl, _⟩ := h
    rfl
  · have hu := Nat.lt_of_succ_lt (hu_of hr)
    obtain ⟨t0, p0, q0⟩ := fr_s0 (P := P) (w := w) (base := base) (f := f) (cdv := cdv) (A := A) (outer := outer) (s := s) (H := H) (E := E) G N T R hr
    have p1 : PS (XF P w K mg base f cdv A outer s H E) (sF 1) _ := ps_par (i := 6) (j := 7) rfl scFR.nd rfl rfl (by decide) rfl rfl
      (pa_cons (pe_hook MC FC.fnI GC hr bC pass0 (pv 3) (pa_cons (pe_callTy call_tuple_of (by rfl) N.tuple (by decide +kernel) (pa_cons (pv 2) pa_nil)) pa_nil))
      (pa_cons (pe_hookK MC FC.fnI GC hr kC pass0 (pv 3) (pk_cons (pe_callTy (show CallR _ (.type "tuple") _ from call_tuple_of) (by rfl) N.tuple (by decide +kernel) (pa_cons (pv 2) pa_nil)) pk_nil)) pa_nil)) (by rfl)
    have p2 : PS (XF P w K mg base f cdv A outer s H E) (sF 2) _ := ps_if (PW.pt (pw_or (pt_cmpR (op_eqO hu) (pv 6) (pv 7) (nomark _)) (pw_or1 (pt_cmpR (op_neD hr.units)
        (pe_lst (pa_cons (pe_prop (pv 6) G.M.B.cls PB GB (hr.mono (by decide)) bB .nil pass0 (by rfl)) (pa_cons (pe_prop (pv 7) G.M.B.cls PB GB (hr.mono (by decide)) bB .nil pass0 (by rfl)) (pa_cons (pe_callB (call_isC (CN := CN K)) (by rfl) N.isi (by decide +kernel) (pa_cons (pv 6) (pa_cons (pe_glob (v := .ref (CT K)) (by rfl) G.C.tm rfl) pa_nil))) pa_nil))))
        (pe_lst (pa_cons pe_str (pa_cons pe_str (pa_cons pe_bl pa_nil)))) (nomark _))))) (pss_one (ps_ret pe_bl)) pss_nil
    have p3 : PS (XF P w K mg base f cdv A outer s H E) (sF 3) _ := ps_setLc (i := 8) (own := [("at", 9)]) (g := gName 9) (tt := tYes) rfl scFR.nd rfl rfl (sw_true rfl rfl rfl rfl) (pi_range1 (by rfl) N.rng (pa_cons (pe_callB call_len (by rfl) N.len PySem.boot_len (pa_cons (pv 1) pa_nil)) pa_nil)) (blkOk_by (own := [("at", 9)]) (N := NF) (sc := defScope sFR) (by decide +kernel))
          (fun _ _ _ _ _ => pg_name (i := 9) scFR.nd rfl (Or.inl rfl)) (fun _ _ _ _ _ => pts_nil) (fun _ _ _ _ _ => pe_tup (pa_cons (pe_ix (show IxR _ (rIxL K) from ix_list) (pv 1) (pv 9) (fun _ _ => rfl)) (pa_cons (pe_ix (show IxR _ (rIxL K) from ix_list) (pv 2) (pv 9) (fun _ _ => rfl)) pa_nil)))
    have p4 : PS (XF P w K mg base f cdv A outer s H E) (sF 4) _ := ps_expr (pe_meth (pv 6) G.M.B.cls MS GS (hr.mono (by decide)) bS .nil pass0 (pa_cons pe_str (pa_cons pe_int pa_nil)))
    have p5 : PS (XF P w K mg base f cdv A outer s H E) (sF 5) _ := ps_ret (pe_and (pe_callG hgu GL (hr.mono (by decide)) (by rfl) gL FL.kp bL .nil pass0 (pa_cons (pe_callTy call_list_of (by rfl) N.list (by decide +kernel) (pa_cons (pe_prop (pv 7) G.M.B.cls PF GF (hr.mono (by decide)) bF .nil pass0 (by rfl)) pa_nil)) (pa_cons (pv 8) pa_nil)))
      (pe_one (pe_callG hgu GL (hr.mono (by decide)) (by rfl) gL FL.kp bL .nil pass0 (pa_cons (pe_slice (show SlR _ (rSlL K) from sl_list) (pe_callTy call_list_of (by rfl) N.list (by decide +kernel) (pa_cons (pe_prop (pv 6) G.M.B.cls PF GF (hr.mono (by decide)) bF .nil pass0 (by rfl)) pa_nil)) po_none (po_some (pe_un un_neg pe_int))) (pa_cons (pv 8) pa_nil)))))
    rw [fr_body]
    refine ⟨_, PSs.nox (pss_cons p0 (pss_cons p1 (pss_cons p2 (pss_cons p3 (pss_cons p4 (pss_one p5)))))), ?_⟩
    obtain ⟨x, lw, li, ws, ys, rfl, hw, hi, hl, W, l3, hv, k⟩ := h
    refine q0 _ H x lw li ws hw W l3 fun H1 hk t4 t5 s1 hf => ?_
    obtain ⟨dk, tl, h1, h2⟩ := hf
    have W' := W.wds
    have W5 := W'.len
    refine ⟨_, rfl, hk, rfl, _, rfl, li, ys, rfl, .inl ⟨sqL_to s1 hi, fun t1 n1 => ?_⟩⟩
    have s2 := s1.tr (same_new (o := .tup ys) n1)
    have sa := same_new (o := .tup ys) n1
    refine ⟨dk, _, sa _ _ h1, hk, tl, t1, dk, "a.b", ws, ys, rfl, sa _ _ h1, SqT.of (sa _ _ h2), SqT.of upd_same, hl, W', fun v m => (hv v m).to (KI.of s2), ab_free, by decide, fun m1 q1 H3 s3 nm1 nq1 T1 => ?_⟩
    have s13 := s2.tr s3
    refine ⟨_, rfl, hk, rfl, _, rfl, li, ys, rfl, .inl ⟨sqL_to s13 hi, fun t2 n2 => ?_⟩⟩
    have sb := same_new (o := .tup ys) n2
    have sab := (sa.tr s3).tr sb
    have s14 := s13.tr sb
    refine ⟨dk, _, sab _ _ h1, rfl, hk, tl, t2, dk, "a.b", ws, ys, rfl, sab _ _ h1, SqT.of (sab _ _ h2), SqT.of upd_same, hl, W', fun v m => (hv v m).to (KI.of s14), ab_free, by decide, fun m2 q2 H5 s5 nm2 nq2 T2 => ?_⟩
    have T1' := (T1.to sb).to s5
    have s15 := s14.tr s5
    have nq10 : H q1 = none := none_of s2 nq1
    obtain ⟨d1, e1, f1⟩ := T1'
    obtain ⟨d2, e2, f2⟩ := T2
    have m12 : m1 ≠ m2 := by
      obtain ⟨_, z, _⟩ := T1.to sb
      exact ne_of_none z nm2
    have q12 : q1 ≠ q2 := by
      obtain ⟨_, _, z⟩ := T1.to sb
      exact ne_of_none z nq2
    refine ⟨_, _, rfl, ?_⟩
    refine ⟨_, rfl, _, rfl, m1, m2, CT K, CT K, d1, d2, _, _, true, rfl, rfl, e1, e2, G.C.tn.eqc, G.C.tn.eqc, G.C.tn.mro, _, rfl, iteDN m12 ?_⟩
    refine ⟨_, rfl, m1, d1, _, rfl, e1, m1, d1, _, .str "a.b", rfl, e1, rfl, _, rfl, m2, d2, _, rfl, e2, m2, d2, _, .str "a.b", rfl, e2, rfl, _, rfl, m1, CT K, CT K, d1, _, true, rfl, G.C.tn, e1, G.C.tk, sz 3 (by decide), fun l1 nl1 => ⟨sz 3 (by decide), fun l2 nl2 => ?_⟩⟩
    have sc := same_new (o := .lst [V.str "a.b", .str "a.b", .bl true]) nl1
    have sd := same_new (o := .lst [V.str "a.b", .str "a.b", .bl true]) nl2
    have s17 := s15.tr (sc.tr sd)
    refine ⟨.list [.str "a.b", .str "a.b", .bool true], .list [.str "a.b", .str "a.b", .bool true], .lst (SqL.of (sd _ _ upd_same)) (.cons (.str _) (.cons (.str _) (.cons (.bl _) .nil))), .lst (SqL.of upd_same) (.cons (.str _) (.cons (.str _) (.cons (.bl _) .nil))), by decide +kernel, by decide +kernel, _, rfl, ?_⟩
    rw [ab_eqv]
    refine iteF ?_
    have e1' := (sc.tr sd) _ _ e1
    have e2' := (sc.tr sd) _ _ e2
    have f1' := (sc.tr sd) _ _ f1
    have f2' := (sc.tr sd) _ _ f2
    generalize upd (upd H5 l1 (.lst [V.str "a.b", .str "a.b", .bl true])) l2 (.lst [V.str "a.b", .str "a.b", .bl true]) = H7 at *
    refine ⟨_, rfl, _, ws.length, rfl, .inl ⟨_, sqL_to s17 hw, by rw [List.length_map]⟩, _, rfl, by omega, by omega, ?_⟩
    rw [Int.toNat_natCast]
    refine fun D nD => lc_it walk_range (fun i H' => Same H7 H' ∧ ∃ ts : List Addr, H' D = some (.lst (ts.map V.ref)) ∧ Prs H' ts ((zk ws ys).take i)) ⟨same_new nD, [], upd_same, .nil⟩ (fun _ _ _ _ => True.intro) ?_ ?_
    · rintro i y H8 H9 hi' ⟨s8, ts, hD, hts⟩ ⟨rfl, rfl⟩
      have hiw : i < ws.length := hi'
      have ex : ws[i]? = some (ws[i]'hiw) := List.getElem?_eq_getElem hiw
      have ey : ys[i]? = some (ys[i]'(by omega)) := List.getElem?_eq_getElem (by omega)
      have s18 := s17.tr s8
      have lts : ts.length = i := by
        have z := Paired.length hts
        rw [List.length_take, zk_len hl] at z
        omega
      refine ⟨rfl, yesT ⟨_, rfl, _, rfl, lw, _, _, .str (ws[i]'hiw), rfl, rfl, sqL_to s18 hw, by rw [Int.zero_add]; exact atI_nat (by rw [List.getElem?_map, ex]; rfl), _, rfl, _, rfl, li, _, _, ys[i]'(by omega), rfl, rfl, sqL_to s18 hi, by rw [Int.zero_add]; exact atI_nat ey, sz 2 (by decide), fun t nt => ?_⟩⟩
      have st := same_new (o := .tup [.str (ws[i]'hiw), ys[i]'(by omega)]) nt
      refine ⟨_, st _ _ hD, ?_, same_updN (s8.tr st) nD, ts ++ [t], by rw [upd_same, List.map_append]; rfl, ?_⟩
      · rw [List.length_map]
        exact Nat.lt_of_le_of_lt (show ts.length ≤ 5 by omega) (by decide)
      · rw [List.take_add_one, zk_get ex ey]
        have nDt : t ≠ D := fun z => by rw [z, hD] at nt; cases nt
        have fr : ∀ o, ∀ t1 a b, H9 t1 = some (.tup [a, b]) → (upd (upd H9 t (.tup [.str (ws[i]'hiw), ys[i]'(by omega)])) D o) t1 = some (.tup [a, b]) := fun o t1 a b e => by
          rw [upd_ne (ne_of e hD (by intro z; cases z))]
          exact st _ _ e
        exact prs_app (hts.mono (fr _)) (.cons (by show _ = _; rw [upd_ne nDt, upd_same]; rfl) .nil)
    · rintro H8 ⟨s8, ts, hD, hts⟩
      rw [← zk_len hl, List.take_length] at hts
      have s18 := s17.tr s8
      have lz : (zk ws ys).length ≤ 5 := by rw [zk_len hl]; exact W5
      have kz := zk_keys (vs := ys) hl
      have ln := later_none W.lab kz
      refine ⟨_, rfl, m1, d1, _, rfl, s8 _ _ e1', rfl, m1, q1, .str "a.b", _, "later", .int 5, rfl, ⟨d1, s8 _ _ e1', s8 _ _ f1'⟩, by omega, by decide, later_val K _, ?_⟩
      rw [putK_new _ ln]
      have sq : Same H (upd H8 q1 (.dK (zk ws ys ++ [(.inr "later", .int 5)]))) := same_updN s18 nq10
      have hI : ∀ a C dx fs, H8 a = some (.ins C dx fs) → (upd H8 q1 (.dK (zk ws ys ++ [(.inr "later", .int 5)]))) a = some (.ins C dx fs) := fun a C dx fs e => by
        rw [upd_ne (ne_of e (s8 _ _ f1') (by intro z; cases z))]
        exact e
      have hT : ∀ t1 a b, H8 t1 = some (.tup [a, b]) → (upd H8 q1 (.dK (zk ws ys ++ [(.inr "later", .int 5)]))) t1 = some (.tup [a, b]) := fun t1 a b e => by
        rw [upd_ne (ne_of e (s8 _ _ f1') (by intro z; cases z))]
        exact e
      have e19 := hI _ _ _ _ (s8 _ _ e1')
      have e29 := hI _ _ _ _ (s8 _ _ e2')
      have f19 : (upd H8 q1 (.dK (zk ws ys ++ [(.inr "later", .int 5)]))) q1 = some (.dK (zk ws ys ++ [(.inr "later", .int 5)])) := upd_same
      have f29 : (upd H8 q1 (.dK (zk ws ys ++ [(.inr "later", .int 5)]))) q2 = some (.dK (zk ws ys)) := by rw [upd_ne q12.symm]; exact s8 _ _ f2'
      have hts9 := hts.mono hT
      have hD9 : (upd H8 q1 (.dK (zk ws ys ++ [(.inr "later", .int 5)]))) D = some (.lst (ts.map V.ref)) := by rw [upd_ne (ne_of hD (s8 _ _ f1') (by intro z; cases z))]; exact hD
      have hR : Rws K H (zk ws ys) := zk_rws W'.lab hv
      generalize upd H8 q1 (.dK (zk ws ys ++ [(.inr "later", .int 5)])) = H9 at *
      refine ⟨_, rfl, m2, d2, _, rfl, e29, m2, q2, _, _, rfl, ⟨d2, e29, f29⟩, fun HA pa sA ⟨ta, hpa, hta⟩ => ⟨pa, _, rfl, .inr hpa, fun la nla => ?_⟩⟩
      have sB := sA.tr (same_new (o := .lst (ta.map V.ref)) nla)
      have sl := same_new (o := .lst (ta.map V.ref)) nla
      refine ⟨_, rfl, la, D, ta, ts, zk ws ys, rfl, SqL.of upd_same, SqL.of (sB _ _ hD9), hta.to sl, hts9.to sB, hR.to (KI.of (sq.tr sB)), by omega, fun HC sC => ⟨_, rfl, iteT ?_⟩⟩
      have s9C := sB.tr sC
      refine ⟨_, rfl, m1, d1, _, rfl, s9C _ _ e19, m1, q1, _, _, rfl, ⟨d1, s9C _ _ e19, s9C _ _ f19⟩, fun HD pd sD ⟨td, hpd, htd⟩ => ⟨pd, _, rfl, .inr hpd, fun ld nld => ?_⟩⟩
      obtain ⟨us, u, rfl, hus⟩ := ref_snoc htd
      have sld := same_new (o := .lst ((us ++ [u]).map V.ref)) nld
      refine ⟨_, rfl, _, rfl, ld, _, rfl, SqL.of upd_same, fun le nle => ?_⟩
      have ec : cutV ((us ++ [u]).map V.ref) none (some (-1)) = us.map V.ref := by
        rw [List.map_append]
        exact cut_last _ _
      rw [ec]
      have sle := same_new (o := .lst (us.map V.ref)) nle
      have s9E := s9C.tr (sD.tr (sld.tr sle))
      refine ⟨_, rfl, le, D, us, ts, zk ws ys, rfl, SqL.of upd_same, SqL.of (s9E _ _ hD9), hus.to (sld.tr sle), hts9.to s9E, hR.to (KI.of (sq.tr s9E)), by omega, fun HF sF_ => ?_⟩
      exact k HF (sq.tr (s9E.tr sF_))
end
end Kh

set_option Elab.async false
set_option linter.all false
set_option maxRecDepth 100000
set_option maxHeartbeats 4000000
namespace Kh
open PySem PySem.Spec PyProof.Rows L2 StX ClX
/-! ### Parts, Whole, looked at -/
abbrev sTR : Stmt := top 67
abbrev NP : List Str := ["made", "pairs_here", "words", "hook", "row", "rest", "one", "some", "due", "again", "told", "whole", "other", "far", "word"]
theorem scTR : FnScope NP ["made", "pairs_here", "words"] (defScope sTR) := ⟨rfl, rfl, rfl, by decide +kernel, rfl, by decide +kernel, by decide +kernel⟩
def sT (k : Nat) : Stmt := (defBody sTR).getD k (.Pass ⟨0, 0, 0, 0⟩)
theorem tr_body : defBody sTR = [sT 0, sT 1, sT 2, sT 3, sT 4, sT 5, sT 6, sT 7, sT 8, sT 9, sT 10, sT 11] := rfl
def lcScope : Stmt → Scope
  | .Assign _ (.ListComp _ _ sc _) _ => sc
  | _ => defScope sTR
def lcIn : Stmt → Scope
  | .Assign _ (.ListComp (.Subscript (.ListComp _ _ sc _) _ _) _ _ _) _ => sc
  | _ => defScope sTR
theorem blk_in : BlkOk NP (relS (lcScope (sT 3)) (defScope sTR)) (lcIn (sT 3)) [("one", 6), ("far", 13)] := blkOk_by (by decide +kernel)
theorem cut_two (xs : List V) : cutV xs none (some 2) = xs.take 2 := by
  have e : HT.sIx xs.length xs.length (some 2) = min 2 xs.length := HT.sIx_nat _ _ 2
  unfold cutV
  rw [e]
  show (xs.drop 0).take (min 2 xs.length - 0) = xs.take 2
  rw [List.drop_zero, Nat.sub_zero]
  by_cases c : xs.length ≤ 2
  · rw [Nat.min_eq_right c, List.take_length, List.take_of_length_le c]
  · rw [Nat.min_eq_left (by omega)]
/-- the pair's label is one of the words -/
def Sel (ws : List Str) (r : Key × V) : Bool := inV (kV r.1) (ws.map V.str)
theorem flat_strs (ws : List Str) : (ws.map V.str).all flatV = true := by
  rw [List.all_map]
  exact List.all_eq_true.mpr fun _ _ => rfl
abbrev σT (m l lw hk row : Addr) (t6 t7 t8 t9 t10 t11 t12 t13 t14 : Option V) : L2.St := [some (.ref m), some (.ref l), some (.ref lw), some (.ref hk), some (.ref row), some .non, t6, t7, t8, t9, t10, t11, t12, t13, t14]
section
variable {P : Program} {w : World} {K : PySem.W.Frag} {mg : Str → Option Value} {base : Heap} {f : Addr} {cdv : Value} {A : Around} {outer : List Env} {s : Shared} {H : Hp} {E : XK}
abbrev XT (P : Program) (w : World) (K : PySem.W.Frag) (mg : Str → Option Value) (base : Heap) (f : Addr) (cdv : Value) (A : Around) (outer : List Env) (s : Shared) (H : Hp) (E : XK) : Cx := (cxOf CX0 P w K mg base NP "_law_taken_right" (defScope sTR) f cdv A outer s H E).nox
/-- a hook with the words -/
def HookP (K : PySem.W.Frag) (H : Hp) (hk : Addr) (ws : List Str) : Prop := ∃ dk t, H hk = some (.ins (CP K) dk [("_labels", .ref t)]) ∧ H t = some (.tup (ws.map V.str))
theorem tr_s2 :
    ∃ t, PS (XT P w K mg base f cdv A outer s H E) (sT 2) t ∧ ∀ (D : Ends) (H0 : Hp) (m l lw hk row : Addr) (ts : List Addr) (kvs : List (Key × V)) (ws : List Str), SqL K H0 l (ts.map V.ref) → Prs H0 ts kvs → (∀ r ∈ kvs, ∃ x ∈ LABS, r.1 = .inr x) → kvs.length ≤ 5 → SqL K H0 lw (ws.map V.str) →
      (∀ H1 d us, Same H0 H1 → H1 d = some (.lst (us.map V.ref)) → Prs H1 us (kvs.filter (Sel (ws.take 2))) → D.nx (σT m l lw hk row none (some (.ref d)) none none none none none none none) H1) → t D (σT m l lw hk row none none none none none none none none none) H0 := by
  refine ⟨_, ps_set (i := 7) scTR.nd rfl (Or.inr rfl) (pe_lc (own := [("one", 6), ("far", 13)]) (g := gTup K 2 (gCons (gName 6) (gCons (gName 13) gNil))) rfl scTR.nd (pi_list (pv 1)) (blkOk_by (own := [("one", 6), ("far", 13)]) (N := NP) (sc := defScope sTR) (by decide +kernel))
          (fun _ _ _ _ _ => pg_tup rfl (pgs_cons (pg_name (i := 6) scTR.nd rfl (Or.inl rfl)) (pgs_cons (pg_name (i := 13) scTR.nd rfl (Or.inl rfl)) pgs_nil))) (fun _ _ _ _ _ => pts_one (pt_cmpR (show OpR _ _ (rIn K false) from op_in_seq) (pv 6) (pe_slice (show SlR _ (rSlL K) from sl_list) (pv 2) po_none (po_some pe_int)) rfl))
          (fun _ _ _ _ _ => pe_tup (pa_cons (pv 6) (pa_cons (pv 13) pa_nil)))), ?_⟩
  intro D H0 m l lw hk row ts kvs ws hl hts hR h5 hw k
  have lt : ts.length = kvs.length := Paired.length hts
  refine ⟨_, rfl, l, rfl, ⟨_, hl⟩, fun D1 nD => lc_it (walk_list (xs := ts.map V.ref)) (fun i H' => Same H0 H' ∧ ∃ us : List Addr, H' D1 = some (.lst (us.map V.ref)) ∧ Prs H' us ((kvs.take i).filter (Sel (ws.take 2)))) ⟨same_new nD, [], upd_same, .nil⟩ (fun i H' _ z => sqL_to z.1 hl) ?_ ?_⟩
  · rintro i y H8 H9 hi ⟨s8, us, hD, hus⟩ ⟨rfl, hx⟩
    rw [List.getElem?_map] at hx
    obtain ⟨t, ht, rfl⟩ := Option.map_eq_some_iff.mp hx
    obtain ⟨r, er, hy⟩ := LiI.paired_get hts ht
    obtain ⟨z, _, ez⟩ := hR r (List.mem_of_getElem? er)
    obtain ⟨key, v⟩ := r
    have ez' : key = .inr z := ez
    subst ez'
    refine ⟨t, _, rfl, SqT.of (s8 _ _ hy), rfl, _, _, rfl, _, _, rfl, rfl, rfl, ?_⟩
    refine ⟨_, rfl, _, rfl, _, rfl, lw, _, rfl, sqL_to s8 hw, fun p np => ?_⟩
    rw [cut_two, ← List.map_take]
    have sp := same_new (o := .lst ((ws.take 2).map V.str)) np
    refine ⟨p, _, rfl, .inl (SqL.of upd_same), rfl, flat_strs _, _, rfl, ?_⟩
    have lus : us.length ≤ 5 := by
      have z1 := Paired.length hus
      have z2 := List.length_filter_le (Sel (ws.take 2)) (kvs.take i)
      rw [List.length_take] at z2
      omega
    have nDp : D1 ≠ p := ne_of_none hD np
    have hD' : (upd H9 p (.lst ((ws.take 2).map V.str))) D1 = some (.lst (us.map V.ref)) := sp _ _ hD
    show if Sel (ws.take 2) (.inr z, v) = true then _ else _
    cases eS : Sel (ws.take 2) (.inr z, v) with
    | false =>
      refine iteF ⟨s8.tr sp, us, hD', ?_⟩
      rw [show kvs.take (i + 1) = kvs.take i ++ [((.inr z : Key), v)] from by rw [List.take_add_one, er]; rfl, List.filter_append]
      rw [List.filter_cons, eS]
      show Prs _ us (_ ++ [])
      rw [List.append_nil]
      exact hus.to sp
    | true =>
      refine iteT ⟨_, rfl, _, rfl, (by show 2 ≤ sizeLine; decide), fun t2 nt => ?_⟩
      have st := same_new (o := .tup [.str z, v]) nt
      refine ⟨_, st _ _ hD', ?_, same_updN ((s8.tr sp).tr st) nD, us ++ [t2], by rw [upd_same, List.map_append]; rfl, ?_⟩
      · rw [List.length_map]
        exact Nat.lt_of_le_of_lt lus (by decide)
      · have nDt : t2 ≠ D1 := fun z => by rw [z, hD'] at nt; cases nt
        rw [show kvs.take (i + 1) = kvs.take i ++ [((.inr z : Key), v)] from by rw [List.take_add_one, er]; rfl, List.filter_append]
        rw [List.filter_cons, eS]
        refine prs_app (hus.mono fun t1 a b e => ?_) (.cons (by show _ = _; rw [upd_ne nDt, upd_same]) .nil)
        rw [upd_ne (ne_of (st _ _ (sp _ _ e)) (st _ _ hD') (by intro z; cases z))]
        exact st _ _ (sp _ _ e)
  · rintro H8 ⟨s8, us, hD, hus⟩
    rw [List.length_map, lt, List.take_length] at hus
    exact k H8 D1 us s8 hD hus
theorem tr_s3 :
    ∃ t, PS (XT P w K mg base f cdv A outer s H E) (sT 3) t ∧ ∀ (D : Ends) (H0 : Hp) (m l lw hk row d : Addr) (us : List Addr) (sm : List (Key × V)) (ws : List Str) (fv : Str → V), H0 d = some (.lst (us.map V.ref)) → Prs H0 us sm → (∀ r ∈ sm, ∃ x ∈ LABS, r.1 = .inr x) → sm.length ≤ 5 → SqL K H0 lw (ws.map V.str) →
      (∀ x ∈ ws.take 2, ((sm.filter fun r => decide (kV r.1 = .str x)).map (·.2))[0]? = some (fv x)) →
      (∀ H1 d2, Same H0 H1 → H1 d2 = some (.lst ((ws.take 2).map fv)) → D.nx (σT m l lw hk row none (some (.ref d)) (some (.ref d2)) none none none none none none) H1) → t D (σT m l lw hk row none (some (.ref d)) none none none none none none none) H0 := by
  refine ⟨_, ps_setLc (i := 8) (own := [("word", 14)]) (g := gName 14) (tt := tYes) rfl scTR.nd rfl rfl (sw_true rfl rfl rfl rfl) (pi_list (pe_slice (show SlR _ (rSlL K) from sl_list) (pv 2) po_none (po_some pe_int))) (blkOk_by (own := [("word", 14)]) (N := NP) (sc := defScope sTR) (by decide +kernel))
          (fun _ _ _ _ _ => pg_name (i := 14) scTR.nd rfl (Or.inr rfl)) (fun _ _ _ _ _ => pts_nil)
          (fun _ _ _ _ _ => pe_ix (show IxR _ (rIxL K) from ix_list) (pe_lc (wi := iList K (tVar 7)) (own := [("one", 6), ("far", 13)]) (g := gTup K 2 (gCons (gName 6) (gCons (gName 13) gNil))) rfl scTR.nd (pi_list (pv 7)) blk_in (fun _ _ _ _ _ => pg_tup rfl (pgs_cons (pg_name (i := 6) scTR.nd rfl (Or.inl rfl)) (pgs_cons (pg_name (i := 13) scTR.nd rfl (Or.inl rfl)) pgs_nil))) (fun _ _ _ _ _ => pts_one (pt_cmpR op_eq (pv 6) (pv 14) (nomark _))) (fun _ _ _ _ _ => pv 13)) pe_int (fun _ _ => rfl)), ?_⟩
  intro D H0 m l lw hk row d us sm ws fv hd hus hR h5 hw hf k
  have lt : us.length = sm.length := Paired.length hus
  refine ⟨_, rfl, _, rfl, lw, _, rfl, hw, fun p np => ?_⟩
  rw [cut_two, ← List.map_take]
  have sp := same_new (o := .lst ((ws.take 2).map V.str)) np
  have hp : (upd H0 p (.lst ((ws.take 2).map V.str))) p = some (.lst ((ws.take 2).map V.str)) := upd_same
  generalize upd H0 p (.lst ((ws.take 2).map V.str)) = H1 at *
  refine ⟨p, rfl, ⟨_, SqL.of hp⟩, fun D1 nD => lc_it (walk_list (xs := (ws.take 2).map V.str)) (fun i H' => Same H1 H' ∧ H' D1 = some (.lst (((ws.take 2).take i).map fv))) ⟨same_new nD, upd_same⟩ (fun i H' _ z => SqL.of (z.1 _ _ hp)) ?_ ?_⟩
  · rintro i y H8 H9 hi ⟨s8, hD⟩ ⟨rfl, hx⟩
    rw [List.getElem?_map] at hx
    obtain ⟨x, ex, rfl⟩ := Option.map_eq_some_iff.mp hx
    have hd9 := s8 _ _ (sp _ _ hd)
    refine ⟨rfl, yesT ⟨_, rfl, d, rfl, ⟨_, SqL.of hd9⟩, fun D2 nD2 => lc_it (walk_list (xs := us.map V.ref)) (fun j H' => Same H9 H' ∧ H' D2 = some (.lst (((sm.take j).filter fun r => decide (kV r.1 = .str x)).map (·.2)))) ⟨same_new nD2, upd_same⟩ (fun j H' _ z => SqL.of (z.1 _ _ hd9)) ?_ ?_⟩⟩
    · rintro j y2 Ha Hb hj ⟨sa, hDa⟩ ⟨rfl, hx2⟩
      rw [List.getElem?_map] at hx2
      obtain ⟨t, ht, rfl⟩ := Option.map_eq_some_iff.mp hx2
      obtain ⟨r, er, hy⟩ := LiI.paired_get hus ht
      obtain ⟨z, _, ez⟩ := hR r (List.mem_of_getElem? er)
      obtain ⟨key, v⟩ := r
      have ez' : key = .inr z := ez
      subst ez'
      refine ⟨t, _, rfl, SqT.of (sa _ _ (s8 _ _ (sp _ _ hy))), rfl, _, _, rfl, _, _, rfl, rfl, rfl, ?_⟩
      refine ⟨_, rfl, _, rfl, rfl, _, rfl, ?_⟩
      have len : (((sm.take j).filter fun r => decide (kV r.1 = .str x)).map (·.2)).length ≤ 5 := by
        rw [List.length_map]
        have z2 := List.length_filter_le (fun r => decide (kV r.1 = .str x)) (sm.take j)
        rw [List.length_take] at z2
        omega
      by_cases eS : V.str z = V.str x
      rotate_left
      · refine iteDN eS ⟨sa, ?_⟩
        rw [hDa, List.take_add_one, er, List.filter_append]
        have e0 : ([((.inr z : Key), v)].filter fun r => decide (kV r.1 = .str x)) = [] := by
          rw [List.filter_cons]
          show (if decide (V.str z = V.str x) = true then _ else _) = _
          rw [decide_eq_false eS]
          rfl
        show _ = some (HO.lst ((_ ++ [((.inr z : Key), v)].filter fun r => decide (kV r.1 = .str x)).map (·.2)))
        rw [e0, List.append_nil]
      · refine iteD eS ⟨_, rfl, _, hDa, Nat.lt_of_le_of_lt len (by decide), same_updN sa nD2, ?_⟩
        have e0 : ([((.inr z : Key), v)].filter fun r => decide (kV r.1 = .str x)) = [(.inr z, v)] := by
          rw [List.filter_cons]
          show (if decide (V.str z = V.str x) = true then _ else _) = _
          rw [decide_eq_true eS]
          rfl
        rw [upd_same, List.take_add_one, er, List.filter_append]
        show _ = some (HO.lst ((_ ++ [((.inr z : Key), v)].filter fun r => decide (kV r.1 = .str x)).map (·.2)))
        rw [e0, List.map_append]
        rfl
    · rintro Ha ⟨sa, hDa⟩
      rw [List.length_map, lt, List.take_length] at hDa
      have l2 : ((ws.take 2).take i).length ≤ 2 := by
        rw [List.length_take, List.length_take]
        omega
      refine ⟨D2, _, _, fv x, rfl, rfl, SqL.of hDa, atI_nat (hf x (List.mem_of_getElem? ex)), _, sa _ _ hD, ?_, same_updN (s8.tr sa) nD, ?_⟩
      · rw [List.length_map]
        exact Nat.lt_of_le_of_lt l2 (by decide)
      · rw [upd_same, show (ws.take 2).take (i + 1) = (ws.take 2).take i ++ [x] from by rw [List.take_add_one (l := ws.take 2), ex]; rfl, List.map_append]
        rfl
  · rintro H8 ⟨s8, hD⟩
    rw [List.length_map, List.take_length] at hD
    exact k H8 D1 (sp.tr s8) hD
end
end Kh

set_option Elab.async false
set_option linter.all false
set_option maxRecDepth 100000
set_option maxHeartbeats 4000000
namespace Kh
open PySem PySem.Spec PyProof.Rows L2 StX ClX
theorem kV_str {k : Key} {x : Str} : kV k = .str x ↔ k = .inr x := by
  cases k with
  | inl i => exact ⟨(fun z => nomatch z), (fun z => nomatch z)⟩
  | inr y => exact ⟨fun z => by injection z with z; rw [z], fun z => by injection z with z; rw [z]; rfl⟩
theorem sel_in {ws : List Str} {x : Str} (v : V) (h : x ∈ ws) : Sel ws (.inr x, v) = true := by
  show inV (.str x) (ws.map V.str) = true
  refine List.any_eq_true.mpr ⟨.str x, List.mem_map.mpr ⟨x, h, rfl⟩, ?_⟩
  show (x == x) = true
  exact beq_self_eq_true x
theorem pick_val {ws : List Str} {x : Str} (h : x ∈ ws) : ∀ kvs : List (Key × V), (((kvs.filter (Sel ws)).filter fun r => decide (kV r.1 = .str x)).map (·.2))[0]? = valV kvs (.inr x)
  | [] => rfl
  | p :: r => by
    by_cases c : p.1 = .inr x
    · obtain ⟨k, v⟩ := p
      have c' : k = .inr x := c
      subst c'
      rw [valV_pos rfl, List.filter_cons, if_pos (sel_in v h), List.filter_cons, if_pos (decide_eq_true (kV_str.mpr rfl))]
      rfl
    · rw [valV_neg c, List.filter_cons]
      have n : ¬ (decide (kV p.1 = .str x) = true) := fun z => c (kV_str.mp (of_decide_eq_true z))
      split
      · rw [List.filter_cons, if_neg n]
        exact pick_val h r
      · exact pick_val h r
theorem val_mem {kvs : List (Key × V)} {k : Key} {v : V} (h : valV kvs k = some v) : (k, v) ∈ kvs := by
  unfold valV at h
  obtain ⟨p, hp, e⟩ := Option.map_eq_some_iff.mp h
  have m := List.mem_of_find?_eq_some hp
  have z := List.find?_some hp
  have e1 : p.1 = k := of_decide_eq_true z
  rw [← e1, ← e]
  exact m
def fvK (kvs : List (Key × V)) (x : Str) : V := (valV kvs (.inr x)).getD .non
theorem fv_some {kvs : List (Key × V)} {us : List Str} {x : Str} (e : kvs.map (·.1) = us.map (Sum.inr (α := Int))) (m : x ∈ us) : valV kvs (.inr x) = some (fvK kvs x) := by
  unfold fvK
  cases q : valV kvs (.inr x) with
  | some v => rfl
  | none =>
    exfalso
    refine valV_not q ?_
    rw [e]
    exact List.mem_map.mpr ⟨x, m, rfl⟩
def z0 (vals : List V) : List (Key × V) := vals.map fun v => (.inr "", v)
section
variable {P : Program} {w : World} {K : PySem.W.Frag} {mg : Str → Option Value} {base : Heap} {f : Addr} {cdv : Value} {A : Around} {outer : List Env} {s : Shared} {H : Hp} {E : XK}
theorem tr_s0 (G : Hc K mg) (N : Nm K mg) (T : Ts K mg) (hr : Room 8 (XT P w K mg base f cdv A outer s H E).A) :
    ∃ t, PS (XT P w K mg base f cdv A outer s H E) (sT 0) t ∧ ∀ (D : Ends) (H0 : Hp) (m l lw : Addr) (ws : List Str), SqL K H0 lw (ws.map V.str) → Wds ws →
      (∀ H1 hk, Same H0 H1 → HookP K H1 hk (ws.take 2) → D.nx [some (.ref m), some (.ref l), some (.ref lw), some (.ref hk), none, none, none, none, none, none, none, none, none, none, none] H1) → t D [some (.ref m), some (.ref l), some (.ref lw), none, none, none, none, none, none, none, none, none, none, none, none] H0 := by
  obtain ⟨fi, di, MI, FI⟩ := G.pi
  have GI : FnR P w K mg base CX0 3 fi (spPI K) := ok_pi G.C FI N T
  refine ⟨_, ps_set (i := 3) scTR.nd rfl (Or.inl rfl) (pe_ifExp (pt_cmpR op_gt (pe_callB call_len (by rfl) N.len PySem.boot_len (pa_cons (pv 2) pa_nil)) pe_int (nomark _))
      (pe_makeR MI GI (hr.mono (by decide)) (by rfl) G.C.pm pass0 (pa_cons (pe_ix (show IxR _ (rIxL K) from ix_list) (pv 2) pe_int (fun _ _ => rfl)) (pa_cons (pe_ix (show IxR _ (rIxL K) from ix_list) (pv 2) pe_int (fun _ _ => rfl)) pa_nil)))
      (pe_ifExp (pt_cmpR op_eq (pe_callB call_len (by rfl) N.len PySem.boot_len (pa_cons (pv 2) pa_nil)) pe_int (nomark _))
        (pe_makeR MI GI (hr.mono (by decide)) (by rfl) G.C.pm pass0 (pa_cons (pe_ix (show IxR _ (rIxL K) from ix_list) (pv 2) pe_int (fun _ _ => rfl)) pa_nil))
        (pe_makeR0 MI GI (hr.mono (by decide)) (by rfl) G.C.pm pass0))), ?_⟩
  intro D H0 m l lw ws hw W k
  have pre : ∀ (H1 : Hp) (n dn : Addr), H1 n = none → H1 dn = none → Same H1 (upd (upd H1 dn (.own n)) n (.ins (CP K) dn [])) := fun H1 n dn nn nd b o e => by
    rw [upd_ne (ne_of_none e nn), upd_ne (ne_of_none e nd)]
    exact e
  have Wt : Wds (ws.take 2) := ⟨fun x m => W.lab x (List.mem_of_mem_take m), W.nd.sublist (List.take_sublist _ _), Nat.le_trans (List.length_take_le _ _) (by decide)⟩
  rcases ws with _ | ⟨x0, _ | ⟨x1, ws⟩⟩
  · refine ⟨_, rfl, _, 0, rfl, .inl ⟨_, hw, rfl⟩, _, _, rfl, rfl, _, rfl, iteDN (by decide) ?_⟩
    refine ⟨_, rfl, _, 0, rfl, .inl ⟨_, hw, rfl⟩, rfl, _, rfl, iteDN (int_ne (by decide)) ?_⟩
    refine fun n dn nn nd ne => ⟨n, dn, [], _, rfl, upd_same, nn, pre _ _ _ nn nd, Wt, fun t H2 s' h1 h2 => ⟨rfl, ?_⟩⟩
    exact k H2 n s' ⟨dn, t, h1, h2⟩
  · refine ⟨_, rfl, _, 1, rfl, .inl ⟨_, hw, rfl⟩, _, _, rfl, rfl, _, rfl, iteDN (by decide) ?_⟩
    refine ⟨_, rfl, _, 1, rfl, .inl ⟨_, hw, rfl⟩, rfl, _, rfl, iteD rfl ?_⟩
    refine ⟨_, rfl, lw, _, 0, .str x0, rfl, rfl, hw, rfl, ?_⟩
    refine fun n dn nn nd ne => ⟨n, dn, [x0], _, rfl, upd_same, nn, pre _ _ _ nn nd, Wt, fun t H2 s' h1 h2 => ⟨rfl, ?_⟩⟩
    exact k H2 n s' ⟨dn, t, h1, h2⟩
  · refine ⟨_, rfl, _, ws.length + 2, rfl, .inl ⟨_, hw, by rw [List.length_map]; rfl⟩, _, _, rfl, rfl, _, rfl, iteD (by omega) ?_⟩
    refine ⟨_, rfl, lw, _, 0, .str x0, rfl, rfl, hw, at_of (j := 0) rfl rfl, _, rfl, lw, _, 1, .str x1, rfl, rfl, hw, at_of (j := 1) rfl rfl, ?_⟩
    refine fun n dn nn nd ne => ⟨n, dn, [x0, x1], _, rfl, upd_same, nn, pre _ _ _ nn nd, Wt, fun t H2 s' h1 h2 => ⟨rfl, ?_⟩⟩
    exact k H2 n s' ⟨dn, t, h1, h2⟩
theorem tr_s6 (G : Hc K mg) (N : Nm K mg) (SY : SysK K) (hgu : (XT P w K mg base f cdv A outer s H E).A.guards = some []) (hr : Room 8 (XT P w K mg base f cdv A outer s H E).A) :
    ∃ t, PS (XT P w K mg base f cdv A outer s H E) (sT 6) t ∧ ∀ (D : Ends) (H0 : Hp) (m l lw hk r1 r2 d d2 a9 : Addr) (vals : List V), H0 r1 = some (.tup vals) → H0 r2 = some (.tup vals) → H0 a9 = some (.tup [.ref r2, .non]) → H0 d2 = some (.lst vals) → vals.length ≤ 5 → (∀ v ∈ vals, Val K H0 v) →
      (∀ H1 t10, Same H0 H1 → D.nx (σT m l lw hk r1 none (some (.ref d)) (some (.ref d2)) (some (.ref a9)) t10 none none none none) H1) → t D (σT m l lw hk r1 none (some (.ref d)) (some (.ref d2)) (some (.ref a9)) none none none none none) H0 := by
  obtain ⟨fl, dl, FL, gL⟩ := G.like
  have GL : FnG P w K mg base CX0 2 fl dl ["pairs_here", "others"] (spLike K) := ok_like FL N SY
  have bL : L2.Binds K dl ["pairs_here", "others"] [] := FL.bindsN fun _ _ _ _ _ _ us hl => match us, hl with | [_, _], _ => rfl
  refine ⟨_, ps_for PassesOwn.never rfl (pi_tup (pe_tup (pa_cons (pv 4) (pa_cons (pe_ix (show IxR _ (rIxT K) from ix_tup) (pv 9) pe_int (fun _ _ => rfl)) pa_nil)))) (pg_name (i := 10) scTR.nd rfl (Or.inl rfl))
      (pss_one (ps_if (pt_not (pt_val (pe_callG hgu GL (hr.mono (by decide)) (by rfl) gL FL.kp bL .nil pass0
        (pa_cons (pe_lc (own := [("far", 13)]) (g := gName 13) (tt := tYes) rfl scTR.nd (pi_tup (pv 10)) (blkOk_by (own := [("far", 13)]) (N := NP) (sc := defScope sTR) (by decide +kernel)) (fun _ _ _ _ _ => pg_name (i := 13) scTR.nd rfl (Or.inl rfl)) (fun _ _ _ _ _ => pts_nil) (fun _ _ _ _ _ => pe_tup (pa_cons pe_str (pa_cons (pv 13) pa_nil))))
        (pa_cons (pe_lc (own := [("far", 13)]) (g := gName 13) (tt := tYes) rfl scTR.nd (pi_list (pv 8)) (blkOk_by (own := [("far", 13)]) (N := NP) (sc := defScope sTR) (by decide +kernel)) (fun _ _ _ _ _ => pg_name (i := 13) scTR.nd rfl (Or.inl rfl)) (fun _ _ _ _ _ => pts_nil) (fun _ _ _ _ _ => pe_tup (pa_cons pe_str (pa_cons (pv 13) pa_nil)))) pa_nil)))))
        (pss_one (ps_ret pe_bl)) pss_nil)), ?_⟩
  intro D H0 m l lw hk r1 r2 d d2 a9 vals h1 h2 h9 hd h5 hv k
  refine ⟨_, rfl, _, rfl, a9, _, 0, .ref r2, rfl, rfl, SqT.of h9, rfl, sz 2 (by decide), fun tt ntt => ?_⟩
  have st := same_new (o := .tup [.ref r1, .ref r2]) ntt
  have htt : (upd H0 tt (.tup [.ref r1, .ref r2])) tt = some (.tup [.ref r1, .ref r2]) := upd_same
  generalize upd H0 tt (.tup [.ref r1, .ref r2]) = H1 at *
  have hR : Rws K H0 (z0 vals) := ⟨fun r mr => by
    obtain ⟨v, _, rfl⟩ := List.mem_map.mp mr
    exact ⟨"", List.mem_cons_self .., rfl⟩, fun r mr => by
    obtain ⟨v, mv, rfl⟩ := List.mem_map.mp mr
    exact hv v mv⟩
  have lz : (z0 vals).length = vals.length := List.length_map ..
  have zget : ∀ (i : Nat) (v : V), vals[i]? = some v → (z0 vals).take (i + 1) = (z0 vals).take i ++ [((.inr "" : Key), v)] := fun i v e => by
    rw [List.take_add_one]
    unfold z0
    rw [List.getElem?_map, e]
    rfl
  refine ⟨tt, rfl, ⟨_, SqT.of htt⟩, for_it (walk_tup (xs := [.ref r1, .ref r2])) (fun i σ H' => ∃ t10 : Option V, σ = σT m l lw hk r1 none (some (.ref d)) (some (.ref d2)) (some (.ref a9)) t10 none none none none ∧ Same H1 H') ⟨none, rfl, Same.refl'⟩ (fun i σ H' _ z => ?_) ?_ ?_⟩
  · obtain ⟨_, rfl, s1⟩ := z
    exact SqT.of (s1 _ _ htt)
  · rintro i x σ H3 H4 hi ⟨t10, rfl, s3⟩ ⟨rfl, hx⟩
    have hr : ∃ r, x = .ref r ∧ H4 r = some (.tup vals) := by
      match i, hi with
      | 0, _ =>
        cases hx
        exact ⟨r1, rfl, s3 _ _ (st _ _ h1)⟩
      | 1, _ =>
        cases hx
        exact ⟨r2, rfl, s3 _ _ (st _ _ h2)⟩
    obtain ⟨r, rfl, hr⟩ := hr
    have s04 := st.tr s3
    refine ⟨_, rfl, r, rfl, ⟨_, SqT.of hr⟩, fun D1 nD1 => lc_it (walk_tup (xs := vals)) (fun j H' => Same H4 H' ∧ ∃ us : List Addr, H' D1 = some (.lst (us.map V.ref)) ∧ Prs H' us ((z0 vals).take j)) ⟨same_new nD1, [], upd_same, .nil⟩ (fun j H' _ z => SqT.of (z.1 _ _ hr)) ?_ ?_⟩
    · rintro j v Ha Hb hj ⟨sa, us, hDa, hus⟩ ⟨rfl, hxv⟩
      have lus : us.length ≤ 5 := by
        have z1 := Paired.length hus
        rw [List.length_take, lz] at z1
        omega
      refine ⟨rfl, yesT ⟨_, rfl, sz 2 (by decide), fun t2 nt => ?_⟩⟩
      have sb := same_new (o := .tup [.str "", v]) nt
      have nDt : t2 ≠ D1 := fun z => by rw [z, hDa] at nt; cases nt
      refine ⟨_, sb _ _ hDa, ?_, same_updN (sa.tr sb) nD1, us ++ [t2], by rw [upd_same, List.map_append]; rfl, ?_⟩
      · rw [List.length_map]
        exact Nat.lt_of_le_of_lt lus (by decide)
      · rw [zget j v hxv]
        refine prs_app (hus.mono fun t1 a b e => ?_) (.cons (by show _ = _; rw [upd_ne nDt, upd_same]; rfl) .nil)
        rw [upd_ne (ne_of (sb _ _ e) (sb _ _ hDa) (by intro z; cases z))]
        exact sb _ _ e
    · rintro Ha ⟨sa, us, hDa, hus⟩
      rw [← lz, List.take_length] at hus
      have hda := sa _ _ (s04 _ _ hd)
      refine ⟨_, rfl, d2, rfl, ⟨_, SqL.of hda⟩, fun D2 nD2 => lc_it (walk_list (xs := vals)) (fun j H' => Same Ha H' ∧ ∃ us : List Addr, H' D2 = some (.lst (us.map V.ref)) ∧ Prs H' us ((z0 vals).take j)) ⟨same_new nD2, [], upd_same, .nil⟩ (fun j H' _ z => SqL.of (z.1 _ _ hda)) ?_ ?_⟩
      · rintro j v Hb Hc hj ⟨sb, us2, hDb, hus2⟩ ⟨rfl, hxv⟩
        have lus : us2.length ≤ 5 := by
          have z1 := Paired.length hus2
          rw [List.length_take, lz] at z1
          omega
        refine ⟨rfl, yesT ⟨_, rfl, sz 2 (by decide), fun t2 nt => ?_⟩⟩
        have sc := same_new (o := .tup [.str "", v]) nt
        have nDt : t2 ≠ D2 := fun z => by rw [z, hDb] at nt; cases nt
        refine ⟨_, sc _ _ hDb, ?_, same_updN (sb.tr sc) nD2, us2 ++ [t2], by rw [upd_same, List.map_append]; rfl, ?_⟩
        · rw [List.length_map]
          exact Nat.lt_of_le_of_lt lus (by decide)
        · rw [zget j v hxv]
          refine prs_app (hus2.mono fun t1 a b e => ?_) (.cons (by show _ = _; rw [upd_ne nDt, upd_same]; rfl) .nil)
          rw [upd_ne (ne_of (sc _ _ e) (sc _ _ hDb) (by intro z; cases z))]
          exact sc _ _ e
      · rintro Hb ⟨sb, us2, hDb, hus2⟩
        rw [← lz, List.take_length] at hus2
        refine ⟨D1, D2, us, us2, z0 vals, rfl, SqL.of (sb _ _ hDa), SqL.of hDb, hus.to sb, hus2, hR.to (KI.of (s04.tr (sa.tr sb))), by omega, fun Hc sc => ⟨_, rfl, iteF ⟨_, rfl, s3.tr (sa.tr (sb.tr sc))⟩⟩⟩
  · rintro σ H3 ⟨t10, rfl, s3⟩
    exact k H3 t10 (st.tr s3)
end
end Kh

set_option Elab.async false
set_option linter.all false
set_option maxRecDepth 100000
set_option maxHeartbeats 4000000
namespace Kh
open PySem PySem.Spec PyProof.Rows L2 StX ClX
def spTR (K : PySem.W.Frag) : Sp := fun vs H Q _ => ∃ (m l lw q : Addr) (bv : V) (kvs : List (Key × V)) (us : List Str), vs = [.ref m, .ref l, .ref lw] ∧ ThgAt K H m q bv kvs ∧ PairsL K H l kvs ∧ Rws K H kvs ∧ kvs.map (·.1) = us.map (Sum.inr (α := Int)) ∧ Lbs us ∧ SqL K H lw (us.reverse.map V.str) ∧ ∀ H', Same H H' → Q (.bl true) H'
theorem tup_eqv : PyData.eqv (.tuple []) (.tuple []) = true := by decide +kernel
theorem one_val (K : PySem.W.Frag) (H : Hp) : Val K H (.int 1) := ⟨.dat (.int 1), List.mem_of_getElem? (i := 4) rfl⟩
section
variable {P : Program} {w : World} {K : PySem.W.Frag} {mg : Str → Option Value} {base : Heap}
theorem ok_tr {f : Addr} {fd : FuncData} (F : FnP K "_law_taken_right" sTR f fd) (G : Hc K mg) (N : Nm K mg) (T : Ts K mg) (R : Rq K mg) (SY : SysK K) : FnG P w K mg base CX0 9 f fd ["made", "pairs_here", "words"] (spTR K) := by
  obtain ⟨fp, dp, MP, FP⟩ := G.pc
  have GP : FnOk P w K mg base CX0 4 fp dp ["self", "thing"] (spPC K) := ok_pc G.C G.M FP N T R
  have bP : L2.Binds K dp ["self", "thing"] [] := FP.bindsN fun _ _ _ _ _ _ us hl => match us, hl with | [_, _], _ => rfl
  have kP : KBn K dp ["self", "thing"] 1 ["thing"] (fun us ws => us ++ ws) (fun vs zs => vs ++ zs) := kbn_of FP (fun _ _ _ _ _ _ us ws h1 h2 => match us, ws, h1, h2 with | [_], [_], _, _ => rfl) (fun r1 r2 => r1.append r2)
  obtain ⟨fw, dw, MW, FW⟩ := G.wc
  have GW : FnOk P w K mg base CX0 8 fw dw ["self", "thing"] (spWC K) := ok_wc G.C G.M FW N T R
  have bW : L2.Binds K dw ["self", "thing"] [] := FW.bindsN fun _ _ _ _ _ _ us hl => match us, hl with | [_, _], _ => rfl
  have kW : KBn K dw ["self", "thing"] 1 ["thing"] (fun us ws => us ++ ws) (fun vs zs => vs ++ zs) := kbn_of FW (fun _ _ _ _ _ _ us ws h1 h2 => match us, ws, h1, h2 with | [_], [_], _, _ => rfl) (fun r1 r2 => r1.append r2)
  obtain ⟨fl, dl, FL, gL⟩ := G.like
  have GL : FnG P w K mg base CX0 2 fl dl ["pairs_here", "others"] (spLike K) := ok_like FL N SY
  have bL : L2.Binds K dl ["pairs_here", "others"] [] := FL.bindsN fun _ _ _ _ _ _ us hl => match us, hl with | [_, _], _ => rfl
  obtain ⟨fe, de, ME, FE⟩ := G.M.be
  have GE : FnOk P w K mg base CX0 6 fe de ["self", "key", "value"] (spEnt K) := ok_ent G.M.C FE N T R
  have bE : L2.Binds K de ["self", "key", "value"] [] := FE.bindsN fun _ _ _ _ _ _ us hl => match us, hl with | [_, _, _], _ => rfl
  obtain ⟨pb, fb, db, PB, FB⟩ := G.M.bp
  have GB : FnOk P w K mg base CX0 1 fb db ["self"] (spPairs K) := ok_pairs G.M.C FB N
  have bB : L2.Binds K db ["self"] [] := FB.bindsN fun _ _ _ _ _ _ us hl => match us, hl with | [_], _ => rfl
  obtain ⟨pf, ff, df, PF, FF⟩ := G.M.tf
  have GF : FnOk P w K mg base CX0 1 ff df ["self"] (spFields K) := ok_fields G.M.B FF N
  have bF : L2.Binds K df ["self"] [] := FF.bindsN fun _ _ _ _ _ _ us hl => match us, hl with | [_], _ => rfl
  refine F.okG scTR (fun vs H Q E h => ?_) (fun cdv A outer s H vs Q E hgu hr h => ?_)
  · obtain ⟨m, l, lw, q, bv, kvs, us, rfl, _⟩ := h
    rfl
  · have hu := Nat.lt_of_succ_lt (hu_of hr)
    obtain ⟨t0, p0, q0⟩ := tr_s0 (P := P) (w := w) (base := base) (f := f) (cdv := cdv) (A := A) (outer := outer) (s := s) (H := H) (E := E) G N T hr
    obtain ⟨t2, p2, q2⟩ := tr_s2 (P := P) (w := w) (K := K) (mg := mg) (base := base) (f := f) (cdv := cdv) (A := A) (outer := outer) (s := s) (H := H) (E := E)
    obtain ⟨t3, p3, q3⟩ := tr_s3 (P := P) (w := w) (K := K) (mg := mg) (base := base) (f := f) (cdv := cdv) (A := A) (outer := outer) (s := s) (H := H) (E := E)
    obtain ⟨t6, p6, q6⟩ := tr_s6 (P := P) (w := w) (base := base) (f := f) (cdv := cdv) (A := A) (outer := outer) (s := s) (H := H) (E := E) G N SY hgu hr
    have p1 : PS (XT P w K mg base f cdv A outer s H E) (sT 1) _ := ps_asg (pe_hook MP FP.fnI GP (hr.mono (by decide)) bP pass0 (pv 3) (pa_cons (pv 0) pa_nil)) (pg_tup rfl (pgs_cons (pg_name (i := 4) scTR.nd rfl (Or.inl rfl)) (pgs_cons (pg_name (i := 5) scTR.nd rfl (Or.inl rfl)) pgs_nil)))
    have p4 : PS (XT P w K mg base f cdv A outer s H E) (sT 4) _ := ps_set (i := 9) scTR.nd rfl (Or.inl rfl) (pe_hookK MP FP.fnI GP (hr.mono (by decide)) kP pass0 (pv 3) (pk_cons (pv 0) pk_nil))
    have p5 : PS (XT P w K mg base f cdv A outer s H E) (sT 5) _ := ps_if (PW.pt (pw_or (pt_cmp (pc_notN (pv 5))) (pw_or (pt_cmp (pc_notN (pe_ix (show IxR _ (rIxT K) from ix_tup) (pv 9) pe_int (fun _ _ => rfl)))) (pw_or1 (pt_not (pt_val (pe_callB call_isTup (by rfl) N.isi (by decide +kernel) (pa_cons (pv 4) (pa_cons (pe_bltn (v := .ty "tuple") (by rfl) N.tuple (by decide +kernel) rfl) pa_nil))))))))) (pss_one (ps_ret pe_bl)) pss_nil
    have p7 : PS (XT P w K mg base f cdv A outer s H E) (sT 7) _ := ps_set (i := 11) scTR.nd rfl (Or.inl rfl) (pe_bare G.C.wh (by rfl) G.C.wm)
    have p8 : PS (XT P w K mg base f cdv A outer s H E) (sT 8) _ := ps_par (i := 6) (j := 12) rfl scTR.nd rfl rfl (by decide) rfl rfl (pa_cons (pe_hook MW FW.fnI GW hr bW pass0 (pv 11) (pa_cons (pv 0) pa_nil)) (pa_cons (pe_hookK MW FW.fnI GW hr kW pass0 (pv 11) (pk_cons (pv 0) pk_nil)) pa_nil)) (by rfl)
    have p9 : PS (XT P w K mg base f cdv A outer s H E) (sT 9) _ := ps_if (PW.pt (pw_or (pt_cmpR (op_neD hr.units) (pe_ix (show IxR _ (rIxT K) from ix_tup) (pv 6) pe_int (fun _ _ => rfl)) (pe_tup pa_nil) (nomark _)) (pw_or (pt_cmpR (op_neD hr.units) (pe_ix (show IxR _ (rIxT K) from ix_tup) (pv 12) pe_int (fun _ _ => rfl)) (pe_tup pa_nil) (nomark _))
        (pw_or (pt_cmpR (op_eqO hu) (pe_ix (show IxR _ (rIxT K) from ix_tup) (pv 6) pe_int (fun _ _ => rfl)) (pe_ix (show IxR _ (rIxT K) from ix_tup) (pv 12) pe_int (fun _ _ => rfl)) (nomark _)) (pw_or1 (pt_not (pt_val (pe_callB (call_isC (CN := CN K)) (by rfl) N.isi (by decide +kernel) (pa_cons (pe_ix (show IxR _ (rIxT K) from ix_tup) (pv 6) pe_int (fun _ _ => rfl)) (pa_cons (pe_glob (v := .ref (CB K)) (by rfl) G.C.bm rfl) pa_nil))))))))))
        (pss_one (ps_ret pe_bl)) pss_nil
    have p10 : PS (XT P w K mg base f cdv A outer s H E) (sT 10) _ := ps_expr (pe_meth (pe_ix (show IxR _ (rIxT K) from ix_tup) (pv 6) pe_int (fun _ _ => rfl)) G.M.C.cls ME GE (hr.mono (by decide)) bE .nil pass0 (pa_cons pe_str (pa_cons pe_int pa_nil)))
    have p11 : PS (XT P w K mg base f cdv A outer s H E) (sT 11) _ := ps_ret (pe_and (pe_callG hgu GL (hr.mono (by decide)) (by rfl) gL FL.kp bL .nil pass0 (pa_cons (pe_callTy call_list_of (by rfl) N.list (by decide +kernel) (pa_cons (pe_prop (pe_ix (show IxR _ (rIxT K) from ix_tup) (pv 12) pe_int (fun _ _ => rfl)) G.M.C.cls PB GB (hr.mono (by decide)) bB .nil pass0 (by rfl)) pa_nil)) (pa_cons (pv 1) pa_nil)))
      (pe_one (pe_callG hgu GL (hr.mono (by decide)) (by rfl) gL FL.kp bL .nil pass0 (pa_cons (pe_callTy call_list_of (by rfl) N.list (by decide +kernel) (pa_cons (pe_prop (pv 0) G.M.B.cls PF GF (hr.mono (by decide)) bF .nil pass0 (by rfl)) pa_nil)) (pa_cons (pv 1) pa_nil)))))
    rw [tr_body]
    refine ⟨_, PSs.nox (pss_cons p0 (pss_cons p1 (pss_cons p2 (pss_cons p3 (pss_cons p4 (pss_cons p5 (pss_cons p6 (pss_cons p7 (pss_cons p8 (pss_cons p9 (pss_cons p10 (pss_one p11)))))))))))), ?_⟩
    obtain ⟨m, l, lw, q, bv, kvs, us, rfl, ⟨dm, hm, hq⟩, ⟨ts, hl, hts⟩, hR, eK, W, hw, k⟩ := h
    have L5_ := W.len
    have lk : kvs.length ≤ 5 := by
      have z := congrArg List.length eK
      rw [List.length_map, List.length_map] at z
      omega
    have Wr : Wds us.reverse := ⟨fun x mx => L5_sub (W.lab x (List.mem_reverse.mp mx)), List.pairwise_reverse.mpr (W.nd.imp fun h => Ne.symm h), by rw [List.length_reverse]; exact L5_⟩
    have W2 : Wds (us.reverse.take 2) := ⟨fun x m => Wr.lab x (List.mem_of_mem_take m), Wr.nd.sublist (List.take_sublist _ _), Nat.le_trans (List.length_take_le _ _) (by decide)⟩
    have mus : ∀ x ∈ us.reverse.take 2, x ∈ us := fun x mx => List.mem_reverse.mp (List.mem_of_mem_take mx)
    have fvs : ∀ x ∈ us.reverse.take 2, valV kvs (.inr x) = some (fvK kvs x) := fun x mx => fv_some eK (mus x mx)
    refine q0 _ H m l lw _ hw Wr fun H1 hk s1 hf => ?_
    obtain ⟨dk, tl, h1, h2⟩ := hf
    refine ⟨_, rfl, hk, rfl, _, rfl, dk, _, h1, hk, tl, m, dk, q, bv, us.reverse.take 2, kvs, fvK kvs, rfl, h1, SqT.of h2, W2, ⟨dm, s1 _ _ hm, s1 _ _ hq⟩, fvs, fun t1 r1 H2 s2 e1 e2 => ?_⟩
    have s12 := s1.tr s2
    refine ⟨t1, _, rfl, SqT.of e1, rfl, _, _, rfl, _, _, rfl, rfl, ?_⟩
    refine q2 _ H2 m l lw hk r1 ts kvs us.reverse (SqL.of (s12 _ _ hl)) (hts.to s12) hR.key lk (sqL_to s12 hw) fun H3 d uss s3 hd husm => ?_
    have s13 := s12.tr s3
    refine q3 _ H3 m l lw hk r1 d uss _ us.reverse (fvK kvs) hd husm (fun r mr => hR.key r (List.mem_filter.mp mr).1) (Nat.le_trans (List.length_filter_le _ _) lk) (sqL_to s13 hw) (fun x mx => by rw [pick_val mx]; exact fvs x mx) fun H4 d2 s4 hd2 => ?_
    have s14 := s13.tr s4
    have s24 := s2.tr (s3.tr s4)
    refine ⟨_, rfl, hk, rfl, _, rfl, dk, _, s24 _ _ h1, rfl, hk, tl, m, dk, q, bv, us.reverse.take 2, kvs, fvK kvs, rfl, s24 _ _ h1, SqT.of (s24 _ _ h2), W2, ⟨dm, s14 _ _ hm, s14 _ _ hq⟩, fvs, fun a9 r2 H5 s5 f1 f2 => ?_⟩
    have s15 := s14.tr s5
    have s35 := s3.tr (s4.tr s5)
    refine ⟨_, rfl, _, rfl, iteNS rfl ?_⟩
    refine ⟨_, rfl, a9, _, 1, .non, rfl, rfl, SqT.of f1, rfl, _, rfl, iteNS rfl ?_⟩
    refine ⟨_, rfl, .ref r1, "tuple", true, rfl, ty_tup (SqT.of (s35 _ _ e2)), rfl, by decide, _, rfl, iteF ?_⟩
    refine q6 _ H5 m l lw hk r1 r2 d d2 a9 ((us.reverse.take 2).map (fvK kvs)) (s35 _ _ e2) f2 f1 (s5 _ _ hd2) (by rw [List.length_map]; exact Nat.le_trans (List.length_take_le _ _) (by decide)) (fun v mv => ?_) fun H6 t10 s6 => ?_
    · obtain ⟨x, mx, rfl⟩ := List.mem_map.mp mv
      exact (hR.val _ (val_mem (fvs x mx))).to (KI.of s15)
    have s16 := s15.tr s6
    refine fun n7 dn7 nn7 nd7 ne7 => ?_
    have s7 : Same H6 (upd (upd H6 dn7 (.own n7)) n7 (.ins (CW K) dn7 [])) := fun b o e => by
      rw [upd_ne (ne_of_none e nn7), upd_ne (ne_of_none e nd7)]
      exact e
    have h7 : (upd (upd H6 dn7 (.own n7)) n7 (.ins (CW K) dn7 [])) n7 = some (.ins (CW K) dn7 []) := upd_same
    generalize upd (upd H6 dn7 (.own n7)) n7 (.ins (CW K) dn7 []) = H7 at *
    have s17 := s16.tr s7
    have nd : (kvs.map (·.1)).Nodup := by
      rw [eK]
      exact inr_nodup W.nd
    refine ⟨_, rfl, n7, rfl, _, rfl, dn7, [], h7, n7, m, dn7, q, [], bv, kvs, rfl, h7, ⟨dm, s17 _ _ hm, s17 _ _ hq⟩, by omega, hR.to (KI.of s17), nd, fun ta ta0 b1 qb1 H8 s8 g1 g0 nb1 nqb1 B1 => ?_⟩
    have s18 := s17.tr s8
    refine ⟨_, rfl, n7, rfl, _, rfl, dn7, [], s8 _ _ h7, rfl, n7, m, dn7, q, [], bv, kvs, rfl, s8 _ _ h7, ⟨dm, s18 _ _ hm, s18 _ _ hq⟩, by omega, hR.to (KI.of s18), nd, fun tb tb0 b2 qb2 H9 s9 k1 k0 nb2 nqb2 B2 => ?_⟩
    have s19 := s18.tr s9
    have g1' := s9 _ _ g1
    have g0' := s9 _ _ g0
    have b12 : b1 ≠ b2 := by
      obtain ⟨_, z, _⟩ := B1
      exact ne_of_none z nb2
    have q12 : qb1 ≠ qb2 := by
      obtain ⟨_, _, z⟩ := B1
      exact ne_of_none z nqb2
    have nq10 : H qb1 = none := none_of s17 nqb1
    obtain ⟨db1, c1, v1⟩ := B1.to s9
    obtain ⟨db2, c2, v2⟩ := B2
    refine ⟨_, _, rfl, ?_⟩
    refine ⟨_, rfl, ta, _, 0, .ref ta0, rfl, rfl, SqT.of g1', rfl, Nat.zero_le _, fun te nte => ?_⟩
    have se := same_new (o := .tup []) nte
    refine ⟨.tuple [], .tuple [], .tup (SqT.of (se _ _ g0')) .nil, .tup (SqT.of upd_same) .nil, by decide +kernel, by decide +kernel, _, rfl, ?_⟩
    rw [tup_eqv]
    refine iteF ?_
    refine ⟨_, rfl, tb, _, 0, .ref tb0, rfl, rfl, SqT.of (se _ _ k1), rfl, Nat.zero_le _, fun tg ntg => ?_⟩
    have sg := same_new (o := .tup []) ntg
    have seg := se.tr sg
    refine ⟨.tuple [], .tuple [], .tup (SqT.of (seg _ _ k0)) .nil, .tup (SqT.of upd_same) .nil, by decide +kernel, by decide +kernel, _, rfl, ?_⟩
    rw [tup_eqv]
    refine iteF ?_
    have e9 : ∀ b o, H9 b = some o → (upd (upd H9 te (.tup [])) tg (.tup [])) b = some o := seg
    generalize upd (upd H9 te (.tup [])) tg (.tup []) = HA at *
    have s1A := s19.tr seg
    refine ⟨_, rfl, ta, _, 1, .ref b1, rfl, rfl, SqT.of (e9 _ _ g1'), rfl, _, rfl, tb, _, 1, .ref b2, rfl, rfl, SqT.of (e9 _ _ k1), rfl, b1, b2, CB K, CB K, db1, db2, _, _, true, rfl, rfl, e9 _ _ c1, e9 _ _ c2, G.C.bn.eqc, G.C.bn.eqc, G.C.bn.mro, _, rfl, iteDN b12 ?_⟩
    refine ⟨_, rfl, ta, _, 1, .ref b1, rfl, rfl, SqT.of (e9 _ _ g1'), rfl, b1, CB K, CB K, db1, _, true, rfl, G.C.bn, e9 _ _ c1, G.C.bk, _, rfl, iteF ?_⟩
    have ln := later_none W.lab eK
    refine ⟨_, rfl, ta, _, 1, .ref b1, rfl, rfl, SqT.of (e9 _ _ g1'), rfl, b1, db1, _, rfl, e9 _ _ c1, rfl, b1, qb1, kvs, "later", .int 1, rfl, ⟨db1, e9 _ _ c1, e9 _ _ v1⟩, by omega, by decide, one_val K _, ln, ?_⟩
    have sB : Same H (upd HA qb1 (.dK (putK kvs (.inr "later") (.int 1)))) := same_updN s1A nq10
    have vB : (upd HA qb1 (.dK (putK kvs (.inr "later") (.int 1)))) qb2 = some (.dK kvs) := by rw [upd_ne q12.symm]; exact e9 _ _ v2
    have cB : (upd HA qb1 (.dK (putK kvs (.inr "later") (.int 1)))) b2 = some (.ins (CB K) db2 (BF qb2)) := by rw [upd_ne (ne_of (e9 _ _ c2) (e9 _ _ v1) (by intro z; cases z))]; exact e9 _ _ c2
    have kB : (upd HA qb1 (.dK (putK kvs (.inr "later") (.int 1)))) tb = some (.tup [.ref tb0, .ref b2]) := by rw [upd_ne (ne_of (e9 _ _ k1) (e9 _ _ v1) (by intro z; cases z))]; exact e9 _ _ k1
    generalize upd HA qb1 (.dK (putK kvs (.inr "later") (.int 1))) = HB at *
    refine ⟨_, rfl, tb, _, 1, .ref b2, rfl, rfl, SqT.of kB, rfl, b2, db2, _, rfl, cB, b2, qb2, kvs, rfl, ⟨db2, cB, vB⟩, fun HC pa sC ⟨ta2, hpa, hta⟩ => ⟨pa, _, rfl, .inr hpa, fun la nla => ?_⟩⟩
    have sl := same_new (o := .lst (ta2.map V.ref)) nla
    have sD := sB.tr (sC.tr sl)
    refine ⟨_, rfl, la, l, ta2, ts, kvs, rfl, SqL.of upd_same, SqL.of (sD _ _ hl), hta.to sl, hts.to sD, hR.to (KI.of sD), by omega, fun HE sE => ⟨_, rfl, iteT ?_⟩⟩
    have s1E := sD.tr sE
    refine ⟨_, rfl, m, dm, _, rfl, s1E _ _ hm, m, q, bv, kvs, rfl, ⟨dm, s1E _ _ hm, s1E _ _ hq⟩, fun HF pb sF_ ⟨tb2, hpb, htb⟩ => ⟨pb, _, rfl, .inr hpb, fun lb nlb => ?_⟩⟩
    have sl2 := same_new (o := .lst (tb2.map V.ref)) nlb
    have s1G := s1E.tr (sF_.tr sl2)
    exact ⟨_, rfl, lb, l, tb2, ts, kvs, rfl, SqL.of upd_same, SqL.of (s1G _ _ hl), htb.to sl2, hts.to s1G, hR.to (KI.of s1G), by omega, fun HH sH => k HH (s1G.tr sH)⟩
end
end Kh

set_option Elab.async false
set_option linter.all false
set_option maxRecDepth 100000
set_option maxHeartbeats 4000000
namespace Kh
open PySem PySem.Spec PyProof.Rows L2 StX ClX
/-! ### Refill, looked at -/
abbrev sRR : Stmt := top 68
abbrev NR : List Str := ["draw", "made", "pairs_here", "book", "due", "one", "far", "known", "shown", "hook", "word", "old"]
theorem scRR : FnScope NR ["draw", "made", "pairs_here"] (defScope sRR) := ⟨rfl, rfl, rfl, by decide +kernel, rfl, by decide +kernel, by decide +kernel⟩
def sR (k : Nat) : Stmt := (defBody sRR).getD k (.Pass ⟨0, 0, 0, 0⟩)
theorem rr_body : defBody sRR = [sR 0, sR 1, sR 2, sR 3, sR 4, sR 5, sR 6] := rfl
/-! dicts -/
theorem put_same {kvs : List (Key × V)} {k : Key} {v : V} (nd : (kvs.map (·.1)).Nodup) (h : valV kvs k = some v) : putK kvs k v = kvs := by
  have a : (kvs.any fun kv => decide (kv.1 = k)) = true := by
    rw [valV_any, h]
    rfl
  unfold putK
  rw [if_pos a]
  have e : kvs.map (fun kv => if kv.1 = k then (kv.1, v) else kv) = kvs.map id := by
    refine List.map_congr_left fun p hp => ?_
    by_cases c : p.1 = k
    · rw [if_pos c]
      have m := val_mem h
      obtain ⟨i, hi⟩ := List.mem_iff_getElem?.mp hp
      obtain ⟨j, hj⟩ := List.mem_iff_getElem?.mp m
      have e1 : (kvs.map (·.1))[i]? = some k := by rw [List.getElem?_map, hi]; exact congrArg some c
      have e2 : (kvs.map (·.1))[j]? = some k := by rw [List.getElem?_map, hj]; rfl
      have hl : i < (kvs.map (·.1)).length := by
        rcases Nat.lt_or_ge i (kvs.map (·.1)).length with z | z
        · exact z
        · rw [List.getElem?_eq_none z] at e1
          cases e1
      have ij : i = j := (List.getElem?_inj hl nd).mp (e1.trans e2.symm)
      subst ij
      rw [hi] at hj
      have z := Option.some.inj hj
      rw [z]
      rfl
    · rw [if_neg c]
      rfl
  rw [e, List.map_id]
theorem put_keys {kvs : List (Key × V)} {k : Key} {v : V} (nd : (kvs.map (·.1)).Nodup) : ((putK kvs k v).map (·.1)).Nodup := by
  unfold putK
  split
  · rw [List.map_map]
    have e : ((fun (x : Key × V) => x.1) ∘ fun kv => if kv.1 = k then (kv.1, v) else kv) = fun x => x.1 := by
      funext p
      show (if p.1 = k then (p.1, v) else p).1 = p.1
      split <;> rfl
    rw [e]
    exact nd
  · rename_i h
    rw [List.map_append]
    refine List.nodup_append.mpr ⟨nd, List.pairwise_singleton _ _, fun a ha b hb z => ?_⟩
    have hb' : b = k := List.mem_singleton.mp hb
    obtain ⟨p, hp, e⟩ := List.mem_map.mp ha
    exact h (List.any_eq_true.mpr ⟨p, hp, decide_eq_true (by rw [e, z, hb'])⟩)
theorem merge_keys : ∀ {more kvs : List (Key × V)}, (kvs.map (·.1)).Nodup → ((mergeK kvs more).map (·.1)).Nodup
  | [], _, nd => nd
  | _ :: more, _, nd => merge_keys (more := more) (put_keys nd)
theorem val_merge_not {k : Key} : ∀ {more kvs : List (Key × V)}, k ∉ more.map (·.1) → valV (mergeK kvs more) k = valV kvs k
  | [], _, _ => rfl
  | r :: more, kvs, h => by
    have z := val_merge_not (more := more) (kvs := putK kvs r.1 r.2) (k := k) fun m => h (List.mem_cons_of_mem _ m)
    have e : mergeK kvs (r :: more) = mergeK (putK kvs r.1 r.2) more := rfl
    rw [e, z, valV_put, if_neg fun m => h (by rw [m]; exact List.mem_cons_self ..)]
theorem val_merge_in {r : Key × V} : ∀ {more kvs : List (Key × V)}, (more.map (·.1)).Nodup → r ∈ more → valV (mergeK kvs more) r.1 = some r.2
  | p :: more, kvs, nd, h => by
    have nd' := List.nodup_cons.mp nd
    have e : mergeK kvs (p :: more) = mergeK (putK kvs p.1 p.2) more := rfl
    rw [e]
    rcases List.mem_cons.mp h with h | h
    · subst h
      rw [val_merge_not nd'.1, valV_put, if_pos rfl]
    · exact val_merge_in nd'.2 h
theorem merge_idem {kvs bk : List (Key × V)} (n1 : (kvs.map (·.1)).Nodup) (n2 : (bk.map (·.1)).Nodup) : mergeK (mergeK kvs bk) bk = mergeK kvs bk := by
  have key : ∀ l : List (Key × V), (∀ r ∈ l, r ∈ bk) → mergeK (mergeK kvs bk) l = mergeK kvs bk := by
    intro l
    induction l with
    | nil => intro _; rfl
    | cons r l ih =>
      intro h
      have e : mergeK (mergeK kvs bk) (r :: l) = mergeK (putK (mergeK kvs bk) r.1 r.2) l := rfl
      rw [e, put_same (merge_keys n1) (val_merge_in n2 (h r (List.mem_cons_self ..)))]
      exact ih fun x m => h x (List.mem_cons_of_mem _ m)
  exact key bk fun _ m => m
theorem put_rws {K : PySem.W.Frag} {H : Hp} {kvs : List (Key × V)} {x : Str} {v : V} (h : Rws K H kvs) (hx : x ∈ LABS) (hv : Val K H v) : Rws K H (putK kvs (.inr x) v) := by
  unfold putK
  split
  · refine ⟨fun r m => ?_, fun r m => ?_⟩
    · obtain ⟨p, hp, rfl⟩ := List.mem_map.mp m
      obtain ⟨y, my, e⟩ := h.key p hp
      refine ⟨y, my, ?_⟩
      split <;> exact e
    · obtain ⟨p, hp, rfl⟩ := List.mem_map.mp m
      split
      · exact hv
      · exact h.val p hp
  · refine ⟨fun r m => ?_, fun r m => ?_⟩
    · rcases List.mem_append.mp m with m | m
      · exact h.key r m
      · rw [List.mem_singleton.mp m]
        exact ⟨x, hx, rfl⟩
    · rcases List.mem_append.mp m with m | m
      · exact h.val r m
      · rw [List.mem_singleton.mp m]
        exact hv
theorem any_inV {x : Str} : ∀ {kvs : List (Key × V)}, (∀ r ∈ kvs, ∃ y ∈ LABS, r.1 = .inr y) → inV (.str x) (kvs.map fun r => kV r.1) = kvs.any fun kv => decide (kv.1 = .inr x)
  | [], _ => rfl
  | r :: kvs, h => by
    obtain ⟨y, _, e⟩ := h r (List.mem_cons_self ..)
    have ih := any_inV (x := x) (kvs := kvs) fun p m => h p (List.mem_cons_of_mem _ m)
    show (eqV (kV r.1) (.str x) || inV (.str x) (kvs.map fun r => kV r.1)) = (decide (r.1 = .inr x) || kvs.any fun kv => decide (kv.1 = .inr x))
    rw [ih, e]
    have e2 : eqV (kV (.inr y)) (.str x) = decide ((.inr y : Key) = .inr x) := by
      show (y == x) = _
      by_cases c : y = x
      · subst c
        rw [beq_self_eq_true, decide_eq_true rfl]
      · rw [decide_eq_false (fun z => c (by injection z)), beq_eq_false_iff_ne.mpr c]
    rw [e2]
theorem flat_keys {kvs : List (Key × V)} (h : ∀ r ∈ kvs, ∃ y ∈ LABS, r.1 = .inr y) : (kvs.map fun r => kV r.1).all flatV = true := by
  rw [List.all_map]
  refine List.all_eq_true.mpr fun r m => ?_
  obtain ⟨y, _, e⟩ := h r m
  show flatV (kV r.1) = true
  rw [e]
  rfl
/-- with the new value in its place -/
def inPl (x : Str) (v : V) (r : Key × V) : Key × V := if r.1 = .inr x then (r.1, v) else r
theorem put_in {kvs : List (Key × V)} {x : Str} {v : V} (h : (kvs.any fun kv => decide (kv.1 = .inr x)) = true) : putK kvs (.inr x) v = kvs.map (inPl x v) := by
  unfold putK
  rw [if_pos h]
  rfl
theorem put_out {kvs : List (Key × V)} {x : Str} {v : V} (h : (kvs.any fun kv => decide (kv.1 = .inr x)) = false) : putK kvs (.inr x) v = kvs.map (inPl x v) ++ [(.inr x, v)] := by
  unfold putK
  rw [if_neg (by rw [h]; exact Bool.false_ne_true)]
  have e : kvs.map (inPl x v) = kvs.map id := by
    refine List.map_congr_left fun p hp => ?_
    have z : ¬ p.1 = .inr x := fun z => by
      have := List.any_eq_false.mp h p hp
      exact this (decide_eq_true z)
    exact if_neg z
  rw [e, List.map_id]
end Kh

set_option Elab.async false
set_option linter.all false
set_option maxRecDepth 100000
set_option maxHeartbeats 4000000
namespace Kh
open PySem PySem.Spec PyProof.Rows L2 StX ClX
/-- the state of the loop that enters -/
structure Rs (K : PySem.W.Frag) (H : Hp) (p m q b qb d : Addr) (bv : V) (kvs bk : List (Key × V)) (n : Nat) : Prop where
  draw : DrawAt H p n
  thg : ThgAt K H m q bv kvs
  bok : BkAt K H b qb bk
  due : PairsL K H d (mergeK kvs bk)
  rB : Rws K H bk
  rD : Rws K H (mergeK kvs bk)
theorem pre_make {H : Hp} {n dn : Addr} {o1 o2 : HO} (nn : H n = none) (nd : H dn = none) : Same H (upd (upd H dn o1) n o2) := fun b o e => by
  rw [upd_ne (ne_of_none e nn), upd_ne (ne_of_none e nd)]
  exact e
abbrev σR (p m l b d : Addr) (t5 t6 t7 t8 t9 : Option V) : L2.St := [some (.ref p), some (.ref m), some (.ref l), some (.ref b), some (.ref d), t5, t6, t7, t8, t9, none, none]
section
variable {P : Program} {w : World} {K : PySem.W.Frag} {mg : Str → Option Value} {base : Heap} {f : Addr} {cdv : Value} {A : Around} {outer : List Env} {s : Shared} {H : Hp} {E : XK}
abbrev XRr (P : Program) (w : World) (K : PySem.W.Frag) (mg : Str → Option Value) (base : Heap) (f : Addr) (cdv : Value) (A : Around) (outer : List Env) (s : Shared) (H : Hp) (E : XK) : Cx := (cxOf CX0 P w K mg base NR "_law_refilled_right" (defScope sRR) f cdv A outer s H E).nox
theorem rr_s1 (G : Hc K mg) (N : Nm K mg) (T : Ts K mg) (R : Rq K mg) (D : Dr K mg) (LA : ∃ f fd, FnP K "_law_atom" sAtom f fd ∧ mg "_law_atom" = some (.ref f)) (LB : ∃ f fd, FnP K "_law_labels" sLbs f fd ∧ mg "_law_labels" = some (.ref f)) (hr : Room 8 (XRr P w K mg base f cdv A outer s H E).A) :
    ∃ t, PS (XRr P w K mg base f cdv A outer s H E) (sR 1) t ∧ ∀ (D : Ends) (H0 : Hp) (p m q l b qb d : Addr) (bv : V) (kvs : List (Key × V)) (n : Nat), Rs K H0 p m q b qb d bv kvs [] n → n < 99000 → kvs.length ≤ 5 → q ≠ p → qb ≠ p → q ≠ qb →
      (∀ H1 d1 bk t5 t6 t7, Rs K H1 p m q b qb d1 bv kvs bk (n + 7) → bk.length ≤ 5 → (bk.map (·.1)).Nodup → D.nx (σR p m l b d1 t5 t6 t7 none none) H1) → t D (σR p m l b d none none none none none) H0 := by
  obtain ⟨fX, dX, FX, gX⟩ := D.next
  obtain ⟨fM, dM, FM, gM⟩ := D.mixed
  have GX : FnOk P w K mg base CX0 2 fX dX ["draw", "bound"] spNext := ok_next FX FM gM N.len
  have bX : Binds K dX ["draw", "bound"] [] := FX.bindsN fun _ _ _ _ _ _ us hl => match us, hl with | [_, _], _ => rfl
  obtain ⟨fA, dA, FA, gA⟩ := LA
  have GA : FnOk P w K mg base CX0 3 fA dA ["draw"] spAtom := ok_atom FA N D
  have bA : Binds K dA ["draw"] [] := FA.bindsN fun _ _ _ _ _ _ us hl => match us, hl with | [_], _ => rfl
  obtain ⟨fB, dB, FB, gB⟩ := LB
  have GB : FnOk P w K mg base CX0 3 fB dB ["draw", "many"] spLbs := ok_lbs FB N D
  have bB : Binds K dB ["draw", "many"] [] := FB.bindsN fun _ _ _ _ _ _ us hl => match us, hl with | [_, _], _ => rfl
  obtain ⟨fe, de, ME, FE⟩ := G.M.be
  have GE : FnOk P w K mg base CX0 6 fe de ["self", "key", "value"] (spEnt K) := ok_ent G.M.C FE N T R
  have bE : L2.Binds K de ["self", "key", "value"] [] := FE.bindsN fun _ _ _ _ _ _ us hl => match us, hl with | [_, _, _], _ => rfl
  refine ⟨_, ps_for PassesOwn.never rfl (pi_list (pe_call GB (hr.mono (by decide)) (by rfl) gB FB.kp bB .nil pass0 (pa_cons (pv 0) (pa_cons (pe_call GX (hr.mono (by decide)) (by rfl) gX FX.kp bX .nil pass0 (pa_cons (pv 0) (pa_cons pe_int pa_nil))) pa_nil)))) (pg_name (i := 5) scRR.nd rfl (Or.inr rfl))
      (pss_cons (ps_set (i := 6) scRR.nd rfl (Or.inr rfl) (pe_call GA (hr.mono (by decide)) (by rfl) gA FA.kp bA .nil pass0 (pa_cons (pv 0) pa_nil)))
      (pss_cons (ps_expr (pe_meth (pv 3) G.M.C.cls ME GE (hr.mono (by decide)) bE .nil pass0 (pa_cons (pv 5) (pa_cons (pv 6) pa_nil))))
      (pss_cons (ps_setLc (i := 7) (own := [("word", 10), ("old", 11)]) (g := gTup K 2 (gCons (gName 10) (gCons (gName 11) gNil))) (tt := tYes) rfl scRR.nd rfl rfl (sw_true rfl rfl rfl rfl) (pi_list (pv 4)) (blkOk_by (own := [("word", 10), ("old", 11)]) (N := NR) (sc := defScope sRR) (by decide +kernel))
          (fun _ _ _ _ _ => pg_tup rfl (pgs_cons (pg_name (i := 10) scRR.nd rfl (Or.inl rfl)) (pgs_cons (pg_name (i := 11) scRR.nd rfl (Or.inl rfl)) pgs_nil))) (fun _ _ _ _ _ => pts_nil) (fun _ _ _ _ _ => pv 10))
      (pss_cons (ps_setLc (i := 4) (own := [("word", 10), ("old", 11)]) (g := gTup K 2 (gCons (gName 10) (gCons (gName 11) gNil))) (tt := tYes) rfl scRR.nd rfl rfl (sw_true rfl rfl rfl rfl) (pi_list (pv 4)) (blkOk_by (own := [("word", 10), ("old", 11)]) (N := NR) (sc := defScope sRR) (by decide +kernel))
          (fun _ _ _ _ _ => pg_tup rfl (pgs_cons (pg_name (i := 10) scRR.nd rfl (Or.inl rfl)) (pgs_cons (pg_name (i := 11) scRR.nd rfl (Or.inl rfl)) pgs_nil))) (fun _ _ _ _ _ => pts_nil) (fun _ _ _ _ _ => pe_tup (pa_cons (pv 10) (pa_cons (pe_ifExp (pt_cmpR op_eq (pv 10) (pv 5) (nomark _)) (pv 6) (pv 11)) pa_nil))))
      (pss_one (ps_if (pt_cmpR (show OpR _ _ (rIn K true) from op_notIn_seq) (pv 5) (pv 7) rfl) (pss_one (ps_expr (pe_bm PySem.F.plainAttrs_list PySem.F.slot_list_append PySem.F.type_list_append mt_append (pv 4) (pa_cons (pe_tup (pa_cons (pv 5) (pa_cons (pv 6) pa_nil))) pa_nil)))) pss_nil)))))), ?_⟩
  intro D H0 p m q l b qb d bv kvs n S hn hl nqp nbp nqq k
  refine ⟨_, rfl, _, rfl, p, 4, n, rfl, S.draw, by omega, by decide, by decide, fun r H2 ra rb D2 k1 => ?_⟩
  obtain ⟨mm, rfl⟩ := Int.eq_ofNat_of_zero_le ra
  refine ⟨p, n + 1, mm, rfl, by omega, D2, by omega, fun lw ws H3 W lm nlw hlw D3 k2 => ?_⟩
  have k12 := k1.trans k2
  -- what a draw leaves
  have keepS : ∀ {Ha Hb : Hp} {d : Addr} {bk : List (Key × V)} {n1 n2 : Nat}, Rs K Ha p m q b qb d bv kvs bk n1 → Keep p Ha Hb → DrawAt Hb p n2 → Rs K Hb p m q b qb d bv kvs bk n2 := fun {Ha Hb d bk n1 n2} S kk dd => by
    obtain ⟨dm, hm, hq⟩ := S.thg
    obtain ⟨db, hb, hqb⟩ := S.bok
    obtain ⟨us, hd, hus⟩ := S.due
    have kI : KI Ha Hb := fun a C dx fs e => kk a _ e (S.draw.ne e fun _ z => nomatch z)
    exact ⟨dd, ⟨dm, kk _ _ hm (S.draw.ne hm fun _ z => nomatch z), kk _ _ hq nqp⟩, ⟨db, kk _ _ hb (S.draw.ne hb fun _ z => nomatch z), kk _ _ hqb nbp⟩, ⟨us, kk _ _ hd (S.draw.ne hd fun _ z => nomatch z), hus.mono fun t a b e => kk t _ e (S.draw.ne e fun _ z => nomatch z)⟩, S.rB.to kI, S.rD.to kI⟩
  have S3 := keepS S k12 D3
  refine ⟨lw, rfl, ⟨_, SqL.of hlw⟩, for_it (walk_list (xs := ws.map V.str)) (fun i σ H' => ∃ (d1 : Addr) (bk : List (Key × V)) (t5 t6 t7 : Option V), σ = σR p m l b d1 t5 t6 t7 none none ∧ Rs K H' p m q b qb d1 bv kvs bk (n + 1 + mm + i) ∧ bk.map (·.1) = (ws.take i).map (Sum.inr (α := Int)) ∧ H' lw = some (.lst (ws.map V.str)) ∧ lw ≠ d1) ⟨d, [], none, none, none, rfl, S3, rfl, hlw, ?_⟩ (fun i σ H' _ z => ?_) ?_ ?_⟩
  · obtain ⟨us, hd, _⟩ := S.due
    intro z
    have y := k1 d _ hd (S.draw.ne hd fun _ z => nomatch z)
    rw [z, y] at nlw
    cases nlw
  · obtain ⟨_, _, _, _, _, rfl, _, _, z, _⟩ := z
    exact SqL.of z
  · rintro i y σ Ha Ha' hi ⟨d1, bk, t5, t6, t7, rfl, Sa, ak, aw, nwd⟩ ⟨rfl, hx⟩
    rw [List.getElem?_map] at hx
    obtain ⟨x, ex, rfl⟩ := Option.map_eq_some_iff.mp hx
    have W5 := W.len
    have hi5 : i < 5 := by
      rw [List.length_map] at hi
      omega
    have lbk : bk.length = i := by
      have z := congrArg List.length ak
      rw [List.length_map, List.length_map, List.length_take] at z
      rw [List.length_map] at hi
      omega
    have mx := W.lab x (List.mem_of_getElem? ex)
    have kv0 : valV bk (.inr x) = none := keys_val W.nd ak ex
    refine ⟨_, rfl, p, _, rfl, Sa.draw, by omega, fun v dv H4 hat D4 k4 => ?_⟩
    have hv : Val K H4 v := ⟨.dat dv, hat⟩
    have S4 := keepS Sa k4 D4
    have nlwp : lw ≠ p := Sa.draw.ne aw fun _ z => nomatch z
    have w4 := k4 lw _ aw nlwp
    obtain ⟨db, hb, hqb⟩ := S4.bok
    refine ⟨_, rfl, b, db, _, rfl, hb, rfl, _, rfl, _, rfl, b, qb, bk, x, v, rfl, ⟨db, hb, hqb⟩, by omega, lab_len (L5_sub mx), hv, kv0, ?_⟩
    rw [putK_new _ kv0]
    -- the book has it
    have bnb : b ≠ qb := ne_of hb hqb (by intro z; cases z)
    have kq : L2.Keep qb H4 (upd H4 qb (.dK (bk ++ [(.inr x, v)]))) := L2.Keep.upd
    have kI5 : KI H4 (upd H4 qb (.dK (bk ++ [(.inr x, v)]))) := KI.keep hqb kq
    have hqb5 : (upd H4 qb (.dK (bk ++ [(.inr x, v)]))) qb = some (.dK (bk ++ [(.inr x, v)])) := upd_same
    have D5 : DrawAt (upd H4 qb (.dK (bk ++ [(.inr x, v)]))) p (n + 1 + mm + i + 1) := by
      obtain ⟨c, cs, a, lf, us, g1, g2, r⟩ := S4.draw
      exact ⟨c, cs, a, lf, us, by rw [upd_ne nbp.symm]; exact g1, by rw [upd_ne (ne_of g2 hqb (by intro z; cases z))]; exact g2, r⟩
    obtain ⟨dm, hm, hq⟩ := S4.thg
    obtain ⟨us, hd, hus⟩ := S4.due
    have hm5 := kI5 _ _ _ _ hm
    have hb5 := kI5 _ _ _ _ hb
    have hq5 : (upd H4 qb (.dK (bk ++ [(.inr x, v)]))) q = some (.dK kvs) := by rw [upd_ne nqq]; exact hq
    have hd5 : (upd H4 qb (.dK (bk ++ [(.inr x, v)]))) d1 = some (.lst (us.map V.ref)) := by rw [upd_ne (ne_of hd hqb (by intro z; cases z))]; exact hd
    have hus5 := hus.keep hqb kq
    have w5 : (upd H4 qb (.dK (bk ++ [(.inr x, v)]))) lw = some (.lst (ws.map V.str)) := by rw [upd_ne (ne_of w4 hqb (by intro z; cases z))]; exact w4
    have rB5 := S4.rB.to kI5
    have rD5 := S4.rD.to kI5
    have hv5 : Val K (upd H4 qb (.dK (bk ++ [(.inr x, v)]))) v := hv.to kI5
    generalize upd H4 qb (.dK (bk ++ [(.inr x, v)])) = H5 at *
    have lD : (mergeK kvs bk).length ≤ 10 := by
      have z := merge_len bk kvs
      omega
    have lu : us.length = (mergeK kvs bk).length := Paired.length hus5
    -- known
    refine ⟨_, rfl, d1, rfl, ⟨_, SqL.of hd5⟩, fun D1 nD1 => lc_it (walk_list (xs := us.map V.ref)) (fun j H' => Same H5 H' ∧ H' D1 = some (.lst (((mergeK kvs bk).take j).map fun r => kV r.1))) ⟨same_new nD1, upd_same⟩ (fun j H' _ z => SqL.of (z.1 _ _ hd5)) ?_ ?_⟩
    · rintro j y2 Hb Hc hj ⟨sb, hDb⟩ ⟨rfl, hx2⟩
      rw [List.getElem?_map] at hx2
      obtain ⟨t, ht, rfl⟩ := Option.map_eq_some_iff.mp hx2
      obtain ⟨r, er, hy⟩ := LiI.paired_get hus5 ht
      refine ⟨t, _, rfl, SqT.of (sb _ _ hy), rfl, _, _, rfl, _, _, rfl, rfl, rfl, yesT ⟨_, rfl, _, hDb, ?_, same_updN sb nD1, ?_⟩⟩
      · rw [List.length_map, List.length_take]
        exact Nat.lt_of_le_of_lt (Nat.le_trans (Nat.min_le_right _ _) lD) (by decide)
      · rw [upd_same, List.take_add_one, er, List.map_append]
        rfl
    · rintro H6 ⟨s6, hD1⟩
      rw [List.length_map, lu, List.take_length] at hD1
      -- due
      have hd6 := s6 _ _ hd5
      refine ⟨_, rfl, d1, rfl, ⟨_, SqL.of hd6⟩, fun D2 nD2 => lc_it (walk_list (xs := us.map V.ref)) (fun j H' => Same H6 H' ∧ ∃ us2 : List Addr, H' D2 = some (.lst (us2.map V.ref)) ∧ Prs H' us2 (((mergeK kvs bk).take j).map (inPl x v))) ⟨same_new nD2, [], upd_same, .nil⟩ (fun j H' _ z => SqL.of (z.1 _ _ hd6)) ?_ ?_⟩
      · rintro j y2 Hb Hc hj ⟨sb, us2, hDb, hus2⟩ ⟨rfl, hx2⟩
        rw [List.getElem?_map] at hx2
        obtain ⟨t, ht, rfl⟩ := Option.map_eq_some_iff.mp hx2
        obtain ⟨r, er, hy⟩ := LiI.paired_get hus5 ht
        obtain ⟨z, _, ez⟩ := rD5.key r (List.mem_of_getElem? er)
        obtain ⟨key, v1⟩ := r
        have ez' : key = .inr z := ez
        subst ez'
        have l2 : us2.length ≤ 10 := by
          have z1 := Paired.length hus2
          rw [List.length_map, List.length_take] at z1
          omega
        have fin : ∀ (v2 : V), inPl x v (.inr z, v1) = (.inr z, v2) → ∀ t2, Hc t2 = none → ∃ acc, (upd Hc t2 (.tup [.str z, v2])) D2 = some (.lst acc) ∧ acc.length < sizeLine ∧ Same H6 (upd (upd Hc t2 (.tup [.str z, v2])) D2 (.lst (acc ++ [.ref t2]))) ∧ ∃ us3 : List Addr, (upd (upd Hc t2 (.tup [.str z, v2])) D2 (.lst (acc ++ [.ref t2]))) D2 = some (.lst (us3.map V.ref)) ∧ Prs (upd (upd Hc t2 (.tup [.str z, v2])) D2 (.lst (acc ++ [.ref t2]))) us3 (((mergeK kvs bk).take (j + 1)).map (inPl x v)) := fun v2 e2 t2 nt => by
          have st := same_new (o := .tup [.str z, v2]) nt
          have nDt : t2 ≠ D2 := fun z => by rw [z, hDb] at nt; cases nt
          refine ⟨_, st _ _ hDb, ?_, same_updN (sb.tr st) nD2, us2 ++ [t2], by rw [upd_same, List.map_append]; rfl, ?_⟩
          · rw [List.length_map]
            exact Nat.lt_of_le_of_lt l2 (by decide)
          · rw [show (mergeK kvs bk).take (j + 1) = (mergeK kvs bk).take j ++ [((.inr z : Key), v1)] from by rw [List.take_add_one, er]; rfl, List.map_append]
            refine prs_app (hus2.mono fun t1 a b e => ?_) (.cons (by show _ = _; rw [upd_ne nDt, upd_same, e2]; rfl) .nil)
            rw [upd_ne (ne_of (st _ _ e) (st _ _ hDb) (by intro z; cases z))]
            exact st _ _ e
        refine ⟨t, _, rfl, SqT.of (sb _ _ (s6 _ _ hy)), rfl, _, _, rfl, _, _, rfl, rfl, rfl, yesT ⟨_, rfl, _, rfl, _, rfl, rfl, _, rfl, ?_⟩⟩
        by_cases c : V.str z = V.str x
        · have e2 : inPl x v (.inr z, v1) = (.inr z, v) := if_pos (by injection c with c; rw [c])
          exact iteD c ⟨_, rfl, sz 2 (by decide), fun t2 nt => fin v e2 t2 nt⟩
        · have e2 : inPl x v (.inr z, v1) = (.inr z, v1) := if_neg fun y => c (by injection y with y; rw [y])
          exact iteDN c ⟨_, rfl, sz 2 (by decide), fun t2 nt => fin v1 e2 t2 nt⟩
      · rintro H7 ⟨s7, us2, hD2, hus2⟩
        rw [List.length_map, lu, List.take_length] at hus2
        have s57 := s6.tr s7
        have em : mergeK kvs (bk ++ [(.inr x, v)]) = putK (mergeK kvs bk) (.inr x) v := merge_snoc _ _ _
        have akn : (bk ++ [((.inr x : Key), v)]).map (·.1) = (ws.take (i + 1)).map (Sum.inr (α := Int)) := by
          rw [List.map_append, ak, List.take_add_one, ex, List.map_append]
          rfl
        have rBn : Rws K H5 (bk ++ [(.inr x, v)]) := by
          have z := put_rws (x := x) rB5 (L5_sub mx) hv5
          rw [putK_new _ kv0] at z
          exact z
        have rDn : Rws K H5 (mergeK kvs (bk ++ [(.inr x, v)])) := by
          rw [em]
          exact put_rws rD5 (L5_sub mx) hv5
        have nwD2 : lw ≠ D2 := ne_of_none (s6 _ _ w5) nD2
        refine ⟨_, rfl, _, rfl, D1, _, rfl, .inl (SqL.of (s7 _ _ hD1)), rfl, flat_keys rD5.key, _, rfl, ?_⟩
        show if (!inV (.str x) ((mergeK kvs bk).map fun r => kV r.1)) = true then _ else _
        rw [any_inV rD5.key]
        cases ea : (mergeK kvs bk).any fun kv => decide (kv.1 = .inr x) with
        | true =>
          refine iteF ⟨D2, _, _, _, _, rfl, ⟨(D5.same s57).mono (by omega), ⟨dm, s57 _ _ hm5, s57 _ _ hq5⟩, ⟨db, s57 _ _ hb5, s57 _ _ hqb5⟩, ⟨us2, hD2, ?_⟩, rBn.to (KI.of s57), rDn.to (KI.of s57)⟩, akn, s57 _ _ w5, nwD2⟩
          rw [em, put_in ea]
          exact hus2
        | false =>
          refine iteT ⟨_, rfl, .inl ⟨rfl, _, SqL.of hD2⟩, _, rfl, _, rfl, sz 2 (by decide), fun t nt => ?_⟩
          have st := same_new (o := .tup [.str x, v]) nt
          have l2 : us2.length ≤ 10 := by
            have z1 := Paired.length hus2
            rw [List.length_map] at z1
            omega
          refine ⟨D2, _, _, rfl, rfl, st _ _ hD2, by rw [List.length_map]; exact Nat.lt_of_le_of_lt l2 (by decide), ?_⟩
          have ntD : t ≠ D2 := fun z => by rw [z, hD2] at nt; cases nt
          have s5t := s57.tr st
          have s6t := s7.tr st
          have nD2p : D2 ≠ p := (D5.same s57).ne hD2 fun _ z => nomatch z
          have frD : ∀ o b u, (upd H7 t (.tup [.str x, v])) b = some u → b ≠ D2 → (upd (upd H7 t (.tup [.str x, v])) D2 o) b = some u := fun o b u e ne => by rw [upd_ne ne]; exact e
          have gen : ∀ {b u}, H5 b = some u → (upd (upd H7 t (.tup [.str x, v])) D2 (.lst (us2.map V.ref ++ [.ref t]))) b = some u := fun {b u} e => frD _ b u (s5t _ _ e) (ne_of_none (s6 _ _ e) nD2)
          have kIn : KI H5 (upd (upd H7 t (.tup [.str x, v])) D2 (.lst (us2.map V.ref ++ [.ref t]))) := fun a C dx fs e => gen e
          refine ⟨D2, _, _, _, _, rfl, ⟨?_, ⟨dm, gen hm5, gen hq5⟩, ⟨db, gen hb5, gen hqb5⟩, ⟨us2 ++ [t], by rw [upd_same, List.map_append]; rfl, ?_⟩, rBn.to kIn, rDn.to kIn⟩, akn, gen w5, nwD2⟩
          · have z := draw_updL (ys := us2.map V.ref ++ [.ref t]) (D5.same s5t) nD2p (st _ _ hD2) (cells_ne (D5.same s6) (Keep.of s6t) nD2)
            exact z.mono (by omega)
          · rw [em, put_out ea]
            refine prs_app (hus2.mono fun t1 a b e => ?_) (.cons (by show _ = _; rw [upd_ne ntD, upd_same]; rfl) .nil)
            rw [upd_ne (ne_of (st _ _ e) (st _ _ hD2) (by intro z; cases z))]
            exact st _ _ e
  · rintro σ H' ⟨d1, bk, t5, t6, t7, rfl, Sa, ak, aw, nwd⟩
    rw [List.length_map, List.take_length] at ak
    rw [List.length_map] at Sa
    have W5 := W.len
    have lbk : bk.length ≤ 5 := by
      have z := congrArg List.length ak
      rw [List.length_map, List.length_map] at z
      omega
    exact k H' d1 bk t5 t6 t7 ⟨Sa.draw.mono (by omega), Sa.thg, Sa.bok, Sa.due, Sa.rB, Sa.rD⟩ lbk (by rw [ak]; exact inr_nodup W.nd)
end
end Kh

set_option Elab.async false
set_option linter.all false
set_option maxRecDepth 100000
set_option maxHeartbeats 4000000
namespace Kh
open PySem PySem.Spec PyProof.Rows L2 StX ClX
def spRR (K : PySem.W.Frag) : Sp := fun vs H Q _ => ∃ (p m l q : Addr) (bv : V) (kvs : List (Key × V)) (n : Nat), vs = [.ref p, .ref m, .ref l] ∧ DrawAt H p n ∧ n < 99000 ∧ ThgAt K H m q bv kvs ∧ PairsL K H l kvs ∧ Rws K H kvs ∧ KL kvs ∧ q ≠ p ∧ ∀ H', DrawAt H' p (n + 7) → Q (.bl true) H'
/-- a thing's dict changes: the draws stand -/
theorem draw_dk {H H' : Hp} {p q : Addr} {n : Nat} {kvs : List (Key × V)} (D : DrawAt H p n) (hq : H q = some (.dK kvs)) (ne : q ≠ p) (k : L2.Keep q H H') : DrawAt H' p n := by
  obtain ⟨c, cs, a, lf, us, g1, g2, r⟩ := D
  exact ⟨c, cs, a, lf, us, k _ _ g1 ne.symm, k _ _ g2 (ne_of g2 hq (by intro z; cases z)), r⟩
section
variable {P : Program} {w : World} {K : PySem.W.Frag} {mg : Str → Option Value} {base : Heap}
theorem ok_rr {f : Addr} {fd : FuncData} (F : FnP K "_law_refilled_right" sRR f fd) (G : Hc K mg) (N : Nm K mg) (T : Ts K mg) (R : Rq K mg) (SY : SysK K) (D : Dr K mg) (LA : ∃ f fd, FnP K "_law_atom" sAtom f fd ∧ mg "_law_atom" = some (.ref f)) (LB : ∃ f fd, FnP K "_law_labels" sLbs f fd ∧ mg "_law_labels" = some (.ref f)) : FnG P w K mg base CX0 9 f fd ["draw", "made", "pairs_here"] (spRR K) := by
  obtain ⟨fx, dx, MX, FX⟩ := G.xc
  have GX : FnOk P w K mg base CX0 8 fx dx ["self", "thing", "state"] (spXC K) := ok_xc G.C G.M FX N T R
  have bX : L2.Binds K dx ["self", "thing", "state"] [] := FX.bindsN fun _ _ _ _ _ _ us hl => match us, hl with | [_, _, _], _ => rfl
  have kX : KBn K dx ["self", "thing", "state"] 1 ["state", "thing"] (fun us ws => us ++ ws.reverse) (fun vs zs => vs ++ zs.reverse) := kbn_of FX (fun _ _ _ _ _ _ us ws h1 h2 => match us, ws, h1, h2 with | [_], [_, _], _, _ => rfl) (fun r1 r2 => r1.append r2.reverse)
  obtain ⟨fl, dl, FL, gL⟩ := G.like
  have GL : FnG P w K mg base CX0 2 fl dl ["pairs_here", "others"] (spLike K) := ok_like FL N SY
  have bL : L2.Binds K dl ["pairs_here", "others"] [] := FL.bindsN fun _ _ _ _ _ _ us hl => match us, hl with | [_, _], _ => rfl
  obtain ⟨fi, di, MI, FI⟩ := G.M.bi
  have GI : FnOk P w K mg base CX0 1 fi di ["self"] (spBkI K) := ok_bkI G.M.C FI
  have bI : L2.Binds K di ["self"] [] := FI.bindsN fun _ _ _ _ _ _ us hl => match us, hl with | [_], _ => rfl
  obtain ⟨pb, fb, db, PB, FB⟩ := G.M.bp
  have GB : FnOk P w K mg base CX0 1 fb db ["self"] (spPairs K) := ok_pairs G.M.C FB N
  have bB : L2.Binds K db ["self"] [] := FB.bindsN fun _ _ _ _ _ _ us hl => match us, hl with | [_], _ => rfl
  obtain ⟨pf, ff, df, PF, FF⟩ := G.M.tf
  have GF : FnOk P w K mg base CX0 1 ff df ["self"] (spFields K) := ok_fields G.M.B FF N
  have bF : L2.Binds K df ["self"] [] := FF.bindsN fun _ _ _ _ _ _ us hl => match us, hl with | [_], _ => rfl
  refine F.okG scRR (fun vs H Q E h => ?_) (fun cdv A outer s H vs Q E hgu hr h => ?_)
  · obtain ⟨p, m, l, q, bv, kvs, n, rfl, _⟩ := h
    rfl
  · obtain ⟨t1, p1, q1⟩ := rr_s1 (P := P) (w := w) (base := base) (f := f) (cdv := cdv) (A := A) (outer := outer) (s := s) (H := H) (E := E) G N T R D LA LB hr
    have p0 : PS (XRr P w K mg base f cdv A outer s H E) (sR 0) _ := ps_par (i := 3) (j := 4) rfl scRR.nd rfl rfl (by decide) rfl rfl (pa_cons (pe_make0 MI GI (hr.mono (by decide)) (by rfl) G.C.bm bI .nil pass0) (pa_cons (pe_callTy call_list_of (by rfl) N.list (by decide +kernel) (pa_cons (pv 2) pa_nil)) pa_nil)) (by rfl)
    have p2 : PS (XRr P w K mg base f cdv A outer s H E) (sR 2) _ := ps_par (i := 8) (j := 9) rfl scRR.nd rfl rfl (by decide) rfl rfl (pa_cons (pe_callTy call_list_of (by rfl) N.list (by decide +kernel) (pa_cons (pe_prop (pv 3) G.M.C.cls PB GB (hr.mono (by decide)) bB .nil pass0 (by rfl)) pa_nil)) (pa_cons (pe_bare G.C.rf (by rfl) G.C.rm) pa_nil)) (by rfl)
    have p3 : PS (XRr P w K mg base f cdv A outer s H E) (sR 3) _ := ps_expr (pe_hook MX FX.fnI GX hr bX pass0 (pv 9) (pa_cons (pv 1) (pa_cons (pv 3) pa_nil)))
    have lk : ∀ {e : Expr} {te : TE} {i : Nat}, PE (XRr P w K mg base f cdv A outer s H E) e te → True := fun _ => True.intro
    have p4 : PS (XRr P w K mg base f cdv A outer s H E) (sR 4) _ := ps_if (pt_not (pt_val (pe_callG hgu GL (hr.mono (by decide)) (by rfl) gL FL.kp bL .nil pass0 (pa_cons (pe_callTy call_list_of (by rfl) N.list (by decide +kernel) (pa_cons (pe_prop (pv 1) G.M.B.cls PF GF (hr.mono (by decide)) bF .nil pass0 (by rfl)) pa_nil)) (pa_cons (pv 4) pa_nil))))) (pss_one (ps_ret pe_bl)) pss_nil
    have p5 : PS (XRr P w K mg base f cdv A outer s H E) (sR 5) _ := ps_expr (pe_hookK MX FX.fnI GX hr kX pass0 (pv 9) (pk_cons (pv 3) (pk_cons (pv 1) pk_nil)))
    have p6 : PS (XRr P w K mg base f cdv A outer s H E) (sR 6) _ := ps_ret (pe_and (pe_callG hgu GL (hr.mono (by decide)) (by rfl) gL FL.kp bL .nil pass0 (pa_cons (pe_callTy call_list_of (by rfl) N.list (by decide +kernel) (pa_cons (pe_prop (pv 1) G.M.B.cls PF GF (hr.mono (by decide)) bF .nil pass0 (by rfl)) pa_nil)) (pa_cons (pv 4) pa_nil)))
      (pe_one (pe_callG hgu GL (hr.mono (by decide)) (by rfl) gL FL.kp bL .nil pass0 (pa_cons (pe_callTy call_list_of (by rfl) N.list (by decide +kernel) (pa_cons (pe_prop (pv 3) G.M.C.cls PB GB (hr.mono (by decide)) bB .nil pass0 (by rfl)) pa_nil)) (pa_cons (pv 8) pa_nil)))))
    rw [rr_body]
    refine ⟨_, PSs.nox (pss_cons p0 (pss_cons p1 (pss_cons p2 (pss_cons p3 (pss_cons p4 (pss_cons p5 (pss_one p6))))))), ?_⟩
    obtain ⟨p, m, l, q, bv, kvs, n, rfl, Dn, hn, ⟨dm, hm, hq⟩, ⟨ts, hl, hts⟩, hR, hK, nqp, k⟩ := h
    refine fun b dxb nb ndb neb => ⟨b, dxb, H, rfl, upd_same, nb, pre_make nb ndb, fun qb H1 s1 nqb hb hqb => ⟨rfl, _, rfl, l, _, rfl, .inl (SqL.of (s1 _ _ hl)), fun d nd => ⟨_, _, rfl, ?_⟩⟩⟩
    have s2 := same_new (o := .lst (ts.map V.ref)) nd
    have s12 := s1.tr s2
    have nqbp : qb ≠ p := fun z => by
      obtain ⟨c, cs, a, lf, us, g1, _⟩ := Dn
      rw [z, g1] at nqb
      cases nqb
    have nqq : q ≠ qb := ne_of_none hq nqb
    refine q1 _ _ p m q l b qb d bv kvs n ⟨Dn.same s12, ⟨dm, s12 _ _ hm, s12 _ _ hq⟩, ⟨dxb, s2 _ _ hb, s2 _ _ hqb⟩, ⟨ts, upd_same, hts.to s12⟩, ⟨fun r z => (nomatch z), fun r z => (nomatch z)⟩, hR.to (KI.of s12)⟩ hn hK.len nqp nqbp nqq fun H3 d1 bk t5 t6 t7 S lb ndb2 => ?_
    obtain ⟨dm3, hm3, hq3⟩ := S.thg
    obtain ⟨db3, hb3, hqb3⟩ := S.bok
    obtain ⟨us, hd3, hus⟩ := S.due
    have l1 := hK.len
    have lm : (mergeK kvs bk).length ≤ 10 := by
      have z := merge_len bk kvs
      omega
    refine ⟨_, rfl, b, db3, _, rfl, hb3, b, qb, bk, rfl, ⟨db3, hb3, hqb3⟩, fun H4 pa s4 ⟨ta, hpa, hta⟩ => ⟨pa, _, rfl, .inr hpa, fun sh nsh => ?_⟩⟩
    have s5 := same_new (o := .lst (ta.map V.ref)) nsh
    have hsh : (upd H4 sh (.lst (ta.map V.ref))) sh = some (.lst (ta.map V.ref)) := upd_same
    have s35 := s4.tr s5
    have hta5 := hta.to s5
    generalize upd H4 sh (.lst (ta.map V.ref)) = H5 at *
    refine fun hk dk nhk ndk nek => ⟨_, _, rfl, ?_⟩
    have s6 := pre_make (o1 := .own hk) (o2 := .ins (CX_ K) dk []) nhk ndk
    have hhk : (upd (upd H5 dk (.own hk)) hk (.ins (CX_ K) dk [])) hk = some (.ins (CX_ K) dk []) := upd_same
    have s36 := s35.tr s6
    have hsh6 := s6 _ _ hsh
    have hta6 := hta5.to s6
    generalize upd (upd H5 dk (.own hk)) hk (.ins (CX_ K) dk []) = H6 at *
    -- the hook, first
    refine ⟨_, rfl, hk, rfl, _, rfl, _, rfl, dk, [], hhk, hk, m, b, dk, q, qb, [], bv, kvs, bk, rfl, hhk, ⟨dm3, s36 _ _ hm3, s36 _ _ hq3⟩, ⟨db3, s36 _ _ hb3, s36 _ _ hqb3⟩, by omega, S.rB.to (KI.of s36), fun H7 k7 hq7 => ?_⟩
    have q6 := s36 _ _ hq3
    have ki7 : KI H3 H7 := (KI.of s36).tr (KI.keep q6 k7)
    have D7 : DrawAt H7 p (n + 7) := draw_dk (S.draw.same s36) q6 nqp k7
    have fr : ∀ {c o}, H6 c = some o → (∀ l, o ≠ .dK l) → H7 c = some o := fun {c o} e h => k7 _ _ e fun z => by
      rw [z, q6] at e
      exact h _ (Option.some.inj e).symm
    have hm7 := ki7 _ _ _ _ hm3
    have hb7 := ki7 _ _ _ _ hb3
    have hqb7 : H7 qb = some (.dK bk) := k7 _ _ (s36 _ _ hqb3) nqq.symm
    have hd7 := fr (s36 _ _ hd3) (fun _ z => nomatch z)
    have hsh7 := fr hsh6 (fun _ z => nomatch z)
    have hhk7 := fr hhk (fun _ z => nomatch z)
    have hus7 := (hus.to s36).keep q6 k7
    have hta7 := hta6.keep q6 k7
    have rD7 := S.rD.to ki7
    have rB7 := S.rB.to ki7
    -- the fields, looked at
    refine ⟨_, rfl, m, dm3, _, rfl, hm7, m, q, bv, mergeK kvs bk, rfl, ⟨dm3, hm7, hq7⟩, fun H8 pc s8 ⟨tc, hpc, htc⟩ => ⟨pc, _, rfl, .inr hpc, fun lc nlc => ?_⟩⟩
    have s9 := same_new (o := .lst (tc.map V.ref)) nlc
    have s79 := s8.tr s9
    refine ⟨_, rfl, lc, d1, tc, us, _, rfl, SqL.of upd_same, SqL.of (s79 _ _ hd7), htc.to s9, hus7.to s79, rD7.to (KI.of s79), by omega, fun HA sA => ⟨_, rfl, iteF ?_⟩⟩
    have s7A := s79.tr sA
    -- the hook, again
    refine ⟨_, rfl, hk, rfl, _, rfl, _, rfl, dk, [], s7A _ _ hhk7, rfl, hk, m, b, dk, q, qb, [], bv, mergeK kvs bk, bk, rfl, s7A _ _ hhk7, ⟨dm3, s7A _ _ hm7, s7A _ _ hq7⟩, ⟨db3, s7A _ _ hb7, s7A _ _ hqb7⟩, by omega, rB7.to (KI.of s7A), fun HB kB hqB => ?_⟩
    rw [merge_idem hK.nd ndb2] at hqB
    have qA := s7A _ _ hq7
    have kiB : KI H7 HB := (KI.of s7A).tr (KI.keep qA kB)
    have DB : DrawAt HB p (n + 7) := draw_dk (D7.same s7A) qA nqp kB
    have frB : ∀ {c o}, HA c = some o → (∀ l, o ≠ .dK l) → HB c = some o := fun {c o} e h => kB _ _ e fun z => by
      rw [z, qA] at e
      exact h _ (Option.some.inj e).symm
    have hmB := kiB _ _ _ _ hm7
    have hbB := kiB _ _ _ _ hb7
    have hqbB : HB qb = some (.dK bk) := kB _ _ (s7A _ _ hqb7) nqq.symm
    have hdB := frB (s7A _ _ hd7) (fun _ z => nomatch z)
    have hshB := frB (s7A _ _ hsh7) (fun _ z => nomatch z)
    have husB := (hus7.to s7A).keep qA kB
    have htaB := (hta7.to s7A).keep qA kB
    have rDB := rD7.to kiB
    have rBB := rB7.to kiB
    refine ⟨_, rfl, m, dm3, _, rfl, hmB, m, q, bv, mergeK kvs bk, rfl, ⟨dm3, hmB, hqB⟩, fun HC pe sC ⟨te, hpe, hte⟩ => ⟨pe, _, rfl, .inr hpe, fun le nle => ?_⟩⟩
    have sD := same_new (o := .lst (te.map V.ref)) nle
    have sBD := sC.tr sD
    refine ⟨_, rfl, le, d1, te, us, _, rfl, SqL.of upd_same, SqL.of (sBD _ _ hdB), hte.to sD, husB.to sBD, rDB.to (KI.of sBD), by omega, fun HE sE => ⟨_, rfl, iteT ?_⟩⟩
    have sBE := sBD.tr sE
    refine ⟨_, rfl, b, db3, _, rfl, sBE _ _ hbB, b, qb, bk, rfl, ⟨db3, sBE _ _ hbB, sBE _ _ hqbB⟩, fun HF pg sF_ ⟨tg, hpg, htg⟩ => ⟨pg, _, rfl, .inr hpg, fun lg nlg => ?_⟩⟩
    have sG := same_new (o := .lst (tg.map V.ref)) nlg
    have sBG := sBE.tr (sF_.tr sG)
    exact ⟨_, rfl, lg, sh, tg, ta, bk, rfl, SqL.of upd_same, SqL.of (sBG _ _ hshB), htg.to sG, htaB.to sBG, rBB.to (KI.of sBG), by omega, fun HH sH => k HH (DB.same (sBG.tr sH))⟩
end
end Kh

set_option Elab.async false
set_option linter.all false
set_option maxRecDepth 100000
set_option maxHeartbeats 4000000
namespace Kh
open PySem PySem.Spec PyProof.Rows L2 StX ClX
abbrev sLaw : Stmt := top 69
abbrev NL : List Str := ["script", "draw", "turn", "words", "items", "made", "pairs_here", "lone", "one", "far"]
theorem scLaw : FnScope NL ["script"] (defScope sLaw) := ⟨rfl, rfl, rfl, by decide +kernel, rfl, by decide +kernel, by decide +kernel⟩
def spLaw (K : PySem.W.Frag) : Sp := fun vs H Q _ => ∃ (a : Addr) (ns : List Int), vs = [.ref a] ∧ SqL K H a (ns.map V.int) ∧ ns.length ≤ 63 ∧ ∀ H', Q (.bl true) H'
section
variable {P : Program} {w : World} {K : PySem.W.Frag} {mg : Str → Option Value} {base : Heap}
theorem ok_law {f : Addr} {fd : FuncData} (F : FnP K "law" sLaw f fd) (G : Hc K mg) (N : Nm K mg) (T : Ts K mg) (R : Rq K mg) (SY : SysK K) (D : Dr K mg) (LA : ∃ f fd, FnP K "_law_atom" sAtom f fd ∧ mg "_law_atom" = some (.ref f)) (LB : ∃ f fd, FnP K "_law_labels" sLbs f fd ∧ mg "_law_labels" = some (.ref f))
    (LT : ∃ f fd, FnP K "_law_thing" sThing f fd ∧ mg "_law_thing" = some (.ref f)) (LF : ∃ f fd, FnP K "_law_fields_right" sFR f fd ∧ mg "_law_fields_right" = some (.ref f)) (LP : ∃ f fd, FnP K "_law_taken_right" sTR f fd ∧ mg "_law_taken_right" = some (.ref f)) (LR : ∃ f fd, FnP K "_law_refilled_right" sRR f fd ∧ mg "_law_refilled_right" = some (.ref f)) : FnG P w K mg base CX0 10 f fd ["script"] (spLaw K) := by
  obtain ⟨f1, d1, F1, g1⟩ := D.begin_
  have G1 : FnOk P w K mg base CX0 1 f1 d1 ["script"] (spBegin K) := ok_begin F1
  have b1 : L2.Binds K d1 ["script"] [] := F1.bindsN fun _ _ _ _ _ _ us hl => match us, hl with | [_], _ => rfl
  obtain ⟨fX, dX, FX, gX⟩ := D.next
  obtain ⟨fM, dM, FM, gM⟩ := D.mixed
  have GX : FnOk P w K mg base CX0 2 fX dX ["draw", "bound"] spNext := ok_next FX FM gM N.len
  have bX : L2.Binds K dX ["draw", "bound"] [] := FX.bindsN fun _ _ _ _ _ _ us hl => match us, hl with | [_, _], _ => rfl
  obtain ⟨fA, dA, FA, gA⟩ := LA
  have GA : FnOk P w K mg base CX0 3 fA dA ["draw"] spAtom := ok_atom FA N D
  have bA : L2.Binds K dA ["draw"] [] := FA.bindsN fun _ _ _ _ _ _ us hl => match us, hl with | [_], _ => rfl
  obtain ⟨fB, dB, FB, gB⟩ := LB
  have GB : FnOk P w K mg base CX0 3 fB dB ["draw", "many"] spLbs := ok_lbs FB N D
  have bB : L2.Binds K dB ["draw", "many"] [] := FB.bindsN fun _ _ _ _ _ _ us hl => match us, hl with | [_, _], _ => rfl
  obtain ⟨fT, dT, FT, gT⟩ := LT
  have GT : FnOk P w K mg base CX0 7 fT dT ["draw", "most"] (spThing K) := ok_thing FT G.C G.M N T R D ⟨fA, dA, FA, gA⟩ ⟨fB, dB, FB, gB⟩
  have bT : L2.Binds K dT ["draw", "most"] [] := FT.bindsN fun _ _ _ _ _ _ us hl => match us, hl with | [_, _], _ => rfl
  obtain ⟨fF, dF, FF, gF⟩ := LF
  have GF : FnG P w K mg base CX0 9 fF dF ["draw", "words", "items"] (spFR K) := ok_fr FF G N T R SY
  have bF : L2.Binds K dF ["draw", "words", "items"] [] := FF.bindsN fun _ _ _ _ _ _ us hl => match us, hl with | [_, _, _], _ => rfl
  obtain ⟨fP, dP, FP, gP⟩ := LP
  have GP : FnG P w K mg base CX0 9 fP dP ["made", "pairs_here", "words"] (spTR K) := ok_tr FP G N T R SY
  have bP : L2.Binds K dP ["made", "pairs_here", "words"] [] := FP.bindsN fun _ _ _ _ _ _ us hl => match us, hl with | [_, _, _], _ => rfl
  obtain ⟨fR, dR, FR, gR⟩ := LR
  have GR : FnG P w K mg base CX0 9 fR dR ["draw", "made", "pairs_here"] (spRR K) := ok_rr FR G N T R SY D ⟨fA, dA, FA, gA⟩ ⟨fB, dB, FB, gB⟩
  have bR : L2.Binds K dR ["draw", "made", "pairs_here"] [] := FR.bindsN fun _ _ _ _ _ _ us hl => match us, hl with | [_, _, _], _ => rfl
  obtain ⟨fi, di, MI, FI⟩ := G.si
  have GI : FnOk P w K mg base CX0 1 fi di ["self", "thing"] (spSI K) := ok_si G.C FI N
  have bI : L2.Binds K di ["self", "thing"] [] := FI.bindsN fun _ _ _ _ _ _ us hl => match us, hl with | [_, _], _ => rfl
  obtain ⟨fs, ds, MS, FS⟩ := G.sc
  have GS : FnOk P w K mg base CX0 1 fs ds ["self", "arguments"] (spSC K) := ok_sc G.C FS
  have bS : L2.Binds K ds ["self", "arguments"] [] := FS.bindsN fun _ _ _ _ _ _ us hl => match us, hl with | [_, _], _ => rfl
  have kS : KBn K ds ["self", "arguments"] 1 ["arguments"] (fun us ws => us ++ ws) (fun vs zs => vs ++ zs) := kbn_of FS (fun _ _ _ _ _ _ us ws h1 h2 => match us, ws, h1, h2 with | [_], [_], _, _ => rfl) (fun r1 r2 => r1.append r2)
  obtain ⟨fw, dw, MW, FW⟩ := G.M.ri
  have GW : FnR P w K mg base CX0 2 fw (spRowI K) := ok_rowI G.M.rc G.M.rs FW N R
  refine F.okG scLaw (fun vs H Q E h => ?_) (fun cdv A outer s H vs Q E hgu hr h => ?_)
  · obtain ⟨a, ns, rfl, _⟩ := h
    rfl
  · have hu := Nat.lt_of_succ_lt (hu_of hr)
    refine ⟨_, PSs.nox (pss_cons (ps_set (i := 1) scLaw.nd rfl (Or.inr rfl) (pe_call G1 (hr.mono (by decide)) (by rfl) g1 F1.kp b1 .nil pass0 (pa_cons (pv 0) pa_nil)))
      (pss_cons (ps_for PassesOwn.never rfl (pi_range1 (by rfl) N.rng (pa_cons (pe_callB (call_min2 rfl) (by rfl) N.min boot_min (pa_cons pe_int (pa_cons (pe_op op_add pe_int (pe_op op_fdiv (pe_callB call_len (by rfl) N.len PySem.boot_len (pa_cons (pv 0) pa_nil)) pe_int)) pa_nil))) pa_nil)) (pg_name (i := 2) scLaw.nd rfl (Or.inl rfl))
        (pss_cons (ps_set (i := 3) scLaw.nd rfl (Or.inl rfl) (pe_call GB (hr.mono (by decide)) (by rfl) gB FB.kp bB .nil pass0 (pa_cons (pv 1) (pa_cons (pe_call GX (hr.mono (by decide)) (by rfl) gX FX.kp bX .nil pass0 (pa_cons (pv 1) (pa_cons pe_int pa_nil))) pa_nil))))
        (pss_cons (ps_setLc (i := 4) (own := [("one", 8)]) (g := gName 8) (tt := tYes) rfl scLaw.nd rfl rfl (sw_true rfl rfl rfl rfl) (pi_list (pv 3)) (blkOk_by (own := [("one", 8)]) (N := NL) (sc := defScope sLaw) (by decide +kernel))
            (fun _ _ _ _ _ => pg_name (i := 8) scLaw.nd rfl (Or.inl rfl)) (fun _ _ _ _ _ => pts_nil)
            (fun _ _ _ _ _ => pe_ifExp (pt_cmpR op_eq (pe_call GX (hr.mono (by decide)) (by rfl) gX FX.kp bX .nil pass0 (pa_cons (pv 1) (pa_cons pe_int pa_nil))) pe_int (nomark _)) (pe_makeR0 MW GW (hr.mono (by decide)) (by rfl) G.C.rwm pass0) (pe_call GA (hr.mono (by decide)) (by rfl) gA FA.kp bA .nil pass0 (pa_cons (pv 1) pa_nil))))
        (pss_cons (ps_asg (pe_call GT (hr.mono (by decide)) (by rfl) gT FT.kp bT .nil pass0 (pa_cons (pv 1) (pa_cons pe_int pa_nil))) (pg_tup rfl (pgs_cons (pg_name (i := 5) scLaw.nd rfl (Or.inl rfl)) (pgs_cons (pg_name (i := 6) scLaw.nd rfl (Or.inl rfl)) pgs_nil))))
        (pss_cons (ps_set (i := 7) scLaw.nd rfl (Or.inl rfl) (pe_make MI GI (hr.mono (by decide)) (by rfl) G.C.sm bI .nil pass0 (pa_cons (pv 5) pa_nil)))
        (pss_cons (ps_if (PW.pt (pw_or (pt_not (pt_val (pe_callG hgu GF hr (by rfl) gF FF.kp bF .nil pass0 (pa_cons (pv 1) (pa_cons (pv 3) (pa_cons (pv 4) pa_nil))))))
            (pw_or1 (pt_cmpR (op_neR hu) (pe_lst (pa_cons (pe_hook MS FS.fnI GS (hr.mono (by decide)) bS pass0 (pv 7) (pa_cons (pe_tup pa_nil) pa_nil)) (pa_cons (pe_hookK MS FS.fnI GS (hr.mono (by decide)) kS pass0 (pv 7) (pk_cons (pe_tup (pa_cons pe_int (pa_cons pe_int pa_nil))) pk_nil)) pa_nil))) (pe_lst (pa_cons (pv 5) (pa_cons (pv 5) pa_nil))) (nomark _)))))
            (pss_one (ps_ret pe_bl)) pss_nil)
        (pss_cons (ps_if (pt_not (pt_val (pe_callG hgu GP hr (by rfl) gP FP.kp bP .nil pass0 (pa_cons (pv 5) (pa_cons (pv 6) (pa_cons (pe_back (pe_lc (own := [("one", 8), ("far", 9)]) (g := gTup K 2 (gCons (gName 8) (gCons (gName 9) gNil))) (tt := tYes) rfl scLaw.nd (pi_list (pv 6)) (blkOk_by (own := [("one", 8), ("far", 9)]) (N := NL) (sc := defScope sLaw) (by decide +kernel))
            (fun _ _ _ _ _ => pg_tup rfl (pgs_cons (pg_name (i := 8) scLaw.nd rfl (Or.inl rfl)) (pgs_cons (pg_name (i := 9) scLaw.nd rfl (Or.inl rfl)) pgs_nil))) (fun _ _ _ _ _ => pts_nil) (fun _ _ _ _ _ => pv 8)) (pe_un un_neg pe_int)) pa_nil)))))) (pss_one (ps_ret pe_bl)) pss_nil)
        (pss_one (ps_if (pt_not (pt_val (pe_callG hgu GR hr (by rfl) gR FR.kp bR .nil pass0 (pa_cons (pv 1) (pa_cons (pv 5) (pa_cons (pv 6) pa_nil)))))) (pss_one (ps_ret pe_bl)) pss_nil)))))))))
      (pss_one (ps_ret pe_bl)))), ?_⟩
    obtain ⟨a, ns, rfl, hS, hl, k⟩ := h
    refine ⟨_, rfl, a, ns, rfl, hS, hl, fun p H1 np s1 dr1 => ?_⟩
    refine ⟨_, rfl, _, ns.length, rfl, .inl ⟨_, s1.seq hS, (List.length_map (f := V.int) (as := ns)).symm⟩, ?_⟩
    refine ⟨_, _, rfl, rfl, ⟨by decide, by decide⟩, _, _, rfl, rfl, _, _, rfl, _, rfl, ?_⟩
    have jb : ∃ t : Nat, t ≤ 6 ∧ (if (2 + (ns.length : Int) / 2) < 6 then 2 + (ns.length : Int) / 2 else 6) = (t : Int) := by
      by_cases c : (2 + (ns.length : Int) / 2) < 6
      · exact ⟨(2 + (ns.length : Int) / 2).toNat, by omega, by rw [if_pos c]; omega⟩
      · exact ⟨6, by omega, by rw [if_neg c]; rfl⟩
    obtain ⟨t, ht, et⟩ := jb
    rw [et]
    refine ⟨by omega, by omega, ?_⟩
    rw [Int.toNat_natCast]
    refine for_it walk_range (fun i σ H' => ∃ t2 t3 t4 t5 t6 t7 : Option V, σ = [some (.ref a), some (.ref p), t2, t3, t4, t5, t6, t7, none, none] ∧ DrawAt H' p (100 * i)) ⟨none, none, none, none, none, none, rfl, dr1⟩ (fun _ _ _ _ _ => True.intro) ?_ ?_
    · rintro i x σ Ha Ha' hi ⟨t2, t3, t4, t5, t6, t7, rfl, dA⟩ ⟨eH, rfl⟩
      subst eH
      refine ⟨_, rfl, _, rfl, p, 4, _, rfl, dA, by omega, by decide, by decide, fun r H2 ra rb D2 k1 => ?_⟩
      obtain ⟨m, rfl⟩ := Int.eq_ofNat_of_zero_le ra
      refine ⟨p, 100 * i + 1, m, rfl, by omega, D2, by omega, fun lw ws H3 W lm nlw hlw D3 k2 => ?_⟩
      -- the values
      refine ⟨_, rfl, lw, rfl, ⟨_, SqL.of hlw⟩, fun D1 nD1 => lc_it (walk_list (xs := ws.map V.str)) (fun j H' => Keep p H3 H' ∧ DrawAt H' p (100 * i + 5 + 2 * j) ∧ ∃ ys : List V, ys.length = j ∧ H' D1 = some (.lst ys) ∧ ∀ v ∈ ys, Val K H' v) ⟨Keep.of (same_new nD1), (D3.same (same_new nD1)).mono (by omega), [], rfl, upd_same, fun v z => nomatch z⟩ (fun j H' _ z => SqL.of (z.1 _ _ hlw (D3.ne hlw fun _ z => nomatch z))) ?_ ?_⟩
      · rintro j y Hb Hc hj ⟨kb, Db, ys, ly, hDb, hys⟩ ⟨rfl, hx⟩
        rw [List.getElem?_map] at hx
        obtain ⟨x, ex, rfl⟩ := Option.map_eq_some_iff.mp hx
        have hj4 : j < 4 := by
          rw [List.length_map] at hj
          omega
        refine ⟨rfl, yesT ?_⟩
        refine by_fin (T := tIf _ _ _ _ _) (fun v H5 => Val K H5 v ∧ Keep p Hc H5 ∧ DrawAt H5 p (100 * i + 5 + 2 * j + 2)) ?_ ?_
        · rintro v H5 ⟨hv, k5, D5⟩
          have nDp : D1 ≠ p := Db.ne hDb fun _ z => nomatch z
          have h5 := k5 D1 _ hDb nDp
          have ki : KI H5 (upd H5 D1 (.lst (ys ++ [v]))) := fun c C dx fs e => by
            rw [upd_ne (ne_of e h5 (by intro z; cases z))]
            exact e
          have k35 := kb.trans k5
          refine ⟨ys, h5, Nat.lt_of_lt_of_le (show ys.length < 5 by omega) (by decide), keep_updN k35 nD1 nDp, ?_, ys ++ [v], by rw [List.length_append, ly]; rfl, upd_same, fun y my => ?_⟩
          · exact (draw_updL (ys := ys ++ [v]) D5 nDp h5 (cells_ne D3 k35 nD1)).mono (by omega)
          · rcases List.mem_append.mp my with my | my
            · exact ((hys y my).to (fun c C dx fs e => k5 c _ e (Db.ne e fun _ z => nomatch z))).to ki
            · rw [List.mem_singleton.mp my]
              exact hv.to ki
        · intro Q' fin
          refine ⟨_, rfl, p, 3, _, rfl, Db, by omega, by decide, by decide, fun r1 H4 _ _ D4 k4 => ⟨rfl, _, rfl, ?_⟩⟩
          generalize decide (V.int r1 = V.int 0) = b1
          cases b1 with
          | true => exact iteT fun n dn nn nd ne => ⟨n, dn, H4, rfl, upd_same, nn, pre_make nn nd, fun H6 fs s6 h6 => ⟨rfl, fin _ _ ⟨⟨.nod (CR K), ⟨G.C.rn, n, dn, fs, rfl, h6⟩, G.C.rne⟩, k4.trans (Keep.of s6), (D4.same s6).mono (by omega)⟩⟩⟩
          | false => exact iteF ⟨_, rfl, p, _, rfl, D4, by omega, fun v d H' hat D' k' => fin _ _ ⟨⟨.dat d, hat⟩, k4.trans k', D'.mono (by omega)⟩⟩
      · rintro H4 ⟨k4, D4, ys, ly, hD1, hys⟩
        rw [List.length_map] at ly D4
        have nlwp : lw ≠ p := D3.ne hlw fun _ z => nomatch z
        have nDp : D1 ≠ p := D4.ne hD1 fun _ z => nomatch z
        have hlw4 := k4 _ _ hlw nlwp
        refine ⟨_, rfl, p, 100 * i + 13, rfl, D4.mono (by omega), by omega, fun t n q l kvs H5 k5 D5 htt hT hL hR hK nqp => ?_⟩
        refine ⟨t, _, rfl, SqT.of htt, rfl, _, _, rfl, _, _, rfl, rfl, ?_⟩
        obtain ⟨dm, hm, hq⟩ := hT
        obtain ⟨ts, hl5, hts⟩ := hL
        obtain ⟨us, W2, eK⟩ := hK
        have hlw5 := k5 _ _ hlw4 nlwp
        have hD5 := k5 _ _ hD1 nDp
        have hys5 : ∀ v ∈ ys, Val K H5 v := fun v mv => (hys v mv).to (fun c C dx fs e => k5 c _ e (D4.ne e fun _ z => nomatch z))
        refine ⟨_, rfl, fun lo dl nlo ndl nel => ⟨lo, dl, n, dm, _, H5, rfl, upd_same, nlo, pre_make nlo ndl, hm, fun H6 s6 h6 => ⟨rfl, ?_⟩⟩⟩
        refine ⟨_, rfl, _, rfl, _, rfl, .ref p, lw, D1, ws, ys, rfl, SqL.of (s6 _ _ hlw5), SqL.of (s6 _ _ hD5), ly, W, by omega, fun v mv => (hys5 v mv).to (KI.of s6), fun H7 s7 => ⟨_, rfl, iteF ?_⟩⟩
        have h7 := s7 _ _ h6
        refine ⟨_, rfl, lo, rfl, Nat.zero_le _, fun te nte => ⟨dl, _, same_new nte _ _ h7, lo, dl, _, _, rfl, same_new nte _ _ h7, ?_⟩⟩
        have s8 := same_new (o := .tup []) nte
        generalize upd H7 te (.tup []) = H8 at *
        have h8 := s8 _ _ h7
        refine ⟨_, rfl, lo, rfl, sz 2 (by decide), fun tf ntf => ⟨dl, _, same_new ntf _ _ h8, rfl, lo, dl, _, _, rfl, same_new ntf _ _ h8, ?_⟩⟩
        have s9 := same_new (o := .tup [.int 1, .int 2]) ntf
        generalize upd H8 tf (.tup [.int 1, .int 2]) = H9 at *
        refine ⟨sz 2 (by decide), fun la nla => ?_⟩
        have sa := same_new (o := .lst [.ref n, .ref n]) nla
        have ha : (upd H9 la (.lst [.ref n, .ref n])) la = some (.lst [.ref n, .ref n]) := upd_same
        generalize upd H9 la (.lst [.ref n, .ref n]) = HA at *
        refine ⟨_, rfl, _, rfl, sz 2 (by decide), fun lb nlb => ?_⟩
        have sb := same_new (o := .lst [.ref n, .ref n]) nlb
        have hb : (upd HA lb (.lst [.ref n, .ref n])) lb = some (.lst [.ref n, .ref n]) := upd_same
        generalize upd HA lb (.lst [.ref n, .ref n]) = HB at *
        refine ⟨la, lb, [n, n], rfl, rfl, SqL.of (sb _ _ ha), SqL.of hb, _, rfl, iteF ?_⟩
        have s5B : Same H5 HB := s6.tr (s7.tr (s8.tr (s9.tr (sa.tr sb))))
        have hlB := s5B _ _ hl5
        -- what is taken
        refine ⟨_, rfl, _, rfl, _, rfl, l, rfl, ⟨_, SqL.of hlB⟩, fun D2 nD2 => lc_it (walk_list (xs := ts.map V.ref)) (fun j H' => Same HB H' ∧ H' D2 = some (.lst ((kvs.take j).map fun r => kV r.1))) ⟨same_new nD2, upd_same⟩ (fun j H' _ z => SqL.of (z.1 _ _ hlB)) ?_ ?_⟩
        · rintro j y Hc Hd hj ⟨sc, hDc⟩ ⟨rfl, hx⟩
          rw [List.getElem?_map] at hx
          obtain ⟨u, hu2, rfl⟩ := Option.map_eq_some_iff.mp hx
          obtain ⟨r2, er, hy⟩ := LiI.paired_get hts hu2
          have lk : kvs.length ≤ 5 := KL.len ⟨us, W2, eK⟩
          refine ⟨u, _, rfl, SqT.of (sc _ _ (s5B _ _ hy)), rfl, _, _, rfl, _, _, rfl, rfl, rfl, yesT ⟨_, rfl, _, hDc, ?_, same_updN sc nD2, ?_⟩⟩
          · rw [List.length_map, List.length_take]
            exact Nat.lt_of_le_of_lt (Nat.le_trans (Nat.min_le_right _ _) lk) (by decide)
          · rw [upd_same, List.take_add_one, er, List.map_append]
            rfl
        · rintro HC ⟨sC, hD2⟩
          rw [List.length_map, Paired.length hts, List.take_length] at hD2
          have eS : (kvs.map fun r => kV r.1) = us.map V.str := by
            have z := congrArg (List.map kV) eK
            rw [List.map_map, List.map_map] at z
            exact z
          rw [eS] at hD2
          refine ⟨_, rfl, rfl, D2, _, rfl, SqL.of hD2, fun lr nlr => ?_⟩
          have sr := same_new (o := .lst (us.map V.str).reverse) nlr
          have hlr : (upd HC lr (.lst (us.map V.str).reverse)) lr = some (.lst (us.reverse.map V.str)) := by rw [upd_same, List.map_reverse]
          generalize upd HC lr (.lst (us.map V.str).reverse) = HD at *
          have s5D := s5B.tr (sC.tr sr)
          refine ⟨n, l, lr, q, _, kvs, us, rfl, ⟨dm, s5D _ _ hm, s5D _ _ hq⟩, ⟨ts, s5D _ _ hl5, hts.to s5D⟩, hR.to (KI.of s5D), eK, W2, SqL.of hlr, fun HE sE => ⟨_, rfl, iteF ?_⟩⟩
          have s5E := s5D.tr sE
          refine ⟨_, rfl, _, rfl, _, rfl, p, n, l, q, _, kvs, 100 * i + 13 + 40, rfl, D5.same s5E, by omega, ⟨dm, s5E _ _ hm, s5E _ _ hq⟩, ⟨ts, s5E _ _ hl5, hts.to s5E⟩, hR.to (KI.of s5E), ⟨us, W2, eK⟩, nqp, fun HF DF => ⟨_, rfl, iteF ?_⟩⟩
          exact ⟨_, _, _, _, _, _, rfl, DF.mono (by omega)⟩
    · rintro σ H' ⟨t2, t3, t4, t5, t6, t7, rfl, dA⟩
      exact k H'
end
end Kh

set_option Elab.async false
set_option linter.all false
set_option maxRecDepth 100000
set_option maxHeartbeats 4000000
namespace Kh
open PySem PySem.Spec PyProof.Rows L2 StX ClX LamX
section
variable {P : Program} {w : World} {K : PySem.W.Frag} {mg : Str → Option Value} {h : Heap}
theorem fn_glo (c : He5.SaysA fa fn K) (X : K.In h) (G : h.Ns mainGlobals mg) (i j : Nat) {x : Str} {n : Nat} (e1 : fn[i]? = some (dF x n)) (e2 : fa[j]? = some (.glo x)) : ∃ f fd, FnP K x (top n) f fd ∧ mg x = some (.ref f) := by
  obtain ⟨fd, F⟩ := c.def_ i e1
  exact ⟨He.ga K x, fd, F, He.glo_ok X G (c.fact j e2)⟩
theorem fn_m (c : He5.SaysA fa fn K) (i : Nat) {a : PySem.W.Frag → Addr} {x q : Str} {st : Stmt} (e1 : fn[i]? = some (dM a x q st [])) : ∃ fd, FnM K x q st [] (a K) fd := c.def_ i e1
theorem prop_ok {C m : Str} (h : propB K C m = true) : PropOf K (gC K C) m (mAt C m K) (wAt C "property" m K) := by
  obtain ⟨h1, h⟩ := band h
  obtain ⟨h2, h⟩ := band h
  obtain ⟨h3, h4⟩ := band h
  refine ⟨He.eqO_ok h1, He.eqO_ok h2, of_decide_eq_true h3, ?_⟩
  show ∃ rest, PySem.W.recIn K (mAt C m K) "property" = some (.ref (match PySem.W.recIn K (mAt C m K) "property" with
    | some (.ref f :: _) => f
    | _ => 0) :: rest)
  split at h4
  · rename_i f r e
    exact ⟨r, by rw [e]⟩
  · cases h4
theorem eq_ok {C : Str} (h : eqB K C = true) : VxS.EqC K (gC K C) ∧ PySem.W.mroIn K (gC K C) (.ref (gC K C)) = some true := by
  obtain ⟨h1, h⟩ := band h
  obtain ⟨h2, h3⟩ := band h
  exact ⟨⟨He.eqO_ok h1, of_decide_eq_true h2⟩, of_decide_eq_true h3⟩
theorem read_ok {C : Addr} (h : PySem.W.readsIn K C (.type "type") = true) : ClX.CRead K C (.type "type") := by
  refine ⟨h, ?_⟩
  unfold PySem.W.readsIn at h
  obtain ⟨h, _⟩ := band h
  obtain ⟨h, _⟩ := band h
  obtain ⟨h, h3⟩ := band h
  obtain ⟨_, h2⟩ := band h
  unfold PySem.W.specialIn
  rw [beq_iff_eq.mp h2, Option.bind_some]
  exact beq_iff_eq.mp h3
theorem nod_ok {C : Str} (hc : Cls K (gC K C)) (h : nodB K C = true) : NodC K (CN K) (gC K C) := by
  obtain ⟨h1, h⟩ := band h
  obtain ⟨h2, h⟩ := band h
  obtain ⟨h3, h⟩ := band h
  obtain ⟨h4, h⟩ := band h
  obtain ⟨h5, h6⟩ := band h
  obtain ⟨e1, e2⟩ := eq_ok h6
  exact ⟨hc, He.eqO_ok h1, He.eqO_ok h2, of_decide_eq_true h3, e1, fun t m => of_decide_eq_true (List.all_eq_true.mp h4 t m), of_decide_eq_true h5, e2⟩
theorem dat_ok (h : datB K = true) : DatN K (CN K) := fun t m => of_decide_eq_true (List.all_eq_true.mp h t m)
theorem cm_ok {C : Str} (h : cmB K C = true) : ClX.CRead K (gC K C) (.type "type") ∧ ClX.CMet K (gC K C) (.type "type") "of" (He.ma K (gC K C) "of") (wAt C "classmethod" "of" K) := by
  obtain ⟨h1, h⟩ := band h
  obtain ⟨h2, h3⟩ := band h
  exact ⟨read_ok h1, He5.cmet_of h2 h3⟩
theorem bare_ok {C : Addr} (h : bareB K C = true) : Bare K C := by
  obtain ⟨h1, h⟩ := band h
  obtain ⟨h2, h⟩ := band h
  obtain ⟨h3, h4⟩ := band h
  exact ⟨h1, He.eqO_ok h2, h3, of_decide_eq_true h4⟩
theorem ne_ok {C : Str} {CN : Addr} (n : NodC K CN (gC K C)) (h : neB K C = true) : VxS.NeC K (gC K C) := ⟨n.eqc, He.eqO_ok h⟩
theorem nm_of (c : He5.SaysA fa fn K) (X : K.In h) (G : h.Ns mainGlobals mg) (d : DatN K (CN K)) : Nm K mg where
  isi := He.free_ok X G (c.fact 34 (f := .free "isinstance") rfl)
  int := He.free_ok X G (c.fact 35 (f := .free "int") rfl)
  bool := He.free_ok X G (c.fact 36 (f := .free "bool") rfl)
  str := He.free_ok X G (c.fact 37 (f := .free "str") rfl)
  tuple := He.free_ok X G (c.fact 38 (f := .free "tuple") rfl)
  len := He.free_ok X G (c.fact 39 (f := .free "len") rfl)
  all := He.free_ok X G (c.fact 40 (f := .free "all") rfl)
  list := He.free_ok X G (c.fact 41 (f := .free "list") rfl)
  repr := He.free_ok X G (c.fact 42 (f := .free "repr") rfl)
  rng := He.free_ok X G (c.fact 43 (f := .free "range") rfl)
  min := He.free_ok X G (c.fact 44 (f := .free "min") rfl)
  atom := He.int_ok X G (c.fact 46 (f := .int "ATOM_LIMIT" big) rfl)
  text := He.int_ok X G (c.fact 47 (f := .int "TEXT_LIMIT" 2000) rfl)
  lim := He.int_ok X G (c.fact 48 (f := .int "BRAND_LIMIT" 40) rfl)
  lets := He.str_ok X G (c.fact 49 (f := .str "LETTERS" LET) rfl)
  oths := He.str_ok X G (c.fact 50 (f := .str "OTHER_BRAND_SIGNS" OTH) rfl)
  resv := He.str_ok X G (c.fact 51 (f := .str "RESERVED_BRAND" "bag") rfl)
  zip := He.free_ok X G (c.fact 45 (f := .free "zip") rfl)
  node := He.glo_ok X G (c.fact 25 (f := .glo "Node") rfl)
  dat := d
theorem ts_of (c : He5.SaysA fa fn K) (X : K.In h) (G : h.Ns mainGlobals mg) : Ts K mg :=
  ⟨fn_glo c X G 0 0 (x := "is_integer") rfl rfl, fn_glo c X G 1 1 (x := "is_text") rfl rfl, fn_glo c X G 2 2 (x := "is_key") rfl rfl, fn_glo c X G 3 3 (x := "is_atom") rfl rfl, fn_glo c X G 4 4 (x := "is_atom_or_node") rfl rfl⟩
theorem rq_of (c : He5.SaysA fa fn K) (X : K.In h) (G : h.Ns mainGlobals mg) : Rq K mg :=
  ⟨fn_glo c X G 7 7 (x := "require_value") rfl rfl, fn_glo c X G 8 8 (x := "require_values") rfl rfl, fn_glo c X G 9 9 (x := "require_key") rfl rfl, fn_glo c X G 10 10 (x := "require_label") rfl rfl, fn_glo c X G 5 5 (x := "is_brand") rfl rfl, fn_glo c X G 6 6 (x := "is_free_brand") rfl rfl⟩
structure Ck (K : PySem.W.Frag) : Prop where
  sys : SysK K
  pb : PropOf K (gC K "Thing") "brand" (mAt "Thing" "brand" K) (wAt "Thing" "property" "brand" K)
  pf : PropOf K (gC K "Thing") "fields" (mAt "Thing" "fields" K) (wAt "Thing" "property" "fields" K)
  pp : PropOf K (gC K "Book") "pairs" (mAt "Book" "pairs" K) (wAt "Book" "property" "pairs" K)
  nt : nodB K "Thing" = true
  nb : nodB K "Book" = true
  nr : nodB K "Row" = true
  dat : DatN K (CN K)
  cm : ClX.CRead K (gC K "Book") (.type "type") ∧ ClX.CMet K (gC K "Book") (.type "type") "of" (He.ma K (gC K "Book") "of") (wAt "Book" "classmethod" "of" K)
  net : neB K "Thing" = true
  ner : neB K "Row" = true
  wh : Bare K (gC K "Whole")
  rf : Bare K (gC K "Refill")
  tk : PySem.W.kitOne K (.ref (gC K "Thing")) (.ref (gC K "Thing")) = some true
  bk : PySem.W.kitOne K (.ref (gC K "Book")) (.ref (gC K "Book")) = some true
theorem ck_of (k : chk K = true) : Ck K := by
  obtain ⟨h1, k⟩ := band k
  obtain ⟨h2, k⟩ := band k
  obtain ⟨h3, k⟩ := band k
  obtain ⟨h4, k⟩ := band k
  obtain ⟨h5, k⟩ := band k
  obtain ⟨h6, k⟩ := band k
  obtain ⟨h7, k⟩ := band k
  obtain ⟨h8, k⟩ := band k
  obtain ⟨h9, k⟩ := band k
  obtain ⟨h10, k⟩ := band k
  obtain ⟨h11, k⟩ := band k
  obtain ⟨h12, k⟩ := band k
  obtain ⟨h13, k⟩ := band k
  obtain ⟨h14, h15⟩ := band k
  exact ⟨sys_of h1, prop_ok h2, prop_ok h3, prop_ok h4, h5, h6, h7, dat_ok h8, cm_ok h9, h10, h11, bare_ok h12, bare_ok h13, of_decide_eq_true h14, of_decide_eq_true h15⟩
theorem hkc_of (c : He5.SaysA fa fn K) (X : K.In h) (G : h.Ns mainGlobals mg) (k : Ck K) : HkC K mg := by
  have glo : ∀ (i : Nat) {x : Str}, fa[i]? = some (.glo x) → mg x = some (.ref (gC K x)) := fun i x e => He.glo_ok X G (c.fact i e)
  have nt := nod_ok (He.cls_ok (c.fact 52 (f := .cls "Thing") rfl)) k.nt
  have nr := nod_ok (He.cls_ok (c.fact 54 (f := .cls "Row") rfl)) k.nr
  exact {
  fc := He.cls_ok (c.fact 55 (f := .cls "Fields") rfl)
  fb := He.noat_ok (c.fact 62 (f := .noat "Fields" "_brand") rfl)
  fl := He.noat_ok (c.fact 63 (f := .noat "Fields" "_labels") rfl)
  fm := glo 29 (x := "Fields") rfl
  sc := He.cls_ok (c.fact 56 (f := .cls "Single") rfl)
  st := He.noat_ok (c.fact 64 (f := .noat "Single" "_thing") rfl)
  sm := glo 30 (x := "Single") rfl
  pc := He.cls_ok (c.fact 57 (f := .cls "Parts") rfl)
  pl := He.noat_ok (c.fact 65 (f := .noat "Parts" "_labels") rfl)
  pm := glo 31 (x := "Parts") rfl
  wh := k.wh
  wm := glo 32 (x := "Whole") rfl
  rf := k.rf
  rm := glo 33 (x := "Refill") rfl
  labs := fn_glo c X G 11 11 (x := "require_labels") rfl rfl
  tn := nt
  tk := k.tk
  tm := glo 27 (x := "Thing") rfl
  bn := nod_ok (He.cls_ok (c.fact 53 (f := .cls "Book") rfl)) k.nb
  bk := k.bk
  bm := glo 26 (x := "Book") rfl
  rn := nr
  rwm := glo 28 (x := "Row") rfl
  tne := ne_ok nt k.net
  rne := ne_ok nr k.ner }
theorem mt_of (c : He5.SaysA fa fn K) (X : K.In h) (G : h.Ns mainGlobals mg) (k : Ck K) : Mt K mg where
  ti := by
    obtain ⟨fd, F⟩ := fn_m c 25 rfl
    exact ⟨_, fd, He.mkr_ok (c.fact 66 (f := .mkr "Thing") rfl), F⟩
  tb := by
    obtain ⟨fd, F⟩ := fn_m c 26 rfl
    exact ⟨_, _, fd, k.pb, F⟩
  tf := by
    obtain ⟨fd, F⟩ := fn_m c 27 rfl
    exact ⟨_, _, fd, k.pf, F⟩
  ts := by
    obtain ⟨fd, F⟩ := fn_m c 28 rfl
    exact ⟨_, fd, He.meth_ok (c.fact 72 (f := .meth "Thing" "set_field") rfl), F⟩
  tg := by
    obtain ⟨fd, F⟩ := fn_m c 29 rfl
    exact ⟨_, fd, He.meth_ok (c.fact 73 (f := .meth "Thing" "field") rfl), F⟩
  bi := by
    obtain ⟨fd, F⟩ := fn_m c 30 rfl
    exact ⟨_, fd, He.mkr_ok (c.fact 67 (f := .mkr "Book") rfl), F⟩
  bo := by
    obtain ⟨fd, F⟩ := fn_m c 31 rfl
    exact ⟨_, _, _, fd, k.cm.1, k.cm.2, F⟩
  bp := by
    obtain ⟨fd, F⟩ := fn_m c 32 rfl
    exact ⟨_, _, fd, k.pp, F⟩
  be := by
    obtain ⟨fd, F⟩ := fn_m c 33 rfl
    exact ⟨_, fd, He.meth_ok (c.fact 74 (f := .meth "Book" "enter") rfl), F⟩
  ri := by
    obtain ⟨fd, F⟩ := fn_m c 34 rfl
    exact ⟨_, fd, He.mkr_ok (c.fact 68 (f := .mkr "Row") rfl), F⟩
  sfs := fn_glo c X G 13 13 (x := "set_fields") rfl rfl
  are := fn_glo c X G 12 12 (x := "are_pairs") rfl rfl
  B := ⟨He.cls_ok (c.fact 52 (f := .cls "Thing") rfl), He.noat_ok (c.fact 58 (f := .noat "Thing" "_entries") rfl), He.noat_ok (c.fact 59 (f := .noat "Thing" "_brand") rfl)⟩
  C := ⟨He.cls_ok (c.fact 53 (f := .cls "Book") rfl), He.noat_ok (c.fact 60 (f := .noat "Book" "_entries") rfl)⟩
  rc := He.cls_ok (c.fact 54 (f := .cls "Row") rfl)
  rs := He.noat_ok (c.fact 61 (f := .noat "Row" "_sequence") rfl)
theorem hc_of (c : He5.SaysA fa fn K) (X : K.In h) (G : h.Ns mainGlobals mg) (k : Ck K) : Hc K mg where
  C := hkc_of c X G k
  M := mt_of c X G k
  fi := by
    obtain ⟨fd, F⟩ := fn_m c 35 rfl
    exact ⟨_, fd, He.mkr_ok (c.fact 69 (f := .mkr "Fields") rfl), F⟩
  si := by
    obtain ⟨fd, F⟩ := fn_m c 37 rfl
    exact ⟨_, fd, He.mkr_ok (c.fact 70 (f := .mkr "Single") rfl), F⟩
  pi := by
    obtain ⟨fd, F⟩ := fn_m c 39 rfl
    exact ⟨_, fd, He.mkr_ok (c.fact 71 (f := .mkr "Parts") rfl), F⟩
  fc := by
    obtain ⟨fd, F⟩ := fn_m c 36 rfl
    exact ⟨_, fd, He.meth_ok (c.fact 75 (f := .meth "Fields" "__call__") rfl), F⟩
  sc := by
    obtain ⟨fd, F⟩ := fn_m c 38 rfl
    exact ⟨_, fd, He.meth_ok (c.fact 76 (f := .meth "Single" "__call__") rfl), F⟩
  pc := by
    obtain ⟨fd, F⟩ := fn_m c 40 rfl
    exact ⟨_, fd, He.meth_ok (c.fact 77 (f := .meth "Parts" "__call__") rfl), F⟩
  wc := by
    obtain ⟨fd, F⟩ := fn_m c 41 rfl
    exact ⟨_, fd, He.meth_ok (c.fact 78 (f := .meth "Whole" "__call__") rfl), F⟩
  xc := by
    obtain ⟨fd, F⟩ := fn_m c 42 rfl
    exact ⟨_, fd, He.meth_ok (c.fact 79 (f := .meth "Refill" "__call__") rfl), F⟩
  like := fn_glo c X G 20 20 (x := "_law_like") rfl rfl
theorem facts {f : Addr} (X : K.In h) (G : h.Ns mainGlobals mg) (hfa : mg ("law" : Str) = some (.ref f)) (c : He.SaysL fa fn [] [] chk w h K) :
    ∃ fd : FuncData, (∀ (s : Shared) (v : Value), BindsTo s fd ⟨[v], []⟩ [("script", v)]) ∧ ∀ base : Heap, K.In base → base.Ns mainGlobals mg → FnG P w K mg base CX0 10 f fd ["script"] (spLaw K) := by
  have k := ck_of c.chk
  have c := c.says
  obtain ⟨fL, fd, F, g⟩ := fn_glo c X G 24 24 (x := "law") rfl rfl
  have e := hfa.symm.trans g
  cases e
  have b := FunD.bindsA (ps := ["script"]) F fun _ _ _ _ _ _ us hl => match us, hl with | [_], _ => rfl
  have D : Dr K mg := ⟨fn_glo c X G 14 14 (x := "_law_begin") rfl rfl, fn_glo c X G 15 15 (x := "_law_mixed") rfl rfl, fn_glo c X G 16 16 (x := "_law_next") rfl rfl⟩
  exact ⟨fd, fun s v => b s [v] rfl, fun base _ _ => ok_law F (hc_of c X G k) (nm_of c X G k.dat) (ts_of c X G) (rq_of c X G) k.sys D (fn_glo c X G 17 17 (x := "_law_atom") rfl rfl) (fn_glo c X G 18 18 (x := "_law_labels") rfl rfl) (fn_glo c X G 19 19 (x := "_law_thing") rfl rfl) (fn_glo c X G 21 21 (x := "_law_fields_right") rfl rfl) (fn_glo c X G 22 22 (x := "_law_taken_right") rfl rfl) (fn_glo c X G 23 23 (x := "_law_refilled_right") rfl rfl)⟩
end
end Kh
open PySem PySem.W PySem.Calls PyProof.Rows
theorem PySem.Challenge.cw_brinejar_k14_ready_hooks_holds : PySem.Challenge.rw_brinejar_k14_ready_hooks.Holds := by
  w_on
  o_law
  refine HandSHeadRun.head_any (r := OpenLaw.row PySem.Challenge.rw_brinejar_k14_ready_hooks) (q := view (OpenLaw.row PySem.Challenge.rw_brinejar_k14_ready_hooks).prog [69]) (H := Kh.hk) (ob := Kh.ob) (M := 20000) (loose := Kh.loose) (d := HandSHeadRun.topDef (OpenLaw.row PySem.Challenge.rw_brinejar_k14_ready_hooks).prog 69) (kwd := []) Kh.ob_eq
    (by kernel_rfl) (fun s => by kernel_rfl) Kh.run (by kernel_rfl) (by kernel_rfl) (by kernel_rfl) (by rfl) (by first | assumption | decide +kernel) (by decide +kernel) ⟨rfl, rfl, rfl, rfl, rfl, by decide +kernel⟩ ?hw ?hc
  case hw => w_witness2
  case hc =>
    refine L2.walk_ofG (l := PySem.Challenge.rw_brinejar_k14_ready_hooks) (n := 63) (k := 10) (x := "script") rfl (by decide) (by kernel_rfl) ⟨rfl, by decide, by decide⟩ ?F
    intro w mg fa h Y G hmg0
    obtain ⟨K, KX, c⟩ := Y
    have hmg : mg ("law" : PySem.Str) = some (.ref fa) := by
      have e : (HandSHeadRun.topDef (OpenLaw.row PySem.Challenge.rw_brinejar_k14_ready_hooks).prog 69).name = ("law" : PySem.Str) := by kernel_rfl
      rw [← e]
      exact hmg0
    obtain ⟨fd, hb, hF⟩ := Kh.facts (P := (PySem.Challenge.rw_brinejar_k14_ready_hooks).prog) (w := w) KX G hmg c
    exact ⟨K, fd, Kh.spLaw K, KX, hb, fun H a ns hl _ hS => ⟨a, ns, rfl, hS, hl, fun _ => rfl⟩, hF⟩
