import PyProof.Rows.All
import Wide.All
import OpenK.AllK
import Wide.FinOn
import KE.KExcInit
import KE.KExcIs
import HandS.ForExc
import HandS.ExcInit
import HandS.ExcField
import HandS.MakeKwOnly
import HandS.Codes
import HandS.ForMost
import HandS.Style
import HandS.HeadEnd
import HandS.HeadHook2
import HandS.Head2
import PyProof.ReprRoads
import HandS.Walk
import HandS.SetFor
import PySem.Challenge.RW_brinejar_k01_error_classes
set_option Elab.async false
set_option linter.all false
set_option maxRecDepth 100000
set_option maxHeartbeats 4000000
/-! VxA: exceptions of own classes over any of the built-in bases, with an own __init__, held as values: made, told apart, read. -/
namespace PySem
namespace VxS
open PySem.W PySem.Calls PyProof.Rows PySem.HandSPX
section
open Builtin Builtin.ObjectAttr
variable {prog : Program} {w : World} {A : Around} {E : Value → Shared → Prop} {R : Result → Shared → Prop} {hp : Heap} {g : Array GenState} {d : Drawn} {t : Nat} {os : OsState}
/-- a class chain over a built-in base: own classes, then the base's chain, stores by object.__setattr__ -/
structure Tail (bmB : List Value) (mro : List Value) : Prop where
  tail : excTail bmB mro = true
  pass : ∀ self, refuseLoop self "__setattr__" bmB = pure ()
  obj : bmB.contains (.type "object") = true
theorem Tail.has {bmB mro : List Value} (T : Tail bmB mro) : mro.contains (.type "object") = true := (excTail_contains "object" mro T.tail).trans T.obj
theorem Tail.ne {bmB mro : List Value} (T : Tail bmB mro) : mro.isEmpty = false := by
  cases mro with
  | nil => exact absurd T.has (by decide)
  | cons _ _ => rfl
/-- the first field -/
theorem osa_new {K : W.Frag} {name : Str} {tk : Tok} {v : Value} {x C : Addr} {fv : Array Value} {cd : ClassData} {bmB : List Value}
    (X : K.In hp) (hx : hp.get? x = some { cls := .ref C, data := .fields fv }) (hcd : W.clsIn K C = some cd) (T : Tail bmB cd.mro) (hh : cd.hasDict = true) (ha : W.findIn K (.ref C) name = some none)
    (hq : ∀ h' tk' dx, (∀ b o, b ≠ x → hp.get? b = some o → h'.get? b = some o) → hp.objs.size ≤ dx → dx ≠ x → h'.get? x = some { cls := .ref C, dict := some dx, data := .fields fv } →
      h'.Ns1 dx (fun y => if y = name then some v else none) → R (.ok (.ret .none)) ⟨h', g, d, tk', os⟩) :
    codeAny (model prog w) A (.call (.builtin "object.__setattr__") ⟨[.ref x, .str name tk, v], []⟩) R ⟨hp, g, d, t, os⟩ := by
  have I : W.InstAt hp x { cls := .ref C, data := .fields fv } C none := ⟨hx, rfl, rfl, trivial⟩
  have SF := F.store_object
  have hxs : x ≠ hp.objs.size := Nat.ne_of_lt (Heap.lt_size hx)
  have sub : W.Looks (model prog w) hp (isInstance (.ref x) (.type "object")) true := I.type.andThen (W.looks_mroIn X (by unfold W.mroIn; rw [hcd, Option.bind_some, if_neg (by rw [T.ne]; decide), T.has]))
  refine codeAny_call_builtin SF.slot.plain SF.entry (@W.check_slot (model prog w) _ _ ⟨hp, g, d, t, os⟩ "object.__setattr__" "object" "__setattr__" (.ref x) [.str name tk, v] [] _ SF.kind SF.split sub (SF.args (.ref x) (.str name tk) v) ?_)
  have hmr : W.Looks (model prog w) hp (mroOf (.ref C)) cd.mro := (W.looks_clsIn X hcd).andThen .now
  have L3 : W.Looks (model prog w) hp (storeTaker? none) none := .now
  have hcls : W.Looks (model prog w) hp (classData C) cd := W.looks_clsIn X hcd
  rw [W.osa_eq, refuse_eq]
  refine wpAny_bind (wpAny_bind (I.type.at (wpAny_bind (hmr.at ?_))))
  rw [excTail_pass _ (T.pass _) _ T.tail]
  refine wpAny_pure (wpAny_bind (I.type.at (wpAny_bind ((W.looks_findIn X ha).at (wpAny_bind (L3.at ?_))))))
  show wpAny _ _ (storeInOwnDict (.ref x) (.ref C) (.str name tk) name v false) _ _ _
  obtain ⟨nm, bs, mro, ns, qn, hd, sn, sb, ab, col, del⟩ := cd
  dsimp only at hh
  subst hh
  unfold storeInOwnDict ownDictForStores
  repeat (first | with_reducible refine store_in_new ?_ ?_ | with_reducible refine wpAny_loadPart_at hx ?_ | with_reducible refine hcls.at ?_ | wp_step)
  · exact ⟨_, #[], _, (Heap.get?_update_ne _ _ _ _ hxs.symm).trans (Heap.get?_push_at rfl rfl), rfl, fun e he => absurd he (by simp), fun _ => rfl⟩
  · intro h' tk' hn' hs
    have hx₁ : (hp.push { cls := .type "dict", data := .dict #[] }).get? x = some { cls := .ref C, data := .fields fv } := Heap.get?_push_of_some _ hx
    refine hq h' tk' hp.objs.size (fun b o hb ho => ?_) (Nat.le_refl _) hxs.symm ?_ hn'
    · exact (hs.2 b (Nat.ne_of_lt (Heap.lt_size ho))).trans ((Heap.get?_update_ne _ _ _ _ hb).trans (Heap.get?_push_of_some _ ho))
    · exact (hs.2 x hxs).trans (Heap.get?_update_self _ hx₁ rfl)
/-- a further field -/
theorem osa_old {K : W.Frag} {name : Str} {tk : Tok} {v : Value} {x C dx : Addr} {fv : Array Value} {cd : ClassData} {m0 : Str → Option Value} {nl : List Str} {bmB : List Value}
    (X : K.In hp) (hx : hp.get? x = some { cls := .ref C, dict := some dx, data := .fields fv }) (hns : hp.Ns1 dx m0) (hw : Within m0 nl) (hz : nl.length ≤ 1000) (hcd : W.clsIn K C = some cd) (T : Tail bmB cd.mro) (hh : cd.hasDict = true)
    (ha : W.findIn K (.ref C) name = some none)
    (hq : ∀ h' tk', (∀ b o, b ≠ dx → hp.get? b = some o → h'.get? b = some o) → h'.Ns1 dx (fun y => if y = name then some v else m0 y) → R (.ok (.ret .none)) ⟨h', g, d, tk', os⟩) :
    codeAny (model prog w) A (.call (.builtin "object.__setattr__") ⟨[.ref x, .str name tk, v], []⟩) R ⟨hp, g, d, t, os⟩ := by
  obtain ⟨oD, esD, epD, hoD, hdD, _⟩ := hns.count hw
  have I : W.InstAt hp x { cls := .ref C, dict := some dx, data := .fields fv } C (some oD) := ⟨hx, rfl, rfl, hoD⟩
  have SF := F.store_object
  have sub : W.Looks (model prog w) hp (isInstance (.ref x) (.type "object")) true := I.type.andThen (W.looks_mroIn X (by unfold W.mroIn; rw [hcd, Option.bind_some, if_neg (by rw [T.ne]; decide), T.has]))
  refine codeAny_call_builtin SF.slot.plain SF.entry (@W.check_slot (model prog w) _ _ ⟨hp, g, d, t, os⟩ "object.__setattr__" "object" "__setattr__" (.ref x) [.str name tk, v] [] _ SF.kind SF.split sub (SF.args (.ref x) (.str name tk) v) ?_)
  have hmr : W.Looks (model prog w) hp (mroOf (.ref C)) cd.mro := (W.looks_clsIn X hcd).andThen .now
  have L3 : W.Looks (model prog w) hp (storeTaker? none) none := .now
  have hcls : W.Looks (model prog w) hp (classData C) cd := W.looks_clsIn X hcd
  rw [W.osa_eq, refuse_eq]
  refine wpAny_bind (wpAny_bind (I.type.at (wpAny_bind (hmr.at ?_))))
  rw [excTail_pass _ (T.pass _) _ T.tail]
  refine wpAny_pure (wpAny_bind (I.type.at (wpAny_bind ((W.looks_findIn X ha).at (wpAny_bind (L3.at ?_))))))
  show wpAny _ _ (storeInOwnDict (.ref x) (.ref C) (.str name tk) name v false) _ _ _
  obtain ⟨nm, bs, mro, ns, qn, hd, sn, sb, ab, col, del⟩ := cd
  dsimp only at hh
  subst hh
  unfold storeInOwnDict ownDictForStores
  repeat (first | with_reducible refine OEX.store_in_old hns hw hz ?_ | with_reducible refine wpAny_loadPart_at hx ?_ | with_reducible refine hcls.at ?_ | wp_step)
  intro h' tk' hn' hs
  exact hq h' tk' (fun b o hb ho => (hs.2 b hb).trans ho) hn'
end
end VxS
end PySem

set_option Elab.async false
set_option linter.all false
set_option maxRecDepth 100000
set_option maxHeartbeats 4000000
namespace L2
open PySem PySem.Spec PyProof.Rows

/-- what the written part says of an exception class of the program -/
structure Xc (K : PySem.W.Frag) (C : Addr) : Prop where
  cls : ∃ (nm q : Str) (N : Addr) (bs bm : List Value) (sn : List Str) (sub : List Value) (ab : Bool) (col : Option Bool) (dd : Option Addr) (k0 k1 k2 k3 k5 : Option Value) (B newId initId : String) (bmB : List Value),
    K.lookup C = some (excClassObj nm q C N bs bm true sn sub ab col dd k0 k1 k2 k3 k5 newId) ∧ ExcBaseFacts B newId initId bmB ∧ VxS.Tail bmB (.ref C :: bm)
  sa : PySem.W.findIn K (.ref C) "__setattr__" = some (some (.builtin "object.__setattr__"))
  ga : PySem.W.findIn K (.ref C) "__getattribute__" = some (some (.builtin "BaseException.__getattribute__"))
  gg : PySem.W.findIn K (.ref C) "__getattr__" = some none
  exC : PySem.W.subIn K (.ref C) (.type "BaseException") = some true
  tyC : PySem.W.typeIn K (.ref C) = some (.type "type")
  kC : PySem.W.keepIn K (.ref C) = true
  hdC : PySem.W.hasDictIn K C = true
  ca : PySem.W.findIn K (.ref C) "__class__" = some (some (.builtin "object.__class__"))
  cn : PySem.W.specialIn K (.builtin "object.__class__") "__get__" = some (some (.builtin "getset_descriptor.__get__"))
  ct : PySem.W.takesIn K (.builtin "object.__class__") = some true
  cm : PySem.W.mroIn K C (.type "object") = some true

/-- an exception of the class at C, its own dict at d -/
def exV (e C d : Addr) : HO := .ext fun h => ∃ (oe : Obj) (vs : Array Value), h.get? e = some oe ∧ oe.cls = .ref C ∧ oe.dict = some d ∧ oe.data = .fields vs
theorem exV_ok {P : Program} {w : World} {H : Hp} {h : Heap} {e C d : Addr} {oe : Obj} {vs : Array Value} (he : h.get? e = some oe) (hc : oe.cls = .ref C) (hd : oe.dict = some d) (hv : oe.data = .fields vs) : ObjOk P w H h e (exV e C d) :=
  ⟨⟨oe, vs, he, hc, hd, hv⟩, ⟨_, he⟩, fun h1 h2 z k => by
    obtain ⟨o, v, q, r⟩ := z
    exact ⟨o, v, k _ q, r⟩⟩
theorem exV_at {P : Program} {w : World} {H : Hp} {h : Heap} {e C d : Addr} (hok : HOk P w H h) (he : H e = some (exV e C d)) : ∃ (oe : Obj) (vs : Array Value), h.get? e = some oe ∧ oe.cls = .ref C ∧ oe.dict = some d ∧ oe.data = .fields vs := by
  have x : ObjOk P w H h e (.ext fun h => ∃ (oe : Obj) (vs : Array Value), h.get? e = some oe ∧ oe.cls = .ref C ∧ oe.dict = some d ∧ oe.data = .fields vs) := hok e _ he
  exact x.1
/-- at e: an exception of the class at C with these fields -/
def ExAt (H : Hp) (e C : Addr) (fs : List (Str × V)) : Prop := ∃ d, H e = some (exV e C d) ∧ H d = some (.xd fs)
theorem ExAt.mono {H H' : Hp} {e C : Addr} {fs : List (Str × V)} (x : ExAt H e C fs) (s : Same H H') : ExAt H' e C fs := by
  obtain ⟨d, h1, h2⟩ := x
  exact ⟨d, s _ _ h1, s _ _ h2⟩

section
variable {X : Cx} {pins : List (Addr × Obj)} {σ : St} {H : Hp} {s : Shared} {a C dx : Addr} {f : Str} {y : V} {u : Value} {fs : List (Str × V)} {Q : Unit → Shared → Prop} {E : Value → Shared → Prop} {A : Around}
theorem xst_new (T : Xc X.K C) (I : Inv X pins σ H s) (e : H a = some (exo a C none)) (hno : PySem.W.findIn X.K (.ref C) f = some none) (ry : RelV y u)
    (h : ∀ dx s', H dx = none → dx ≠ a → Inv X pins σ (upd (upd H dx (exd dx [(f, y)])) a (exo a C (some dx))) s' → Q () s') : wpAny (model X.prog X.w) A (setAttr (.ref a) f u) Q E s := by
  obtain ⟨nm, q, N, bs, bm, sn, sub, ab, col, dd, k0, k1, k2, k3, k5, B, newId, initId, bmB, hC, FB, hbm⟩ := T.cls
  have hcl : PySem.W.clsIn X.K C = some { name := nm, bases := bs, mro := .ref C :: bm, ns := N, qualname := q, hasDict := true, slotNames := sn, subclasses := sub, abstract := ab, collection := col, hasDel := false } := by unfold PySem.W.clsIn; rw [hC] <;> rfl
  obtain ⟨t1, ho⟩ := exo_at I.hok e
  obtain ⟨hp, g, d, t, os⟩ := s
  refine PySem.W.set_plain I.kIn (ox := { cls := .ref C, dict := none, data := .fields #[.ref t1, .none, .none, .none, .bool false, .none] }) (od := none) ⟨ho, rfl, rfl, trivial⟩ T.sa ?_
  refine VxS.osa_new I.kIn ho hcl hbm rfl hno (fun h' tk' dx k dn dne hx hn => ?_)
  have hnd : H dx = none := I.hok.fresh dn
  have nd : ∀ {b : Addr} {o : Obj}, hp.get? b = some o → b ≠ dx := fun {b o} q => Nat.ne_of_lt (Nat.lt_of_lt_of_le (Heap.lt_size q) dn)
  have na : ∀ {b : Addr}, H b = none → b ≠ a := fun {b} n z => by
    rw [z, e] at n
    cases n
  have Un1 : Un X.fs [] H (upd (upd H dx (exd dx [(f, y)])) a (exo a C (some dx))) hp h' := {
    keep := fun b o q n _ _ => k b o (na n) q
    slot := fun b o q n _ _ => ⟨o.slots, k b o (na n) q⟩
    free := fun b o q n _ => by rw [upd_ne (na n), upd_ne (nd q)]; exact n
    there := fun b o q _ => by
      by_cases hb : b = a
      · exact ⟨_, by rw [hb]; exact hx⟩
      · exact ⟨o, k b o hb q⟩
    tups := fun b xs q => by rw [upd_ne (at_ne e q exo_tup), upd_ne (ne_of_none q hnd)]; exact q
    frzs := fun b o v q => by rw [upd_ne (at_ne e q exo_frz), upd_ne (ne_of_none q hnd)]; exact q
    tbls := fun b ps q => ⟨#[], by rw [upd_ne (at_ne e q exo_tbl), upd_ne (ne_of_none q hnd), q]; simp⟩ }
  refine h dx _ hnd dne (I.un (t' := tk') Un1 fun b o q => ?_)
  by_cases hb : b = a
  · subst hb
    rw [upd_same] at q
    cases q
    exact exo_ok hx
  · rw [upd_ne hb] at q
    by_cases hd : b = dx
    · subst hd
      rw [upd_same] at q
      cases q
      exact exd_ok hn (relO_put (fs := []) ry fun g => True.intro)
    · rw [upd_ne hd] at q
      exact (I.hok b o q).stay (fun c v hc z => k c v (by
          rcases hc with hc | hc
          · rw [hc]
            exact hb
          · exact at_ne e hc exo_own) z)
        (fun c hc => by rw [upd_ne (at_ne e hc exo_own), upd_ne (ne_of_none hc hnd)]; exact hc) (fun c xs hc => by rw [upd_ne (at_ne e hc exo_tup), upd_ne (ne_of_none hc hnd)]; exact hc)
theorem xst_old (T : Xc X.K C) (I : Inv X pins σ H s) (e : H a = some (exo a C (some dx))) (ed : H dx = some (exd dx fs)) (hl : fs.length ≤ 900) (hno : PySem.W.findIn X.K (.ref C) f = some none) (ry : RelV y u)
    (h : ∀ s', Inv X pins σ (upd H dx (exd dx ((f, y) :: fs))) s' → Q () s') : wpAny (model X.prog X.w) A (setAttr (.ref a) f u) Q E s := by
  obtain ⟨nm, q, N, bs, bm, sn, sub, ab, col, dd, k0, k1, k2, k3, k5, B, newId, initId, bmB, hC, FB, hbm⟩ := T.cls
  have hcl : PySem.W.clsIn X.K C = some { name := nm, bases := bs, mro := .ref C :: bm, ns := N, qualname := q, hasDict := true, slotNames := sn, subclasses := sub, abstract := ab, collection := col, hasDel := false } := by unfold PySem.W.clsIn; rw [hC] <;> rfl
  obtain ⟨t1, ho⟩ := exo_at I.hok e
  obtain ⟨mA, hns, rel⟩ := exd_at I.hok ed
  have hw := within_of rel
  obtain ⟨hp, g, d, t, os⟩ := s
  obtain ⟨oD, _, _, hoD, _, _⟩ := hns.count hw
  refine PySem.W.set_plain I.kIn (ox := { cls := .ref C, dict := some dx, data := .fields #[.ref t1, .none, .none, .none, .bool false, .none] }) (od := some oD) ⟨ho, rfl, rfl, hoD⟩ T.sa ?_
  refine VxS.osa_old I.kIn ho hns hw (by rw [List.length_map]; omega) hcl hbm rfl hno (fun h' tk' k hn => ?_)
  have hd : ∃ o, h'.get? dx = some o := by
    obtain ⟨o, _, _, e', _⟩ := hn
    exact ⟨o, e'⟩
  exact h _ (I.write (t' := tk') (x := dx) (e := dx) (o := exd dx ((f, y) :: fs)) (by rw [ed]; exact True.intro) (.inl rfl) k hd (exd_ok hn (relO_put ry rel)))
end
/-- self.f = e in an exception's __init__ -/
def tXst (K : PySem.W.Frag) (f : Str) (to te : TE) : TS := fun D σ H => te σ H fun y H1 => to σ H1 fun x H2 => ∃ a C : Addr, x = .ref a ∧ Xc K C ∧ PySem.W.findIn K (.ref C) f = some none ∧
  ((H2 a = some (exo a C none) ∧ ∀ dx, H2 dx = none → dx ≠ a → D.nx σ (upd (upd H2 dx (exd dx [(f, y)])) a (exo a C (some dx)))) ∨
    ∃ (dx : Addr) (fs : List (Str × V)), H2 a = some (exo a C (some dx)) ∧ H2 dx = some (exd dx fs) ∧ fs.length ≤ 900 ∧ D.nx σ (upd H2 dx (exd dx ((f, y) :: fs))))
section
variable {X : Cx} {o e : Expr} {es : List Expr} {to te : TE} {ta : TA} {f : Str} {p p' p1 p2 pos : Pos}
theorem ps_xst (ho : PE X o to) (he : PE X e te) (hs : swapsWith e (some (.Attribute o f p')) pos.line X.env = pure false := by rfl) : PS X (.Assign [.Attribute o f p'] e pos) (tXst X.K f to te) := by
  refine ⟨fun pins s σ H D I h => ?_⟩
  refine plainObj_wpAny_Assign_Attribute (thn (he.run pins s σ H _ I h) fun v s1 ⟨y, H1, I1, r1, q1⟩ => thn (ho.run pins s1 σ H1 _ I1 q1) fun u s2 ⟨x, H2, I2, r2, a, C, ex, T, hno, q⟩ => ?_) hs
  subst ex
  obtain rfl : u = Value.ref a := r2
  rcases q with ⟨ea, q⟩ | ⟨dx, fs, ea, ed, hl, q⟩
  · exact xst_new T I2 ea hno r1 fun dx s' n ne J => ⟨σ, _, J, q dx n ne⟩
  · exact xst_old T I2 ea ed hl hno r1 fun s' J => ⟨σ, _, J, q⟩
end
/-- isinstance(e, c), e an exception of the program -/
def rIsX (K : PySem.W.Frag) : List V → Hp → VK → Prop := fun xs H Q => ∃ (a C : Addr) (fs : List (Str × V)) (c : V) (cv : Value) (b : Bool), xs = [.ref a, c] ∧ ExAt H a C fs ∧ Xc K C ∧ (∀ u, RelV c u → u = cv) ∧ PySem.W.kitOne K (.ref C) cv = some b ∧ Q (.bl b) H
theorem exV_inst {X : Cx} {pins : List (Addr × Obj)} {σ : St} {H : Hp} {s : Shared} {a C : Addr} {fs : List (Str × V)} (I : Inv X pins σ H s) (x : ExAt H a C fs) :
    ∃ (oe od : Obj) (mA : Str → Option Value), PySem.W.InstAt s.heap a oe C (some od) ∧ (∀ name, PySem.W.lookIn name od = some (mA name)) ∧ ∀ f, RelO (fs.lookup f) (mA f) := by
  obtain ⟨d, h1, h2⟩ := x
  obtain ⟨oe, vs, he, hc, hd, hv⟩ := exV_at I.hok h1
  have hx : ObjOk X.prog X.w H s.heap d (.xd fs) := I.hok d _ h2
  obtain ⟨mA, hns, hr⟩ := hx
  obtain ⟨od, ho, hl⟩ := lookIn_ns hns
  exact ⟨oe, od, mA, ⟨he, hc, by unfold PySem.W.notCls; rw [hv] <;> rfl, by rw [hd]; exact ho⟩, hl, hr⟩
theorem Xc.kit {K : PySem.W.Frag} {C x : Addr} {ox : Obj} {od : Option Obj} (T : Xc K C) : PySem.W.KitX K (.ref x) (.ref C) (fun h => PySem.W.InstAt h x ox C od) :=
  PySem.W.kitx_exc (by
    obtain ⟨cd, hc, _⟩ := PySem.W.any_some T.hdC
    rw [hc] <;> rfl) T.ga T.gg T.exC T.ca T.cn T.ct T.cm
theorem call_isX {X : Cx} : CallR X (.builtin "isinstance") (rIsX X.K) := by
  intro pins s σ H xs us Q I r h
  obtain ⟨a, C, fs, c, cv, b, rfl, x, T, hcv, e, q⟩ := h
  cases r with
  | cons rx rr =>
    cases rr with
    | cons rt rr =>
      cases rr
      cases rx
      have ec := hcv _ rt
      subst ec
      obtain ⟨oe, od, mA, J, _, _⟩ := exV_inst I x
      exact PySem.W.kia_one T.kit I.kIn J e (fun z => nomatch z) fun tk => ⟨.bl b, H, I.kept (t' := tk) fun _ _ z => z, rfl, q⟩
/-- isinstance(e, (c1, c2, ..)), e an exception of the program -/
def rIsXT (K : PySem.W.Frag) : List V → Hp → VK → Prop := fun xs H Q => ∃ (a C tp : Addr) (fs : List (Str × V)) (ts : List V) (cvs : List Value) (b : Bool), xs = [.ref a, .ref tp] ∧ ExAt H a C fs ∧ Xc K C ∧ H tp = some (.tup ts) ∧
  (∀ us, Vals ts us → us = cvs) ∧ PySem.W.kitAny K (.ref C) cvs = some b ∧ Q (.bl b) H
theorem call_isXT {X : Cx} : CallR X (.builtin "isinstance") (rIsXT X.K) := by
  intro pins s σ H xs us Q I r h
  obtain ⟨a, C, tp, fs, ts, cvs, b, rfl, x, T, ht, hcv, e, q⟩ := h
  cases r with
  | cons rx rr =>
    cases rr with
    | cons rt rr =>
      cases rr
      cases rx
      cases rt
      obtain ⟨oe, od, mA, J, _, _⟩ := exV_inst I x
      obtain ⟨_, its, rv, o, ho, hcl, n, hdt⟩ := I.hok tp _ ht
      have ev := hcv _ rv
      subst ev
      obtain ⟨oc, odd, oda, osl⟩ := o
      dsimp only at hcl hdt
      subst hcl hdt
      exact PySem.W.kia_tup T.kit I.kIn J ho e (fun z => nomatch z) fun tk => ⟨.bl b, H, I.kept (t' := tk) fun _ _ z => z, rfl, q⟩
/-- e.f of an exception of the program -/
def tXfd (K : PySem.W.Frag) (f : Str) (te : TE) : TE := fun σ H Q => te σ H fun x H1 => ∃ (a C : Addr) (fs : List (Str × V)) (v : V), x = .ref a ∧ ExAt H1 a C fs ∧ Xc K C ∧ PySem.W.findIn K (.ref C) f = some none ∧ fs.lookup f = some v ∧ Q v H1
theorem pe_xfd {X : Cx} {e : Expr} {te : TE} {pos : Pos} {n : Str} (he : PE X e te) (hb : attributeBase e n X.env (eval e X.env) = eval e X.env := by rfl) : PE X (.Attribute e n pos) (tXfd X.K n te) := by
  refine ⟨fun pins s σ H Q I h => ?_⟩
  refine attr_of hb (thn (he.run pins s σ H _ I h) fun u s1 hh => ?_)
  obtain ⟨x, H1, I1, rx, a, C, fs, v, ex, xa, T, hno, l, q⟩ := hh
  subst ex
  obtain rfl : u = Value.ref a := rx
  obtain ⟨oe, od, mA, J, hl, hr⟩ := exV_inst I1 xa
  obtain ⟨u, hu, ru⟩ := RelO.some_of (v := v) (o := mA n) (by rw [← l]; exact hr n)
  exact HandSPX.exc_get I1.kIn J T.ga T.gg T.exC (PySem.W.findObj_own T.hdC hno rfl (by rw [hl, hu])) (handed_of ru) ⟨v, H1, I1.tok _, ru, q⟩
end L2

set_option Elab.async false
set_option linter.all false
set_option maxRecDepth 100000
set_option maxHeartbeats 4000000
namespace PySem
namespace VxS
open PySem.W PySem.Calls PyProof.Rows PySem.HandSPX
section
variable {M : Model} {A : Around} {E : Value → Shared → Prop} {h : Heap} {g : Array GenState} {d : Drawn} {t : Nat} {os : OsState}
variable {nm q : Str} {C N : Addr} {bs bm bmB : List Value} {hdct : Bool} {sn : List Str} {sub : List Value} {ab : Bool} {col : Option Bool} {dd : Option Addr} {k0 k1 k2 k3 k5 : Option Value} {B newId initId : String}
theorem check_newK (F : ExcBaseFacts B newId initId bmB) (hT : ∀ X : String, bm.contains (.type X) = bmB.contains (.type X)) {rest : List Value} {kw : List (Str × Value)} {Q : Unit → Shared → Prop}
    (hC : h.get? C = some (excClassObj nm q C N bs bm hdct sn sub ab col dd k0 k1 k2 k3 k5 newId)) (hq : Q () ⟨h, g, d, t, os⟩) : wpAny M A (checkBuiltinCall newId ⟨.ref C :: rest, kw⟩) Q E ⟨h, g, d, t, os⟩ := by
  have hcont : (Value.ref C :: bm).contains (.type B) = true := by rw [List.contains_cons, hT, F.hasB, Bool.or_true]
  have hstar := F.noStar
  simp only [checkBuiltinCall, F.newKind, F.newSplit, F.newRow]
  repeat (first | refine wpAny_loadPart_at hC ?_ | (refine wpAny_isSubtype_exc hC ?_; rw [hcont]) | refine wpAny_staticBase_exc hC ?_ | refine wpAny_madeBy_exc hC ?_ | simp only [bne_self_eq_false, Bool.false_eq_true, if_false] | wp_step)
  exact hq
end
section
variable {prog : Program} {w : World} {A : Around} {E : Value → Shared → Prop} {R : Result → Shared → Prop} {h : Heap} {g : Array GenState} {d : Drawn} {t : Nat} {os : OsState}
variable {nm q : Str} {C N : Addr} {bs bm bmB : List Value} {hdct : Bool} {sn : List Str} {sub : List Value} {ab : Bool} {col : Option Bool} {dd : Option Addr} {k0 k1 k2 k3 k5 : Option Value} {B newId initId : String}
theorem new_K (F : ExcBaseFacts B newId initId bmB) (hT : ∀ X : String, bm.contains (.type X) = bmB.contains (.type X)) {rest : List Value} {kw : List (Str × Value)}
    (hC : h.get? C = some (excClassObj nm q C N bs bm hdct sn sub ab col dd k0 k1 k2 k3 k5 newId))
    (hq : R (.ok (.ret (.ref (h.objs.size + 1)))) ⟨(h.push { cls := .type "tuple", data := .seq rest.toArray }).push
      { cls := .ref C, data := .fields #[.ref h.objs.size, .none, .none, .none, .bool false, .none] }, g, d, t, os⟩) (hrest : rest.length ≤ sizeLine) :
    codeAny (model prog w) A (.builtin newId ⟨.ref C :: rest, kw⟩) R ⟨h, g, d, t, os⟩ := by
  have hends := F.ends
  have hcB : (Value.ref C :: bm).contains (.type B) = true := by rw [List.contains_cons, hT, F.hasB, Bool.or_true]
  have hcA : (Value.ref C :: bm).contains (.type "AttributeError") = false := by rw [List.contains_cons, hT, F.noAttr]; rfl
  have hcN : (Value.ref C :: bm).contains (.type "NameError") = false := by rw [List.contains_cons, hT, F.noName]; rfl
  refine codeAny_builtinAt F.entry ?_
  unfold Builtin.«BaseException.__new__»
  refine wpAt_bind ?_
  show wpAt _ _ _ (stack >>= _) _ _ _
  refine wpAt_bind (wpAt_stack fun p below => wpAt_of_wpAny ?_)
  wp_walk
  refine wpAt_of_wpAny ?_
  rw [F.owner]
  repeat (first | with_reducible refine wpAny_madeHere_exc F.canon hC ?_ | with_reducible refine wpAny_loadPart_at hC ?_ | (with_reducible refine wpAny_isSubtype_exc hC ?_; first | rw [hcB] | rw [hcA] | rw [hcN]) | wp_step)
  show R _ _
  rw [Heap.size_push]
  exact hq
theorem type_call_K (F : ExcBaseFacts B newId initId bmB) (hT : ∀ X : String, bm.contains (.type X) = bmB.contains (.type X)) {rest : List Value} {kw : List (Str × Value)} {fI : Addr} {Q : Fin → Shared → Prop}
    (hC : h.get? C = some (excClassObj nm q C N bs bm hdct sn sub ab col dd k0 k1 k2 k3 k5 newId))
    (hi : W.Looks (model prog w) h (typeLookup (.ref C) "__init__") (some (.ref fI))) (hb : ∀ self, W.Looks (model prog w) h (bindSpecial (.ref fI) self) (.ref fI, [self])) (hrest : rest.length ≤ sizeLine)
    (hq : codeAny (model prog w) A (.call (.ref fI) ⟨.ref (h.objs.size + 1) :: rest, kw⟩)
      (fun r s' => match r with | .ok (.ret v) => v = .none ∧ Q (.done (.ret (.ref (h.objs.size + 1)))) s' | .ok _ => False | .error e => E e s')
      ⟨(h.push (W.kdv_tup rest)).push (excO C h.objs.size), g, d, t, os⟩) :
    wpAny (model prog w) A (Builtin.«type.__call__» ⟨.ref C :: rest, kw⟩) Q E ⟨h, g, d, t, os⟩ := by
  repeat (first | with_reducible refine wpAny_loadPart_at hC ?_ | with_reducible refine wpAny_madeBy_exc hC ?_ | wp_step)
  refine codeAny_call_builtin_code (Code.quiet_builtin _ F.quiet) (check_newK F hT hC ?_)
  refine new_K F hT hC ?_ hrest
  show wpAny _ _ _ _ _ _
  have k : ∀ b o, h.get? b = some o → ((h.push (W.kdv_tup rest)).push (excO C h.objs.size)).get? b = some o := fun b o e => Heap.get?_push_of_some _ (Heap.get?_push_of_some _ e)
  have hC₁ := k _ _ hC
  have hget : ((h.push (W.kdv_tup rest)).push (excO C h.objs.size)).get? (h.objs.size + 1) = some (excO C h.objs.size) := by heap_get
  have hcC : (Value.ref C :: bm).contains (.ref C) = true := by simp
  have i1 := hi.keeps k
  have b1 := (hb (.ref (h.objs.size + 1))).keeps k
  unfold isInstance
  repeat (first | with_reducible refine wpAny_loadPart_at hget ?_ | (with_reducible refine wpAny_isSubtype_exc hC₁ ?_; rw [hcC]) | wp_step)
  show wpAny _ _ (typeLookup (.ref C) _) _ _ _
  refine i1.at ?_
  refine wpAny_holding (wpAny_bind (b1.at ?_))
  refine wpAny_bind (wpAny_call (codeAny_mono hq fun r s' z => ?_))
  rcases r with e | (v | _ | _ | _) <;> first | exact z | exact z.elim | skip
  obtain ⟨rfl, z⟩ := z
  first
    | exact wpAny_pure (wpAny_pure z)
    | (wp_walk; exact z)
theorem call_K (F : ExcBaseFacts B newId initId bmB) (hT : ∀ X : String, bm.contains (.type X) = bmB.contains (.type X)) {rest : List Value} {kw : List (Str × Value)} {fI : Addr}
    (hC : h.get? C = some (excClassObj nm q C N bs bm hdct sn sub ab col dd k0 k1 k2 k3 k5 newId))
    (hi : W.Looks (model prog w) h (typeLookup (.ref C) "__init__") (some (.ref fI))) (hb : ∀ self, W.Looks (model prog w) h (bindSpecial (.ref fI) self) (.ref fI, [self])) (hrest : rest.length ≤ sizeLine)
    (hq : codeAny (model prog w) (A.under (.builtin "type.__call__" ⟨.ref C :: rest, kw⟩)) (.call (.ref fI) ⟨.ref (h.objs.size + 1) :: rest, kw⟩) (W.InitBack (h.objs.size + 1) R)
      ⟨(h.push (W.kdv_tup rest)).push (excO C h.objs.size), g, d, t, os⟩) :
    codeAny (model prog w) A (.call (.ref C) ⟨rest, kw⟩) R ⟨h, g, d, t, os⟩ := by
  have f1 := tc_lookup
  have f2 := tc_bind (.ref C)
  have hTy : (⟨h, g, d, t, os⟩ : Shared).TypeIs (.ref C) "type" := ⟨_, hC, rfl⟩
  refine codeAny_of_tree ?_
  show wpAny _ _ (callAny (.ref C) _) _ _ _
  repeat (any_goals (first | assumption | with_reducible refine wpAny_loadPart_at hC ?_ | wp_step))
  refine ⟨rfl, ?_⟩
  refine codeAny_call_builtin_at (Code.quiet_builtin _ (by decide +kernel)) entry_typeCall (wpAny_check_type_call_sub hC (type_call_K F hT hC hi hb hrest ?_))
  refine codeAny_mono hq fun r s' z => ?_
  rcases r with e | (v | _ | _ | _) <;> exact z
end
end VxS
end PySem

set_option Elab.async false
set_option linter.all false
set_option maxRecDepth 100000
set_option maxHeartbeats 4000000
namespace L2
open PySem PySem.Spec PyProof.Rows
/-- an object is told otherwise -/
theorem HOk.retype {P : Program} {w : World} {H : Hp} {h : Heap} {x : Addr} {o' : HO} (ok : HOk P w H h) (mu : Mut (H x)) (hx : ∃ o, h.get? x = some o) (new : ObjOk P w (upd H x o') h x o') : HOk P w (upd H x o') h :=
  ok.write mu (.inl rfl) (fun _ _ _ e => e) hx new
section
variable {X : Cx} {CX : CXT} {k : Nat} {C fI : Addr} {fd : FuncData} {ps : List Str} {sp : Sp} {x : Str} {p pos : Pos} {e : Expr} {es : List Expr} {kws : List Keyword} {t tk : TA}
/-- behind the __init__: the exception and its dict stand as an exception's -/
theorem xnew_end {pins : List (Addr × Obj)} {σ : St} {H1 H2 : Hp} {hp hp2 h2 : Heap} {g1 g2 : Array GenState} {d1 d2 : Drawn} {t1 t2 : Nat} {os1 os2 : OsState} {a d : Addr} {fs : List (Str × V)} (I1 : Inv X pins σ H1 ⟨hp, g1, d1, t1, os1⟩)
    (ha : hp.objs.size ≤ a) (kk : ∀ b o, hp.get? b = some o → hp2.get? b = some o) (un : Un (frs X.stack) [] (upd H1 a (exo a C none)) H2 hp2 h2) (hok : HOk X.prog X.w H2 h2) (ho : os2 = os1) (hb : AllBare g2)
    (ea : H2 a = some (exo a C (some d))) (ed : H2 d = some (exd d fs)) : Inv X pins σ (upd (upd H2 a (exV a C d)) d (.xd fs)) ⟨h2, g2, d2, t2, os2⟩ := by
  obtain ⟨t0, hoe⟩ := exo_at hok ea
  obtain ⟨mA, hns, rel⟩ := exd_at hok ed
  have hn : H1 a = none := I1.hok.fresh ha
  have hda : d ≠ a := fun z => by
    obtain ⟨o, es, ep, e1, e2, _⟩ := hns
    rw [z, hoe] at e1
    have z2 := Option.some.inj e1
    subst z2
    cases e2
  have nha : ∀ {b : Addr} {o : Obj}, hp.get? b = some o → b ≠ a := fun {b o} z => Nat.ne_of_lt (Nat.lt_of_lt_of_le (Heap.lt_size z) ha)
  have up : ∀ {b : Addr}, b ≠ a → H1 b = none → upd H1 a (exo a C none) b = none := fun {b} hb n => by rw [upd_ne hb]; exact n
  have nd : ∀ {b : Addr} {o : Obj}, hp.get? b = some o → H1 b = none → b ≠ d := fun {b o} z n e => by
    have y := un.free b o (kk b o z) (up (nha z) n) (by simp)
    rw [e, ed] at y
    cases y
  have U : Un (frs X.stack) [] H1 (upd (upd H2 a (exV a C d)) d (.xd fs)) hp h2 := {
    keep := fun b o z n hf hx => un.keep b o (kk b o z) (up (nha z) n) hf hx
    slot := fun b o z n hf hx => un.slot b o (kk b o z) (up (nha z) n) hf hx
    free := fun b o z n hx => by
      rw [upd_ne (nd z n), upd_ne (nha z)]
      exact un.free b o (kk b o z) (up (nha z) n) hx
    there := fun b o z hx => un.there b o (kk b o z) hx
    tups := fun b xs z => by
      have q := un.tups b xs (by rw [upd_ne (ne_of_none z hn)]; exact z)
      rw [upd_ne (at_ne ed q exd_tup), upd_ne (ne_of_none z hn)]
      exact q
    frzs := fun b o v z => by
      have q := un.frzs b o v (by rw [upd_ne (ne_of_none z hn)]; exact z)
      rw [upd_ne (at_ne ed q (fun y => by
        have y' : HO.ext _ = HO.frz o v := y
        cases y')), upd_ne (ne_of_none z hn)]
      exact q
    tbls := fun b ps z => by
      obtain ⟨m, q⟩ := un.tbls b ps (by rw [upd_ne (ne_of_none z hn)]; exact z)
      refine ⟨m, ?_⟩
      rw [upd_ne (at_ne ed q (fun y => by
        have y' : HO.ext _ = HO.tbl (ps ++ m) := y
        cases y')), upd_ne (ne_of_none z hn)]
      exact q }
  have ok1 : HOk X.prog X.w (upd H2 a (exV a C d)) h2 := hok.retype (by rw [ea]; exact True.intro) ⟨_, hoe⟩ (exV_ok hoe rfl rfl rfl)
  have ed1 : (upd H2 a (exV a C d)) d = some (exd d fs) := by rw [upd_ne hda]; exact ed
  have ok2 : HOk X.prog X.w (upd (upd H2 a (exV a C d)) d (.xd fs)) h2 := by
    obtain ⟨o, es, ep, e1, r⟩ := id hns
    exact ok1.retype (by rw [ed1]; exact True.intro) ⟨o, e1⟩ ⟨mA, hns, rel⟩
  exact I1.call' (ch := []) ho U ok2 hb (fun b z => absurd z (by simp))
/-- C(..) of an exception class of the program, as a value. us: the positional values, kw the keywords', zs: bound in the parameters' order -/
theorem run_xnew {pins : List (Addr × Obj)} {σ : St} {H : Hp} {s : Shared} {Q : VK} {us zs : List Value} {kw : List (Str × Value)} {vs : List V} (T : Xc X.K C) (iC : PySem.W.findIn X.K (.ref C) "__init__" = some (some (.ref fI))) (tI : PySem.W.typeIn X.K (.ref fI) = some (.type "function"))
    (F1 : FnOk X.prog X.w X.K X.mg X.base CX k fI fd ps sp) (hr : Room (k + 1) X.A) (hx : Passes CX X (fun _ _ _ => False)) (hz : us.length ≤ sizeLine)
    (hb : ∀ (s : Shared) (a : Addr), X.K.In s.heap → BindsTo s fd ⟨Value.ref a :: us, kw⟩ (ps.zip (Value.ref a :: zs))) (I : Inv X pins σ H s) (r : Vals vs zs)
    (h : ∀ a, H a = none → sp (.ref a :: vs) (upd H a (exo a C none)) (fun v H2 => v = .non ∧ ∃ (d : Addr) (fs : List (Str × V)), H2 a = some (exo a C (some d)) ∧ H2 d = some (exd d fs) ∧ Q (.ref a) (upd (upd H2 a (exV a C d)) d (.xd fs))) (fun _ _ _ => False)) :
    wpAny (model X.prog X.w) X.A (call (.ref C) us kw) (EP X pins σ Q) X.xe s := by
  obtain ⟨nm, q, N, bs, bm, sn, sub, ab, col, dd, k0, k1, k2, k3, k5, B, newId, initId, bmB, hC, FB, hbm⟩ := T.cls
  have hT : ∀ Y : String, bm.contains (.type Y) = bmB.contains (.type Y) := fun Y => by
    have z := PySem.W.excTail_contains Y _ hbm.tail
    rw [List.contains_cons] at z
    have e : (Value.type Y == Value.ref C) = false := rfl
    rw [e, Bool.false_or] at z
    exact z
  obtain ⟨hp, g, dr, tk, os⟩ := s
  have hsz : hp.objs.size ≤ hp.objs.size + 1 := Nat.le_succ _
  have hn : H (hp.objs.size + 1) = none := I.hok.fresh hsz
  have hq := h (hp.objs.size + 1) hn
  have kk : ∀ b o, hp.get? b = some o → ((hp.push (PySem.W.kdv_tup us)).push (PySem.HandSPX.excO C hp.objs.size)).get? b = some o := fun b o e => Heap.get?_push_of_some _ (Heap.get?_push_of_some _ e)
  have hget : ((hp.push (PySem.W.kdv_tup us)).push (PySem.HandSPX.excO C hp.objs.size)).get? (hp.objs.size + 1) = some (PySem.HandSPX.excO C hp.objs.size) := by heap_get
  have I2 : Inv X pins σ (upd H (hp.objs.size + 1) (exo (hp.objs.size + 1) C none)) ⟨(hp.push (PySem.W.kdv_tup us)).push (PySem.HandSPX.excO C hp.objs.size), g, dr, tk, os⟩ :=
    I.laid (t' := tk) (a := hp.objs.size + 1) (o := exo (hp.objs.size + 1) C none) (h' := (hp.push (PySem.W.kdv_tup us)).push (PySem.HandSPX.excO C hp.objs.size)) kk hsz (exo_ok hget)
  have r2 : Vals (V.ref (hp.objs.size + 1) :: vs) (Value.ref (hp.objs.size + 1) :: zs) := .cons rfl r
  refine wpAny_call (VxS.call_K FB hT (I.kIn _ _ hC) (PySem.W.looks_findIn I.kIn iC) (fun self => PySem.W.bind_fn I.kIn self tI) hz
    (codeAny_mono (F1.run _ X.stack _ _ ⟨Value.ref (hp.objs.size + 1) :: us, kw⟩ (Value.ref (hp.objs.size + 1) :: zs) _ _ (fun _ _ _ => False) (hr.make C us kw) (I2.env0.make C us kw) (hb _ _ I2.kIn) r2 hq) fun r s' hq' => ?_))
  cases r with
  | error er => exact hx pins σ _ _ er s' I2 hq'
  | ok fl =>
    cases fl with
    | ret u =>
      obtain ⟨v, H2, os2, bare2, un2, hok2, rv, ev, d, fs, ea, ed, q2⟩ := hq'
      subst ev
      obtain ⟨h2, g2, d2, t2, os'⟩ := s'
      exact ⟨rv, .ref (hp.objs.size + 1), _, xnew_end (d2 := d2) (t2 := t2) I hsz kk un2 hok2 os2 bare2 ea ed, rfl, q2⟩
    | next => exact False.elim hq'
    | brk => exact False.elim hq'
    | cont => exact False.elim hq'
/-- the wish behind C(..): sp is the __init__'s promise, vs the values in the parameters' order -/
def XNew (C : Addr) (sp : Sp) (vs : List V) (H : Hp) (Q : VK) : Prop :=
  ∀ a, H a = none → sp (.ref a :: vs) (upd H a (exo a C none)) (fun v H2 => v = .non ∧ ∃ (d : Addr) (fs : List (Str × V)), H2 a = some (exo a C (some d)) ∧ H2 d = some (exd d fs) ∧ Q (.ref a) (upd (upd H2 a (exV a C d)) d (.xd fs))) (fun _ _ _ => False)
def tXnew (C : Addr) (sp : Sp) (t : TA) : TE := fun σ H Q => t σ H fun vs H1 => vs.length ≤ 1000 ∧ XNew C sp vs H1 Q
theorem pe_xnew (T : Xc X.K C) (iC : PySem.W.findIn X.K (.ref C) "__init__" = some (some (.ref fI))) (tI : PySem.W.typeIn X.K (.ref fI) = some (.type "function"))
    (F1 : FnOk X.prog X.w X.K X.mg X.base CX k fI fd ps sp) (hr : Room (k + 1) X.A) (hbd : Binds X.K fd ps []) (hx : Passes CX X (fun _ _ _ => False)) (hg : Gl X x) (hm : X.mg x = some (.ref C)) (ha : PA X (e :: es) t)
    (hdb : (x == ("__debug__" : Str)) = false := by decide) (he : starEach (e :: es) X.env = (false, eval e X.env) :: starEach es X.env := by rfl) (hpl : (backTo pos (starEach es X.env)).any (·.1) = false := by rfl) :
    PE X (.Call (.Name x p) (e :: es) [] pos) (tXnew C sp t) := by
  refine ⟨fun pins s σ H Q I h => ?_⟩
  refine wpAny_Call_Name_kw (ld_glob I hg hm ?_ hdb)
  refine PySem.W.callWith_K (h₀ := X.base) I.ok.mod.kin T.kC (thn (ha.run pos pins s σ H _ I h) fun us s1 ⟨vs, H1, I1, r1, hz, q1⟩ => ⟨I1.kIn, ?_⟩) he hpl
  have hl : ∀ a : Addr, (Value.ref a :: us).length = ps.length := fun a => by
    have e1 := F1.len _ _ _ _ (q1 s1.heap.objs.size (I1.hok.fresh (Nat.le_refl _)))
    rw [List.length_cons] at e1
    rw [List.length_cons, ← r1.length]
    exact e1
  exact run_xnew (us := us) T iC tI F1 hr hx (by rw [← r1.length, sizeLine_eq]; omega) (fun s a kin => by
    have z := hbd s (Value.ref a :: us) kin (by rw [List.append_nil]; exact hl a)
    rw [List.append_nil] at z
    exact z) I1 r1 q1
/-- C(k = v, ..): one | two keywords, in the parameters' order pe -/
def tXnewK (C : Addr) (sp : Sp) (n : Nat) (gV : List V → List V) (tk : TA) : TE := fun σ H Q => tk σ H fun zs H1 => zs.length = n ∧ XNew C sp (gV zs) H1 Q
theorem pe_xnewK {ks : List Str} {g : List Value → List Value} {gV : List V → List V} (T : Xc X.K C) (iC : PySem.W.findIn X.K (.ref C) "__init__" = some (some (.ref fI))) (tI : PySem.W.typeIn X.K (.ref fI) = some (.type "function"))
    (F1 : FnOk X.prog X.w X.K X.mg X.base CX k fI fd ps sp) (hr : Room (k + 1) X.A) (hbd : ∀ (s : Shared) (a : Addr) (ws : List Value), X.K.In s.heap → ws.length = ks.length → BindsTo s fd ⟨[Value.ref a], ks.zip ws⟩ (ps.zip (Value.ref a :: g ws)))
    (rel : ∀ {zs : List V} {ws : List Value}, Vals zs ws → Vals (gV zs) (g ws)) (hx : Passes CX X (fun _ _ _ => False)) (hg : Gl X x) (hm : X.mg x = some (.ref C)) (hkw : PK X kws tk)
    (hall : (backToKw pos (keywordEach kws X.env)).all (·.1.isSome) = true := by rfl) (hks : (backToKw pos (keywordEach kws X.env)).filterMap (·.1) = ks := by rfl) (hdb : (x == ("__debug__" : Str)) = false := by decide)
    (hpl : ((backTo pos (starEach [] X.env)).any (·.1) || (backToKw pos (keywordEach kws X.env)).any (·.1.isNone)) = false := by rfl) :
    PE X (.Call (.Name x p) [] kws pos) (tXnewK C sp ks.length gV tk) := by
  refine ⟨fun pins s σ H Q I h => ?_⟩
  refine wpAny_Call_Name_kw (ld_glob I hg hm ?_ hdb)
  refine PySem.W.callWith_KW0 (h₀ := X.base) I.ok.mod.kin T.kC hall ?_ hpl
  refine thn (hkw.run pos pins s σ H _ I h) fun ws s2 ⟨zs, H2, I2, rz, l2, q2⟩ => ⟨I2.kIn, ?_⟩
  rw [hks]
  exact run_xnew (us := []) T iC tI F1 hr hx (Nat.zero_le _) (fun s a kin => hbd s a ws kin (by rw [← rz.length]; exact l2)) I2 (rel rz) q2
end
/-! ### what the written part says, by one look -/
def xcB (K : PySem.W.Frag) (C : Addr) (bmB : List Value) (newId : String) : Bool :=
  PySem.W.excInitIn K C bmB newId && (PySem.W.hasDictIn K C && (decide (PySem.W.findIn K (.ref C) "__setattr__" = some (some (.builtin "object.__setattr__"))) && (decide (PySem.W.findIn K (.ref C) "__getattribute__" = some (some (.builtin "BaseException.__getattribute__"))) &&
  (decide (PySem.W.findIn K (.ref C) "__getattr__" = some none) && (decide (PySem.W.subIn K (.ref C) (.type "BaseException") = some true) && (decide (PySem.W.typeIn K (.ref C) = some (.type "type")) && (PySem.W.keepIn K (.ref C) &&
  (decide (PySem.W.findIn K (.ref C) "__class__" = some (some (.builtin "object.__class__"))) && (decide (PySem.W.specialIn K (.builtin "object.__class__") "__get__" = some (some (.builtin "getset_descriptor.__get__"))) &&
  (decide (PySem.W.takesIn K (.builtin "object.__class__") = some true) && decide (PySem.W.mroIn K C (.type "object") = some true)))))))))))
theorem band {a b : Bool} (h : (a && b) = true) : a = true ∧ b = true := Bool.and_eq_true_iff.mp h
theorem xc_of {K : PySem.W.Frag} {C : Addr} {B newId initId : String} {bmB : List Value} (FB : ExcBaseFacts B newId initId bmB) (SF : StoreFacts B bmB "object.__setattr__" "object") (h : xcB K C bmB newId = true) : Xc K C := by
  obtain ⟨h1, h⟩ := band h
  obtain ⟨h2, h⟩ := band h
  obtain ⟨h3, h⟩ := band h
  obtain ⟨h4, h⟩ := band h
  obtain ⟨h5, h⟩ := band h
  obtain ⟨h6, h⟩ := band h
  obtain ⟨h7, h⟩ := band h
  obtain ⟨h8, h⟩ := band h
  obtain ⟨h9, h⟩ := band h
  obtain ⟨h10, h⟩ := band h
  obtain ⟨h11, h12⟩ := band h
  refine ⟨?_, of_decide_eq_true h3, of_decide_eq_true h4, of_decide_eq_true h5, of_decide_eq_true h6, of_decide_eq_true h7, h8, h2, of_decide_eq_true h9, of_decide_eq_true h10, of_decide_eq_true h11, of_decide_eq_true h12⟩
  obtain ⟨cd0, hc0, hd0⟩ := PySem.W.any_some h2
  unfold PySem.W.excInitIn at h1
  split at h1
  · rename_i dd cd sl ho
    split at h1
    · rename_i C' bm k0 k1 k2 k3 n k5 hm hs
      simp only [Bool.and_eq_true, beq_iff_eq, Bool.not_eq_true'] at h1
      obtain ⟨⟨⟨rfl, rfl⟩, hdel⟩, ht⟩ := h1
      have hcl : PySem.W.clsIn K C' = some cd := by unfold PySem.W.clsIn; rw [ho] <;> rfl
      rw [hcl] at hc0
      have ec := Option.some.inj hc0
      rw [← ec] at hd0
      obtain ⟨nm, bs, mro, ns, qn, hd, sn, sub, ab, col, del⟩ := cd
      dsimp only at hm hdel hd0
      subst hm hdel hd0
      have hsl : sl = #[k0, k1, k2, k3, some (.builtin n), k5] := by
        obtain ⟨l⟩ := sl
        simp only at hs
        rw [hs]
      subst hsl
      exact ⟨nm, qn, ns, bs, bm, sn, sub, ab, col, dd, k0, k1, k2, k3, k5, B, n, initId, bmB, ho, FB, ⟨ht, SF.passes, SF.hasOwner⟩⟩
    · cases h1
  · cases h1
/-- the three bases -/
abbrev bmVE : List Value := [.type "ValueError", .type "Exception", .type "BaseException", .type "object"]
abbrev bmRE : List Value := [.type "RuntimeError", .type "Exception", .type "BaseException", .type "object"]
abbrev bmLE : List Value := [.type "LookupError", .type "Exception", .type "BaseException", .type "object"]
theorem xc_VE {K : PySem.W.Frag} {C : Addr} (h : xcB K C bmVE "ValueError.__new__" = true) : Xc K C := xc_of PySem.F.excBase_ValueError PySem.F.store_ValueError h
theorem xc_RE {K : PySem.W.Frag} {C : Addr} (h : xcB K C bmRE "RuntimeError.__new__" = true) : Xc K C := xc_of PySem.F.excBase_RuntimeError PySem.F.store_RuntimeError h
theorem xc_LE {K : PySem.W.Frag} {C : Addr} (h : xcB K C bmLE "LookupError.__new__" = true) : Xc K C := xc_of PySem.F.excBase_LookupError PySem.F.store_LookupError h
end L2

set_option Elab.async false
set_option linter.all false
set_option maxRecDepth 100000
set_option maxHeartbeats 4000000
/-! VxE: list + list where the left one may be the script; the state that draws leave -/
namespace L2
open PySem PySem.Spec PyProof.Rows
section
variable {X : Cx}
def rCatS (K : PySem.W.Frag) : R2 := fun x y H Q => ∃ l b xs zs, x = .ref l ∧ y = .ref b ∧ SqL K H l xs ∧ SqL K H b zs ∧ xs.length + zs.length ≤ sizeLine ∧ ∀ p, H p = none → Q (.ref p) (upd H p (.lst (xs ++ zs)))
theorem op_catS : OpR X (binaryOp .Add) (rCatS X.K) := by
  intro pins s σ H x y v u Q I rx ry h
  obtain ⟨l, b, xs, zs, rfl, rfl, hH, hB, hz, q⟩ := h
  cases rx
  cases ry
  obtain ⟨its, r, ⟨o, n, e, e1, e2, e3⟩, z⟩ := I.list hH
  obtain ⟨its2, r2, ⟨o2, n2, f, f1, f2, f3⟩, z2⟩ := I.list hB
  obtain ⟨c, d, dt, sl⟩ := o
  obtain ⟨c2, d2, dt2, sl2⟩ := o2
  dsimp only at e1 e2 e3 f1 f2 f3
  subst e1 e2 e3 f1 f2 f3
  have ea : its.toArray ++ its2.toArray = (its ++ its2).toArray := by simp
  refine concat_meets ⟨_, e, rfl⟩ ⟨_, f, rfl⟩ noFill_list_add seq_list_add PySem.F.slot_list_add PySem.F.entry_list_add (PySem.F.args_list_add_2 _ _) (list_addW l b its.toArray its2.toArray n n2 none none sl sl2 (by rw [List.size_toArray, List.size_toArray, ← r.length, ← r2.length]; exact hz)) ⟨e, f, ?_⟩
  rw [ea]
  exact ⟨.ref _, _, I.lnew (t' := s.toks) (r.append r2) (by rw [List.length_append]; exact hz), rfl, q _ I.fresh⟩
end
/-! ### draws -/
abbrev kCells : Key := Sum.inr "cells"
abbrev kAt : Key := Sum.inr "at"
abbrev kLeft : Key := Sum.inr "left"
abbrev kUsed : Key := Sum.inr "used"
def drawKv (l : Addr) (a b c : Int) : List (Key × V) := [(kCells, .ref l), (kAt, .int a), (kLeft, .int b), (kUsed, .int c)]
theorem dk_cells {l : Addr} {a b c : Int} : valV (drawKv l a b c) kCells = some (.ref l) := by kernel_rfl
theorem dk_at {l : Addr} {a b c : Int} : valV (drawKv l a b c) kAt = some (.int a) := by kernel_rfl
theorem dk_left {l : Addr} {a b c : Int} : valV (drawKv l a b c) kLeft = some (.int b) := by kernel_rfl
theorem dk_used {l : Addr} {a b c : Int} : valV (drawKv l a b c) kUsed = some (.int c) := by kernel_rfl
theorem dp_at {l : Addr} {a b c z : Int} : putK (drawKv l a b c) kAt (.int z) = drawKv l z b c := by kernel_rfl
theorem dp_left {l : Addr} {a b c z : Int} : putK (drawKv l a b c) kLeft (.int z) = drawKv l a z c := by kernel_rfl
theorem dp_used {l : Addr} {a b c z : Int} : putK (drawKv l a b c) kUsed (.int z) = drawKv l a b z := by kernel_rfl
/-- at p: the dict that the draws go on with; at most N draws are behind it -/
def DrawAt (H : Hp) (p : Addr) (N : Nat) : Prop := ∃ (l : Addr) (cs : List Int) (a b c : Int), H p = some (.dK (drawKv l a b c)) ∧ H l = some (.lst (cs.map V.int)) ∧ 0 < cs.length ∧ cs.length ≤ 64 ∧ 0 ≤ a ∧ a ≤ N ∧ 0 ≤ b ∧ 0 ≤ c ∧ c ≤ N
/-- all that was tracked but p stands -/
def Keep (p : Addr) (H H' : Hp) : Prop := ∀ c o, H c = some o → c ≠ p → H' c = some o
theorem Keep.refl {p : Addr} {H : Hp} : Keep p H H := fun _ _ e _ => e
theorem Keep.trans {p : Addr} {H H1 H2 : Hp} (a : Keep p H H1) (b : Keep p H1 H2) : Keep p H H2 := fun c o e n => b c o (a c o e n) n
theorem Keep.of {p : Addr} {H H' : Hp} (s : Same H H') : Keep p H H' := fun c o e _ => s c o e
theorem Keep.upd {p : Addr} {H : Hp} {o : HO} : Keep p H (upd H p o) := fun c o e n => by rw [upd_ne n]; exact e
theorem same_new {H : Hp} {p : Addr} {o : HO} (h : H p = none) : Same H (upd H p o) := fun c u e => by rw [upd_ne (ne_of_none e h)]; exact e
theorem DrawAt.same {H H' : Hp} {p : Addr} {N : Nat} (d : DrawAt H p N) (s : Same H H') : DrawAt H' p N := by
  obtain ⟨l, cs, a, b, c, h1, h2, r⟩ := d
  exact ⟨l, cs, a, b, c, s _ _ h1, s _ _ h2, r⟩
theorem DrawAt.ne {H : Hp} {p : Addr} {N : Nat} (d : DrawAt H p N) {q : Addr} {o : HO} (h : H q = some o) (n : ∀ kvs, o ≠ .dK kvs) : q ≠ p := by
  obtain ⟨l, cs, a, b, c, h1, _⟩ := d
  exact ne_of h h1 (n _)
theorem DrawAt.mono {H : Hp} {p : Addr} {N M : Nat} (d : DrawAt H p N) (h : N ≤ M) : DrawAt H p M := by
  obtain ⟨l, cs, a, b, c, h1, h2, r1, r2, r3, r4, r5, r6, r7⟩ := d
  exact ⟨l, cs, a, b, c, h1, h2, r1, r2, r3, by omega, r5, r6, by omega⟩
/-- the promises of the three defs -/
def spBegin (K : PySem.W.Frag) : Sp := fun vs H Q _ => ∃ (a : Addr) (ns : List Int), vs = [.ref a] ∧ SqL K H a (ns.map V.int) ∧ ns.length ≤ 63 ∧ ∀ p H', H p = none → Same H H' → DrawAt H' p 0 → Q (.ref p) H'
def spMixed : Sp := fun vs H Q _ => ∃ c k : Int, vs = [.int c, .int k] ∧ 0 ≤ k ∧ k < 1099511627776 ∧ ∀ r : Int, 0 ≤ r → r < 2147483648 → Q (.int r) H
def spNext : Sp := fun vs H Q _ => ∃ (p : Addr) (b : Int) (N : Nat), vs = [.ref p, .int b] ∧ DrawAt H p N ∧ N < 1000000000 ∧ 0 < b ∧ b < 1073741824 ∧ ∀ (r : Int) (H' : Hp), 0 ≤ r → r < b → DrawAt H' p (N + 1) → Keep p H H' → Q (.int r) H'
/-! ### facts behind the top: the facts of HeadHook2 and one look more -/
end L2
namespace He
open PySem PySem.Spec PyProof.Rows L2
def hookX (n : Nat) (fa : List Fa) (fn : List DefD) (chk : PySem.W.Frag → Bool) : PySem.W.Hook where
  α := AlD × Bool
  obs := fun s => (obsD fa fn (frG s.heap.get? (asD s.heap.get? n)), chk (frG s.heap.get? (asD s.heap.get? n)))
  val := fun _ => (valD fn, true)
  says := fun _ h => ∃ K : PySem.W.Frag, K.In h ∧ SaysD fa fn K ∧ chk K = true
  of := fun _ _ e => ⟨_, frG_in, congrArg Prod.fst e, congrArg Prod.snd e⟩
  keeps := fun _ _ _ ⟨K, hK, c⟩ k => ⟨K, PySem.W.Frag.In.keeps hK k, c⟩
def obsX (n : Nat) (fa : List Fa) (fn : List DefD) (chk : PySem.W.Frag → Bool) (g : Addr → Option Obj) : AlD × Bool := (obsD fa fn (frG g (asD g n)), chk (frG g (asD g n)))
theorem obsX_eq {n : Nat} {fa : List Fa} {fn : List DefD} {chk : PySem.W.Frag → Bool} {g : Addr → Option Obj} {s : Shared} (h : ∀ a, g a = s.heap.get? a) : obsX n fa fn chk g = (hookX n fa fn chk).obs s := by
  have e : g = s.heap.get? := funext h
  rw [e] <;> rfl
end He

set_option Elab.async false
set_option linter.all false
set_option maxRecDepth 100000
set_option maxHeartbeats 4000000
/-! VxG: defs that are promised where nothing is being shown (no repr runs): FnG; their bodies, their calls; a law's end over them. -/
namespace L2
open PySem PySem.Spec PyProof.Rows
structure FnG (P : Program) (w : World) (K : PySem.W.Frag) (mg : Str → Option Value) (base : Heap) (CX : CXT) (k : Nat) (f : Addr) (fd : FuncData) (ps : List Str) (sp : Sp) : Prop where
  len : ∀ vs H Q E, sp vs H Q E → vs.length = ps.length
  run : ∀ (A : Around), A.guards = some [] → Room k A → ∀ (outer : List Env) (s : Shared) (H : Hp) (args : Args) (us : List Value) (vs : List V) (Q : VK) (E : XK), Env0 P w K mg base A outer s H → BindsTo s fd args (ps.zip us) → Vals vs us → sp vs H Q E →
    codeAny (model P w) A (.call (.ref f) args) (CR CX outer P w H s Q E) s
section
variable {P : Program} {w : World} {K : PySem.W.Frag} {mg : Str → Option Value} {base : Heap} {CX : CXT} {k : Nat} {f : Addr} {fd : FuncData} {N ps : List Str} {sp : Sp}
theorem FnOk.g (F : FnOk P w K mg base CX k f fd ps sp) : FnG P w K mg base CX k f fd ps sp := ⟨F.len, fun A _ hr outer s H args us vs Q E => F.run A outer s H args us vs Q E hr⟩
/-- such a def, by its body -/
theorem FunD.okG {x qual : Str} {params : Arguments} {body : List Stmt} {scope : Scope} {dvs : List V} {kws : List (Str × V)} (F : FunD K x qual params body scope dvs kws f fd) (S : FnScope N ps scope) (len : ∀ vs H Q E, sp vs H Q E → vs.length = ps.length)
    (hbody : ∀ (cdv : Value) (A : Around) (outer : List Env) (s : Shared) (H : Hp) (vs : List V) (Q : VK) (E : XK), (A.deeper (envOfC qual scope s.heap.objs.size f cdv)).guards = some [] → Room k (A.deeper (envOfC qual scope s.heap.objs.size f cdv)) → sp vs H Q E →
      ∃ t, PSs (cxOf CX P w K mg base N qual scope f cdv A outer s H E) body t ∧ t { nx := fun _ H' => Q .non H', rt := Q } (start N vs) H) : FnG P w K mg base CX (k + 1) f fd ps sp := by
  obtain ⟨oc, od, dV, kV, doc, pm, an, cdv, ct, osl, rfl, lk, hcd, _, _⟩ := F.ex
  refine ⟨len, fun A hgu hr outer s H args us vs Q E e0 hb r hsp => ?_⟩
  have kin : K.In s.heap := e0.mod.kin.keeps fun b o e => (e0.bs b o e).1
  have par : ∀ y ∈ ps.zip us, scope.names.lookup y.1 = some .local ∨ (scope.names.lookup y.1 = some .cell ∧ ((cellsFrom (s.heap.objs.size + 1) scope.names []).lookup y.1).isSome = true) := by
    intro y hy
    obtain ⟨n, v⟩ := y
    exact (S.par n (List.of_mem_zip hy).1).imp id fun q => ⟨q, PySem.W.cellsFrom_some _ _ _ (.inl q)⟩
  refine codeAny_call_function hr.depth (kin _ _ lk) rfl S.co S.gen rfl (PySem.W.codeRec_of kin hcd) (hb _ _ _ _ (wpAny_newFunctionEnv_cells S.kind par fun env he s1 x => ?_))
  subst he
  refine ⟨(e0.mod.nolimit.keeps fun b o e => (e0.bs b o e).1).keeps x.toInCall.keep, codeAny_func ?_⟩
  obtain ⟨t, ht, hq⟩ := hbody cdv A outer s H vs Q E hgu (hr.deeper _) hsp
  refine wpAny_mono (ht.run [] s1 (start N vs) H _ (inv_start S hr.hd e0 (len _ _ _ _ hsp) r x) hq) (fun fl s' hs => ?_) fun _ _ hs => hs
  cases fl with
  | ret u =>
    obtain ⟨v, _, H', J, rv, q⟩ := hs
    exact ⟨v, H', J.os, J.bare, J.base, J.hok, rv, q⟩
  | next =>
    obtain ⟨_, H', J, q⟩ := hs
    exact ⟨V.non, H', J.os, J.bare, J.base, J.hok, rfl, q⟩
  | brk => exact hs.elim fun _ z => z.elim fun _ z => z.2.elim
  | cont => exact hs.elim fun _ z => z.elim fun _ z => z.2.elim
end
section
variable {X : Cx} {CX : CXT} {k : Nat} {f : Addr} {fd : FuncData} {ps : List Str} {sp : Sp} {dvs : List V} {ds : List Value} {E : XK} {x : Str} {p pos : Pos} {e : Expr} {es : List Expr} {t : TA}
/-- f(e, ..) -/
theorem pe_callG (hgu : X.A.guards = some []) (F : FnG X.prog X.w X.K X.mg X.base CX k f fd ps sp) (hr : Room k X.A) (hg : Gl X x) (hm : X.mg x = some (.ref f)) (hk : PySem.W.keepIn X.K (.ref f) = true) (hb : Binds X.K fd ps ds) (hd : Vals dvs ds) (hx : Passes CX X E)
    (ha : PA X (e :: es) t) (hdb : (x == ("__debug__" : Str)) = false := by decide) (he : starEach (e :: es) X.env = (false, eval e X.env) :: starEach es X.env := by rfl) (hpl : (backTo pos (starEach es X.env)).any (·.1) = false := by rfl) :
    PE X (.Call (.Name x p) (e :: es) [] pos) (tCall sp dvs E t) := by
  refine ⟨fun pins s σ H Q I h => wpAny_Call_Name_kw (ld_glob I hg hm (PySem.W.callWith_K (h₀ := X.base) I.ok.mod.kin hk (thn (ha.run pos pins s σ H _ I h) fun us s1 z => ?_) he hpl) hdb)⟩
  obtain ⟨vs, H1, I1, r, q⟩ := z
  have r2 : Vals (vs ++ dvs) (us ++ ds) := r.append hd
  refine ⟨I1.kIn, wpAny_call (codeAny_mono (F.run X.A hgu hr X.stack s1 H1 ⟨us, []⟩ (us ++ ds) (vs ++ dvs) Q E I1.env0 (hb s1 us I1.kIn (r2.length.symm.trans (F.len _ _ _ _ q))) r2 q) fun rs s' hq => ?_)⟩
  cases rs with
  | error er => exact hx pins σ H1 s1 er s' I1 hq
  | ok fl =>
    cases fl with
    | ret u => exact I1.after hq
    | next => exact hq.elim
    | brk => exact hq.elim
    | cont => exact hq.elim
end
/-- the script, tracked as the list that it is -/
def onlyAt (a : Addr) (o : Obj) (xs : List V) : Hp := fun b => if b = a then some (.frz o (.lst xs)) else none
/-- a law's end: its def is promised where nothing is being shown -/
theorem law_callG {P : Program} {w : World} {K : PySem.W.Frag} {mg mb : Str → Option Value} {k : Nat} {fa a : Addr} {fd : FuncData} {x : Str} {sp : Sp} {s₁ : Shared} {vs : List Value} {ns : List Int}
    (kin : K.In s₁.heap) (hns : s₁.heap.Ns mainGlobals mg) (hb : s₁.heap.Ns builtinsNs mb) (hbb : ∀ x : Str, x ≠ "__name__" → mb x = bootBuiltins x) (hlim : s₁.heap.NoLimit) (hg : s₁.gens = #[])
    (ha : s₁.heap.get? a = some { cls := .type "list", data := .seq vs.toArray }) (hi : IntsAre vs ns) (hl : ns.length ≤ sizeLine) (hr : Room k callerA)
    (F : ∀ base : Heap, K.In base → base.Ns mainGlobals mg → FnG P w K mg base CX0 k fa fd [x] sp) (hbind : ∀ (s : Shared) (u : Value), BindsTo s fd ⟨[u], []⟩ [(x, u)])
    (hsp : ∀ H : Hp, Only H → SqL K H a (ns.map V.int) → sp [.ref a] H (fun v _ => v = .bl true) fun _ _ _ => False) :
    codeAny (model P w) callerA (.call (.ref fa) ⟨[.ref a], []⟩) (fun r s' => r = .ok (.ret (.bool true)) ∧ OldK s₁.heap s'.heap ∧ s'.os = s₁.os ∧ AllBare s'.gens) s₁ := by
  have rv : Vals (ns.map V.int) vs := vals_ints hi
  have key : ∀ H : Hp, Only H → SqL K H a (ns.map V.int) → HOk P w H s₁.heap → (∀ b, H b ≠ none → b = a) → (H a ≠ none → K.lookup a = none) →
      codeAny (model P w) callerA (.call (.ref fa) ⟨[.ref a], []⟩) (fun r s' => r = .ok (.ret (.bool true)) ∧ OldK s₁.heap s'.heap ∧ s'.os = s₁.os ∧ AllBare s'.gens) s₁ := by
    intro H hO hS hok only hK
    have free : ∀ b, b ≠ a → H b = none := fun b nb => by
      cases q : H b with
      | none => rfl
      | some u => exact absurd (only b (by rw [q]; exact fun z => nomatch z)) nb
    have dictNe : ∀ {b : Addr} {o : Obj} {es : Array DictEntry} {ep : Nat}, s₁.heap.get? b = some o → o.data = .dict es ep → b ≠ a := fun {b o es ep} e d z => by
      rw [z, ha] at e
      have eo := Option.some.inj e
      rw [← eo] at d
      exact nomatch (show Data.seq vs.toArray _ = Data.dict es ep from d)
    have nsK : ∀ {b : Addr} {m : Str → Option Value}, s₁.heap.Ns b m → (hidT s₁.heap H).Ns b m := fun {b m} z => by
      obtain ⟨o, es, ep, e, d, r⟩ := z
      exact ⟨o, es, ep, hidT_get e (free b (dictNe e d)), d, r⟩
    have kinB : K.In (hidT s₁.heap H) := fun b o e => hidT_get (kin b o e) (by
      by_cases nb : b = a
      · cases q : H b with
        | none => rfl
        | some u =>
          have z := hK (by rw [← nb, q]; exact fun z => nomatch z)
          rw [← nb, e] at z
          cases z
      · exact free b nb)
    have md : Mod K mg (hidT s₁.heap H) := ⟨kinB, nsK hns, ⟨mb, nsK hb, hbb⟩, by
      obtain ⟨mc, h1, h2⟩ := hlim
      exact ⟨mc, nsK h1, h2⟩⟩
    have e0 : Env0 P w K mg (hidT s₁.heap H) callerA [] s₁ H := ⟨rfl, md, fun b o e => of_hidT e, Nat.le_of_eq (hidT_size _ _), trivial, fun b z => (List.not_mem_nil z).elim, hok, .of_eq hg⟩
    refine codeAny_mono ((F _ kinB (nsK hns)).run callerA rfl hr [] s₁ H ⟨[.ref a], []⟩ [.ref a] [.ref a] _ _ e0 (hbind s₁ (.ref a)) (.cons rfl .nil) (hsp H hO hS)) fun r s' h => ?_
    cases r with
    | error e => exact False.elim h
    | ok fl =>
      cases fl with
      | next => exact False.elim h
      | brk => exact False.elim h
      | cont => exact False.elim h
      | ret u =>
        obtain ⟨v, H', os, bare, un, hok', r', q⟩ := h
        have ev : v = .bl true := q
        rw [ev] at r'
        have eu : u = Value.bool true := r'
        rw [eu]
        refine ⟨rfl, OldK.of_keep fun b o e => ?_, os, bare⟩
        rcases hO b with z | ⟨ob, xs, z⟩
        · exact un.keep b o e z (fun y => (List.not_mem_nil y).elim) (fun y => (List.not_mem_nil y).elim)
        · have e1 := (hok b _ z).1
          have e2 := (hok' b _ (un.frzs b ob _ z)).1
          rw [e] at e1
          rw [Option.some.inj e1]
          exact e2
  cases hk : K.lookup a with
  | some o =>
    have e := kin a o hk
    rw [ha] at e
    have eo := Option.some.inj e
    refine key (fun _ => none) (fun _ => .inl rfl) (.inr ⟨o, vs.toArray, _, hk, by rw [← eo], by rw [← eo], by rw [← eo], by rw [List.size_toArray, hi.length]; exact hl, by simpa using rv⟩) (fun b u z => nomatch (show (none : Option HO) = some u from z)) (fun b z => absurd rfl z) fun z => absurd rfl z
  | none =>
    have at_ : onlyAt a { cls := .type "list", data := .seq vs.toArray } (ns.map V.int) a = some (.frz { cls := .type "list", data := .seq vs.toArray } (.lst (ns.map V.int))) := if_pos rfl
    have off : ∀ b, b ≠ a → onlyAt a { cls := .type "list", data := .seq vs.toArray } (ns.map V.int) b = none := fun b nb => if_neg nb
    refine key (onlyAt a { cls := .type "list", data := .seq vs.toArray } (ns.map V.int)) (fun b => ?_) (.inl (.inr ⟨_, at_⟩)) (fun b u z => ?_) (fun b z => ?_) fun _ => hk
    · by_cases nb : b = a
      · exact .inr ⟨_, _, by rw [nb]; exact at_⟩
      · exact .inl (off b nb)
    · by_cases nb : b = a
      · subst nb
        rw [at_] at z
        have ez := Option.some.inj z
        subst ez
        exact ⟨ha, by rw [List.length_map]; exact hl, vs, _, rv, ha⟩
      · rw [off b nb] at z
        cases z
    · by_cases nb : b = a
      · exact nb
      · exact absurd (off b nb) z
theorem walk_ofG {l : PySem.W.OpenLaw} {n k : Nat} {q : Program} {loose : List Str} {XP : (Str → Option Value) → Heap → Prop} {YP : World → Heap → Prop} {d : DefRec} {x : Str}
    (hn : l.most = some n) (hn2 : n ≤ sizeLine) (hdf : d.params.defaults = []) (hr : Room k callerA)
    (F : ∀ (w : World) (mg : Str → Option Value) (fa : Addr) (h : Heap), YP w h → h.Ns mainGlobals mg → mg d.name = some (.ref fa) →
      ∃ (K : PySem.W.Frag) (fd : FuncData) (sp : Sp), K.In h ∧ (∀ (s : Shared) (u : Value), BindsTo s fd ⟨[u], []⟩ [(x, u)]) ∧
        (∀ (H : Hp) (a : Addr) (ns : List Int), ns.length ≤ n → Only H → SqL K H a (ns.map V.int) → sp [.ref a] H (fun v _ => v = .bl true) fun _ _ _ => False) ∧
        ∀ base : Heap, K.In base → base.Ns mainGlobals mg → FnG l.prog w K mg base CX0 k fa fd [x] sp) :
    PySem.W.WalkO q loose XP YP l.row.toRowW d [] (fun f vs => PySem.call f vs) :=
  Att.attach_call hn hdf fun w s₀ s₁ mg mb fa o pm cd doc a vs ns G Y ho hd hcd hmg hobj hints hlen hg => by
    obtain ⟨K, fd, sp, kin, hb, hsp, hF⟩ := F w mg fa _ Y G.T.g hmg
    exact law_callG kin G.T.g G.T.b G.T.builtins G.T.nolimit hg hobj hints (Nat.le_trans hlen hn2) hr hF hb fun H hO hS => hsp H a ns hlen hO hS
/-! ### repr -/
/-- what a value says of itself: None, bools, ints, texts, lists, tuples of these, an empty dict -/
inductive Sw (K : PySem.W.Frag) (H : Hp) : V → PyData → Prop
  | non : Sw K H .non .none
  | bl (b : Bool) : Sw K H (.bl b) (.bool b)
  | int (i : Int) : Sw K H (.int i) (.int i)
  | str (x : Str) : Sw K H (.str x) (.str x)
  | emp {a : Addr} : H a = some (.dK []) → Sw K H (.ref a) (.dict [])
end L2

set_option Elab.async false
set_option linter.all false
set_option maxRecDepth 100000
set_option maxHeartbeats 4000000
/-! VxR: repr of values that are data: None, bools, ints, texts, lists and tuples of these, dicts of no or one entry. -/
namespace L2
open PySem PySem.Spec PyProof.Rows
/-- the written part holds sys.modules, which is a dict -/
def SysK (K : PySem.W.Frag) : Prop := ∃ (o : Obj) (es : Array DictEntry) (n : Nat), K.lookup sysModules = some o ∧ o.data = .dict es n
def sysB (K : PySem.W.Frag) : Bool := match K.lookup sysModules with
  | some ⟨_, _, .dict _ _, _⟩ => true
  | _ => false
theorem sys_of {K : PySem.W.Frag} (h : sysB K = true) : SysK K := by
  unfold sysB at h
  split at h
  · rename_i es n sl e
    exact ⟨_, _, _, e, rfl⟩
  · cases h
def keyD : Key → PyData
  | .inl i => .int i
  | .inr x => .str x
mutual
inductive Sd (K : PySem.W.Frag) (H : Hp) : V → PyData → Prop
  | non : Sd K H .non .none
  | bl (b : Bool) : Sd K H (.bl b) (.bool b)
  | int (i : Int) : Sd K H (.int i) (.int i)
  | str (x : Str) : Sd K H (.str x) (.str x)
  | lst {a : Addr} {xs : List V} {ds : List PyData} : SqL K H a xs → SdAll K H xs ds → Sd K H (.ref a) (.list ds)
  | tup {a : Addr} {xs : List V} {ds : List PyData} : SqT K H a xs → SdAll K H xs ds → Sd K H (.ref a) (.tuple ds)
  | emp {a : Addr} : H a = some (.dK []) → Sd K H (.ref a) (.dict [])
  | one {a : Addr} {k : Key} {v : V} {d : PyData} : H a = some (.dK [(k, v)]) → Sd K H v d → Sd K H (.ref a) (.dict [(keyD k, d)])
inductive SdAll (K : PySem.W.Frag) (H : Hp) : List V → List PyData → Prop
  | nil : SdAll K H [] []
  | cons {v : V} {vs : List V} {d : PyData} {ds : List PyData} : Sd K H v d → SdAll K H vs ds → SdAll K H (v :: vs) (d :: ds)
end
section
variable {K : PySem.W.Frag} {H H' : Hp}
theorem SqL.same' {a : Addr} {xs : List V} (s : Same H H') (h : SqL K H a xs) : SqL K H' a xs := s.seq h
mutual
theorem Sd.same (s : Same H H') (st : ∀ {a : Addr} {xs : List V}, SqT K H a xs → SqT K H' a xs) : ∀ {v : V} {d : PyData}, Sd K H v d → Sd K H' v d
  | _, _, .non => .non
  | _, _, .bl b => .bl b
  | _, _, .int i => .int i
  | _, _, .str x => .str x
  | _, _, .lst h a => .lst (s.seq h) (SdAll.same s st a)
  | _, _, .tup h a => .tup (st h) (SdAll.same s st a)
  | _, _, .emp h => .emp (s _ _ h)
  | _, _, .one h a => .one (s _ _ h) (Sd.same s st a)
theorem SdAll.same (s : Same H H') (st : ∀ {a : Addr} {xs : List V}, SqT K H a xs → SqT K H' a xs) : ∀ {vs : List V} {ds : List PyData}, SdAll K H vs ds → SdAll K H' vs ds
  | _, _, .nil => .nil
  | _, _, .cons h a => .cons (Sd.same s st h) (SdAll.same s st a)
end
end
section
variable {X : Cx} {pins : List (Addr × Obj)} {σ : St} {H : Hp} {s : Shared}
theorem sys_free (S : SysK X.K) (I : Inv X pins σ H s) : H sysModules = none := by
  obtain ⟨o, es, n, hk, _⟩ := S
  exact (I.bs _ _ (I.ok.mod.kin _ _ hk)).2
theorem sys_list (S : SysK X.K) (I : Inv X pins σ H s) {a : Addr} {o : Obj} {its : Array Value} {n : Nat} (e : s.heap.get? a = some o) (d : o.data = .seq its n) : a ≠ sysModules := by
  obtain ⟨o2, es, n2, hk, hd⟩ := S
  intro z
  rw [z, I.kIn _ _ hk] at e
  rw [← Option.some.inj e, hd] at d
  cases d
mutual
theorem Sd.reads (S : SysK X.K) (I : Inv X pins σ H s) : ∀ (d : PyData) (v : V) (u : Value), Sd X.K H v d → RelV v u → ∃ as, Reads s.heap u d as ∧ sysModules ∉ as
  | .none, _, _, h, r => by
    cases h
    cases r
    exact ⟨_, Reads.none, List.not_mem_nil⟩
  | .bool b, _, _, h, r => by
    cases h
    cases r
    exact ⟨_, Reads.bool b, List.not_mem_nil⟩
  | .int i, _, _, h, r => by
    cases h
    obtain ⟨t, rfl⟩ := r
    exact ⟨_, Reads.int i t, List.not_mem_nil⟩
  | .str x, _, _, h, r => by
    cases h
    obtain ⟨t, rfl⟩ := r
    exact ⟨_, Reads.str x t, List.not_mem_nil⟩
  | .list ds, _, _, h, r => by
    cases h with
    | lst hs ha =>
      cases r
      obtain ⟨its, rv, ⟨o, n, ho, hc, _, hd⟩, _⟩ := I.list hs
      obtain ⟨as, hr, hn⟩ := SdAll.reads S I ds _ its ha rv
      exact ⟨_, Reads.list ho hc hd hr, fun m => (List.mem_cons.mp m).elim (fun z => sys_list S I ho hd z.symm) hn⟩
  | .tuple ds, _, _, h, r => by
    cases h with
    | tup hs ha =>
      cases r
      obtain ⟨its, rv, ⟨o, ho, hc, n, hd⟩, _⟩ := I.tuple hs
      obtain ⟨as, hr, hn⟩ := SdAll.reads S I ds _ its ha rv
      exact ⟨_, Reads.tuple ho hc hd hr, hn⟩
  | .dict [], _, _, h, r => by
    cases h with
    | emp ha =>
      cases r
      obtain ⟨_, hsy, vs, kv, o, es, ep, ho, hx, hd, _, hp, _⟩ := I.hok _ _ ha
      cases kv
      have e0 : es.toList = [] := by
        generalize es.toList = l at hp
        cases hp
        rfl
      exact ⟨_, Reads.dict ho hx.1 hd (by rw [e0]; exact .nil) (by rw [e0]; exact .nil), fun m => by
        rcases List.mem_append.mp m with m | m
        · rcases List.mem_cons.mp m with z | z
          · rw [z] at hsy
            simp at hsy
          · exact (List.not_mem_nil z)
        · exact (List.not_mem_nil m)⟩
  | .dict [(kd, d)], _, _, h, r => by
    cases h with
    | @one a k v _ ha hv =>
      cases r
      obtain ⟨_, hsy, vs, kv, o, es, ep, ho, hx, hd, _, hp, _⟩ := I.hok _ _ ha
      cases kv with
      | @cons _ q _ _ h1 h2 =>
        cases h2
        obtain ⟨e1, rv⟩ := h1
        obtain ⟨as, hr, hn⟩ := Sd.reads S I d v q.2 hv rv
        obtain ⟨en, ek, ev, e0⟩ : ∃ en : DictEntry, (mixKind X.prog X.w).is q.1 en.key = true ∧ en.val = q.2 ∧ es.toList = [en] := by
          generalize es.toList = l at hp
          cases hp with
          | cons a1 a2 a3 =>
            cases a3
            exact ⟨_, a1, a2, rfl⟩
        have hk : ∃ as, Reads s.heap en.key (keyD k) as ∧ as = [] := by
          have e1' : k = q.1 := e1
          rw [e1']
          rcases keyIs_shape (show keyIs q.1 en.key = true from ek) with ⟨i, t, z1, z2⟩ | ⟨x, t, z1, z2⟩
          · rw [z1, z2]
            exact ⟨_, Reads.int i t, rfl⟩
          · rw [z1, z2]
            exact ⟨_, Reads.str x t, rfl⟩
        obtain ⟨bs, hb, rfl⟩ := hk
        exact ⟨_, Reads.dict ho hx.1 hd (by rw [e0]; exact .cons hb .nil) (by rw [e0]; exact .cons (as := as) (by show Reads s.heap en.val d as; rw [ev]; exact hr) .nil), fun m => by
          rcases List.mem_append.mp m with m | m
          · rcases List.mem_cons.mp m with z | z
            · rw [z] at hsy
              simp at hsy
            · exact (List.not_mem_nil z)
          · rw [List.append_nil] at m
            exact hn m⟩
  | .dict (_ :: _ :: _), _, _, h, _ => by cases h
theorem SdAll.reads (S : SysK X.K) (I : Inv X pins σ H s) : ∀ (ds : List PyData) (vs : List V) (us : List Value), SdAll X.K H vs ds → Vals vs us → ∃ as, ReadsAll s.heap us ds as ∧ sysModules ∉ as
  | [], _, _, h, r => by
    cases h
    cases r
    exact ⟨_, ReadsAll.nil, List.not_mem_nil⟩
  | d :: ds, _, _, h, r => by
    cases h with
    | cons h1 h2 =>
      cases r with
      | cons r1 r2 =>
        obtain ⟨as, q1, n1⟩ := Sd.reads S I d _ _ h1 r1
        obtain ⟨bs, q2, n2⟩ := SdAll.reads S I ds _ _ h2 r2
        exact ⟨_, ReadsAll.cons q1 q2, fun m => (List.mem_append.mp m).elim n1 n2⟩
end
end
/-- repr(v) -/
def rRepr (K : PySem.W.Frag) : List V → Hp → VK → Prop := fun xs H Q => ∃ (v : V) (d : PyData), xs = [v] ∧ Sd K H v d ∧ d.showable = true ∧ d.depth ≤ 40 ∧ d.shown.length ≤ sizeLine ∧ Q (.str d.shown) H
theorem call_repr {X : Cx} {k : Nat} (hgu : X.A.guards = some []) (hr : Room k X.A) (S : SysK X.K) : CallR X (.builtin "repr") (rRepr X.K) := by
  intro pins s σ H xs us Q I r h
  obtain ⟨v, d, rfl, hv, hs, hd, hz, q⟩ := h
  obtain ⟨u, rfl, ru⟩ := vals1 r
  obtain ⟨as, hr1, hn⟩ := Sd.reads S I d v u hv ru
  have fin : ∀ (h' : Heap) (t tk : Nat), (∀ b o, s.heap.get? b = some o → h'.get? b = some o) → EP X pins σ Q (.str d.shown t) { s with heap := h', toks := tk } := fun h' t tk kp => ⟨.str d.shown, H, I.kept (t' := tk) kp, ⟨t, rfl⟩, q⟩
  have ref : ∀ a, u = .ref a → wpAny (model X.prog X.w) X.A (call (.builtin "repr") [u]) (EP X pins σ Q) X.xe s := fun a e => by
    subst e
    exact repr_of_reads' hr1 hs (fun _ => hn) hgu (by have := hr.un; omega) (fun _ _ e => e) (fun h' t tk kp => fin h' t tk kp) hz
  cases hr1 with
  | none =>
    have q' : Q (.str "None") H := by
      have z := q
      simp only [PyData.shown] at z
      exact z
    exact PySem.P.repr_of_none ⟨.str "None", H, I.tok _, ⟨_, rfl⟩, q'⟩
  | bool b =>
    have q' : Q (.str (if b then "True" else "False")) H := by
      have z := q
      simp only [PyData.shown] at z
      cases b <;> exact z
    cases b
    · exact PySem.P.repr_of_bool ⟨.str "False", H, I.tok _, ⟨_, rfl⟩, q'⟩
    · exact PySem.P.repr_of_bool ⟨.str "True", H, I.tok _, ⟨_, rfl⟩, q'⟩
  | int i t =>
    have q' : Q (.str (toString i)) H := by
      have z := q
      simp only [PyData.shown] at z
      exact z
    exact PySem.P.repr_of_int (by simpa [PyData.showable] using hs) ⟨.str (toString i), H, I.tok _, ⟨_, rfl⟩, q'⟩
  | str x t =>
    have q' : Q (.str (reprText x)) H := by
      have z := q
      simp only [PyData.shown] at z
      exact z
    exact PySem.P.repr_of_str ⟨.str (reprText x), H, I.tok _, ⟨_, rfl⟩, q'⟩ (by simpa only [PyData.shown] using hz)
  | list _ _ _ _ => exact ref _ rfl
  | tuple _ _ _ _ => exact ref _ rfl
  | dict _ _ _ _ _ => exact ref _ rfl
/-! ### a bound of what is shown -/
mutual
def wt : PyData → Nat
  | .none => 4
  | .bool _ => 5
  | .int _ => 1921
  | .str x => (reprText x).length
  | .list xs => wtAll xs + 2
  | .tuple xs => wtAll xs + 3
  | .dict kvs => wtKv kvs + 2
def wtAll : List PyData → Nat
  | [] => 0
  | x :: xs => wt x + 2 + wtAll xs
def wtKv : List (PyData × PyData) → Nat
  | [] => 0
  | (k, v) :: r => wt k + wt v + 4 + wtKv r
end
theorem listText_le (ts : List Str) : (listText ts).length ≤ piled ts + 2 := by
  cases ts with
  | nil => decide
  | cons t r =>
    have h1 : (listText (t :: r)).length = (textFrom 1 (("[" : Str) ++ (if (0 : Nat) > 0 then ", " else "" : String) ++ t) r).length + 1 := by
      show (textFrom 0 "[" (t :: r) ++ "]").length = _
      rw [strLen_append]
      rfl
    have h2 := textFrom_length_pos r 1 (("[" : Str) ++ (if (0 : Nat) > 0 then ", " else "" : String) ++ t) (Nat.succ_pos 0)
    have h3 : (("[" : Str) ++ (if (0 : Nat) > 0 then ", " else "" : String) ++ t).length = 1 + t.length := by
      rw [strLen_append, strLen_append]
      rfl
    rw [h1, h2, h3, piled_cons]
    omega
theorem join_le (ts : List Str) : (Str.join ", " ts).length ≤ piled ts := by
  by_cases h : ts = []
  · subst h
    decide
  · have := join_length_add ts h
    omega
theorem tupleText_le (ts : List Str) : (tupleText ts).length ≤ piled ts + 3 := by
  unfold tupleText
  rw [strLen_append, strLen_append]
  have e1 : ((("(" : String) : Str)).length = 1 := rfl
  have e3 : (((if ts.length == 1 then ",)" else ")" : String) : Str)).length ≤ 2 := by split <;> decide
  have := join_le ts
  omega
theorem dictText_le (ts : List Str) : (dictText ts).length ≤ piled ts + 2 := by
  unfold dictText
  rw [strLen_append, strLen_append]
  have e1 : ((("{" : String) : Str)).length = 1 := rfl
  have e2 : ((("}" : String) : Str)).length = 1 := rfl
  have := join_le ts
  omega
mutual
theorem shown_le : ∀ d : PyData, d.showable = true → d.shown.length ≤ wt d
  | .none, _ => by simp only [PyData.shown, wt]; decide
  | .bool b, _ => by cases b <;> simp only [PyData.shown, wt] <;> decide
  | .int i, h => by
    simp only [PyData.shown, wt]
    exact int_text_len_1921 (by simpa [PyData.showable] using h)
  | .str x, _ => by simp only [PyData.shown, wt]; exact Nat.le_refl _
  | .list xs, h => by
    simp only [PyData.shown, wt]
    have h1 := shownAll_le xs (by simpa [PyData.showable] using h)
    have := listText_le (PyData.shownAll xs)
    omega
  | .tuple xs, h => by
    simp only [PyData.shown, wt]
    have h1 := shownAll_le xs (by simpa [PyData.showable] using h)
    have := tupleText_le (PyData.shownAll xs)
    omega
  | .dict kvs, h => by
    simp only [PyData.shown, wt]
    have h1 := shownKv_le kvs (by simpa [PyData.showable] using h)
    have := dictText_le (PyData.shownKv kvs)
    omega
theorem shownAll_le : ∀ xs : List PyData, PyData.showableAll xs = true → piled (PyData.shownAll xs) ≤ wtAll xs
  | [], _ => by simp only [PyData.shownAll, wtAll]; decide
  | x :: xs, h => by
    have h' : x.showable = true ∧ PyData.showableAll xs = true := by simpa [PyData.showableAll] using h
    simp only [PyData.shownAll, wtAll]
    rw [piled_cons]
    have h1 := shown_le x h'.1
    have h2 := shownAll_le xs h'.2
    omega
theorem shownKv_le : ∀ kvs : List (PyData × PyData), PyData.showableKv kvs = true → piled (PyData.shownKv kvs) ≤ wtKv kvs
  | [], _ => by simp only [PyData.shownKv, wtKv]; decide
  | (k, v) :: r, h => by
    have h' : (k.showable = true ∧ v.showable = true) ∧ PyData.showableKv r = true := by simpa [PyData.showableKv] using h
    simp only [PyData.shownKv, wtKv]
    rw [piled_cons, strLen_append, strLen_append]
    have h1 := shown_le k h'.1.1
    have h2 := shown_le v h'.1.2
    have h3 := shownKv_le r h'.2
    have e : (((": " : String) : Str)).length = 2 := rfl
    omega
end
theorem shown_fits {d : PyData} (h : d.showable = true) (h2 : wt d ≤ sizeLine) : d.shown.length ≤ sizeLine := Nat.le_trans (shown_le d h) h2
end L2

set_option Elab.async false
set_option linter.all false
set_option maxRecDepth 100000
set_option maxHeartbeats 4000000
/-! VxX: the classes of errors of a program, each with an __init__ that stores its one or two fields; lists of new errors, lists of isinstance. -/
namespace L2
open PySem PySem.Spec PyProof.Rows
theorem PE.imp {X : Cx} {e : Expr} {t t' : TE} (h : PE X e t) (i : ∀ σ H Q, t' σ H Q → t σ H Q) : PE X e t' := ⟨fun pins s σ H Q I q => h.run pins s σ H Q I (i σ H Q q)⟩
theorem PA.imp {X : Cx} {es : List Expr} {t t' : TA} (h : PA X es t) (i : ∀ σ H Q, t' σ H Q → t σ H Q) : PA X es t' := ⟨fun pos pins s σ H Q I q => h.run pos pins s σ H Q I (i σ H Q q)⟩
theorem Same.refl' {H : Hp} : Same H H := fun _ _ e => e
theorem Same.tr {H H1 H2 : Hp} (a : Same H H1) (b : Same H1 H2) : Same H H2 := fun c o e => b c o (a c o e)
/-- self.f = v -/
def spIni (C : Addr) (f : Str) : Sp := fun vs H Q _ => ∃ (a : Addr) (v : V), vs = [.ref a, v] ∧ H a = some (exo a C none) ∧ ∀ dx, H dx = none → dx ≠ a → Q .non (upd (upd H dx (exd dx [(f, v)])) a (exo a C (some dx)))
/-- self.f = v; self.g = u -/
def spIni2 (C : Addr) (f g : Str) : Sp := fun vs H Q _ => ∃ (a : Addr) (v u : V), vs = [.ref a, v, u] ∧ H a = some (exo a C none) ∧ ∀ dx, H dx = none → dx ≠ a →
  Q .non (upd (upd (upd H dx (exd dx [(f, v)])) a (exo a C (some dx))) dx (exd dx [(g, u), (f, v)]))
theorem xnew1 {C : Addr} {f : Str} {v : V} {H : Hp} {Q : VK} (h : ∀ a H', H a = none → Same H H' → ExAt H' a C [(f, v)] → Q (.ref a) H') : XNew C (spIni C f) [v] H Q := fun a ha => by
  refine ⟨a, v, rfl, upd_same, fun dx n ne => ⟨rfl, dx, [(f, v)], upd_same, (by rw [upd_ne ne, upd_same]), ?_⟩⟩
  have hd : H dx = none := by rw [← n, upd_ne ne]
  refine h a _ ha (fun b o e => ?_) ⟨dx, ?_, upd_same⟩
  · rw [upd_ne (ne_of_none e hd), upd_ne (ne_of_none e ha), upd_ne (ne_of_none e ha), upd_ne (ne_of_none e hd), upd_ne (ne_of_none e ha)]
    exact e
  · rw [upd_ne ne.symm, upd_same]
theorem xnew2 {C : Addr} {f g : Str} {v u : V} {H : Hp} {Q : VK} (h : ∀ a H', H a = none → Same H H' → ExAt H' a C [(g, u), (f, v)] → Q (.ref a) H') : XNew C (spIni2 C f g) [v, u] H Q := fun a ha => by
  refine ⟨a, v, u, rfl, upd_same, fun dx n ne => ⟨rfl, dx, [(g, u), (f, v)], (by rw [upd_ne ne.symm, upd_same]), upd_same, ?_⟩⟩
  have hd : H dx = none := by rw [← n, upd_ne ne]
  refine h a _ ha (fun b o e => ?_) ⟨dx, ?_, upd_same⟩
  · rw [upd_ne (ne_of_none e hd), upd_ne (ne_of_none e ha), upd_ne (ne_of_none e hd), upd_ne (ne_of_none e ha), upd_ne (ne_of_none e hd), upd_ne (ne_of_none e ha)]
    exact e
  · rw [upd_ne ne.symm, upd_same]
/-- one class: its name, its field -/
structure XK1 (P : Program) (w : World) (K : PySem.W.Frag) (mg : Str → Option Value) (base : Heap) (x f : Str) (C : Addr) : Prop where
  T : Xc K C
  hm : mg x = some (.ref C)
  no : PySem.W.findIn K (.ref C) f = some none
  ex : ∃ (fI : Addr) (fd : FuncData), PySem.W.findIn K (.ref C) "__init__" = some (some (.ref fI)) ∧ PySem.W.typeIn K (.ref fI) = some (.type "function") ∧ FnOk P w K mg base CX0 1 fI fd ["self", f] (spIni C f) ∧ Binds K fd ["self", f] [] ∧
    ∀ (s : Shared) (a : Addr) (ws : List Value), K.In s.heap → ws.length = 1 → BindsTo s fd ⟨[Value.ref a], [f].zip ws⟩ ((["self", f] : List Str).zip (Value.ref a :: ws))
/-- a class with two fields -/
structure XK2 (P : Program) (w : World) (K : PySem.W.Frag) (mg : Str → Option Value) (base : Heap) (x f g : Str) (C : Addr) : Prop where
  T : Xc K C
  hm : mg x = some (.ref C)
  no : PySem.W.findIn K (.ref C) f = some none
  no2 : PySem.W.findIn K (.ref C) g = some none
  ex : ∃ (fI : Addr) (fd : FuncData), PySem.W.findIn K (.ref C) "__init__" = some (some (.ref fI)) ∧ PySem.W.typeIn K (.ref fI) = some (.type "function") ∧ FnOk P w K mg base CX0 1 fI fd ["self", f, g] (spIni2 C f g) ∧ Binds K fd ["self", f, g] [] ∧
    ∀ (s : Shared) (a : Addr) (ws : List Value), K.In s.heap → ws.length = 2 → BindsTo s fd ⟨[Value.ref a], [g, f].zip ws⟩ ((["self", f, g] : List Str).zip (Value.ref a :: ws.reverse))
/-- a new error of the class at C with the fields fs of the i-th slot's value -/
def tX1 (C : Addr) (fs : V → List (Str × V)) (i : Nat) : TE := fun σ H Q => ∃ v, σ[i]? = some (some v) ∧ ∀ a H', H a = none → Same H H' → ExAt H' a C (fs v) → Q (.ref a) H'
section
variable {X : Cx} {x f g : Str} {C : Addr} {p pos kp kp2 : Pos} {e e2 : Expr} {i : Nat} {z : Str} {ci : Int} {j1 j2 : Nat} {q1 q2 : Pos}
/-- C(name) -/
theorem pe_x1 (B : XK1 X.prog X.w X.K X.mg X.base x f C) (hr : Room 2 X.A) (hg : Gl X x) (he : PE X e (tVar i)) (hdb : (x == ("__debug__" : Str)) = false := by decide) (hs : starEach [e] X.env = (false, eval e X.env) :: starEach [] X.env := by rfl) :
    PE X (.Call (.Name x p) [e] [] pos) (tX1 C (fun v => [(f, v)]) i) := by
  obtain ⟨fI, fd, i1, i2, F, b, _⟩ := B.ex
  refine PE.imp (pe_xnew B.T i1 i2 F hr b pass0 hg B.hm (pa_cons he pa_nil hs) hdb hs rfl) fun σ H Q h => ?_
  obtain ⟨v, hv, k⟩ := h
  exact ⟨v, hv, (by show 1 ≤ 1000; decide), xnew1 k⟩
/-- C(name, 'text') -/
theorem pe_x2 (B : XK2 X.prog X.w X.K X.mg X.base x f g C) (hr : Room 2 X.A) (hg : Gl X x) (he : PE X e (tVar i)) (hdb : (x == ("__debug__" : Str)) = false := by decide)
    (hs : starEach [e, .Constant (.str z) j1 q1] X.env = (false, eval e X.env) :: starEach [.Constant (.str z) j1 q1] X.env := by rfl) :
    PE X (.Call (.Name x p) [e, .Constant (.str z) j1 q1] [] pos) (tX1 C (fun v => [(g, .str z), (f, v)]) i) := by
  obtain ⟨fI, fd, i1, i2, F, b, _⟩ := B.ex
  refine PE.imp (pe_xnew B.T i1 i2 F hr b pass0 hg B.hm (pa_cons he (pa_cons pe_str pa_nil) hs) hdb hs (by rfl)) fun σ H Q h => ?_
  obtain ⟨v, hv, k⟩ := h
  exact ⟨v, hv, (by show 2 ≤ 1000; decide), xnew2 k⟩
/-- C(f = name) -/
theorem pe_x1K (B : XK1 X.prog X.w X.K X.mg X.base x f C) (hr : Room 2 X.A) (hg : Gl X x) (he : PE X e (tVar i)) (hdb : (x == ("__debug__" : Str)) = false := by decide) :
    PE X (.Call (.Name x p) [] [⟨some f, e, kp⟩] pos) (tX1 C (fun v => [(f, v)]) i) := by
  obtain ⟨fI, fd, i1, i2, F, _, kb⟩ := B.ex
  refine PE.imp (pe_xnewK (ks := [f]) (g := fun ws => ws) (gV := fun zs => zs) B.T i1 i2 F hr (fun s a ws kin hl => kb s a ws kin hl) (fun r => r) pass0 hg B.hm (pk_cons he pk_nil) (by rfl) (by rfl) hdb (by rfl)) fun σ H Q h => ?_
  obtain ⟨v, hv, k⟩ := h
  exact ⟨v, hv, rfl, xnew1 k⟩
theorem vals_rev : ∀ {zs : List V} {ws : List Value}, Vals zs ws → Vals zs.reverse ws.reverse
  | _, _, .nil => .nil
  | _, _, .cons (a := a) (b := b) r t => by
    rw [List.reverse_cons, List.reverse_cons]
    exact (vals_rev t).append (.cons r .nil)
/-- C(g = 'text', f = name) -/
theorem pe_x2K (B : XK2 X.prog X.w X.K X.mg X.base x f g C) (hr : Room 2 X.A) (hg : Gl X x) (he : PE X e (tVar i)) (hdb : (x == ("__debug__" : Str)) = false := by decide) :
    PE X (.Call (.Name x p) [] [⟨some g, .Constant (.str z) j1 q1, kp⟩, ⟨some f, e, kp2⟩] pos) (tX1 C (fun v => [(g, .str z), (f, v)]) i) := by
  obtain ⟨fI, fd, i1, i2, F, _, kb⟩ := B.ex
  refine PE.imp (pe_xnewK (ks := [g, f]) (g := fun ws => ws.reverse) (gV := fun zs => zs.reverse) B.T i1 i2 F hr (fun s a ws kin hl => kb s a ws kin hl) (fun r => vals_rev r) pass0 hg B.hm (pk_cons pe_str (pk_cons he pk_nil)) (by rfl) (by rfl) hdb (by rfl)) fun σ H Q h => ?_
  obtain ⟨v, hv, k⟩ := h
  exact ⟨v, hv, rfl, xnew2 k⟩
/-- C(g = 'text', f = 0) -/
theorem pe_x2KC (B : XK2 X.prog X.w X.K X.mg X.base x f g C) (hr : Room 2 X.A) (hg : Gl X x) (hdb : (x == ("__debug__" : Str)) = false := by decide) :
    PE X (.Call (.Name x p) [] [⟨some g, .Constant (.str z) j1 q1, kp⟩, ⟨some f, .Constant (.int ci) j2 q2, kp2⟩] pos) (fun _ H Q => ∀ a H', H a = none → Same H H' → ExAt H' a C [(g, .str z), (f, .int ci)] → Q (.ref a) H') := by
  obtain ⟨fI, fd, i1, i2, F, _, kb⟩ := B.ex
  refine PE.imp (pe_xnewK (ks := [g, f]) (g := fun ws => ws.reverse) (gV := fun zs => zs.reverse) B.T i1 i2 F hr (fun s a ws kin hl => kb s a ws kin hl) (fun r => vals_rev r) pass0 hg B.hm (pk_cons pe_str (pk_cons pe_int pk_nil)) (by rfl) (by rfl) hdb (by rfl)) fun σ H Q h => ?_
  exact ⟨rfl, xnew2 h⟩
end
/-! ### lists of new errors -/
abbrev XSpec := Addr × (V → List (Str × V))
def Exs (H : Hp) (v : V) : List XSpec → List Addr → Prop
  | [], [] => True
  | c :: cs, a :: as => ExAt H a c.1 (c.2 v) ∧ Exs H v cs as
  | _, _ => False
theorem Exs.mono {H H' : Hp} {v : V} (s : Same H H') : ∀ {cs : List XSpec} {as : List Addr}, Exs H v cs as → Exs H' v cs as
  | [], [], _ => True.intro
  | _ :: _, _ :: _, h => ⟨h.1.mono s, Exs.mono s h.2⟩
  | [], _ :: _, h => h.elim
  | _ :: _, [], h => h.elim
theorem Exs.app {H : Hp} {v : V} : ∀ {cs ds : List XSpec} {as bs : List Addr}, Exs H v cs as → Exs H v ds bs → Exs H v (cs ++ ds) (as ++ bs)
  | [], _, [], _, _, h => h
  | _ :: _, _, _ :: _, _, h, k => ⟨h.1, Exs.app h.2 k⟩
  | [], _, _ :: _, _, h, _ => h.elim
  | _ :: _, _, [], _, h, _ => h.elim
theorem Exs.len {H : Hp} {v : V} : ∀ {cs : List XSpec} {as : List Addr}, Exs H v cs as → as.length = cs.length
  | [], [], _ => rfl
  | _ :: _, _ :: _, h => congrArg Nat.succ (Exs.len h.2)
  | [], _ :: _, h => h.elim
  | _ :: _, [], h => h.elim
theorem Exs.get {H : Hp} {v : V} : ∀ {cs : List XSpec} {as : List Addr} {j : Nat} {c : XSpec}, Exs H v cs as → cs[j]? = some c → ∃ a, as[j]? = some a ∧ ExAt H a c.1 (c.2 v)
  | [], [], _, _, _, e => by simp at e
  | c' :: _, a :: _, 0, c, h, e => by
    have ec : c' = c := by simpa using e
    exact ⟨a, rfl, by rw [← ec]; exact h.1⟩
  | _ :: _, _ :: _, j + 1, c, h, e => by
    obtain ⟨a, h1, h2⟩ := Exs.get (j := j) h.2 (by simpa using e)
    exact ⟨a, by simpa using h1, h2⟩
  | [], _ :: _, _, _, h, _ => h.elim
  | _ :: _, [], _, _, h, _ => h.elim
def tXs (cs : List XSpec) (i : Nat) : TA := fun σ H Q => ∃ v, σ[i]? = some (some v) ∧ ∀ (as : List Addr) H', Same H H' → Exs H' v cs as → Q (as.map V.ref) H'
section
variable {X : Cx} {e : Expr} {es : List Expr} {i : Nat} {C : Addr} {fs : V → List (Str × V)} {cs : List XSpec}
theorem pa_xn : PA X [] (tXs [] i) := PA.imp pa_nil fun σ H Q h => by
  obtain ⟨v, _, k⟩ := h
  exact k [] H Same.refl' True.intro
theorem pa_xc (he : PE X e (tX1 C fs i)) (hr : PA X es (tXs cs i)) (hs : starEach (e :: es) X.env = (false, eval e X.env) :: starEach es X.env := by rfl) : PA X (e :: es) (tXs ((C, fs) :: cs) i) := PA.imp (pa_cons he hr hs) fun σ H Q h => by
  obtain ⟨v, hv, k⟩ := h
  exact ⟨v, hv, fun a H1 _ s1 x1 => ⟨v, hv, fun as H2 s2 x2 => k (a :: as) H2 (s1.tr s2) ⟨x1.mono s2, x2⟩⟩⟩
end
/-! ### lists of isinstance(e, C), e in the slot i, of the class at D -/
def tIss (D : Addr) (bs : List Bool) (i : Nat) : TA := fun σ H Q => ∃ (a : Addr) (fs : List (Str × V)), σ[i]? = some (some (.ref a)) ∧ ExAt H a D fs ∧ Q (bs.map V.bl) H
section
variable {X : Cx} {e : Expr} {es : List Expr} {i : Nat} {D : Addr} {x n : Str} {p1 p2 p3 pos : Pos} {b : Bool} {bs : List Bool}
theorem pe_is1 {C : Addr} (T : Xc X.K D) (hi : Gl X "isinstance") (mi : X.mg "isinstance" = none) (he : PE X e (tVar i)) (hg : Gl X x) (hm : X.mg x = some (.ref C)) (kit : PySem.W.kitOne X.K (.ref D) (.ref C) = some b)
    (hs : starEach [e, .Name x p2] X.env = (false, eval e X.env) :: starEach [.Name x p2] X.env := by rfl) (hpl : (backTo pos (starEach [.Name x p2] X.env)).any (·.1) = false := by rfl) (hd : (x == ("__debug__" : Str)) = false := by decide) :
    PE X (.Call (.Name "isinstance" p1) [e, .Name x p2] [] pos) (fun σ H Q => ∃ (a : Addr) (fs : List (Str × V)), σ[i]? = some (some (.ref a)) ∧ ExAt H a D fs ∧ Q (.bl b) H) :=
  PE.imp (pe_callB call_isX hi mi (by decide +kernel) (pa_cons he (pa_cons (pe_glob (v := .ref C) hg hm rfl hd) pa_nil) hs) (by decide) (by decide) hs hpl) fun σ H Q h => by
    obtain ⟨a, fs, h1, h2, k⟩ := h
    exact ⟨_, h1, a, D, fs, .ref C, .ref C, b, rfl, h2, T, fun u r => r, kit, k⟩
/-- a built-in class -/
theorem pe_is1T {t : String} (T : Xc X.K D) (hi : Gl X "isinstance") (mi : X.mg "isinstance" = none) (he : PE X e (tVar i)) (hg : Gl X x) (hm : X.mg x = none) (hv : bootBuiltins x = some (.type t)) (kit : PySem.W.kitOne X.K (.ref D) (.type t) = some b) (hn : x ≠ "__name__" := by decide)
    (hs : starEach [e, .Name x p2] X.env = (false, eval e X.env) :: starEach [.Name x p2] X.env := by rfl) (hpl : (backTo pos (starEach [.Name x p2] X.env)).any (·.1) = false := by rfl) (hd : (x == ("__debug__" : Str)) = false := by decide) :
    PE X (.Call (.Name "isinstance" p1) [e, .Name x p2] [] pos) (fun σ H Q => ∃ (a : Addr) (fs : List (Str × V)), σ[i]? = some (some (.ref a)) ∧ ExAt H a D fs ∧ Q (.bl b) H) :=
  PE.imp (pe_callB call_isX hi mi (by decide +kernel) (pa_cons he (pa_cons (pe_bltn (v := .ty t) hg hm hv rfl hn hd) pa_nil) hs) (by decide) (by decide) hs hpl) fun σ H Q h => by
    obtain ⟨a, fs, h1, h2, k⟩ := h
    exact ⟨_, h1, a, D, fs, .ty t, .type t, b, rfl, h2, T, fun u r => r, kit, k⟩
theorem pa_isn : PA X [] (tIss D [] i) := PA.imp pa_nil fun σ H Q h => by
  obtain ⟨a, fs, _, _, k⟩ := h
  exact k
theorem pa_isc (he : PE X e (fun σ H Q => ∃ (a : Addr) (fs : List (Str × V)), σ[i]? = some (some (.ref a)) ∧ ExAt H a D fs ∧ Q (.bl b) H)) (hr : PA X es (tIss D bs i)) (hs : starEach (e :: es) X.env = (false, eval e X.env) :: starEach es X.env := by rfl) :
    PA X (e :: es) (tIss D (b :: bs) i) := PA.imp (pa_cons he hr hs) fun σ H Q h => by
  obtain ⟨a, fs, h1, h2, k⟩ := h
  exact ⟨a, fs, h1, h2, a, fs, h1, h2, k⟩
end
end L2

set_option Elab.async false
set_option linter.all false
set_option maxRecDepth 100000
set_option maxHeartbeats 4000000
/-! VxK: list.count of a truth value -/
namespace L2
open PySem PySem.Spec PyProof.Rows
def isB (b : Bool) (v : Value) : Bool := match v with
  | .bool c => c == b
  | _ => false
theorem isB_at {A : Around} {s : Shared} {b : Bool} : ∀ {bs : List Bool} {us : List Value}, Vals (bs.map V.bl) us → ∀ y ∈ us, SeqAt.EqAt A s y (.bool b) (isB b y)
  | [], _, r, y, hy => by
    cases r
    cases hy
  | c :: bs, _, r, y, hy => by
    cases r with
    | cons r1 r2 =>
      cases r1
      rcases List.mem_cons.mp hy with e | e
      · rw [e]
        exact SeqAt.EqAt.bool_bool c b
      · exact isB_at r2 y e
theorem isB_count {b : Bool} : ∀ {bs : List Bool} {us : List Value}, Vals (bs.map V.bl) us → us.countP (isB b) = bs.count b
  | [], _, r => by
    cases r
    rfl
  | c :: bs, _, r => by
    cases r with
    | cons r1 r2 =>
      cases r1
      rw [List.countP_cons, List.count_cons, isB_count r2] <;> rfl
def rCntB (K : PySem.W.Frag) : V → List V → Hp → VK → Prop := fun x xs H Q => ∃ (p : Addr) (bs : List Bool) (b : Bool), x = .ref p ∧ xs = [.bl b] ∧ SqL K H p (bs.map V.bl) ∧ Q (.int (bs.count b : Nat)) H
theorem mt_countB {X : Cx} : MtR X "list.count" (rCntB X.K) := by
  intro pins s σ H x xs v us Q I rx rxs h
  obtain ⟨p, bs, b, rfl, rfl, hs, q⟩ := h
  cases rx
  obtain ⟨u, rfl, ru⟩ := rxs.one
  cases ru
  obtain ⟨its, rv, ⟨o, n, ho, hc, hdn, hd⟩, hlen⟩ := I.list hs
  obtain ⟨cls, dd, data, sl⟩ := o
  dsimp only at hc hd
  subst hc hd
  refine call_meets PySem.F.slot_list_count ⟨_, ho, rfl⟩ PySem.F.entry_list_count (PySem.F.args_list_count_2 _ _)
    (SeqAt.list_countAt p its.toArray n dd sl (.bool b) (isB b)) ⟨ho, fun y hy => isB_at rv y (by simpa using hy), ?_⟩
  refine ⟨.int (bs.count b : Nat), H, I.tok _, ⟨s.toks, ?_⟩, q⟩
  have e : its.countP (isB b) = bs.count b := isB_count rv
  show Value.int ((its.toArray.toList.countP (isB b) : Nat) : Int) s.toks = _
  rw [show its.toArray.toList = its from rfl, e]
end L2

set_option Elab.async false
set_option linter.all false
set_option maxRecDepth 100000
set_option maxHeartbeats 4000000
namespace Kx
open PySem PySem.Spec PyProof.Rows L2
def top (i : Nat) : Stmt := PySem.Challenge.pw_brinejar_k01_error_classes.main.body.getD i (.Pass ⟨0, 0, 0, 0⟩)
abbrev sBegin : Stmt := top 32
abbrev sMixed : Stmt := top 33
abbrev sNext : Stmt := top 34
abbrev FnP (K : PySem.W.Frag) (x : Str) (st : Stmt) (f : Addr) (fd : FuncData) : Prop := FunD K x x (defArgs st) (defBody st) (defScope st) [] [] f fd
section
variable {P : Program} {w : World} {K : PySem.W.Frag} {mg : Str → Option Value} {base : Heap}
theorem scBegin : FnScope ["script"] ["script"] (defScope sBegin) := ⟨rfl, rfl, rfl, by decide +kernel, rfl, by decide +kernel, by decide +kernel⟩
theorem scMixed : FnScope ["cell", "k", "mixed"] ["cell", "k"] (defScope sMixed) := ⟨rfl, rfl, rfl, by decide +kernel, rfl, by decide +kernel, by decide +kernel⟩
theorem scNext : FnScope ["draw", "bound", "found", "cells", "cell"] ["draw", "bound"] (defScope sNext) := ⟨rfl, rfl, rfl, by decide +kernel, rfl, by decide +kernel, by decide +kernel⟩
theorem ok_begin {f : Addr} {fd : FuncData} (F : FnP K "_law_begin" sBegin f fd) : FnOk P w K mg base CX0 1 f fd ["script"] (spBegin K) := by
  refine F.ok scBegin (fun vs H Q E h => ?_) (fun cdv A outer s H vs Q E hr h => ⟨_, PSs.nox (pss_one (ps_ret (pe_disp (pps_cons pe_str (pe_op op_catS (pv 0) (pe_lst (pa_cons pe_int pa_nil)))
    (pps_cons pe_str pe_int (pps_cons pe_str pe_int (pps_cons pe_str pe_int pps_nil)))) (by rfl) (by rfl) (fun z => by cases z) (by decide)))), ?_⟩)
  · obtain ⟨a, ns, rfl, _⟩ := h
    rfl
  · obtain ⟨a, ns, rfl, hS, hl, k⟩ := h
    intro p hp
    refine ⟨_, rfl, (by show 1 ≤ sizeLine; decide), fun q hq => ?_⟩
    have npq : p ≠ q := fun z => by rw [z, upd_same] at hq; cases hq
    have hq' : H q = none := by rw [← hq, upd_ne npq.symm]
    have s1 : Same H (upd (upd H p (.dK [])) q (.lst [V.int 0])) := fun b o e => by
      rw [upd_ne (ne_of_none e hq'), upd_ne (ne_of_none e hp)]
      exact e
    refine ⟨a, q, ns.map V.int, [V.int 0], rfl, rfl, s1.seq hS, SqL.of upd_same, (by rw [List.length_map]; show ns.length + 1 ≤ sizeLine; exact Nat.le_trans (Nat.succ_le_succ hl) (by decide)), fun l hlz => ?_⟩
    have nl : l ≠ p := fun z => by rw [z, upd_ne npq, upd_same] at hlz; cases hlz
    have nlq : l ≠ q := fun z => by rw [z, upd_same] at hlz; cases hlz
    have hl' : H l = none := by rw [upd_ne nlq, upd_ne nl] at hlz; exact hlz
    refine ⟨(by rw [upd_ne nl.symm, upd_ne npq, upd_same]), [(kCells, .ref l), (kAt, .int 0), (kLeft, .int 0), (kUsed, .int 0)], rfl, (by show 4 ≤ 15; decide), ?_⟩
    have em : mergeK [] [(kCells, V.ref l), (kAt, .int 0), (kLeft, .int 0), (kUsed, .int 0)] = drawKv l 0 0 0 := by kernel_rfl
    rw [em]
    refine k p _ hp (fun b o e => ?_) ⟨l, ns ++ [0], 0, 0, 0, upd_same, ?_, ?_, ?_, by decide, by decide, by decide, by decide, by decide⟩
    · rw [upd_ne (ne_of_none e hp), upd_ne (ne_of_none e hl')]
      exact s1 b o e
    · rw [upd_ne nl, upd_same, List.map_append]
      rfl
    · rw [List.length_append]
      exact Nat.succ_pos _
    · rw [List.length_append]
      exact Nat.succ_le_succ hl
theorem mix_lo (x : Int) : 0 ≤ x % 2147483647 / 7 := by omega
theorem mix_hi (x : Int) : x % 2147483647 / 7 < 2147483648 := by omega
theorem ok_mixed {f : Addr} {fd : FuncData} (F : FnP K "_law_mixed" sMixed f fd) : FnOk P w K mg base CX0 1 f fd ["cell", "k"] spMixed := by
  refine F.ok scMixed (fun vs H Q E h => ?_) (fun cdv A outer s H vs Q E hr h => ⟨_, PSs.nox (pss_cons (ps_set (i := 2) scMixed.nd rfl (Or.inl rfl)
      (pe_op op_mod (pe_op op_add (pe_op op_add (pe_op op_add (pe_op op_mod (pv 0) pe_int) (pe_op op_mul (pe_op op_mul pe_int (pv 1)) (pv 1))) (pe_op op_mul pe_int (pv 1))) pe_int) pe_int))
    (pss_cons (ps_set (i := 2) scMixed.nd rfl (Or.inl rfl) (pe_op op_mod (pe_op op_mul (pe_op op_mod (pe_op op_mul (pv 2) (pv 2)) pe_int) (pv 2)) pe_int))
    (pss_one (ps_ret (pe_op op_fdiv (pe_op op_mod (pe_op op_mul (pv 2) (pe_op op_add pe_int (pe_op op_mul pe_int (pe_op op_mod (pv 1) pe_int)))) pe_int) pe_int))))), ?_⟩)
  · obtain ⟨c, k, rfl, _⟩ := h
    rfl
  · obtain ⟨c, k, rfl, k0, k1, kq⟩ := h
    refine ⟨_, rfl, _, _, rfl, rfl, (by show (0 : Int) < 1000000007; decide), _, rfl, _, _, rfl, rfl, .inl ⟨by decide, by decide⟩, _, rfl, _, _, rfl, rfl, .inl ⟨by omega, by omega⟩, _, _, rfl, rfl, _, rfl, _, _, rfl, rfl, .inl ⟨by decide, by decide⟩, _, _, rfl, rfl,
      _, _, rfl, rfl, _, _, rfl, rfl, (by show (0 : Int) < 2147483647; decide), ?_⟩
    refine ⟨_, rfl, _, rfl, _, _, rfl, rfl, .inl ⟨by omega, by omega⟩, _, _, rfl, rfl, (by show (0 : Int) < 2147483647; decide), _, rfl, _, _, rfl, rfl, .inl ⟨by omega, by omega⟩, _, _, rfl, rfl, (by show (0 : Int) < 2147483629; decide), ?_⟩
    refine ⟨_, rfl, _, rfl, _, _, rfl, rfl, (by show (0 : Int) < 1000; decide), _, _, rfl, rfl, .inl ⟨by decide, by decide⟩, _, _, rfl, rfl, _, _, rfl, rfl, .inl ⟨by omega, by omega⟩, _, _, rfl, rfl, (by show (0 : Int) < 2147483647; decide), _, _, rfl, rfl, ⟨by decide, by decide⟩, ?_⟩
    exact kq _ (mix_lo _) (mix_hi _)
theorem ok_next {f fm : Addr} {fd fdm : FuncData} (F : FnP K "_law_next" sNext f fd) (FM : FnP K "_law_mixed" sMixed fm fdm) (gM : mg "_law_mixed" = some (.ref fm)) (gL : mg "len" = none) : FnOk P w K mg base CX0 2 f fd ["draw", "bound"] spNext := by
  have GM : FnOk P w K mg base CX0 1 fm fdm ["cell", "k"] spMixed := ok_mixed FM
  have bM : Binds K fdm ["cell", "k"] [] := FM.bindsN fun _ _ _ _ _ _ us hl => match us, hl with | [_, _], _ => rfl
  refine F.ok scNext (fun vs H Q E h => ?_) (fun cdv A outer s H vs Q E hr h => ?_)
  · obtain ⟨p, b, N, rfl, _⟩ := h
    rfl
  · have hu := hu_of hr
    refine ⟨_, PSs.nox (pss_cons (ps_if (pt_cmpR op_gt (pe_dget hu (pv 0) pe_str (fun _ _ => rfl)) pe_int (nomark _))
        (pss_cons (ps_set (i := 2) scNext.nd rfl (Or.inl rfl) (pe_op op_mod (pe_dget hu (pv 0) pe_str (fun _ _ => rfl)) (pv 1)))
        (pss_cons (ps_dput hu (pv 0) pe_str (pe_op op_fdiv (pe_dget hu (pv 0) pe_str (fun _ _ => rfl)) (pv 1)) rfl)
        (pss_one (ps_ret (pv 2))))) pss_nil)
      (pss_cons (ps_set (i := 3) scNext.nd rfl (Or.inl rfl) (pe_dget hu (pv 0) pe_str (fun _ _ => rfl)))
      (pss_cons (ps_set (i := 4) scNext.nd rfl (Or.inl rfl) (pe_ix ix_list (pv 3) (pe_op op_mod (pe_dget hu (pv 0) pe_str (fun _ _ => rfl)) (pe_callB call_len (by rfl) gL PySem.boot_len (pa_cons (pv 3) pa_nil))) (fun _ _ => rfl)))
      (pss_cons (ps_dput hu (pv 0) pe_str (pe_op op_add (pe_dget hu (pv 0) pe_str (fun _ _ => rfl)) pe_int) rfl)
      (pss_cons (ps_if (PW.pt (pw_and (pt_cmpR op_ge (pv 4) (pe_op op_pow pe_int pe_int) (nomark _)) (pw_and1 (pt_cmpR op_le (pe_dget hu (pv 0) pe_str (fun _ _ => rfl)) (pe_callB call_len (by rfl) gL PySem.boot_len (pa_cons (pv 3) pa_nil)) (nomark _)))))
        (pss_cons (ps_dput hu (pv 0) pe_str (pe_op op_fdiv (pv 4) (pv 1)) rfl) (pss_one (ps_ret (pe_op op_mod (pv 4) (pv 1))))) pss_nil)
      (pss_cons (ps_dput hu (pv 0) pe_str (pe_op op_add (pe_dget hu (pv 0) pe_str (fun _ _ => rfl)) pe_int) rfl)
      (pss_one (ps_ret (pe_op op_mod (pe_call GM hr (by rfl) gM FM.kp bM .nil pass0 (pa_cons (pe_call GM hr (by rfl) gM FM.kp bM .nil pass0 (pa_cons (pv 4) (pa_cons (pe_dget hu (pv 0) pe_str (fun _ _ => rfl)) pa_nil))) (pa_cons (pe_dget hu (pv 0) pe_str (fun _ _ => rfl)) pa_nil))) (pv 1)))))))))), ?_⟩
    obtain ⟨p, b, N, rfl, D, hN, b0, b1, k⟩ := h
    obtain ⟨l, cs, a, lf, us, hp, hl, l0, l1, a0, a1, f0, u0, u1⟩ := D
    have npl : l ≠ p := ne_of hl hp (by intro z; cases z)
    have hl' : ∀ o, (upd H p o) l = some (.lst (cs.map V.int)) := fun o => by rw [upd_ne npl]; exact hl
    -- if draw['left'] > 0
    refine ⟨_, rfl, p, _, rfl, (by rw [← dk_left]; exact DGet.k (k := kLeft) hp), _, _, rfl, rfl, _, rfl, ?_⟩
    have hz4 : ∀ x y z, (drawKv l x y z).length < sizeLine := fun x y z => by show 4 < sizeLine; decide
    refine ite2 (fun c => ?_) (fun c => ?_)
    · -- found = draw['left'] % bound; draw['left'] = draw['left'] // bound; return found
      have c' : 0 < lf := of_decide_eq_true c
      refine ⟨_, rfl, p, _, rfl, (by rw [← dk_left]; exact DGet.k (k := kLeft) hp), _, rfl, _, _, rfl, rfl, b0, ?_⟩
      refine ⟨_, rfl, p, _, rfl, (by rw [← dk_left]; exact DGet.k (k := kLeft) hp), _, rfl, _, _, rfl, rfl, ⟨b0, b1⟩, _, rfl, p, _, rfl, DPut.k (k := kLeft) hp (hz4 _ _ _), ?_⟩
      rw [dp_left]
      refine ⟨_, rfl, k _ _ (Int.emod_nonneg _ (by omega)) (Int.emod_lt_of_pos _ b0) ⟨l, cs, a, lf / b, us, upd_same, hl' _, l0, l1, a0, by omega, Int.ediv_nonneg (by omega) (by omega), u0, by omega⟩ Keep.upd⟩
    · -- cells = draw['cells']; cell = cells[draw['at'] % len(cells)]
      refine ⟨_, rfl, p, _, rfl, (by rw [← dk_cells]; exact DGet.k (k := kCells) hp), ?_⟩
      have ix0 : 0 ≤ a % (cs.length : Int) := Int.emod_nonneg _ (by omega)
      have ix1 : a % (cs.length : Int) < (cs.length : Int) := Int.emod_lt_of_pos _ (by omega)
      have hlt : (a % (cs.length : Int)).toNat < cs.length := by omega
      obtain ⟨z, hz⟩ : ∃ z, cs[(a % (cs.length : Int)).toNat]? = some z := ⟨_, List.getElem?_eq_getElem hlt⟩
      refine ⟨_, rfl, _, rfl, p, _, rfl, (by rw [← dk_at]; exact DGet.k (k := kAt) hp), _, rfl, _, (cs.map V.int).length, rfl, .inl ⟨_, SqL.of hl, rfl⟩, _, _, rfl, rfl, (by rw [List.length_map]; omega), ?_⟩
      refine ⟨l, _, _, V.int z, rfl, rfl, SqL.of hl, at_of (j := (a % (cs.length : Int)).toNat) (by rw [List.length_map]; omega) (by rw [List.getElem?_map, hz]; rfl), ?_⟩
      -- draw['at'] = draw['at'] + 1
      refine ⟨_, rfl, p, _, rfl, (by rw [← dk_at]; exact DGet.k (k := kAt) hp), _, _, rfl, rfl, _, rfl, p, _, rfl, DPut.k (k := kAt) hp (hz4 _ _ _), ?_⟩
      rw [dp_at]
      have hp1 := (upd_same (H := H) (a := p) (o := .dK (drawKv l (a + 1) lf us)))
      -- the test
      refine ⟨_, rfl, _, _, rfl, rfl, ⟨by decide, by decide, by decide⟩, _, _, rfl, rfl, _, rfl, ?_⟩
      have last : ∀ H1 : Hp, H1 p = some (.dK (drawKv l (a + 1) lf us)) → H1 l = some (.lst (cs.map V.int)) → Keep p H H1 → True := fun _ _ _ _ => True.intro
      refine ite2 (fun c1 => ?_) (fun c1 => ?_)
      · refine ⟨_, rfl, p, _, rfl, (by rw [← dk_at]; exact DGet.k (k := kAt) hp1), _, rfl, _, (cs.map V.int).length, rfl, .inl ⟨_, SqL.of (hl' _), rfl⟩, _, _, rfl, rfl, _, rfl, ?_⟩
        refine ite2 (fun c2 => ?_) (fun c2 => ?_)
        · have z0 : (1000000000000000000 : Int) ≤ z := of_decide_eq_true c1
          refine ⟨_, rfl, _, rfl, _, _, rfl, rfl, ⟨b0, b1⟩, _, rfl, p, _, rfl, DPut.k (k := kLeft) hp1 (hz4 _ _ _), ?_⟩
          rw [dp_left]
          refine ⟨_, rfl, _, rfl, _, _, rfl, rfl, b0, ?_⟩
          exact k _ _ (Int.emod_nonneg _ (by omega)) (Int.emod_lt_of_pos _ b0) ⟨l, cs, a + 1, z / b, us, upd_same, by rw [upd_ne npl]; exact hl' _, l0, l1, by omega, by omega, Int.ediv_nonneg (by omega) (by omega), u0, by omega⟩ (Keep.upd.trans Keep.upd)
        · refine ⟨_, rfl, p, _, rfl, (by rw [← dk_used]; exact DGet.k (k := kUsed) hp1), _, _, rfl, rfl, _, rfl, p, _, rfl, DPut.k (k := kUsed) hp1 (hz4 _ _ _), ?_⟩
          rw [dp_used]
          have hp2 := (upd_same (H := upd H p (.dK (drawKv l (a + 1) lf us))) (a := p) (o := .dK (drawKv l (a + 1) lf (us + 1))))
          refine ⟨_, rfl, _, rfl, p, _, rfl, (by rw [← dk_at]; exact DGet.k (k := kAt) hp2), _, _, rfl, by omega, by omega, fun r1 _ _ => ?_⟩
          refine ⟨_, rfl, p, _, rfl, (by rw [← dk_used]; exact DGet.k (k := kUsed) hp2), _, _, rfl, by omega, by omega, fun r2 _ _ => ?_⟩
          refine ⟨_, rfl, _, _, rfl, rfl, b0, ?_⟩
          exact k _ _ (Int.emod_nonneg _ (by omega)) (Int.emod_lt_of_pos _ b0) ⟨l, cs, a + 1, lf, us + 1, hp2, by rw [upd_ne npl]; exact hl' _, l0, l1, by omega, by omega, f0, by omega, by omega⟩ (Keep.upd.trans Keep.upd)
      · refine iteF ?_
        refine ⟨_, rfl, p, _, rfl, (by rw [← dk_used]; exact DGet.k (k := kUsed) hp1), _, _, rfl, rfl, _, rfl, p, _, rfl, DPut.k (k := kUsed) hp1 (hz4 _ _ _), ?_⟩
        rw [dp_used]
        have hp2 := (upd_same (H := upd H p (.dK (drawKv l (a + 1) lf us))) (a := p) (o := .dK (drawKv l (a + 1) lf (us + 1))))
        refine ⟨_, rfl, _, rfl, p, _, rfl, (by rw [← dk_at]; exact DGet.k (k := kAt) hp2), _, _, rfl, by omega, by omega, fun r1 _ _ => ?_⟩
        refine ⟨_, rfl, p, _, rfl, (by rw [← dk_used]; exact DGet.k (k := kUsed) hp2), _, _, rfl, by omega, by omega, fun r2 _ _ => ?_⟩
        refine ⟨_, rfl, _, _, rfl, rfl, b0, ?_⟩
        exact k _ _ (Int.emod_nonneg _ (by omega)) (Int.emod_lt_of_pos _ b0) ⟨l, cs, a + 1, lf, us + 1, hp2, by rw [upd_ne npl]; exact hl' _, l0, l1, by omega, by omega, f0, by omega, by omega⟩ (Keep.upd.trans Keep.upd)
end
end Kx

set_option Elab.async false
set_option linter.all false
set_option maxRecDepth 100000
set_option maxHeartbeats 4000000
namespace Kx
open PySem PySem.Spec PyProof.Rows L2
/-! ### the classes: name, family, field -/
def ecs : List (Str × Nat × Str) := [("InvalidValue", 0, "value"), ("InvalidNumbers", 0, "value"), ("InvalidKey", 0, "key"), ("InvalidIndex", 0, "index"), ("InvalidBrand", 0, "given"), ("InvalidTakes", 0, "value"), ("InvalidVersion", 0, "value"), ("InvalidStream", 0, "value"), ("InvalidLabel", 0, "value"), ("InvalidReduction", 0, "given"), ("InvalidMade", 0, "given"), ("InvalidRow", 0, "position"), ("InvalidName", 0, "given"), ("InvalidEdit", 0, "position"), ("InvalidText", 0, "offset"), ("Refused", 0, "offset"), ("NotCanonical", 0, "offset"), ("TooDeep", 1, "limit"), ("TooLong", 1, "limit"), ("SelfArgument", 1, "given"), ("KeyTaken", 1, "key"), ("BrandTaken", 1, "given"), ("Full", 1, "limit"), ("UnknownBrand", 2, "given"), ("NoEntry", 2, "key"), ("NoName", 2, "given"), ("NothingToUndo", 2, "count")]
abbrev ename (i : Nat) : Str := (ecs.getD i ("", 0, "")).1
abbrev efam (i : Nat) : Nat := (ecs.getD i ("", 0, "")).2.1
abbrev efld (i : Nat) : Str := (ecs.getD i ("", 0, "")).2.2
def cA (K : PySem.W.Frag) (i : Nat) : Addr := He.ga K (ename i)
def iA (K : PySem.W.Frag) (i : Nat) : Addr := He.ma K (cA K i) "__init__"
def famB (f : Nat) (K : PySem.W.Frag) (C : Addr) : Bool := match f with
  | 0 => xcB K C bmVE "ValueError.__new__"
  | 1 => xcB K C bmRE "RuntimeError.__new__"
  | _ => xcB K C bmLE "LookupError.__new__"
theorem fam_ok {f : Nat} {K : PySem.W.Frag} {C : Addr} (h : famB f K C = true) : Xc K C := by
  match f, h with
  | 0, h => exact xc_VE h
  | 1, h => exact xc_RE h
  | _ + 2, h => exact xc_LE h
def ix27 : List Nat := List.range 27
def builtF (f : Nat) : String := match f with
  | 0 => "ValueError"
  | 1 => "RuntimeError"
  | _ => "LookupError"
def ownF (f : Nat) : Str := match f with
  | 0 => "JarError"
  | 1 => "StateError"
  | _ => "MissingError"
def clsB (K : PySem.W.Frag) (i : Nat) : Bool :=
  famB (efam i) K (cA K i) && (decide (PySem.W.findIn K (.ref (cA K i)) "__init__" = some (some (.ref (iA K i)))) && (decide (PySem.W.typeIn K (.ref (iA K i)) = some (.type "function")) && (decide (PySem.W.findIn K (.ref (cA K i)) (efld i) = some none) &&
  (decide (PySem.W.findIn K (.ref (cA K i)) "reason" = some none) && (decide (PySem.W.nsIn K mainGlobals (ename i) = some (some (.ref (cA K i)))) &&
  ((ix27.all fun j => decide (PySem.W.kitOne K (.ref (cA K i)) (.ref (cA K j)) = some (decide (j = i)))) && (([0, 1, 2].all fun f => decide (PySem.W.kitOne K (.ref (cA K i)) (.ref (He.ga K (ownF f))) = some (decide (efam i = f)))) &&
  (([0, 1, 2].all fun f => decide (PySem.W.kitOne K (.ref (cA K i)) (.type (builtF f)) = some (decide (efam i = f)))) && decide (PySem.W.kitAny K (.ref (cA K i)) [.type "KeyError", .type "IndexError", .type "NotImplementedError"] = some false)))))))))
def chk (K : PySem.W.Frag) : Bool := sysB K && ix27.all (clsB K)
structure ClsI (K : PySem.W.Frag) (i : Nat) : Prop where
  xc : Xc K (cA K i)
  ini : PySem.W.findIn K (.ref (cA K i)) "__init__" = some (some (.ref (iA K i)))
  fn : PySem.W.typeIn K (.ref (iA K i)) = some (.type "function")
  no : PySem.W.findIn K (.ref (cA K i)) (efld i) = some none
  noR : PySem.W.findIn K (.ref (cA K i)) "reason" = some none
  glo : PySem.W.nsIn K mainGlobals (ename i) = some (some (.ref (cA K i)))
  kit : ∀ j < 27, PySem.W.kitOne K (.ref (cA K i)) (.ref (cA K j)) = some (decide (j = i))
  own : ∀ f < 3, PySem.W.kitOne K (.ref (cA K i)) (.ref (He.ga K (ownF f))) = some (decide (efam i = f))
  blt : ∀ f < 3, PySem.W.kitOne K (.ref (cA K i)) (.type (builtF f)) = some (decide (efam i = f))
  any : PySem.W.kitAny K (.ref (cA K i)) [.type "KeyError", .type "IndexError", .type "NotImplementedError"] = some false
theorem chk_sys {K : PySem.W.Frag} (h : chk K = true) : SysK K := sys_of (band h).1
theorem mem3 {f : Nat} (h : f < 3) : f ∈ [0, 1, 2] := by
  match f, h with
  | 0, _ => decide
  | 1, _ => decide
  | 2, _ => decide
theorem chk_cls {K : PySem.W.Frag} (h : chk K = true) {i : Nat} (hi : i < 27) : ClsI K i := by
  have z := List.all_eq_true.mp (band h).2 i (List.mem_range.mpr hi)
  obtain ⟨h1, z⟩ := band z
  obtain ⟨h2, z⟩ := band z
  obtain ⟨h3, z⟩ := band z
  obtain ⟨h4, z⟩ := band z
  obtain ⟨h5, z⟩ := band z
  obtain ⟨h6, z⟩ := band z
  obtain ⟨h7, z⟩ := band z
  obtain ⟨h8, z⟩ := band z
  obtain ⟨h9, h10⟩ := band z
  exact ⟨fam_ok h1, of_decide_eq_true h2, of_decide_eq_true h3, of_decide_eq_true h4, of_decide_eq_true h5, of_decide_eq_true h6, fun j hj => of_decide_eq_true (List.all_eq_true.mp h7 j (List.mem_range.mpr hj)),
    fun f hf => of_decide_eq_true (List.all_eq_true.mp h8 f (mem3 hf)), fun f hf => of_decide_eq_true (List.all_eq_true.mp h9 f (mem3 hf)), of_decide_eq_true h10⟩
/-! ### the head: facts by names, one run of the top -/
abbrev sI (i : Nat) : Stmt := inClass (top (4 + i)) 0
def dI (i : Nat) : He.DefD := ⟨(ename i, some "__init__"), "__init__", ename i ++ ".__init__", defArgs (sI i), defBody (sI i), defScope (sI i), [], []⟩
def dT (x : Str) (i : Nat) : He.DefD := ⟨(x, none), x, x, defArgs (top i), defBody (top i), defScope (top i), [], []⟩
def fn : List He.DefD := (ix27.map dI) ++ [dT "_law_begin" 32, dT "_law_mixed" 33, dT "_law_next" 34, dT "_law_made" 35, dT "_law_kinds" 36, dT "_law_families_right" 37, dT "_law_fields" 38, dT "_law_named" 39, dT "law" 40]
def fa : List He.Fa := [.glo "_law_begin", .glo "_law_mixed", .glo "_law_next", .glo "_law_made", .glo "_law_kinds", .glo "_law_families_right", .glo "_law_fields", .glo "_law_named", .glo "law", .glo "JarError", .glo "StateError", .glo "MissingError",
  .free "len", .free "range", .free "min", .free "repr", .free "isinstance", .free "enumerate", .free "ValueError", .free "RuntimeError", .free "LookupError", .free "KeyError", .free "IndexError", .free "NotImplementedError"]
end Kx
namespace He
open PySem PySem.Spec PyProof.Rows L2
/-- as hookX, sys.modules beside the module's names -/
def hookS (n : Nat) (fa : List Fa) (fn : List DefD) (chk : PySem.W.Frag → Bool) : PySem.W.Hook where
  α := AlD × Bool
  obs := fun s => (obsD fa fn (frG s.heap.get? (sysModules :: asD s.heap.get? n)), chk (frG s.heap.get? (sysModules :: asD s.heap.get? n)))
  val := fun _ => (valD fn, true)
  says := fun _ h => ∃ K : PySem.W.Frag, K.In h ∧ SaysD fa fn K ∧ chk K = true
  of := fun _ _ e => ⟨_, frG_in, congrArg Prod.fst e, congrArg Prod.snd e⟩
  keeps := fun _ _ _ ⟨K, hK, c⟩ k => ⟨K, PySem.W.Frag.In.keeps hK k, c⟩
def obsS (n : Nat) (fa : List Fa) (fn : List DefD) (chk : PySem.W.Frag → Bool) (g : Addr → Option Obj) : AlD × Bool := (obsD fa fn (frG g (sysModules :: asD g n)), chk (frG g (sysModules :: asD g n)))
theorem obsS_eq {n : Nat} {fa : List Fa} {fn : List DefD} {chk : PySem.W.Frag → Bool} {g : Addr → Option Obj} {s : Shared} (h : ∀ a, g a = s.heap.get? a) : obsS n fa fn chk g = (hookS n fa fn chk).obs s := by
  have e : g = s.heap.get? := funext h
  rw [e] <;> rfl
end He

set_option Elab.async false
set_option linter.all false
set_option maxRecDepth 100000
set_option maxHeartbeats 4000000
namespace Kx
open PySem PySem.Spec PyProof.Rows L2
section
variable {P : Program} {w : World} {K : PySem.W.Frag} {mg : Str → Option Value} {base : Heap}
abbrev FnI (K : PySem.W.Frag) (i : Nat) (fd : FuncData) : Prop := FunD K "__init__" (ename i ++ ".__init__") (defArgs (sI i)) (defBody (sI i)) (defScope (sI i)) [] [] (iA K i) fd
theorem xk_0 (c : ClsI K 0) (F : ∃ fd, FnI K 0 fd) (hm : mg "InvalidValue" = some (.ref (cA K 0))) : XK1 P w K mg base "InvalidValue" "value" (cA K 0) := by
  obtain ⟨fd, F⟩ := F
  have sc : FnScope ["self", "value"] ["self", "value"] (defScope (sI 0)) := ⟨rfl, rfl, rfl, by decide +kernel, rfl, by decide +kernel, by decide +kernel⟩
  refine ⟨c.xc, hm, c.no, iA K 0, fd, c.ini, c.fn, F.ok sc (fun vs H Q E h => ?_) (fun cdv A outer s H vs Q E hr h => ⟨_, PSs.nox (pss_one (ps_xst (pv 0) (pv 1))), ?_⟩), F.bindsN (fun _ _ _ _ _ _ us hl => match us, hl with | [_, _], _ => rfl), fun s a ws kin hl => ?_⟩
  · obtain ⟨a, v, rfl, _⟩ := h
    rfl
  · obtain ⟨a, v, rfl, ha, k⟩ := h
    exact ⟨_, rfl, _, rfl, a, cA K 0, rfl, c.xc, c.no, .inl ⟨ha, fun dx n ne => k dx n ne⟩⟩
  · obtain ⟨oc, od, dV, kV, doc, pm, an, cdv, ct, osl, rfl, lk, hcd, hD, hK⟩ := F.ex
    rcases hD with ⟨_, rfl⟩ | ⟨e, _⟩
    · match ws, hl with
      | [r], _ => exact .of_eq rfl
    · exact absurd rfl e
theorem xk_1 (c : ClsI K 1) (F : ∃ fd, FnI K 1 fd) (hm : mg "InvalidNumbers" = some (.ref (cA K 1))) : XK1 P w K mg base "InvalidNumbers" "value" (cA K 1) := by
  obtain ⟨fd, F⟩ := F
  have sc : FnScope ["self", "value"] ["self", "value"] (defScope (sI 1)) := ⟨rfl, rfl, rfl, by decide +kernel, rfl, by decide +kernel, by decide +kernel⟩
  refine ⟨c.xc, hm, c.no, iA K 1, fd, c.ini, c.fn, F.ok sc (fun vs H Q E h => ?_) (fun cdv A outer s H vs Q E hr h => ⟨_, PSs.nox (pss_one (ps_xst (pv 0) (pv 1))), ?_⟩), F.bindsN (fun _ _ _ _ _ _ us hl => match us, hl with | [_, _], _ => rfl), fun s a ws kin hl => ?_⟩
  · obtain ⟨a, v, rfl, _⟩ := h
    rfl
  · obtain ⟨a, v, rfl, ha, k⟩ := h
    exact ⟨_, rfl, _, rfl, a, cA K 1, rfl, c.xc, c.no, .inl ⟨ha, fun dx n ne => k dx n ne⟩⟩
  · obtain ⟨oc, od, dV, kV, doc, pm, an, cdv, ct, osl, rfl, lk, hcd, hD, hK⟩ := F.ex
    rcases hD with ⟨_, rfl⟩ | ⟨e, _⟩
    · match ws, hl with
      | [r], _ => exact .of_eq rfl
    · exact absurd rfl e
theorem xk_2 (c : ClsI K 2) (F : ∃ fd, FnI K 2 fd) (hm : mg "InvalidKey" = some (.ref (cA K 2))) : XK1 P w K mg base "InvalidKey" "key" (cA K 2) := by
  obtain ⟨fd, F⟩ := F
  have sc : FnScope ["self", "key"] ["self", "key"] (defScope (sI 2)) := ⟨rfl, rfl, rfl, by decide +kernel, rfl, by decide +kernel, by decide +kernel⟩
  refine ⟨c.xc, hm, c.no, iA K 2, fd, c.ini, c.fn, F.ok sc (fun vs H Q E h => ?_) (fun cdv A outer s H vs Q E hr h => ⟨_, PSs.nox (pss_one (ps_xst (pv 0) (pv 1))), ?_⟩), F.bindsN (fun _ _ _ _ _ _ us hl => match us, hl with | [_, _], _ => rfl), fun s a ws kin hl => ?_⟩
  · obtain ⟨a, v, rfl, _⟩ := h
    rfl
  · obtain ⟨a, v, rfl, ha, k⟩ := h
    exact ⟨_, rfl, _, rfl, a, cA K 2, rfl, c.xc, c.no, .inl ⟨ha, fun dx n ne => k dx n ne⟩⟩
  · obtain ⟨oc, od, dV, kV, doc, pm, an, cdv, ct, osl, rfl, lk, hcd, hD, hK⟩ := F.ex
    rcases hD with ⟨_, rfl⟩ | ⟨e, _⟩
    · match ws, hl with
      | [r], _ => exact .of_eq rfl
    · exact absurd rfl e
theorem xk_3 (c : ClsI K 3) (F : ∃ fd, FnI K 3 fd) (hm : mg "InvalidIndex" = some (.ref (cA K 3))) : XK1 P w K mg base "InvalidIndex" "index" (cA K 3) := by
  obtain ⟨fd, F⟩ := F
  have sc : FnScope ["self", "index"] ["self", "index"] (defScope (sI 3)) := ⟨rfl, rfl, rfl, by decide +kernel, rfl, by decide +kernel, by decide +kernel⟩
  refine ⟨c.xc, hm, c.no, iA K 3, fd, c.ini, c.fn, F.ok sc (fun vs H Q E h => ?_) (fun cdv A outer s H vs Q E hr h => ⟨_, PSs.nox (pss_one (ps_xst (pv 0) (pv 1))), ?_⟩), F.bindsN (fun _ _ _ _ _ _ us hl => match us, hl with | [_, _], _ => rfl), fun s a ws kin hl => ?_⟩
  · obtain ⟨a, v, rfl, _⟩ := h
    rfl
  · obtain ⟨a, v, rfl, ha, k⟩ := h
    exact ⟨_, rfl, _, rfl, a, cA K 3, rfl, c.xc, c.no, .inl ⟨ha, fun dx n ne => k dx n ne⟩⟩
  · obtain ⟨oc, od, dV, kV, doc, pm, an, cdv, ct, osl, rfl, lk, hcd, hD, hK⟩ := F.ex
    rcases hD with ⟨_, rfl⟩ | ⟨e, _⟩
    · match ws, hl with
      | [r], _ => exact .of_eq rfl
    · exact absurd rfl e
theorem xk_4 (c : ClsI K 4) (F : ∃ fd, FnI K 4 fd) (hm : mg "InvalidBrand" = some (.ref (cA K 4))) : XK1 P w K mg base "InvalidBrand" "given" (cA K 4) := by
  obtain ⟨fd, F⟩ := F
  have sc : FnScope ["self", "given"] ["self", "given"] (defScope (sI 4)) := ⟨rfl, rfl, rfl, by decide +kernel, rfl, by decide +kernel, by decide +kernel⟩
  refine ⟨c.xc, hm, c.no, iA K 4, fd, c.ini, c.fn, F.ok sc (fun vs H Q E h => ?_) (fun cdv A outer s H vs Q E hr h => ⟨_, PSs.nox (pss_one (ps_xst (pv 0) (pv 1))), ?_⟩), F.bindsN (fun _ _ _ _ _ _ us hl => match us, hl with | [_, _], _ => rfl), fun s a ws kin hl => ?_⟩
  · obtain ⟨a, v, rfl, _⟩ := h
    rfl
  · obtain ⟨a, v, rfl, ha, k⟩ := h
    exact ⟨_, rfl, _, rfl, a, cA K 4, rfl, c.xc, c.no, .inl ⟨ha, fun dx n ne => k dx n ne⟩⟩
  · obtain ⟨oc, od, dV, kV, doc, pm, an, cdv, ct, osl, rfl, lk, hcd, hD, hK⟩ := F.ex
    rcases hD with ⟨_, rfl⟩ | ⟨e, _⟩
    · match ws, hl with
      | [r], _ => exact .of_eq rfl
    · exact absurd rfl e
theorem xk_5 (c : ClsI K 5) (F : ∃ fd, FnI K 5 fd) (hm : mg "InvalidTakes" = some (.ref (cA K 5))) : XK1 P w K mg base "InvalidTakes" "value" (cA K 5) := by
  obtain ⟨fd, F⟩ := F
  have sc : FnScope ["self", "value"] ["self", "value"] (defScope (sI 5)) := ⟨rfl, rfl, rfl, by decide +kernel, rfl, by decide +kernel, by decide +kernel⟩
  refine ⟨c.xc, hm, c.no, iA K 5, fd, c.ini, c.fn, F.ok sc (fun vs H Q E h => ?_) (fun cdv A outer s H vs Q E hr h => ⟨_, PSs.nox (pss_one (ps_xst (pv 0) (pv 1))), ?_⟩), F.bindsN (fun _ _ _ _ _ _ us hl => match us, hl with | [_, _], _ => rfl), fun s a ws kin hl => ?_⟩
  · obtain ⟨a, v, rfl, _⟩ := h
    rfl
  · obtain ⟨a, v, rfl, ha, k⟩ := h
    exact ⟨_, rfl, _, rfl, a, cA K 5, rfl, c.xc, c.no, .inl ⟨ha, fun dx n ne => k dx n ne⟩⟩
  · obtain ⟨oc, od, dV, kV, doc, pm, an, cdv, ct, osl, rfl, lk, hcd, hD, hK⟩ := F.ex
    rcases hD with ⟨_, rfl⟩ | ⟨e, _⟩
    · match ws, hl with
      | [r], _ => exact .of_eq rfl
    · exact absurd rfl e
theorem xk_6 (c : ClsI K 6) (F : ∃ fd, FnI K 6 fd) (hm : mg "InvalidVersion" = some (.ref (cA K 6))) : XK1 P w K mg base "InvalidVersion" "value" (cA K 6) := by
  obtain ⟨fd, F⟩ := F
  have sc : FnScope ["self", "value"] ["self", "value"] (defScope (sI 6)) := ⟨rfl, rfl, rfl, by decide +kernel, rfl, by decide +kernel, by decide +kernel⟩
  refine ⟨c.xc, hm, c.no, iA K 6, fd, c.ini, c.fn, F.ok sc (fun vs H Q E h => ?_) (fun cdv A outer s H vs Q E hr h => ⟨_, PSs.nox (pss_one (ps_xst (pv 0) (pv 1))), ?_⟩), F.bindsN (fun _ _ _ _ _ _ us hl => match us, hl with | [_, _], _ => rfl), fun s a ws kin hl => ?_⟩
  · obtain ⟨a, v, rfl, _⟩ := h
    rfl
  · obtain ⟨a, v, rfl, ha, k⟩ := h
    exact ⟨_, rfl, _, rfl, a, cA K 6, rfl, c.xc, c.no, .inl ⟨ha, fun dx n ne => k dx n ne⟩⟩
  · obtain ⟨oc, od, dV, kV, doc, pm, an, cdv, ct, osl, rfl, lk, hcd, hD, hK⟩ := F.ex
    rcases hD with ⟨_, rfl⟩ | ⟨e, _⟩
    · match ws, hl with
      | [r], _ => exact .of_eq rfl
    · exact absurd rfl e
theorem xk_7 (c : ClsI K 7) (F : ∃ fd, FnI K 7 fd) (hm : mg "InvalidStream" = some (.ref (cA K 7))) : XK1 P w K mg base "InvalidStream" "value" (cA K 7) := by
  obtain ⟨fd, F⟩ := F
  have sc : FnScope ["self", "value"] ["self", "value"] (defScope (sI 7)) := ⟨rfl, rfl, rfl, by decide +kernel, rfl, by decide +kernel, by decide +kernel⟩
  refine ⟨c.xc, hm, c.no, iA K 7, fd, c.ini, c.fn, F.ok sc (fun vs H Q E h => ?_) (fun cdv A outer s H vs Q E hr h => ⟨_, PSs.nox (pss_one (ps_xst (pv 0) (pv 1))), ?_⟩), F.bindsN (fun _ _ _ _ _ _ us hl => match us, hl with | [_, _], _ => rfl), fun s a ws kin hl => ?_⟩
  · obtain ⟨a, v, rfl, _⟩ := h
    rfl
  · obtain ⟨a, v, rfl, ha, k⟩ := h
    exact ⟨_, rfl, _, rfl, a, cA K 7, rfl, c.xc, c.no, .inl ⟨ha, fun dx n ne => k dx n ne⟩⟩
  · obtain ⟨oc, od, dV, kV, doc, pm, an, cdv, ct, osl, rfl, lk, hcd, hD, hK⟩ := F.ex
    rcases hD with ⟨_, rfl⟩ | ⟨e, _⟩
    · match ws, hl with
      | [r], _ => exact .of_eq rfl
    · exact absurd rfl e
theorem xk_8 (c : ClsI K 8) (F : ∃ fd, FnI K 8 fd) (hm : mg "InvalidLabel" = some (.ref (cA K 8))) : XK1 P w K mg base "InvalidLabel" "value" (cA K 8) := by
  obtain ⟨fd, F⟩ := F
  have sc : FnScope ["self", "value"] ["self", "value"] (defScope (sI 8)) := ⟨rfl, rfl, rfl, by decide +kernel, rfl, by decide +kernel, by decide +kernel⟩
  refine ⟨c.xc, hm, c.no, iA K 8, fd, c.ini, c.fn, F.ok sc (fun vs H Q E h => ?_) (fun cdv A outer s H vs Q E hr h => ⟨_, PSs.nox (pss_one (ps_xst (pv 0) (pv 1))), ?_⟩), F.bindsN (fun _ _ _ _ _ _ us hl => match us, hl with | [_, _], _ => rfl), fun s a ws kin hl => ?_⟩
  · obtain ⟨a, v, rfl, _⟩ := h
    rfl
  · obtain ⟨a, v, rfl, ha, k⟩ := h
    exact ⟨_, rfl, _, rfl, a, cA K 8, rfl, c.xc, c.no, .inl ⟨ha, fun dx n ne => k dx n ne⟩⟩
  · obtain ⟨oc, od, dV, kV, doc, pm, an, cdv, ct, osl, rfl, lk, hcd, hD, hK⟩ := F.ex
    rcases hD with ⟨_, rfl⟩ | ⟨e, _⟩
    · match ws, hl with
      | [r], _ => exact .of_eq rfl
    · exact absurd rfl e
theorem xk_9 (c : ClsI K 9) (F : ∃ fd, FnI K 9 fd) (hm : mg "InvalidReduction" = some (.ref (cA K 9))) : XK1 P w K mg base "InvalidReduction" "given" (cA K 9) := by
  obtain ⟨fd, F⟩ := F
  have sc : FnScope ["self", "given"] ["self", "given"] (defScope (sI 9)) := ⟨rfl, rfl, rfl, by decide +kernel, rfl, by decide +kernel, by decide +kernel⟩
  refine ⟨c.xc, hm, c.no, iA K 9, fd, c.ini, c.fn, F.ok sc (fun vs H Q E h => ?_) (fun cdv A outer s H vs Q E hr h => ⟨_, PSs.nox (pss_one (ps_xst (pv 0) (pv 1))), ?_⟩), F.bindsN (fun _ _ _ _ _ _ us hl => match us, hl with | [_, _], _ => rfl), fun s a ws kin hl => ?_⟩
  · obtain ⟨a, v, rfl, _⟩ := h
    rfl
  · obtain ⟨a, v, rfl, ha, k⟩ := h
    exact ⟨_, rfl, _, rfl, a, cA K 9, rfl, c.xc, c.no, .inl ⟨ha, fun dx n ne => k dx n ne⟩⟩
  · obtain ⟨oc, od, dV, kV, doc, pm, an, cdv, ct, osl, rfl, lk, hcd, hD, hK⟩ := F.ex
    rcases hD with ⟨_, rfl⟩ | ⟨e, _⟩
    · match ws, hl with
      | [r], _ => exact .of_eq rfl
    · exact absurd rfl e
theorem xk_10 (c : ClsI K 10) (F : ∃ fd, FnI K 10 fd) (hm : mg "InvalidMade" = some (.ref (cA K 10))) : XK1 P w K mg base "InvalidMade" "given" (cA K 10) := by
  obtain ⟨fd, F⟩ := F
  have sc : FnScope ["self", "given"] ["self", "given"] (defScope (sI 10)) := ⟨rfl, rfl, rfl, by decide +kernel, rfl, by decide +kernel, by decide +kernel⟩
  refine ⟨c.xc, hm, c.no, iA K 10, fd, c.ini, c.fn, F.ok sc (fun vs H Q E h => ?_) (fun cdv A outer s H vs Q E hr h => ⟨_, PSs.nox (pss_one (ps_xst (pv 0) (pv 1))), ?_⟩), F.bindsN (fun _ _ _ _ _ _ us hl => match us, hl with | [_, _], _ => rfl), fun s a ws kin hl => ?_⟩
  · obtain ⟨a, v, rfl, _⟩ := h
    rfl
  · obtain ⟨a, v, rfl, ha, k⟩ := h
    exact ⟨_, rfl, _, rfl, a, cA K 10, rfl, c.xc, c.no, .inl ⟨ha, fun dx n ne => k dx n ne⟩⟩
  · obtain ⟨oc, od, dV, kV, doc, pm, an, cdv, ct, osl, rfl, lk, hcd, hD, hK⟩ := F.ex
    rcases hD with ⟨_, rfl⟩ | ⟨e, _⟩
    · match ws, hl with
      | [r], _ => exact .of_eq rfl
    · exact absurd rfl e
theorem xk_11 (c : ClsI K 11) (F : ∃ fd, FnI K 11 fd) (hm : mg "InvalidRow" = some (.ref (cA K 11))) : XK1 P w K mg base "InvalidRow" "position" (cA K 11) := by
  obtain ⟨fd, F⟩ := F
  have sc : FnScope ["self", "position"] ["self", "position"] (defScope (sI 11)) := ⟨rfl, rfl, rfl, by decide +kernel, rfl, by decide +kernel, by decide +kernel⟩
  refine ⟨c.xc, hm, c.no, iA K 11, fd, c.ini, c.fn, F.ok sc (fun vs H Q E h => ?_) (fun cdv A outer s H vs Q E hr h => ⟨_, PSs.nox (pss_one (ps_xst (pv 0) (pv 1))), ?_⟩), F.bindsN (fun _ _ _ _ _ _ us hl => match us, hl with | [_, _], _ => rfl), fun s a ws kin hl => ?_⟩
  · obtain ⟨a, v, rfl, _⟩ := h
    rfl
  · obtain ⟨a, v, rfl, ha, k⟩ := h
    exact ⟨_, rfl, _, rfl, a, cA K 11, rfl, c.xc, c.no, .inl ⟨ha, fun dx n ne => k dx n ne⟩⟩
  · obtain ⟨oc, od, dV, kV, doc, pm, an, cdv, ct, osl, rfl, lk, hcd, hD, hK⟩ := F.ex
    rcases hD with ⟨_, rfl⟩ | ⟨e, _⟩
    · match ws, hl with
      | [r], _ => exact .of_eq rfl
    · exact absurd rfl e
theorem xk_12 (c : ClsI K 12) (F : ∃ fd, FnI K 12 fd) (hm : mg "InvalidName" = some (.ref (cA K 12))) : XK1 P w K mg base "InvalidName" "given" (cA K 12) := by
  obtain ⟨fd, F⟩ := F
  have sc : FnScope ["self", "given"] ["self", "given"] (defScope (sI 12)) := ⟨rfl, rfl, rfl, by decide +kernel, rfl, by decide +kernel, by decide +kernel⟩
  refine ⟨c.xc, hm, c.no, iA K 12, fd, c.ini, c.fn, F.ok sc (fun vs H Q E h => ?_) (fun cdv A outer s H vs Q E hr h => ⟨_, PSs.nox (pss_one (ps_xst (pv 0) (pv 1))), ?_⟩), F.bindsN (fun _ _ _ _ _ _ us hl => match us, hl with | [_, _], _ => rfl), fun s a ws kin hl => ?_⟩
  · obtain ⟨a, v, rfl, _⟩ := h
    rfl
  · obtain ⟨a, v, rfl, ha, k⟩ := h
    exact ⟨_, rfl, _, rfl, a, cA K 12, rfl, c.xc, c.no, .inl ⟨ha, fun dx n ne => k dx n ne⟩⟩
  · obtain ⟨oc, od, dV, kV, doc, pm, an, cdv, ct, osl, rfl, lk, hcd, hD, hK⟩ := F.ex
    rcases hD with ⟨_, rfl⟩ | ⟨e, _⟩
    · match ws, hl with
      | [r], _ => exact .of_eq rfl
    · exact absurd rfl e
theorem xk_13 (c : ClsI K 13) (F : ∃ fd, FnI K 13 fd) (hm : mg "InvalidEdit" = some (.ref (cA K 13))) : XK1 P w K mg base "InvalidEdit" "position" (cA K 13) := by
  obtain ⟨fd, F⟩ := F
  have sc : FnScope ["self", "position"] ["self", "position"] (defScope (sI 13)) := ⟨rfl, rfl, rfl, by decide +kernel, rfl, by decide +kernel, by decide +kernel⟩
  refine ⟨c.xc, hm, c.no, iA K 13, fd, c.ini, c.fn, F.ok sc (fun vs H Q E h => ?_) (fun cdv A outer s H vs Q E hr h => ⟨_, PSs.nox (pss_one (ps_xst (pv 0) (pv 1))), ?_⟩), F.bindsN (fun _ _ _ _ _ _ us hl => match us, hl with | [_, _], _ => rfl), fun s a ws kin hl => ?_⟩
  · obtain ⟨a, v, rfl, _⟩ := h
    rfl
  · obtain ⟨a, v, rfl, ha, k⟩ := h
    exact ⟨_, rfl, _, rfl, a, cA K 13, rfl, c.xc, c.no, .inl ⟨ha, fun dx n ne => k dx n ne⟩⟩
  · obtain ⟨oc, od, dV, kV, doc, pm, an, cdv, ct, osl, rfl, lk, hcd, hD, hK⟩ := F.ex
    rcases hD with ⟨_, rfl⟩ | ⟨e, _⟩
    · match ws, hl with
      | [r], _ => exact .of_eq rfl
    · exact absurd rfl e
theorem xk_14 (c : ClsI K 14) (F : ∃ fd, FnI K 14 fd) (hm : mg "InvalidText" = some (.ref (cA K 14))) : XK1 P w K mg base "InvalidText" "offset" (cA K 14) := by
  obtain ⟨fd, F⟩ := F
  have sc : FnScope ["self", "offset"] ["self", "offset"] (defScope (sI 14)) := ⟨rfl, rfl, rfl, by decide +kernel, rfl, by decide +kernel, by decide +kernel⟩
  refine ⟨c.xc, hm, c.no, iA K 14, fd, c.ini, c.fn, F.ok sc (fun vs H Q E h => ?_) (fun cdv A outer s H vs Q E hr h => ⟨_, PSs.nox (pss_one (ps_xst (pv 0) (pv 1))), ?_⟩), F.bindsN (fun _ _ _ _ _ _ us hl => match us, hl with | [_, _], _ => rfl), fun s a ws kin hl => ?_⟩
  · obtain ⟨a, v, rfl, _⟩ := h
    rfl
  · obtain ⟨a, v, rfl, ha, k⟩ := h
    exact ⟨_, rfl, _, rfl, a, cA K 14, rfl, c.xc, c.no, .inl ⟨ha, fun dx n ne => k dx n ne⟩⟩
  · obtain ⟨oc, od, dV, kV, doc, pm, an, cdv, ct, osl, rfl, lk, hcd, hD, hK⟩ := F.ex
    rcases hD with ⟨_, rfl⟩ | ⟨e, _⟩
    · match ws, hl with
      | [r], _ => exact .of_eq rfl
    · exact absurd rfl e
theorem xk_15 (c : ClsI K 15) (F : ∃ fd, FnI K 15 fd) (hm : mg "Refused" = some (.ref (cA K 15))) : XK2 P w K mg base "Refused" "offset" "reason" (cA K 15) := by
  obtain ⟨fd, F⟩ := F
  have sc : FnScope ["self", "offset", "reason"] ["self", "offset", "reason"] (defScope (sI 15)) := ⟨rfl, rfl, rfl, by decide +kernel, rfl, by decide +kernel, by decide +kernel⟩
  refine ⟨c.xc, hm, c.no, c.noR, iA K 15, fd, c.ini, c.fn, F.ok sc (fun vs H Q E h => ?_) (fun cdv A outer s H vs Q E hr h => ⟨_, PSs.nox (pss_cons (ps_xst (pv 0) (pv 1)) (pss_one (ps_xst (pv 0) (pv 2)))), ?_⟩), F.bindsN (fun _ _ _ _ _ _ us hl => match us, hl with | [_, _, _], _ => rfl), fun s a ws kin hl => ?_⟩
  · obtain ⟨a, v, u, rfl, _⟩ := h
    rfl
  · obtain ⟨a, v, u, rfl, ha, k⟩ := h
    refine ⟨_, rfl, _, rfl, a, cA K 15, rfl, c.xc, c.no, .inl ⟨ha, fun dx n ne => ?_⟩⟩
    exact ⟨_, rfl, _, rfl, a, cA K 15, rfl, c.xc, c.noR, .inr ⟨dx, _, upd_same, (by rw [upd_ne ne, upd_same]), (by show 1 ≤ 900; decide), k dx n ne⟩⟩
  · obtain ⟨oc, od, dV, kV, doc, pm, an, cdv, ct, osl, rfl, lk, hcd, hD, hK⟩ := F.ex
    rcases hD with ⟨_, rfl⟩ | ⟨e, _⟩
    · match ws, hl with
      | [r, o], _ => exact .of_eq rfl
    · exact absurd rfl e
theorem xk_16 (c : ClsI K 16) (F : ∃ fd, FnI K 16 fd) (hm : mg "NotCanonical" = some (.ref (cA K 16))) : XK1 P w K mg base "NotCanonical" "offset" (cA K 16) := by
  obtain ⟨fd, F⟩ := F
  have sc : FnScope ["self", "offset"] ["self", "offset"] (defScope (sI 16)) := ⟨rfl, rfl, rfl, by decide +kernel, rfl, by decide +kernel, by decide +kernel⟩
  refine ⟨c.xc, hm, c.no, iA K 16, fd, c.ini, c.fn, F.ok sc (fun vs H Q E h => ?_) (fun cdv A outer s H vs Q E hr h => ⟨_, PSs.nox (pss_one (ps_xst (pv 0) (pv 1))), ?_⟩), F.bindsN (fun _ _ _ _ _ _ us hl => match us, hl with | [_, _], _ => rfl), fun s a ws kin hl => ?_⟩
  · obtain ⟨a, v, rfl, _⟩ := h
    rfl
  · obtain ⟨a, v, rfl, ha, k⟩ := h
    exact ⟨_, rfl, _, rfl, a, cA K 16, rfl, c.xc, c.no, .inl ⟨ha, fun dx n ne => k dx n ne⟩⟩
  · obtain ⟨oc, od, dV, kV, doc, pm, an, cdv, ct, osl, rfl, lk, hcd, hD, hK⟩ := F.ex
    rcases hD with ⟨_, rfl⟩ | ⟨e, _⟩
    · match ws, hl with
      | [r], _ => exact .of_eq rfl
    · exact absurd rfl e
theorem xk_17 (c : ClsI K 17) (F : ∃ fd, FnI K 17 fd) (hm : mg "TooDeep" = some (.ref (cA K 17))) : XK1 P w K mg base "TooDeep" "limit" (cA K 17) := by
  obtain ⟨fd, F⟩ := F
  have sc : FnScope ["self", "limit"] ["self", "limit"] (defScope (sI 17)) := ⟨rfl, rfl, rfl, by decide +kernel, rfl, by decide +kernel, by decide +kernel⟩
  refine ⟨c.xc, hm, c.no, iA K 17, fd, c.ini, c.fn, F.ok sc (fun vs H Q E h => ?_) (fun cdv A outer s H vs Q E hr h => ⟨_, PSs.nox (pss_one (ps_xst (pv 0) (pv 1))), ?_⟩), F.bindsN (fun _ _ _ _ _ _ us hl => match us, hl with | [_, _], _ => rfl), fun s a ws kin hl => ?_⟩
  · obtain ⟨a, v, rfl, _⟩ := h
    rfl
  · obtain ⟨a, v, rfl, ha, k⟩ := h
    exact ⟨_, rfl, _, rfl, a, cA K 17, rfl, c.xc, c.no, .inl ⟨ha, fun dx n ne => k dx n ne⟩⟩
  · obtain ⟨oc, od, dV, kV, doc, pm, an, cdv, ct, osl, rfl, lk, hcd, hD, hK⟩ := F.ex
    rcases hD with ⟨_, rfl⟩ | ⟨e, _⟩
    · match ws, hl with
      | [r], _ => exact .of_eq rfl
    · exact absurd rfl e
theorem xk_18 (c : ClsI K 18) (F : ∃ fd, FnI K 18 fd) (hm : mg "TooLong" = some (.ref (cA K 18))) : XK1 P w K mg base "TooLong" "limit" (cA K 18) := by
  obtain ⟨fd, F⟩ := F
  have sc : FnScope ["self", "limit"] ["self", "limit"] (defScope (sI 18)) := ⟨rfl, rfl, rfl, by decide +kernel, rfl, by decide +kernel, by decide +kernel⟩
  refine ⟨c.xc, hm, c.no, iA K 18, fd, c.ini, c.fn, F.ok sc (fun vs H Q E h => ?_) (fun cdv A outer s H vs Q E hr h => ⟨_, PSs.nox (pss_one (ps_xst (pv 0) (pv 1))), ?_⟩), F.bindsN (fun _ _ _ _ _ _ us hl => match us, hl with | [_, _], _ => rfl), fun s a ws kin hl => ?_⟩
  · obtain ⟨a, v, rfl, _⟩ := h
    rfl
  · obtain ⟨a, v, rfl, ha, k⟩ := h
    exact ⟨_, rfl, _, rfl, a, cA K 18, rfl, c.xc, c.no, .inl ⟨ha, fun dx n ne => k dx n ne⟩⟩
  · obtain ⟨oc, od, dV, kV, doc, pm, an, cdv, ct, osl, rfl, lk, hcd, hD, hK⟩ := F.ex
    rcases hD with ⟨_, rfl⟩ | ⟨e, _⟩
    · match ws, hl with
      | [r], _ => exact .of_eq rfl
    · exact absurd rfl e
theorem xk_19 (c : ClsI K 19) (F : ∃ fd, FnI K 19 fd) (hm : mg "SelfArgument" = some (.ref (cA K 19))) : XK1 P w K mg base "SelfArgument" "given" (cA K 19) := by
  obtain ⟨fd, F⟩ := F
  have sc : FnScope ["self", "given"] ["self", "given"] (defScope (sI 19)) := ⟨rfl, rfl, rfl, by decide +kernel, rfl, by decide +kernel, by decide +kernel⟩
  refine ⟨c.xc, hm, c.no, iA K 19, fd, c.ini, c.fn, F.ok sc (fun vs H Q E h => ?_) (fun cdv A outer s H vs Q E hr h => ⟨_, PSs.nox (pss_one (ps_xst (pv 0) (pv 1))), ?_⟩), F.bindsN (fun _ _ _ _ _ _ us hl => match us, hl with | [_, _], _ => rfl), fun s a ws kin hl => ?_⟩
  · obtain ⟨a, v, rfl, _⟩ := h
    rfl
  · obtain ⟨a, v, rfl, ha, k⟩ := h
    exact ⟨_, rfl, _, rfl, a, cA K 19, rfl, c.xc, c.no, .inl ⟨ha, fun dx n ne => k dx n ne⟩⟩
  · obtain ⟨oc, od, dV, kV, doc, pm, an, cdv, ct, osl, rfl, lk, hcd, hD, hK⟩ := F.ex
    rcases hD with ⟨_, rfl⟩ | ⟨e, _⟩
    · match ws, hl with
      | [r], _ => exact .of_eq rfl
    · exact absurd rfl e
theorem xk_20 (c : ClsI K 20) (F : ∃ fd, FnI K 20 fd) (hm : mg "KeyTaken" = some (.ref (cA K 20))) : XK1 P w K mg base "KeyTaken" "key" (cA K 20) := by
  obtain ⟨fd, F⟩ := F
  have sc : FnScope ["self", "key"] ["self", "key"] (defScope (sI 20)) := ⟨rfl, rfl, rfl, by decide +kernel, rfl, by decide +kernel, by decide +kernel⟩
  refine ⟨c.xc, hm, c.no, iA K 20, fd, c.ini, c.fn, F.ok sc (fun vs H Q E h => ?_) (fun cdv A outer s H vs Q E hr h => ⟨_, PSs.nox (pss_one (ps_xst (pv 0) (pv 1))), ?_⟩), F.bindsN (fun _ _ _ _ _ _ us hl => match us, hl with | [_, _], _ => rfl), fun s a ws kin hl => ?_⟩
  · obtain ⟨a, v, rfl, _⟩ := h
    rfl
  · obtain ⟨a, v, rfl, ha, k⟩ := h
    exact ⟨_, rfl, _, rfl, a, cA K 20, rfl, c.xc, c.no, .inl ⟨ha, fun dx n ne => k dx n ne⟩⟩
  · obtain ⟨oc, od, dV, kV, doc, pm, an, cdv, ct, osl, rfl, lk, hcd, hD, hK⟩ := F.ex
    rcases hD with ⟨_, rfl⟩ | ⟨e, _⟩
    · match ws, hl with
      | [r], _ => exact .of_eq rfl
    · exact absurd rfl e
theorem xk_21 (c : ClsI K 21) (F : ∃ fd, FnI K 21 fd) (hm : mg "BrandTaken" = some (.ref (cA K 21))) : XK1 P w K mg base "BrandTaken" "given" (cA K 21) := by
  obtain ⟨fd, F⟩ := F
  have sc : FnScope ["self", "given"] ["self", "given"] (defScope (sI 21)) := ⟨rfl, rfl, rfl, by decide +kernel, rfl, by decide +kernel, by decide +kernel⟩
  refine ⟨c.xc, hm, c.no, iA K 21, fd, c.ini, c.fn, F.ok sc (fun vs H Q E h => ?_) (fun cdv A outer s H vs Q E hr h => ⟨_, PSs.nox (pss_one (ps_xst (pv 0) (pv 1))), ?_⟩), F.bindsN (fun _ _ _ _ _ _ us hl => match us, hl with | [_, _], _ => rfl), fun s a ws kin hl => ?_⟩
  · obtain ⟨a, v, rfl, _⟩ := h
    rfl
  · obtain ⟨a, v, rfl, ha, k⟩ := h
    exact ⟨_, rfl, _, rfl, a, cA K 21, rfl, c.xc, c.no, .inl ⟨ha, fun dx n ne => k dx n ne⟩⟩
  · obtain ⟨oc, od, dV, kV, doc, pm, an, cdv, ct, osl, rfl, lk, hcd, hD, hK⟩ := F.ex
    rcases hD with ⟨_, rfl⟩ | ⟨e, _⟩
    · match ws, hl with
      | [r], _ => exact .of_eq rfl
    · exact absurd rfl e
theorem xk_22 (c : ClsI K 22) (F : ∃ fd, FnI K 22 fd) (hm : mg "Full" = some (.ref (cA K 22))) : XK1 P w K mg base "Full" "limit" (cA K 22) := by
  obtain ⟨fd, F⟩ := F
  have sc : FnScope ["self", "limit"] ["self", "limit"] (defScope (sI 22)) := ⟨rfl, rfl, rfl, by decide +kernel, rfl, by decide +kernel, by decide +kernel⟩
  refine ⟨c.xc, hm, c.no, iA K 22, fd, c.ini, c.fn, F.ok sc (fun vs H Q E h => ?_) (fun cdv A outer s H vs Q E hr h => ⟨_, PSs.nox (pss_one (ps_xst (pv 0) (pv 1))), ?_⟩), F.bindsN (fun _ _ _ _ _ _ us hl => match us, hl with | [_, _], _ => rfl), fun s a ws kin hl => ?_⟩
  · obtain ⟨a, v, rfl, _⟩ := h
    rfl
  · obtain ⟨a, v, rfl, ha, k⟩ := h
    exact ⟨_, rfl, _, rfl, a, cA K 22, rfl, c.xc, c.no, .inl ⟨ha, fun dx n ne => k dx n ne⟩⟩
  · obtain ⟨oc, od, dV, kV, doc, pm, an, cdv, ct, osl, rfl, lk, hcd, hD, hK⟩ := F.ex
    rcases hD with ⟨_, rfl⟩ | ⟨e, _⟩
    · match ws, hl with
      | [r], _ => exact .of_eq rfl
    · exact absurd rfl e
theorem xk_23 (c : ClsI K 23) (F : ∃ fd, FnI K 23 fd) (hm : mg "UnknownBrand" = some (.ref (cA K 23))) : XK1 P w K mg base "UnknownBrand" "given" (cA K 23) := by
  obtain ⟨fd, F⟩ := F
  have sc : FnScope ["self", "given"] ["self", "given"] (defScope (sI 23)) := ⟨rfl, rfl, rfl, by decide +kernel, rfl, by decide +kernel, by decide +kernel⟩
  refine ⟨c.xc, hm, c.no, iA K 23, fd, c.ini, c.fn, F.ok sc (fun vs H Q E h => ?_) (fun cdv A outer s H vs Q E hr h => ⟨_, PSs.nox (pss_one (ps_xst (pv 0) (pv 1))), ?_⟩), F.bindsN (fun _ _ _ _ _ _ us hl => match us, hl with | [_, _], _ => rfl), fun s a ws kin hl => ?_⟩
  · obtain ⟨a, v, rfl, _⟩ := h
    rfl
  · obtain ⟨a, v, rfl, ha, k⟩ := h
    exact ⟨_, rfl, _, rfl, a, cA K 23, rfl, c.xc, c.no, .inl ⟨ha, fun dx n ne => k dx n ne⟩⟩
  · obtain ⟨oc, od, dV, kV, doc, pm, an, cdv, ct, osl, rfl, lk, hcd, hD, hK⟩ := F.ex
    rcases hD with ⟨_, rfl⟩ | ⟨e, _⟩
    · match ws, hl with
      | [r], _ => exact .of_eq rfl
    · exact absurd rfl e
theorem xk_24 (c : ClsI K 24) (F : ∃ fd, FnI K 24 fd) (hm : mg "NoEntry" = some (.ref (cA K 24))) : XK1 P w K mg base "NoEntry" "key" (cA K 24) := by
  obtain ⟨fd, F⟩ := F
  have sc : FnScope ["self", "key"] ["self", "key"] (defScope (sI 24)) := ⟨rfl, rfl, rfl, by decide +kernel, rfl, by decide +kernel, by decide +kernel⟩
  refine ⟨c.xc, hm, c.no, iA K 24, fd, c.ini, c.fn, F.ok sc (fun vs H Q E h => ?_) (fun cdv A outer s H vs Q E hr h => ⟨_, PSs.nox (pss_one (ps_xst (pv 0) (pv 1))), ?_⟩), F.bindsN (fun _ _ _ _ _ _ us hl => match us, hl with | [_, _], _ => rfl), fun s a ws kin hl => ?_⟩
  · obtain ⟨a, v, rfl, _⟩ := h
    rfl
  · obtain ⟨a, v, rfl, ha, k⟩ := h
    exact ⟨_, rfl, _, rfl, a, cA K 24, rfl, c.xc, c.no, .inl ⟨ha, fun dx n ne => k dx n ne⟩⟩
  · obtain ⟨oc, od, dV, kV, doc, pm, an, cdv, ct, osl, rfl, lk, hcd, hD, hK⟩ := F.ex
    rcases hD with ⟨_, rfl⟩ | ⟨e, _⟩
    · match ws, hl with
      | [r], _ => exact .of_eq rfl
    · exact absurd rfl e
theorem xk_25 (c : ClsI K 25) (F : ∃ fd, FnI K 25 fd) (hm : mg "NoName" = some (.ref (cA K 25))) : XK1 P w K mg base "NoName" "given" (cA K 25) := by
  obtain ⟨fd, F⟩ := F
  have sc : FnScope ["self", "given"] ["self", "given"] (defScope (sI 25)) := ⟨rfl, rfl, rfl, by decide +kernel, rfl, by decide +kernel, by decide +kernel⟩
  refine ⟨c.xc, hm, c.no, iA K 25, fd, c.ini, c.fn, F.ok sc (fun vs H Q E h => ?_) (fun cdv A outer s H vs Q E hr h => ⟨_, PSs.nox (pss_one (ps_xst (pv 0) (pv 1))), ?_⟩), F.bindsN (fun _ _ _ _ _ _ us hl => match us, hl with | [_, _], _ => rfl), fun s a ws kin hl => ?_⟩
  · obtain ⟨a, v, rfl, _⟩ := h
    rfl
  · obtain ⟨a, v, rfl, ha, k⟩ := h
    exact ⟨_, rfl, _, rfl, a, cA K 25, rfl, c.xc, c.no, .inl ⟨ha, fun dx n ne => k dx n ne⟩⟩
  · obtain ⟨oc, od, dV, kV, doc, pm, an, cdv, ct, osl, rfl, lk, hcd, hD, hK⟩ := F.ex
    rcases hD with ⟨_, rfl⟩ | ⟨e, _⟩
    · match ws, hl with
      | [r], _ => exact .of_eq rfl
    · exact absurd rfl e
theorem xk_26 (c : ClsI K 26) (F : ∃ fd, FnI K 26 fd) (hm : mg "NothingToUndo" = some (.ref (cA K 26))) : XK1 P w K mg base "NothingToUndo" "count" (cA K 26) := by
  obtain ⟨fd, F⟩ := F
  have sc : FnScope ["self", "count"] ["self", "count"] (defScope (sI 26)) := ⟨rfl, rfl, rfl, by decide +kernel, rfl, by decide +kernel, by decide +kernel⟩
  refine ⟨c.xc, hm, c.no, iA K 26, fd, c.ini, c.fn, F.ok sc (fun vs H Q E h => ?_) (fun cdv A outer s H vs Q E hr h => ⟨_, PSs.nox (pss_one (ps_xst (pv 0) (pv 1))), ?_⟩), F.bindsN (fun _ _ _ _ _ _ us hl => match us, hl with | [_, _], _ => rfl), fun s a ws kin hl => ?_⟩
  · obtain ⟨a, v, rfl, _⟩ := h
    rfl
  · obtain ⟨a, v, rfl, ha, k⟩ := h
    exact ⟨_, rfl, _, rfl, a, cA K 26, rfl, c.xc, c.no, .inl ⟨ha, fun dx n ne => k dx n ne⟩⟩
  · obtain ⟨oc, od, dV, kV, doc, pm, an, cdv, ct, osl, rfl, lk, hcd, hD, hK⟩ := F.ex
    rcases hD with ⟨_, rfl⟩ | ⟨e, _⟩
    · match ws, hl with
      | [r], _ => exact .of_eq rfl
    · exact absurd rfl e
structure All (P : Program) (w : World) (K : PySem.W.Frag) (mg : Str → Option Value) (base : Heap) : Prop where
  c : ∀ i < 27, ClsI K i
  k0 : XK1 P w K mg base "InvalidValue" "value" (cA K 0)
  k1 : XK1 P w K mg base "InvalidNumbers" "value" (cA K 1)
  k2 : XK1 P w K mg base "InvalidKey" "key" (cA K 2)
  k3 : XK1 P w K mg base "InvalidIndex" "index" (cA K 3)
  k4 : XK1 P w K mg base "InvalidBrand" "given" (cA K 4)
  k5 : XK1 P w K mg base "InvalidTakes" "value" (cA K 5)
  k6 : XK1 P w K mg base "InvalidVersion" "value" (cA K 6)
  k7 : XK1 P w K mg base "InvalidStream" "value" (cA K 7)
  k8 : XK1 P w K mg base "InvalidLabel" "value" (cA K 8)
  k9 : XK1 P w K mg base "InvalidReduction" "given" (cA K 9)
  k10 : XK1 P w K mg base "InvalidMade" "given" (cA K 10)
  k11 : XK1 P w K mg base "InvalidRow" "position" (cA K 11)
  k12 : XK1 P w K mg base "InvalidName" "given" (cA K 12)
  k13 : XK1 P w K mg base "InvalidEdit" "position" (cA K 13)
  k14 : XK1 P w K mg base "InvalidText" "offset" (cA K 14)
  k15 : XK2 P w K mg base "Refused" "offset" "reason" (cA K 15)
  k16 : XK1 P w K mg base "NotCanonical" "offset" (cA K 16)
  k17 : XK1 P w K mg base "TooDeep" "limit" (cA K 17)
  k18 : XK1 P w K mg base "TooLong" "limit" (cA K 18)
  k19 : XK1 P w K mg base "SelfArgument" "given" (cA K 19)
  k20 : XK1 P w K mg base "KeyTaken" "key" (cA K 20)
  k21 : XK1 P w K mg base "BrandTaken" "given" (cA K 21)
  k22 : XK1 P w K mg base "Full" "limit" (cA K 22)
  k23 : XK1 P w K mg base "UnknownBrand" "given" (cA K 23)
  k24 : XK1 P w K mg base "NoEntry" "key" (cA K 24)
  k25 : XK1 P w K mg base "NoName" "given" (cA K 25)
  k26 : XK1 P w K mg base "NothingToUndo" "count" (cA K 26)
  sys : SysK K
  isi : mg "isinstance" = none
end
end Kx

set_option Elab.async false
set_option linter.all false
set_option maxRecDepth 100000
set_option maxHeartbeats 4000000
namespace Kx
open PySem PySem.Spec PyProof.Rows L2
section
variable {P : Program} {w : World} {K : PySem.W.Frag} {mg : Str → Option Value} {base : Heap}
/-- what the i-th class's errors hold of the value v -/
def fsI (i : Nat) (v : V) : List (Str × V) := if i = 15 then [("reason", .str "stack"), ("offset", v)] else [(efld i, v)]
/-- at p: the three lists of new errors -/
structure Made (K : PySem.W.Frag) (H : Hp) (v : V) (p : Addr) : Prop where
  ex : ∃ (l1 l2 l3 : Addr) (a1 a2 a3 : List Addr), H p = some (.lst [.ref l1, .ref l2, .ref l3]) ∧ H l1 = some (.lst (a1.map V.ref)) ∧ H l2 = some (.lst (a2.map V.ref)) ∧ H l3 = some (.lst (a3.map V.ref)) ∧
    a1.length = 17 ∧ a2.length = 6 ∧ a3.length = 4 ∧ (∀ j < 17, ∃ a, a1[j]? = some a ∧ ExAt H a (cA K j) (fsI j v)) ∧ (∀ j < 6, ∃ a, a2[j]? = some a ∧ ExAt H a (cA K (17 + j)) (fsI (17 + j) v)) ∧ (∀ j < 4, ∃ a, a3[j]? = some a ∧ ExAt H a (cA K (23 + j)) (fsI (23 + j) v))
def spMade (K : PySem.W.Frag) : Sp := fun vs H Q _ => ∃ v : V, vs = [v] ∧ ∀ p H', Same H H' → Made K H' v p → Q (.ref p) H'
abbrev sMade : Stmt := top 35
abbrev sKinds : Stmt := top 36
theorem scMade : FnScope ["what", "first", "second"] ["what"] (defScope sMade) := ⟨rfl, rfl, rfl, by decide +kernel, rfl, by decide +kernel, by decide +kernel⟩
theorem sz (n : Nat) (h : n ≤ 1000) : n ≤ sizeLine := Nat.le_trans h (by decide)
theorem exs_get {H : Hp} {v : V} {cs : List XSpec} {as : List Addr} (m n : Nat) (h : Exs H v cs as) (e : ∀ j < n, ∃ c, cs[j]? = some c ∧ c.1 = cA K (m + j) ∧ c.2 v = fsI (m + j) v) : ∀ j < n, ∃ a, as[j]? = some a ∧ ExAt H a (cA K (m + j)) (fsI (m + j) v) := fun j hj => by
  obtain ⟨c, h1, h2, h3⟩ := e j hj
  obtain ⟨a, h4, h5⟩ := h.get h1
  rw [h2, h3] at h5
  exact ⟨a, h4, h5⟩
theorem ok_made {f : Addr} {fd : FuncData} (F : FnP K "_law_made" sMade f fd) (T : All P w K mg base) : FnOk P w K mg base CX0 3 f fd ["what"] (spMade K) := by
  refine F.ok scMade (fun vs H Q E h => ?_) (fun cdv A outer s H vs Q E hr hh => ?_)
  · obtain ⟨v, rfl, _⟩ := h
    rfl
  · have hr2 : Room 2 _ := hr
    refine ⟨_, PSs.nox (pss_cons (ps_set (i := 1) scMade.nd rfl (Or.inl rfl) (pe_lst (pa_xc (pe_x1 T.k0 hr2 (by rfl) (pv 0)) (pa_xc (pe_x1 T.k1 hr2 (by rfl) (pv 0)) (pa_xc (pe_x1 T.k2 hr2 (by rfl) (pv 0)) (pa_xc (pe_x1 T.k3 hr2 (by rfl) (pv 0)) (pa_xc (pe_x1 T.k4 hr2 (by rfl) (pv 0)) pa_xn)))))))
      (pss_cons (ps_set (i := 1) scMade.nd rfl (Or.inl rfl) (pe_op op_catS (pv 1) (pe_lst (pa_xc (pe_x1 T.k5 hr2 (by rfl) (pv 0)) (pa_xc (pe_x1 T.k6 hr2 (by rfl) (pv 0)) (pa_xc (pe_x1 T.k7 hr2 (by rfl) (pv 0)) (pa_xc (pe_x1 T.k8 hr2 (by rfl) (pv 0)) pa_xn)))))))
      (pss_cons (ps_set (i := 1) scMade.nd rfl (Or.inl rfl) (pe_op op_catS (pv 1) (pe_lst (pa_xc (pe_x1 T.k9 hr2 (by rfl) (pv 0)) (pa_xc (pe_x1 T.k10 hr2 (by rfl) (pv 0)) (pa_xc (pe_x1 T.k11 hr2 (by rfl) (pv 0)) (pa_xc (pe_x1 T.k12 hr2 (by rfl) (pv 0)) pa_xn)))))))
      (pss_cons (ps_set (i := 1) scMade.nd rfl (Or.inl rfl) (pe_op op_catS (pv 1) (pe_lst (pa_xc (pe_x1 T.k13 hr2 (by rfl) (pv 0)) (pa_xc (pe_x1 T.k14 hr2 (by rfl) (pv 0)) (pa_xc (pe_x2 T.k15 hr2 (by rfl) (pv 0)) (pa_xc (pe_x1 T.k16 hr2 (by rfl) (pv 0)) pa_xn)))))))
      (pss_cons (ps_set (i := 2) scMade.nd rfl (Or.inl rfl) (pe_lst (pa_xc (pe_x1 T.k17 hr2 (by rfl) (pv 0)) (pa_xc (pe_x1 T.k18 hr2 (by rfl) (pv 0)) (pa_xc (pe_x1 T.k19 hr2 (by rfl) (pv 0)) (pa_xc (pe_x1 T.k20 hr2 (by rfl) (pv 0)) (pa_xc (pe_x1 T.k21 hr2 (by rfl) (pv 0)) (pa_xc (pe_x1 T.k22 hr2 (by rfl) (pv 0)) pa_xn))))))))
      (pss_one (ps_ret (pe_lst (pa_cons (pv 1) (pa_cons (pv 2) (pa_cons (pe_lst (pa_xc (pe_x1 T.k23 hr2 (by rfl) (pv 0)) (pa_xc (pe_x1 T.k24 hr2 (by rfl) (pv 0)) (pa_xc (pe_x1 T.k25 hr2 (by rfl) (pv 0)) (pa_xc (pe_x1 T.k26 hr2 (by rfl) (pv 0)) pa_xn))))) pa_nil))))))))))), ?_⟩
    obtain ⟨v, rfl, k⟩ := hh
    -- first
    refine ⟨v, rfl, fun a1 H1 s1 x1 => ⟨by rw [List.length_map, x1.len]; exact sz 5 (by decide), fun p1 n1 => ?_⟩⟩
    have u1 := same_new (o := .lst (a1.map V.ref)) n1
    refine ⟨_, rfl, v, rfl, fun a2 H2 s2 x2 => ⟨by rw [List.length_map, x2.len]; exact sz 4 (by decide), fun p2 n2 => ?_⟩⟩
    have u2 := same_new (o := .lst (a2.map V.ref)) n2
    refine ⟨p1, p2, _, _, rfl, rfl, SqL.of (u2 _ _ (s2 _ _ upd_same)), SqL.of upd_same, (by rw [List.length_map, List.length_map, x1.len, x2.len]; exact sz 9 (by decide)), fun q1 m1 => ?_⟩
    have w1 := same_new (o := .lst (a1.map V.ref ++ a2.map V.ref)) m1
    refine ⟨_, rfl, v, rfl, fun a3 H3 s3 x3 => ⟨by rw [List.length_map, x3.len]; exact sz 4 (by decide), fun p3 n3 => ?_⟩⟩
    have u3 := same_new (o := .lst (a3.map V.ref)) n3
    refine ⟨q1, p3, _, _, rfl, rfl, SqL.of (u3 _ _ (s3 _ _ upd_same)), SqL.of upd_same, (by rw [List.length_append, List.length_map, List.length_map, List.length_map, x1.len, x2.len, x3.len]; exact sz 13 (by decide)), fun q2 m2 => ?_⟩
    have w2 := same_new (o := .lst ((a1.map V.ref ++ a2.map V.ref) ++ a3.map V.ref)) m2
    refine ⟨_, rfl, v, rfl, fun a4 H4 s4 x4 => ⟨by rw [List.length_map, x4.len]; exact sz 4 (by decide), fun p4 n4 => ?_⟩⟩
    have u4 := same_new (o := .lst (a4.map V.ref)) n4
    refine ⟨q2, p4, _, _, rfl, rfl, SqL.of (u4 _ _ (s4 _ _ upd_same)), SqL.of upd_same, (by rw [List.length_append, List.length_append, List.length_map, List.length_map, List.length_map, List.length_map, x1.len, x2.len, x3.len, x4.len]; exact sz 17 (by decide)), fun q3 m3 => ?_⟩
    have w3 := same_new (o := .lst (((a1.map V.ref ++ a2.map V.ref) ++ a3.map V.ref) ++ a4.map V.ref)) m3
    -- second
    refine ⟨v, rfl, fun a5 H5 s5 x5 => ⟨by rw [List.length_map, x5.len]; exact sz 6 (by decide), fun p5 n5 => ?_⟩⟩
    have u5 := same_new (o := .lst (a5.map V.ref)) n5
    refine ⟨_, rfl, _, rfl, v, rfl, fun a6 H6 s6 x6 => ⟨by rw [List.length_map, x6.len]; exact sz 4 (by decide), fun p6 n6 => ?_⟩⟩
    have u6 := same_new (o := .lst (a6.map V.ref)) n6
    refine ⟨sz 3 (by decide), fun p7 n7 => ?_⟩
    have u7 := same_new (o := .lst [.ref q3, .ref p5, .ref p6]) n7
    -- from each heap to the last
    have e6 := u6.tr u7
    have e5 := u5.tr (s6.tr e6)
    have e4 := u4.tr (w3.tr (s5.tr e5))
    have e3 := u3.tr (w2.tr (s4.tr e4))
    have e2 := u2.tr (w1.tr (s3.tr e3))
    have e1 := u1.tr (s2.tr e2)
    have X := ((((x1.mono e1).app (x2.mono e2)).app (x3.mono e3)).app (x4.mono e4))
    refine k p7 _ (s1.tr e1) ⟨q3, p5, p6, ((a1 ++ a2) ++ a3) ++ a4, a5, a6, upd_same, ?_, (s6.tr e6) _ _ upd_same, u7 _ _ upd_same, X.len, x5.len, x6.len, ?_, ?_, ?_⟩
    · have z := s5.tr e5 _ _ (upd_same (H := upd H4 p4 (.lst (a4.map V.ref))) (a := q3) (o := .lst (((a1.map V.ref ++ a2.map V.ref) ++ a3.map V.ref) ++ a4.map V.ref)))
      rw [List.map_append, List.map_append, List.map_append]
      exact z
    · intro j hj
      have z := exs_get (K := K) 0 17 X (fun j hj => by
        match j, hj with
        | 0, _ => exact ⟨_, rfl, rfl, rfl⟩
        | 1, _ => exact ⟨_, rfl, rfl, rfl⟩
        | 2, _ => exact ⟨_, rfl, rfl, rfl⟩
        | 3, _ => exact ⟨_, rfl, rfl, rfl⟩
        | 4, _ => exact ⟨_, rfl, rfl, rfl⟩
        | 5, _ => exact ⟨_, rfl, rfl, rfl⟩
        | 6, _ => exact ⟨_, rfl, rfl, rfl⟩
        | 7, _ => exact ⟨_, rfl, rfl, rfl⟩
        | 8, _ => exact ⟨_, rfl, rfl, rfl⟩
        | 9, _ => exact ⟨_, rfl, rfl, rfl⟩
        | 10, _ => exact ⟨_, rfl, rfl, rfl⟩
        | 11, _ => exact ⟨_, rfl, rfl, rfl⟩
        | 12, _ => exact ⟨_, rfl, rfl, rfl⟩
        | 13, _ => exact ⟨_, rfl, rfl, rfl⟩
        | 14, _ => exact ⟨_, rfl, rfl, rfl⟩
        | 15, _ => exact ⟨_, rfl, rfl, rfl⟩
        | 16, _ => exact ⟨_, rfl, rfl, rfl⟩
        | j + 17, h => exact absurd h (by omega)
        ) j hj
      rw [Nat.zero_add] at z
      exact z
    · exact exs_get (K := K) 17 6 (x5.mono e5) (fun j hj => by
        match j, hj with
        | 0, _ => exact ⟨_, rfl, rfl, rfl⟩
        | 1, _ => exact ⟨_, rfl, rfl, rfl⟩
        | 2, _ => exact ⟨_, rfl, rfl, rfl⟩
        | 3, _ => exact ⟨_, rfl, rfl, rfl⟩
        | 4, _ => exact ⟨_, rfl, rfl, rfl⟩
        | 5, _ => exact ⟨_, rfl, rfl, rfl⟩
        )
    · exact exs_get (K := K) 23 4 (x6.mono e6) (fun j hj => by
        match j, hj with
        | 0, _ => exact ⟨_, rfl, rfl, rfl⟩
        | 1, _ => exact ⟨_, rfl, rfl, rfl⟩
        | 2, _ => exact ⟨_, rfl, rfl, rfl⟩
        | 3, _ => exact ⟨_, rfl, rfl, rfl⟩
        )
end
end Kx

set_option Elab.async false
set_option linter.all false
set_option maxRecDepth 100000
set_option maxHeartbeats 4000000
namespace Kx
open PySem PySem.Spec PyProof.Rows L2
section
variable {P : Program} {w : World} {K : PySem.W.Frag} {mg : Str → Option Value} {base : Heap}
theorem scKinds : FnScope ["e", "found"] ["e"] (defScope sKinds) := ⟨rfl, rfl, rfl, by decide +kernel, rfl, by decide +kernel, by decide +kernel⟩
def kinds (i : Nat) : List Bool := (List.range 27).map fun j => decide (j = i)
/-- which of the classes e is of: its own alone -/
def spKinds (K : PySem.W.Frag) : Sp := fun vs H Q _ => ∃ (a : Addr) (i : Nat) (fs : List (Str × V)), vs = [.ref a] ∧ i < 27 ∧ ExAt H a (cA K i) fs ∧ ∀ p H', H p = none → Same H H' → H' p = some (.lst ((kinds i).map V.bl)) → Q (.ref p) H'
theorem ok_kinds {f : Addr} {fd : FuncData} (F : FnP K "_law_kinds" sKinds f fd) (T : All P w K mg base) : FnOk P w K mg base CX0 1 f fd ["e"] (spKinds K) := by
  refine F.ok scKinds (fun vs H Q E h => ?_) (fun cdv A outer s H vs Q E hr hh => ?_)
  · obtain ⟨a, i, fs, rfl, _⟩ := h
    rfl
  · obtain ⟨a, i, fs, rfl, hi, x, k⟩ := hh
    have c := T.c i hi
    refine ⟨_, PSs.nox (pss_cons (ps_set (i := 1) scKinds.nd rfl (Or.inl rfl) (pe_lst (pa_isc (pe_is1 c.xc (by rfl) T.isi (pv 0) (by rfl) T.k0.hm (c.kit 0 (by decide))) (pa_isc (pe_is1 c.xc (by rfl) T.isi (pv 0) (by rfl) T.k1.hm (c.kit 1 (by decide))) (pa_isc (pe_is1 c.xc (by rfl) T.isi (pv 0) (by rfl) T.k2.hm (c.kit 2 (by decide))) pa_isn)))))
      (pss_cons (ps_set (i := 1) scKinds.nd rfl (Or.inl rfl) (pe_op op_catS (pv 1) (pe_lst (pa_isc (pe_is1 c.xc (by rfl) T.isi (pv 0) (by rfl) T.k3.hm (c.kit 3 (by decide))) (pa_isc (pe_is1 c.xc (by rfl) T.isi (pv 0) (by rfl) T.k4.hm (c.kit 4 (by decide))) (pa_isc (pe_is1 c.xc (by rfl) T.isi (pv 0) (by rfl) T.k5.hm (c.kit 5 (by decide))) pa_isn))))))
      (pss_cons (ps_set (i := 1) scKinds.nd rfl (Or.inl rfl) (pe_op op_catS (pv 1) (pe_lst (pa_isc (pe_is1 c.xc (by rfl) T.isi (pv 0) (by rfl) T.k6.hm (c.kit 6 (by decide))) (pa_isc (pe_is1 c.xc (by rfl) T.isi (pv 0) (by rfl) T.k7.hm (c.kit 7 (by decide))) (pa_isc (pe_is1 c.xc (by rfl) T.isi (pv 0) (by rfl) T.k8.hm (c.kit 8 (by decide))) pa_isn))))))
      (pss_cons (ps_set (i := 1) scKinds.nd rfl (Or.inl rfl) (pe_op op_catS (pv 1) (pe_lst (pa_isc (pe_is1 c.xc (by rfl) T.isi (pv 0) (by rfl) T.k9.hm (c.kit 9 (by decide))) (pa_isc (pe_is1 c.xc (by rfl) T.isi (pv 0) (by rfl) T.k10.hm (c.kit 10 (by decide))) (pa_isc (pe_is1 c.xc (by rfl) T.isi (pv 0) (by rfl) T.k11.hm (c.kit 11 (by decide))) pa_isn))))))
      (pss_cons (ps_set (i := 1) scKinds.nd rfl (Or.inl rfl) (pe_op op_catS (pv 1) (pe_lst (pa_isc (pe_is1 c.xc (by rfl) T.isi (pv 0) (by rfl) T.k12.hm (c.kit 12 (by decide))) (pa_isc (pe_is1 c.xc (by rfl) T.isi (pv 0) (by rfl) T.k13.hm (c.kit 13 (by decide))) (pa_isc (pe_is1 c.xc (by rfl) T.isi (pv 0) (by rfl) T.k14.hm (c.kit 14 (by decide))) pa_isn))))))
      (pss_cons (ps_set (i := 1) scKinds.nd rfl (Or.inl rfl) (pe_op op_catS (pv 1) (pe_lst (pa_isc (pe_is1 c.xc (by rfl) T.isi (pv 0) (by rfl) T.k15.hm (c.kit 15 (by decide))) (pa_isc (pe_is1 c.xc (by rfl) T.isi (pv 0) (by rfl) T.k16.hm (c.kit 16 (by decide))) (pa_isc (pe_is1 c.xc (by rfl) T.isi (pv 0) (by rfl) T.k17.hm (c.kit 17 (by decide))) pa_isn))))))
      (pss_cons (ps_set (i := 1) scKinds.nd rfl (Or.inl rfl) (pe_op op_catS (pv 1) (pe_lst (pa_isc (pe_is1 c.xc (by rfl) T.isi (pv 0) (by rfl) T.k18.hm (c.kit 18 (by decide))) (pa_isc (pe_is1 c.xc (by rfl) T.isi (pv 0) (by rfl) T.k19.hm (c.kit 19 (by decide))) (pa_isc (pe_is1 c.xc (by rfl) T.isi (pv 0) (by rfl) T.k20.hm (c.kit 20 (by decide))) pa_isn))))))
      (pss_cons (ps_set (i := 1) scKinds.nd rfl (Or.inl rfl) (pe_op op_catS (pv 1) (pe_lst (pa_isc (pe_is1 c.xc (by rfl) T.isi (pv 0) (by rfl) T.k21.hm (c.kit 21 (by decide))) (pa_isc (pe_is1 c.xc (by rfl) T.isi (pv 0) (by rfl) T.k22.hm (c.kit 22 (by decide))) (pa_isc (pe_is1 c.xc (by rfl) T.isi (pv 0) (by rfl) T.k23.hm (c.kit 23 (by decide))) pa_isn))))))
      (pss_one (ps_ret (pe_op op_catS (pv 1) (pe_lst (pa_isc (pe_is1 c.xc (by rfl) T.isi (pv 0) (by rfl) T.k24.hm (c.kit 24 (by decide))) (pa_isc (pe_is1 c.xc (by rfl) T.isi (pv 0) (by rfl) T.k25.hm (c.kit 25 (by decide))) (pa_isc (pe_is1 c.xc (by rfl) T.isi (pv 0) (by rfl) T.k26.hm (c.kit 26 (by decide))) pa_isn))))))))))))))), ?_⟩
    refine ⟨a, fs, rfl, x, sz 3 (by decide), fun p0 n0 => ?_⟩
    have u0 := same_new (o := .lst ([V.bl (decide (0 = i)), V.bl (decide (1 = i)), V.bl (decide (2 = i))])) n0
    refine ⟨_, rfl, a, fs, rfl, x.mono u0, sz 3 (by decide), fun r1 m1 => ?_⟩
    have v1 := same_new (o := .lst ([V.bl (decide (3 = i)), V.bl (decide (4 = i)), V.bl (decide (5 = i))])) m1
    refine ⟨p0, r1, [V.bl (decide (0 = i)), V.bl (decide (1 = i)), V.bl (decide (2 = i))], [V.bl (decide (3 = i)), V.bl (decide (4 = i)), V.bl (decide (5 = i))], rfl, rfl, SqL.of (v1 _ _ upd_same), SqL.of upd_same, sz 6 (by decide), fun p1 n1 => ?_⟩
    have w1 := same_new (o := .lst ([V.bl (decide (0 = i)), V.bl (decide (1 = i)), V.bl (decide (2 = i))] ++ [V.bl (decide (3 = i)), V.bl (decide (4 = i)), V.bl (decide (5 = i))])) n1
    have u1 := u0.tr (v1.tr w1)
    refine ⟨_, rfl, a, fs, rfl, x.mono u1, sz 3 (by decide), fun r2 m2 => ?_⟩
    have v2 := same_new (o := .lst ([V.bl (decide (6 = i)), V.bl (decide (7 = i)), V.bl (decide (8 = i))])) m2
    refine ⟨p1, r2, [V.bl (decide (0 = i)), V.bl (decide (1 = i)), V.bl (decide (2 = i)), V.bl (decide (3 = i)), V.bl (decide (4 = i)), V.bl (decide (5 = i))], [V.bl (decide (6 = i)), V.bl (decide (7 = i)), V.bl (decide (8 = i))], rfl, rfl, SqL.of (v2 _ _ upd_same), SqL.of upd_same, sz 9 (by decide), fun p2 n2 => ?_⟩
    have w2 := same_new (o := .lst ([V.bl (decide (0 = i)), V.bl (decide (1 = i)), V.bl (decide (2 = i)), V.bl (decide (3 = i)), V.bl (decide (4 = i)), V.bl (decide (5 = i))] ++ [V.bl (decide (6 = i)), V.bl (decide (7 = i)), V.bl (decide (8 = i))])) n2
    have u2 := u1.tr (v2.tr w2)
    refine ⟨_, rfl, a, fs, rfl, x.mono u2, sz 3 (by decide), fun r3 m3 => ?_⟩
    have v3 := same_new (o := .lst ([V.bl (decide (9 = i)), V.bl (decide (10 = i)), V.bl (decide (11 = i))])) m3
    refine ⟨p2, r3, [V.bl (decide (0 = i)), V.bl (decide (1 = i)), V.bl (decide (2 = i)), V.bl (decide (3 = i)), V.bl (decide (4 = i)), V.bl (decide (5 = i)), V.bl (decide (6 = i)), V.bl (decide (7 = i)), V.bl (decide (8 = i))], [V.bl (decide (9 = i)), V.bl (decide (10 = i)), V.bl (decide (11 = i))], rfl, rfl, SqL.of (v3 _ _ upd_same), SqL.of upd_same, sz 12 (by decide), fun p3 n3 => ?_⟩
    have w3 := same_new (o := .lst ([V.bl (decide (0 = i)), V.bl (decide (1 = i)), V.bl (decide (2 = i)), V.bl (decide (3 = i)), V.bl (decide (4 = i)), V.bl (decide (5 = i)), V.bl (decide (6 = i)), V.bl (decide (7 = i)), V.bl (decide (8 = i))] ++ [V.bl (decide (9 = i)), V.bl (decide (10 = i)), V.bl (decide (11 = i))])) n3
    have u3 := u2.tr (v3.tr w3)
    refine ⟨_, rfl, a, fs, rfl, x.mono u3, sz 3 (by decide), fun r4 m4 => ?_⟩
    have v4 := same_new (o := .lst ([V.bl (decide (12 = i)), V.bl (decide (13 = i)), V.bl (decide (14 = i))])) m4
    refine ⟨p3, r4, [V.bl (decide (0 = i)), V.bl (decide (1 = i)), V.bl (decide (2 = i)), V.bl (decide (3 = i)), V.bl (decide (4 = i)), V.bl (decide (5 = i)), V.bl (decide (6 = i)), V.bl (decide (7 = i)), V.bl (decide (8 = i)), V.bl (decide (9 = i)), V.bl (decide (10 = i)), V.bl (decide (11 = i))], [V.bl (decide (12 = i)), V.bl (decide (13 = i)), V.bl (decide (14 = i))], rfl, rfl, SqL.of (v4 _ _ upd_same), SqL.of upd_same, sz 15 (by decide), fun p4 n4 => ?_⟩
    have w4 := same_new (o := .lst ([V.bl (decide (0 = i)), V.bl (decide (1 = i)), V.bl (decide (2 = i)), V.bl (decide (3 = i)), V.bl (decide (4 = i)), V.bl (decide (5 = i)), V.bl (decide (6 = i)), V.bl (decide (7 = i)), V.bl (decide (8 = i)), V.bl (decide (9 = i)), V.bl (decide (10 = i)), V.bl (decide (11 = i))] ++ [V.bl (decide (12 = i)), V.bl (decide (13 = i)), V.bl (decide (14 = i))])) n4
    have u4 := u3.tr (v4.tr w4)
    refine ⟨_, rfl, a, fs, rfl, x.mono u4, sz 3 (by decide), fun r5 m5 => ?_⟩
    have v5 := same_new (o := .lst ([V.bl (decide (15 = i)), V.bl (decide (16 = i)), V.bl (decide (17 = i))])) m5
    refine ⟨p4, r5, [V.bl (decide (0 = i)), V.bl (decide (1 = i)), V.bl (decide (2 = i)), V.bl (decide (3 = i)), V.bl (decide (4 = i)), V.bl (decide (5 = i)), V.bl (decide (6 = i)), V.bl (decide (7 = i)), V.bl (decide (8 = i)), V.bl (decide (9 = i)), V.bl (decide (10 = i)), V.bl (decide (11 = i)), V.bl (decide (12 = i)), V.bl (decide (13 = i)), V.bl (decide (14 = i))], [V.bl (decide (15 = i)), V.bl (decide (16 = i)), V.bl (decide (17 = i))], rfl, rfl, SqL.of (v5 _ _ upd_same), SqL.of upd_same, sz 18 (by decide), fun p5 n5 => ?_⟩
    have w5 := same_new (o := .lst ([V.bl (decide (0 = i)), V.bl (decide (1 = i)), V.bl (decide (2 = i)), V.bl (decide (3 = i)), V.bl (decide (4 = i)), V.bl (decide (5 = i)), V.bl (decide (6 = i)), V.bl (decide (7 = i)), V.bl (decide (8 = i)), V.bl (decide (9 = i)), V.bl (decide (10 = i)), V.bl (decide (11 = i)), V.bl (decide (12 = i)), V.bl (decide (13 = i)), V.bl (decide (14 = i))] ++ [V.bl (decide (15 = i)), V.bl (decide (16 = i)), V.bl (decide (17 = i))])) n5
    have u5 := u4.tr (v5.tr w5)
    refine ⟨_, rfl, a, fs, rfl, x.mono u5, sz 3 (by decide), fun r6 m6 => ?_⟩
    have v6 := same_new (o := .lst ([V.bl (decide (18 = i)), V.bl (decide (19 = i)), V.bl (decide (20 = i))])) m6
    refine ⟨p5, r6, [V.bl (decide (0 = i)), V.bl (decide (1 = i)), V.bl (decide (2 = i)), V.bl (decide (3 = i)), V.bl (decide (4 = i)), V.bl (decide (5 = i)), V.bl (decide (6 = i)), V.bl (decide (7 = i)), V.bl (decide (8 = i)), V.bl (decide (9 = i)), V.bl (decide (10 = i)), V.bl (decide (11 = i)), V.bl (decide (12 = i)), V.bl (decide (13 = i)), V.bl (decide (14 = i)), V.bl (decide (15 = i)), V.bl (decide (16 = i)), V.bl (decide (17 = i))], [V.bl (decide (18 = i)), V.bl (decide (19 = i)), V.bl (decide (20 = i))], rfl, rfl, SqL.of (v6 _ _ upd_same), SqL.of upd_same, sz 21 (by decide), fun p6 n6 => ?_⟩
    have w6 := same_new (o := .lst ([V.bl (decide (0 = i)), V.bl (decide (1 = i)), V.bl (decide (2 = i)), V.bl (decide (3 = i)), V.bl (decide (4 = i)), V.bl (decide (5 = i)), V.bl (decide (6 = i)), V.bl (decide (7 = i)), V.bl (decide (8 = i)), V.bl (decide (9 = i)), V.bl (decide (10 = i)), V.bl (decide (11 = i)), V.bl (decide (12 = i)), V.bl (decide (13 = i)), V.bl (decide (14 = i)), V.bl (decide (15 = i)), V.bl (decide (16 = i)), V.bl (decide (17 = i))] ++ [V.bl (decide (18 = i)), V.bl (decide (19 = i)), V.bl (decide (20 = i))])) n6
    have u6 := u5.tr (v6.tr w6)
    refine ⟨_, rfl, a, fs, rfl, x.mono u6, sz 3 (by decide), fun r7 m7 => ?_⟩
    have v7 := same_new (o := .lst ([V.bl (decide (21 = i)), V.bl (decide (22 = i)), V.bl (decide (23 = i))])) m7
    refine ⟨p6, r7, [V.bl (decide (0 = i)), V.bl (decide (1 = i)), V.bl (decide (2 = i)), V.bl (decide (3 = i)), V.bl (decide (4 = i)), V.bl (decide (5 = i)), V.bl (decide (6 = i)), V.bl (decide (7 = i)), V.bl (decide (8 = i)), V.bl (decide (9 = i)), V.bl (decide (10 = i)), V.bl (decide (11 = i)), V.bl (decide (12 = i)), V.bl (decide (13 = i)), V.bl (decide (14 = i)), V.bl (decide (15 = i)), V.bl (decide (16 = i)), V.bl (decide (17 = i)), V.bl (decide (18 = i)), V.bl (decide (19 = i)), V.bl (decide (20 = i))], [V.bl (decide (21 = i)), V.bl (decide (22 = i)), V.bl (decide (23 = i))], rfl, rfl, SqL.of (v7 _ _ upd_same), SqL.of upd_same, sz 24 (by decide), fun p7 n7 => ?_⟩
    have w7 := same_new (o := .lst ([V.bl (decide (0 = i)), V.bl (decide (1 = i)), V.bl (decide (2 = i)), V.bl (decide (3 = i)), V.bl (decide (4 = i)), V.bl (decide (5 = i)), V.bl (decide (6 = i)), V.bl (decide (7 = i)), V.bl (decide (8 = i)), V.bl (decide (9 = i)), V.bl (decide (10 = i)), V.bl (decide (11 = i)), V.bl (decide (12 = i)), V.bl (decide (13 = i)), V.bl (decide (14 = i)), V.bl (decide (15 = i)), V.bl (decide (16 = i)), V.bl (decide (17 = i)), V.bl (decide (18 = i)), V.bl (decide (19 = i)), V.bl (decide (20 = i))] ++ [V.bl (decide (21 = i)), V.bl (decide (22 = i)), V.bl (decide (23 = i))])) n7
    have u7 := u6.tr (v7.tr w7)
    refine ⟨_, rfl, a, fs, rfl, x.mono u7, sz 3 (by decide), fun r8 m8 => ?_⟩
    have v8 := same_new (o := .lst ([V.bl (decide (24 = i)), V.bl (decide (25 = i)), V.bl (decide (26 = i))])) m8
    refine ⟨p7, r8, [V.bl (decide (0 = i)), V.bl (decide (1 = i)), V.bl (decide (2 = i)), V.bl (decide (3 = i)), V.bl (decide (4 = i)), V.bl (decide (5 = i)), V.bl (decide (6 = i)), V.bl (decide (7 = i)), V.bl (decide (8 = i)), V.bl (decide (9 = i)), V.bl (decide (10 = i)), V.bl (decide (11 = i)), V.bl (decide (12 = i)), V.bl (decide (13 = i)), V.bl (decide (14 = i)), V.bl (decide (15 = i)), V.bl (decide (16 = i)), V.bl (decide (17 = i)), V.bl (decide (18 = i)), V.bl (decide (19 = i)), V.bl (decide (20 = i)), V.bl (decide (21 = i)), V.bl (decide (22 = i)), V.bl (decide (23 = i))], [V.bl (decide (24 = i)), V.bl (decide (25 = i)), V.bl (decide (26 = i))], rfl, rfl, SqL.of (v8 _ _ upd_same), SqL.of upd_same, sz 27 (by decide), fun p8 n8 => ?_⟩
    have w8 := same_new (o := .lst ([V.bl (decide (0 = i)), V.bl (decide (1 = i)), V.bl (decide (2 = i)), V.bl (decide (3 = i)), V.bl (decide (4 = i)), V.bl (decide (5 = i)), V.bl (decide (6 = i)), V.bl (decide (7 = i)), V.bl (decide (8 = i)), V.bl (decide (9 = i)), V.bl (decide (10 = i)), V.bl (decide (11 = i)), V.bl (decide (12 = i)), V.bl (decide (13 = i)), V.bl (decide (14 = i)), V.bl (decide (15 = i)), V.bl (decide (16 = i)), V.bl (decide (17 = i)), V.bl (decide (18 = i)), V.bl (decide (19 = i)), V.bl (decide (20 = i)), V.bl (decide (21 = i)), V.bl (decide (22 = i)), V.bl (decide (23 = i))] ++ [V.bl (decide (24 = i)), V.bl (decide (25 = i)), V.bl (decide (26 = i))])) n8
    have u8 := u7.tr (v8.tr w8)
    exact k p8 _ ((u7.tr v8).free n8) u8 upd_same
end
end Kx

set_option Elab.async false
set_option linter.all false
set_option maxRecDepth 100000
set_option maxHeartbeats 4000000
namespace Kx
open PySem PySem.Spec PyProof.Rows L2
section
variable {P : Program} {w : World} {K : PySem.W.Frag} {mg : Str → Option Value} {base : Heap}
abbrev sFam : Stmt := top 37
abbrev NF : List Str := ["made", "at", "spot", "group", "e", "kinds", "own", "other", "k"]
theorem scFam : FnScope NF ["made"] (defScope sFam) := ⟨rfl, rfl, rfl, by decide +kernel, rfl, by decide +kernel, by decide +kernel⟩
def offs (g : Nat) : Nat := if g = 0 then 0 else if g = 1 then 17 else if g = 2 then 23 else 27
def glen (g : Nat) : Nat := if g = 0 then 17 else if g = 1 then 6 else 4
theorem offs_fam : ∀ g < 3, ∀ j < glen g, offs g + j < 27 ∧ efam (offs g + j) = g ∧ offs (g + 1) = offs g + glen g := by decide
theorem made_grp {H : Hp} {v : V} {p : Addr} (M : Made K H v p) : ∃ xs : List V, H p = some (.lst xs) ∧ xs.length = 3 ∧ ∀ g < 3, ∃ (l : Addr) (as : List Addr), xs[g]? = some (.ref l) ∧ H l = some (.lst (as.map V.ref)) ∧ as.length = glen g ∧
    ∀ j < glen g, ∃ a, as[j]? = some a ∧ ExAt H a (cA K (offs g + j)) (fsI (offs g + j) v) := by
  obtain ⟨l1, l2, l3, a1, a2, a3, h, h1, h2, h3, n1, n2, n3, e1, e2, e3⟩ := M.ex
  refine ⟨_, h, rfl, fun g hg => ?_⟩
  match g, hg with
  | 0, _ => exact ⟨l1, a1, rfl, h1, n1, fun j hj => by
      have z := e1 j hj
      show ∃ a, a1[j]? = some a ∧ ExAt H a (cA K (0 + j)) (fsI (0 + j) v)
      rw [Nat.zero_add]
      exact z⟩
  | 1, _ => exact ⟨l2, a2, rfl, h2, n2, e2⟩
  | 2, _ => exact ⟨l3, a3, rfl, h3, n3, e3⟩
def spFam (K : PySem.W.Frag) : Sp := fun vs H Q _ => ∃ (p : Addr) (v : V), vs = [.ref p] ∧ Made K H v p ∧ ∀ H', Same H H' → Q (.bl true) H'
/-- what the families' part asks of the names -/
structure TF (K : PySem.W.Frag) (mg : Str → Option Value) : Prop where
  en : mg "enumerate" = none
  rg : mg "range" = none
  isi : mg "isinstance" = none
  j1 : mg "JarError" = some (.ref (He.ga K "JarError"))
  j2 : mg "StateError" = some (.ref (He.ga K "StateError"))
  j3 : mg "MissingError" = some (.ref (He.ga K "MissingError"))
  b1 : mg "ValueError" = none
  b2 : mg "RuntimeError" = none
  b3 : mg "LookupError" = none
  c1 : mg "KeyError" = none
  c2 : mg "IndexError" = none
  c3 : mg "NotImplementedError" = none
/-- the truth values of one family -/
def famL (g : Nat) : List Bool := (List.range 3).map fun f => decide (g = f)
theorem dpB {H : Hp} : ∀ bs : List Bool, DpAll K H (bs.map V.bl) (bs.map PyData.bool)
  | [] => .nil
  | b :: bs => .cons (.bl b) (dpB bs)
theorem same_updN {H H' : Hp} {p : Addr} {o : HO} (s : Same H H') (n : H p = none) : Same H (upd H' p o) := fun b u e => by
  rw [upd_ne (ne_of_none e n)]
  exact s b u e
theorem fam_sh : ∀ g < 3, SeqAt.shaped (.list ((famL g).map PyData.bool)) = true := by decide +kernel
theorem fam_eq : ∀ g < 3, PyData.eqv (.list ((famL g).map PyData.bool)) (.list ((famL g).map PyData.bool)) = true := by decide +kernel
theorem kinds_cnt : ∀ i < 27, (kinds i).count true = 1 := by decide +kernel
theorem kinds_at : ∀ i < 27, ((kinds i).map V.bl)[i]? = some (V.bl true) := by decide +kernel
theorem own_eq {g : Nat} : ([V.bl (decide (g = 0)), V.bl (decide (g = 1)), V.bl (decide (g = 2))] : List V) = (famL g).map V.bl := rfl
theorem dec_spot (f g : Nat) : decide (V.int (0 + (f : Int)) = V.int (g : Int)) = decide (g = f) := by
  by_cases e : g = f
  · subst e
    rw [Int.zero_add]
    simp
  · rw [decide_eq_false e]
    refine decide_eq_false fun z => e ?_
    have z' := V.int.inj z
    omega
theorem famL_take (g i : Nat) (h : i < 3) : (((List.range i).map fun f => V.bl (decide (g = f))) ++ [V.bl (decide (g = i))]) = (List.range (i + 1)).map fun f => V.bl (decide (g = f)) := by
  rw [List.range_succ, List.map_append]
  rfl
theorem ok_fam {f fk : Addr} {fd fdk : FuncData} (F : FnP K "_law_families_right" sFam f fd) (FK : FnP K "_law_kinds" sKinds fk fdk) (gK : mg "_law_kinds" = some (.ref fk)) (T : All P w K mg base) (N : TF K mg) : FnOk P w K mg base CX0 2 f fd ["made"] (spFam K) := by
  have GK : FnOk P w K mg base CX0 1 fk fdk ["e"] (spKinds K) := ok_kinds FK T
  have bK : Binds K fdk ["e"] [] := FK.bindsN fun _ _ _ _ _ _ us hl => match us, hl with | [_], _ => rfl
  refine F.ok scFam (fun vs H Q E h => ?_) (fun cdv A outer s H vs Q E hr hh => ?_)
  · obtain ⟨p, v, rfl, _⟩ := h
    rfl
  · have hu := hu_of hr
    refine ⟨_, PSs.nox (pss_cons (ps_set (i := 1) scFam.nd rfl (Or.inl rfl) pe_int)
      (pss_cons (ps_for PassesOwn.never rfl (pi_enum (by rfl) N.en (pa_cons (pv 0) pa_nil)) (pg_tup (by rfl) (pgs_cons (pg_name (i := 2) scFam.nd rfl (Or.inr rfl)) (pgs_cons (pg_name (i := 3) scFam.nd rfl (Or.inl rfl)) pgs_nil)))
        (pss_one (ps_for PassesOwn.never rfl (pi_list (pv 3)) (pg_name (i := 4) scFam.nd rfl (Or.inl rfl))
          (pss_cons (ps_set (i := 5) scFam.nd rfl (Or.inl rfl) (pe_call GK hr (by rfl) gK FK.kp bK .nil pass0 (pa_cons (pv 4) pa_nil)))
          (pss_cons (ps_set (i := 6) scFam.nd rfl (Or.inl rfl) (pe_lst (pa_cons (pe_callB call_isX (by rfl) N.isi (by decide +kernel) (pa_cons (pv 4) (pa_cons (pe_glob (v := .ref (He.ga K "JarError")) (by rfl) N.j1 rfl) pa_nil)))
            (pa_cons (pe_callB call_isX (by rfl) N.isi (by decide +kernel) (pa_cons (pv 4) (pa_cons (pe_glob (v := .ref (He.ga K "StateError")) (by rfl) N.j2 rfl) pa_nil)))
            (pa_cons (pe_callB call_isX (by rfl) N.isi (by decide +kernel) (pa_cons (pv 4) (pa_cons (pe_glob (v := .ref (He.ga K "MissingError")) (by rfl) N.j3 rfl) pa_nil))) pa_nil)))))
          (pss_cons (ps_set (i := 7) scFam.nd rfl (Or.inl rfl) (pe_lst (pa_cons (pe_callB call_isX (by rfl) N.isi (by decide +kernel) (pa_cons (pv 4) (pa_cons (pe_bltn (v := .ty "ValueError") (by rfl) N.b1 (by decide +kernel) rfl) pa_nil)))
            (pa_cons (pe_callB call_isX (by rfl) N.isi (by decide +kernel) (pa_cons (pv 4) (pa_cons (pe_bltn (v := .ty "RuntimeError") (by rfl) N.b2 (by decide +kernel) rfl) pa_nil)))
            (pa_cons (pe_callB call_isX (by rfl) N.isi (by decide +kernel) (pa_cons (pv 4) (pa_cons (pe_bltn (v := .ty "LookupError") (by rfl) N.b3 (by decide +kernel) rfl) pa_nil))) pa_nil)))))
          (pss_cons (ps_if (PW.pt (pw_or (pt_cmpR op_ne (pe_bm PySem.F.plainAttrs_list PySem.F.slot_list_count (by kernel_rfl) mt_countB (pv 5) (pa_cons pe_bl pa_nil)) pe_int (nomark _))
              (pw_or (pt_not (pt_val (pe_ix ix_list (pv 5) (pv 1) (fun _ _ => rfl))))
              (pw_or (pt_cmpR (op_neD hr.units) (pv 6) (pe_lc (own := [("k", 8)]) (g := gName 8) (tt := tYes) rfl scFam.nd (pi_range1 (by rfl) N.rg (pa_cons pe_int pa_nil)) (blkOk_by (own := [("k", 8)]) (N := NF) (sc := defScope sFam) (by decide +kernel))
                (fun _ _ _ _ _ => pg_name (i := 8) scFam.nd rfl (Or.inl rfl)) (fun _ _ _ _ _ => pts_nil) (fun _ _ _ _ _ => pe_cmpR op_eq (pv 8) (pv 2) (nomark _))) (nomark _))
              (pw_or1 (pt_cmpR (op_neD hr.units) (pv 7) (pv 6) (nomark _))))))) (pss_one (ps_ret pe_bl)) pss_nil)
          (pss_cons (ps_if (pt_val (pe_callB call_isXT (by rfl) N.isi (by decide +kernel) (pa_cons (pv 4) (pa_cons (pe_tup (pa_cons (pe_bltn (v := .ty "KeyError") (by rfl) N.c1 (by decide +kernel) rfl) (pa_cons (pe_bltn (v := .ty "IndexError") (by rfl) N.c2 (by decide +kernel) rfl)
              (pa_cons (pe_bltn (v := .ty "NotImplementedError") (by rfl) N.c3 (by decide +kernel) rfl) pa_nil)))) pa_nil)))) (pss_one (ps_ret pe_bl)) pss_nil)
          (pss_one (ps_set (i := 1) scFam.nd rfl (Or.inl rfl) (pe_op op_add (pv 1) pe_int)))))))))))
      (pss_one (ps_ret (pe_cmpR op_eq (pv 1) pe_int (nomark _)))))), ?_⟩
    obtain ⟨p, v, rfl, M, k⟩ := hh
    obtain ⟨xs, hp, hxl, hg⟩ := made_grp M
    refine ⟨_, rfl, p, xs, rfl, SqL.of hp, for_it walk_enum (fun g σ H' => ∃ t2 t3 t4 t5 t6 t7 t8 : Option V, σ = [some (.ref p), some (.int (offs g : Nat)), t2, t3, t4, t5, t6, t7, t8] ∧ Same H H')
      ⟨none, none, none, none, none, none, none, rfl, Same.refl'⟩ (fun g σ H' _ ⟨_, _, _, _, _, _, _, _, s⟩ => s.seq (SqL.of hp)) ?_ ?_⟩
    · rintro g y σ H' H'' hgl ⟨t2, t3, t4, t5, t6, t7, t8, rfl, s1⟩ ⟨TT, a1, a2, rfl, nT, rfl, ea1, ea2⟩
      rw [hxl] at hgl
      obtain ⟨l, as, el, hl, lenA, has⟩ := hg g hgl
      dsimp only at ea1 ea2
      have ea1' : V.int ((g : Nat) : Int) = a1 := by simpa using ea1
      rw [el] at ea2
      have ea2' : V.ref l = a2 := by simpa using ea2
      subst ea1' ea2'
      have s2 := s1.tr (same_new (o := .tup [.int ((g : Nat) : Int), .ref l]) nT)
      refine ⟨TT, _, rfl, SqT.of upd_same, rfl, _, _, rfl, _, _, rfl, rfl, ?_⟩
      refine ⟨_, rfl, l, rfl, ⟨_, SqL.of (s2 _ _ hl)⟩, for_list (K := K) (a := l) (xs := as.map V.ref) (fun j σ H' => ∃ t4 t5 t6 t7 t8 : Option V, σ = [some (.ref p), some (.int ((offs g + j : Nat) : Int)), some (.int (g : Nat)), some (.ref l), t4, t5, t6, t7, t8] ∧ Same H H')
        ⟨t4, t5, t6, t7, t8, rfl, s2⟩ (fun j σ H' _ ⟨_, _, _, _, _, _, s⟩ => s.seq (SqL.of hl)) ?_ ?_⟩
      · rintro j y σ H3 hj ⟨t4, t5, t6, t7, t8, rfl, s3⟩
        have hj' : j < glen g := by
          have z := (List.getElem?_eq_some_iff.mp hj).1
          rw [List.length_map, lenA] at z
          exact z
        obtain ⟨a, ha, xa⟩ := has j hj'
        rw [List.getElem?_map, ha] at hj
        have ey : y = V.ref a := (Option.some.inj hj).symm
        subst ey
        obtain ⟨i27, hfam, _⟩ := offs_fam g hgl j hj'
        have ci := T.c _ i27
        have x3 := xa.mono s3
        refine ⟨_, rfl, a, offs g + j, _, rfl, i27, x3, fun pk H4 nk s4 hk => ?_⟩
        have x4 := x3.mono s4
        have k0 := ci.own 0 (by decide)
        have k1 := ci.own 1 (by decide)
        have k2 := ci.own 2 (by decide)
        have b0 := ci.blt 0 (by decide)
        have b1 := ci.blt 1 (by decide)
        have b2 := ci.blt 2 (by decide)
        rw [hfam] at k0 k1 k2 b0 b1 b2
        refine ⟨_, rfl, a, _, _, .ref (He.ga K "JarError"), _, _, rfl, x4, ci.xc, fun u r => r, k0, _, rfl, a, _, _, .ref (He.ga K "StateError"), _, _, rfl, x4, ci.xc, fun u r => r, k1,
          _, rfl, a, _, _, .ref (He.ga K "MissingError"), _, _, rfl, x4, ci.xc, fun u r => r, k2, sz 3 (by decide), fun po no => ?_⟩
        have x5 := x4.mono (same_new (o := .lst ((famL g).map V.bl)) no)
        refine ⟨_, rfl, a, _, _, .ty "ValueError", _, _, rfl, x5, ci.xc, fun u r => r, b0, _, rfl, a, _, _, .ty "RuntimeError", _, _, rfl, x5, ci.xc, fun u r => r, b1,
          _, rfl, a, _, _, .ty "LookupError", _, _, rfl, x5, ci.xc, fun u r => r, b2, sz 3 (by decide), fun pt nt => ?_⟩
        have u5 : Same H4 (upd (upd H4 po (.lst ((famL g).map V.bl))) pt (.lst ((famL g).map V.bl))) := (same_new no).tr (same_new nt)
        have ho5 : (upd (upd H4 po (.lst ((famL g).map V.bl))) pt (.lst ((famL g).map V.bl))) po = some (.lst ((famL g).map V.bl)) := (same_new nt) _ _ upd_same
        have hk5 := u5 _ _ hk
        have x6 := x4.mono u5
        -- the test
        refine ⟨_, rfl, .inl ⟨rfl, _, SqL.of hk5⟩, pk, kinds (offs g + j), true, rfl, rfl, SqL.of hk5, rfl, _, rfl, ?_⟩
        refine iteNS (by rw [kinds_cnt _ i27]; rfl) ?_
        refine ⟨_, rfl, _, rfl, pk, _, _, V.bl true, rfl, rfl, SqL.of hk5, at_of (j := offs g + j) rfl (kinds_at _ i27), _, rfl, ?_⟩
        refine iteF ?_
        refine ⟨_, rfl, 3, rfl, by decide, by decide, fun D nD => lc_range (fun i H' => Same (upd (upd H4 po (.lst ((famL g).map V.bl))) pt (.lst ((famL g).map V.bl))) H' ∧ H' D = some (.lst ((List.range i).map fun f => V.bl (decide (g = f))))) ⟨same_new nD, upd_same⟩ ?_ ?_⟩
        · rintro i H' hi ⟨s7, hD⟩
          refine ⟨rfl, ?_⟩
          show tOp rEq (tVar 8) (tVar 2) _ _ _
          refine ⟨_, rfl, _, rfl, rfl, _, hD, (by rw [List.length_map, List.length_range]; exact Nat.lt_of_lt_of_le hi (sz 3 (by decide))), ?_, ?_⟩
          · exact same_updN s7 nD
          · rw [dec_spot, famL_take g i hi]
            exact upd_same
        · rintro H' ⟨s7, hD0⟩
          have hD : H' D = some (.lst ((famL g).map V.bl)) := hD0
          have ho7 := s7 _ _ ho5
          have ht7 : H' pt = some (.lst ((famL g).map V.bl)) := s7 _ _ upd_same
          have x7 := x6.mono s7
          refine ⟨.list ((famL g).map PyData.bool), .list ((famL g).map PyData.bool), .lst (SqL.of ho7) (dpB _), .lst (SqL.of hD) (dpB _), fam_sh g hgl, fam_sh g hgl, _, rfl, ?_⟩
          rw [fam_eq g hgl]
          refine iteF ?_
          refine ⟨_, rfl, _, rfl, .list ((famL g).map PyData.bool), .list ((famL g).map PyData.bool), .lst (SqL.of ht7) (dpB _), .lst (SqL.of ho7) (dpB _), fam_sh g hgl, fam_sh g hgl, _, rfl, ?_⟩
          rw [fam_eq g hgl]
          refine iteF ?_
          -- no built-in error besides
          refine ⟨_, rfl, sz 3 (by decide), fun tp nt' => ?_⟩
          refine ⟨a, _, tp, _, [.ty "KeyError", .ty "IndexError", .ty "NotImplementedError"], [.type "KeyError", .type "IndexError", .type "NotImplementedError"], false, rfl, x7.mono (same_new nt'), ci.xc, upd_same, (fun us r => ?_), ci.any, _, rfl, ?_⟩
          · cases r with
            | cons r1 r =>
              cases r with
              | cons r2 r =>
                cases r with
                | cons r3 r =>
                  cases r
                  cases r1
                  cases r2
                  cases r3
                  rfl
          · refine iteF ?_
            refine ⟨_, rfl, _, _, rfl, rfl, _, _, _, _, _, rfl, ?_⟩
            exact ((((s3.tr s4).tr u5).tr s7).tr (same_new nt'))
      · rintro σ H3 ⟨t4, t5, t6, t7, t8, rfl, s3⟩
        rw [List.length_map, lenA]
        have e27 : offs g + glen g = offs (g + 1) := by
          match g, hgl with
          | 0, _ => rfl
          | 1, _ => rfl
          | 2, _ => rfl
        rw [e27]
        exact ⟨_, _, _, _, _, _, _, rfl, s3⟩
    · rintro σ H' ⟨t2, t3, t4, t5, t6, t7, t8, rfl, s1⟩
      rw [hxl]
      refine ⟨_, rfl, rfl, ?_⟩
      exact k _ s1
end
end Kx

set_option Elab.async false
set_option linter.all false
set_option maxRecDepth 100000
set_option maxHeartbeats 4000000
namespace Kx
open PySem PySem.Spec PyProof.Rows L2
section
variable {P : Program} {w : World} {K : PySem.W.Frag} {mg : Str → Option Value} {base : Heap}
abbrev sFields : Stmt := top 38
abbrev sNamed : Stmt := top 39
theorem scFields : FnScope ["made", "first", "second", "third", "found"] ["made"] (defScope sFields) := ⟨rfl, rfl, rfl, by decide +kernel, rfl, by decide +kernel, by decide +kernel⟩
theorem scNamed : FnScope ["what", "found"] ["what"] (defScope sNamed) := ⟨rfl, rfl, rfl, by decide +kernel, rfl, by decide +kernel, by decide +kernel⟩
def spFields (K : PySem.W.Frag) : Sp := fun vs H Q _ => ∃ (p : Addr) (v : V), vs = [.ref p] ∧ Made K H v p ∧ ∀ q pf H', Same H H' → H' q = some (.tup [.ref pf, .str "stack"]) → H' pf = some (.lst (List.replicate 27 v)) → Q (.ref q) H'
def spNamed : Sp := fun vs H Q _ => ∃ v : V, vs = [v] ∧ ∀ pf H', Same H H' → H' pf = some (.lst (List.replicate 27 v)) → Q (.ref pf) H'
/-- the three lists of errors stand in the slots 1, 2, 3 -/
def MC (K : PySem.W.Frag) (v : V) (σ : L2.St) (H : Hp) : Prop := ∀ g < 3, ∃ (l : Addr) (as : List Addr), σ[1 + g]? = some (some (.ref l)) ∧ H l = some (.lst (as.map V.ref)) ∧ as.length = glen g ∧ ∀ j < glen g, ∃ a, as[j]? = some a ∧ ExAt H a (cA K (offs g + j)) (fsI (offs g + j) v)
theorem MC.same {v : V} {σ : L2.St} {H H' : Hp} (m : MC K v σ H) (s : Same H H') : MC K v σ H' := fun g hg => by
  obtain ⟨l, as, h1, h2, h3, h4⟩ := m g hg
  refine ⟨l, as, h1, s _ _ h2, h3, fun j hj => ?_⟩
  obtain ⟨a, h5, h6⟩ := h4 j hj
  exact ⟨a, h5, h6.mono s⟩
def tM1 (K : PySem.W.Frag) (r : V → V) : TE := fun σ H Q => ∃ v, MC K v σ H ∧ Q (r v) H
def tMs (K : PySem.W.Frag) (n : Nat) : TA := fun σ H Q => ∃ v, MC K v σ H ∧ Q (List.replicate n v) H
section
variable {X : Cx} {e : Expr} {es : List Expr} {n : Nat} {f : Str} {p1 p2 p3 : Pos} {c : Int} {z : Nat}
/-- x[j].f, x the list in the slot 1 + g -/
theorem pe_mf (g j : Nat) {r : V → V} (hX : X.K = K) (hg : g < 3) (hj : j < glen g) (hc : c = (j : Int)) (xc : Xc K (cA K (offs g + j))) (no : PySem.W.findIn K (.ref (cA K (offs g + j))) f = some none) (lk : ∀ v, (fsI (offs g + j) v).lookup f = some (r v)) (he : PE X e (tVar (1 + g)))
    (hb : attributeBase (.Subscript e (.Constant (.int c) z p1) p2) f X.env (eval (.Subscript e (.Constant (.int c) z p1) p2) X.env) = eval (.Subscript e (.Constant (.int c) z p1) p2) X.env := by rfl) :
    PE X (.Attribute (.Subscript e (.Constant (.int c) z p1) p2) f p3) (tM1 K r) := by
  subst hX
  refine PE.imp (pe_xfd (pe_ix ix_list he pe_int (fun _ _ => rfl)) hb) fun σ H Q h => ?_
  obtain ⟨v, m, k⟩ := h
  obtain ⟨l, as, h1, h2, h3, h4⟩ := m g hg
  obtain ⟨a, h5, h6⟩ := h4 j hj
  exact ⟨_, h1, l, as.map V.ref, c, V.ref a, rfl, rfl, SqL.of h2, at_of hc (by rw [List.getElem?_map, h5]; rfl), a, _, _, r v, rfl, h6, xc, no, lk v, k⟩
theorem pa_mn : PA X [] (tMs K 0) := PA.imp pa_nil fun σ H Q h => by
  obtain ⟨v, _, k⟩ := h
  exact k
theorem pa_mc (he : PE X e (tM1 K fun v => v)) (hr : PA X es (tMs K n)) (hs : starEach (e :: es) X.env = (false, eval e X.env) :: starEach es X.env := by rfl) : PA X (e :: es) (tMs K (n + 1)) := PA.imp (pa_cons he hr hs) fun σ H Q h => by
  obtain ⟨v, m, k⟩ := h
  exact ⟨v, m, v, m, k⟩
end
theorem ok_fields {f : Addr} {fd : FuncData} (F : FnP K "_law_fields" sFields f fd) (T : All P w K mg base) : FnOk P w K mg base CX0 1 f fd ["made"] (spFields K) := by
  refine F.ok scFields (fun vs H Q E h => ?_) (fun cdv A outer s H vs Q E hr hh => ?_)
  · obtain ⟨p, v, rfl, _⟩ := h
    rfl
  · refine ⟨_, PSs.nox (pss_cons (ps_par3 rfl scFields.nd rfl rfl rfl (by decide) (by decide) (by decide) rfl rfl rfl (i := 1) (j := 2) (l := 3) (pa_cons (pe_ix ix_list (pv 0) pe_int (fun _ _ => rfl)) (pa_cons (pe_ix ix_list (pv 0) pe_int (fun _ _ => rfl)) (pa_cons (pe_ix ix_list (pv 0) pe_int (fun _ _ => rfl)) pa_nil))) (by rfl))
      (pss_cons (ps_set (i := 4) scFields.nd rfl (Or.inl rfl) (pe_lst (pa_mc (pe_mf 0 0 rfl (by decide) (by decide) rfl (T.c 0 (by decide)).xc (T.c 0 (by decide)).no (fun v => by kernel_rfl) (pv 1)) (pa_mc (pe_mf 0 1 rfl (by decide) (by decide) rfl (T.c 1 (by decide)).xc (T.c 1 (by decide)).no (fun v => by kernel_rfl) (pv 1)) (pa_mc (pe_mf 0 2 rfl (by decide) (by decide) rfl (T.c 2 (by decide)).xc (T.c 2 (by decide)).no (fun v => by kernel_rfl) (pv 1)) (pa_mc (pe_mf 0 3 rfl (by decide) (by decide) rfl (T.c 3 (by decide)).xc (T.c 3 (by decide)).no (fun v => by kernel_rfl) (pv 1)) (pa_mc (pe_mf 0 4 rfl (by decide) (by decide) rfl (T.c 4 (by decide)).xc (T.c 4 (by decide)).no (fun v => by kernel_rfl) (pv 1)) (pa_mc (pe_mf 0 5 rfl (by decide) (by decide) rfl (T.c 5 (by decide)).xc (T.c 5 (by decide)).no (fun v => by kernel_rfl) (pv 1)) pa_mn))))))))
      (pss_cons (ps_set (i := 4) scFields.nd rfl (Or.inl rfl) (pe_op op_catS (pv 4) (pe_lst (pa_mc (pe_mf 0 6 rfl (by decide) (by decide) rfl (T.c 6 (by decide)).xc (T.c 6 (by decide)).no (fun v => by kernel_rfl) (pv 1)) (pa_mc (pe_mf 0 7 rfl (by decide) (by decide) rfl (T.c 7 (by decide)).xc (T.c 7 (by decide)).no (fun v => by kernel_rfl) (pv 1)) (pa_mc (pe_mf 0 8 rfl (by decide) (by decide) rfl (T.c 8 (by decide)).xc (T.c 8 (by decide)).no (fun v => by kernel_rfl) (pv 1)) (pa_mc (pe_mf 0 9 rfl (by decide) (by decide) rfl (T.c 9 (by decide)).xc (T.c 9 (by decide)).no (fun v => by kernel_rfl) (pv 1)) (pa_mc (pe_mf 0 10 rfl (by decide) (by decide) rfl (T.c 10 (by decide)).xc (T.c 10 (by decide)).no (fun v => by kernel_rfl) (pv 1)) pa_mn))))))))
      (pss_cons (ps_set (i := 4) scFields.nd rfl (Or.inl rfl) (pe_op op_catS (pv 4) (pe_lst (pa_mc (pe_mf 0 11 rfl (by decide) (by decide) rfl (T.c 11 (by decide)).xc (T.c 11 (by decide)).no (fun v => by kernel_rfl) (pv 1)) (pa_mc (pe_mf 0 12 rfl (by decide) (by decide) rfl (T.c 12 (by decide)).xc (T.c 12 (by decide)).no (fun v => by kernel_rfl) (pv 1)) (pa_mc (pe_mf 0 13 rfl (by decide) (by decide) rfl (T.c 13 (by decide)).xc (T.c 13 (by decide)).no (fun v => by kernel_rfl) (pv 1)) (pa_mc (pe_mf 0 14 rfl (by decide) (by decide) rfl (T.c 14 (by decide)).xc (T.c 14 (by decide)).no (fun v => by kernel_rfl) (pv 1)) (pa_mc (pe_mf 0 15 rfl (by decide) (by decide) rfl (T.c 15 (by decide)).xc (T.c 15 (by decide)).no (fun v => by kernel_rfl) (pv 1)) pa_mn))))))))
      (pss_cons (ps_set (i := 4) scFields.nd rfl (Or.inl rfl) (pe_op op_catS (pv 4) (pe_lst (pa_mc (pe_mf 0 16 rfl (by decide) (by decide) rfl (T.c 16 (by decide)).xc (T.c 16 (by decide)).no (fun v => by kernel_rfl) (pv 1)) (pa_mc (pe_mf 1 0 rfl (by decide) (by decide) rfl (T.c 17 (by decide)).xc (T.c 17 (by decide)).no (fun v => by kernel_rfl) (pv 2)) (pa_mc (pe_mf 1 1 rfl (by decide) (by decide) rfl (T.c 18 (by decide)).xc (T.c 18 (by decide)).no (fun v => by kernel_rfl) (pv 2)) (pa_mc (pe_mf 1 2 rfl (by decide) (by decide) rfl (T.c 19 (by decide)).xc (T.c 19 (by decide)).no (fun v => by kernel_rfl) (pv 2)) (pa_mc (pe_mf 1 3 rfl (by decide) (by decide) rfl (T.c 20 (by decide)).xc (T.c 20 (by decide)).no (fun v => by kernel_rfl) (pv 2)) pa_mn))))))))
      (pss_cons (ps_set (i := 4) scFields.nd rfl (Or.inl rfl) (pe_op op_catS (pv 4) (pe_lst (pa_mc (pe_mf 1 4 rfl (by decide) (by decide) rfl (T.c 21 (by decide)).xc (T.c 21 (by decide)).no (fun v => by kernel_rfl) (pv 2)) (pa_mc (pe_mf 1 5 rfl (by decide) (by decide) rfl (T.c 22 (by decide)).xc (T.c 22 (by decide)).no (fun v => by kernel_rfl) (pv 2)) (pa_mc (pe_mf 2 0 rfl (by decide) (by decide) rfl (T.c 23 (by decide)).xc (T.c 23 (by decide)).no (fun v => by kernel_rfl) (pv 3)) (pa_mc (pe_mf 2 1 rfl (by decide) (by decide) rfl (T.c 24 (by decide)).xc (T.c 24 (by decide)).no (fun v => by kernel_rfl) (pv 3)) (pa_mc (pe_mf 2 2 rfl (by decide) (by decide) rfl (T.c 25 (by decide)).xc (T.c 25 (by decide)).no (fun v => by kernel_rfl) (pv 3)) (pa_mc (pe_mf 2 3 rfl (by decide) (by decide) rfl (T.c 26 (by decide)).xc (T.c 26 (by decide)).no (fun v => by kernel_rfl) (pv 3)) pa_mn)))))))))
      (pss_one (ps_ret (pe_tup (pa_cons (pv 4) (pa_cons (pe_mf 0 15 (r := fun _ => V.str "stack") rfl (by decide) (by decide) rfl (T.c 15 (by decide)).xc (T.c 15 (by decide)).noR (fun v => by kernel_rfl) (pv 1)) pa_nil))))))))))), ?_⟩
    obtain ⟨p, v, rfl, M, k⟩ := hh
    obtain ⟨xs, hp, hxl, hg⟩ := made_grp M
    obtain ⟨l0, as0, e0, r0⟩ := hg 0 (by decide)
    obtain ⟨l1, as1, e1, r1⟩ := hg 1 (by decide)
    obtain ⟨l2, as2, e2, r2⟩ := hg 2 (by decide)
    refine ⟨_, rfl, p, xs, 0, V.ref l0, rfl, rfl, SqL.of hp, at_of (j := 0) rfl e0, _, rfl, p, xs, 1, V.ref l1, rfl, rfl, SqL.of hp, at_of (j := 1) rfl e1, _, rfl, p, xs, 2, V.ref l2, rfl, rfl, SqL.of hp, at_of (j := 2) rfl e2, _, _, _, rfl, ?_⟩
    have mc : ∀ z4, MC K v [some (V.ref p), some (.ref l0), some (.ref l1), some (.ref l2), z4] H := fun z4 g hg => by
      match g, hg with
      | 0, _ => exact ⟨l0, as0, rfl, r0⟩
      | 1, _ => exact ⟨l1, as1, rfl, r1⟩
      | 2, _ => exact ⟨l2, as2, rfl, r2⟩
    refine ⟨v, mc _, sz 6 (by decide), fun p0 n0 => ?_⟩
    have u0 := same_new (o := .lst (List.replicate 6 v)) n0
    refine ⟨_, rfl, v, (mc _).same u0, sz 5 (by decide), fun r1 m1 => ?_⟩
    have v1 := same_new (o := .lst (List.replicate 5 v)) m1
    refine ⟨p0, r1, List.replicate 6 v, List.replicate 5 v, rfl, rfl, SqL.of (v1 _ _ upd_same), SqL.of upd_same, sz 11 (by decide), fun p1 n1 => ?_⟩
    rw [show List.replicate 6 v ++ List.replicate 5 v = List.replicate 11 v from rfl]
    have w1 := same_new (o := .lst (List.replicate 11 v)) n1
    have u1 := u0.tr (v1.tr w1)
    refine ⟨_, rfl, v, (mc _).same u1, sz 5 (by decide), fun r2 m2 => ?_⟩
    have v2 := same_new (o := .lst (List.replicate 5 v)) m2
    refine ⟨p1, r2, List.replicate 11 v, List.replicate 5 v, rfl, rfl, SqL.of (v2 _ _ upd_same), SqL.of upd_same, sz 16 (by decide), fun p2 n2 => ?_⟩
    rw [show List.replicate 11 v ++ List.replicate 5 v = List.replicate 16 v from rfl]
    have w2 := same_new (o := .lst (List.replicate 16 v)) n2
    have u2 := u1.tr (v2.tr w2)
    refine ⟨_, rfl, v, (mc _).same u2, sz 5 (by decide), fun r3 m3 => ?_⟩
    have v3 := same_new (o := .lst (List.replicate 5 v)) m3
    refine ⟨p2, r3, List.replicate 16 v, List.replicate 5 v, rfl, rfl, SqL.of (v3 _ _ upd_same), SqL.of upd_same, sz 21 (by decide), fun p3 n3 => ?_⟩
    rw [show List.replicate 16 v ++ List.replicate 5 v = List.replicate 21 v from rfl]
    have w3 := same_new (o := .lst (List.replicate 21 v)) n3
    have u3 := u2.tr (v3.tr w3)
    refine ⟨_, rfl, v, (mc _).same u3, sz 6 (by decide), fun r4 m4 => ?_⟩
    have v4 := same_new (o := .lst (List.replicate 6 v)) m4
    refine ⟨p3, r4, List.replicate 21 v, List.replicate 6 v, rfl, rfl, SqL.of (v4 _ _ upd_same), SqL.of upd_same, sz 27 (by decide), fun p4 n4 => ?_⟩
    rw [show List.replicate 21 v ++ List.replicate 6 v = List.replicate 27 v from rfl]
    have w4 := same_new (o := .lst (List.replicate 27 v)) n4
    have u4 := u3.tr (v4.tr w4)
    refine ⟨_, rfl, v, (mc _).same u4, sz 2 (by decide), fun q nq => ?_⟩
    exact k q p4 _ (u4.tr (same_new nq)) upd_same ((same_new nq) _ _ upd_same)
/-- C(f = what).f -/
def tN1 : TE := fun σ H Q => ∃ v, σ[0]? = some (some v) ∧ ∀ H', Same H H' → Q v H'
def tNs (n : Nat) : TA := fun σ H Q => ∃ v, σ[0]? = some (some v) ∧ ∀ H', Same H H' → Q (List.replicate n v) H'
section
variable {X : Cx} {e : Expr} {es : List Expr} {n : Nat} {f : Str} {p3 : Pos} {C : Addr} {fs : V → List (Str × V)}
theorem pe_n1 (xc : Xc X.K C) (no : PySem.W.findIn X.K (.ref C) f = some none) (lk : ∀ v, (fs v).lookup f = some v) (he : PE X e (tX1 C fs 0)) (hb : attributeBase e f X.env (eval e X.env) = eval e X.env := by rfl) : PE X (.Attribute e f p3) tN1 :=
  PE.imp (pe_xfd he hb) fun σ H Q h => by
    obtain ⟨v, hv, k⟩ := h
    exact ⟨v, hv, fun a H' _ s x => ⟨a, C, fs v, v, rfl, x, xc, no, lk v, k H' s⟩⟩
theorem pa_nn : PA X [] (tNs 0) := PA.imp pa_nil fun σ H Q h => by
  obtain ⟨v, _, k⟩ := h
  exact k H Same.refl'
theorem pa_nc (he : PE X e tN1) (hr : PA X es (tNs n)) (hs : starEach (e :: es) X.env = (false, eval e X.env) :: starEach es X.env := by rfl) : PA X (e :: es) (tNs (n + 1)) := PA.imp (pa_cons he hr hs) fun σ H Q h => by
  obtain ⟨v, hv, k⟩ := h
  exact ⟨v, hv, fun H1 s1 => ⟨v, hv, fun H2 s2 => k H2 (s1.tr s2)⟩⟩
end
theorem ok_named {f : Addr} {fd : FuncData} (F : FnP K "_law_named" sNamed f fd) (T : All P w K mg base) : FnOk P w K mg base CX0 3 f fd ["what"] spNamed := by
  refine F.ok scNamed (fun vs H Q E h => ?_) (fun cdv A outer s H vs Q E hr hh => ?_)
  · obtain ⟨v, rfl, _⟩ := h
    rfl
  · have hr2 : Room 2 _ := hr
    refine ⟨_, PSs.nox (pss_cons (ps_set (i := 1) scNamed.nd rfl (Or.inl rfl) (pe_lst (pa_nc (pe_n1 T.k0.T T.k0.no (fun v => by kernel_rfl) (pe_x1K T.k0 hr2 (by rfl) (pv 0))) (pa_nc (pe_n1 T.k1.T T.k1.no (fun v => by kernel_rfl) (pe_x1K T.k1 hr2 (by rfl) (pv 0))) (pa_nc (pe_n1 T.k2.T T.k2.no (fun v => by kernel_rfl) (pe_x1K T.k2 hr2 (by rfl) (pv 0))) pa_nn)))))
      (pss_cons (ps_set (i := 1) scNamed.nd rfl (Or.inl rfl) (pe_op op_catS (pv 1) (pe_lst (pa_nc (pe_n1 T.k3.T T.k3.no (fun v => by kernel_rfl) (pe_x1K T.k3 hr2 (by rfl) (pv 0))) (pa_nc (pe_n1 T.k4.T T.k4.no (fun v => by kernel_rfl) (pe_x1K T.k4 hr2 (by rfl) (pv 0))) (pa_nc (pe_n1 T.k5.T T.k5.no (fun v => by kernel_rfl) (pe_x1K T.k5 hr2 (by rfl) (pv 0))) pa_nn))))))
      (pss_cons (ps_set (i := 1) scNamed.nd rfl (Or.inl rfl) (pe_op op_catS (pv 1) (pe_lst (pa_nc (pe_n1 T.k6.T T.k6.no (fun v => by kernel_rfl) (pe_x1K T.k6 hr2 (by rfl) (pv 0))) (pa_nc (pe_n1 T.k7.T T.k7.no (fun v => by kernel_rfl) (pe_x1K T.k7 hr2 (by rfl) (pv 0))) pa_nn)))))
      (pss_cons (ps_set (i := 1) scNamed.nd rfl (Or.inl rfl) (pe_op op_catS (pv 1) (pe_lst (pa_nc (pe_n1 T.k8.T T.k8.no (fun v => by kernel_rfl) (pe_x1K T.k8 hr2 (by rfl) (pv 0))) (pa_nc (pe_n1 T.k9.T T.k9.no (fun v => by kernel_rfl) (pe_x1K T.k9 hr2 (by rfl) (pv 0))) (pa_nc (pe_n1 T.k10.T T.k10.no (fun v => by kernel_rfl) (pe_x1K T.k10 hr2 (by rfl) (pv 0))) pa_nn))))))
      (pss_cons (ps_set (i := 1) scNamed.nd rfl (Or.inl rfl) (pe_op op_catS (pv 1) (pe_lst (pa_nc (pe_n1 T.k11.T T.k11.no (fun v => by kernel_rfl) (pe_x1K T.k11 hr2 (by rfl) (pv 0))) (pa_nc (pe_n1 T.k12.T T.k12.no (fun v => by kernel_rfl) (pe_x1K T.k12 hr2 (by rfl) (pv 0))) pa_nn)))))
      (pss_cons (ps_set (i := 1) scNamed.nd rfl (Or.inl rfl) (pe_op op_catS (pv 1) (pe_lst (pa_nc (pe_n1 T.k13.T T.k13.no (fun v => by kernel_rfl) (pe_x1K T.k13 hr2 (by rfl) (pv 0))) (pa_nc (pe_n1 T.k14.T T.k14.no (fun v => by kernel_rfl) (pe_x1K T.k14 hr2 (by rfl) (pv 0))) pa_nn)))))
      (pss_cons (ps_set (i := 1) scNamed.nd rfl (Or.inl rfl) (pe_op op_catS (pv 1) (pe_lst (pa_nc (pe_n1 T.k15.T T.k15.no (fun v => by kernel_rfl) (pe_x2K T.k15 hr2 (by rfl) (pv 0))) (pa_nc (pe_n1 T.k16.T T.k16.no (fun v => by kernel_rfl) (pe_x1K T.k16 hr2 (by rfl) (pv 0))) pa_nn)))))
      (pss_cons (ps_set (i := 1) scNamed.nd rfl (Or.inl rfl) (pe_op op_catS (pv 1) (pe_lst (pa_nc (pe_n1 T.k17.T T.k17.no (fun v => by kernel_rfl) (pe_x1K T.k17 hr2 (by rfl) (pv 0))) (pa_nc (pe_n1 T.k18.T T.k18.no (fun v => by kernel_rfl) (pe_x1K T.k18 hr2 (by rfl) (pv 0))) (pa_nc (pe_n1 T.k19.T T.k19.no (fun v => by kernel_rfl) (pe_x1K T.k19 hr2 (by rfl) (pv 0))) pa_nn))))))
      (pss_cons (ps_set (i := 1) scNamed.nd rfl (Or.inl rfl) (pe_op op_catS (pv 1) (pe_lst (pa_nc (pe_n1 T.k20.T T.k20.no (fun v => by kernel_rfl) (pe_x1K T.k20 hr2 (by rfl) (pv 0))) (pa_nc (pe_n1 T.k21.T T.k21.no (fun v => by kernel_rfl) (pe_x1K T.k21 hr2 (by rfl) (pv 0))) (pa_nc (pe_n1 T.k22.T T.k22.no (fun v => by kernel_rfl) (pe_x1K T.k22 hr2 (by rfl) (pv 0))) pa_nn))))))
      (pss_cons (ps_set (i := 1) scNamed.nd rfl (Or.inl rfl) (pe_op op_catS (pv 1) (pe_lst (pa_nc (pe_n1 T.k23.T T.k23.no (fun v => by kernel_rfl) (pe_x1K T.k23 hr2 (by rfl) (pv 0))) (pa_nc (pe_n1 T.k24.T T.k24.no (fun v => by kernel_rfl) (pe_x1K T.k24 hr2 (by rfl) (pv 0))) (pa_nc (pe_n1 T.k25.T T.k25.no (fun v => by kernel_rfl) (pe_x1K T.k25 hr2 (by rfl) (pv 0))) pa_nn))))))
      (pss_one (ps_ret (pe_op op_catS (pv 1) (pe_lst (pa_nc (pe_n1 T.k26.T T.k26.no (fun v => by kernel_rfl) (pe_x1K T.k26 hr2 (by rfl) (pv 0))) pa_nn))))))))))))))), ?_⟩
    obtain ⟨v, rfl, k⟩ := hh
    refine ⟨v, rfl, fun H0 s0 => ⟨sz 3 (by decide), fun p0 n0 => ?_⟩⟩
    have u0 := s0.tr (same_new (o := .lst (List.replicate 3 v)) n0)
    refine ⟨_, rfl, v, rfl, fun H1 s1 => ⟨sz 3 (by decide), fun r1 m1 => ?_⟩⟩
    have v1 := same_new (o := .lst (List.replicate 3 v)) m1
    refine ⟨p0, r1, List.replicate 3 v, List.replicate 3 v, rfl, rfl, SqL.of (v1 _ _ (s1 _ _ upd_same)), SqL.of upd_same, sz 6 (by decide), fun p1 n1 => ?_⟩
    rw [show List.replicate 3 v ++ List.replicate 3 v = List.replicate 6 v from rfl]
    have w1 := same_new (o := .lst (List.replicate 6 v)) n1
    have u1 := u0.tr (s1.tr (v1.tr w1))
    refine ⟨_, rfl, v, rfl, fun H2 s2 => ⟨sz 2 (by decide), fun r2 m2 => ?_⟩⟩
    have v2 := same_new (o := .lst (List.replicate 2 v)) m2
    refine ⟨p1, r2, List.replicate 6 v, List.replicate 2 v, rfl, rfl, SqL.of (v2 _ _ (s2 _ _ upd_same)), SqL.of upd_same, sz 8 (by decide), fun p2 n2 => ?_⟩
    rw [show List.replicate 6 v ++ List.replicate 2 v = List.replicate 8 v from rfl]
    have w2 := same_new (o := .lst (List.replicate 8 v)) n2
    have u2 := u1.tr (s2.tr (v2.tr w2))
    refine ⟨_, rfl, v, rfl, fun H3 s3 => ⟨sz 3 (by decide), fun r3 m3 => ?_⟩⟩
    have v3 := same_new (o := .lst (List.replicate 3 v)) m3
    refine ⟨p2, r3, List.replicate 8 v, List.replicate 3 v, rfl, rfl, SqL.of (v3 _ _ (s3 _ _ upd_same)), SqL.of upd_same, sz 11 (by decide), fun p3 n3 => ?_⟩
    rw [show List.replicate 8 v ++ List.replicate 3 v = List.replicate 11 v from rfl]
    have w3 := same_new (o := .lst (List.replicate 11 v)) n3
    have u3 := u2.tr (s3.tr (v3.tr w3))
    refine ⟨_, rfl, v, rfl, fun H4 s4 => ⟨sz 2 (by decide), fun r4 m4 => ?_⟩⟩
    have v4 := same_new (o := .lst (List.replicate 2 v)) m4
    refine ⟨p3, r4, List.replicate 11 v, List.replicate 2 v, rfl, rfl, SqL.of (v4 _ _ (s4 _ _ upd_same)), SqL.of upd_same, sz 13 (by decide), fun p4 n4 => ?_⟩
    rw [show List.replicate 11 v ++ List.replicate 2 v = List.replicate 13 v from rfl]
    have w4 := same_new (o := .lst (List.replicate 13 v)) n4
    have u4 := u3.tr (s4.tr (v4.tr w4))
    refine ⟨_, rfl, v, rfl, fun H5 s5 => ⟨sz 2 (by decide), fun r5 m5 => ?_⟩⟩
    have v5 := same_new (o := .lst (List.replicate 2 v)) m5
    refine ⟨p4, r5, List.replicate 13 v, List.replicate 2 v, rfl, rfl, SqL.of (v5 _ _ (s5 _ _ upd_same)), SqL.of upd_same, sz 15 (by decide), fun p5 n5 => ?_⟩
    rw [show List.replicate 13 v ++ List.replicate 2 v = List.replicate 15 v from rfl]
    have w5 := same_new (o := .lst (List.replicate 15 v)) n5
    have u5 := u4.tr (s5.tr (v5.tr w5))
    refine ⟨_, rfl, v, rfl, fun H6 s6 => ⟨sz 2 (by decide), fun r6 m6 => ?_⟩⟩
    have v6 := same_new (o := .lst (List.replicate 2 v)) m6
    refine ⟨p5, r6, List.replicate 15 v, List.replicate 2 v, rfl, rfl, SqL.of (v6 _ _ (s6 _ _ upd_same)), SqL.of upd_same, sz 17 (by decide), fun p6 n6 => ?_⟩
    rw [show List.replicate 15 v ++ List.replicate 2 v = List.replicate 17 v from rfl]
    have w6 := same_new (o := .lst (List.replicate 17 v)) n6
    have u6 := u5.tr (s6.tr (v6.tr w6))
    refine ⟨_, rfl, v, rfl, fun H7 s7 => ⟨sz 3 (by decide), fun r7 m7 => ?_⟩⟩
    have v7 := same_new (o := .lst (List.replicate 3 v)) m7
    refine ⟨p6, r7, List.replicate 17 v, List.replicate 3 v, rfl, rfl, SqL.of (v7 _ _ (s7 _ _ upd_same)), SqL.of upd_same, sz 20 (by decide), fun p7 n7 => ?_⟩
    rw [show List.replicate 17 v ++ List.replicate 3 v = List.replicate 20 v from rfl]
    have w7 := same_new (o := .lst (List.replicate 20 v)) n7
    have u7 := u6.tr (s7.tr (v7.tr w7))
    refine ⟨_, rfl, v, rfl, fun H8 s8 => ⟨sz 3 (by decide), fun r8 m8 => ?_⟩⟩
    have v8 := same_new (o := .lst (List.replicate 3 v)) m8
    refine ⟨p7, r8, List.replicate 20 v, List.replicate 3 v, rfl, rfl, SqL.of (v8 _ _ (s8 _ _ upd_same)), SqL.of upd_same, sz 23 (by decide), fun p8 n8 => ?_⟩
    rw [show List.replicate 20 v ++ List.replicate 3 v = List.replicate 23 v from rfl]
    have w8 := same_new (o := .lst (List.replicate 23 v)) n8
    have u8 := u7.tr (s8.tr (v8.tr w8))
    refine ⟨_, rfl, v, rfl, fun H9 s9 => ⟨sz 3 (by decide), fun r9 m9 => ?_⟩⟩
    have v9 := same_new (o := .lst (List.replicate 3 v)) m9
    refine ⟨p8, r9, List.replicate 23 v, List.replicate 3 v, rfl, rfl, SqL.of (v9 _ _ (s9 _ _ upd_same)), SqL.of upd_same, sz 26 (by decide), fun p9 n9 => ?_⟩
    rw [show List.replicate 23 v ++ List.replicate 3 v = List.replicate 26 v from rfl]
    have w9 := same_new (o := .lst (List.replicate 26 v)) n9
    have u9 := u8.tr (s9.tr (v9.tr w9))
    refine ⟨_, rfl, v, rfl, fun H10 s10 => ⟨sz 1 (by decide), fun r10 m10 => ?_⟩⟩
    have v10 := same_new (o := .lst (List.replicate 1 v)) m10
    refine ⟨p9, r10, List.replicate 26 v, List.replicate 1 v, rfl, rfl, SqL.of (v10 _ _ (s10 _ _ upd_same)), SqL.of upd_same, sz 27 (by decide), fun p10 n10 => ?_⟩
    rw [show List.replicate 26 v ++ List.replicate 1 v = List.replicate 27 v from rfl]
    have w10 := same_new (o := .lst (List.replicate 27 v)) n10
    have u10 := u9.tr (s10.tr (v10.tr w10))
    exact k p10 _ u10 upd_same
end
end Kx

set_option Elab.async false
set_option linter.all false
set_option maxRecDepth 100000
set_option maxHeartbeats 4000000
namespace Kx
open PySem PySem.Spec PyProof.Rows L2
section
variable {P : Program} {w : World} {K : PySem.W.Frag} {mg : Str → Option Value} {base : Heap}
abbrev sLaw : Stmt := top 40
abbrev NL : List Str := ["script", "draw", "turn", "many", "what", "told", "last"]
theorem scLaw : FnScope NL ["script"] (defScope sLaw) := ⟨rfl, rfl, rfl, by decide +kernel, rfl, by decide +kernel, by decide +kernel⟩
def spLaw (K : PySem.W.Frag) : Sp := fun vs H Q _ => ∃ (a : Addr) (ns : List Int), vs = [.ref a] ∧ SqL K H a (ns.map V.int) ∧ ns.length ≤ 63 ∧ ∀ H', Q (.bl true) H'
theorem sqT_to {H H' : Hp} {a : Addr} {xs : List V} (s : Same H H') (h : SqT K H a xs) : SqT K H' a xs := by
  rcases h with h | h
  · rcases h with h | ⟨o, h⟩
    · exact .inl (.inl (s _ _ h))
    · exact .inl (.inr ⟨o, s _ _ h⟩)
  · exact .inr h
theorem sd_to {H H' : Hp} {v : V} {d : PyData} (h : Sd K H v d) (s : Same H H') : Sd K H' v d := Sd.same s (fun z => sqT_to s z) h
theorem sd_rep {H : Hp} {v : V} {d : PyData} (h : Sd K H v d) : ∀ n, SdAll K H (List.replicate n v) (List.replicate n d)
  | 0 => .nil
  | n + 1 => .cons h (sd_rep h n)
theorem show_rep {d : PyData} (h : d.showable = true) : ∀ n, PyData.showableAll (List.replicate n d) = true
  | 0 => rfl
  | n + 1 => by
    rw [List.replicate_succ]
    simp only [PyData.showableAll, h, show_rep h n, Bool.and_self]
theorem depth_rep {d : PyData} : ∀ n, PyData.depthAll (List.replicate n d) ≤ d.depth
  | 0 => Nat.zero_le _
  | n + 1 => by
    rw [List.replicate_succ]
    have := depth_rep (d := d) n
    simp only [PyData.depthAll]
    omega
theorem wt_rep {d : PyData} : ∀ n, wtAll (List.replicate n d) = n * (wt d + 2)
  | 0 => by simp [wtAll]
  | n + 1 => by
    rw [List.replicate_succ]
    simp only [wtAll]
    rw [wt_rep n, Nat.add_mul]
    omega
/-- small data -/
structure Sm (K : PySem.W.Frag) (H : Hp) (v : V) (d : PyData) : Prop where
  sd : Sd K H v d
  sh : d.showable = true
  dp : d.depth ≤ 10
  wt : wt d ≤ 10000
theorem sm_to {H H' : Hp} {v : V} {d : PyData} (h : Sm K H v d) (s : Same H H') : Sm K H' v d := ⟨sd_to h.sd s, h.sh, h.dp, h.wt⟩
/-- n times the same -/
theorem sm_rep {H : Hp} {v : V} {d : PyData} (h : Sm K H v d) {a : Addr} (ha : H a = some (.lst (List.replicate 27 v))) :
    Sd K H (.ref a) (.list (List.replicate 27 d)) ∧ (PyData.list (List.replicate 27 d)).showable = true ∧ (PyData.list (List.replicate 27 d)).depth ≤ 40 ∧ (PyData.list (List.replicate 27 d)).shown.length ≤ sizeLine := by
  have h2 : (PyData.list (List.replicate 27 d)).showable = true := by
    simp only [PyData.showable]
    exact show_rep h.sh 27
  refine ⟨.lst (SqL.of ha) (sd_rep h.sd 27), h2, ?_, shown_fits h2 ?_⟩
  · have := depth_rep (d := d) 27
    have := h.dp
    simp only [PyData.depth]
    omega
  · simp only [L2.wt]
    rw [wt_rep]
    have := h.wt
    have e : (1000000 : Nat) ≤ sizeLine := by decide
    omega
theorem num_sh {z : Int} (h1 : -1000 ≤ z) (h2 : z ≤ 1000) : (PyData.int z).showable = true := by
  simp only [PyData.showable]
  refine decide_eq_true (Nat.lt_of_le_of_lt (Nat.log2_le_self _) ?_)
  omega
/-- the eight kinds of fields -/
theorem eight {H : Hp} {z : Int} {a1 a2 a3 a4 a5 : Addr} (h1 : -1000 ≤ z) (h2 : z ≤ 1000) (e1 : H a1 = some (.tup [.int z, .int 7])) (e2 : H a2 = some (.lst [.int z])) (e3 : H a3 = some (.tup [])) (e4 : H a4 = some (.tup [.str "a", .ref a3])) (e5 : H a5 = some (.dK [])) (n : Nat) (hn : n < 8) :
    ∃ v d, ([.non, .int z, .str "bag", .ref a1, .ref a2, .ref a4, .ref a5, .bl true] : List V)[n]? = some v ∧ Sm K H v d := by
  have sh := num_sh h1 h2
  have sh7 : (PyData.int 7).showable = true := num_sh (by decide) (by decide)
  have sh' : ((z.natAbs.log2 < 1920 : Prop)) := by simpa [PyData.showable] using sh
  match n, hn with
  | 0, _ => exact ⟨_, _, rfl, .non, rfl, by decide, by decide⟩
  | 1, _ => exact ⟨_, _, rfl, .int z, sh, by simp [PyData.depth], by simp [L2.wt]⟩
  | 2, _ => exact ⟨_, _, rfl, .str "bag", rfl, by decide, by decide +kernel⟩
  | 3, _ => exact ⟨_, _, rfl, .tup (SqT.of e1) (.cons (.int z) (.cons (.int 7) .nil)), by simp [PyData.showable, PyData.showableAll, sh']; decide, by simp [PyData.depth, PyData.depthAll], by simp [L2.wt, L2.wtAll]⟩
  | 4, _ => exact ⟨_, _, rfl, .lst (SqL.of e2) (.cons (.int z) .nil), by simp [PyData.showable, PyData.showableAll, sh'], by simp [PyData.depth, PyData.depthAll], by simp [L2.wt, L2.wtAll]⟩
  | 5, _ => exact ⟨_, _, rfl, .tup (SqT.of e4) (.cons (.str "a") (.cons (.tup (SqT.of e3) .nil) .nil)), by simp [PyData.showable, PyData.showableAll], by simp [PyData.depth, PyData.depthAll], by decide +kernel⟩
  | 6, _ => exact ⟨_, _, rfl, .emp e5, by simp [PyData.showable, PyData.showableKv], by decide, by decide⟩
  | 7, _ => exact ⟨_, _, rfl, .bl true, rfl, by decide, by decide⟩
end
end Kx

set_option Elab.async false
set_option linter.all false
set_option maxRecDepth 100000
set_option maxHeartbeats 4000000
namespace Kx
open PySem PySem.Spec PyProof.Rows L2
section
variable {P : Program} {w : World} {K : PySem.W.Frag} {mg : Str → Option Value} {base : Heap}
/-- the defs that law calls -/
structure LF (K : PySem.W.Frag) (mg : Str → Option Value) : Prop where
  begin_ : ∃ f fd, FnP K "_law_begin" sBegin f fd ∧ mg "_law_begin" = some (.ref f)
  mixed : ∃ f fd, FnP K "_law_mixed" sMixed f fd ∧ mg "_law_mixed" = some (.ref f)
  next : ∃ f fd, FnP K "_law_next" sNext f fd ∧ mg "_law_next" = some (.ref f)
  made : ∃ f fd, FnP K "_law_made" sMade f fd ∧ mg "_law_made" = some (.ref f)
  kinds : ∃ f fd, FnP K "_law_kinds" sKinds f fd ∧ mg "_law_kinds" = some (.ref f)
  fam : ∃ f fd, FnP K "_law_families_right" sFam f fd ∧ mg "_law_families_right" = some (.ref f)
  fields : ∃ f fd, FnP K "_law_fields" sFields f fd ∧ mg "_law_fields" = some (.ref f)
  named : ∃ f fd, FnP K "_law_named" sNamed f fd ∧ mg "_law_named" = some (.ref f)
  len : mg "len" = none
  min : mg "min" = none
  rng : mg "range" = none
  rep : mg "repr" = none
/-- the three tests of a turn -/
theorem rep27 {v : V} : (List.replicate (27 : Int).toNat [v]).flatten = List.replicate 27 v := rfl
theorem ok_law {f : Addr} {fd : FuncData} (F : FnP K "law" sLaw f fd) (T : All P w K mg base) (N : TF K mg) (L : LF K mg) : FnG P w K mg base CX0 4 f fd ["script"] (spLaw K) := by
  obtain ⟨fB, dB, FB, gB⟩ := L.begin_
  obtain ⟨fM, dM, FM, gM⟩ := L.mixed
  obtain ⟨fX, dX, FX, gX⟩ := L.next
  obtain ⟨fA, dA, FA, gA⟩ := L.made
  obtain ⟨fK, dK, FK, gK⟩ := L.kinds
  obtain ⟨fF, dF, FF, gF⟩ := L.fam
  obtain ⟨fE, dE, FE, gE⟩ := L.fields
  obtain ⟨fN, dN, FN, gN⟩ := L.named
  have GB : FnOk P w K mg base CX0 1 fB dB ["script"] (spBegin K) := ok_begin FB
  have GX : FnOk P w K mg base CX0 2 fX dX ["draw", "bound"] spNext := ok_next FX FM gM L.len
  have GA : FnOk P w K mg base CX0 3 fA dA ["what"] (spMade K) := ok_made FA T
  have GF : FnOk P w K mg base CX0 2 fF dF ["made"] (spFam K) := ok_fam FF FK gK T N
  have GE : FnOk P w K mg base CX0 1 fE dE ["made"] (spFields K) := ok_fields FE T
  have GN : FnOk P w K mg base CX0 3 fN dN ["what"] spNamed := ok_named FN T
  have bB : Binds K dB ["script"] [] := FB.bindsN fun _ _ _ _ _ _ us hl => match us, hl with | [_], _ => rfl
  have bX : Binds K dX ["draw", "bound"] [] := FX.bindsN fun _ _ _ _ _ _ us hl => match us, hl with | [_, _], _ => rfl
  have bA : Binds K dA ["what"] [] := FA.bindsN fun _ _ _ _ _ _ us hl => match us, hl with | [_], _ => rfl
  have bF : Binds K dF ["made"] [] := FF.bindsN fun _ _ _ _ _ _ us hl => match us, hl with | [_], _ => rfl
  have bE : Binds K dE ["made"] [] := FE.bindsN fun _ _ _ _ _ _ us hl => match us, hl with | [_], _ => rfl
  have bN : Binds K dN ["what"] [] := FN.bindsN fun _ _ _ _ _ _ us hl => match us, hl with | [_], _ => rfl
  refine F.okG scLaw (fun vs H Q E h => ?_) (fun cdv A outer s H vs Q E hgu hr hh => ?_)
  · obtain ⟨a, ns, rfl, _⟩ := h
    rfl
  · have hr1 := hr.mono (j := 1) (by decide)
    have hr2 := hr.mono (j := 2) (by decide)
    refine ⟨_, PSs.nox (pss_cons (ps_set (i := 1) scLaw.nd rfl (Or.inl rfl) (pe_call GB hr1 (by rfl) gB FB.kp bB .nil pass0 (pa_cons (pv 0) pa_nil)))
      (pss_cons (ps_for PassesOwn.never rfl (pi_range1 (by rfl) L.rng (pa_cons (pe_callB (call_min2 rfl) (by rfl) L.min boot_min (pa_cons pe_int (pa_cons (pe_op op_add pe_int (pe_callB call_len (by rfl) L.len PySem.boot_len (pa_cons (pv 0) pa_nil))) pa_nil))) pa_nil)) (pg_name (i := 2) scLaw.nd rfl (Or.inl rfl))
        (pss_cons (ps_set (i := 3) scLaw.nd rfl (Or.inl rfl) (pe_op op_sub (pe_call GX hr2 (by rfl) gX FX.kp bX .nil pass0 (pa_cons (pv 1) (pa_cons pe_int pa_nil))) pe_int))
        (pss_cons (ps_set (i := 4) scLaw.nd rfl (Or.inl rfl) (pe_ix ix_list (pe_lst (pa_cons pe_non (pa_cons (pv 3) (pa_cons pe_str (pa_cons (pe_tup (pa_cons (pv 3) (pa_cons pe_int pa_nil))) (pa_cons (pe_lst (pa_cons (pv 3) pa_nil)) (pa_cons (pe_tup (pa_cons pe_str (pa_cons (pe_tup pa_nil) pa_nil))) (pa_cons pe_dnewK (pa_cons pe_bl pa_nil)))))))))
            (pe_call GX hr2 (by rfl) gX FX.kp bX .nil pass0 (pa_cons (pv 1) (pa_cons pe_int pa_nil))) (fun _ _ => rfl)))
        (pss_cons (ps_if (pt_not (pt_val (pe_call GF hr2 (by rfl) gF FF.kp bF .nil pass0 (pa_cons (pe_call GA hr (by rfl) gA FA.kp bA .nil pass0 (pa_cons (pv 4) pa_nil)) pa_nil)))) (pss_one (ps_ret pe_bl)) pss_nil)
        (pss_cons (ps_asg (pe_call GE hr1 (by rfl) gE FE.kp bE .nil pass0 (pa_cons (pe_call GA hr (by rfl) gA FA.kp bA .nil pass0 (pa_cons (pv 4) pa_nil)) pa_nil)) (pg_tup (by rfl) (pgs_cons (pg_name (i := 5) scLaw.nd rfl (Or.inl rfl)) (pgs_cons (pg_name (i := 6) scLaw.nd rfl (Or.inl rfl)) pgs_nil))))
        (pss_one (ps_if (PW.pt (pw_or (pt_cmpR op_ne (pe_callB (call_repr hgu hr T.sys) (by rfl) L.rep boot_repr (pa_cons (pv 5) pa_nil)) (pe_callB (call_repr hgu hr T.sys) (by rfl) L.rep boot_repr (pa_cons (pe_op op_rep (pe_lst (pa_cons (pv 4) pa_nil)) pe_int) pa_nil)) (nomark _))
            (pw_or (pt_cmpR op_ne (pv 6) pe_str (nomark _))
            (pw_or1 (pt_cmpR op_ne (pe_callB (call_repr hgu hr T.sys) (by rfl) L.rep boot_repr (pa_cons (pe_call GN hr (by rfl) gN FN.kp bN .nil pass0 (pa_cons (pv 4) pa_nil)) pa_nil)) (pe_callB (call_repr hgu hr T.sys) (by rfl) L.rep boot_repr (pa_cons (pe_op op_rep (pe_lst (pa_cons (pv 4) pa_nil)) pe_int) pa_nil)) (nomark _)))))) (pss_one (ps_ret pe_bl)) pss_nil)))))))
      (pss_one (ps_ret (pe_cmpR op_eq (pe_xfd (pe_x2KC T.k15 hr2 (by rfl)) (by rfl)) pe_str (nomark _)))))), ?_⟩
    obtain ⟨a, ns, rfl, hS, hl, k⟩ := hh
    refine ⟨_, rfl, a, ns, rfl, hS, hl, fun p H1 hp s1 D1 => ?_⟩
    refine ⟨_, rfl, _, _, rfl, .inl ⟨_, s1.seq hS, rfl⟩, _, _, rfl, rfl, _, _, rfl, _, rfl, ?_, ?_, ?_⟩
    · rw [List.length_map]
      split <;> omega
    · rw [List.length_map]
      split <;> omega
    rw [List.length_map]
    refine for_range (fun i σ H' => ∃ t0 t2 t3 t4 t5 t6 : Option V, σ = [t0, some (.ref p), t2, t3, t4, t5, t6] ∧ DrawAt H' p (2 * i)) ⟨_, _, _, _, _, _, rfl, D1⟩ ?_ ?_
    · rintro i σ H2 hi ⟨t0, t2, t3, t4, t5, t6, rfl, D2⟩
      have hi2 : i < 13 := by
        revert hi
        split <;> omega
      refine ⟨_, rfl, p, 2001, 2 * i, rfl, D2, by omega, by decide, by decide, fun r H3 r0 r1 D3 _ => ?_⟩
      refine ⟨_, _, rfl, rfl, ?_⟩
      refine ⟨_, rfl, _, rfl, sz 2 (by decide), fun a1 n1 => ?_⟩
      have s4 := same_new (o := .tup [.int (r - 1000), .int 7]) n1
      refine ⟨_, rfl, sz 1 (by decide), fun a2 n2 => ?_⟩
      have s5 := same_new (o := .lst [.int (r - 1000)]) n2
      refine ⟨sz 0 (by decide), fun a3 n3 => ?_⟩
      have s6 := same_new (o := .tup []) n3
      refine ⟨sz 2 (by decide), fun a4 n4 => ?_⟩
      have s7 := same_new (o := .tup [.str "a", .ref a3]) n4
      refine fun a5 n5 => ?_
      have s8 := same_new (o := .dK []) n5
      refine ⟨sz 8 (by decide), fun a6 n6 => ?_⟩
      have s9 := same_new (o := .lst [.non, .int (r - 1000), .str "bag", .ref a1, .ref a2, .ref a4, .ref a5, .bl true]) n6
      have D9 := (((((D3.same s4).same s5).same s6).same s7).same s8).same s9
      refine ⟨_, rfl, p, 8, 2 * i + 1, rfl, D9, by omega, by decide, by decide, fun r' H10 r0' r1' D10 kp => ?_⟩
      have g1 := s5.tr (s6.tr (s7.tr (s8.tr s9)))
      have g2 := s6.tr (s7.tr (s8.tr s9))
      have g3 := s7.tr (s8.tr s9)
      have g4 := s8.tr s9
      have m1 := g1 _ _ (upd_same (H := H3) (a := a1) (o := .tup [.int (r - 1000), .int 7]))
      have m2 := g2 _ _ (upd_same (H := upd H3 a1 (.tup [.int (r - 1000), .int 7])) (a := a2) (o := .lst [.int (r - 1000)]))
      have m3 := g3 _ _ (upd_same (H := upd (upd H3 a1 (.tup [.int (r - 1000), .int 7])) a2 (.lst [.int (r - 1000)])) (a := a3) (o := .tup []))
      have m4 := g4 _ _ (upd_same (H := upd (upd (upd H3 a1 (.tup [.int (r - 1000), .int 7])) a2 (.lst [.int (r - 1000)])) a3 (.tup [])) (a := a4) (o := .tup [.str "a", .ref a3]))
      have m5 := s9 _ _ (upd_same (H := upd (upd (upd (upd H3 a1 (.tup [.int (r - 1000), .int 7])) a2 (.lst [.int (r - 1000)])) a3 (.tup [])) a4 (.tup [.str "a", .ref a3])) (a := a5) (o := .dK []))
      have m6 := upd_same (H := upd (upd (upd (upd (upd H3 a1 (.tup [.int (r - 1000), .int 7])) a2 (.lst [.int (r - 1000)])) a3 (.tup [])) a4 (.tup [.str "a", .ref a3])) a5 (.dK [])) (a := a6) (o := .lst [.non, .int (r - 1000), .str "bag", .ref a1, .ref a2, .ref a4, .ref a5, .bl true])
      have q5 : a5 ≠ p := fun z => by
        obtain ⟨l, cs, a, b, c, h1, _⟩ := (((D3.same s4).same s5).same s6).same s7
        rw [z] at n5
        rw [n5] at h1
        cases h1
      have j1 := kp _ _ m1 (D9.ne m1 (fun _ z => by cases z))
      have j2 := kp _ _ m2 (D9.ne m2 (fun _ z => by cases z))
      have j3 := kp _ _ m3 (D9.ne m3 (fun _ z => by cases z))
      have j4 := kp _ _ m4 (D9.ne m4 (fun _ z => by cases z))
      have j5 := kp _ _ m5 q5
      have j6 := kp _ _ m6 (D9.ne m6 (fun _ z => by cases z))
      obtain ⟨n, rfl⟩ := Int.eq_ofNat_of_zero_le r0'
      obtain ⟨v, d, hv, S⟩ := eight (K := K) (z := r - 1000) (by omega) (by omega) j1 j2 j3 j4 j5 n (by omega)
      refine ⟨a6, _, _, v, rfl, rfl, SqL.of j6, at_of rfl hv, ?_⟩
      have D11 := D10.mono (M := 2 * (i + 1)) (by omega)
      clear j1 j2 j3 j4 j5 j6 m1 m2 m3 m4 m5 m6 g1 g2 g3 g4 s4 s5 s6 s7 s8 s9 n1 n2 n3 n4 n5 n6 kp D3 D9 D2
      -- if not families_right(made(what))
      refine ⟨_, rfl, v, rfl, fun p1 H11 s11 M1 => ?_⟩
      refine ⟨p1, v, rfl, M1, fun H12 s12 => ⟨_, rfl, ?_⟩⟩
      refine iteF ?_
      -- told, last = fields(made(what))
      refine ⟨_, rfl, v, rfl, fun p2 H13 s13 M2 => ?_⟩
      refine ⟨p2, v, rfl, M2, fun q pf H14 s14 hq hpf => ?_⟩
      refine ⟨q, _, rfl, SqT.of hq, rfl, _, _, rfl, _, _, rfl, rfl, ?_⟩
      have u14 := ((s11.tr s12).tr s13).tr s14
      have S14 := sm_to S u14
      -- repr(told) != repr([what] * 27)
      obtain ⟨r1, r2, r3, r4⟩ := sm_rep S14 hpf
      refine ⟨_, rfl, _, _, rfl, r1, r2, r3, r4, ?_⟩
      refine ⟨_, rfl, sz 1 (by decide), fun l1 n1 => ?_⟩
      refine ⟨l1, 27, [v], rfl, rfl, upd_same, by decide, by decide, sz 27 (by decide), fun l2 n2 => ?_⟩
      have w1 := (same_new (o := .lst [v]) n1).tr (same_new (o := .lst (List.replicate (27 : Int).toNat [v]).flatten) n2)
      obtain ⟨y1, y2, y3, y4⟩ := sm_rep (sm_to S14 w1) (a := l2) (upd_same (o := .lst (List.replicate 27 v)))
      refine ⟨_, _, rfl, y1, y2, y3, y4, rfl, _, rfl, ?_⟩
      refine iteNS rfl ?_
      -- last != 'stack'
      refine ⟨_, rfl, rfl, _, rfl, ?_⟩
      refine iteNS rfl ?_
      -- repr(named(what)) != repr([what] * 27)
      refine ⟨_, rfl, v, rfl, fun pf2 H15 s15 hpf2 => ?_⟩
      obtain ⟨r1, r2, r3, r4⟩ := sm_rep (sm_to (sm_to S14 w1) s15) hpf2
      refine ⟨_, _, rfl, r1, r2, r3, r4, ?_⟩
      refine ⟨_, rfl, sz 1 (by decide), fun l3 n3 => ?_⟩
      refine ⟨l3, 27, [v], rfl, rfl, upd_same, by decide, by decide, sz 27 (by decide), fun l4 n4 => ?_⟩
      have w2 := (same_new (o := .lst [v]) n3).tr (same_new (o := .lst (List.replicate (27 : Int).toNat [v]).flatten) n4)
      obtain ⟨y1, y2, y3, y4⟩ := sm_rep (sm_to (sm_to (sm_to S14 w1) s15) w2) (a := l4) (upd_same (o := .lst (List.replicate 27 v)))
      refine ⟨_, _, rfl, y1, y2, y3, y4, rfl, _, rfl, ?_⟩
      refine iteNS rfl ?_
      exact ⟨_, _, _, _, _, _, rfl, (((((D11.same u14).same w1).same s15).same w2))⟩
    · rintro σ H2 ⟨t0, t2, t3, t4, t5, t6, rfl, D2⟩
      refine fun e He' _ s2 xe => ?_
      refine ⟨e, cA K 15, _, .str "end", rfl, xe, (T.c 15 (by decide)).xc, (T.c 15 (by decide)).noR, by kernel_rfl, rfl, ?_⟩
      exact k _
end
end Kx

set_option Elab.async false
set_option linter.all false
set_option maxRecDepth 100000
set_option maxHeartbeats 0
namespace Kx
open PySem PySem.Spec PyProof.Rows L2
abbrev R : PySem.W.OpenRow := PySem.W.OpenLaw.row PySem.Challenge.rw_brinejar_k01_error_classes
abbrev hk : PySem.W.Hook := He.hookS 5 fa fn chk
def ob (s : PySem.W.SharedT) : He.AlD × Bool := He.obsS 5 fa fn chk (HandSHeadRun.getT s)
theorem ob_eq (s : PySem.W.SharedT) : ob s = hk.obs s.abs := He.obsS_eq (HandSHeadRun.getT_eq s)
def loose : List Str := (["__name__", "JarError", "StateError", "MissingError", "InvalidValue", "InvalidNumbers", "InvalidKey", "InvalidIndex", "InvalidBrand", "InvalidTakes", "InvalidVersion", "InvalidStream", "InvalidLabel", "InvalidReduction", "InvalidMade", "InvalidRow", "InvalidName", "InvalidEdit", "InvalidText", "Refused"] : List Str) ++ (["NotCanonical", "TooDeep", "TooLong", "SelfArgument", "KeyTaken", "BrandTaken", "Full", "UnknownBrand", "NoEntry", "NoName", "NothingToUndo", "_law_begin", "_law_mixed", "_law_next", "_law_made", "_law_kinds", "_law_families_right", "_law_fields", "_law_named"] : List Str)
theorem run (w : World) : HandSHeadRun.RunEq R (PySem.W.view R.prog [40]) hk ob 8000 loose w := by
  intro os
  kernel_rfl
end Kx

set_option Elab.async false
set_option linter.all false
set_option maxRecDepth 100000
set_option maxHeartbeats 4000000
namespace Kx
open PySem PySem.Spec PyProof.Rows L2
section
variable {P : Program} {w : World} {K : PySem.W.Frag} {mg : Str → Option Value} {h : Heap}
theorem fn_ini (c : He.SaysD fa fn K) (i : Nat) (hi : i < 27) : ∃ fd, FnI K i fd := by
  have e : fn[i]? = some (dI i) := by
    match i, hi with
    | 0, _ => rfl
    | 1, _ => rfl
    | 2, _ => rfl
    | 3, _ => rfl
    | 4, _ => rfl
    | 5, _ => rfl
    | 6, _ => rfl
    | 7, _ => rfl
    | 8, _ => rfl
    | 9, _ => rfl
    | 10, _ => rfl
    | 11, _ => rfl
    | 12, _ => rfl
    | 13, _ => rfl
    | 14, _ => rfl
    | 15, _ => rfl
    | 16, _ => rfl
    | 17, _ => rfl
    | 18, _ => rfl
    | 19, _ => rfl
    | 20, _ => rfl
    | 21, _ => rfl
    | 22, _ => rfl
    | 23, _ => rfl
    | 24, _ => rfl
    | 25, _ => rfl
    | 26, _ => rfl
    | n + 27, h => exact absurd h (by omega)
  obtain ⟨fd, F⟩ := c.def_ i e
  exact ⟨fd, F⟩
theorem fn_law (c : He.SaysD fa fn K) (X : K.In h) (G : h.Ns mainGlobals mg) (i : Nat) {x : Str} {n : Nat} (e1 : fn[27 + i]? = some (dT x n)) (e2 : fa[i]? = some (.glo x)) : ∃ f fd, FnP K x (top n) f fd ∧ mg x = some (.ref f) := by
  obtain ⟨fd, F⟩ := c.def_ (27 + i) e1
  exact ⟨He.ga K x, fd, F, He.glo_ok X G (c.fact i e2)⟩
theorem lf_of (c : He.SaysD fa fn K) (X : K.In h) (G : h.Ns mainGlobals mg) : LF K mg :=
  ⟨fn_law c X G 0 rfl rfl, fn_law c X G 1 rfl rfl, fn_law c X G 2 rfl rfl, fn_law c X G 3 rfl rfl, fn_law c X G 4 rfl rfl, fn_law c X G 5 rfl rfl, fn_law c X G 6 rfl rfl, fn_law c X G 7 rfl rfl,
   He.free_ok X G (c.fact 12 (f := .free "len") rfl), He.free_ok X G (c.fact 14 (f := .free "min") rfl), He.free_ok X G (c.fact 13 (f := .free "range") rfl), He.free_ok X G (c.fact 15 (f := .free "repr") rfl)⟩
theorem tf_of (c : He.SaysD fa fn K) (X : K.In h) (G : h.Ns mainGlobals mg) : TF K mg :=
  ⟨He.free_ok X G (c.fact 17 (f := .free "enumerate") rfl), He.free_ok X G (c.fact 13 (f := .free "range") rfl), He.free_ok X G (c.fact 16 (f := .free "isinstance") rfl),
   He.glo_ok X G (c.fact 9 (f := .glo "JarError") rfl), He.glo_ok X G (c.fact 10 (f := .glo "StateError") rfl), He.glo_ok X G (c.fact 11 (f := .glo "MissingError") rfl),
   He.free_ok X G (c.fact 18 (f := .free "ValueError") rfl), He.free_ok X G (c.fact 19 (f := .free "RuntimeError") rfl), He.free_ok X G (c.fact 20 (f := .free "LookupError") rfl),
   He.free_ok X G (c.fact 21 (f := .free "KeyError") rfl), He.free_ok X G (c.fact 22 (f := .free "IndexError") rfl), He.free_ok X G (c.fact 23 (f := .free "NotImplementedError") rfl)⟩
theorem all_of (c : He.SaysD fa fn K) (X : K.In h) (G : h.Ns mainGlobals mg) (k : chk K = true) (base : Heap) : All P w K mg base where
  c := fun i hi => chk_cls k hi
  k0 := xk_0 (chk_cls k (by decide)) (fn_ini c 0 (by decide)) (PySem.W.mg_of X G (chk_cls k (i := 0) (by decide)).glo)
  k1 := xk_1 (chk_cls k (by decide)) (fn_ini c 1 (by decide)) (PySem.W.mg_of X G (chk_cls k (i := 1) (by decide)).glo)
  k2 := xk_2 (chk_cls k (by decide)) (fn_ini c 2 (by decide)) (PySem.W.mg_of X G (chk_cls k (i := 2) (by decide)).glo)
  k3 := xk_3 (chk_cls k (by decide)) (fn_ini c 3 (by decide)) (PySem.W.mg_of X G (chk_cls k (i := 3) (by decide)).glo)
  k4 := xk_4 (chk_cls k (by decide)) (fn_ini c 4 (by decide)) (PySem.W.mg_of X G (chk_cls k (i := 4) (by decide)).glo)
  k5 := xk_5 (chk_cls k (by decide)) (fn_ini c 5 (by decide)) (PySem.W.mg_of X G (chk_cls k (i := 5) (by decide)).glo)
  k6 := xk_6 (chk_cls k (by decide)) (fn_ini c 6 (by decide)) (PySem.W.mg_of X G (chk_cls k (i := 6) (by decide)).glo)
  k7 := xk_7 (chk_cls k (by decide)) (fn_ini c 7 (by decide)) (PySem.W.mg_of X G (chk_cls k (i := 7) (by decide)).glo)
  k8 := xk_8 (chk_cls k (by decide)) (fn_ini c 8 (by decide)) (PySem.W.mg_of X G (chk_cls k (i := 8) (by decide)).glo)
  k9 := xk_9 (chk_cls k (by decide)) (fn_ini c 9 (by decide)) (PySem.W.mg_of X G (chk_cls k (i := 9) (by decide)).glo)
  k10 := xk_10 (chk_cls k (by decide)) (fn_ini c 10 (by decide)) (PySem.W.mg_of X G (chk_cls k (i := 10) (by decide)).glo)
  k11 := xk_11 (chk_cls k (by decide)) (fn_ini c 11 (by decide)) (PySem.W.mg_of X G (chk_cls k (i := 11) (by decide)).glo)
  k12 := xk_12 (chk_cls k (by decide)) (fn_ini c 12 (by decide)) (PySem.W.mg_of X G (chk_cls k (i := 12) (by decide)).glo)
  k13 := xk_13 (chk_cls k (by decide)) (fn_ini c 13 (by decide)) (PySem.W.mg_of X G (chk_cls k (i := 13) (by decide)).glo)
  k14 := xk_14 (chk_cls k (by decide)) (fn_ini c 14 (by decide)) (PySem.W.mg_of X G (chk_cls k (i := 14) (by decide)).glo)
  k15 := xk_15 (chk_cls k (by decide)) (fn_ini c 15 (by decide)) (PySem.W.mg_of X G (chk_cls k (i := 15) (by decide)).glo)
  k16 := xk_16 (chk_cls k (by decide)) (fn_ini c 16 (by decide)) (PySem.W.mg_of X G (chk_cls k (i := 16) (by decide)).glo)
  k17 := xk_17 (chk_cls k (by decide)) (fn_ini c 17 (by decide)) (PySem.W.mg_of X G (chk_cls k (i := 17) (by decide)).glo)
  k18 := xk_18 (chk_cls k (by decide)) (fn_ini c 18 (by decide)) (PySem.W.mg_of X G (chk_cls k (i := 18) (by decide)).glo)
  k19 := xk_19 (chk_cls k (by decide)) (fn_ini c 19 (by decide)) (PySem.W.mg_of X G (chk_cls k (i := 19) (by decide)).glo)
  k20 := xk_20 (chk_cls k (by decide)) (fn_ini c 20 (by decide)) (PySem.W.mg_of X G (chk_cls k (i := 20) (by decide)).glo)
  k21 := xk_21 (chk_cls k (by decide)) (fn_ini c 21 (by decide)) (PySem.W.mg_of X G (chk_cls k (i := 21) (by decide)).glo)
  k22 := xk_22 (chk_cls k (by decide)) (fn_ini c 22 (by decide)) (PySem.W.mg_of X G (chk_cls k (i := 22) (by decide)).glo)
  k23 := xk_23 (chk_cls k (by decide)) (fn_ini c 23 (by decide)) (PySem.W.mg_of X G (chk_cls k (i := 23) (by decide)).glo)
  k24 := xk_24 (chk_cls k (by decide)) (fn_ini c 24 (by decide)) (PySem.W.mg_of X G (chk_cls k (i := 24) (by decide)).glo)
  k25 := xk_25 (chk_cls k (by decide)) (fn_ini c 25 (by decide)) (PySem.W.mg_of X G (chk_cls k (i := 25) (by decide)).glo)
  k26 := xk_26 (chk_cls k (by decide)) (fn_ini c 26 (by decide)) (PySem.W.mg_of X G (chk_cls k (i := 26) (by decide)).glo)
  sys := chk_sys k
  isi := He.free_ok X G (c.fact 16 (f := .free "isinstance") rfl)
theorem facts {f : Addr} (X : K.In h) (G : h.Ns mainGlobals mg) (hfa : mg ("law" : Str) = some (.ref f)) (c : He.SaysD fa fn K) (k : chk K = true) :
    ∃ fd : FuncData, (∀ (s : Shared) (v : Value), BindsTo s fd ⟨[v], []⟩ [("script", v)]) ∧ ∀ base : Heap, K.In base → base.Ns mainGlobals mg → FnG P w K mg base CX0 4 f fd ["script"] (spLaw K) := by
  obtain ⟨fL, fd, F, g⟩ := fn_law c X G 8 (x := "law") (n := 40) rfl rfl
  have e := hfa.symm.trans g
  cases e
  have b := FunD.bindsA (ps := ["script"]) F fun _ _ _ _ _ _ us hl => match us, hl with | [_], _ => rfl
  exact ⟨fd, fun s v => b s [v] rfl, fun base _ _ => ok_law F (all_of c X G k base) (tf_of c X G) (lf_of c X G)⟩
end
end Kx
open PySem PySem.W PySem.Calls PyProof.Rows
theorem PySem.Challenge.cw_brinejar_k01_error_classes_holds : PySem.Challenge.rw_brinejar_k01_error_classes.Holds := by
  w_on
  o_law
  refine HandSHeadRun.head_any (r := OpenLaw.row PySem.Challenge.rw_brinejar_k01_error_classes) (q := view (OpenLaw.row PySem.Challenge.rw_brinejar_k01_error_classes).prog [40]) (H := Kx.hk) (ob := Kx.ob) (M := 8000) (loose := Kx.loose) (d := HandSHeadRun.topDef (OpenLaw.row PySem.Challenge.rw_brinejar_k01_error_classes).prog 40) (kwd := []) Kx.ob_eq
    (by kernel_rfl) (fun s => by kernel_rfl) Kx.run (by kernel_rfl) (by kernel_rfl) (by kernel_rfl) (by rfl) (by first | assumption | decide +kernel) (by decide +kernel) ⟨rfl, rfl, rfl, rfl, rfl, by decide +kernel⟩ ?hw ?hc
  case hw => w_witness2
  case hc =>
    refine L2.walk_ofG (l := PySem.Challenge.rw_brinejar_k01_error_classes) (n := 63) (k := 4) (x := "script") rfl (by decide) (by kernel_rfl) ⟨rfl, by decide, by decide⟩ ?F
    intro w mg fa h Y G hmg0
    obtain ⟨K, KX, c, k⟩ := Y
    have hmg : mg ("law" : PySem.Str) = some (.ref fa) := by
      have e : (HandSHeadRun.topDef (OpenLaw.row PySem.Challenge.rw_brinejar_k01_error_classes).prog 40).name = ("law" : PySem.Str) := by kernel_rfl
      rw [← e]
      exact hmg0
    obtain ⟨fd, hb, hF⟩ := Kx.facts (P := (PySem.Challenge.rw_brinejar_k01_error_classes).prog) (w := w) KX G hmg c k
    exact ⟨K, fd, Kx.spLaw K, KX, hb, fun H a ns hl _ hS => ⟨a, ns, rfl, hS, hl, fun _ => rfl⟩, hF⟩
