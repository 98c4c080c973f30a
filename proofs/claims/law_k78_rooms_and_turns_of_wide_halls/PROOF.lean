import PyProof.Rows.All
import Wide.All
import OpenK.AllK
import Wide.FinOn
import HandS.ForMost
import HandS.More
import HandS.Set
import HandS.ClsMeth
import HandS.ExcInit
import HandS.Lambda
import HandS.TryMany
import HandS.ExcField
import HandS.SetTxt0
import HandS.SetFor
import KE.GoesMore
import HandS.Walk
import HandS.DictComp
import HandS.WordsExc
import HandS.Defaults
import PySem.Challenge.RW_nearcall_k78_rooms_and_turns_of_wide_hal
import HandS.StrMore
import HandS.IsInst
import KE.GoesZip
import KE.GoesEnum
import HandS.Conv
import PyProof.TupleOfSeq
import HandS.Iter
import HandS.EndTab
set_option Elab.async false
set_option linter.all false
set_option maxRecDepth 100000
namespace NC
open PySem PySem.Spec PyProof.Rows L2
def sg (c : Nat) : Str := ⟨#[c]⟩
def sgs (x : Str) : List Str := x.cps.toList.map sg
section
variable {X : Cx}
theorem mt_swap : MtR X "str.swapcase" (fun x xs H Q => ∃ a, x = .str a ∧ xs = [] ∧ a.length ≤ 1000 ∧ Q (.str (Txt.swapcase a)) H) :=
  mt0 (C := fun a => a.length ≤ 1000) (g := fun a => .str (Txt.swapcase a)) fun a _ s _ hc h =>
    PySem.SC.swapcase (short24 (by have h1 : a.length ≤ 1000 := hc; have := len_swapcase a; omega)) (h _ (s.toks + 1) ⟨_, rfl⟩)
theorem items_strs {x : Str} {acc : Array Value} (h : ItemsOf (SignAt x) acc x.cps.size) : StrsAre acc.toList (sgs x) := by
  refine strs_at (by simp [sgs, h.1]) fun j v e => ?_
  obtain ⟨c, u, hc, hv⟩ := h.2 j v (by simpa using e)
  exact ⟨sg c, u, by simp [sgs, hc], hv⟩
/-- list(text) -/
theorem cr_listS (hc : X.calm = true) : CallR X (.type "list") (fun xs H Q => ∃ z, xs = [.str z] ∧ z.length ≤ sizeLine ∧ ∀ l, H l = none → Q (.ref l) (upd H l (.lst ((sgs z).map V.str)))) := by
  intro pins s σ H xs us Q I r h
  obtain ⟨z, rfl, hz, q⟩ := h
  obtain ⟨u, rfl, t, rfl⟩ := vals1 r
  refine call_list_str (I.ok.hd hc) z t (hn := hz) fun h' tk acc' c' hk hS' hacc => ?_
  have hl : ((sgs z).map V.str).length ≤ sizeLine := by
    rw [List.length_map]; unfold sgs; rw [List.length_map, Array.length_toList]; exact hz
  refine ⟨.ref s.heap.objs.size, upd H s.heap.objs.size (.lst ((sgs z).map V.str)), I.laid hk (Nat.le_refl _) ⟨hl, acc'.toList, c', vals_of_strs (items_strs hacc), by simpa using hS'⟩, rfl, q _ (I.hok.fresh (Nat.le_refl _))⟩
/-- sorted(v), where what is gathered of v are fewer than 64 texts -/
theorem srt_str {pins : List (Addr × Obj)} {s : Shared} {σ : L2.St} {H : Hp} {Q : VK} (I : Inv X pins σ H s) (v : Value) (ks : List Str) (h64 : ks.length < 64)
    (hcol : ∀ (E : Value → Shared → Prop) (Q' : List Value → Shared → Prop), (∀ s' out ks', s'.os = s.os → s'.gens = s.gens → (∀ b o, s.heap.get? b = some o → s'.heap.get? b = some o) → StrsAre out ks' → ks'.Perm ks → Q' out s') →
      wpAny (model X.prog X.w) X.A.in1 (collect v) Q' E s)
    (q : ∀ ys p, ys.Perm ks → sortedS ys = true → H p = none → Q (.ref p) (upd H p (.lst (ys.map V.str)))) :
    wpAny (model X.prog X.w) X.A (call (.builtin "sorted") [v]) (EP X pins σ Q) X.xe s := by
  have go : wpAny (model X.prog X.w) X.A.in1 (collect v) (fun out s1 => ∃ ks', s1.os = s.os ∧ s1.gens = s.gens ∧ (∀ b o, s.heap.get? b = some o → s1.heap.get? b = some o) ∧ StrsAre out ks' ∧ ks'.Perm ks) X.xe s := hcol _ _ fun s1 out ks' e1 e2 e3 e4 e5 => ⟨ks', e1, e2, e3, e4, e5⟩
  refine Calls.call_function_entry PyProof.Rows.kind_sorted PyProof.Rows.plain_sorted PyProof.Rows.entry_sorted (PyProof.Rows.args_sorted1 _) (show wpAny _ X.A.in1 (Builtin.«sorted» _) _ _ _ from ?_)
  unfold Builtin.«sorted»
  refine wpAny_bind (wpAny_pure (wpAny_bind (thn go fun out t g => ?_)))
  obtain ⟨ks', io, gn, stay, sts, perm⟩ := g
  have J : Inv X pins σ H t := I.call' (ch := []) io (Un.kept stay) (I.hok.kept stay) (gn.symm ▸ I.bare) nofun
  have few : out.length < 64 := by
    have l1 := StrsAre.len_eq sts
    have l2 := perm.length_eq
    omega
  obtain ⟨hp, gs, dr, tk, os⟩ := t
  have lst : (hp.push (seqObj "list" out.toArray 0)).get? hp.objs.size = some (seqObj "list" out.toArray 0) := Heap.get?_push_size _ rfl
  refine wpAny_bind (wpAny_newList (wpAny_bind (wpAny_holding (wpAny_call_entry PyProof.Rows.slot_list_sort ⟨_, lst, rfl⟩ PyProof.Rows.entry_list_sort (list_sort_treeK strKind_oneLt lst sts.keysOf (fun _ _ _ e => keyKind_strs (e ▸ sts)) few fun st p1 p2 => ⟨_, rfl, ?_⟩)
    (PyProof.Rows.args_list_sort _)))) (by rw [sizeLine_eq]; omega))
  obtain ⟨ys, is, py, so⟩ := sorted_out_str sts p1 p2
  obtain ⟨ep, at_⟩ := PyProof.Rows.sortedHeap_at (vs := out) (out := (arrOf st).map (·.2)) lst
  have pk : ys.Perm ks := py.trans perm
  have sz : (ys.map V.str).length ≤ sizeLine := by
    have l3 := pk.length_eq
    rw [sizeLine_eq, List.length_map]
    omega
  have old : ∀ (b : Addr) (o : Obj), hp.get? b = some o → (sortedHeap (hp.push (seqObj "list" out.toArray 0)) hp.objs.size out ((arrOf st).map (·.2))).get? b = some o := fun b o e => by
    have lo := Heap.lt_size e
    rw [PyProof.Rows.sortedHeap_old (Nat.ne_of_lt lo) (by rw [size_push']; exact Nat.lt_succ_of_lt lo), Heap.get?_push_of_some _ e]
  exact wpAny_pure ⟨_, rfl, .ref hp.objs.size, upd H hp.objs.size (.lst (ys.map V.str)), J.laid (t' := tk) old (Nat.le_refl _) (show ObjOk X.prog X.w _ _ _ (.lst (ys.map V.str)) from ⟨sz, ((arrOf st).map (·.2)).toList, ep, vals_of_strs is, Array.toArray_toList.symm ▸ at_⟩), rfl, q ys _ pk so (J.hok.fresh (Nat.le_refl _))⟩
/-- sorted(text) -/
theorem cr_sortedT (hc : X.calm = true) : CallR X (.builtin "sorted") (fun xs H Q => ∃ z, xs = [.str z] ∧ z.length < 64 ∧ ∀ ys p, ys.Perm (sgs z) → sortedS ys = true → H p = none → Q (.ref p) (upd H p (.lst (ys.map V.str)))) := by
  intro pins s σ H xs us Q I r h
  obtain ⟨z, rfl, hz, q⟩ := h
  obtain ⟨u, rfl, t, rfl⟩ := vals1 r
  have hl : (sgs z).length < 64 := by unfold sgs; rw [List.length_map, Array.length_toList]; exact hz
  refine srt_str I (.str z t) (sgs z) hl (fun E Q' hQ => ?_) q
  refine wpAny_collect_str (A := X.A.in1) (I.ok.hd hc) z t (hn := by show z.length ≤ sizeLine; rw [sizeLine_eq]; omega) fun s' acc hk hg hd ho hacc => ?_
  exact hQ s' _ _ ho hg hk (items_strs hacc) (List.Perm.refl _)
end
end NC
namespace NC
open PySem PySem.Spec PyProof.Rows L2
section
variable {X : Cx} {CX : CXT} {k : Nat} {C f : Addr} {mc : Value} {sp : Sp} {E : XK} {e : Expr} {es : List Expr} {x m : Str} {pos p1 p2 : Pos} {t : TA} {pl : Sem Bool}
  {fd : FuncData} {ps : List Str} {dvs : List V} {ds : List Value}
/-- C.m(e, ..), C an own class by its name, m a plain def of it -/
theorem pe_clsfn (hg : Gl X x) (hm : X.mg x = some (.ref C)) (rd : ClX.CRead X.K C mc) (kv : PySem.W.findCls X.K (.ref C) mc m = some (.val (.ref f)))
    (F : FnOk X.prog X.w X.K X.mg X.base CX k f fd ps sp) (hr : Room k X.A) (hk : PySem.W.keepIn X.K (.ref f) = true) (hb : Binds X.K fd ps ds) (hd : Vals dvs ds) (hx : Passes CX X E) (ha : PA X (e :: es) t)
    (hdb : (x == ("__debug__" : Str)) = false := by decide)
    (hst : starEach (e :: es) X.env = (false, eval e X.env) :: starEach es X.env := by rfl) (hpl : (backTo pos (starEach es X.env)).any (·.1) = false := by rfl)
    (ht : eval (.Call (.Attribute (.Name x p1) m p2) (e :: es) [] pos) X.env = (do
      let ov ← eval (.Name x p1) X.env
      standAt p2.atName
      let (g, first) ← holding [ov] (getMethod ov m pl)
      callWith pos g first (backTo pos (starEach (e :: es) X.env)) (backToKw pos (keywordEach [] X.env))) := by rfl) :
    PE X (.Call (.Attribute (.Name x p1) m p2) (e :: es) [] pos) (tCall sp dvs E t) := by
  refine ⟨fun pins s0 σ H Q I0 h0 => ?_⟩
  refine PySem.W.methodCall_KW (pl := pl) (ld_glob I0 hg hm ?_ hdb) ht
  refine PySem.W.method_cls I0.kIn rd.ga (ClX.getcval_ok (v := .ref f) I0 rd ⟨kv, rfl⟩ fun s1 I1 => ?_)
  refine PySem.W.callWith_K (first := []) (h₀ := X.base) I1.ok.mod.kin hk (thn (ha.run pos pins s1 σ H _ I1 h0) fun us s2 ⟨vs, H2, I2, r2, q2⟩ => ⟨I2.kIn, ?_⟩) hst hpl
  exact run_fn (us := us) (vs := vs) F hr hb hd hx I2 r2 q2
end
end NC
namespace NC
open PySem PySem.Spec PyProof.Rows L2
open PySem.Froz (SD sObj runD addTx tailTx TxOk sing itObj finU two)
/-- the table rises and may be walked -/
def TxG (b : Bool) (D : SD) : Prop := Ris D.2.2.place.toList ∧ D.2.2.led = b
theorem txg_tail {b : Bool} {ep : Nat} {es : Array (Int × Value)} {t : SetTable} {d : Bool} (h : Ris t.place.toList ∧ t.led = b) : TxG b (tailTx ep es t d) := by
  unfold tailTx
  by_cases c : (!d && t.tooFull) = true
  · rw [if_pos c]; exact ⟨relayAll_ris _ _ _, (relayAll_led _ _ _).trans h.2⟩
  · rw [if_neg c]; exact h
theorem txg_add {b : Bool} {D : SD} {hv : Int} {v : Value} (h : TxG b D) : TxG b (addTx hv v D) := by
  unfold addTx
  have h1 := layNew_ris D.2.2 D.1 hv v h.1
  have h2 := (layNew_led D.2.2 D.1 hv v).trans h.2
  refine txg_tail ?_
  split
  · exact ⟨h1, h2⟩
  · exact ⟨h1, h2⟩
theorem run_good {P : Program} {w : World} {b : Bool} : ∀ (cs : List Nat) (tk : Tok) (D : SD) (l : List Str), TxG b D → TxOk P w D l → ∃ l', TxG b (runD w cs tk D) ∧ TxOk P w (runD w cs tk D) l' ∧ l'.Perm (l ++ cs.map sg)
  | [], tk, D, l, g, o => ⟨l, g, o, by simp⟩
  | c :: r, tk, D, l, g, o => by
    obtain ⟨l', g', o', p⟩ := run_good r (tk + 2) _ (sing c :: l) (txg_add g) (Froz.add_ok (k := sing c) tk o)
    refine ⟨l', g', o', p.trans ?_⟩
    show (sg c :: (l ++ r.map sg)).Perm (l ++ (sg c :: r.map sg))
    exact List.perm_middle.symm
theorem loop_txt {P : Program} {w : World} {A : Around} {R : Result → Shared → Prop} {s : Shared} {a it : Addr} {x : Str} {u : Tok} {led : Bool} (hh : A.handled = none) (hne : a ≠ it)
    (ha : s.heap.get? a = some (sObj "set" (#[], 0, .fresh 0 0 led))) (hit : s.heap.get? it = some (itObj x u 0)) (hnd : x.cps.toList.Nodup) (hb : x.cps.toList.length < 64)
    (h : ∀ (h' : Heap) (tk : Nat) (D : SD) (l : List Str), h'.get? a = some (sObj "set" D) → TxG led D → TxOk P w D l → l.Perm (sgs x) →
      (∀ b o, b ≠ a → b ≠ it → s.heap.get? b = some o → h'.get? b = some o) → R (.ok (.ret .none)) { s with heap := h', toks := tk }) :
    codeAny (model P w) A (.builtin "set.update.loop" ⟨[.ref a, .ref it], []⟩) R s := by
  have g0 : TxG led ((#[], 0, .fresh 0 0 led) : SD) := ⟨List.Pairwise.nil, rfl⟩
  have o0 : TxOk P w ((#[], 0, .fresh 0 0 led) : SD) [] := Froz.TxOk.nil rfl
  obtain ⟨l', g1, o1, p1⟩ := run_good (P := P) (w := w) x.cps.toList s.toks _ [] g0 o0
  refine Froz.code_update (T := "set") (u := u) hne hh x.cps.toList 0 _ [] s rfl ha hit o0 (fun c _ z => nomatch z) hnd (by show 0 + x.cps.toList.length < scanBound; unfold scanBound; omega) ?_
  unfold finU two
  have e1 := Froz.get_upd (sObj "set" (runD w x.cps.toList s.toks (#[], 0, .fresh 0 0 led))) ha rfl
  refine h _ _ _ l' (Heap.get?_push_of_some _ (Heap.get?_push_of_some _ (Heap.get?_update_of_ne _ (Ne.symm hne) e1))) g1 o1 (p1.trans (by simp [sgs])) fun b o h1 h2 e => ?_
  exact Heap.get?_push_of_some _ (Heap.get?_push_of_some _ (Heap.get?_update_of_ne _ (Ne.symm h2) (Heap.get?_update_of_ne _ (Ne.symm h1) e)))
set_option maxHeartbeats 3200000 in
/-- set(text), its signs unlike -/
theorem call_set_txt {P : Program} {w : World} {A : Around} {E : Value → Shared → Prop} {s : Shared} {x : Str} {t : Tok} {Q : Value → Shared → Prop} (hh : A.handled = none) (hA : x.cps.all (· < 128) = true)
    (hnd : x.cps.toList.Nodup) (hb : x.cps.toList.length < 64)
    (h : ∀ (h' : Heap) (tk : Nat) (D : SD) (l : List Str), h'.get? s.heap.objs.size = some (sObj "set" D) → TxG (!w.params.followText "set-order") D → TxOk P w D l → l.Perm (sgs x) →
      (∀ b o, s.heap.get? b = some o → h'.get? b = some o) → Q (.ref s.heap.objs.size) { s with heap := h', toks := tk }) :
    wpAny (model P w) A (call (.type "set") [.str x t]) Q E s := by
  obtain ⟨c, tl, hmro⟩ := PySem.F.called_set.mro
  have hmade := PySem.F.called_set.made
  have hsub := PySem.F.called_set.sub
  generalize hled : (!w.params.followText "set-order") = led at h
  refine wpAny_call (codeAny_of_tree ?_)
  show wpAny _ _ (callAny (.type "set") _) _ _ _
  refine wpAny_pure ⟨Code.quiet_builtin _ (by decide +kernel), codeAny_builtin PySem.F.entry_type_call ?_⟩
  rw [Around.under_plain (weight_type_call_type "set" [.str x t] []) rfl]
  have n1 := PySem.F.called_set.notType
  have n2 := PySem.F.called_set.canCreate
  have hct := PySem.F.typeCall_set_1 (.str x t)
  repeat (any_goals (first | assumption | wp_step))
  refine codeAny_mono (code_set_led1 (.str x t) (E := E) (Q₁ := fun ob s1 => ob = .ref s.heap.objs.size ∧ s1 = { s with heap := s.heap.push (sObj "set" (#[], 0, .fresh 0 0 led)) }) ⟨rfl, by rw [hled]; rfl⟩) fun r s1 hr => ?_
  cases r with
  | error e => exact hr
  | ok fl =>
    cases fl with
    | ret ob =>
      obtain ⟨rfl, rfl⟩ := hr
      have hS : (s.heap.push (sObj "set" (#[], 0, .fresh 0 0 led))).get? s.heap.objs.size = some (sObj "set" (#[], 0, .fresh 0 0 led)) := Heap.get?_push_size _ rfl
      have hT : Shared.TypeIs { s with heap := s.heap.push (sObj "set" (#[], 0, .fresh 0 0 led)) } (.ref s.heap.objs.size) "set" := ⟨_, hS, rfl⟩
      have hli := PySem.F.called_set.init.lookup
      have hbi := PySem.F.called_set.init.bind (.ref s.heap.objs.size)
      repeat (any_goals (first | assumption | wp_step))
      refine codeAny_mono (codeAny_call_builtin (R := wants (fun r s2 => r = .none ∧ Q (.ref s.heap.objs.size) s2) E) PySem.F.called_set.init.plain PySem.F.entry_set_init (check_set_init_1 hT ?_)) fun r2 s2 hr2 => ?_
      · unfold Builtin.«set.__init__» noKeywords Builtin.Frozenset.updateFrom
        have b1 : isSubtype (.type "str") (.type "set") = pure false := by rw [isSubtype_type]; kernel_rfl
        have b2 : isSubtype (.type "str") (.type "frozenset") = pure false := by rw [isSubtype_type]; kernel_rfl
        have b3 : (Value.type "str" == Value.type "dict") = false := by decide
        generalize hPI : pyIter = PI
        wp_walk
        subst hPI
        refine wpAny_pyIter_ascii hA ?_
        refine wpAny_bind (wpAny_runValue ?_)
        have hz : (s.heap.push (sObj "set" (#[], 0, .fresh 0 0 led))).objs.size = s.heap.objs.size + 1 := Heap.size_push ..
        refine loop_txt (A := A.in1.in1) (u := t) (by simp [hh]) (by show s.heap.objs.size ≠ (s.heap.push _).objs.size; rw [hz]; omega) (Heap.get?_push_of_some _ hS) (Heap.get?_push_size _ rfl) hnd hb fun h' tk D l e1 e2 e3 e4 e5 => ?_
        refine wpAny_pure ?_
        show wpAny _ _ (ret Value.none) _ _ _
        refine wpAny_pure ⟨rfl, h h' tk D l e1 e2 e3 e4 fun b o e => e5 b o ?_ ?_ (Heap.get?_push_of_some _ (Heap.get?_push_of_some _ e))⟩
        · exact Nat.ne_of_lt (Heap.lt_size e)
        · show b ≠ (s.heap.push _).objs.size
          rw [hz]
          exact Nat.ne_of_lt (Nat.lt_succ_of_lt (Heap.lt_size e))
      · cases r2 with
        | error e => exact hr2
        | ok f2 =>
          cases f2 with
          | ret r =>
            obtain ⟨rfl, hq⟩ := hr2
            repeat (any_goals (first | assumption | wp_step))
          | _ => exact hr2.elim
    | _ => exact hr.elim
/-- a set of the texts l -/
def SetTx (P : Program) (w : World) (a : Addr) (l : List Str) : HO := .ext fun h => ∃ D : SD, h.get? a = some (sObj "set" D) ∧ TxG (!w.params.followText "set-order") D ∧ TxOk P w D l
section
variable {X : Cx}
theorem setTx_ok {H : Hp} {h : Heap} {a : Addr} {l : List Str} {D : SD} (e : h.get? a = some (sObj "set" D)) (g : TxG (!X.w.params.followText "set-order") D) (o : TxOk X.prog X.w D l) : ObjOk X.prog X.w H h a (SetTx X.prog X.w a l) :=
  ⟨⟨D, e, g, o⟩, ⟨_, e⟩, fun h1 h2 ⟨D', e', r'⟩ k => ⟨D', k _ e', r'⟩⟩
theorem cr_setT (hc : X.calm = true) : CallR X (.type "set") (fun xs H Q => ∃ z, xs = [.str z] ∧ z.cps.all (· < 128) = true ∧ z.cps.toList.Nodup ∧ z.cps.toList.length < 64 ∧
    ∀ p l, H p = none → l.Perm (sgs z) → Q (.ref p) (upd H p (SetTx X.prog X.w p l))) := by
  intro pins s σ H xs us Q I r h
  obtain ⟨z, rfl, hA, hn, hl, q⟩ := h
  obtain ⟨u, rfl, t, rfl⟩ := vals1 r
  refine call_set_txt (P := X.prog) (w := X.w) (I.ok.hd hc) hA hn hl fun h' tk D l e1 e2 e3 e4 e5 => ?_
  exact ⟨.ref s.heap.objs.size, _, I.laid e5 (Nat.le_refl _) (setTx_ok e1 e2 e3), rfl, q _ l (I.hok.fresh (Nat.le_refl _)) e4⟩
theorem strs_map : ∀ vs : List Value, (∀ v ∈ vs, ∃ y u, v = Value.str y u) → StrsAre vs (vs.map strOf)
  | [], _ => .nil
  | v :: r, h => by
    obtain ⟨y, u, rfl⟩ := h v (List.mem_cons_self ..)
    exact .cons y u (strs_map r fun z hz => h z (List.mem_cons_of_mem _ hz))
theorem strs_perm {vs out : List Value} {ks : List Str} (h : StrsAre vs ks) (p : out.Perm vs) : ∃ ks', StrsAre out ks' ∧ ks'.Perm ks := by
  refine ⟨_, strs_map out fun v hv => h.all v (p.mem_iff.mp hv), ?_⟩
  rw [← h.strs]
  exact p.map _
theorem nd_perm : ∀ (l ks : List Str), l.Nodup → (∀ y ∈ l, y ∈ ks) → ks.length ≤ l.length → ks.Perm l
  | [], ks, _, _, h => by
    have e : ks = [] := List.length_eq_zero_iff.mp (by simpa using h)
    rw [e]
  | y :: r, ks, hn, hs, h => by
    obtain ⟨n1, n2⟩ := List.nodup_cons.mp hn
    have m : y ∈ ks := hs y (List.mem_cons_self ..)
    have hl := List.length_erase_of_mem m
    have q := nd_perm r (ks.erase y) n2 (fun z hz => (List.mem_erase_of_ne (fun e : z = y => n1 (by rw [← e]; exact hz))).mpr (hs z (List.mem_cons_of_mem _ hz))) (by
      rw [List.length_cons] at h
      omega)
    exact (List.perm_cons_erase m).trans (q.cons y)
theorem tx_strs {P : Program} {w : World} {D : SD} {l : List Str} (o : TxOk P w D l) (hn : l.Nodup) : ∃ ks, StrsAre (D.1.toList.map (·.2)) ks ∧ ks.Perm l := by
  have sh : ∀ e ∈ D.1.toList, ∃ k u, e.2 = Value.str k u ∧ (strKind P w).is k e.2 = true := fun e he => by
    obtain ⟨⟨k, hk, _⟩, _⟩ := o.el e he
    obtain ⟨u, eu⟩ := Value.isStrOf_shape (x := k) (v := e.2) hk
    exact ⟨k, u, eu, hk⟩
  refine ⟨_, strs_map _ fun v hv => ?_, nd_perm l _ hn (fun k hk => ?_) ?_⟩
  · obtain ⟨e, he, rfl⟩ := List.mem_map.mp hv
    obtain ⟨k, u, eu, _⟩ := sh e he
    exact ⟨k, u, eu⟩
  · obtain ⟨e, he, z⟩ := (o.mem k).mp hk
    obtain ⟨u, eu⟩ := Value.isStrOf_shape (x := k) (v := e.2) z
    refine List.mem_map.mpr ⟨e.2, List.mem_map.mpr ⟨e, he, rfl⟩, ?_⟩
    rw [eu]
    rfl
  · rw [List.length_map, List.length_map, Array.length_toList, o.sz]
    exact Nat.le_refl _
theorem cr_sortedSetT (hc : X.calm = true) : CallR X (.builtin "sorted") (fun xs H Q => ∃ a l, xs = [.ref a] ∧ H a = some (SetTx X.prog X.w a l) ∧ l.Nodup ∧ l.length < 64 ∧
    ∀ ys p, ys.Perm l → sortedS ys = true → H p = none → Q (.ref p) (upd H p (.lst (ys.map V.str)))) := by
  intro pins s σ H xs us Q I r h
  obtain ⟨a, l, rfl, ha, hn, hl, q⟩ := h
  rw [Vals.ref1 r]
  obtain ⟨⟨D, e, g, o⟩, _, _⟩ := I.hok a _ ha
  obtain ⟨ks, hS, hp⟩ := tx_strs o hn
  have hsz : D.1.size < scanBound := by rw [o.sz]; unfold scanBound; omega
  refine srt_str I (.ref a) l hl (fun E Q' hQ => ?_) q
  refine collect_set (A := X.A.in1) (P := X.prog) (w := X.w) (es := D.1) (ep := D.2.1) (t := D.2.2) (I.ok.hd hc) ⟨_, e, rfl, rfl⟩ o.fit hsz g.1 ?_ fun s' out k1 k2 k3 k4 k5 => ?_
  · rw [g.2]
    cases X.w.params.followText "set-order"
    · exact .inr rfl
    · exact .inl rfl
  · obtain ⟨ks', hS', hp'⟩ := strs_perm hS k5
    exact hQ s' out ks' k4 k3 k1 hS' (hp'.trans hp)
end
end NC
namespace NC
open PySem PySem.Spec PyProof.Rows L2
/-- the two objects that enumerate(t) lays, t at l -/
abbrev titO (l : Addr) : Obj := { cls := .type "tuple_iterator", data := .fields #[.ref l, .int 0 0] }
abbrev enuO (it : Addr) : Obj := { cls := .type "enumerate", data := .fields #[.none, .bool false, .ref it, rawInt 0, .none, .none] }
theorem meets_enumT (l : Addr) (ob : Obj) (items : Array Value) (n : Nat) (hc : ob.cls = .type "tuple") (hd : ob.data = .seq items n) :
    Meets (Builtin.«enumerate.__new__» ⟨[.type "enumerate", .ref l], []⟩) (fun _ R s => s.heap.get? l = some ob ∧ R (.ok (.ret (.ref (s.heap.push (titO l)).objs.size))) { s with heap := (s.heap.push (titO l)).push (enuO s.heap.objs.size) }) :=
  .of_wp fun P w A R t h => by
    obtain ⟨oc, od, dt, sl⟩ := ob
    cases (show oc = _ from hc)
    cases (show dt = _ from hd)
    have tup : t.heap.IsTuple l items := ⟨_, h.1, rfl, n, rfl⟩
    have sb := sub_enumerate
    obtain ⟨hp, g, d, tk, os⟩ := t
    have ld := h.1
    wp_walk using AutoSeq1.wpAny_loadPart' ld
    refine wpAny_stack_any fun _ => wpAny_pure ?_
    split
    · rename_i k _ _ _ _ _
      cases (k == Value.type "enumerate") <;> (wp_walk using AutoSeq1.wpAny_loadPart' ld, wpAny_pyIter_tuple tup; exact ⟨_, rfl, h.2⟩)
    · wp_walk using AutoSeq1.wpAny_loadPart' ld, wpAny_pyIter_tuple tup
      exact ⟨_, rfl, h.2⟩
theorem call_enumT {P : Program} {w : World} {A : Around} {E Q : Value → Shared → Prop} {t : Shared} {l : Addr} {items : Array Value} (tup : t.heap.IsTuple l items)
    (h : ∀ g, IsEnum g (t.heap.objs.size + 1) t.heap.objs.size 0 .none → g.IsTupleIter t.heap.objs.size l 0 → (∀ b o, t.heap.get? b = some o → g.get? b = some o) → Q (.ref (t.heap.objs.size + 1)) { t with heap := g }) :
    wpAny (model P w) A (call (.type "enumerate") [.ref l]) Q E t := by
  obtain ⟨ob, ho, oc, n, od⟩ := tup
  have sz : (t.heap.push (titO l)).objs.size = t.heap.objs.size + 1 := Heap.size_push ..
  have laid : IsEnum ((t.heap.push (titO l)).push (enuO t.heap.objs.size)) (t.heap.objs.size + 1) t.heap.objs.size 0 .none := by
    have z := Heap.get?_push_size (t.heap.push (titO l)) (o := enuO t.heap.objs.size) rfl
    exact sz ▸ z
  refine callType_new F.called_enumerate (by decide) (F.typeCall_enumerate_1 _) (F.newCall_enumerate_1 _) (fun z => F.args_object_init_2 z _) F.entry_enumerate_new (meets_enumT l ob items n oc od) ⟨ho, ?_⟩
  show _ ∧ _
  rw [sz]
  exact ⟨⟨_, laid, rfl⟩, h _ laid ⟨_, Heap.get?_push_of_some _ (Heap.get?_push_size _ rfl), rfl, rfl⟩ fun _ _ z => Heap.get?_push_of_some _ (Heap.get?_push_of_some _ z)⟩
/-- the walk: at turn i a new pair of i and the item -/
def ItET (K : PySem.W.Frag) (a : Addr) : It :=
  ⟨fun i H => ∃ (xs : List V) (x : V), SqT K H a xs ∧ xs[i]? = some x, fun i H v H' => ∃ T x, v = .ref T ∧ H T = none ∧ H' = upd H T (.tup [.int (i : Nat), x]) ∧ ∀ xs, SqT K H a xs → xs[i]? = some x,
    fun i H => ∃ xs : List V, SqT K H a xs ∧ xs.length ≤ i⟩
/-- the state ahead of turn i: the enumerate object at e, its iterator at it -/
def AtE (a e it : Addr) (i : Nat) (h : Heap) : Prop := (∃ last, IsEnum h e it ((i : Nat) : Int) last) ∧ h.IsTupleIter it a i ∧ e ≠ it
theorem AtE.apart {a e it : Addr} {i : Nat} {h : Heap} {vs : Array Value} (st : AtE a e it i h) (t : h.IsTuple a vs) : a ≠ it ∧ e ≠ a := by
  obtain ⟨⟨_, g1⟩, ⟨o2, g2, c2, _⟩, _⟩ := st
  obtain ⟨o3, g3, c3, _⟩ := t
  have g1 : h.get? e = _ := g1
  refine ⟨fun z => ?_, fun z => ?_⟩
  · rw [z, g2] at g3
    exact absurd (c2.symm.trans ((Option.some.inj g3) ▸ c3)) (by decide)
  · rw [z, g3] at g1
    have c4 : o3.cls = .type "enumerate" := (Option.some.inj g1) ▸ rfl
    exact absurd (c3.symm.trans c4) (by decide)
theorem AtE.olds {a e it : Addr} {i : Nat} {h : Heap} (st : AtE a e it i h) {b : Addr} (m : b ∈ [e, it]) : b < h.objs.size := by
  obtain ⟨⟨_, g1⟩, ⟨o2, g2, _⟩, _⟩ := st
  rcases List.mem_cons.mp m with rfl | m
  · exact Heap.lt_size g1
  · exact (List.mem_singleton.mp m) ▸ Heap.lt_size g2
theorem turn_enumT {P : Program} {w : World} {K : PySem.W.Frag} {elts : List Expr} {kk : Nat} {tpos : Pos} (a e it : Addr) : Turn P w K (.Tuple elts kk tpos) (ItET K a) [e, it] e (AtE a e it) where
  mem := .head _
  obj := fun i h st b m => by
    rcases List.mem_cons.mp m with rfl | m
    · exact st.1.elim fun _ g => ⟨_, g, nofun⟩
    · obtain ⟨o, g, _, k⟩ := st.2.1
      exact ⟨o, (List.mem_singleton.mp m) ▸ g, fun v z => nomatch k.symm.trans z⟩
  keep := fun i h h' st k => ⟨st.1.imp fun _ g => k e (.head _) _ g, st.2.1.at fun o g => k it (.tail _ (.head _)) o g, st.2.2⟩
  item := by
    rintro X rfl rfl rfl calm i ps t σ H E I fre st ⟨xs, x, sq, ax⟩
    obtain ⟨its, vl, tp, _⟩ := I.tuple sq
    have tup : t.heap.IsTuple a its.toArray := tp
    obtain ⟨u, au, rel⟩ := vl.get ax
    have lt : i < its.toArray.size := by simpa using (List.getElem?_eq_some_iff.mp au).1
    obtain ⟨n1, n2⟩ := st.apart tup
    obtain ⟨_, enu⟩ := st.1
    have old : e < t.heap.objs.size := st.olds (.head _)
    refine wpAny_pyNext_enum_itemD (Draws.tuple (prog := X.prog) (w := X.w) (A := X.A.in1) (I.ok.hd calm) it a n1 its.toArray) enu ⟨st.2.1, tup⟩ lt st.2.2 (by simp [st.2.2, n2]) fun y g tk ay own on pair _ stay => ?_
    obtain rfl : y = u := Option.some.inj ((show its[i]? = some y by simpa using ay).symm.trans au)
    refine ⟨_, rfl, wpAny_letOwnedTupleGo_enum (s := { t with heap := g, toks := tk + 1 }) own fun g2 enu2 but => ?_⟩
    have pair2 : g2.get? t.heap.objs.size = some { cls := .type "tuple", data := .seq #[.int i tk, y] } := (but.2 _ (Nat.ne_of_gt old)).trans pair
    refine ⟨.ref t.heap.objs.size, upd H t.heap.objs.size (.tup [.int (i : Nat), x]), I.turnedNew (ch := [e, it]) (fun b o nb z => (but.2 b fun q => nb (by simp [q])).trans (stay b o (fun q => nb (by simp [q])) (fun q => nb (by simp [q])) z)) fre (Nat.le_refl _)
        ⟨by show 2 ≤ sizeLine; decide, [.int i tk, y], .cons ⟨_, rfl⟩ (.cons rel .nil), ⟨_, pair2, rfl, _, rfl⟩⟩, rfl, ⟨_, x, rfl, I.hok.fresh (Nat.le_refl _), rfl, fun ys sy => I.tuple_inj sy sq ▸ ax⟩, ⟨⟨y, ?_⟩, on.1.at fun o z => (but.2 it (Ne.symm st.2.2)).trans z, st.2.2⟩, fun b m => ?_⟩
    · exact (show ((i + 1 : Nat) : Int) = (i : Int) + 1 by omega) ▸ enu2
    · exact (upd_ne (Nat.ne_of_lt (st.olds m))).trans (fre b m).1
  done := by
    rintro X rfl rfl rfl calm i ps t σ H E I fre st ⟨xs, sq, le⟩
    obtain ⟨its, vl, tp, _⟩ := I.tuple sq
    have tup : t.heap.IsTuple a its.toArray := tp
    obtain ⟨_, enu⟩ := st.1
    have ty : t.TypeIs (.ref e) "enumerate" := ⟨_, enu, rfl⟩
    have end_ : its.toArray[i]? = none := by
      have := vl.length
      simp
      omega
    have fr := fre it (.tail _ (.head _))
    unfold pyNext
    refine wpAny_bind (wpAny_attempt (wpAny_callSpecial?_slot (name := Str.ofString "__next__") ty F.slot_enumerate_next (wpAny_call_entry F.slot_enumerate_next ty F.entry_enumerate_next ?_ (F.args_enumerate_next_1 _))))
    show wpAny _ _ (field (.ref e) 2 >>= fun _ => _) _ _ _
    refine wpAny_bind (wpAny_field enu rfl (x := .ref it) rfl (wpAny_bind (wpAny_nextOf_tuple_end (I.ok.hd calm) st.2.1 tup end_ fun g z but hz => ?_)))
    exact wpAny_bind (wpAny_isInstance (T := "StopIteration") (b := true) hz isSubtype_stop (wpAny_pure ⟨rfl, I.turned (t' := t.toks) (fun b o nb q => but b o nb q) fr.1 fr.2.1 fr.2.2.2.1 fr.2.2.2.2.1 fr.2.2.2.2.2⟩))
  self := fun _ _ _ _ _ st h => st.1.elim fun _ g => wpAny_pyIter_enum g h
def iEnumT (K : PySem.W.Frag) (ta : TA) : TI := fun σ H R => ta σ H fun vs H1 => ∃ a, vs = [.ref a] ∧ ((∃ xs, SqL K H1 a xs) ∧ R (Ite K a) H1 ∨ (∃ xs, SqT K H1 a xs) ∧ R (ItET K a) H1)
/-- enumerate of a list or of a tuple -/
theorem pi_enumT {X : Cx} {e : Expr} {ta : TA} {p pos tpos : Pos} {elts : List Expr} {kk : Nat} (gl : Gl X "enumerate") (bi : X.mg "enumerate" = none) (arg : PA X [e] ta) (one : starEach [e] X.env = [(false, eval e X.env)] := by rfl) :
    PI X (.Tuple elts kk tpos) (.Call (.Name "enumerate" p) [e] [] pos) (iEnumT X.K ta) := by
  refine ⟨fun ps t σ H R I h => Call_ (ld_blt I gl bi boot_enumerate (PyProof.Rows.callWith_type1 (thn (arg.run pos ps t σ H _ I h) fun us v r => ?_) one rfl))⟩
  obtain ⟨vs, G, J, rv, a, rfl, r⟩ := r
  cases Vals.ref1 rv
  have new : ∀ b ∈ [v.heap.objs.size + 1, v.heap.objs.size], FpOk X ps G b := fun b m => by
    have up : v.heap.objs.size ≤ b := by
      simp at m
      omega
    exact J.fpOk up (J.hok.fresh up)
  rcases r with ⟨⟨xs, sq⟩, r⟩ | ⟨⟨xs, sq⟩, r⟩
  · obtain ⟨_, _, k, _⟩ := J.list sq
    exact call_enumerate_list k.isList fun g enu iter _ stay => wpAny_pyIter_enum enu ⟨v.heap.objs.size + 1, _, _, _, G, rfl, J.kept (t' := v.toks) stay, turn_enum a (v.heap.objs.size + 1) v.heap.objs.size, ⟨⟨.none, enu⟩, iter, Nat.succ_ne_self _⟩, new, r⟩
  · obtain ⟨its, _, k, _⟩ := J.tuple sq
    exact call_enumT (show v.heap.IsTuple a its.toArray from k) fun g enu iter stay => wpAny_pyIter_enum enu ⟨v.heap.objs.size + 1, _, _, _, G, rfl, J.kept (t' := v.toks) stay, turn_enumT a (v.heap.objs.size + 1) v.heap.objs.size, ⟨⟨.none, enu⟩, iter, Nat.succ_ne_self _⟩, new, r⟩
end NC
namespace NC
open PySem PySem.Spec PyProof.Rows L2
def tx (l : List Nat) : Str := ⟨l.toArray⟩
def upc (c : Nat) : Nat := if 97 ≤ c ∧ c ≤ 122 then c - 32 else c
def lwc (c : Nat) : Nat := if 65 ≤ c ∧ c ≤ 90 then c + 32 else c
def swp (c : Nat) : Nat := if 97 ≤ c ∧ c ≤ 122 then c - 32 else if 65 ≤ c ∧ c ≤ 90 then c + 32 else c
theorem sg_tx (c : Nat) : sg c = tx [c] := rfl
theorem tx_list (l : List Nat) : (tx l).cps.toList = l := by simp [tx]
theorem tx_len (l : List Nat) : (tx l).length = l.length := by show (tx l).cps.size = l.length; simp [tx]
theorem tx_inj {a b : List Nat} (h : tx a = tx b) : a = b := by rw [← tx_list a, h, tx_list]
theorem sg_inj {a b : Nat} (h : sg a = sg b) : a = b := by
  have := tx_inj (a := [a]) (b := [b]) h
  simpa using this
theorem tx_app (a b : List Nat) : tx a ++ tx b = tx (a ++ b) := by
  show Str.mk (a.toArray ++ b.toArray) = Str.mk (a ++ b).toArray
  simp
theorem sgs_tx (l : List Nat) : sgs (tx l) = l.map sg := by simp [sgs, tx_list]
theorem up1_eq : ∀ c : Nat, c < 128 → up1 c = upc c := by
  have h : ∀ c : Fin 128, up1 c.val = upc c.val := by decide +kernel
  exact fun c hc => h ⟨c, hc⟩
theorem lo1_eq : ∀ c : Nat, c < 128 → lo1 c = lwc c := by
  have h : ∀ c : Fin 128, lo1 c.val = lwc c.val := by decide +kernel
  exact fun c hc => h ⟨c, hc⟩
theorem upper_tx {l : List Nat} (h : ∀ c ∈ l, c < 128) : Txt.upper (tx l) = tx (l.map upc) := by
  rw [upper_ascii (by rw [tx_list]; exact h)]
  show Str.mk (l.toArray.map up1) = Str.mk (l.map upc).toArray
  rw [List.map_toArray, List.map_congr_left fun c hc => up1_eq c (h c hc)]
theorem lower_tx {l : List Nat} (h : ∀ c ∈ l, c < 128) : Txt.lower (tx l) = tx (l.map lwc) := by
  rw [lower_ascii (by rw [tx_list]; exact h)]
  show Str.mk (l.toArray.map lo1) = Str.mk (l.map lwc).toArray
  rw [List.map_toArray, List.map_congr_left fun c hc => lo1_eq c (h c hc)]
theorem swap_sg : ∀ c : Nat, c < 128 → Txt.swapcase (sg c) = sg (swp c) := by
  have h : ∀ c : Fin 128, Txt.swapcase (sg c.val) = sg (swp c.val) := by decide +kernel
  exact fun c hc => h ⟨c, hc⟩
structure GoodW (l : List Nat) : Prop where
  lo : 1 ≤ l.length
  hi : l.length ≤ 12
  sm : ∀ c ∈ l, 97 ≤ c ∧ c ≤ 122
  rise : l.Pairwise (· < ·)
def sds (l : List Nat) : List Nat := l.map upc ++ l
theorem GoodW.asc {l : List Nat} (g : GoodW l) : ∀ c ∈ l, c < 128 := fun c h => by have := g.sm c h; omega
theorem GoodW.nd {l : List Nat} (g : GoodW l) : l.Nodup := g.rise.imp fun h => Nat.ne_of_lt h
theorem upc_small {c : Nat} (h : 97 ≤ c ∧ c ≤ 122) : upc c = c - 32 := by unfold upc; rw [if_pos h]
theorem sds_shape {l : List Nat} (g : GoodW l) {s : Nat} (h : s ∈ sds l) : (97 ≤ s ∧ s ≤ 122 ∧ s ∈ l) ∨ (65 ≤ s ∧ s ≤ 90 ∧ s + 32 ∈ l) := by
  rcases List.mem_append.mp h with q | q
  · obtain ⟨c, hc, e⟩ := List.mem_map.mp q
    have := g.sm c hc
    rw [upc_small this] at e
    exact .inr ⟨by omega, by omega, by rw [← e, show c - 32 + 32 = c by omega]; exact hc⟩
  · have := g.sm s q
    exact .inl ⟨this.1, this.2, q⟩
theorem sds_of_small {l : List Nat} {s : Nat} (h : s ∈ l) : s ∈ sds l := List.mem_append_right _ h
theorem sds_of_great {l : List Nat} (g : GoodW l) {c : Nat} (h : c ∈ l) : c - 32 ∈ sds l := by
  refine List.mem_append_left _ (List.mem_map.mpr ⟨c, h, upc_small (g.sm c h)⟩)
theorem sds_swp {l : List Nat} (g : GoodW l) {s : Nat} (h : s ∈ sds l) : swp s ∈ sds l := by
  rcases sds_shape g h with ⟨a, b, q⟩ | ⟨a, b, q⟩
  · rw [show swp s = s - 32 by unfold swp; rw [if_pos ⟨a, b⟩]]
    exact sds_of_great g q
  · rw [show swp s = s + 32 by unfold swp; rw [if_neg (by omega), if_pos ⟨a, b⟩]]
    exact sds_of_small q
theorem sds_asc {l : List Nat} (g : GoodW l) {s : Nat} (h : s ∈ sds l) : s < 128 := by
  rcases sds_shape g h with q | q <;> omega
theorem sds_len {l : List Nat} (g : GoodW l) : (sds l).length ≤ 24 := by
  unfold sds
  rw [List.length_append, List.length_map]
  have := g.hi
  omega
theorem sds_nd {l : List Nat} (g : GoodW l) : (sds l).Nodup := by
  refine List.nodup_append.mpr ⟨?_, g.nd, fun a ha b hb e => ?_⟩
  · refine List.pairwise_map.mpr (g.rise.imp_of_mem fun {a b} ha hb h e => ?_)
    have := g.sm a ha
    have := g.sm b hb
    rw [upc_small (by omega), upc_small (by omega)] at e
    omega
  · obtain ⟨c, hc, e2⟩ := List.mem_map.mp ha
    have h1 := g.sm c hc
    have h2 := g.sm b hb
    rw [upc_small h1] at e2
    omega
/-- is_bar -/
def isBar (l b : List Nat) : Bool := match b with
  | [x, y] => decide (x ∈ sds l) && (decide (y ∈ sds l) && decide (lwc x < lwc y))
  | _ => false
theorem lt1 (a b : Nat) : ([a] : List Nat) < [b] ↔ a < b := by simp [List.cons_lt_cons_iff]
theorem same_upd {H : Hp} {p : Addr} {o : HO} (h : H p = none) : Same H (upd H p o) := fun b x e => by
  rw [upd_ne (ne_of_none e h)]
  exact e
theorem sm_t {K : PySem.W.Frag} {H H' : Hp} {a : Addr} {xs : List V} (e : Same H H') (h : SqT K H a xs) : SqT K H' a xs := by
  rcases h with (h | ⟨o, h⟩) | h
  · exact .inl (.inl (e _ _ h))
  · exact .inl (.inr ⟨o, e _ _ h⟩)
  · exact .inr h
theorem yes_i {σ : L2.St} {H : Hp} {A B : Hp → Prop} (h : A H) : tYes σ H (fun b H3 => if b = true then A H3 else B H3) := show (if true = true then A H else B H) from iteT h
theorem sm_trans {H H1 H2 : Hp} (a : Same H H1) (b : Same H1 H2) : Same H H2 := fun c o h => b c o (a c o h)
theorem sm_upd {H H1 : Hp} {p : Addr} {o : HO} (e : Same H H1) (h : H1 p = none) : Same H (upd H1 p o) := sm_trans e (same_upd h)
/-- a store at what was new -/
theorem sm_over {H H1 : Hp} {p : Addr} {o : HO} (e : Same H H1) (h : H p = none) : Same H (upd H1 p o) := fun b x hb => by
  rw [upd_ne (ne_of_none hb h)]
  exact e b x hb
theorem sm_l {K : PySem.W.Frag} {H H' : Hp} {a : Addr} {xs : List V} (e : Same H H') (h : SqL K H a xs) : SqL K H' a xs := L2.Same.seq e h
theorem inV_str (x : Str) (ys : List Str) : inV (.str x) (ys.map V.str) = decide (x ∈ ys) := by
  unfold inV
  rw [List.any_map]
  induction ys with
  | nil => rfl
  | cons y r ih =>
    rw [List.any_cons, ih]
    by_cases e : y = x
    · subst e
      simp [eqV]
    · have e2 : ¬ x = y := fun z => e z.symm
      have q : eqV (.str y) (.str x) = false := by
        show (y == x) = false
        simpa using e
      show (eqV (.str y) (.str x) || _) = _
      rw [q]
      simp [e2]
theorem flat_str (ys : List Str) : (ys.map V.str).all flatV = true := by
  rw [List.all_map]
  exact List.all_eq_true.mpr fun _ _ => rfl
theorem mem_sg {c : Nat} {l : List Nat} : sg c ∈ l.map sg ↔ c ∈ l := by
  constructor
  · intro h
    obtain ⟨d, hd, e⟩ := List.mem_map.mp h
    rw [← sg_inj e]
    exact hd
  · exact fun h => List.mem_map.mpr ⟨c, h, rfl⟩
end NC
namespace NC
open PySem PySem.Spec PyProof.Rows L2
def topS (i : Nat) : Stmt := PySem.Challenge.pw_nearcall_k78_rooms_and_turns_of_wide_hal.main.body.getD i (.Pass ⟨0, 0, 0, 0⟩)
abbrev sOther : Stmt := topS 13
abbrev sSides : Stmt := topS 14
abbrev sByWalls : Stmt := topS 15
abbrev sIsWalls : Stmt := topS 16
abbrev sIsBar : Stmt := topS 17
abbrev sChkWalls : Stmt := topS 18
abbrev sChkBars : Stmt := topS 19
abbrev sChkSide : Stmt := topS 20
/-- the built-ins are the built-ins -/
structure BM (mg : Str → Option Value) : Prop where
  list : mg "list" = none
  sorted : mg "sorted" = none
  set : mg "set" = none
  all : mg "all" = none
  len : mg "len" = none
  enumerate : mg "enumerate" = none
  range : mg "range" = none
  isinstance : mg "isinstance" = none
  tuple : mg "tuple" = none
/-- a def of the top, by its name -/
structure DF (K : PySem.W.Frag) (mg : Str → Option Value) (x : Str) (st : Stmt) (ps : List Str) (f : Addr) (fd : FuncData) : Prop where
  F : Fun K x x st f fd
  g : mg x = some (.ref f)
  b : Binds K fd ps []
theorem scOther : FnScope ["side"] ["side"] (defScope sOther) := ⟨rfl, rfl, rfl, by decide +kernel, rfl, by decide +kernel, by decide +kernel⟩
theorem scSides : FnScope ["walls"] ["walls"] (defScope sSides) := ⟨rfl, rfl, rfl, by decide +kernel, rfl, by decide +kernel, by decide +kernel⟩
theorem scIsBar : FnScope ["walls", "bar", "sides"] ["walls", "bar"] (defScope sIsBar) := ⟨rfl, rfl, rfl, by decide +kernel, rfl, by decide +kernel, by decide +kernel⟩
theorem scChkSide : FnScope ["walls", "side"] ["walls", "side"] (defScope sChkSide) := ⟨rfl, rfl, rfl, by decide +kernel, rfl, by decide +kernel, by decide +kernel⟩
section
variable {P : Program} {w : World} {K : PySem.W.Frag} {mg : Str → Option Value} {base : Heap}
def spOther : Sp := fun vs H Q _ => ∃ c, vs = [.str (sg c)] ∧ c < 128 ∧ Q (.str (sg (swp c))) H
theorem ok_other {f : Addr} {fd : FuncData} {k : Nat} (F : Fun K "other" "other" sOther f fd) : FnOk P w K mg base CX0 (k + 1) f fd ["side"] spOther := by
  refine F.ok scOther (fun vs H Q E h => ?_) (fun cdv A outer s H vs Q E hr h => ?_)
  · obtain ⟨c, rfl, _⟩ := h
    rfl
  · obtain ⟨c, rfl, hc, q⟩ := h
    refine ⟨_, pss_one (ps_ret (pe_m0 PySem.F.slot_str_swapcase PySem.F.type_str_swapcase mt_swap (pv 0))), ?_⟩
    refine ⟨_, rfl, ⟨_, rfl⟩, _, rfl, rfl, by show 1 ≤ 1000; decide, ?_⟩
    rw [swap_sg c hc]
    exact q
def spSides : Sp := fun vs H Q _ => ∃ l, vs = [.str (tx l)] ∧ (∀ c ∈ l, c < 128) ∧ l.length ≤ 100 ∧ ∀ p, H p = none → Q (.ref p) (upd H p (.lst (((sds l).map sg).map V.str)))
theorem ok_sides {f : Addr} {fd : FuncData} {k : Nat} (B : BM mg) (F : Fun K "sides_of" "sides_of" sSides f fd) : FnOk P w K mg base CX0 (k + 1) f fd ["walls"] spSides := by
  refine F.ok scSides (fun vs H Q E h => ?_) (fun cdv A outer s H vs Q E hr h => ?_)
  · obtain ⟨c, rfl, _⟩ := h
    rfl
  · obtain ⟨l, rfl, hl, hz, q⟩ := h
    refine ⟨_, pss_one (ps_ret (pe_callTy (cr_listS rfl) (by rfl) B.list (by decide +kernel) (pa_cons (pe_op op_add_str (pe_upper (pv 0)) (pv 0)) pa_nil))), ?_⟩
    refine ⟨_, rfl, ⟨_, rfl⟩, _, rfl, rfl, by rw [tx_len]; omega, ?_⟩
    rw [upper_tx hl]
    refine ⟨_, rfl, _, _, rfl, rfl, by rw [tx_len, tx_len, List.length_map, sizeLine_eq]; omega, ?_⟩
    rw [tx_app]
    refine ⟨_, rfl, by rw [tx_len, List.length_append, List.length_map, sizeLine_eq]; omega, fun p hp => ?_⟩
    rw [sgs_tx]
    exact q p hp
def spIsBar : Sp := fun vs H Q _ => ∃ l b, vs = [.str (tx l), .str (tx b)] ∧ (∀ c ∈ l, c < 128) ∧ l.length ≤ 100 ∧ (∀ c ∈ b, c < 128) ∧ b.length ≤ 100 ∧ ∀ H', Same H H' → Q (.bl (isBar l b)) H'
theorem ok_isBar {f fS : Addr} {fd fdS : FuncData} {k : Nat} (B : BM mg) (F : Fun K "is_bar" "is_bar" sIsBar f fd) (S : DF K mg "sides_of" sSides ["walls"] fS fdS) : FnOk P w K mg base CX0 (k + 2) f fd ["walls", "bar"] spIsBar := by
  have GS : FnOk P w K mg base CX0 (k + 1) fS fdS ["walls"] spSides := ok_sides B S.F
  refine F.ok scIsBar (fun vs H Q E h => ?_) (fun cdv A outer s H vs Q E hr h => ?_)
  · obtain ⟨l, b, rfl, _⟩ := h
    rfl
  · obtain ⟨l, b, rfl, hl, hlz, hb, hbz, q⟩ := h
    have hbs : (tx b).length ≤ sizeLine := by rw [tx_len, sizeLine_eq]; omega
    refine ⟨_, pss_cons (ps_set (i := 2) scIsBar.nd rfl (.inl rfl) (pe_call GS hr rfl S.g S.F.kp S.b .nil pass0 (pa_cons (pv 0) pa_nil)))
      (pss_cons (ps_if (PW.pt (pw_or (pt_cmpR op_ne (pe_callB call_len_str (by rfl) B.len PySem.boot_len (pa_cons (pv 1) pa_nil)) pe_int (nomark _))
          (pw_or (pt_cmpR op_notIn_seq (pe_ix ix_str (pv 1) pe_int (fun _ _ => rfl)) (pv 2) (by rfl))
            (pw_or1 (pt_cmpR op_notIn_seq (pe_ix ix_str (pv 1) pe_int (fun _ _ => rfl)) (pv 2) (by rfl))))))
        (pss_one (ps_ret pe_bl)) pss_nil)
      (pss_one (ps_ret (pe_cmpR op_lt_str (pe_lower (pe_ix ix_str (pv 1) pe_int (fun _ _ => rfl))) (pe_lower (pe_ix ix_str (pv 1) pe_int (fun _ _ => rfl))) (nomark _))))), ?_⟩
    refine ⟨_, rfl, l, rfl, hl, hlz, fun p hp => ?_⟩
    have sm : Same H (upd H p (.lst (((sds l).map sg).map V.str))) := same_upd hp
    have hS : SqL K (upd H p (.lst (((sds l).map sg).map V.str))) p (((sds l).map sg).map V.str) := SqL.of upd_same
    have ix : ∀ c, inV (.str (sg c)) (((sds l).map sg).map V.str) = decide (c ∈ sds l) := fun c => by
      rw [inV_str]
      by_cases hm : c ∈ sds l
      · rw [decide_eq_true hm, decide_eq_true (mem_sg.mpr hm)]
      · rw [decide_eq_false hm, decide_eq_false fun z => hm (mem_sg.mp z)]
    refine ⟨_, rfl, _, rfl, hbs, rfl, _, rfl, ite2 (fun e => ?_) (fun e => ?_)⟩
    · have hn : b.length ≠ 2 := fun z => by
        rw [tx_len, z] at e
        exact absurd e (by decide)
      have e0 : isBar l b = false := by
        match b, hn with
        | [], _ => rfl
        | [_], _ => rfl
        | [_, _], hn => exact absurd rfl hn
        | _ :: _ :: _ :: _, _ => rfl
      refine iteT (show Q (.bl false) _ from ?_)
      rw [← e0]
      exact q _ sm
    · have hn : b.length = 2 := by
        have e1 : decide (V.int ↑(tx b).length = V.int 2) = true := by simpa using e
        have e2 : ((tx b).length : Int) = 2 := V.int.inj (of_decide_eq_true e1)
        rw [tx_len] at e2
        omega
      obtain ⟨x, y, rfl⟩ : ∃ x y, b = [x, y] := by
        match b, hn with
        | [x, y], _ => exact ⟨x, y, rfl⟩
      refine ⟨_, rfl, _, _, x, rfl, rfl, hbs, rfl, _, rfl, p, _, rfl, .inl hS, rfl, flat_str _, _, rfl, ite2 (fun e1 => ?_) (fun e1 => ?_)⟩
      · have e1 : (!inV (.str (sg x)) (((sds l).map sg).map V.str)) = true := e1
        rw [ix] at e1
        have e0 : isBar l [x, y] = false := by
          show (decide (x ∈ sds l) && _) = false
          simp only [Bool.not_eq_true'] at e1
          rw [e1]; rfl
        refine iteT (show Q (.bl false) _ from ?_)
        rw [← e0]
        exact q _ sm
      · have e1 : ¬ (!inV (.str (sg x)) (((sds l).map sg).map V.str)) = true := e1
        rw [ix] at e1
        have hx : decide (x ∈ sds l) = true := by simpa using e1
        refine ⟨_, rfl, _, _, y, rfl, rfl, hbs, rfl, _, rfl, p, _, rfl, .inl hS, rfl, flat_str _, _, rfl, ite2 (fun e2 => ?_) (fun e2 => ?_)⟩
        · have e2 : (!inV (.str (sg y)) (((sds l).map sg).map V.str)) = true := e2
          rw [ix] at e2
          have e0 : isBar l [x, y] = false := by
            show (decide (x ∈ sds l) && (decide (y ∈ sds l) && _)) = false
            simp only [Bool.not_eq_true'] at e2
            rw [e2]; simp
          show Q (.bl false) _
          rw [← e0]
          exact q _ sm
        · have e2 : ¬ (!inV (.str (sg y)) (((sds l).map sg).map V.str)) = true := e2
          rw [ix] at e2
          have hy : decide (y ∈ sds l) = true := by simpa using e2
          refine ⟨_, rfl, _, _, x, rfl, rfl, hbs, rfl, ⟨_, rfl⟩, _, rfl, rfl, by show 1 ≤ 5592405; decide, _, rfl, _, _, y, rfl, rfl, hbs, rfl, ⟨_, rfl⟩, _, rfl, rfl, by show 1 ≤ 5592405; decide, ?_⟩
          rw [show Txt.lower (⟨#[x]⟩ : Str) = tx [lwc x] from lower_tx (l := [x]) (fun c hc => hb c (by simp at hc; simp [hc])), show Txt.lower (⟨#[y]⟩ : Str) = tx [lwc y] from lower_tx (l := [y]) (fun c hc => hb c (by simp at hc; simp [hc]))]
          refine ⟨_, _, rfl, rfl, ?_⟩
          have e0 : decide ((tx [lwc x]).cps.toList < (tx [lwc y]).cps.toList) = isBar l [x, y] := by
            show _ = (decide (x ∈ sds l) && (decide (y ∈ sds l) && decide (lwc x < lwc y)))
            rw [hx, hy, tx_list, tx_list]
            simp [lt1]
          rw [e0]
          exact q _ sm
end
end NC
namespace NC
open PySem PySem.Spec PyProof.Rows L2
def leS (a b : Str) : Prop := a.cps.toList ≤ b.cps.toList
theorem ltc_iff (a b : List Nat) : ltCps a b = decide (a < b) := by
  induction a generalizing b with
  | nil => cases b <;> simp [ltCps]
  | cons x r ih =>
    cases b with
    | nil => simp [ltCps]
    | cons y s =>
      simp only [ltCps, ih, List.cons_lt_cons_iff]
      by_cases h1 : x < y
      · simp [h1]
      · by_cases h2 : x = y
        · subst h2; simp
        · simp [h1, h2]
theorem rise_pw : ∀ (l : List Str) (p : Str), risingS p l = true → (p :: l).Pairwise leS
  | [], p, _ => by simp
  | x :: r, p, h => by
    have h' : (!ltCps x.cps.toList p.cps.toList && risingS x r) = true := h
    rw [Bool.and_eq_true] at h'
    have q := rise_pw r x h'.2
    have hpx : leS p x := by
      have z := h'.1
      rw [ltc_iff] at z
      simpa [leS] using z
    refine List.pairwise_cons.mpr ⟨fun y hy => ?_, q⟩
    rcases List.mem_cons.mp hy with e | e
    · rw [e]; exact hpx
    · exact List.le_trans hpx ((List.pairwise_cons.mp q).1 y e)
theorem sortedS_pw : ∀ l : List Str, sortedS l = true → l.Pairwise leS
  | [], _ => List.Pairwise.nil
  | x :: r, h => rise_pw r x h
theorem str_ext {a b : Str} (h : a.cps.toList = b.cps.toList) : a = b := by
  cases a; cases b
  simp at h
  rw [h]
theorem sortedS_eq {ys zs : List Str} (h : sortedS ys = true) (p : ys.Perm zs) (hz : zs.Pairwise leS) : ys = zs :=
  p.eq_of_pairwise (fun a b _ _ h1 h2 => str_ext (List.le_antisymm h1 h2)) (sortedS_pw ys h) hz
theorem leS_sg {a b : Nat} (h : a ≤ b) : leS (sg a) (sg b) := by
  show ([a] : List Nat) ≤ [b]
  rw [List.cons_le_cons_iff]
  by_cases e : a = b
  · exact .inr ⟨e, List.le_refl _⟩
  · exact .inl (by omega)
theorem GoodW.pw {l : List Nat} (g : GoodW l) : (l.map sg).Pairwise leS := List.pairwise_map.mpr (g.rise.imp fun h => leS_sg (Nat.le_of_lt h))
theorem eqvAll_strs : ∀ xs ys : List Str, PyData.eqvAll (xs.map .str) (ys.map .str) = decide (xs = ys)
  | [], [] => rfl
  | [], _ :: _ => rfl
  | _ :: _, [] => rfl
  | x :: r, y :: s => by
    show ((x == y) && PyData.eqvAll (r.map .str) (s.map .str)) = _
    rw [eqvAll_strs r s]
    by_cases h1 : x = y
    · subst h1
      by_cases h2 : r = s
      · simp [h2]
      · simp [h2]
    · simp [h1]
def okS (x : Str) : Prop := ∀ c ∈ x.cps.toList, c < 128
theorem okS_tx {l : List Nat} (h : ∀ c ∈ l, c < 128) : okS (tx l) := by unfold okS; rw [tx_list]; exact h
theorem okS_sg {c : Nat} (h : c < 128) : okS (sg c) := okS_tx (l := [c]) fun d hd => by simp at hd; omega
theorem strOk_of {x : Str} (h : okS x) : PyData.strOk x = true := by
  unfold PyData.strOk
  rw [← Array.all_toList, List.all_eq_true]
  intro c hc
  have := h c hc
  simp
  omega
theorem canAll_strs : ∀ xs : List Str, (∀ x ∈ xs, okS x) → PyData.canLayAll0 (xs.map .str) = true
  | [], _ => rfl
  | x :: r, h => by
    show (PyData.strOk x && PyData.canLayAll0 (r.map .str)) = true
    rw [strOk_of (h x (List.mem_cons_self ..)), canAll_strs r fun y hy => h y (List.mem_cons_of_mem _ hy)]
    rfl
theorem depAll_strs : ∀ xs : List Str, PyData.depthAll (xs.map .str) = 0
  | [] => rfl
  | x :: r => by
    show max 0 (PyData.depthAll (r.map .str)) = 0
    rw [depAll_strs r]
    rfl
theorem shaped_strs {xs : List Str} (h : ∀ x ∈ xs, okS x) : SeqAt.shaped (.list (xs.map .str)) = true := by
  show (PyData.canLayAll0 (xs.map .str) && decide (PyData.depthAll (xs.map .str) + 1 ≤ 64)) = true
  rw [canAll_strs xs h, depAll_strs]
  rfl
theorem dpAll_strs {K : PySem.W.Frag} {H : Hp} : ∀ xs : List Str, DpAll K H (xs.map V.str) (xs.map .str)
  | [] => .nil
  | x :: r => .cons (.str x) (dpAll_strs r)
end NC
namespace NC
open PySem PySem.Spec PyProof.Rows L2
theorem scIsWalls : FnScope ["walls", "small", "letter"] ["walls"] (defScope sIsWalls) := ⟨rfl, rfl, rfl, by decide +kernel, rfl, by decide +kernel, by decide +kernel⟩
theorem scChkWalls : FnScope ["walls"] ["walls"] (defScope sChkWalls) := ⟨rfl, rfl, rfl, by decide +kernel, rfl, by decide +kernel, by decide +kernel⟩
theorem scByWalls : FnScope ["walls", "sides", "wall", "side"] ["walls", "sides"] (defScope sByWalls) := ⟨rfl, rfl, rfl, by decide +kernel, rfl, by decide +kernel, by decide +kernel⟩
theorem strA : (Str.ofString "a") = sg 97 := by decide +kernel
theorem strZ : (Str.ofString "z") = sg 122 := by decide +kernel
section
variable {P : Program} {w : World} {K : PySem.W.Frag} {mg : Str → Option Value} {base : Heap}
def spIsWalls : Sp := fun vs H Q _ => ∃ l, vs = [.str (tx l)] ∧ GoodW l ∧ ∀ H', Same H H' → Q (.bl true) H'
theorem ok_isWalls {f : Addr} {fd : FuncData} {k : Nat} {tw : Tok} (B : BM mg) (mW : mg "WIDEST" = some (.int 12 tw)) (F : Fun K "is_walls" "is_walls" sIsWalls f fd) : FnOk P w K mg base CX0 (k + 1) f fd ["walls"] spIsWalls := by
  refine F.ok scIsWalls (fun vs H Q E h => ?_) (fun cdv A outer s H vs Q E hr h => ?_)
  · obtain ⟨l, rfl, _⟩ := h
    rfl
  · obtain ⟨l, rfl, g, q⟩ := h
    have hlz : (tx l).length ≤ sizeLine := by rw [tx_len, sizeLine_eq]; have := g.hi; omega
    refine ⟨_, pss_cons (ps_set (i := 1) scIsWalls.nd rfl (.inl rfl) (pe_callB (cr_all rfl) (by rfl) B.all (by decide +kernel) (pa_cons
        (pe_lc (own := [("letter", 2)]) (g := gName 2) (tt := tYes) rfl scIsWalls.nd (pi_str (pv 0)) (blkOk_by (N := ["walls", "small", "letter"]) (sc := defScope sIsWalls) (by decide +kernel))
          (fun _ _ _ _ _ => pg_name (i := 2) scIsWalls.nd rfl (Or.inl rfl)) (fun _ _ _ _ _ => pts_nil) (fun _ _ _ _ _ => pe_chain op_le_str op_le_str pe_str (pv 2) pe_str)) pa_nil)))
      (pss_one (ps_ret (pe_and (pv 1) (pe_and (pe_chain op_le op_le pe_int (pe_callB call_len_str (by rfl) B.len PySem.boot_len (pa_cons (pv 0) pa_nil)) (pe_glob (v := .int 12) rfl mW ⟨_, rfl⟩))
        (pe_one (pe_cmpR (op_eqD hr.units) (pe_callB (cr_sortedSetT rfl) (by rfl) B.sorted (by decide +kernel) (pa_cons (pe_callTy (cr_setT rfl) (by rfl) B.set (by decide +kernel) (pa_cons (pv 0) pa_nil)) pa_nil))
          (pe_callTy (cr_listS rfl) (by rfl) B.list (by decide +kernel) (pa_cons (pv 0) pa_nil)) (nomark _))))))), ?_⟩
    refine ⟨_, rfl, tx l, rfl, fun D hD => lc_it walk_str (fun i H' => ∃ n : Nat, n = i ∧ Same H H' ∧ H' D = some (.lst ((List.replicate i true).map V.bl))) ⟨0, rfl, same_upd hD, upd_same⟩ (fun _ _ _ _ => trivial) ?_ ?_⟩
    · rintro i x H1 H2 hi ⟨n, rfl, sm, eD⟩ ⟨rfl, c, hc, rfl⟩
      have hcl : c ∈ l := by
        have e : l[n]? = some c := by
          rw [← Array.getElem?_toList, tx_list] at hc
          exact hc
        exact List.mem_of_getElem? e
      have hs := g.sm c hcl
      have hn : n < l.length := by
        have : (tx l).cps.size = l.length := tx_len l
        omega
      refine ⟨rfl, yes_i ⟨_, rfl, _, _, rfl, rfl, true, ?_, iteT ⟨_, _, rfl, rfl, ?_⟩⟩⟩
      · rw [strA]
        show V.bl (!decide (([c] : List Nat) < [97])) = .bl true
        rw [decide_eq_false (by rw [lt1]; omega)]
        rfl
      · have e2 : (!decide ((Str.ofString "z").cps.toList < (⟨#[c]⟩ : Str).cps.toList)) = true := by
          rw [strZ]
          show (!decide (([122] : List Nat) < [c])) = true
          rw [decide_eq_false (by rw [lt1]; omega)]
          rfl
        rw [e2]
        refine ⟨_, eD, ?_, _, rfl, ?_, ?_⟩
        · rw [List.length_map, List.length_replicate, sizeLine_eq]
          have := g.hi
          omega
        · exact sm_over sm hD
        · rw [upd_same, List.replicate_succ', List.map_append]
          rfl
    · rintro H1 ⟨n, rfl, sm, eD⟩
      refine ⟨_, _, rfl, SqL.of eD, ?_⟩
      have ea : (List.replicate (tx l).cps.size true).all id = true := by simp
      rw [ea]
      refine ⟨_, rfl, true, rfl, iteT ⟨_, rfl, _, rfl, hlz, _, _, rfl, rfl, true, ?_, iteT ⟨_, _, rfl, rfl, true, ?_, iteT ?_⟩⟩⟩
      · show V.bl (decide ((1 : Int) ≤ ((tx l).length : Int))) = .bl true
        rw [tx_len, decide_eq_true (by have := g.lo; omega)]
      · show V.bl (decide (((tx l).length : Int) ≤ 12)) = .bl true
        rw [tx_len, decide_eq_true (by have := g.hi; omega)]
      · refine ⟨_, rfl, tx l, rfl, ?_, by rw [tx_list]; exact g.nd, by rw [tx_list]; have := g.hi; omega, fun p z hp hz => ?_⟩
        · rw [← Array.all_toList, tx_list, List.all_eq_true]
          intro c hc
          have := g.asc c hc
          simpa using this
        · rw [sgs_tx] at hz
          have hnd : (l.map sg).Nodup := List.pairwise_map.mpr (g.nd.imp fun {a b} h e => h (sg_inj e))
          refine ⟨p, z, rfl, upd_same, hz.nodup_iff.mpr hnd, by rw [hz.length_eq, List.length_map]; have := g.hi; omega, fun ys r hy hs hr2 => ?_⟩
          have ey : ys = l.map sg := sortedS_eq hs (hy.trans hz) g.pw
          subst ey
          refine ⟨_, rfl, _, rfl, hlz, fun a ha => ?_⟩
          rw [sgs_tx]
          have hra : r ≠ a := ne_of_none upd_same ha
          have oks : ∀ x ∈ l.map sg, okS x := fun x hx => by
            obtain ⟨c, hc, rfl⟩ := List.mem_map.mp hx
            exact okS_sg (g.asc c hc)
          refine ⟨_, _, .lst (SqL.of (by rw [upd_ne hra, upd_same])) (dpAll_strs _), .lst (SqL.of upd_same) (dpAll_strs _), shaped_strs oks, shaped_strs oks, ?_⟩
          show Q (.bl (PyData.eqvAll _ _)) _
          rw [eqvAll_strs, decide_eq_true rfl]
          exact q _ (sm_upd (sm_upd (sm_upd sm hp) hr2) ha)
end
end NC
namespace NC
open PySem PySem.Spec PyProof.Rows L2
/-- a dict comprehension over a walk -/
theorem dc_it {J : It} {n : Nat} {G : Hp → Prop} {Y : Nat → Hp → V → Hp → Prop} (wk : Walk J n G Y) {g : TG} {tt : TT} {tk tv : TE} {vs : List Nat} {σ : L2.St} {H1 : Hp} {D : Addr} {Qd : Hp → Prop} (Pv : Nat → Hp → Prop)
    (h0 : Pv 0 (upd H1 D (.dK []))) (hG : ∀ i H, i ≤ n → Pv i H → G H)
    (hs : ∀ i x H H', i < n → Pv i H → Y i H x H' → g x (wipe σ vs) H' fun σ2 H2 => wipe σ2 vs = wipe σ vs ∧ tt σ2 H2 fun b H3 =>
      if b = true then tk σ2 H3 fun y H4 => tv σ2 H4 fun z H5 => ∃ kvs k, y = kV k ∧ H5 D = some (.dK kvs) ∧ kvs.length < sizeLine ∧ Pv (i + 1) (upd H5 D (.dK (putK kvs k z))) else Pv (i + 1) H3) (hd : ∀ H, Pv n H → Qd H) :
    ∃ W : Nat → Nat → Hp → Prop, (∃ m, W 0 m (upd H1 D (.dK []))) ∧ ∀ i m H, W i m H →
      (J.stop i H ∧ Qd H) ∨ (J.go i H ∧ ∃ Nx : Hp → Prop, (∀ H', Nx H' → ∃ m', m' < m ∧ W (i + 1) m' H') ∧ ∀ x H', J.yld i H x H' → g x (wipe σ vs) H' fun σ2 H2 => wipe σ2 vs = wipe σ vs ∧ tt σ2 H2 fun b H3 =>
        if b = true then tk σ2 H3 fun y H4 => tv σ2 H4 fun z H5 => ∃ kvs k, y = kV k ∧ H5 D = some (.dK kvs) ∧ kvs.length < sizeLine ∧ Nx (upd H5 D (.dK (putK kvs k z))) else Nx H3) := by
  refine ⟨fun i m H => m = n - i ∧ i ≤ n ∧ Pv i H, ⟨n, by simp, Nat.zero_le _, h0⟩, ?_⟩
  rintro i m H ⟨rfl, hi, p⟩
  have q := hG i H hi p
  rcases Nat.lt_or_ge i n with hlt | hge
  · exact .inr ⟨wk.goes i H hlt q, Pv (i + 1), fun H' p' => ⟨n - (i + 1), by omega, rfl, hlt, p'⟩, fun x H' y => hs i x H H' hlt p (wk.yields i H x H' hlt q y)⟩
  · obtain rfl : i = n := by omega
    exact .inl ⟨wk.stops H q, hd H p⟩
/-- the inner walk of a comprehension of two -/
theorem in_it {J : It} {n : Nat} {G : Hp → Prop} {Y : Nat → Hp → V → Hp → Prop} (wk : Walk J n G Y) {g1 : TG} {tt1 : TT} {te : TE} {vs1 : List Nat} {σ2 : L2.St} {H4 : Hp} {D : Addr} {Nx : Hp → Prop} (Pv : Nat → Hp → Prop)
    (h0 : Pv 0 H4) (hG : ∀ i H, i ≤ n → Pv i H → G H)
    (hs : ∀ i x H H', i < n → Pv i H → Y i H x H' → g1 x (wipe σ2 vs1) H' fun σ3 H5 => wipe σ3 vs1 = wipe σ2 vs1 ∧ tt1 σ3 H5 fun b H6 =>
      if b = true then te σ3 H6 fun y H7 => ∃ acc, H7 D = some (.lst acc) ∧ acc.length < sizeLine ∧ Pv (i + 1) (upd H7 D (.lst (acc ++ [y]))) else Pv (i + 1) H6) (hd : ∀ H, Pv n H → Nx H) :
    ∃ W1 : Nat → Nat → Hp → Prop, (∃ m, W1 0 m H4) ∧ ∀ j k H, W1 j k H →
      (J.stop j H ∧ Nx H) ∨ (J.go j H ∧ ∃ Nx1 : Hp → Prop, (∀ H', Nx1 H' → ∃ k', k' < k ∧ W1 (j + 1) k' H') ∧ ∀ x H', J.yld j H x H' → g1 x (wipe σ2 vs1) H' fun σ3 H5 => wipe σ3 vs1 = wipe σ2 vs1 ∧ tt1 σ3 H5 fun b H6 =>
        if b = true then te σ3 H6 fun y H7 => ∃ acc, H7 D = some (.lst acc) ∧ acc.length < sizeLine ∧ Nx1 (upd H7 D (.lst (acc ++ [y]))) else Nx1 H6) := by
  refine ⟨fun i m H => m = n - i ∧ i ≤ n ∧ Pv i H, ⟨n, by simp, Nat.zero_le _, h0⟩, ?_⟩
  rintro i m H ⟨rfl, hi, p⟩
  have q := hG i H hi p
  rcases Nat.lt_or_ge i n with hlt | hge
  · exact .inr ⟨wk.goes i H hlt q, Pv (i + 1), fun H' p' => ⟨n - (i + 1), by omega, rfl, hlt, p'⟩, fun x H' y => hs i x H H' hlt p (wk.yields i H x H' hlt q y)⟩
  · obtain rfl : i = n := by omega
    exact .inl ⟨wk.stops H q, hd H p⟩
/-- the outer walk of a comprehension of two (no test on the outer) -/
theorem out_it {J : It} {n : Nat} {G : Hp → Prop} {Y : Nat → Hp → V → Hp → Prop} (wk : Walk J n G Y) {H1 : Hp} {D : Addr} {Qd : Hp → Prop} {B : V → Hp → (Hp → Prop) → Prop} (Pv : Nat → Hp → Prop)
    (h0 : Pv 0 (upd H1 D (.lst []))) (hG : ∀ i H, i ≤ n → Pv i H → G H) (hs : ∀ i x H H', i < n → Pv i H → Y i H x H' → B x H' (Pv (i + 1))) (hd : ∀ H, Pv n H → Qd H) :
    ∃ W : Nat → Nat → Hp → Prop, (∃ m, W 0 m (upd H1 D (.lst []))) ∧ ∀ i m H, W i m H →
      (J.stop i H ∧ Qd H) ∨ (J.go i H ∧ ∃ Nx : Hp → Prop, (∀ H', Nx H' → ∃ m', m' < m ∧ W (i + 1) m' H') ∧ ∀ x H', J.yld i H x H' → B x H' Nx) := by
  refine ⟨fun i m H => m = n - i ∧ i ≤ n ∧ Pv i H, ⟨n, by simp, Nat.zero_le _, h0⟩, ?_⟩
  rintro i m H ⟨rfl, hi, p⟩
  have q := hG i H hi p
  rcases Nat.lt_or_ge i n with hlt | hge
  · exact .inr ⟨wk.goes i H hlt q, Pv (i + 1), fun H' p' => ⟨n - (i + 1), by omega, rfl, hlt, p'⟩, fun x H' y => hs i x H H' hlt p (wk.yields i H x H' hlt q y)⟩
  · obtain rfl : i = n := by omega
    exact .inl ⟨wk.stops H q, hd H p⟩
theorem fold_glue (e : Array Nat) (he : e = #[]) : ∀ (r : List (List Nat)) (acc : Array Nat), (r.map tx).foldl (fun acc p => acc ++ e ++ p.cps) acc = acc ++ r.flatten.toArray
  | [], acc => by simp
  | x :: r, acc => by
    rw [List.map_cons, List.foldl_cons, fold_glue e he r, he]
    simp [tx]
theorem join_tx (xs : List (List Nat)) : Txt.join (Str.ofString "") (xs.map tx) = tx xs.flatten := by
  have e0 : (Str.ofString "").cps = #[] := by decide +kernel
  show (⟨((xs.map tx).drop 1).foldl (fun acc p => acc ++ (Str.ofString "").cps ++ p.cps) ((xs.map tx).headD Str.empty).cps⟩ : Str) = _
  cases xs with
  | nil => rfl
  | cons x r =>
    show (⟨(r.map tx).foldl (fun acc p => acc ++ (Str.ofString "").cps ++ p.cps) x.toArray⟩ : Str) = _
    rw [fold_glue _ e0]
    show Str.mk _ = Str.mk _
    simp
/-- ''.join of signs -/
theorem join_sg (l : List Nat) : Txt.join (Str.ofString "") (l.map sg) = tx l := by
  have e2 : ∀ l : List Nat, (l.map fun c => [c]).flatten = l := fun l => by
    induction l with
    | nil => rfl
    | cons x r ih => simp [ih]
  have e := join_tx (l.map fun c => [c])
  rw [List.map_map, e2] at e
  exact e
end NC
namespace NC
open PySem PySem.Spec PyProof.Rows L2
/-- by_walls, the other part a dict -/
def inK (kvs : List (Key × V)) (c : Nat) : Bool := (valV kvs (Sum.inr (sg c))).isSome
def byW (l : List Nat) (kvs : List (Key × V)) : List Nat := l.flatMap fun c => [swp c, c].filter (inK kvs)
theorem byW_len (l : List Nat) (kvs : List (Key × V)) : (byW l kvs).length ≤ 2 * l.length := by
  induction l with
  | nil => simp [byW]
  | cons x r ih =>
    have h1 : (byW (x :: r) kvs) = [swp x, x].filter (inK kvs) ++ byW r kvs := by simp [byW]
    rw [h1, List.length_append, List.length_cons]
    have h2 : ([swp x, x].filter (inK kvs)).length ≤ 2 := List.length_filter_le _ _
    omega
theorem byW_mem {l : List Nat} (g : GoodW l) {kvs : List (Key × V)} {s : Nat} (h : s ∈ byW l kvs) : s ∈ sds l ∧ inK kvs s = true := by
  obtain ⟨c, hc, hs⟩ := List.mem_flatMap.mp h
  obtain ⟨h1, h2⟩ := List.mem_filter.mp hs
  refine ⟨?_, h2⟩
  rcases List.mem_cons.mp h1 with e | e
  · rw [e]; exact sds_swp g (sds_of_small hc)
  · rw [List.mem_singleton.mp e]; exact sds_of_small hc
theorem byW_snoc (l : List Nat) (n : Nat) (c : Nat) (kvs : List (Key × V)) (h : l[n]? = some c) : byW (l.take (n + 1)) kvs = byW (l.take n) kvs ++ [swp c, c].filter (inK kvs) := by
  rw [List.take_add_one, h]
  unfold byW
  rw [List.flatMap_append]
  simp
section
variable {P : Program} {w : World} {K : PySem.W.Frag} {mg : Str → Option Value} {base : Heap}
def spByWalls : Sp := fun vs H Q _ => ∃ l d kvs, vs = [.str (tx l), .ref d] ∧ GoodW l ∧ H d = some (.dK kvs) ∧ ∀ H', Same H H' → Q (.str (tx (byW l kvs))) H'
set_option maxHeartbeats 1000000 in
theorem ok_byWalls {f fO : Addr} {fd fdO : FuncData} {k : Nat} (B : BM mg) (F : Fun K "by_walls" "by_walls" sByWalls f fd) (O : DF K mg "other" sOther ["side"] fO fdO) : FnOk P w K mg base CX0 (k + 2) f fd ["walls", "sides"] spByWalls := by
  have GO : FnOk P w K mg base CX0 (k + 1) fO fdO ["side"] spOther := ok_other O.F
  refine F.ok scByWalls (fun vs H Q E h => ?_) (fun cdv A outer s H vs Q E hr h => ?_)
  · obtain ⟨l, d, kvs, rfl, _⟩ := h
    rfl
  · obtain ⟨l, d, kvs, rfl, g, hd, q⟩ := h
    refine ⟨_, pss_one (ps_ret (pe_join pe_str (pe_lc2 (wi1 := iTup K (tTup (tCons (tCall spOther [] E0 (tCons (tVar 2) tNil)) (tCons (tVar 2) tNil)))) (own := [("wall", 2), ("side", 3)]) (vs1 := [3]) (g := gName 2) (g1 := gName 3) (tt := tYes) rfl scByWalls.nd (pi_str (pv 0))
      (blkOk_by (N := ["walls", "sides", "wall", "side"]) (sc := defScope sByWalls) (by decide +kernel)) (by decide)
      (fun _ _ _ _ _ => pg_name (i := 2) scByWalls.nd rfl (Or.inl rfl)) (fun _ _ _ _ _ => pts_nil)
      (fun _ _ _ _ _ => pi_tup (pe_tup (pa_cons (pe_call GO hr rfl O.g O.F.kp O.b .nil pass0 (pa_cons (pv 2) pa_nil)) (pa_cons (pv 2) pa_nil))))
      (fun _ _ _ _ _ => pg_name (i := 3) scByWalls.nd rfl (Or.inl rfl))
      (fun _ _ _ _ _ => pts_one (pt_cmp (pc_din (hu_of hr) (pv 3) (pv 1)))) (fun _ _ _ _ _ => pv 3)))), ?_⟩
    refine ⟨⟨_, rfl⟩, _, rfl, tx l, rfl, fun D hD => ?_⟩
    have nDd : d ≠ D := ne_of_none hd hD
    refine out_it walk_str (fun i H' => Same H H' ∧ H' D = some (.lst (((byW (l.take i) kvs).map sg).map V.str))) ⟨same_upd hD, upd_same⟩ (fun _ _ _ _ => trivial) ?_ ?_
    · rintro i x H1 H2 hi ⟨sm, eD⟩ ⟨rfl, c, hc, rfl⟩
      have hcl : l[i]? = some c := by
        rw [← Array.getElem?_toList, tx_list] at hc
        exact hc
      have hca : c < 128 := g.asc c (List.mem_of_getElem? hcl)
      refine ⟨rfl, yes_i ⟨_, rfl, c, rfl, hca, _, rfl, by show 2 ≤ sizeLine; decide, fun T hT => ⟨T, rfl, ⟨_, SqT.of upd_same⟩, ?_⟩⟩⟩
      have nDT : D ≠ T := ne_of_none eD hT
      refine in_it (walk_tup (K := K) (a := T) (xs := [swp c, c].map fun e => V.str (sg e))) (fun j H' => Same H H' ∧ SqT K H' T ([swp c, c].map fun e => V.str (sg e)) ∧ H' D = some (.lst (((byW (l.take i) kvs ++ ([swp c, c].take j).filter (inK kvs)).map sg).map V.str)))
        ⟨sm_upd sm hT, SqT.of upd_same, by rw [upd_ne nDT, eD]; simp⟩ (fun j H' _ h => h.2.1) ?_ ?_
      · rintro j x H3 H4 hj ⟨sm2, hT2, eD2⟩ ⟨rfl, hx⟩
        rw [List.getElem?_map] at hx
        obtain ⟨e, he, rfl⟩ := Option.map_eq_some_iff.mp hx
        have hd4 : H4 d = some (.dK kvs) := sm2 _ _ hd
        have hlen : (byW (l.take i) kvs ++ ([swp c, c].take j).filter (inK kvs)).length ≤ 2 * 12 + 2 := by
          rw [List.length_append]
          have h1 := byW_len (l.take i) kvs
          have h2 : (([swp c, c].take j).filter (inK kvs)).length ≤ 2 := Nat.le_trans (List.length_filter_le _ _) (by rw [List.length_take]; exact Nat.min_le_right _ _)
          have h3 : (l.take i).length ≤ 12 := Nat.le_trans (by rw [List.length_take]; exact Nat.min_le_right _ _) g.hi
          omega
        refine ⟨rfl, _, rfl, _, rfl, d, _, rfl, DGet.k (k := Sum.inr (sg e)) hd4, _, rfl, ite2 (fun ht => ⟨_, rfl, _, eD2, ?_, sm_over sm2 hD, ?_, ?_⟩) (fun ht => ⟨sm2, hT2, ?_⟩)⟩
        · rw [List.length_map, List.length_map, sizeLine_eq]
          omega
        · rcases hT2 with (z | ⟨o, z⟩) | z
          · exact .inl (.inl (by rw [upd_ne (Ne.symm nDT)]; exact z))
          · exact .inl (.inr ⟨o, by rw [upd_ne (Ne.symm nDT)]; exact z⟩)
          · exact .inr z
        · have e1 : inK kvs e = true := ht
          rw [upd_same, List.take_add_one, he, List.filter_append]
          simp [e1, sg_tx]
        · have e1 : inK kvs e = false := by
            unfold inK
            simpa using ht
          rw [eD2, List.take_add_one, he, List.filter_append]
          simp [e1]
      · rintro H3 ⟨sm2, _, eD2⟩
        refine ⟨sm2, ?_⟩
        rw [eD2, byW_snoc l i c kvs hcl]
        rfl
    · rintro H3 ⟨sm2, eD2⟩
      have e1 : (l.take (tx l).cps.size) = l := by
        rw [show (tx l).cps.size = l.length from tx_len l]
        exact List.take_length
      rw [e1] at eD2
      refine ⟨_, _, (byW l kvs).map sg, rfl, rfl, .inl (SqL.of eD2), ?_, ?_⟩
      · have h1 := byW_len l kvs
        have h2 := g.hi
        have h3 : ∀ xs : List Nat, ((xs.map sg).map (·.length)).sum = xs.length := fun xs => by
          induction xs with
          | nil => rfl
          | cons x r ih =>
            rw [List.map_cons, List.map_cons, List.sum_cons, ih, List.length_cons]
            show 1 + r.length = _
            omega
        rw [h3, show (Str.ofString "").length = 0 by decide +kernel]
        omega
      · rw [join_sg]
        exact q _ sm2
end
end NC
namespace NC
open PySem PySem.Spec PyProof.Rows L2
abbrev sHEinit : Stmt := inClass (topS 1) 0
abbrev sBBinit : Stmt := inClass (topS 3) 0
abbrev sFXinit : Stmt := inClass (topS 5) 0
abbrev sALinit : Stmt := inClass (topS 6) 0
theorem scHE : FnScope ["self", "word"] ["self", "word"] (defScope sHEinit) := ⟨rfl, rfl, rfl, by decide +kernel, rfl, by decide +kernel, by decide +kernel⟩
theorem scBB : FnScope ["self", "at"] ["self", "at"] (defScope sBBinit) := ⟨rfl, rfl, rfl, by decide +kernel, rfl, by decide +kernel, by decide +kernel⟩
theorem scFX : FnScope ["self", "side"] ["self", "side"] (defScope sFXinit) := ⟨rfl, rfl, rfl, by decide +kernel, rfl, by decide +kernel, by decide +kernel⟩
theorem scAL : FnScope ["self", "one", "other"] ["self", "one", "other"] (defScope sALinit) := ⟨rfl, rfl, rfl, by decide +kernel, rfl, by decide +kernel, by decide +kernel⟩
/-- HallError, at C, and its __init__ -/
structure HE (K : PySem.W.Frag) (mg : Str → Option Value) (C f : Addr) (fd : FuncData) : Prop where
  gC : mg "HallError" = some (.ref C)
  rd : ∃ mc, ClX.CRead K C mc ∧ PySem.W.findCls K (.ref C) mc "__init__" = some (.val (.ref f))
  F : Fun K "__init__" "HallError.__init__" sHEinit f fd
  b : Binds K fd ["self", "word"] []
  mV : mg "ValueError" = none
  vV : PySem.W.findCls K (.type "ValueError") (.type "type") "__init__" = some (.val (.builtin "ValueError.__init__"))
section
variable {P : Program} {w : World} {K : PySem.W.Frag} {mg : Str → Option Value} {base : Heap}
theorem ok_chkWalls {f fW : Addr} {fd fdW : FuncData} {k : Nat} {tw : Tok} (B : BM mg) (mW : mg "WIDEST" = some (.int 12 tw)) (F : Fun K "check_walls" "check_walls" sChkWalls f fd) (W : DF K mg "is_walls" sIsWalls ["walls"] fW fdW) :
    FnOk P w K mg base CX0 (k + 2) f fd ["walls"] (fun vs H Q _ => ∃ l, vs = [.str (tx l)] ∧ GoodW l ∧ ∀ H', Same H H' → Q .non H') := by
  have GW : FnOk P w K mg base CX0 (k + 1) fW fdW ["walls"] spIsWalls := ok_isWalls B mW W.F
  refine F.ok scChkWalls (fun vs H Q E h => ?_) (fun cdv A outer s H vs Q E hr h => ?_)
  · obtain ⟨l, rfl, _⟩ := h
    rfl
  · obtain ⟨l, rfl, g, q⟩ := h
    refine ⟨_, pss_one (ps_if (pt_not (pt_val (pe_call GW hr rfl W.g W.F.kp W.b .nil pass0 (pa_cons (pv 0) pa_nil)))) (pss_one ps_never) pss_nil), ?_⟩
    exact ⟨_, rfl, l, rfl, g, fun H1 sm => ⟨true, rfl, iteF (q H1 sm)⟩⟩
theorem ok_chkSide {f fS : Addr} {fd fdS : FuncData} {k : Nat} (B : BM mg) (F : Fun K "check_side" "check_side" sChkSide f fd) (S : DF K mg "sides_of" sSides ["walls"] fS fdS) :
    FnOk P w K mg base CX0 (k + 2) f fd ["walls", "side"] (fun vs H Q _ => ∃ l c, vs = [.str (tx l), .str (sg c)] ∧ GoodW l ∧ c ∈ sds l ∧ ∀ H', Same H H' → Q .non H') := by
  have GS : FnOk P w K mg base CX0 (k + 1) fS fdS ["walls"] spSides := ok_sides B S.F
  refine F.ok scChkSide (fun vs H Q E h => ?_) (fun cdv A outer s H vs Q E hr h => ?_)
  · obtain ⟨l, c, rfl, _⟩ := h
    rfl
  · obtain ⟨l, c, rfl, g, hc, q⟩ := h
    refine ⟨_, pss_one (ps_if (pt_cmpR op_notIn_seq (pv 1) (pe_call GS hr rfl S.g S.F.kp S.b .nil pass0 (pa_cons (pv 0) pa_nil)) (by rfl)) (pss_one ps_never) pss_nil), ?_⟩
    refine ⟨_, rfl, _, rfl, l, rfl, g.asc, by have := g.hi; omega, fun p hp => ⟨p, _, rfl, .inl (SqL.of upd_same), rfl, flat_str _, _, rfl, ?_⟩⟩
    have e : (!inV (.str (sg c)) (((sds l).map sg).map V.str)) = false := by
      rw [inV_str, decide_eq_true (mem_sg.mpr hc)]
      rfl
    show if (!inV (.str (sg c)) (((sds l).map sg).map V.str)) = true then _ else _
    rw [e]
    exact iteF (q _ (same_upd hp))
def spHE (K : PySem.W.Frag) : Sp := fun vs H Q _ => ∃ a C v, vs = [.ref a, v] ∧ OexC K C ∧ PySem.W.findIn K (.ref C) "word" = some none ∧ H a = some (exo a C none) ∧
  ∀ dx, H dx = none → dx ≠ a → Q .non (upd (upd H dx (exd dx [("word", v)])) a (exo a C (some dx)))
theorem ok_HE {C f : Addr} {fd : FuncData} {k : Nat} (T : HE K mg C f fd) : FnOk P w K mg base CX0 (k + 1) f fd ["self", "word"] (spHE K) := by
  refine T.F.ok scHE (fun vs H Q E h => ?_) (fun cdv A outer s H vs Q E hr h => ?_)
  · obtain ⟨a, C, v, rfl, _⟩ := h
    rfl
  · obtain ⟨a, C, v, rfl, hO, hw, ha, q⟩ := h
    refine ⟨_, pss_cons (ps_expr (pe_veinit (by rfl) T.mV T.vV (pa_cons (pv 0) (pa_cons (pv 1) pa_nil)))) (pss_one (ps_ost (pv 0) (pv 1))), ?_⟩
    refine ⟨_, rfl, _, rfl, a, C, [v], rfl, by show 1 ≤ 1000; decide, hO, ha, ?_⟩
    exact ⟨_, rfl, _, rfl, a, C, rfl, hO, hw, .inl ⟨ha, fun dx n ne => q dx n ne⟩⟩
/-- a refusal of one field beside its word -/
def sp1 (K : PySem.W.Frag) (fld : Str) (word : Str) : Sp := fun vs H Q _ => ∃ a C v, vs = [.ref a, v] ∧ OexC K C ∧ PySem.W.findIn K (.ref C) "word" = some none ∧ PySem.W.findIn K (.ref C) fld = some none ∧ H a = some (exo a C none) ∧
  ∀ dx H', H dx = none → dx ≠ a → (∀ b, b ≠ dx → b ≠ a → H' b = H b) → H' a = some (exo a C (some dx)) → H' dx = some (exd dx [(fld, v), ("word", .str word)]) → Q .non H'
theorem ok_BB {CH fH f : Addr} {fd fdH : FuncData} {k : Nat} (T : HE K mg CH fH fdH) (F : Fun K "__init__" "BadBar.__init__" sBBinit f fd) : FnOk P w K mg base CX0 (k + 2) f fd ["self", "at"] (sp1 K "at" "badbar") := by
  have GH : FnOk P w K mg base CX0 (k + 1) fH fdH ["self", "word"] (spHE K) := ok_HE T
  obtain ⟨mc, rd, fc⟩ := T.rd
  refine F.ok scBB (fun vs H Q E h => ?_) (fun cdv A outer s H vs Q E hr h => ?_)
  · obtain ⟨a, C, v, rfl, _⟩ := h
    rfl
  · obtain ⟨a, C, v, rfl, hO, hw, hf, ha, q⟩ := h
    refine ⟨_, pss_cons (ps_expr (pe_clsfn (by rfl) T.gC rd fc GH hr T.F.kp T.b .nil pass0 (pa_cons (pv 0) (pa_cons pe_str pa_nil)))) (pss_one (ps_ost (pv 0) (pv 1))), ?_⟩
    refine ⟨_, rfl, a, C, _, rfl, hO, hw, ha, fun dx n ne => ?_⟩
    refine ⟨_, rfl, _, rfl, a, C, rfl, hO, hf, .inr ⟨dx, _, upd_same, by rw [upd_ne ne, upd_same], by show 1 ≤ 900; decide, q dx _ n ne (fun b h1 h2 => ?_) ?_ ?_⟩⟩
    · rw [upd_ne h1, upd_ne h2, upd_ne h1]
    · rw [upd_ne (Ne.symm ne), upd_same]
    · rw [upd_same]
theorem ok_FX {CH fH f : Addr} {fd fdH : FuncData} {k : Nat} (T : HE K mg CH fH fdH) (F : Fun K "__init__" "Fixed.__init__" sFXinit f fd) : FnOk P w K mg base CX0 (k + 2) f fd ["self", "side"] (sp1 K "side" "fixed") := by
  have GH : FnOk P w K mg base CX0 (k + 1) fH fdH ["self", "word"] (spHE K) := ok_HE T
  obtain ⟨mc, rd, fc⟩ := T.rd
  refine F.ok scFX (fun vs H Q E h => ?_) (fun cdv A outer s H vs Q E hr h => ?_)
  · obtain ⟨a, C, v, rfl, _⟩ := h
    rfl
  · obtain ⟨a, C, v, rfl, hO, hw, hf, ha, q⟩ := h
    refine ⟨_, pss_cons (ps_expr (pe_clsfn (by rfl) T.gC rd fc GH hr T.F.kp T.b .nil pass0 (pa_cons (pv 0) (pa_cons pe_str pa_nil)))) (pss_one (ps_ost (pv 0) (pv 1))), ?_⟩
    refine ⟨_, rfl, a, C, _, rfl, hO, hw, ha, fun dx n ne => ?_⟩
    refine ⟨_, rfl, _, rfl, a, C, rfl, hO, hf, .inr ⟨dx, _, upd_same, by rw [upd_ne ne, upd_same], by show 1 ≤ 900; decide, q dx _ n ne (fun b h1 h2 => ?_) ?_ ?_⟩⟩
    · rw [upd_ne h1, upd_ne h2, upd_ne h1]
    · rw [upd_ne (Ne.symm ne), upd_same]
    · rw [upd_same]
def sp2 (K : PySem.W.Frag) : Sp := fun vs H Q _ => ∃ a C v u, vs = [.ref a, v, u] ∧ OexC K C ∧ PySem.W.findIn K (.ref C) "word" = some none ∧ PySem.W.findIn K (.ref C) "one" = some none ∧ PySem.W.findIn K (.ref C) "other" = some none ∧ H a = some (exo a C none) ∧
  ∀ dx H', H dx = none → dx ≠ a → (∀ b, b ≠ dx → b ≠ a → H' b = H b) → H' a = some (exo a C (some dx)) → H' dx = some (exd dx [("other", u), ("one", v), ("word", .str "alike")]) → Q .non H'
theorem ok_AL {CH fH f : Addr} {fd fdH : FuncData} {k : Nat} (T : HE K mg CH fH fdH) (F : Fun K "__init__" "Alike.__init__" sALinit f fd) : FnOk P w K mg base CX0 (k + 2) f fd ["self", "one", "other"] (sp2 K) := by
  have GH : FnOk P w K mg base CX0 (k + 1) fH fdH ["self", "word"] (spHE K) := ok_HE T
  obtain ⟨mc, rd, fc⟩ := T.rd
  refine F.ok scAL (fun vs H Q E h => ?_) (fun cdv A outer s H vs Q E hr h => ?_)
  · obtain ⟨a, C, v, u, rfl, _⟩ := h
    rfl
  · obtain ⟨a, C, v, u, rfl, hO, hw, h1, h2, ha, q⟩ := h
    refine ⟨_, pss_cons (ps_expr (pe_clsfn (by rfl) T.gC rd fc GH hr T.F.kp T.b .nil pass0 (pa_cons (pv 0) (pa_cons pe_str pa_nil)))) (pss_cons (ps_ost (pv 0) (pv 1)) (pss_one (ps_ost (pv 0) (pv 2)))), ?_⟩
    refine ⟨_, rfl, a, C, _, rfl, hO, hw, ha, fun dx n ne => ?_⟩
    refine ⟨_, rfl, _, rfl, a, C, rfl, hO, h1, .inr ⟨dx, _, upd_same, by rw [upd_ne ne, upd_same], by show 1 ≤ 900; decide, ?_⟩⟩
    refine ⟨_, rfl, _, rfl, a, C, rfl, hO, h2, .inr ⟨dx, _, by rw [upd_ne (Ne.symm ne), upd_same], upd_same, by show 2 ≤ 900; decide, q dx _ n ne (fun b g1 g2 => ?_) ?_ ?_⟩⟩
    · rw [upd_ne g1, upd_ne g1, upd_ne g2, upd_ne g1]
    · rw [upd_ne (Ne.symm ne), upd_ne (Ne.symm ne), upd_same]
    · rw [upd_same]
end
end NC
namespace NC
open PySem PySem.Spec PyProof.Rows L2
def badAt (l : List Nat) (bs : List (List Nat)) (i : Nat) : Bool := !isBar l (bs.getD i []) || decide (bs.getD i [] ∈ bs.take i)
def firstBad (l : List Nat) (bs : List (List Nat)) : Option Nat := (List.range bs.length).find? (badAt l bs)
theorem first_at {l : List Nat} {bs : List (List Nat)} {i : Nat} {b : List Nat} (h : bs[i]? = some b) (ok : ∀ j, j < i → badAt l bs j = false) (hb : badAt l bs i = true) : firstBad l bs = some i := by
  have hi : i < bs.length := (List.getElem?_eq_some_iff.mp h).1
  unfold firstBad
  refine List.find?_eq_some_iff_getElem.mpr ⟨hb, i, by simpa using hi, by simp, fun j hj => ?_⟩
  rw [List.getElem_range, ok j hj]
  rfl
theorem walk_enumT {K : PySem.W.Frag} {a : Addr} {xs : List V} : Walk (ItET K a) xs.length (fun H => SqT K H a xs) (YPair (fun i => some (.int (i : Nat))) (fun i => xs[i]?)) where
  goes := fun i _ lt sq => ⟨xs, xs[i], sq, List.getElem?_eq_getElem lt⟩
  stops := fun _ sq => ⟨xs, sq, Nat.le_refl _⟩
  yields := fun i _ _ _ _ sq ⟨T, x, e1, e2, e3, e4⟩ => ⟨T, .int (i : Nat), x, e1, e2, e3, rfl, e4 xs sq⟩
theorem cut_to (bs : List (List Nat)) (i : Nat) (h : i ≤ bs.length) : cutV ((bs.map tx).map V.str) none (some ((i : Nat) : Int)) = ((bs.take i).map tx).map V.str := by
  unfold cutV
  rw [HT.sIx_none, HT.sIx_nat, List.drop_zero, Nat.sub_zero, List.length_map, List.length_map, Nat.min_eq_left h, List.map_take, List.map_take]
/-- an own refusal's class, at C, its __init__ at fI -/
structure XC (K : PySem.W.Frag) (mg : Str → Option Value) (x q : Str) (st : Stmt) (fld : Str) (C fI : Addr) (fd : FuncData) : Prop where
  gC : mg x = some (.ref C)
  O : OexC K C
  hw : PySem.W.findIn K (.ref C) "word" = some none
  hf : PySem.W.findIn K (.ref C) fld = some none
  iC : PySem.W.findIn K (.ref C) "__init__" = some (some (.ref fI))
  tI : PySem.W.typeIn K (.ref fI) = some (.type "function")
  F : Fun K "__init__" q st fI fd
  b : Binds K fd ["self", fld] []
theorem mk1 {K : PySem.W.Frag} {C : Addr} {fld word : Str} (hO : OexC K C) (hw : PySem.W.findIn K (.ref C) "word" = some none) (hf : PySem.W.findIn K (.ref C) fld = some none) {H1 : Hp} {v : V} {Q : XK}
    (q : ∀ d H', Same H1 H' → H1 d = none → H' d = some (.xd [(fld, v), ("word", .str word)]) → Q (.ref C) (some d) H') :
    ∀ a, H1 a = none → sp1 K fld word (.ref a :: ([v] ++ [])) (upd H1 a (exo a C none))
      (fun u H2 => u = .non ∧ ∃ (d : Addr) (fs : List (Str × V)), H2 a = some (exo a C (some d)) ∧ H2 d = some (exd d fs) ∧ H1 d = none ∧ Q (.ref C) (some d) (upd (del H2 a) d (.xd fs))) (fun _ _ _ => False) := by
  intro a na
  refine ⟨a, C, v, rfl, hO, hw, hf, upd_same, fun dx H' n1 n2 k e1 e2 => ⟨rfl, dx, _, e1, e2, ?_, q dx _ (fun b o hb => ?_) ?_ upd_same⟩⟩
  · rw [upd_ne n2] at n1
    exact n1
  · have hd : H1 dx = none := by
      rw [upd_ne n2] at n1
      exact n1
    have b1 : b ≠ dx := ne_of_none hb hd
    have b2 : b ≠ a := ne_of_none hb na
    rw [upd_ne b1, del_ne b2, k b b1 b2, upd_ne b2]
    exact hb
  · rw [upd_ne n2] at n1
    exact n1
theorem scChkBars : FnScope ["walls", "bars", "at", "bar"] ["walls", "bars"] (defScope sChkBars) := ⟨rfl, rfl, rfl, by decide +kernel, rfl, by decide +kernel, by decide +kernel⟩
section
variable {P : Program} {w : World} {K : PySem.W.Frag} {mg : Str → Option Value} {base : Heap}
def BarsOk (bs : List (List Nat)) : Prop := ∀ b ∈ bs, (∀ c ∈ b, c < 128) ∧ b.length ≤ 100
def spChkBars (K : PySem.W.Frag) (CB : Addr) : Sp := fun vs H Q E => ∃ l a bs, vs = [.str (tx l), .ref a] ∧ GoodW l ∧ BarsOk bs ∧ bs.length ≤ 100 ∧ (SqL K H a ((bs.map tx).map V.str) ∨ SqT K H a ((bs.map tx).map V.str)) ∧
  match firstBad l bs with
  | none => ∀ H', Same H H' → Q .non H'
  | some i => ∀ H' d, Same H H' → H d = none → H' d = some (.xd [("at", .int (i : Nat)), ("word", .str "badbar")]) → E (.ref CB) (some d) H'
set_option maxHeartbeats 1000000 in
theorem ok_chkBars {f fI CB fB CH fH fS : Addr} {fd fdI fdB fdH fdS : FuncData} {k : Nat} (B : BM mg) (F : Fun K "check_bars" "check_bars" sChkBars f fd) (I : DF K mg "is_bar" sIsBar ["walls", "bar"] fI fdI) (S : DF K mg "sides_of" sSides ["walls"] fS fdS)
    (T : HE K mg CH fH fdH) (X : XC K mg "BadBar" "BadBar.__init__" sBBinit "at" CB fB fdB) : FnOk P w K mg base (L2.CX P w) (k + 4) f fd ["walls", "bars"] (spChkBars K CB) := by
  have GI : FnOk P w K mg base CX0 (k + 2) fI fdI ["walls", "bar"] spIsBar := ok_isBar B I.F S
  have GB : FnOk P w K mg base CX0 (k + 2) fB fdB ["self", "at"] (sp1 K "at" "badbar") := ok_BB T X.F
  refine F.okX scChkBars (fun vs H Q E h => ?_) (fun cdv A outer s H vs Q E hr h => ?_)
  · obtain ⟨l, a, bs, rfl, _⟩ := h
    rfl
  · obtain ⟨l, a, bs, rfl, g, hbs, hbl, hS, q⟩ := h
    refine ⟨_, pss_one (ps_for (passes_of rfl) rfl (pi_enumT (by rfl) B.enumerate (pa_cons (pv 1) pa_nil))
        (pg_tup rfl (pgs_cons (pg_name (i := 2) scChkBars.nd rfl (.inl rfl)) (pgs_cons (pg_name (i := 3) scChkBars.nd rfl (.inl rfl)) pgs_nil)))
      (pss_one (ps_if (PW.pt (pw_or (pt_not (pt_val (pe_call GI (hr.mono (by omega)) rfl I.g I.F.kp I.b .nil pass0 (pa_cons (pv 0) (pa_cons (pv 3) pa_nil)))))
          (pw_or1 (pt_cmpR op_in_seq (pv 3) (pe_slice (SlR.or sl_list sl_tup) (pv 1) po_none (po_some (pv 2))) (by rfl)))))
        (pss_one (ps_raise rfl (takes_of rfl rfl rfl rfl) (pmk_oex X.O X.iC X.tI GB hr X.b .nil pass0 (by rfl) X.gC (pa_cons (pv 2) pa_nil)))) pss_nil))), ?_⟩
    refine ⟨_, rfl, a, rfl, ?_⟩
    have len : ((bs.map tx).map V.str).length = bs.length := by rw [List.length_map, List.length_map]
    rcases hS with hS | hS
    · have wk := walk_enum (K := K) (a := a) (xs := (bs.map tx).map V.str)
      rw [len] at wk
      refine .inl ⟨⟨_, hS⟩, for_it wk (fun i σ H' => ∃ y2 y3, σ = [some (.str (tx l)), some (.ref a), y2, y3] ∧ (∀ j, j < i → badAt l bs j = false) ∧ Same H H')
        ⟨_, _, rfl, fun _ h => absurd h (Nat.not_lt_zero _), L2.Same.refl _⟩ (fun i σ H' _ p => by obtain ⟨_, _, _, _, sm⟩ := p; exact sm_l sm hS) ?_ ?_⟩
      · rintro i x σ H1 H2 hi ⟨y2, y3, rfl, hok, sm⟩ ⟨T, x1, x2, rfl, nT, rfl, e1, e2⟩
        obtain rfl : V.int (i : Nat) = x1 := Option.some.inj e1
        have e2 : ((bs.map tx).map V.str)[i]? = some x2 := e2
        rw [List.getElem?_map, List.getElem?_map] at e2
        obtain ⟨z, hz, e3⟩ := Option.map_eq_some_iff.mp e2
        obtain ⟨b, hbi, rfl⟩ := Option.map_eq_some_iff.mp hz
        subst e3
        have hb : b ∈ bs := List.mem_of_getElem? hbi
        have sT : Same H (upd H1 T (.tup [.int (i : Nat), .str (tx b)])) := sm_upd sm nT
        refine ⟨T, _, rfl, SqT.of upd_same, rfl, _, _, rfl, _, _, rfl, rfl, ?_⟩
        refine ⟨_, rfl, _, rfl, l, b, rfl, g.asc, by have := g.hi; omega, (hbs b hb).1, (hbs b hb).2, fun H3 s3 => ⟨_, rfl, ite2 (fun t1 => ?_) (fun t1 => ?_)⟩⟩
        · -- no bar
          have hn : isBar l b = false := by simpa using t1
          have fb : firstBad l bs = some i := first_at hbi hok (by unfold badAt; rw [List.getD_eq_getElem?_getD, hbi]; simp [hn])
          rw [fb] at q
          refine iteT ⟨_, rfl, by show 1 ≤ 1000; decide, mk1 X.O X.hw X.hf fun d H4 s4 n4 e4 => ?_⟩
          exact q H4 d (sm_trans (sm_trans sT s3) s4) (L2.Same.free (sm_trans sT s3) n4) e4
        · have hy : isBar l b = true := by simpa using t1
          have hS3 := sm_l (sm_trans sT s3) hS
          refine ⟨_, rfl, _, rfl, _, rfl, _, rfl, .inl ⟨a, _, rfl, hS3, fun p np => ?_⟩⟩
          rw [cut_to bs i (Nat.le_of_lt hi)]
          refine ⟨p, _, rfl, .inl (SqL.of upd_same), rfl, flat_str _, _, rfl, ite2 (fun t2 => ?_) (fun t2 => ?_)⟩
          · have hm : b ∈ bs.take i := by
              have t3 : inV (.str (tx b)) (((bs.take i).map tx).map V.str) = true := t2
              rw [inV_str] at t3
              obtain ⟨c, hc, e⟩ := List.mem_map.mp (of_decide_eq_true t3)
              rw [← tx_inj e]
              exact hc
            have fb : firstBad l bs = some i := first_at hbi hok (by unfold badAt; rw [List.getD_eq_getElem?_getD, hbi]; simp [hm])
            rw [fb] at q
            refine ⟨_, rfl, by show 1 ≤ 1000; decide, mk1 X.O X.hw X.hf fun d H4 s4 n4 e4 => ?_⟩
            have s5 := sm_upd (o := .lst (((bs.take i).map tx).map V.str)) (sm_trans sT s3) np
            exact q H4 d (sm_trans s5 s4) (L2.Same.free s5 n4) e4
          · refine ⟨_, _, rfl, fun j hj => ?_, sm_upd (sm_trans sT s3) np⟩
            rcases Nat.lt_or_ge j i with h | h
            · exact hok j h
            · obtain rfl : j = i := by omega
              have hm : b ∉ bs.take j := fun z => by
                have t3 : ¬ inV (.str (tx b)) (((bs.take j).map tx).map V.str) = true := t2
                rw [inV_str] at t3
                exact t3 (decide_eq_true (List.mem_map.mpr ⟨b, z, rfl⟩))
              unfold badAt
              rw [List.getD_eq_getElem?_getD, hbi]
              simp [hy, hm]
      · rintro σ H1 ⟨y2, y3, rfl, hok, sm⟩
        have fb : firstBad l bs = none := List.find?_eq_none.mpr fun j hj => by
          rw [hok j (by simpa using hj)]
          decide
        rw [fb] at q
        exact q H1 sm
    · have wk := walk_enumT (K := K) (a := a) (xs := (bs.map tx).map V.str)
      rw [len] at wk
      refine .inr ⟨⟨_, hS⟩, for_it wk (fun i σ H' => ∃ y2 y3, σ = [some (.str (tx l)), some (.ref a), y2, y3] ∧ (∀ j, j < i → badAt l bs j = false) ∧ Same H H')
        ⟨_, _, rfl, fun _ h => absurd h (Nat.not_lt_zero _), L2.Same.refl _⟩ (fun i σ H' _ p => by obtain ⟨_, _, _, _, sm⟩ := p; exact sm_t sm hS) ?_ ?_⟩
      · rintro i x σ H1 H2 hi ⟨y2, y3, rfl, hok, sm⟩ ⟨T, x1, x2, rfl, nT, rfl, e1, e2⟩
        obtain rfl : V.int (i : Nat) = x1 := Option.some.inj e1
        have e2 : ((bs.map tx).map V.str)[i]? = some x2 := e2
        rw [List.getElem?_map, List.getElem?_map] at e2
        obtain ⟨z, hz, e3⟩ := Option.map_eq_some_iff.mp e2
        obtain ⟨b, hbi, rfl⟩ := Option.map_eq_some_iff.mp hz
        subst e3
        have hb : b ∈ bs := List.mem_of_getElem? hbi
        have sT : Same H (upd H1 T (.tup [.int (i : Nat), .str (tx b)])) := sm_upd sm nT
        refine ⟨T, _, rfl, SqT.of upd_same, rfl, _, _, rfl, _, _, rfl, rfl, ?_⟩
        refine ⟨_, rfl, _, rfl, l, b, rfl, g.asc, by have := g.hi; omega, (hbs b hb).1, (hbs b hb).2, fun H3 s3 => ⟨_, rfl, ite2 (fun t1 => ?_) (fun t1 => ?_)⟩⟩
        · -- no bar
          have hn : isBar l b = false := by simpa using t1
          have fb : firstBad l bs = some i := first_at hbi hok (by unfold badAt; rw [List.getD_eq_getElem?_getD, hbi]; simp [hn])
          rw [fb] at q
          refine iteT ⟨_, rfl, by show 1 ≤ 1000; decide, mk1 X.O X.hw X.hf fun d H4 s4 n4 e4 => ?_⟩
          exact q H4 d (sm_trans (sm_trans sT s3) s4) (L2.Same.free (sm_trans sT s3) n4) e4
        · have hy : isBar l b = true := by simpa using t1
          have hS3 := sm_t (sm_trans sT s3) hS
          refine ⟨_, rfl, _, rfl, _, rfl, _, rfl, .inr ⟨a, _, rfl, hS3, fun z => absurd z.2 (by rw [len, HT.sIx_nat]; omega), fun p np => ?_⟩⟩
          rw [cut_to bs i (Nat.le_of_lt hi)]
          refine ⟨p, _, rfl, .inr (SqT.of upd_same), rfl, flat_str _, _, rfl, ite2 (fun t2 => ?_) (fun t2 => ?_)⟩
          · have hm : b ∈ bs.take i := by
              have t3 : inV (.str (tx b)) (((bs.take i).map tx).map V.str) = true := t2
              rw [inV_str] at t3
              obtain ⟨c, hc, e⟩ := List.mem_map.mp (of_decide_eq_true t3)
              rw [← tx_inj e]
              exact hc
            have fb : firstBad l bs = some i := first_at hbi hok (by unfold badAt; rw [List.getD_eq_getElem?_getD, hbi]; simp [hm])
            rw [fb] at q
            refine ⟨_, rfl, by show 1 ≤ 1000; decide, mk1 X.O X.hw X.hf fun d H4 s4 n4 e4 => ?_⟩
            have s5 := sm_upd (o := .tup (((bs.take i).map tx).map V.str)) (sm_trans sT s3) np
            exact q H4 d (sm_trans s5 s4) (L2.Same.free s5 n4) e4
          · refine ⟨_, _, rfl, fun j hj => ?_, sm_upd (sm_trans sT s3) np⟩
            rcases Nat.lt_or_ge j i with h | h
            · exact hok j h
            · obtain rfl : j = i := by omega
              have hm : b ∉ bs.take j := fun z => by
                have t3 : ¬ inV (.str (tx b)) (((bs.take j).map tx).map V.str) = true := t2
                rw [inV_str] at t3
                exact t3 (decide_eq_true (List.mem_map.mpr ⟨b, z, rfl⟩))
              unfold badAt
              rw [List.getD_eq_getElem?_getD, hbi]
              simp [hy, hm]
      · rintro σ H1 ⟨y2, y3, rfl, hok, sm⟩
        have fb : firstBad l bs = none := List.find?_eq_none.mpr fun j hj => by
          rw [hok j (by simpa using hj)]
          decide
        rw [fb] at q
        exact q H1 sm
end
end NC
namespace NC
open PySem PySem.Spec PyProof.Rows L2
section
variable {X : Cx}
/-- y = {k: v for ..}, y a plain local: what the comprehension hands on is stored in y's slot -/
theorem ps_setDc {i : Nat} {y : Str} {py : Pos} {kx vx tg iter : Expr} {ifs : List Expr} {scope : Scope} {own : List (Str × Nat)} {pos spos : Pos} {wi : TI} {g : TG} {tt : TT} {tk tv : TE} (calm : X.calm = true) (nd : X.N.Nodup) (at_ : X.N[i]? = some y)
    (loc : X.env.scope.names.lookup y = some .local) (sw : swapsWith (.DictComp kx vx [⟨tg, iter, ifs, 0⟩] scope pos) (some (.Name y py)) spos.line X.env = pure true) (it : PI X tg iter wi) (blk : BlkOk X.N X.env.scope scope own)
    (pg : ∀ (s : Shared) (H : Hp) (C : Addr) (cl : List (Str × Addr)) (fp : List Addr), PG (X.blk s H scope (compEnvC scope cl C X.env) fp) tg g)
    (pt : ∀ (s : Shared) (H : Hp) (C : Addr) (cl : List (Str × Addr)) (fp : List Addr), PTs (X.blk s H scope (compEnvC scope cl C X.env) fp) ifs tt)
    (pk : ∀ (s : Shared) (H : Hp) (C : Addr) (cl : List (Str × Addr)) (fp : List Addr), PE (X.blk s H scope (compEnvC scope cl C X.env) fp) kx tk)
    (pw : ∀ (s : Shared) (H : Hp) (C : Addr) (cl : List (Str × Addr)) (fp : List Addr), PE (X.blk s H scope (compEnvC scope cl C X.env) fp) vx tv) (fo : ∀ x, foldedSetIterable iter X.env x = pure x := by intro _; rfl) :
    PS X (.Assign [.Name y py] (.DictComp kx vx [⟨tg, iter, ifs, 0⟩] scope pos) spos) (tAsg (tDc wi g tt tk tv (own.map (·.2))) (gName i)) := ⟨fun ps t σ H D I w => by
  have made : wpAny (model X.prog X.w) X.A (comprehension (.DictComp kx vx [⟨tg, iter, ifs, 0⟩] scope pos) scope X.env (firstIterPos [⟨tg, iter, ifs, 0⟩] pos) newDict false (eval iter X.env) (some (assign (.Name y py) X.env))) (fun _ v => SP X ps D .next v) X.xe t := by
    refine dc_core (Qf := fun _ v => SP X ps D .next v) calm nd I it blk pg pt pk pw fo (show tDc wi g tt tk tv (own.map (·.2)) σ H (fun x G => gName i x σ G D.nx) from w) fun L C v m G J q cells fr => ?_
    show wpAny (model X.prog X.w) X.A (assign (.Name y py) X.env (.ref L)) _ X.xe v
    refine wpAny_assign_Name (store_ok2 (v := V.ref L) J nd at_ (.inl loc) rfl (fun v2 J2 st => ?_) (.inr loc))
    obtain ⟨b, same, eb⟩ := st
    have apart : C ≠ b := eb.elim (fun z => z ▸ fr.2.1) (fun z z2 => fr.2.2.2.2.1 y b z z2.symm)
    exact ⟨m, cells.sameBut same apart, fun _ keep => ⟨_, G, J2.turned (t' := v2.toks) (fun c o hc e => (keep.2 c hc).trans e) fr.1 fr.2.1 fr.2.2.2.1 fr.2.2.2.2.1 fr.2.2.2.2.2, q⟩⟩
  rw [exec_Assign_Name_used _ _ _ _ sw]
  exact wpAny_bind (wpAny_standAt (wpAny_bind (wpAny_bind (thn made fun _ v r => wpAny_pure (wpAny_pure r)))))⟩
/-- such an assignment swaps where the name is a local of a function and none of the comprehension's own -/
theorem sw_dict {kx vx : Expr} {gs : List Comprehension} {scope : Scope} {pos py : Pos} {y : Str} {l : Nat} {env : Env} (fn : env.scope.kind = .function) (loc : env.scope.names.lookup y = some .local) (row : (py.line == pos.line) = true)
    (out : (scope.names.any fun (n, k) => n == y && (k == .local || k == .cell)) = false) : swapsWith (.DictComp kx vx gs scope pos) (some (.Name y py)) l env = pure true := by
  have k1 : env.blockKind = .function := by
    unfold Env.blockKind
    rw [fn]
    rfl
  unfold swapsWith
  simp only [k1, show env.kindOf y = some .local from loc, out, Expr.pos, row]
  rfl
/-- for x in a name that holds a list or a tuple -/
def iSeq (K : PySem.W.Frag) (tl : TE) : TI := fun σ H R => tl σ H fun x H1 => ∃ a, x = .ref a ∧ ((∃ xs, SqL K H1 a xs) ∧ R (Itl K a) H1 ∨ (∃ xs, SqT K H1 a xs) ∧ R (Itt K a) H1)
theorem pi_seq {tg l : Expr} {i : Nat} (at_ : PE X l (tVar i)) : PI X tg l (iSeq X.K (tVar i)) := ⟨fun ps s σ H R I ⟨v, sv, a, ev, k⟩ => k.elim
  (fun k => (pi_list (tg := tg) at_).run ps s σ H R I ⟨v, sv, a, ev, k⟩) (fun k => (pi_tup (tg := tg) at_).run ps s σ H R I ⟨v, sv, a, ev, k⟩)⟩
end
end NC
namespace NC
open PySem PySem.Spec PyProof.Rows L2
abbrev sStraight : Stmt := topS 22
theorem scStraight : FnScope ["walls", "bars", "straight", "bar", "side"] ["walls", "bars"] (defScope sStraight) := ⟨rfl, rfl, rfl, by decide +kernel, rfl, by decide +kernel, by decide +kernel⟩
def con (s : Nat) (b : List Nat) : List Nat := match b with
  | [x, y] => (if x = s then [swp y] else []) ++ (if y = s then [swp x] else [])
  | _ => []
def adjOf (bs : List (List Nat)) (s : Nat) : List Nat := bs.flatMap (con s)
theorem con_len (s : Nat) (b : List Nat) : (con s b).length ≤ 2 := by
  unfold con
  split
  · rw [List.length_append]
    split <;> split <;> simp
  · simp
theorem adj_len (bs : List (List Nat)) (s : Nat) : (adjOf bs s).length ≤ 2 * bs.length := by
  induction bs with
  | nil => simp [adjOf]
  | cons b r ih =>
    have e : adjOf (b :: r) s = con s b ++ adjOf r s := by simp [adjOf]
    rw [e, List.length_append, List.length_cons]
    have := con_len s b
    omega
theorem bar_two {l b : List Nat} (h : isBar l b = true) : ∃ x y, b = [x, y] ∧ x ∈ sds l ∧ y ∈ sds l ∧ lwc x < lwc y := by
  match b, h with
  | [x, y], h =>
    have h' : (decide (x ∈ sds l) && (decide (y ∈ sds l) && decide (lwc x < lwc y))) = true := h
    rw [Bool.and_eq_true, Bool.and_eq_true] at h'
    exact ⟨x, y, rfl, of_decide_eq_true h'.1, of_decide_eq_true h'.2.1, of_decide_eq_true h'.2.2⟩
theorem adj_mem {l : List Nat} (g : GoodW l) {bs : List (List Nat)} (hb : ∀ b ∈ bs, isBar l b = true) {s c : Nat} (h : c ∈ adjOf bs s) : c ∈ sds l := by
  obtain ⟨b, hb1, hc⟩ := List.mem_flatMap.mp h
  obtain ⟨x, y, rfl, hx, hy, _⟩ := bar_two (hb b hb1)
  have hc : c ∈ (if x = s then [swp y] else []) ++ (if y = s then [swp x] else []) := hc
  rcases List.mem_append.mp hc with q | q
  · split at q
    · rw [List.mem_singleton.mp q]; exact sds_swp g hy
    · cases q
  · split at q
    · rw [List.mem_singleton.mp q]; exact sds_swp g hx
    · cases q
theorem adj_snoc (bs : List (List Nat)) (i s : Nat) (b : List Nat) (h : bs[i]? = some b) : adjOf (bs.take (i + 1)) s = adjOf (bs.take i) s ++ con s b := by
  rw [List.take_add_one, h]
  unfold adjOf
  rw [List.flatMap_append]
  simp
def stK (L : List Nat) (ad : Nat → Addr) : List (Key × V) := L.map fun s => (Sum.inr (sg s), V.ref (ad s))
theorem stK_val {L : List Nat} {ad : Nat → Addr} {s : Nat} (h : s ∈ L) : valV (stK L ad) (Sum.inr (sg s)) = some (.ref (ad s)) := by
  induction L with
  | nil => cases h
  | cons t r ih =>
    by_cases e : t = s
    · subst e
      exact valV_pos (p := (Sum.inr (sg t), V.ref (ad t))) rfl
    · have h2 : s ∈ r := by
        rcases List.mem_cons.mp h with z | z
        · exact absurd z.symm e
        · exact z
      exact (valV_neg (p := (Sum.inr (sg t), V.ref (ad t))) (fun z => e (sg_inj (Sum.inr.inj z)))).trans (ih h2)
theorem stK_no {L : List Nat} {ad : Nat → Addr} {s : Nat} (h : s ∉ L) : valV (stK L ad) (Sum.inr (sg s)) = none := by
  induction L with
  | nil => rfl
  | cons t r ih =>
    have e : ¬ t = s := fun z => h (by rw [z]; exact List.mem_cons_self ..)
    exact (valV_neg (p := (Sum.inr (sg t), V.ref (ad t))) (fun z => e (sg_inj (Sum.inr.inj z)))).trans (ih fun z => h (List.mem_cons_of_mem _ z))
/-- the dict of lists of what is forced straight -/
structure SD8 (H : Hp) (L : List Nat) (d : Addr) (ad : Nat → Addr) (adj : Nat → List Nat) : Prop where
  dk : H d = some (.dK (stK L ad))
  at_ : ∀ s ∈ L, H (ad s) = some (.lst (((adj s).map sg).map V.str))
  inj : ∀ s ∈ L, ∀ t ∈ L, ad s = ad t → s = t
theorem SD8.nd {H : Hp} {L : List Nat} {d : Addr} {ad : Nat → Addr} {adj : Nat → List Nat} (S : SD8 H L d ad adj) {s : Nat} (h : s ∈ L) : ad s ≠ d := ne_of (S.at_ s h) S.dk fun z => by cases z
theorem SD8.get {H : Hp} {L : List Nat} {d : Addr} {ad : Nat → Addr} {adj : Nat → List Nat} (S : SD8 H L d ad adj) {s : Nat} (h : s ∈ L) : DGet H d (.str (sg s)) (some (.ref (ad s))) := by
  rw [← stK_val (ad := ad) h]
  exact DGet.k (k := Sum.inr (sg s)) S.dk
theorem SD8.app {H : Hp} {L : List Nat} {d : Addr} {ad : Nat → Addr} {adj : Nat → List Nat} (S : SD8 H L d ad adj) {s c : Nat} (h : s ∈ L) :
    SD8 (upd H (ad s) (.lst (((adj s).map sg).map V.str ++ [.str (sg c)]))) L d ad (fun t => if t = s then adj t ++ [c] else adj t) := by
  refine ⟨by rw [upd_ne (Ne.symm (S.nd h))]; exact S.dk, fun t ht => ?_, S.inj⟩
  by_cases e : t = s
  · subst e
    rw [upd_same, if_pos rfl, List.map_append, List.map_append]
    rfl
  · rw [upd_ne (fun z => e (S.inj t ht s h z)), if_neg e]
    exact S.at_ t ht
section
variable {P : Program} {w : World} {K : PySem.W.Frag} {mg : Str → Option Value} {base : Heap}
def spStraight (K : PySem.W.Frag) : Sp := fun vs H Q _ => ∃ l a bs, vs = [.str (tx l), .ref a] ∧ GoodW l ∧ (∀ b ∈ bs, isBar l b = true) ∧ bs.length ≤ 100 ∧ (SqL K H a ((bs.map tx).map V.str) ∨ SqT K H a ((bs.map tx).map V.str)) ∧
  ∀ H' d ad, Same H H' → H d = none → SD8 H' (sds l) d ad (adjOf bs) → Q (.ref d) H'
set_option maxHeartbeats 1000000 in
theorem ok_straight {f fS fO : Addr} {fd fdS fdO : FuncData} {k : Nat} (B : BM mg) (F : Fun K "straight_from" "straight_from" sStraight f fd) (S : DF K mg "sides_of" sSides ["walls"] fS fdS) (O : DF K mg "other" sOther ["side"] fO fdO) :
    FnOk P w K mg base CX0 (k + 2) f fd ["walls", "bars"] (spStraight K) := by
  have GS : FnOk P w K mg base CX0 (k + 1) fS fdS ["walls"] spSides := ok_sides B S.F
  have GO : FnOk P w K mg base CX0 (k + 1) fO fdO ["side"] spOther := ok_other O.F
  refine F.ok scStraight (fun vs H Q E h => ?_) (fun cdv A outer s H vs Q E hr h => ?_)
  · obtain ⟨l, a, bs, rfl, _⟩ := h
    rfl
  · obtain ⟨l, a, bs, rfl, g, hbar, hbl, hS, q⟩ := h
    refine ⟨_, pss_cons (ps_setDc (i := 2) (own := [("side", 4)]) (g := gName 4) (tt := tYes) rfl scStraight.nd rfl rfl (sw_dict rfl rfl rfl (by decide +kernel)) (pi_list (pe_call GS hr rfl S.g S.F.kp S.b .nil pass0 (pa_cons (pv 0) pa_nil)))
        (blkOk_by (N := ["walls", "bars", "straight", "bar", "side"]) (sc := defScope sStraight) (by decide +kernel)) (fun _ _ _ _ _ => pg_name (i := 4) scStraight.nd rfl (Or.inl rfl)) (fun _ _ _ _ _ => pts_nil) (fun _ _ _ _ _ => pv 4) (fun _ _ _ _ _ => pe_lst pa_nil))
      (pss_cons (ps_for PassesOwn.never rfl (pi_seq (pv 1)) (pg_name (i := 3) scStraight.nd rfl (Or.inl rfl))
        (pss_cons (ps_expr (pe_bm PySem.F.plainAttrs_list PySem.F.slot_list_append PySem.F.type_list_append mt_append (pe_dget (hu_of hr) (pv 2) (pe_ix ix_str (pv 3) pe_int (fun _ _ => rfl)) (fun _ _ => rfl))
            (pa_cons (pe_call GO hr rfl O.g O.F.kp O.b .nil pass0 (pa_cons (pe_ix ix_str (pv 3) pe_int (fun _ _ => rfl)) pa_nil)) pa_nil)))
          (pss_one (ps_expr (pe_bm PySem.F.plainAttrs_list PySem.F.slot_list_append PySem.F.type_list_append mt_append (pe_dget (hu_of hr) (pv 2) (pe_ix ix_str (pv 3) pe_int (fun _ _ => rfl)) (fun _ _ => rfl))
            (pa_cons (pe_call GO hr rfl O.g O.F.kp O.b .nil pass0 (pa_cons (pe_ix ix_str (pv 3) pe_int (fun _ _ => rfl)) pa_nil)) pa_nil))))))
      (pss_one (ps_ret (pv 2)))), ?_⟩
    refine ⟨_, rfl, l, rfl, g.asc, by have := g.hi; omega, fun p np => ⟨p, rfl, ⟨_, SqL.of upd_same⟩, fun D nD => ?_⟩⟩
    have s1 : Same H (upd H p (.lst (((sds l).map sg).map V.str))) := same_upd np
    have hp1 : (upd H p (.lst (((sds l).map sg).map V.str))) p = some (.lst (((sds l).map sg).map V.str)) := upd_same
    generalize (upd H p (.lst (((sds l).map sg).map V.str))) = H1 at s1 nD hp1 ⊢
    have wk := walk_list (K := K) (a := p) (xs := ((sds l).map sg).map V.str)
    rw [List.length_map, List.length_map] at wk
    refine dc_it wk (fun i H' => ∃ ad, Same H1 H' ∧ SD8 H' ((sds l).take i) D ad (fun _ => []) ∧ ∀ s ∈ (sds l).take i, H1 (ad s) = none)
      ⟨fun _ => p, same_upd nD, ⟨upd_same, fun s hs => by simp at hs, fun s hs => by simp at hs⟩, fun s hs => by simp at hs⟩ (fun i H' _ h => by obtain ⟨ad, sm, _⟩ := h; exact SqL.of (sm _ _ hp1)) ?_ ?_
    · rintro i x H2 H3 hi ⟨ad, sm, S8, fr0⟩ ⟨rfl, hx⟩
      rw [List.getElem?_map, List.getElem?_map] at hx
      obtain ⟨z, hz, rfl⟩ := Option.map_eq_some_iff.mp hx
      obtain ⟨c, hc, rfl⟩ := Option.map_eq_some_iff.mp hz
      have hnc : c ∉ (sds l).take i := fun hm => by
        obtain ⟨j, hj⟩ := List.getElem?_of_mem hm
        have hji : j < i := by
          have := (List.getElem?_eq_some_iff.mp hj).1
          rw [List.length_take] at this
          omega
        rw [List.getElem?_take_of_lt hji] at hj
        exact absurd ((List.getElem?_inj (List.getElem?_eq_some_iff.mp hj).1 (sds_nd g)).mp (hj.trans hc.symm)) (Nat.ne_of_lt hji)
      refine ⟨rfl, yes_i ⟨_, rfl, Nat.zero_le _, fun r nr => ⟨stK ((sds l).take i) ad, Sum.inr (sg c), rfl, ?_, ?_, fun t => if t = c then r else ad t, ?_, ?_, ?_⟩⟩⟩
      · rw [upd_ne (ne_of_none S8.dk nr)]
        exact S8.dk
      · unfold stK
        rw [List.length_map, List.length_take, sizeLine_eq]
        have := sds_len g
        omega
      · exact sm_over (sm_upd sm nr) nD
      · have nrD : D ≠ r := ne_of_none S8.dk nr
        have e1 : ∀ t ∈ (sds l).take i, (if t = c then r else ad t) = ad t := fun t ht => if_neg fun e => hnc (by rw [← e]; exact ht)
        have tk : (sds l).take (i + 1) = (sds l).take i ++ [c] := by rw [List.take_add_one, hc]; rfl
        refine ⟨?_, fun t ht => ?_, fun t ht u hu e => ?_⟩
        · rw [upd_same, putK_new _ (stK_no hnc), tk]
          unfold stK
          rw [List.map_append]
          rw [List.map_congr_left (g := fun s => (Sum.inr (sg s), V.ref (if s = c then r else ad s))) fun t ht => by rw [e1 t ht]]
          simp
        · rw [tk] at ht
          rcases List.mem_append.mp ht with h | h
          · rw [e1 t h, upd_ne (S8.nd h), upd_ne (ne_of_none (S8.at_ t h) nr)]
            exact S8.at_ t h
          · obtain rfl := List.mem_singleton.mp h
            rw [if_pos rfl, upd_ne (Ne.symm nrD), upd_same]
            rfl
        · rw [tk] at ht hu
          rcases List.mem_append.mp ht with h | h <;> rcases List.mem_append.mp hu with h2 | h2
          · rw [e1 t h, e1 u h2] at e
            exact S8.inj t h u h2 e
          · obtain rfl := List.mem_singleton.mp h2
            rw [e1 t h, if_pos rfl] at e
            exact absurd e (ne_of_none (S8.at_ t h) nr)
          · obtain rfl := List.mem_singleton.mp h
            rw [e1 u h2, if_pos rfl] at e
            exact absurd e.symm (ne_of_none (S8.at_ u h2) nr)
          · rw [List.mem_singleton.mp h, List.mem_singleton.mp h2]
      · intro t ht
        show H1 (if t = c then r else ad t) = none
        by_cases e : t = c
        · rw [if_pos e]
          exact L2.Same.free sm nr
        · rw [if_neg e]
          refine fr0 t ?_
          rw [List.take_add_one, hc] at ht
          rcases List.mem_append.mp ht with h | h
          · exact h
          · exact absurd (List.mem_singleton.mp h) e
    · rintro H2 ⟨ad, sm, S8, fr0⟩
      rw [List.take_of_length_le (Nat.le_refl _)] at S8
      have nd0 : H D = none := L2.Same.free s1 nD
      have fr : ∀ s ∈ sds l, H (ad s) = none := fun s hs => L2.Same.free s1 (fr0 s (by rw [List.take_of_length_le (Nat.le_refl _)]; exact hs))
      have sm0 : Same H H2 := sm_trans s1 sm
      refine ⟨_, rfl, a, rfl, ?_⟩
      have len : ((bs.map tx).map V.str).length = bs.length := by rw [List.length_map, List.length_map]
      rcases hS with hS | hS
      · have wk2 := walk_list (K := K) (a := a) (xs := (bs.map tx).map V.str)
        rw [len] at wk2
        refine .inl ⟨⟨_, sm_l sm0 hS⟩, for_it wk2 (fun i σ H' => ∃ y3, σ = [some (.str (tx l)), some (.ref a), some (.ref D), y3, none] ∧ Same H H' ∧ SD8 H' (sds l) D ad (adjOf (bs.take i)))
          ⟨_, rfl, sm0, S8⟩ (fun i σ H' _ p => by obtain ⟨_, _, sm, _⟩ := p; exact sm_l sm hS) ?_ ?_⟩
        · rintro i x σ H5 H6 hi ⟨y3, rfl, sm5, S5⟩ ⟨rfl, hx⟩
          rw [List.getElem?_map, List.getElem?_map] at hx
          obtain ⟨z, hz, rfl⟩ := Option.map_eq_some_iff.mp hx
          obtain ⟨b, hbi, rfl⟩ := Option.map_eq_some_iff.mp hz
          obtain ⟨u, v, rfl, hu, hv, huv⟩ := bar_two (hbar b (List.mem_of_getElem? hbi))
          have hbz : (tx [u, v]).length ≤ sizeLine := by rw [tx_len, sizeLine_eq]; show 2 ≤ 16777216; decide
          have nuv : u ≠ v := fun e => by rw [e] at huv; exact Nat.lt_irrefl _ huv
          have hz1 : ∀ s, (adjOf (bs.take i) s).length ≤ 200 := fun s => by
            have h1 := adj_len (bs.take i) s
            have h2 : (bs.take i).length ≤ 100 := Nat.le_trans (by rw [List.length_take]; exact Nat.min_le_right _ _) hbl
            omega
          have S6 := S5.app (c := swp v) hu
          have S7 := S6.app (c := swp u) hv
          have nH : ∀ s ∈ sds l, ∀ o, Same H H6 → Same H (upd H6 (ad s) o) := fun s hs o z => sm_over z (fr s hs)
          refine ⟨_, rfl, _, rfl, _, _, u, rfl, rfl, hbz, rfl, D, _, rfl, S5.get hu, .inl ⟨rfl, _, SqL.of (S5.at_ u hu)⟩, _, rfl, _, _, v, rfl, rfl, hbz, rfl, v, rfl, sds_asc g hv, ad u, _, _, rfl, rfl, S5.at_ u hu, ?_, ?_⟩
          · rw [List.length_map, List.length_map, sizeLine_eq]
            have := hz1 u
            omega
          · refine ⟨_, rfl, _, rfl, _, _, v, rfl, rfl, hbz, rfl, D, _, rfl, S6.get hv, .inl ⟨rfl, _, SqL.of (S6.at_ v hv)⟩, _, rfl, _, _, u, rfl, rfl, hbz, rfl, u, rfl, sds_asc g hu, ad v, _, _, rfl, rfl, S6.at_ v hv, ?_, ?_⟩
            · rw [if_neg (Ne.symm nuv), List.length_map, List.length_map, sizeLine_eq]
              have := hz1 v
              omega
            · refine ⟨_, rfl, sm_over (sm_over sm5 (fr u hu)) (fr v hv), ?_⟩
              have ea : (fun t => if t = v then (if t = u then adjOf (bs.take i) t ++ [swp v] else adjOf (bs.take i) t) ++ [swp u] else if t = u then adjOf (bs.take i) t ++ [swp v] else adjOf (bs.take i) t) = adjOf (bs.take (i + 1)) := by
                funext t
                rw [adj_snoc bs i t [u, v] hbi]
                show _ = adjOf (bs.take i) t ++ ((if u = t then [swp v] else []) ++ (if v = t then [swp u] else []))
                by_cases e1 : t = u
                · subst e1
                  rw [if_neg nuv, if_pos rfl, if_pos rfl, if_neg (Ne.symm nuv)]
                  simp
                · rw [if_neg e1, if_neg (Ne.symm e1)]
                  by_cases e2 : t = v
                  · subst e2
                    rw [if_pos rfl, if_pos rfl]
                    simp
                  · rw [if_neg e2, if_neg (Ne.symm e2)]
                    simp [e1]
              rw [← ea]
              exact S7
        · rintro σ H5 ⟨y3, rfl, sm5, S5⟩
          rw [List.take_of_length_le (Nat.le_refl _)] at S5
          exact ⟨_, rfl, q H5 D ad sm5 nd0 S5⟩
      · have wk2 := walk_tup (K := K) (a := a) (xs := (bs.map tx).map V.str)
        rw [len] at wk2
        refine .inr ⟨⟨_, sm_t sm0 hS⟩, for_it wk2 (fun i σ H' => ∃ y3, σ = [some (.str (tx l)), some (.ref a), some (.ref D), y3, none] ∧ Same H H' ∧ SD8 H' (sds l) D ad (adjOf (bs.take i)))
          ⟨_, rfl, sm0, S8⟩ (fun i σ H' _ p => by obtain ⟨_, _, sm, _⟩ := p; exact sm_t sm hS) ?_ ?_⟩
        · rintro i x σ H5 H6 hi ⟨y3, rfl, sm5, S5⟩ ⟨rfl, hx⟩
          rw [List.getElem?_map, List.getElem?_map] at hx
          obtain ⟨z, hz, rfl⟩ := Option.map_eq_some_iff.mp hx
          obtain ⟨b, hbi, rfl⟩ := Option.map_eq_some_iff.mp hz
          obtain ⟨u, v, rfl, hu, hv, huv⟩ := bar_two (hbar b (List.mem_of_getElem? hbi))
          have hbz : (tx [u, v]).length ≤ sizeLine := by rw [tx_len, sizeLine_eq]; show 2 ≤ 16777216; decide
          have nuv : u ≠ v := fun e => by rw [e] at huv; exact Nat.lt_irrefl _ huv
          have hz1 : ∀ s, (adjOf (bs.take i) s).length ≤ 200 := fun s => by
            have h1 := adj_len (bs.take i) s
            have h2 : (bs.take i).length ≤ 100 := Nat.le_trans (by rw [List.length_take]; exact Nat.min_le_right _ _) hbl
            omega
          have S6 := S5.app (c := swp v) hu
          have S7 := S6.app (c := swp u) hv
          have nH : ∀ s ∈ sds l, ∀ o, Same H H6 → Same H (upd H6 (ad s) o) := fun s hs o z => sm_over z (fr s hs)
          refine ⟨_, rfl, _, rfl, _, _, u, rfl, rfl, hbz, rfl, D, _, rfl, S5.get hu, .inl ⟨rfl, _, SqL.of (S5.at_ u hu)⟩, _, rfl, _, _, v, rfl, rfl, hbz, rfl, v, rfl, sds_asc g hv, ad u, _, _, rfl, rfl, S5.at_ u hu, ?_, ?_⟩
          · rw [List.length_map, List.length_map, sizeLine_eq]
            have := hz1 u
            omega
          · refine ⟨_, rfl, _, rfl, _, _, v, rfl, rfl, hbz, rfl, D, _, rfl, S6.get hv, .inl ⟨rfl, _, SqL.of (S6.at_ v hv)⟩, _, rfl, _, _, u, rfl, rfl, hbz, rfl, u, rfl, sds_asc g hu, ad v, _, _, rfl, rfl, S6.at_ v hv, ?_, ?_⟩
            · rw [if_neg (Ne.symm nuv), List.length_map, List.length_map, sizeLine_eq]
              have := hz1 v
              omega
            · refine ⟨_, rfl, sm_over (sm_over sm5 (fr u hu)) (fr v hv), ?_⟩
              have ea : (fun t => if t = v then (if t = u then adjOf (bs.take i) t ++ [swp v] else adjOf (bs.take i) t) ++ [swp u] else if t = u then adjOf (bs.take i) t ++ [swp v] else adjOf (bs.take i) t) = adjOf (bs.take (i + 1)) := by
                funext t
                rw [adj_snoc bs i t [u, v] hbi]
                show _ = adjOf (bs.take i) t ++ ((if u = t then [swp v] else []) ++ (if v = t then [swp u] else []))
                by_cases e1 : t = u
                · subst e1
                  rw [if_neg nuv, if_pos rfl, if_pos rfl, if_neg (Ne.symm nuv)]
                  simp
                · rw [if_neg e1, if_neg (Ne.symm e1)]
                  by_cases e2 : t = v
                  · subst e2
                    rw [if_pos rfl, if_pos rfl]
                    simp
                  · rw [if_neg e2, if_neg (Ne.symm e2)]
                    simp [e1]
              rw [← ea]
              exact S7
        · rintro σ H5 ⟨y3, rfl, sm5, S5⟩
          rw [List.take_of_length_le (Nat.le_refl _)] at S5
          exact ⟨_, rfl, q H5 D ad sm5 nd0 S5⟩
end
end NC
namespace NC
open PySem PySem.Spec PyProof.Rows L2
abbrev sReached : Stmt := topS 23
theorem scReached : FnScope ["straight", "one", "ahead", "wave", "later", "side", "met"] ["straight", "one"] (defScope sReached) := ⟨rfl, rfl, rfl, by decide +kernel, rfl, by decide +kernel, by decide +kernel⟩
def pV : Option Nat → V
  | none => .non
  | some c => .str (sg c)
def ahK (rs : List (Nat × Option Nat)) : List (Key × V) := rs.map fun r => (Sum.inr (sg r.1), pV r.2)
def kys (rs : List (Nat × Option Nat)) : List Nat := rs.map (·.1)
theorem ahK_no {rs : List (Nat × Option Nat)} {s : Nat} (h : s ∉ kys rs) : valV (ahK rs) (Sum.inr (sg s)) = none := by
  induction rs with
  | nil => rfl
  | cons r t ih =>
    have e : ¬ r.1 = s := fun z => h (by show s ∈ r.1 :: kys t; rw [z]; exact List.mem_cons_self ..)
    exact (valV_neg (p := (Sum.inr (sg r.1), pV r.2)) (fun z => e (sg_inj (Sum.inr.inj z)))).trans (ih fun z => h (List.mem_cons_of_mem _ z))
theorem ahK_some {rs : List (Nat × Option Nat)} {s : Nat} (h : s ∈ kys rs) : ∃ (i : Nat) (p : Option Nat), rs[i]? = some (s, p) ∧ valV (ahK rs) (Sum.inr (sg s)) = some (pV p) := by
  induction rs with
  | nil => cases h
  | cons r t ih =>
    by_cases e : r.1 = s
    · exact ⟨0, r.2, by rw [← e]; rfl, by rw [← e]; exact valV_pos (p := (Sum.inr (sg r.1), pV r.2)) rfl⟩
    · have h2 : s ∈ kys t := by
        rcases List.mem_cons.mp (show s ∈ r.1 :: kys t from h) with z | z
        · exact absurd z.symm e
        · exact z
      obtain ⟨i, p, h3, h4⟩ := ih h2
      exact ⟨i + 1, p, h3, (valV_neg (p := (Sum.inr (sg r.1), pV r.2)) (fun z => e (sg_inj (Sum.inr.inj z)))).trans h4⟩
theorem nd_len : ∀ (a L : List Nat), a.Nodup → (∀ x ∈ a, x ∈ L) → a.length ≤ L.length
  | [], L, _, _ => Nat.zero_le _
  | x :: r, L, hn, hs => by
    obtain ⟨n1, n2⟩ := List.nodup_cons.mp hn
    have m : x ∈ L := hs x (List.mem_cons_self ..)
    have hl := List.length_erase_of_mem m
    have q := nd_len r (L.erase x) n2 fun z hz => (List.mem_erase_of_ne (fun e : z = x => n1 (by rw [← e]; exact hz))).mpr (hs z (List.mem_cons_of_mem _ hz))
    have hp : 0 < L.length := List.length_pos_of_mem m
    rw [List.length_cons]
    omega
/-- the same, to be read alone (the dict may be walked) -/
structure SR8 (H : Hp) (L : List Nat) (d : Addr) (ad : Nat → Addr) (adj : Nat → List Nat) : Prop where
  dk : Rd H d (.dK (stK L ad))
  at_ : ∀ s ∈ L, H (ad s) = some (.lst (((adj s).map sg).map V.str))
theorem SD8.rd {H : Hp} {L : List Nat} {d : Addr} {ad : Nat → Addr} {adj : Nat → List Nat} (S : SD8 H L d ad adj) : SR8 H L d ad adj := ⟨.inl S.dk, S.at_⟩
theorem SR8.same {H H' : Hp} {L : List Nat} {d : Addr} {ad : Nat → Addr} {adj : Nat → List Nat} (S : SR8 H L d ad adj) (e : Same H H') : SR8 H' L d ad adj :=
  ⟨S.dk.elim (fun z => .inl (e _ _ z)) fun ⟨o, z⟩ => .inr ⟨o, e _ _ z⟩, fun s hs => e _ _ (S.at_ s hs)⟩
theorem SR8.get {H : Hp} {L : List Nat} {d : Addr} {ad : Nat → Addr} {adj : Nat → List Nat} (S : SR8 H L d ad adj) {s : Nat} (h : s ∈ L) : DGet H d (.str (sg s)) (some (.ref (ad s))) := by
  rw [← stK_val (ad := ad) h]
  exact .inl ⟨_, Sum.inr (sg s), S.dk, rfl, rfl⟩
structure RsOk (L : List Nat) (adj : Nat → List Nat) (one : Nat) (rs : List (Nat × Option Nat)) : Prop where
  hd : ∃ r, rs = (one, none) :: r
  nd : (kys rs).Nodup
  sub : ∀ s ∈ kys rs, s ∈ L
  par : ∀ (i s : Nat) (p : Option Nat), rs[i]? = some (s, p) → (i = 0 ∧ p = none) ∨ ∃ c j q, p = some c ∧ j < i ∧ rs[j]? = some (c, q) ∧ s ∈ adj c
theorem RsOk.len {L : List Nat} {adj : Nat → List Nat} {one : Nat} {rs : List (Nat × Option Nat)} (h : RsOk L adj one rs) : rs.length ≤ L.length := by
  have := nd_len (kys rs) L h.nd h.sub
  rw [kys, List.length_map] at this
  exact this
theorem RsOk.snoc {L : List Nat} {adj : Nat → List Nat} {one s m : Nat} {rs : List (Nat × Option Nat)} (h : RsOk L adj one rs) (hs : s ∈ kys rs) (hm : m ∈ adj s) (hL : m ∈ L) (hn : m ∉ kys rs) : RsOk L adj one (rs ++ [(m, some s)]) := by
  obtain ⟨r, e⟩ := h.hd
  have ek : kys (rs ++ [(m, some s)]) = kys rs ++ [m] := by simp [kys]
  refine ⟨⟨r ++ [(m, some s)], by rw [e]; rfl⟩, ?_, fun t ht => ?_, fun i t p hi => ?_⟩
  · rw [ek]
    exact nd_snoc h.nd hn
  · rw [ek] at ht
    rcases List.mem_append.mp ht with z | z
    · exact h.sub t z
    · rw [List.mem_singleton.mp z]; exact hL
  · rcases Nat.lt_or_ge i rs.length with hl | hl
    · rw [List.getElem?_append_left hl] at hi
      rcases h.par i t p hi with z | ⟨c, j, q, h1, h2, h3, h4⟩
      · exact .inl z
      · exact .inr ⟨c, j, q, h1, h2, by rw [List.getElem?_append_left (by omega)]; exact h3, h4⟩
    · rw [List.getElem?_append_right hl] at hi
      have hi0 : i - rs.length = 0 := by
        have := (List.getElem?_eq_some_iff.mp hi).1
        simp at this
        omega
      rw [hi0] at hi
      have e2 : (m, some s) = (t, p) := Option.some.inj hi
      cases e2
      obtain ⟨j, q, hj⟩ : ∃ (j : Nat) (q : Option Nat), rs[j]? = some (s, q) := by
        obtain ⟨x, hx, ex⟩ := List.mem_map.mp hs
        obtain ⟨j, hj⟩ := List.getElem?_of_mem hx
        exact ⟨j, x.2, by rw [hj, ← ex]⟩
      have hjl := (List.getElem?_eq_some_iff.mp hj).1
      exact .inr ⟨s, j, q, rfl, by omega, by rw [List.getElem?_append_left hjl]; exact hj, hm⟩
theorem ahK_snoc (rs : List (Nat × Option Nat)) (m s : Nat) (h : m ∉ kys rs) : putK (ahK rs) (Sum.inr (sg m)) (.str (sg s)) = ahK (rs ++ [(m, some s)]) := by
  rw [putK_new _ (ahK_no h)]
  unfold ahK
  rw [List.map_append]
  rfl
inductive Wk (adj : Nat → List Nat) (one : Nat) : Nat → Nat → Prop
  | zero : Wk adj one 0 one
  | step {n s c : Nat} : Wk adj one n s → c ∈ adj s → Wk adj one (n + 1) c
def Dst (adj : Nat → List Nat) (one n s : Nat) : Prop := Wk adj one n s ∧ ∀ m, m < n → ¬ Wk adj one m s
def Lvl (adj : Nat → List Nat) (one : Nat) (rs : List (Nat × Option Nat)) : Prop := ∀ (i s c : Nat), rs[i]? = some (s, some c) → ∃ m, Dst adj one m c ∧ Dst adj one (m + 1) s
def Fil (adj : Nat → List Nat) (one n : Nat) (rs : List (Nat × Option Nat)) : Prop := ∀ m t, m ≤ n → Wk adj one m t → t ∈ kys rs
def Frn (adj : Nat → List Nat) (one n : Nat) (wv : List Nat) : Prop := ∀ t ∈ wv, Dst adj one n t
theorem Dst.zero {adj : Nat → List Nat} {one : Nat} : Dst adj one 0 one := ⟨.zero, fun m h => absurd h (Nat.not_lt_zero _)⟩
theorem Lvl.one {adj : Nat → List Nat} {one : Nat} : Lvl adj one [(one, none)] := fun i s c h => by
  have hi := (List.getElem?_eq_some_iff.mp h).1
  have h0 : i = 0 := by simp at hi; omega
  subst h0
  cases h
theorem Fil.one {adj : Nat → List Nat} {one : Nat} : Fil adj one 0 [(one, none)] := fun m t h w => by
  obtain rfl : m = 0 := by omega
  cases w
  simp [kys]
theorem Frn.one {adj : Nat → List Nat} {one : Nat} : Frn adj one 0 [one] := fun t h => by rw [List.mem_singleton.mp h]; exact .zero
theorem Lvl.snoc {adj : Nat → List Nat} {one n s m : Nat} {rs : List (Nat × Option Nat)} (h : Lvl adj one rs) (a : Dst adj one n s) (b : Dst adj one (n + 1) m) : Lvl adj one (rs ++ [(m, some s)]) := fun i t c hi => by
  rcases Nat.lt_or_ge i rs.length with hl | hl
  · rw [List.getElem?_append_left hl] at hi
    exact h i t c hi
  · rw [List.getElem?_append_right hl] at hi
    have h0 : i - rs.length = 0 := by
      have := (List.getElem?_eq_some_iff.mp hi).1
      simp at this
      omega
    rw [h0] at hi
    cases hi
    exact ⟨n, a, b⟩
theorem Frn.snoc {adj : Nat → List Nat} {one n m : Nat} {wv : List Nat} (h : Frn adj one n wv) (b : Dst adj one n m) : Frn adj one n (wv ++ [m]) := fun t ht => by
  rcases List.mem_append.mp ht with z | z
  · exact h t z
  · rw [List.mem_singleton.mp z]; exact b
theorem Fil.next {adj : Nat → List Nat} {one n : Nat} {rs rs2 : List (Nat × Option Nat)} {lt : List Nat} (f : Fil adj one n rs) (k : ∀ t ∈ kys rs, t ∈ kys rs2) (fr : Frn adj one (n + 1) lt) (cl : ∀ u ∈ kys rs2, u ∉ lt → ∀ c ∈ adj u, c ∈ kys rs2) : Fil adj one (n + 1) rs2 := fun m t hm w => by
  rcases Nat.lt_or_ge n m with h | h
  · obtain rfl : m = n + 1 := by omega
    cases w with
    | step ws ht => exact cl _ (k _ (f n _ (Nat.le_refl _) ws)) (fun z => (fr _ z).2 n (Nat.lt_succ_self _) ws) t ht
  · exact k t (f m t h w)
theorem reach_in {adj : Nat → List Nat} {one : Nat} {rs : List (Nat × Option Nat)} (h0 : one ∈ kys rs) (cl : ∀ s ∈ kys rs, ∀ c ∈ adj s, c ∈ kys rs) {n s : Nat} (w : Wk adj one n s) : s ∈ kys rs := by
  induction w with
  | zero => exact h0
  | step _ hc ih => exact cl _ ih _ hc
section
variable {P : Program} {w : World} {K : PySem.W.Frag} {mg : Str → Option Value} {base : Heap}
def spReached : Sp := fun vs H Q _ => ∃ L d ad adj one, vs = [.ref d, .str (sg one)] ∧ SR8 H L d ad adj ∧ one ∈ L ∧ (∀ s ∈ L, ∀ c ∈ adj s, c ∈ L) ∧ L.length ≤ 24 ∧
  ∀ H' a rs, Same H H' → H a = none → RsOk L adj one rs → (∀ s ∈ kys rs, ∀ c ∈ adj s, c ∈ kys rs) → Lvl adj one rs → H' a = some (.dK (ahK rs)) → Q (.ref a) H'
set_option maxHeartbeats 1000000 in
theorem ok_reached {f : Addr} {fd : FuncData} {k : Nat} (F : Fun K "reached" "reached" sReached f fd) : FnOk P w K mg base CX0 (k + 1) f fd ["straight", "one"] spReached := by
  refine F.ok scReached (fun vs H Q E h => ?_) (fun cdv A outer s H vs Q E hr h => ?_)
  · obtain ⟨L, d, ad, adj, one, rfl, _⟩ := h
    rfl
  · obtain ⟨L, d, ad, adj, one, rfl, S8, hone, hadj, hL, q⟩ := h
    refine ⟨_, pss_cons (ps_set (i := 2) scReached.nd rfl (.inl rfl) (pe_disp (pps_cons (pv 1) pe_non pps_nil) (by rfl) (by rfl) (fun z => by cases z) (by decide)))
      (pss_cons (ps_set (i := 3) scReached.nd rfl (.inl rfl) (pe_lst (pa_cons (pv 1) pa_nil)))
      (pss_cons (ps_while PassesOwn.never (pt_truth (pv 3) (by intro _; rfl))
        (pss_cons (ps_set (i := 4) scReached.nd rfl (.inl rfl) (pe_lst pa_nil))
        (pss_cons (ps_for PassesOwn.never rfl (pi_list (pv 3)) (pg_name (i := 5) scReached.nd rfl (Or.inl rfl))
          (pss_one (ps_for PassesOwn.never rfl (pi_list (pe_dget (hu_of hr) (pv 0) (pv 5) (fun _ _ => rfl))) (pg_name (i := 6) scReached.nd rfl (Or.inl rfl))
            (pss_one (ps_if (pt_cmp (pc_dnotin (hu_of hr) (pv 6) (pv 2)))
              (pss_cons (ps_dput (hu_of hr) (pv 2) (pv 6) (pv 5) rfl)
              (pss_one (ps_expr (pe_bm PySem.F.plainAttrs_list PySem.F.slot_list_append PySem.F.type_list_append mt_append (pv 4) (pa_cons (pv 6) pa_nil))))) pss_nil)))))
        (pss_one (ps_set (i := 3) scReached.nd rfl (.inl rfl) (pv 4))))))
      (pss_one (ps_ret (pv 2))))), ?_⟩
    refine fun A0 nA => ⟨_, rfl, upd_same, [(Sum.inr (sg one), .non)], rfl, by show 1 ≤ 15; decide, ?_⟩
    have eA : upd (upd H A0 (.dK [])) A0 (.dK (mergeK [] [(Sum.inr (sg one), .non)])) = upd H A0 (.dK (ahK [(one, none)])) := by
      rw [L2.upd_upd]
      rfl
    rw [eA]
    refine ⟨_, rfl, by show 1 ≤ sizeLine; decide, fun W0 nW => ?_⟩
    have nAW : A0 ≠ W0 := ne_of_none upd_same nW
    have nW0 : H W0 = none := by
      rw [upd_ne (Ne.symm nAW)] at nW
      exact nW
    -- the while
    refine ⟨fun m σ H' => ∃ rs wv Wd y4 y5 y6, σ = [some (.ref d), some (.str (sg one)), some (.ref A0), some (.ref Wd), y4, y5, y6] ∧ Same H H' ∧ H Wd = none ∧ H' A0 = some (.dK (ahK rs)) ∧ H' Wd = some (.lst ((wv.map sg).map V.str)) ∧
      RsOk L adj one rs ∧ (∀ t ∈ wv, t ∈ kys rs) ∧ wv.length ≤ 24 ∧ (∀ t ∈ kys rs, t ∉ wv → ∀ c ∈ adj t, c ∈ kys rs) ∧ (∃ n, Lvl adj one rs ∧ Fil adj one n rs ∧ Frn adj one n wv) ∧ m = 2 * (24 - rs.length) + (if wv = [] then 0 else 1), ?_, ?_⟩
    · refine ⟨_, [(one, none)], [one], W0, _, _, _, rfl, sm_upd (same_upd nA) nW, nW0, ?_, upd_same, ⟨⟨[], rfl⟩, by simp [kys], fun t ht => ?_, fun i t p hi => ?_⟩, fun t ht => by simpa [kys] using ht, by show 1 ≤ 24; decide, fun t ht hn => ?_, ⟨0, Lvl.one, Fil.one, Frn.one⟩, rfl⟩
      · rw [upd_ne nAW, upd_same]
      · have e : t = one := by simpa [kys] using ht
        rw [e]; exact hone
      · have hi0 : i = 0 := by
          have := (List.getElem?_eq_some_iff.mp hi).1
          simp at this
          omega
        subst hi0
        cases hi
        exact .inl ⟨rfl, rfl⟩
      · have e : t = one := by simpa [kys] using ht
        exact absurd (by simp [e]) hn
    · rintro m σ H1 ⟨rs, wv, Wd, y4, y5, y6, rfl, sm, nWd, eA1, eW, R, hwv, hwl, hdone, ⟨n, LV, FL, FR⟩, rfl⟩
      refine ⟨_, rfl, _, .inl ⟨_, SqL.of eW, rfl⟩, ite2 (fun hne => ?_) (fun he => ?_)⟩
      · -- a turn of the while
        have hw0 : wv ≠ [] := fun z => by
          rw [z] at hne
          exact absurd hne (by decide)
        refine ⟨fun σ' H' => ∃ (rs2 : List (Nat × Option Nat)) (lt : List Nat) (Wd2 : Addr) (y4 y5 y6 : Option V), σ' = [some (.ref d), some (.str (sg one)), some (.ref A0), some (.ref Wd2), y4, y5, y6] ∧ Same H H' ∧ H Wd2 = none ∧ H' A0 = some (.dK (ahK rs2)) ∧ H' Wd2 = some (.lst ((lt.map sg).map V.str)) ∧
          RsOk L adj one rs2 ∧ (∀ t ∈ lt, t ∈ kys rs2) ∧ lt.length ≤ 24 ∧ (∀ t ∈ kys rs2, t ∉ lt → ∀ c ∈ adj t, c ∈ kys rs2) ∧ (∃ n, Lvl adj one rs2 ∧ Fil adj one n rs2 ∧ Frn adj one n lt) ∧ rs2.length = rs.length + lt.length, ?_, ?_⟩
        · rintro σ' H' ⟨rs2, lt, Wd2, y4, y5, y6, h1, h2, h3, h4, h5, h6, h7, h8, h9, hL, h10⟩
          refine ⟨_, ?_, rs2, lt, Wd2, y4, y5, y6, h1, h2, h3, h4, h5, h6, h7, h8, h9, hL, rfl⟩
          have l2 := h6.len
          rw [if_neg hw0]
          by_cases e : lt = []
          · rw [if_pos e, h10, e]
            simp
          · rw [if_neg e, h10]
            have : 0 < lt.length := List.length_pos_iff.mpr e
            omega
        · refine ⟨Nat.zero_le _, fun T nT => ?_⟩
          have nTA : A0 ≠ T := ne_of_none eA1 nT
          have nTW : Wd ≠ T := ne_of_none eW nT
          have nTH : H T = none := L2.Same.free sm nT
          have wk := walk_list (K := K) (a := Wd) (xs := (wv.map sg).map V.str)
          rw [List.length_map, List.length_map] at wk
          refine ⟨_, rfl, Wd, rfl, ⟨_, SqL.of (by rw [upd_ne nTW]; exact eW)⟩, for_it wk (fun i σ H' => ∃ (rs2 : List (Nat × Option Nat)) (lt : List Nat) (y5 y6 : Option V), σ = [some (.ref d), some (.str (sg one)), some (.ref A0), some (.ref Wd), some (.ref T), y5, y6] ∧ Same H H' ∧ H' A0 = some (.dK (ahK rs2)) ∧
            H' Wd = some (.lst ((wv.map sg).map V.str)) ∧ H' T = some (.lst ((lt.map sg).map V.str)) ∧ RsOk L adj one rs2 ∧ rs2.length = rs.length + lt.length ∧ (∀ t ∈ kys rs, t ∈ kys rs2) ∧ (∀ t ∈ lt, t ∈ kys rs2) ∧
            (∀ t ∈ kys rs2, t ∉ lt → t ∉ wv.drop i → ∀ c ∈ adj t, c ∈ kys rs2) ∧ Lvl adj one rs2 ∧ Frn adj one (n + 1) lt)
            ⟨rs, [], _, _, rfl, sm_upd sm nT, by rw [upd_ne nTA]; exact eA1, by rw [upd_ne nTW]; exact eW, upd_same, R, rfl, fun _ h => h, (fun t h => absurd h (by simp)), (fun t h1 _ h2 => hdone t h1 h2), LV, (fun t h => absurd h (by simp))⟩
            (fun i σ H' _ p => by obtain ⟨_, _, _, _, _, _, _, h, _⟩ := p; exact SqL.of h) ?_ ?_⟩
          · rintro i x σ H2 H3 hi ⟨rs2, lt, y5, y6, rfl, s2, a2, w2, t2, R2, len2, k2, lk2, dn2, LV2, FR2⟩ ⟨rfl, hx⟩
            rw [List.getElem?_map, List.getElem?_map] at hx
            obtain ⟨z, hz, rfl⟩ := Option.map_eq_some_iff.mp hx
            obtain ⟨t, ht, rfl⟩ := Option.map_eq_some_iff.mp hz
            have htk : t ∈ kys rs2 := k2 t (hwv t (List.mem_of_getElem? ht))
            have htL : t ∈ L := R2.sub t htk
            have S2 : SR8 H3 L d ad adj := S8.same s2
            have wk3 := walk_list (K := K) (a := ad t) (xs := ((adj t).map sg).map V.str)
            rw [List.length_map, List.length_map] at wk3
            refine ⟨_, rfl, _, rfl, d, _, rfl, S2.get htL, ad t, rfl, ⟨_, SqL.of (S2.at_ t htL)⟩, for_it wk3 (fun j σ H' => ∃ (rs3 : List (Nat × Option Nat)) (lt3 : List Nat) (y6 : Option V), σ = [some (.ref d), some (.str (sg one)), some (.ref A0), some (.ref Wd), some (.ref T), some (.str (sg t)), y6] ∧ Same H H' ∧
              H' A0 = some (.dK (ahK rs3)) ∧ H' Wd = some (.lst ((wv.map sg).map V.str)) ∧ H' T = some (.lst ((lt3.map sg).map V.str)) ∧ RsOk L adj one rs3 ∧ rs3.length = rs.length + lt3.length ∧ (∀ u ∈ kys rs2, u ∈ kys rs3) ∧ (∀ u ∈ lt3, u ∈ kys rs3) ∧
              (∀ u ∈ kys rs3, u ∉ lt3 → u ∉ wv.drop i → ∀ c ∈ adj u, c ∈ kys rs3) ∧ (∀ c ∈ (adj t).take j, c ∈ kys rs3) ∧ Lvl adj one rs3 ∧ Frn adj one (n + 1) lt3)
              ⟨rs2, lt, _, rfl, s2, a2, w2, t2, R2, len2, fun _ h => h, lk2, dn2, (fun _ h => by simp at h), LV2, FR2⟩
              (fun j σ H' _ p => by obtain ⟨_, _, _, _, s3, _⟩ := p; exact SqL.of ((S8.same s3).at_ t htL)) ?_ ?_⟩
            · rintro j x σ H4 H5 hj ⟨rs3, lt3, y6, rfl, s3, a3, w3, t3, R3, len3, k3, lk3, dn3, tk3, LV3, FR3⟩ ⟨rfl, hx⟩
              rw [List.getElem?_map, List.getElem?_map] at hx
              obtain ⟨z, hz, rfl⟩ := Option.map_eq_some_iff.mp hx
              obtain ⟨m, hm, rfl⟩ := Option.map_eq_some_iff.mp hz
              have hma : m ∈ adj t := List.mem_of_getElem? hm
              have hmL : m ∈ L := hadj t htL m hma
              have l3 := R3.len
              have tkS : (adj t).take (j + 1) = (adj t).take j ++ [m] := by rw [List.take_add_one, hm]; rfl
              refine ⟨_, rfl, _, rfl, A0, _, rfl, DGet.k (k := Sum.inr (sg m)) a3, _, rfl, ite2 (fun hn => ?_) (fun hn => ?_)⟩
              · have hmn : m ∉ kys rs3 := fun z => by
                  obtain ⟨_, p, _, e⟩ := ahK_some z
                  rw [e] at hn
                  exact absurd hn Bool.false_ne_true
                have R4 := R3.snoc (k3 t htk) hma hmL hmn
                have dT : Dst adj one n t := FR t (List.mem_of_getElem? ht)
                have dM : Dst adj one (n + 1) m := ⟨.step dT.1 hma, fun j hj w => hmn (k3 m (k2 m (FL j m (by omega) w)))⟩
                have l4 := R4.len
                rw [List.length_append] at l4
                have l4 : rs3.length + 1 ≤ L.length := l4
                have ek : kys (rs3 ++ [(m, some t)]) = kys rs3 ++ [m] := by simp [kys]
                refine ⟨_, rfl, _, rfl, _, rfl, A0, _, rfl, DPut.k (k := Sum.inr (sg m)) a3 (by unfold ahK; rw [List.length_map, sizeLine_eq]; omega), ?_⟩
                rw [ahK_snoc rs3 m t hmn]
                have eT : (upd H5 A0 (.dK (ahK (rs3 ++ [(m, some t)])))) T = some (.lst ((lt3.map sg).map V.str)) := by rw [upd_ne (Ne.symm nTA)]; exact t3
                refine ⟨_, rfl, .inl ⟨rfl, _, SqL.of eT⟩, _, rfl, T, _, _, rfl, rfl, eT, by rw [List.length_map, List.length_map, sizeLine_eq]; omega, ?_⟩
                refine ⟨rs3 ++ [(m, some t)], lt3 ++ [m], _, rfl, sm_over (sm_over s3 nA) nTH, ?_, ?_, ?_, R4, ?_, fun u hu => ?_, fun u hu => ?_, fun u h1 h2 h3 c hc => ?_, fun c hc => ?_, LV3.snoc dT dM, FR3.snoc dM⟩
                · rw [upd_ne nTA, upd_same]
                · rw [upd_ne nTW, upd_ne (ne_of w3 a3 fun z => by cases z)]
                  exact w3
                · rw [upd_same, List.map_append, List.map_append]
                  rfl
                · rw [List.length_append, List.length_append, len3]
                  rfl
                · rw [ek]; exact List.mem_append_left _ (k3 u hu)
                · rw [ek]
                  rcases List.mem_append.mp hu with z | z
                  · exact List.mem_append_left _ (lk3 u z)
                  · exact List.mem_append_right _ z
                · rw [ek] at h1 ⊢
                  have h4 : u ∉ lt3 := fun z => h2 (List.mem_append_left _ z)
                  have h5 : u ∈ kys rs3 := by
                    rcases List.mem_append.mp h1 with z | z
                    · exact z
                    · exact absurd (List.mem_append_right _ z) h2
                  exact List.mem_append_left _ (dn3 u h5 h4 h3 c hc)
                · rw [ek]
                  rw [tkS] at hc
                  rcases List.mem_append.mp hc with z | z
                  · exact List.mem_append_left _ (tk3 c z)
                  · exact List.mem_append_right _ z
              · have hmi : m ∈ kys rs3 := by
                  refine Classical.byContradiction fun z => hn ?_
                  rw [ahK_no z]
                  rfl
                refine ⟨rs3, lt3, _, rfl, s3, a3, w3, t3, R3, len3, k3, lk3, dn3, fun c hc => ?_, LV3, FR3⟩
                rw [tkS] at hc
                rcases List.mem_append.mp hc with z | z
                · exact tk3 c z
                · rw [List.mem_singleton.mp z]; exact hmi
            · rintro σ H4 ⟨rs3, lt3, y6, rfl, s3, a3, w3, t3, R3, len3, k3, lk3, dn3, tk3, LV3, FR3⟩
              rw [List.take_of_length_le (Nat.le_refl _)] at tk3
              refine ⟨rs3, lt3, _, _, rfl, s3, a3, w3, t3, R3, len3, fun u hu => k3 u (k2 u hu), lk3, fun u h1 h2 h3 c hc => ?_, LV3, FR3⟩
              by_cases e : u = t
              · rw [e] at hc
                exact tk3 c hc
              · refine dn3 u h1 h2 (fun z => h3 ?_) c hc
                rw [List.drop_eq_getElem_cons hi] at z
                rcases List.mem_cons.mp z with z | z
                · have e2 : wv[i] = t := by
                    rw [List.getElem?_eq_getElem hi] at ht
                    exact Option.some.inj ht
                  exact absurd (z.trans e2) e
                · exact z
          · rintro σ H4 ⟨rs2, lt, y5, y6, rfl, s2, a2, w2, t2, R2, len2, k2, lk2, dn2, LV2, FR2⟩
            have l2 := R2.len
            exact ⟨_, rfl, rs2, lt, T, _, _, _, rfl, s2, nTH, a2, t2, R2, lk2, by omega, fun u h1 h2 => dn2 u h1 h2 (by simp), ⟨n + 1, LV2, FL.next k2 FR2 (fun u h1 h2 => dn2 u h1 h2 (by simp)), FR2⟩, len2⟩
      · have e : wv = [] := by
          cases wv with
          | nil => rfl
          | cons x r => exact absurd rfl he
        exact ⟨_, rfl, q H1 A0 rs sm nA R (fun t ht => hdone t ht (by rw [e]; simp)) LV eA1⟩
end
end NC
namespace NC
open PySem PySem.Spec PyProof.Rows L2
abbrev sAllF : Stmt := topS 24
theorem scAllF : FnScope ["walls", "bars", "straight", "side"] ["walls", "bars"] (defScope sAllF) := ⟨rfl, rfl, rfl, by decide +kernel, rfl, by decide +kernel, by decide +kernel⟩
def foK (L : List Nat) (fo : Nat → List Nat) : List (Key × V) := L.map fun s => (Sum.inr (sg s), V.str (tx (fo s)))
theorem foK_val {L : List Nat} {fo : Nat → List Nat} {s : Nat} (h : s ∈ L) : valV (foK L fo) (Sum.inr (sg s)) = some (.str (tx (fo s))) := by
  induction L with
  | nil => cases h
  | cons t r ih =>
    by_cases e : t = s
    · subst e
      exact valV_pos (p := (Sum.inr (sg t), V.str (tx (fo t)))) rfl
    · have h2 : s ∈ r := by
        rcases List.mem_cons.mp h with z | z
        · exact absurd z.symm e
        · exact z
      exact (valV_neg (p := (Sum.inr (sg t), V.str (tx (fo t)))) (fun z => e (sg_inj (Sum.inr.inj z)))).trans (ih h2)
theorem foK_no {L : List Nat} {fo : Nat → List Nat} {s : Nat} (h : s ∉ L) : valV (foK L fo) (Sum.inr (sg s)) = none := by
  induction L with
  | nil => rfl
  | cons t r ih =>
    have e : ¬ t = s := fun z => h (by rw [z]; exact List.mem_cons_self ..)
    exact (valV_neg (p := (Sum.inr (sg t), V.str (tx (fo t)))) (fun z => e (sg_inj (Sum.inr.inj z)))).trans (ih fun z => h (List.mem_cons_of_mem _ z))
/-- what a side forces, as all_forced tells it -/
def FoOk (l : List Nat) (adj : Nat → List Nat) (L : List Nat) (fo : Nat → List Nat) : Prop := ∀ s ∈ L, ∃ rs, RsOk (sds l) adj s rs ∧ (∀ t ∈ kys rs, ∀ c ∈ adj t, c ∈ kys rs) ∧ fo s = byW l (ahK rs)
theorem take_new {L : List Nat} (nd : L.Nodup) {i c : Nat} (hc : L[i]? = some c) : c ∉ L.take i := fun hm => by
  obtain ⟨j, hj⟩ := List.getElem?_of_mem hm
  have hji : j < i := by
    have := (List.getElem?_eq_some_iff.mp hj).1
    rw [List.length_take] at this
    omega
  rw [List.getElem?_take_of_lt hji] at hj
  exact absurd ((List.getElem?_inj (List.getElem?_eq_some_iff.mp hj).1 nd).mp (hj.trans hc.symm)) (Nat.ne_of_lt hji)
section
variable {P : Program} {w : World} {K : PySem.W.Frag} {mg : Str → Option Value} {base : Heap}
def spAllF (K : PySem.W.Frag) : Sp := fun vs H Q _ => ∃ l a bs, vs = [.str (tx l), .ref a] ∧ GoodW l ∧ (∀ b ∈ bs, isBar l b = true) ∧ bs.length ≤ 100 ∧ (SqL K H a ((bs.map tx).map V.str) ∨ SqT K H a ((bs.map tx).map V.str)) ∧
  ∀ H' D fo, Same H H' → H D = none → H' D = some (.dK (foK (sds l) fo)) → FoOk l (adjOf bs) (sds l) fo → Q (.ref D) H'
set_option maxHeartbeats 1000000 in
theorem ok_allF {f fT fR fB fS fO : Addr} {fd fdT fdR fdB fdS fdO : FuncData} {k : Nat} (B : BM mg) (F : Fun K "all_forced" "all_forced" sAllF f fd) (T : DF K mg "straight_from" sStraight ["walls", "bars"] fT fdT)
    (R : DF K mg "reached" sReached ["straight", "one"] fR fdR) (Y : DF K mg "by_walls" sByWalls ["walls", "sides"] fB fdB) (S : DF K mg "sides_of" sSides ["walls"] fS fdS) (O : DF K mg "other" sOther ["side"] fO fdO) :
    FnOk P w K mg base CX0 (k + 3) f fd ["walls", "bars"] (spAllF K) := by
  have GT : FnOk P w K mg base CX0 (k + 2) fT fdT ["walls", "bars"] (spStraight K) := ok_straight B T.F S O
  have GR : FnOk P w K mg base CX0 (k + 2) fR fdR ["straight", "one"] spReached := ok_reached R.F
  have GY : FnOk P w K mg base CX0 (k + 2) fB fdB ["walls", "sides"] spByWalls := ok_byWalls B Y.F O
  refine F.ok scAllF (fun vs H Q E h => ?_) (fun cdv A outer s H vs Q E hr h => ?_)
  · obtain ⟨l, a, bs, rfl, _⟩ := h
    rfl
  · obtain ⟨l, a, bs, rfl, g, hbar, hbl, hS, q⟩ := h
    refine ⟨_, pss_cons (ps_set (i := 2) scAllF.nd rfl (.inr rfl) (pe_call GT hr rfl T.g T.F.kp T.b .nil pass0 (pa_cons (pv 0) (pa_cons (pv 1) pa_nil))))
      (pss_one (ps_ret (pe_lock (pe_dc (own := [("side", 3)]) (g := gName 3) (tt := tYes) rfl scAllF.nd (pi_keys (pv 2)) (blkOk_by (N := ["walls", "bars", "straight", "side"]) (sc := defScope sAllF) (by decide +kernel))
        (fun _ _ _ _ _ => pg_name (i := 3) scAllF.nd rfl (Or.inl rfl)) (fun _ _ _ _ _ => pts_nil) (fun _ _ _ _ _ => pv 3)
        (fun _ _ _ _ _ => pe_call GY hr rfl Y.g Y.F.kp Y.b .nil pass0 (pa_cons (pv 0) (pa_cons (pe_call GR hr rfl R.g R.F.kp R.b .nil pass0 (pa_cons (pv 2) (pa_cons (pv 3) pa_nil))) pa_nil))))))), ?_⟩
    refine ⟨_, rfl, _, rfl, l, a, bs, rfl, g, hbar, hbl, hS, fun H1 d ad s1 nd1 S8 => ?_⟩
    refine ⟨d, _, S8.dk, trivial, fun od => ?_⟩
    refine ⟨_, rfl, d, od, rfl, .inl ⟨_, upd_same, fun D nD => ?_⟩⟩
    have ndD : D ≠ d := fun e => by
      rw [e, upd_same] at nD
      cases nD
    have SR : SR8 (upd H1 d (.frz od (.dK (stK (sds l) ad)))) (sds l) d ad (adjOf bs) := ⟨.inr ⟨od, upd_same⟩, fun s hs => by rw [upd_ne (S8.nd hs)]; exact S8.at_ s hs⟩
    have e0 : (upd H1 d (.frz od (.dK (stK (sds l) ad)))) d = some (.frz od (.dK (stK (sds l) ad))) := upd_same
    have s2 : Same H (upd H1 d (.frz od (.dK (stK (sds l) ad)))) := sm_over s1 nd1
    generalize (upd H1 d (.frz od (.dK (stK (sds l) ad)))) = H2 at nD SR e0 s2 ⊢
    have wk := walk_keys (d := d) (o := od) (kvs := stK (sds l) ad)
    have len : (stK (sds l) ad).length = (sds l).length := by unfold stK; rw [List.length_map]
    rw [len] at wk
    have hD0 : H D = none := L2.Same.free s2 nD
    refine dc_it wk (fun i H' => ∃ fo, Same H2 H' ∧ H' D = some (.dK (foK ((sds l).take i) fo)) ∧ FoOk l (adjOf bs) ((sds l).take i) fo)
      ⟨fun _ => [], same_upd nD, upd_same, fun s hs => by simp at hs⟩ (fun i H' _ h => by obtain ⟨_, sm, _⟩ := h; exact sm _ _ e0) ?_ ?_
    · rintro i x H3 H4 hi ⟨fo, sm, eD, ok⟩ ⟨rfl, kk, v, hk, rfl⟩
      unfold stK at hk
      rw [List.getElem?_map] at hk
      obtain ⟨c, hc, e⟩ := Option.map_eq_some_iff.mp hk
      obtain ⟨rfl, rfl⟩ := Prod.mk.inj e
      have hcL : c ∈ sds l := List.mem_of_getElem? hc
      have hnc := take_new (sds_nd g) hc
      have tk : (sds l).take (i + 1) = (sds l).take i ++ [c] := by rw [List.take_add_one, hc]; rfl
      refine ⟨rfl, yes_i ⟨_, rfl, _, rfl, _, rfl, _, rfl, sds l, d, ad, adjOf bs, c, rfl, SR.same sm, hcL, fun s hs c hc => adj_mem g hbar hc, sds_len g, fun H5 r rs s5 nr R5 cl _ er => ?_⟩⟩
      refine ⟨l, r, _, rfl, g, er, fun H6 s6 => ?_⟩
      have e1 : ∀ t ∈ (sds l).take i, (if t = c then byW l (ahK rs) else fo t) = fo t := fun t ht => if_neg fun e => hnc (by rw [← e]; exact ht)
      have eD6 : H6 D = some (.dK (foK ((sds l).take i) fo)) := s6 _ _ (s5 _ _ eD)
      refine ⟨foK ((sds l).take i) fo, Sum.inr (sg c), rfl, eD6, ?_, fun t => if t = c then byW l (ahK rs) else fo t, ?_, ?_, ?_⟩
      · unfold foK
        rw [List.length_map, List.length_take, sizeLine_eq]
        have := sds_len g
        omega
      · exact sm_over (sm_trans (sm_trans sm s5) s6) nD
      · rw [upd_same, putK_new _ (foK_no hnc), tk]
        unfold foK
        rw [List.map_append]
        rw [List.map_congr_left (g := fun s => (Sum.inr (sg s), V.str (tx (if s = c then byW l (ahK rs) else fo s)))) fun t ht => by rw [e1 t ht]]
        simp
      · intro t ht
        rw [tk] at ht
        rcases List.mem_append.mp ht with h | h
        · obtain ⟨rs', a1, a2, a3⟩ := ok t h
          exact ⟨rs', a1, a2, (e1 t h).trans a3⟩
        · obtain rfl := List.mem_singleton.mp h
          exact ⟨rs, R5, cl, if_pos rfl⟩
    · rintro H3 ⟨fo, sm, eD, ok⟩
      rw [List.take_of_length_le (Nat.le_refl _)] at eD ok
      refine ⟨sm _ _ e0, q _ D fo (sm_over (sm_trans s2 sm) nd1) hD0 ?_ ok⟩
      rw [upd_ne ndD]
      exact eD
end
end NC
namespace NC
open PySem PySem.Spec PyProof.Rows L2
def isLt (c : Nat) : Prop := (97 ≤ c ∧ c ≤ 122) ∨ (65 ≤ c ∧ c ≤ 90)
theorem sds_lt {l : List Nat} (g : GoodW l) {s : Nat} (h : s ∈ sds l) : isLt s := (sds_shape g h).imp (fun z => ⟨z.1, z.2.1⟩) (fun z => ⟨z.1, z.2.1⟩)
theorem swp_small {c : Nat} (h : 97 ≤ c ∧ c ≤ 122) : swp c = c - 32 := by unfold swp; rw [if_pos h]
theorem swp_great {c : Nat} (h : 65 ≤ c ∧ c ≤ 90) : swp c = c + 32 := by unfold swp; rw [if_neg (by omega), if_pos h]
theorem swp_swp {c : Nat} (h : isLt c) : swp (swp c) = c := by
  rcases h with h | h
  · rw [swp_small h, swp_great (by omega)]
    omega
  · rw [swp_great h, swp_small (by omega)]
    omega
theorem isLt.asc {c : Nat} (h : isLt c) : c < 128 := by rcases h with h | h <;> omega
/-- a side forces another -/
def Frc (adj : Nat → List Nat) (s t : Nat) : Prop := ∃ n, Wk adj s n t
theorem Frc.refl {adj : Nat → List Nat} {s : Nat} : Frc adj s s := ⟨0, .zero⟩
theorem Frc.step {adj : Nat → List Nat} {s t u : Nat} (h : Frc adj s t) (k : u ∈ adj t) : Frc adj s u := let ⟨n, w⟩ := h; ⟨n + 1, .step w k⟩
theorem Frc.ind {adj : Nat → List Nat} {s t : Nat} (h : Frc adj s t) {p : Nat → Prop} (h0 : p s) (hs : ∀ a b, p a → b ∈ adj a → p b) : p t := by
  obtain ⟨n, w⟩ := h
  induction w with
  | zero => exact h0
  | step _ k ih => exact hs _ _ ih k
theorem Frc.trans {adj : Nat → List Nat} {s t u : Nat} (a : Frc adj s t) (b : Frc adj t u) : Frc adj s u := b.ind (p := fun x => Frc adj s x) a fun _ _ h k => h.step k
theorem adj_iff {l : List Nat} (g : GoodW l) {bs : List (List Nat)} (hb : ∀ b ∈ bs, isBar l b = true) {a b : Nat} (h : isLt b) : b ∈ adjOf bs a ↔ [a, swp b] ∈ bs ∨ [swp b, a] ∈ bs := by
  constructor
  · intro z
    obtain ⟨c, hc, z⟩ := List.mem_flatMap.mp z
    obtain ⟨x, y, rfl, hx, hy, _⟩ := bar_two (hb c hc)
    have z : b ∈ (if x = a then [swp y] else []) ++ (if y = a then [swp x] else []) := z
    rcases List.mem_append.mp z with z | z
    · split at z
      · rename_i e
        rw [List.mem_singleton.mp z, swp_swp (sds_lt g hy), ← e]
        exact .inl hc
      · cases z
    · split at z
      · rename_i e
        rw [List.mem_singleton.mp z, swp_swp (sds_lt g hx), ← e]
        exact .inr hc
      · cases z
  · rintro (z | z)
    · refine List.mem_flatMap.mpr ⟨_, z, ?_⟩
      show b ∈ (if a = a then [swp (swp b)] else []) ++ _
      rw [if_pos rfl, swp_swp h]
      exact List.mem_append_left _ (List.mem_singleton.mpr rfl)
    · refine List.mem_flatMap.mpr ⟨_, z, ?_⟩
      show b ∈ _ ++ (if a = a then [swp (swp b)] else [])
      rw [if_pos rfl, swp_swp h]
      exact List.mem_append_right _ (List.mem_singleton.mpr rfl)
theorem adj_back {l : List Nat} (g : GoodW l) {bs : List (List Nat)} (hb : ∀ b ∈ bs, isBar l b = true) {a b : Nat} (ha : a ∈ sds l) (h : b ∈ adjOf bs a) : swp a ∈ adjOf bs (swp b) := by
  have hbL := adj_mem g hb h
  refine (adj_iff g hb (sds_lt g (sds_swp g ha))).mpr ?_
  rw [swp_swp (sds_lt g ha)]
  exact ((adj_iff g hb (sds_lt g hbL)).mp h).symm
section
variable {l : List Nat} (g : GoodW l) {bs : List (List Nat)} (hb : ∀ b ∈ bs, isBar l b = true)
include g hb
theorem Frc.mem {s t : Nat} (hs : s ∈ sds l) (h : Frc (adjOf bs) s t) : t ∈ sds l := h.ind (p := fun x => x ∈ sds l) hs fun _ _ _ k => adj_mem g hb k
theorem Frc.back {s t : Nat} (hs : s ∈ sds l) (h : Frc (adjOf bs) s t) : Frc (adjOf bs) (swp t) (swp s) := by
  have q := h.ind (p := fun x => x ∈ sds l ∧ Frc (adjOf bs) (swp x) (swp s)) ⟨hs, .refl⟩ fun a b hab k => ⟨adj_mem g hb k, (Frc.refl.step (adj_back g hb hab.1 k)).trans hab.2⟩
  exact q.2
/-- both sides of one wall: then the other side of what forces them -/
theorem Frc.torn {s t : Nat} (hs : s ∈ sds l) (a : Frc (adjOf bs) s t) (b : Frc (adjOf bs) s (swp t)) : Frc (adjOf bs) s (swp s) := by
  have q := Frc.back g hb hs b
  rw [swp_swp (sds_lt g (Frc.mem g hb hs a))] at q
  exact a.trans q
end
/-- where one stands who stands on the small sides of p: whether on a side -/
def val (p : Nat → Bool) (s : Nat) : Bool := if s ≤ 90 then !p (s + 32) else p s
theorem val_swp {p : Nat → Bool} {s : Nat} (h : isLt s) : val p (swp s) = !val p s := by
  rcases h with h | h
  · rw [swp_small h]
    unfold val
    rw [if_pos (by omega), if_neg (by omega), show s - 32 + 32 = s by omega]
  · rw [swp_great h]
    unfold val
    rw [if_neg (by omega), if_pos (by omega), Bool.not_not]
def Sat (bs : List (List Nat)) (p : Nat → Bool) : Prop := ∀ x y, [x, y] ∈ bs → ¬ (val p x = true ∧ val p y = true)
section
variable {l : List Nat} (g : GoodW l) {bs : List (List Nat)} (hb : ∀ b ∈ bs, isBar l b = true)
include g hb
theorem Sat.adj {p : Nat → Bool} (h : Sat bs p) {a b : Nat} (ha : val p a = true) (k : b ∈ adjOf bs a) : val p b = true := by
  have hl := sds_lt g (adj_mem g hb k)
  have e : val p (swp b) = false := by
    rcases (adj_iff g hb hl).mp k with z | z
    · have := h _ _ z
      simpa [ha] using this
    · have := h _ _ z
      simpa [ha] using this
  rw [val_swp hl] at e
  simpa using e
theorem Sat.frc {p : Nat → Bool} (h : Sat bs p) {s t : Nat} (ha : val p s = true) (k : Frc (adjOf bs) s t) : val p t = true := k.ind (p := fun x => val p x = true) ha fun _ _ q z => h.adj g hb q z
/-- what s forces, written over a room -/
theorem Sat.over {p : Nat → Bool} (h : Sat bs p) {s : Nat} (hs : s ∈ sds l) (nf : ¬ Frc (adjOf bs) s (swp s)) : ∃ p', Sat bs p' ∧ (∀ t ∈ sds l, Frc (adjOf bs) s t → val p' t = true) ∧ ∀ t ∈ sds l, ¬ Frc (adjOf bs) s (swp t) → val p t = true → val p' t = true := by
  classical
  let p' : Nat → Bool := fun c => if Frc (adjOf bs) s c then true else if Frc (adjOf bs) s (c - 32) then false else p c
  have cons : ∀ t, Frc (adjOf bs) s t → ¬ Frc (adjOf bs) s (swp t) := fun t a b => nf (Frc.torn g hb hs a b)
  have ev : ∀ t ∈ sds l, val p' t = if Frc (adjOf bs) s t then true else if Frc (adjOf bs) s (swp t) then false else val p t := fun t ht => by
    rcases sds_lt g ht with z | z
    · have e1 : val p' t = p' t := by unfold val; rw [if_neg (by omega)]
      have e2 : val p t = p t := by unfold val; rw [if_neg (by omega)]
      rw [e1, e2, swp_small z]
    · have e1 : val p' t = !p' (t + 32) := by unfold val; rw [if_pos (by omega)]
      have e2 : val p t = !p (t + 32) := by unfold val; rw [if_pos (by omega)]
      rw [e1, e2]
      have hsw : swp t = t + 32 := swp_great z
      show (!(if Frc (adjOf bs) s (t + 32) then true else if Frc (adjOf bs) s (t + 32 - 32) then false else p (t + 32))) = _
      rw [show t + 32 - 32 = t by omega, ← hsw]
      by_cases a : Frc (adjOf bs) s t
      · rw [if_neg (cons t a), if_pos a, if_pos a]
        rfl
      · rw [if_neg a, if_neg a]
        by_cases b : Frc (adjOf bs) s (swp t)
        · rw [if_pos b, if_pos b]
          rfl
        · rw [if_neg b, if_neg b]
  refine ⟨p', fun x y hxy => ?_, fun t ht a => by rw [ev t ht, if_pos a], fun t ht a b => ?_⟩
  · rintro ⟨vx, vy⟩
    obtain ⟨x', y', e, hx, hy, _⟩ := bar_two (hb _ hxy)
    obtain ⟨rfl, rfl⟩ : x = x' ∧ y = y' := by simpa using e
    have kx : swp y ∈ adjOf bs x := (adj_iff g hb (sds_lt g (sds_swp g hy))).mpr (by rw [swp_swp (sds_lt g hy)]; exact .inl hxy)
    have ky : swp x ∈ adjOf bs y := (adj_iff g hb (sds_lt g (sds_swp g hx))).mpr (by rw [swp_swp (sds_lt g hx)]; exact .inr hxy)
    rw [ev x hx] at vx
    rw [ev y hy] at vy
    by_cases a : Frc (adjOf bs) s x
    · have q := a.step kx
      by_cases b : Frc (adjOf bs) s y
      · exact cons y b q
      · rw [if_neg b, if_pos q] at vy
        cases vy
    · rw [if_neg a] at vx
      by_cases a2 : Frc (adjOf bs) s (swp x)
      · rw [if_pos a2] at vx
        cases vx
      · rw [if_neg a2] at vx
        by_cases b : Frc (adjOf bs) s y
        · exact a2 (b.step ky)
        · rw [if_neg b] at vy
          by_cases b2 : Frc (adjOf bs) s (swp y)
          · rw [if_pos b2] at vy
            cases vy
          · rw [if_neg b2] at vy
            exact h x y hxy ⟨vx, vy⟩
  · rw [ev t ht]
    by_cases c : Frc (adjOf bs) s t
    · rw [if_pos c]
    · rw [if_neg c, if_neg a]
      exact b
/-- a hall of which no side forces its other one has a room -/
theorem sat_of (nf : ∀ s ∈ sds l, ¬ Frc (adjOf bs) s (swp s)) : ∃ p, Sat bs p := by
  classical
  have go : ∀ w : List Nat, (∀ c ∈ w, c ∈ l) → ∃ A : Nat → Prop, (∀ x, A x → x ∈ sds l) ∧ (∀ x y, A x → y ∈ adjOf bs x → A y) ∧ (∀ x, A x → ¬ A (swp x)) ∧ ∀ c ∈ w, A c ∨ A (swp c) := by
    intro w
    induction w with
    | nil => exact fun _ => ⟨fun _ => False, fun _ h => h.elim, fun _ _ h => h.elim, fun _ h => h.elim, fun _ h => absurd h (by simp)⟩
    | cons c r ih =>
      intro hw
      obtain ⟨A, a1, a2, a3, a4⟩ := ih fun d hd => hw d (List.mem_cons_of_mem _ hd)
      have hc : c ∈ sds l := sds_of_small (hw c (List.mem_cons_self ..))
      by_cases hd : A c ∨ A (swp c)
      · refine ⟨A, a1, a2, a3, fun d hd2 => ?_⟩
        rcases List.mem_cons.mp hd2 with e | e
        · rw [e]; exact hd
        · exact a4 d e
      · have a2' : ∀ x y, A x → Frc (adjOf bs) x y → A y := fun x y hx k => k.ind (p := A) hx fun _ _ q z => a2 _ _ q z
        refine ⟨fun x => A x ∨ Frc (adjOf bs) c x, fun x h => h.elim (a1 x) fun k => Frc.mem g hb hc k, fun x y h k => h.imp (fun h => a2 x y h k) fun h => h.step k, fun x h h2 => ?_, fun d hd2 => ?_⟩
        · rcases h with h | h
          · rcases h2 with h2 | h2
            · exact a3 x h h2
            · have q := Frc.back g hb hc h2
              rw [swp_swp (sds_lt g (a1 x h))] at q
              exact hd (.inr (a2' x _ h q))
          · rcases h2 with h2 | h2
            · have q := Frc.back g hb hc h
              exact hd (.inr (a2' _ _ h2 q))
            · exact nf c hc (Frc.torn g hb hc h h2)
        · rcases List.mem_cons.mp hd2 with e | e
          · rw [e]; exact .inl (.inr .refl)
          · exact (a4 d e).imp .inl .inl
  obtain ⟨A, a1, a2, a3, a4⟩ := go l fun _ h => h
  have ev : ∀ s ∈ sds l, val (fun c => decide (A c)) s = true → A s := fun s hs v => by
    rcases sds_shape g hs with z | z
    · unfold val at v
      rw [if_neg (by omega)] at v
      exact of_decide_eq_true v
    · unfold val at v
      rw [if_pos (by omega)] at v
      have n : ¬ A (s + 32) := by simpa using v
      rcases a4 _ z.2.2 with q | q
      · exact absurd q n
      · rw [swp_small (by omega), show s + 32 - 32 = s by omega] at q
        exact q
  refine ⟨fun c => decide (A c), fun x y hxy => ?_⟩
  rintro ⟨vx, vy⟩
  obtain ⟨x', y', e, hx, hy, _⟩ := bar_two (hb _ hxy)
  obtain ⟨rfl, rfl⟩ : x = x' ∧ y = y' := by simpa using e
  have kx : swp y ∈ adjOf bs x := (adj_iff g hb (sds_lt g (sds_swp g hy))).mpr (by rw [swp_swp (sds_lt g hy)]; exact .inl hxy)
  exact a3 y (ev y hy vy) (a2 x _ (ev x hx vx) kx)
/-- a side is in some room just where it doesn't force its other one, if there is a room -/
theorem fix_iff {p0 : Nat → Bool} (h0 : Sat bs p0) {s : Nat} (hs : s ∈ sds l) : Frc (adjOf bs) s (swp s) ↔ ∀ p, Sat bs p → val p s = false := by
  constructor
  · intro k p hp
    cases hv : val p s with
    | false => rfl
    | true =>
      have q := hp.frc g hb hv k
      rw [val_swp (sds_lt g hs), hv] at q
      cases q
  · intro h
    refine Classical.byContradiction fun nf => ?_
    obtain ⟨p', hp, k, _⟩ := h0.over g hb hs nf
    have q := h p' hp
    rw [k s hs .refl] at q
    cases q
/-- two sides go together in all rooms just where they force one another, if no side forces its other one -/
theorem alike_iff (nf : ∀ s ∈ sds l, ¬ Frc (adjOf bs) s (swp s)) {s t : Nat} (hs : s ∈ sds l) (ht : t ∈ sds l) : (Frc (adjOf bs) s t ∧ Frc (adjOf bs) t s) ↔ ∀ p, Sat bs p → val p s = val p t := by
  have one : ∀ {a b : Nat}, a ∈ sds l → b ∈ sds l → (∀ p, Sat bs p → val p a = true → val p b = true) → Frc (adjOf bs) a b := fun {a b} ha hb2 h => by
    refine Classical.byContradiction fun n => ?_
    obtain ⟨p0, h0⟩ := sat_of g hb nf
    obtain ⟨p1, h1, k1, _⟩ := h0.over g hb ha (nf a ha)
    have hbs := sds_swp g hb2
    obtain ⟨p2, h2, k2, k3⟩ := h1.over g hb hbs (nf _ hbs)
    have va : val p2 a = true := k3 a ha (fun z => n (by
      have q := Frc.back g hb hbs z
      rw [swp_swp (sds_lt g ha), swp_swp (sds_lt g hb2)] at q
      exact q)) (k1 a ha .refl)
    have vb := h p2 h2 va
    have vb2 := k2 _ hbs .refl
    rw [val_swp (sds_lt g hb2), vb] at vb2
    cases vb2
  constructor
  · rintro ⟨a, b⟩ p hp
    cases hv : val p s with
    | true => exact (hp.frc g hb hv a).symm
    | false =>
      cases hw : val p t with
      | false => rfl
      | true =>
        have := hp.frc g hb hw b
        rw [hv] at this
        cases this
  · exact fun h => ⟨one hs ht fun p hp v => (h p hp).symm.trans v, one ht hs fun p hp v => (h p hp).trans v⟩
end
end NC
namespace NC
open PySem PySem.Spec PyProof.Rows L2
def rmOf (l : List Nat) (p : Nat → Bool) : List Nat := l.map fun c => if p c then c else upc c
def allT (l : List Nat) : Nat → List (List Nat)
  | 0 => [[]]
  | k + 1 => (allT l k).flatMap fun r => [r ++ [upc (l.getD k 0)], r ++ [l.getD k 0]]
def inR (b r : List Nat) : Bool := b.all fun s => decide (s ∈ r)
def rms (l : List Nat) (bs : List (List Nat)) : List (List Nat) := (allT l l.length).filter fun r => !bs.any fun b => inR b r
theorem allT_len (l : List Nat) : ∀ k, (allT l k).length = 2 ^ k
  | 0 => rfl
  | k + 1 => by
    have h : ∀ xs : List (List Nat), (xs.flatMap fun r => [r ++ [upc (l.getD k 0)], r ++ [l.getD k 0]]).length = 2 * xs.length := fun xs => by
      induction xs with
      | nil => rfl
      | cons x r ih =>
        have e : (x :: r).length = r.length + 1 := rfl
        rw [List.flatMap_cons, List.length_append, ih, e]
        show 2 + 2 * r.length = _
        omega
    show ((allT l k).flatMap _).length = _
    rw [h, allT_len l k, Nat.pow_succ, Nat.mul_comm]
theorem allT_mem {l : List Nat} (nd : l.Nodup) : ∀ {k : Nat}, k ≤ l.length → ∀ r, r ∈ allT l k ↔ ∃ p, r = rmOf (l.take k) p
  | 0, _, r => by
    show r ∈ [[]] ↔ _
    rw [List.mem_singleton]
    exact ⟨fun e => ⟨fun _ => true, by rw [e]; simp [rmOf]⟩, fun ⟨p, e⟩ => by rw [e]; simp [rmOf]⟩
  | k + 1, hk, r => by
    have hkl : k < l.length := hk
    have ec : l.getD k 0 = l[k] := by simp [List.getD, hkl]
    have et : l.take (k + 1) = l.take k ++ [l[k]] := by rw [List.take_add_one, List.getElem?_eq_getElem hkl]; rfl
    have hn : l[k] ∉ l.take k := take_new nd (List.getElem?_eq_getElem hkl)
    show r ∈ (allT l k).flatMap _ ↔ _
    rw [List.mem_flatMap, ec, et]
    constructor
    · rintro ⟨q, hq, hr⟩
      obtain ⟨p, rfl⟩ := (allT_mem nd (Nat.le_of_lt hkl) q).mp hq
      have same : ∀ b : Bool, rmOf (l.take k) (fun x => if x = l[k] then b else p x) = rmOf (l.take k) p := fun b => List.map_congr_left fun c hc => by
        have : c ≠ l[k] := fun e => hn (by rw [← e]; exact hc)
        show (if (if c = l[k] then b else p c) = true then c else upc c) = _
        rw [if_neg this]
      simp only [List.mem_cons, List.not_mem_nil, or_false] at hr
      rcases hr with rfl | rfl
      · refine ⟨fun x => if x = l[k] then false else p x, ?_⟩
        show _ = (l.take k ++ [l[k]]).map _
        rw [List.map_append]
        show _ = rmOf (l.take k) _ ++ _
        rw [same false]
        simp
      · refine ⟨fun x => if x = l[k] then true else p x, ?_⟩
        show _ = (l.take k ++ [l[k]]).map _
        rw [List.map_append]
        show _ = rmOf (l.take k) _ ++ _
        rw [same true]
        simp
    · rintro ⟨p, rfl⟩
      refine ⟨rmOf (l.take k) p, (allT_mem nd (Nat.le_of_lt hkl) _).mpr ⟨p, rfl⟩, ?_⟩
      have e : rmOf (l.take k ++ [l[k]]) p = rmOf (l.take k) p ++ [if p l[k] then l[k] else upc l[k]] := by
        unfold rmOf
        rw [List.map_append]
        rfl
      rw [e]
      by_cases h : p l[k] = true
      · rw [if_pos h]; simp
      · rw [if_neg h]; simp
theorem rm_mem {l : List Nat} (g : GoodW l) {p : Nat → Bool} {s : Nat} (hs : s ∈ sds l) : s ∈ rmOf l p ↔ val p s = true := by
  unfold rmOf
  rw [List.mem_map]
  rcases sds_shape g hs with z | z
  · have ev : val p s = p s := by unfold val; rw [if_neg (by omega)]
    rw [ev]
    constructor
    · rintro ⟨c, hc, e⟩
      have h1 := g.sm c hc
      by_cases h : p c = true
      · rw [if_pos h] at e
        rw [← e]; exact h
      · rw [if_neg h, upc_small h1] at e
        omega
    · intro h
      exact ⟨s, z.2.2, by rw [if_pos h]⟩
  · have ev : val p s = !p (s + 32) := by unfold val; rw [if_pos (by omega)]
    rw [ev]
    constructor
    · rintro ⟨c, hc, e⟩
      have h1 := g.sm c hc
      by_cases h : p c = true
      · rw [if_pos h] at e
        omega
      · rw [if_neg h, upc_small h1] at e
        rw [show s + 32 = c by omega]
        simpa using h
    · intro h
      refine ⟨s + 32, z.2.2, ?_⟩
      rw [if_neg (by simpa using h), upc_small (by omega)]
      omega
theorem rm_asc {l : List Nat} (g : GoodW l) {p : Nat → Bool} {s : Nat} (hs : s ∈ rmOf l p) : s ∈ sds l := by
  obtain ⟨c, hc, e⟩ := List.mem_map.mp hs
  by_cases h : p c = true
  · rw [if_pos h] at e
    rw [← e]; exact sds_of_small hc
  · rw [if_neg h, upc_small (g.sm c hc)] at e
    rw [← e]; exact sds_of_great g hc
theorem rms_mem {l : List Nat} (g : GoodW l) {bs : List (List Nat)} (hb : ∀ b ∈ bs, isBar l b = true) (r : List Nat) : r ∈ rms l bs ↔ ∃ p, r = rmOf l p ∧ Sat bs p := by
  have key : ∀ p, (!bs.any fun b => inR b (rmOf l p)) = true ↔ Sat bs p := fun p => by
    rw [Bool.not_eq_true', List.any_eq_false]
    constructor
    · intro h x y hxy
      rintro ⟨vx, vy⟩
      obtain ⟨x', y', e, hx, hy, _⟩ := bar_two (hb _ hxy)
      obtain ⟨rfl, rfl⟩ : x = x' ∧ y = y' := by simpa using e
      refine h _ hxy ?_
      simp [inR, (rm_mem g hx).mpr vx, (rm_mem g hy).mpr vy]
    · intro h b hbb hr
      obtain ⟨x, y, rfl, hx, hy, _⟩ := bar_two (hb _ hbb)
      simp [inR] at hr
      exact h x y hbb ⟨(rm_mem g hx).mp hr.1, (rm_mem g hy).mp hr.2⟩
  unfold rms
  rw [List.mem_filter, allT_mem g.nd (Nat.le_refl _), List.take_length]
  constructor
  · rintro ⟨⟨p, rfl⟩, h⟩
    exact ⟨p, rfl, (key p).mp h⟩
  · rintro ⟨p, rfl, h⟩
    exact ⟨⟨p, rfl⟩, (key p).mpr h⟩
inductive Vd
  | ok
  | fixed (s : Nat)
  | alike (s t : Nat)
def vdOf (L : List Nat) (fx : Nat → Bool) (al : Nat → Nat → Bool) : Vd := match L.find? fx with
  | some s => .fixed s
  | none => match L.findSome? fun s => (L.find? (al s)).map fun t => (s, t) with
    | some p => .alike p.1 p.2
    | none => .ok
theorem find_congr {α : Type} {L : List α} {p q : α → Bool} (h : ∀ x ∈ L, p x = q x) : L.find? p = L.find? q := by
  induction L with
  | nil => rfl
  | cons x r ih =>
    rw [List.find?_cons, List.find?_cons, h x (List.mem_cons_self ..), ih fun y hy => h y (List.mem_cons_of_mem _ hy)]
theorem findS_congr {α β : Type} {L : List α} {p q : α → Option β} (h : ∀ x ∈ L, p x = q x) : L.findSome? p = L.findSome? q := by
  induction L with
  | nil => rfl
  | cons x r ih =>
    rw [List.findSome?_cons, List.findSome?_cons, h x (List.mem_cons_self ..), ih fun y hy => h y (List.mem_cons_of_mem _ hy)]
theorem find_at {α : Type} : ∀ {L : List α} {p : α → Bool} {i : Nat} {s : α}, L[i]? = some s → (∀ j t, j < i → L[j]? = some t → p t = false) → p s = true → L.find? p = some s
  | [], p, i, s, h, _, _ => by simp at h
  | x :: r, p, 0, s, h, _, hs => by
    cases h
    rw [List.find?_cons, hs]
  | x :: r, p, i + 1, s, h, hn, hs => by
    rw [List.find?_cons, hn 0 x (Nat.succ_pos _) rfl]
    exact find_at (L := r) (i := i) h (fun j t hj ht => hn (j + 1) t (by omega) ht) hs
theorem findS_at {α β : Type} : ∀ {L : List α} {p : α → Option β} {i : Nat} {s : α} {v : β}, L[i]? = some s → (∀ j t, j < i → L[j]? = some t → p t = none) → p s = some v → L.findSome? p = some v
  | [], p, i, s, v, h, _, _ => by simp at h
  | x :: r, p, 0, s, v, h, _, hs => by
    cases h
    rw [List.findSome?_cons, hs]
  | x :: r, p, i + 1, s, v, h, hn, hs => by
    rw [List.findSome?_cons, hn 0 x (Nat.succ_pos _) rfl]
    exact findS_at (L := r) (i := i) h (fun j t hj ht => hn (j + 1) t (by omega) ht) hs
theorem find_no {α : Type} {L : List α} {p : α → Bool} (h : ∀ j t, j < L.length → L[j]? = some t → p t = false) : L.find? p = none := List.find?_eq_none.mpr fun x hx => by
  obtain ⟨j, hj, e⟩ := List.getElem_of_mem hx
  rw [h j x hj (by rw [List.getElem?_eq_getElem hj, e])]
  decide
theorem findS_no {α β : Type} {L : List α} {p : α → Option β} (h : ∀ j t, j < L.length → L[j]? = some t → p t = none) : L.findSome? p = none := List.findSome?_eq_none_iff.mpr fun x hx => by
  obtain ⟨j, hj, e⟩ := List.getElem_of_mem hx
  exact h j x hj (by rw [List.getElem?_eq_getElem hj, e])
/-- by what forces what: fo s are the sides that s forces -/
def fxP (fo : Nat → List Nat) (s : Nat) : Bool := decide (swp s ∈ fo s)
def alP (fo : Nat → List Nat) (s m : Nat) : Bool := decide (m ∈ fo s) && (decide (m ≠ s) && decide (s ∈ fo m))
/-- by the rooms; fo only where there is none -/
def fxL (l : List Nat) (bs : List (List Nat)) (fo : Nat → List Nat) (s : Nat) : Bool := if rms l bs = [] then decide (swp s ∈ fo s) else !(rms l bs).any fun r => decide (s ∈ r)
def alL (l : List Nat) (bs : List (List Nat)) (s t : Nat) : Bool := decide (lwc s ≠ lwc t) && (rms l bs).all fun r => decide (decide (s ∈ r) = decide (t ∈ r))
theorem same_wall {l : List Nat} (g : GoodW l) {s t : Nat} (hs : s ∈ sds l) (ht : t ∈ sds l) (e : lwc s = lwc t) : t = s ∨ t = swp s := by
  rcases sds_lt g hs with a | a <;> rcases sds_lt g ht with b | b <;> unfold lwc at e
  · rw [if_neg (by omega), if_neg (by omega)] at e
    exact .inl e.symm
  · rw [if_neg (by omega), if_pos b] at e
    rw [swp_small a]
    exact .inr (by omega)
  · rw [if_pos a, if_neg (by omega)] at e
    rw [swp_great a]
    exact .inr e.symm
  · rw [if_pos a, if_pos b] at e
    exact .inl (by omega)
theorem vd_same {l : List Nat} (g : GoodW l) {bs : List (List Nat)} (hb : ∀ b ∈ bs, isBar l b = true) {fo fo' : Nat → List Nat} (hf : ∀ s ∈ sds l, ∀ t, t ∈ fo s ↔ Frc (adjOf bs) s t) (hf' : ∀ s ∈ sds l, ∀ t, t ∈ fo' s ↔ Frc (adjOf bs) s t) :
    vdOf (sds l) (fxP fo) (alP fo) = vdOf (sds l) (fxL l bs fo') (alL l bs) := by
  have mr := rms_mem g hb
  have ne : ∀ {p0 : Nat → Bool}, Sat bs p0 → rms l bs ≠ [] := fun {p0} h0 z => by
    have := (mr _).mpr ⟨p0, rfl, h0⟩
    rw [z] at this
    cases this
  have fx : ∀ s ∈ sds l, fxP fo s = fxL l bs fo' s := fun s hs => by
    unfold fxP fxL
    rw [Bool.eq_iff_iff, decide_eq_true_eq, hf s hs]
    by_cases hr : rms l bs = []
    · rw [if_pos hr, decide_eq_true_eq, hf' s hs]
    · rw [if_neg hr, Bool.not_eq_true', List.any_eq_false]
      obtain ⟨r0, hr0⟩ := List.exists_mem_of_ne_nil _ hr
      obtain ⟨p0, _, h0⟩ := (mr r0).mp hr0
      rw [fix_iff g hb h0 hs]
      constructor
      · intro h r hrm hd
        obtain ⟨p, rfl, hp⟩ := (mr r).mp hrm
        have := (rm_mem g hs).mp (of_decide_eq_true hd)
        rw [h p hp] at this
        cases this
      · intro h p hp
        cases hv : val p s with
        | false => rfl
        | true => exact absurd (decide_eq_true ((rm_mem g hs).mpr hv)) (h _ ((mr _).mpr ⟨p, rfl, hp⟩))
  unfold vdOf
  rw [find_congr fx]
  cases h1 : (sds l).find? (fxL l bs fo') with
  | some s => rfl
  | none =>
    have nf : ∀ s ∈ sds l, ¬ Frc (adjOf bs) s (swp s) := fun s hs k => by
      have := List.find?_eq_none.mp h1 s hs
      rw [← fx s hs] at this
      exact this (decide_eq_true ((hf s hs _).mpr k))
    have al : ∀ s ∈ sds l, ∀ t ∈ sds l, alP fo s t = alL l bs s t := fun s hs t ht => by
      unfold alP alL
      rw [Bool.eq_iff_iff, Bool.and_eq_true, Bool.and_eq_true, Bool.and_eq_true, decide_eq_true_eq, decide_eq_true_eq, decide_eq_true_eq, decide_eq_true_eq, List.all_eq_true, hf s hs, hf t ht]
      constructor
      · rintro ⟨a, b, c⟩
        refine ⟨fun e => ?_, fun r hr => ?_⟩
        · rcases same_wall g hs ht e with z | z
          · exact b z
          · rw [z] at a
            exact nf s hs a
        · obtain ⟨p, rfl, hp⟩ := (mr r).mp hr
          have q := (alike_iff g hb nf hs ht).mp ⟨a, c⟩ p hp
          have e1 : decide (s ∈ rmOf l p) = val p s := by rw [Bool.eq_iff_iff, decide_eq_true_eq]; exact rm_mem g hs
          have e2 : decide (t ∈ rmOf l p) = val p t := by rw [Bool.eq_iff_iff, decide_eq_true_eq]; exact rm_mem g ht
          rw [e1, e2, q]
          simp
      · rintro ⟨a, b⟩
        have q := (alike_iff g hb nf hs ht).mpr fun p hp => by
          have z := of_decide_eq_true (b _ ((mr _).mpr ⟨p, rfl, hp⟩))
          have e1 : decide (s ∈ rmOf l p) = val p s := by rw [Bool.eq_iff_iff, decide_eq_true_eq]; exact rm_mem g hs
          have e2 : decide (t ∈ rmOf l p) = val p t := by rw [Bool.eq_iff_iff, decide_eq_true_eq]; exact rm_mem g ht
          rw [e1, e2] at z
          exact z
        exact ⟨q.1, fun e => a (by rw [e]), q.2⟩
    rw [findS_congr fun s hs => by rw [find_congr fun t ht => al s hs t ht]]
end NC
namespace NC
open PySem PySem.Spec PyProof.Rows L2
abbrev sChkFix : Stmt := topS 25
abbrev sChkAl : Stmt := topS 26
theorem scChkFix : FnScope ["forced_by", "side"] ["forced_by"] (defScope sChkFix) := ⟨rfl, rfl, rfl, by decide +kernel, rfl, by decide +kernel, by decide +kernel⟩
theorem scChkAl : FnScope ["forced_by", "side", "met"] ["forced_by"] (defScope sChkAl) := ⟨rfl, rfl, rfl, by decide +kernel, rfl, by decide +kernel, by decide +kernel⟩
structure XC2 (K : PySem.W.Frag) (mg : Str → Option Value) (C fI : Addr) (fd : FuncData) : Prop where
  gC : mg "Alike" = some (.ref C)
  O : OexC K C
  hw : PySem.W.findIn K (.ref C) "word" = some none
  h1 : PySem.W.findIn K (.ref C) "one" = some none
  h2 : PySem.W.findIn K (.ref C) "other" = some none
  iC : PySem.W.findIn K (.ref C) "__init__" = some (some (.ref fI))
  tI : PySem.W.typeIn K (.ref fI) = some (.type "function")
  F : Fun K "__init__" "Alike.__init__" sALinit fI fd
  b : Binds K fd ["self", "one", "other"] []
theorem mk2 {K : PySem.W.Frag} {C : Addr} (hO : OexC K C) (hw : PySem.W.findIn K (.ref C) "word" = some none) (h1 : PySem.W.findIn K (.ref C) "one" = some none) (h2 : PySem.W.findIn K (.ref C) "other" = some none) {H1 : Hp} {v u : V} {Q : XK}
    (q : ∀ d H', Same H1 H' → H1 d = none → H' d = some (.xd [("other", u), ("one", v), ("word", .str "alike")]) → Q (.ref C) (some d) H') :
    ∀ a, H1 a = none → sp2 K (.ref a :: ([v, u] ++ [])) (upd H1 a (exo a C none))
      (fun z H2 => z = .non ∧ ∃ (d : Addr) (fs : List (Str × V)), H2 a = some (exo a C (some d)) ∧ H2 d = some (exd d fs) ∧ H1 d = none ∧ Q (.ref C) (some d) (upd (del H2 a) d (.xd fs))) (fun _ _ _ => False) := by
  intro a na
  refine ⟨a, C, v, u, rfl, hO, hw, h1, h2, upd_same, fun dx H' n1 n2 k e1 e2 => ?_⟩
  have hd : H1 dx = none := by
    rw [upd_ne n2] at n1
    exact n1
  refine ⟨rfl, dx, _, e1, e2, hd, q dx _ (fun b o hb => ?_) hd upd_same⟩
  have b1 : b ≠ dx := ne_of_none hb hd
  have b2 : b ≠ a := ne_of_none hb na
  rw [upd_ne b1, del_ne b2, k b b1 b2, upd_ne b2]
  exact hb
theorem foK_keys (L : List Nat) (fo : Nat → List Nat) : (foK L fo).map (·.1) = (L.map sg).map Sum.inr := by
  unfold foK
  rw [List.map_map, List.map_map]
  rfl
theorem foK_get {H : Hp} {L : List Nat} {fo : Nat → List Nat} {d : Addr} {s : Nat} (e : H d = some (.dK (foK L fo))) (h : s ∈ L) : DGet H d (.str (sg s)) (some (.str (tx (fo s)))) := by
  rw [← foK_val (fo := fo) h]
  exact DGet.k (k := Sum.inr (sg s)) e
theorem FoOk.mem {l : List Nat} (g : GoodW l) {adj : Nat → List Nat} {L : List Nat} {fo : Nat → List Nat} (h : FoOk l adj L fo) {s c : Nat} (hs : s ∈ L) (hc : c ∈ fo s) : c ∈ sds l := by
  obtain ⟨rs, _, _, e⟩ := h s hs
  rw [e] at hc
  exact (byW_mem g hc).1
theorem FoOk.len {l : List Nat} (g : GoodW l) {adj : Nat → List Nat} {L : List Nat} {fo : Nat → List Nat} (h : FoOk l adj L fo) {s : Nat} (hs : s ∈ L) : (fo s).length ≤ 24 := by
  obtain ⟨rs, _, _, e⟩ := h s hs
  rw [e]
  have h1 := byW_len l (ahK rs)
  have h2 := g.hi
  omega
theorem kys_frc {L : List Nat} {adj : Nat → List Nat} {one : Nat} {rs : List (Nat × Option Nat)} (R : RsOk L adj one rs) : ∀ (i s : Nat) (p : Option Nat), rs[i]? = some (s, p) → Frc adj one s := fun i => by
  induction i using Nat.strongRecOn with
  | ind i ih =>
    intro s p hi
    rcases R.par i s p hi with ⟨rfl, rfl⟩ | ⟨c, j, q, rfl, hj, hrj, hadj⟩
    · obtain ⟨r, e⟩ := R.hd
      rw [e] at hi
      cases hi
      exact .refl
    · exact (ih j hj c q hrj).step hadj
theorem byW_of {l : List Nat} (g : GoodW l) {kvs : List (Key × V)} {t : Nat} (h : t ∈ sds l) (k : inK kvs t = true) : t ∈ byW l kvs := by
  rcases sds_shape g h with z | z
  · exact List.mem_flatMap.mpr ⟨t, z.2.2, List.mem_filter.mpr ⟨by simp, k⟩⟩
  · refine List.mem_flatMap.mpr ⟨t + 32, z.2.2, List.mem_filter.mpr ⟨?_, k⟩⟩
    rw [swp_small (by omega), show t + 32 - 32 = t by omega]
    simp
theorem FoOk.iff {l : List Nat} (g : GoodW l) {bs : List (List Nat)} (hb : ∀ b ∈ bs, isBar l b = true) {fo : Nat → List Nat} (h : FoOk l (adjOf bs) (sds l) fo) : ∀ s ∈ sds l, ∀ t, t ∈ fo s ↔ Frc (adjOf bs) s t := fun s hs t => by
  obtain ⟨rs, R, cl, e⟩ := h s hs
  rw [e]
  constructor
  · intro ht
    obtain ⟨_, hk⟩ := byW_mem g ht
    have hm : t ∈ kys rs := by
      refine Classical.byContradiction fun z => ?_
      unfold inK at hk
      rw [ahK_no z] at hk
      cases hk
    obtain ⟨i, p, hi, _⟩ := ahK_some hm
    exact kys_frc R i t p hi
  · rintro ⟨n, w⟩
    have h0 : s ∈ kys rs := by
      obtain ⟨r, e⟩ := R.hd
      rw [e]
      exact List.mem_cons_self ..
    have hm := reach_in h0 cl w
    obtain ⟨i, p, _, ev⟩ := ahK_some hm
    exact byW_of g (R.sub t hm) (by unfold inK; rw [ev]; rfl)
theorem two_nd : ∀ w : List Nat, (∀ c ∈ w, 97 ≤ c ∧ c ≤ 122) → w.Nodup → (w.flatMap fun c => [swp c, c]).Nodup
  | [], _, _ => by simp
  | c :: r, hs, hn => by
    obtain ⟨n1, n2⟩ := List.nodup_cons.mp hn
    have hc := hs c (List.mem_cons_self ..)
    have ih := two_nd r (fun d hd => hs d (List.mem_cons_of_mem _ hd)) n2
    rw [List.flatMap_cons]
    refine List.nodup_append.mpr ⟨?_, ih, fun a ha b hb e => ?_⟩
    · rw [swp_small hc]
      simp
      omega
    · obtain ⟨d, hd, hbd⟩ := List.mem_flatMap.mp hb
      have hd2 := hs d (List.mem_cons_of_mem _ hd)
      have ne : d ≠ c := fun z => n1 (by rw [← z]; exact hd)
      rw [swp_small hc] at ha
      rw [swp_small hd2] at hbd
      simp only [List.mem_cons, List.not_mem_nil, or_false] at ha hbd
      omega
theorem byW_nd {l : List Nat} (g : GoodW l) (kvs : List (Key × V)) : (byW l kvs).Nodup := by
  have e : byW l kvs = (l.flatMap fun c => [swp c, c]).filter (inK kvs) := by
    unfold byW
    rw [List.filter_flatMap]
  rw [e]
  exact (two_nd l g.sm g.nd).filter _
theorem sds_rise {l : List Nat} (g : GoodW l) : (sds l).Pairwise (· < ·) := by
  refine List.pairwise_append.mpr ⟨List.pairwise_map.mpr (g.rise.imp_of_mem fun {a b} ha hb h => ?_), g.rise, fun a ha b hb => ?_⟩
  · rw [upc_small (g.sm a ha), upc_small (g.sm b hb)]
    have := g.sm a ha
    omega
  · obtain ⟨c, hc, rfl⟩ := List.mem_map.mp ha
    have := g.sm c hc
    have := g.sm b hb
    rw [upc_small (by omega)]
    omega
theorem pw_sg {L : List Nat} (h : L.Pairwise (· < ·)) : (L.map sg).Pairwise leS := List.pairwise_map.mpr (h.imp fun h => leS_sg (Nat.le_of_lt h))
theorem sorted_sds {l : List Nat} (g : GoodW l) {ys : List Str} (hp : ys.Perm ((sds l).map sg)) (hs : sortedS ys = true) : ys = (sds l).map sg := sortedS_eq hs hp (pw_sg (sds_rise g))
theorem perm_nd : ∀ {a b : List Nat}, a.Nodup → b.Nodup → (∀ x, x ∈ a ↔ x ∈ b) → a.Perm b
  | [], b, _, _, h => by
    cases b with
    | nil => exact .nil
    | cons x r => exact absurd ((h x).mpr (List.mem_cons_self ..)) (by simp)
  | x :: r, b, ha, hb, h => by
    obtain ⟨n1, n2⟩ := List.nodup_cons.mp ha
    have hx : x ∈ b := (h x).mp (List.mem_cons_self ..)
    refine ((perm_nd n2 (hb.erase x) fun y => ?_).cons x).trans (List.perm_cons_erase hx).symm
    rw [hb.mem_erase_iff]
    constructor
    · exact fun hy => ⟨fun e => n1 (by rw [← e]; exact hy), (h y).mp (List.mem_cons_of_mem _ hy)⟩
    · rintro ⟨a, c⟩
      rcases List.mem_cons.mp ((h y).mpr c) with z | z
      · exact absurd z a
      · exact z
theorem sorted_fo {l : List Nat} (g : GoodW l) {adj : Nat → List Nat} {fo : Nat → List Nat} (h : FoOk l adj (sds l) fo) {s : Nat} (hs : s ∈ sds l) {ys : List Str} (hp : ys.Perm ((fo s).map sg)) (hso : sortedS ys = true) : ys = ((sds l).filter fun m => decide (m ∈ fo s)).map sg := by
  refine sortedS_eq hso (hp.trans (List.Perm.map _ (perm_nd ?_ ((sds_nd g).filter _) fun x => ?_))) (pw_sg ((sds_rise g).filter _))
  · obtain ⟨rs, _, _, e⟩ := h s hs
    rw [e]
    exact byW_nd g _
  · rw [List.mem_filter, decide_eq_true_eq]
    exact ⟨fun hx => ⟨h.mem g hs hx, hx⟩, fun hx => hx.2⟩
section
variable {P : Program} {w : World} {K : PySem.W.Frag} {mg : Str → Option Value} {base : Heap}
def spChkFix (CF : Addr) : Sp := fun vs H Q E => ∃ l d adj fo, vs = [.ref d] ∧ GoodW l ∧ H d = some (.dK (foK (sds l) fo)) ∧ FoOk l adj (sds l) fo ∧
  match (sds l).find? (fxP fo) with
  | none => ∀ H', Same H H' → Q .non H'
  | some s => ∀ H' x, Same H H' → H x = none → H' x = some (.xd [("side", .str (sg s)), ("word", .str "fixed")]) → E (.ref CF) (some x) H'
set_option maxHeartbeats 1000000 in
theorem ok_chkFix {f fO CF fF CH fH : Addr} {fd fdO fdF fdH : FuncData} {k : Nat} (B : BM mg) (F : Fun K "check_fixed" "check_fixed" sChkFix f fd) (O : DF K mg "other" sOther ["side"] fO fdO)
    (T : HE K mg CH fH fdH) (X : XC K mg "Fixed" "Fixed.__init__" sFXinit "side" CF fF fdF) : FnOk P w K mg base (L2.CX P w) (k + 4) f fd ["forced_by"] (spChkFix CF) := by
  have GO : FnOk P w K mg base CX0 (k + 1) fO fdO ["side"] spOther := ok_other O.F
  have GF : FnOk P w K mg base CX0 (k + 2) fF fdF ["self", "side"] (sp1 K "side" "fixed") := ok_FX T X.F
  refine F.okX scChkFix (fun vs H Q E h => ?_) (fun cdv A outer s H vs Q E hr h => ?_)
  · obtain ⟨l, d, adj, fo, rfl, _⟩ := h
    rfl
  · obtain ⟨l, d, adj, fo, rfl, g, hd, ok, q⟩ := h
    refine ⟨_, pss_one (ps_for (passes_of rfl) rfl (pi_list (pe_callB (call_sortedD rfl) (by rfl) B.sorted (by decide +kernel) (pa_cons (pv 0) pa_nil))) (pg_name (i := 1) scChkFix.nd rfl (.inl rfl))
      (pss_one (ps_if (pt_cmpR op_in_sign (pe_call GO (hr.mono (by omega)) rfl O.g O.F.kp O.b .nil pass0 (pa_cons (pv 1) pa_nil)) (pe_dget (hu_of hr) (pv 0) (pv 1) (fun _ _ => rfl)) (by rfl))
        (pss_one (ps_raise rfl (takes_of rfl rfl rfl rfl) (pmk_oex X.O X.iC X.tI GF hr X.b .nil pass0 (by rfl) X.gC (pa_cons (pv 1) pa_nil)))) pss_nil))), ?_⟩
    refine ⟨_, rfl, d, _, (sds l).map sg, rfl, .inl hd, foK_keys _ _, by rw [List.length_map]; have := sds_len g; omega, fun ys p hp hso np => ⟨p, rfl, ⟨_, SqL.of upd_same⟩, ?_⟩⟩
    obtain rfl := sorted_sds g hp hso
    have wk := walk_list (K := K) (a := p) (xs := ((sds l).map sg).map V.str)
    rw [List.length_map, List.length_map] at wk
    refine for_it wk (fun i σ H' => ∃ y1, σ = [some (.ref d), y1] ∧ Same H H' ∧ H' p = some (.lst (((sds l).map sg).map V.str)) ∧ ∀ j t, j < i → (sds l)[j]? = some t → fxP fo t = false) ⟨_, rfl, same_upd np, upd_same, fun j t h => absurd h (Nat.not_lt_zero _)⟩ (fun i σ H' _ h => by obtain ⟨_, _, _, h, _⟩ := h; exact SqL.of h) ?_ ?_
    · rintro i x σ H1 H2 hi ⟨y1, rfl, sm, ep, no⟩ ⟨rfl, hx⟩
      rw [List.getElem?_map, List.getElem?_map] at hx
      obtain ⟨y, hy, rfl⟩ := Option.map_eq_some_iff.mp hx
      obtain ⟨c, hci, rfl⟩ := Option.map_eq_some_iff.mp hy
      have hc : c ∈ sds l := List.mem_of_getElem? hci
      refine ⟨_, rfl, c, rfl, sds_asc g hc, _, rfl, _, rfl, d, _, rfl, foK_get (sm _ _ hd) hc, swp c, _, rfl, rfl, _, rfl, ite2 (fun t => ?_) (fun t => ?_)⟩
      · have t : decide (swp c ∈ (tx (fo c)).cps.toList) = true := t
        rw [tx_list] at t
        rw [find_at hci no t] at q
        exact ⟨_, rfl, by show 1 ≤ 1000; decide, mk1 X.O X.hw X.hf fun x H4 s4 n4 e4 => q H4 x (sm_trans sm s4) (L2.Same.free sm n4) e4⟩
      · have t : ¬ decide (swp c ∈ (tx (fo c)).cps.toList) = true := t
        rw [tx_list] at t
        refine ⟨_, rfl, sm, ep, fun j u hj hu => ?_⟩
        rcases Nat.lt_or_ge j i with h | h
        · exact no j u h hu
        · obtain rfl : j = i := by omega
          rw [hci] at hu
          cases hu
          exact Bool.eq_false_iff.mpr t
    · rintro σ H1 ⟨y1, rfl, sm, _, no⟩
      rw [find_no no] at q
      exact q H1 sm
def spChkAl (CA : Addr) : Sp := fun vs H Q E => ∃ l d adj fo, vs = [.ref d] ∧ GoodW l ∧ H d = some (.dK (foK (sds l) fo)) ∧ FoOk l adj (sds l) fo ∧
  match (sds l).findSome? fun s => ((sds l).find? (alP fo s)).map fun t => (s, t) with
  | none => ∀ H', Same H H' → Q .non H'
  | some v => ∀ H' x, Same H H' → H x = none → H' x = some (.xd [("other", .str (sg v.2)), ("one", .str (sg v.1)), ("word", .str "alike")]) → E (.ref CA) (some x) H'
set_option maxHeartbeats 1000000 in
theorem ok_chkAl {f CA fA CH fH : Addr} {fd fdA fdH : FuncData} {k : Nat} (B : BM mg) (F : Fun K "check_alike" "check_alike" sChkAl f fd)
    (T : HE K mg CH fH fdH) (X : XC2 K mg CA fA fdA) : FnOk P w K mg base (L2.CX P w) (k + 4) f fd ["forced_by"] (spChkAl CA) := by
  have GA : FnOk P w K mg base CX0 (k + 2) fA fdA ["self", "one", "other"] (sp2 K) := ok_AL T X.F
  refine F.okX scChkAl (fun vs H Q E h => ?_) (fun cdv A outer s H vs Q E hr h => ?_)
  · obtain ⟨l, d, adj, fo, rfl, _⟩ := h
    rfl
  · obtain ⟨l, d, adj, fo, rfl, g, hd, ok, q⟩ := h
    refine ⟨_, pss_one (ps_for (passes_of rfl) rfl (pi_list (pe_callB (call_sortedD rfl) (by rfl) B.sorted (by decide +kernel) (pa_cons (pv 0) pa_nil))) (pg_name (i := 1) scChkAl.nd rfl (.inl rfl))
      (pss_one (ps_for (passes_of rfl) rfl (pi_list (pe_callB (cr_sortedT rfl) (by rfl) B.sorted (by decide +kernel) (pa_cons (pe_dget (hu_of hr) (pv 0) (pv 1) (fun _ _ => rfl)) pa_nil))) (pg_name (i := 2) scChkAl.nd rfl (.inl rfl))
        (pss_one (ps_if (PW.pt (pw_and (pt_cmpR op_ne (pv 2) (pv 1) (nomark _)) (pw_and1 (pt_cmpR op_in_sign (pv 1) (pe_dget (hu_of hr) (pv 0) (pv 2) (fun _ _ => rfl)) (by rfl)))))
          (pss_one (ps_raise rfl (takes_of rfl rfl rfl rfl) (pmk_oex X.O X.iC X.tI GA hr X.b .nil pass0 (by rfl) X.gC (pa_cons (pv 1) (pa_cons (pv 2) pa_nil))))) pss_nil))))), ?_⟩
    refine ⟨_, rfl, d, _, (sds l).map sg, rfl, .inl hd, foK_keys _ _, by rw [List.length_map]; have := sds_len g; omega, fun ys p hp hso np => ⟨p, rfl, ⟨_, SqL.of upd_same⟩, ?_⟩⟩
    obtain rfl := sorted_sds g hp hso
    have wk := walk_list (K := K) (a := p) (xs := ((sds l).map sg).map V.str)
    rw [List.length_map, List.length_map] at wk
    refine for_it wk (fun i σ H' => ∃ y1 y2, σ = [some (.ref d), y1, y2] ∧ Same H H' ∧ H' p = some (.lst (((sds l).map sg).map V.str)) ∧ ∀ j t, j < i → (sds l)[j]? = some t → (sds l).find? (alP fo t) = none) ⟨_, _, rfl, same_upd np, upd_same, fun j t h => absurd h (Nat.not_lt_zero _)⟩ (fun i σ H' _ h => by obtain ⟨_, _, _, _, h, _⟩ := h; exact SqL.of h) ?_ ?_
    · rintro i x σ H1 H2 hi ⟨y1, y2, rfl, sm, ep, no⟩ ⟨rfl, hx⟩
      rw [List.getElem?_map, List.getElem?_map] at hx
      obtain ⟨y, hy, rfl⟩ := Option.map_eq_some_iff.mp hx
      obtain ⟨c, hci, rfl⟩ := Option.map_eq_some_iff.mp hy
      have hc : c ∈ sds l := List.mem_of_getElem? hci
      refine ⟨_, rfl, _, rfl, d, _, rfl, foK_get (sm _ _ hd) hc, tx (fo c), rfl, by rw [tx_len]; have := ok.len g hc; omega, fun zs r hz hzo nr => ⟨r, rfl, ⟨_, SqL.of upd_same⟩, ?_⟩⟩
      rw [sgs_tx] at hz
      obtain rfl := sorted_fo g ok hc hz hzo
      generalize hfl : ((sds l).filter fun m => decide (m ∈ fo c)) = fl at nr ⊢
      have ef : fl.find? (fun m => decide (m ≠ c) && decide (c ∈ fo m)) = (sds l).find? (alP fo c) := by
        rw [← hfl, List.find?_filter]
        congr 1
        funext m
        unfold alP
        by_cases h : m ∈ fo c
        · simp [h]
        · simp [h]
      have flm : ∀ m ∈ fl, m ∈ sds l := fun m hm => by rw [← hfl] at hm; exact (List.mem_filter.mp hm).1
      have wk2 := walk_list (K := K) (a := r) (xs := (fl.map sg).map V.str)
      rw [List.length_map, List.length_map] at wk2
      have npr : p ≠ r := ne_of_none ep nr
      refine for_it wk2 (fun j σ H' => ∃ y2, σ = [some (.ref d), some (.str (sg c)), y2] ∧ Same H H' ∧ H' p = some (.lst (((sds l).map sg).map V.str)) ∧ H' r = some (.lst ((fl.map sg).map V.str)) ∧ ∀ u t, u < j → fl[u]? = some t → (decide (t ≠ c) && decide (c ∈ fo t)) = false) ⟨_, rfl, sm_upd sm nr, by rw [upd_ne npr]; exact ep, upd_same, fun u t h => absurd h (Nat.not_lt_zero _)⟩
        (fun i σ H' _ h => by obtain ⟨_, _, _, _, h, _⟩ := h; exact SqL.of h) ?_ ?_
      · rintro j x σ H3 H4 hj ⟨y2, rfl, sm3, ep3, er3, no2⟩ ⟨rfl, hx⟩
        rw [List.getElem?_map, List.getElem?_map] at hx
        obtain ⟨z, hz2, rfl⟩ := Option.map_eq_some_iff.mp hx
        obtain ⟨m, hmj, rfl⟩ := Option.map_eq_some_iff.mp hz2
        have hmL : m ∈ sds l := flm m (List.mem_of_getElem? hmj)
        have next : (decide (m ≠ c) && decide (c ∈ fo m)) = false → ∀ u t, u < j + 1 → fl[u]? = some t → (decide (t ≠ c) && decide (c ∈ fo t)) = false := fun hmf u t hu ht => by
          rcases Nat.lt_or_ge u j with h | h
          · exact no2 u t h ht
          · obtain rfl : u = j := by omega
            rw [hmj] at ht
            cases ht
            exact hmf
        refine ⟨_, rfl, _, rfl, rfl, _, rfl, ite2 (fun t1 => ?_) (fun t1 => ?_)⟩
        · refine ⟨_, rfl, _, rfl, _, rfl, d, _, rfl, foK_get (sm3 _ _ hd) hmL, c, _, rfl, rfl, _, rfl, ite2 (fun t => ?_) (fun t => ?_)⟩
          · have t : decide (c ∈ (tx (fo m)).cps.toList) = true := t
            rw [tx_list] at t
            have t2 : ¬ sg m = sg c := by simpa using t1
            have t0 : decide (m ≠ c) = true := decide_eq_true fun e => t2 (by rw [e])
            have e1 : fl.find? (fun m => decide (m ≠ c) && decide (c ∈ fo m)) = some m := find_at hmj no2 (by rw [t0, t]; rfl)
            rw [ef] at e1
            rw [findS_at (v := (c, m)) hci (fun j t hj ht => by rw [no j t hj ht]; rfl) (by rw [e1]; rfl)] at q
            exact ⟨_, rfl, _, rfl, by show 2 ≤ 1000; decide, mk2 X.O X.hw X.h1 X.h2 fun x H5 s5 n5 e5 => q H5 x (sm_trans sm3 s5) (L2.Same.free sm3 n5) e5⟩
          · have t : ¬ decide (c ∈ (tx (fo m)).cps.toList) = true := t
            rw [tx_list] at t
            exact ⟨_, rfl, sm3, ep3, er3, next (by rw [Bool.eq_false_iff.mpr t]; simp)⟩
        · have t2 : sg m = sg c := by simpa using t1
          have t0 : decide (m ≠ c) = false := by simpa using sg_inj t2
          exact iteF ⟨_, rfl, sm3, ep3, er3, next (by rw [t0]; rfl)⟩
      · rintro σ H3 ⟨y2, rfl, sm3, ep3, er3, no2⟩
        refine ⟨_, _, rfl, sm3, ep3, fun j u hj hu => ?_⟩
        rcases Nat.lt_or_ge j i with h | h
        · exact no j u h hu
        · obtain rfl : j = i := by omega
          rw [hci] at hu
          cases hu
          rw [← ef]
          exact find_no no2
    · rintro σ H1 ⟨y1, y2, rfl, sm, _, no⟩
      rw [findS_no fun j t hj ht => by rw [no j t hj ht]; rfl] at q
      exact q H1 sm
end
end NC
namespace NC
open PySem PySem.Spec PyProof.Rows L2
theorem first_none {l : List Nat} {bs : List (List Nat)} (h : firstBad l bs = none) : ∀ b ∈ bs, isBar l b = true := fun b hb => by
  obtain ⟨i, hi⟩ := List.getElem?_of_mem hb
  have hl := (List.getElem?_eq_some_iff.mp hi).1
  have q := List.find?_eq_none.mp h i (by simpa using hl)
  unfold badAt at q
  rw [List.getD_eq_getElem?_getD, hi] at q
  simp at q
  exact q.1
/-- all that a hall's making asks for in the text -/
structure Txt8 (K : PySem.W.Frag) (mg : Str → Option Value) (tw : Tok) (fOther fSides fByW fIsW fIsB fCW fCB fCS fSt fRe fAF fCF fCA : Addr) (dOther dSides dByW dIsW dIsB dCW dCB dCS dSt dRe dAF dCF dCA : FuncData)
    (CH iH CB iB CF iF CA iA : Addr) (eH eB eF eA : FuncData) : Prop where
  B : BM mg
  mW : mg "WIDEST" = some (.int 12 tw)
  O : DF K mg "other" sOther ["side"] fOther dOther
  S : DF K mg "sides_of" sSides ["walls"] fSides dSides
  Y : DF K mg "by_walls" sByWalls ["walls", "sides"] fByW dByW
  W : DF K mg "is_walls" sIsWalls ["walls"] fIsW dIsW
  I : DF K mg "is_bar" sIsBar ["walls", "bar"] fIsB dIsB
  cw : DF K mg "check_walls" sChkWalls ["walls"] fCW dCW
  cb : DF K mg "check_bars" sChkBars ["walls", "bars"] fCB dCB
  cs : DF K mg "check_side" sChkSide ["walls", "side"] fCS dCS
  st : DF K mg "straight_from" sStraight ["walls", "bars"] fSt dSt
  re : DF K mg "reached" sReached ["straight", "one"] fRe dRe
  af : DF K mg "all_forced" sAllF ["walls", "bars"] fAF dAF
  cf : DF K mg "check_fixed" sChkFix ["forced_by"] fCF dCF
  ca : DF K mg "check_alike" sChkAl ["forced_by"] fCA dCA
  he : HE K mg CH iH eH
  xb : XC K mg "BadBar" "BadBar.__init__" sBBinit "at" CB iB eB
  xf : XC K mg "Fixed" "Fixed.__init__" sFXinit "side" CF iF eF
  xa : XC2 K mg CA iA eA
end NC
namespace NC
open PySem PySem.Spec PyProof.Rows L2
abbrev sHinit : Stmt := inClass (topS 28) 0
abbrev sHbars : Stmt := inClass (topS 28) 2
theorem scHinit : FnScope ["self", "walls", "bars", "forced_by"] ["self", "walls", "bars"] (defScope sHinit) := ⟨rfl, rfl, rfl, by decide +kernel, rfl, by decide +kernel, by decide +kernel⟩
/-- the class Hall -/
structure HC (K : PySem.W.Frag) (mg : Str → Option Value) (C fi fb : Addr) (di db : FuncData) : Prop where
  gC : mg "Hall" = some (.ref C)
  cl : Cls K C
  mks : Mk K C fi
  F : ∃ dvs, FunD K "__init__" "Hall.__init__" (defArgs sHinit) (defBody sHinit) (defScope sHinit) dvs [] fi di
  b : Binds K di ["self", "walls", "bars"] []
  n1 : NoAttr K C "wall_text"
  n2 : NoAttr K C "bar_list"
  n3 : NoAttr K C "forced_by"
  mb : Meth K C "bars" fb
  Fb : Fun K "bars" "Hall.bars" sHbars fb db
  bb : Binds K db ["self"] []
/-- all but x stays -/
def SmX (x : Addr) (H H' : Hp) : Prop := ∀ b o, b ≠ x → H b = some o → H' b = some o
/-- a hall at x of the walls l, its bars' list at sb -/
structure HallAt (C : Addr) (H : Hp) (x dx sb D : Addr) (l : List Nat) (ys : List Str) (fo : Nat → List Nat) : Prop where
  x : H x = some (.ins C dx [("wall_text", .str (tx l)), ("bar_list", .ref sb), ("forced_by", .ref D)])
  sb : H sb = some (.lst (ys.map V.str))
  D : H D = some (.dK (foK (sds l) fo))
end NC
namespace NC
open PySem PySem.Spec PyProof.Rows L2
abbrev sStart : Stmt := topS 50
abbrev sDraw : Stmt := topS 51
abbrev sOf : Stmt := topS 52
abbrev sLetters : Stmt := topS 54
theorem scStart : FnScope ["_law_script", "_law_seed", "_law_cell"] ["_law_script"] (defScope sStart) := ⟨rfl, rfl, rfl, by decide +kernel, rfl, by decide +kernel, by decide +kernel⟩
theorem scDraw : FnScope ["_law_d", "_law_many", "_law_cell", "_law_digit", "_law_mix"] ["_law_d", "_law_many"] (defScope sDraw) := ⟨rfl, rfl, rfl, by decide +kernel, rfl, by decide +kernel, by decide +kernel⟩
theorem scOf : FnScope ["_law_d", "_law_some"] ["_law_d", "_law_some"] (defScope sOf) := ⟨rfl, rfl, rfl, by decide +kernel, rfl, by decide +kernel, by decide +kernel⟩
theorem scLetters : FnScope [] [] (defScope sLetters) := ⟨rfl, rfl, rfl, by decide +kernel, rfl, by decide +kernel, by decide +kernel⟩
def Dr (H : Hp) (d : Addr) : Prop := ∃ (c : Addr) (ns : List Int) (i a b e : Int), H d = some (.lst [.ref c, .int i, .int a, .int b, .int e]) ∧ H c = some (.lst (ns.map V.int)) ∧ 0 ≤ i
theorem SmX.refl (x : Addr) (H : Hp) : SmX x H H := fun _ _ _ h => h
theorem SmX.trans {x : Addr} {H H1 H2 : Hp} (a : SmX x H H1) (b : SmX x H1 H2) : SmX x H H2 := fun c o n h => b c o n (a c o n h)
theorem SmX.of {x : Addr} {H H1 : Hp} (a : Same H H1) : SmX x H H1 := fun c o _ h => a c o h
theorem SmX.upd {x : Addr} {H : Hp} {o : HO} : SmX x H (L2.upd H x o) := fun c z n h => by rw [upd_ne n]; exact h
/-- all but d's list stays, and the first of d's list too -/
def HeadC (H : Hp) (d c : Addr) : Prop := ∃ r, H d = some (.lst (.ref c :: r))
def SmD (d : Addr) (H H' : Hp) : Prop := SmX d H H' ∧ ∀ c, HeadC H d c → HeadC H' d c
theorem SmD.refl (x : Addr) (H : Hp) : SmD x H H := ⟨SmX.refl x H, fun _ h => h⟩
theorem SmD.trans {x : Addr} {H H1 H2 : Hp} (a : SmD x H H1) (b : SmD x H1 H2) : SmD x H H2 := ⟨a.1.trans b.1, fun c h => b.2 c (a.2 c h)⟩
theorem SmD.of {x : Addr} {H H1 : Hp} (a : Same H H1) : SmD x H H1 := ⟨SmX.of a, fun _ ⟨r, h⟩ => ⟨r, a _ _ h⟩⟩
theorem SmD.upd {x c : Addr} {H : Hp} {r r' : List V} (h : H x = some (.lst (.ref c :: r))) : SmD x H (L2.upd H x (.lst (.ref c :: r'))) := ⟨SmX.upd, fun c2 ⟨r2, h2⟩ => by
  rw [h] at h2
  have e : c = c2 := by
    injection h2 with h3
    injection h3 with h3
    injection h3 with h3 _
    injection h3
  exact ⟨r', by rw [← e]; exact upd_same⟩⟩
theorem dr_ne {H : Hp} {c d : Addr} {ns : List Int} {x : Addr} {i a b e : Int} (h1 : H d = some (.lst [.ref x, .int i, .int a, .int b, .int e])) (h2 : H c = some (.lst (ns.map V.int))) : c ≠ d := ne_of h2 h1 fun z => by
  have z2 : ns.map V.int = [.ref x, .int i, .int a, .int b, .int e] := by injection z
  cases ns with
  | nil => cases z2
  | cons n r =>
    rw [List.map_cons] at z2
    injection z2 with z3 _
    cases z3
theorem Dr.same {H H' : Hp} {d : Addr} (h : Dr H d) (e : Same H H') : Dr H' d := by
  obtain ⟨c, ns, i, a, b, f, h1, h2, h3⟩ := h
  exact ⟨c, ns, i, a, b, f, e _ _ h1, e _ _ h2, h3⟩
section
variable {P : Program} {w : World} {K : PySem.W.Frag} {mg : Str → Option Value} {base : Heap}
def spDraw : Sp := fun vs H Q _ => ∃ d n, vs = [.ref d, .int n] ∧ Dr H d ∧ 1 ≤ n ∧ n ≤ 1000 ∧ ∀ H' v, SmD d H H' → Dr H' d → 0 ≤ v → v < n → Q (.int v) H'
set_option maxHeartbeats 1000000 in
theorem ok_draw {f : Addr} {fd : FuncData} {k : Nat} (B : BM mg) (F : Fun K "_law_draw" "_law_draw" sDraw f fd) : FnOk P w K mg base CX0 (k + 1) f fd ["_law_d", "_law_many"] spDraw := by
  refine F.ok scDraw (fun vs H Q E h => ?_) (fun cdv A outer s H vs Q E hr h => ?_)
  · obtain ⟨d, n, rfl, _⟩ := h
    rfl
  · obtain ⟨d, n, rfl, D, hn1, hn2, q⟩ := h
    refine ⟨_, C8.pss_cut (ps_if (PW.pt (pw_and (pt_cmpR op_lt (pe_ix ix_list (pv 0) pe_int (fun _ _ => rfl)) (pv 1) (nomark _))
        (pw_and1 (pt_cmpR op_lt (pe_ix ix_list (pv 0) pe_int (fun _ _ => rfl)) (pe_callB call_len_seq (by rfl) B.len PySem.boot_len (pa_cons (pe_ix ix_list (pv 0) pe_int (fun _ _ => rfl)) pa_nil)) (nomark _)))))
      (pss_cons (ps_set (i := 2) scDraw.nd rfl (.inl rfl) (pe_ix ix_list (pe_ix ix_list (pv 0) pe_int (fun _ _ => rfl)) (pe_ix ix_list (pv 0) pe_int (fun _ _ => rfl)) (fun _ _ => rfl)))
      (pss_cons (ps_asg (pe_op op_add (pe_ix ix_list (pv 0) pe_int (fun _ _ => rfl)) pe_int) (pg_sub (pv 0) pe_int set_list))
      (pss_cons (ps_asg (pe_ifExp (pt_cmpR op_ge (pv 2) (pe_op op_pow pe_int pe_int) (nomark _)) (pv 2) pe_int) (pg_sub (pv 0) pe_int set_list))
      (pss_one (ps_asg (pe_op op_mod (pe_op op_add (pe_op op_add (pe_op op_mul (pe_ix ix_list (pv 0) pe_int (fun _ _ => rfl)) pe_int) (pe_op op_mod (pv 2) pe_int)) pe_int) pe_int) (pg_sub (pv 0) pe_int set_list)))))) pss_nil)
      (pss_cons (ps_if (pt_cmpR op_ge (pe_ix ix_list (pv 0) pe_int (fun _ _ => rfl)) (pv 1) (nomark _))
        (pss_cons (ps_set (i := 3) scDraw.nd rfl (.inl rfl) (pe_op op_mod (pe_ix ix_list (pv 0) pe_int (fun _ _ => rfl)) (pv 1)))
        (pss_cons (ps_asg (pe_op op_fdiv (pe_ix ix_list (pv 0) pe_int (fun _ _ => rfl)) (pv 1)) (pg_sub (pv 0) pe_int set_list))
        (pss_one (ps_ret (pv 3))))) pss_nil)
      (pss_cons (ps_asg (pe_op op_add (pe_ix ix_list (pv 0) pe_int (fun _ _ => rfl)) pe_int) (pg_sub (pv 0) pe_int set_list))
      (pss_cons (ps_set (i := 4) scDraw.nd rfl (.inl rfl) (pe_op op_add (pe_op op_add (pe_op op_mul (pe_ix ix_list (pv 0) pe_int (fun _ _ => rfl)) pe_int) (pe_op op_mul (pe_ix ix_list (pv 0) pe_int (fun _ _ => rfl)) pe_int)) pe_int))
      (pss_cons (ps_set (i := 4) scDraw.nd rfl (.inl rfl) (pe_op op_add (pe_op op_mul (pv 4) (pe_op op_add (pe_op op_mod (pv 4) pe_int) pe_int)) (pe_op op_mul (pe_ix ix_list (pv 0) pe_int (fun _ _ => rfl)) pe_int)))
      (pss_cons (ps_asg (pe_op op_mod (pv 4) pe_int) (pg_sub (pv 0) pe_int set_list))
      (pss_one (ps_ret (pe_op op_mod (pe_op op_add (pe_op op_fdiv (pe_ix ix_list (pv 0) pe_int (fun _ _ => rfl)) pe_int) (pe_op op_mul (pe_op op_mod (pe_ix ix_list (pv 0) pe_int (fun _ _ => rfl)) pe_int) pe_int)) (pv 1))))))))), ?_⟩
    obtain ⟨c, ns, i, a, b, e, hd, hc, hi⟩ := D
    have nc := dr_ne hd hc
    refine ⟨fun σ H' => ∃ y2 y3 y4, σ = [some (.ref d), some (.int n), y2, y3, y4] ∧ SmD d H H' ∧ Dr H' d, ?_, ?_⟩
    · refine ⟨_, rfl, d, _, 2, .int a, rfl, rfl, SqL.of hd, rfl, _, rfl, _, _, rfl, rfl, _, rfl, ite2 (fun t1 => ?_) (fun t1 => ?_)⟩
      · refine ⟨_, rfl, d, _, 1, .int i, rfl, rfl, SqL.of hd, rfl, _, rfl, d, _, 0, .ref c, rfl, rfl, SqL.of hd, rfl, c, _, rfl, .inl (SqL.of hc), _, _, rfl, rfl, _, rfl, ite2 (fun t2 => ?_) (fun t2 => ?_)⟩
        · have hil : i < (ns.length : Int) := by
            have := of_decide_eq_true t2
            rw [List.length_map] at this
            exact this
          obtain ⟨j, rfl⟩ := Int.eq_ofNat_of_zero_le hi
          have hjl : j < ns.length := by omega
          have hat : (ns.map V.int)[j]? = some (.int ns[j]) := by rw [List.getElem?_map, List.getElem?_eq_getElem hjl]; rfl
          refine ⟨_, rfl, d, _, 0, .ref c, rfl, rfl, SqL.of hd, rfl, _, rfl, d, _, 1, .int j, rfl, rfl, SqL.of hd, rfl, c, _, j, .int ns[j], rfl, rfl, SqL.of hc, atI_nat hat, ?_⟩
          generalize ns[j] = z
          refine ⟨_, rfl, d, _, 1, .int j, rfl, rfl, SqL.of hd, rfl, _, _, rfl, rfl, _, rfl, d, _, 1, 1, rfl, rfl, hd, rfl, ?_⟩
          have fin : ∀ (H2 : Hp) (z2 : Int), SmD d H H2 → H2 d = some (.lst [.ref c, .int ((j : Int) + 1), .int z2, .int b, .int e]) →
              ∃ H3, SmD d H H3 ∧ Dr H3 d ∧ H3 = upd H2 d (.lst ([.ref c, .int ((j : Int) + 1), .int z2, .int b, .int e].set 3 (.int ((b * 69621 + z % 998244353 + 1) % 2147483647)))) := fun H2 z2 s2 e2 =>
            ⟨_, s2.trans (SmD.upd e2), ⟨c, ns, _, _, _, _, upd_same, by rw [upd_ne nc]; exact s2.1 _ _ nc hc, by omega⟩, rfl⟩
          refine ⟨_, rfl, _, _, rfl, rfl, ⟨by decide, by decide, by decide⟩, _, _, rfl, rfl, _, rfl, ite2 (fun t3 => ?_) (fun t3 => ?_)⟩
          · refine ⟨_, rfl, _, rfl, d, _, 2, 2, rfl, rfl, upd_same, rfl, ?_⟩
            rw [L2.upd_upd]
            obtain ⟨H3, a1, a2, a3⟩ := fin (upd H d (.lst [.ref c, .int ((j : Int) + 1), .int z, .int b, .int e])) z (SmD.upd hd) upd_same
            refine ⟨_, rfl, d, _, 3, .int b, rfl, rfl, SqL.of upd_same, rfl, _, _, rfl, rfl, .inr ⟨by decide, by decide⟩, _, rfl, _, _, rfl, rfl, (by show (0 : Int) < 998244353; decide), _, _, rfl, rfl, _, _, rfl, rfl, _, _, rfl, rfl, (by show (0 : Int) < 2147483647; decide), _, rfl, d, _, 3, 3, rfl, rfl, upd_same, rfl, ?_⟩
            exact ⟨_, _, _, rfl, by rw [a3] at a1; exact a1, by rw [a3] at a2; exact a2⟩
          · refine ⟨_, rfl, d, _, 2, 2, rfl, rfl, upd_same, rfl, ?_⟩
            rw [L2.upd_upd]
            obtain ⟨H3, a1, a2, a3⟩ := fin (upd H d (.lst [.ref c, .int ((j : Int) + 1), .int 0, .int b, .int e])) 0 (SmD.upd hd) upd_same
            refine ⟨_, rfl, d, _, 3, .int b, rfl, rfl, SqL.of upd_same, rfl, _, _, rfl, rfl, .inr ⟨by decide, by decide⟩, _, rfl, _, _, rfl, rfl, (by show (0 : Int) < 998244353; decide), _, _, rfl, rfl, _, _, rfl, rfl, _, _, rfl, rfl, (by show (0 : Int) < 2147483647; decide), _, rfl, d, _, 3, 3, rfl, rfl, upd_same, rfl, ?_⟩
            exact ⟨_, _, _, rfl, by rw [a3] at a1; exact a1, by rw [a3] at a2; exact a2⟩
        · exact ⟨_, _, _, rfl, SmD.refl _ _, c, ns, i, a, b, e, hd, hc, hi⟩
      · exact iteF ⟨_, _, _, rfl, SmD.refl _ _, c, ns, i, a, b, e, hd, hc, hi⟩
    · rintro σ H1 ⟨y2, y3, y4, rfl, s1, c1, ns1, i1, a1, b1, e1, hd1, hc1, hi1⟩
      have nc1 := dr_ne hd1 hc1
      refine ⟨_, rfl, d, _, 2, .int a1, rfl, rfl, SqL.of hd1, rfl, _, rfl, _, _, rfl, rfl, _, rfl, ite2 (fun t1 => ?_) (fun t1 => ?_)⟩
      · refine ⟨_, rfl, d, _, 2, .int a1, rfl, rfl, SqL.of hd1, rfl, _, rfl, _, _, rfl, rfl, (by show 0 < n; omega), ?_⟩
        refine ⟨_, rfl, d, _, 2, .int a1, rfl, rfl, SqL.of hd1, rfl, _, rfl, _, _, rfl, rfl, ⟨by omega, by omega⟩, _, rfl, d, _, 2, 2, rfl, rfl, hd1, rfl, ?_⟩
        refine ⟨_, rfl, q _ _ (s1.trans (SmD.upd hd1)) ⟨c1, ns1, _, _, _, _, upd_same, by rw [upd_ne nc1]; exact hc1, hi1⟩ (Int.emod_nonneg _ (by omega)) (Int.emod_lt_of_pos _ (by omega))⟩
      · refine ⟨_, rfl, d, _, 4, .int e1, rfl, rfl, SqL.of hd1, rfl, _, _, rfl, rfl, _, rfl, d, _, 4, 4, rfl, rfl, hd1, rfl, ?_⟩
        have hd2 : (upd H1 d (.lst ([.ref c1, .int i1, .int a1, .int b1, .int e1].set 4 (.int (e1 + 1))))) d = some (.lst [.ref c1, .int i1, .int a1, .int b1, .int (e1 + 1)]) := upd_same
        refine ⟨_, rfl, d, _, 3, .int b1, rfl, rfl, SqL.of hd2, rfl, _, _, rfl, rfl, .inr ⟨by decide, by decide⟩, _, rfl, d, _, 4, .int (e1 + 1), rfl, rfl, SqL.of hd2, rfl, _, _, rfl, rfl, .inr ⟨by decide, by decide⟩, _, _, rfl, rfl, _, _, rfl, rfl, ?_⟩
        have m1 : 0 ≤ (b1 * 16807 + (e1 + 1) * 40692 + 7) % 65521 := Int.emod_nonneg _ (by decide)
        have m2 : (b1 * 16807 + (e1 + 1) * 40692 + 7) % 65521 < 65521 := Int.emod_lt_of_pos _ (by decide)
        refine ⟨_, rfl, _, rfl, _, _, rfl, rfl, (by show (0 : Int) < 65521; decide), _, _, rfl, rfl, _, _, rfl, rfl, .inr ⟨by show -(2 ^ 64) < (b1 * 16807 + (e1 + 1) * 40692 + 7) % 65521 + 3; omega, by show (b1 * 16807 + (e1 + 1) * 40692 + 7) % 65521 + 3 < 2 ^ 64; omega⟩, _, rfl, d, _, 4, .int (e1 + 1), rfl, rfl, SqL.of hd2, rfl, _, _, rfl, rfl, .inr ⟨by decide, by decide⟩, _, _, rfl, rfl, ?_⟩
        refine ⟨_, rfl, _, _, rfl, rfl, (by show (0 : Int) < 2147483629; decide), _, rfl, d, _, 3, 3, rfl, rfl, hd2, rfl, ?_⟩
        have hd3 : (upd (upd H1 d (.lst ([.ref c1, .int i1, .int a1, .int b1, .int e1].set 4 (.int (e1 + 1))))) d (.lst ([.ref c1, .int i1, .int a1, .int b1, .int (e1 + 1)].set 3 (.int (((b1 * 16807 + (e1 + 1) * 40692 + 7) * ((b1 * 16807 + (e1 + 1) * 40692 + 7) % 65521 + 3) + (e1 + 1) * 9176) % 2147483629))))) d = some (.lst [.ref c1, .int i1, .int a1, .int (((b1 * 16807 + (e1 + 1) * 40692 + 7) * ((b1 * 16807 + (e1 + 1) * 40692 + 7) % 65521 + 3) + (e1 + 1) * 9176) % 2147483629), .int (e1 + 1)]) := upd_same
        refine ⟨_, rfl, d, _, 3, .int (((b1 * 16807 + (e1 + 1) * 40692 + 7) * ((b1 * 16807 + (e1 + 1) * 40692 + 7) % 65521 + 3) + (e1 + 1) * 9176) % 2147483629), rfl, rfl, SqL.of hd3, rfl, _, _, rfl, rfl, ⟨by decide, by decide⟩, _, rfl, d, _, 3, .int (((b1 * 16807 + (e1 + 1) * 40692 + 7) * ((b1 * 16807 + (e1 + 1) * 40692 + 7) % 65521 + 3) + (e1 + 1) * 9176) % 2147483629), rfl, rfl, SqL.of hd3, rfl, _, _, rfl, rfl, (by show (0 : Int) < 8191; decide), _, _, rfl, rfl, .inr ⟨by decide, by decide⟩, _, _, rfl, rfl, _, rfl, _, _, rfl, rfl, (by show 0 < n; omega), ?_⟩
        refine q _ _ ((s1.trans (SmD.upd hd1)).trans (SmD.upd hd2)) ⟨c1, ns1, _, _, _, _, hd3, by rw [upd_ne nc1, upd_ne nc1]; exact hc1, hi1⟩ (Int.emod_nonneg _ (by omega)) (Int.emod_lt_of_pos _ (by omega))
end
end NC
namespace NC
open PySem PySem.Spec PyProof.Rows L2
def ltrs : List Nat := (List.range 26).map (· + 97)
theorem ltrs_eq : Str.ofString "abcdefghijklmnopqrstuvwxyz" = tx ltrs := by decide +kernel
theorem smx_l {K : PySem.W.Frag} {d : Addr} {H H' : Hp} {a : Addr} {xs : List V} (e : SmX d H H') (n : a ≠ d) (h : SqL K H a xs) : SqL K H' a xs := by
  rcases h with (h | ⟨o, h⟩) | h
  · exact .inl (.inl (e _ _ n h))
  · exact .inl (.inr ⟨o, e _ _ n h⟩)
  · exact .inr h
section
variable {P : Program} {w : World} {K : PySem.W.Frag} {mg : Str → Option Value} {base : Heap}
def spStart (K : PySem.W.Frag) : Sp := fun vs H Q _ => ∃ (a : Addr) (ns : List Int), vs = [.ref a] ∧ SqL K H a (ns.map V.int) ∧ ∀ H' d, Same H H' → H d = none → Dr H' d → Q (.ref d) H'
theorem ok_start {f : Addr} {fd : FuncData} {k : Nat} (B : BM mg) (F : Fun K "_law_start" "_law_start" sStart f fd) : FnOk P w K mg base CX0 (k + 1) f fd ["_law_script"] (spStart K) := by
  refine F.ok scStart (fun vs H Q E h => ?_) (fun cdv A outer s H vs Q E hr h => ?_)
  · obtain ⟨a, ns, rfl, _⟩ := h
    rfl
  · obtain ⟨a, ns, rfl, hS, q⟩ := h
    refine ⟨_, pss_cons (ps_set (i := 1) scStart.nd rfl (.inl rfl) pe_int)
      (pss_cons (ps_for PassesOwn.never rfl (pi_list (pe_slice sl_list (pv 0) po_none (po_some pe_int))) (pg_name (i := 2) scStart.nd rfl (.inl rfl))
        (pss_one (ps_set (i := 1) scStart.nd rfl (.inl rfl) (pe_op op_mod (pe_op op_add (pe_op op_add (pe_op op_mul (pv 1) pe_int) (pe_op op_mod (pv 2) pe_int)) pe_int) pe_int))))
      (pss_one (ps_ret (pe_lst (pa_cons (pe_callTy call_list_of (by rfl) B.list (by decide +kernel) (pa_cons (pe_slice sl_list (pv 0) po_none (po_some pe_int)) pa_nil)) (pa_cons pe_int (pa_cons pe_int (pa_cons (pv 1) (pa_cons pe_int pa_nil))))))))), ?_⟩
    refine ⟨_, rfl, 63, rfl, a, _, rfl, hS, fun p np => ⟨p, rfl, ⟨_, SqL.of upd_same⟩, ?_⟩⟩
    have ec : cutV (ns.map V.int) none (some 63) = (ns.take 63).map V.int := by
      unfold cutV
      rw [HT.sIx_none, show HT.sIx (ns.map V.int).length (ns.map V.int).length (some 63) = min 63 (ns.map V.int).length from HT.sIx_nat _ _ 63, List.drop_zero, Nat.sub_zero, List.map_take, List.length_map]
      rcases Nat.le_total 63 ns.length with h | h
      · rw [Nat.min_eq_left h]
      · rw [Nat.min_eq_right h, List.take_of_length_le (by rw [List.length_map]; exact Nat.le_refl _), List.take_of_length_le (by rw [List.length_map]; exact h)]
    rw [ec]
    have wk := walk_list (K := K) (a := p) (xs := (ns.take 63).map V.int)
    refine for_it wk (fun i σ H' => ∃ (z : Int) (y2 : Option V), σ = [some (.ref a), some (.int z), y2] ∧ Same H H' ∧ H' p = some (.lst ((ns.take 63).map V.int))) ⟨_, _, rfl, same_upd np, upd_same⟩
      (fun i σ H' _ h => by obtain ⟨_, _, _, _, h⟩ := h; exact SqL.of h) ?_ ?_
    · rintro i x σ H1 H2 hi ⟨z, y2, rfl, sm, ep⟩ ⟨rfl, hx⟩
      rw [List.getElem?_map] at hx
      obtain ⟨c, hc, rfl⟩ := Option.map_eq_some_iff.mp hx
      exact ⟨_, rfl, _, _, rfl, rfl, .inr ⟨by decide, by decide⟩, _, rfl, _, _, rfl, rfl, (by show (0 : Int) < 1000003; decide), _, _, rfl, rfl, _, _, rfl, rfl, _, _, rfl, rfl, (by show (0 : Int) < 2147483647; decide), _, _, rfl, sm, ep⟩
    · rintro σ H1 ⟨z, y2, rfl, sm, ep⟩
      refine ⟨_, rfl, 63, rfl, a, _, rfl, sm_l sm hS, fun p2 np2 => ⟨p2, _, rfl, .inl (SqL.of upd_same), fun p3 np3 => ?_⟩⟩
      rw [ec] at np3 ⊢
      have s3 := sm_upd (o := .lst ((ns.take 63).map V.int)) (sm_upd (o := .lst ((ns.take 63).map V.int)) sm np2) np3
      refine ⟨_, rfl, by show 5 ≤ sizeLine; decide, fun d nd => ?_⟩
      have n3 : p3 ≠ d := ne_of_none upd_same nd
      exact q _ d (sm_upd s3 nd) (L2.Same.free s3 nd) ⟨p3, ns.take 63, 0, 0, _, 0, upd_same, by rw [upd_ne n3, upd_same], Int.le_refl _⟩
def spOf (K : PySem.W.Frag) : Sp := fun vs H Q _ => ∃ d x, vs = [.ref d, x] ∧ Dr H d ∧
  ((∃ a xs, x = .ref a ∧ a ≠ d ∧ SqL K H a xs ∧ 1 ≤ xs.length ∧ xs.length ≤ 1000 ∧ ∀ H' v (i : Nat), SmD d H H' → Dr H' d → xs[i]? = some v → Q v H') ∨
    ∃ l : List Nat, x = .str (tx l) ∧ 1 ≤ l.length ∧ l.length ≤ 1000 ∧ ∀ H' c, SmD d H H' → Dr H' d → c ∈ l → Q (.str (sg c)) H')
theorem ok_of {f fD : Addr} {fd fdD : FuncData} {k : Nat} (B : BM mg) (F : Fun K "_law_of" "_law_of" sOf f fd) (D : DF K mg "_law_draw" sDraw ["_law_d", "_law_many"] fD fdD) : FnOk P w K mg base CX0 (k + 2) f fd ["_law_d", "_law_some"] (spOf K) := by
  have GD : FnOk P w K mg base CX0 (k + 1) fD fdD ["_law_d", "_law_many"] spDraw := ok_draw B D.F
  refine F.ok scOf (fun vs H Q E h => ?_) (fun cdv A outer s H vs Q E hr h => ?_)
  · obtain ⟨d, x, rfl, _⟩ := h
    rfl
  · obtain ⟨d, x, rfl, hD, h⟩ := h
    refine ⟨_, pss_one (ps_ret (pe_ix (IxR.or ix_list ix_str) (pv 1) (pe_call GD hr rfl D.g D.F.kp D.b .nil pass0 (pa_cons (pv 0) (pa_cons (pe_callB (CallR.or call_len_seq call_len_str) (by rfl) B.len PySem.boot_len (pa_cons (pv 1) pa_nil)) pa_nil))) (fun _ _ => rfl))), ?_⟩
    rcases h with ⟨a, xs, rfl, nd, hS, h1, h2, q⟩ | ⟨l, rfl, h1, h2, q⟩
    · refine ⟨_, rfl, _, rfl, _, rfl, .inl ⟨a, xs, rfl, .inl hS, d, _, rfl, hD, by omega, by omega, fun H1 v s1 D1 v0 v1 => ?_⟩⟩
      obtain ⟨j, rfl⟩ := Int.eq_ofNat_of_zero_le v0
      have hj : j < xs.length := by omega
      exact .inl ⟨a, xs, j, xs[j], rfl, rfl, smx_l s1.1 nd hS, atI_nat (List.getElem?_eq_getElem hj), q H1 _ j s1 D1 (List.getElem?_eq_getElem hj)⟩
    · have hz : (tx l).length ≤ sizeLine := by rw [tx_len, sizeLine_eq]; omega
      refine ⟨_, rfl, _, rfl, _, rfl, .inr ⟨tx l, rfl, hz, d, _, rfl, hD, by rw [tx_len]; omega, by rw [tx_len]; omega, fun H1 v s1 D1 v0 v1 => ?_⟩⟩
      obtain ⟨j, rfl⟩ := Int.eq_ofNat_of_zero_le v0
      have hj : j < l.length := by rw [tx_len] at v1; omega
      exact .inr ⟨tx l, j, l[j], rfl, rfl, hz, by rw [tx_list]; exact atI_nat (List.getElem?_eq_getElem hj), q H1 _ s1 D1 (List.getElem_mem hj)⟩
theorem ok_letters {f : Addr} {fd : FuncData} {k : Nat} (F : Fun K "_law_letters" "_law_letters" sLetters f fd) : FnOk P w K mg base CX0 (k + 1) f fd [] (fun vs H Q _ => vs = [] ∧ Q (.str (tx ltrs)) H) := by
  refine F.ok scLetters (fun vs H Q E h => ?_) (fun cdv A outer s H vs Q E hr h => ?_)
  · obtain ⟨rfl, _⟩ := h
    rfl
  · obtain ⟨rfl, q⟩ := h
    refine ⟨_, pss_one (ps_ret pe_str), ?_⟩
    show Q (.str (Str.ofString "abcdefghijklmnopqrstuvwxyz")) H
    rw [ltrs_eq]
    exact q
end
end NC
namespace NC
open PySem PySem.Spec PyProof.Rows L2
theorem str0 : (Str.ofString "") = tx [] := by decide +kernel
end NC
namespace NC
open PySem PySem.Spec PyProof.Rows L2
open Classical in
noncomputable def foC (l : List Nat) (bs : List (List Nat)) (s : Nat) : List Nat := (sds l).filter fun t => decide (Frc (adjOf bs) s t)
open Classical in
theorem foC_mem {l : List Nat} (g : GoodW l) {bs : List (List Nat)} (hb : ∀ b ∈ bs, isBar l b = true) : ∀ s ∈ sds l, ∀ t, t ∈ foC l bs s ↔ Frc (adjOf bs) s t := fun s hs t => by
  unfold foC
  rw [List.mem_filter]
  exact ⟨fun h => of_decide_eq_true h.2, fun h => ⟨Frc.mem g hb hs h, decide_eq_true h⟩⟩
/-- the hall is let by -/
def Okv (l : List Nat) (bs : List (List Nat)) : Prop := ∀ fo : Nat → List Nat, (∀ s ∈ sds l, ∀ t, t ∈ fo s ↔ Frc (adjOf bs) s t) → vdOf (sds l) (fxP fo) (alP fo) = .ok
theorem vd_ok {L : List Nat} {fx : Nat → Bool} {al : Nat → Nat → Bool} (h1 : ∀ s ∈ L, fx s = false) (h2 : ∀ s ∈ L, ∀ t ∈ L, al s t = false) : vdOf L fx al = .ok := by
  unfold vdOf
  rw [List.find?_eq_none.mpr fun s hs => by rw [h1 s hs]; decide]
  have e : (L.findSome? fun s => (L.find? (al s)).map fun t => (s, t)) = none := List.findSome?_eq_none_iff.mpr fun s hs => by
    rw [List.find?_eq_none.mpr fun t ht => by rw [h2 s hs t ht]; decide]
    rfl
  rw [e]
theorem okv_nil {l : List Nat} (g : GoodW l) : Okv l [] := fun fo hf => by
  have one : ∀ {s t : Nat}, Frc (adjOf []) s t → t = s := fun {s t} h => h.ind (p := fun x => x = s) rfl fun a b _ k => absurd k (by simp [adjOf])
  refine vd_ok (fun s hs => ?_) (fun s hs t ht => ?_)
  · refine decide_eq_false fun z => ?_
    have e := one ((hf s hs _).mp z)
    rcases sds_lt g hs with q | q
    · rw [swp_small q] at e
      omega
    · rw [swp_great q] at e
      omega
  · unfold alP
    by_cases h : t ∈ fo s
    · have e := one ((hf s hs t).mp h)
      simp [e]
    · simp [h]
structure Fine (l : List Nat) (rs : List (List Nat)) : Prop where
  has : ∀ c ∈ l, (∃ r ∈ rs, c ∈ r) ∧ ∃ r ∈ rs, c ∉ r
  apart : ∀ x y, isBar l [x, y] = true → ∃ r ∈ rs, inR [x, y] r = true ∨ inR [swp x, swp y] r = true
theorem Fine.ok {l : List Nat} (g : GoodW l) {bs : List (List Nat)} (hb : ∀ b ∈ bs, isBar l b = true) (F : Fine l (rms l bs)) : Okv l bs := fun fo hf => by
  have mr := rms_mem g hb
  rw [vd_same g hb hf (foC_mem g hb)]
  have ne : rms l bs ≠ [] := fun z => by
    obtain ⟨c, hc⟩ : ∃ c, c ∈ l := by
      have := g.lo
      cases l with
      | nil => exact absurd this (by decide)
      | cons c r => exact ⟨c, List.mem_cons_self ..⟩
    obtain ⟨⟨r, hr, _⟩, _⟩ := F.has c hc
    rw [z] at hr
    cases hr
  have other : ∀ {s : Nat} {r : List Nat}, s ∈ sds l → r ∈ rms l bs → (s ∉ r ↔ swp s ∈ r) := fun {s r} hs hr => by
    obtain ⟨p, rfl, _⟩ := (mr r).mp hr
    rw [rm_mem g hs, rm_mem g (sds_swp g hs), val_swp (sds_lt g hs)]
    cases val p s <;> simp
  refine vd_ok (fun s hs => ?_) (fun s hs t ht => ?_)
  · unfold fxL
    rw [if_neg ne]
    have : ∃ r ∈ rms l bs, s ∈ r := by
      rcases sds_shape g hs with z | z
      · exact (F.has s z.2.2).1
      · obtain ⟨_, r, hr, hn⟩ := F.has (s + 32) z.2.2
        refine ⟨r, hr, ?_⟩
        have := (other (sds_of_small z.2.2) hr).mp hn
        rw [swp_small (by omega), show s + 32 - 32 = s by omega] at this
        exact this
    obtain ⟨r, hr, hsr⟩ := this
    rw [show ((rms l bs).any fun r => decide (s ∈ r)) = true from List.any_eq_true.mpr ⟨r, hr, decide_eq_true hsr⟩]
    rfl
  · unfold alL
    by_cases e : lwc s = lwc t
    · rw [e]; simp
    · have main : ∃ r ∈ rms l bs, (s ∈ r ∧ t ∉ r) ∨ (s ∉ r ∧ t ∈ r) := by
        have hst := sds_swp g ht
        have lt2 : lwc (swp t) = lwc t := by
          rcases sds_lt g ht with q | q
          · rw [swp_small q]
            unfold lwc
            rw [if_pos (by omega), if_neg (by omega)]
            omega
          · rw [swp_great q]
            unfold lwc
            rw [if_neg (by omega), if_pos q]
        have fin : ∀ r ∈ rms l bs, (s ∈ r ∧ swp t ∈ r) ∨ (swp s ∈ r ∧ t ∈ r) → (s ∈ r ∧ t ∉ r) ∨ (s ∉ r ∧ t ∈ r) := fun r hr h => h.imp (fun z => ⟨z.1, (other ht hr).mpr z.2⟩) (fun z => ⟨(other hs hr).mpr z.1, z.2⟩)
        have bar : ∀ {x y : Nat}, x ∈ sds l → y ∈ sds l → lwc x < lwc y → isBar l [x, y] = true := fun {x y} hx hy h => by
          show (decide (x ∈ sds l) && (decide (y ∈ sds l) && decide (lwc x < lwc y))) = true
          rw [decide_eq_true hx, decide_eq_true hy, decide_eq_true h]
          rfl
        rcases Nat.lt_or_ge (lwc s) (lwc t) with h | h
        · obtain ⟨r, hr, z⟩ := F.apart s (swp t) (bar hs hst (by rw [lt2]; exact h))
          refine ⟨r, hr, fin r hr (z.imp (fun z => ?_) (fun z => ?_))⟩
          · simp [inR] at z
            exact z
          · rw [swp_swp (sds_lt g ht)] at z
            simp [inR] at z
            exact z
        · obtain ⟨r, hr, z⟩ := F.apart (swp t) s (bar hst hs (by rw [lt2]; omega))
          refine ⟨r, hr, fin r hr (z.imp (fun z => ?_) (fun z => ?_))⟩
          · simp [inR] at z
            exact ⟨z.2, z.1⟩
          · rw [swp_swp (sds_lt g ht)] at z
            simp [inR] at z
            exact ⟨z.2, z.1⟩
      obtain ⟨r, hr, z⟩ := main
      have : (rms l bs).all (fun r => decide (decide (s ∈ r) = decide (t ∈ r))) = false := by
        rw [List.all_eq_false]
        refine ⟨r, hr, ?_⟩
        rcases z with ⟨a, b⟩ | ⟨a, b⟩
        · simp [a, b]
        · simp [a, b]
      rw [this]
      simp
/-- may s stand behind what is begun -/
def goes (fo : Nat → List Nat) (s : Nat) (r : List Nat) : Bool := !r.any fun h => decide (swp h ∈ fo s)
def okP (fo : Nat → List Nat) : List Nat → List Nat → Bool
  | _, [] => true
  | a, s :: r => goes fo s a && okP fo (a ++ [s]) r
def prT (l : List Nat) (fo : Nat → List Nat) : Nat → List (List Nat)
  | 0 => [[]]
  | k + 1 => (prT l fo k).flatMap fun r => ([upc (l.getD k 0), l.getD k 0].filter fun s => goes fo s r).map fun s => r ++ [s]
def okR (fo : Nat → List Nat) (r : List Nat) : Bool := okP fo [] r
theorem okP_snoc (fo : Nat → List Nat) : ∀ (a r : List Nat) (s : Nat), okP fo a (r ++ [s]) = (okP fo a r && goes fo s (a ++ r))
  | a, [], s => by
    show (goes fo s a && true) = (true && goes fo s (a ++ []))
    rw [List.append_nil, Bool.and_true, Bool.true_and]
  | a, x :: r, s => by
    show (goes fo x a && okP fo (a ++ [x]) (r ++ [s])) = (goes fo x a && okP fo (a ++ [x]) r && goes fo s (a ++ x :: r))
    rw [okP_snoc fo (a ++ [x]) r s, Bool.and_assoc, List.append_assoc]
    rfl
theorem okR_snoc (fo : Nat → List Nat) (r : List Nat) (s : Nat) : okR fo (r ++ [s]) = (okR fo r && goes fo s r) := okP_snoc fo [] r s
theorem prT_eq (l : List Nat) (fo : Nat → List Nat) : ∀ k, prT l fo k = (allT l k).filter (okR fo)
  | 0 => rfl
  | k + 1 => by
    show (prT l fo k).flatMap _ = ((allT l k).flatMap _).filter _
    rw [prT_eq l fo k, List.filter_flatMap]
    generalize l.getD k 0 = c
    generalize allT l k = A
    induction A with
    | nil => rfl
    | cons r t ih =>
      rw [List.flatMap_cons, List.filter_cons]
      have e : [r ++ [upc c], r ++ [c]].filter (okR fo) = if okR fo r = true then (([upc c, c].filter fun s => goes fo s r).map fun s => r ++ [s]) else [] := by
        by_cases h : okR fo r = true
        · rw [if_pos h]
          simp only [List.filter_cons, List.filter_nil, okR_snoc, h, Bool.true_and]
          by_cases h1 : goes fo (upc c) r = true <;> by_cases h2 : goes fo c r = true <;> simp [h1, h2]
        · have h' : okR fo r = false := by simpa using h
          rw [if_neg h]
          simp only [List.filter_cons, List.filter_nil, okR_snoc, h', Bool.false_and]
          rfl
      rw [e]
      by_cases h : okR fo r = true
      · rw [if_pos h, if_pos h, List.flatMap_cons, ih]
      · rw [if_neg h, if_neg h, ih]
        rfl
theorem okP_iff (fo : Nat → List Nat) : ∀ (r a : List Nat), okP fo a r = true ↔ ∀ i s, r[i]? = some s → ∀ h, (h ∈ a ∨ h ∈ r.take i) → swp h ∉ fo s
  | [], a => by
    constructor
    · intro _ i s hi
      simp at hi
    · intro _
      rfl
  | x :: r, a => by
    show (goes fo x a && okP fo (a ++ [x]) r) = true ↔ _
    rw [Bool.and_eq_true, okP_iff fo r (a ++ [x])]
    have hg : goes fo x a = true ↔ ∀ h ∈ a, swp h ∉ fo x := by
      unfold goes
      rw [Bool.not_eq_true', List.any_eq_false]
      constructor
      · exact fun z h hh k => z h hh (decide_eq_true k)
      · exact fun z h hh k => z h hh (of_decide_eq_true k)
    rw [hg]
    constructor
    · rintro ⟨h1, h2⟩ i s hi h hh
      cases i with
      | zero =>
        cases hi
        rcases hh with q | q
        · exact h1 h q
        · simp at q
      | succ i =>
        refine h2 i s hi h ?_
        rcases hh with q | q
        · exact .inl (List.mem_append_left _ q)
        · rw [List.take_succ_cons] at q
          rcases List.mem_cons.mp q with e | e
          · exact .inl (by rw [e]; simp)
          · exact .inr e
    · intro H
      refine ⟨fun h hh => H 0 x rfl h (.inl hh), fun i s hi h hh => H (i + 1) s hi h ?_⟩
      rw [List.take_succ_cons]
      rcases hh with q | q
      · rcases List.mem_append.mp q with e | e
        · exact .inl e
        · exact .inr (by rw [List.mem_singleton.mp e]; simp)
      · exact .inr (List.mem_cons_of_mem _ q)
/-- the program's rooms are the law's -/
theorem prT_rms {l : List Nat} (g : GoodW l) {bs : List (List Nat)} (hb : ∀ b ∈ bs, isBar l b = true) {fo : Nat → List Nat} (hf : ∀ s ∈ sds l, ∀ t, t ∈ fo s ↔ Frc (adjOf bs) s t) : prT l fo l.length = rms l bs := by
  rw [prT_eq]
  unfold rms
  refine List.filter_congr fun r hr => ?_
  obtain ⟨p, rfl⟩ := (allT_mem g.nd (Nat.le_refl _) r).mp hr
  rw [List.take_length]
  have key : (!bs.any fun b => inR b (rmOf l p)) = true ↔ Sat bs p := by
    constructor
    · intro h
      obtain ⟨p', e, hs⟩ := (rms_mem g hb (rmOf l p)).mp (List.mem_filter.mpr ⟨(allT_mem g.nd (Nat.le_refl _) _).mpr ⟨p, by rw [List.take_length]⟩, h⟩)
      intro x y hxy
      rintro ⟨vx, vy⟩
      obtain ⟨x', y', e2, hx, hy, _⟩ := bar_two (hb _ hxy)
      obtain ⟨rfl, rfl⟩ : x = x' ∧ y = y' := by simpa using e2
      have a := (rm_mem g hx).mpr vx
      have b := (rm_mem g hy).mpr vy
      rw [e] at a b
      exact hs x y hxy ⟨(rm_mem g hx).mp a, (rm_mem g hy).mp b⟩
    · intro h
      exact (List.mem_filter.mp ((rms_mem g hb (rmOf l p)).mpr ⟨p, rfl, h⟩)).2
  rw [Bool.eq_iff_iff, key]
  unfold okR
  rw [okP_iff]
  have rl : (rmOf l p).length = l.length := by unfold rmOf; rw [List.length_map]
  have at_ : ∀ {i s : Nat}, (rmOf l p)[i]? = some s → ∃ hi : i < l.length, lwc s = l[i] ∧ s ∈ sds l := fun {i s} h => by
    have hm := List.mem_of_getElem? h
    have hs := rm_asc g hm
    obtain ⟨hi, _⟩ := List.getElem?_eq_some_iff.mp h
    rw [rl] at hi
    refine ⟨hi, ?_, hs⟩
    unfold rmOf at h
    rw [List.getElem?_map, List.getElem?_eq_getElem hi] at h
    have e : (if p l[i] then l[i] else upc l[i]) = s := Option.some.inj h
    have h1 := g.sm l[i] (List.getElem_mem hi)
    rw [← e]
    by_cases hp : p l[i] = true
    · rw [if_pos hp]
      unfold lwc
      rw [if_neg (by omega)]
    · rw [if_neg hp, upc_small h1]
      unfold lwc
      rw [if_pos (by omega)]
      omega
  constructor
  · intro H x y hxy
    rintro ⟨vx, vy⟩
    obtain ⟨x', y', e2, hx, hy, hlt⟩ := bar_two (hb _ hxy)
    obtain ⟨rfl, rfl⟩ : x = x' ∧ y = y' := by simpa using e2
    obtain ⟨i, hi, ei⟩ := List.getElem_of_mem ((rm_mem g hx).mpr vx)
    obtain ⟨j, hj, ej⟩ := List.getElem_of_mem ((rm_mem g hy).mpr vy)
    have gi : (rmOf l p)[i]? = some x := by rw [List.getElem?_eq_getElem hi, ei]
    have gj : (rmOf l p)[j]? = some y := by rw [List.getElem?_eq_getElem hj, ej]
    obtain ⟨hi2, wi, _⟩ := at_ gi
    obtain ⟨hj2, wj, _⟩ := at_ gj
    have hij : i < j := by
      rcases Nat.lt_trichotomy i j with z | z | z
      · exact z
      · subst z
        rw [wi, wj] at hlt
        omega
      · have := List.pairwise_iff_getElem.mp g.rise j i hj2 hi2 z
        rw [wi, wj] at hlt
        omega
    have hxt : x ∈ (rmOf l p).take j := List.mem_of_getElem? (i := i) (by rw [List.getElem?_take_of_lt hij]; exact gi)
    have ky : swp x ∈ adjOf bs y := (adj_iff g hb (sds_lt g (sds_swp g hx))).mpr (by rw [swp_swp (sds_lt g hx)]; exact .inr hxy)
    exact H j y gj x (.inr hxt) ((hf y hy _).mpr (Frc.refl.step ky))
  · intro hS i s hi h hh k
    rcases hh with q | q
    · cases q
    · obtain ⟨_, _, hs⟩ := at_ hi
      have hm : h ∈ rmOf l p := List.mem_of_mem_take q
      have hhs := rm_asc g hm
      have v1 := (rm_mem g hs).mp (List.mem_of_getElem? hi)
      have v2 := hS.frc g hb v1 ((hf s hs _).mp k)
      rw [val_swp (sds_lt g hhs), (rm_mem g hhs).mp hm] at v2
      cases v2
end NC
namespace NC
open PySem PySem.Spec PyProof.Rows L2
abbrev sOth : Stmt := topS 55
theorem scOth : FnScope ["_law_side"] ["_law_side"] (defScope sOth) := ⟨rfl, rfl, rfl, by decide +kernel, rfl, by decide +kernel, by decide +kernel⟩
theorem isup_sg : ∀ c : Nat, c < 128 → Txt.isupper (sg c) = decide (65 ≤ c ∧ c ≤ 90) := by
  have h : ∀ c : Fin 128, Txt.isupper (sg c.val) = decide (65 ≤ c.val ∧ c.val ≤ 90) := by decide +kernel
  exact fun c hc => h ⟨c, hc⟩
section
variable {P : Program} {w : World} {K : PySem.W.Frag} {mg : Str → Option Value} {base : Heap}
def spOth : Sp := fun vs H Q _ => ∃ c, vs = [.str (sg c)] ∧ isLt c ∧ Q (.str (sg (swp c))) H
theorem ok_oth {f : Addr} {fd : FuncData} {k : Nat} (F : Fun K "_law_other" "_law_other" sOth f fd) : FnOk P w K mg base CX0 (k + 1) f fd ["_law_side"] spOth := by
  refine F.ok scOth (fun vs H Q E h => ?_) (fun cdv A outer s H vs Q E hr h => ?_)
  · obtain ⟨c, rfl, _⟩ := h
    rfl
  · obtain ⟨c, rfl, hc, q⟩ := h
    refine ⟨_, pss_one (ps_ret (pe_ifExp (pt_val (pe_m0 PySem.F.slot_str_isupper PySem.F.type_str_isupper mt_isupper (pv 0))) (pe_lower (pv 0)) (pe_upper (pv 0)))), ?_⟩
    refine ⟨_, rfl, ⟨_, rfl⟩, _, rfl, rfl, trivial, _, rfl, ?_⟩
    have a1 : ∀ e ∈ [c], e < 128 := fun e he => by rw [List.mem_singleton.mp he]; exact hc.asc
    rw [isup_sg c hc.asc]
    refine ite2 (fun t => ?_) (fun t => ?_)
    · have t := of_decide_eq_true t
      refine ⟨_, rfl, ⟨_, rfl⟩, _, rfl, rfl, by show 1 ≤ 5592405; decide, ?_⟩
      rw [show Txt.lower (sg c) = tx [lwc c] from lower_tx (l := [c]) a1, show lwc c = swp c by rw [swp_great t]; unfold lwc; rw [if_pos t]]
      exact q
    · have t : ¬ (65 ≤ c ∧ c ≤ 90) := fun z => t (decide_eq_true z)
      have h1 : 97 ≤ c ∧ c ≤ 122 := hc.elim id fun z => absurd z t
      refine ⟨_, rfl, ⟨_, rfl⟩, _, rfl, rfl, by show 1 ≤ 5592405; decide, ?_⟩
      rw [show Txt.upper (sg c) = tx [upc c] from upper_tx (l := [c]) a1, show upc c = swp c by rw [swp_small h1, upc_small h1]]
      exact q
end
theorem Dr.cell {H : Hp} {d c : Addr} (h : Dr H d) (hc : HeadC H d c) : ∃ ns : List Int, H c = some (.lst (ns.map V.int)) := by
  obtain ⟨c0, ns, i, a, b, f, h1, h2, h3⟩ := h
  obtain ⟨r, e⟩ := hc
  rw [h1] at e
  have e2 : c0 = c := by
    injection e with e
    injection e with e
    injection e with e _
    injection e
  exact ⟨ns, by rw [← e2]; exact h2⟩
theorem Dr.upd {H : Hp} {d c b : Addr} {o : HO} (h : Dr H d) (hc : HeadC H d c) (n1 : b ≠ d) (n2 : b ≠ c) : Dr (L2.upd H b o) d := by
  obtain ⟨c0, ns, i, a, b2, f, h1, h2, h3⟩ := h
  obtain ⟨r, e⟩ := hc
  rw [h1] at e
  have e2 : c0 = c := by
    injection e with e
    injection e with e
    injection e with e _
    injection e
  exact ⟨c0, ns, i, a, b2, f, by rw [upd_ne (Ne.symm n1)]; exact h1, by rw [e2, upd_ne (Ne.symm n2), ← e2]; exact h2, h3⟩
theorem Dr.head {H : Hp} {d : Addr} (h : Dr H d) : ∃ c, HeadC H d c := by
  obtain ⟨c0, ns, i, a, b2, f, h1, h2, h3⟩ := h
  exact ⟨c0, _, h1⟩
theorem HeadC.upd {H : Hp} {d c b : Addr} {o : HO} (h : HeadC H d c) (n1 : b ≠ d) : HeadC (L2.upd H b o) d c := by
  obtain ⟨r, h⟩ := h
  exact ⟨r, by rw [upd_ne (Ne.symm n1)]; exact h⟩
end NC
namespace NC
open PySem PySem.Spec PyProof.Rows L2
abbrev sSame : Stmt := topS 49
theorem scSame : FnScope ["_law_x", "_law_due", "_law_k"] ["_law_x", "_law_due"] (defScope sSame) := ⟨rfl, rfl, rfl, by decide +kernel, rfl, by decide +kernel, by decide +kernel⟩
theorem boot_isi : bootBuiltins "isinstance" = some (.builtin "isinstance") := PyProof.Rows.boot_isinstance
/-- two things that are the same all through, at most n lists or tuples within one another -/
inductive Alk (H : Hp) : Nat → V → V → Prop where
  | str {n : Nat} (a : Str) : Alk H n (.str a) (.str a)
  | bl {n : Nat} (a : Bool) : Alk H n (.bl a) (.bl a)
  | int {n : Nat} (a : Int) : Alk H n (.int a) (.int a)
  | non {n : Nat} : Alk H n .non .non
  | lst {n : Nat} {p r : Addr} {xs ys : List V} (ep : H p = some (.lst xs)) (er : H r = some (.lst ys)) (hl : xs.length = ys.length) (h5 : ys.length ≤ 5000) (h : ∀ (i : Nat) a b, xs[i]? = some a → ys[i]? = some b → Alk H n a b) : Alk H (n + 1) (.ref p) (.ref r)
  | tup {n : Nat} {p r : Addr} {xs ys : List V} (ep : H p = some (.tup xs)) (er : H r = some (.tup ys)) (hl : xs.length = ys.length) (h5 : ys.length ≤ 5000) (h : ∀ (i : Nat) a b, xs[i]? = some a → ys[i]? = some b → Alk H n a b) : Alk H (n + 1) (.ref p) (.ref r)
theorem Alk.same {H H' : Hp} (s : Same H H') : ∀ {n : Nat} {x y : V}, Alk H n x y → Alk H' n x y
  | _, _, _, .str a => .str a
  | _, _, _, .bl a => .bl a
  | _, _, _, .int a => .int a
  | _, _, _, .non => .non
  | _, _, _, .lst ep er hl h5 h => .lst (s _ _ ep) (s _ _ er) hl h5 fun i a b ha hb => (h i a b ha hb).same s
  | _, _, _, .tup ep er hl h5 h => .tup (s _ _ ep) (s _ _ er) hl h5 fun i a b ha hb => (h i a b ha hb).same s
theorem Alk.strs {H : Hp} {n : Nat} {p r : Addr} {xs : List Str} (ep : H p = some (.lst (xs.map V.str))) (er : H r = some (.lst (xs.map V.str))) (h5 : xs.length ≤ 5000) : Alk H (n + 1) (.ref p) (.ref r) :=
  .lst ep er rfl (by rw [List.length_map]; exact h5) fun i a b ha hb => by
    rw [ha] at hb
    cases hb
    rw [List.getElem?_map] at ha
    obtain ⟨z, _, rfl⟩ := Option.map_eq_some_iff.mp ha
    exact .str z
section
variable {P : Program} {w : World} {K : PySem.W.Frag} {mg : Str → Option Value} {base : Heap}
/-- yes alone: only of what is the same -/
def spYes : Nat → Sp := fun n vs H Q _ => ∃ x y, vs = [x, y] ∧ Alk H n x y ∧ ∀ H', Same H H' → Q (.bl true) H'
def spNo : Sp := fun _ _ _ _ => False
theorem range_true (n : Nat) : ((List.range n).map fun _ => true).all id = true := by
  rw [List.all_eq_true]
  intro x hx
  obtain ⟨_, _, e⟩ := List.mem_map.mp hx
  rw [← e]
  rfl
theorem dec_self (x : V) : decide (x = x) = true := decide_eq_true rfl
set_option maxHeartbeats 2000000 in
theorem ok_yes1 {f : Addr} {fd : FuncData} {k : Nat} {spR : Sp} {n : Nat} (B : BM mg) (hb : mg "bool" = none) (hst : mg "str" = none) (D : DF K mg "_law_same" sSame ["_law_x", "_law_due"] f fd) (GS : FnOk P w K mg base CX0 k f fd ["_law_x", "_law_due"] spR)
    (hR : ∀ m, n = m + 1 → ∀ a b H (Q : VK) E, Alk H m a b → (∀ H', Same H H' → Q (.bl true) H') → spR [a, b] H Q E) :
    FnOk P w K mg base CX0 (k + 1) f fd ["_law_x", "_law_due"] (spYes n) := by
  refine D.F.ok scSame (fun vs H Q E h => ?_) (fun cdv A outer s H vs Q E hr h => ?_)
  · obtain ⟨x, y, rfl, _⟩ := h
    rfl
  · obtain ⟨x, y, rfl, al, q⟩ := h
    refine ⟨_, pss_cons (ps_if (pt_val (pe_callB call_isiT (by rfl) B.isinstance boot_isi (pa_cons (pv 1) (pa_cons (pe_tup (pa_cons (pe_bltn (v := .ty "list") (by rfl) B.list (by decide +kernel) rfl) (pa_cons (pe_bltn (v := .ty "tuple") (by rfl) B.tuple (by decide +kernel) rfl) pa_nil))) pa_nil))))
        (pss_cons (ps_if (PW.pt (pw_or
            (pt_cmpR op_ne (pe_callB call_isi (by rfl) B.isinstance boot_isi (pa_cons (pv 1) (pa_cons (pe_bltn (v := .ty "list") (by rfl) B.list (by decide +kernel) rfl) pa_nil))) (pe_callB call_isi (by rfl) B.isinstance boot_isi (pa_cons (pv 0) (pa_cons (pe_bltn (v := .ty "list") (by rfl) B.list (by decide +kernel) rfl) pa_nil))) (nomark _))
            (pw_or1 (pt_cmpR op_ne (pe_callB call_isi (by rfl) B.isinstance boot_isi (pa_cons (pv 1) (pa_cons (pe_bltn (v := .ty "tuple") (by rfl) B.tuple (by decide +kernel) rfl) pa_nil))) (pe_callB call_isi (by rfl) B.isinstance boot_isi (pa_cons (pv 0) (pa_cons (pe_bltn (v := .ty "tuple") (by rfl) B.tuple (by decide +kernel) rfl) pa_nil))) (nomark _)))))
          (pss_one (ps_ret pe_bl)) pss_nil)
        (pss_one (ps_ret (pe_and (pe_cmpR op_eq (pe_callB call_len_seq (by rfl) B.len PySem.boot_len (pa_cons (pv 0) pa_nil)) (pe_callB call_len_seq (by rfl) B.len PySem.boot_len (pa_cons (pv 1) pa_nil)) (nomark _))
          (pe_one (pe_callB (cr_all rfl) (by rfl) B.all (by decide +kernel) (pa_cons (pe_lc (own := [("_law_k", 2)]) (g := gName 2) (tt := tYes) (te := tCall spR [] E0 (tCons (tOp (fun x y H Q => rIxL K x y H Q ∨ rIxT K x y H Q) (tVar 0) (tVar 2)) (tCons (tOp (fun x y H Q => rIxL K x y H Q ∨ rIxT K x y H Q) (tVar 1) (tVar 2)) tNil))) rfl scSame.nd (pi_range1 (by rfl) B.range (pa_cons (pe_callB call_len_seq (by rfl) B.len PySem.boot_len (pa_cons (pv 1) pa_nil)) pa_nil))
            (blkOk_by (N := ["_law_x", "_law_due", "_law_k"]) (sc := defScope sSame) (by decide +kernel)) (fun _ _ _ _ _ => pg_name (i := 2) scSame.nd rfl (Or.inl rfl)) (fun _ _ _ _ _ => pts_nil)
            (fun _ _ _ _ _ => pe_call GS hr rfl D.g D.F.kp D.b .nil pass0 (pa_cons (pe_ix (IxR.or ix_list ix_tup) (pv 0) (pv 2) (fun _ _ => rfl)) (pa_cons (pe_ix (IxR.or ix_list ix_tup) (pv 1) (pv 2) (fun _ _ => rfl)) pa_nil)))) pa_nil)))))))
        pss_nil)
      (pss_cons (ps_if (PW.pt (pw_or
            (pt_cmpR op_ne (pe_callB call_isi (by rfl) B.isinstance boot_isi (pa_cons (pv 0) (pa_cons (pe_bltn (v := .ty "bool") (by rfl) hb (by decide +kernel) rfl) pa_nil))) (pe_callB call_isi (by rfl) B.isinstance boot_isi (pa_cons (pv 1) (pa_cons (pe_bltn (v := .ty "bool") (by rfl) hb (by decide +kernel) rfl) pa_nil))) (nomark _))
            (pw_or1 (pt_cmpR op_ne (pe_callB call_isi (by rfl) B.isinstance boot_isi (pa_cons (pv 0) (pa_cons (pe_bltn (v := .ty "str") (by rfl) hst (by decide +kernel) rfl) pa_nil))) (pe_callB call_isi (by rfl) B.isinstance boot_isi (pa_cons (pv 1) (pa_cons (pe_bltn (v := .ty "str") (by rfl) hst (by decide +kernel) rfl) pa_nil))) (nomark _)))))
          (pss_one (ps_ret pe_bl)) pss_nil)
      (pss_one (ps_ret (pe_and (pe_cmpR op_eq (pe_cmp (pc_isN (pv 0))) (pe_cmp (pc_isN (pv 1))) (nomark _)) (pe_one (pe_cmpR op_eq (pv 0) (pv 1) (nomark _))))))), ?_⟩
    cases al with
    | str a =>
      refine ⟨_, rfl, by show 2 ≤ sizeLine; decide, fun T nT => ⟨_, T, _, .type "str", [.type "list", .type "tuple"], false, rfl, upd_same, .cons (.ty _) (.cons (.ty _) .nil), .base (.str _), kitAny_cons (kit_ty (b := "list") (r := false) (by decide +kernel)) (fun _ => kitAny_cons (kit_ty (b := "tuple") (r := false) (by decide +kernel)) (fun _ => rfl) (fun z => by cases z)) (fun z => by cases z), _, rfl, iteF ?_⟩⟩
      refine ⟨_, rfl, _, _, .type "str", .type "bool", false, rfl, .ty _, .base (.str _), kit_ty (by decide +kernel), _, rfl, _, _, .type "str", .type "bool", false, rfl, .ty _, .base (.str _), kit_ty (by decide +kernel), rfl, _, rfl, ite2 (fun z => absurd z (by decide)) (fun _ => ?_)⟩
      refine ⟨_, rfl, _, _, .type "str", .type "str", true, rfl, .ty _, .base (.str _), kit_ty (by decide +kernel), _, rfl, _, _, .type "str", .type "str", true, rfl, .ty _, .base (.str _), kit_ty (by decide +kernel), rfl, _, rfl, ite2 (fun z => absurd z (by decide)) (fun _ => ?_)⟩
      refine ⟨_, rfl, _, rfl, rfl, _, rfl, ?_⟩
      rw [dec_self]
      refine iteT ⟨_, rfl, _, rfl, rfl, ?_⟩
      rw [dec_self]
      exact q _ (same_upd nT)
    | bl a =>
      refine ⟨_, rfl, by show 2 ≤ sizeLine; decide, fun T nT => ⟨_, T, _, .type "bool", [.type "list", .type "tuple"], false, rfl, upd_same, .cons (.ty _) (.cons (.ty _) .nil), .base (.bl _), kitAny_cons (kit_ty (b := "list") (r := false) (by decide +kernel)) (fun _ => kitAny_cons (kit_ty (b := "tuple") (r := false) (by decide +kernel)) (fun _ => rfl) (fun z => by cases z)) (fun z => by cases z), _, rfl, iteF ?_⟩⟩
      refine ⟨_, rfl, _, _, .type "bool", .type "bool", true, rfl, .ty _, .base (.bl _), kit_ty (by decide +kernel), _, rfl, _, _, .type "bool", .type "bool", true, rfl, .ty _, .base (.bl _), kit_ty (by decide +kernel), rfl, _, rfl, ite2 (fun z => absurd z (by decide)) (fun _ => ?_)⟩
      refine ⟨_, rfl, _, _, .type "bool", .type "str", false, rfl, .ty _, .base (.bl _), kit_ty (by decide +kernel), _, rfl, _, _, .type "bool", .type "str", false, rfl, .ty _, .base (.bl _), kit_ty (by decide +kernel), rfl, _, rfl, ite2 (fun z => absurd z (by decide)) (fun _ => ?_)⟩
      refine ⟨_, rfl, _, rfl, rfl, _, rfl, ?_⟩
      rw [dec_self]
      refine iteT ⟨_, rfl, _, rfl, rfl, ?_⟩
      rw [dec_self]
      exact q _ (same_upd nT)
    | int a =>
      refine ⟨_, rfl, by show 2 ≤ sizeLine; decide, fun T nT => ⟨_, T, _, .type "int", [.type "list", .type "tuple"], false, rfl, upd_same, .cons (.ty _) (.cons (.ty _) .nil), .base (.int _), kitAny_cons (kit_ty (b := "list") (r := false) (by decide +kernel)) (fun _ => kitAny_cons (kit_ty (b := "tuple") (r := false) (by decide +kernel)) (fun _ => rfl) (fun z => by cases z)) (fun z => by cases z), _, rfl, iteF ?_⟩⟩
      refine ⟨_, rfl, _, _, .type "int", .type "bool", false, rfl, .ty _, .base (.int _), kit_ty (by decide +kernel), _, rfl, _, _, .type "int", .type "bool", false, rfl, .ty _, .base (.int _), kit_ty (by decide +kernel), rfl, _, rfl, ite2 (fun z => absurd z (by decide)) (fun _ => ?_)⟩
      refine ⟨_, rfl, _, _, .type "int", .type "str", false, rfl, .ty _, .base (.int _), kit_ty (by decide +kernel), _, rfl, _, _, .type "int", .type "str", false, rfl, .ty _, .base (.int _), kit_ty (by decide +kernel), rfl, _, rfl, ite2 (fun z => absurd z (by decide)) (fun _ => ?_)⟩
      refine ⟨_, rfl, _, rfl, rfl, _, rfl, ?_⟩
      rw [dec_self]
      refine iteT ⟨_, rfl, _, rfl, rfl, ?_⟩
      rw [dec_self]
      exact q _ (same_upd nT)
    | non =>
      refine ⟨_, rfl, by show 2 ≤ sizeLine; decide, fun T nT => ⟨_, T, _, .type "NoneType", [.type "list", .type "tuple"], false, rfl, upd_same, .cons (.ty _) (.cons (.ty _) .nil), .base .non, kitAny_cons (kit_ty (b := "list") (r := false) (by decide +kernel)) (fun _ => kitAny_cons (kit_ty (b := "tuple") (r := false) (by decide +kernel)) (fun _ => rfl) (fun z => by cases z)) (fun z => by cases z), _, rfl, iteF ?_⟩⟩
      refine ⟨_, rfl, _, _, .type "NoneType", .type "bool", false, rfl, .ty _, .base .non, kit_ty (by decide +kernel), _, rfl, _, _, .type "NoneType", .type "bool", false, rfl, .ty _, .base .non, kit_ty (by decide +kernel), rfl, _, rfl, ite2 (fun z => absurd z (by decide)) (fun _ => ?_)⟩
      refine ⟨_, rfl, _, _, .type "NoneType", .type "str", false, rfl, .ty _, .base .non, kit_ty (by decide +kernel), _, rfl, _, _, .type "NoneType", .type "str", false, rfl, .ty _, .base .non, kit_ty (by decide +kernel), rfl, _, rfl, ite2 (fun z => absurd z (by decide)) (fun _ => ?_)⟩
      refine ⟨_, rfl, _, rfl, rfl, _, rfl, ?_⟩
      rw [dec_self]
      refine iteT ⟨_, rfl, _, rfl, rfl, ?_⟩
      rw [dec_self]
      exact q _ (same_upd nT)
    | @lst m p r xs ys ep er hl h5 hal =>
      have s1 : ∀ {T : Addr}, H T = none → ∀ {o : HO}, (upd H T o) p = some (.lst xs) ∧ (upd H T o) r = some (.lst ys) := fun {T} nT {o} => ⟨by rw [upd_ne (ne_of_none ep nT)]; exact ep, by rw [upd_ne (ne_of_none er nT)]; exact er⟩
      refine ⟨_, rfl, by show 2 ≤ sizeLine; decide, fun T nT => ⟨_, T, _, .type "list", [.type "list", .type "tuple"], true, rfl, upd_same, .cons (.ty _) (.cons (.ty _) .nil), .base (.lst (s1 nT).2), kitAny_cons (kit_ty (b := "list") (r := true) (by decide +kernel)) (fun z => by cases z) (fun _ => rfl), _, rfl, iteT ?_⟩⟩
      have sT : Same H (upd H T (.tup [V.ty "list", V.ty "tuple"])) := same_upd nT
      generalize (upd H T (.tup [V.ty "list", V.ty "tuple"])) = H1 at sT ⊢
      have ep1 := sT _ _ ep
      have er1 := sT _ _ er
      refine ⟨_, rfl, _, _, .type "list", .type "list", true, rfl, .ty _, .base (.lst er1), kit_ty (by decide +kernel), _, rfl, _, _, .type "list", .type "list", true, rfl, .ty _, .base (.lst ep1), kit_ty (by decide +kernel), rfl, _, rfl, ite2 (fun z => absurd z (by decide)) (fun _ => ?_)⟩
      refine ⟨_, rfl, _, _, .type "list", .type "tuple", false, rfl, .ty _, .base (.lst er1), kit_ty (by decide +kernel), _, rfl, _, _, .type "list", .type "tuple", false, rfl, .ty _, .base (.lst ep1), kit_ty (by decide +kernel), rfl, _, rfl, ite2 (fun z => absurd z (by decide)) (fun _ => ?_)⟩
      refine ⟨_, rfl, p, _, rfl, .inl (SqL.of ep1), _, rfl, r, _, rfl, .inl (SqL.of er1), rfl, _, rfl, ?_⟩
      rw [hl, dec_self]
      refine iteT ⟨_, rfl, r, _, rfl, .inl (SqL.of er1), _, rfl, by omega, by omega, ?_⟩
      rw [show ((ys.length : Nat) : Int).toNat = ys.length by exact Int.toNat_natCast _]
      intro Da nD
      refine lc_it walk_range (fun i H' => Same H1 H' ∧ H' Da = some (.lst (((List.range i).map fun _ => true).map V.bl))) ⟨same_upd nD, upd_same⟩ (fun _ _ _ _ => trivial) ?_ ?_
      · rintro i v H2 H3 hi ⟨s2, e2⟩ ⟨rfl, rfl⟩
        have hx : i < xs.length := by omega
        have ax : atI xs (0 + (i : Int)) = some xs[i] := by
          rw [show (0 + (i : Int)) = ((i : Nat) : Int) by omega]
          exact atI_nat (List.getElem?_eq_getElem hx)
        have ay : atI ys (0 + (i : Int)) = some ys[i] := by
          rw [show (0 + (i : Int)) = ((i : Nat) : Int) by omega]
          exact atI_nat (List.getElem?_eq_getElem hi)
        refine ⟨rfl, yes_i ⟨_, rfl, _, rfl, .inl ⟨p, _, _, _, rfl, rfl, SqL.of (s2 _ _ ep1), ax, _, rfl, _, rfl, .inl ⟨r, _, _, _, rfl, rfl, SqL.of (s2 _ _ er1), ay, hR m rfl _ _ _ _ _ ((hal i _ _ (List.getElem?_eq_getElem hx) (List.getElem?_eq_getElem hi)).same (sm_trans sT s2)) fun H4 s4 => ⟨_, s4 _ _ e2, ?_, sm_over (sm_trans s2 s4) nD, ?_⟩⟩⟩⟩⟩
        · rw [List.length_map, List.length_map, List.length_range, sizeLine_eq]
          omega
        · rw [upd_same, List.range_succ, List.map_append, List.map_append]
          rfl
      · rintro H2 ⟨s2, e2⟩
        refine ⟨_, _, rfl, SqL.of e2, ?_⟩
        rw [range_true]
        exact q _ (sm_trans sT s2)
    | @tup m p r xs ys ep er hl h5 hal =>
      have s1 : ∀ {T : Addr}, H T = none → ∀ {o : HO}, (upd H T o) p = some (.tup xs) ∧ (upd H T o) r = some (.tup ys) := fun {T} nT {o} => ⟨by rw [upd_ne (ne_of_none ep nT)]; exact ep, by rw [upd_ne (ne_of_none er nT)]; exact er⟩
      refine ⟨_, rfl, by show 2 ≤ sizeLine; decide, fun T nT => ⟨_, T, _, .type "tuple", [.type "list", .type "tuple"], true, rfl, upd_same, .cons (.ty _) (.cons (.ty _) .nil), .base (.tup (s1 nT).2), kitAny_cons (kit_ty (b := "list") (r := false) (by decide +kernel)) (fun _ => kitAny_cons (kit_ty (b := "tuple") (r := true) (by decide +kernel)) (fun z => by cases z) (fun _ => rfl)) (fun z => by cases z), _, rfl, iteT ?_⟩⟩
      have sT : Same H (upd H T (.tup [V.ty "list", V.ty "tuple"])) := same_upd nT
      generalize (upd H T (.tup [V.ty "list", V.ty "tuple"])) = H1 at sT ⊢
      have ep1 := sT _ _ ep
      have er1 := sT _ _ er
      refine ⟨_, rfl, _, _, .type "tuple", .type "list", false, rfl, .ty _, .base (.tup er1), kit_ty (by decide +kernel), _, rfl, _, _, .type "tuple", .type "list", false, rfl, .ty _, .base (.tup ep1), kit_ty (by decide +kernel), rfl, _, rfl, ite2 (fun z => absurd z (by decide)) (fun _ => ?_)⟩
      refine ⟨_, rfl, _, _, .type "tuple", .type "tuple", true, rfl, .ty _, .base (.tup er1), kit_ty (by decide +kernel), _, rfl, _, _, .type "tuple", .type "tuple", true, rfl, .ty _, .base (.tup ep1), kit_ty (by decide +kernel), rfl, _, rfl, ite2 (fun z => absurd z (by decide)) (fun _ => ?_)⟩
      refine ⟨_, rfl, p, _, rfl, .inr (SqT.of ep1), _, rfl, r, _, rfl, .inr (SqT.of er1), rfl, _, rfl, ?_⟩
      rw [hl, dec_self]
      refine iteT ⟨_, rfl, r, _, rfl, .inr (SqT.of er1), _, rfl, by omega, by omega, ?_⟩
      rw [show ((ys.length : Nat) : Int).toNat = ys.length by exact Int.toNat_natCast _]
      intro Da nD
      refine lc_it walk_range (fun i H' => Same H1 H' ∧ H' Da = some (.lst (((List.range i).map fun _ => true).map V.bl))) ⟨same_upd nD, upd_same⟩ (fun _ _ _ _ => trivial) ?_ ?_
      · rintro i v H2 H3 hi ⟨s2, e2⟩ ⟨rfl, rfl⟩
        have hx : i < xs.length := by omega
        have ax : atI xs (0 + (i : Int)) = some xs[i] := by
          rw [show (0 + (i : Int)) = ((i : Nat) : Int) by omega]
          exact atI_nat (List.getElem?_eq_getElem hx)
        have ay : atI ys (0 + (i : Int)) = some ys[i] := by
          rw [show (0 + (i : Int)) = ((i : Nat) : Int) by omega]
          exact atI_nat (List.getElem?_eq_getElem hi)
        refine ⟨rfl, yes_i ⟨_, rfl, _, rfl, .inr ⟨p, _, _, _, rfl, rfl, SqT.of (s2 _ _ ep1), ax, _, rfl, _, rfl, .inr ⟨r, _, _, _, rfl, rfl, SqT.of (s2 _ _ er1), ay, hR m rfl _ _ _ _ _ ((hal i _ _ (List.getElem?_eq_getElem hx) (List.getElem?_eq_getElem hi)).same (sm_trans sT s2)) fun H4 s4 => ⟨_, s4 _ _ e2, ?_, sm_over (sm_trans s2 s4) nD, ?_⟩⟩⟩⟩⟩
        · rw [List.length_map, List.length_map, List.length_range, sizeLine_eq]
          omega
        · rw [upd_same, List.range_succ, List.map_append, List.map_append]
          rfl
      · rintro H2 ⟨s2, e2⟩
        refine ⟨_, _, rfl, SqL.of e2, ?_⟩
        rw [range_true]
        exact q _ (sm_trans sT s2)
theorem ok_yes {f : Addr} {fd : FuncData} {k : Nat} (B : BM mg) (hb : mg "bool" = none) (hst : mg "str" = none) (D : DF K mg "_law_same" sSame ["_law_x", "_law_due"] f fd) : ∀ n, FnOk P w K mg base CX0 (k + n + 2) f fd ["_law_x", "_law_due"] (spYes n)
  | 0 => ok_yes1 (spR := spNo) B hb hst D (D.F.ok scSame (fun vs H Q E h => h.elim) (fun cdv A outer s H vs Q E hr h => h.elim)) fun m e => by cases e
  | n + 1 => ok_yes1 B hb hst D (ok_yes B hb hst D n) fun m e a b H Q E al q => by
    cases e
    exact ⟨a, b, rfl, al, q⟩
end
end NC
namespace NC
open PySem PySem.Spec PyProof.Rows L2
abbrev sHroom : Stmt := inClass (topS 28) 5
abbrev sHrooms : Stmt := inClass (topS 28) 6
abbrev sHgoes : Stmt := inClass (topS 28) 7
theorem scHroom : FnScope ["self", "room", "bar"] ["self", "room"] (defScope sHroom) := ⟨rfl, rfl, rfl, by decide +kernel, rfl, by decide +kernel, by decide +kernel⟩
theorem scHrooms : FnScope ["self", "begun", "wall", "room", "side"] ["self"] (defScope sHrooms) := ⟨rfl, rfl, rfl, by decide +kernel, rfl, by decide +kernel, by decide +kernel⟩
theorem scHgoes : FnScope ["self", "side", "begun", "forced", "had"] ["self", "side", "begun"] (defScope sHgoes) := ⟨rfl, rfl, rfl, by decide +kernel, rfl, by decide +kernel, by decide +kernel⟩
structure HM (K : PySem.W.Frag) (C fm fr fg : Addr) (dm dr dg : FuncData) : Prop where
  mm : Meth K C "is_room" fm
  Fm : Fun K "is_room" "Hall.is_room" sHroom fm dm
  bm : Binds K dm ["self", "room"] []
  mr : Meth K C "rooms" fr
  Fr : Fun K "rooms" "Hall.rooms" sHrooms fr dr
  br : Binds K dr ["self"] []
  mg : Meth K C "goes_with" fg
  Fg : Fun K "goes_with" "Hall.goes_with" sHgoes fg dg
  bg : Binds K dg ["self", "side", "begun"] []
theorem mem_tx0 {x : List Nat} {bs : List (List Nat)} : tx x ∈ bs.map tx ↔ x ∈ bs := by
  constructor
  · intro h
    obtain ⟨y, hy, e⟩ := List.mem_map.mp h
    rw [← tx_inj e]
    exact hy
  · exact fun h => List.mem_map.mpr ⟨x, h, rfl⟩
theorem str00 : (Str.ofString "") = tx [] := by decide +kernel
theorem HallAt.same {C : Addr} {H H' : Hp} {x dx sb D : Addr} {l : List Nat} {ys : List Str} {fo : Nat → List Nat} (h : HallAt C H x dx sb D l ys fo) (s : Same H H') : HallAt C H' x dx sb D l ys fo := ⟨s _ _ h.x, s _ _ h.sb, s _ _ h.D⟩
theorem prT_len (l : List Nat) (fo : Nat → List Nat) (k : Nat) : (prT l fo k).length ≤ 2 ^ k := by
  rw [prT_eq]
  refine Nat.le_trans (List.length_filter_le _ _) ?_
  rw [allT_len]
  exact Nat.le_refl _
theorem prT_sds {l : List Nat} (g : GoodW l) (fo : Nat → List Nat) {k : Nat} (hk : k ≤ l.length) : ∀ r ∈ prT l fo k, r.length = k ∧ ∀ c ∈ r, c ∈ sds l := fun r hr => by
  rw [prT_eq] at hr
  have hr := (List.mem_filter.mp hr).1
  obtain ⟨p, rfl⟩ := (allT_mem g.nd hk r).mp hr
  refine ⟨by unfold rmOf; rw [List.length_map, List.length_take]; omega, fun c hc => ?_⟩
  unfold rmOf at hc
  obtain ⟨e, he, rfl⟩ := List.mem_map.mp hc
  have he := List.mem_of_mem_take he
  by_cases h : p e = true
  · rw [if_pos h]; exact sds_of_small he
  · rw [if_neg h, upc_small (g.sm e he)]; exact sds_of_great g he
/-- a text is a room of the walls when it is one but for what is great -/
theorem room_low {l : List Nat} (g : GoodW l) (r : List Nat) : r ∈ allT l l.length ↔ r.map lwc = l := by
  have lw1 : ∀ {c : Nat}, c ∈ l → lwc c = c := fun {c} hc => by
    have := g.sm c hc
    unfold lwc
    rw [if_neg (by omega)]
  have lw2 : ∀ {c : Nat}, c ∈ l → lwc (upc c) = c := fun {c} hc => by
    have := g.sm c hc
    rw [upc_small this]
    unfold lwc
    rw [if_pos (by omega)]
    omega
  rw [allT_mem g.nd (Nat.le_refl _) r, List.take_length]
  constructor
  · rintro ⟨p, rfl⟩
    unfold rmOf
    rw [List.map_map]
    refine Eq.trans (List.map_congr_left fun c hc => ?_) (List.map_id l)
    show lwc (if p c then c else upc c) = c
    by_cases h : p c = true
    · rw [if_pos h]; exact lw1 hc
    · rw [if_neg h]; exact lw2 hc
  · intro h
    refine ⟨fun c => decide (c ∈ r), ?_⟩
    have hl : r.length = l.length := by rw [← h, List.length_map]
    refine List.ext_getElem (by unfold rmOf; rw [List.length_map]; exact hl) fun i h1 h2 => ?_
    have hil : i < l.length := by omega
    have ei : lwc r[i] = l[i] := by
      have : (r.map lwc)[i]'(by rw [List.length_map]; exact h1) = l[i] := by simp only [h]
      rw [List.getElem_map] at this
      exact this
    have hm : l[i] ∈ l := List.getElem_mem hil
    have sm := g.sm _ hm
    have eR : (rmOf l fun c => decide (c ∈ r))[i]'h2 = if decide (l[i] ∈ r) = true then l[i] else upc l[i] := by simp only [rmOf, List.getElem_map]
    rw [eR]
    by_cases hin : l[i] ∈ r
    · rw [if_pos (decide_eq_true hin)]
      obtain ⟨j, hj, ej⟩ := List.getElem_of_mem hin
      have ejl : lwc r[j] = l[j]'(by omega) := by
        have : (r.map lwc)[j]'(by rw [List.length_map]; exact hj) = l[j]'(by omega) := by simp only [h]
        rw [List.getElem_map] at this
        exact this
      rw [ej, lw1 hm] at ejl
      have : i = j := (List.getElem?_inj hil g.nd).mp (by rw [List.getElem?_eq_getElem hil, List.getElem?_eq_getElem (show j < l.length by omega), ejl])
      subst this
      exact ej
    · rw [if_neg (fun z => hin (of_decide_eq_true z)), upc_small sm]
      unfold lwc at ei
      by_cases hh : 65 ≤ r[i] ∧ r[i] ≤ 90
      · rw [if_pos hh] at ei
        omega
      · rw [if_neg hh] at ei
        exact absurd (by rw [← ei]; exact List.getElem_mem h1) hin
section
variable {P : Program} {w : World} {K : PySem.W.Frag} {mg : Str → Option Value} {base : Heap} {C fi fb fm fr fg : Addr} {di db dm dr dg : FuncData}
def spGoes (C : Addr) : Sp := fun vs H Q _ => ∃ x dx sb D l ys fo s r, vs = [.ref x, .str (sg s), .str (tx r)] ∧ HallAt C H x dx sb D l ys fo ∧ GoodW l ∧ s ∈ sds l ∧ (∀ c ∈ r, c ∈ sds l) ∧ r.length ≤ 100 ∧ ∀ H', Same H H' → Q (.bl (goes fo s r)) H'
def rSgn2 : R2 := fun x y H Q => ∃ (c : Nat) (z : Str), x = .str ⟨#[c]⟩ ∧ y = .str z ∧ Q (.bl (decide (c ∈ z.cps.toList))) H
set_option maxHeartbeats 1000000 in
theorem ok_Hgoes {fO : Addr} {fdO : FuncData} {k : Nat} (hany : mg "any" = none) (Z : HC K mg C fi fb di db) (M : HM K C fm fr fg dm dr dg) (O : DF K mg "other" sOther ["side"] fO fdO) : FnOk P w K mg base CX0 (k + 2) fg dg ["self", "side", "begun"] (spGoes C) := by
  have GO : FnOk P w K mg base CX0 (k + 1) fO fdO ["side"] spOther := ok_other O.F
  refine M.Fg.ok scHgoes (fun vs H Q E h => ?_) (fun cdv A outer st H vs Q E hr h => ?_)
  · obtain ⟨x, dx, sb, D, l, ys, fo, s, r, rfl, _⟩ := h
    rfl
  · obtain ⟨x, dx, sb, D, l, ys, fo, s, r, rfl, hA, g, hs, hrs, hrl, q⟩ := h
    have nd := scHgoes.nd
    refine ⟨_, pss_cons (ps_set (i := 3) nd rfl (.inr rfl) (pe_dget (hu_of hr) (pe_fld (pv 0) rfl) (pv 1) (fun _ _ => rfl)))
      (pss_one (ps_ret (pe_not (pe_callB (cr_any rfl) (by rfl) hany (by decide +kernel) (pa_cons (pe_lc (own := [("had", 4)]) (g := gName 4) (tt := tYes) (te := tOp rSgn2 (tCall spOther [] E0 (tCons (tVar 4) tNil)) (tVar 3)) rfl nd (pi_str (pv 2)) (blkOk_by (N := ["self", "side", "begun", "forced", "had"]) (sc := defScope sHgoes) (by decide +kernel)) (fun _ _ _ _ _ => pg_name (i := 4) nd rfl (Or.inl rfl)) (fun _ _ _ _ _ => pts_nil)
        (fun _ _ _ _ _ => pe_cmpR op_in_sign (pe_call GO hr rfl O.g O.F.kp O.b .nil pass0 (pa_cons (pv 4) pa_nil)) (pv 3) (by rfl))) pa_nil))))), ?_⟩
    refine ⟨_, rfl, x, C, dx, _, .ref D, rfl, hA.x, Z.cl, Z.n3, rfl, _, rfl, D, _, rfl, foK_get hA.D hs, ?_⟩
    refine ⟨_, rfl, tx r, rfl, fun Da na => ?_⟩
    have lz : (tx r).cps.size = r.length := tx_len _
    refine lc_it walk_str (fun i H' => Same H H' ∧ H' Da = some (.lst (((r.take i).map fun h => decide (swp h ∈ fo s)).map V.bl))) ⟨same_upd na, upd_same⟩ (fun _ _ _ _ => trivial) ?_ ?_
    · rintro i v H1 H2 hi ⟨s1, e1⟩ ⟨rfl, c, hc, rfl⟩
      have hcl : r[i]? = some c := by
        rw [← Array.getElem?_toList, tx_list] at hc
        exact hc
      refine ⟨rfl, yes_i ⟨_, rfl, c, rfl, sds_asc g (hrs c (List.mem_of_getElem? hcl)), _, rfl, swp c, tx (fo s), rfl, rfl, ?_⟩⟩
      rw [tx_list]
      refine ⟨_, e1, ?_, sm_over s1 na, ?_⟩
      · rw [List.length_map, List.length_map, List.length_take, sizeLine_eq]
        omega
      · rw [upd_same, List.take_add_one, hcl, List.map_append, List.map_append]
        rfl
    · rintro H1 ⟨s1, e1⟩
      rw [lz, List.take_length] at e1
      refine ⟨_, _, rfl, SqL.of e1, _, rfl, ?_⟩
      rw [show (!(r.map fun h => decide (swp h ∈ fo s)).any id) = goes fo s r by unfold goes; rw [List.any_map]; rfl]
      exact q _ s1
def spHrooms (C : Addr) : Sp := fun vs H Q _ => ∃ x dx sb D l ys fo, vs = [.ref x] ∧ HallAt C H x dx sb D l ys fo ∧ GoodW l ∧ ∀ H' p, Same H H' → H p = none → H' p = some (.lst (((prT l fo l.length).map tx).map V.str)) → Q (.ref p) H'
abbrev nHrooms : List Str := ["self", "begun", "wall", "room", "side"]
set_option maxHeartbeats 2000000 in
theorem ok_Hrooms {fO : Addr} {fdO : FuncData} {k : Nat} (hany : mg "any" = none) (Z : HC K mg C fi fb di db) (M : HM K C fm fr fg dm dr dg) (O : DF K mg "other" sOther ["side"] fO fdO) : FnOk P w K mg base CX0 (k + 3) fr dr ["self"] (spHrooms C) := by
  have GO : FnOk P w K mg base CX0 (k + 1) fO fdO ["side"] spOther := ok_other O.F
  have GG : FnOk P w K mg base CX0 (k + 2) fg dg ["self", "side", "begun"] (spGoes C) := ok_Hgoes hany Z M O
  refine M.Fr.ok scHrooms (fun vs H Q E h => ?_) (fun cdv A outer st H vs Q E hr h => ?_)
  · obtain ⟨x, dx, sb, D, l, ys, fo, rfl, _⟩ := h
    rfl
  · obtain ⟨x, dx, sb, D, l, ys, fo, rfl, hA, g, q⟩ := h
    have nd := scHrooms.nd
    have r1 : Room (k + 1) _ := hr.mono (by omega)
    refine ⟨_, pss_cons (ps_set (i := 1) nd rfl (.inl rfl) (pe_lst (pa_cons pe_str pa_nil)))
      (pss_cons (ps_for PassesOwn.never rfl (pi_str (pe_fld (pv 0) rfl)) (pg_name (i := 2) nd rfl (.inr rfl))
        (pss_one (ps_setLc2 (i := 1) (wi1 := iTup K (tTup (tCons (tCall spOther [] E0 (tCons (tVar 2) tNil)) (tCons (tVar 2) tNil)))) (own := [("room", 3), ("side", 4)]) (vs1 := [4]) (g := gName 3) (g1 := gName 4) (tt := tYes)
          (tt1 := tB (tMeth C "goes_with" (spGoes C) [] E0 (tVar 0) (tCons (tVar 4) (tCons (tVar 3) tNil)))) rfl nd rfl rfl (sw_true rfl rfl rfl (by decide +kernel)) (pi_list (pv 1))
          (blkOk_by (N := nHrooms) (sc := defScope sHrooms) (by decide +kernel)) (by decide)
          (fun _ _ _ _ _ => pg_name (i := 3) nd rfl (Or.inl rfl)) (fun _ _ _ _ _ => pts_nil)
          (fun _ _ _ _ _ => pi_tup (pe_tup (pa_cons (pe_call GO r1 rfl O.g O.F.kp O.b .nil pass0 (pa_cons (pv 2) pa_nil)) (pa_cons (pv 2) pa_nil))))
          (fun _ _ _ _ _ => pg_name (i := 4) nd rfl (Or.inl rfl))
          (fun _ _ _ _ _ => pts_one (pt_val (pe_meth (pv 0) Z.cl M.mg GG hr M.bg .nil pass0 (pa_cons (pv 4) (pa_cons (pv 3) pa_nil))))) (fun _ _ _ _ _ => pe_op op_add_str (pv 3) (pv 4)))))
      (pss_one (ps_ret (pv 1)))), ?_⟩
    have hl12 := g.hi
    refine ⟨by show 1 ≤ sizeLine; decide, fun p0 np0 => ?_⟩
    have lz : (tx l).cps.size = l.length := tx_len _
    have s0 : Same H (upd H p0 (.lst [V.str (Str.ofString "")])) := same_upd np0
    refine ⟨_, rfl, x, C, dx, _, .str (tx l), rfl, (hA.same s0).x, Z.cl, Z.n1, rfl, tx l, rfl, ?_⟩
    refine for_it walk_str (fun i σ H' => ∃ (p : Addr) (y2 y3 y4 : Option V), σ = [some (.ref x), some (.ref p), y2, y3, y4] ∧ Same H H' ∧ H p = none ∧ H' p = some (.lst (((prT l fo i).map tx).map V.str)))
      ⟨p0, _, _, _, rfl, s0, np0, by rw [upd_same, str00]; rfl⟩ (fun _ _ _ _ _ => trivial) ?_ ?_
    · rintro i v σ H1 H2 hi ⟨p, y2, y3, y4, rfl, s1, np, e1⟩ ⟨rfl, c, hc, rfl⟩
      rw [lz] at hi
      have hcl : l[i]? = some c := by
        rw [← Array.getElem?_toList, tx_list] at hc
        exact hc
      have hcm := List.mem_of_getElem? hcl
      have hca : c < 128 := g.asc c hcm
      have ecg : l.getD i 0 = c := by rw [List.getD_eq_getElem?_getD, hcl]; rfl
      have esw : swp c = upc c := by rw [swp_small (g.sm c hcm), upc_small (g.sm c hcm)]
      have wk := walk_list (K := K) (a := p) (xs := ((prT l fo i).map tx).map V.str)
      rw [List.length_map, List.length_map] at wk
      have tl := prT_len l fo i
      have tp : 2 ^ i ≤ 4096 := Nat.le_trans (Nat.pow_le_pow_right (by decide) (Nat.le_trans (Nat.le_of_lt hi) hl12)) (by decide)
      have hsd : ∀ e ∈ [swp c, c], e ∈ sds l := fun e he => by
        rcases List.mem_cons.mp he with z | z
        · rw [z]; exact sds_swp g (sds_of_small hcm)
        · rw [List.mem_singleton.mp z]; exact sds_of_small hcm
      refine ⟨_, rfl, p, rfl, ⟨_, SqL.of e1⟩, fun Da na => ?_⟩
      have nDH : H Da = none := L2.Same.free s1 na
      have npD : p ≠ Da := ne_of_none e1 na
      refine out_it wk (fun j H' => Same H2 H' ∧ H' Da = some (.lst (((((prT l fo i).take j).flatMap fun r => ([swp c, c].filter fun s => goes fo s r).map fun s => r ++ [s]).map tx).map V.str))) ⟨same_upd na, upd_same⟩ (fun j H' _ h => SqL.of (h.1 _ _ e1)) ?_ ?_
      · rintro j v G3 G4 hj ⟨u3, e3⟩ ⟨rfl, hx⟩
        rw [List.getElem?_map, List.getElem?_map] at hx
        obtain ⟨z, hz, rfl⟩ := Option.map_eq_some_iff.mp hx
        obtain ⟨r, hr2, rfl⟩ := Option.map_eq_some_iff.mp hz
        have hr3 := prT_sds g fo (Nat.le_of_lt hi) r (List.mem_of_getElem? hr2)
        have fl : ∀ (xs : List (List Nat)), (xs.flatMap fun r => ([swp c, c].filter fun s => goes fo s r).map fun s => r ++ [s]).length ≤ 2 * xs.length := fun xs => by
          induction xs with
          | nil => exact Nat.le_refl _
          | cons y t ih =>
            have e : (y :: t).length = t.length + 1 := rfl
            have h2 : ([swp c, c].filter fun s => goes fo s y).length ≤ 2 := List.length_filter_le _ _
            rw [List.flatMap_cons, List.length_append, e, List.length_map]
            omega
        refine ⟨rfl, yes_i ⟨_, rfl, c, rfl, hca, _, rfl, by show 2 ≤ sizeLine; decide, fun T hT => ⟨T, rfl, ⟨_, SqT.of upd_same⟩, ?_⟩⟩⟩
        have nDT : Da ≠ T := ne_of_none e3 hT
        refine in_it (walk_tup (K := K) (a := T) (xs := [swp c, c].map fun e => V.str (sg e))) (fun t H' => Same H2 H' ∧ SqT K H' T ([swp c, c].map fun e => V.str (sg e)) ∧
          H' Da = some (.lst ((((((prT l fo i).take j).flatMap fun r => ([swp c, c].filter fun s => goes fo s r).map fun s => r ++ [s]) ++ (([swp c, c].take t).filter fun s => goes fo s r).map fun s => r ++ [s]).map tx).map V.str)))
          ⟨sm_upd u3 hT, SqT.of upd_same, by rw [upd_ne nDT, e3]; simp⟩ (fun j H' _ h => h.2.1) ?_ ?_
        · rintro t v G5 G6 ht ⟨u5, hT5, e5⟩ ⟨rfl, hx⟩
          rw [List.getElem?_map] at hx
          obtain ⟨e, he, rfl⟩ := Option.map_eq_some_iff.mp hx
          have hes := hsd e (List.mem_of_getElem? he)
          have hA6 := hA.same (sm_trans s1 u5)
          refine ⟨rfl, _, rfl, x, dx, _, rfl, hA6.x, rfl, _, rfl, _, rfl, x, dx, sb, D, l, ys, fo, e, r, rfl, hA6, g, hes, hr3.2, by omega, fun G7 u7 => ⟨_, rfl, ?_⟩⟩
          have hT7 := sm_t u7 hT5
          have e7 := u7 _ _ e5
          refine ite2 (fun k1 => ?_) (fun k1 => ?_)
          · refine ⟨_, rfl, _, rfl, _, _, rfl, rfl, by rw [tx_len, hr3.1, sizeLine_eq]; show i + 1 ≤ _; omega, ?_⟩
            refine ⟨_, e7, ?_, sm_over (sm_trans u5 u7) na, ?_, ?_⟩
            · rw [List.length_map, List.length_map, List.length_append, sizeLine_eq]
              have f1 := fl ((prT l fo i).take j)
              have f2 : ((([swp c, c].take t).filter fun s => goes fo s r).map fun s => r ++ [s]).length ≤ 2 := by
                rw [List.length_map]
                exact Nat.le_trans (List.length_filter_le _ _) (by rw [List.length_take]; exact Nat.min_le_right _ _)
              have f3 : ((prT l fo i).take j).length ≤ 4096 := by rw [List.length_take]; omega
              have f1 : (((prT l fo i).take j).flatMap fun r => ([swp c, c].filter fun s => goes fo s r).map fun s => r ++ [s]).length ≤ 2 * ((prT l fo i).take j).length := f1
              omega
            · rcases hT7 with (z | ⟨o, z⟩) | z
              · exact .inl (.inl (by rw [upd_ne (Ne.symm nDT)]; exact z))
              · exact .inl (.inr ⟨o, by rw [upd_ne (Ne.symm nDT)]; exact z⟩)
              · exact .inr z
            · rw [upd_same, List.take_add_one, he, List.filter_append]
              rw [sg_tx, tx_app]
              simp [k1]
          · refine ⟨sm_trans u5 u7, hT7, ?_⟩
            rw [e7, List.take_add_one, he, List.filter_append]
            have k1 : goes fo e r = false := Bool.eq_false_iff.mpr k1
            simp [k1]
        · rintro G5 ⟨u5, _, e5⟩
          refine ⟨u5, ?_⟩
          rw [e5, List.take_add_one, hr2, List.flatMap_append]
          simp
      · rintro G3 ⟨u3, e3⟩
        rw [List.take_length] at e3
        refine ⟨Da, _, _, _, rfl, sm_trans s1 u3, nDH, ?_⟩
        rw [e3]
        show _ = some (HO.lst ((((prT l fo i).flatMap fun r => ([upc (l.getD i 0), l.getD i 0].filter fun s => goes fo s r).map fun s => r ++ [s]).map tx).map V.str))
        rw [ecg, esw]
    · rintro σ H1 ⟨p, y2, y3, y4, rfl, s1, np, e1⟩
      rw [lz] at e1
      exact ⟨_, rfl, q H1 p s1 np e1⟩
def spHroom (C : Addr) : Sp := fun vs H Q _ => ∃ x dx sb D l ys fo bs r, vs = [.ref x, .str (tx r)] ∧ HallAt C H x dx sb D l ys fo ∧ GoodW l ∧ (∀ b ∈ bs, isBar l b = true) ∧ ys.Perm (bs.map tx) ∧ bs.length ≤ 64 ∧ (∀ c ∈ r, c < 128) ∧ r.length ≤ 100 ∧ ∀ H', Same H H' → Q (.bl (decide (r ∈ rms l bs))) H'
set_option maxHeartbeats 1000000 in
theorem ok_Hroom {k : Nat} (hany : mg "any" = none) (Z : HC K mg C fi fb di db) (M : HM K C fm fr fg dm dr dg) : FnOk P w K mg base CX0 (k + 1) fm dm ["self", "room"] (spHroom C) := by
  refine M.Fm.ok scHroom (fun vs H Q E h => ?_) (fun cdv A outer st H vs Q E hr h => ?_)
  · obtain ⟨x, dx, sb, D, l, ys, fo, bs, r, rfl, _⟩ := h
    rfl
  · obtain ⟨x, dx, sb, D, l, ys, fo, bs, r, rfl, hA, g, hb, hp, hbn, hra, hrl, q⟩ := h
    have nd := scHroom.nd
    refine ⟨_, pss_cons (ps_if (pt_cmpR op_ne (pe_lower (pv 1)) (pe_fld (pv 0) rfl) (nomark _)) (pss_one (ps_ret pe_bl)) pss_nil)
      (pss_one (ps_ret (pe_not (pe_callB (cr_any rfl) (by rfl) hany (by decide +kernel) (pa_cons (pe_lc (own := [("bar", 2)]) (g := gName 2) (tt := tYes) (te := tAndV (tOp rSgn2 (tOp rIxS (tVar 2) (tC (.int 0))) (tVar 1)) (tOp rSgn2 (tOp rIxS (tVar 2) (tC (.int 1))) (tVar 1))) rfl nd (pi_list (pe_fld (pv 0) rfl)) (blkOk_by (N := ["self", "room", "bar"]) (sc := defScope sHroom) (by decide +kernel)) (fun _ _ _ _ _ => pg_name (i := 2) nd rfl (Or.inl rfl)) (fun _ _ _ _ _ => pts_nil)
        (fun _ _ _ _ _ => pe_and (pe_cmpR op_in_sign (pe_ix ix_str (pv 2) pe_int (fun _ _ => rfl)) (pv 1) (by rfl)) (pe_one (pe_cmpR op_in_sign (pe_ix ix_str (pv 2) pe_int (fun _ _ => rfl)) (pv 1) (by rfl))))) pa_nil))))), ?_⟩
    refine ⟨_, rfl, ⟨_, rfl⟩, _, rfl, rfl, by show r.toArray.size ≤ 5592405; rw [List.size_toArray]; omega, ?_⟩
    rw [lower_tx hra]
    refine ⟨_, rfl, x, C, dx, _, .str (tx l), rfl, hA.x, Z.cl, Z.n1, rfl, rfl, _, rfl, ite2 (fun t => ?_) (fun t => ?_)⟩
    · have hn : r ∉ rms l bs := fun z => by
        unfold rms at z
        have := (room_low g r).mp (List.mem_filter.mp z).1
        rw [this] at t
        simp at t
      have := q H (L2.Same.refl _)
      rw [decide_eq_false hn] at this
      exact this
    · have hlow : r.map lwc = l := by
        have t2 : tx (r.map lwc) = tx l := by simpa using t
        exact tx_inj t2
      have hall := (room_low g r).mpr hlow
      have yz : ys = (ys.map fun y => y.cps.toList).map tx := by
        rw [List.map_map]
        refine (Eq.trans (List.map_congr_left fun y _ => ?_) (List.map_id ys)).symm
        show Str.mk y.cps.toList.toArray = y
        rw [Array.toArray_toList]
      generalize hzs : (ys.map fun y => y.cps.toList) = zs at yz
      have mz : ∀ b, b ∈ zs ↔ b ∈ bs := fun b => by
        rw [← mem_tx0, ← mem_tx0, ← yz]
        exact hp.mem_iff
      have zl : zs.length ≤ 64 := by
        have := hp.length_eq
        rw [yz, List.length_map, List.length_map] at this
        omega
      rw [yz] at hA
      have wk := walk_list (K := K) (a := sb) (xs := (zs.map tx).map V.str)
      rw [List.length_map, List.length_map] at wk
      refine ⟨_, rfl, x, C, dx, _, .ref sb, rfl, hA.x, Z.cl, Z.n2, rfl, sb, rfl, ⟨_, SqL.of hA.sb⟩, fun Da na => ?_⟩
      refine lc_it wk (fun i H' => Same H H' ∧ H' Da = some (.lst (((zs.take i).map fun b => inR b r).map V.bl))) ⟨same_upd na, upd_same⟩ (fun i H' _ h => SqL.of (h.1 _ _ hA.sb)) ?_ ?_
      · rintro u v G5 G6 hu ⟨u5, ea⟩ ⟨rfl, hx⟩
        rw [List.getElem?_map, List.getElem?_map] at hx
        obtain ⟨z, hz, rfl⟩ := Option.map_eq_some_iff.mp hx
        obtain ⟨b, hb1, rfl⟩ := Option.map_eq_some_iff.mp hz
        obtain ⟨s, m, rfl, hs, hm, _⟩ := bar_two (hb b ((mz b).mp (List.mem_of_getElem? hb1)))
        have tz : (tx [s, m]).length ≤ sizeLine := by rw [tx_len, sizeLine_eq]; show 2 ≤ _; omega
        have fin : ∀ bb : Bool, bb = inR [s, m] r → ∃ acc, G6 Da = some (.lst acc) ∧ acc.length < sizeLine ∧ Same H (upd G6 Da (.lst (acc ++ [V.bl bb]))) ∧ upd G6 Da (.lst (acc ++ [V.bl bb])) Da = some (.lst (((zs.take (u + 1)).map fun b => inR b r).map V.bl)) := fun bb ebb => by
          refine ⟨_, ea, ?_, sm_over u5 na, ?_⟩
          · rw [List.length_map, List.length_map, List.length_take, sizeLine_eq]
            omega
          · rw [upd_same, List.take_add_one, hb1, List.map_append, List.map_append, ebb]
            rfl
        have ein : inR [s, m] r = (decide (s ∈ r) && decide (m ∈ r)) := by simp [inR]
        refine ⟨rfl, yes_i ⟨_, rfl, _, _, s, rfl, rfl, tz, rfl, _, rfl, s, tx r, rfl, rfl, ?_⟩⟩
        rw [tx_list]
        refine ⟨_, rfl, ite2 (fun k1 => ?_) (fun k1 => fin false (by rw [ein, Bool.eq_false_iff.mpr k1]; rfl))⟩
        refine ⟨_, rfl, _, _, m, rfl, rfl, tz, rfl, _, rfl, m, tx r, rfl, rfl, ?_⟩
        rw [tx_list]
        exact fin _ (by rw [ein, k1]; rfl)
      · rintro G5 ⟨u5, ea⟩
        rw [List.take_length] at ea
        refine ⟨Da, _, rfl, SqL.of ea, _, rfl, ?_⟩
        have e2 : (!(zs.map fun b => inR b r).any id) = decide (r ∈ rms l bs) := by
          rw [List.any_map, Bool.eq_iff_iff, decide_eq_true_eq]
          unfold rms
          rw [List.mem_filter]
          have e3 : (zs.any (id ∘ fun b => inR b r)) = bs.any fun b => inR b r := by
            rw [Bool.eq_iff_iff, List.any_eq_true, List.any_eq_true]
            exact ⟨fun ⟨b, h1, h2⟩ => ⟨b, (mz b).mp h1, h2⟩, fun ⟨b, h1, h2⟩ => ⟨b, (mz b).mpr h1, h2⟩⟩
          rw [e3]
          exact ⟨fun h => ⟨hall, h⟩, fun h => h.2⟩
        rw [e2]
        exact q _ u5
end
end NC
namespace NC
open PySem PySem.Spec PyProof.Rows L2
def dif (r g : List Nat) (k : Nat) : Bool := decide (r.getD k 0 ≠ g.getD k 0)
def ham (r g : List Nat) : Nat := ((List.range r.length).filter (dif r g)).length
def turnAt (r : List Nat) (i : Nat) : List Nat := r.set i (swp (r.getD i 0))
theorem turn_len (r : List Nat) (i : Nat) : (turnAt r i).length = r.length := List.length_set ..
theorem turn_cut {r : List Nat} {i : Nat} (h : i < r.length) : turnAt r i = r.take i ++ [swp (r.getD i 0)] ++ r.drop (i + 1) := by
  unfold turnAt
  rw [List.set_eq_take_append_cons_drop, if_pos h]
  simp
theorem turn_get {r : List Nat} {i k : Nat} (h : i < r.length) : (turnAt r i).getD k 0 = if k = i then swp (r.getD i 0) else r.getD k 0 := by
  unfold turnAt
  rw [List.getD_eq_getElem?_getD, List.getElem?_set]
  by_cases e : i = k
  · subst e
    rw [if_pos rfl, if_pos h, if_pos rfl]
    rfl
  · rw [if_neg e, if_neg (Ne.symm e), List.getD_eq_getElem?_getD]
theorem filter_one {p q : Nat → Bool} {n i : Nat} (hi : i < n) (hp : p i = true) (hq : q i = false) (hs : ∀ k, k ≠ i → p k = q k) : ((List.range n).filter p).length = ((List.range n).filter q).length + 1 := by
  induction n with
  | zero => exact absurd hi (Nat.not_lt_zero _)
  | succ n ih =>
    rw [List.range_succ, List.filter_append, List.filter_append, List.length_append, List.length_append]
    by_cases e : i = n
    · subst e
      have same : (List.range i).filter p = (List.range i).filter q := List.filter_congr fun k hk => hs k (by have := List.mem_range.mp hk; omega)
      rw [same]
      simp [hp, hq]
    · have := ih (by omega)
      have e2 : [n].filter p = [n].filter q := List.filter_congr fun k hk => by rw [List.mem_singleton.mp hk]; exact hs n (Ne.symm e)
      rw [e2]
      omega
theorem ham_zero {r g : List Nat} (hl : r.length = g.length) : ham r g = 0 ↔ r = g := by
  unfold ham
  rw [List.length_eq_zero_iff, List.filter_eq_nil_iff]
  constructor
  · intro h
    refine List.ext_getElem hl fun k h1 h2 => ?_
    have := h k (List.mem_range.mpr h1)
    unfold dif at this
    have e : r.getD k 0 = g.getD k 0 := by simpa using this
    rw [List.getD_eq_getElem?_getD, List.getD_eq_getElem?_getD, List.getElem?_eq_getElem h1, List.getElem?_eq_getElem h2] at e
    exact e
  · rintro rfl k _
    unfold dif
    simp
theorem ham_turn {r g : List Nat} {i : Nat} (hi : i < r.length) (hd : dif r g i = true) (hs : swp (r.getD i 0) = g.getD i 0) : ham r g = ham (turnAt r i) g + 1 := by
  unfold ham
  rw [turn_len]
  refine filter_one hi hd ?_ fun k hk => ?_
  · unfold dif
    rw [turn_get hi, if_pos rfl, hs]
    simp
  · unfold dif
    rw [turn_get hi, if_neg hk]
theorem ham_one {r : List Nat} {i : Nat} (hi : i < r.length) (hs : swp (r.getD i 0) ≠ r.getD i 0) : ham r (turnAt r i) = 1 := by
  have h : ham (turnAt r i) (turnAt r i) = 0 := (ham_zero rfl).mpr rfl
  have d : dif r (turnAt r i) i = true := by
    unfold dif
    rw [turn_get hi, if_pos rfl]
    exact decide_eq_true (Ne.symm hs)
  have := ham_turn (g := turnAt r i) hi d (by rw [turn_get hi, if_pos rfl])
  omega
theorem ham_tri {r s g : List Nat} (h1 : r.length = s.length) : ham r g ≤ ham r s + ham s g := by
  have aux : ∀ n, ((List.range n).filter (dif r g)).length ≤ ((List.range n).filter (dif r s)).length + ((List.range n).filter (dif s g)).length := fun n => by
    induction n with
    | zero => exact Nat.zero_le _
    | succ n ih =>
      rw [List.range_succ, List.filter_append, List.filter_append, List.filter_append, List.length_append, List.length_append, List.length_append]
      have one : ([n].filter (dif r g)).length ≤ ([n].filter (dif r s)).length + ([n].filter (dif s g)).length := by
        by_cases a : r.getD n 0 = g.getD n 0
        · have : dif r g n = false := decide_eq_false fun z => z a
          simp [this]
        · have hrg : dif r g n = true := decide_eq_true a
          by_cases b : r.getD n 0 = s.getD n 0
          · have : dif s g n = true := decide_eq_true fun z => a (b.trans z)
            simp [hrg, this]
          · have : dif r s n = true := decide_eq_true b
            simp [hrg, this]
      omega
  unfold ham
  rw [← h1]
  exact aux r.length
/-- of what is let by: no side forces its other one, no two sides force each other -/
theorem okv_use {l : List Nat} (g : GoodW l) {bs : List (List Nat)} (hb : ∀ b ∈ bs, isBar l b = true) (ok : Okv l bs) {s t : Nat} (hs : s ∈ sds l) (ht : t ∈ sds l) (h1 : Frc (adjOf bs) s t) (h2 : Frc (adjOf bs) t s) : t = s := by
  have fo := foC_mem g hb
  have v := ok (foC l bs) fo
  unfold vdOf at v
  split at v
  · cases v
  · split at v
    · cases v
    · rename_i h
      rw [List.findSome?_eq_none_iff] at h
      have h3 := h s hs
      rw [Option.map_eq_none_iff, List.find?_eq_none] at h3
      have h4 := h3 t ht
      refine Classical.byContradiction fun ne => h4 ?_
      unfold alP
      rw [decide_eq_true ((fo s hs t).mpr h1), decide_eq_true ne, decide_eq_true ((fo t ht s).mpr h2)]
      rfl
open Classical in
/-- of the sides that q has and p lacks there is one that forces no other of them -/
theorem sink {l : List Nat} (g : GoodW l) {bs : List (List Nat)} (hb : ∀ b ∈ bs, isBar l b = true) (ok : Okv l bs) {p q : Nat → Bool} (h : ∃ s ∈ sds l, val q s = true ∧ val p s = false) :
    ∃ s ∈ sds l, val q s = true ∧ val p s = false ∧ ∀ t, Frc (adjOf bs) s t → val q t = true → val p t = false → t = s := by
  let c : Nat → Nat := fun s => ((sds l).filter fun t => decide (Frc (adjOf bs) s t ∧ val p t = false)).length
  have main : ∀ n s, s ∈ sds l → val q s = true → val p s = false → c s = n → ∃ s ∈ sds l, val q s = true ∧ val p s = false ∧ ∀ t, Frc (adjOf bs) s t → val q t = true → val p t = false → t = s := fun n => by
    induction n using Nat.strongRecOn with
    | _ n ih =>
      intro s hs hq hp hc
      by_cases al : ∀ t, Frc (adjOf bs) s t → val q t = true → val p t = false → t = s
      · exact ⟨s, hs, hq, hp, al⟩
      · obtain ⟨t, ht⟩ := Classical.not_forall.mp al
        obtain ⟨f, ht⟩ := Classical.not_imp.mp ht
        obtain ⟨tq, ht⟩ := Classical.not_imp.mp ht
        obtain ⟨tp, ne⟩ := Classical.not_imp.mp ht
        have htm : t ∈ sds l := Frc.mem g hb hs f
        have less : c t < c s := by
          have sub : ∀ (L : List Nat), (∀ x ∈ L, x ∈ sds l) → s ∈ L → (L.filter fun x => decide (Frc (adjOf bs) t x ∧ val p x = false)).length < (L.filter fun x => decide (Frc (adjOf bs) s x ∧ val p x = false)).length := fun L hL hsL => by
            have le : ∀ (L : List Nat), (L.filter fun x => decide (Frc (adjOf bs) t x ∧ val p x = false)).length ≤ (L.filter fun x => decide (Frc (adjOf bs) s x ∧ val p x = false)).length := fun L => by
              induction L with
              | nil => exact Nat.le_refl _
              | cons x L ih2 =>
                rw [List.filter_cons, List.filter_cons]
                by_cases h1 : Frc (adjOf bs) t x ∧ val p x = false
                · rw [if_pos (decide_eq_true h1), if_pos (decide_eq_true ⟨f.trans h1.1, h1.2⟩)]
                  exact Nat.succ_le_succ ih2
                · rw [if_neg (fun z => h1 (of_decide_eq_true z))]
                  split
                  · exact Nat.le_succ_of_le ih2
                  · exact ih2
            induction L with
            | nil => cases hsL
            | cons x L ih2 =>
              rw [List.filter_cons, List.filter_cons]
              rcases List.mem_cons.mp hsL with e | e
              · subst e
                have no : ¬ (Frc (adjOf bs) t s ∧ val p s = false) := fun z => ne (okv_use g hb ok hs htm f z.1)
                rw [if_neg (fun z => no (of_decide_eq_true z)), if_pos (decide_eq_true ⟨Frc.refl, hp⟩)]
                exact Nat.lt_succ_of_le (le L)
              · have ih3 := ih2 (fun y hy => hL y (List.mem_cons_of_mem _ hy)) e
                by_cases h1 : Frc (adjOf bs) t x ∧ val p x = false
                · rw [if_pos (decide_eq_true h1), if_pos (decide_eq_true ⟨f.trans h1.1, h1.2⟩)]
                  exact Nat.succ_lt_succ ih3
                · rw [if_neg (fun z => h1 (of_decide_eq_true z))]
                  split
                  · exact Nat.lt_succ_of_lt ih3
                  · exact ih3
          exact sub (sds l) (fun _ h => h) hs
        exact ih (c t) (by omega) t htm tq tp rfl
  obtain ⟨s, hs, hq, hp⟩ := h
  exact main (c s) s hs hq hp rfl
end NC
namespace NC
open PySem PySem.Spec PyProof.Rows L2
theorem rm_get {l : List Nat} {p : Nat → Bool} {i : Nat} (h : i < l.length) : (rmOf l p).getD i 0 = if p l[i] then l[i] else upc l[i] := by
  unfold rmOf
  rw [List.getD_eq_getElem?_getD, List.getElem?_map, List.getElem?_eq_getElem h]
  rfl
theorem rm_len (l : List Nat) (p : Nat → Bool) : (rmOf l p).length = l.length := List.length_map ..
theorem val_small {p : Nat → Bool} {c : Nat} (h : 97 ≤ c ∧ c ≤ 122) : val p c = p c := by unfold val; rw [if_neg (by omega)]
theorem val_great {p : Nat → Bool} {c : Nat} (h : 97 ≤ c ∧ c ≤ 122) : val p (c - 32) = !p c := by unfold val; rw [if_pos (by omega), show c - 32 + 32 = c by omega]
theorem swp_sd {c : Nat} (h : 97 ≤ c ∧ c ≤ 122) (b : Bool) : swp (if b then c else upc c) = if !b then c else upc c := by
  cases b with
  | true =>
    show swp c = upc c
    rw [swp_small h, upc_small h]
  | false =>
    show swp (upc c) = c
    rw [upc_small h, swp_great (by omega)]
    omega
/-- a side of a wall: it is the one that q has there -/
theorem side_is {p : Nat → Bool} {c x : Nat} (h : 97 ≤ c ∧ c ≤ 122) (hx : lwc x = c) (hl : isLt x) (v : val p x = true) : x = if p c then c else upc c := by
  unfold lwc at hx
  rcases hl with z | z
  · rw [if_neg (by omega)] at hx
    subst hx
    rw [val_small h] at v
    rw [if_pos v]
  · rw [if_pos z] at hx
    have e : x = c - 32 := by omega
    rw [e, val_great h] at v
    have v : p c = false := by simpa using v
    rw [v, e, upc_small h]
    rfl
theorem lwc_swp {x : Nat} (h : isLt x) : lwc (swp x) = lwc x := by
  rcases h with z | z
  · rw [swp_small z]
    unfold lwc
    rw [if_pos (by omega), if_neg (by omega)]
    omega
  · rw [swp_great z]
    unfold lwc
    rw [if_neg (by omega), if_pos z]
theorem val_off {p : Nat → Bool} {c x : Nat} {b : Bool} (hl : isLt x) (hx : lwc x ≠ c) : val (fun y => if y = c then b else p y) x = val p x := by
  unfold lwc at hx
  unfold val
  rcases hl with z | z
  · rw [if_neg (by omega)] at hx
    rw [if_neg (by omega), if_neg (by omega)]
    show (if x = c then b else p x) = p x
    rw [if_neg hx]
  · rw [if_pos z] at hx
    rw [if_pos (by omega), if_pos (by omega)]
    show (!(if x + 32 = c then b else p (x + 32))) = !p (x + 32)
    rw [if_neg hx]
theorem door_near {l : List Nat} (g : GoodW l) {bs : List (List Nat)} (hb : ∀ b ∈ bs, isBar l b = true) (ok : Okv l bs) {r o : List Nat} (hr : r ∈ rms l bs) (ho : o ∈ rms l bs) (ne : r ≠ o) :
    ∃ i, i < r.length ∧ turnAt r i ∈ rms l bs ∧ ham r o = ham (turnAt r i) o + 1 := by
  obtain ⟨p, rfl, sp⟩ := (rms_mem g hb r).mp hr
  obtain ⟨q, rfl, sq⟩ := (rms_mem g hb o).mp ho
  have ex : ∃ s ∈ sds l, val q s = true ∧ val p s = false := by
    have : ∃ c ∈ l, p c ≠ q c := Classical.byContradiction fun no => ne (List.map_congr_left fun c hc => by
      have e : p c = q c := Classical.byContradiction fun z => no ⟨c, hc, z⟩
      rw [e])
    obtain ⟨c, hc, hne⟩ := this
    have sm := g.sm c hc
    cases hq : q c with
    | true =>
      refine ⟨c, sds_of_small hc, by rw [val_small sm]; exact hq, ?_⟩
      rw [val_small sm]
      rw [hq] at hne
      simpa using hne
    | false =>
      refine ⟨c - 32, sds_of_great g hc, by rw [val_great sm, hq]; rfl, ?_⟩
      rw [val_great sm]
      rw [hq] at hne
      have : p c = true := by simpa using hne
      rw [this]
      rfl
  obtain ⟨s, hs, hsq, hsp, only⟩ := sink g hb ok ex
  have slt := sds_lt g hs
  have hcm : lwc s ∈ l := by
    rcases sds_shape g hs with ⟨a, b, hm⟩ | ⟨a, b, hm⟩
    · unfold lwc; rw [if_neg (by omega)]; exact hm
    · unfold lwc; rw [if_pos ⟨a, b⟩]; exact hm
  generalize hc : lwc s = c at hcm
  have sm := g.sm c hcm
  obtain ⟨i, hi, ei⟩ := List.getElem_of_mem hcm
  have hpq : p c = !q c := by
    have e1 := side_is sm hc slt hsq
    have e2 : val p (swp s) = true := by rw [val_swp slt, hsp]; rfl
    have e3 := side_is (p := p) sm ((lwc_swp slt).trans hc) (sds_lt g (sds_swp g hs)) e2
    rw [e1, swp_sd sm] at e3
    cases hp : p c with
    | true =>
      cases hq : q c with
      | true =>
        rw [hp, hq] at e3
        have e3 : upc c = c := e3
        rw [upc_small sm] at e3
        omega
      | false => rfl
    | false =>
      cases hq : q c with
      | true => rfl
      | false =>
        rw [hp, hq] at e3
        have e3 : c = upc c := e3
        rw [upc_small sm] at e3
        omega
  have etn : turnAt (rmOf l p) i = rmOf l fun y => if y = c then q c else p y := by
    refine List.ext_getElem (by rw [turn_len, rm_len, rm_len]) fun k h1 h2 => ?_
    have hk : k < l.length := by rw [turn_len, rm_len] at h1; exact h1
    have a1 : (turnAt (rmOf l p) i).getD k 0 = (turnAt (rmOf l p) i)[k] := by rw [List.getD_eq_getElem?_getD, List.getElem?_eq_getElem h1]; rfl
    have a2 : (rmOf l fun y => if y = c then q c else p y).getD k 0 = (rmOf l fun y => if y = c then q c else p y)[k] := by rw [List.getD_eq_getElem?_getD, List.getElem?_eq_getElem h2]; rfl
    rw [← a1, ← a2, turn_get (by rw [rm_len]; exact hi), rm_get (p := fun y => if y = c then q c else p y) hk]
    by_cases e : k = i
    · subst e
      rw [if_pos rfl, rm_get hk, ei, swp_sd sm, hpq]
      simp
    · rw [if_neg e, rm_get hk]
      have hne : l[k] ≠ c := fun z => e ((List.getElem?_inj hk g.nd).mp (by rw [List.getElem?_eq_getElem hk, List.getElem?_eq_getElem hi, z, ei]))
      show _ = if (if l[k] = c then q c else p l[k]) = true then _ else _
      rw [if_neg hne]
  have onW : ∀ {x : Nat}, isLt x → lwc x = c → val (fun y => if y = c then q c else p y) x = true → x = s := fun {x} hx hl v => by
    have e1 := side_is sm hl hx v
    have e2 := side_is sm hc slt hsq
    rw [e1, e2]
    show (if (if c = c then q c else p c) = true then c else upc c) = _
    rw [if_pos rfl]
  have stop : ∀ {y : Nat}, y ∈ sds l → lwc y ≠ c → ([s, y] ∈ bs ∨ [y, s] ∈ bs) → val p y = true → False := fun {y} hy hyc hbar vy => by
    have ylt := sds_lt g hy
    have yl2 := sds_lt g (sds_swp g hy)
    have adj : swp y ∈ adjOf bs s := (adj_iff g hb yl2).mpr (by rw [swp_swp ylt]; exact hbar)
    have vq : val q (swp y) = true := sq.adj g hb hsq adj
    have vp : val p (swp y) = false := by rw [val_swp ylt, vy]; rfl
    have e := only (swp y) (Frc.refl.step adj) vq vp
    exact hyc (by rw [← lwc_swp ylt, e, hc])
  have sat : Sat bs fun y => if y = c then q c else p y := fun x y hxy hv => by
    obtain ⟨x', y', e, hx, hy, lt⟩ := bar_two (hb _ hxy)
    have e1 : x = x' := by injection e
    have e2 : y = y' := by
      injection e with _ e
      injection e
    subst e1 e2
    have xl := sds_lt g hx
    have yl := sds_lt g hy
    by_cases cx : lwc x = c
    · have ex := onW xl cx hv.1
      subst ex
      have cy : lwc y ≠ c := by omega
      have vy := hv.2
      rw [val_off yl cy] at vy
      exact stop hy cy (.inl hxy) vy
    · by_cases cy : lwc y = c
      · have ey := onW yl cy hv.2
        subst ey
        have vx := hv.1
        rw [val_off xl cx] at vx
        exact stop hx cx (.inr hxy) vx
      · have v1 := hv.1
        have v2 := hv.2
        rw [val_off xl cx] at v1
        rw [val_off yl cy] at v2
        exact sp x y hxy ⟨v1, v2⟩
  have esw : swp ((rmOf l p).getD i 0) = (rmOf l q).getD i 0 := by
    rw [rm_get hi, rm_get hi, ei, swp_sd sm, hpq]
    simp
  refine ⟨i, by rw [rm_len]; exact hi, (rms_mem g hb _).mpr ⟨_, etn, sat⟩, ham_turn (by rw [rm_len]; exact hi) ?_ esw⟩
  unfold dif
  refine decide_eq_true fun z => ?_
  rw [rm_get hi, rm_get hi, ei, hpq] at z
  have u := upc_small sm
  cases hq : q c with
  | true =>
    rw [hq] at z
    have z : upc c = c := z
    omega
  | false =>
    rw [hq] at z
    have z : c = upc c := z
    omega
end NC
namespace NC
open PySem PySem.Spec PyProof.Rows L2
/-- the sign of x at i -/
abbrev SgAt (x : Str) (i : Nat) (v : V) : Prop := ∃ c, x.cps[i]? = some c ∧ v = .str ⟨#[c]⟩
def ItES (x : Str) : It :=
  ⟨fun i _ => i < x.cps.size, fun i H v H' => ∃ T s, v = .ref T ∧ H T = none ∧ H' = upd H T (.tup [.int (i : Nat), s]) ∧ SgAt x i s, fun i _ => x.cps.size ≤ i⟩
def AtES (x : Str) (t : Tok) (e it : Addr) (i : Nat) (h : Heap) : Prop := (∃ last, IsEnum h e it ((i : Nat) : Int) last) ∧ h.IsStrIter it (strIterType x) x t i ∧ e ≠ it ∧ i ≤ x.cps.size
theorem AtES.olds {x : Str} {t : Tok} {e it : Addr} {i : Nat} {h : Heap} (st : AtES x t e it i h) {b : Addr} (m : b ∈ [e, it]) : b < h.objs.size := by
  obtain ⟨⟨_, g1⟩, ⟨o2, g2, _⟩, _⟩ := st
  rcases List.mem_cons.mp m with rfl | m
  · exact Heap.lt_size g1
  · exact (List.mem_singleton.mp m) ▸ Heap.lt_size g2
theorem turn_enumS {P : Program} {w : World} {K : PySem.W.Frag} {elts : List Expr} {kk : Nat} {tpos : Pos} (x : Str) (tk0 : Tok) (e it : Addr) : Turn P w K (.Tuple elts kk tpos) (ItES x) [e, it] e (AtES x tk0 e it) where
  mem := .head _
  obj := fun i h st b m => by
    rcases List.mem_cons.mp m with rfl | m
    · exact st.1.elim fun _ g => ⟨_, g, nofun⟩
    · obtain ⟨o, g, _, k⟩ := st.2.1
      exact ⟨o, (List.mem_singleton.mp m) ▸ g, fun v z => nomatch k.symm.trans z⟩
  keep := fun i h h' st k => ⟨st.1.imp fun _ g => k e (.head _) _ g, let ⟨o, ho, r⟩ := st.2.1; ⟨o, k it (.tail _ (.head _)) o ho, r⟩, st.2.2⟩
  item := by
    rintro X rfl rfl rfl calm i ps t σ H E I fre st lt
    have lt : i < x.cps.size := lt
    obtain ⟨_, enu⟩ := st.1
    have old : e < t.heap.objs.size := st.olds (.head _)
    refine wpAny_pyNext_enum_itemD (Draws.text (prog := X.prog) (w := X.w) (A := X.A.in1) (I.ok.hd calm) it x tk0) enu st.2.1 lt st.2.2.1 (by simp [st.2.2.1]) fun y g tk ay own on pair _ stay => ?_
    obtain ⟨c, u, hc, rfl⟩ := ay
    refine ⟨_, rfl, wpAny_letOwnedTupleGo_enum (s := { t with heap := g, toks := tk + 1 }) own fun g2 enu2 but => ?_⟩
    have pair2 : g2.get? t.heap.objs.size = some { cls := .type "tuple", data := .seq #[.int i tk, .str ⟨#[c]⟩ u] } := (but.2 _ (Nat.ne_of_gt old)).trans pair
    refine ⟨.ref t.heap.objs.size, upd H t.heap.objs.size (.tup [.int (i : Nat), .str ⟨#[c]⟩]), I.turnedNew (ch := [e, it]) (fun b o nb z => (but.2 b fun q => nb (by simp [q])).trans (stay b o (fun q => nb (by simp [q])) (fun q => nb (by simp [q])) z)) fre (Nat.le_refl _)
        ⟨by show 2 ≤ sizeLine; decide, [.int i tk, .str ⟨#[c]⟩ u], .cons ⟨_, rfl⟩ (.cons ⟨_, rfl⟩ .nil), ⟨_, pair2, rfl, _, rfl⟩⟩, rfl, ⟨_, _, rfl, I.hok.fresh (Nat.le_refl _), rfl, c, hc, rfl⟩, ⟨⟨.str ⟨#[c]⟩ u, ?_⟩, ?_, st.2.2.1, lt⟩, fun b m => ?_⟩
    · exact (show ((i + 1 : Nat) : Int) = (i : Int) + 1 by omega) ▸ enu2
    · obtain ⟨o, ho, r⟩ := on
      exact ⟨o, (but.2 it (Ne.symm st.2.2.1)).trans ho, r⟩
    · exact (upd_ne (Nat.ne_of_lt (st.olds m))).trans (fre b m).1
  done := by
    rintro X rfl rfl rfl calm i ps t σ H E I fre st le
    have le : x.cps.size ≤ i := le
    obtain ⟨_, enu⟩ := st.1
    have ei : i = x.cps.size := Nat.le_antisymm st.2.2.2 le
    have it0 : t.heap.IsStrIter it (strIterType x) x tk0 x.cps.size := ei ▸ st.2.1
    have ty : t.TypeIs (.ref e) "enumerate" := ⟨_, enu, rfl⟩
    have fr := fre it (.tail _ (.head _))
    unfold pyNext
    refine wpAny_bind (wpAny_attempt (wpAny_callSpecial?_slot (name := Str.ofString "__next__") ty F.slot_enumerate_next (wpAny_call_entry F.slot_enumerate_next ty F.entry_enumerate_next ?_ (F.args_enumerate_next_1 _))))
    show wpAny _ _ (field (.ref e) 2 >>= fun _ => _) _ _ _
    refine wpAny_bind (wpAny_field enu rfl (x := .ref it) rfl (wpAny_bind ((Draws.text (prog := X.prog) (w := X.w) (A := X.A.in1) (I.ok.hd calm) it x tk0).done _ _ _ it0 fun g z but hz => ?_)))
    exact wpAny_bind (wpAny_isInstance (T := "StopIteration") (b := true) hz isSubtype_stop (wpAny_pure ⟨rfl, I.turned (t' := t.toks) (fun b o nb q => but b o nb q) fr.1 fr.2.1 fr.2.2.2.1 fr.2.2.2.2.1 fr.2.2.2.2.2⟩))
  self := fun _ _ _ _ _ st h => st.1.elim fun _ g => wpAny_pyIter_enum g h
def iEnumS (ta : TA) : TI := fun σ H R => ta σ H fun vs H1 => ∃ x, vs = [.str x] ∧ R (ItES x) H1
theorem pi_enumS {X : Cx} {e : Expr} {ta : TA} {p pos tpos : Pos} {elts : List Expr} {kk : Nat} (gl : Gl X "enumerate") (bi : X.mg "enumerate" = none) (arg : PA X [e] ta) (one : starEach [e] X.env = [(false, eval e X.env)] := by rfl) :
    PI X (.Tuple elts kk tpos) (.Call (.Name "enumerate" p) [e] [] pos) (iEnumS ta) := by
  refine ⟨fun ps t σ H R I h => Call_ (ld_blt I gl bi boot_enumerate (PyProof.Rows.callWith_type1 (thn (arg.run pos ps t σ H _ I h) fun us v r => ?_) one rfl))⟩
  obtain ⟨vs, G, J, rv, x, rfl, r⟩ := r
  cases rv with
  | cons r1 rr =>
    cases rr
    obtain ⟨tk0, rfl⟩ := r1
    have new : ∀ b ∈ [v.heap.objs.size + 1, v.heap.objs.size], FpOk X ps G b := fun b m => by
      have up : v.heap.objs.size ≤ b := by
        simp at m
        omega
      exact J.fpOk up (J.hok.fresh up)
    exact call_enumerate_str fun g enu iter _ stay => wpAny_pyIter_enum enu ⟨v.heap.objs.size + 1, _, _, _, G, rfl, J.kept (t' := v.toks) stay, turn_enumS x tk0 (v.heap.objs.size + 1) v.heap.objs.size, ⟨⟨.none, enu⟩, iter, Nat.succ_ne_self _, Nat.zero_le _⟩, new, r⟩
theorem walk_enumS {x : Str} : Walk (ItES x) x.cps.size (fun _ => True) (fun i H v H' => ∃ T s, v = .ref T ∧ H T = none ∧ H' = upd H T (.tup [.int (i : Nat), s]) ∧ SgAt x i s) :=
  ⟨fun _ _ hi _ => hi, fun _ _ => Nat.le_refl _, fun _ _ _ _ _ _ y => y⟩
def ItZS (x y : Str) : It :=
  ⟨fun i _ => i < x.cps.size ∧ i < y.cps.size, fun i H v H' => ∃ T s u, v = .ref T ∧ H T = none ∧ H' = upd H T (.tup [s, u]) ∧ SgAt x i s ∧ SgAt y i u, fun i _ => x.cps.size ≤ i ∨ y.cps.size ≤ i⟩
def AtZS (x y : Str) (t1 t2 : Tok) (z TI TO i1 i2 : Addr) (i : Nat) (h : Heap) : Prop := IsZip h z TI TO .none ∧ IsTupOf2 h TI (.ref i1) (.ref i2) ∧ (∃ a b, IsTupOf2 h TO a b) ∧ h.IsStrIter i1 (strIterType x) x t1 i ∧ h.IsStrIter i2 (strIterType y) y t2 i ∧ i ≤ x.cps.size ∧ i ≤ y.cps.size
theorem AtZS.olds {x y : Str} {t1 t2 : Tok} {z TI TO i1 i2 : Addr} {i : Nat} {h : Heap} (st : AtZS x y t1 t2 z TI TO i1 i2 i h) : ∀ b ∈ [z, TI, TO, i1, i2], ∃ o, h.get? b = some o ∧ ∀ v, o.data ≠ .cell v := by
  obtain ⟨hz, hI, ⟨a, b, hO⟩, ⟨o1, e1, _, d1⟩, ⟨o2, e2, _, d2⟩, _⟩ := st
  simp only [List.mem_cons, List.not_mem_nil, or_false, forall_eq_or_imp, forall_eq]
  exact ⟨⟨_, hz, nofun⟩, ⟨_, hI, nofun⟩, ⟨_, hO, nofun⟩, ⟨o1, e1, fun v q => nomatch d1.symm.trans q⟩, ⟨o2, e2, fun v q => nomatch d2.symm.trans q⟩⟩
theorem turn_zipS {P : Program} {w : World} {K : PySem.W.Frag} {elts : List Expr} {kk : Nat} {tpos : Pos} (x y : Str) (t1 t2 : Tok) {z TI TO i1 i2 : Addr} (S : ZipSep2 z TI TO i1 i2 [i1] [i2]) :
    Turn P w K (.Tuple elts kk tpos) (ItZS x y) [z, TI, TO, i1, i2] z (AtZS x y t1 t2 z TI TO i1 i2) where
  mem := .head _
  obj := fun i h st b m => st.olds b m
  keep := fun i h h' st k => by
    obtain ⟨hz, hI, ⟨a, b, hO⟩, ⟨o1, e1, r1⟩, ⟨o2, e2, r2⟩, le⟩ := st
    exact ⟨k z (by simp) _ hz, k TI (by simp) _ hI, ⟨a, b, k TO (by simp) _ hO⟩, ⟨o1, k i1 (by simp) _ e1, r1⟩, ⟨o2, k i2 (by simp) _ e2, r2⟩, le⟩
  item := by
    rintro X rfl rfl rfl calm i ps t σ H E I fre st ⟨l1, l2⟩
    have olds := st.olds
    obtain ⟨hz, hI, ⟨a, b, hO⟩, s1, s2, _⟩ := st
    have old : z < t.heap.objs.size := Heap.lt_size hz
    refine wpAny_pyNext_zipD2_item S (Draws.text (prog := X.prog) (w := X.w) (A := X.A.in1) (I.ok.hd calm) i1 x t1) (Draws.text (prog := X.prog) (w := X.w) (A := X.A.in1) (I.ok.hd calm) i2 y t2) hz hI hO s1 s2 l1 l2 fun v1 v2 g tk p1 p2 hz' hO' s1' s2' pair _ stay => ?_
    obtain ⟨c1, u1, h1, rfl⟩ := p1
    obtain ⟨c2, u2, h2, rfl⟩ := p2
    refine ⟨_, rfl, wpAny_letOwnedTupleGo_zip (s := { t with heap := g, toks := tk }) hz' fun g2 hz2 but => ?_⟩
    have pair2 : g2.get? t.heap.objs.size = some { cls := .type "tuple", data := .seq #[.str ⟨#[c1]⟩ u1, .str ⟨#[c2]⟩ u2] } := (but.2 _ (Nat.ne_of_gt old)).trans pair
    have lts : ∀ b ∈ [z, TI, TO, i1, i2], b < t.heap.objs.size := fun b m => let ⟨_, g, _⟩ := olds b m; Heap.lt_size g
    refine ⟨.ref t.heap.objs.size, upd H t.heap.objs.size (.tup [.str ⟨#[c1]⟩, .str ⟨#[c2]⟩]), I.turnedNew (ch := [z, TI, TO, i1, i2]) (fun b o nb q => (but.2 b fun e => nb (by simp [e])).trans (stay b o (fun e => nb (by simp [e])) (fun e => nb (by simp [e])) (fun e => nb (by simp [e])) (fun e => nb (by simp [e])) q)) fre (Nat.le_refl _)
        ⟨by show 2 ≤ sizeLine; decide, [.str ⟨#[c1]⟩ u1, .str ⟨#[c2]⟩ u2], .cons ⟨_, rfl⟩ (.cons ⟨_, rfl⟩ .nil), ⟨_, pair2, rfl, _, rfl⟩⟩, rfl, ⟨_, _, _, rfl, I.hok.fresh (Nat.le_refl _), rfl, ⟨c1, h1, rfl⟩, ⟨c2, h2, rfl⟩⟩, ⟨hz2, ?_, ⟨_, _, (but.2 _ S.TOz).trans hO'⟩, ?_, ?_, l1, l2⟩, fun b m => ?_⟩
    · exact (but.2 _ S.TIz).trans (stay _ _ S.TIz S.TITO S.TIi1 S.TIi2 hI)
    · obtain ⟨o, ho, r⟩ := s1'
      exact ⟨o, (but.2 _ (Ne.symm S.zi1)).trans ho, r⟩
    · obtain ⟨o, ho, r⟩ := s2'
      exact ⟨o, (but.2 _ (Ne.symm S.zi2)).trans ho, r⟩
    · exact (upd_ne (Nat.ne_of_lt (lts b m))).trans (fre b m).1
  done := by
    rintro X rfl rfl rfl calm i ps t σ H E I fre st fin
    obtain ⟨hz, hI, ⟨a, b, hO⟩, s1, s2, le1, le2⟩ := st
    have fin : x.cps.size ≤ i ∨ y.cps.size ≤ i := fin
    refine wpAny_pyNext_zipD2_end S (Draws.text (prog := X.prog) (w := X.w) (A := X.A.in1) (I.ok.hd calm) i1 x t1) (Draws.text (prog := X.prog) (w := X.w) (A := X.A.in1) (I.ok.hd calm) i2 y t2) hz hI hO s1 s2 le1 le2 (by omega) fun g tk stay => ?_
    exact ⟨rfl, I.turnedL (t' := tk) (ch := [z, TI, TO, i1, i2]) (fun b o nb q => stay b o (fun e => nb (by simp [e])) (fun e => nb (by simp [e])) (fun e => nb (by simp [e])) (fun e => nb (by simp [e])) q) fre⟩
  self := fun _ _ _ _ _ st h => wpAny_pyIter_zip st.1 h
def iZipS (ta : TA) : TI := fun σ H R => ta σ H fun vs H1 => ∃ x y, vs = [.str x, .str y] ∧ R (ItZS x y) H1
theorem pi_zipS {X : Cx} {e e2 : Expr} {ta : TA} {p pos tpos : Pos} {elts : List Expr} {kk : Nat} (gl : Gl X "zip") (bi : X.mg "zip" = none) (arg : PA X [e, e2] ta)
    (st : starEach [e, e2] X.env = (false, eval e X.env) :: starEach [e2] X.env := by rfl) (pl : (backTo pos (starEach [e2] X.env)).any (·.1) = false := by rfl) :
    PI X (.Tuple elts kk tpos) (.Call (.Name "zip" p) [e, e2] [] pos) (iZipS ta) := by
  refine ⟨fun ps t σ H R I h => Call_ (ld_blt I gl bi PyProof.Rows.boot_zip (PyProof.Rows.callWith_type1 (thn (arg.run pos ps t σ H _ I h) fun us v r => ?_) st pl))⟩
  obtain ⟨vs, G, J, rv, x, y, rfl, r⟩ := r
  cases rv with
  | cons r1 rr =>
    cases rr with
    | cons r2 rr =>
      cases rr
      obtain ⟨t1, rfl⟩ := r1
      obtain ⟨t2, rfl⟩ := r2
      refine zip_begins2 (begins_text x t1) (begins_text y t2) trivial trivial fun g hz hI hO g1 g2 _ stay => wpAny_pyIter_zip hz ?_
      have new : ∀ b ∈ [v.heap.objs.size + 4, v.heap.objs.size + 2, v.heap.objs.size + 3, v.heap.objs.size, v.heap.objs.size + 1], FpOk X ps G b := fun b m => by
        have up : v.heap.objs.size ≤ b := by
          simp at m
          omega
        exact J.fpOk up (J.hok.fresh up)
      exact ⟨_, _, _, _, G, rfl, J.kept (t' := v.toks) stay, turn_zipS x y t1 t2 (zip_sep2 (fp1 := []) (fp2 := []) (fun _ h => nomatch h) (fun _ h => nomatch h)), ⟨hz, hI, ⟨_, _, hO⟩, ⟨_, g1, rfl, rfl⟩, ⟨_, g2, rfl, rfl⟩, Nat.zero_le _, Nat.zero_le _⟩, new, r⟩
theorem walk_zipS {x y : Str} {n : Nat} (hn : n = min x.cps.size y.cps.size) : Walk (ItZS x y) n (fun _ => True) (fun i H v H' => ∃ T s u, v = .ref T ∧ H T = none ∧ H' = upd H T (.tup [s, u]) ∧ SgAt x i s ∧ SgAt y i u) :=
  ⟨fun i _ hi _ => ⟨by omega, by omega⟩, fun _ _ => by show _ ∨ _; omega, fun _ _ _ _ _ _ y => y⟩
/-- a statement that is never come to -/
theorem ps_dead {X : Cx} {st : Stmt} : PS X st (fun _ _ _ => False) := ⟨fun _ _ _ _ _ _ h => h.elim⟩
end NC
namespace NC
open PySem PySem.Spec PyProof.Rows L2
abbrev sChkRoom : Stmt := topS 21
abbrev sUnlike : Stmt := topS 27
abbrev sHdoors : Stmt := inClass (topS 28) 8
abbrev sHsteps : Stmt := inClass (topS 28) 9
abbrev sHway : Stmt := inClass (topS 28) 10
abbrev sHnear : Stmt := inClass (topS 28) 11
abbrev nDoors : List Str := ["self", "room", "turned", "at", "side", "behind"]
abbrev nNear : List Str := ["self", "room", "goal", "far", "behind"]
theorem scChkRoom : FnScope ["hall", "room"] ["hall", "room"] (defScope sChkRoom) := ⟨rfl, rfl, rfl, by decide +kernel, rfl, by decide +kernel, by decide +kernel⟩
theorem scUnlike : FnScope ["room", "goal", "one", "two"] ["room", "goal"] (defScope sUnlike) := ⟨rfl, rfl, rfl, by decide +kernel, rfl, by decide +kernel, by decide +kernel⟩
theorem scHdoors : FnScope nDoors ["self", "room"] (defScope sHdoors) := ⟨rfl, rfl, rfl, by decide +kernel, rfl, by decide +kernel, by decide +kernel⟩
theorem scHsteps : FnScope ["self", "room", "goal"] ["self", "room", "goal"] (defScope sHsteps) := ⟨rfl, rfl, rfl, by decide +kernel, rfl, by decide +kernel, by decide +kernel⟩
theorem scHway : FnScope ["self", "room", "goal", "passed"] ["self", "room", "goal"] (defScope sHway) := ⟨rfl, rfl, rfl, by decide +kernel, rfl, by decide +kernel, by decide +kernel⟩
theorem scHnear : FnScope nNear ["self", "room", "goal"] (defScope sHnear) := ⟨rfl, rfl, rfl, by decide +kernel, rfl, by decide +kernel, by decide +kernel⟩
structure HW (K : PySem.W.Frag) (C fd fs fw fn : Addr) (dd ds dw dn : FuncData) : Prop where
  md : Meth K C "doors" fd
  Fd : Fun K "doors" "Hall.doors" sHdoors fd dd
  bd : Binds K dd ["self", "room"] []
  ms : Meth K C "steps" fs
  Fs : Fun K "steps" "Hall.steps" sHsteps fs ds
  bs : Binds K ds ["self", "room", "goal"] []
  mw : Meth K C "way" fw
  Fw : Fun K "way" "Hall.way" sHway fw dw
  mn : Meth K C "nearer" fn
  Fn : Fun K "nearer" "Hall.nearer" sHnear fn dn
  bn : Binds K dn ["self", "room", "goal"] []
/-- a hall that was let by, at x -/
structure HallG (C : Addr) (H : Hp) (x dx sb D : Addr) (l : List Nat) (ys : List Str) (fo : Nat → List Nat) (bs : List (List Nat)) : Prop where
  hA : HallAt C H x dx sb D l ys fo
  g : GoodW l
  bar : ∀ b ∈ bs, isBar l b = true
  perm : ys.Perm (bs.map tx)
  len : bs.length ≤ 64
  ok : Okv l bs
theorem HallG.same {C : Addr} {H H' : Hp} {x dx sb D : Addr} {l : List Nat} {ys : List Str} {fo : Nat → List Nat} {bs : List (List Nat)} (h : HallG C H x dx sb D l ys fo bs) (s : Same H H') : HallG C H' x dx sb D l ys fo bs := ⟨h.hA.same s, h.g, h.bar, h.perm, h.len, h.ok⟩
theorem rms_lets {l : List Nat} (g : GoodW l) {bs : List (List Nat)} : ∀ r ∈ rms l bs, r.length = l.length ∧ ∀ c ∈ r, isLt c := fun r hr => by
  have hm : r ∈ allT l l.length := by
    unfold rms at hr
    exact (List.mem_filter.mp hr).1
  obtain ⟨p, rfl⟩ := (allT_mem g.nd (Nat.le_refl _) r).mp hm
  rw [List.take_length]
  exact ⟨rm_len l p, fun c hc => sds_lt g (rm_asc g hc)⟩
theorem get_of {r : List Nat} {i c : Nat} (h : r[i]? = some c) : r.getD i 0 = c := by rw [List.getD_eq_getElem?_getD, h]; rfl
def doorsL (l : List Nat) (bs : List (List Nat)) (r : List Nat) (n : Nat) : List (List Nat) := ((List.range n).map (turnAt r)).filter fun x => decide (x ∈ rms l bs)
theorem cutS_to (l : List Nat) (j : Nat) : cutS (tx l) none (some ((j : Nat) : Int)) = tx (l.take j) := by
  unfold cutS
  rw [HT.sIx_none, HT.sIx_nat, tx_list, tx_len]
  show Str.mk _ = Str.mk _
  congr 1
  rw [List.drop_zero, Nat.sub_zero]
  rcases Nat.le_total j l.length with h | h
  · rw [Nat.min_eq_left h]
  · rw [Nat.min_eq_right h, List.take_of_length_le (Nat.le_refl _), List.take_of_length_le h]
theorem cutS_from (l : List Nat) (j : Nat) : cutS (tx l) (some ((j : Nat) : Int)) none = tx (l.drop j) := by
  unfold cutS
  rw [HT.sIx_none, HT.sIx_nat, tx_list, tx_len]
  show Str.mk _ = Str.mk _
  congr 1
  rcases Nat.le_total j l.length with h | h
  · rw [Nat.min_eq_left h, List.take_of_length_le (by rw [List.length_drop]; exact Nat.le_refl _)]
  · rw [Nat.min_eq_right h, List.drop_of_length_le (Nat.le_refl _), List.drop_of_length_le h]
    simp
section
variable {P : Program} {w : World} {K : PySem.W.Frag} {mg : Str → Option Value} {base : Heap} {C fi fb fm fr fg : Addr} {di db dm dr dg : FuncData}
def spUnlike : Sp := fun vs H Q _ => ∃ r o, vs = [.str (tx r), .str (tx o)] ∧ r.length = o.length ∧ r.length ≤ 100 ∧ ∀ H', Same H H' → Q (.int (ham r o : Nat)) H'
set_option maxHeartbeats 1000000 in
theorem ok_unlike {f : Addr} {fd : FuncData} {k : Nat} (B : BM mg) (hz : mg "zip" = none) (F : Fun K "unlike" "unlike" sUnlike f fd) : FnOk P w K mg base CX0 (k + 1) f fd ["room", "goal"] spUnlike := by
  refine F.ok scUnlike (fun vs H Q E h => ?_) (fun cdv A outer st H vs Q E hr h => ?_)
  · obtain ⟨r, o, rfl, _⟩ := h
    rfl
  · obtain ⟨r, o, rfl, hl, hn, q⟩ := h
    have nd := scUnlike.nd
    refine ⟨_, pss_one (ps_ret (pe_callB call_len_seq (by rfl) B.len PySem.boot_len (pa_cons (pe_lc (own := [("one", 2), ("two", 3)]) (g := gTup K 2 (gCons (gName 2) (gCons (gName 3) gNil))) (tt := tTest (tOp rNe (tVar 2) (tVar 3))) rfl nd (pi_zipS (by rfl) hz (pa_cons (pv 0) (pa_cons (pv 1) pa_nil)))
      (blkOk_by (N := ["room", "goal", "one", "two"]) (sc := defScope sUnlike) (by decide +kernel)) (fun _ _ _ _ _ => pg_tup rfl (pgs_cons (pg_name (i := 2) nd rfl (Or.inl rfl)) (pgs_cons (pg_name (i := 3) nd rfl (Or.inl rfl)) pgs_nil)))
      (fun _ _ _ _ _ => pts_one (pt_cmpR op_ne (pv 2) (pv 3) (nomark _))) (fun _ _ _ _ _ => pv 2)) pa_nil))), ?_⟩
    refine ⟨_, rfl, _, rfl, tx r, tx o, rfl, fun Da na => ?_⟩
    have l1 : (tx r).cps.size = r.length := tx_len _
    have l2 : (tx o).cps.size = o.length := tx_len _
    refine lc_it (walk_zipS (n := r.length) (by rw [l1, l2]; omega)) (fun i H' => Same H H' ∧ H' Da = some (.lst (((List.range i).filter (dif r o)).map fun k => V.str (sg (r.getD k 0))))) ⟨same_upd na, upd_same⟩ (fun _ _ _ _ => trivial) ?_ ?_
    · rintro i v H1 H2 hi ⟨s1, e1⟩ ⟨T, s, u, rfl, nT, rfl, ⟨c, hc, rfl⟩, ⟨e, he, rfl⟩⟩
      have hc : r[i]? = some c := by
        rw [← Array.getElem?_toList, tx_list] at hc
        exact hc
      have he : o[i]? = some e := by
        rw [← Array.getElem?_toList, tx_list] at he
        exact he
      have nTD : Da ≠ T := ne_of_none e1 nT
      have dd : dif r o i = decide (c ≠ e) := by unfold dif; rw [get_of hc, get_of he]
      have fl : (((List.range i).filter (dif r o)).map fun k => V.str (sg (r.getD k 0))).length ≤ i := by
        rw [List.length_map]
        exact Nat.le_trans (List.length_filter_le _ _) (by rw [List.length_range]; exact Nat.le_refl _)
      refine ⟨T, _, rfl, SqT.of upd_same, rfl, _, _, rfl, _, _, rfl, rfl, rfl, _, rfl, _, rfl, rfl, _, rfl, ite2 (fun t => ?_) (fun t => ?_)⟩
      · have ne : c ≠ e := fun z => by
          rw [z] at t
          simp at t
        refine ⟨_, rfl, _, by rw [upd_ne nTD]; exact e1, by rw [sizeLine_eq]; omega, sm_over (sm_upd s1 nT) na, ?_⟩
        rw [upd_same, List.range_succ, List.filter_append, List.map_append, List.filter_cons, if_pos (by rw [dd]; exact decide_eq_true ne)]
        show _ = some (HO.lst (_ ++ [V.str (sg (r.getD i 0))]))
        rw [get_of hc]
        rfl
      · have eq : c = e := by
          have : (⟨#[c]⟩ : Str) = ⟨#[e]⟩ := by simpa using t
          have := congrArg Str.cps this
          simpa using this
        refine ⟨sm_upd s1 nT, ?_⟩
        rw [upd_ne nTD, e1, List.range_succ, List.filter_append, List.map_append, List.filter_cons, if_neg (by rw [dd, eq]; simp)]
        simp
    · rintro H1 ⟨s1, e1⟩
      refine ⟨Da, _, rfl, .inl (SqL.of e1), ?_⟩
      have := q H1 s1
      unfold ham at this
      rw [List.length_map]
      exact this
def spChkRoom (C : Addr) : Sp := fun vs H Q _ => ∃ x dx sb D l ys fo bs r, vs = [.ref x, .str (tx r)] ∧ HallG C H x dx sb D l ys fo bs ∧ r ∈ rms l bs ∧ ∀ H', Same H H' → Q .non H'
theorem ok_chkRoom {f : Addr} {fd : FuncData} {k : Nat} (hany : mg "any" = none) (Z : HC K mg C fi fb di db) (M : HM K C fm fr fg dm dr dg) (F : Fun K "check_room" "check_room" sChkRoom f fd) : FnOk P w K mg base CX0 (k + 2) f fd ["hall", "room"] (spChkRoom C) := by
  have GM : FnOk P w K mg base CX0 (k + 1) fm dm ["self", "room"] (spHroom C) := ok_Hroom hany Z M
  refine F.ok scChkRoom (fun vs H Q E h => ?_) (fun cdv A outer st H vs Q E hr h => ?_)
  · obtain ⟨x, dx, sb, D, l, ys, fo, bs, r, rfl, _⟩ := h
    rfl
  · obtain ⟨x, dx, sb, D, l, ys, fo, bs, r, rfl, hG, hm, q⟩ := h
    obtain ⟨rl, rlt⟩ := rms_lets hG.g r hm
    have hl12 := hG.g.hi
    refine ⟨_, pss_one (ps_if (pt_not (pt_val (pe_meth (pv 0) Z.cl M.mm GM hr M.bm .nil pass0 (pa_cons (pv 1) pa_nil)))) (pss_one ps_dead) pss_nil), ?_⟩
    refine ⟨_, rfl, x, dx, _, rfl, hG.hA.x, rfl, _, rfl, x, dx, sb, D, l, ys, fo, bs, r, rfl, hG.hA, hG.g, hG.bar, hG.perm, hG.len, (fun c hc => (rlt c hc).asc), by omega, fun H1 s1 => ⟨_, rfl, ?_⟩⟩
    rw [decide_eq_true hm]
    exact iteF (q H1 s1)
def spHdoors (C : Addr) : Sp := fun vs H Q _ => ∃ x dx sb D l ys fo bs r, vs = [.ref x, .str (tx r)] ∧ HallG C H x dx sb D l ys fo bs ∧ r ∈ rms l bs ∧ ∀ H' p, Same H H' → H p = none → H' p = some (.lst (((doorsL l bs r r.length).map tx).map V.str)) → Q (.ref p) H'
theorem doorsL_len (l : List Nat) (bs : List (List Nat)) (r : List Nat) (n : Nat) : (doorsL l bs r n).length ≤ n := by
  unfold doorsL
  refine Nat.le_trans (List.length_filter_le _ _) ?_
  rw [List.length_map, List.length_range]
  exact Nat.le_refl _
set_option maxHeartbeats 2000000 in
theorem ok_Hdoors {f fO fc fdo fst fwa fne : Addr} {fd dO dc ddo dst dwa dne : FuncData} {k : Nat} (B : BM mg) (hany : mg "any" = none) (Z : HC K mg C fi fb di db) (M : HM K C fm fr fg dm dr dg) (Y : HW K C fdo fst fwa fne ddo dst dwa dne) (O : DF K mg "other" sOther ["side"] fO dO) (Ch : DF K mg "check_room" sChkRoom ["hall", "room"] fc dc) :
    FnOk P w K mg base CX0 (k + 3) fdo ddo ["self", "room"] (spHdoors C) := by
  have GO : FnOk P w K mg base CX0 (k + 1) fO dO ["side"] spOther := ok_other O.F
  have GM : FnOk P w K mg base CX0 (k + 1) fm dm ["self", "room"] (spHroom C) := ok_Hroom hany Z M
  have GC : FnOk P w K mg base CX0 (k + 2) fc dc ["hall", "room"] (spChkRoom C) := ok_chkRoom hany Z M Ch.F
  refine Y.Fd.ok scHdoors (fun vs H Q E h => ?_) (fun cdv A outer st H vs Q E hr h => ?_)
  · obtain ⟨x, dx, sb, D, l, ys, fo, bs, r, rfl, _⟩ := h
    rfl
  · obtain ⟨x, dx, sb, D, l, ys, fo, bs, r, rfl, hG, hm, q⟩ := h
    obtain ⟨rl, rlt⟩ := rms_lets hG.g r hm
    have hl12 := hG.g.hi
    have nd := scHdoors.nd
    have r1 : Room (k + 1) _ := hr.mono (by omega)
    refine ⟨_, pss_cons (ps_expr (pe_call GC hr rfl Ch.g Ch.F.kp Ch.b .nil pass0 (pa_cons (pv 0) (pa_cons (pv 1) pa_nil))))
      (pss_cons (ps_setLc (i := 2) (own := [("at", 3), ("side", 4)]) (g := gTup K 2 (gCons (gName 3) (gCons (gName 4) gNil))) (tt := tYes) rfl nd rfl rfl (sw_true rfl rfl rfl (by decide +kernel)) (pi_enumS (by rfl) B.enumerate (pa_cons (pv 1) pa_nil))
        (blkOk_by (N := nDoors) (sc := defScope sHdoors) (by decide +kernel)) (fun _ _ _ _ _ => pg_tup rfl (pgs_cons (pg_name (i := 3) nd rfl (Or.inl rfl)) (pgs_cons (pg_name (i := 4) nd rfl (Or.inl rfl)) pgs_nil))) (fun _ _ _ _ _ => pts_nil)
        (fun _ _ _ _ _ => pe_op op_add_str (pe_op op_add_str (pe_slice sl_str (pv 1) po_none (po_some (pv 3))) (pe_call GO r1 rfl O.g O.F.kp O.b .nil pass0 (pa_cons (pv 4) pa_nil))) (pe_slice sl_str (pv 1) (po_some (pe_op op_add (pv 3) pe_int)) po_none)))
      (pss_one (ps_ret (pe_lc (own := [("behind", 5)]) (g := gName 5) (tt := tB (tMeth C "is_room" (spHroom C) [] E0 (tVar 0) (tCons (tVar 5) tNil))) rfl nd (pi_list (pv 2)) (blkOk_by (N := nDoors) (sc := defScope sHdoors) (by decide +kernel)) (fun _ _ _ _ _ => pg_name (i := 5) nd rfl (Or.inl rfl))
        (fun _ _ _ _ _ => pts_one (pt_val (pe_meth (pv 0) Z.cl M.mm GM r1 M.bm .nil pass0 (pa_cons (pv 5) pa_nil)))) (fun _ _ _ _ _ => pv 5))))), ?_⟩
    refine ⟨_, rfl, _, rfl, x, dx, sb, D, l, ys, fo, bs, r, rfl, hG, hm, fun H0 s0 => ?_⟩
    have hz : (tx r).length ≤ sizeLine := by rw [tx_len, sizeLine_eq]; omega
    refine ⟨_, rfl, tx r, rfl, fun Da na => ?_⟩
    have l1 : (tx r).cps.size = r.length := tx_len _
    have wkE := walk_enumS (x := tx r)
    rw [l1] at wkE
    refine lc_it wkE (fun i H' => Same H0 H' ∧ H' Da = some (.lst ((((List.range i).map (turnAt r)).map tx).map V.str))) ⟨same_upd na, upd_same⟩ (fun _ _ _ _ => trivial) ?_ ?_
    · rintro i v H1 H2 hi ⟨s1, e1⟩ ⟨T, s, rfl, nT, rfl, c, hc, rfl⟩
      have hc : r[i]? = some c := by
        rw [← Array.getElem?_toList, tx_list] at hc
        exact hc
      have ca : c < 128 := (rlt c (List.mem_of_getElem? hc)).asc
      have nTD : Da ≠ T := ne_of_none e1 nT
      refine ⟨T, _, rfl, SqT.of upd_same, rfl, _, _, rfl, _, _, rfl, rfl, rfl, yes_i ?_⟩
      refine ⟨_, rfl, _, rfl, _, rfl, _, rfl, hz, ?_⟩
      rw [cutS_to]
      refine ⟨_, rfl, c, rfl, ca, _, _, rfl, rfl, by rw [tx_len, List.length_take, sizeLine_eq]; show _ + 1 ≤ _; omega, ?_⟩
      rw [sg_tx, tx_app]
      refine ⟨_, rfl, _, rfl, _, _, rfl, rfl, _, rfl, _, rfl, hz, ?_⟩
      rw [show ((i : Nat) : Int) + 1 = ((i + 1 : Nat) : Int) by omega, cutS_from]
      refine ⟨_, _, rfl, rfl, by rw [tx_len, tx_len, List.length_append, List.length_take, List.length_drop, sizeLine_eq]; show min i r.length + 1 + _ ≤ _; omega, ?_⟩
      rw [tx_app]
      refine ⟨_, by rw [upd_ne nTD]; exact e1, by rw [List.length_map, List.length_map, List.length_map, List.length_range, sizeLine_eq]; omega, sm_over (sm_upd s1 nT) na, ?_⟩
      rw [upd_same, List.range_succ, List.map_append, List.map_append, List.map_append]
      show some (HO.lst (_ ++ [V.str (tx (r.take i ++ [swp c] ++ r.drop (i + 1)))])) = some (HO.lst (_ ++ [V.str (tx (turnAt r i))]))
      rw [turn_cut hi, get_of hc]
    rintro H1 ⟨s1, e1⟩
    have wk := walk_list (K := K) (a := Da) (xs := (((List.range r.length).map (turnAt r)).map tx).map V.str)
    rw [List.length_map, List.length_map, List.length_map, List.length_range] at wk
    refine ⟨_, rfl, Da, rfl, ⟨_, SqL.of e1⟩, fun Db nb => ?_⟩
    have nbH : H Db = none := L2.Same.free (sm_trans s0 s1) nb
    refine lc_it wk (fun i H' => Same H1 H' ∧ H' Db = some (.lst (((doorsL l bs r i).map tx).map V.str))) ⟨same_upd nb, upd_same⟩ (fun i H' _ h => SqL.of (h.1 _ _ e1)) ?_ ?_
    · rintro i v H2 H3 hi ⟨s2, e2⟩ ⟨rfl, hx⟩
      rw [List.getElem?_map, List.getElem?_map, List.getElem?_map, List.getElem?_range hi] at hx
      cases hx
      have hG3 := hG.same (sm_trans (sm_trans s0 s1) s2)
      have tl := turn_len r i
      have ta : ∀ c ∈ turnAt r i, c < 128 := fun c hc => by
        have sm : swp (r.getD i 0) < 128 := by
          have hm2 : r.getD i 0 ∈ r := by
            rw [List.getD_eq_getElem?_getD, List.getElem?_eq_getElem hi]
            exact List.getElem_mem hi
          have z := rlt _ hm2
          rcases z with z | z
          · rw [swp_small z]; omega
          · rw [swp_great z]; omega
        rcases List.mem_or_eq_of_mem_set hc with z | z
        · exact (rlt c z).asc
        · rw [z]; exact sm
      refine ⟨rfl, _, rfl, x, dx, _, rfl, hG3.hA.x, rfl, _, rfl, x, dx, sb, D, l, ys, fo, bs, turnAt r i, rfl, hG3.hA, hG.g, hG.bar, hG.perm, hG.len, ta, by omega, fun H4 s4 => ⟨_, rfl, ?_⟩⟩
      have e4 := s4 _ _ e2
      have dl := doorsL_len l bs r i
      have ed : doorsL l bs r (i + 1) = doorsL l bs r i ++ [turnAt r i].filter fun x => decide (x ∈ rms l bs) := by
        unfold doorsL
        rw [List.range_succ, List.map_append, List.filter_append]
        rfl
      refine ite2 (fun t => ?_) (fun t => ?_)
      · refine ⟨_, rfl, _, e4, by rw [List.length_map, List.length_map, sizeLine_eq]; omega, sm_over (sm_trans s2 s4) nb, ?_⟩
        rw [upd_same, ed, List.filter_cons, if_pos t]
        simp
      · refine ⟨sm_trans s2 s4, ?_⟩
        rw [e4, ed, List.filter_cons, if_neg t]
        simp
    · rintro H2 ⟨s2, e2⟩
      exact q H2 Db (sm_trans (sm_trans s0 s1) s2) nbH e2
end
end NC
namespace NC
open PySem PySem.Spec PyProof.Rows L2
/-- a part: sides of rising walls -/
structure Part (l P : List Nat) : Prop where
  sub : (P.map lwc).Sublist l
  sd : ∀ c ∈ P, c ∈ sds l
def allFo (fo : Nat → List Nat) (P : List Nat) : List Nat := P.flatMap fo
def tornL (l W : List Nat) : List Nat := l.filter fun c => decide (c ∈ W) && decide (swp c ∈ W)
def byWT (l W : List Nat) : List Nat := l.flatMap fun c => [swp c, c].filter fun e => decide (e ∈ W)
def wov (W r : List Nat) : List Nat := r.map fun s => if swp s ∈ W then swp s else s
theorem inR_iff {b r : List Nat} : inR b r = true ↔ ∀ s ∈ b, s ∈ r := by
  unfold inR
  rw [List.all_eq_true]
  exact ⟨fun h s hs => of_decide_eq_true (h s hs), fun h s hs => decide_eq_true (h s hs)⟩
theorem Part.len {l P : List Nat} (h : Part l P) : P.length ≤ l.length := by
  have := h.sub.length_le
  rw [List.length_map] at this
  exact this
theorem byWT_mem {l : List Nat} (g : GoodW l) {W : List Nat} {s : Nat} : s ∈ byWT l W ↔ s ∈ sds l ∧ s ∈ W := by
  unfold byWT
  rw [List.mem_flatMap]
  constructor
  · rintro ⟨c, hc, hs⟩
    obtain ⟨h1, h2⟩ := List.mem_filter.mp hs
    refine ⟨?_, of_decide_eq_true h2⟩
    rcases List.mem_cons.mp h1 with e | e
    · rw [e]; exact sds_swp g (sds_of_small hc)
    · rw [List.mem_singleton.mp e]; exact sds_of_small hc
  · rintro ⟨h1, h2⟩
    rcases sds_shape g h1 with z | z
    · exact ⟨s, z.2.2, List.mem_filter.mpr ⟨List.mem_cons_of_mem _ (List.mem_singleton.mpr rfl), decide_eq_true h2⟩⟩
    · refine ⟨s + 32, z.2.2, List.mem_filter.mpr ⟨?_, decide_eq_true h2⟩⟩
      rw [swp_small (by omega)]
      exact List.mem_cons.mpr (.inl (by omega))
theorem byWT_len (l W : List Nat) : (byWT l W).length ≤ 2 * l.length := by
  induction l with
  | nil => simp [byWT]
  | cons x r ih =>
    have h1 : (byWT (x :: r) W) = ([swp x, x].filter fun e => decide (e ∈ W)) ++ byWT r W := by simp [byWT]
    rw [h1, List.length_append, List.length_cons]
    have h2 : ([swp x, x].filter fun e => decide (e ∈ W)).length ≤ 2 := List.length_filter_le _ _
    omega
theorem byWT_snoc (l : List Nat) (n : Nat) (c : Nat) (W : List Nat) (h : l[n]? = some c) : byWT (l.take (n + 1)) W = byWT (l.take n) W ++ [swp c, c].filter fun e => decide (e ∈ W) := by
  rw [List.take_add_one, h]
  unfold byWT
  rw [List.flatMap_append]
  simp
section
variable {l : List Nat} (g : GoodW l) {bs : List (List Nat)} (hb : ∀ b ∈ bs, isBar l b = true) {fo : Nat → List Nat} (hf : ∀ s ∈ sds l, ∀ t, t ∈ fo s ↔ Frc (adjOf bs) s t)
include g hb hf
theorem allFo_mem {P : List Nat} (hP : ∀ c ∈ P, c ∈ sds l) {t : Nat} : t ∈ allFo fo P ↔ ∃ s ∈ P, Frc (adjOf bs) s t := by
  unfold allFo
  rw [List.mem_flatMap]
  exact ⟨fun ⟨s, hs, h⟩ => ⟨s, hs, (hf s (hP s hs) t).mp h⟩, fun ⟨s, hs, h⟩ => ⟨s, hs, (hf s (hP s hs) t).mpr h⟩⟩
theorem allFo_sd {P : List Nat} (hP : ∀ c ∈ P, c ∈ sds l) {t : Nat} (h : t ∈ allFo fo P) : t ∈ sds l := by
  obtain ⟨s, hs, k⟩ := (allFo_mem g hb hf hP).mp h
  exact Frc.mem g hb (hP s hs) k
theorem allFo_adj {P : List Nat} (hP : ∀ c ∈ P, c ∈ sds l) {t u : Nat} (h : t ∈ allFo fo P) (k : u ∈ adjOf bs t) : u ∈ allFo fo P := by
  obtain ⟨s, hs, z⟩ := (allFo_mem g hb hf hP).mp h
  exact (allFo_mem g hb hf hP).mpr ⟨s, hs, z.step k⟩
theorem allFo_self {P : List Nat} (hP : ∀ c ∈ P, c ∈ sds l) {t : Nat} (h : t ∈ P) : t ∈ allFo fo P := (allFo_mem g hb hf hP).mpr ⟨t, h, Frc.refl⟩
/-- what a room has of a part it has of all that is forced -/
theorem allFo_in {P : List Nat} (hP : ∀ c ∈ P, c ∈ sds l) {q : List Nat} (hq : q ∈ rms l bs) (hin : ∀ s ∈ P, s ∈ q) {t : Nat} (h : t ∈ allFo fo P) : t ∈ q := by
  obtain ⟨p, rfl, sp⟩ := (rms_mem g hb q).mp hq
  obtain ⟨s, hs, z⟩ := (allFo_mem g hb hf hP).mp h
  have v := Sat.frc g hb sp ((rm_mem g (hP s hs)).mp (hin s hs)) z
  exact (rm_mem g (Frc.mem g hb (hP s hs) z)).mpr v
theorem room_one {q : List Nat} (hq : q ∈ rms l bs) {t : Nat} (ht : t ∈ sds l) (h1 : t ∈ q) (h2 : swp t ∈ q) : False := by
  obtain ⟨p, rfl, sp⟩ := (rms_mem g hb q).mp hq
  have v1 := (rm_mem g ht).mp h1
  have v2 := (rm_mem g (sds_swp g ht)).mp h2
  rw [val_swp (sds_lt g ht), v1] at v2
  cases v2
theorem torn_no {P : List Nat} (hP : ∀ c ∈ P, c ∈ sds l) {q : List Nat} (hq : q ∈ rms l bs) (hin : ∀ s ∈ P, s ∈ q) : tornL l (allFo fo P) = [] := by
  unfold tornL
  rw [List.filter_eq_nil_iff]
  intro c hc h
  rw [Bool.and_eq_true, decide_eq_true_eq, decide_eq_true_eq] at h
  exact room_one g hb hf hq (sds_of_small hc) (allFo_in g hb hf hP hq hin h.1) (allFo_in g hb hf hP hq hin h.2)
/-- what is written over a room is a room of the part -/
theorem wov_room {P : List Nat} (hP : ∀ c ∈ P, c ∈ sds l) {q r : List Nat} (hq : q ∈ rms l bs) (hin : ∀ s ∈ P, s ∈ q) (hr : r ∈ rms l bs) : wov (allFo fo P) r ∈ rms l bs ∧ ∀ s ∈ P, s ∈ wov (allFo fo P) r := by
  have hW : ∀ {t}, t ∈ allFo fo P → t ∈ q := fun h => allFo_in g hb hf hP hq hin h
  have hWs : ∀ {t}, t ∈ allFo fo P → t ∈ sds l := fun h => allFo_sd g hb hf hP h
  have one : ∀ {t}, t ∈ allFo fo P → swp t ∈ allFo fo P → False := fun h1 h2 => room_one g hb hf hq (hWs h1) (hW h1) (hW h2)
  obtain ⟨p, rfl, sp⟩ := (rms_mem g hb r).mp hr
  have self : ∀ {t}, t ∈ P → t ∈ allFo fo P := fun h => allFo_self g hb hf hP h
  have adj : ∀ {t u}, t ∈ allFo fo P → u ∈ adjOf bs t → u ∈ allFo fo P := fun h k => allFo_adj g hb hf hP h k
  generalize allFo fo P = W at hW hWs one self adj
  have eN : wov W (rmOf l p) = rmOf l (fun c => if c ∈ W then true else if upc c ∈ W then false else p c) := by
    unfold wov rmOf
    rw [List.map_map]
    refine List.map_congr_left fun c hc => ?_
    have sm := g.sm c hc
    show (if swp (if p c then c else upc c) ∈ W then swp (if p c then c else upc c) else (if p c then c else upc c)) = _
    have e1 : swp c = upc c := by rw [swp_small sm, upc_small sm]
    have e2 : swp (upc c) = c := by rw [upc_small sm, swp_great (by omega)]; omega
    have no : c ∈ W → upc c ∈ W → False := fun h1 h2 => one h1 (by rw [e1]; exact h2)
    by_cases hp : p c = true
    · simp only [hp, if_true, e1]
      by_cases h1 : c ∈ W
      · by_cases h2 : upc c ∈ W
        · exact (no h1 h2).elim
        · simp [h1, h2]
      · by_cases h2 : upc c ∈ W <;> simp [h1, h2]
    · simp only [hp, e2]
      by_cases h1 : c ∈ W
      · simp [h1, e2]
      · by_cases h2 : upc c ∈ W <;> simp [h1, h2, e2]
  generalize hpN : (fun c => if c ∈ W then true else if upc c ∈ W then false else p c) = pN at eN
  have vW : ∀ {t}, t ∈ sds l → t ∈ W → val pN t = true := fun {t} ht h => by
    rcases sds_shape g ht with z | z
    · rw [val_small ⟨z.1, z.2.1⟩, ← hpN]
      simp [h]
    · have hn : t + 32 ∉ W := fun k => one h (by rw [swp_great ⟨z.1, z.2.1⟩]; exact k)
      have hu : upc (t + 32) = t := by rw [upc_small (by omega)]; omega
      unfold val
      rw [if_pos (by omega), ← hpN]
      simp [hn, hu, h]
  have vr : ∀ {t}, t ∈ sds l → t ∉ W → val pN t = true → val p t = true := fun {t} ht h v => by
    have hn : swp t ∉ W := fun k => by
      have := vW (sds_swp g ht) k
      rw [val_swp (sds_lt g ht), v] at this
      cases this
    rcases sds_shape g ht with z | z
    · rw [swp_small ⟨z.1, z.2.1⟩, ← upc_small ⟨z.1, z.2.1⟩] at hn
      rw [val_small ⟨z.1, z.2.1⟩, ← hpN] at v
      rw [val_small ⟨z.1, z.2.1⟩]
      simpa [h, hn] using v
    · rw [swp_great ⟨z.1, z.2.1⟩] at hn
      have hu : upc (t + 32) = t := by rw [upc_small (by omega)]; omega
      unfold val at v ⊢
      rw [if_pos (by omega), ← hpN] at v
      rw [if_pos (by omega)]
      simpa [hn, hu, h] using v
  refine ⟨?_, fun s hs => ?_⟩
  · rw [eN]
    refine (rms_mem g hb _).mpr ⟨pN, rfl, fun x y hxy ⟨v1, v2⟩ => ?_⟩
    obtain ⟨x', y', e, hx, hy, _⟩ := bar_two (hb _ hxy)
    cases e
    by_cases h1 : x ∈ W
    · have := adj h1 ((adj_iff g hb (sds_lt g (sds_swp g hy))).mpr (.inl (by rw [swp_swp (sds_lt g hy)]; exact hxy)))
      have := vW (sds_swp g hy) this
      rw [val_swp (sds_lt g hy), v2] at this
      cases this
    · by_cases h2 : y ∈ W
      · have := adj h2 ((adj_iff g hb (sds_lt g (sds_swp g hx))).mpr (.inr (by rw [swp_swp (sds_lt g hx)]; exact hxy)))
        have := vW (sds_swp g hx) this
        rw [val_swp (sds_lt g hx), v1] at this
        cases this
      · exact sp x y hxy ⟨vr hx h1 v1, vr hy h2 v2⟩
  · rw [eN]
    exact (rm_mem g (hP s hs)).mpr (vW (hP s hs) (self hs))
end
theorem upc_ne {c : Nat} (h : 97 ≤ c ∧ c ≤ 122) : upc c ≠ c := by rw [upc_small h]; omega
theorem allT_nd {l : List Nat} (sm : ∀ c ∈ l, 97 ≤ c ∧ c ≤ 122) : ∀ k, k ≤ l.length → (allT l k).Nodup
  | 0, _ => by simp [allT]
  | k + 1, h => by
    have ih := allT_nd sm k (by omega)
    have hk : k < l.length := by omega
    have ne : upc (l.getD k 0) ≠ l.getD k 0 := by
      have : l.getD k 0 = l[k] := by rw [List.getD_eq_getElem?_getD, List.getElem?_eq_getElem hk]; rfl
      rw [this]
      exact upc_ne (sm _ (List.getElem_mem hk))
    show ((allT l k).flatMap fun r => [r ++ [upc (l.getD k 0)], r ++ [l.getD k 0]]).Nodup
    generalize allT l k = L at ih
    induction L with
    | nil => simp
    | cons x r ih2 =>
      have h1 := List.nodup_cons.mp ih
      rw [List.flatMap_cons, List.nodup_append]
      refine ⟨?_, ih2 h1.2, fun a ha b hb e => ?_⟩
      · rw [List.nodup_cons]
        refine ⟨fun z => ?_, by simp⟩
        have := List.mem_singleton.mp z
        have := List.append_cancel_left this
        exact ne (by simpa using this)
      · subst e
        obtain ⟨y, hy, hm⟩ := List.mem_flatMap.mp hb
        have e1 : a.dropLast = x := by
          rcases List.mem_cons.mp ha with z | z
          · rw [z]; simp
          · rw [List.mem_singleton.mp z]; simp
        have e2 : a.dropLast = y := by
          rcases List.mem_cons.mp hm with z | z
          · rw [z]; simp
          · rw [List.mem_singleton.mp z]; simp
        rw [← e1, e2] at h1
        exact h1.1 hy
theorem rms_nd {l : List Nat} (g : GoodW l) {bs : List (List Nat)} : (rms l bs).Nodup := by
  unfold rms
  exact (allT_nd g.sm _ (Nat.le_refl _)).sublist List.filter_sublist
theorem part_pw {l P : List Nat} (g : GoodW l) (h : Part l P) : (P.map lwc).Pairwise (· < ·) := g.rise.sublist h.sub
end NC
namespace NC
open PySem PySem.Spec PyProof.Rows L2
abbrev sHwalls : Stmt := inClass (topS 28) 1
abbrev sHforced : Stmt := inClass (topS 28) 3
abbrev sIsPart : Stmt := topS 30
abbrev sChkPart : Stmt := topS 31
abbrev sAllFB : Stmt := topS 32
abbrev sTorn : Stmt := topS 33
theorem scHwalls : FnScope ["self"] ["self"] (defScope sHwalls) := ⟨rfl, rfl, rfl, by decide +kernel, rfl, by decide +kernel, by decide +kernel⟩
theorem scHforced : FnScope ["self", "side"] ["self", "side"] (defScope sHforced) := ⟨rfl, rfl, rfl, by decide +kernel, rfl, by decide +kernel, by decide +kernel⟩
abbrev nIsPart : List Str := ["hall", "part", "walls", "ahead", "wall"]
theorem scIsPart : FnScope nIsPart ["hall", "part"] (defScope sIsPart) := ⟨rfl, rfl, rfl, by decide +kernel, rfl, by decide +kernel, by decide +kernel⟩
theorem scChkPart : FnScope ["hall", "part"] ["hall", "part"] (defScope sChkPart) := ⟨rfl, rfl, rfl, by decide +kernel, rfl, by decide +kernel, by decide +kernel⟩
theorem scAllFB : FnScope ["hall", "part", "side"] ["hall", "part"] (defScope sAllFB) := ⟨rfl, rfl, rfl, by decide +kernel, rfl, by decide +kernel, by decide +kernel⟩
theorem scTorn : FnScope ["hall", "part", "sides", "wall"] ["hall", "part"] (defScope sTorn) := ⟨rfl, rfl, rfl, by decide +kernel, rfl, by decide +kernel, by decide +kernel⟩
structure HP (K : PySem.W.Frag) (C fw ff : Addr) (dw df : FuncData) : Prop where
  mw : Meth K C "walls" fw
  Fw : Fun K "walls" "Hall.walls" sHwalls fw dw
  bw : Binds K dw ["self"] []
  mf : Meth K C "forced" ff
  Ff : Fun K "forced" "Hall.forced" sHforced ff df
  bf : Binds K df ["self", "side"] []
/-- a hall of which it is known what its sides force -/
structure HallF (C : Addr) (H : Hp) (x dx sb D : Addr) (l : List Nat) (ys : List Str) (fo : Nat → List Nat) (bs : List (List Nat)) : Prop where
  G : HallG C H x dx sb D l ys fo bs
  hf : ∀ s ∈ sds l, ∀ t, t ∈ fo s ↔ Frc (adjOf bs) s t
  fl : ∀ s ∈ sds l, (fo s).length ≤ 24
theorem HallF.same {C : Addr} {H H' : Hp} {x dx sb D : Addr} {l : List Nat} {ys : List Str} {fo : Nat → List Nat} {bs : List (List Nat)} (h : HallF C H x dx sb D l ys fo bs) (s : Same H H') : HallF C H' x dx sb D l ys fo bs := ⟨h.G.same s, h.hf, h.fl⟩
theorem allFo_len {l : List Nat} {fo : Nat → List Nat} (fl : ∀ s ∈ sds l, (fo s).length ≤ 24) : ∀ {P : List Nat}, (∀ c ∈ P, c ∈ sds l) → (allFo fo P).length ≤ 24 * P.length
  | [], _ => by simp [allFo]
  | x :: r, h => by
    have e : allFo fo (x :: r) = fo x ++ allFo fo r := by simp [allFo]
    have h1 := fl x (h x (List.mem_cons_self ..))
    have h2 := allFo_len fl (P := r) fun c hc => h c (List.mem_cons_of_mem _ hc)
    rw [e, List.length_append, List.length_cons]
    omega
theorem sum_txs (xs : List (List Nat)) : ((xs.map tx).map (·.length)).sum = xs.flatten.length := by
  induction xs with
  | nil => rfl
  | cons x r ih => rw [List.map_cons, List.map_cons, List.sum_cons, ih, List.flatten_cons, List.length_append, tx_len]
theorem sum_sgs (xs : List Nat) : ((xs.map sg).map (·.length)).sum = xs.length := by
  induction xs with
  | nil => rfl
  | cons x r ih =>
    rw [List.map_cons, List.map_cons, List.sum_cons, ih, List.length_cons]
    show 1 + r.length = _
    omega
section
variable {P : Program} {w : World} {K : PySem.W.Frag} {mg : Str → Option Value} {base : Heap} {C fi fb fm fr fg fw ff : Addr} {di db dm dr dg dw df : FuncData}
def spHwalls (C : Addr) : Sp := fun vs H Q _ => ∃ x dx sb D l ys fo, vs = [.ref x] ∧ HallAt C H x dx sb D l ys fo ∧ Q (.str (tx l)) H
theorem ok_Hwalls {k : Nat} (Z : HC K mg C fi fb di db) (Y : HP K C fw ff dw df) : FnOk P w K mg base CX0 (k + 1) fw dw ["self"] (spHwalls C) := by
  refine Y.Fw.ok scHwalls (fun vs H Q E h => ?_) (fun cdv A outer st H vs Q E hr h => ?_)
  · obtain ⟨x, dx, sb, D, l, ys, fo, rfl, _⟩ := h
    rfl
  · obtain ⟨x, dx, sb, D, l, ys, fo, rfl, hA, q⟩ := h
    refine ⟨_, pss_one (ps_ret (pe_fld (pv 0) rfl)), ?_⟩
    exact ⟨_, rfl, x, C, dx, _, .str (tx l), rfl, hA.x, Z.cl, Z.n1, rfl, q⟩
def spHforced (C : Addr) : Sp := fun vs H Q _ => ∃ x dx sb D l ys fo s, vs = [.ref x, .str (sg s)] ∧ HallAt C H x dx sb D l ys fo ∧ GoodW l ∧ s ∈ sds l ∧ ∀ H', Same H H' → Q (.str (tx (fo s))) H'
theorem ok_Hforced {fC fS : Addr} {dC dS : FuncData} {k : Nat} (B : BM mg) (Z : HC K mg C fi fb di db) (Y : HP K C fw ff dw df) (Cs : DF K mg "check_side" sChkSide ["walls", "side"] fC dC) (S : DF K mg "sides_of" sSides ["walls"] fS dS) : FnOk P w K mg base CX0 (k + 3) ff df ["self", "side"] (spHforced C) := by
  have GS := ok_chkSide (P := P) (w := w) (base := base) (k := k) B Cs.F S
  refine Y.Ff.ok scHforced (fun vs H Q E h => ?_) (fun cdv A outer st H vs Q E hr h => ?_)
  · obtain ⟨x, dx, sb, D, l, ys, fo, s, rfl, _⟩ := h
    rfl
  · obtain ⟨x, dx, sb, D, l, ys, fo, s, rfl, hA, g, hs, q⟩ := h
    refine ⟨_, pss_cons (ps_expr (pe_call GS hr rfl Cs.g Cs.F.kp Cs.b .nil pass0 (pa_cons (pe_fld (pv 0) rfl) (pa_cons (pv 1) pa_nil)))) (pss_one (ps_ret (pe_dget (hu_of hr) (pe_fld (pv 0) rfl) (pv 1) (fun _ _ => rfl)))), ?_⟩
    refine ⟨_, rfl, x, C, dx, _, .str (tx l), rfl, hA.x, Z.cl, Z.n1, rfl, _, rfl, l, s, rfl, g, hs, fun H1 s1 => ?_⟩
    have hA1 := hA.same s1
    exact ⟨_, rfl, x, C, dx, _, .ref D, rfl, hA1.x, Z.cl, Z.n3, rfl, _, rfl, D, _, rfl, foK_get hA1.D hs, q H1 s1⟩
def spIsPart (C : Addr) : Sp := fun vs H Q _ => ∃ x dx sb D l ys fo P, vs = [.ref x, .str (tx P)] ∧ HallAt C H x dx sb D l ys fo ∧ GoodW l ∧ Part l P ∧ ∀ H', Same H H' → Q (.bl true) H'
set_option maxHeartbeats 1000000 in
theorem ok_isPart {f : Addr} {fd : FuncData} {k : Nat} (Z : HC K mg C fi fb di db) (Y : HP K C fw ff dw df) (F : Fun K "is_part" "is_part" sIsPart f fd) : FnOk P w K mg base CX0 (k + 2) f fd ["hall", "part"] (spIsPart C) := by
  have GW : FnOk P w K mg base CX0 (k + 1) fw dw ["self"] (spHwalls C) := ok_Hwalls Z Y
  refine F.ok scIsPart (fun vs H Q E h => ?_) (fun cdv A outer st H vs Q E hr h => ?_)
  · obtain ⟨x, dx, sb, D, l, ys, fo, P, rfl, _⟩ := h
    rfl
  · obtain ⟨x, dx, sb, D, l, ys, fo, P, rfl, hA, g, hP, q⟩ := h
    have nd := scIsPart.nd
    have hl12 := g.hi
    refine ⟨_, pss_cons (ps_set (i := 2) nd rfl (.inl rfl) (pe_meth0 (pv 0) Z.cl Y.mw GW hr Y.bw .nil pass0))
      (pss_cons (ps_set (i := 3) nd rfl (.inl rfl) pe_str)
      (pss_cons (ps_for PassesOwn.never rfl (pi_str (pe_lower (pv 1))) (pg_name (i := 4) nd rfl (.inl rfl))
        (pss_cons (ps_if (PW.pt (pw_or (pt_cmpR op_notIn_sign (pv 4) (pv 2) (by rfl)) (pw_or1 (pt_cmpR op_le_str (pv 4) (pv 3) (nomark _))))) (pss_one (ps_ret pe_bl)) pss_nil)
        (pss_one (ps_set (i := 3) nd rfl (.inl rfl) (pv 4)))))
      (pss_one (ps_ret pe_bl)))), ?_⟩
    refine ⟨_, rfl, x, dx, _, rfl, hA.x, rfl, x, dx, sb, D, l, ys, fo, rfl, hA, ?_⟩
    have pa : ∀ c ∈ P, c < 128 := fun c hc => sds_asc g (hP.sd c hc)
    have pl := hP.len
    refine ⟨_, rfl, ⟨_, rfl⟩, _, rfl, rfl, by show P.toArray.size ≤ 5592405; rw [List.size_toArray]; omega, ?_⟩
    rw [lower_tx pa]
    refine ⟨_, rfl, ?_⟩
    have lz : (tx (P.map lwc)).cps.size = P.length := by rw [show (tx (P.map lwc)).cps.size = (P.map lwc).length from tx_len _, List.length_map]
    have wk := walk_str (z := tx (P.map lwc))
    rw [lz] at wk
    have pw := part_pw g hP
    have sub := hP.sub
    generalize hS : P.map lwc = S at *
    have sl : S.length = P.length := by rw [← hS, List.length_map]
    refine for_it wk (fun i σ H' => ∃ (a : List Nat) (y4 : Option V), σ = [some (.ref x), some (.str (tx P)), some (.str (tx l)), some (.str (tx a)), y4] ∧ Same H H' ∧ ∀ c, S[i]? = some c → a < [c]) ⟨[], _, by rw [str00]; rfl, L2.Same.refl _, fun c _ => by simp⟩ (fun _ _ _ _ _ => trivial) ?_ ?_
    · rintro i v σ H1 H2 hi ⟨a, y4, rfl, s1, ha⟩ ⟨rfl, c, hc, rfl⟩
      have hc : S[i]? = some c := by
        rw [← Array.getElem?_toList, tx_list] at hc
        exact hc
      have cl : c ∈ l := sub.subset (List.mem_of_getElem? hc)
      refine ⟨_, rfl, _, rfl, c, tx l, rfl, rfl, _, rfl, ?_⟩
      rw [tx_list, decide_eq_true cl]
      refine iteF ⟨_, rfl, _, rfl, _, _, rfl, rfl, _, rfl, ?_⟩
      rw [show (⟨#[c]⟩ : Str).cps.toList = [c] from rfl, tx_list, decide_eq_true (ha c hc)]
      refine iteF ⟨_, rfl, [c], _, rfl, s1, fun e he => ?_⟩
      rw [lt1]
      have hi1 := (List.getElem?_eq_some_iff.mp hc)
      have hi2 := (List.getElem?_eq_some_iff.mp he)
      have := List.pairwise_iff_getElem.mp pw i (i + 1) hi1.1 hi2.1 (by omega)
      rw [hi1.2, hi2.2] at this
      exact this
    · rintro σ H1 ⟨a, y4, rfl, s1, ha⟩
      exact q H1 s1
def spChkPart (C : Addr) : Sp := fun vs H Q _ => ∃ x dx sb D l ys fo P, vs = [.ref x, .str (tx P)] ∧ HallAt C H x dx sb D l ys fo ∧ GoodW l ∧ Part l P ∧ ∀ H', Same H H' → Q .non H'
theorem ok_chkPart {f fI : Addr} {fd dI : FuncData} {k : Nat} (Z : HC K mg C fi fb di db) (Y : HP K C fw ff dw df) (F : Fun K "check_part" "check_part" sChkPart f fd) (I : DF K mg "is_part" sIsPart ["hall", "part"] fI dI) : FnOk P w K mg base CX0 (k + 3) f fd ["hall", "part"] (spChkPart C) := by
  have GI : FnOk P w K mg base CX0 (k + 2) fI dI ["hall", "part"] (spIsPart C) := ok_isPart Z Y I.F
  refine F.ok scChkPart (fun vs H Q E h => ?_) (fun cdv A outer st H vs Q E hr h => ?_)
  · obtain ⟨x, dx, sb, D, l, ys, fo, P, rfl, _⟩ := h
    rfl
  · obtain ⟨x, dx, sb, D, l, ys, fo, P, rfl, hA, g, hP, q⟩ := h
    refine ⟨_, pss_one (ps_if (pt_not (pt_val (pe_call GI hr rfl I.g I.F.kp I.b .nil pass0 (pa_cons (pv 0) (pa_cons (pv 1) pa_nil))))) (pss_one ps_dead) pss_nil), ?_⟩
    exact ⟨_, rfl, _, rfl, x, dx, sb, D, l, ys, fo, P, rfl, hA, g, hP, fun H1 s1 => ⟨_, rfl, iteF (q H1 s1)⟩⟩
def spAllFB (C : Addr) : Sp := fun vs H Q _ => ∃ x dx sb D l ys fo P, vs = [.ref x, .str (tx P)] ∧ HallAt C H x dx sb D l ys fo ∧ GoodW l ∧ (∀ s ∈ sds l, (fo s).length ≤ 24) ∧ (∀ c ∈ P, c ∈ sds l) ∧ P.length ≤ 100 ∧ ∀ H', Same H H' → Q (.str (tx (allFo fo P))) H'
set_option maxHeartbeats 1000000 in
theorem ok_allFB {f fC fS : Addr} {fd dC dS : FuncData} {k : Nat} (B : BM mg) (Z : HC K mg C fi fb di db) (Y : HP K C fw ff dw df) (Cs : DF K mg "check_side" sChkSide ["walls", "side"] fC dC) (S : DF K mg "sides_of" sSides ["walls"] fS dS) (F : Fun K "all_forced_by" "all_forced_by" sAllFB f fd) : FnOk P w K mg base CX0 (k + 4) f fd ["hall", "part"] (spAllFB C) := by
  have GF : FnOk P w K mg base CX0 (k + 3) ff df ["self", "side"] (spHforced C) := ok_Hforced B Z Y Cs S
  refine F.ok scAllFB (fun vs H Q E h => ?_) (fun cdv A outer st H vs Q E hr h => ?_)
  · obtain ⟨x, dx, sb, D, l, ys, fo, P, rfl, _⟩ := h
    rfl
  · obtain ⟨x, dx, sb, D, l, ys, fo, P, rfl, hA, g, fl, hP, hn, q⟩ := h
    have nd := scAllFB.nd
    refine ⟨_, pss_one (ps_ret (pe_join pe_str (pe_lc (own := [("side", 2)]) (g := gName 2) (tt := tYes) (te := tMeth C "forced" (spHforced C) [] E0 (tVar 0) (tCons (tVar 2) tNil)) rfl nd (pi_str (pv 1)) (blkOk_by (N := ["hall", "part", "side"]) (sc := defScope sAllFB) (by decide +kernel)) (fun _ _ _ _ _ => pg_name (i := 2) nd rfl (Or.inl rfl)) (fun _ _ _ _ _ => pts_nil)
      (fun _ _ _ _ _ => pe_meth (pv 0) Z.cl Y.mf GF hr Y.bf .nil pass0 (pa_cons (pv 2) pa_nil))))), ?_⟩
    refine ⟨⟨_, rfl⟩, _, rfl, tx P, rfl, fun Da na => ?_⟩
    have lz : (tx P).cps.size = P.length := tx_len _
    have wk := walk_str (z := tx P)
    rw [lz] at wk
    refine lc_it wk (fun i H' => Same H H' ∧ H' Da = some (.lst ((((P.take i).map fo).map tx).map V.str))) ⟨same_upd na, upd_same⟩ (fun _ _ _ _ => trivial) ?_ ?_
    · rintro i v H1 H2 hi ⟨s1, e1⟩ ⟨rfl, c, hc, rfl⟩
      have hc : P[i]? = some c := by
        rw [← Array.getElem?_toList, tx_list] at hc
        exact hc
      have hA1 := hA.same s1
      refine ⟨rfl, yes_i ⟨_, rfl, x, dx, _, rfl, hA1.x, rfl, _, rfl, x, dx, sb, D, l, ys, fo, c, rfl, hA1, g, hP c (List.mem_of_getElem? hc), fun H3 s3 => ⟨_, s3 _ _ e1, ?_, sm_over (sm_trans s1 s3) na, ?_⟩⟩⟩
      · rw [List.length_map, List.length_map, List.length_map, List.length_take, sizeLine_eq]
        omega
      · rw [upd_same, List.take_add_one, hc, List.map_append, List.map_append, List.map_append]
        rfl
    · rintro H1 ⟨s1, e1⟩
      rw [List.take_length] at e1
      have ln := allFo_len fl hP
      have ef : (P.map fo).flatten = allFo fo P := by unfold allFo; rw [List.flatMap_def]
      refine ⟨_, _, (P.map fo).map tx, rfl, rfl, .inl (SqL.of e1), ?_, ?_⟩
      · rw [sum_txs, ef, show (Str.ofString "").length = 0 by decide +kernel]
        omega
      · rw [join_tx, ef]
        exact q _ s1
def spTorn (C : Addr) : Sp := fun vs H Q _ => ∃ x dx sb D l ys fo P, vs = [.ref x, .str (tx P)] ∧ HallAt C H x dx sb D l ys fo ∧ GoodW l ∧ (∀ s ∈ sds l, (fo s).length ≤ 24) ∧ (∀ c ∈ P, c ∈ sds l) ∧ P.length ≤ 100 ∧ ∀ H', Same H H' → Q (.str (tx (tornL l (allFo fo P)))) H'
set_option maxHeartbeats 1000000 in
theorem ok_torn {f fC fS fA fO : Addr} {fd dC dS dA dO : FuncData} {k : Nat} (B : BM mg) (Z : HC K mg C fi fb di db) (Y : HP K C fw ff dw df) (Cs : DF K mg "check_side" sChkSide ["walls", "side"] fC dC) (S : DF K mg "sides_of" sSides ["walls"] fS dS) (A : DF K mg "all_forced_by" sAllFB ["hall", "part"] fA dA) (O : DF K mg "other" sOther ["side"] fO dO) (F : Fun K "torn_walls" "torn_walls" sTorn f fd) :
    FnOk P w K mg base CX0 (k + 5) f fd ["hall", "part"] (spTorn C) := by
  have GA : FnOk P w K mg base CX0 (k + 4) fA dA ["hall", "part"] (spAllFB C) := ok_allFB B Z Y Cs S A.F
  have GW : FnOk P w K mg base CX0 (k + 1) fw dw ["self"] (spHwalls C) := ok_Hwalls Z Y
  have GO : FnOk P w K mg base CX0 (k + 1) fO dO ["side"] spOther := ok_other O.F
  refine F.ok scTorn (fun vs H Q E h => ?_) (fun cdv A0 outer st H vs Q E hr h => ?_)
  · obtain ⟨x, dx, sb, D, l, ys, fo, P, rfl, _⟩ := h
    rfl
  · obtain ⟨x, dx, sb, D, l, ys, fo, P, rfl, hA, g, fl, hP, hn, q⟩ := h
    have nd := scTorn.nd
    have r1 : Room (k + 1) _ := hr.mono (by omega)
    have hl12 := g.hi
    refine ⟨_, pss_cons (ps_set (i := 2) nd rfl (.inr rfl) (pe_call GA hr rfl A.g A.F.kp A.b .nil pass0 (pa_cons (pv 0) (pa_cons (pv 1) pa_nil))))
      (pss_one (ps_ret (pe_join pe_str (pe_lc (own := [("wall", 3)]) (g := gName 3) (tt := tAnd (tTest (tOp rSgn2 (tVar 3) (tVar 2))) (tTest (tOp rSgn2 (tCall spOther [] E0 (tCons (tVar 3) tNil)) (tVar 2)))) rfl nd (pi_str (pe_meth0 (pv 0) Z.cl Y.mw GW r1 Y.bw .nil pass0)) (blkOk_by (N := ["hall", "part", "sides", "wall"]) (sc := defScope sTorn) (by decide +kernel)) (fun _ _ _ _ _ => pg_name (i := 3) nd rfl (Or.inl rfl))
        (fun _ _ _ _ _ => pts_one (PW.pt (pw_and (pt_cmpR op_in_sign (pv 3) (pv 2) (by rfl)) (pw_and1 (pt_cmpR op_in_sign (pe_call GO r1 rfl O.g O.F.kp O.b .nil pass0 (pa_cons (pv 3) pa_nil)) (pv 2) (by rfl)))))) (fun _ _ _ _ _ => pv 3))))), ?_⟩
    refine ⟨_, rfl, _, rfl, x, dx, sb, D, l, ys, fo, P, rfl, hA, g, fl, hP, hn, fun H0 s0 => ?_⟩
    have hA0 := hA.same s0
    generalize allFo fo P = W at *
    refine ⟨⟨_, rfl⟩, _, rfl, x, dx, _, rfl, hA0.x, rfl, x, dx, sb, D, l, ys, fo, rfl, hA0, tx l, rfl, fun Da na => ?_⟩
    have lz : (tx l).cps.size = l.length := tx_len _
    have wk := walk_str (z := tx l)
    rw [lz] at wk
    refine lc_it wk (fun i H' => Same H0 H' ∧ H' Da = some (.lst (((tornL (l.take i) W).map sg).map V.str))) ⟨same_upd na, upd_same⟩ (fun _ _ _ _ => trivial) ?_ ?_
    · rintro i v H1 H2 hi ⟨s1, e1⟩ ⟨rfl, c, hc, rfl⟩
      have hc : l[i]? = some c := by
        rw [← Array.getElem?_toList, tx_list] at hc
        exact hc
      have ca : c < 128 := g.asc c (List.mem_of_getElem? hc)
      have et : tornL (l.take (i + 1)) W = tornL (l.take i) W ++ [c].filter fun c => decide (c ∈ W) && decide (swp c ∈ W) := by
        unfold tornL
        rw [List.take_add_one, hc, List.filter_append]
        rfl
      have tl : (tornL (l.take i) W).length ≤ 12 := Nat.le_trans (List.length_filter_le _ _) (by rw [List.length_take]; omega)
      have no : (decide (c ∈ W) && decide (swp c ∈ W)) = false → Same H0 H2 ∧ H2 Da = some (.lst (((tornL (l.take (i + 1)) W).map sg).map V.str)) := fun z => by
        refine ⟨s1, ?_⟩
        rw [e1, et, List.filter_cons, if_neg (by rw [z]; simp)]
        simp
      refine ⟨rfl, _, rfl, _, rfl, c, tx W, rfl, rfl, _, rfl, ?_⟩
      rw [tx_list]
      refine ite2 (fun t1 => ?_) (fun t1 => no (by rw [Bool.eq_false_iff.mpr t1]; rfl))
      refine ⟨_, rfl, c, rfl, ca, _, rfl, swp c, tx W, rfl, rfl, _, rfl, ?_⟩
      rw [tx_list]
      refine ite2 (fun t2 => ?_) (fun t2 => no (by rw [Bool.eq_false_iff.mpr t2]; simp))
      refine ⟨_, rfl, _, e1, by rw [List.length_map, List.length_map, sizeLine_eq]; omega, sm_over s1 na, ?_⟩
      rw [upd_same, et, List.filter_cons, if_pos (by rw [t1, t2]; rfl)]
      simp
      rfl
    · rintro H1 ⟨s1, e1⟩
      rw [List.take_length] at e1
      have tl : (tornL l W).length ≤ 12 := Nat.le_trans (List.length_filter_le _ _) hl12
      refine ⟨_, _, (tornL l W).map sg, rfl, rfl, .inl (SqL.of e1), ?_, ?_⟩
      · rw [sum_sgs, show (Str.ofString "").length = 0 by decide +kernel]
        omega
      · rw [join_sg]
        exact q _ (sm_trans s0 s1)
end
end NC
namespace NC
open PySem PySem.Spec PyProof.Rows L2
abbrev sShut : Stmt := topS 35
theorem scShut : FnScope ["hall", "part", "torn"] ["hall", "part"] (defScope sShut) := ⟨rfl, rfl, rfl, by decide +kernel, rfl, by decide +kernel, by decide +kernel⟩
section
variable {P : Program} {w : World} {K : PySem.W.Frag} {mg : Str → Option Value} {base : Heap} {C fi fb fm fr fg fw ff : Addr} {di db dm dr dg dw df : FuncData}
def spByWT : Sp := fun vs H Q _ => ∃ l W, vs = [.str (tx l), .str (tx W)] ∧ GoodW l ∧ ∀ H', Same H H' → Q (.str (tx (byWT l W))) H'
set_option maxHeartbeats 1000000 in
theorem ok_byWT {f fO : Addr} {fd fdO : FuncData} {k : Nat} (F : Fun K "by_walls" "by_walls" sByWalls f fd) (O : DF K mg "other" sOther ["side"] fO fdO) : FnOk P w K mg base CX0 (k + 2) f fd ["walls", "sides"] spByWT := by
  have GO : FnOk P w K mg base CX0 (k + 1) fO fdO ["side"] spOther := ok_other O.F
  refine F.ok scByWalls (fun vs H Q E h => ?_) (fun cdv A outer s H vs Q E hr h => ?_)
  · obtain ⟨l, W, rfl, _⟩ := h
    rfl
  · obtain ⟨l, W, rfl, g, q⟩ := h
    refine ⟨_, pss_one (ps_ret (pe_join pe_str (pe_lc2 (wi1 := iTup K (tTup (tCons (tCall spOther [] E0 (tCons (tVar 2) tNil)) (tCons (tVar 2) tNil)))) (own := [("wall", 2), ("side", 3)]) (vs1 := [3]) (g := gName 2) (g1 := gName 3) (tt := tYes) rfl scByWalls.nd (pi_str (pv 0))
      (blkOk_by (N := ["walls", "sides", "wall", "side"]) (sc := defScope sByWalls) (by decide +kernel)) (by decide)
      (fun _ _ _ _ _ => pg_name (i := 2) scByWalls.nd rfl (Or.inl rfl)) (fun _ _ _ _ _ => pts_nil)
      (fun _ _ _ _ _ => pi_tup (pe_tup (pa_cons (pe_call GO hr rfl O.g O.F.kp O.b .nil pass0 (pa_cons (pv 2) pa_nil)) (pa_cons (pv 2) pa_nil))))
      (fun _ _ _ _ _ => pg_name (i := 3) scByWalls.nd rfl (Or.inl rfl))
      (fun _ _ _ _ _ => pts_one (pt_cmpR op_in_sign (pv 3) (pv 1) (by rfl))) (fun _ _ _ _ _ => pv 3)))), ?_⟩
    refine ⟨⟨_, rfl⟩, _, rfl, tx l, rfl, fun D hD => ?_⟩
    refine out_it walk_str (fun i H' => Same H H' ∧ H' D = some (.lst (((byWT (l.take i) W).map sg).map V.str))) ⟨same_upd hD, upd_same⟩ (fun _ _ _ _ => trivial) ?_ ?_
    · rintro i x H1 H2 hi ⟨sm, eD⟩ ⟨rfl, c, hc, rfl⟩
      have hcl : l[i]? = some c := by
        rw [← Array.getElem?_toList, tx_list] at hc
        exact hc
      have hca : c < 128 := g.asc c (List.mem_of_getElem? hcl)
      refine ⟨rfl, yes_i ⟨_, rfl, c, rfl, hca, _, rfl, by show 2 ≤ sizeLine; decide, fun T hT => ⟨T, rfl, ⟨_, SqT.of upd_same⟩, ?_⟩⟩⟩
      have nDT : D ≠ T := ne_of_none eD hT
      refine in_it (walk_tup (K := K) (a := T) (xs := [swp c, c].map fun e => V.str (sg e))) (fun j H' => Same H H' ∧ SqT K H' T ([swp c, c].map fun e => V.str (sg e)) ∧ H' D = some (.lst (((byWT (l.take i) W ++ ([swp c, c].take j).filter fun e => decide (e ∈ W)).map sg).map V.str)))
        ⟨sm_upd sm hT, SqT.of upd_same, by rw [upd_ne nDT, eD]; simp⟩ (fun j H' _ h => h.2.1) ?_ ?_
      · rintro j x H3 H4 hj ⟨sm2, hT2, eD2⟩ ⟨rfl, hx⟩
        rw [List.getElem?_map] at hx
        obtain ⟨e, he, rfl⟩ := Option.map_eq_some_iff.mp hx
        have hlen : (byWT (l.take i) W ++ ([swp c, c].take j).filter fun e => decide (e ∈ W)).length ≤ 2 * 12 + 2 := by
          rw [List.length_append]
          have h1 := byWT_len (l.take i) W
          have h2 : (([swp c, c].take j).filter fun e => decide (e ∈ W)).length ≤ 2 := Nat.le_trans (List.length_filter_le _ _) (by rw [List.length_take]; exact Nat.min_le_right _ _)
          have h3 : (l.take i).length ≤ 12 := Nat.le_trans (by rw [List.length_take]; exact Nat.min_le_right _ _) g.hi
          omega
        refine ⟨rfl, _, rfl, _, rfl, e, tx W, rfl, rfl, _, rfl, ?_⟩
        rw [tx_list]
        refine ite2 (fun ht => ⟨_, rfl, _, eD2, ?_, sm_over sm2 hD, ?_, ?_⟩) (fun ht => ⟨sm2, hT2, ?_⟩)
        · rw [List.length_map, List.length_map, sizeLine_eq]
          omega
        · rcases hT2 with (z | ⟨o, z⟩) | z
          · exact .inl (.inl (by rw [upd_ne (Ne.symm nDT)]; exact z))
          · exact .inl (.inr ⟨o, by rw [upd_ne (Ne.symm nDT)]; exact z⟩)
          · exact .inr z
        · have e1 : e ∈ W := of_decide_eq_true ht
          rw [upd_same, List.take_add_one, he, List.filter_append]
          simp [e1, sg_tx]
        · have e1 : e ∉ W := fun z => ht (decide_eq_true z)
          rw [eD2, List.take_add_one, he, List.filter_append]
          simp [e1]
      · rintro H3 ⟨sm2, _, eD2⟩
        refine ⟨sm2, ?_⟩
        rw [eD2, byWT_snoc l i c W hcl]
        rfl
    · rintro H3 ⟨sm2, eD2⟩
      have e1 : (l.take (tx l).cps.size) = l := by
        rw [show (tx l).cps.size = l.length from tx_len l]
        exact List.take_length
      rw [e1] at eD2
      refine ⟨_, _, (byWT l W).map sg, rfl, rfl, .inl (SqL.of eD2), ?_, ?_⟩
      · have h1 := byWT_len l W
        have h2 := g.hi
        rw [sum_sgs, show (Str.ofString "").length = 0 by decide +kernel]
        omega
      · rw [join_sg]
        exact q _ sm2
/-- what the functions of parts ask for in the text -/
structure PT (K : PySem.W.Frag) (mg : Str → Option Value) (C fw ff : Addr) (dw df : FuncData) (fIsP fChP fAFB fTo : Addr) (dIsP dChP dAFB dTo : FuncData) : Prop where
  Y : HP K C fw ff dw df
  isP : DF K mg "is_part" sIsPart ["hall", "part"] fIsP dIsP
  chP : DF K mg "check_part" sChkPart ["hall", "part"] fChP dChP
  afb : DF K mg "all_forced_by" sAllFB ["hall", "part"] fAFB dAFB
  to : DF K mg "torn_walls" sTorn ["hall", "part"] fTo dTo
def spShut (C : Addr) : Sp := fun vs H Q _ => ∃ x dx sb D l ys fo bs P z, vs = [.ref x, .str (tx P)] ∧ HallF C H x dx sb D l ys fo bs ∧ Part l P ∧ z ∈ rms l bs ∧ (∀ s ∈ P, s ∈ z) ∧ ∀ H', Same H H' → Q (.str (tx (byWT l (allFo fo P)))) H'
set_option maxHeartbeats 1000000 in
theorem ok_shut {f fC fS fO fBy fIsP fChP fAFB fTo : Addr} {fd dC dS dO dBy dIsP dChP dAFB dTo : FuncData} {k : Nat} (B : BM mg) (Z : HC K mg C fi fb di db) (T : PT K mg C fw ff dw df fIsP fChP fAFB fTo dIsP dChP dAFB dTo) (Cs : DF K mg "check_side" sChkSide ["walls", "side"] fC dC) (S : DF K mg "sides_of" sSides ["walls"] fS dS) (O : DF K mg "other" sOther ["side"] fO dO) (By : DF K mg "by_walls" sByWalls ["walls", "sides"] fBy dBy) (F : Fun K "shut" "shut" sShut f fd) :
    FnOk P w K mg base CX0 (k + 6) f fd ["hall", "part"] (spShut C) := by
  have GA : FnOk P w K mg base CX0 (k + 4) fAFB dAFB ["hall", "part"] (spAllFB C) := ok_allFB B Z T.Y Cs S T.afb.F
  have GW : FnOk P w K mg base CX0 (k + 1) fw dw ["self"] (spHwalls C) := ok_Hwalls Z T.Y
  have GT : FnOk P w K mg base CX0 (k + 5) fTo dTo ["hall", "part"] (spTorn C) := ok_torn B Z T.Y Cs S T.afb O T.to.F
  have GC : FnOk P w K mg base CX0 (k + 3) fChP dChP ["hall", "part"] (spChkPart C) := ok_chkPart Z T.Y T.chP.F T.isP
  have GB : FnOk P w K mg base CX0 (k + 2) fBy dBy ["walls", "sides"] spByWT := ok_byWT By.F O
  refine F.ok scShut (fun vs H Q E h => ?_) (fun cdv A0 outer st H vs Q E hr h => ?_)
  · obtain ⟨x, dx, sb, D, l, ys, fo, bs, P, z, rfl, _⟩ := h
    rfl
  · obtain ⟨x, dx, sb, D, l, ys, fo, bs, P, z, rfl, hF, hP, hz, hin, q⟩ := h
    have nd := scShut.nd
    have g := hF.G.g
    have hl12 := g.hi
    have pl := hP.len
    have r1 : Room (k + 1) _ := hr.mono (by omega)
    have r2 : Room (k + 2) _ := hr.mono (by omega)
    have r3 : Room (k + 3) _ := hr.mono (by omega)
    have r4 : Room (k + 4) _ := hr.mono (by omega)
    refine ⟨_, pss_cons (ps_expr (pe_call GC r3 rfl T.chP.g T.chP.F.kp T.chP.b .nil pass0 (pa_cons (pv 0) (pa_cons (pv 1) pa_nil))))
      (pss_cons (ps_set (i := 2) nd rfl (.inl rfl) (pe_call GT hr rfl T.to.g T.to.F.kp T.to.b .nil pass0 (pa_cons (pv 0) (pa_cons (pv 1) pa_nil))))
      (pss_cons (ps_if (pt_cmpR op_ne (pv 2) pe_str (nomark _)) (pss_one ps_dead) pss_nil)
      (pss_one (ps_ret (pe_call GB r2 rfl By.g By.F.kp By.b .nil pass0 (pa_cons (pe_meth0 (pv 0) Z.cl T.Y.mw GW r1 T.Y.bw .nil pass0) (pa_cons (pe_call GA r4 rfl T.afb.g T.afb.F.kp T.afb.b .nil pass0 (pa_cons (pv 0) (pa_cons (pv 1) pa_nil))) pa_nil))))))), ?_⟩
    refine ⟨_, rfl, _, rfl, x, dx, sb, D, l, ys, fo, P, rfl, hF.G.hA, g, hP, fun H1 s1 => ?_⟩
    have hF1 := hF.same s1
    refine ⟨_, rfl, _, rfl, x, dx, sb, D, l, ys, fo, P, rfl, hF1.G.hA, g, hF.fl, hP.sd, by omega, fun H2 s2 => ?_⟩
    have hF2 := hF1.same s2
    rw [torn_no g hF.G.bar hF.hf hP.sd hz hin]
    refine ⟨_, rfl, rfl, _, rfl, ?_⟩
    rw [str00, show (!decide (V.str (tx []) = V.str (tx []))) = false by simp]
    refine iteF ⟨_, rfl, x, dx, _, rfl, hF2.G.hA.x, rfl, x, dx, sb, D, l, ys, fo, rfl, hF2.G.hA, _, rfl, _, rfl, x, dx, sb, D, l, ys, fo, P, rfl, hF2.G.hA, g, hF.fl, hP.sd, by omega, fun H3 s3 => ?_⟩
    exact ⟨l, _, rfl, g, fun H4 s4 => q H4 (sm_trans (sm_trans s1 s2) (sm_trans s3 s4))⟩
end
end NC
namespace NC
open PySem PySem.Spec PyProof.Rows L2
abbrev sLSides : Stmt := topS 59
abbrev nLSides : List Str := ["_law_d", "_law_shuts", "_law_odds", "_law_found", "_law_shut", "_law_how"]
theorem scLSides : FnScope nLSides ["_law_d", "_law_shuts"] (defScope sLSides) := ⟨rfl, rfl, rfl, by decide +kernel, rfl, by decide +kernel, by decide +kernel⟩
theorem Dr.ne {H : Hp} {d p : Addr} (D : Dr H d) (n : H p = none) : p ≠ d := by
  obtain ⟨c0, r0, hd⟩ := D.head
  exact Ne.symm (ne_of_none hd n)
theorem lwc_small {c : Nat} (h : 97 ≤ c ∧ c ≤ 122) : lwc c = c := by unfold lwc; rw [if_neg (by omega)]
theorem lwc_up {c : Nat} (h : 97 ≤ c ∧ c ≤ 122) : lwc (upc c) = c := by rw [upc_small h]; unfold lwc; rw [if_pos (by omega)]; omega
def tLow (te : TE) : TE := tM0 (fun x xs H Q => ∃ a, x = .str a ∧ xs = [] ∧ a.length ≤ 5592405 ∧ Q (.str (Txt.lower a)) H) te
theorem low_sg {c : Nat} (h : c < 128) : Txt.lower (⟨#[c]⟩ : Str) = ⟨#[lwc c]⟩ := lower_tx (l := [c]) (fun e he => by rw [List.mem_singleton.mp he]; exact h)
section
variable {P : Program} {w : World} {K : PySem.W.Frag} {mg : Str → Option Value} {base : Heap}
def spLSides : Sp := fun vs H Q _ => ∃ d l, vs = [.ref d, .str (tx l)] ∧ Dr H d ∧ GoodW l ∧ ∀ H' P, SmD d H H' → Dr H' d → Part l P → Q (.str (tx P)) H'
set_option maxHeartbeats 1000000 in
theorem ok_lsides {f fD fO : Addr} {fd dD dO : FuncData} {k : Nat} (B : BM mg) (F : Fun K "_law_sides" "_law_sides" sLSides f fd) (D : DF K mg "_law_draw" sDraw ["_law_d", "_law_many"] fD dD) (Of : DF K mg "_law_of" sOf ["_law_d", "_law_some"] fO dO) :
    FnOk P w K mg base CX0 (k + 3) f fd ["_law_d", "_law_shuts"] spLSides := by
  have GD : FnOk P w K mg base CX0 (k + 1) fD dD ["_law_d", "_law_many"] spDraw := ok_draw B D.F
  have GO : FnOk P w K mg base CX0 (k + 2) fO dO ["_law_d", "_law_some"] (spOf K) := ok_of B Of.F D
  refine F.ok scLSides (fun vs H Q E h => ?_) (fun cdv A outer st H vs Q E hr h => ?_)
  · obtain ⟨d, l, rfl, _⟩ := h
    rfl
  · obtain ⟨d, l, rfl, hD, g, q⟩ := h
    have nd := scLSides.nd
    have hl12 := g.hi
    have r1 : Room (k + 1) _ := hr.mono (by omega)
    refine ⟨_, pss_cons (ps_set (i := 2) nd rfl (.inl rfl) (pe_call GO hr rfl Of.g Of.F.kp Of.b .nil pass0 (pa_cons (pv 0) (pa_cons (pe_lst (pa_cons pe_int (pa_cons pe_int (pa_cons pe_int (pa_cons pe_int pa_nil))))) pa_nil))))
      (pss_cons (ps_set (i := 3) nd rfl (.inl rfl) pe_str)
      (pss_cons (ps_for PassesOwn.never rfl (pi_str (pv 1)) (pg_name (i := 4) nd rfl (.inl rfl))
        (pss_cons (ps_set (i := 5) nd rfl (.inl rfl) (pe_call GD r1 rfl D.g D.F.kp D.b .nil pass0 (pa_cons (pv 0) (pa_cons (pe_op op_mul pe_int (pv 2)) pa_nil))))
        (pss_one (ps_if (pt_cmpR op_lt (pv 5) pe_int (nomark _)) (pss_one (ps_set (i := 3) nd rfl (.inl rfl) (pe_op op_add_str (pv 3) (pe_ix ix_list (pe_lst (pa_cons (pv 4) (pa_cons (pe_upper (pv 4)) pa_nil))) (pv 5) (fun _ _ => rfl))))) pss_nil))))
      (pss_one (ps_ret (pv 3))))), ?_⟩
    refine ⟨_, rfl, by show 4 ≤ sizeLine; decide, fun p0 np0 => ?_⟩
    refine ⟨d, _, rfl, hD.same (same_upd np0), .inl ⟨p0, _, rfl, hD.ne np0, SqL.of upd_same, by show 1 ≤ 4; decide, by show 4 ≤ 1000; decide, fun H1 v j s1 D1 hv => ?_⟩⟩
    obtain ⟨od, rfl, od1, od2⟩ : ∃ od : Int, v = .int od ∧ 2 ≤ od ∧ od ≤ 6 := by
      match j, hv with
      | 0, hv => cases hv; exact ⟨_, rfl, by decide, by decide⟩
      | 1, hv => cases hv; exact ⟨_, rfl, by decide, by decide⟩
      | 2, hv => cases hv; exact ⟨_, rfl, by decide, by decide⟩
      | 3, hv => cases hv; exact ⟨_, rfl, by decide, by decide⟩
    have s01 : SmD d H H1 := (SmD.of (same_upd np0)).trans s1
    refine ⟨_, rfl, tx l, rfl, ?_⟩
    have lz : (tx l).cps.size = l.length := tx_len _
    have wk := walk_str (z := tx l)
    rw [lz] at wk
    refine for_it wk (fun i σ H' => ∃ (S : List Nat) (y4 y5 : Option V), σ = [some (.ref d), some (.str (tx l)), some (.int od), some (.str (tx S)), y4, y5] ∧ SmD d H H' ∧ Dr H' d ∧ (S.map lwc).Sublist (l.take i) ∧ ∀ c ∈ S, c ∈ sds l)
      ⟨[], _, _, by rw [← str0]; rfl, s01, D1, by simp, by simp⟩ (fun _ _ _ _ _ => trivial) ?_ ?_
    · rintro i v σ H2 H3 hi ⟨S, y4, y5, rfl, s2, D2, sub, hsd⟩ ⟨rfl, c, hc, rfl⟩
      have hc : l[i]? = some c := by
        rw [← Array.getElem?_toList, tx_list] at hc
        exact hc
      have cm := List.mem_of_getElem? hc
      have cs := g.sm c cm
      have tk : l.take (i + 1) = l.take i ++ [c] := by rw [List.take_add_one, hc]; rfl
      have sl : S.length ≤ 12 := by
        have := sub.length_le
        rw [List.length_map, List.length_take] at this
        omega
      refine ⟨_, rfl, _, rfl, _, _, rfl, rfl, .inl ⟨by omega, by omega⟩, d, _, rfl, D2, by omega, by omega, fun H4 how s4 D4 h0 h1 => ?_⟩
      have s24 := s2.trans s4
      refine ⟨_, rfl, _, _, rfl, rfl, _, rfl, ite2 (fun t => ?_) (fun t => ⟨S, _, _, rfl, s24, D4, by rw [tk]; exact sub.trans (List.sublist_append_left ..), hsd⟩)⟩
      have hw : how < 2 := of_decide_eq_true t
      have uc : Txt.upper (⟨#[c]⟩ : Str) = sg (upc c) := upper_tx (l := [c]) (fun e he => by rw [List.mem_singleton.mp he]; exact g.asc c cm)
      refine ⟨_, rfl, _, rfl, _, rfl, ⟨_, rfl⟩, _, rfl, rfl, by show 1 ≤ 5592405; decide, ?_⟩
      rw [uc]
      refine ⟨by show 2 ≤ sizeLine; decide, fun T nT => ?_⟩
      obtain ⟨e, he, hat⟩ : ∃ e, (e = c ∨ e = upc c) ∧ atI [V.str ⟨#[c]⟩, V.str (sg (upc c))] how = some (.str (sg e)) := by
        have hv : how = 0 ∨ how = 1 := by omega
        rcases hv with z | z
        · exact ⟨c, .inl rfl, by rw [z]; rfl⟩
        · exact ⟨upc c, .inr rfl, by rw [z]; rfl⟩
      refine ⟨_, rfl, T, _, how, .str (sg e), rfl, rfl, SqL.of upd_same, hat, _, _, rfl, rfl, by rw [tx_len, sizeLine_eq]; show _ + 1 ≤ _; omega, S ++ [e], _, _, by rw [sg_tx, tx_app]; rfl, s24.trans (SmD.of (same_upd nT)), D4.same (same_upd nT), ?_, fun b hb => ?_⟩
      · rw [List.map_append, tk]
        refine sub.append ?_
        show [lwc e].Sublist [c]
        rcases he with z | z
        · rw [z, lwc_small cs]; exact List.Sublist.refl _
        · rw [z, lwc_up cs]; exact List.Sublist.refl _
      · rcases List.mem_append.mp hb with z | z
        · exact hsd b z
        · rw [List.mem_singleton.mp z]
          rcases he with y | y
          · rw [y]; exact sds_of_small cm
          · rw [y, upc_small cs]; exact sds_of_great g cm
    · rintro σ H2 ⟨S, y4, y5, rfl, s2, D2, sub, hsd⟩
      rw [List.take_length] at sub
      exact ⟨_, rfl, q H2 S s2 D2 ⟨sub, hsd⟩⟩
end
end NC
namespace NC
open PySem PySem.Spec PyProof.Rows L2
/-- the exception at a, caught in X's own frame, with the state t -/
structure Gnd (X : Cx) (pins : List (Addr × Obj)) (a : Addr) (cls : Value) (d : Option Addr) (σ : L2.St) (H : Hp) (B : Heap) (t0 t : Shared) : Prop where
  own : X.stack = X.env :: X.outer
  frm : X.env.frame = some X.env.locals
  was : Inv X pins σ H t0
  low : ∀ b o, t0.heap.get? b = some o → b ∉ frs X.stack → B.get? b = some o
  up : t0.heap.UpToSlots t.heap
  new : H a = none
  io : t.os = t0.os
  gen : AllBare t.gens
  fly : HandSPX.FlyingZ B (X.env :: X.outer) a (Zc cls d) t.heap
section
variable {X : Cx} {pins : List (Addr × Obj)} {a : Addr} {cls : Value} {d : Option Addr} {σ : L2.St} {H : Hp} {B : Heap} {t0 t : Shared} {D : Ends}
theorem Gnd.to (G : Gnd X pins a cls d σ H B t0 t) {h : Heap} (f : HandSPX.FlyingZ B (X.env :: X.outer) a (Zc cls d) h) (u : t.heap.UpToSlots h) : Gnd X pins a cls d σ H B t0 { t with heap := h } := { G with up := G.up.trans u, fly := f }
end
end NC
namespace NC
open PySem PySem.Spec PyProof.Rows L2
/-- f, called with nothing, does tl as long as J; fs H0 h0: the frames and the heaps that this was said of -/
structure Acts (P : Program) (w : World) (K : PySem.W.Frag) (mg : Str → Option Value) (B : Heap) (k : Nat) (f : Addr) (J : Hp → Prop) (fs : List Addr) (H0 : Hp) (h0 : Heap) (tl : XK → Hp → VK → Prop) : Prop where
  obj : ∀ (G : Hp) (s : Shared), Un fs [] H0 G h0 s.heap → HOk P w G s.heap → J G → PySem.W.FnAt f s.heap
  run : ∀ (A : Around) (out : List Env) (s : Shared) (G : Hp) (Q : VK) (E : XK), Room (k + 1) A → Env0 P w K mg B A out s G → Un fs [] H0 G h0 s.heap → J G → tl E G Q →
    codeAny (model P w) A (.call (.ref f) ⟨[], []⟩) (CR (L2.CX P w) out P w G s Q E) s
section
variable {P : Program} {w : World} {K : PySem.W.Frag} {mg : Str → Option Value} {B : Heap} {k j : Nat} {f g : Addr} {J : Hp → Prop} {fs gs : List Addr} {H0 H1 : Hp} {h0 h1 : Heap} {tl : XK → Hp → VK → Prop}
theorem Acts.mono {i : Nat} (a : Acts P w K mg B k f J fs H0 h0 tl) (l : k ≤ i) : Acts P w K mg B i f J fs H0 h0 tl := ⟨a.obj, fun A out s G Q E r => a.run A out s G Q E (r.mono (by omega))⟩
variable {fd : FuncData} {ps : List Str} {sp : Addr → (XK → Hp → VK → Prop) → List V → Hp → VK → Prop}
end
end NC
namespace NC
open PySem PySem.Spec PyProof.Rows L2
theorem passF {X : Cx} : Passes (L2.CX X.prog X.w) X E0 := fun _ _ _ _ _ _ _ h => by
  obtain ⟨_, _, _, _, _, _, _, _, _, _, _, _, z⟩ := h
  exact z.elim
def spLaw (K : PySem.W.Frag) : Sp := fun vs H Q _ => ∃ (a : Addr) (ns : List Int), vs = [.ref a] ∧ SqL K H a (ns.map V.int) ∧ ∀ H', Q (.bl true) H'
end NC
namespace NC
open PySem PySem.Spec PyProof.Rows L2
/-- which of two rooms comes first -/
def Bef (l a b : List Nat) : Prop := ∃ i, i < a.length ∧ i < b.length ∧ a.take i = b.take i ∧ a.getD i 0 = upc (l.getD i 0) ∧ b.getD i 0 = l.getD i 0
theorem allT_lens' (l : List Nat) : ∀ k r, r ∈ allT l k → r.length = k
  | 0, r, h => by rw [List.mem_singleton.mp h]; rfl
  | k + 1, r, h => by
    obtain ⟨q, hq, hr⟩ := List.mem_flatMap.mp h
    have := allT_lens' l k q hq
    simp only [List.mem_cons, List.not_mem_nil, or_false] at hr
    rcases hr with rfl | rfl <;> simp [this]
theorem getD_app {a : List Nat} {x i : Nat} (h : i < a.length) : (a ++ [x]).getD i 0 = a.getD i 0 := by
  rw [List.getD_eq_getElem?_getD, List.getD_eq_getElem?_getD, List.getElem?_append_left h]
theorem getD_last {a : List Nat} {x : Nat} : (a ++ [x]).getD a.length 0 = x := by
  rw [List.getD_eq_getElem?_getD, List.getElem?_append_right (Nat.le_refl _), Nat.sub_self]
  rfl
theorem allT_pw (l : List Nat) : ∀ k, (allT l k).Pairwise (Bef l)
  | 0 => by simp [allT]
  | k + 1 => by
    show ((allT l k).flatMap fun r => [r ++ [upc (l.getD k 0)], r ++ [l.getD k 0]]).Pairwise (Bef l)
    rw [List.pairwise_flatMap]
    refine ⟨fun r hr => ?_, ?_⟩
    · have rl := allT_lens' l k r hr
      rw [List.pairwise_cons]
      refine ⟨fun b hb => ?_, by simp⟩
      rw [List.mem_singleton.mp hb]
      refine ⟨r.length, by simp, by simp, by simp, ?_, ?_⟩
      · rw [getD_last, rl]
      · rw [getD_last, rl]
    · refine List.Pairwise.imp_of_mem ?_ (allT_pw l k)
      rintro a b ha hb ⟨i, h1, h2, h3, h4, h5⟩ x hx y hy
      obtain ⟨u, rfl⟩ : ∃ u, x = a ++ [u] := by
        rcases List.mem_cons.mp hx with z | z
        · exact ⟨_, z⟩
        · exact ⟨_, List.mem_singleton.mp z⟩
      obtain ⟨v, rfl⟩ : ∃ v, y = b ++ [v] := by
        rcases List.mem_cons.mp hy with z | z
        · exact ⟨_, z⟩
        · exact ⟨_, List.mem_singleton.mp z⟩
      refine ⟨i, by rw [List.length_append]; exact Nat.lt_of_lt_of_le h1 (Nat.le_add_right _ _), by rw [List.length_append]; exact Nat.lt_of_lt_of_le h2 (Nat.le_add_right _ _), ?_, ?_, ?_⟩
      · rw [List.take_append_of_le_length (Nat.le_of_lt h1), List.take_append_of_le_length (Nat.le_of_lt h2), h3]
      · rw [getD_app h1, h4]
      · rw [getD_app h2, h5]
theorem first_is {L : List (List Nat)} {R : List Nat → List Nat → Prop} {p : List Nat → Bool} {z : List Nat} (pw : L.Pairwise R) (hz : z ∈ L.filter p) (no : ∀ q ∈ L, p q = true → R q z → False) : ∃ t, L.filter p = z :: t := by
  have pf := pw.filter p
  match hL : L.filter p with
  | [] => rw [hL] at hz; cases hz
  | h :: t =>
    rw [hL] at hz pf
    rcases List.mem_cons.mp hz with e | e
    · exact ⟨t, by rw [e]⟩
    · have hm : h ∈ L.filter p := by rw [hL]; exact List.mem_cons_self ..
      obtain ⟨h1, h2⟩ := List.mem_filter.mp hm
      exact (no h h1 h2 (List.rel_of_pairwise_cons pf e)).elim
theorem rms_len0 {l : List Nat} (g : GoodW l) {bs : List (List Nat)} : (rms l bs).length ≤ 4096 := by
  unfold rms
  refine Nat.le_trans (List.length_filter_le _ _) ?_
  rw [allT_len]
  exact Nat.le_trans (Nat.pow_le_pow_right (by decide) g.hi) (by decide)
/-- the sides behind so many walls -/
def wS (fo : Nat → List Nat) (l W : List Nat) : Nat → List Nat
  | 0 => W
  | i + 1 => if l.getD i 0 ∈ wS fo l W i then wS fo l W i else wS fo l W i ++ fo (upc (l.getD i 0))
theorem wS_le {fo : Nat → List Nat} {l W : List Nat} {i j : Nat} (h : i ≤ j) : ∀ {t}, t ∈ wS fo l W i → t ∈ wS fo l W j := by
  induction j with
  | zero =>
    intro t ht
    rw [show i = 0 by omega] at ht
    exact ht
  | succ j ih =>
    intro t ht
    rcases Nat.lt_or_ge j i with z | z
    · rw [show i = j + 1 by omega] at ht
      exact ht
    · have := ih z ht
      show t ∈ (if l.getD j 0 ∈ wS fo l W j then wS fo l W j else wS fo l W j ++ fo (upc (l.getD j 0)))
      split
      · exact this
      · exact List.mem_append_left _ this
section
variable {l : List Nat} (g : GoodW l) {bs : List (List Nat)} (hb : ∀ b ∈ bs, isBar l b = true) {fo : Nat → List Nat} (hf : ∀ s ∈ sds l, ∀ t, t ∈ fo s ↔ Frc (adjOf bs) s t) (ok : Okv l bs)
/-- sides that force nothing more, no two of one wall -/
structure Clo (l : List Nat) (bs : List (List Nat)) (W : List Nat) : Prop where
  sd : ∀ t ∈ W, t ∈ sds l
  adj : ∀ t ∈ W, ∀ u ∈ adjOf bs t, u ∈ W
  one : ∀ t ∈ W, swp t ∉ W
include g hb hf ok
theorem no_self {s : Nat} (hs : s ∈ sds l) : ¬ Frc (adjOf bs) s (swp s) := fun h => by
  have e := ok fo hf
  unfold vdOf at e
  split at e
  · cases e
  · next hn =>
    have := List.find?_eq_none.mp hn s hs
    unfold fxP at this
    rw [decide_eq_true_eq] at this
    exact this ((hf s hs _).mpr h)
theorem Clo.grow {W : List Nat} (h : Clo l bs W) {c : Nat} (hc : c ∈ l) (hn : c ∉ W) : Clo l bs (W ++ fo (upc c)) := by
  have sm := g.sm c hc
  have hg : upc c ∈ sds l := by rw [upc_small sm]; exact sds_of_great g hc
  have e2 : swp (upc c) = c := by rw [upc_small sm, swp_great (by omega)]; omega
  have F : ∀ t, t ∈ fo (upc c) ↔ Frc (adjOf bs) (upc c) t := hf _ hg
  have cl : ∀ t ∈ W, ∀ u, Frc (adjOf bs) t u → u ∈ W := fun t ht u hu => hu.ind (p := fun x => x ∈ W) ht fun a b ha k => h.adj a ha b k
  have cross : ∀ t ∈ W, swp t ∈ fo (upc c) → False := fun t ht h2 => by
    have := Frc.back g hb hg ((F _).mp h2)
    rw [swp_swp (sds_lt g (h.sd t ht)), e2] at this
    exact hn (cl t ht c this)
  refine ⟨fun t ht => ?_, fun t ht u hu => ?_, fun t ht h2 => ?_⟩
  · rcases List.mem_append.mp ht with z | z
    · exact h.sd t z
    · exact Frc.mem g hb hg ((F t).mp z)
  · rcases List.mem_append.mp ht with z | z
    · exact List.mem_append_left _ (h.adj t z u hu)
    · exact List.mem_append_right _ ((F u).mpr (((F t).mp z).step hu))
  · rcases List.mem_append.mp ht with z | z <;> rcases List.mem_append.mp h2 with y | y
    · exact h.one t z y
    · exact cross t z y
    · refine cross (swp t) y ?_
      rw [swp_swp (sds_lt g (Frc.mem g hb hg ((F t).mp z)))]
      exact z
    · exact no_self g hb hf ok hg (Frc.torn g hb hg ((F t).mp z) ((F _).mp y))
theorem wS_clo {W : List Nat} (h : Clo l bs W) : ∀ i, i ≤ l.length → Clo l bs (wS fo l W i)
  | 0, _ => h
  | i + 1, hi => by
    have ih := wS_clo h i (by omega)
    have hil : i < l.length := by omega
    have e : l.getD i 0 = l[i] := by rw [List.getD_eq_getElem?_getD, List.getElem?_eq_getElem hil]; rfl
    show Clo l bs (if l.getD i 0 ∈ wS fo l W i then wS fo l W i else wS fo l W i ++ fo (upc (l.getD i 0)))
    split
    · exact ih
    · next hn => exact Clo.grow g hb hf ok ih (by rw [e]; exact List.getElem_mem hil) hn
theorem wS_full {W : List Nat} {i : Nat} (hi : i < l.length) : l[i] ∈ wS fo l W (i + 1) ∨ upc l[i] ∈ wS fo l W (i + 1) := by
  have e : l.getD i 0 = l[i] := by rw [List.getD_eq_getElem?_getD, List.getElem?_eq_getElem hi]; rfl
  have sm := g.sm _ (List.getElem_mem hi)
  have hg : upc l[i] ∈ sds l := by rw [upc_small sm]; exact sds_of_great g (List.getElem_mem hi)
  show _ ∈ (if l.getD i 0 ∈ wS fo l W i then wS fo l W i else wS fo l W i ++ fo (upc (l.getD i 0))) ∨ _ ∈ (if l.getD i 0 ∈ wS fo l W i then wS fo l W i else wS fo l W i ++ fo (upc (l.getD i 0)))
  rw [e]
  split
  · next h => exact .inl h
  · exact .inr (List.mem_append_right _ ((hf _ hg _).mpr Frc.refl))
theorem clo_room {W : List Nat} (h : Clo l bs W) (full : ∀ c ∈ l, c ∈ W ∨ upc c ∈ W) : byWT l W = rmOf l (fun c => decide (c ∈ W)) ∧ rmOf l (fun c => decide (c ∈ W)) ∈ rms l bs := by
  have e1 : ∀ c ∈ l, swp c = upc c := fun c hc => by rw [swp_small (g.sm c hc), upc_small (g.sm c hc)]
  constructor
  · unfold byWT rmOf
    have : ∀ L : List Nat, (∀ c ∈ L, c ∈ l) → (L.flatMap fun c => [swp c, c].filter fun e => decide (e ∈ W)) = L.map fun c => if decide (c ∈ W) = true then c else upc c := fun L => by
      induction L with
      | nil => intro _; rfl
      | cons c r ih =>
        intro hL
        have hc := hL c (List.mem_cons_self ..)
        rw [List.flatMap_cons, List.map_cons, ih fun x hx => hL x (List.mem_cons_of_mem _ hx), e1 c hc]
        by_cases hw : c ∈ W
        · have hn : upc c ∉ W := fun z => h.one c hw (by rw [e1 c hc]; exact z)
          simp [hw, hn]
        · have hy : upc c ∈ W := (full c hc).resolve_left hw
          simp [hw, hy]
    exact this l fun c hc => hc
  · refine (rms_mem g hb _).mpr ⟨_, rfl, fun x y hxy ⟨v1, v2⟩ => ?_⟩
    obtain ⟨x', y', e, hx, hy, _⟩ := bar_two (hb _ hxy)
    cases e
    have vW : ∀ t ∈ sds l, val (fun c => decide (c ∈ W)) t = true → t ∈ W := fun t ht v => by
      rcases sds_shape g ht with z | z
      · rw [val_small ⟨z.1, z.2.1⟩] at v
        exact of_decide_eq_true v
      · unfold val at v
        rw [if_pos (by omega)] at v
        have hn : t + 32 ∉ W := by simpa using v
        have := (full (t + 32) z.2.2).resolve_left hn
        rw [upc_small (by omega), show t + 32 - 32 = t by omega] at this
        exact this
    exact h.one y (vW y hy v2) (h.adj x (vW x hx v1) _ ((adj_iff g hb (sds_lt g (sds_swp g hy))).mpr (.inl (by rw [swp_swp (sds_lt g hy)]; exact hxy))))
/-- what the greedy going finds is the first room of the part -/
theorem first_room_is {P : List Nat} (hP : ∀ c ∈ P, c ∈ sds l) {q : List Nat} (hq : q ∈ rms l bs) (hin : ∀ s ∈ P, s ∈ q) :
    ∃ t, (rms l bs).filter (fun r => inR P r) = byWT l (wS fo l (byWT l (allFo fo P)) l.length) :: t := by
  have bm : ∀ t, t ∈ byWT l (allFo fo P) ↔ t ∈ allFo fo P := fun t => by
    rw [byWT_mem g]
    exact ⟨fun h => h.2, fun h => ⟨allFo_sd g hb hf hP h, h⟩⟩
  have c0 : Clo l bs (byWT l (allFo fo P)) := ⟨fun t ht => (byWT_mem g |>.mp ht).1, fun t ht u hu => (bm u).mpr (allFo_adj g hb hf hP ((bm t).mp ht) hu), fun t ht h2 => room_one g hb hf hq (byWT_mem g |>.mp ht).1 (allFo_in g hb hf hP hq hin ((bm t).mp ht)) (allFo_in g hb hf hP hq hin ((bm _).mp h2))⟩
  have self : ∀ t ∈ P, t ∈ byWT l (allFo fo P) := fun t ht => (bm t).mpr (allFo_self g hb hf hP ht)
  have inq : ∀ q ∈ rms l bs, (∀ s ∈ P, s ∈ q) → ∀ t ∈ byWT l (allFo fo P), t ∈ q := fun q hq hin t ht => allFo_in g hb hf hP hq hin ((bm t).mp ht)
  generalize byWT l (allFo fo P) = W0 at c0 self inq
  have cF := wS_clo g hb hf ok c0 l.length (Nat.le_refl _)
  have full : ∀ c ∈ l, c ∈ wS fo l W0 l.length ∨ upc c ∈ wS fo l W0 l.length := fun c hc => by
    obtain ⟨i, hi, rfl⟩ := List.getElem_of_mem hc
    exact (wS_full g hb hf ok hi).imp (wS_le hi) (wS_le hi)
  obtain ⟨eZ, hZ⟩ := clo_room g hb hf ok cF full
  have stage : ∀ i, (hi : i < l.length) → l[i] ∈ wS fo l W0 l.length → l[i] ∈ wS fo l W0 i := fun i hi h => by
    refine Decidable.byContradiction fun hn => ?_
    have e : l.getD i 0 = l[i] := by rw [List.getD_eq_getElem?_getD, List.getElem?_eq_getElem hi]; rfl
    have sm := g.sm _ (List.getElem_mem hi)
    have hg : upc l[i] ∈ sds l := by rw [upc_small sm]; exact sds_of_great g (List.getElem_mem hi)
    have : upc l[i] ∈ wS fo l W0 (i + 1) := by
      show _ ∈ (if l.getD i 0 ∈ wS fo l W0 i then wS fo l W0 i else wS fo l W0 i ++ fo (upc (l.getD i 0)))
      rw [e, if_neg hn]
      exact List.mem_append_right _ ((hf _ hg _).mpr Frc.refl)
    have := wS_le (j := l.length) hi this
    refine cF.one _ h ?_
    rw [swp_small sm, ← upc_small sm]
    exact this
  rw [eZ]
  have zget : ∀ i, (hi : i < l.length) → (rmOf l (fun c => decide (c ∈ wS fo l W0 l.length))).getD i 0 = if l[i] ∈ wS fo l W0 l.length then l[i] else upc l[i] := fun i hi => by
    rw [rm_get hi]
    by_cases h : l[i] ∈ wS fo l W0 l.length <;> simp [h]
  have pwr : (rms l bs).Pairwise (Bef l) := by
    unfold rms
    exact (allT_pw l l.length).filter _
  refine first_is pwr (List.mem_filter.mpr ⟨hZ, inR_iff.mpr fun s hs => ?_⟩) fun y hy hiy ⟨i, h1, h2, h3, h4, h5⟩ => ?_
  · rw [← eZ]
    exact (byWT_mem g).mpr ⟨hP s hs, wS_le (Nat.zero_le _) (self s hs)⟩
  · rw [rm_len] at h2
    have e : l.getD i 0 = l[i] := by rw [List.getD_eq_getElem?_getD, List.getElem?_eq_getElem h2]; rfl
    have sm := g.sm _ (List.getElem_mem h2)
    rw [e] at h4 h5
    have hiW : l[i] ∈ wS fo l W0 l.length := by
      refine Decidable.byContradiction fun hn => ?_
      rw [zget i h2, if_neg hn, upc_small sm] at h5
      omega
    have all : ∀ j, j ≤ i → ∀ t ∈ wS fo l W0 j, t ∈ y := fun j => by
      induction j with
      | zero => exact fun _ t ht => inq y hy (inR_iff.mp hiy) t ht
      | succ j ih =>
        intro hj t ht
        have ih := ih (by omega)
        have hjl : j < l.length := by omega
        have ej : l.getD j 0 = l[j] := by rw [List.getD_eq_getElem?_getD, List.getElem?_eq_getElem hjl]; rfl
        have smj := g.sm _ (List.getElem_mem hjl)
        have hgj : upc l[j] ∈ sds l := by rw [upc_small smj]; exact sds_of_great g (List.getElem_mem hjl)
        have ht2 : t ∈ (if l.getD j 0 ∈ wS fo l W0 j then wS fo l W0 j else wS fo l W0 j ++ fo (upc (l.getD j 0))) := ht
        rw [ej] at ht2
        by_cases hc : l[j] ∈ wS fo l W0 j
        · rw [if_pos hc] at ht2
          exact ih t ht2
        · rw [if_neg hc] at ht2
          rcases List.mem_append.mp ht2 with z | z
          · exact ih t z
          · have nW : l[j] ∉ wS fo l W0 l.length := fun z => hc (stage j hjl z)
            have zj := zget j hjl
            rw [if_neg nW] at zj
            have yj : y.getD j 0 = upc l[j] := by
              rw [← zj]
              have a1 : (y.take i)[j]? = y[j]? := List.getElem?_take_of_lt (by omega)
              have a2 : ((rmOf l (fun c => decide (c ∈ wS fo l W0 l.length))).take i)[j]? = (rmOf l (fun c => decide (c ∈ wS fo l W0 l.length)))[j]? := List.getElem?_take_of_lt (by omega)
              rw [List.getD_eq_getElem?_getD, List.getD_eq_getElem?_getD, ← a1, ← a2, h3]
            have ym : upc l[j] ∈ y := by
              rw [← yj, List.getD_eq_getElem?_getD, List.getElem?_eq_getElem (show j < y.length by omega)]
              exact List.getElem_mem _
            obtain ⟨p, rfl, sp⟩ := (rms_mem g hb y).mp hy
            have fr := (hf _ hgj t).mp z
            exact (rm_mem g (Frc.mem g hb hgj fr)).mpr (Sat.frc g hb sp ((rm_mem g hgj).mp ym) fr)
    have y1 := all i (Nat.le_refl _) _ (stage i h2 hiW)
    have y2 : upc l[i] ∈ y := by
      rw [← h4, List.getD_eq_getElem?_getD, List.getElem?_eq_getElem h1]
      exact List.getElem_mem _
    refine room_one g hb hf hy (sds_of_small (List.getElem_mem h2)) y1 ?_
    rw [swp_small sm, ← upc_small sm]
    exact y2
omit ok in
theorem shut_in {P : List Nat} (hP : ∀ c ∈ P, c ∈ sds l) {r : List Nat} (hr : r ∈ rms l bs) : inR (byWT l (allFo fo P)) r = inR P r := by
  rw [Bool.eq_iff_iff, inR_iff, inR_iff]
  exact ⟨fun h s hs => h s ((byWT_mem g).mpr ⟨hP s hs, allFo_self g hb hf hP hs⟩), fun h s hs => allFo_in g hb hf hP hr h ((byWT_mem g).mp hs).2⟩
end
theorem wS_len {fo : Nat → List Nat} {l W : List Nat} (fl : ∀ s ∈ sds l, (fo s).length ≤ 24) (g : GoodW l) : ∀ i, i ≤ l.length → (wS fo l W i).length ≤ W.length + 24 * i
  | 0, _ => Nat.le_refl _
  | i + 1, hi => by
    have ih := wS_len fl g (W := W) i (by omega)
    have hil : i < l.length := by omega
    have e : l.getD i 0 = l[i] := by rw [List.getD_eq_getElem?_getD, List.getElem?_eq_getElem hil]; rfl
    have sm := g.sm _ (List.getElem_mem hil)
    have hg : upc l[i] ∈ sds l := by rw [upc_small sm]; exact sds_of_great g (List.getElem_mem hil)
    have h24 := fl _ hg
    show (if l.getD i 0 ∈ wS fo l W i then wS fo l W i else wS fo l W i ++ fo (upc (l.getD i 0))).length ≤ _
    rw [e]
    split
    · omega
    · rw [List.length_append]
      omega
end NC
namespace NC
open PySem PySem.Spec PyProof.Rows L2
section
variable {l : List Nat} (g : GoodW l) {bs : List (List Nat)} (hb : ∀ b ∈ bs, isBar l b = true) {fo : Nat → List Nat} (hf : ∀ s ∈ sds l, ∀ t, t ∈ fo s ↔ Frc (adjOf bs) s t) (ok : Okv l bs)
include g hb hf ok
theorem torn_iff {P : List Nat} (hP : ∀ c ∈ P, c ∈ sds l) : tornL l (allFo fo P) = [] ↔ ∃ z ∈ rms l bs, ∀ s ∈ P, s ∈ z := by
  constructor
  · intro h
    have c0 : Clo l bs (allFo fo P) := ⟨fun t ht => allFo_sd g hb hf hP ht, fun t ht u hu => allFo_adj g hb hf hP ht hu, fun t ht h2 => by
      have hs := allFo_sd g hb hf hP ht
      have : ∃ c ∈ l, c ∈ allFo fo P ∧ swp c ∈ allFo fo P := by
        rcases sds_shape g hs with z | z
        · exact ⟨t, z.2.2, ht, h2⟩
        · refine ⟨t + 32, z.2.2, ?_, ?_⟩
          · rw [swp_great ⟨z.1, z.2.1⟩] at h2
            exact h2
          · rw [swp_small (by omega), show t + 32 - 32 = t by omega]
            exact ht
      obtain ⟨c, hc, h3, h4⟩ := this
      have : c ∈ tornL l (allFo fo P) := List.mem_filter.mpr ⟨hc, by rw [decide_eq_true h3, decide_eq_true h4]; rfl⟩
      rw [h] at this
      cases this⟩
    have self : ∀ t ∈ P, t ∈ allFo fo P := fun t ht => allFo_self g hb hf hP ht
    generalize allFo fo P = W0 at c0 self
    have cF := wS_clo g hb hf ok c0 l.length (Nat.le_refl _)
    have full : ∀ c ∈ l, c ∈ wS fo l W0 l.length ∨ upc c ∈ wS fo l W0 l.length := fun c hc => by
      obtain ⟨i, hi, rfl⟩ := List.getElem_of_mem hc
      exact (wS_full g hb hf ok hi).imp (wS_le hi) (wS_le hi)
    obtain ⟨eZ, hZ⟩ := clo_room g hb hf ok cF full
    refine ⟨_, hZ, fun s hs => ?_⟩
    rw [← eZ]
    exact (byWT_mem g).mpr ⟨hP s hs, wS_le (Nat.zero_le _) (self s hs)⟩
  · rintro ⟨z, hz, hin⟩
    exact torn_no g hb hf hP hz hin
theorem side_room {s : Nat} (hs : s ∈ sds l) : ∃ z ∈ rms l bs, s ∈ z := by
  have hP : ∀ c ∈ [s], c ∈ sds l := fun c hc => by rw [List.mem_singleton.mp hc]; exact hs
  obtain ⟨z, hz, h⟩ := (torn_iff g hb hf ok hP).mp (by
    unfold tornL
    rw [List.filter_eq_nil_iff]
    intro c hc h
    rw [Bool.and_eq_true, decide_eq_true_eq, decide_eq_true_eq] at h
    obtain ⟨a1, h1, f1⟩ := (allFo_mem g hb hf hP).mp h.1
    obtain ⟨a2, h2, f2⟩ := (allFo_mem g hb hf hP).mp h.2
    rw [List.mem_singleton.mp h1] at f1
    rw [List.mem_singleton.mp h2] at f2
    exact no_self g hb hf ok hs (Frc.torn g hb hs f1 f2))
  exact ⟨z, hz, h s (List.mem_singleton.mpr rfl)⟩
theorem in_all {P : List Nat} (hP : ∀ c ∈ P, c ∈ sds l) {q : List Nat} (hq : q ∈ rms l bs) (hin : ∀ s ∈ P, s ∈ q) {t : Nat} (ht : t ∈ sds l) : (∀ r ∈ rms l bs, (∀ s ∈ P, s ∈ r) → t ∈ r) ↔ t ∈ allFo fo P := by
  refine ⟨fun h => Decidable.byContradiction fun hn => ?_, fun h r hr hi => allFo_in g hb hf hP hr hi h⟩
  obtain ⟨y, hy, hsw⟩ := side_room g hb hf ok (sds_swp g ht)
  obtain ⟨hN, hNin⟩ := wov_room g hb hf hP hq hin hy
  have h1 := h _ hN hNin
  have h2 : swp t ∈ wov (allFo fo P) y := by
    unfold wov
    refine List.mem_map.mpr ⟨swp t, hsw, ?_⟩
    rw [swp_swp (sds_lt g ht), if_neg hn]
  exact room_one g hb hf hN ht h1 h2
end
end NC
namespace NC
open PySem PySem.Spec PyProof.Rows L2
def low (T : List Nat) : List Nat := T.map lwc
def ltrs' : List Nat := (List.range 26).map (· + 97)
def byS (X : List Nat) : List Nat := ltrs'.flatMap fun c => X.filter fun s => decide (lwc s = c)
theorem lwc_sd {l : List Nat} (g : GoodW l) {s : Nat} (h : s ∈ sds l) : lwc s ∈ l := by
  rcases sds_shape g h with z | z
  · unfold lwc
    rw [if_neg (by omega)]
    exact z.2.2
  · unfold lwc
    rw [if_pos (by omega)]
    exact z.2.2
theorem rise_eq {a b : List Nat} (ha : a.Pairwise (· < ·)) (hb : b.Pairwise (· < ·)) (h : ∀ c, c ∈ a ↔ c ∈ b) : a = b := by
  have p : a.Perm b := (List.perm_ext_iff_of_nodup (ha.imp fun h => Nat.ne_of_lt h) (hb.imp fun h => Nat.ne_of_lt h)).mpr h
  exact p.eq_of_pairwise (fun x y _ _ h1 h2 => by omega) ha hb
theorem ltrs_rise : ltrs'.Pairwise (· < ·) := by decide +kernel
theorem byS_is {l : List Nat} (g : GoodW l) {X : List Nat} (nd : X.Nodup) (h : ∀ c ∈ X, c ∈ l) : byS X = l.filter fun c => decide (c ∈ X) := by
  have e1 : byS X = ltrs'.filter fun c => decide (c ∈ X) := by
    unfold byS
    have one : ∀ c, (X.filter fun s => decide (lwc s = c)) = if c ∈ X then [c] else [] := fun c => by
      have e : (X.filter fun s => decide (lwc s = c)) = X.filter fun s => decide (s = c) := List.filter_congr fun s hs => by
        have := g.sm s (h s hs)
        have : lwc s = s := by unfold lwc; rw [if_neg (by omega)]
        rw [this]
      rw [e]
      clear e h
      induction X with
      | nil => rfl
      | cons x r ih =>
        have hn := List.nodup_cons.mp nd
        rw [List.filter_cons, ih hn.2]
        by_cases z : x = c
        · subst z
          simp [hn.1]
        · have z2 : ¬ c = x := fun y => z y.symm
          simp [z, z2]
    rw [show (fun c => X.filter fun s => decide (lwc s = c)) = fun c => if c ∈ X then [c] else [] from funext one]
    generalize ltrs' = L
    induction L with
    | nil => rfl
    | cons c r ih =>
      rw [List.flatMap_cons, ih, List.filter_cons]
      by_cases z : c ∈ X <;> simp [z]
  rw [e1]
  refine rise_eq (ltrs_rise.filter _) (g.rise.filter _) fun c => ?_
  rw [List.mem_filter, List.mem_filter, decide_eq_true_eq]
  refine ⟨fun z => ⟨h c z.2, z.2⟩, fun z => ⟨?_, z.2⟩⟩
  have := g.sm c z.1
  unfold ltrs'
  exact List.mem_map.mpr ⟨c - 97, List.mem_range.mpr (by omega), by omega⟩
end NC
namespace NC
open PySem PySem.Spec PyProof.Rows L2
/-- one side of each wall -/
structure Trn (l t : List Nat) : Prop where
  len : t.length = l.length
  pm : (t.map lwc).Perm l
def ov : List Nat → List Nat → Nat → Nat
  | c :: l, s :: t, x => if x = c then s else if x = swp c then swp s else ov l t x
  | _, _, x => x
theorem ov_at : ∀ {l t : List Nat}, (∀ c ∈ l, 97 ≤ c ∧ c ≤ 122) → l.Nodup → ∀ {i c s : Nat}, l[i]? = some c → t[i]? = some s → ov l t c = s ∧ ov l t (swp c) = swp s
  | [], _, _, _, i, c, s, h, _ => by simp at h
  | _ :: _, [], _, _, i, c, s, _, h => by simp at h
  | a :: l, b :: t, sm, nd, i, c, s, hc, hs => by
    have ha := sm a (List.mem_cons_self ..)
    unfold ov
    match i, hc, hs with
    | 0, hc, hs =>
      simp only [List.getElem?_cons_zero, Option.some.injEq] at hc hs
      subst hc hs
      have n1 : swp a ≠ a := by rw [swp_small ha]; omega
      rw [if_pos rfl, if_neg n1, if_pos rfl]
      exact ⟨rfl, rfl⟩
    | i + 1, hc, hs =>
      rw [List.getElem?_cons_succ] at hc hs
      have hm := List.mem_of_getElem? hc
      have hc2 := sm c (List.mem_cons_of_mem _ hm)
      have nac : a ≠ c := fun z => (List.nodup_cons.mp nd).1 (z ▸ hm)
      have r := ov_at (fun d hd => sm d (List.mem_cons_of_mem _ hd)) (List.nodup_cons.mp nd).2 hc hs
      rw [if_neg (by omega), if_neg (by rw [swp_small ha]; omega), if_neg (by rw [swp_small hc2]; omega), if_neg (by rw [swp_small hc2, swp_small ha]; omega)]
      exact r
theorem sds_at {l : List Nat} (g : GoodW l) {s : Nat} : s ∈ sds l ↔ ∃ (i c : Nat), l[i]? = some c ∧ (s = c ∨ s = swp c) := by
  constructor
  · intro h
    rcases sds_shape g h with z | z
    · obtain ⟨i, hi, e⟩ := List.getElem_of_mem z.2.2
      exact ⟨i, s, by rw [List.getElem?_eq_getElem hi, e], .inl rfl⟩
    · obtain ⟨i, hi, e⟩ := List.getElem_of_mem z.2.2
      refine ⟨i, s + 32, by rw [List.getElem?_eq_getElem hi, e], .inr ?_⟩
      rw [swp_small (by omega)]
      omega
  · rintro ⟨i, c, h, e | e⟩
    · rw [e]; exact sds_of_small (List.mem_of_getElem? h)
    · rw [e]; exact sds_swp g (sds_of_small (List.mem_of_getElem? h))
theorem low_sd {l : List Nat} (g : GoodW l) {s : Nat} (h : lwc s ∈ l) : s ∈ sds l := by
  have h2 := g.sm _ h
  unfold lwc at h h2
  split at h
  · next z =>
    have := sds_of_great g h
    rw [show s + 32 - 32 = s by omega] at this
    exact this
  · exact sds_of_small h
theorem swp_ne {s : Nat} (h : isLt s) : swp s ≠ s := by
  rcases h with h | h
  · rw [swp_small h]; omega
  · rw [swp_great h]; omega
section
variable {l t : List Nat} (g : GoodW l) (T : Trn l t)
include g T
theorem trn_sd {s : Nat} (h : s ∈ t) : s ∈ sds l := low_sd g (T.pm.mem_iff.mp (List.mem_map.mpr ⟨s, h, rfl⟩))
theorem trn_at {i c : Nat} (h : l[i]? = some c) : ∃ s, t[i]? = some s ∧ s ∈ sds l ∧ ov l t c = s ∧ ov l t (swp c) = swp s := by
  have hi : i < t.length := by
    rw [T.len]
    exact (List.getElem?_eq_some_iff.mp h).1
  have e : t[i]? = some t[i] := List.getElem?_eq_getElem hi
  exact ⟨t[i], e, trn_sd g T (List.getElem_mem hi), ov_at g.sm g.nd h e⟩
theorem ov_sd {s : Nat} (h : s ∈ sds l) : ov l t s ∈ sds l := by
  obtain ⟨i, c, hc, e⟩ := (sds_at g).mp h
  obtain ⟨x, _, hx, e1, e2⟩ := trn_at g T hc
  rcases e with rfl | rfl
  · rw [e1]; exact hx
  · rw [e2]; exact sds_swp g hx
theorem ov_swp {s : Nat} (h : s ∈ sds l) : ov l t (swp s) = swp (ov l t s) := by
  obtain ⟨i, c, hc, e⟩ := (sds_at g).mp h
  obtain ⟨x, _, hx, e1, e2⟩ := trn_at g T hc
  rcases e with rfl | rfl
  · rw [e1, e2]
  · rw [swp_swp (sds_lt g (sds_of_small (List.mem_of_getElem? hc))), e1, e2, swp_swp (sds_lt g hx)]
theorem ov_low {i c s : Nat} (hc : l[i]? = some c) (e : s = c ∨ s = swp c) : ∃ x, t[i]? = some x ∧ lwc (ov l t s) = lwc x := by
  obtain ⟨x, ex, hx, e1, e2⟩ := trn_at g T hc
  refine ⟨x, ex, ?_⟩
  rcases e with rfl | rfl
  · rw [e1]
  · rw [e2, lwc_swp (sds_lt g hx)]
theorem ov_inj {s u : Nat} (hs : s ∈ sds l) (hu : u ∈ sds l) (e : ov l t s = ov l t u) : s = u := by
  obtain ⟨i, c, hc, a⟩ := (sds_at g).mp hs
  obtain ⟨j, d, hd, b⟩ := (sds_at g).mp hu
  obtain ⟨x, ex, lx⟩ := ov_low g T hc a
  obtain ⟨y, ey, ly⟩ := ov_low g T hd b
  have nd : (t.map lwc).Nodup := T.pm.symm.nodup g.nd
  have hij : i = j := by
    have h1 : (t.map lwc)[i]? = some (lwc x) := by rw [List.getElem?_map, ex]; rfl
    have h2 : (t.map lwc)[j]? = some (lwc x) := by rw [List.getElem?_map, ey, ← lx, e, ly]; rfl
    obtain ⟨p1, q1⟩ := List.getElem?_eq_some_iff.mp h1
    obtain ⟨p2, q2⟩ := List.getElem?_eq_some_iff.mp h2
    exact (List.getElem_inj nd).mp (q1.trans q2.symm)
  subst hij
  rw [hc] at hd
  cases hd
  obtain ⟨z, _, hz, e1, e2⟩ := trn_at g T hc
  have nz := swp_ne (sds_lt g hz)
  rcases a with rfl | rfl <;> rcases b with rfl | rfl
  · rfl
  · rw [e1, e2] at e; exact absurd e.symm nz
  · rw [e1, e2] at e; exact absurd e nz
  · rfl
theorem ov_sur {u : Nat} (hu : u ∈ sds l) : ∃ s ∈ sds l, ov l t s = u := by
  obtain ⟨x, hx, e⟩ := List.mem_map.mp (T.pm.mem_iff.mpr (lwc_sd g hu))
  obtain ⟨i, hi, ei⟩ := List.getElem_of_mem hx
  have ex : t[i]? = some x := by rw [List.getElem?_eq_getElem hi, ei]
  have hl : i < l.length := by rw [← T.len]; exact hi
  have hc : l[i]? = some l[i] := List.getElem?_eq_getElem hl
  obtain ⟨e1, e2⟩ := ov_at g.sm g.nd hc ex
  have hl' : l[i] ∈ sds l := sds_of_small (List.getElem_mem hl)
  rcases same_wall g (trn_sd g T hx) hu e with z | z
  · exact ⟨l[i], hl', e1.trans z.symm⟩
  · exact ⟨swp l[i], sds_swp g hl', e2.trans z.symm⟩
end
theorem byWT_ext {l A B : List Nat} (g : GoodW l) (h : ∀ u ∈ sds l, u ∈ A ↔ u ∈ B) : byWT l A = byWT l B := by
  unfold byWT
  rw [List.flatMap_def, List.flatMap_def]
  congr 1
  refine List.map_congr_left fun c hc => List.filter_congr fun e he => ?_
  rw [Bool.eq_iff_iff, decide_eq_true_eq, decide_eq_true_eq]
  refine h e ?_
  rcases List.mem_cons.mp he with z | z
  · rw [z]; exact sds_swp g (sds_of_small hc)
  · rw [List.mem_singleton.mp z]; exact sds_of_small hc
/-- what sides go over into, by walls -/
def imL (l t r : List Nat) : List Nat := byWT l (r.map (ov l t))
section
variable {l t : List Nat} (g : GoodW l) (T : Trn l t)
include g T
theorem im_mem {r : List Nat} (hr : ∀ s ∈ r, s ∈ sds l) {u : Nat} : u ∈ imL l t r ↔ ∃ s ∈ r, ov l t s = u := by
  unfold imL
  rw [byWT_mem g, List.mem_map]
  exact ⟨fun h => h.2, fun ⟨s, hs, e⟩ => ⟨e ▸ ov_sd g T (hr s hs), s, hs, e⟩⟩
theorem im_ov {r : List Nat} (hr : ∀ s ∈ r, s ∈ sds l) {s : Nat} (hs : s ∈ sds l) : ov l t s ∈ imL l t r ↔ s ∈ r := by
  rw [im_mem g T hr]
  exact ⟨fun ⟨u, hu, e⟩ => ov_inj g T (hr u hu) hs e ▸ hu, fun h => ⟨s, h, rfl⟩⟩
theorem im_sd {r : List Nat} {u : Nat} (h : u ∈ imL l t r) : u ∈ sds l := ((byWT_mem g).mp h).1
end
section
variable {l : List Nat} (g : GoodW l) {bs : List (List Nat)} (hb : ∀ b ∈ bs, isBar l b = true) {fo : Nat → List Nat} (hf : ∀ s ∈ sds l, ∀ t, t ∈ fo s ↔ Frc (adjOf bs) s t)
include g hb
theorem rms_sd {r : List Nat} (hr : r ∈ rms l bs) : ∀ s ∈ r, s ∈ sds l := fun s hs => by
  obtain ⟨p, rfl, _⟩ := (rms_mem g hb r).mp hr
  exact rm_asc g hs
theorem rms_or {r : List Nat} (hr : r ∈ rms l bs) {s : Nat} (hs : s ∈ sds l) : s ∈ r ∨ swp s ∈ r := by
  obtain ⟨p, rfl, _⟩ := (rms_mem g hb r).mp hr
  rw [rm_mem g hs, rm_mem g (sds_swp g hs), val_swp (sds_lt g hs)]
  cases val p s <;> simp
theorem rms_ext {r q : List Nat} (hr : r ∈ rms l bs) (hq : q ∈ rms l bs) (h : ∀ s ∈ sds l, s ∈ r → s ∈ q) : r = q := by
  obtain ⟨p, rfl, _⟩ := (rms_mem g hb r).mp hr
  obtain ⟨p', rfl, _⟩ := (rms_mem g hb q).mp hq
  unfold rmOf
  refine List.map_congr_left fun c hc => ?_
  have h1 := h c (sds_of_small hc)
  have h2 := h (swp c) (sds_swp g (sds_of_small hc))
  rw [rm_mem g (sds_of_small hc), rm_mem g (sds_of_small hc)] at h1
  rw [rm_mem g (sds_swp g (sds_of_small hc)), rm_mem g (sds_swp g (sds_of_small hc)), val_swp (sds_lt g (sds_of_small hc)), val_swp (sds_lt g (sds_of_small hc))] at h2
  have hv : ∀ p : Nat → Bool, val p c = p c := fun p => by unfold val; rw [if_neg (by have := g.sm c hc; omega)]
  rw [hv, hv] at h1 h2
  cases e1 : p c <;> cases e2 : p' c <;> simp_all
include hf
theorem rms_frc {r : List Nat} (hr : r ∈ rms l bs) {s u : Nat} (hs : s ∈ r) (hu : u ∈ fo s) : u ∈ r := by
  have sd := rms_sd g hb hr s hs
  obtain ⟨p, rfl, sp⟩ := (rms_mem g hb r).mp hr
  have z := (hf s sd u).mp hu
  have v := Sat.frc g hb sp ((rm_mem g sd).mp hs) z
  exact (rm_mem g (Frc.mem g hb sd z)).mpr v
variable (ok : Okv l bs) (nf : ∀ s ∈ sds l, fo s = byWT l (fo s)) {t : List Nat} (T : Trn l t)
include ok T
/-- what keeps the forcing keeps the rooms -/
theorem keep_rooms (kf : ∀ s ∈ sds l, byWT l ((fo s).map (ov l t)) = fo (ov l t s)) {r : List Nat} (hr : r ∈ rms l bs) : imL l t r ∈ rms l bs := by
  have sd := rms_sd g hb hr
  have clo : Clo l bs (r.map (ov l t)) := by
    refine ⟨fun u hu => ?_, fun u hu v hv => ?_, fun u hu hn => ?_⟩
    · obtain ⟨s, hs, rfl⟩ := List.mem_map.mp hu
      exact ov_sd g T (sd s hs)
    · obtain ⟨s, hs, rfl⟩ := List.mem_map.mp hu
      have z : v ∈ fo (ov l t s) := (hf _ (ov_sd g T (sd s hs)) v).mpr (Frc.refl.step hv)
      rw [← kf s (sd s hs)] at z
      obtain ⟨w, hw, rfl⟩ := List.mem_map.mp ((byWT_mem g).mp z).2
      exact List.mem_map.mpr ⟨w, rms_frc g hb hf hr hs hw, rfl⟩
    · obtain ⟨s, hs, rfl⟩ := List.mem_map.mp hu
      rw [← ov_swp g T (sd s hs)] at hn
      obtain ⟨w, hw, e⟩ := List.mem_map.mp hn
      have := ov_inj g T (sd w hw) (sds_swp g (sd s hs)) e
      exact room_one g hb hf hr (sd s hs) hs (this ▸ hw)
  have full : ∀ c ∈ l, c ∈ r.map (ov l t) ∨ upc c ∈ r.map (ov l t) := fun c hc => by
    obtain ⟨s, hs, e⟩ := ov_sur g T (sds_of_small hc)
    rcases rms_or g hb hr hs with z | z
    · exact .inl (List.mem_map.mpr ⟨s, z, e⟩)
    · refine .inr (List.mem_map.mpr ⟨swp s, z, ?_⟩)
      rw [ov_swp g T hs, e, swp_small (g.sm c hc), upc_small (g.sm c hc)]
  obtain ⟨e1, e2⟩ := clo_room g hb hf ok clo full
  unfold imL
  rw [e1]
  exact e2
omit hf ok in
theorem im_inj {r q : List Nat} (hr : r ∈ rms l bs) (hq : q ∈ rms l bs) (e : imL l t r = imL l t q) : r = q :=
  rms_ext g hb hr hq fun s hs h => (im_ov g T (rms_sd g hb hq) hs).mp (e ▸ (im_ov g T (rms_sd g hb hr) hs).mpr h)
omit hf ok in
/-- then every room is one that is gone over into -/
theorem im_sur (kr : ∀ r ∈ rms l bs, imL l t r ∈ rms l bs) : ((rms l bs).map (imL l t)).Perm (rms l bs) := by
  have nd : ((rms l bs).map (imL l t)).Nodup := by
    refine List.pairwise_map.mpr ?_
    exact List.Pairwise.imp_of_mem (fun {a b} ha hb' ne e => ne (im_inj g hb T ha hb' e)) (rms_nd g)
  refine (List.perm_ext_iff_of_nodup nd (rms_nd g)).mpr fun x => ⟨fun h => ?_, fun h => Decidable.byContradiction fun hn => ?_⟩
  · obtain ⟨r, hr, rfl⟩ := List.mem_map.mp h
    exact kr r hr
  · have n2 : (x :: (rms l bs).map (imL l t)).Nodup := List.nodup_cons.mpr ⟨hn, nd⟩
    have := n2.length_le_of_subset (l₂ := rms l bs) fun y hy => by
      rcases List.mem_cons.mp hy with z | z
      · rw [z]; exact h
      · obtain ⟨r, hr, rfl⟩ := List.mem_map.mp z
        exact kr r hr
    rw [List.length_cons, List.length_map] at this
    omega
include nf
/-- what keeps the rooms keeps the forcing -/
theorem keep_forcing (kr : ∀ r ∈ rms l bs, imL l t r ∈ rms l bs) {s : Nat} (hs : s ∈ sds l) : byWT l ((fo s).map (ov l t)) = fo (ov l t s) := by
  have hos := ov_sd g T hs
  rw [nf _ hos]
  refine byWT_ext g fun u hu => ?_
  obtain ⟨v, hv, rfl⟩ := ov_sur g T hu
  have one : ∀ {a b : Nat}, a ∈ sds l → b ∈ sds l → (b ∈ fo a ↔ ∀ r ∈ rms l bs, a ∈ r → b ∈ r) := fun {a b} ha hb' => by
    refine ⟨fun h r hr h1 => rms_frc g hb hf hr h1 h, fun h => ?_⟩
    obtain ⟨z, hz, haz⟩ := side_room g hb hf ok ha
    have hP : ∀ c ∈ [a], c ∈ sds l := fun c hc => by rw [List.mem_singleton.mp hc]; exact ha
    have := (in_all g hb hf ok hP hz (fun c hc => by rw [List.mem_singleton.mp hc]; exact haz) hb').mp fun r hr hi => h r hr (hi a (List.mem_singleton.mpr rfl))
    obtain ⟨c, hc, k⟩ := (allFo_mem g hb hf hP).mp this
    rw [List.mem_singleton.mp hc] at k
    exact (hf a ha b).mpr k
  rw [one hos hu]
  constructor
  · intro h r' hr' h1
    obtain ⟨w, hw, e⟩ := List.mem_map.mp h
    obtain ⟨r, hr, rfl⟩ := List.mem_map.mp ((im_sur g hb T kr).mem_iff.mpr hr')
    have sd := rms_sd g hb hr
    have hwv := ov_inj g T (Frc.mem g hb hs ((hf s hs w).mp hw)) hv e
    subst hwv
    exact (im_ov g T sd hv).mpr ((one hs hv).mp hw r hr ((im_ov g T sd hs).mp h1))
  · intro h
    refine List.mem_map.mpr ⟨v, (one hs hv).mpr fun r hr h1 => ?_, rfl⟩
    have sd := rms_sd g hb hr
    exact (im_ov g T sd hv).mp (h _ (kr r hr) ((im_ov g T sd hs).mpr h1))
end
theorem FoOk.nf {l : List Nat} (g : GoodW l) {adj : Nat → List Nat} {L : List Nat} {fo : Nat → List Nat} (h : FoOk l adj L fo) {s : Nat} (hs : s ∈ L) : fo s = byWT l (fo s) := by
  obtain ⟨rs, _, _, e⟩ := h s hs
  rw [e]
  show (l.flatMap fun c => [swp c, c].filter (inK (ahK rs))) = l.flatMap fun c => [swp c, c].filter fun e => decide (e ∈ byW l (ahK rs))
  rw [List.flatMap_def, List.flatMap_def]
  congr 1
  refine List.map_congr_left fun c hc => List.filter_congr fun u hu => ?_
  have hus : u ∈ sds l := by
    rcases List.mem_cons.mp hu with z | z
    · rw [z]; exact sds_swp g (sds_of_small hc)
    · rw [List.mem_singleton.mp z]; exact sds_of_small hc
  rw [Bool.eq_iff_iff, decide_eq_true_eq]
  exact ⟨fun z => byW_of g hus z, fun z => (byW_mem g z).2⟩
/-- a turn of the hall -/
def TurnOk (l : List Nat) (bs : List (List Nat)) (t : List Nat) : Prop := Trn l t ∧ ∀ r ∈ rms l bs, imL l t r ∈ rms l bs
end NC
namespace NC
open PySem PySem.Spec PyProof.Rows L2
abbrev sLMix : Stmt := topS 53
abbrev sLByS : Stmt := topS 57
abbrev nLMix : List Str := ["_law_d", "_law_some", "_law_left", "_law_one"]
theorem scLMix : FnScope nLMix ["_law_d", "_law_some"] (defScope sLMix) := ⟨rfl, rfl, rfl, by decide +kernel, rfl, by decide +kernel, by decide +kernel⟩
theorem scLByS : FnScope ["_law_sides_here", "_law_found", "_law_sign", "_law_side"] ["_law_sides_here"] (defScope sLByS) := ⟨rfl, rfl, rfl, by decide +kernel, rfl, by decide +kernel, by decide +kernel⟩
theorem ds_over {d p : Addr} {H H' : Hp} {o : HO} (D : Dr H d) (u : SmD d H H') (D' : Dr H' d) (np : H p = none) : SmD d H (upd H' p o) ∧ Dr (upd H' p o) d := by
  have nd := D.ne np
  obtain ⟨c0, hc0⟩ := D.head
  obtain ⟨ns, hcell⟩ := D.cell hc0
  have nc : p ≠ c0 := Ne.symm (ne_of_none hcell np)
  refine ⟨⟨fun b o' nb hb => ?_, fun c hc => (u.2 c hc).upd nd⟩, D'.upd (u.2 _ hc0) nd nc⟩
  rw [upd_ne (ne_of_none hb np)]
  exact u.1 b o' nb hb
theorem erase_perm {α : Type} : ∀ (L : List α) (j : Nat) (h : j < L.length), (L[j] :: L.eraseIdx j).Perm L
  | a :: r, 0, _ => List.Perm.refl _
  | a :: r, j + 1, h => by
    have hj : j < r.length := by rw [List.length_cons] at h; omega
    have ih := erase_perm r j hj
    show (r[j] :: a :: r.eraseIdx j).Perm (a :: r)
    exact (List.Perm.swap a r[j] (r.eraseIdx j)).trans (ih.cons a)
theorem perm_pop {α : Type} {acc L xs : List α} {j : Nat} {v : α} (h : (acc ++ L).Perm xs) (hj : L[j]? = some v) : ((acc ++ [v]) ++ L.eraseIdx j).Perm xs := by
  refine List.Perm.trans ?_ h
  rw [List.append_assoc]
  refine List.Perm.append_left acc ?_
  obtain ⟨hlt, rfl⟩ := List.getElem?_eq_some_iff.mp hj
  show (L[j] :: L.eraseIdx j).Perm L
  exact erase_perm L j hlt
section
variable {P : Program} {w : World} {K : PySem.W.Frag} {mg : Str → Option Value} {base : Heap}
def spMixed : Sp := fun vs H Q _ => ∃ d a, ∃ xs : List V, vs = [.ref d, .ref a] ∧ Dr H d ∧ a ≠ d ∧ H a = some (.lst xs) ∧ xs.length ≤ 100 ∧ ∀ H' q ys, SmD d H H' → Dr H' d → H q = none → H' q = some (.lst ys) → ys.Perm xs → Q (.ref q) H'
def rLenK (K : PySem.W.Frag) : List V → Hp → VK → Prop := fun xs H Q => ∃ p ys, xs = [V.ref p] ∧ (SqL K H p ys ∨ SqT K H p ys) ∧ Q (V.int (ys.length : Nat)) H
set_option maxHeartbeats 2000000 in
theorem ok_mixed {f fD : Addr} {fd dD : FuncData} {k : Nat} (B : BM mg) (D : DF K mg "_law_draw" sDraw ["_law_d", "_law_many"] fD dD) (F : Fun K "_law_mixed" "_law_mixed" sLMix f fd) : FnOk P w K mg base CX0 (k + 2) f fd ["_law_d", "_law_some"] spMixed := by
  have GD : FnOk P w K mg base CX0 (k + 1) fD dD ["_law_d", "_law_many"] spDraw := ok_draw B D.F
  refine F.ok scLMix (fun vs H Q E h => ?_) (fun cdv A outer st H vs Q E hr h => ?_)
  · obtain ⟨d, a, xs, rfl, _⟩ := h
    rfl
  · obtain ⟨d, a, xs, rfl, hD, nad, ea, hl, q⟩ := h
    have nd := scLMix.nd
    refine ⟨_, pss_cons (ps_set (i := 2) nd rfl (.inr rfl) (pe_callTy call_list_of (by rfl) B.list (by decide +kernel) (pa_cons (pv 1) pa_nil)))
      (pss_one (ps_ret (pe_lc (own := [("_law_one", 3)]) (g := gName 3) (tt := tYes) (te := tBM K "list" rPopAt (tVar 2) (tCons (tCall spDraw [] E0 (tCons (tVar 0) (tCons (tCB (rLenK K) (tCons (tVar 2) tNil)) tNil))) tNil)) rfl nd (pi_list (pv 1)) (blkOk_by (N := nLMix) (sc := defScope sLMix) (by decide +kernel)) (fun _ _ _ _ _ => pg_name (i := 3) nd rfl (Or.inl rfl)) (fun _ _ _ _ _ => pts_nil)
        (fun _ _ _ _ _ => pe_bm PySem.F.plainAttrs_list PySem.F.slot_list_pop PySem.F.type_list_pop mt_popAt (pv 2) (pa_cons (pe_call GD hr rfl D.g D.F.kp D.b .nil pass0 (pa_cons (pv 0) (pa_cons (pe_callB call_len_seq (by rfl) B.len PySem.boot_len (pa_cons (pv 2) pa_nil)) pa_nil))) pa_nil))))), ?_⟩
    refine ⟨_, rfl, a, _, rfl, .inl (SqL.of ea), fun Lf nL => ?_⟩
    have nLd := hD.ne nL
    have s1 : Same H (upd H Lf (.lst xs)) := same_upd nL
    refine ⟨_, rfl, a, rfl, ⟨_, SqL.of (s1 _ _ ea)⟩, fun Da na => ?_⟩
    have nDL : Da ≠ Lf := Ne.symm (ne_of_none upd_same na)
    have na0 : H Da = none := L2.Same.free s1 na
    have wk := walk_list (K := K) (a := a) (xs := xs)
    refine lc_it wk (fun i H' => SmD d H H' ∧ Dr H' d ∧ ∃ acc left, H' Da = some (.lst acc) ∧ H' Lf = some (.lst left) ∧ (acc ++ left).Perm xs ∧ acc.length = i) ⟨SmD.of (sm_upd s1 na), hD.same (sm_upd s1 na), [], xs, upd_same, by rw [upd_ne (Ne.symm nDL), upd_same], List.Perm.refl _, rfl⟩ (fun i H' _ h => SqL.of (h.1.1 _ _ nad ea)) ?_ ?_
    · rintro i v G1 G2 hi ⟨u1, D1, acc, left, e1, e2, pm, al⟩ ⟨rfl, hx⟩
      have ll : acc.length + left.length = xs.length := by
        have := pm.length_eq
        rw [List.length_append] at this
        exact this
      refine ⟨rfl, yes_i ⟨_, rfl, .inl ⟨rfl, _, SqL.of e2⟩, _, rfl, _, rfl, Lf, _, rfl, .inl (SqL.of e2), d, _, rfl, D1, by omega, by omega, fun G3 z u3 D3 z0 z1 => ?_⟩⟩
      have e1' := u3.1 _ _ (hD.ne na0) e1
      have e2' := u3.1 _ _ nLd e2
      have hk : seqIndex? z left.length = some z.toNat := seqIndex_of z0 z1
      have hlt : z.toNat < left.length := by omega
      refine ⟨Lf, left, z, z.toNat, left[z.toNat], rfl, rfl, e2', by omega, by omega, hk, List.getElem?_eq_getElem hlt, ?_⟩
      obtain ⟨u4, D4⟩ := ds_over (o := .lst (left.eraseIdx z.toNat)) hD (u1.trans u3) D3 nL
      refine ⟨acc, (by rw [upd_ne nDL]; exact e1'), by rw [sizeLine_eq]; omega, ?_⟩
      obtain ⟨u5, D5⟩ := ds_over (o := .lst (acc ++ [left[z.toNat]])) hD u4 D4 na0
      refine ⟨u5, D5, acc ++ [left[z.toNat]], left.eraseIdx z.toNat, upd_same, by rw [upd_ne (Ne.symm nDL), upd_same], perm_pop pm (List.getElem?_eq_getElem hlt), by rw [List.length_append, al]; rfl⟩
    · rintro G1 ⟨u1, D1, acc, left, e1, e2, pm, al⟩
      have : left = [] := by
        have := pm.length_eq
        rw [List.length_append] at this
        exact List.eq_nil_of_length_eq_zero (by omega)
      rw [this, List.append_nil] at pm
      exact q G1 Da acc u1 D1 na0 e1 pm
end
theorem str1_dec (a b : Nat) : decide (V.str ⟨#[a]⟩ = V.str ⟨#[b]⟩) = decide (a = b) := by
  rw [Bool.eq_iff_iff, decide_eq_true_eq, decide_eq_true_eq]
  constructor
  · intro h
    have : (⟨#[a]⟩ : Str) = ⟨#[b]⟩ := by injection h
    have := congrArg Str.cps this
    simpa using this
  · intro h
    rw [h]
section
variable {P : Program} {w : World} {K : PySem.W.Frag} {mg : Str → Option Value} {base : Heap}
theorem byS_take (X : List Nat) {i c : Nat} (h : ltrs'[i]? = some c) : ((ltrs'.take (i + 1)).flatMap fun c => X.filter fun s => decide (lwc s = c)) = ((ltrs'.take i).flatMap fun c => X.filter fun s => decide (lwc s = c)) ++ X.filter fun s => decide (lwc s = c) := by
  rw [List.take_add_one, h, List.flatMap_append]
  simp
theorem flatF_len (X : List Nat) (L : List Nat) : (L.flatMap fun c => X.filter fun s => decide (lwc s = c)).length ≤ X.length * L.length := by
  induction L with
  | nil => simp
  | cons c r ih =>
    rw [List.flatMap_cons, List.length_append, List.length_cons, Nat.mul_succ]
    have := List.length_filter_le (fun s => decide (lwc s = c)) X
    omega
end
end NC
namespace NC
open PySem PySem.Spec PyProof.Rows L2
abbrev sGoesO : Stmt := topS 39
abbrev sSidesO : Stmt := topS 40
abbrev nGoesO : List Str := ["walls", "turn", "into", "wall", "side"]
theorem scGoesO : FnScope nGoesO ["walls", "turn"] (defScope sGoesO) := ⟨rfl, rfl, rfl, by decide +kernel, rfl, by decide +kernel, by decide +kernel⟩
theorem scSidesO : FnScope ["into", "sides", "side"] ["into", "sides"] (defScope sSidesO) := ⟨rfl, rfl, rfl, by decide +kernel, rfl, by decide +kernel, by decide +kernel⟩
/-- the sides, wall by wall, as goes_over puts them -/
def kS (l : List Nat) : List Nat := l.flatMap fun c => [c, swp c]
theorem kS_snoc {l : List Nat} {i c : Nat} (h : l[i]? = some c) : kS (l.take (i + 1)) = kS (l.take i) ++ [c, swp c] := by
  unfold kS
  rw [List.take_add_one, h, List.flatMap_append]
  simp
theorem kS_len (l : List Nat) : (kS l).length = 2 * l.length := by
  unfold kS
  induction l with
  | nil => rfl
  | cons x r ih => rw [List.flatMap_cons, List.length_append, ih, List.length_cons, List.length_cons, List.length_cons]; simp; omega
theorem kS_mem {l : List Nat} (g : GoodW l) {s : Nat} : s ∈ kS l ↔ s ∈ sds l := by
  unfold kS
  rw [List.mem_flatMap, sds_at g]
  constructor
  · rintro ⟨c, hc, h⟩
    obtain ⟨i, hi⟩ := List.getElem?_of_mem hc
    refine ⟨i, c, hi, ?_⟩
    rcases List.mem_cons.mp h with z | z
    · exact .inl z
    · exact .inr (List.mem_singleton.mp z)
  · rintro ⟨i, c, hi, h⟩
    refine ⟨c, List.mem_of_getElem? hi, ?_⟩
    rcases h with z | z
    · rw [z]; exact List.mem_cons_self ..
    · rw [z]; exact List.mem_cons_of_mem _ (List.mem_singleton.mpr rfl)
theorem kS_new {l : List Nat} (g : GoodW l) {i c : Nat} (h : l[i]? = some c) : c ∉ kS (l.take i) ∧ swp c ∉ kS (l.take i) := by
  have hc := g.sm c (List.mem_of_getElem? h)
  have nin : ∀ d ∈ l.take i, d ≠ c := fun d hm e => take_new g.nd h (e ▸ hm)
  have one : ∀ s, s ∈ kS (l.take i) → ∃ d ∈ l.take i, s = d ∨ s = swp d := fun s hs => by
    unfold kS at hs
    obtain ⟨d, hd, z⟩ := List.mem_flatMap.mp hs
    refine ⟨d, hd, ?_⟩
    rcases List.mem_cons.mp z with z | z
    · exact .inl z
    · exact .inr (List.mem_singleton.mp z)
  constructor
  · intro z
    obtain ⟨d, hd, e | e⟩ := one c z
    · exact nin d hd e.symm
    · have hd' := g.sm d (List.mem_of_mem_take hd)
      rw [swp_small hd'] at e
      omega
  · intro z
    obtain ⟨d, hd, e | e⟩ := one (swp c) z
    · have hd' := g.sm d (List.mem_of_mem_take hd)
      rw [swp_small hc] at e
      omega
    · have hd' := g.sm d (List.mem_of_mem_take hd)
      rw [swp_small hc, swp_small hd'] at e
      exact nin d hd (by omega)
/-- the dict of what sides go over into -/
def ovK (l t : List Nat) : List (Key × V) := foK (kS l) fun s => [ov l t s]
theorem ovK_val {l t : List Nat} (g : GoodW l) {s : Nat} (h : s ∈ sds l) : valV (ovK l t) (Sum.inr (sg s)) = some (.str (sg (ov l t s))) := foK_val ((kS_mem g).mpr h)
section
variable {P : Program} {w : World} {K : PySem.W.Frag} {mg : Str → Option Value} {base : Heap}
def spGoesO : Sp := fun vs H Q _ => ∃ l t, vs = [.str (tx l), .str (tx t)] ∧ GoodW l ∧ t.length = l.length ∧ (∀ c ∈ t, c < 128) ∧ ∀ H' D, Same H H' → H D = none → H' D = some (.dK (ovK l t)) → Q (.ref D) H'
set_option maxHeartbeats 1000000 in
theorem ok_goesO {f fO : Addr} {fd fdO : FuncData} {k : Nat} (hz : mg "zip" = none) (O : DF K mg "other" sOther ["side"] fO fdO) (F : Fun K "goes_over" "goes_over" sGoesO f fd) : FnOk P w K mg base CX0 (k + 2) f fd ["walls", "turn"] spGoesO := by
  have GO : FnOk P w K mg base CX0 (k + 1) fO fdO ["side"] spOther := ok_other O.F
  refine F.ok scGoesO (fun vs H Q E h => ?_) (fun cdv A outer st H vs Q E hr h => ?_)
  · obtain ⟨l, t, rfl, _⟩ := h
    rfl
  · obtain ⟨l, t, rfl, g, hl, ha, q⟩ := h
    have nd := scGoesO.nd
    have hl12 := g.hi
    refine ⟨_, pss_cons (ps_set (i := 2) nd rfl (.inl rfl) pe_dnewK)
      (pss_cons (ps_for PassesOwn.never rfl (pi_zipS (by rfl) hz (pa_cons (pv 0) (pa_cons (pv 1) pa_nil))) (pg_tup rfl (pgs_cons (pg_name (i := 3) nd rfl (Or.inl rfl)) (pgs_cons (pg_name (i := 4) nd rfl (Or.inl rfl)) pgs_nil)))
        (pss_cons (ps_dput (hu_of hr) (pv 2) (pv 3) (pv 4) rfl)
        (pss_one (ps_dput (hu_of hr) (pv 2) (pe_call GO hr rfl O.g O.F.kp O.b .nil pass0 (pa_cons (pv 3) pa_nil)) (pe_call GO hr rfl O.g O.F.kp O.b .nil pass0 (pa_cons (pv 4) pa_nil)) rfl))))
      (pss_one (ps_ret (pv 2)))), ?_⟩
    refine fun p np => ?_
    have l1 : (tx l).cps.size = l.length := tx_len _
    have l2 : (tx t).cps.size = t.length := tx_len _
    refine ⟨_, rfl, _, rfl, tx l, tx t, rfl, ?_⟩
    refine for_it (walk_zipS (n := l.length) (by rw [l1, l2]; omega)) (fun i σ H' => ∃ (y3 y4 : Option V), σ = [some (.str (tx l)), some (.str (tx t)), some (.ref p), y3, y4] ∧ Same H H' ∧ H' p = some (.dK (foK (kS (l.take i)) fun s => [ov l t s]))) ⟨_, _, rfl, same_upd np, upd_same⟩ (fun _ _ _ _ _ => trivial) ?_ ?_
    · rintro i v σ H1 H2 hi ⟨y3, y4, rfl, s1, e1⟩ ⟨T, s, u, rfl, nT, rfl, ⟨c, hc, rfl⟩, ⟨e, he, rfl⟩⟩
      have hc : l[i]? = some c := by
        rw [← Array.getElem?_toList, tx_list] at hc
        exact hc
      have he : t[i]? = some e := by
        rw [← Array.getElem?_toList, tx_list] at he
        exact he
      obtain ⟨o1, o2⟩ := ov_at g.sm g.nd hc he
      obtain ⟨n1, n2⟩ := kS_new g hc
      have ca := g.asc c (List.mem_of_getElem? hc)
      have ea := ha e (List.mem_of_getElem? he)
      have npT : p ≠ T := ne_of_none e1 nT
      have kl : (kS (l.take i)).length ≤ 24 := by rw [kS_len, List.length_take]; omega
      have s2 : Same H (upd H1 T (.tup [.str ⟨#[c]⟩, .str ⟨#[e]⟩])) := sm_upd s1 nT
      have e2 : (upd H1 T (.tup [.str ⟨#[c]⟩, .str ⟨#[e]⟩])) p = some (.dK (foK (kS (l.take i)) fun s => [ov l t s])) := by rw [upd_ne npT]; exact e1
      refine ⟨T, _, rfl, SqT.of upd_same, rfl, _, _, rfl, _, _, rfl, rfl, ?_⟩
      generalize upd H1 T (.tup [.str ⟨#[c]⟩, .str ⟨#[e]⟩]) = H3 at s2 e2 ⊢
      refine ⟨_, rfl, _, rfl, _, rfl, p, _, rfl, DPut.k (k := Sum.inr (sg c)) e2 (by unfold foK; rw [List.length_map, sizeLine_eq]; omega), ?_⟩
      have e3 : (upd H3 p (.dK (putK (foK (kS (l.take i)) fun s => [ov l t s]) (Sum.inr (sg c)) (.str ⟨#[e]⟩)))) p = some (.dK (foK (kS (l.take i) ++ [c]) fun s => [ov l t s])) := by
        rw [upd_same, putK_new _ (foK_no n1), ← o1]
        unfold foK
        rw [List.map_append]
        rfl
      have s3 : Same H (upd H3 p (.dK (putK (foK (kS (l.take i)) fun s => [ov l t s]) (Sum.inr (sg c)) (.str ⟨#[e]⟩)))) := sm_over s2 np
      generalize upd H3 p (.dK (putK (foK (kS (l.take i)) fun s => [ov l t s]) (Sum.inr (sg c)) (.str ⟨#[e]⟩))) = H4 at e3 s3 ⊢
      refine ⟨_, rfl, e, rfl, ea, _, rfl, _, rfl, c, rfl, ca, p, _, rfl, DPut.k (k := Sum.inr (sg (swp c))) e3 (by unfold foK; rw [List.length_map, List.length_append, sizeLine_eq]; simp; omega), ?_⟩
      refine ⟨_, _, rfl, sm_over s3 np, ?_⟩
      have n3 : swp c ∉ kS (l.take i) ++ [c] := fun z => by
        rcases List.mem_append.mp z with z | z
        · exact n2 z
        · have := List.mem_singleton.mp z
          rw [swp_small (g.sm c (List.mem_of_getElem? hc))] at this
          have := g.sm c (List.mem_of_getElem? hc)
          omega
      rw [upd_same, putK_new _ (foK_no n3), ← o2, kS_snoc hc, show kS (l.take i) ++ [c, swp c] = (kS (l.take i) ++ [c]) ++ [swp c] by simp]
      unfold foK
      rw [List.map_append (l₁ := kS (l.take i) ++ [c])]
      rfl
    · rintro σ H1 ⟨y3, y4, rfl, s1, e1⟩
      rw [List.take_length] at e1
      exact ⟨_, rfl, q H1 p s1 np e1⟩
def spSidesO : Sp := fun vs H Q _ => ∃ D kvs S, ∃ h : Nat → Nat, vs = [.ref D, .str (tx S)] ∧ Rd H D (.dK kvs) ∧ (∀ s ∈ S, valV kvs (Sum.inr (sg s)) = some (.str (sg (h s)))) ∧ S.length ≤ 100 ∧ ∀ H', Same H H' → Q (.str (tx (S.map h))) H'
theorem rd_same {H H' : Hp} {D : Addr} {u : HO} (h : Rd H D u) (s : Same H H') : Rd H' D u := h.elim (fun z => .inl (s _ _ z)) fun ⟨o, z⟩ => .inr ⟨o, s _ _ z⟩
set_option maxHeartbeats 1000000 in
theorem ok_sidesO {f : Addr} {fd : FuncData} {k : Nat} (F : Fun K "sides_over" "sides_over" sSidesO f fd) : FnOk P w K mg base CX0 (k + 1) f fd ["into", "sides"] spSidesO := by
  refine F.ok scSidesO (fun vs H Q E h => ?_) (fun cdv A outer st H vs Q E hr h => ?_)
  · obtain ⟨D, kvs, S, h, rfl, _⟩ := h
    rfl
  · obtain ⟨D, kvs, S, h, rfl, hD, hv, hn, q⟩ := h
    have nd := scSidesO.nd
    refine ⟨_, pss_one (ps_ret (pe_join pe_str (pe_lc (own := [("side", 2)]) (g := gName 2) (tt := tYes) (te := tDGet (tVar 0) (tVar 2)) rfl nd (pi_str (pv 1)) (blkOk_by (N := ["into", "sides", "side"]) (sc := defScope sSidesO) (by decide +kernel)) (fun _ _ _ _ _ => pg_name (i := 2) nd rfl (Or.inl rfl)) (fun _ _ _ _ _ => pts_nil)
      (fun _ _ _ _ _ => pe_dget (hu_of hr) (pv 0) (pv 2) (fun _ _ => rfl))))), ?_⟩
    refine ⟨⟨_, rfl⟩, _, rfl, tx S, rfl, fun Da na => ?_⟩
    have lz : (tx S).cps.size = S.length := tx_len _
    have wk := walk_str (z := tx S)
    rw [lz] at wk
    refine lc_it wk (fun i H' => Same H H' ∧ H' Da = some (.lst ((((S.take i).map h).map sg).map V.str))) ⟨same_upd na, upd_same⟩ (fun _ _ _ _ => trivial) ?_ ?_
    · rintro i v H1 H2 hi ⟨s1, e1⟩ ⟨rfl, c, hc, rfl⟩
      have hc : S[i]? = some c := by
        rw [← Array.getElem?_toList, tx_list] at hc
        exact hc
      refine ⟨rfl, yes_i ⟨_, rfl, _, rfl, D, _, rfl, .inl ⟨kvs, Sum.inr (sg c), rd_same hD s1, rfl, (hv c (List.mem_of_getElem? hc)).symm⟩, _, e1, ?_, sm_over s1 na, ?_⟩⟩
      · rw [List.length_map, List.length_map, List.length_map, List.length_take, sizeLine_eq]
        omega
      · rw [upd_same, List.take_add_one, hc, List.map_append, List.map_append, List.map_append]
        rfl
    · rintro H1 ⟨s1, e1⟩
      rw [List.take_length] at e1
      refine ⟨_, _, (S.map h).map sg, rfl, rfl, .inl (SqL.of e1), ?_, ?_⟩
      · rw [sum_sgs, List.length_map, show (Str.ofString "").length = 0 by decide +kernel]
        omega
      · rw [join_sg]
        exact q _ s1
end
end NC
namespace NC
open PySem PySem.Spec PyProof.Rows L2
/-- one side of a wall at most, wall by wall -/
abbrev Ris (X : List Nat) : Prop := X.Pairwise fun a b => lwc a < lwc b
theorem ris_eq {A B : List Nat} (ha : Ris A) (hb : Ris B) (h : ∀ c, c ∈ A ↔ c ∈ B) : A = B := by
  have p : A.Perm B := (List.perm_ext_iff_of_nodup (ha.imp fun h e => by rw [e] at h; exact Nat.lt_irrefl _ h) (hb.imp fun h e => by rw [e] at h; exact Nat.lt_irrefl _ h)).mpr h
  exact p.eq_of_pairwise (fun x y _ _ h1 h2 => by omega) ha hb
theorem byWT_ris {l W : List Nat} (g : GoodW l) (one : ∀ c ∈ l, c ∈ W → swp c ∉ W) : Ris (byWT l W) := by
  unfold byWT Ris
  have lw : ∀ c ∈ l, ∀ x ∈ [swp c, c].filter (fun e => decide (e ∈ W)), lwc x = c := fun c hc x hx => by
    have h := (List.mem_filter.mp hx).1
    have hs := g.sm c hc
    rcases List.mem_cons.mp h with e | e
    · rw [e, lwc_swp (.inl hs)]; unfold lwc; rw [if_neg (by omega)]
    · rw [List.mem_singleton.mp e]; unfold lwc; rw [if_neg (by omega)]
  refine List.pairwise_flatMap.mpr ⟨fun c hc => ?_, ?_⟩
  · by_cases h1 : swp c ∈ W
    · have h2 : c ∉ W := fun z => one c hc z h1
      simp [h1, h2]
    · by_cases h2 : c ∈ W <;> simp [h1, h2]
  · refine List.Pairwise.imp_of_mem (fun {a b} ha hb h x hx y hy => ?_) g.rise
    rw [lw a ha x hx, lw b hb y hy]
    exact h
theorem byWT_self {l X : List Nat} (g : GoodW l) (h : ∀ s ∈ X, s ∈ sds l) (r : Ris X) : byWT l X = X := by
  refine ris_eq (byWT_ris g fun c hc h1 h2 => ?_) r fun c => ?_
  · have lt : isLt c := .inl (g.sm c hc)
    have : ∀ {a b : Nat}, a ∈ X → b ∈ X → lwc a = lwc b → a = b := fun {a b} ha hb e => by
      obtain ⟨i, hi⟩ := List.getElem?_of_mem ha
      obtain ⟨j, hj⟩ := List.getElem?_of_mem hb
      obtain ⟨i1, i2⟩ := List.getElem?_eq_some_iff.mp hi
      obtain ⟨j1, j2⟩ := List.getElem?_eq_some_iff.mp hj
      rcases Nat.lt_trichotomy i j with z | z | z
      · have := List.pairwise_iff_getElem.mp r i j i1 j1 z
        rw [i2, j2] at this
        omega
      · subst z
        rw [← i2, ← j2]
      · have := List.pairwise_iff_getElem.mp r j i j1 i1 z
        rw [i2, j2] at this
        omega
    exact swp_ne lt (this h2 h1 (lwc_swp lt))
  · rw [byWT_mem g]
    exact ⟨fun z => z.2, fun z => ⟨h c z, z⟩⟩
theorem one_of {α : Type} {L : List α} {a : α} (h : L.length ≤ 1) (m : a ∈ L) : L = [a] := by
  match L, h, m with
  | [b], _, m => rw [List.mem_singleton.mp m]
theorem flat_filter {α β : Type} {L : List α} {p : α → Bool} {f : α → List β} (h : ∀ c ∈ L, p c = false → f c = []) : L.flatMap f = (L.filter p).flatMap f := by
  induction L with
  | nil => rfl
  | cons a r ih =>
    have ih := ih fun c hc => h c (List.mem_cons_of_mem _ hc)
    rw [List.flatMap_cons, List.filter_cons, ih]
    by_cases e : p a = true
    · rw [if_pos e, List.flatMap_cons]
    · rw [if_neg e, h a (List.mem_cons_self ..) (by simpa using e), List.nil_append]
/-- by letters is by walls, where no wall is told twice -/
theorem byS_walls {l X : List Nat} (g : GoodW l) (h : ∀ s ∈ X, s ∈ sds l) (nd : (X.map lwc).Nodup) : byS X = byWT l X := by
  have fl : ∀ c, (X.filter fun s => decide (lwc s = c)).length ≤ 1 := fun c => by
    have n1 : ((X.filter fun s => decide (lwc s = c)).map lwc).Nodup := nd.sublist (List.Sublist.map lwc List.filter_sublist)
    have := n1.length_le_of_subset (l₂ := [c]) fun y hy => by
      obtain ⟨s, hs, rfl⟩ := List.mem_map.mp hy
      exact List.mem_singleton.mpr (of_decide_eq_true (List.mem_filter.mp hs).2)
    rw [List.length_map] at this
    exact this
  have el : ltrs'.filter (fun c => decide (c ∈ l)) = l := by
    refine rise_eq (ltrs_rise.sublist List.filter_sublist) g.rise fun c => ?_
    rw [List.mem_filter, decide_eq_true_eq]
    refine ⟨fun z => z.2, fun z => ⟨?_, z⟩⟩
    have := g.sm c z
    unfold ltrs'
    exact List.mem_map.mpr ⟨c - 97, List.mem_range.mpr (by omega), by omega⟩
  unfold byS byWT
  rw [flat_filter (p := fun c => decide (c ∈ l)) (fun c _ hn => ?_), el]
  · rw [List.flatMap_def, List.flatMap_def]
    congr 1
    refine List.map_congr_left fun c hc => ?_
    have hs := g.sm c hc
    have l1 : lwc c = c := by unfold lwc; rw [if_neg (by omega)]
    have l2 : lwc (swp c) = c := by rw [lwc_swp (.inl hs), l1]
    by_cases h1 : c ∈ X
    · have m1 : c ∈ X.filter fun s => decide (lwc s = c) := List.mem_filter.mpr ⟨h1, decide_eq_true l1⟩
      have e1 := one_of (fl c) m1
      have h2 : swp c ∉ X := fun z => by
        have : swp c ∈ X.filter fun s => decide (lwc s = c) := List.mem_filter.mpr ⟨z, decide_eq_true l2⟩
        rw [e1] at this
        exact swp_ne (.inl hs) (List.mem_singleton.mp this)
      rw [e1]
      simp [h1, h2]
    · by_cases h2 : swp c ∈ X
      · have m1 : swp c ∈ X.filter fun s => decide (lwc s = c) := List.mem_filter.mpr ⟨h2, decide_eq_true l2⟩
        rw [one_of (fl c) m1]
        simp [h1, h2]
      · have : (X.filter fun s => decide (lwc s = c)) = [] := List.filter_eq_nil_iff.mpr fun s hs' z => by
          have e := of_decide_eq_true z
          rcases same_wall g (sds_of_small hc) (h s hs') (by rw [l1, e]) with y | y
          · exact h1 (y ▸ hs')
          · exact h2 (y ▸ hs')
        rw [this]
        simp [h1, h2]
  · have hn : c ∉ l := by simpa using hn
    exact List.filter_eq_nil_iff.mpr fun s hs' z => hn (by rw [← of_decide_eq_true z]; exact lwc_sd g (h s hs'))
section
variable {l t : List Nat} (g : GoodW l) (T : Trn l t)
include g T
theorem ov_walls {s u : Nat} (hs : s ∈ sds l) (hu : u ∈ sds l) (e : lwc (ov l t s) = lwc (ov l t u)) : lwc s = lwc u := by
  rcases same_wall g (ov_sd g T hs) (ov_sd g T hu) e with z | z
  · rw [ov_inj g T hu hs z]
  · rw [← ov_swp g T hs] at z
    rw [ov_inj g T hu (sds_swp g hs) z, lwc_swp (sds_lt g hs)]
/-- the law's going over is the program's -/
theorem im_is {X : List Nat} (h : ∀ s ∈ X, s ∈ sds l) (nd : (X.map lwc).Nodup) : byS (X.map (ov l t)) = imL l t X := by
  refine byS_walls g (fun s hs => ?_) ?_
  · obtain ⟨u, hu, rfl⟩ := List.mem_map.mp hs
    exact ov_sd g T (h u hu)
  · rw [List.map_map]
    refine List.pairwise_map.mpr ?_
    exact List.Pairwise.imp_of_mem (fun {a b} ha hb ne e => ne (ov_walls g T (h a ha) (h b hb) e)) (List.pairwise_map.mp nd)
theorem im_ris {X : List Nat} (h : ∀ s ∈ X, s ∈ sds l) (one : ∀ s ∈ X, swp s ∉ X) : Ris (imL l t X) := by
  refine byWT_ris g fun c hc h1 h2 => ?_
  obtain ⟨u, hu, e⟩ := List.mem_map.mp h1
  obtain ⟨v, hv, e2⟩ := List.mem_map.mp h2
  rw [← e, ← ov_swp g T (h u hu)] at e2
  have := ov_inj g T (h v hv) (sds_swp g (h u hu)) e2
  exact one u hu (this ▸ hv)
end
theorem bar_ris {l b : List Nat} (h : isBar l b = true) : (∀ s ∈ b, s ∈ sds l) ∧ Ris b := by
  obtain ⟨x, y, rfl, hx, hy, lt⟩ := bar_two h
  refine ⟨fun s hs => ?_, by simp [Ris, lt]⟩
  rcases List.mem_cons.mp hs with e | e
  · rw [e]; exact hx
  · rw [List.mem_singleton.mp e]; exact hy
theorem ris_one {l X : List Nat} (g : GoodW l) (h : ∀ s ∈ X, s ∈ sds l) (r : Ris X) : ∀ s ∈ X, swp s ∉ X := fun s hs z => by
  have lt := sds_lt g (h s hs)
  have nd : (X.map lwc).Nodup := List.pairwise_map.mpr (r.imp fun h => Nat.ne_of_lt h)
  obtain ⟨i, hi⟩ := List.getElem?_of_mem hs
  obtain ⟨j, hj⟩ := List.getElem?_of_mem z
  obtain ⟨i1, i2⟩ := List.getElem?_eq_some_iff.mp hi
  obtain ⟨j1, j2⟩ := List.getElem?_eq_some_iff.mp hj
  have e := lwc_swp lt
  rcases Nat.lt_trichotomy i j with y | y | y
  · have := List.pairwise_iff_getElem.mp r i j i1 j1 y
    rw [i2, j2] at this
    omega
  · subst y
    rw [i2] at j2
    exact swp_ne lt j2.symm
  · have := List.pairwise_iff_getElem.mp r j i j1 i1 y
    rw [i2, j2] at this
    omega
theorem ris_nd {X : List Nat} (r : Ris X) : (X.map lwc).Nodup := List.pairwise_map.mpr (r.imp fun h => Nat.ne_of_lt h)
section
variable {l t : List Nat} (g : GoodW l) (T : Trn l t)
include g T
theorem bar_inj {a b : List Nat} (ha : isBar l a = true) (hb : isBar l b = true) (e : imL l t a = imL l t b) : a = b := by
  obtain ⟨sa, ra⟩ := bar_ris ha
  obtain ⟨sb, rb⟩ := bar_ris hb
  refine ris_eq ra rb fun c => ⟨fun h => ?_, fun h => ?_⟩
  · exact (im_ov g T sb (sa c h)).mp (e ▸ (im_ov g T sa (sa c h)).mpr h)
  · exact (im_ov g T sa (sb c h)).mp (e ▸ (im_ov g T sb (sb c h)).mpr h)
theorem im_in {b r : List Nat} (hb : ∀ s ∈ b, s ∈ sds l) (hr : ∀ s ∈ r, s ∈ sds l) : inR (imL l t b) (imL l t r) = inR b r := by
  rw [Bool.eq_iff_iff, inR_iff, inR_iff]
  constructor
  · exact fun h s hs => (im_ov g T hr (hb s hs)).mp (h _ ((im_ov g T hb (hb s hs)).mpr hs))
  · intro h s hs
    obtain ⟨u, hu, rfl⟩ := (im_mem g T hb).mp hs
    exact (im_ov g T hr (hb u hu)).mpr (h u hu)
/-- bars that go over into bars: the turn keeps the rooms -/
theorem bars_turn {bs : List (List Nat)} (bar : ∀ b ∈ bs, isBar l b = true) (nd : bs.Nodup) (cl : ∀ b ∈ bs, imL l t b ∈ bs) : TurnOk l bs t := by
  refine ⟨T, fun r hr => ?_⟩
  have sd := rms_sd g bar hr
  have sur : ∀ b ∈ bs, ∃ a ∈ bs, imL l t a = b := fun b hb => Decidable.byContradiction fun hn => by
    have n1 : (bs.map (imL l t)).Nodup := List.pairwise_map.mpr (List.Pairwise.imp_of_mem (fun {x y} hx hy ne e => ne (bar_inj g T (bar x hx) (bar y hy) e)) nd)
    have hnot : b ∉ bs.map (imL l t) := fun z => hn (List.mem_map.mp z)
    have := (List.nodup_cons.mpr ⟨hnot, n1⟩).length_le_of_subset (l₂ := bs) fun y hy => by
      rcases List.mem_cons.mp hy with z | z
      · rw [z]; exact hb
      · obtain ⟨x, hx, rfl⟩ := List.mem_map.mp z
        exact cl x hx
    rw [List.length_cons, List.length_map] at this
    omega
  have hrl : r.map lwc = l := (room_low g r).mp (by unfold rms at hr; exact (List.mem_filter.mp hr).1)
  have rr : Ris r := List.pairwise_map.mp (by rw [hrl]; exact g.rise)
  have ri := im_ris g T sd (ris_one g sd rr)
  have il : (imL l t r).map lwc = l := by
    refine rise_eq (List.pairwise_map.mpr ri) g.rise fun c => ⟨fun h => ?_, fun h => ?_⟩
    · obtain ⟨s, hs, rfl⟩ := List.mem_map.mp h
      exact lwc_sd g (im_sd g T hs)
    · have hc := g.sm c h
      have l1 : lwc c = c := by unfold lwc; rw [if_neg (by omega)]
      obtain ⟨s, hs, e⟩ := ov_sur g T (sds_of_small h)
      rcases rms_or g bar hr hs with z | z
      · exact List.mem_map.mpr ⟨c, e ▸ (im_ov g T sd hs).mpr z, l1⟩
      · refine List.mem_map.mpr ⟨swp c, ?_, by rw [lwc_swp (.inl hc), l1]⟩
        rw [← e, ← ov_swp g T hs]
        exact (im_ov g T sd (sds_swp g hs)).mpr z
  unfold rms at hr ⊢
  refine List.mem_filter.mpr ⟨(room_low g _).mpr il, ?_⟩
  have hr2 := (List.mem_filter.mp hr).2
  rw [Bool.not_eq_true'] at hr2 ⊢
  rw [List.any_eq_false] at hr2 ⊢
  intro b hb z
  obtain ⟨a, ha, rfl⟩ := sur b hb
  rw [im_in g T (bar_ris (bar a ha)).1 sd] at z
  exact hr2 a ha z
end
end NC
namespace NC
open PySem PySem.Spec PyProof.Rows L2
abbrev sLImg : Stmt := topS 56
abbrev sLSome : Stmt := topS 58
abbrev nLImg : List Str := ["_law_shuts", "_law_turn", "_law_sides_here", "_law_found", "_law_shut", "_law_side"]
theorem scLImg : FnScope nLImg ["_law_shuts", "_law_turn", "_law_sides_here"] (defScope sLImg) := ⟨rfl, rfl, rfl, by decide +kernel, rfl, by decide +kernel, by decide +kernel⟩
theorem scLSome : FnScope ["_law_d", "_law_shuts", "_law_side"] ["_law_d", "_law_shuts"] (defScope sLSome) := ⟨rfl, rfl, rfl, by decide +kernel, rfl, by decide +kernel, by decide +kernel⟩
section
variable {P : Program} {w : World} {K : PySem.W.Frag} {mg : Str → Option Value} {base : Heap}
def spBySL (K : PySem.W.Frag) : Sp := fun vs H Q _ => ∃ a X, vs = [.ref a] ∧ SqL K H a ((X.map sg).map V.str) ∧ (∀ c ∈ X, c < 128) ∧ X.length ≤ 100 ∧ ∀ H', Same H H' → Q (.str (tx (byS X))) H'
set_option maxHeartbeats 1000000 in
theorem ok_bySL {f fL : Addr} {fd dL : FuncData} {k : Nat} (F : Fun K "_law_by_shuts" "_law_by_shuts" sLByS f fd) (Lt : DF K mg "_law_letters" sLetters [] fL dL) : FnOk P w K mg base CX0 (k + 2) f fd ["_law_sides_here"] (spBySL K) := by
  have GL := ok_letters (P := P) (w := w) (mg := mg) (base := base) (k := k) Lt.F
  refine F.ok scLByS (fun vs H Q E h => ?_) (fun cdv A0 outer st H vs Q E hr h => ?_)
  · obtain ⟨a, X, rfl, _⟩ := h
    rfl
  · obtain ⟨a, X, rfl, hS, xa, xn, q⟩ := h
    have nd := scLByS.nd
    refine ⟨_, pss_cons (ps_set (i := 1) nd rfl (.inl rfl) pe_str)
      (pss_cons (ps_for PassesOwn.never rfl (pi_str (pe_call0 GL hr rfl Lt.g Lt.F.kp Lt.b .nil pass0)) (pg_name (i := 2) nd rfl (.inr rfl))
        (pss_one (ps_set (i := 1) nd rfl (.inl rfl) (pe_op op_add_str (pv 1) (pe_join pe_str (pe_lc (own := [("_law_side", 3)]) (g := gName 3) (tt := tTest (tOp rEq (tLow (tVar 3)) (tVar 2))) rfl nd (pi_list (pv 0)) (blkOk_by (N := ["_law_sides_here", "_law_found", "_law_sign", "_law_side"]) (sc := defScope sLByS) (by decide +kernel)) (fun _ _ _ _ _ => pg_name (i := 3) nd rfl (Or.inl rfl))
          (fun _ _ _ _ _ => pts_one (pt_cmpR op_eq (pe_lower (pv 3)) (pv 2) (nomark _))) (fun _ _ _ _ _ => pv 3)))))))
      (pss_one (ps_ret (pv 1)))), ?_⟩
    refine ⟨rfl, _, rfl, ?_⟩
    have lz : (tx ltrs).cps.size = 26 := by rw [show (tx ltrs).cps.size = ltrs.length from tx_len _]; rfl
    have wk := walk_str (z := tx ltrs)
    rw [lz] at wk
    refine for_it wk (fun i σ H' => ∃ (y2 y3 : Option V), σ = [some (.ref a), some (.str (tx ((ltrs'.take i).flatMap fun c => X.filter fun s => decide (lwc s = c)))), y2, y3] ∧ Same H H') ⟨_, _, by rw [str00]; rfl, L2.Same.refl _⟩ (fun _ _ _ _ _ => trivial) ?_ ?_
    · rintro i v σ H1 H2 hi ⟨y2, y3, rfl, s1⟩ ⟨rfl, c, hc, rfl⟩
      have hc : ltrs'[i]? = some c := by
        rw [← Array.getElem?_toList, tx_list] at hc
        exact hc
      refine ⟨_, rfl, ⟨_, rfl⟩, _, rfl, a, rfl, ⟨_, sm_l s1 hS⟩, fun Da na => ?_⟩
      have wkx := walk_list (K := K) (a := a) (xs := (X.map sg).map V.str)
      rw [List.length_map, List.length_map] at wkx
      refine lc_it wkx (fun j H' => Same H2 H' ∧ H' Da = some (.lst ((((X.take j).filter fun s => decide (lwc s = c)).map sg).map V.str))) ⟨same_upd na, upd_same⟩ (fun j H' _ h => sm_l h.1 (sm_l s1 hS)) ?_ ?_
      · rintro j v G1 G2 hj ⟨u1, e1⟩ ⟨rfl, hx⟩
        rw [List.getElem?_map, List.getElem?_map] at hx
        obtain ⟨z2, hz2, rfl⟩ := Option.map_eq_some_iff.mp hx
        obtain ⟨e, he, rfl⟩ := Option.map_eq_some_iff.mp hz2
        have ea := xa e (List.mem_of_getElem? he)
        have tk : X.take (j + 1) = X.take j ++ [e] := by rw [List.take_add_one, he]; rfl
        have fl : ((X.take j).filter fun s => decide (lwc s = c)).length ≤ 100 := Nat.le_trans (List.length_filter_le _ _) (by rw [List.length_take]; omega)
        refine ⟨rfl, _, rfl, ⟨_, rfl⟩, _, rfl, rfl, by show 1 ≤ 5592405; decide, ?_⟩
        rw [show Txt.lower (sg e) = ⟨#[lwc e]⟩ from low_sg ea]
        refine ⟨_, rfl, rfl, _, rfl, ?_⟩
        rw [str1_dec]
        refine ite2 (fun t => ⟨_, rfl, _, e1, by rw [List.length_map, List.length_map, sizeLine_eq]; omega, sm_over u1 na, ?_⟩) (fun t => ⟨u1, ?_⟩)
        · rw [upd_same, tk, List.filter_append, List.filter_cons, if_pos t]
          simp
        · rw [e1, tk, List.filter_append, List.filter_cons, if_neg t]
          simp
      · rintro G1 ⟨u1, e1⟩
        rw [List.take_length] at e1
        have fl : (X.filter fun s => decide (lwc s = c)).length ≤ 100 := Nat.le_trans (List.length_filter_le _ _) xn
        have fl2 := flatF_len X (ltrs'.take i)
        have fl3 : (ltrs'.take i).length ≤ 26 := by rw [List.length_take]; exact Nat.min_le_right _ _
        have fl4 : X.length * (ltrs'.take i).length ≤ 100 * 26 := Nat.mul_le_mul xn fl3
        refine ⟨_, _, (X.filter fun s => decide (lwc s = c)).map sg, rfl, rfl, .inl (SqL.of e1), ?_, ?_⟩
        · rw [sum_sgs, show (Str.ofString "").length = 0 by decide +kernel]
          omega
        · rw [join_sg]
          refine ⟨_, _, rfl, rfl, by rw [tx_len, tx_len, sizeLine_eq]; omega, some (.str ⟨#[c]⟩), y3, ?_, sm_trans s1 u1⟩
          rw [tx_app, byS_take X hc]
          rfl
    · rintro σ H1 ⟨y2, y3, rfl, s1⟩
      exact ⟨_, rfl, q H1 s1⟩
def spLImg : Sp := fun vs H Q _ => ∃ l t X, vs = [.str (tx l), .str (tx t), .str (tx X)] ∧ GoodW l ∧ t.length = l.length ∧ (∀ c ∈ t, isLt c) ∧ (∀ s ∈ X, s ∈ sds l) ∧ X.length ≤ 100 ∧ ∀ H', Same H H' → Q (.str (tx (byS (X.map (ov l t))))) H'
theorem upper_sg {c : Nat} (h : 97 ≤ c ∧ c ≤ 122) : Txt.upper (⟨#[c]⟩ : Str) = ⟨#[swp c]⟩ := by
  have e : Txt.upper (⟨#[c]⟩ : Str) = ⟨#[upc c]⟩ := upper_tx (l := [c]) (fun e he => by rw [List.mem_singleton.mp he]; omega)
  rw [e, upc_small h, swp_small h]
theorem ov_lt {l t : List Nat} (g : GoodW l) (hl : t.length = l.length) (ht : ∀ c ∈ t, isLt c) {s : Nat} (hs : s ∈ sds l) : isLt (ov l t s) := by
  obtain ⟨i, c, hc, e⟩ := (sds_at g).mp hs
  have hi : i < t.length := by rw [hl]; exact (List.getElem?_eq_some_iff.mp hc).1
  have e1 : t[i]? = some t[i] := List.getElem?_eq_getElem hi
  obtain ⟨o1, o2⟩ := ov_at g.sm g.nd hc e1
  have hx := ht _ (List.getElem_mem hi)
  rcases e with rfl | rfl
  · rw [o1]; exact hx
  · rw [o2]
    rcases hx with z | z
    · rw [swp_small z]; exact .inr (by omega)
    · rw [swp_great z]; exact .inl (by omega)
set_option maxHeartbeats 1000000 in
theorem ok_limg {f fL fO fB : Addr} {fd dL dO dB : FuncData} {k : Nat} (hz : mg "zip" = none) (F : Fun K "_law_image" "_law_image" sLImg f fd) (Lt : DF K mg "_law_letters" sLetters [] fL dL) (O : DF K mg "_law_other" sOth ["_law_side"] fO dO) (Bs : DF K mg "_law_by_shuts" sLByS ["_law_sides_here"] fB dB) :
    FnOk P w K mg base CX0 (k + 3) f fd ["_law_shuts", "_law_turn", "_law_sides_here"] spLImg := by
  have GO : FnOk P w K mg base CX0 (k + 1) fO dO ["_law_side"] spOth := ok_oth O.F
  have GB : FnOk P w K mg base CX0 (k + 2) fB dB ["_law_sides_here"] (spBySL K) := ok_bySL Bs.F Lt
  refine F.ok scLImg (fun vs H Q E h => ?_) (fun cdv A outer st H vs Q E hr h => ?_)
  · obtain ⟨l, t, X, rfl, _⟩ := h
    rfl
  · obtain ⟨l, t, X, rfl, g, hl, ha, hX, xn, q⟩ := h
    have nd := scLImg.nd
    have hl12 := g.hi
    have r1 : Room (k + 1) _ := hr.mono (by omega)
    refine ⟨_, pss_cons (ps_set (i := 3) nd rfl (.inr rfl) pe_dnewK)
      (pss_cons (ps_for PassesOwn.never rfl (pi_zipS (by rfl) hz (pa_cons (pv 0) (pa_cons (pv 1) pa_nil))) (pg_tup rfl (pgs_cons (pg_name (i := 4) nd rfl (Or.inl rfl)) (pgs_cons (pg_name (i := 5) nd rfl (Or.inl rfl)) pgs_nil)))
        (pss_cons (ps_dput (hu_of hr) (pv 3) (pv 4) (pv 5) rfl)
        (pss_one (ps_dput (hu_of hr) (pv 3) (pe_upper (pv 4)) (pe_call GO r1 rfl O.g O.F.kp O.b .nil pass0 (pa_cons (pv 5) pa_nil)) rfl))))
      (pss_one (ps_ret (pe_call GB hr rfl Bs.g Bs.F.kp Bs.b .nil pass0 (pa_cons (pe_lc (own := [("_law_side", 5)]) (g := gName 5) (tt := tYes) (te := tDGet (tVar 3) (tVar 5)) rfl nd (pi_str (pv 2)) (blkOk_by (N := nLImg) (sc := defScope sLImg) (by decide +kernel)) (fun _ _ _ _ _ => pg_name (i := 5) nd rfl (Or.inl rfl)) (fun _ _ _ _ _ => pts_nil)
        (fun _ _ _ _ _ => pe_dget (hu_of hr) (pv 3) (pv 5) (fun _ _ => rfl))) pa_nil))))), ?_⟩
    refine fun p np => ?_
    have l1 : (tx l).cps.size = l.length := tx_len _
    have l2 : (tx t).cps.size = t.length := tx_len _
    refine ⟨_, rfl, _, rfl, tx l, tx t, rfl, ?_⟩
    refine for_it (walk_zipS (n := l.length) (by rw [l1, l2]; omega)) (fun i σ H' => ∃ (y4 y5 : Option V), σ = [some (.str (tx l)), some (.str (tx t)), some (.str (tx X)), some (.ref p), y4, y5] ∧ Same H H' ∧ H' p = some (.dK (foK (kS (l.take i)) fun s => [ov l t s]))) ⟨_, _, rfl, same_upd np, upd_same⟩ (fun _ _ _ _ _ => trivial) ?_ ?_
    · rintro i v σ H1 H2 hi ⟨y4, y5, rfl, s1, e1⟩ ⟨T, s, u, rfl, nT, rfl, ⟨c, hc, rfl⟩, ⟨e, he, rfl⟩⟩
      have hc : l[i]? = some c := by
        rw [← Array.getElem?_toList, tx_list] at hc
        exact hc
      have he : t[i]? = some e := by
        rw [← Array.getElem?_toList, tx_list] at he
        exact he
      obtain ⟨o1, o2⟩ := ov_at g.sm g.nd hc he
      obtain ⟨n1, n2⟩ := kS_new g hc
      have cs := g.sm c (List.mem_of_getElem? hc)
      have ea := ha e (List.mem_of_getElem? he)
      have npT : p ≠ T := ne_of_none e1 nT
      have kl : (kS (l.take i)).length ≤ 24 := by rw [kS_len, List.length_take]; omega
      have s2 : Same H (upd H1 T (.tup [.str ⟨#[c]⟩, .str ⟨#[e]⟩])) := sm_upd s1 nT
      have e2 : (upd H1 T (.tup [.str ⟨#[c]⟩, .str ⟨#[e]⟩])) p = some (.dK (foK (kS (l.take i)) fun s => [ov l t s])) := by rw [upd_ne npT]; exact e1
      refine ⟨T, _, rfl, SqT.of upd_same, rfl, _, _, rfl, _, _, rfl, rfl, ?_⟩
      generalize upd H1 T (.tup [.str ⟨#[c]⟩, .str ⟨#[e]⟩]) = H3 at s2 e2 ⊢
      refine ⟨_, rfl, _, rfl, _, rfl, p, _, rfl, DPut.k (k := Sum.inr (sg c)) e2 (by unfold foK; rw [List.length_map, sizeLine_eq]; omega), ?_⟩
      have e3 : (upd H3 p (.dK (putK (foK (kS (l.take i)) fun s => [ov l t s]) (Sum.inr (sg c)) (.str ⟨#[e]⟩)))) p = some (.dK (foK (kS (l.take i) ++ [c]) fun s => [ov l t s])) := by
        rw [upd_same, putK_new _ (foK_no n1), ← o1]
        unfold foK
        rw [List.map_append]
        rfl
      have s3 : Same H (upd H3 p (.dK (putK (foK (kS (l.take i)) fun s => [ov l t s]) (Sum.inr (sg c)) (.str ⟨#[e]⟩)))) := sm_over s2 np
      generalize upd H3 p (.dK (putK (foK (kS (l.take i)) fun s => [ov l t s]) (Sum.inr (sg c)) (.str ⟨#[e]⟩))) = H4 at e3 s3 ⊢
      refine ⟨_, rfl, e, rfl, ea, _, rfl, _, rfl, ⟨_, rfl⟩, _, rfl, rfl, by show 1 ≤ 5592405; decide, ?_⟩
      rw [upper_sg cs]
      refine ⟨p, _, rfl, DPut.k (k := Sum.inr (sg (swp c))) e3 (by unfold foK; rw [List.length_map, List.length_append, sizeLine_eq]; simp; omega), ?_⟩
      refine ⟨_, _, rfl, sm_over s3 np, ?_⟩
      have n3 : swp c ∉ kS (l.take i) ++ [c] := fun z => by
        rcases List.mem_append.mp z with z | z
        · exact n2 z
        · have := List.mem_singleton.mp z
          rw [swp_small cs] at this
          omega
      rw [upd_same, putK_new _ (foK_no n3), ← o2, kS_snoc hc, show kS (l.take i) ++ [c, swp c] = (kS (l.take i) ++ [c]) ++ [swp c] by simp]
      unfold foK
      rw [List.map_append (l₁ := kS (l.take i) ++ [c])]
      rfl
    · rintro σ H1 ⟨y4, y5, rfl, s1, e1⟩
      rw [List.take_length] at e1
      have e1 : H1 p = some (.dK (ovK l t)) := e1
      refine ⟨_, rfl, tx X, rfl, fun Da na => ?_⟩
      have lz : (tx X).cps.size = X.length := tx_len _
      have wk := walk_str (z := tx X)
      rw [lz] at wk
      refine lc_it wk (fun i H' => Same H1 H' ∧ H' Da = some (.lst ((((X.take i).map (ov l t)).map sg).map V.str))) ⟨same_upd na, upd_same⟩ (fun _ _ _ _ => trivial) ?_ ?_
      · rintro i v G1 G2 hi ⟨u1, d1⟩ ⟨rfl, c, hc, rfl⟩
        have hc : X[i]? = some c := by
          rw [← Array.getElem?_toList, tx_list] at hc
          exact hc
        refine ⟨rfl, yes_i ⟨_, rfl, _, rfl, p, _, rfl, .inl ⟨_, Sum.inr (sg c), .inl (u1 _ _ e1), rfl, (ovK_val g (hX c (List.mem_of_getElem? hc))).symm⟩, _, d1, ?_, sm_over u1 na, ?_⟩⟩
        · rw [List.length_map, List.length_map, List.length_map, List.length_take, sizeLine_eq]
          omega
        · rw [upd_same, List.take_add_one, hc, List.map_append, List.map_append, List.map_append]
          rfl
      · rintro G1 ⟨u1, d1⟩
        rw [List.take_length] at d1
        refine ⟨Da, X.map (ov l t), rfl, SqL.of d1, fun c hc => ?_, by rw [List.length_map]; exact xn, fun G2 u2 => q G2 (sm_trans (sm_trans s1 u1) u2)⟩
        obtain ⟨s, hs, rfl⟩ := List.mem_map.mp hc
        exact (ov_lt g hl ha (hX s hs)).asc
end
end NC
namespace NC
open PySem PySem.Spec PyProof.Rows L2
def unS : V → Nat
  | .str s => s.cps.toList.headD 0
  | _ => 0
theorem perm_sgs {ys : List V} {L : List Nat} (h : ys.Perm ((L.map sg).map V.str)) : ∃ os : List Nat, os.Perm L ∧ ys = (os.map sg).map V.str := by
  refine ⟨ys.map unS, ?_, ?_⟩
  · have := h.map unS
    rw [List.map_map, List.map_map, show ((unS ∘ V.str) ∘ sg) = id from by funext k; rfl, List.map_id] at this
    exact this
  · rw [List.map_map, List.map_map]
    have : ∀ y ∈ ys, ((V.str ∘ sg) ∘ unS) y = y := fun y hy => by
      obtain ⟨z, hz, rfl⟩ := List.mem_map.mp (h.mem_iff.mp hy)
      obtain ⟨k, _, rfl⟩ := List.mem_map.mp hz
      rfl
    exact (List.map_id ys).symm.trans (List.map_congr_left fun y hy => (this y hy).symm)
def tUp (te : TE) : TE := tM0 (fun x xs H Q => ∃ a, x = .str a ∧ xs = [] ∧ a.length ≤ 5592405 ∧ Q (.str (Txt.upper a)) H) te
section
variable {P : Program} {w : World} {K : PySem.W.Frag} {mg : Str → Option Value} {base : Heap}
def spSomeT : Sp := fun vs H Q _ => ∃ d l, vs = [.ref d, .str (tx l)] ∧ Dr H d ∧ GoodW l ∧ ∀ H' t, SmD d H H' → Dr H' d → Trn l t → Q (.str (tx t)) H'
set_option maxHeartbeats 1000000 in
theorem ok_someT {f fD fM : Addr} {fd dD dM : FuncData} {k : Nat} (B : BM mg) (F : Fun K "_law_some_turn" "_law_some_turn" sLSome f fd) (D : DF K mg "_law_draw" sDraw ["_law_d", "_law_many"] fD dD) (Mx : DF K mg "_law_mixed" sLMix ["_law_d", "_law_some"] fM dM) :
    FnOk P w K mg base CX0 (k + 3) f fd ["_law_d", "_law_shuts"] spSomeT := by
  have GD : FnOk P w K mg base CX0 (k + 1) fD dD ["_law_d", "_law_many"] spDraw := ok_draw B D.F
  have GM : FnOk P w K mg base CX0 (k + 2) fM dM ["_law_d", "_law_some"] spMixed := ok_mixed B D Mx.F
  refine F.ok scLSome (fun vs H Q E h => ?_) (fun cdv A outer st H vs Q E hr h => ?_)
  · obtain ⟨d, l, rfl, _⟩ := h
    rfl
  · obtain ⟨d, l, rfl, hD, g, q⟩ := h
    have nd := scLSome.nd
    have hl12 := g.hi
    have r1 : Room (k + 1) _ := hr.mono (by omega)
    refine ⟨_, pss_one (ps_ret (pe_join pe_str (pe_lc (own := [("_law_side", 2)]) (g := gName 2) (tt := tYes) (te := tOp (rIxL K) (tLst (tCons (tVar 2) (tCons (tUp (tVar 2)) tNil))) (tCall spDraw [] E0 (tCons (tVar 0) (tCons (tC (.int 2)) tNil)))) rfl nd
      (pi_list (pe_call GM hr rfl Mx.g Mx.F.kp Mx.b .nil pass0 (pa_cons (pv 0) (pa_cons (pe_callTy (cr_listS rfl) (by rfl) B.list (by decide +kernel) (pa_cons (pv 1) pa_nil)) pa_nil)))) (blkOk_by (N := ["_law_d", "_law_shuts", "_law_side"]) (sc := defScope sLSome) (by decide +kernel)) (fun _ _ _ _ _ => pg_name (i := 2) nd rfl (Or.inl rfl)) (fun _ _ _ _ _ => pts_nil)
      (fun _ _ _ _ _ => pe_ix ix_list (pe_lst (pa_cons (pv 2) (pa_cons (pe_upper (pv 2)) pa_nil))) (pe_call GD r1 rfl D.g D.F.kp D.b .nil pass0 (pa_cons (pv 0) (pa_cons pe_int pa_nil))) (fun _ _ => rfl))))), ?_⟩
    refine ⟨⟨_, rfl⟩, _, rfl, _, rfl, _, rfl, by rw [tx_len, sizeLine_eq]; omega, fun p np => ?_⟩
    rw [sgs_tx]
    have s1 : Same H (upd H p (.lst ((l.map sg).map V.str))) := same_upd np
    refine ⟨d, p, _, rfl, hD.same s1, hD.ne np, upd_same, by rw [List.length_map, List.length_map]; omega, fun H1 pm ys0 u1 D1 npm epm pr => ?_⟩
    obtain ⟨os, po, rfl⟩ := perm_sgs pr
    have u01 : SmD d H H1 := (SmD.of s1).trans u1
    refine ⟨pm, rfl, ⟨_, SqL.of epm⟩, fun Da na => ?_⟩
    have npd : pm ≠ d := (hD.same s1).ne npm
    have nDd : Da ≠ d := D1.ne na
    have ol : os.length = l.length := po.length_eq
    have wk := walk_list (K := K) (a := pm) (xs := (os.map sg).map V.str)
    rw [List.length_map, List.length_map] at wk
    refine lc_it wk (fun i H' => SmD d H1 H' ∧ Dr H' d ∧ ∃ t : List Nat, H' Da = some (.lst ((t.map sg).map V.str)) ∧ t.map lwc = os.take i) ⟨SmD.of (same_upd na), D1.same (same_upd na), [], upd_same, rfl⟩ (fun i H' _ h => SqL.of (h.1.1 _ _ npd epm)) ?_ ?_
    · rintro i v G1 G2 hi ⟨v1, E1, t, et, ht⟩ ⟨rfl, hx⟩
      rw [List.getElem?_map, List.getElem?_map] at hx
      obtain ⟨z2, hz2, rfl⟩ := Option.map_eq_some_iff.mp hx
      obtain ⟨c, hc, rfl⟩ := Option.map_eq_some_iff.mp hz2
      have cs := g.sm c (po.mem_iff.mp (List.mem_of_getElem? hc))
      have tl : t.length = i := by
        have := congrArg List.length ht
        rw [List.length_map, List.length_take] at this
        omega
      refine ⟨rfl, yes_i ⟨_, rfl, _, rfl, ⟨_, rfl⟩, _, rfl, rfl, by show 1 ≤ 5592405; decide, ?_⟩⟩
      rw [show Txt.upper (sg c) = ⟨#[swp c]⟩ from upper_sg cs]
      refine ⟨by show 2 ≤ sizeLine; decide, fun T nT => ?_⟩
      have s3 : Same G2 (upd G2 T (.lst [.str (sg c), .str ⟨#[swp c]⟩])) := same_upd nT
      have nTd := E1.ne nT
      refine ⟨_, rfl, d, 2, rfl, E1.same s3, by decide, by decide, fun G3 how u3 E3 h0 h1 => ?_⟩
      obtain ⟨e, he, hat⟩ : ∃ e, lwc e = c ∧ atI [V.str (sg c), V.str ⟨#[swp c]⟩] how = some (.str (sg e)) := by
        have hv : how = 0 ∨ how = 1 := by omega
        rcases hv with z | z
        · exact ⟨c, lwc_small cs, by rw [z]; rfl⟩
        · exact ⟨swp c, by rw [lwc_swp (.inl cs), lwc_small cs], by rw [z]; rfl⟩
      have u13 : SmD d H1 G3 := (v1.trans (SmD.of s3)).trans u3
      have et3 := u3.1 _ _ nDd (s3 _ _ et)
      refine ⟨T, _, how, .str (sg e), rfl, rfl, SqL.of (u3.1 _ _ nTd upd_same), hat, _, et3, by rw [List.length_map, List.length_map, sizeLine_eq]; omega, ?_⟩
      obtain ⟨u5, E5⟩ := ds_over (o := .lst ((t.map sg).map V.str ++ [.str (sg e)])) D1 u13 E3 na
      refine ⟨u5, E5, t ++ [e], by rw [upd_same, List.map_append, List.map_append]; rfl, ?_⟩
      rw [List.map_append, ht, List.take_add_one, hc]
      show _ ++ [lwc e] = _
      rw [he]
      rfl
    · rintro G1 ⟨v1, E1, t, et, ht⟩
      rw [List.take_length] at ht
      have tl : t.length = l.length := by
        have := congrArg List.length ht
        rw [List.length_map] at this
        omega
      refine ⟨_, _, t.map sg, rfl, rfl, .inl (SqL.of et), ?_, ?_⟩
      · rw [sum_sgs, show (Str.ofString "").length = 0 by decide +kernel]
        omega
      · rw [join_sg]
        exact q _ t (u01.trans v1) E1 ⟨tl, by rw [ht]; exact po⟩
end
end NC
namespace NC
open PySem PySem.Spec PyProof.Rows L2
def rSortedA (K : PySem.W.Frag) : List V → Hp → VK → Prop := fun vs H Q => ∃ (a : Addr) (xs : List Str), vs = [V.ref a] ∧ (SqL K H a (xs.map V.str) ∨ SqT K H a (xs.map V.str)) ∧ xs.length < 64 ∧
  ∀ (ys : List Str) (p : Addr), ys.Perm xs → sortedS ys = true → H p = none → Q (.ref p) (upd H p (.lst (ys.map V.str)))
theorem cr_sortedA {X : Cx} : CallR X (.builtin "sorted") (rSortedA X.K) := by
  intro pins s σ H vs us Q I r h
  obtain ⟨a, xs, rfl, hs | hs, h64, q⟩ := h
  · exact cr_sortedS pins s σ H [.ref a] us Q I r ⟨a, xs, rfl, hs, h64, q⟩
  · obtain ⟨its, rv, ⟨o, e, c, n, d⟩, hz⟩ := I.tuple hs
    rw [Vals.ref1 r]
    have hl := rv.length
    rw [List.length_map] at hl
    refine srt_str I (.ref a) xs h64 (fun E Q' hQ => ?_) q
    refine PySem.wpAny_collect_seq a (.inr rfl) e c d (fun h' k => hQ _ its xs rfl rfl k rv.strs (List.Perm.refl _)) ?_
    rw [List.size_toArray, sizeLine_eq]
    omega
end NC
namespace NC
open PySem PySem.Spec PyProof.Rows L2
/-- a list or a tuple -/
def SqA (K : PySem.W.Frag) (H : Hp) (a : Addr) (xs : List V) : Prop := SqL K H a xs ∨ SqT K H a xs
theorem sm_a {K : PySem.W.Frag} {H H' : Hp} {a : Addr} {xs : List V} (s : Same H H') (h : SqA K H a xs) : SqA K H' a xs := h.imp (sm_l s) (sm_t s)
section
variable {P : Program} {w : World} {K : PySem.W.Frag} {mg : Str → Option Value} {base : Heap} {tw : Tok} {fOther fSides fByW fIsW fIsB fCW fCB fCS fSt fRe fAF fCF fCA : Addr} {dOther dSides dByW dIsW dIsB dCW dCB dCS dSt dRe dAF dCF dCA : FuncData}
    {CH iH CB iB CF iF CA iA : Addr} {eH eB eF eA : FuncData} {C fi fb : Addr} {di db : FuncData}
def spHinitA (K : PySem.W.Frag) (C CB CF CA : Addr) : Sp := fun vs H Q E => ∃ x dx l a bs, vs = [.ref x, .str (tx l), .ref a] ∧ H x = some (.ins C dx []) ∧ GoodW l ∧ BarsOk bs ∧ bs.length < 64 ∧ SqA K H a ((bs.map tx).map V.str) ∧
  match firstBad l bs with
  | some i => ∀ H' d, Same H H' → H d = none → H' d = some (.xd [("at", .int (i : Nat)), ("word", .str "badbar")]) → E (.ref CB) (some d) H'
  | none => ∀ fo, FoOk l (adjOf bs) (sds l) fo → match vdOf (sds l) (fxP fo) (alP fo) with
    | .fixed s => ∀ H' d, Same H H' → H d = none → H' d = some (.xd [("side", .str (sg s)), ("word", .str "fixed")]) → E (.ref CF) (some d) H'
    | .alike s m => ∀ H' d, Same H H' → H d = none → H' d = some (.xd [("other", .str (sg m)), ("one", .str (sg s)), ("word", .str "alike")]) → E (.ref CA) (some d) H'
    | .ok => ∀ H' sb D ys, SmX x H H' → H sb = none → H D = none → HallAt C H' x dx sb D l ys fo → ys.Perm (bs.map tx) → sortedS ys = true → Q .non H'
set_option maxHeartbeats 1000000 in
theorem ok_HinitA {k : Nat} (Z : HC K mg C fi fb di db) (T : Txt8 K mg tw fOther fSides fByW fIsW fIsB fCW fCB fCS fSt fRe fAF fCF fCA dOther dSides dByW dIsW dIsB dCW dCB dCS dSt dRe dAF dCF dCA CH iH CB iB CF iF CA iA eH eB eF eA) :
    FnOk P w K mg base (L2.CX P w) (k + 5) fi di ["self", "walls", "bars"] (spHinitA K C CB CF CA) := by
  have GW := ok_chkWalls (P := P) (w := w) (base := base) (k := k) T.B T.mW T.cw.F T.W
  have GB : FnOk P w K mg base (L2.CX P w) (k + 4) fCB dCB ["walls", "bars"] (spChkBars K CB) := ok_chkBars T.B T.cb.F T.I T.S T.he T.xb
  have GA : FnOk P w K mg base CX0 (k + 3) fAF dAF ["walls", "bars"] (spAllF K) := ok_allF T.B T.af.F T.st T.re T.Y T.S T.O
  have GF : FnOk P w K mg base (L2.CX P w) (k + 4) fCF dCF ["forced_by"] (spChkFix CF) := ok_chkFix T.B T.cf.F T.O T.he T.xf
  have GL : FnOk P w K mg base (L2.CX P w) (k + 4) fCA dCA ["forced_by"] (spChkAl CA) := ok_chkAl T.B T.ca.F T.he T.xa
  obtain ⟨dvs, ZF⟩ := Z.F
  refine ZF.ok scHinit (fun vs H Q E h => ?_) (fun cdv A outer s H vs Q E hr h => ?_)
  · obtain ⟨x, dx, l, a, bs, rfl, _⟩ := h
    rfl
  · obtain ⟨x, dx, l, a, bs, rfl, hx, g, hbs, hbl, hS, q⟩ := h
    have r2 : Room (k + 2) _ := hr.mono (by omega)
    have r3 : Room (k + 3) _ := hr.mono (by omega)
    refine ⟨_, pss_cons (ps_expr (pe_call GW r2 rfl T.cw.g T.cw.F.kp T.cw.b .nil pass0 (pa_cons (pv 1) pa_nil)))
      (pss_cons (ps_expr (pe_call (E := E) GB hr rfl T.cb.g T.cb.F.kp T.cb.b .nil (passes_call (takes_of rfl rfl rfl rfl) (fun _ _ _ _ h => h)) (pa_cons (pv 1) (pa_cons (pv 2) pa_nil))))
      (pss_cons (ps_set (i := 3) scHinit.nd rfl (.inl rfl) (pe_call GA r3 rfl T.af.g T.af.F.kp T.af.b .nil pass0 (pa_cons (pv 1) (pa_cons (pv 2) pa_nil))))
      (pss_cons (ps_expr (pe_call (E := E) GF hr rfl T.cf.g T.cf.F.kp T.cf.b .nil (passes_call (takes_of rfl rfl rfl rfl) (fun _ _ _ _ h => h)) (pa_cons (pv 3) pa_nil)))
      (pss_cons (ps_expr (pe_call (E := E) GL hr rfl T.ca.g T.ca.F.kp T.ca.b .nil (passes_call (takes_of rfl rfl rfl rfl) (fun _ _ _ _ h => h)) (pa_cons (pv 3) pa_nil)))
      (pss_cons (ps_fld (pv 0) (pv 1) rfl)
      (pss_cons (ps_fld (pv 0) (pe_callB cr_sortedA (by rfl) T.B.sorted (by decide +kernel) (pa_cons (pv 2) pa_nil)) rfl)
      (pss_one (ps_fld (pv 0) (pv 3) rfl)))))))), ?_⟩
    refine ⟨_, rfl, l, rfl, g, fun H1 s1 => ⟨_, rfl, _, rfl, l, a, bs, rfl, g, hbs, by omega, sm_a s1 hS, ?_⟩⟩
    cases fbd : firstBad l bs with
    | some i =>
      rw [fbd] at q
      intro H' d sm nd e
      exact q H' d (sm_trans s1 sm) (L2.Same.free s1 nd) e
    | none =>
      rw [fbd] at q
      have hbar := first_none fbd
      intro H2 s2
      have s12 := sm_trans s1 s2
      refine ⟨_, rfl, _, rfl, l, a, bs, rfl, g, hbar, by omega, sm_a s12 hS, fun H3 D fo s3 nD eD ok => ?_⟩
      have s13 := sm_trans s12 s3
      have q := q fo ok
      unfold vdOf at q
      refine ⟨_, rfl, l, D, adjOf bs, fo, rfl, g, eD, ok, ?_⟩
      cases h1 : (sds l).find? (fxP fo) with
      | some s0 =>
        rw [h1] at q
        exact fun H' d sm nd e => q H' d (sm_trans s13 sm) (L2.Same.free s13 nd) e
      | none =>
      rw [h1] at q
      intro H4 s4
      have s14 := sm_trans s13 s4
      refine ⟨_, rfl, l, D, adjOf bs, fo, rfl, g, s4 _ _ eD, ok, ?_⟩
      cases h2 : (sds l).findSome? fun s => ((sds l).find? (alP fo s)).map fun t => (s, t) with
      | some v =>
        rw [h2] at q
        exact fun H' d sm nd e => q H' d (sm_trans s14 sm) (L2.Same.free s14 nd) e
      | none =>
      rw [h2] at q
      intro H5 s5
      have s15 := sm_trans s14 s5
      have nxa : ∀ o, Same H H5 → SqA K (upd H5 x o) a ((bs.map tx).map V.str) := fun o sm => by
        have hS5 := sm_a sm hS
        have ex := sm _ _ hx
        rcases hS5 with ((z | ⟨ob, z⟩) | z) | ((z | ⟨ob, z⟩) | z)
        · exact .inl (.inl (.inl (by rw [upd_ne (ne_of z ex fun e => by cases e)]; exact z)))
        · exact .inl (.inl (.inr ⟨ob, by rw [upd_ne (ne_of z ex fun e => by cases e)]; exact z⟩))
        · exact .inl (.inr z)
        · exact .inr (.inl (.inl (by rw [upd_ne (ne_of z ex fun e => by cases e)]; exact z)))
        · exact .inr (.inl (.inr ⟨ob, by rw [upd_ne (ne_of z ex fun e => by cases e)]; exact z⟩))
        · exact .inr (.inr z)
      refine ⟨_, rfl, _, rfl, x, C, dx, _, rfl, s15 _ _ hx, Z.cl, Z.n1, by decide, ?_⟩
      refine ⟨_, rfl, a, bs.map tx, rfl, nxa _ s15, by rw [List.length_map]; exact hbl, fun ys p hp hs np => ?_⟩
      have npx : x ≠ p := ne_of_none upd_same np
      refine ⟨_, rfl, x, C, dx, _, rfl, by rw [upd_ne npx, upd_same], Z.cl, Z.n2, by show 1 < 1000; decide, ?_⟩
      refine ⟨_, rfl, _, rfl, x, C, dx, _, rfl, upd_same, Z.cl, Z.n3, by show 2 < 1000; decide, ?_⟩
      have np5 : H5 p = none := by
        rw [upd_ne (Ne.symm npx)] at np
        exact np
      have eD5 : H5 D = some (.dK (foK (sds l) fo)) := s5 _ _ (s4 _ _ eD)
      have nDx : D ≠ x := ne_of eD5 (s15 _ _ hx) fun z => by cases z
      have nDp : D ≠ p := ne_of_none eD5 np5
      refine q _ p D ys (fun b o hb e => ?_) (L2.Same.free s15 np5) (L2.Same.free s12 nD) ⟨upd_same, ?_, by rw [upd_ne nDx, upd_ne nDx, upd_ne nDp, upd_ne nDx]; exact eD5⟩ hp hs
      · have e5 := s15 _ _ e
        rw [upd_ne hb, upd_ne hb, upd_ne (ne_of_none e5 np5), upd_ne hb]
        exact e5
      · rw [upd_ne (Ne.symm npx), upd_ne (Ne.symm npx), upd_same]
end
end NC
namespace NC
open PySem PySem.Spec PyProof.Rows L2
abbrev sKeeps : Stmt := topS 41
abbrev sIsTurn : Stmt := topS 42
theorem scKeeps : FnScope ["hall", "into", "side", "met"] ["hall", "into"] (defScope sKeeps) := ⟨rfl, rfl, rfl, by decide +kernel, rfl, by decide +kernel, by decide +kernel⟩
theorem scIsTurn : FnScope ["hall", "turn", "walls"] ["hall", "turn"] (defScope sIsTurn) := ⟨rfl, rfl, rfl, by decide +kernel, rfl, by decide +kernel, by decide +kernel⟩
theorem unlock_same {H H' : Hp} {d : Addr} {u v : HO} (h : H d = some u) (s : Same (upd H d v) H') : Same H (upd H' d u) := fun b o hb => by
  by_cases e : b = d
  · rw [e, upd_same, ← h, ← e]; exact hb
  · rw [upd_ne e]
    exact s b o (by rw [upd_ne e]; exact hb)
section
variable {P : Program} {w : World} {K : PySem.W.Frag} {mg : Str → Option Value} {base : Heap} {C fi fb fw ff : Addr} {di db dw df : FuncData}
def spKeeps (C : Addr) : Sp := fun vs H Q _ => ∃ x dx sb D l ys fo bs J t, vs = [.ref x, .ref J] ∧ HallF C H x dx sb D l ys fo bs ∧ Trn l t ∧ J ≠ D ∧ H J = some (.dK (ovK l t)) ∧ ∀ H' b, Same H H' → (b = true ↔ ∀ s ∈ sds l, byWT l ((fo s).map (ov l t)) = fo (ov l t s)) → Q (.bl b) H'
set_option maxHeartbeats 1000000 in
theorem ok_keeps {f fC fS fO fBy fSo : Addr} {fd dC dS dO dBy dSo : FuncData} {k : Nat} (B : BM mg) (Z : HC K mg C fi fb di db) (Y : HP K C fw ff dw df) (Cs : DF K mg "check_side" sChkSide ["walls", "side"] fC dC) (S : DF K mg "sides_of" sSides ["walls"] fS dS) (O : DF K mg "other" sOther ["side"] fO dO) (By : DF K mg "by_walls" sByWalls ["walls", "sides"] fBy dBy)
    (So : DF K mg "sides_over" sSidesO ["into", "sides"] fSo dSo) (F : Fun K "keeps_forcing" "keeps_forcing" sKeeps f fd) : FnOk P w K mg base CX0 (k + 4) f fd ["hall", "into"] (spKeeps C) := by
  have GF : FnOk P w K mg base CX0 (k + 3) ff df ["self", "side"] (spHforced C) := ok_Hforced B Z Y Cs S
  have GW : FnOk P w K mg base CX0 (k + 1) fw dw ["self"] (spHwalls C) := ok_Hwalls Z Y
  have GB : FnOk P w K mg base CX0 (k + 2) fBy dBy ["walls", "sides"] spByWT := ok_byWT By.F O
  have GS : FnOk P w K mg base CX0 (k + 1) fSo dSo ["into", "sides"] spSidesO := ok_sidesO So.F
  refine F.ok scKeeps (fun vs H Q E h => ?_) (fun cdv A outer st H vs Q E hr h => ?_)
  · obtain ⟨x, dx, sb, D, l, ys, fo, bs, J, t, rfl, _⟩ := h
    rfl
  · obtain ⟨x, dx, sb, D, l, ys, fo, bs, J, t, rfl, hF, T, nJD, eJ, q⟩ := h
    have nd := scKeeps.nd
    have g := hF.G.g
    have hA := hF.G.hA
    have r1 : Room (k + 1) _ := hr.mono (by omega)
    have r2 : Room (k + 2) _ := hr.mono (by omega)
    have hl12 := g.hi
    refine ⟨_, pss_cons (ps_lock (ps_for PassesOwn.never rfl (pi_keys (pv 1)) (pg_name (i := 2) nd rfl (.inl rfl))
        (pss_cons (ps_set (i := 3) nd rfl (.inl rfl) (pe_call GB r2 rfl By.g By.F.kp By.b .nil pass0 (pa_cons (pe_meth0 (pv 0) Z.cl Y.mw GW r1 Y.bw .nil pass0) (pa_cons (pe_call GS r1 rfl So.g So.F.kp So.b .nil pass0 (pa_cons (pv 1) (pa_cons (pe_meth (pv 0) Z.cl Y.mf GF hr Y.bf .nil pass0 (pa_cons (pv 2) pa_nil)) pa_nil))) pa_nil))))
        (pss_one (ps_if (pt_cmpR op_ne (pv 3) (pe_meth (pv 0) Z.cl Y.mf GF hr Y.bf .nil pass0 (pa_cons (pe_dget (hu_of hr) (pv 1) (pv 2) (fun _ _ => rfl)) pa_nil)) (nomark _)) (pss_one (ps_ret pe_bl)) pss_nil)))))
      (pss_one (ps_ret pe_bl)), ?_⟩
    refine ⟨J, .dK (ovK l t), eJ, True.intro, fun od => ?_⟩
    have nxJ : x ≠ J := ne_of hA.x eJ (fun z => by cases z)
    have nsJ : sb ≠ J := ne_of hA.sb eJ (fun z => by cases z)
    have hAl : HallAt C (upd H J (.frz od (.dK (ovK l t)))) x dx sb D l ys fo := ⟨by rw [upd_ne nxJ]; exact hA.x, by rw [upd_ne nsJ]; exact hA.sb, by rw [upd_ne (Ne.symm nJD)]; exact hA.D⟩
    have eF : (upd H J (.frz od (.dK (ovK l t)))) J = some (.frz od (.dK (ovK l t))) := upd_same
    have back : ∀ {H'}, Same (upd H J (.frz od (.dK (ovK l t)))) H' → Same H (upd H' J (.dK (ovK l t))) := fun s => unlock_same eJ s
    generalize upd H J (.frz od (.dK (ovK l t))) = H1 at hAl eF back ⊢
    have wk := walk_keys (d := J) (o := od) (kvs := ovK l t)
    have ln : (ovK l t).length = (kS l).length := by unfold ovK foK; rw [List.length_map]
    rw [ln] at wk
    refine ⟨_, rfl, J, od, rfl, .inl ⟨_, eF, ?_⟩⟩
    refine for_it wk (fun i σ H' => ∃ (y2 y3 : Option V), σ = [some (.ref x), some (.ref J), y2, y3] ∧ Same H1 H' ∧ ∀ s ∈ (kS l).take i, byWT l ((fo s).map (ov l t)) = fo (ov l t s)) ⟨_, _, rfl, L2.Same.refl _, by simp⟩ (fun i σ H' _ h => by obtain ⟨_, _, _, h, _⟩ := h; exact h _ _ eF) ?_ ?_
    · rintro i v σ H2 H3 hi ⟨y2, y3, rfl, s2, al⟩ ⟨rfl, kk, vv, hk, rfl⟩
      unfold ovK foK at hk
      rw [List.getElem?_map] at hk
      obtain ⟨s, hs, ey⟩ := Option.map_eq_some_iff.mp hk
      cases ey
      have hsd : s ∈ sds l := (kS_mem g).mp (List.mem_of_getElem? hs)
      have hA2 := hAl.same s2
      refine ⟨_, rfl, x, dx, _, rfl, hA2.x, rfl, x, dx, sb, D, l, ys, fo, rfl, hA2, ?_⟩
      refine ⟨_, rfl, _, rfl, x, dx, _, rfl, hA2.x, rfl, _, rfl, x, dx, sb, D, l, ys, fo, s, rfl, hA2, g, hsd, fun H4 s4 => ?_⟩
      have eF4 := s4 _ _ (s2 _ _ eF)
      refine ⟨J, ovK l t, fo s, ov l t, rfl, .inr ⟨od, eF4⟩, fun u hu => ovK_val g (Frc.mem g hF.G.bar hsd ((hF.hf s hsd u).mp hu)), Nat.le_trans (hF.fl s hsd) (by decide), fun H5 s5 => ?_⟩
      refine ⟨l, (fo s).map (ov l t), rfl, g, fun H6 s6 => ?_⟩
      have s16 := sm_trans (sm_trans (sm_trans s2 s4) s5) s6
      have hA6 := hAl.same s16
      have hos := ov_sd g T hsd
      refine ⟨_, rfl, _, rfl, x, dx, _, rfl, hA6.x, rfl, _, rfl, _, rfl, J, _, rfl, .inl ⟨_, Sum.inr (sg s), .inr ⟨od, s16 _ _ eF⟩, rfl, (ovK_val g hsd).symm⟩, x, dx, sb, D, l, ys, fo, ov l t s, rfl, hA6, g, hos, fun H7 s7 => ?_⟩
      have s17 := sm_trans s16 s7
      refine ⟨rfl, _, rfl, ?_⟩
      refine ite2 (fun e => ?_) (fun e => ?_)
      · have ne : byWT l ((fo s).map (ov l t)) ≠ fo (ov l t s) := fun z => by
          rw [z] at e
          simp at e
        exact ⟨s17 _ _ eF, q _ false (back s17) ⟨nofun, fun z => absurd (z s hsd) ne⟩⟩
      · have eq : byWT l ((fo s).map (ov l t)) = fo (ov l t s) := by
          simp only [Bool.not_eq_true, Bool.not_eq_false', decide_eq_true_eq] at e
          exact tx_inj (V.str.inj e)
        refine ⟨_, _, rfl, s17, fun u hu => ?_⟩
        rw [List.take_add_one, hs] at hu
        rcases List.mem_append.mp hu with z | z
        · exact al u z
        · have : u = s := by simpa using z
          rw [this]
          exact eq
    · rintro σ H2 ⟨y2, y3, rfl, s2, al⟩
      rw [List.take_length] at al
      exact ⟨s2 _ _ eF, q _ true (back s2) ⟨fun _ s hs => al s ((kS_mem g).mpr hs), fun _ => rfl⟩⟩
/-- a hall whose forced sides are told wall by wall -/
structure HallN (C : Addr) (H : Hp) (x dx sb D : Addr) (l : List Nat) (ys : List Str) (fo : Nat → List Nat) (bs : List (List Nat)) : Prop where
  F : HallF C H x dx sb D l ys fo bs
  nf : ∀ s ∈ sds l, fo s = byWT l (fo s)
theorem HallN.same {H H' : Hp} {x dx sb D : Addr} {l : List Nat} {ys : List Str} {fo : Nat → List Nat} {bs : List (List Nat)} (h : HallN C H x dx sb D l ys fo bs) (s : Same H H') : HallN C H' x dx sb D l ys fo bs := ⟨h.F.same s, h.nf⟩
def spIsTurn (C : Addr) : Sp := fun vs H Q _ => ∃ x dx sb D l ys fo bs t, vs = [.ref x, .str (tx t)] ∧ HallN C H x dx sb D l ys fo bs ∧ (∀ c ∈ t, c < 128) ∧ t.length ≤ 60 ∧ ∀ H' b, Same H H' → (b = true ↔ TurnOk l bs t) → Q (.bl b) H'
/-- sorted letters that are the walls are a row of them -/
theorem sorted_perm {l u : List Nat} (g : GoodW l) {ys : List Str} (p : ys.Perm (u.map sg)) (so : sortedS ys = true) : ys = l.map sg ↔ u.Perm l := by
  constructor
  · intro e
    rw [e] at p
    have := p.map fun s : Str => s.cps.toList.headD 0
    rw [List.map_map, List.map_map] at this
    have id' : ∀ L : List Nat, L.map ((fun s : Str => s.cps.toList.headD 0) ∘ sg) = L := fun L => by
      conv => rhs; rw [← List.map_id L]
      rfl
    rw [id', id'] at this
    exact this.symm
  · intro e
    exact sortedS_eq so (p.trans (e.map sg)) g.pw
set_option maxHeartbeats 1000000 in
theorem ok_isTurn {f fC fS fO fBy fSo fKe fGo : Addr} {fd dC dS dO dBy dSo dKe dGo : FuncData} {k : Nat} (B : BM mg) (hz : mg "zip" = none) (Z : HC K mg C fi fb di db) (Y : HP K C fw ff dw df) (Cs : DF K mg "check_side" sChkSide ["walls", "side"] fC dC) (S : DF K mg "sides_of" sSides ["walls"] fS dS) (O : DF K mg "other" sOther ["side"] fO dO) (By : DF K mg "by_walls" sByWalls ["walls", "sides"] fBy dBy)
    (So : DF K mg "sides_over" sSidesO ["into", "sides"] fSo dSo) (Ke : DF K mg "keeps_forcing" sKeeps ["hall", "into"] fKe dKe) (Go : DF K mg "goes_over" sGoesO ["walls", "turn"] fGo dGo) (F : Fun K "is_turn" "is_turn" sIsTurn f fd) : FnOk P w K mg base CX0 (k + 5) f fd ["hall", "turn"] (spIsTurn C) := by
  have GK : FnOk P w K mg base CX0 (k + 4) fKe dKe ["hall", "into"] (spKeeps C) := ok_keeps B Z Y Cs S O By So Ke.F
  have GW : FnOk P w K mg base CX0 (k + 1) fw dw ["self"] (spHwalls C) := ok_Hwalls Z Y
  have GG : FnOk P w K mg base CX0 (k + 2) fGo dGo ["walls", "turn"] spGoesO := ok_goesO hz O Go.F
  refine F.ok scIsTurn (fun vs H Q E h => ?_) (fun cdv A outer st H vs Q E hr h => ?_)
  · obtain ⟨x, dx, sb, D, l, ys, fo, bs, t, rfl, _⟩ := h
    rfl
  · obtain ⟨x, dx, sb, D, l, ys, fo, bs, t, rfl, hN, ha, hn, q⟩ := h
    have nd := scIsTurn.nd
    have hF := hN.F
    have g := hF.G.g
    have hA := hF.G.hA
    have r1 : Room (k + 1) _ := hr.mono (by omega)
    have r2 : Room (k + 2) _ := hr.mono (by omega)
    have hl12 := g.hi
    have la : ∀ c ∈ l, c < 128 := g.asc
    refine ⟨_, pss_cons (ps_set (i := 2) nd rfl (.inl rfl) (pe_meth0 (pv 0) Z.cl Y.mw GW r1 Y.bw .nil pass0))
      (pss_cons (ps_if (PW.pt (pw_or (pt_cmpR op_ne (pe_callB call_len_str (by rfl) B.len PySem.boot_len (pa_cons (pv 1) pa_nil)) (pe_callB call_len_str (by rfl) B.len PySem.boot_len (pa_cons (pv 2) pa_nil)) (nomark _))
          (pw_or1 (pt_cmpR (op_neD hr.units) (pe_callB (cr_sortedT rfl) (by rfl) B.sorted (by decide +kernel) (pa_cons (pe_lower (pv 1)) pa_nil)) (pe_callTy (cr_listS rfl) (by rfl) B.list (by decide +kernel) (pa_cons (pv 2) pa_nil)) (nomark _)))))
        (pss_one (ps_ret pe_bl)) pss_nil)
      (pss_one (ps_ret (pe_call GK hr rfl Ke.g Ke.F.kp Ke.b .nil pass0 (pa_cons (pv 0) (pa_cons (pe_call GG r2 rfl Go.g Go.F.kp Go.b .nil pass0 (pa_cons (pv 2) (pa_cons (pv 1) pa_nil))) pa_nil)))))), ?_⟩
    refine ⟨_, rfl, x, dx, _, rfl, hA.x, rfl, x, dx, sb, D, l, ys, fo, rfl, hA, ?_⟩
    have ts : (tx t).length ≤ sizeLine := by rw [tx_len, sizeLine_eq]; omega
    have ls : (tx l).length ≤ sizeLine := by rw [tx_len, sizeLine_eq]; omega
    refine ⟨_, rfl, _, rfl, ts, _, rfl, _, rfl, ls, rfl, _, rfl, ?_⟩
    refine ite2 (fun e => ?_) (fun e => ?_)
    · have ne : t.length ≠ l.length := fun z => by
        rw [tx_len, tx_len, z] at e
        simp at e
      exact iteT (q H false (L2.Same.refl _) ⟨nofun, fun z => absurd z.1.len ne⟩)
    · have el : t.length = l.length := by
        rw [tx_len, tx_len] at e
        simp only [Bool.not_eq_true, Bool.not_eq_false', decide_eq_true_eq] at e
        have := V.int.inj e
        omega
      refine ⟨_, rfl, ⟨_, rfl⟩, tx t, rfl, rfl, by rw [tx_len]; omega, ?_⟩
      rw [lower_tx ha]
      refine ⟨_, rfl, by rw [tx_len, List.length_map]; omega, fun zs p pm so np => ?_⟩
      rw [sgs_tx] at pm
      refine ⟨_, rfl, _, rfl, ls, fun p2 np2 => ?_⟩
      rw [sgs_tx]
      have s1 : Same H (upd H p (.lst (zs.map V.str))) := same_upd np
      have s2 : Same H (upd (upd H p (.lst (zs.map V.str))) p2 (.lst ((l.map sg).map V.str))) := sm_upd s1 np2
      have e2 : (upd (upd H p (.lst (zs.map V.str))) p2 (.lst ((l.map sg).map V.str))) p = some (.lst (zs.map V.str)) := by rw [upd_ne (ne_of_none upd_same np2), upd_same]
      have oks : ∀ y ∈ zs, okS y := fun y hy => by
        obtain ⟨c, hc, rfl⟩ := List.mem_map.mp (pm.mem_iff.mp hy)
        obtain ⟨d, hd, rfl⟩ := List.mem_map.mp hc
        exact okS_sg (by have := ha d hd; unfold lwc; split <;> omega)
      have okl : ∀ y ∈ l.map sg, okS y := fun y hy => by
        obtain ⟨c, hc, rfl⟩ := List.mem_map.mp hy
        exact okS_sg (la c hc)
      refine ⟨_, _, .lst (SqL.of e2) (dpAll_strs zs), .lst (SqL.of upd_same) (dpAll_strs (l.map sg)), shaped_strs oks, shaped_strs okl, _, rfl, ?_⟩
      have ee : PyData.eqv (.list (zs.map .str)) (.list ((l.map sg).map .str)) = decide (zs = l.map sg) := eqvAll_strs _ _
      rw [ee]
      have sp := sorted_perm g pm so
      refine ite2 (fun e3 => ?_) (fun e3 => ?_)
      · refine q _ false s2 ⟨nofun, fun z => ?_⟩
        rw [decide_eq_true (sp.mpr z.1.pm)] at e3
        cases e3
      · have T : Trn l t := ⟨el, sp.mp (by simpa using e3)⟩
        generalize upd (upd H p (.lst (zs.map V.str))) p2 (.lst ((l.map sg).map V.str)) = H2 at s2 ⊢
        refine ⟨_, rfl, _, rfl, _, rfl, l, t, rfl, g, el, ha, fun H3 J s3 nJ eJ => ?_⟩
        have s03 := sm_trans s2 s3
        have hF3 := hF.same s03
        have nJD : J ≠ D := Ne.symm (ne_of_none (s2 _ _ hA.D) nJ)
        refine ⟨x, dx, sb, D, l, ys, fo, bs, J, t, rfl, hF3, T, nJD, eJ, fun H4 b s4 hb => ?_⟩
        refine q H4 b (sm_trans s03 s4) (hb.trans ⟨fun kf => ⟨T, fun r hr => keep_rooms g hF.G.bar hF.hf hF.G.ok T kf hr⟩, fun z s hs => keep_forcing g hF.G.bar hF.hf hF.G.ok hN.nf T z.2 hs⟩)
end
end NC
namespace NC
open PySem PySem.Spec PyProof.Rows L2
abbrev sChkT : Stmt := topS 43
abbrev sTurned : Stmt := topS 44
abbrev sOver : Stmt := topS 45
abbrev sBehind : Stmt := topS 46
theorem scChkT : FnScope ["hall", "turn"] ["hall", "turn"] (defScope sChkT) := ⟨rfl, rfl, rfl, by decide +kernel, rfl, by decide +kernel, by decide +kernel⟩
theorem scTurned : FnScope ["hall", "turn", "room", "into"] ["hall", "turn", "room"] (defScope sTurned) := ⟨rfl, rfl, rfl, by decide +kernel, rfl, by decide +kernel, by decide +kernel⟩
theorem scOver : FnScope ["hall", "turn", "part", "into"] ["hall", "turn", "part"] (defScope sOver) := ⟨rfl, rfl, rfl, by decide +kernel, rfl, by decide +kernel, by decide +kernel⟩
theorem scBehind : FnScope ["hall", "one", "two"] ["hall", "one", "two"] (defScope sBehind) := ⟨rfl, rfl, rfl, by decide +kernel, rfl, by decide +kernel, by decide +kernel⟩
/-- what the functions of turns ask for in the text -/
structure TT_ (K : PySem.W.Frag) (mg : Str → Option Value) (fGo fSo fKe fIs fCt : Addr) (dGo dSo dKe dIs dCt : FuncData) : Prop where
  go : DF K mg "goes_over" sGoesO ["walls", "turn"] fGo dGo
  so : DF K mg "sides_over" sSidesO ["into", "sides"] fSo dSo
  ke : DF K mg "keeps_forcing" sKeeps ["hall", "into"] fKe dKe
  is_ : DF K mg "is_turn" sIsTurn ["hall", "turn"] fIs dIs
  ct : DF K mg "checked_turn" sChkT ["hall", "turn"] fCt dCt
  mz : mg "zip" = none
section
variable {P : Program} {w : World} {K : PySem.W.Frag} {mg : Str → Option Value} {base : Heap} {C fi fb fm fr fg fw ff : Addr} {di db dm dr dg dw df : FuncData} {fGo fSo fKe fIs fCt : Addr} {dGo dSo dKe dIs dCt : FuncData} {fC fS fO fBy : Addr} {dC dS dO dBy : FuncData}
def spChkT (C : Addr) : Sp := fun vs H Q _ => ∃ x dx sb D l ys fo bs t, vs = [.ref x, .str (tx t)] ∧ HallN C H x dx sb D l ys fo bs ∧ TurnOk l bs t ∧ ∀ H' J, Same H H' → H J = none → H' J = some (.dK (ovK l t)) → Q (.ref J) H'
theorem ok_chkT {f : Addr} {fd : FuncData} {k : Nat} (B : BM mg) (Z : HC K mg C fi fb di db) (Y : HP K C fw ff dw df) (Cs : DF K mg "check_side" sChkSide ["walls", "side"] fC dC) (S : DF K mg "sides_of" sSides ["walls"] fS dS) (O : DF K mg "other" sOther ["side"] fO dO) (By : DF K mg "by_walls" sByWalls ["walls", "sides"] fBy dBy) (U : TT_ K mg fGo fSo fKe fIs fCt dGo dSo dKe dIs dCt)
    (F : Fun K "checked_turn" "checked_turn" sChkT f fd) : FnOk P w K mg base CX0 (k + 6) f fd ["hall", "turn"] (spChkT C) := by
  have GI : FnOk P w K mg base CX0 (k + 5) fIs dIs ["hall", "turn"] (spIsTurn C) := ok_isTurn B U.mz Z Y Cs S O By U.so U.ke U.go U.is_.F
  have GW : FnOk P w K mg base CX0 (k + 1) fw dw ["self"] (spHwalls C) := ok_Hwalls Z Y
  have GG : FnOk P w K mg base CX0 (k + 2) fGo dGo ["walls", "turn"] spGoesO := ok_goesO U.mz O U.go.F
  refine F.ok scChkT (fun vs H Q E h => ?_) (fun cdv A outer st H vs Q E hr h => ?_)
  · obtain ⟨x, dx, sb, D, l, ys, fo, bs, t, rfl, _⟩ := h
    rfl
  · obtain ⟨x, dx, sb, D, l, ys, fo, bs, t, rfl, hN, tok, q⟩ := h
    have nd := scChkT.nd
    have g := hN.F.G.g
    have r1 : Room (k + 1) _ := hr.mono (by omega)
    have r2 : Room (k + 2) _ := hr.mono (by omega)
    have ta : ∀ c ∈ t, c < 128 := fun c hc => (sds_lt g (trn_sd g tok.1 hc)).asc
    have tl : t.length ≤ 60 := by rw [tok.1.len]; have := g.hi; omega
    refine ⟨_, pss_cons (ps_if (pt_not (pt_val (pe_call GI hr rfl U.is_.g U.is_.F.kp U.is_.b .nil pass0 (pa_cons (pv 0) (pa_cons (pv 1) pa_nil))))) (pss_one ps_dead) pss_nil)
      (pss_one (ps_ret (pe_call GG r2 rfl U.go.g U.go.F.kp U.go.b .nil pass0 (pa_cons (pe_meth0 (pv 0) Z.cl Y.mw GW r1 Y.bw .nil pass0) (pa_cons (pv 1) pa_nil))))), ?_⟩
    refine ⟨_, rfl, _, rfl, x, dx, sb, D, l, ys, fo, bs, t, rfl, hN, ta, tl, fun H1 b s1 hb => ?_⟩
    have e : b = true := hb.mpr tok
    subst e
    have hA := (hN.same s1).F.G.hA
    refine ⟨_, rfl, iteF ?_⟩
    refine ⟨_, rfl, x, dx, _, rfl, hA.x, rfl, x, dx, sb, D, l, ys, fo, rfl, hA, ?_⟩
    exact ⟨_, rfl, l, t, rfl, g, tok.1.len, ta, fun H2 J s2 nJ eJ => q H2 J (sm_trans s1 s2) (L2.Same.free s1 nJ) eJ⟩
def spTurned (C : Addr) : Sp := fun vs H Q _ => ∃ x dx sb D l ys fo bs t r, vs = [.ref x, .str (tx t), .str (tx r)] ∧ HallN C H x dx sb D l ys fo bs ∧ TurnOk l bs t ∧ r ∈ rms l bs ∧ ∀ H', Same H H' → Q (.str (tx (imL l t r))) H'
set_option maxHeartbeats 1000000 in
theorem ok_turned {f fCR : Addr} {fd dCR : FuncData} {k : Nat} (B : BM mg) (hany : mg "any" = none) (Z : HC K mg C fi fb di db) (M : HM K C fm fr fg dm dr dg) (Y : HP K C fw ff dw df) (Cs : DF K mg "check_side" sChkSide ["walls", "side"] fC dC) (S : DF K mg "sides_of" sSides ["walls"] fS dS) (O : DF K mg "other" sOther ["side"] fO dO) (By : DF K mg "by_walls" sByWalls ["walls", "sides"] fBy dBy) (U : TT_ K mg fGo fSo fKe fIs fCt dGo dSo dKe dIs dCt)
    (Cr : DF K mg "check_room" sChkRoom ["hall", "room"] fCR dCR) (F : Fun K "turned" "turned" sTurned f fd) : FnOk P w K mg base CX0 (k + 7) f fd ["hall", "turn", "room"] (spTurned C) := by
  have GC : FnOk P w K mg base CX0 (k + 6) fCt dCt ["hall", "turn"] (spChkT C) := ok_chkT B Z Y Cs S O By U U.ct.F
  have GR : FnOk P w K mg base CX0 (k + 2) fCR dCR ["hall", "room"] (spChkRoom C) := ok_chkRoom hany Z M Cr.F
  have GW : FnOk P w K mg base CX0 (k + 1) fw dw ["self"] (spHwalls C) := ok_Hwalls Z Y
  have GB : FnOk P w K mg base CX0 (k + 2) fBy dBy ["walls", "sides"] spByWT := ok_byWT By.F O
  have GS : FnOk P w K mg base CX0 (k + 1) fSo dSo ["into", "sides"] spSidesO := ok_sidesO U.so.F
  refine F.ok scTurned (fun vs H Q E h => ?_) (fun cdv A outer st H vs Q E hr h => ?_)
  · obtain ⟨x, dx, sb, D, l, ys, fo, bs, t, r, rfl, _⟩ := h
    rfl
  · obtain ⟨x, dx, sb, D, l, ys, fo, bs, t, r, rfl, hN, tok, hm, q⟩ := h
    have nd := scTurned.nd
    have g := hN.F.G.g
    have r1 : Room (k + 1) _ := hr.mono (by omega)
    have r2 : Room (k + 2) _ := hr.mono (by omega)
    have hl12 := g.hi
    refine ⟨_, pss_cons (ps_set (i := 3) nd rfl (.inl rfl) (pe_call GC hr rfl U.ct.g U.ct.F.kp U.ct.b .nil pass0 (pa_cons (pv 0) (pa_cons (pv 1) pa_nil))))
      (pss_cons (ps_expr (pe_call GR r2 rfl Cr.g Cr.F.kp Cr.b .nil pass0 (pa_cons (pv 0) (pa_cons (pv 2) pa_nil))))
      (pss_one (ps_ret (pe_call GB r2 rfl By.g By.F.kp By.b .nil pass0 (pa_cons (pe_meth0 (pv 0) Z.cl Y.mw GW r1 Y.bw .nil pass0) (pa_cons (pe_call GS r1 rfl U.so.g U.so.F.kp U.so.b .nil pass0 (pa_cons (pv 3) (pa_cons (pv 2) pa_nil))) pa_nil)))))), ?_⟩
    refine ⟨_, rfl, _, rfl, x, dx, sb, D, l, ys, fo, bs, t, rfl, hN, tok, fun H1 J s1 nJ eJ => ?_⟩
    have hN1 := hN.same s1
    refine ⟨_, rfl, _, rfl, x, dx, sb, D, l, ys, fo, bs, r, rfl, hN1.F.G, hm, fun H2 s2 => ?_⟩
    have hA := (hN1.same s2).F.G.hA
    have sd := rms_sd g hN.F.G.bar hm
    refine ⟨_, rfl, x, dx, _, rfl, hA.x, rfl, x, dx, sb, D, l, ys, fo, rfl, hA, ?_⟩
    refine ⟨_, rfl, _, rfl, J, ovK l t, r, ov l t, rfl, .inl (s2 _ _ eJ), fun u hu => ovK_val g (sd u hu), by have := (rms_lets g r hm).1; omega, fun H3 s3 => ?_⟩
    exact ⟨l, r.map (ov l t), rfl, g, fun H4 s4 => q H4 (sm_trans (sm_trans (sm_trans s1 s2) s3) s4)⟩
def spOver (C : Addr) : Sp := fun vs H Q _ => ∃ x dx sb D l ys fo bs t p, vs = [.ref x, .str (tx t), .str (tx p)] ∧ HallN C H x dx sb D l ys fo bs ∧ TurnOk l bs t ∧ Part l p ∧ ∀ H', Same H H' → Q (.str (tx (imL l t p))) H'
set_option maxHeartbeats 1000000 in
theorem ok_over {f fIP fCP : Addr} {fd dIP dCP : FuncData} {k : Nat} (B : BM mg) (Z : HC K mg C fi fb di db) (Y : HP K C fw ff dw df) (Cs : DF K mg "check_side" sChkSide ["walls", "side"] fC dC) (S : DF K mg "sides_of" sSides ["walls"] fS dS) (O : DF K mg "other" sOther ["side"] fO dO) (By : DF K mg "by_walls" sByWalls ["walls", "sides"] fBy dBy) (U : TT_ K mg fGo fSo fKe fIs fCt dGo dSo dKe dIs dCt)
    (Ip : DF K mg "is_part" sIsPart ["hall", "part"] fIP dIP) (Cp : DF K mg "check_part" sChkPart ["hall", "part"] fCP dCP) (F : Fun K "over" "over" sOver f fd) : FnOk P w K mg base CX0 (k + 7) f fd ["hall", "turn", "part"] (spOver C) := by
  have GC : FnOk P w K mg base CX0 (k + 6) fCt dCt ["hall", "turn"] (spChkT C) := ok_chkT B Z Y Cs S O By U U.ct.F
  have GR : FnOk P w K mg base CX0 (k + 3) fCP dCP ["hall", "part"] (spChkPart C) := ok_chkPart Z Y Cp.F Ip
  have GW : FnOk P w K mg base CX0 (k + 1) fw dw ["self"] (spHwalls C) := ok_Hwalls Z Y
  have GB : FnOk P w K mg base CX0 (k + 2) fBy dBy ["walls", "sides"] spByWT := ok_byWT By.F O
  have GS : FnOk P w K mg base CX0 (k + 1) fSo dSo ["into", "sides"] spSidesO := ok_sidesO U.so.F
  refine F.ok scOver (fun vs H Q E h => ?_) (fun cdv A outer st H vs Q E hr h => ?_)
  · obtain ⟨x, dx, sb, D, l, ys, fo, bs, t, r, rfl, _⟩ := h
    rfl
  · obtain ⟨x, dx, sb, D, l, ys, fo, bs, t, r, rfl, hN, tok, hm, q⟩ := h
    have nd := scOver.nd
    have g := hN.F.G.g
    have r1 : Room (k + 1) _ := hr.mono (by omega)
    have r2 : Room (k + 2) _ := hr.mono (by omega)
    have r3 : Room (k + 3) _ := hr.mono (by omega)
    have hl12 := g.hi
    refine ⟨_, pss_cons (ps_set (i := 3) nd rfl (.inl rfl) (pe_call GC hr rfl U.ct.g U.ct.F.kp U.ct.b .nil pass0 (pa_cons (pv 0) (pa_cons (pv 1) pa_nil))))
      (pss_cons (ps_expr (pe_call GR r3 rfl Cp.g Cp.F.kp Cp.b .nil pass0 (pa_cons (pv 0) (pa_cons (pv 2) pa_nil))))
      (pss_one (ps_ret (pe_call GB r2 rfl By.g By.F.kp By.b .nil pass0 (pa_cons (pe_meth0 (pv 0) Z.cl Y.mw GW r1 Y.bw .nil pass0) (pa_cons (pe_call GS r1 rfl U.so.g U.so.F.kp U.so.b .nil pass0 (pa_cons (pv 3) (pa_cons (pv 2) pa_nil))) pa_nil)))))), ?_⟩
    refine ⟨_, rfl, _, rfl, x, dx, sb, D, l, ys, fo, bs, t, rfl, hN, tok, fun H1 J s1 nJ eJ => ?_⟩
    have hN1 := hN.same s1
    refine ⟨_, rfl, _, rfl, x, dx, sb, D, l, ys, fo, r, rfl, hN1.F.G.hA, g, hm, fun H2 s2 => ?_⟩
    have hA := (hN1.same s2).F.G.hA
    refine ⟨_, rfl, x, dx, _, rfl, hA.x, rfl, x, dx, sb, D, l, ys, fo, rfl, hA, ?_⟩
    refine ⟨_, rfl, _, rfl, J, ovK l t, r, ov l t, rfl, .inl (s2 _ _ eJ), fun u hu => ovK_val g (hm.sd u hu), by have := hm.len; omega, fun H3 s3 => ?_⟩
    exact ⟨l, r.map (ov l t), rfl, g, fun H4 s4 => q H4 (sm_trans (sm_trans (sm_trans s1 s2) s3) s4)⟩
def spBehind (C : Addr) : Sp := fun vs H Q _ => ∃ x dx sb D l ys fo bs t u, vs = [.ref x, .str (tx t), .str (tx u)] ∧ HallN C H x dx sb D l ys fo bs ∧ TurnOk l bs t ∧ TurnOk l bs u ∧ ∀ H', Same H H' → Q (.str (tx (t.map (ov l u)))) H'
set_option maxHeartbeats 1000000 in
theorem ok_behind {f : Addr} {fd : FuncData} {k : Nat} (B : BM mg) (Z : HC K mg C fi fb di db) (Y : HP K C fw ff dw df) (Cs : DF K mg "check_side" sChkSide ["walls", "side"] fC dC) (S : DF K mg "sides_of" sSides ["walls"] fS dS) (O : DF K mg "other" sOther ["side"] fO dO) (By : DF K mg "by_walls" sByWalls ["walls", "sides"] fBy dBy) (U : TT_ K mg fGo fSo fKe fIs fCt dGo dSo dKe dIs dCt)
    (F : Fun K "turn_behind" "turn_behind" sBehind f fd) : FnOk P w K mg base CX0 (k + 7) f fd ["hall", "one", "two"] (spBehind C) := by
  have GC : FnOk P w K mg base CX0 (k + 6) fCt dCt ["hall", "turn"] (spChkT C) := ok_chkT B Z Y Cs S O By U U.ct.F
  have GS : FnOk P w K mg base CX0 (k + 1) fSo dSo ["into", "sides"] spSidesO := ok_sidesO U.so.F
  refine F.ok scBehind (fun vs H Q E h => ?_) (fun cdv A outer st H vs Q E hr h => ?_)
  · obtain ⟨x, dx, sb, D, l, ys, fo, bs, t, r, rfl, _⟩ := h
    rfl
  · obtain ⟨x, dx, sb, D, l, ys, fo, bs, t, u, rfl, hN, tok, uok, q⟩ := h
    have nd := scBehind.nd
    have g := hN.F.G.g
    have r1 : Room (k + 1) _ := hr.mono (by omega)
    have hl12 := g.hi
    refine ⟨_, pss_cons (ps_expr (pe_call GC hr rfl U.ct.g U.ct.F.kp U.ct.b .nil pass0 (pa_cons (pv 0) (pa_cons (pv 1) pa_nil))))
      (pss_one (ps_ret (pe_call GS r1 rfl U.so.g U.so.F.kp U.so.b .nil pass0 (pa_cons (pe_call GC hr rfl U.ct.g U.ct.F.kp U.ct.b .nil pass0 (pa_cons (pv 0) (pa_cons (pv 2) pa_nil))) (pa_cons (pv 1) pa_nil))))), ?_⟩
    refine ⟨_, rfl, _, rfl, x, dx, sb, D, l, ys, fo, bs, t, rfl, hN, tok, fun H1 J s1 nJ eJ => ?_⟩
    refine ⟨_, rfl, _, rfl, x, dx, sb, D, l, ys, fo, bs, u, rfl, hN.same s1, uok, fun H2 J2 s2 nJ2 eJ2 => ?_⟩
    exact ⟨_, rfl, J2, ovK l u, t, ov l u, rfl, .inl eJ2, fun s hs => ovK_val g (trn_sd g tok.1 hs), by rw [tok.1.len]; omega, fun H3 s3 => q H3 (sm_trans (sm_trans s1 s2) s3)⟩
end
end NC
namespace NC
open PySem PySem.Spec PyProof.Rows L2
def ivT (l t : List Nat) (u : Nat) : Nat := ((sds l).find? fun s => decide (ov l t s = u)).getD 0
/-- the turn back -/
def bkT (l t : List Nat) : List Nat := l.map (ivT l t)
theorem trn_map {l t : List Nat} (g : GoodW l) (T : Trn l t) : t = l.map (ov l t) := by
  refine List.ext_getElem? fun i => ?_
  rw [List.getElem?_map]
  cases h : l[i]? with
  | none =>
    have := List.getElem?_eq_none_iff.mp h
    rw [List.getElem?_eq_none_iff.mpr (by rw [T.len]; exact this)]
    rfl
  | some c =>
    obtain ⟨s, e1, _, e2, _⟩ := trn_at g T h
    rw [e1, Option.map_some, e2]
/-- one side of each wall, told by what walls go over into -/
theorem trn_of {l : List Nat} (g : GoodW l) {h : Nat → Nat} (sd : ∀ c ∈ l, h c ∈ sds l) (inj : ∀ c ∈ l, ∀ e ∈ l, lwc (h c) = lwc (h e) → c = e) : Trn l (l.map h) := by
  refine ⟨List.length_map .., ?_⟩
  rw [List.map_map]
  have nd : (l.map (lwc ∘ h)).Nodup := List.pairwise_map.mpr (List.Pairwise.imp_of_mem (fun {a b} ha hb ne e => ne (inj a ha b hb e)) g.nd)
  have sub : ∀ y ∈ l.map (lwc ∘ h), y ∈ l := fun y hy => by
    obtain ⟨c, hc, rfl⟩ := List.mem_map.mp hy
    exact lwc_sd g (sd c hc)
  refine (List.perm_ext_iff_of_nodup nd g.nd).mpr fun x => ⟨sub x, fun hx => Decidable.byContradiction fun hn => ?_⟩
  have := (List.nodup_cons.mpr ⟨hn, nd⟩).length_le_of_subset (l₂ := l) fun y hy => by
    rcases List.mem_cons.mp hy with z | z
    · rw [z]; exact hx
    · exact sub y z
  rw [List.length_cons, List.length_map] at this
  omega
/-- a map of sides that knows other sides, from its walls -/
theorem ov_of {l : List Nat} (g : GoodW l) {h : Nat → Nat} (sw : ∀ c ∈ l, h (swp c) = swp (h c)) {s : Nat} (hs : s ∈ sds l) : ov l (l.map h) s = h s := by
  obtain ⟨i, c, hc, e⟩ := (sds_at g).mp hs
  have e1 : (l.map h)[i]? = some (h c) := by rw [List.getElem?_map, hc]; rfl
  obtain ⟨o1, o2⟩ := ov_at g.sm g.nd hc e1
  rcases e with rfl | rfl
  · exact o1
  · rw [o2, sw c (List.mem_of_getElem? hc)]
section
variable {l t : List Nat} (g : GoodW l) (T : Trn l t)
include g T
theorem iv_at {u : Nat} (hu : u ∈ sds l) : ivT l t u ∈ sds l ∧ ov l t (ivT l t u) = u := by
  obtain ⟨s, hs, e⟩ := ov_sur g T hu
  unfold ivT
  cases h : (sds l).find? fun s => decide (ov l t s = u) with
  | none => exact absurd (decide_eq_true e) (List.find?_eq_none.mp h s hs)
  | some s' => exact ⟨List.mem_of_find?_eq_some h, of_decide_eq_true (List.find?_some (p := fun s => decide (ov l t s = u)) h)⟩
theorem iv_ov {s : Nat} (hs : s ∈ sds l) : ivT l t (ov l t s) = s := by
  obtain ⟨a, b⟩ := iv_at g T (ov_sd g T hs)
  exact ov_inj g T a hs b
theorem iv_swp {u : Nat} (hu : u ∈ sds l) : ivT l t (swp u) = swp (ivT l t u) := by
  obtain ⟨a, b⟩ := iv_at g T hu
  have := iv_ov g T (sds_swp g a)
  rw [ov_swp g T a, b] at this
  exact this
theorem bk_trn : Trn l (bkT l t) := by
  refine trn_of g (fun c hc => (iv_at g T (sds_of_small hc)).1) fun c hc e he h => ?_
  obtain ⟨a1, b1⟩ := iv_at g T (sds_of_small hc)
  obtain ⟨a2, b2⟩ := iv_at g T (sds_of_small he)
  rcases same_wall g a1 a2 h with z | z
  · rw [← b1, ← b2, z]
  · have : e = swp c := by rw [← b2, z, ov_swp g T a1, b1]
    have h1 := g.sm c hc
    have h2 := g.sm e he
    rw [swp_small h1] at this
    omega
theorem bk_ov {s : Nat} (hs : s ∈ sds l) : ov l (bkT l t) s = ivT l t s := ov_of g (fun c hc => iv_swp g T (sds_of_small hc)) hs
/-- forth and back -/
theorem behind_bk : t.map (ov l (bkT l t)) = l := by
  have e := trn_map g T
  have h2 : ∀ f : Nat → Nat, t.map f = (l.map (ov l t)).map f := fun f => by rw [← e]
  rw [h2, List.map_map]
  refine (List.map_congr_left fun c hc => ?_).trans (List.map_id l)
  show ov l (bkT l t) (ov l t c) = c
  rw [bk_ov g T (ov_sd g T (sds_of_small hc)), iv_ov g T (sds_of_small hc)]
theorem bk_im {r : List Nat} (hr : ∀ s ∈ r, s ∈ sds l) (ri : Ris r) : imL l (bkT l t) (imL l t r) = r := by
  have B := bk_trn g T
  have ri1 := im_ris g T hr (ris_one g hr ri)
  have sd1 : ∀ s ∈ imL l t r, s ∈ sds l := fun s hs => im_sd g T hs
  refine ris_eq (im_ris g B sd1 (ris_one g sd1 ri1)) ri fun c => ?_
  rw [im_mem g B sd1]
  constructor
  · rintro ⟨v, hv, rfl⟩
    obtain ⟨s, hs, rfl⟩ := (im_mem g T hr).mp hv
    rw [bk_ov g T (ov_sd g T (hr s hs)), iv_ov g T (hr s hs)]
    exact hs
  · intro hc
    refine ⟨ov l t c, (im_ov g T hr (hr c hc)).mpr hc, ?_⟩
    rw [bk_ov g T (ov_sd g T (hr c hc)), iv_ov g T (hr c hc)]
end
section
variable {l t u : List Nat} (g : GoodW l) {bs : List (List Nat)} (bar : ∀ b ∈ bs, isBar l b = true)
include g bar
theorem rms_ris {r : List Nat} (hr : r ∈ rms l bs) : Ris r := by
  have hrl : r.map lwc = l := (room_low g r).mp (by unfold rms at hr; exact (List.mem_filter.mp hr).1)
  exact List.pairwise_map.mp (by rw [hrl]; exact g.rise)
theorem bk_ok (T : TurnOk l bs t) : TurnOk l bs (bkT l t) := by
  refine ⟨bk_trn g T.1, fun r hr => ?_⟩
  obtain ⟨r0, h0, rfl⟩ := List.mem_map.mp ((im_sur g bar T.1 T.2).mem_iff.mpr hr)
  rw [bk_im g T.1 (rms_sd g bar h0) (rms_ris g bar h0)]
  exact h0
end
end NC
namespace NC
open PySem PySem.Spec PyProof.Rows L2
abbrev sBack : Stmt := topS 47
abbrev nBack : List Str := ["hall", "turn", "into", "back", "side"]
theorem scBack : FnScope nBack ["hall", "turn"] (defScope sBack) := ⟨rfl, rfl, rfl, by decide +kernel, rfl, by decide +kernel, by decide +kernel⟩
/-- the dict of what is gone over, back -/
def bkK (l t L : List Nat) : List (Key × V) := L.map fun s => (Sum.inr (sg (ov l t s)), V.str (sg s))
theorem bkK_no {l t L : List Nat} {u : Nat} (h : ∀ s ∈ L, ov l t s ≠ u) : valV (bkK l t L) (Sum.inr (sg u)) = none := by
  induction L with
  | nil => rfl
  | cons a r ih =>
    exact (valV_neg (p := (Sum.inr (sg (ov l t a)), V.str (sg a))) (fun z => h a (List.mem_cons_self ..) (sg_inj (Sum.inr.inj z)))).trans (ih fun s hs => h s (List.mem_cons_of_mem _ hs))
theorem bkK_val {l t L : List Nat} {s : Nat} (h : s ∈ L) (inj : ∀ a ∈ L, ov l t a = ov l t s → a = s) : valV (bkK l t L) (Sum.inr (sg (ov l t s))) = some (.str (sg s)) := by
  induction L with
  | nil => cases h
  | cons a r ih =>
    by_cases e : ov l t a = ov l t s
    · have := inj a (List.mem_cons_self ..) e
      subst this
      exact valV_pos (p := (Sum.inr (sg (ov l t a)), V.str (sg a))) rfl
    · have h2 : s ∈ r := by
        rcases List.mem_cons.mp h with z | z
        · exact absurd (by rw [z]) e
        · exact z
      exact (valV_neg (p := (Sum.inr (sg (ov l t a)), V.str (sg a))) (fun z => e (sg_inj (Sum.inr.inj z)))).trans (ih h2 fun b hb => inj b (List.mem_cons_of_mem _ hb))
theorem kS_nd {l : List Nat} (g : GoodW l) : (kS l).Nodup := by
  unfold kS
  refine List.pairwise_flatMap.mpr ⟨fun c hc => ?_, ?_⟩
  · have := swp_ne (.inl (g.sm c hc))
    simp [this.symm]
  · refine List.Pairwise.imp_of_mem (fun {a b} ha hb h x hx y hy e => ?_) g.rise
    have sa := g.sm a ha
    have sb := g.sm b hb
    have xa : x = a ∨ x = a - 32 := by
      rcases List.mem_cons.mp hx with z | z
      · exact .inl z
      · rw [List.mem_singleton.mp z, swp_small sa]; exact .inr rfl
    have yb : y = b ∨ y = b - 32 := by
      rcases List.mem_cons.mp hy with z | z
      · exact .inl z
      · rw [List.mem_singleton.mp z, swp_small sb]; exact .inr rfl
    omega
section
variable {P : Program} {w : World} {K : PySem.W.Frag} {mg : Str → Option Value} {base : Heap} {C fi fb fm fr fg fw ff : Addr} {di db dm dr dg dw df : FuncData} {fGo fSo fKe fIs fCt : Addr} {dGo dSo dKe dIs dCt : FuncData} {fC fS fO fBy : Addr} {dC dS dO dBy : FuncData}
def spBack (C : Addr) : Sp := fun vs H Q _ => ∃ x dx sb D l ys fo bs t, vs = [.ref x, .str (tx t)] ∧ HallN C H x dx sb D l ys fo bs ∧ TurnOk l bs t ∧ ∀ H', Same H H' → Q (.str (tx (bkT l t))) H'
set_option maxHeartbeats 1000000 in
theorem ok_back {f : Addr} {fd : FuncData} {k : Nat} (B : BM mg) (Z : HC K mg C fi fb di db) (Y : HP K C fw ff dw df) (Cs : DF K mg "check_side" sChkSide ["walls", "side"] fC dC) (S : DF K mg "sides_of" sSides ["walls"] fS dS) (O : DF K mg "other" sOther ["side"] fO dO) (By : DF K mg "by_walls" sByWalls ["walls", "sides"] fBy dBy) (U : TT_ K mg fGo fSo fKe fIs fCt dGo dSo dKe dIs dCt)
    (F : Fun K "back_turn" "back_turn" sBack f fd) : FnOk P w K mg base CX0 (k + 7) f fd ["hall", "turn"] (spBack C) := by
  have GC : FnOk P w K mg base CX0 (k + 6) fCt dCt ["hall", "turn"] (spChkT C) := ok_chkT B Z Y Cs S O By U U.ct.F
  have GS : FnOk P w K mg base CX0 (k + 1) fSo dSo ["into", "sides"] spSidesO := ok_sidesO U.so.F
  have GW : FnOk P w K mg base CX0 (k + 1) fw dw ["self"] (spHwalls C) := ok_Hwalls Z Y
  refine F.ok scBack (fun vs H Q E h => ?_) (fun cdv A outer st H vs Q E hr h => ?_)
  · obtain ⟨x, dx, sb, D, l, ys, fo, bs, t, rfl, _⟩ := h
    rfl
  · obtain ⟨x, dx, sb, D, l, ys, fo, bs, t, rfl, hN, tok, q⟩ := h
    have nd := scBack.nd
    have g := hN.F.G.g
    have T := tok.1
    have r1 : Room (k + 1) _ := hr.mono (by omega)
    have hl12 := g.hi
    refine ⟨_, pss_cons (ps_set (i := 2) nd rfl (.inr rfl) (pe_call GC hr rfl U.ct.g U.ct.F.kp U.ct.b .nil pass0 (pa_cons (pv 0) (pa_cons (pv 1) pa_nil))))
      (pss_cons (ps_lock (ps_setDc (i := 3) (own := [("side", 4)]) (g := gName 4) (tt := tYes) (tk := tDGet (tVar 2) (tVar 4)) (tv := tVar 4) rfl nd rfl rfl (sw_dict rfl rfl rfl (by decide +kernel)) (pi_keys (pv 2)) (blkOk_by (N := nBack) (sc := defScope sBack) (by decide +kernel)) (fun _ _ _ _ _ => pg_name (i := 4) nd rfl (Or.inl rfl)) (fun _ _ _ _ _ => pts_nil) (fun _ _ _ _ _ => pe_dget (hu_of hr) (pv 2) (pv 4) (fun _ _ => rfl)) (fun _ _ _ _ _ => pv 4)))
      (pss_one (ps_ret (pe_call GS r1 rfl U.so.g U.so.F.kp U.so.b .nil pass0 (pa_cons (pv 3) (pa_cons (pe_meth0 (pv 0) Z.cl Y.mw GW r1 Y.bw .nil pass0) pa_nil)))))), ?_⟩
    refine ⟨_, rfl, _, rfl, x, dx, sb, D, l, ys, fo, bs, t, rfl, hN, tok, fun H1 J s1 nJ eJ => ?_⟩
    refine ⟨J, .dK (ovK l t), eJ, True.intro, fun od => ?_⟩
    have eF : (upd H1 J (.frz od (.dK (ovK l t)))) J = some (.frz od (.dK (ovK l t))) := upd_same
    have back : ∀ {H'}, Same (upd H1 J (.frz od (.dK (ovK l t)))) H' → Same H1 (upd H' J (.dK (ovK l t))) := fun s => unlock_same eJ s
    generalize upd H1 J (.frz od (.dK (ovK l t))) = H2 at eF back ⊢
    have wk := walk_keys (d := J) (o := od) (kvs := ovK l t)
    have ln : (ovK l t).length = (kS l).length := by unfold ovK foK; rw [List.length_map]
    rw [ln] at wk
    have kl := kS_len l
    refine ⟨_, rfl, J, od, rfl, .inl ⟨_, eF, fun Bk nB => ?_⟩⟩
    have nJB : J ≠ Bk := ne_of_none eF nB
    refine dc_it wk (fun j H' => Same H2 H' ∧ H' Bk = some (.dK (bkK l t ((kS l).take j)))) ⟨same_upd nB, upd_same⟩ (fun j H' _ h => h.1 _ _ eF) ?_ ?_
    · rintro j v G4 G5 hj ⟨u4, e4⟩ ⟨rfl, kk, vv, hk, rfl⟩
      unfold ovK foK at hk
      rw [List.getElem?_map] at hk
      obtain ⟨s, hs, ey⟩ := Option.map_eq_some_iff.mp hk
      cases ey
      have hsd : s ∈ sds l := (kS_mem g).mp (List.mem_of_getElem? hs)
      have new : ∀ a ∈ (kS l).take j, ov l t a ≠ ov l t s := fun a ha e => by
        have := ov_inj g T ((kS_mem g).mp (List.mem_of_mem_take ha)) hsd e
        subst this
        exact take_new (kS_nd g) hs ha
      refine ⟨rfl, yes_i ⟨_, rfl, _, rfl, J, .str (sg (ov l t s)), rfl, .inl ⟨_, Sum.inr (sg s), .inr ⟨od, u4 _ _ eF⟩, rfl, (ovK_val g hsd).symm⟩, _, rfl, _, Sum.inr (sg (ov l t s)), rfl, e4, by unfold bkK; rw [List.length_map, List.length_take, sizeLine_eq]; omega, sm_over u4 nB, ?_⟩⟩
      rw [upd_same, putK_new _ (bkK_no new), List.take_add_one, hs]
      unfold bkK
      rw [List.map_append]
      rfl
    · rintro G4 ⟨u4, e4⟩
      rw [List.take_length] at e4
      refine ⟨u4 _ _ eF, ?_⟩
      have s14 := back u4
      have e5 : (upd G4 J (.dK (ovK l t))) Bk = some (.dK (bkK l t (kS l))) := by rw [upd_ne (Ne.symm nJB)]; exact e4
      have s04 := sm_trans s1 s14
      generalize upd G4 J (.dK (ovK l t)) = G5 at s14 s04 e5 ⊢
      have hA := (hN.same s04).F.G.hA
      refine ⟨_, rfl, _, rfl, x, dx, _, rfl, hA.x, rfl, x, dx, sb, D, l, ys, fo, rfl, hA, ?_⟩
      refine ⟨Bk, bkK l t (kS l), l, ivT l t, rfl, .inl e5, fun c hc => ?_, by omega, fun H5 s5 => q H5 (sm_trans s04 s5)⟩
      obtain ⟨a, b⟩ := iv_at g T (sds_of_small hc)
      have := bkK_val (l := l) (t := t) (s := ivT l t c) ((kS_mem g).mpr a) fun e he h => ov_inj g T ((kS_mem g).mp he) a h
      rw [b] at this
      exact this
end
end NC
namespace NC
open PySem PySem.Spec PyProof.Rows L2
abbrev sHolds : Stmt := topS 34
abbrev sRoomsOf : Stmt := topS 36
abbrev sFirst : Stmt := topS 37
theorem scHolds : FnScope ["part", "room", "side"] ["part", "room"] (defScope sHolds) := ⟨rfl, rfl, rfl, by decide +kernel, rfl, by decide +kernel, by decide +kernel⟩
theorem scRoomsOf : FnScope ["hall", "part", "written", "room"] ["hall", "part"] (defScope sRoomsOf) := ⟨rfl, rfl, rfl, by decide +kernel, rfl, by decide +kernel, by decide +kernel⟩
theorem scFirst : FnScope ["hall", "part", "sides", "great"] ["hall", "part"] (defScope sFirst) := ⟨rfl, rfl, rfl, by decide +kernel, rfl, by decide +kernel, by decide +kernel⟩
section
variable {P : Program} {w : World} {K : PySem.W.Frag} {mg : Str → Option Value} {base : Heap} {C fi fb fm fr fg fw ff : Addr} {di db dm dr dg dw df : FuncData}
def spHolds : Sp := fun vs H Q _ => ∃ b r, vs = [.str (tx b), .str (tx r)] ∧ b.length ≤ 100 ∧ ∀ H', Same H H' → Q (.bl (inR b r)) H'
theorem ok_holds {f : Addr} {fd : FuncData} {k : Nat} (B : BM mg) (F : Fun K "holds" "holds" sHolds f fd) : FnOk P w K mg base CX0 (k + 1) f fd ["part", "room"] spHolds := by
  refine F.ok scHolds (fun vs H Q E h => ?_) (fun cdv A outer s H vs Q E hr h => ?_)
  · obtain ⟨b, r, rfl, _⟩ := h
    rfl
  · obtain ⟨b, r, rfl, hbl, q⟩ := h
    refine ⟨_, pss_one (ps_ret (pe_callB (cr_all rfl) (by rfl) B.all (by decide +kernel) (pa_cons (pe_lc (own := [("side", 2)]) (g := gName 2) (tt := tYes) rfl scHolds.nd (pi_str (pv 0))
      (blkOk_by (N := ["part", "room", "side"]) (sc := defScope sHolds) (by decide +kernel)) (fun _ _ _ _ _ => pg_name (i := 2) scHolds.nd rfl (Or.inl rfl)) (fun _ _ _ _ _ => pts_nil)
      (fun _ _ _ _ _ => pe_cmpR op_in_sign (pv 2) (pv 1) (by rfl))) pa_nil))), ?_⟩
    refine ⟨_, rfl, tx b, rfl, fun D nD => ?_⟩
    have lz : (tx b).cps.size = b.length := tx_len _
    refine lc_it walk_str (fun i H' => Same H H' ∧ H' D = some (.lst (((b.take i).map fun s => decide (s ∈ r)).map V.bl))) ⟨same_upd nD, upd_same⟩ (fun _ _ _ _ => trivial) ?_ ?_
    · rintro i x H1 H2 hi ⟨s1, e1⟩ ⟨rfl, c, hc, rfl⟩
      have hcl : b[i]? = some c := by
        rw [← Array.getElem?_toList, tx_list] at hc
        exact hc
      refine ⟨rfl, yes_i ⟨_, rfl, _, rfl, c, tx r, rfl, rfl, ?_⟩⟩
      rw [tx_list]
      refine ⟨_, e1, ?_, sm_over s1 nD, ?_⟩
      · rw [List.length_map, List.length_map, List.length_take, sizeLine_eq]
        omega
      · rw [upd_same, List.take_add_one, hcl, List.map_append, List.map_append]
        rfl
    · rintro H1 ⟨s1, e1⟩
      rw [lz, List.take_length] at e1
      refine ⟨_, _, rfl, SqL.of e1, ?_⟩
      rw [show (b.map fun s => decide (s ∈ r)).all id = inR b r by unfold inR; rw [List.all_map]; rfl]
      exact q _ s1
def spRoomsOf (C : Addr) : Sp := fun vs H Q _ => ∃ x dx sb D l ys fo bs P z, vs = [.ref x, .str (tx P)] ∧ HallF C H x dx sb D l ys fo bs ∧ Part l P ∧ z ∈ rms l bs ∧ (∀ s ∈ P, s ∈ z) ∧ ∀ H' p, Same H H' → H p = none → H' p = some (.lst ((((rms l bs).filter fun r => inR P r).map tx).map V.str)) → Q (.ref p) H'
set_option maxHeartbeats 1000000 in
theorem ok_roomsOf {f fC fS fO fBy fIsP fChP fAFB fTo fSh fHo : Addr} {fd dC dS dO dBy dIsP dChP dAFB dTo dSh dHo : FuncData} {k : Nat} (B : BM mg) (hany : mg "any" = none) (Z : HC K mg C fi fb di db) (M : HM K C fm fr fg dm dr dg) (T : PT K mg C fw ff dw df fIsP fChP fAFB fTo dIsP dChP dAFB dTo) (Cs : DF K mg "check_side" sChkSide ["walls", "side"] fC dC) (S : DF K mg "sides_of" sSides ["walls"] fS dS) (O : DF K mg "other" sOther ["side"] fO dO) (By : DF K mg "by_walls" sByWalls ["walls", "sides"] fBy dBy)
    (Sh : DF K mg "shut" sShut ["hall", "part"] fSh dSh) (Ho : DF K mg "holds" sHolds ["part", "room"] fHo dHo) (F : Fun K "rooms_of" "rooms_of" sRoomsOf f fd) : FnOk P w K mg base CX0 (k + 7) f fd ["hall", "part"] (spRoomsOf C) := by
  have GS : FnOk P w K mg base CX0 (k + 6) fSh dSh ["hall", "part"] (spShut C) := ok_shut B Z T Cs S O By Sh.F
  have GR : FnOk P w K mg base CX0 (k + 3) fr dr ["self"] (spHrooms C) := ok_Hrooms hany Z M O
  have GH : FnOk P w K mg base CX0 (k + 1) fHo dHo ["part", "room"] spHolds := ok_holds B Ho.F
  refine F.ok scRoomsOf (fun vs H Q E h => ?_) (fun cdv A0 outer st H vs Q E hr h => ?_)
  · obtain ⟨x, dx, sb, D, l, ys, fo, bs, P, z, rfl, _⟩ := h
    rfl
  · obtain ⟨x, dx, sb, D, l, ys, fo, bs, P, z, rfl, hF, hP, hz, hin, q⟩ := h
    have nd := scRoomsOf.nd
    have g := hF.G.g
    have hl12 := g.hi
    have r1 : Room (k + 1) _ := hr.mono (by omega)
    have r3 : Room (k + 3) _ := hr.mono (by omega)
    refine ⟨_, pss_cons (ps_set (i := 2) nd rfl (.inr rfl) (pe_call GS hr rfl Sh.g Sh.F.kp Sh.b .nil pass0 (pa_cons (pv 0) (pa_cons (pv 1) pa_nil))))
      (pss_one (ps_ret (pe_lc (own := [("room", 3)]) (g := gName 3) (tt := tB (tCall spHolds [] E0 (tCons (tVar 2) (tCons (tVar 3) tNil)))) rfl nd (pi_list (pe_meth0 (pv 0) Z.cl M.mr GR r3 M.br .nil pass0)) (blkOk_by (N := ["hall", "part", "written", "room"]) (sc := defScope sRoomsOf) (by decide +kernel)) (fun _ _ _ _ _ => pg_name (i := 3) nd rfl (Or.inl rfl))
        (fun _ _ _ _ _ => pts_one (pt_val (pe_call GH r1 rfl Ho.g Ho.F.kp Ho.b .nil pass0 (pa_cons (pv 2) (pa_cons (pv 3) pa_nil))))) (fun _ _ _ _ _ => pv 3)))), ?_⟩
    refine ⟨_, rfl, _, rfl, x, dx, sb, D, l, ys, fo, bs, P, z, rfl, hF, hP, hz, hin, fun H1 s1 => ?_⟩
    have hF1 := hF.same s1
    have wl := byWT_len l (allFo fo P)
    have same := fun r (hr : r ∈ rms l bs) => shut_in g hF.G.bar hF.hf hP.sd hr
    generalize byWT l (allFo fo P) = W at wl same
    refine ⟨_, rfl, x, dx, _, rfl, hF1.G.hA.x, rfl, x, dx, sb, D, l, ys, fo, rfl, hF1.G.hA, g, fun H2 pR s2 npR eR => ?_⟩
    rw [prT_rms g hF.G.bar hF.hf] at eR
    have wk := walk_list (K := K) (a := pR) (xs := ((rms l bs).map tx).map V.str)
    rw [List.length_map, List.length_map] at wk
    have rlen := rms_len0 g (bs := bs)
    refine ⟨pR, rfl, ⟨_, SqL.of eR⟩, fun Da na => ?_⟩
    have naH : H Da = none := L2.Same.free (sm_trans s1 s2) na
    refine lc_it wk (fun i H' => Same H2 H' ∧ H' Da = some (.lst (((((rms l bs).take i).filter fun r => inR P r).map tx).map V.str))) ⟨same_upd na, upd_same⟩ (fun i H' _ h => SqL.of (h.1 _ _ eR)) ?_ ?_
    · rintro u v G1 G2 hu ⟨u1, e1⟩ ⟨rfl, hx⟩
      rw [List.getElem?_map, List.getElem?_map] at hx
      obtain ⟨z2, hz2, rfl⟩ := Option.map_eq_some_iff.mp hx
      obtain ⟨o, ho2, rfl⟩ := Option.map_eq_some_iff.mp hz2
      have tk : (rms l bs).take (u + 1) = (rms l bs).take u ++ [o] := by rw [List.take_add_one, ho2]; rfl
      have fl : (((rms l bs).take u).filter fun o => inR P o).length ≤ 4096 := Nat.le_trans (List.length_filter_le _ _) (by rw [List.length_take]; omega)
      refine ⟨rfl, _, rfl, _, rfl, W, o, rfl, by omega, fun G3 u3 => ⟨_, rfl, ?_⟩⟩
      rw [same o (List.mem_of_getElem? ho2)]
      refine ite2 (fun t => ⟨_, rfl, _, u3 _ _ e1, by rw [List.length_map, List.length_map, sizeLine_eq]; omega, sm_over (sm_trans u1 u3) na, ?_⟩) (fun t => ⟨sm_trans u1 u3, ?_⟩)
      · rw [upd_same, tk, List.filter_append, List.filter_cons, if_pos t]
        simp
      · rw [u3 _ _ e1, tk, List.filter_append, List.filter_cons, if_neg t]
        simp
    · rintro H3 ⟨s3, e3⟩
      rw [List.take_length] at e3
      exact q H3 Da (sm_trans (sm_trans s1 s2) s3) naH e3
def spFirst (C : Addr) : Sp := fun vs H Q _ => ∃ x dx sb D l ys fo bs P z, vs = [.ref x, .str (tx P)] ∧ HallF C H x dx sb D l ys fo bs ∧ Part l P ∧ z ∈ rms l bs ∧ (∀ s ∈ P, s ∈ z) ∧ ∀ H' r t, Same H H' → (rms l bs).filter (fun r => inR P r) = r :: t → Q (.str (tx r)) H'
set_option maxHeartbeats 1000000 in
theorem ok_first {f fC fS fO fBy fIsP fChP fAFB fTo fSh : Addr} {fd dC dS dO dBy dIsP dChP dAFB dTo dSh : FuncData} {k : Nat} (B : BM mg) (Z : HC K mg C fi fb di db) (T : PT K mg C fw ff dw df fIsP fChP fAFB fTo dIsP dChP dAFB dTo) (Cs : DF K mg "check_side" sChkSide ["walls", "side"] fC dC) (S : DF K mg "sides_of" sSides ["walls"] fS dS) (O : DF K mg "other" sOther ["side"] fO dO) (By : DF K mg "by_walls" sByWalls ["walls", "sides"] fBy dBy)
    (Sh : DF K mg "shut" sShut ["hall", "part"] fSh dSh) (F : Fun K "first_room" "first_room" sFirst f fd) : FnOk P w K mg base CX0 (k + 7) f fd ["hall", "part"] (spFirst C) := by
  have GS : FnOk P w K mg base CX0 (k + 6) fSh dSh ["hall", "part"] (spShut C) := ok_shut B Z T Cs S O By Sh.F
  have GW : FnOk P w K mg base CX0 (k + 1) fw dw ["self"] (spHwalls C) := ok_Hwalls Z T.Y
  have GO : FnOk P w K mg base CX0 (k + 1) fO dO ["side"] spOther := ok_other O.F
  have GF : FnOk P w K mg base CX0 (k + 3) ff df ["self", "side"] (spHforced C) := ok_Hforced B Z T.Y Cs S
  have GB : FnOk P w K mg base CX0 (k + 2) fBy dBy ["walls", "sides"] spByWT := ok_byWT By.F O
  refine F.ok scFirst (fun vs H Q E h => ?_) (fun cdv A0 outer st H vs Q E hr h => ?_)
  · obtain ⟨x, dx, sb, D, l, ys, fo, bs, P, z, rfl, _⟩ := h
    rfl
  · obtain ⟨x, dx, sb, D, l, ys, fo, bs, P, z, rfl, hF, hP, hz, hin, q⟩ := h
    have nd := scFirst.nd
    have g := hF.G.g
    have hl12 := g.hi
    have r1 : Room (k + 1) _ := hr.mono (by omega)
    have r2 : Room (k + 2) _ := hr.mono (by omega)
    have r3 : Room (k + 3) _ := hr.mono (by omega)
    refine ⟨_, pss_cons (ps_set (i := 2) nd rfl (.inl rfl) (pe_call GS hr rfl Sh.g Sh.F.kp Sh.b .nil pass0 (pa_cons (pv 0) (pa_cons (pv 1) pa_nil))))
      (pss_cons (ps_for PassesOwn.never rfl (pi_str (pe_upper (pe_meth0 (pv 0) Z.cl T.Y.mw GW r1 T.Y.bw .nil pass0))) (pg_name (i := 3) nd rfl (.inl rfl))
        (pss_one (ps_if (pt_cmpR op_notIn_sign (pe_call GO r1 rfl O.g O.F.kp O.b .nil pass0 (pa_cons (pv 3) pa_nil)) (pv 2) (by rfl))
          (pss_one (ps_aug (i := 2) nd rfl (.inl rfl) (pe_meth (pv 0) Z.cl T.Y.mf GF r3 T.Y.bf .nil pass0 (pa_cons (pv 3) pa_nil)) iop_add_str)) pss_nil)))
      (pss_one (ps_ret (pe_call GB r2 rfl By.g By.F.kp By.b .nil pass0 (pa_cons (pe_meth0 (pv 0) Z.cl T.Y.mw GW r1 T.Y.bw .nil pass0) (pa_cons (pv 2) pa_nil)))))), ?_⟩
    refine ⟨_, rfl, _, rfl, x, dx, sb, D, l, ys, fo, bs, P, z, rfl, hF, hP, hz, hin, fun H1 s1 => ?_⟩
    have hF1 := hF.same s1
    obtain ⟨tl, eF⟩ := first_room_is g hF.G.bar hF.hf hF.G.ok hP.sd hz hin
    have wl := byWT_len l (allFo fo P)
    generalize byWT l (allFo fo P) = W at wl eF
    refine ⟨_, rfl, x, dx, _, rfl, hF1.G.hA.x, rfl, x, dx, sb, D, l, ys, fo, rfl, hF1.G.hA, ⟨_, rfl⟩, _, rfl, rfl, by show l.toArray.size ≤ 5592405; rw [List.size_toArray]; omega, ?_⟩
    rw [upper_tx g.asc]
    refine ⟨_, rfl, ?_⟩
    have lz : (tx (l.map upc)).cps.size = l.length := by rw [show (tx (l.map upc)).cps.size = (l.map upc).length from tx_len _, List.length_map]
    have wk := walk_str (z := tx (l.map upc))
    rw [lz] at wk
    refine for_it wk (fun i σ H' => ∃ (y3 : Option V), σ = [some (.ref x), some (.str (tx P)), some (.str (tx (wS fo l W i))), y3] ∧ Same H H') ⟨_, rfl, s1⟩ (fun _ _ _ _ _ => trivial) ?_ ?_
    · rintro i v σ H2 H3 hi ⟨y3, rfl, s2⟩ ⟨rfl, c, hc, rfl⟩
      have hc : (l.map upc)[i]? = some c := by
        rw [← Array.getElem?_toList, tx_list] at hc
        exact hc
      rw [List.getElem?_map, List.getElem?_eq_getElem hi] at hc
      have hc : upc l[i] = c := by simpa using hc
      have sm := g.sm _ (List.getElem_mem hi)
      have e : l.getD i 0 = l[i] := by rw [List.getD_eq_getElem?_getD, List.getElem?_eq_getElem hi]; rfl
      have hsd : c ∈ sds l := by rw [← hc, upc_small sm]; exact sds_of_great g (List.getElem_mem hi)
      have esw : swp c = l[i] := by rw [← hc, upc_small sm, swp_great (by omega)]; omega
      have wln := wS_len hF.fl g (W := W) i (Nat.le_of_lt hi)
      have hF2 := hF.same s2
      have fln := hF.fl c hsd
      refine ⟨_, rfl, c, rfl, sds_asc g hsd, _, rfl, swp c, tx (wS fo l W i), rfl, rfl, _, rfl, ?_⟩
      rw [tx_list, esw]
      have ew : wS fo l W (i + 1) = if l[i] ∈ wS fo l W i then wS fo l W i else wS fo l W i ++ fo c := by
        show (if l.getD i 0 ∈ wS fo l W i then wS fo l W i else wS fo l W i ++ fo (upc (l.getD i 0))) = _
        rw [e, hc]
      refine ite2 (fun t => ?_) (fun t => ?_)
      · have hn : l[i] ∉ wS fo l W i := by simpa using t
        refine ⟨_, rfl, _, rfl, x, dx, _, rfl, hF2.G.hA.x, rfl, _, rfl, x, dx, sb, D, l, ys, fo, c, rfl, hF2.G.hA, g, hsd, fun H4 s4 => ⟨_, _, rfl, rfl, by rw [tx_len, tx_len, sizeLine_eq]; omega, some (.str ⟨#[c]⟩), ?_, sm_trans s2 s4⟩⟩
        rw [tx_app, ew, if_neg hn]
        rfl
      · have hy : l[i] ∈ wS fo l W i := by simpa using t
        refine ⟨some (.str ⟨#[c]⟩), ?_, s2⟩
        rw [ew, if_pos hy]
        rfl
    · rintro σ H2 ⟨y3, rfl, s2⟩
      have hF2 := hF.same s2
      refine ⟨_, rfl, x, dx, _, rfl, hF2.G.hA.x, rfl, x, dx, sb, D, l, ys, fo, rfl, hF2.G.hA, _, rfl, l, _, rfl, g, fun H3 s3 => ?_⟩
      exact q H3 _ tl (sm_trans s2 s3) eF
end
end NC
namespace NC
open PySem PySem.Spec PyProof.Rows L2
/-- one side gone over -/
theorem im_one {l t : List Nat} (g : GoodW l) (T : Trn l t) {s : Nat} (hs : s ∈ sds l) : byS ([s].map (ov l t)) = [ov l t s] := by
  have h1 : ∀ x ∈ [ov l t s], x ∈ sds l := fun x hx => by rw [List.mem_singleton.mp hx]; exact ov_sd g T hs
  show byS [ov l t s] = _
  rw [byS_walls g h1 (by simp), byWT_self g h1 (by simp [Ris])]
end NC
namespace NC
open PySem PySem.Spec PyProof.Rows L2
abbrev sLTR : Stmt := topS 61
abbrev nLTR : List Str := ["_law_d", "_law_shuts", "_law_hall", "_law_turn", "_law_two", "_law_room", "_law_part", "_law_far", "_law_behind_due", "_law_home", "_law_twice_one", "_law_shut", "_law_side"]
theorem scLTR : FnScope nLTR ["_law_d", "_law_shuts"] (defScope sLTR) := ⟨rfl, rfl, rfl, by decide +kernel, rfl, by decide +kernel, by decide +kernel⟩
theorem Alk.flat {H : Hp} {n : Nat} {p r : Addr} {xs : List V} (ep : H p = some (.lst xs)) (er : H r = some (.lst xs)) (h5 : xs.length ≤ 5000) (f : ∀ x ∈ xs, (∃ a, x = .str a) ∨ (∃ a, x = .bl a) ∨ ∃ a, x = .int a) : Alk H (n + 1) (.ref p) (.ref r) :=
  .lst ep er rfl h5 fun i a b ha hb => by
    rw [ha] at hb
    cases hb
    rcases f a (List.mem_of_getElem? ha) with ⟨z, rfl⟩ | ⟨z, rfl⟩ | ⟨z, rfl⟩
    · exact .str z
    · exact .bl z
    · exact .int z
/-- what the turns' half of the law asks for -/
structure HlT (K : PySem.W.Frag) (mg : Str → Option Value) (fSame fDraw fOf fMx fLet fOth fIm fBs fSt fLSi fTu fOv fBh fBk fCR : Addr) (dSame dDraw dOf dMx dLet dOth dIm dBs dSt dLSi dTu dOv dBh dBk dCR : FuncData) : Prop where
  same : DF K mg "_law_same" sSame ["_law_x", "_law_due"] fSame dSame
  draw : DF K mg "_law_draw" sDraw ["_law_d", "_law_many"] fDraw dDraw
  of : DF K mg "_law_of" sOf ["_law_d", "_law_some"] fOf dOf
  mixed : DF K mg "_law_mixed" sLMix ["_law_d", "_law_some"] fMx dMx
  letters : DF K mg "_law_letters" sLetters [] fLet dLet
  oth : DF K mg "_law_other" sOth ["_law_side"] fOth dOth
  img : DF K mg "_law_image" sLImg ["_law_shuts", "_law_turn", "_law_sides_here"] fIm dIm
  bys : DF K mg "_law_by_shuts" sLByS ["_law_sides_here"] fBs dBs
  st : DF K mg "_law_some_turn" sLSome ["_law_d", "_law_shuts"] fSt dSt
  lsi : DF K mg "_law_sides" sLSides ["_law_d", "_law_shuts"] fLSi dLSi
  tu : DF K mg "turned" sTurned ["hall", "turn", "room"] fTu dTu
  ovr : DF K mg "over" sOver ["hall", "turn", "part"] fOv dOv
  bh : DF K mg "turn_behind" sBehind ["hall", "one", "two"] fBh dBh
  bk : DF K mg "back_turn" sBack ["hall", "turn"] fBk dBk
  cr : DF K mg "check_room" sChkRoom ["hall", "room"] fCR dCR
  many : mg "any" = none
  mb : mg "bool" = none
  ms : mg "str" = none
/-- a hall beside the draws -/
structure StH (d C x dx sb D : Addr) (l : List Nat) (ys : List Str) (fo : Nat → List Nat) (H : Hp) : Prop where
  dr : Dr H d
  hA : HallAt C H x dx sb D l ys fo
theorem StH.same {d C x dx sb D : Addr} {l : List Nat} {ys : List Str} {fo : Nat → List Nat} {H H' : Hp} (s : StH d C x dx sb D l ys fo H) (e : Same H H') : StH d C x dx sb D l ys fo H' := ⟨s.dr.same e, s.hA.same e⟩
theorem StH.smd {d C x dx sb D : Addr} {l : List Nat} {ys : List Str} {fo : Nat → List Nat} {H H' : Hp} (s : StH d C x dx sb D l ys fo H) (ns : sb ≠ d) (e : SmD d H H') (D' : Dr H' d) : StH d C x dx sb D l ys fo H' := by
  obtain ⟨c0, hc0⟩ := s.dr.head
  obtain ⟨rr, hd⟩ := hc0
  have h := s.hA
  exact ⟨D', e.1 _ _ (ne_of h.x hd fun z => by cases z) h.x, e.1 _ _ ns h.sb, e.1 _ _ (ne_of h.D hd fun z => by cases z) h.D⟩
def spLTR : Sp := fun vs H Q _ => ∃ d l, vs = [.ref d, .str (tx l)] ∧ Dr H d ∧ GoodW l ∧ 2 ≤ l.length ∧ ∀ H', SmD d H H' → Dr H' d → Q (.bl true) H'
section
variable {P : Program} {w : World} {K : PySem.W.Frag} {mg : Str → Option Value} {base : Heap} {tw : Tok} {fOther fSides fByW fIsW fIsB fCW fCB fCS fStr fRe fAF fCF fCA : Addr} {dOther dSides dByW dIsW dIsB dCW dCB dCS dStr dRe dAF dCF dCA : FuncData}
    {CH iH CB iB CF iF CA iA : Addr} {eH eB eF eA : FuncData} {C fi fb fm fr fg fw ff e : Addr} {di db dm dr dg dw df : FuncData} {fIsP fChP fAFB fTw : Addr} {dIsP dChP dAFB dTw : FuncData} {fGo fSo fKe fIs fCt : Addr} {dGo dSo dKe dIs dCt : FuncData}
    {fSame fDraw fOf fMx fLet fOth fIm fBs fSt fLSi fTu fOv fBh fBk fCR : Addr} {dSame dDraw dOf dMx dLet dOth dIm dBs dSt dLSi dTu dOv dBh dBk dCR : FuncData}
set_option maxHeartbeats 8000000 in
theorem ok_ltr {f : Addr} {fd : FuncData} {k : Nat} (F : Fun K "_law_turns_right" "_law_turns_right" sLTR f fd) (Z : HC K mg C fi fb di db) (M : HM K C fm fr fg dm dr dg) (Y : PT K mg C fw ff dw df fIsP fChP fAFB fTw dIsP dChP dAFB dTw) (U : TT_ K mg fGo fSo fKe fIs fCt dGo dSo dKe dIs dCt)
    (T : Txt8 K mg tw fOther fSides fByW fIsW fIsB fCW fCB fCS fStr fRe fAF fCF fCA dOther dSides dByW dIsW dIsB dCW dCB dCS dStr dRe dAF dCF dCA CH iH CB iB CF iF CA iA eH eB eF eA)
    (ZD : Binds K di ["self", "walls", "bars"] [.ref e]) (eT : ∃ (oe : Obj) (ne : Nat), K.lookup e = some oe ∧ oe.cls = .type "tuple" ∧ oe.data = .seq #[] ne)
    (L : HlT K mg fSame fDraw fOf fMx fLet fOth fIm fBs fSt fLSi fTu fOv fBh fBk fCR dSame dDraw dOf dMx dLet dOth dIm dBs dSt dLSi dTu dOv dBh dBk dCR) :
    FnOk P w K mg base CX0 (k + 8) f fd ["_law_d", "_law_shuts"] spLTR := by
  have B := T.B
  have GO : FnOk P w K mg base CX0 (k + 2) fOf dOf ["_law_d", "_law_some"] (spOf K) := ok_of T.B L.of.F L.draw
  have GI : FnOk P w K mg base CX0 (k + 3) fIm dIm ["_law_shuts", "_law_turn", "_law_sides_here"] spLImg := ok_limg U.mz L.img.F L.letters L.oth L.bys
  have GT : FnOk P w K mg base CX0 (k + 3) fSt dSt ["_law_d", "_law_shuts"] spSomeT := ok_someT B L.st.F L.draw L.mixed
  have GL : FnOk P w K mg base CX0 (k + 3) fLSi dLSi ["_law_d", "_law_shuts"] spLSides := ok_lsides T.B L.lsi.F L.draw L.of
  have GTu : FnOk P w K mg base CX0 (k + 7) fTu dTu ["hall", "turn", "room"] (spTurned C) := ok_turned T.B L.many Z M Y.Y T.cs T.S T.O T.Y U L.cr L.tu.F
  have GOv : FnOk P w K mg base CX0 (k + 7) fOv dOv ["hall", "turn", "part"] (spOver C) := ok_over T.B Z Y.Y T.cs T.S T.O T.Y U Y.isP Y.chP L.ovr.F
  have GBh : FnOk P w K mg base CX0 (k + 7) fBh dBh ["hall", "one", "two"] (spBehind C) := ok_behind T.B Z Y.Y T.cs T.S T.O T.Y U L.bh.F
  have GBk : FnOk P w K mg base CX0 (k + 7) fBk dBk ["hall", "turn"] (spBack C) := ok_back T.B Z Y.Y T.cs T.S T.O T.Y U L.bk.F
  have GIs : FnOk P w K mg base CX0 (k + 5) fIs dIs ["hall", "turn"] (spIsTurn C) := ok_isTurn B U.mz Z Y.Y T.cs T.S T.O T.Y U.so U.ke U.go U.is_.F
  have GS1 : FnOk P w K mg base CX0 (k + 3) fSame dSame ["_law_x", "_law_due"] (spYes 1) := ok_yes T.B L.mb L.ms L.same 1
  have GH : FnOk P w K mg base (L2.CX P w) (k + 5) fi di ["self", "walls", "bars"] (spHinitA K C CB CF CA) := ok_HinitA Z T
  refine F.ok scLTR (fun vs H Q E h => ?_) (fun cdv A outer st H vs Q E hr h => ?_)
  · obtain ⟨d, l, rfl, _⟩ := h
    rfl
  · obtain ⟨d, l, rfl, hD, g, h2, q⟩ := h
    have r1 : Room (k + 1) _ := hr.mono (by omega)
    have r2 : Room (k + 2) _ := hr.mono (by omega)
    have r3 : Room (k + 3) _ := hr.mono (by omega)
    have r5 : Room (k + 5) _ := hr.mono (by omega)
    have r6 : Room (k + 6) _ := hr.mono (by omega)
    have nd := scLTR.nd
    refine ⟨_, pss_cons (ps_asg (pe_tup (pa_cons (pe_make (E := E0) Z.mks GH r6 rfl Z.gC ZD (.cons (show L2.RelV (V.ref e) (Value.ref e) from rfl) .nil) passF (pa_cons (pv 1) pa_nil)) (pa_cons (pe_call GT r3 rfl L.st.g L.st.F.kp L.st.b .nil pass0 (pa_cons (pv 0) (pa_cons (pv 1) pa_nil))) (pa_cons (pe_call GT r3 rfl L.st.g L.st.F.kp L.st.b .nil pass0 (pa_cons (pv 0) (pa_cons (pv 1) pa_nil))) pa_nil)))) (pg_tup rfl (pgs_cons (pg_name (i := 2) nd rfl (.inl rfl)) (pgs_cons (pg_name (i := 3) nd rfl (.inl rfl)) (pgs_cons (pg_name (i := 4) nd rfl (.inr rfl)) pgs_nil)))))
      (pss_cons (ps_set (i := 5) nd rfl (.inl rfl) (pe_join pe_str (pe_lc (own := [("_law_shut", 11)]) (g := gName 11) (tt := tYes) (te := tCall (spOf K) [] E0 (tCons (tVar 0) (tCons (tLst (tCons (tVar 11) (tCons (tUp (tVar 11)) tNil))) tNil))) rfl nd (pi_str (pv 1)) (blkOk_by (N := nLTR) (sc := defScope sLTR) (by decide +kernel)) (fun _ _ _ _ _ => pg_name (i := 11) nd rfl (Or.inl rfl)) (fun _ _ _ _ _ => pts_nil)
        (fun _ _ _ _ _ => pe_call GO r2 rfl L.of.g L.of.F.kp L.of.b .nil pass0 (pa_cons (pv 0) (pa_cons (pe_lst (pa_cons (pv 11) (pa_cons (pe_upper (pv 11)) pa_nil))) pa_nil))))))
      (pss_cons (ps_set (i := 6) nd rfl (.inl rfl) (pe_call GL r3 rfl L.lsi.g L.lsi.F.kp L.lsi.b .nil pass0 (pa_cons (pv 0) (pa_cons (pv 1) pa_nil))))
      (pss_cons (ps_set (i := 7) nd rfl (.inl rfl) (pe_call GI r3 rfl L.img.g L.img.F.kp L.img.b .nil pass0 (pa_cons (pv 1) (pa_cons (pv 3) (pa_cons (pv 5) pa_nil)))))
      (pss_cons (ps_if (pt_not (pt_val (pe_call GS1 r3 rfl L.same.g L.same.F.kp L.same.b .nil pass0 (pa_cons (pe_lst (pa_cons (pe_call GTu hr rfl L.tu.g L.tu.F.kp L.tu.b .nil pass0 (pa_cons (pv 2) (pa_cons (pv 3) (pa_cons (pv 5) pa_nil)))) (pa_cons (pe_call GOv hr rfl L.ovr.g L.ovr.F.kp L.ovr.b .nil pass0 (pa_cons (pv 2) (pa_cons (pv 3) (pa_cons (pv 6) pa_nil)))) pa_nil)))
        (pa_cons (pe_lst (pa_cons (pv 7) (pa_cons (pe_call GI r3 rfl L.img.g L.img.F.kp L.img.b .nil pass0 (pa_cons (pv 1) (pa_cons (pv 3) (pa_cons (pv 6) pa_nil)))) pa_nil))) pa_nil))))) (pss_one (ps_ret pe_bl)) pss_nil)
      (pss_cons (ps_set (i := 8) nd rfl (.inl rfl) (pe_join pe_str (pe_lc (own := [("_law_side", 12)]) (g := gName 12) (tt := tYes) (te := tCall spLImg [] E0 (tCons (tVar 1) (tCons (tVar 4) (tCons (tVar 12) tNil)))) rfl nd (pi_str (pv 3)) (blkOk_by (N := nLTR) (sc := defScope sLTR) (by decide +kernel)) (fun _ _ _ _ _ => pg_name (i := 12) nd rfl (Or.inl rfl)) (fun _ _ _ _ _ => pts_nil)
        (fun _ _ _ _ _ => pe_call GI r3 rfl L.img.g L.img.F.kp L.img.b .nil pass0 (pa_cons (pv 1) (pa_cons (pv 4) (pa_cons (pv 12) pa_nil)))))))
      (pss_cons (ps_set (i := 9) nd rfl (.inl rfl) (pe_call GBk hr rfl L.bk.g L.bk.F.kp L.bk.b .nil pass0 (pa_cons (pv 2) (pa_cons (pv 3) pa_nil))))
      (pss_cons (ps_if (pt_not (pt_val (pe_call GS1 r3 rfl L.same.g L.same.F.kp L.same.b .nil pass0 (pa_cons (pe_lst (pa_cons (pe_call GBh hr rfl L.bh.g L.bh.F.kp L.bh.b .nil pass0 (pa_cons (pv 2) (pa_cons (pv 3) (pa_cons (pv 4) pa_nil)))) (pa_cons (pe_call GTu hr rfl L.tu.g L.tu.F.kp L.tu.b .nil pass0 (pa_cons (pv 2) (pa_cons (pv 9) (pa_cons (pv 7) pa_nil)))) pa_nil)))
        (pa_cons (pe_lst (pa_cons (pv 8) (pa_cons (pv 5) pa_nil))) pa_nil))))) (pss_one (ps_ret pe_bl)) pss_nil)
      (pss_cons (ps_if (pt_not (pt_val (pe_call GS1 r3 rfl L.same.g L.same.F.kp L.same.b .nil pass0 (pa_cons (pe_lst (pa_cons (pe_call GBh hr rfl L.bh.g L.bh.F.kp L.bh.b .nil pass0 (pa_cons (pv 2) (pa_cons (pv 3) (pa_cons (pv 9) pa_nil)))) (pa_cons (pe_call GIs r5 rfl U.is_.g U.is_.F.kp U.is_.b .nil pass0 (pa_cons (pv 2) (pa_cons (pv 3) pa_nil))) pa_nil)))
        (pa_cons (pe_lst (pa_cons (pv 1) (pa_cons pe_bl pa_nil))) pa_nil))))) (pss_one (ps_ret pe_bl)) pss_nil)
      (pss_cons (ps_set (i := 10) nd rfl (.inl rfl) (pe_op op_add_str (pe_slice sl_str (pv 3) po_none (po_some (pe_un un_neg pe_int))) (pe_ix ix_str (pv 3) pe_int (fun _ _ => rfl))))
      (pss_one (ps_ret (pe_call GS1 r3 rfl L.same.g L.same.F.kp L.same.b .nil pass0 (pa_cons (pe_lst (pa_cons (pe_call GIs r5 rfl U.is_.g U.is_.F.kp U.is_.b .nil pass0 (pa_cons (pv 2) (pa_cons (pv 10) pa_nil))) (pa_cons (pe_call GIs r5 rfl U.is_.g U.is_.F.kp U.is_.b .nil pass0 (pa_cons (pv 2) (pa_cons (pe_op op_add_str (pv 3) (pe_ix ix_str (pv 3) pe_int (fun _ _ => rfl))) pa_nil))) pa_nil)))
        (pa_cons (pe_lst (pa_cons pe_bl (pa_cons pe_bl pa_nil))) pa_nil)))))))))))))), ?_⟩
    obtain ⟨oe, ne, ke, ce, de⟩ := eT
    have hE : ∀ {H' : Hp}, SqA K H' e ((([] : List (List Nat)).map tx).map V.str) := .inr (.inr ⟨oe, #[], ne, ke, ce, de, by decide, .nil⟩)
    obtain ⟨c0, hc0⟩ := hD.head
    obtain ⟨rr, hd1⟩ := id hc0
    have bar0 : ∀ b ∈ ([] : List (List Nat)), isBar l b = true := fun b hb => by cases hb
    have hl12 := g.hi
    refine ⟨_, rfl, fun x dx nx ndx nne => ?_⟩
    have s8 : Same H (upd (upd H dx (.own x)) x (.ins C dx [])) := sm_upd (same_upd ndx) (by rw [upd_ne (Ne.symm nne)]; exact nx)
    refine ⟨x, dx, l, e, [], rfl, upd_same, g, fun b hb => (by cases hb), by decide, hE, ?_⟩
    rw [show firstBad l [] = none from rfl]
    intro fo hfo
    have foI := hfo.iff g bar0
    rw [okv_nil g fo foI]
    intro H2 sb D ys s9 nsb nD hat hp hso
    have s2 : Same H H2 := fun b o hb => s9 b o (ne_of_none hb nx) (s8 b o hb)
    have nsd : sb ≠ d := Ne.symm (ne_of_none (s8 _ _ hd1) nsb)
    have S2 : StH d C x dx sb D l ys fo H2 := ⟨hD.same s2, hat⟩
    have nfs : ∀ s ∈ sds l, fo s = byWT l (fo s) := fun s hs => hfo.nf g hs
    have hN : ∀ {H'}, StH d C x dx sb D l ys fo H' → HallN C H' x dx sb D l ys fo [] := fun S => ⟨⟨⟨S.hA, g, bar0, hp, by decide, okv_nil g⟩, foI, fun s hs => hfo.len g hs⟩, nfs⟩
    have tokA : ∀ {t}, Trn l t → TurnOk l [] t := fun T => bars_turn g T bar0 List.nodup_nil (fun b hb => by cases hb)
    refine ⟨rfl, ?_⟩
    refine ⟨_, rfl, _, rfl, d, l, rfl, S2.dr, g, fun H3 t s3 D3 TT => ?_⟩
    have S3 := S2.smd nsd s3 D3
    refine ⟨_, rfl, _, rfl, d, l, rfl, S3.dr, g, fun H4 u s4 D4 UU => ?_⟩
    have S4 := S3.smd nsd s4 D4
    have tok := tokA TT
    have uok := tokA UU
    have tsd : ∀ s ∈ t, s ∈ sds l := fun s hs => trn_sd g TT hs
    have tlt : ∀ c ∈ t, isLt c := fun c hc => sds_lt g (trn_sd g TT hc)
    have tl := TT.len
    have ult : ∀ c ∈ u, isLt c := fun c hc => sds_lt g (trn_sd g UU hc)
    have ul := UU.len
    refine ⟨by show 3 ≤ sizeLine; decide, fun T2 nT2 => ⟨T2, _, rfl, SqT.of upd_same, rfl, _, _, rfl, _, _, rfl, _, _, rfl, rfl, ?_⟩⟩
    have S5 := S4.same (same_upd nT2 (o := .tup [.ref x, .str (tx t), .str (tx u)]))
    have u05 : SmD d H (upd H4 T2 (.tup [.ref x, .str (tx t), .str (tx u)])) := (((SmD.of s2).trans s3).trans s4).trans (SmD.of (same_upd nT2))
    generalize (upd H4 T2 (.tup [.ref x, .str (tx t), .str (tx u)])) = H5 at S5 u05 ⊢
    -- a drawn room
    refine ⟨⟨_, rfl⟩, _, rfl, tx l, rfl, fun Da na => ?_⟩
    have wk := walk_str (z := tx l)
    rw [show (tx l).cps.size = l.length from tx_len _] at wk
    have nDd : Da ≠ d := S5.dr.ne na
    refine lc_it wk (fun i H' => SmD d H5 H' ∧ Dr H' d ∧ ∃ r : List Nat, H' Da = some (.lst ((r.map sg).map V.str)) ∧ r.map lwc = l.take i) ⟨SmD.of (same_upd na), S5.dr.same (same_upd na), [], upd_same, rfl⟩ (fun _ _ _ _ => trivial) ?_ ?_
    · rintro i v G1 G2 hi ⟨v1, E1, r, et, ht⟩ ⟨rfl, c, hc, rfl⟩
      have hc : l[i]? = some c := by
        rw [← Array.getElem?_toList, tx_list] at hc
        exact hc
      have cs := g.sm c (List.mem_of_getElem? hc)
      have tl : r.length = i := by
        have := congrArg List.length ht
        rw [List.length_map, List.length_take] at this
        omega
      refine ⟨rfl, yes_i ⟨_, rfl, _, rfl, _, rfl, ⟨_, rfl⟩, _, rfl, rfl, by show 1 ≤ 5592405; decide, ?_⟩⟩
      rw [show Txt.upper (⟨#[c]⟩ : Str) = ⟨#[swp c]⟩ from upper_sg cs]
      refine ⟨by show 2 ≤ sizeLine; decide, fun T nT => ?_⟩
      have s3 : Same G2 (upd G2 T (.lst [.str ⟨#[c]⟩, .str ⟨#[swp c]⟩])) := same_upd nT
      have nTd := E1.ne nT
      refine ⟨d, _, rfl, E1.same s3, .inl ⟨T, _, rfl, nTd, SqL.of upd_same, by show 1 ≤ 2; decide, by show 2 ≤ 1000; decide, fun G3 w0 j u3 E3 hv => ?_⟩⟩
      obtain ⟨e0, he, rfl⟩ : ∃ e0, lwc e0 = c ∧ w0 = .str (sg e0) := by
        match j, hv with
        | 0, hv => cases hv; exact ⟨c, lwc_small cs, rfl⟩
        | 1, hv => cases hv; exact ⟨swp c, by rw [lwc_swp (.inl cs), lwc_small cs], rfl⟩
      have u13 : SmD d H5 G3 := (v1.trans (SmD.of s3)).trans u3
      have et3 := u3.1 _ _ nDd (s3 _ _ et)
      refine ⟨_, et3, by rw [List.length_map, List.length_map, sizeLine_eq]; omega, ?_⟩
      obtain ⟨u5, E5⟩ := ds_over (o := .lst ((r.map sg).map V.str ++ [.str (sg e0)])) S5.dr u13 E3 na
      refine ⟨u5, E5, r ++ [e0], by rw [upd_same, List.map_append, List.map_append]; rfl, ?_⟩
      rw [List.map_append, ht, List.take_add_one, hc]
      show _ ++ [lwc e0] = _
      rw [he]
      rfl
    rintro H6 ⟨v6, D6, r, er, hr6⟩
    rw [List.take_length] at hr6
    have rl : r.length = l.length := by
      have := congrArg List.length hr6
      rw [List.length_map] at this
      exact this
    refine ⟨_, _, r.map sg, rfl, rfl, .inl (SqL.of er), ?_, ?_⟩
    · rw [sum_sgs, show (Str.ofString "").length = 0 by decide +kernel]
      omega
    rw [join_sg]
    have S6 := S5.smd nsd v6 D6
    have u06 := u05.trans v6
    have hm : r ∈ rms l [] := List.mem_filter.mpr ⟨(room_low g r).mpr hr6, rfl⟩
    have rsd := rms_sd g bar0 hm
    have rri := rms_ris g bar0 hm
    refine ⟨_, rfl, _, rfl, d, l, rfl, S6.dr, g, fun H7 p v7 D7 pP => ?_⟩
    have S7 := S6.smd nsd v7 D7
    have u07 := u06.trans v7
    have psd := pP.sd
    have pri : Ris p := List.pairwise_map.mp (g.rise.sublist pP.sub)
    have plen := pP.len
    refine ⟨_, rfl, _, rfl, _, rfl, l, t, r, rfl, g, tl, tlt, rsd, by omega, fun H8 s8' => ?_⟩
    rw [im_is g TT rsd (ris_nd rri)]
    have S8 := S7.same s8'
    refine ⟨_, rfl, _, rfl, _, rfl, x, dx, sb, D, l, ys, fo, [], t, r, rfl, hN S8, tok, hm, fun H9 s9' => ?_⟩
    have S9 := S8.same s9'
    refine ⟨_, rfl, _, rfl, _, rfl, x, dx, sb, D, l, ys, fo, [], t, p, rfl, hN S9, tok, pP, fun Ha sa => ?_⟩
    have Sa := S9.same sa
    refine ⟨by show 2 ≤ sizeLine; decide, fun p1 np1 => ?_⟩
    have Sb := Sa.same (same_upd np1 (o := .lst [.str (tx (imL l t r)), .str (tx (imL l t p))]))
    refine ⟨_, rfl, _, rfl, _, rfl, _, rfl, l, t, p, rfl, g, tl, tlt, psd, by omega, fun Hc sc => ?_⟩
    rw [im_is g TT psd (ris_nd pri)]
    have Sc := Sb.same sc
    refine ⟨by show 2 ≤ sizeLine; decide, fun p2 np2 => ?_⟩
    have Sd := Sc.same (same_upd np2 (o := .lst [.str (tx (imL l t r)), .str (tx (imL l t p))]))
    refine ⟨_, _, rfl, Alk.strs (xs := [tx (imL l t r), tx (imL l t p)]) (by rw [upd_ne (ne_of_none (sc _ _ upd_same) np2), sc _ _ upd_same]; rfl) upd_same (by show 2 ≤ 5000; decide), fun He se => ⟨_, rfl, iteF ?_⟩⟩
    have Se := Sd.same se
    have u0e : SmD d H He := u07.trans (SmD.of (sm_trans (sm_trans (sm_trans (sm_trans (sm_trans s8' s9') sa) (same_upd np1)) sc) (sm_trans (same_upd np2) se)))
    -- what is gone over behind
    refine ⟨⟨_, rfl⟩, _, rfl, tx t, rfl, fun Db nb => ?_⟩
    have wkt := walk_str (z := tx t)
    rw [show (tx t).cps.size = t.length from tx_len _] at wkt
    refine lc_it wkt (fun i H' => Same He H' ∧ H' Db = some (.lst ((((t.take i).map (ov l u)).map sg).map V.str))) ⟨same_upd nb, upd_same⟩ (fun _ _ _ _ => trivial) ?_ ?_
    · rintro i v G1 G2 hi ⟨u1, e1⟩ ⟨rfl, c, hc, rfl⟩
      have hc : t[i]? = some c := by
        rw [← Array.getElem?_toList, tx_list] at hc
        exact hc
      have hcs := tsd c (List.mem_of_getElem? hc)
      refine ⟨rfl, yes_i ⟨_, rfl, _, rfl, _, rfl, l, u, [c], rfl, g, ul, ult, fun s hs => by rw [List.mem_singleton.mp hs]; exact hcs, by show 1 ≤ 100; decide, fun G3 u3 => ?_⟩⟩
      rw [im_one g UU hcs]
      refine ⟨_, u3 _ _ e1, ?_, sm_over (sm_trans u1 u3) nb, ?_⟩
      · rw [List.length_map, List.length_map, List.length_map, List.length_take, sizeLine_eq]
        omega
      · rw [upd_same, List.take_add_one, hc, List.map_append, List.map_append, List.map_append]
        rfl
    rintro Hf ⟨sf, ef⟩
    rw [List.take_length] at ef
    refine ⟨_, _, (t.map (ov l u)).map sg, rfl, rfl, .inl (SqL.of ef), ?_, ?_⟩
    · rw [sum_sgs, List.length_map, show (Str.ofString "").length = 0 by decide +kernel]
      omega
    rw [join_sg]
    have Sf := Se.same sf
    have TB := bk_ok g bar0 tok
    refine ⟨_, rfl, _, rfl, x, dx, sb, D, l, ys, fo, [], t, rfl, hN Sf, tok, fun Hg sg' => ?_⟩
    have Sg := Sf.same sg'
    refine ⟨_, rfl, _, rfl, _, rfl, x, dx, sb, D, l, ys, fo, [], t, u, rfl, hN Sg, tok, uok, fun Hh sh => ?_⟩
    have Sh := Sg.same sh
    refine ⟨_, rfl, _, rfl, _, rfl, x, dx, sb, D, l, ys, fo, [], bkT l t, imL l t r, rfl, hN Sh, TB, tok.2 r hm, fun Hi si => ?_⟩
    rw [bk_im g TT rsd rri]
    have Si := Sh.same si
    refine ⟨by show 2 ≤ sizeLine; decide, fun p3 np3 => ?_⟩
    have Sj := Si.same (same_upd np3 (o := .lst [.str (tx (t.map (ov l u))), .str (tx r)]))
    refine ⟨_, rfl, _, rfl, by show 2 ≤ sizeLine; decide, fun p4 np4 => ?_⟩
    have Sk := Sj.same (same_upd np4 (o := .lst [.str (tx (t.map (ov l u))), .str (tx r)]))
    refine ⟨_, _, rfl, Alk.strs (xs := [tx (t.map (ov l u)), tx r]) (by rw [upd_ne (ne_of_none upd_same np4), upd_same]; rfl) upd_same (by show 2 ≤ 5000; decide), fun Hl sl => ⟨_, rfl, iteF ?_⟩⟩
    have Sl := Sk.same sl
    have u0l : SmD d H Hl := u0e.trans (SmD.of (sm_trans (sm_trans (sm_trans (sm_trans sf sg') (sm_trans sh si)) (same_upd np3)) (sm_trans (same_upd np4) sl)))
    -- home again; it is a turn
    refine ⟨_, rfl, _, rfl, _, rfl, x, dx, sb, D, l, ys, fo, [], t, bkT l t, rfl, hN Sl, tok, TB, fun Hm sm => ?_⟩
    rw [behind_bk g TT]
    have Sm := Sl.same sm
    have tasc : ∀ c ∈ t, c < 128 := fun c hc => (tlt c hc).asc
    refine ⟨_, rfl, _, rfl, x, dx, sb, D, l, ys, fo, [], t, rfl, hN Sm, tasc, by omega, fun Hn b sn hb => ?_⟩
    have e1 : b = true := hb.mpr tok
    subst e1
    have Sn := Sm.same sn
    refine ⟨by show 2 ≤ sizeLine; decide, fun p5 np5 => ?_⟩
    have So := Sn.same (same_upd np5 (o := .lst [.str (tx l), .bl true]))
    refine ⟨_, rfl, by show 2 ≤ sizeLine; decide, fun p6 np6 => ?_⟩
    have Sp' := So.same (same_upd np6 (o := .lst [.str (tx l), .bl true]))
    refine ⟨_, _, rfl, Alk.flat (xs := [.str (tx l), .bl true]) (by rw [upd_ne (ne_of_none upd_same np6), upd_same]) upd_same (by show 2 ≤ 5000; decide) (fun x hx => by
      rcases List.mem_cons.mp hx with rfl | hx
      · exact .inl ⟨_, rfl⟩
      · rw [List.mem_singleton.mp hx]; exact .inr (.inl ⟨_, rfl⟩)), fun Hq sq => ⟨_, rfl, iteF ?_⟩⟩
    have Sq := Sp'.same sq
    have u0q : SmD d H Hq := u0l.trans (SmD.of (sm_trans (sm_trans sm sn) (sm_trans (sm_trans (same_upd np5) (same_upd np6)) sq)))
    -- twice one wall: no turn
    have ht0 : 0 < t.length := by omega
    obtain ⟨t0, tr, htt⟩ : ∃ t0 tr, t = t0 :: tr := by
      cases h : t with
      | nil => rw [h] at ht0; exact absurd ht0 (by decide)
      | cons a b => exact ⟨a, b, rfl⟩
    have hat0 : atI (tx t).cps.toList 0 = some t0 := by
      rw [tx_list, htt]
      exact atI_nat (j := 0) (xs := t0 :: tr) rfl
    have tz : (tx t).length ≤ sizeLine := by rw [tx_len, sizeLine_eq]; omega
    have ecut : cutS (tx t) none (some (-1)) = tx (t.take (t.length - 1)) := by
      unfold cutS
      rw [HT.sIx_none, tx_list, tx_len]
      show Str.mk _ = Str.mk _
      congr 1
      rw [List.drop_zero, Nat.sub_zero]
      show (t.take (((-1 : Int) + (t.length : Int)).toNat)).toArray = _
      rw [show ((-1 : Int) + (t.length : Int)).toNat = t.length - 1 by omega]
    have tl1 : (t.take (t.length - 1) ++ [t0]).length = t.length := by rw [List.length_append, List.length_take, List.length_singleton]; omega
    refine ⟨_, rfl, _, rfl, _, rfl, tx t, rfl, tz, ?_⟩
    rw [show (-(1 : Int)) = -1 from rfl, ecut]
    refine ⟨_, rfl, tx t, 0, t0, rfl, rfl, tz, hat0, _, _, rfl, rfl, ?_, ?_⟩
    · rw [tx_len, List.length_take, sizeLine_eq]
      show _ + 1 ≤ _
      omega
    rw [show (⟨#[t0]⟩ : Str) = tx [t0] from rfl, tx_app]
    have a1 : ∀ c ∈ t.take (t.length - 1) ++ [t0], c < 128 := fun c hc => by
      rcases List.mem_append.mp hc with z | z
      · exact tasc c (List.mem_of_mem_take z)
      · rw [List.mem_singleton.mp z]; exact tasc t0 (by rw [htt]; exact List.mem_cons_self ..)
    have a2 : ∀ c ∈ t ++ [t0], c < 128 := fun c hc => by
      rcases List.mem_append.mp hc with z | z
      · exact tasc c z
      · rw [List.mem_singleton.mp z]; exact tasc t0 (by rw [htt]; exact List.mem_cons_self ..)
    have n1 : ¬ TurnOk l [] (t.take (t.length - 1) ++ [t0]) := fun z => by
      have ndp : ((t.take (t.length - 1) ++ [t0]).map lwc).Nodup := z.1.pm.symm.nodup g.nd
      obtain ⟨m, hm'⟩ : ∃ m, t.length - 1 = m + 1 := ⟨t.length - 2, by omega⟩
      rw [hm', htt, List.take_succ_cons, List.cons_append, List.map_cons] at ndp
      exact (List.nodup_cons.mp ndp).1 (List.mem_map.mpr ⟨t0, List.mem_append_right _ (List.mem_singleton.mpr rfl), rfl⟩)
    have n2 : ¬ TurnOk l [] (t ++ [t0]) := fun z => by
      have := z.1.len
      rw [List.length_append, List.length_singleton] at this
      omega
    refine ⟨_, rfl, _, rfl, x, dx, sb, D, l, ys, fo, [], _, rfl, hN Sq, a1, by omega, fun Hr b1 sr hb1 => ?_⟩
    have e2 : b1 = false := by
      cases b1 with
      | false => rfl
      | true => exact absurd (hb1.mp rfl) n1
    subst e2
    have Sr := Sq.same sr
    refine ⟨_, rfl, _, rfl, _, rfl, tx t, 0, t0, rfl, rfl, tz, hat0, _, _, rfl, rfl, ?_, ?_⟩
    · rw [tx_len, sizeLine_eq]
      show _ + 1 ≤ _
      omega
    rw [show (⟨#[t0]⟩ : Str) = tx [t0] from rfl, tx_app]
    refine ⟨x, dx, sb, D, l, ys, fo, [], _, rfl, hN Sr, a2, by rw [List.length_append, List.length_singleton]; omega, fun Hs b2 ss hb2 => ?_⟩
    have e3 : b2 = false := by
      cases b2 with
      | false => rfl
      | true => exact absurd (hb2.mp rfl) n2
    subst e3
    refine ⟨by show 2 ≤ sizeLine; decide, fun p7 np7 => ?_⟩
    refine ⟨by show 2 ≤ sizeLine; decide, fun p8 np8 => ?_⟩
    refine ⟨_, _, rfl, Alk.flat (xs := [.bl false, .bl false]) (by rw [upd_ne (ne_of_none upd_same np8), upd_same]) upd_same (by show 2 ≤ 5000; decide) (fun x hx => by
      rcases List.mem_cons.mp hx with rfl | hx
      · exact .inr (.inl ⟨_, rfl⟩)
      · rw [List.mem_singleton.mp hx]; exact .inr (.inl ⟨_, rfl⟩)), fun Ht st' => ?_⟩
    have u0t := u0q.trans (SmD.of (sm_trans (sm_trans sr ss) (sm_trans (sm_trans (same_upd np7) (same_upd np8)) st')))
    have St := (((Sr.same ss).same (same_upd np7)).same (same_upd np8)).same st'
    exact q _ u0t St.dr
end
end NC
namespace NC
open PySem PySem.Spec PyProof.Rows L2
/-- the room of a chain: the first k walls great, the others small -/
def chR (l : List Nat) (k : Nat) : List Nat := (l.take k).map upc ++ l.drop k
/-- the bars of a chain: each small side forces the next small one -/
def chn (l : List Nat) : List (List Nat) := (List.range (l.length - 1)).map fun k => [l.getD k 0, upc (l.getD (k + 1) 0)]
theorem chR_len (l : List Nat) (k : Nat) : (chR l k).length = l.length := by
  unfold chR
  rw [List.length_append, List.length_map, List.length_take, List.length_drop]
  omega
theorem chR_get {l : List Nat} {k i : Nat} (hi : i < l.length) : (chR l k).getD i 0 = if i < k then upc (l.getD i 0) else l.getD i 0 := by
  unfold chR
  have e : l.getD i 0 = l[i] := by simp [List.getD, hi]
  rw [List.getD_eq_getElem?_getD, e]
  by_cases h : i < k
  · rw [if_pos h, List.getElem?_append_left (by rw [List.length_map, List.length_take]; omega), List.getElem?_map, List.getElem?_take_of_lt h, List.getElem?_eq_getElem hi]
    rfl
  · rw [if_neg h, List.getElem?_append_right (by rw [List.length_map, List.length_take]; omega), List.getElem?_drop, List.length_map, List.length_take]
    rw [show k + (i - min k l.length) = i by omega, List.getElem?_eq_getElem hi]
    rfl
theorem ext_getD {a b : List Nat} (h : a.length = b.length) (e : ∀ i, i < a.length → a.getD i 0 = b.getD i 0) : a = b := by
  refine List.ext_getElem h fun i h1 h2 => ?_
  have := e i h1
  simpa [List.getD, h1, h2] using this
section
variable {l : List Nat} (g : GoodW l)
include g
theorem ch_sm {i : Nat} (hi : i < l.length) : 97 ≤ l.getD i 0 ∧ l.getD i 0 ≤ 122 ∧ l.getD i 0 ∈ l := by
  have e : l.getD i 0 = l[i] := by simp [List.getD, hi]
  rw [e]
  have m : l[i] ∈ l := List.getElem_mem hi
  exact ⟨(g.sm _ m).1, (g.sm _ m).2, m⟩
theorem ch_lt {i j : Nat} (hij : i < j) (hj : j < l.length) : l.getD i 0 < l.getD j 0 := by
  have hi : i < l.length := by omega
  rw [show l.getD i 0 = l[i] by simp [List.getD, hi], show l.getD j 0 = l[j] by simp [List.getD, hj]]
  exact List.pairwise_iff_getElem.mp g.rise i j hi hj hij
theorem ch_inj {i j : Nat} (hi : i < l.length) (hj : j < l.length) (e : l.getD i 0 = l.getD j 0) : i = j := by
  rcases Nat.lt_trichotomy i j with h | h | h
  · have := ch_lt g h hj; omega
  · exact h
  · have := ch_lt g h hi; omega
theorem up_ne {i : Nat} (hi : i < l.length) : upc (l.getD i 0) ≠ l.getD i 0 := by
  have := ch_sm g hi
  rw [upc_small ⟨this.1, this.2.1⟩]
  omega
theorem up_lt {i : Nat} (hi : i < l.length) : upc (l.getD i 0) < l.getD i 0 := by
  have := ch_sm g hi
  rw [upc_small ⟨this.1, this.2.1⟩]
  omega
theorem chR_inj {a b : Nat} (ha : a ≤ l.length) (hb : b ≤ l.length) (e : chR l a = chR l b) : a = b := by
  rcases Nat.lt_trichotomy a b with h | h | h
  · have e2 : (chR l a).getD a 0 = (chR l b).getD a 0 := by rw [e]
    rw [chR_get (by omega), chR_get (by omega), if_neg (by omega), if_pos h] at e2
    exact absurd e2.symm (up_ne g (by omega))
  · exact h
  · have e2 : (chR l a).getD b 0 = (chR l b).getD b 0 := by rw [e]
    rw [chR_get (by omega), chR_get (by omega), if_pos h, if_neg (by omega)] at e2
    exact absurd e2 (up_ne g (by omega))
theorem chn_bar : ∀ b ∈ chn l, isBar l b = true := fun b hb => by
  unfold chn at hb
  obtain ⟨k, hk, rfl⟩ := List.mem_map.mp hb
  have hk := List.mem_range.mp hk
  have h1 := ch_sm g (i := k) (by omega)
  have h2 := ch_sm g (i := k + 1) (by omega)
  have h3 := ch_lt g (i := k) (j := k + 1) (by omega) (by omega)
  have u := upc_small ⟨h2.1, h2.2.1⟩
  unfold isBar
  rw [Bool.and_eq_true, Bool.and_eq_true, decide_eq_true_eq, decide_eq_true_eq, decide_eq_true_eq]
  refine ⟨sds_of_small h1.2.2, by rw [u]; exact sds_of_great g h2.2.2, ?_⟩
  rw [u]
  unfold lwc
  rw [if_neg (by omega), if_pos (by omega)]
  omega
theorem chn_nd : (chn l).Nodup := by
  unfold chn
  refine List.pairwise_map.mpr ((List.pairwise_lt_range).imp_of_mem fun {a b} ha hb h e => ?_)
  have hb := List.mem_range.mp hb
  have e1 := (List.cons.inj e).1
  have := ch_lt g h (by omega)
  omega
omit g in
theorem chn_len : (chn l).length = l.length - 1 := by unfold chn; rw [List.length_map, List.length_range]
omit g in
theorem thr (f : Nat → Bool) : ∀ n, (∀ i, i + 1 < n → f i = true → f (i + 1) = true) → ∃ k, k ≤ n ∧ ∀ i, i < n → f i = decide (k ≤ i)
  | 0, _ => ⟨0, Nat.le_refl _, fun i h => absurd h (Nat.not_lt_zero _)⟩
  | n + 1, mono => by
    obtain ⟨k, hk, e⟩ := thr f n fun i h => mono i (by omega)
    cases z : f n with
    | true =>
      refine ⟨k, by omega, fun i hi => ?_⟩
      by_cases h : i < n
      · exact e i h
      · rw [show i = n by omega, z, decide_eq_true (by omega)]
    | false =>
      have hkn : k = n := by
        by_cases h : k < n
        · exfalso
          have h1 := e (n - 1) (by omega)
          rw [decide_eq_true (by omega)] at h1
          have h2 := mono (n - 1) (by omega) h1
          rw [show n - 1 + 1 = n by omega, z] at h2
          cases h2
        · omega
      refine ⟨n + 1, Nat.le_refl _, fun i hi => ?_⟩
      by_cases h : i < n
      · rw [e i h, hkn, decide_eq_false (by omega), decide_eq_false (by omega)]
      · rw [show i = n by omega, z, decide_eq_false (by omega)]
theorem in_drop {i k : Nat} (hi : i < l.length) : l.getD i 0 ∈ l.drop k ↔ k ≤ i := by
  constructor
  · intro h
    obtain ⟨j, hj, e⟩ := List.getElem_of_mem h
    rw [List.length_drop] at hj
    rw [List.getElem_drop] at e
    have : l.getD (k + j) 0 = l.getD i 0 := by rw [← e]; simp [List.getD, show k + j < l.length by omega]
    have := ch_inj g (by omega) hi this
    omega
  · intro h
    have e : l.getD i 0 = (l.drop k)[i - k]'(by rw [List.length_drop]; omega) := by
      rw [List.getElem_drop]
      simp [List.getD, hi, show k + (i - k) = i by omega]
    rw [e]
    exact List.getElem_mem _
theorem chn_rms (r : List Nat) : r ∈ rms l (chn l) ↔ ∃ k, k ≤ l.length ∧ r = chR l k := by
  rw [rms_mem g (chn_bar g)]
  constructor
  · rintro ⟨p, rfl, sat⟩
    obtain ⟨k, hk, e⟩ := thr (fun i => p (l.getD i 0)) l.length fun i hi h => by
      have h1 := ch_sm g (i := i) (by omega)
      have h2 := ch_sm g (i := i + 1) hi
      have := sat (l.getD i 0) (upc (l.getD (i + 1) 0)) (List.mem_map.mpr ⟨i, List.mem_range.mpr (by omega), rfl⟩)
      rw [upc_small ⟨h2.1, h2.2.1⟩, val_small ⟨h1.1, h1.2.1⟩, val_great ⟨h2.1, h2.2.1⟩] at this
      cases z : p (l.getD (i + 1) 0) with
      | true => rfl
      | false => exact absurd ⟨h, by rw [z]; rfl⟩ this
    refine ⟨k, hk, ext_getD (by rw [chR_len, rm_len]) fun i hi => ?_⟩
    rw [rm_len] at hi
    rw [rm_get hi, chR_get hi]
    have e2 := e i hi
    rw [show l.getD i 0 = l[i] by simp [List.getD, hi]] at e2 ⊢
    by_cases h : i < k
    · rw [if_pos h, if_neg]
      show ¬ p l[i] = true
      have e3 : p l[i] = decide (k ≤ i) := e2
      rw [e3, decide_eq_false (by omega)]
      simp
    · rw [if_neg h, if_pos]
      have e3 : p l[i] = decide (k ≤ i) := e2
      rw [e3, decide_eq_true (by omega)]
  · rintro ⟨k, hk, rfl⟩
    refine ⟨fun c => decide (c ∈ l.drop k), ext_getD (by rw [chR_len, rm_len]) fun i hi => ?_, fun x y hxy => ?_⟩
    · rw [chR_len] at hi
      rw [rm_get hi, chR_get hi]
      have e2 := in_drop g (k := k) hi
      rw [show l.getD i 0 = l[i] by simp [List.getD, hi]] at e2 ⊢
      by_cases h : i < k
      · rw [if_pos h, if_neg (by rw [decide_eq_true_eq, e2]; omega)]
      · rw [if_neg h, if_pos (by rw [decide_eq_true_eq, e2]; omega)]
    · obtain ⟨j, hj, e⟩ := List.mem_map.mp hxy
      have hj := List.mem_range.mp hj
      have h1 := ch_sm g (i := j) (by omega)
      have h2 := ch_sm g (i := j + 1) (by omega)
      have e1 := (List.cons.inj e).1
      have e3 := (List.cons.inj (List.cons.inj e).2).1
      rw [← e1, ← e3, upc_small ⟨h2.1, h2.2.1⟩, val_small ⟨h1.1, h1.2.1⟩, val_great ⟨h2.1, h2.2.1⟩]
      rintro ⟨a, b⟩
      rw [decide_eq_true_eq, in_drop g (by omega)] at a
      have : l.getD (j + 1) 0 ∈ l.drop k := (in_drop g (by omega)).mpr (by omega)
      rw [decide_eq_true this] at b
      cases b
theorem chR_mem {k i : Nat} (hi : i < l.length) : ((chR l k).getD i 0) ∈ chR l k := by
  have h : i < (chR l k).length := by rw [chR_len]; exact hi
  rw [show (chR l k).getD i 0 = (chR l k)[i] by simp [List.getD, h]]
  exact List.getElem_mem _
theorem chn_fine : Fine l (rms l (chn l)) where
  has c hc := by
    have h0 : chR l 0 ∈ rms l (chn l) := (chn_rms g _).mpr ⟨0, Nat.zero_le _, rfl⟩
    have hn : chR l l.length ∈ rms l (chn l) := (chn_rms g _).mpr ⟨_, Nat.le_refl _, rfl⟩
    refine ⟨⟨_, h0, by unfold chR; simpa using hc⟩, _, hn, fun z => ?_⟩
    unfold chR at z
    rw [List.take_length, List.drop_length, List.append_nil] at z
    obtain ⟨e, he, ee⟩ := List.mem_map.mp z
    have := g.sm c hc
    have h2 := g.sm e he
    rw [upc_small h2] at ee
    omega
  apart x y hxy := by
    unfold isBar at hxy
    rw [Bool.and_eq_true, Bool.and_eq_true, decide_eq_true_eq, decide_eq_true_eq, decide_eq_true_eq] at hxy
    obtain ⟨hx, hy, hlt⟩ := hxy
    obtain ⟨i, c, hc, ex⟩ := (sds_at g).mp hx
    obtain ⟨j, e, he, ey⟩ := (sds_at g).mp hy
    have hi : i < l.length := (List.getElem?_eq_some_iff.mp hc).1
    have hj : j < l.length := (List.getElem?_eq_some_iff.mp he).1
    have ec : l.getD i 0 = c := by rw [List.getD_eq_getElem?_getD, hc]; rfl
    have ee : l.getD j 0 = e := by rw [List.getD_eq_getElem?_getD, he]; rfl
    have sc := ch_sm g hi
    have se := ch_sm g hj
    rw [ec] at sc
    rw [ee] at se
    have wc : swp c = upc c := by rw [swp_small ⟨sc.1, sc.2.1⟩, upc_small ⟨sc.1, sc.2.1⟩]
    have we : swp e = upc e := by rw [swp_small ⟨se.1, se.2.1⟩, upc_small ⟨se.1, se.2.1⟩]
    have wwc : swp (swp c) = c := swp_swp (.inl ⟨sc.1, sc.2.1⟩)
    have wwe : swp (swp e) = e := swp_swp (.inl ⟨se.1, se.2.1⟩)
    have lc : lwc c = c ∧ lwc (swp c) = c := by rw [swp_small ⟨sc.1, sc.2.1⟩]; unfold lwc; rw [if_neg (by omega), if_pos (by omega)]; omega
    have le : lwc e = e ∧ lwc (swp e) = e := by rw [swp_small ⟨se.1, se.2.1⟩]; unfold lwc; rw [if_neg (by omega), if_pos (by omega)]; omega
    have hlt : c < e := by rcases ex with rfl | rfl <;> rcases ey with rfl | rfl <;> simp only [lc, le] at hlt <;> exact hlt
    have hij : i < j := by
      rcases Nat.lt_trichotomy i j with h | h | h
      · exact h
      · subst h; rw [ec] at ee; omega
      · have := ch_lt g h hi; rw [ec, ee] at this; omega
    have sm : ∀ k, k ≤ i → c ∈ chR l k := fun k hk => by
      have := chR_mem g (k := k) hi
      rwa [chR_get hi, if_neg (by omega), ec] at this
    have sg' : ∀ k, i < k → swp c ∈ chR l k := fun k hk => by
      have := chR_mem g (k := k) hi
      rwa [chR_get hi, if_pos (by omega), ec, ← wc] at this
    have tm : ∀ k, k ≤ j → e ∈ chR l k := fun k hk => by
      have := chR_mem g (k := k) hj
      rwa [chR_get hj, if_neg (by omega), ee] at this
    have mem : ∀ k, k ≤ l.length → chR l k ∈ rms l (chn l) := fun k hk => (chn_rms g _).mpr ⟨k, hk, rfl⟩
    have two : ∀ {a b : Nat} {r : List Nat}, a ∈ r → b ∈ r → inR [a, b] r = true := fun ha hb => inR_iff.mpr fun s hs => by
      rcases List.mem_cons.mp hs with rfl | h
      · exact ha
      · rw [List.mem_singleton.mp h]; exact hb
    rcases ex with rfl | rfl <;> rcases ey with rfl | rfl
    · exact ⟨_, mem 0 (Nat.zero_le _), .inl (two (sm 0 (Nat.zero_le _)) (tm 0 (Nat.zero_le _)))⟩
    · refine ⟨_, mem (i + 1) (by omega), .inr ?_⟩
      rw [wwe]
      exact two (sg' _ (by omega)) (tm _ (by omega))
    · exact ⟨_, mem (i + 1) (by omega), .inl (two (sg' _ (by omega)) (tm _ (by omega)))⟩
    · refine ⟨_, mem 0 (Nat.zero_le _), .inr ?_⟩
      rw [wwc, wwe]
      exact two (sm 0 (Nat.zero_le _)) (tm 0 (Nat.zero_le _))
end
end NC
namespace NC
open PySem PySem.Spec PyProof.Rows L2
/-- what way tells: from r on by doors, as written to z -/
structure Way (rs : List (List Nat)) (r : List Nat) (as : List (List Nat)) (z : List Nat) : Prop where
  head : (as ++ [z]).getD 0 [] = r
  all : ∀ x ∈ as ++ [z], x ∈ rs
  step : ∀ k, k < as.length → ham ((as ++ [z]).getD k []) ((as ++ [z]).getD (k + 1) []) = 1
theorem Way.more {rs : List (List Nat)} {r : List Nat} {as : List (List Nat)} {z n : List Nat} (h : Way rs r as z) (hn : n ∈ rs) (h1 : ham z n = 1) : Way rs r (as ++ [z]) n := by
  have old : ∀ k, k ≤ as.length → (as ++ [z] ++ [n]).getD k [] = (as ++ [z]).getD k [] := fun k hk => by
    rw [List.getD_eq_getElem?_getD, List.getD_eq_getElem?_getD, List.getElem?_append_left (by rw [List.length_append]; show k < as.length + 1; omega)]
  refine ⟨by rw [old 0 (Nat.zero_le _)]; exact h.head, fun x hx => ?_, fun k hk => ?_⟩
  · rcases List.mem_append.mp hx with e | e
    · exact h.all x e
    · rw [List.mem_singleton.mp e]; exact hn
  · rw [List.length_append] at hk
    have hk : k < as.length + 1 := hk
    rw [old k (by omega)]
    by_cases e : k < as.length
    · rw [old (k + 1) (by omega)]
      exact h.step k e
    · have e : k = as.length := by omega
      subst e
      have g1 : (as ++ [z]).getD as.length [] = z := by rw [List.getD_eq_getElem?_getD, List.getElem?_append_right (Nat.le_refl _)]; simp
      have g2 : (as ++ [z] ++ [n]).getD (as.length + 1) [] = n := by rw [List.getD_eq_getElem?_getD, List.getElem?_append_right (by simp)]; simp
      rw [g1, g2]
      exact h1
section
variable {P : Program} {w : World} {K : PySem.W.Frag} {mg : Str → Option Value} {base : Heap} {C fi fb fm fr fg : Addr} {di db dm dr dg : FuncData} {fO fc fdo fst fwa fne fU : Addr} {dO dc ddo dst dwa dne dU : FuncData}
def spHsteps (C : Addr) : Sp := fun vs H Q _ => ∃ x dx sb D l ys fo bs r o, vs = [.ref x, .str (tx r), .str (tx o)] ∧ HallG C H x dx sb D l ys fo bs ∧ r ∈ rms l bs ∧ o ∈ rms l bs ∧ ∀ H', Same H H' → Q (.int (ham r o : Nat)) H'
theorem ok_Hsteps {k : Nat} (B : BM mg) (hz : mg "zip" = none) (hany : mg "any" = none) (Z : HC K mg C fi fb di db) (M : HM K C fm fr fg dm dr dg) (Y : HW K C fdo fst fwa fne ddo dst dwa dne) (Ch : DF K mg "check_room" sChkRoom ["hall", "room"] fc dc) (U : DF K mg "unlike" sUnlike ["room", "goal"] fU dU) :
    FnOk P w K mg base CX0 (k + 3) fst dst ["self", "room", "goal"] (spHsteps C) := by
  have GC : FnOk P w K mg base CX0 (k + 2) fc dc ["hall", "room"] (spChkRoom C) := ok_chkRoom hany Z M Ch.F
  have GU : FnOk P w K mg base CX0 (k + 1) fU dU ["room", "goal"] spUnlike := ok_unlike B hz U.F
  refine Y.Fs.ok scHsteps (fun vs H Q E h => ?_) (fun cdv A outer st H vs Q E hr h => ?_)
  · obtain ⟨x, dx, sb, D, l, ys, fo, bs, r, o, rfl, _⟩ := h
    rfl
  · obtain ⟨x, dx, sb, D, l, ys, fo, bs, r, o, rfl, hG, hm, ho, q⟩ := h
    obtain ⟨rl, rlt⟩ := rms_lets hG.g r hm
    obtain ⟨ol, olt⟩ := rms_lets hG.g o ho
    have hl12 := hG.g.hi
    have r1 : Room (k + 1) _ := hr.mono (by omega)
    refine ⟨_, pss_cons (ps_expr (pe_call GC hr rfl Ch.g Ch.F.kp Ch.b .nil pass0 (pa_cons (pv 0) (pa_cons (pv 1) pa_nil))))
      (pss_cons (ps_expr (pe_call GC hr rfl Ch.g Ch.F.kp Ch.b .nil pass0 (pa_cons (pv 0) (pa_cons (pv 2) pa_nil))))
      (pss_one (ps_ret (pe_call GU r1 rfl U.g U.F.kp U.b .nil pass0 (pa_cons (pv 1) (pa_cons (pv 2) pa_nil)))))), ?_⟩
    refine ⟨_, rfl, _, rfl, x, dx, sb, D, l, ys, fo, bs, r, rfl, hG, hm, fun H1 s1 => ⟨_, rfl, _, rfl, x, dx, sb, D, l, ys, fo, bs, o, rfl, hG.same s1, ho, fun H2 s2 => ?_⟩⟩
    exact ⟨_, rfl, _, rfl, r, o, rfl, by omega, by omega, fun H3 s3 => q H3 (sm_trans (sm_trans s1 s2) s3)⟩
def spHnear (C : Addr) : Sp := fun vs H Q _ => ∃ x dx sb D l ys fo bs r o, vs = [.ref x, .str (tx r), .str (tx o)] ∧ HallG C H x dx sb D l ys fo bs ∧ r ∈ rms l bs ∧ o ∈ rms l bs ∧ r ≠ o ∧ ∀ H' n, Same H H' → n ∈ rms l bs → ham r n = 1 → ham r o = ham n o + 1 → Q (.str (tx n)) H'
set_option maxHeartbeats 2000000 in
theorem ok_Hnear {k : Nat} (B : BM mg) (hz : mg "zip" = none) (hany : mg "any" = none) (Z : HC K mg C fi fb di db) (M : HM K C fm fr fg dm dr dg) (Y : HW K C fdo fst fwa fne ddo dst dwa dne) (O : DF K mg "other" sOther ["side"] fO dO) (Ch : DF K mg "check_room" sChkRoom ["hall", "room"] fc dc) (U : DF K mg "unlike" sUnlike ["room", "goal"] fU dU) :
    FnOk P w K mg base CX0 (k + 4) fne dne ["self", "room", "goal"] (spHnear C) := by
  have GD : FnOk P w K mg base CX0 (k + 3) fdo ddo ["self", "room"] (spHdoors C) := ok_Hdoors (f := fdo) (fd := ddo) B hany Z M Y O Ch
  have GU : FnOk P w K mg base CX0 (k + 1) fU dU ["room", "goal"] spUnlike := ok_unlike B hz U.F
  refine Y.Fn.ok scHnear (fun vs H Q E h => ?_) (fun cdv A outer st H vs Q E hr h => ?_)
  · obtain ⟨x, dx, sb, D, l, ys, fo, bs, r, o, rfl, _⟩ := h
    rfl
  · obtain ⟨x, dx, sb, D, l, ys, fo, bs, r, o, rfl, hG, hm, ho, ne, q⟩ := h
    obtain ⟨rl, rlt⟩ := rms_lets hG.g r hm
    obtain ⟨ol, olt⟩ := rms_lets hG.g o ho
    have hl12 := hG.g.hi
    have nd := scHnear.nd
    have r1 : Room (k + 1) _ := hr.mono (by omega)
    refine ⟨_, pss_cons (ps_set (i := 3) nd rfl (.inr rfl) (pe_call GU r1 rfl U.g U.F.kp U.b .nil pass0 (pa_cons (pv 1) (pa_cons (pv 2) pa_nil))))
      (pss_one (ps_ret (pe_ix ix_list (pe_lc (own := [("behind", 4)]) (g := gName 4) (tt := tTest (tOp (rI0 fun i j => .bl (decide (i < j))) (tCall spUnlike [] E0 (tCons (tVar 4) (tCons (tVar 2) tNil))) (tVar 3))) rfl nd (pi_list (pe_meth (pv 0) Z.cl Y.md GD hr Y.bd .nil pass0 (pa_cons (pv 1) pa_nil)))
        (blkOk_by (N := nNear) (sc := defScope sHnear) (by decide +kernel)) (fun _ _ _ _ _ => pg_name (i := 4) nd rfl (Or.inl rfl))
        (fun _ _ _ _ _ => pts_one (pt_cmpR op_lt (pe_call GU r1 rfl U.g U.F.kp U.b .nil pass0 (pa_cons (pv 4) (pa_cons (pv 2) pa_nil))) (pv 3) (nomark _))) (fun _ _ _ _ _ => pv 4)) pe_int (fun _ _ => rfl)))), ?_⟩
    refine ⟨_, rfl, _, rfl, r, o, rfl, by omega, by omega, fun H1 s1 => ?_⟩
    have hG1 := hG.same s1
    refine ⟨_, rfl, x, dx, _, rfl, hG1.hA.x, rfl, _, rfl, x, dx, sb, D, l, ys, fo, bs, r, rfl, hG1, hm, fun H2 p s2 np e2 => ?_⟩
    have dm2 : ∀ n ∈ doorsL l bs r r.length, n ∈ rms l bs ∧ ∃ i, i < r.length ∧ n = turnAt r i := fun n hn => by
      unfold doorsL at hn
      obtain ⟨h1, h2⟩ := List.mem_filter.mp hn
      obtain ⟨i, hi, e⟩ := List.mem_map.mp h1
      exact ⟨of_decide_eq_true h2, i, List.mem_range.mp hi, e.symm⟩
    have wk := walk_list (K := K) (a := p) (xs := ((doorsL l bs r r.length).map tx).map V.str)
    rw [List.length_map, List.length_map] at wk
    have dl := doorsL_len l bs r r.length
    refine ⟨p, rfl, ⟨_, SqL.of e2⟩, fun Da na => ?_⟩
    refine lc_it wk (fun i H' => Same H2 H' ∧ H' Da = some (.lst (((((doorsL l bs r r.length).take i).filter fun n => decide (ham n o < ham r o)).map tx).map V.str))) ⟨same_upd na, upd_same⟩ (fun i H' _ h => SqL.of (h.1 _ _ e2)) ?_ ?_
    · rintro i v H3 H4 hi ⟨s3, e3⟩ ⟨rfl, hx⟩
      rw [List.getElem?_map, List.getElem?_map] at hx
      obtain ⟨z, hz1, rfl⟩ := Option.map_eq_some_iff.mp hx
      obtain ⟨n, hn1, rfl⟩ := Option.map_eq_some_iff.mp hz1
      obtain ⟨nm, _⟩ := dm2 n (List.mem_of_getElem? hn1)
      obtain ⟨nl, _⟩ := rms_lets hG.g n nm
      refine ⟨rfl, _, rfl, _, rfl, n, o, rfl, by omega, by omega, fun H5 s5 => ⟨_, rfl, _, _, rfl, rfl, _, rfl, ?_⟩⟩
      have e5 := s5 _ _ e3
      have tk : (doorsL l bs r r.length).take (i + 1) = (doorsL l bs r r.length).take i ++ [n] := by rw [List.take_add_one, hn1]; rfl
      have fl : (((doorsL l bs r r.length).take i).filter fun n => decide (ham n o < ham r o)).length ≤ 12 := Nat.le_trans (List.length_filter_le _ _) (by rw [List.length_take]; omega)
      rw [show decide (((ham n o : Nat) : Int) < ((ham r o : Nat) : Int)) = decide (ham n o < ham r o) by
        by_cases h : ham n o < ham r o
        · rw [decide_eq_true h, decide_eq_true (by omega)]
        · rw [decide_eq_false h, decide_eq_false (by omega)]]
      refine ite2 (fun t => ?_) (fun t => ?_)
      · refine ⟨_, rfl, _, e5, by rw [List.length_map, List.length_map, sizeLine_eq]; omega, sm_over (sm_trans s3 s5) na, ?_⟩
        rw [upd_same, tk, List.filter_append, List.filter_cons, if_pos t]
        simp
      · refine ⟨sm_trans s3 s5, ?_⟩
        rw [e5, tk, List.filter_append, List.filter_cons, if_neg t]
        simp
    · rintro H3 ⟨s3, e3⟩
      rw [List.take_length] at e3
      have fm : ∀ n ∈ (doorsL l bs r r.length).filter fun n => decide (ham n o < ham r o), n ∈ rms l bs ∧ ham r n = 1 ∧ ham r o = ham n o + 1 := fun n hn => by
        obtain ⟨h1, h2⟩ := List.mem_filter.mp hn
        have h2 : ham n o < ham r o := of_decide_eq_true h2
        obtain ⟨nm, i, hi, rfl⟩ := dm2 n h1
        have hne : swp (r.getD i 0) ≠ r.getD i 0 := by
          have hm2 : r.getD i 0 ∈ r := by
            rw [List.getD_eq_getElem?_getD, List.getElem?_eq_getElem hi]
            exact List.getElem_mem hi
          rcases rlt _ hm2 with z | z
          · rw [swp_small z]; omega
          · rw [swp_great z]; omega
        have h3 := ham_one hi hne
        have tri := ham_tri (r := r) (s := turnAt r i) (g := o) (turn_len r i).symm
        exact ⟨nm, h3, by omega⟩
      have some1 : ∃ n, n ∈ (doorsL l bs r r.length).filter fun n => decide (ham n o < ham r o) := by
        obtain ⟨i, hi, ht, hh⟩ := door_near hG.g hG.bar hG.ok hm ho ne
        refine ⟨turnAt r i, List.mem_filter.mpr ⟨?_, decide_eq_true (by omega)⟩⟩
        unfold doorsL
        exact List.mem_filter.mpr ⟨List.mem_map.mpr ⟨i, List.mem_range.mpr hi, rfl⟩, decide_eq_true ht⟩
      obtain ⟨n, rest, en⟩ : ∃ n rest, ((doorsL l bs r r.length).filter fun n => decide (ham n o < ham r o)) = n :: rest := by
        cases hh : (doorsL l bs r r.length).filter fun n => decide (ham n o < ham r o) with
        | nil =>
          obtain ⟨n, hn⟩ := some1
          rw [hh] at hn
          cases hn
        | cons n rest => exact ⟨n, rest, rfl⟩
      obtain ⟨n1, n2, n3⟩ := fm n (by rw [en]; exact List.mem_cons_self ..)
      rw [en] at e3
      exact ⟨Da, _, 0, .str (tx n), rfl, rfl, SqL.of e3, atI_nat (j := 0) rfl, q H3 n (sm_trans (sm_trans s1 s2) s3) n1 n2 n3⟩
def spHway (C : Addr) : Sp := fun vs H Q _ => ∃ x dx sb D l ys fo bs r o, vs = [.ref x, .str (tx r), .str (tx o)] ∧ HallG C H x dx sb D l ys fo bs ∧ r ∈ rms l bs ∧ o ∈ rms l bs ∧ ∀ H' p as, Same H H' → H p = none → H' p = some (.lst (((as ++ [o]).map tx).map V.str)) → Way (rms l bs) r as o → as.length = ham r o → Q (.ref p) H'
set_option maxHeartbeats 2000000 in
theorem ok_Hway {k : Nat} (B : BM mg) (hz : mg "zip" = none) (hany : mg "any" = none) (Z : HC K mg C fi fb di db) (M : HM K C fm fr fg dm dr dg) (Y : HW K C fdo fst fwa fne ddo dst dwa dne) (O : DF K mg "other" sOther ["side"] fO dO) (Ch : DF K mg "check_room" sChkRoom ["hall", "room"] fc dc) (U : DF K mg "unlike" sUnlike ["room", "goal"] fU dU) :
    FnOk P w K mg base CX0 (k + 5) fwa dwa ["self", "room", "goal"] (spHway C) := by
  have GC : FnOk P w K mg base CX0 (k + 2) fc dc ["hall", "room"] (spChkRoom C) := ok_chkRoom hany Z M Ch.F
  have GN : FnOk P w K mg base CX0 (k + 4) fne dne ["self", "room", "goal"] (spHnear C) := ok_Hnear B hz hany Z M Y O Ch U
  refine Y.Fw.ok scHway (fun vs H Q E h => ?_) (fun cdv A outer st H vs Q E hr h => ?_)
  · obtain ⟨x, dx, sb, D, l, ys, fo, bs, r, o, rfl, _⟩ := h
    rfl
  · obtain ⟨x, dx, sb, D, l, ys, fo, bs, r, o, rfl, hG, hm, ho, q⟩ := h
    have hl12 := hG.g.hi
    have nd := scHway.nd
    have r2 : Room (k + 2) _ := hr.mono (by omega)
    refine ⟨_, pss_cons (ps_expr (pe_call GC r2 rfl Ch.g Ch.F.kp Ch.b .nil pass0 (pa_cons (pv 0) (pa_cons (pv 1) pa_nil))))
      (pss_cons (ps_expr (pe_call GC r2 rfl Ch.g Ch.F.kp Ch.b .nil pass0 (pa_cons (pv 0) (pa_cons (pv 2) pa_nil))))
      (pss_cons (ps_set (i := 3) nd rfl (.inl rfl) (pe_lst (pa_cons (pv 1) pa_nil)))
      (pss_cons (ps_while PassesOwn.never (pt_cmpR op_ne (pe_ix ix_list (pv 3) (pe_un un_neg pe_int) (fun _ _ => rfl)) (pv 2) (nomark _))
        (pss_one (ps_expr (pe_bm PySem.F.plainAttrs_list PySem.F.slot_list_append PySem.F.type_list_append mt_append (pv 3) (pa_cons (pe_meth (pv 0) Z.cl Y.mn GN hr Y.bn .nil pass0 (pa_cons (pe_ix ix_list (pv 3) (pe_un un_neg pe_int) (fun _ _ => rfl)) (pa_cons (pv 2) pa_nil))) pa_nil)))))
      (pss_one (ps_ret (pv 3)))))), ?_⟩
    refine ⟨_, rfl, _, rfl, x, dx, sb, D, l, ys, fo, bs, r, rfl, hG, hm, fun H1 s1 => ⟨_, rfl, _, rfl, x, dx, sb, D, l, ys, fo, bs, o, rfl, hG.same s1, ho, fun H2 s2 => ?_⟩⟩
    have s02 := sm_trans s1 s2
    refine ⟨_, rfl, by show 1 ≤ sizeLine; decide, fun p np => ?_⟩
    have npH : H p = none := L2.Same.free s02 np
    refine ⟨fun m σ H' => ∃ as z, σ = [some (.ref x), some (.str (tx r)), some (.str (tx o)), some (.ref p)] ∧ Same H H' ∧ H' p = some (.lst (((as ++ [z]).map tx).map V.str)) ∧ Way (rms l bs) r as z ∧ as.length + ham z o = ham r o ∧ m = ham z o, ⟨ham r o, [], r, rfl, sm_upd s02 np, upd_same, ⟨rfl, fun y hy => by rw [List.mem_singleton.mp hy]; exact hm, fun k hk => absurd hk (Nat.not_lt_zero _)⟩, Nat.zero_add _, rfl⟩, ?_⟩
    rintro m σ H3 ⟨as, z, rfl, s3, e3, wy, hlen, rfl⟩
    have zm : z ∈ rms l bs := wy.all z (by simp)
    obtain ⟨zl, zlt⟩ := rms_lets hG.g z zm
    obtain ⟨ol, olt⟩ := rms_lets hG.g o ho
    obtain ⟨rl, rlt⟩ := rms_lets hG.g r hm
    have hamr : ham r o ≤ 12 := by
      unfold ham
      refine Nat.le_trans (List.length_filter_le _ _) ?_
      rw [List.length_range]
      omega
    have eL : ((as ++ [z]).map tx).map V.str = (as.map tx).map V.str ++ [V.str (tx z)] := by simp
    have last : atI (((as ++ [z]).map tx).map V.str) (-1) = some (.str (tx z)) := by
      rw [eL]
      exact atI_last _ _
    refine ⟨_, rfl, _, rfl, p, _, _, _, rfl, rfl, SqL.of e3, last, _, rfl, rfl, _, rfl, ite2 (fun t => ?_) (fun t => ?_)⟩
    · have ne : z ≠ o := fun e => by
        rw [e] at t
        simp at t
      have hG3 := hG.same s3
      refine ⟨fun σ' H' => ∃ m', m' < ham z o ∧ ∃ as z, σ' = [some (.ref x), some (.str (tx r)), some (.str (tx o)), some (.ref p)] ∧ Same H H' ∧ H' p = some (.lst (((as ++ [z]).map tx).map V.str)) ∧ Way (rms l bs) r as z ∧ as.length + ham z o = ham r o ∧ m' = ham z o, fun _ _ h => h, ?_⟩
      refine ⟨_, rfl, .inl ⟨rfl, _, SqL.of e3⟩, _, rfl, x, dx, _, rfl, hG3.hA.x, rfl, _, rfl, _, rfl, p, _, _, _, rfl, rfl, SqL.of e3, last, _, rfl, x, dx, sb, D, l, ys, fo, bs, z, o, rfl, hG3, zm, ho, ne, fun H4 n s4 nm n1 n2 => ?_⟩
      refine ⟨p, _, _, rfl, rfl, s4 _ _ e3, by rw [List.length_map, List.length_map, List.length_append, sizeLine_eq]; show as.length + 1 + 1 ≤ _; omega, ?_⟩
      exact ⟨ham n o, by omega, as ++ [z], n, rfl, sm_over (sm_trans s3 s4) npH, by rw [upd_same]; simp, wy.more nm n1, by rw [List.length_append]; show as.length + 1 + ham n o = _; omega, rfl⟩
    · have e : z = o := by
        have t2 : tx z = tx o := by simpa using t
        exact tx_inj t2
      subst e
      have h0 : ham z z = 0 := (ham_zero rfl).mpr rfl
      exact ⟨_, rfl, q H3 p as s3 npH e3 wy (by omega)⟩
end
end NC
namespace NC
open PySem PySem.Spec PyProof.Rows L2
/-- the chain's rooms, the great one first -/
def chL (l : List Nat) : List (List Nat) := (List.range (l.length + 1)).reverse.map (chR l)
theorem lex_lt : ∀ (i : Nat) (a b : List Nat), i < a.length → i < b.length → a.take i = b.take i → a.getD i 0 < b.getD i 0 → a < b
  | 0, x :: a, y :: b, _, _, _, h => List.cons_lt_cons_iff.mpr (.inl h)
  | i + 1, x :: a, y :: b, h1, h2, h3, h => by
    rw [List.take_succ_cons, List.take_succ_cons] at h3
    have e := List.cons.inj h3
    exact List.cons_lt_cons_iff.mpr (.inr ⟨e.1, lex_lt i a b (Nat.lt_of_succ_lt_succ h1) (Nat.lt_of_succ_lt_succ h2) e.2 h⟩)
section
variable {l : List Nat} (g : GoodW l)
include g
theorem chR_bef {a b : Nat} (ha : a ≤ l.length) (h : b < a) : Bef l (chR l a) (chR l b) := by
  refine ⟨b, by rw [chR_len]; omega, by rw [chR_len]; omega, ?_, ?_, ?_⟩
  · refine ext_getD (by rw [List.length_take, List.length_take, chR_len, chR_len]) fun i hi => ?_
    rw [List.length_take, chR_len] at hi
    have hi : i < b := by omega
    rw [List.getD_eq_getElem?_getD, List.getD_eq_getElem?_getD, List.getElem?_take_of_lt hi, List.getElem?_take_of_lt hi, ← List.getD_eq_getElem?_getD, ← List.getD_eq_getElem?_getD, chR_get (by omega), chR_get (by omega), if_pos (by omega), if_pos hi]
  · rw [chR_get (by omega), if_pos h]
  · rw [chR_get (by omega), if_neg (by omega)]
theorem chL_pw : (chL l).Pairwise (Bef l) := by
  unfold chL
  refine List.pairwise_map.mpr (List.pairwise_reverse.mpr ((List.pairwise_lt_range).imp_of_mem fun {a b} ha hb h => ?_))
  exact chR_bef g (by have := List.mem_range.mp hb; omega) h
theorem chL_nd : (chL l).Nodup := by
  unfold chL
  refine List.pairwise_map.mpr (List.pairwise_reverse.mpr ((List.pairwise_lt_range).imp_of_mem fun {a b} ha hb h e => ?_))
  have := chR_inj g (by have := List.mem_range.mp hb; omega) (by have := List.mem_range.mp ha; omega) e
  omega
omit g in
theorem chL_mem {r : List Nat} : r ∈ chL l ↔ ∃ k, k ≤ l.length ∧ r = chR l k := by
  unfold chL
  rw [List.mem_map]
  constructor
  · rintro ⟨k, hk, e⟩
    rw [List.mem_reverse, List.mem_range] at hk
    exact ⟨k, by omega, e.symm⟩
  · rintro ⟨k, hk, e⟩
    exact ⟨k, by rw [List.mem_reverse, List.mem_range]; omega, e.symm⟩
theorem bef_no {a b : List Nat} (ha : a.length ≤ l.length) (h1 : Bef l a b) (h2 : Bef l b a) : False := by
  obtain ⟨i, p1, p2, p3, p4, p5⟩ := h1
  obtain ⟨j, q1, q2, q3, q4, q5⟩ := h2
  have at_ : ∀ {x y : List Nat} {i j : Nat}, x.take i = y.take i → j < i → x.getD j 0 = y.getD j 0 := fun {x y i j} e h => by
    have e2 : (x.take i).getD j 0 = (y.take i).getD j 0 := by rw [e]
    rwa [List.getD_eq_getElem?_getD, List.getD_eq_getElem?_getD, List.getElem?_take_of_lt h, List.getElem?_take_of_lt h, ← List.getD_eq_getElem?_getD, ← List.getD_eq_getElem?_getD] at e2
  rcases Nat.lt_trichotomy i j with h | h | h
  · have := at_ q3 h
    rw [p4, p5] at this
    exact up_ne g (i := i) (by omega) this.symm
  · subst h
    rw [p4] at q5
    exact up_ne g (i := i) (by omega) q5
  · have := at_ p3 h
    rw [q4, q5] at this
    exact up_ne g (i := j) (by omega) this.symm
theorem chn_is : rms l (chn l) = chL l := by
  have nd : (rms l (chn l)).Nodup := rms_nd g
  have p : (rms l (chn l)).Perm (chL l) := (List.perm_ext_iff_of_nodup nd (chL_nd g)).mpr fun r => by rw [chn_rms g, chL_mem]
  have pw : (rms l (chn l)).Pairwise (Bef l) := (allT_pw l l.length).filter _
  refine p.eq_of_pairwise (fun x y hx hy h1 h2 => (bef_no g ?_ h1 h2).elim) pw (chL_pw g)
  obtain ⟨k, _, e⟩ := (chn_rms g x).mp hx
  rw [e, chR_len]
  exact Nat.le_refl _
theorem bef_le {a b : List Nat} (ha : a.length ≤ l.length) (h : Bef l a b) : leS (tx a) (tx b) := by
  obtain ⟨i, p1, p2, p3, p4, p5⟩ := h
  have := lex_lt i a b p1 p2 p3 (by rw [p4, p5]; exact up_lt g (by omega))
  show (tx a).cps.toList ≤ (tx b).cps.toList
  rw [tx_list, tx_list]
  exact List.le_of_lt this
/-- what is sorted of the chain's rooms -/
theorem chn_sorted {ys : List Str} (p : ys.Perm ((List.range (l.length + 1)).map fun k => tx (chR l k))) (so : sortedS ys = true) : ys = (rms l (chn l)).map tx := by
  rw [chn_is g]
  have p2 : ((List.range (l.length + 1)).map fun k => tx (chR l k)).Perm ((chL l).map tx) := by
    unfold chL
    rw [List.map_map]
    exact (List.reverse_perm _).symm.map _
  refine sortedS_eq so (p.trans p2) (List.pairwise_map.mpr ((chL_pw g).imp_of_mem fun {a b} ha hb h => bef_le g ?_ h))
  obtain ⟨k, _, e⟩ := chL_mem.mp ha
  rw [e, chR_len]
  exact Nat.le_refl _
theorem turn_up {a : Nat} (ha : a < l.length) : turnAt (chR l a) a = chR l (a + 1) := by
  have hlr : a < (chR l a).length := by rw [chR_len]; exact ha
  have := ch_sm g ha
  refine ext_getD (by rw [turn_len, chR_len, chR_len]) fun j hj => ?_
  rw [turn_len, chR_len] at hj
  rw [turn_get hlr, chR_get ha, chR_get hj, chR_get hj, if_neg (Nat.lt_irrefl a)]
  by_cases e : j = a
  · rw [if_pos e, if_pos (by omega), e, swp_small ⟨this.1, this.2.1⟩, upc_small ⟨this.1, this.2.1⟩]
  · rw [if_neg e]
    by_cases h2 : j < a
    · rw [if_pos h2, if_pos (by omega)]
    · rw [if_neg h2, if_neg (by omega)]
theorem turn_dn {a : Nat} (ha : a < l.length) : turnAt (chR l (a + 1)) a = chR l a := by
  have hlr : a < (chR l (a + 1)).length := by rw [chR_len]; exact ha
  have := ch_sm g ha
  refine ext_getD (by rw [turn_len, chR_len, chR_len]) fun j hj => ?_
  rw [turn_len, chR_len] at hj
  rw [turn_get hlr, chR_get ha, chR_get hj, chR_get hj, if_pos (Nat.lt_succ_self a)]
  by_cases e : j = a
  · rw [if_pos e, if_neg (by omega), e, upc_small ⟨this.1, this.2.1⟩, swp_great (by omega)]
    omega
  · rw [if_neg e]
    by_cases h2 : j < a
    · rw [if_pos (by omega), if_pos h2]
    · rw [if_neg (by omega), if_neg h2]
theorem turn_chR {a i : Nat} (ha : a ≤ l.length) (hi : i < l.length) : turnAt (chR l a) i ∈ rms l (chn l) ↔ i = a ∨ i + 1 = a := by
  have hlr : i < (chR l a).length := by rw [chR_len]; exact hi
  have sw : swp ((chR l a).getD i 0) = if i < a then l.getD i 0 else upc (l.getD i 0) := by
    have := ch_sm g hi
    rw [chR_get hi]
    by_cases h : i < a
    · rw [if_pos h, if_pos h, upc_small ⟨this.1, this.2.1⟩, swp_great (by omega)]
      omega
    · rw [if_neg h, if_neg h, swp_small ⟨this.1, this.2.1⟩, upc_small ⟨this.1, this.2.1⟩]
  constructor
  · intro h
    obtain ⟨k, hk, e⟩ := (chn_rms g _).mp h
    have at_ : ∀ j, j < l.length → (if j = i then swp ((chR l a).getD i 0) else (chR l a).getD j 0) = (chR l k).getD j 0 := fun j hj => by rw [← e, turn_get hlr]
    have ne : ∀ j, j < l.length → j ≠ i → (j < a ↔ j < k) := fun j hj hne => by
      have z := at_ j hj
      rw [if_neg hne, chR_get hj, chR_get hj] at z
      by_cases h1 : j < a <;> by_cases h2 : j < k
      · exact ⟨fun _ => h2, fun _ => h1⟩
      · rw [if_pos h1, if_neg h2] at z; exact absurd z (up_ne g hj)
      · rw [if_neg h1, if_pos h2] at z; exact absurd z.symm (up_ne g hj)
      · exact ⟨fun y => absurd y h1, fun y => absurd y h2⟩
    have di : ¬ (i < a ↔ i < k) := fun y => by
      have z := at_ i hi
      rw [if_pos rfl, sw, chR_get hi] at z
      by_cases h1 : i < a
      · rw [if_pos h1, if_pos (y.mp h1)] at z; exact up_ne g hi z.symm
      · rw [if_neg h1, if_neg fun q => h1 (y.mpr q)] at z; exact up_ne g hi z
    by_cases h1 : i < a
    · right
      have h2 : k ≤ i := by
        by_cases h3 : i < k
        · exact absurd ⟨fun _ => h3, fun _ => h1⟩ di
        · omega
      by_cases h4 : i + 1 < a
      · have := (ne (i + 1) (by omega) (by omega)).mp h4; omega
      · omega
    · left
      have h2 : i < k := by
        by_cases h3 : i < k
        · exact h3
        · exact absurd ⟨fun y => absurd y h1, fun y => absurd y h3⟩ di
      by_cases h4 : a < i
      · have := (ne a (by omega) (by omega)).mpr (by omega); omega
      · omega
  · intro h
    have mem : ∀ k, k ≤ l.length → turnAt (chR l a) i = chR l k → turnAt (chR l a) i ∈ rms l (chn l) := fun k hk e => (chn_rms g _).mpr ⟨k, hk, e⟩
    rcases h with h | h
    · subst h
      exact mem (i + 1) (by omega) (turn_up g hi)
    · subst h
      exact mem i (by omega) (turn_dn g hi)
theorem doors_chn {a : Nat} (ha : a < l.length) : doorsL l (chn l) (chR l a) (chR l a).length = if a = 0 then [chR l (a + 1)] else [chR l (a - 1), chR l (a + 1)] := by
  unfold doorsL
  rw [chR_len, List.filter_map]
  have e : (List.range l.length).filter ((fun x => decide (x ∈ rms l (chn l))) ∘ turnAt (chR l a)) = if a = 0 then [a] else [a - 1, a] := by
    refine rise_eq ((List.pairwise_lt_range).filter _) ?_ fun c => ?_
    · by_cases h : a = 0
      · rw [if_pos h]; simp
      · rw [if_neg h]; simp; omega
    · rw [List.mem_filter, List.mem_range]
      constructor
      · rintro ⟨h1, h2⟩
        have h2 := (turn_chR g (by omega) h1).mp (of_decide_eq_true h2)
        by_cases h : a = 0
        · rw [if_pos h]; simp; omega
        · rw [if_neg h]; simp; omega
      · intro h1
        have h2 : c = a ∨ c + 1 = a := by
          by_cases h : a = 0
          · rw [if_pos h] at h1; simp at h1; omega
          · rw [if_neg h] at h1; simp at h1; omega
        exact ⟨by omega, decide_eq_true ((turn_chR g (by omega) (by omega)).mpr h2)⟩
  rw [e]
  by_cases h : a = 0
  · rw [if_pos h, if_pos h]
    show [turnAt (chR l a) a] = _
    rw [turn_up g ha]
  · rw [if_neg h, if_neg h]
    show [turnAt (chR l a) (a - 1), turnAt (chR l a) a] = _
    rw [turn_up g ha]
    have := turn_dn g (a := a - 1) (by omega)
    rw [show a - 1 + 1 = a by omega] at this
    rw [this]
theorem ham_full : ham (chR l l.length) (chR l 0) = l.length := by
  unfold ham
  rw [chR_len]
  have e : (List.range l.length).filter (dif (chR l l.length) (chR l 0)) = List.range l.length := List.filter_eq_self.mpr fun i hi => by
    have hi := List.mem_range.mp hi
    unfold dif
    rw [chR_get hi, chR_get hi, if_pos hi, if_neg (Nat.not_lt_zero _)]
    exact decide_eq_true (up_ne g hi)
  rw [e, List.length_range]
theorem ham_step {a b : Nat} (ha : a ≤ l.length) (h : ham (chR l a) (chR l b) = 1) : a ≤ b + 1 := by
  rcases Nat.lt_or_ge (b + 1) a with hlt | hge
  · exfalso
    unfold ham at h
    rw [chR_len] at h
    have m : ∀ i, b ≤ i → i < a → i ∈ (List.range l.length).filter (dif (chR l a) (chR l b)) := fun i h1 h2 => by
      refine List.mem_filter.mpr ⟨List.mem_range.mpr (by omega), ?_⟩
      unfold dif
      rw [chR_get (by omega), chR_get (by omega), if_pos h2, if_neg (by omega)]
      exact decide_eq_true (up_ne g (by omega))
    have e := one_of (by omega) (m b (Nat.le_refl _) (by omega))
    have e2 := m (b + 1) (by omega) hlt
    rw [e, List.mem_singleton] at e2
    omega
  · exact hge
theorem way_chn {as : List (List Nat)} (h : Way (rms l (chn l)) (chR l l.length) as (chR l 0)) (hl : as.length = l.length) : as ++ [chR l 0] = (List.range (l.length + 1)).map fun j => chR l (l.length - j) := by
  have ll : (as ++ [chR l 0]).length = l.length + 1 := by rw [List.length_append, hl]; rfl
  have idx : ∀ j, j ≤ l.length → ∃ k, k ≤ l.length ∧ (as ++ [chR l 0]).getD j [] = chR l k := fun j hj => by
    have hj' : j < (as ++ [chR l 0]).length := by omega
    have m := h.all _ (List.getElem_mem hj')
    obtain ⟨k, hk, e⟩ := (chn_rms g _).mp m
    exact ⟨k, hk, by rw [← e, List.getD_eq_getElem?_getD, List.getElem?_eq_getElem hj']; rfl⟩
  have lastZ : (as ++ [chR l 0]).getD l.length [] = chR l 0 := by
    rw [List.getD_eq_getElem?_getD, List.getElem?_append_right (by omega), hl, Nat.sub_self]
    rfl
  have lo : ∀ j, j ≤ l.length → ∀ k, k ≤ l.length → (as ++ [chR l 0]).getD j [] = chR l k → l.length - j ≤ k := fun j => by
    induction j with
    | zero =>
      intro _ k hk e
      rw [h.head] at e
      have := chR_inj g (Nat.le_refl _) hk e
      omega
    | succ j ih =>
      intro hj k hk e
      obtain ⟨k0, hk0, e0⟩ := idx j (by omega)
      have := ih (by omega) k0 hk0 e0
      have st := h.step j (by omega)
      rw [e0, e] at st
      have := ham_step g hk0 st
      omega
  have hi : ∀ m j, j + m = l.length → ∀ k, k ≤ l.length → (as ++ [chR l 0]).getD j [] = chR l k → k ≤ m := fun m => by
    induction m with
    | zero =>
      intro j hj k hk e
      rw [show j = l.length by omega, lastZ] at e
      have := chR_inj g (Nat.zero_le _) hk e
      omega
    | succ m ih =>
      intro j hj k hk e
      obtain ⟨k1, hk1, e1⟩ := idx (j + 1) (by omega)
      have := ih (j + 1) (by omega) k1 hk1 e1
      have st := h.step j (by omega)
      rw [e1, e] at st
      have := ham_step g hk st
      omega
  refine List.ext_getElem (by rw [ll, List.length_map, List.length_range]) fun j h1 h2 => ?_
  rw [List.getElem_map, List.getElem_range]
  obtain ⟨k, hk, e⟩ := idx j (by omega)
  have a1 := lo j (by omega) k hk e
  have a2 := hi (l.length - j) j (by omega) k hk e
  rw [show (as ++ [chR l 0])[j] = (as ++ [chR l 0]).getD j [] by rw [List.getD_eq_getElem?_getD, List.getElem?_eq_getElem h1]; rfl, e, show k = l.length - j by omega]
end
end NC
namespace NC
open PySem PySem.Spec PyProof.Rows L2
abbrev sLCR : Stmt := topS 60
abbrev nLCR : List Str := ["_law_d", "_law_shuts", "_law_many", "_law_great", "_law_hall", "_law_due", "_law_at", "_law_room", "_law_small", "_law_next_rooms", "_law_way_due", "_law_k"]
theorem scLCR : FnScope nLCR ["_law_d", "_law_shuts"] (defScope sLCR) := ⟨rfl, rfl, rfl, by decide +kernel, rfl, by decide +kernel, by decide +kernel⟩
theorem first_ok {l : List Nat} {bs : List (List Nat)} (h : ∀ b ∈ bs, isBar l b = true) (nd : bs.Nodup) : firstBad l bs = none := List.find?_eq_none.mpr fun i hi => by
  have hl : i < bs.length := by simpa using hi
  have e : bs.getD i [] = bs[i] := by simp [List.getD, hl]
  unfold badAt
  rw [e, h _ (List.getElem_mem hl)]
  have hn : bs[i] ∉ bs.take i := fun hm => by
    obtain ⟨j, hj, ej⟩ := List.getElem_of_mem hm
    have hji : j < i := by rw [List.length_take] at hj; omega
    rw [List.getElem_take] at ej
    have hjl : j < bs.length := by omega
    have ee : bs[j]? = bs[i]? := by rw [List.getElem?_eq_getElem hjl, List.getElem?_eq_getElem hl, ej]
    have := (List.getElem?_inj hjl nd).mp ee
    omega
  simp [hn]
theorem bars_ok {l : List Nat} (g : GoodW l) {bs : List (List Nat)} (h : ∀ b ∈ bs, isBar l b = true) : BarsOk bs := fun b hb => by
  obtain ⟨x, y, rfl, hx, hy, _⟩ := bar_two (h b hb)
  refine ⟨fun c hc => ?_, by show 2 ≤ 100; decide⟩
  rcases List.mem_cons.mp hc with e | e
  · rw [e]; exact sds_asc g hx
  · rw [List.mem_singleton.mp e]; exact sds_asc g hy
theorem chR_txt (l : List Nat) (k : Nat) : cutS (tx (l.map upc)) none (some ((k : Nat) : Int)) ++ cutS (tx l) (some ((k : Nat) : Int)) none = tx (chR l k) := by
  rw [cutS_to, cutS_from, tx_app]
  unfold chR
  rw [List.map_take]
structure HlC (K : PySem.W.Frag) (mg : Str → Option Value) (fSame fDraw fCR fUn fSh fHo fRo fFi : Addr) (dSame dDraw dCR dUn dSh dHo dRo dFi : FuncData) : Prop where
  same : DF K mg "_law_same" sSame ["_law_x", "_law_due"] fSame dSame
  draw : DF K mg "_law_draw" sDraw ["_law_d", "_law_many"] fDraw dDraw
  cr : DF K mg "check_room" sChkRoom ["hall", "room"] fCR dCR
  un : DF K mg "unlike" sUnlike ["room", "goal"] fUn dUn
  sh : DF K mg "shut" sShut ["hall", "part"] fSh dSh
  ho : DF K mg "holds" sHolds ["part", "room"] fHo dHo
  ro : DF K mg "rooms_of" sRoomsOf ["hall", "part"] fRo dRo
  fi : DF K mg "first_room" sFirst ["hall", "part"] fFi dFi
  many : mg "any" = none
  mz : mg "zip" = none
  mb : mg "bool" = none
  ms : mg "str" = none
section
variable {P : Program} {w : World} {K : PySem.W.Frag} {mg : Str → Option Value} {base : Heap} {tw : Tok} {fOther fSides fByW fIsW fIsB fCW fCB fCS fStr fRe fAF fCF fCA : Addr} {dOther dSides dByW dIsW dIsB dCW dCB dCS dStr dRe dAF dCF dCA : FuncData}
    {CH iH CB iB CF iF CA iA : Addr} {eH eB eF eA : FuncData} {C fi fb fm fr fg fw ff : Addr} {di db dm dr dg dw df : FuncData} {fIsP fChP fAFB fTw : Addr} {dIsP dChP dAFB dTw : FuncData} {fdo fst fwa fne : Addr} {ddo dst dwa dne : FuncData}
    {fSame fDraw fCR fUn fSh fHo fRo fFi : Addr} {dSame dDraw dCR dUn dSh dHo dRo dFi : FuncData}
set_option maxHeartbeats 8000000 in
theorem ok_lcr {f : Addr} {fd : FuncData} {k : Nat} (F : Fun K "_law_chain_right" "_law_chain_right" sLCR f fd) (Z : HC K mg C fi fb di db) (M : HM K C fm fr fg dm dr dg) (W : HW K C fdo fst fwa fne ddo dst dwa dne) (bwa : Binds K dwa ["self", "room", "goal"] []) (Y : PT K mg C fw ff dw df fIsP fChP fAFB fTw dIsP dChP dAFB dTw)
    (T : Txt8 K mg tw fOther fSides fByW fIsW fIsB fCW fCB fCS fStr fRe fAF fCF fCA dOther dSides dByW dIsW dIsB dCW dCB dCS dStr dRe dAF dCF dCA CH iH CB iB CF iF CA iA eH eB eF eA)
    (L : HlC K mg fSame fDraw fCR fUn fSh fHo fRo fFi dSame dDraw dCR dUn dSh dHo dRo dFi) :
    FnOk P w K mg base CX0 (k + 8) f fd ["_law_d", "_law_shuts"] spLTR := by
  have B := T.B
  have GD : FnOk P w K mg base CX0 (k + 1) fDraw dDraw ["_law_d", "_law_many"] spDraw := ok_draw B L.draw.F
  have GR : FnOk P w K mg base CX0 (k + 3) fr dr ["self"] (spHrooms C) := ok_Hrooms L.many Z M T.O
  have GRo : FnOk P w K mg base CX0 (k + 7) fRo dRo ["hall", "part"] (spRoomsOf C) := ok_roomsOf B L.many Z M Y T.cs T.S T.O T.Y L.sh L.ho L.ro.F
  have GFi : FnOk P w K mg base CX0 (k + 7) fFi dFi ["hall", "part"] (spFirst C) := ok_first B Z Y T.cs T.S T.O T.Y L.sh L.fi.F
  have GDo : FnOk P w K mg base CX0 (k + 3) fdo ddo ["self", "room"] (spHdoors C) := ok_Hdoors (f := fCR) (fd := dCR) B L.many Z M W T.O L.cr
  have GSt : FnOk P w K mg base CX0 (k + 3) fst dst ["self", "room", "goal"] (spHsteps C) := ok_Hsteps B L.mz L.many Z M W L.cr L.un
  have GWa : FnOk P w K mg base CX0 (k + 5) fwa dwa ["self", "room", "goal"] (spHway C) := ok_Hway B L.mz L.many Z M W T.O L.cr L.un
  have GS1 : FnOk P w K mg base CX0 (k + 3) fSame dSame ["_law_x", "_law_due"] (spYes 1) := ok_yes T.B L.mb L.ms L.same 1
  have GS2 : FnOk P w K mg base CX0 (k + 4) fSame dSame ["_law_x", "_law_due"] (spYes 2) := ok_yes T.B L.mb L.ms L.same 2
  have GH : FnOk P w K mg base (L2.CX P w) (k + 5) fi di ["self", "walls", "bars"] (spHinitA K C CB CF CA) := ok_HinitA Z T
  refine F.ok scLCR (fun vs H Q E h => ?_) (fun cdv A outer st H vs Q E hr h => ?_)
  · obtain ⟨d, l, rfl, _⟩ := h
    rfl
  · obtain ⟨d, l, rfl, hD, g, h2, q⟩ := h
    have r1 : Room (k + 1) _ := hr.mono (by omega)
    have r3 : Room (k + 3) _ := hr.mono (by omega)
    have r4 : Room (k + 4) _ := hr.mono (by omega)
    have r5 : Room (k + 5) _ := hr.mono (by omega)
    have r6 : Room (k + 6) _ := hr.mono (by omega)
    have nd := scLCR.nd
    refine ⟨_, pss_cons (ps_asg (pe_tup (pa_cons (pe_callB call_len_str (by rfl) B.len PySem.boot_len (pa_cons (pv 1) pa_nil)) (pa_cons (pe_upper (pv 1)) pa_nil))) (pg_tup rfl (pgs_cons (pg_name (i := 2) nd rfl (.inl rfl)) (pgs_cons (pg_name (i := 3) nd rfl (.inr rfl)) pgs_nil))))
      (pss_cons (ps_set (i := 4) nd rfl (.inl rfl) (pe_make (E := E0) Z.mks GH r6 rfl Z.gC Z.b .nil passF (pa_cons (pv 1) (pa_cons (pe_lc (own := [("_law_k", 11)]) (g := gName 11) (tt := tYes) rfl nd (pi_range1 (by rfl) B.range (pa_cons (pe_op op_sub (pv 2) pe_int) pa_nil)) (blkOk_by (N := nLCR) (sc := defScope sLCR) (by decide +kernel)) (fun _ _ _ _ _ => pg_name (i := 11) nd rfl (Or.inl rfl)) (fun _ _ _ _ _ => pts_nil)
        (fun _ _ _ _ _ => pe_op op_add_str (pe_ix ix_str (pv 1) (pv 11) (fun _ _ => rfl)) (pe_ix ix_str (pv 3) (pe_op op_add (pv 11) pe_int) (fun _ _ => rfl)))) pa_nil))))
      (pss_cons (ps_set (i := 5) nd rfl (.inl rfl) (pe_callB cr_sortedA (by rfl) B.sorted (by decide +kernel) (pa_cons (pe_lc (own := [("_law_k", 11)]) (g := gName 11) (tt := tYes) rfl nd (pi_range1 (by rfl) B.range (pa_cons (pe_op op_add (pv 2) pe_int) pa_nil)) (blkOk_by (N := nLCR) (sc := defScope sLCR) (by decide +kernel)) (fun _ _ _ _ _ => pg_name (i := 11) nd rfl (Or.inl rfl)) (fun _ _ _ _ _ => pts_nil)
        (fun _ _ _ _ _ => pe_op op_add_str (pe_slice sl_str (pv 3) po_none (po_some (pv 11))) (pe_slice sl_str (pv 1) (po_some (pv 11)) po_none))) pa_nil)))
      (pss_cons (ps_if (pt_not (pt_val (pe_call GS1 r3 rfl L.same.g L.same.F.kp L.same.b .nil pass0 (pa_cons (pe_meth0 (pv 4) Z.cl M.mr GR r3 M.br .nil pass0) (pa_cons (pv 5) pa_nil))))) (pss_one (ps_ret pe_bl)) pss_nil)
      (pss_cons (ps_set (i := 6) nd rfl (.inr rfl) (pe_call GD r1 rfl L.draw.g L.draw.F.kp L.draw.b .nil pass0 (pa_cons (pv 0) (pa_cons (pv 2) pa_nil))))
      (pss_cons (ps_setLc (i := 8) (own := [("_law_room", 7)]) (g := gName 7) rfl nd rfl rfl (sw_true rfl rfl rfl (by decide +kernel)) (pi_list (pv 5)) (blkOk_by (N := nLCR) (sc := defScope sLCR) (by decide +kernel)) (fun _ _ _ _ _ => pg_name (i := 7) nd rfl (Or.inl rfl))
        (fun _ _ _ _ _ => pts_one (pt_cmpR op_in_sign (pe_ix ix_str (pv 1) (pv 6) (fun _ _ => rfl)) (pv 7) (by rfl))) (fun _ _ _ _ _ => pv 7))
      (pss_cons (ps_if (pt_not (pt_val (pe_call GS2 r4 rfl L.same.g L.same.F.kp L.same.b .nil pass0 (pa_cons (pe_lst (pa_cons (pe_call GRo hr rfl L.ro.g L.ro.F.kp L.ro.b .nil pass0 (pa_cons (pv 4) (pa_cons (pe_ix ix_str (pv 1) (pv 6) (fun _ _ => rfl)) pa_nil))) (pa_cons (pe_call GFi hr rfl L.fi.g L.fi.F.kp L.fi.b .nil pass0 (pa_cons (pv 4) (pa_cons (pe_ix ix_str (pv 1) (pv 6) (fun _ _ => rfl)) pa_nil))) pa_nil)))
        (pa_cons (pe_lst (pa_cons (pv 8) (pa_cons (pe_ix ix_list (pv 8) pe_int (fun _ _ => rfl)) pa_nil))) pa_nil))))) (pss_one (ps_ret pe_bl)) pss_nil)
      (pss_cons (ps_set (i := 7) nd rfl (.inl rfl) (pe_op op_add_str (pe_slice sl_str (pv 3) po_none (po_some (pv 6))) (pe_slice sl_str (pv 1) (po_some (pv 6)) po_none)))
      (pss_cons (ps_set (i := 9) nd rfl (.inl rfl) (pe_lst (pa_cons (pe_op op_add_str (pe_slice sl_str (pv 3) po_none (po_some (pe_op op_add (pv 6) pe_int))) (pe_slice sl_str (pv 1) (po_some (pe_op op_add (pv 6) pe_int)) po_none)) pa_nil)))
      (pss_cons (ps_if (pt_cmpR op_gt (pv 6) pe_int (nomark _)) (pss_one (ps_set (i := 9) nd rfl (.inl rfl) (pe_op op_cat (pe_lst (pa_cons (pe_op op_add_str (pe_slice sl_str (pv 3) po_none (po_some (pe_op op_sub (pv 6) pe_int))) (pe_slice sl_str (pv 1) (po_some (pe_op op_sub (pv 6) pe_int)) po_none)) pa_nil)) (pv 9)))) pss_nil)
      (pss_cons (ps_if (pt_not (pt_val (pe_call GS1 r3 rfl L.same.g L.same.F.kp L.same.b .nil pass0 (pa_cons (pe_meth (pv 4) Z.cl W.md GDo r3 W.bd .nil pass0 (pa_cons (pv 7) pa_nil)) (pa_cons (pv 9) pa_nil))))) (pss_one (ps_ret pe_bl)) pss_nil)
      (pss_cons (ps_setLc (i := 10) (own := [("_law_k", 11)]) (g := gName 11) (tt := tYes) rfl nd rfl rfl (sw_true rfl rfl rfl (by decide +kernel)) (pi_range3 (by rfl) B.range (pa_cons (pv 2) (pa_cons (pe_un un_neg pe_int) (pa_cons (pe_un un_neg pe_int) pa_nil)))) (blkOk_by (N := nLCR) (sc := defScope sLCR) (by decide +kernel)) (fun _ _ _ _ _ => pg_name (i := 11) nd rfl (Or.inl rfl)) (fun _ _ _ _ _ => pts_nil)
        (fun _ _ _ _ _ => pe_op op_add_str (pe_slice sl_str (pv 3) po_none (po_some (pv 11))) (pe_slice sl_str (pv 1) (po_some (pv 11)) po_none)))
      (pss_one (ps_ret (pe_call GS2 r4 rfl L.same.g L.same.F.kp L.same.b .nil pass0 (pa_cons (pe_lst (pa_cons (pe_meth (pv 4) Z.cl W.ms GSt r3 W.bs .nil pass0 (pa_cons (pv 3) (pa_cons (pv 1) pa_nil))) (pa_cons (pe_meth (pv 4) Z.cl W.mw GWa r5 bwa .nil pass0 (pa_cons (pv 3) (pa_cons (pv 1) pa_nil))) pa_nil)))
        (pa_cons (pe_lst (pa_cons (pv 2) (pa_cons (pv 10) pa_nil))) pa_nil)))))))))))))))), ?_⟩
    obtain ⟨c0, hc0⟩ := hD.head
    obtain ⟨rr, hd1⟩ := id hc0
    have bar := chn_bar g
    have bnd := chn_nd g
    have blen := chn_len (l := l)
    have hl12 := g.hi
    have tz : (tx l).length ≤ sizeLine := by rw [tx_len, sizeLine_eq]; omega
    have gz : (tx (l.map upc)).length ≤ sizeLine := by rw [tx_len, List.length_map, sizeLine_eq]; omega
    have atL : ∀ i : Nat, i < l.length → atI (tx l).cps.toList (i : Int) = some (l.getD i 0) := fun i hi => by
      rw [tx_list, show l.getD i 0 = l[i] by simp [List.getD, hi]]
      exact atI_nat (List.getElem?_eq_getElem hi)
    have atG : ∀ i : Nat, i < l.length → atI (tx (l.map upc)).cps.toList (i : Int) = some (upc (l.getD i 0)) := fun i hi => by
      rw [tx_list, show l.getD i 0 = l[i] by simp [List.getD, hi]]
      exact atI_nat (by rw [List.getElem?_map, List.getElem?_eq_getElem hi]; rfl)
    have atG1 : ∀ i : Nat, i + 1 < l.length → atI (tx (l.map upc)).cps.toList ((i : Int) + 1) = some (upc (l.getD (i + 1) 0)) := fun i hi => by
      have := atG (i + 1) hi
      rwa [show ((i + 1 : Nat) : Int) = (i : Int) + 1 by omega] at this
    refine ⟨_, rfl, tx l, rfl, tz, _, rfl, ⟨_, rfl⟩, _, rfl, rfl, by rw [tx_len]; omega, ?_⟩
    rw [upper_tx g.asc, tx_len]
    refine ⟨by show 2 ≤ sizeLine; decide, fun T2 nT2 => ⟨T2, _, rfl, SqT.of upd_same, rfl, _, _, rfl, _, _, rfl, rfl, ?_⟩⟩
    have s1 : Same H (upd H T2 (.tup [.int (l.length : Nat), .str (tx (l.map upc))])) := same_upd nT2
    generalize (upd H T2 (.tup [.int (l.length : Nat), .str (tx (l.map upc))])) = H1 at s1 ⊢
    -- the bars
    refine ⟨_, rfl, _, rfl, _, _, rfl, rfl, _, rfl, by omega, by omega, fun Da na => ?_⟩
    rw [show ((l.length : Nat) : Int) - 1 = ((l.length - 1 : Nat) : Int) by omega, Int.toNat_natCast]
    refine lc_it walk_range (fun i H' => Same H1 H' ∧ H' Da = some (.lst ((((List.range i).map fun k => [l.getD k 0, upc (l.getD (k + 1) 0)]).map tx).map V.str))) ⟨same_upd na, upd_same⟩ (fun _ _ _ _ => trivial) ?_ ?_
    · rintro i v G1 G2 hi ⟨u1, e1⟩ ⟨rfl, ev⟩
      obtain rfl : v = .int ((i : Nat) : Int) := ev.trans (by show V.int (0 + _) = _; rw [Int.zero_add])
      refine ⟨rfl, yes_i ⟨_, rfl, _, rfl, tx l, _, _, rfl, rfl, tz, atL i (by omega), _, rfl, _, rfl, _, _, rfl, rfl, ?_⟩⟩
      refine ⟨_, (i : Int) + 1, _, rfl, rfl, gz, atG1 i (by omega), _, _, rfl, rfl, by show 1 + 1 ≤ sizeLine; decide, ?_⟩
      refine ⟨_, e1, by rw [List.length_map, List.length_map, List.length_map, List.length_range, sizeLine_eq]; omega, sm_over u1 na, ?_⟩
      rw [upd_same, List.range_succ, List.map_append, List.map_append, List.map_append]
      rfl
    rintro H2 ⟨s2, eb⟩
    refine fun x dx nx ndx nne => ?_
    have s8 : Same H2 (upd (upd H2 dx (.own x)) x (.ins C dx [])) := sm_upd (same_upd ndx) (by rw [upd_ne (Ne.symm nne)]; exact nx)
    refine ⟨x, dx, l, Da, chn l, rfl, upd_same, g, bars_ok g bar, by omega, .inl (SqL.of (s8 _ _ eb)), ?_⟩
    rw [first_ok bar bnd]
    intro fo hfo
    have foI := hfo.iff g bar
    have ok : Okv l (chn l) := (chn_fine g).ok g bar
    rw [ok fo foI]
    intro H3 sb D ys s9 nsb nD hat hp hso
    refine ⟨rfl, ?_⟩
    have s12 := sm_trans s1 s2
    have s23 : Same H2 H3 := fun b o hb => s9 b o (ne_of_none hb nx) (s8 b o hb)
    have s3 : Same H H3 := sm_trans s12 s23
    have nsd : sb ≠ d := Ne.symm (ne_of_none (s8 _ _ (s12 _ _ hd1)) nsb)
    have S3 : StH d C x dx sb D l ys fo H3 := ⟨hD.same s3, hat⟩
    have nfs : ∀ s ∈ sds l, fo s = byWT l (fo s) := fun s hs => hfo.nf g hs
    have hF : ∀ {H'}, StH d C x dx sb D l ys fo H' → HallF C H' x dx sb D l ys fo (chn l) := fun S => ⟨⟨S.hA, g, bar, hp, by omega, ok⟩, foI, fun s hs => hfo.len g hs⟩
    have hG : ∀ {H'}, StH d C x dx sb D l ys fo H' → HallG C H' x dx sb D l ys fo (chn l) := fun S => ⟨S.hA, g, bar, hp, by omega, ok⟩
    -- the rooms due
    refine ⟨_, rfl, _, _, rfl, rfl, _, rfl, by omega, by omega, fun Db nb => ?_⟩
    rw [show ((l.length : Nat) : Int) + 1 = ((l.length + 1 : Nat) : Int) by omega, Int.toNat_natCast]
    refine lc_it walk_range (fun i H' => Same H3 H' ∧ H' Db = some (.lst (((List.range i).map fun k => tx (chR l k)).map V.str))) ⟨same_upd nb, upd_same⟩ (fun _ _ _ _ => trivial) ?_ ?_
    · rintro i v G1 G2 hi ⟨u1, e1⟩ ⟨rfl, ev⟩
      obtain rfl : v = .int ((i : Nat) : Int) := ev.trans (by show V.int (0 + _) = _; rw [Int.zero_add])
      refine ⟨rfl, yes_i ⟨_, rfl, _, rfl, _, rfl, _, rfl, gz, _, rfl, _, rfl, _, rfl, _, rfl, tz, _, _, rfl, rfl, ?_, ?_⟩⟩
      · rw [cutS_to, cutS_from, tx_len, tx_len, List.length_take, List.length_drop, List.length_map, sizeLine_eq]
        omega
      rw [chR_txt]
      refine ⟨_, e1, by rw [List.length_map, List.length_map, List.length_range, sizeLine_eq]; omega, sm_over u1 nb, ?_⟩
      rw [upd_same, List.range_succ, List.map_append, List.map_append]
      rfl
    rintro H4 ⟨s4, ed⟩
    refine ⟨Db, _, rfl, .inl (SqL.of ed), by rw [List.length_map, List.length_range]; omega, fun zs pd pz so npd => ?_⟩
    have ez := chn_sorted g pz so
    subst ez
    have S4 := (S3.same s4).same (same_upd npd (o := .lst (((rms l (chn l)).map tx).map V.str)))
    have npdd : pd ≠ d := (S3.same s4).dr.ne npd
    have s5 : Same H (upd H4 pd (.lst (((rms l (chn l)).map tx).map V.str))) := sm_upd (sm_trans s3 s4) npd
    have epd : (upd H4 pd (.lst (((rms l (chn l)).map tx).map V.str))) pd = some (.lst (((rms l (chn l)).map tx).map V.str)) := upd_same
    generalize (upd H4 pd (.lst (((rms l (chn l)).map tx).map V.str))) = H5 at S4 s5 epd ⊢
    have rlen : (rms l (chn l)).length ≤ 13 := by rw [chn_is g]; unfold chL; rw [List.length_map, List.length_reverse, List.length_range]; omega
    refine ⟨_, rfl, x, dx, _, rfl, S4.hA.x, rfl, x, dx, sb, D, l, ys, fo, rfl, S4.hA, g, fun H6 p6 s6 np6 e6 => ?_⟩
    rw [prT_rms g bar foI] at e6
    refine ⟨_, rfl, _, _, rfl, Alk.strs e6 (s6 _ _ epd) (by rw [List.length_map]; omega), fun H7 s7 => ⟨_, rfl, iteF ?_⟩⟩
    have S7 := (S4.same s6).same s7
    have epd7 := s7 _ _ (s6 _ _ epd)
    have u7 : SmD d H H7 := SmD.of (sm_trans (sm_trans s5 s6) s7)
    refine ⟨_, rfl, _, rfl, d, _, rfl, S7.dr, by omega, by omega, fun H8 av v8 D8 a0 a1 => ?_⟩
    obtain ⟨a, rfl⟩ := Int.eq_ofNat_of_zero_le a0
    have ha : a < l.length := by omega
    have S8 := S7.smd nsd v8 D8
    have u8 := u7.trans v8
    have epd8 := v8.1 _ _ npdd epd7
    have cl : ∀ lo hi lo' hi', (cutS (tx (l.map upc)) lo hi).length + (cutS (tx l) lo' hi').length ≤ sizeLine := fun lo hi lo' hi' => by
      have h1 := cutS_length (tx (l.map upc)) lo hi
      have h2 := cutS_length (tx l) lo' hi'
      rw [tx_len, List.length_map] at h1
      rw [tx_len] at h2
      rw [sizeLine_eq]
      omega
    -- the rooms with a small side
    have wk := walk_list (K := K) (a := pd) (xs := ((rms l (chn l)).map tx).map V.str)
    rw [List.length_map, List.length_map] at wk
    have cs := ch_sm g ha
    generalize hc : l.getD a 0 = c at cs
    have atA : atI (tx l).cps.toList (a : Int) = some c := by rw [← hc]; exact atL a ha
    refine ⟨_, rfl, pd, rfl, ⟨_, SqL.of epd8⟩, fun Dc nc => ?_⟩
    refine lc_it wk (fun i H' => Same H8 H' ∧ H' Dc = some (.lst (((((rms l (chn l)).take i).filter fun r => inR [c] r).map tx).map V.str))) ⟨same_upd nc, upd_same⟩ (fun i H' _ h => SqL.of (h.1 _ _ epd8)) ?_ ?_
    · rintro i v G1 G2 hi ⟨u1, e1⟩ ⟨rfl, hx⟩
      rw [List.getElem?_map, List.getElem?_map] at hx
      obtain ⟨z, hz1, rfl⟩ := Option.map_eq_some_iff.mp hx
      obtain ⟨r, hr1, rfl⟩ := Option.map_eq_some_iff.mp hz1
      refine ⟨rfl, _, rfl, _, rfl, tx l, _, _, rfl, rfl, tz, atA, _, rfl, _, _, rfl, rfl, _, rfl, ?_⟩
      have tk : (rms l (chn l)).take (i + 1) = (rms l (chn l)).take i ++ [r] := by rw [List.take_add_one, hr1]; rfl
      have fl : (((rms l (chn l)).take i).filter fun r => inR [c] r).length ≤ 13 := Nat.le_trans (List.length_filter_le _ _) (by rw [List.length_take]; omega)
      rw [show decide (c ∈ (tx r).cps.toList) = inR [c] r by rw [tx_list]; unfold inR; simp]
      refine ite2 (fun t => ?_) (fun t => ?_)
      · refine ⟨_, rfl, _, e1, by rw [List.length_map, List.length_map, sizeLine_eq]; omega, sm_over u1 nc, ?_⟩
        rw [upd_same, tk, List.filter_append, List.filter_cons, if_pos t]
        simp
      · refine ⟨u1, ?_⟩
        rw [e1, tk, List.filter_append, List.filter_cons, if_neg t]
        simp
    rintro H9 ⟨s9', ec⟩
    have ec : H9 Dc = some (.lst ((((rms l (chn l)).filter fun r => inR [c] r).map tx).map V.str)) := by rw [List.take_length] at ec; exact ec
    have S9 := S8.same s9'
    have u9 := u8.trans (SmD.of s9')
    have el' : chR l 0 = l := by unfold chR; simp
    have eg' : chR l l.length = l.map upc := by unfold chR; rw [List.take_length, List.drop_length, List.append_nil]
    have hl0 : l ∈ rms l (chn l) := (chn_rms g l).mpr ⟨0, Nat.zero_le _, el'.symm⟩
    have hln : l.map upc ∈ rms l (chn l) := (chn_rms g _).mpr ⟨_, Nat.le_refl _, eg'.symm⟩
    have lwcc : lwc c = c := lwc_small ⟨cs.1, cs.2.1⟩
    have pP : Part l [c] := ⟨by show [lwc c].Sublist l; rw [lwcc]; exact List.singleton_sublist.mpr cs.2.2, fun s hs => by rw [List.mem_singleton.mp hs]; exact sds_of_small cs.2.2⟩
    have hin : ∀ s ∈ [c], s ∈ l := fun s hs => by rw [List.mem_singleton.mp hs]; exact cs.2.2
    have hfm : l ∈ (rms l (chn l)).filter fun r => inR [c] r := List.mem_filter.mpr ⟨hl0, inR_iff.mpr hin⟩
    obtain ⟨r0, rt, he⟩ : ∃ r0 rt, (rms l (chn l)).filter (fun r => inR [c] r) = r0 :: rt := by
      cases h : (rms l (chn l)).filter fun r => inR [c] r with
      | nil => rw [h] at hfm; cases hfm
      | cons a b => exact ⟨a, b, rfl⟩
    have flen : ((rms l (chn l)).filter fun r => inR [c] r).length ≤ 13 := Nat.le_trans (List.length_filter_le _ _) rlen
    refine ⟨_, rfl, _, rfl, _, rfl, tx l, _, _, rfl, rfl, tz, atA, x, dx, sb, D, l, ys, fo, chn l, [c], l, rfl, hF S9, pP, hl0, hin, fun Ha pR sa npR eR => ?_⟩
    have Sa := S9.same sa
    refine ⟨_, rfl, _, rfl, _, rfl, tx l, _, _, rfl, rfl, tz, atA, x, dx, sb, D, l, ys, fo, chn l, [c], l, rfl, hF Sa, pP, hl0, hin, fun Hb r0' rt' sb' he' => ?_⟩
    have er0 : r0' = r0 := by rw [he] at he'; exact (List.cons.inj he').1.symm
    subst er0
    refine ⟨by show 2 ≤ sizeLine; decide, fun p1 np1 => ?_⟩
    have ec1 := sm_upd (o := .lst [.ref pR, .str (tx r0')]) (sm_trans sa sb') np1 _ _ ec
    refine ⟨_, rfl, _, rfl, Dc, _, 0, .str (tx r0'), rfl, rfl, SqL.of ec1, ?_, by show 2 ≤ sizeLine; decide, fun p2 np2 => ?_⟩
    · rw [he]
      exact atI_nat (j := 0) rfl
    have sA2 := sm_upd (o := .lst [.ref Dc, .str (tx r0')]) (sm_upd (o := .lst [.ref pR, .str (tx r0')]) sb' np1) np2
    have sA3 : Same H9 _ := sm_trans sa sA2
    refine ⟨_, _, rfl, .lst (xs := [.ref pR, .str (tx r0')]) (ys := [.ref Dc, .str (tx r0')]) (by rw [upd_ne (ne_of_none upd_same np2), upd_same]) upd_same rfl (by show 2 ≤ 5000; decide) (fun i a b ha hb => ?_), fun Hc sc => ⟨_, rfl, iteF ?_⟩⟩
    · match i, ha, hb with
      | 0, ha, hb =>
        cases ha
        cases hb
        exact Alk.strs (sA2 _ _ eR) (sA3 _ _ ec) (by rw [List.length_map]; omega)
      | 1, ha, hb =>
        cases ha
        cases hb
        exact .str _
    have S10 := (S9.same sA3).same sc
    have u10 := u9.trans (SmD.of (sm_trans sA3 sc))
    have hm : chR l a ∈ rms l (chn l) := (chn_rms g _).mpr ⟨a, by omega, rfl⟩
    refine ⟨_, rfl, _, rfl, _, rfl, _, rfl, gz, _, rfl, _, rfl, _, rfl, _, rfl, tz, _, _, rfl, rfl, cl _ _ _ _, ?_⟩
    rw [chR_txt]
    refine ⟨_, rfl, _, rfl, _, _, rfl, rfl, _, rfl, _, rfl, gz, _, rfl, _, rfl, _, _, rfl, rfl, _, rfl, _, rfl, tz, _, _, rfl, rfl, cl _ _ _ _, ?_⟩
    rw [show ((a : Nat) : Int) + 1 = ((a + 1 : Nat) : Int) by omega, chR_txt]
    refine ⟨by show 1 ≤ sizeLine; decide, fun p3 np3 => ?_⟩
    have S11 := S10.same (same_upd np3 (o := .lst [.str (tx (chR l (a + 1)))]))
    have u11 : SmD d H _ := u10.trans (SmD.of (same_upd np3 (o := .lst [.str (tx (chR l (a + 1)))])))
    have e11 : (upd Hc p3 (.lst [.str (tx (chR l (a + 1)))])) p3 = some (.lst [.str (tx (chR l (a + 1)))]) := upd_same
    generalize (upd Hc p3 (.lst [.str (tx (chR l (a + 1)))])) = Hd at S11 u11 e11 ⊢
    have dch := doors_chn g ha
    refine ⟨_, rfl, _, _, rfl, rfl, _, rfl, ite2 (fun t => ?_) (fun t => ?_)⟩
    have ha0 : 0 < a := by have := of_decide_eq_true t; omega
    rw [if_neg (by omega)] at dch
    refine ⟨_, rfl, _, rfl, _, _, rfl, rfl, _, rfl, _, rfl, gz, _, rfl, _, rfl, _, _, rfl, rfl, _, rfl, _, rfl, tz, _, _, rfl, rfl, cl _ _ _ _, ?_⟩
    rw [show ((a : Nat) : Int) - 1 = ((a - 1 : Nat) : Int) by omega, chR_txt]
    refine ⟨by show 1 ≤ sizeLine; decide, fun p4 np4 => ?_⟩
    have sE := same_upd np4 (o := .lst [.str (tx (chR l (a - 1)))])
    refine ⟨_, rfl, p4, p3, _, _, rfl, rfl, upd_same, sE _ _ e11, by show 2 ≤ sizeLine; decide, fun pn npn => ?_⟩
    have sE2 := sm_upd (o := .lst [.str (tx (chR l (a - 1))), .str (tx (chR l (a + 1)))]) sE npn
    have S12 := S11.same sE2
    have u12 := u11.trans (SmD.of sE2)
    have e12 : (upd (upd Hd p4 (.lst [.str (tx (chR l (a - 1)))])) pn (.lst [.str (tx (chR l (a - 1))), .str (tx (chR l (a + 1)))])) pn = some (.lst (((doorsL l (chn l) (chR l a) (chR l a).length).map tx).map V.str)) := by rw [upd_same, dch]; rfl
    show tNext _ _ (upd (upd Hd p4 (.lst [.str (tx (chR l (a - 1)))])) pn (.lst [.str (tx (chR l (a - 1))), .str (tx (chR l (a + 1)))]))
    generalize (upd (upd Hd p4 (.lst [.str (tx (chR l (a - 1)))])) pn (.lst [.str (tx (chR l (a - 1))), .str (tx (chR l (a + 1)))])) = He at S12 u12 e12 ⊢
    rotate_left
    have ha0 : a = 0 := by
      by_cases h : a = 0
      · exact h
      · exact absurd (decide_eq_true (by omega)) t
    rw [if_pos ha0] at dch
    have S12 := S11
    have u12 := u11
    have e12 : Hd p3 = some (.lst (((doorsL l (chn l) (chR l a) (chR l a).length).map tx).map V.str)) := by rw [e11, dch]; rfl
    all_goals
      refine ⟨_, rfl, x, dx, _, rfl, S12.hA.x, rfl, _, rfl, x, dx, sb, D, l, ys, fo, chn l, chR l a, rfl, hG S12, hm, fun Hf pD' sf npD' eD' => ?_⟩
      have S13 := S12.same sf
      have dlen := doorsL_len l (chn l) (chR l a) (chR l a).length
      rw [chR_len] at dlen
      refine ⟨_, rfl, _, _, rfl, Alk.strs eD' (sf _ _ e12) (by rw [List.length_map, chR_len]; omega), fun Hg sg' => ⟨_, rfl, iteF ?_⟩⟩
      have S14 := S13.same sg'
      have u14 := u12.trans (SmD.of (sm_trans sf sg'))
      have rg : RgC ((l.length : Nat) : Int) (-1) (-1) (l.length + 1) := by
        have := RgC.neg (i := ((l.length : Nat) : Int)) (j := -1) (by omega) (by omega) (by omega) (by omega)
        rwa [show (((l.length : Nat) : Int) - -1).toNat = l.length + 1 by omega] at this
      refine ⟨_, rfl, _, rfl, _, rfl, _, _, _, _, rfl, rg, fun De ne' => ?_⟩
      refine lc_it walk_rangeC (fun i H' => Same Hg H' ∧ H' De = some (.lst ((((List.range i).map fun j => chR l (l.length - j)).map tx).map V.str))) ⟨same_upd ne', upd_same⟩ (fun _ _ _ _ => trivial) ?_ ?_
      rotate_left
      rintro Hh ⟨sh, ew⟩
      have S15 := S14.same sh
      have u15 := u14.trans (SmD.of sh)
      have hf := ham_full g
      rw [eg', el'] at hf
      refine ⟨_, rfl, x, dx, _, rfl, S15.hA.x, rfl, _, rfl, _, rfl, x, dx, sb, D, l, ys, fo, chn l, l.map upc, l, rfl, hG S15, hln, hl0, fun Hi si => ?_⟩
      have S16 := S15.same si
      refine ⟨_, rfl, x, dx, _, rfl, S16.hA.x, rfl, _, rfl, _, rfl, x, dx, sb, D, l, ys, fo, chn l, l.map upc, l, rfl, hG S16, hln, hl0, fun Hj pW as sj npW eW way wlen => ?_⟩
      have hw := way_chn g (as := as) (by rw [eg', el']; exact way) (by rw [wlen, hf])
      rw [el'] at hw
      rw [hw] at eW
      rw [hf]
      have S17 := S16.same sj
      refine ⟨by show 2 ≤ sizeLine; decide, fun p7 np7 => ?_⟩
      refine ⟨_, rfl, _, rfl, by show 2 ≤ sizeLine; decide, fun p8 np8 => ?_⟩
      have sB := sm_upd (o := .lst [.int (l.length : Nat), .ref De]) (same_upd np7 (o := .lst [.int (l.length : Nat), .ref pW])) np8
      refine ⟨_, _, rfl, .lst (xs := [.int (l.length : Nat), .ref pW]) (ys := [.int (l.length : Nat), .ref De]) (by rw [upd_ne (ne_of_none upd_same np8), upd_same]) upd_same rfl (by show 2 ≤ 5000; decide) (fun i a' b' hxa hxb => ?_), fun Hk sk => ?_⟩
      · match i, hxa, hxb with
        | 0, hxa, hxb =>
          cases hxa
          cases hxb
          exact .int _
        | 1, hxa, hxb =>
          cases hxa
          cases hxb
          exact Alk.strs (sB _ _ eW) (sm_trans (sm_trans si sj) sB _ _ ew) (by rw [List.length_map, List.length_map, List.length_range]; omega)
      · exact q _ (u15.trans (SmD.of (sm_trans (sm_trans (sm_trans si sj) sB) sk))) ((S17.same sB).same sk).dr
      rintro i v G1 G2 hi ⟨u1, e1⟩ ⟨rfl, ev⟩
      obtain rfl : v = .int ((l.length - i : Nat) : Int) := ev.trans (by show V.int (_ + _ * _) = _; congr 1; omega)
      refine ⟨rfl, yes_i ⟨_, rfl, _, rfl, _, rfl, _, rfl, gz, _, rfl, _, rfl, _, rfl, _, rfl, tz, _, _, rfl, rfl, cl _ _ _ _, ?_⟩⟩
      rw [chR_txt]
      refine ⟨_, e1, by rw [List.length_map, List.length_map, List.length_map, List.length_range, sizeLine_eq]; omega, sm_over u1 ne', ?_⟩
      rw [upd_same, List.range_succ, List.map_append, List.map_append, List.map_append]
      rfl
end
end NC
namespace NC
open PySem PySem.Spec PyProof.Rows L2
abbrev sLaw : Stmt := topS 62
abbrev nLaw : List Str := ["_law_script", "_law_d", "_law_shuts", "_law_nine", "_law_told", "_law_many", "_law_shut", "_law_room", "_law_some", "_law_k"]
theorem scLaw : FnScope nLaw ["_law_script"] (defScope sLaw) := ⟨rfl, rfl, rfl, by decide +kernel, rfl, by decide +kernel, by decide +kernel⟩
theorem cutV_first (xs : List V) (k : Nat) : cutV xs none (some ((k : Nat) : Int)) = xs.take k := by
  unfold cutV
  rw [HT.sIx_none, HT.sIx_nat, List.drop_zero, Nat.sub_zero]
  rcases Nat.le_total k xs.length with h | h
  · rw [Nat.min_eq_left h]
  · rw [Nat.min_eq_right h, List.take_of_length_le (Nat.le_refl _), List.take_of_length_le h]
/-- some letters, in order -/
theorem letters_walls {X : List Nat} (nd : X.Nodup) (h : ∀ c ∈ X, c ∈ ltrs) (h1 : 1 ≤ X.length) (h2 : X.length ≤ 12) : GoodW (byS X) ∧ (byS X).length = X.length := by
  have hs : ∀ c ∈ ltrs', 97 ≤ c ∧ c ≤ 122 := fun c hc => by
    obtain ⟨j, hj, e⟩ := List.mem_map.mp hc
    have := List.mem_range.mp hj
    omega
  have hl : (ltrs'.filter fun c => decide (c ∈ X)).length = X.length := by
    refine List.Perm.length_eq ((List.perm_ext_iff_of_nodup ((ltrs_rise.imp fun h => Nat.ne_of_lt h).filter _) nd).mpr fun c => ?_)
    rw [List.mem_filter, decide_eq_true_eq]
    exact ⟨fun z => z.2, fun z => ⟨h c z, z⟩⟩
  have g : GoodW (ltrs'.filter fun c => decide (c ∈ X)) := ⟨by omega, by omega, fun c hc => hs c (List.mem_filter.mp hc).1, ltrs_rise.filter _⟩
  have e : byS X = (ltrs'.filter fun c => decide (c ∈ X)) := by
    rw [byS_is g nd fun c hc => List.mem_filter.mpr ⟨h c hc, decide_eq_true hc⟩]
    refine List.filter_eq_self.mpr fun c hc => (List.mem_filter.mp hc).2
  rw [e]
  exact ⟨g, hl⟩
theorem goodW_take {l : List Nat} (g : GoodW l) {k : Nat} (h1 : 1 ≤ k) : GoodW (l.take k) :=
  ⟨by rw [List.length_take]; have := g.lo; omega, by rw [List.length_take]; have := g.hi; omega, fun c hc => g.sm c (List.mem_of_mem_take hc), g.rise.sublist (List.take_sublist ..)⟩
theorem allT_ends (l : List Nat) : ∀ k, k ≤ l.length → ∃ t s, allT l k = (l.take k).map upc :: t ∧ allT l k = s ++ [l.take k]
  | 0, _ => ⟨[], [], rfl, rfl⟩
  | k + 1, h => by
    obtain ⟨t, s, e1, e2⟩ := allT_ends l k (by omega)
    have tk : l.take (k + 1) = l.take k ++ [l.getD k 0] := by
      rw [List.take_add_one, List.getD_eq_getElem?_getD, List.getElem?_eq_getElem (by omega)]
      rfl
    refine ⟨[(l.take k).map upc ++ [l.getD k 0]] ++ t.flatMap (fun r => [r ++ [upc (l.getD k 0)], r ++ [l.getD k 0]]), s.flatMap (fun r => [r ++ [upc (l.getD k 0)], r ++ [l.getD k 0]]) ++ [l.take k ++ [upc (l.getD k 0)]], ?_, ?_⟩
    · show (allT l k).flatMap (fun r => [r ++ [upc (l.getD k 0)], r ++ [l.getD k 0]]) = _
      rw [e1, List.flatMap_cons, tk, List.map_append]
      rfl
    · show (allT l k).flatMap (fun r => [r ++ [upc (l.getD k 0)], r ++ [l.getD k 0]]) = _
      rw [e2, List.flatMap_append, tk]
      show _ ++ ([l.take k ++ [upc (l.getD k 0)], l.take k ++ [l.getD k 0]] ++ []) = _
      rw [List.append_nil, show [l.take k ++ [upc (l.getD k 0)], l.take k ++ [l.getD k 0]] = [l.take k ++ [upc (l.getD k 0)]] ++ [l.take k ++ [l.getD k 0]] from rfl, ← List.append_assoc]
theorem rms_all (l : List Nat) : rms l [] = allT l l.length := List.filter_eq_self.mpr fun _ _ => rfl
theorem turn_all {l r : List Nat} (g : GoodW l) (hr : r ∈ rms l []) {i : Nat} (hi : i < r.length) : turnAt r i ∈ rms l [] := by
  rw [rms_all] at hr ⊢
  have lt := (rms_lets g (bs := []) r (by rw [rms_all]; exact hr)).2
  have e := (room_low g r).mp hr
  refine (room_low g _).mpr ?_
  unfold turnAt
  have hm : r.getD i 0 = r[i] := by simp [List.getD, hi]
  rw [List.map_set, hm, lwc_swp (lt _ (List.getElem_mem hi)), e]
  have : (r.map lwc)[i]? = some (lwc r[i]) := by rw [List.getElem?_map, List.getElem?_eq_getElem hi]; rfl
  rw [e] at this
  obtain ⟨hi2, e2⟩ := List.getElem?_eq_some_iff.mp this
  rw [← e2]
  exact List.set_getElem_self hi2
theorem doors_all {l r : List Nat} (g : GoodW l) (hr : r ∈ rms l []) : doorsL l [] r r.length = (List.range r.length).map (turnAt r) := by
  unfold doorsL
  refine List.filter_eq_self.mpr fun x hx => ?_
  obtain ⟨i, hi, rfl⟩ := List.mem_map.mp hx
  exact decide_eq_true (turn_all g hr (List.mem_range.mp hi))
section
variable {K : PySem.W.Frag} {C CB CF CA e : Addr}
/-- a hall without bars -/
theorem hall0 {H : Hp} {E : XK} {Q : VK} {x dx : Addr} {l : List Nat} (g : GoodW l) (nx : H x = none) (ndx : H dx = none) (nne : dx ≠ x) (hE : ∀ {H' : Hp}, SqA K H' e ((([] : List (List Nat)).map tx).map V.str))
    (q : ∀ H' sb D ys fo, Same H H' → HallF C H' x dx sb D l ys fo [] → Q .non H') : spHinitA K C CB CF CA [.ref x, .str (tx l), .ref e] (upd (upd H dx (.own x)) x (.ins C dx [])) Q E := by
  have s8 : Same H (upd (upd H dx (.own x)) x (.ins C dx [])) := sm_upd (same_upd ndx) (by rw [upd_ne (Ne.symm nne)]; exact nx)
  have bar0 : ∀ b ∈ ([] : List (List Nat)), isBar l b = true := fun b hb => by cases hb
  refine ⟨x, dx, l, e, [], rfl, upd_same, g, fun b hb => (by cases hb), by decide, hE, ?_⟩
  rw [show firstBad l [] = none from rfl]
  intro fo hfo
  have foI := hfo.iff g bar0
  rw [okv_nil g fo foI]
  intro H2 sb D ys s9 nsb nD hat hp hso
  have s2 : Same H H2 := fun b o hb => s9 b o (ne_of_none hb nx) (s8 b o hb)
  exact q H2 sb D ys fo s2 ⟨⟨hat, g, bar0, hp, by decide, okv_nil g⟩, foI, fun s hs => hfo.len g hs⟩
end
end NC
namespace NC
open PySem PySem.Spec PyProof.Rows L2
section
variable {P : Program} {w : World} {K : PySem.W.Frag} {mg : Str → Option Value} {base : Heap} {tw : Tok} {fOther fSides fByW fIsW fIsB fCW fCB fCS fStr fRe fAF fCF fCA : Addr} {dOther dSides dByW dIsW dIsB dCW dCB dCS dStr dRe dAF dCF dCA : FuncData}
    {CH iH CB iB CF iF CA iA : Addr} {eH eB eF eA : FuncData} {C fi fb fm fr fg fw ff e : Addr} {di db dm dr dg dw df : FuncData} {fIsP fChP fAFB fTw : Addr} {dIsP dChP dAFB dTw : FuncData} {fdo fst fwa fne : Addr} {ddo dst dwa dne : FuncData} {fGo fSo fKe fIs fCt : Addr} {dGo dSo dKe dIs dCt : FuncData}
    {fSame fDraw fOf fMx fLet fOth fIm fBs fSt fLSi fTu fOv fBh fBk fCR : Addr} {dSame dDraw dOf dMx dLet dOth dIm dBs dSt dLSi dTu dOv dBh dBk dCR : FuncData}
    {fUn fSh fHo fRo fFi fStart fChR fTuR : Addr} {dUn dSh dHo dRo dFi dStart dChR dTuR : FuncData}
set_option maxHeartbeats 8000000 in
theorem ok_law {f : Addr} {fd : FuncData} {k : Nat} (F : Fun K "law" "law" sLaw f fd) (Z : HC K mg C fi fb di db) (M : HM K C fm fr fg dm dr dg) (W : HW K C fdo fst fwa fne ddo dst dwa dne) (bwa : Binds K dwa ["self", "room", "goal"] []) (Y : PT K mg C fw ff dw df fIsP fChP fAFB fTw dIsP dChP dAFB dTw) (U : TT_ K mg fGo fSo fKe fIs fCt dGo dSo dKe dIs dCt)
    (T : Txt8 K mg tw fOther fSides fByW fIsW fIsB fCW fCB fCS fStr fRe fAF fCF fCA dOther dSides dByW dIsW dIsB dCW dCB dCS dStr dRe dAF dCF dCA CH iH CB iB CF iF CA iA eH eB eF eA)
    (ZD : Binds K di ["self", "walls", "bars"] [.ref e]) (eT : ∃ (oe : Obj) (ne : Nat), K.lookup e = some oe ∧ oe.cls = .type "tuple" ∧ oe.data = .seq #[] ne)
    (L : HlT K mg fSame fDraw fOf fMx fLet fOth fIm fBs fSt fLSi fTu fOv fBh fBk fCR dSame dDraw dOf dMx dLet dOth dIm dBs dSt dLSi dTu dOv dBh dBk dCR)
    (LC : HlC K mg fSame fDraw fCR fUn fSh fHo fRo fFi dSame dDraw dCR dUn dSh dHo dRo dFi)
    (LS : DF K mg "_law_start" sStart ["_law_script"] fStart dStart) (LCh : DF K mg "_law_chain_right" sLCR ["_law_d", "_law_shuts"] fChR dChR) (LTu : DF K mg "_law_turns_right" sLTR ["_law_d", "_law_shuts"] fTuR dTuR) :
    FnOk P w K mg base CX0 (k + 9) f fd ["_law_script"] (spLaw K) := by
  have B := T.B
  have GSt : FnOk P w K mg base CX0 (k + 1) fStart dStart ["_law_script"] (spStart K) := ok_start T.B LS.F
  have GD : FnOk P w K mg base CX0 (k + 1) fDraw dDraw ["_law_d", "_law_many"] spDraw := ok_draw B L.draw.F
  have GL := ok_letters (P := P) (w := w) (mg := mg) (base := base) (k := k) L.letters.F
  have GM : FnOk P w K mg base CX0 (k + 2) fMx dMx ["_law_d", "_law_some"] spMixed := ok_mixed B L.draw L.mixed.F
  have GB : FnOk P w K mg base CX0 (k + 2) fBs dBs ["_law_sides_here"] (spBySL K) := ok_bySL L.bys.F L.letters
  have GCh : FnOk P w K mg base CX0 (k + 8) fChR dChR ["_law_d", "_law_shuts"] spLTR := ok_lcr LCh.F Z M W bwa Y T LC
  have GTu : FnOk P w K mg base CX0 (k + 8) fTuR dTuR ["_law_d", "_law_shuts"] spLTR := ok_ltr LTu.F Z M Y U T ZD eT L
  have GR : FnOk P w K mg base CX0 (k + 3) fr dr ["self"] (spHrooms C) := ok_Hrooms L.many Z M T.O
  have GDo : FnOk P w K mg base CX0 (k + 3) fdo ddo ["self", "room"] (spHdoors C) := ok_Hdoors (f := fCR) (fd := dCR) B L.many Z M W T.O L.cr
  have GOt : FnOk P w K mg base CX0 (k + 1) fOth dOth ["_law_side"] spOth := ok_oth L.oth.F
  have GS1 : FnOk P w K mg base CX0 (k + 3) fSame dSame ["_law_x", "_law_due"] (spYes 1) := ok_yes T.B L.mb L.ms L.same 1
  have GH : FnOk P w K mg base (L2.CX P w) (k + 5) fi di ["self", "walls", "bars"] (spHinitA K C CB CF CA) := ok_HinitA Z T
  refine F.ok scLaw (fun vs H Q E h => ?_) (fun cdv A outer st H vs Q E hr h => ?_)
  · obtain ⟨a, ns, rfl, _⟩ := h
    rfl
  · obtain ⟨a, ns, rfl, hS, q⟩ := h
    have r1 : Room (k + 1) _ := hr.mono (by omega)
    have r2 : Room (k + 2) _ := hr.mono (by omega)
    have r3 : Room (k + 3) _ := hr.mono (by omega)
    have r6 : Room (k + 6) _ := hr.mono (by omega)
    have nd := scLaw.nd
    refine ⟨_, pss_cons (ps_set (i := 1) nd rfl (.inl rfl) (pe_call GSt r1 rfl LS.g LS.F.kp LS.b .nil pass0 (pa_cons (pv 0) pa_nil)))
      (pss_cons (ps_set (i := 2) nd rfl (.inl rfl) (pe_call GB r2 rfl L.bys.g L.bys.F.kp L.bys.b .nil pass0 (pa_cons (pe_slice sl_list (pe_call GM r2 rfl L.mixed.g L.mixed.F.kp L.mixed.b .nil pass0 (pa_cons (pv 1) (pa_cons (pe_callTy (cr_listS rfl) (by rfl) B.list (by decide +kernel) (pa_cons (pe_call0 GL r1 rfl L.letters.g L.letters.F.kp L.letters.b .nil pass0) pa_nil)) pa_nil))) po_none (po_some (pe_op op_add pe_int (pe_call GD r1 rfl L.draw.g L.draw.F.kp L.draw.b .nil pass0 (pa_cons (pv 1) (pa_cons pe_int pa_nil)))))) pa_nil)))
      (pss_cons (ps_if (PW.pt (pw_or (pt_not (pt_val (pe_call GCh hr rfl LCh.g LCh.F.kp LCh.b .nil pass0 (pa_cons (pv 1) (pa_cons (pv 2) pa_nil))))) (pw_or1 (pt_not (pt_val (pe_call GTu hr rfl LTu.g LTu.F.kp LTu.b .nil pass0 (pa_cons (pv 1) (pa_cons (pv 2) pa_nil)))))))) (pss_one (ps_ret pe_bl)) pss_nil)
      (pss_cons (ps_set (i := 3) nd rfl (.inl rfl) (pe_slice sl_str (pv 2) po_none (po_some (pe_op op_add pe_int (pe_call GD r1 rfl L.draw.g L.draw.F.kp L.draw.b .nil pass0 (pa_cons (pv 1) (pa_cons pe_int pa_nil)))))))
      (pss_cons (ps_par (i := 4) (j := 5) rfl nd rfl rfl (by decide) rfl rfl (pa_cons (pe_meth0 (pe_make (E := E0) Z.mks GH r6 rfl Z.gC ZD (.cons (show L2.RelV (V.ref e) (Value.ref e) from rfl) .nil) passF (pa_cons (pv 3) pa_nil)) Z.cl M.mr GR r3 M.br .nil pass0) (pa_cons pe_int pa_nil)) rfl)
      (pss_cons (ps_for PassesOwn.never rfl (pi_str (pv 3)) (pg_name (i := 6) nd rfl (.inl rfl)) (pss_one (ps_set (i := 5) nd rfl (.inl rfl) (pe_op op_mul (pv 5) pe_int))))
      (pss_cons (ps_if (pt_not (pt_val (pe_call GS1 r3 rfl L.same.g L.same.F.kp L.same.b .nil pass0 (pa_cons (pe_lst (pa_cons (pe_callB call_len_seq (by rfl) B.len PySem.boot_len (pa_cons (pv 4) pa_nil)) (pa_cons (pe_ix ix_list (pv 4) pe_int (fun _ _ => rfl)) (pa_cons (pe_ix ix_list (pv 4) (pe_un un_neg pe_int) (fun _ _ => rfl)) pa_nil))))
        (pa_cons (pe_lst (pa_cons (pv 5) (pa_cons (pe_upper (pv 3)) (pa_cons (pv 3) pa_nil)))) pa_nil))))) (pss_one (ps_ret pe_bl)) pss_nil)
      (pss_cons (ps_set (i := 7) nd rfl (.inr rfl) (pe_ix ix_list (pv 4) (pe_call GD r1 rfl L.draw.g L.draw.F.kp L.draw.b .nil pass0 (pa_cons (pv 1) (pa_cons (pv 5) pa_nil))) (fun _ _ => rfl)))
      (pss_cons (ps_setLc (i := 8) (own := [("_law_k", 9)]) (g := gName 9) (tt := tYes) (te := tOp (fun x y H Q => ∃ i j, x = V.str i ∧ y = V.str j ∧ i.length + j.length ≤ sizeLine ∧ Q (V.str (i ++ j)) H) (tOp (fun x y H Q => ∃ i j, x = V.str i ∧ y = V.str j ∧ i.length + j.length ≤ sizeLine ∧ Q (V.str (i ++ j)) H) (tSl rSlS (tVar 7) tNoPart (tPart (tVar 9))) (tCall spOth [] E0 (tCons (tOp rIxS (tVar 7) (tVar 9)) tNil))) (tSl rSlS (tVar 7) (tPart (tOp (rI0 fun i j => .int (i + j)) (tVar 9) (tC (.int 1)))) tNoPart)) rfl nd rfl rfl (sw_true rfl rfl rfl (by decide +kernel)) (pi_range1 (by rfl) B.range (pa_cons (pe_callB call_len_str (by rfl) B.len PySem.boot_len (pa_cons (pv 3) pa_nil)) pa_nil)) (blkOk_by (N := nLaw) (sc := defScope sLaw) (by decide +kernel)) (fun _ _ _ _ _ => pg_name (i := 9) nd rfl (Or.inl rfl)) (fun _ _ _ _ _ => pts_nil)
        (fun _ _ _ _ _ => pe_op op_add_str (pe_op op_add_str (pe_slice sl_str (pv 7) po_none (po_some (pv 9))) (pe_call GOt r1 rfl L.oth.g L.oth.F.kp L.oth.b .nil pass0 (pa_cons (pe_ix ix_str (pv 7) (pv 9) (fun _ _ => rfl)) pa_nil))) (pe_slice sl_str (pv 7) (po_some (pe_op op_add (pv 9) pe_int)) po_none)))
      (pss_one (ps_ret (pe_call GS1 r3 rfl L.same.g L.same.F.kp L.same.b .nil pass0 (pa_cons (pe_meth (pe_make (E := E0) Z.mks GH r6 rfl Z.gC ZD (.cons (show L2.RelV (V.ref e) (Value.ref e) from rfl) .nil) passF (pa_cons (pv 3) pa_nil)) Z.cl W.md GDo r3 W.bd .nil pass0 (pa_cons (pv 7) pa_nil)) (pa_cons (pv 8) pa_nil))))))))))))), ?_⟩
    refine ⟨_, rfl, a, ns, rfl, hS, fun H0 d s0 nd0 D0 => ?_⟩
    refine ⟨_, rfl, rfl, _, rfl, by rw [tx_len, sizeLine_eq]; decide, fun p np => ?_⟩
    rw [sgs_tx]
    refine ⟨d, p, _, rfl, D0.same (same_upd np), D0.ne np, upd_same, by rw [List.length_map, List.length_map]; decide, fun H1 q0 ys0 u1 D1 nq eq pr => ?_⟩
    obtain ⟨os, po, rfl⟩ := perm_sgs pr
    refine ⟨_, rfl, d, 5, rfl, D1, by decide, by decide, fun H2 v u2 D2 v0 v1 => ?_⟩
    obtain ⟨j, rfl⟩ := Int.eq_ofNat_of_zero_le v0
    have hj : j < 5 := by omega
    have q0d : q0 ≠ d := (D0.same (same_upd np)).ne nq
    refine ⟨_, _, rfl, rfl, _, rfl, q0, _, rfl, SqL.of (u2.1 _ _ q0d eq), fun p2 np2 => ?_⟩
    have ecut : cutV ((os.map sg).map V.str) none (some (8 + (j : Int))) = ((os.take (8 + j)).map sg).map V.str := by
      rw [show (8 : Int) + (j : Int) = ((8 + j : Nat) : Int) by omega, cutV_first, List.map_take, List.map_take]
    have e2 : (upd H2 p2 (.lst (cutV ((os.map sg).map V.str) none (some (8 + (j : Int)))))) p2 = some (.lst (((os.take (8 + j)).map sg).map V.str)) := by rw [upd_same, ecut]
    have D2' := D2.same (same_upd np2 (o := .lst (cutV ((os.map sg).map V.str) none (some (8 + (j : Int))))))
    have lnd : ltrs.Nodup := ltrs_rise.imp fun h => Nat.ne_of_lt h
    have mem : ∀ c ∈ os.take (8 + j), c ∈ ltrs := fun c hc => po.mem_iff.mp (List.mem_of_mem_take hc)
    have xl : (os.take (8 + j)).length = 8 + j := by
      rw [List.length_take, po.length_eq, show ltrs.length = 26 from rfl]
      omega
    obtain ⟨g, gl⟩ := letters_walls ((po.symm.nodup lnd).sublist (List.take_sublist ..)) mem (by omega) (by omega)
    have xasc : ∀ c ∈ os.take (8 + j), c < 128 := fun c hc => by
      obtain ⟨i, hi, e⟩ := List.mem_map.mp (mem c hc)
      have := List.mem_range.mp hi
      omega
    refine ⟨p2, _, rfl, SqL.of e2, xasc, by omega, fun H3 s3 => ?_⟩
    generalize byS (os.take (8 + j)) = l at g gl ⊢
    have D3 := D2'.same s3
    refine ⟨_, rfl, _, rfl, d, l, rfl, D3, g, by omega, fun H4 u4 D4 => ⟨_, rfl, ?_⟩⟩
    refine iteF ⟨_, rfl, _, rfl, d, l, rfl, D4, g, by omega, fun H5 u5 D5 => ⟨_, rfl, iteF ?_⟩⟩
    have hl12 := g.hi
    have tz : (tx l).length ≤ sizeLine := by rw [tx_len, sizeLine_eq]; omega
    refine ⟨_, rfl, _, rfl, d, 2, rfl, D5, by decide, by decide, fun H6 v6 u6 D6 w0 w1 => ?_⟩
    obtain ⟨i9, rfl⟩ := Int.eq_ofNat_of_zero_le w0
    refine ⟨_, _, rfl, rfl, _, rfl, _, rfl, tz, ?_⟩
    rw [show (8 : Int) + ((i9 : Nat) : Int) = ((8 + i9 : Nat) : Int) by omega, cutS_to]
    have gN := goodW_take g (k := 8 + i9) (by omega)
    have nl : (l.take (8 + i9)).length ≤ 9 := by rw [List.length_take]; omega
    generalize l.take (8 + i9) = m at gN nl ⊢
    have mlo := gN.lo
    have mz : (tx m).length ≤ sizeLine := by rw [tx_len, sizeLine_eq]; omega
    obtain ⟨oe, ne, ke, ce, de⟩ := eT
    have hE : ∀ {H' : Hp}, SqA K H' e ((([] : List (List Nat)).map tx).map V.str) := .inr (.inr ⟨oe, #[], ne, ke, ce, de, by decide, .nil⟩)
    refine ⟨_, rfl, fun x dx nx ndx nne => hall0 gN nx ndx nne hE fun H7 sb D ys fo s7 hF => ⟨rfl, ?_⟩⟩
    refine ⟨x, dx, _, rfl, hF.G.hA.x, rfl, x, dx, sb, D, m, ys, fo, rfl, hF.G.hA, gN, fun H8 pT s8 npT eT => ?_⟩
    rw [prT_rms gN (fun b hb => by cases hb) hF.hf, rms_all] at eT
    refine ⟨_, _, rfl, ?_⟩
    obtain ⟨tA, sA, eA, eZ⟩ := allT_ends m m.length (Nat.le_refl _)
    rw [List.take_length] at eA eZ
    have s8' : Same H6 H8 := sm_trans s7 s8
    have D8 := D6.same s8'
    have npTd : pT ≠ d := (D6.same s7).ne npT
    refine ⟨_, rfl, tx m, rfl, ?_⟩
    have wk := walk_str (z := tx m)
    rw [show (tx m).cps.size = m.length from tx_len _] at wk
    refine for_it wk (fun i σ H' => ∃ y6 : Option V, σ = [some (.ref a), some (.ref d), some (.str (tx l)), some (.str (tx m)), some (.ref pT), some (.int ((2 ^ i : Nat) : Int)), y6, none, none, none] ∧ Same H8 H') ⟨_, rfl, fun _ _ h => h⟩ (fun _ _ _ _ _ => trivial) ?_ ?_
    · rintro i v σ G1 G2 hi ⟨y6, rfl, u⟩ ⟨rfl, c, hc, rfl⟩
      have e3 : ((2 ^ i : Nat) : Int) * 2 = ((2 ^ (i + 1) : Nat) : Int) := by rw [Nat.pow_succ, Int.natCast_mul]; rfl
      refine ⟨_, rfl, _, _, rfl, rfl, .inr ⟨by decide, by decide⟩, some (.str ⟨#[c]⟩), ?_, u⟩
      rw [← e3]
      rfl
    rintro σ H9 ⟨y6, rfl, s9⟩
    have eT9 := s9 _ _ eT
    have D9 := D8.same s9
    have tl : (((allT m m.length).map tx).map V.str).length = 2 ^ m.length := by rw [List.length_map, List.length_map, allT_len]
    refine ⟨_, rfl, pT, _, rfl, .inl (SqL.of eT9), ?_⟩
    rw [tl]
    refine ⟨_, rfl, pT, _, 0, .str (tx (m.map upc)), rfl, rfl, SqL.of eT9, by rw [eA]; exact atI_nat (j := 0) rfl, _, rfl, _, rfl, pT, _, -1, .str (tx m), rfl, rfl, SqL.of eT9, ?_, by show 3 ≤ sizeLine; decide, fun p1 np1 => ?_⟩
    · rw [eZ, List.map_append, List.map_append]
      exact atI_last _ _
    refine ⟨_, rfl, _, rfl, ⟨_, rfl⟩, _, rfl, rfl, by rw [tx_len]; omega, ?_⟩
    rw [upper_tx gN.asc]
    refine ⟨_, rfl, by show 3 ≤ sizeLine; decide, fun p2 np2 => ?_⟩
    have n1 : 1 ≤ 2 ^ m.length := Nat.one_le_two_pow
    have n9 : 2 ^ m.length ≤ 512 := Nat.le_trans (Nat.pow_le_pow_right (by decide) nl) (by decide)
    generalize 2 ^ m.length = N at n1 n9 tl np2 ⊢
    have sB := sm_upd (o := .lst [.int ((N : Nat) : Int), .str (tx (m.map upc)), .str (tx m)]) (same_upd np1 (o := .lst [.int ((N : Nat) : Int), .str (tx (m.map upc)), .str (tx m)])) np2
    refine ⟨_, _, rfl, Alk.flat (xs := [.int ((N : Nat) : Int), .str (tx (m.map upc)), .str (tx m)]) (by rw [upd_ne (ne_of_none upd_same np2), upd_same]) upd_same (by show 3 ≤ 5000; decide) (fun x hx => by
      rcases List.mem_cons.mp hx with rfl | hx
      · exact .inr (.inr ⟨_, rfl⟩)
      · rcases List.mem_cons.mp hx with rfl | hx
        · exact .inl ⟨_, rfl⟩
        · rw [List.mem_singleton.mp hx]; exact .inl ⟨_, rfl⟩), fun Ha sa => ⟨_, rfl, iteF ?_⟩⟩
    have s9a := sm_trans sB sa
    have Da := D9.same s9a
    refine ⟨_, rfl, _, rfl, _, rfl, d, _, rfl, Da, by omega, by omega, fun Hb vj ub Db b0 b1 => ?_⟩
    obtain ⟨jj, rfl⟩ := Int.eq_ofNat_of_zero_le b0
    have hjj : jj < (allT m m.length).length := by
      rw [List.length_map, List.length_map] at tl
      omega
    generalize hr : (allT m m.length)[jj] = r
    have hrm : r ∈ rms m [] := by rw [rms_all, ← hr]; exact List.getElem_mem hjj
    have eTb := ub.1 _ _ npTd (s9a _ _ eT9)
    refine ⟨pT, _, _, .str (tx r), rfl, rfl, SqL.of eTb, atI_nat (by rw [List.getElem?_map, List.getElem?_map, List.getElem?_eq_getElem hjj, hr]; rfl), ?_⟩
    obtain ⟨rl, rlt⟩ := rms_lets gN r hrm
    have rz : (tx r).length ≤ sizeLine := by rw [tx_len, sizeLine_eq]; omega
    refine ⟨_, rfl, tx m, rfl, mz, _, rfl, by rw [tx_len]; omega, by rw [tx_len]; omega, fun Dc nc => ?_⟩
    rw [show (((tx m).length : Nat) : Int).toNat = r.length by rw [tx_len, rl]; exact Int.toNat_natCast _]
    refine lc_it walk_range (fun i H' => Same Hb H' ∧ H' Dc = some (.lst ((((List.range i).map (turnAt r)).map tx).map V.str))) ⟨same_upd nc, upd_same⟩ (fun _ _ _ _ => trivial) ?_ ?_
    · rintro i v G1 G2 hi ⟨u1, e1⟩ ⟨rfl, ev⟩
      obtain rfl : v = .int ((i : Nat) : Int) := ev.trans (by show V.int (0 + _) = _; rw [Int.zero_add])
      have hat : atI (tx r).cps.toList ((i : Nat) : Int) = some (r.getD i 0) := by
        rw [tx_list, show r.getD i 0 = r[i] by simp [List.getD, hi]]
        exact atI_nat (List.getElem?_eq_getElem hi)
      have clt : isLt (r.getD i 0) := rlt _ (by rw [show r.getD i 0 = r[i] by simp [List.getD, hi]]; exact List.getElem_mem hi)
      refine ⟨rfl, yes_i ⟨_, rfl, _, rfl, _, rfl, _, rfl, rz, ?_⟩⟩
      rw [cutS_to]
      refine ⟨_, rfl, _, rfl, tx r, _, _, rfl, rfl, rz, hat, _, rfl, clt, _, _, rfl, rfl, by rw [tx_len, List.length_take, sizeLine_eq]; show _ + 1 ≤ _; omega, ?_⟩
      rw [sg_tx, tx_app]
      refine ⟨_, rfl, _, rfl, _, _, rfl, rfl, _, rfl, _, rfl, rz, ?_⟩
      rw [show ((i : Nat) : Int) + 1 = ((i + 1 : Nat) : Int) by omega, cutS_from]
      refine ⟨_, _, rfl, rfl, by rw [tx_len, tx_len, List.length_append, List.length_take, List.length_drop, sizeLine_eq]; show min i r.length + 1 + _ ≤ _; omega, ?_⟩
      rw [tx_app]
      refine ⟨_, e1, by rw [List.length_map, List.length_map, List.length_map, List.length_range, sizeLine_eq]; omega, sm_over u1 nc, ?_⟩
      rw [upd_same, List.range_succ, List.map_append, List.map_append, List.map_append]
      show some (HO.lst (_ ++ [V.str (tx (r.take i ++ [swp (r.getD i 0)] ++ r.drop (i + 1)))])) = some (HO.lst (_ ++ [V.str (tx (turnAt r i))]))
      rw [turn_cut hi]
    rintro Hd ⟨sd, es⟩
    refine ⟨_, rfl, fun x2 dx2 nx2 ndx2 nne2 => hall0 gN nx2 ndx2 nne2 hE fun He sb2 D2 ys2 fo2 se hF2 => ⟨rfl, ?_⟩⟩
    refine ⟨x2, dx2, _, rfl, hF2.G.hA.x, rfl, _, rfl, x2, dx2, sb2, D2, m, ys2, fo2, [], r, rfl, hF2.G, hrm, fun Hf pf sf npf ef => ?_⟩
    rw [doors_all gN hrm] at ef
    refine ⟨_, rfl, _, _, rfl, Alk.strs ef (sm_trans se sf _ _ es) (by rw [List.length_map, List.length_map, List.length_range]; omega), fun Hg sg' => q _⟩
end
end NC
namespace NC
open PySem PySem.Spec PyProof.Rows L2
set_option maxHeartbeats 4000000 in
theorem all_mk {l : PySem.W.OpenLaw} {w : World} {K : PySem.W.Frag} {h : Heap} {mg : Str → Option Value} {fa : Addr}  (X : K.In h) (G : h.Ns mainGlobals mg) (hfa : mg "law" = some (.ref fa))
    {f_O : Addr} {oc_O kV_O dc_O pm_O cd_O ct_O : Value} {od_O an_O : Option Addr} {sl_O : Array (Option Value)}
    {f_S : Addr} {oc_S kV_S dc_S pm_S cd_S ct_S : Value} {od_S an_S : Option Addr} {sl_S : Array (Option Value)}
    {f_Y : Addr} {oc_Y kV_Y dc_Y pm_Y cd_Y ct_Y : Value} {od_Y an_Y : Option Addr} {sl_Y : Array (Option Value)}
    {f_W : Addr} {oc_W kV_W dc_W pm_W cd_W ct_W : Value} {od_W an_W : Option Addr} {sl_W : Array (Option Value)}
    {f_I : Addr} {oc_I kV_I dc_I pm_I cd_I ct_I : Value} {od_I an_I : Option Addr} {sl_I : Array (Option Value)}
    {f_cw : Addr} {oc_cw kV_cw dc_cw pm_cw cd_cw ct_cw : Value} {od_cw an_cw : Option Addr} {sl_cw : Array (Option Value)}
    {f_cb : Addr} {oc_cb kV_cb dc_cb pm_cb cd_cb ct_cb : Value} {od_cb an_cb : Option Addr} {sl_cb : Array (Option Value)}
    {f_cs : Addr} {oc_cs kV_cs dc_cs pm_cs cd_cs ct_cs : Value} {od_cs an_cs : Option Addr} {sl_cs : Array (Option Value)}
    {f_st : Addr} {oc_st kV_st dc_st pm_st cd_st ct_st : Value} {od_st an_st : Option Addr} {sl_st : Array (Option Value)}
    {f_re : Addr} {oc_re kV_re dc_re pm_re cd_re ct_re : Value} {od_re an_re : Option Addr} {sl_re : Array (Option Value)}
    {f_af : Addr} {oc_af kV_af dc_af pm_af cd_af ct_af : Value} {od_af an_af : Option Addr} {sl_af : Array (Option Value)}
    {f_cf : Addr} {oc_cf kV_cf dc_cf pm_cf cd_cf ct_cf : Value} {od_cf an_cf : Option Addr} {sl_cf : Array (Option Value)}
    {f_ca : Addr} {oc_ca kV_ca dc_ca pm_ca cd_ca ct_ca : Value} {od_ca an_ca : Option Addr} {sl_ca : Array (Option Value)}
    {f_same : Addr} {oc_same kV_same dc_same pm_same cd_same ct_same : Value} {od_same an_same : Option Addr} {sl_same : Array (Option Value)}
    {f_start : Addr} {oc_start kV_start dc_start pm_start cd_start ct_start : Value} {od_start an_start : Option Addr} {sl_start : Array (Option Value)}
    {f_draw : Addr} {oc_draw kV_draw dc_draw pm_draw cd_draw ct_draw : Value} {od_draw an_draw : Option Addr} {sl_draw : Array (Option Value)}
    {f_of : Addr} {oc_of kV_of dc_of pm_of cd_of ct_of : Value} {od_of an_of : Option Addr} {sl_of : Array (Option Value)}
    {f_mx : Addr} {oc_mx kV_mx dc_mx pm_mx cd_mx ct_mx : Value} {od_mx an_mx : Option Addr} {sl_mx : Array (Option Value)}
    {f_letters : Addr} {oc_letters kV_letters dc_letters pm_letters cd_letters ct_letters : Value} {od_letters an_letters : Option Addr} {sl_letters : Array (Option Value)}
    {f_oth : Addr} {oc_oth kV_oth dc_oth pm_oth cd_oth ct_oth : Value} {od_oth an_oth : Option Addr} {sl_oth : Array (Option Value)}
    {f_img : Addr} {oc_img kV_img dc_img pm_img cd_img ct_img : Value} {od_img an_img : Option Addr} {sl_img : Array (Option Value)}
    {f_bys : Addr} {oc_bys kV_bys dc_bys pm_bys cd_bys ct_bys : Value} {od_bys an_bys : Option Addr} {sl_bys : Array (Option Value)}
    {f_smt : Addr} {oc_smt kV_smt dc_smt pm_smt cd_smt ct_smt : Value} {od_smt an_smt : Option Addr} {sl_smt : Array (Option Value)}
    {f_lsi : Addr} {oc_lsi kV_lsi dc_lsi pm_lsi cd_lsi ct_lsi : Value} {od_lsi an_lsi : Option Addr} {sl_lsi : Array (Option Value)}
    {f_lcr : Addr} {oc_lcr kV_lcr dc_lcr pm_lcr cd_lcr ct_lcr : Value} {od_lcr an_lcr : Option Addr} {sl_lcr : Array (Option Value)}
    {f_ltr : Addr} {oc_ltr kV_ltr dc_ltr pm_ltr cd_ltr ct_ltr : Value} {od_ltr an_ltr : Option Addr} {sl_ltr : Array (Option Value)}
    {f_isP : Addr} {oc_isP kV_isP dc_isP pm_isP cd_isP ct_isP : Value} {od_isP an_isP : Option Addr} {sl_isP : Array (Option Value)}
    {f_chP : Addr} {oc_chP kV_chP dc_chP pm_chP cd_chP ct_chP : Value} {od_chP an_chP : Option Addr} {sl_chP : Array (Option Value)}
    {f_afb : Addr} {oc_afb kV_afb dc_afb pm_afb cd_afb ct_afb : Value} {od_afb an_afb : Option Addr} {sl_afb : Array (Option Value)}
    {f_to : Addr} {oc_to kV_to dc_to pm_to cd_to ct_to : Value} {od_to an_to : Option Addr} {sl_to : Array (Option Value)}
    {f_chk : Addr} {oc_chk kV_chk dc_chk pm_chk cd_chk ct_chk : Value} {od_chk an_chk : Option Addr} {sl_chk : Array (Option Value)}
    {f_un : Addr} {oc_un kV_un dc_un pm_un cd_un ct_un : Value} {od_un an_un : Option Addr} {sl_un : Array (Option Value)}
    {f_ho : Addr} {oc_ho kV_ho dc_ho pm_ho cd_ho ct_ho : Value} {od_ho an_ho : Option Addr} {sl_ho : Array (Option Value)}
    {f_sh : Addr} {oc_sh kV_sh dc_sh pm_sh cd_sh ct_sh : Value} {od_sh an_sh : Option Addr} {sl_sh : Array (Option Value)}
    {f_ro : Addr} {oc_ro kV_ro dc_ro pm_ro cd_ro ct_ro : Value} {od_ro an_ro : Option Addr} {sl_ro : Array (Option Value)}
    {f_fr : Addr} {oc_fr kV_fr dc_fr pm_fr cd_fr ct_fr : Value} {od_fr an_fr : Option Addr} {sl_fr : Array (Option Value)}
    {f_go : Addr} {oc_go kV_go dc_go pm_go cd_go ct_go : Value} {od_go an_go : Option Addr} {sl_go : Array (Option Value)}
    {f_so : Addr} {oc_so kV_so dc_so pm_so cd_so ct_so : Value} {od_so an_so : Option Addr} {sl_so : Array (Option Value)}
    {f_ke : Addr} {oc_ke kV_ke dc_ke pm_ke cd_ke ct_ke : Value} {od_ke an_ke : Option Addr} {sl_ke : Array (Option Value)}
    {f_ist : Addr} {oc_ist kV_ist dc_ist pm_ist cd_ist ct_ist : Value} {od_ist an_ist : Option Addr} {sl_ist : Array (Option Value)}
    {f_ct : Addr} {oc_ct kV_ct dc_ct pm_ct cd_ct ct_ct : Value} {od_ct an_ct : Option Addr} {sl_ct : Array (Option Value)}
    {f_tu : Addr} {oc_tu kV_tu dc_tu pm_tu cd_tu ct_tu : Value} {od_tu an_tu : Option Addr} {sl_tu : Array (Option Value)}
    {f_ovr : Addr} {oc_ovr kV_ovr dc_ovr pm_ovr cd_ovr ct_ovr : Value} {od_ovr an_ovr : Option Addr} {sl_ovr : Array (Option Value)}
    {f_bh : Addr} {oc_bh kV_bh dc_bh pm_bh cd_bh ct_bh : Value} {od_bh an_bh : Option Addr} {sl_bh : Array (Option Value)}
    {f_bk : Addr} {oc_bk kV_bk dc_bk pm_bk cd_bk ct_bk : Value} {od_bk an_bk : Option Addr} {sl_bk : Array (Option Value)}
    {CH : Addr}
    {CB : Addr}
    {CF : Addr}
    {CA : Addr}
    {nm_CB q_CB : Str} {N_CB : Addr} {bs_CB bm_CB sub_CB : List Value} {sn_CB : List Str} {ab_CB : Bool} {col_CB : Option Bool} {dd_CB : Option Addr} {m0_CB m1_CB m2_CB m3_CB m5_CB : Option Value}
    {nm_CF q_CF : Str} {N_CF : Addr} {bs_CF bm_CF sub_CF : List Value} {sn_CF : List Str} {ab_CF : Bool} {col_CF : Option Bool} {dd_CF : Option Addr} {m0_CF m1_CF m2_CF m3_CF m5_CF : Option Value}
    {nm_CA q_CA : Str} {N_CA : Addr} {bs_CA bm_CA sub_CA : List Value} {sn_CA : List Str} {ab_CA : Bool} {col_CA : Option Bool} {dd_CA : Option Addr} {m0_CA m1_CA m2_CA m3_CA m5_CA : Option Value}
    {f_iH : Addr} {oc_iH kV_iH dc_iH pm_iH cd_iH ct_iH : Value} {od_iH an_iH : Option Addr} {sl_iH : Array (Option Value)}
    {f_iB : Addr} {oc_iB kV_iB dc_iB pm_iB cd_iB ct_iB : Value} {od_iB an_iB : Option Addr} {sl_iB : Array (Option Value)}
    {f_iF : Addr} {oc_iF kV_iF dc_iF pm_iF cd_iF ct_iF : Value} {od_iF an_iF : Option Addr} {sl_iF : Array (Option Value)}
    {f_iA : Addr} {oc_iA kV_iA dc_iA pm_iA cd_iA ct_iA : Value} {od_iA an_iA : Option Addr} {sl_iA : Array (Option Value)}
    {T_hi e_hi : Addr} {oc_T : Value} {od_T : Option Addr} {n_T : Nat} {sl_T : Array (Option Value)}
    {C : Addr}
    {f_hb : Addr} {oc_hb kV_hb dc_hb pm_hb cd_hb ct_hb : Value} {od_hb an_hb : Option Addr} {sl_hb : Array (Option Value)}
    {f_hm : Addr} {oc_hm kV_hm dc_hm pm_hm cd_hm ct_hm : Value} {od_hm an_hm : Option Addr} {sl_hm : Array (Option Value)}
    {f_hr : Addr} {oc_hr kV_hr dc_hr pm_hr cd_hr ct_hr : Value} {od_hr an_hr : Option Addr} {sl_hr : Array (Option Value)}
    {f_hg : Addr} {oc_hg kV_hg dc_hg pm_hg cd_hg ct_hg : Value} {od_hg an_hg : Option Addr} {sl_hg : Array (Option Value)}
    {f_hwl : Addr} {oc_hwl kV_hwl dc_hwl pm_hwl cd_hwl ct_hwl : Value} {od_hwl an_hwl : Option Addr} {sl_hwl : Array (Option Value)}
    {f_hfo : Addr} {oc_hfo kV_hfo dc_hfo pm_hfo cd_hfo ct_hfo : Value} {od_hfo an_hfo : Option Addr} {sl_hfo : Array (Option Value)}
    {f_hdo : Addr} {oc_hdo kV_hdo dc_hdo pm_hdo cd_hdo ct_hdo : Value} {od_hdo an_hdo : Option Addr} {sl_hdo : Array (Option Value)}
    {f_hst : Addr} {oc_hst kV_hst dc_hst pm_hst cd_hst ct_hst : Value} {od_hst an_hst : Option Addr} {sl_hst : Array (Option Value)}
    {f_hwa : Addr} {oc_hwa kV_hwa dc_hwa pm_hwa cd_hwa ct_hwa : Value} {od_hwa an_hwa : Option Addr} {sl_hwa : Array (Option Value)}
    {f_hne : Addr} {oc_hne kV_hne dc_hne pm_hne cd_hne ct_hne : Value} {od_hne an_hne : Option Addr} {sl_hne : Array (Option Value)}
    {f_hi : Addr} {oc_hi kV_hi dc_hi pm_hi cd_hi ct_hi : Value} {od_hi an_hi : Option Addr} {sl_hi : Array (Option Value)}
    {od_e : Option Addr} {n_e : Nat} {sl_e : Array (Option Value)}
    {tw : Tok}
    {c : Addr} {fL : Addr} {ocL kVL dcL pmL ctL : Value} {odL anL : Option Addr} {slL : Array (Option Value)}
    (a_O : PySem.W.nsIn K mainGlobals "other" = some (some (.ref f_O)))
    (l_O : K.lookup f_O = some ⟨oc_O, od_O, .func (PySem.W.fnOf "other" "other" (defArgs sOther) (defBody sOther) (defScope sOther) .none kV_O dc_O pm_O an_O cd_O ct_O), sl_O⟩)
    (c_O : PySem.W.codeIn K cd_O "other" = true)
    (k_O : PySem.W.keepIn K (.ref f_O) = true)
    (a_S : PySem.W.nsIn K mainGlobals "sides_of" = some (some (.ref f_S)))
    (l_S : K.lookup f_S = some ⟨oc_S, od_S, .func (PySem.W.fnOf "sides_of" "sides_of" (defArgs sSides) (defBody sSides) (defScope sSides) .none kV_S dc_S pm_S an_S cd_S ct_S), sl_S⟩)
    (c_S : PySem.W.codeIn K cd_S "sides_of" = true)
    (k_S : PySem.W.keepIn K (.ref f_S) = true)
    (a_Y : PySem.W.nsIn K mainGlobals "by_walls" = some (some (.ref f_Y)))
    (l_Y : K.lookup f_Y = some ⟨oc_Y, od_Y, .func (PySem.W.fnOf "by_walls" "by_walls" (defArgs sByWalls) (defBody sByWalls) (defScope sByWalls) .none kV_Y dc_Y pm_Y an_Y cd_Y ct_Y), sl_Y⟩)
    (c_Y : PySem.W.codeIn K cd_Y "by_walls" = true)
    (k_Y : PySem.W.keepIn K (.ref f_Y) = true)
    (a_W : PySem.W.nsIn K mainGlobals "is_walls" = some (some (.ref f_W)))
    (l_W : K.lookup f_W = some ⟨oc_W, od_W, .func (PySem.W.fnOf "is_walls" "is_walls" (defArgs sIsWalls) (defBody sIsWalls) (defScope sIsWalls) .none kV_W dc_W pm_W an_W cd_W ct_W), sl_W⟩)
    (c_W : PySem.W.codeIn K cd_W "is_walls" = true)
    (k_W : PySem.W.keepIn K (.ref f_W) = true)
    (a_I : PySem.W.nsIn K mainGlobals "is_bar" = some (some (.ref f_I)))
    (l_I : K.lookup f_I = some ⟨oc_I, od_I, .func (PySem.W.fnOf "is_bar" "is_bar" (defArgs sIsBar) (defBody sIsBar) (defScope sIsBar) .none kV_I dc_I pm_I an_I cd_I ct_I), sl_I⟩)
    (c_I : PySem.W.codeIn K cd_I "is_bar" = true)
    (k_I : PySem.W.keepIn K (.ref f_I) = true)
    (a_cw : PySem.W.nsIn K mainGlobals "check_walls" = some (some (.ref f_cw)))
    (l_cw : K.lookup f_cw = some ⟨oc_cw, od_cw, .func (PySem.W.fnOf "check_walls" "check_walls" (defArgs sChkWalls) (defBody sChkWalls) (defScope sChkWalls) .none kV_cw dc_cw pm_cw an_cw cd_cw ct_cw), sl_cw⟩)
    (c_cw : PySem.W.codeIn K cd_cw "check_walls" = true)
    (k_cw : PySem.W.keepIn K (.ref f_cw) = true)
    (a_cb : PySem.W.nsIn K mainGlobals "check_bars" = some (some (.ref f_cb)))
    (l_cb : K.lookup f_cb = some ⟨oc_cb, od_cb, .func (PySem.W.fnOf "check_bars" "check_bars" (defArgs sChkBars) (defBody sChkBars) (defScope sChkBars) .none kV_cb dc_cb pm_cb an_cb cd_cb ct_cb), sl_cb⟩)
    (c_cb : PySem.W.codeIn K cd_cb "check_bars" = true)
    (k_cb : PySem.W.keepIn K (.ref f_cb) = true)
    (a_cs : PySem.W.nsIn K mainGlobals "check_side" = some (some (.ref f_cs)))
    (l_cs : K.lookup f_cs = some ⟨oc_cs, od_cs, .func (PySem.W.fnOf "check_side" "check_side" (defArgs sChkSide) (defBody sChkSide) (defScope sChkSide) .none kV_cs dc_cs pm_cs an_cs cd_cs ct_cs), sl_cs⟩)
    (c_cs : PySem.W.codeIn K cd_cs "check_side" = true)
    (k_cs : PySem.W.keepIn K (.ref f_cs) = true)
    (a_st : PySem.W.nsIn K mainGlobals "straight_from" = some (some (.ref f_st)))
    (l_st : K.lookup f_st = some ⟨oc_st, od_st, .func (PySem.W.fnOf "straight_from" "straight_from" (defArgs sStraight) (defBody sStraight) (defScope sStraight) .none kV_st dc_st pm_st an_st cd_st ct_st), sl_st⟩)
    (c_st : PySem.W.codeIn K cd_st "straight_from" = true)
    (k_st : PySem.W.keepIn K (.ref f_st) = true)
    (a_re : PySem.W.nsIn K mainGlobals "reached" = some (some (.ref f_re)))
    (l_re : K.lookup f_re = some ⟨oc_re, od_re, .func (PySem.W.fnOf "reached" "reached" (defArgs sReached) (defBody sReached) (defScope sReached) .none kV_re dc_re pm_re an_re cd_re ct_re), sl_re⟩)
    (c_re : PySem.W.codeIn K cd_re "reached" = true)
    (k_re : PySem.W.keepIn K (.ref f_re) = true)
    (a_af : PySem.W.nsIn K mainGlobals "all_forced" = some (some (.ref f_af)))
    (l_af : K.lookup f_af = some ⟨oc_af, od_af, .func (PySem.W.fnOf "all_forced" "all_forced" (defArgs sAllF) (defBody sAllF) (defScope sAllF) .none kV_af dc_af pm_af an_af cd_af ct_af), sl_af⟩)
    (c_af : PySem.W.codeIn K cd_af "all_forced" = true)
    (k_af : PySem.W.keepIn K (.ref f_af) = true)
    (a_cf : PySem.W.nsIn K mainGlobals "check_fixed" = some (some (.ref f_cf)))
    (l_cf : K.lookup f_cf = some ⟨oc_cf, od_cf, .func (PySem.W.fnOf "check_fixed" "check_fixed" (defArgs sChkFix) (defBody sChkFix) (defScope sChkFix) .none kV_cf dc_cf pm_cf an_cf cd_cf ct_cf), sl_cf⟩)
    (c_cf : PySem.W.codeIn K cd_cf "check_fixed" = true)
    (k_cf : PySem.W.keepIn K (.ref f_cf) = true)
    (a_ca : PySem.W.nsIn K mainGlobals "check_alike" = some (some (.ref f_ca)))
    (l_ca : K.lookup f_ca = some ⟨oc_ca, od_ca, .func (PySem.W.fnOf "check_alike" "check_alike" (defArgs sChkAl) (defBody sChkAl) (defScope sChkAl) .none kV_ca dc_ca pm_ca an_ca cd_ca ct_ca), sl_ca⟩)
    (c_ca : PySem.W.codeIn K cd_ca "check_alike" = true)
    (k_ca : PySem.W.keepIn K (.ref f_ca) = true)
    (a_same : PySem.W.nsIn K mainGlobals "_law_same" = some (some (.ref f_same)))
    (l_same : K.lookup f_same = some ⟨oc_same, od_same, .func (PySem.W.fnOf "_law_same" "_law_same" (defArgs sSame) (defBody sSame) (defScope sSame) .none kV_same dc_same pm_same an_same cd_same ct_same), sl_same⟩)
    (c_same : PySem.W.codeIn K cd_same "_law_same" = true)
    (k_same : PySem.W.keepIn K (.ref f_same) = true)
    (a_start : PySem.W.nsIn K mainGlobals "_law_start" = some (some (.ref f_start)))
    (l_start : K.lookup f_start = some ⟨oc_start, od_start, .func (PySem.W.fnOf "_law_start" "_law_start" (defArgs sStart) (defBody sStart) (defScope sStart) .none kV_start dc_start pm_start an_start cd_start ct_start), sl_start⟩)
    (c_start : PySem.W.codeIn K cd_start "_law_start" = true)
    (k_start : PySem.W.keepIn K (.ref f_start) = true)
    (a_draw : PySem.W.nsIn K mainGlobals "_law_draw" = some (some (.ref f_draw)))
    (l_draw : K.lookup f_draw = some ⟨oc_draw, od_draw, .func (PySem.W.fnOf "_law_draw" "_law_draw" (defArgs sDraw) (defBody sDraw) (defScope sDraw) .none kV_draw dc_draw pm_draw an_draw cd_draw ct_draw), sl_draw⟩)
    (c_draw : PySem.W.codeIn K cd_draw "_law_draw" = true)
    (k_draw : PySem.W.keepIn K (.ref f_draw) = true)
    (a_of : PySem.W.nsIn K mainGlobals "_law_of" = some (some (.ref f_of)))
    (l_of : K.lookup f_of = some ⟨oc_of, od_of, .func (PySem.W.fnOf "_law_of" "_law_of" (defArgs sOf) (defBody sOf) (defScope sOf) .none kV_of dc_of pm_of an_of cd_of ct_of), sl_of⟩)
    (c_of : PySem.W.codeIn K cd_of "_law_of" = true)
    (k_of : PySem.W.keepIn K (.ref f_of) = true)
    (a_mx : PySem.W.nsIn K mainGlobals "_law_mixed" = some (some (.ref f_mx)))
    (l_mx : K.lookup f_mx = some ⟨oc_mx, od_mx, .func (PySem.W.fnOf "_law_mixed" "_law_mixed" (defArgs sLMix) (defBody sLMix) (defScope sLMix) .none kV_mx dc_mx pm_mx an_mx cd_mx ct_mx), sl_mx⟩)
    (c_mx : PySem.W.codeIn K cd_mx "_law_mixed" = true)
    (k_mx : PySem.W.keepIn K (.ref f_mx) = true)
    (a_letters : PySem.W.nsIn K mainGlobals "_law_letters" = some (some (.ref f_letters)))
    (l_letters : K.lookup f_letters = some ⟨oc_letters, od_letters, .func (PySem.W.fnOf "_law_letters" "_law_letters" (defArgs sLetters) (defBody sLetters) (defScope sLetters) .none kV_letters dc_letters pm_letters an_letters cd_letters ct_letters), sl_letters⟩)
    (c_letters : PySem.W.codeIn K cd_letters "_law_letters" = true)
    (k_letters : PySem.W.keepIn K (.ref f_letters) = true)
    (a_oth : PySem.W.nsIn K mainGlobals "_law_other" = some (some (.ref f_oth)))
    (l_oth : K.lookup f_oth = some ⟨oc_oth, od_oth, .func (PySem.W.fnOf "_law_other" "_law_other" (defArgs sOth) (defBody sOth) (defScope sOth) .none kV_oth dc_oth pm_oth an_oth cd_oth ct_oth), sl_oth⟩)
    (c_oth : PySem.W.codeIn K cd_oth "_law_other" = true)
    (k_oth : PySem.W.keepIn K (.ref f_oth) = true)
    (a_img : PySem.W.nsIn K mainGlobals "_law_image" = some (some (.ref f_img)))
    (l_img : K.lookup f_img = some ⟨oc_img, od_img, .func (PySem.W.fnOf "_law_image" "_law_image" (defArgs sLImg) (defBody sLImg) (defScope sLImg) .none kV_img dc_img pm_img an_img cd_img ct_img), sl_img⟩)
    (c_img : PySem.W.codeIn K cd_img "_law_image" = true)
    (k_img : PySem.W.keepIn K (.ref f_img) = true)
    (a_bys : PySem.W.nsIn K mainGlobals "_law_by_shuts" = some (some (.ref f_bys)))
    (l_bys : K.lookup f_bys = some ⟨oc_bys, od_bys, .func (PySem.W.fnOf "_law_by_shuts" "_law_by_shuts" (defArgs sLByS) (defBody sLByS) (defScope sLByS) .none kV_bys dc_bys pm_bys an_bys cd_bys ct_bys), sl_bys⟩)
    (c_bys : PySem.W.codeIn K cd_bys "_law_by_shuts" = true)
    (k_bys : PySem.W.keepIn K (.ref f_bys) = true)
    (a_smt : PySem.W.nsIn K mainGlobals "_law_some_turn" = some (some (.ref f_smt)))
    (l_smt : K.lookup f_smt = some ⟨oc_smt, od_smt, .func (PySem.W.fnOf "_law_some_turn" "_law_some_turn" (defArgs sLSome) (defBody sLSome) (defScope sLSome) .none kV_smt dc_smt pm_smt an_smt cd_smt ct_smt), sl_smt⟩)
    (c_smt : PySem.W.codeIn K cd_smt "_law_some_turn" = true)
    (k_smt : PySem.W.keepIn K (.ref f_smt) = true)
    (a_lsi : PySem.W.nsIn K mainGlobals "_law_sides" = some (some (.ref f_lsi)))
    (l_lsi : K.lookup f_lsi = some ⟨oc_lsi, od_lsi, .func (PySem.W.fnOf "_law_sides" "_law_sides" (defArgs sLSides) (defBody sLSides) (defScope sLSides) .none kV_lsi dc_lsi pm_lsi an_lsi cd_lsi ct_lsi), sl_lsi⟩)
    (c_lsi : PySem.W.codeIn K cd_lsi "_law_sides" = true)
    (k_lsi : PySem.W.keepIn K (.ref f_lsi) = true)
    (a_lcr : PySem.W.nsIn K mainGlobals "_law_chain_right" = some (some (.ref f_lcr)))
    (l_lcr : K.lookup f_lcr = some ⟨oc_lcr, od_lcr, .func (PySem.W.fnOf "_law_chain_right" "_law_chain_right" (defArgs sLCR) (defBody sLCR) (defScope sLCR) .none kV_lcr dc_lcr pm_lcr an_lcr cd_lcr ct_lcr), sl_lcr⟩)
    (c_lcr : PySem.W.codeIn K cd_lcr "_law_chain_right" = true)
    (k_lcr : PySem.W.keepIn K (.ref f_lcr) = true)
    (a_ltr : PySem.W.nsIn K mainGlobals "_law_turns_right" = some (some (.ref f_ltr)))
    (l_ltr : K.lookup f_ltr = some ⟨oc_ltr, od_ltr, .func (PySem.W.fnOf "_law_turns_right" "_law_turns_right" (defArgs sLTR) (defBody sLTR) (defScope sLTR) .none kV_ltr dc_ltr pm_ltr an_ltr cd_ltr ct_ltr), sl_ltr⟩)
    (c_ltr : PySem.W.codeIn K cd_ltr "_law_turns_right" = true)
    (k_ltr : PySem.W.keepIn K (.ref f_ltr) = true)
    (a_isP : PySem.W.nsIn K mainGlobals "is_part" = some (some (.ref f_isP)))
    (l_isP : K.lookup f_isP = some ⟨oc_isP, od_isP, .func (PySem.W.fnOf "is_part" "is_part" (defArgs sIsPart) (defBody sIsPart) (defScope sIsPart) .none kV_isP dc_isP pm_isP an_isP cd_isP ct_isP), sl_isP⟩)
    (c_isP : PySem.W.codeIn K cd_isP "is_part" = true)
    (k_isP : PySem.W.keepIn K (.ref f_isP) = true)
    (a_chP : PySem.W.nsIn K mainGlobals "check_part" = some (some (.ref f_chP)))
    (l_chP : K.lookup f_chP = some ⟨oc_chP, od_chP, .func (PySem.W.fnOf "check_part" "check_part" (defArgs sChkPart) (defBody sChkPart) (defScope sChkPart) .none kV_chP dc_chP pm_chP an_chP cd_chP ct_chP), sl_chP⟩)
    (c_chP : PySem.W.codeIn K cd_chP "check_part" = true)
    (k_chP : PySem.W.keepIn K (.ref f_chP) = true)
    (a_afb : PySem.W.nsIn K mainGlobals "all_forced_by" = some (some (.ref f_afb)))
    (l_afb : K.lookup f_afb = some ⟨oc_afb, od_afb, .func (PySem.W.fnOf "all_forced_by" "all_forced_by" (defArgs sAllFB) (defBody sAllFB) (defScope sAllFB) .none kV_afb dc_afb pm_afb an_afb cd_afb ct_afb), sl_afb⟩)
    (c_afb : PySem.W.codeIn K cd_afb "all_forced_by" = true)
    (k_afb : PySem.W.keepIn K (.ref f_afb) = true)
    (a_to : PySem.W.nsIn K mainGlobals "torn_walls" = some (some (.ref f_to)))
    (l_to : K.lookup f_to = some ⟨oc_to, od_to, .func (PySem.W.fnOf "torn_walls" "torn_walls" (defArgs sTorn) (defBody sTorn) (defScope sTorn) .none kV_to dc_to pm_to an_to cd_to ct_to), sl_to⟩)
    (c_to : PySem.W.codeIn K cd_to "torn_walls" = true)
    (k_to : PySem.W.keepIn K (.ref f_to) = true)
    (a_chk : PySem.W.nsIn K mainGlobals "check_room" = some (some (.ref f_chk)))
    (l_chk : K.lookup f_chk = some ⟨oc_chk, od_chk, .func (PySem.W.fnOf "check_room" "check_room" (defArgs sChkRoom) (defBody sChkRoom) (defScope sChkRoom) .none kV_chk dc_chk pm_chk an_chk cd_chk ct_chk), sl_chk⟩)
    (c_chk : PySem.W.codeIn K cd_chk "check_room" = true)
    (k_chk : PySem.W.keepIn K (.ref f_chk) = true)
    (a_un : PySem.W.nsIn K mainGlobals "unlike" = some (some (.ref f_un)))
    (l_un : K.lookup f_un = some ⟨oc_un, od_un, .func (PySem.W.fnOf "unlike" "unlike" (defArgs sUnlike) (defBody sUnlike) (defScope sUnlike) .none kV_un dc_un pm_un an_un cd_un ct_un), sl_un⟩)
    (c_un : PySem.W.codeIn K cd_un "unlike" = true)
    (k_un : PySem.W.keepIn K (.ref f_un) = true)
    (a_ho : PySem.W.nsIn K mainGlobals "holds" = some (some (.ref f_ho)))
    (l_ho : K.lookup f_ho = some ⟨oc_ho, od_ho, .func (PySem.W.fnOf "holds" "holds" (defArgs sHolds) (defBody sHolds) (defScope sHolds) .none kV_ho dc_ho pm_ho an_ho cd_ho ct_ho), sl_ho⟩)
    (c_ho : PySem.W.codeIn K cd_ho "holds" = true)
    (k_ho : PySem.W.keepIn K (.ref f_ho) = true)
    (a_sh : PySem.W.nsIn K mainGlobals "shut" = some (some (.ref f_sh)))
    (l_sh : K.lookup f_sh = some ⟨oc_sh, od_sh, .func (PySem.W.fnOf "shut" "shut" (defArgs sShut) (defBody sShut) (defScope sShut) .none kV_sh dc_sh pm_sh an_sh cd_sh ct_sh), sl_sh⟩)
    (c_sh : PySem.W.codeIn K cd_sh "shut" = true)
    (k_sh : PySem.W.keepIn K (.ref f_sh) = true)
    (a_ro : PySem.W.nsIn K mainGlobals "rooms_of" = some (some (.ref f_ro)))
    (l_ro : K.lookup f_ro = some ⟨oc_ro, od_ro, .func (PySem.W.fnOf "rooms_of" "rooms_of" (defArgs sRoomsOf) (defBody sRoomsOf) (defScope sRoomsOf) .none kV_ro dc_ro pm_ro an_ro cd_ro ct_ro), sl_ro⟩)
    (c_ro : PySem.W.codeIn K cd_ro "rooms_of" = true)
    (k_ro : PySem.W.keepIn K (.ref f_ro) = true)
    (a_fr : PySem.W.nsIn K mainGlobals "first_room" = some (some (.ref f_fr)))
    (l_fr : K.lookup f_fr = some ⟨oc_fr, od_fr, .func (PySem.W.fnOf "first_room" "first_room" (defArgs sFirst) (defBody sFirst) (defScope sFirst) .none kV_fr dc_fr pm_fr an_fr cd_fr ct_fr), sl_fr⟩)
    (c_fr : PySem.W.codeIn K cd_fr "first_room" = true)
    (k_fr : PySem.W.keepIn K (.ref f_fr) = true)
    (a_go : PySem.W.nsIn K mainGlobals "goes_over" = some (some (.ref f_go)))
    (l_go : K.lookup f_go = some ⟨oc_go, od_go, .func (PySem.W.fnOf "goes_over" "goes_over" (defArgs sGoesO) (defBody sGoesO) (defScope sGoesO) .none kV_go dc_go pm_go an_go cd_go ct_go), sl_go⟩)
    (c_go : PySem.W.codeIn K cd_go "goes_over" = true)
    (k_go : PySem.W.keepIn K (.ref f_go) = true)
    (a_so : PySem.W.nsIn K mainGlobals "sides_over" = some (some (.ref f_so)))
    (l_so : K.lookup f_so = some ⟨oc_so, od_so, .func (PySem.W.fnOf "sides_over" "sides_over" (defArgs sSidesO) (defBody sSidesO) (defScope sSidesO) .none kV_so dc_so pm_so an_so cd_so ct_so), sl_so⟩)
    (c_so : PySem.W.codeIn K cd_so "sides_over" = true)
    (k_so : PySem.W.keepIn K (.ref f_so) = true)
    (a_ke : PySem.W.nsIn K mainGlobals "keeps_forcing" = some (some (.ref f_ke)))
    (l_ke : K.lookup f_ke = some ⟨oc_ke, od_ke, .func (PySem.W.fnOf "keeps_forcing" "keeps_forcing" (defArgs sKeeps) (defBody sKeeps) (defScope sKeeps) .none kV_ke dc_ke pm_ke an_ke cd_ke ct_ke), sl_ke⟩)
    (c_ke : PySem.W.codeIn K cd_ke "keeps_forcing" = true)
    (k_ke : PySem.W.keepIn K (.ref f_ke) = true)
    (a_ist : PySem.W.nsIn K mainGlobals "is_turn" = some (some (.ref f_ist)))
    (l_ist : K.lookup f_ist = some ⟨oc_ist, od_ist, .func (PySem.W.fnOf "is_turn" "is_turn" (defArgs sIsTurn) (defBody sIsTurn) (defScope sIsTurn) .none kV_ist dc_ist pm_ist an_ist cd_ist ct_ist), sl_ist⟩)
    (c_ist : PySem.W.codeIn K cd_ist "is_turn" = true)
    (k_ist : PySem.W.keepIn K (.ref f_ist) = true)
    (a_ct : PySem.W.nsIn K mainGlobals "checked_turn" = some (some (.ref f_ct)))
    (l_ct : K.lookup f_ct = some ⟨oc_ct, od_ct, .func (PySem.W.fnOf "checked_turn" "checked_turn" (defArgs sChkT) (defBody sChkT) (defScope sChkT) .none kV_ct dc_ct pm_ct an_ct cd_ct ct_ct), sl_ct⟩)
    (c_ct : PySem.W.codeIn K cd_ct "checked_turn" = true)
    (k_ct : PySem.W.keepIn K (.ref f_ct) = true)
    (a_tu : PySem.W.nsIn K mainGlobals "turned" = some (some (.ref f_tu)))
    (l_tu : K.lookup f_tu = some ⟨oc_tu, od_tu, .func (PySem.W.fnOf "turned" "turned" (defArgs sTurned) (defBody sTurned) (defScope sTurned) .none kV_tu dc_tu pm_tu an_tu cd_tu ct_tu), sl_tu⟩)
    (c_tu : PySem.W.codeIn K cd_tu "turned" = true)
    (k_tu : PySem.W.keepIn K (.ref f_tu) = true)
    (a_ovr : PySem.W.nsIn K mainGlobals "over" = some (some (.ref f_ovr)))
    (l_ovr : K.lookup f_ovr = some ⟨oc_ovr, od_ovr, .func (PySem.W.fnOf "over" "over" (defArgs sOver) (defBody sOver) (defScope sOver) .none kV_ovr dc_ovr pm_ovr an_ovr cd_ovr ct_ovr), sl_ovr⟩)
    (c_ovr : PySem.W.codeIn K cd_ovr "over" = true)
    (k_ovr : PySem.W.keepIn K (.ref f_ovr) = true)
    (a_bh : PySem.W.nsIn K mainGlobals "turn_behind" = some (some (.ref f_bh)))
    (l_bh : K.lookup f_bh = some ⟨oc_bh, od_bh, .func (PySem.W.fnOf "turn_behind" "turn_behind" (defArgs sBehind) (defBody sBehind) (defScope sBehind) .none kV_bh dc_bh pm_bh an_bh cd_bh ct_bh), sl_bh⟩)
    (c_bh : PySem.W.codeIn K cd_bh "turn_behind" = true)
    (k_bh : PySem.W.keepIn K (.ref f_bh) = true)
    (a_bk : PySem.W.nsIn K mainGlobals "back_turn" = some (some (.ref f_bk)))
    (l_bk : K.lookup f_bk = some ⟨oc_bk, od_bk, .func (PySem.W.fnOf "back_turn" "back_turn" (defArgs sBack) (defBody sBack) (defScope sBack) .none kV_bk dc_bk pm_bk an_bk cd_bk ct_bk), sl_bk⟩)
    (c_bk : PySem.W.codeIn K cd_bk "back_turn" = true)
    (k_bk : PySem.W.keepIn K (.ref f_bk) = true)
    (a_CH : PySem.W.nsIn K mainGlobals "HallError" = some (some (.ref CH)))
    (a_CB : PySem.W.nsIn K mainGlobals "BadBar" = some (some (.ref CB)))
    (a_CF : PySem.W.nsIn K mainGlobals "Fixed" = some (some (.ref CF)))
    (a_CA : PySem.W.nsIn K mainGlobals "Alike" = some (some (.ref CA)))
    (i_H : PySem.W.findCls K (.ref CH) (.type "type") "__init__" = some (.val (.ref f_iH)))
    (r_H : PySem.W.readsIn K CH (.type "type") = true)
    (g_H : PySem.W.specialIn K (.ref CH) "__getattribute__" = some (some (.builtin "type.__getattribute__")))
    (v_V : PySem.W.findCls K (.type "ValueError") (.type "type") "__init__" = some (.val (.builtin "ValueError.__init__")))
    (x_CB : K.lookup CB = some (excClassObj nm_CB q_CB CB N_CB bs_CB bm_CB true sn_CB sub_CB ab_CB col_CB dd_CB m0_CB m1_CB m2_CB m3_CB m5_CB "ValueError.__new__"))
    (rv_CB : PySem.HandSPX.refsVE bm_CB = true)
    (sa_CB : PySem.W.findIn K (.ref CB) "__setattr__" = some (some (.builtin "object.__setattr__")))
    (ex_CB : PySem.W.subIn K (.ref CB) (.type "BaseException") = some true)
    (ty_CB : PySem.W.typeIn K (.ref CB) = some (.type "type"))
    (kc_CB : PySem.W.keepIn K (.ref CB) = true)
    (i_CB : PySem.W.findIn K (.ref CB) "__init__" = some (some (.ref f_iB)))
    (t_CB : PySem.W.typeIn K (.ref f_iB) = some (.type "function"))
    (n_CB_word : PySem.W.findIn K (.ref CB) "word" = some none)
    (n_CB_at : PySem.W.findIn K (.ref CB) "at" = some none)
    (x_CF : K.lookup CF = some (excClassObj nm_CF q_CF CF N_CF bs_CF bm_CF true sn_CF sub_CF ab_CF col_CF dd_CF m0_CF m1_CF m2_CF m3_CF m5_CF "ValueError.__new__"))
    (rv_CF : PySem.HandSPX.refsVE bm_CF = true)
    (sa_CF : PySem.W.findIn K (.ref CF) "__setattr__" = some (some (.builtin "object.__setattr__")))
    (ex_CF : PySem.W.subIn K (.ref CF) (.type "BaseException") = some true)
    (ty_CF : PySem.W.typeIn K (.ref CF) = some (.type "type"))
    (kc_CF : PySem.W.keepIn K (.ref CF) = true)
    (i_CF : PySem.W.findIn K (.ref CF) "__init__" = some (some (.ref f_iF)))
    (t_CF : PySem.W.typeIn K (.ref f_iF) = some (.type "function"))
    (n_CF_word : PySem.W.findIn K (.ref CF) "word" = some none)
    (n_CF_side : PySem.W.findIn K (.ref CF) "side" = some none)
    (x_CA : K.lookup CA = some (excClassObj nm_CA q_CA CA N_CA bs_CA bm_CA true sn_CA sub_CA ab_CA col_CA dd_CA m0_CA m1_CA m2_CA m3_CA m5_CA "ValueError.__new__"))
    (rv_CA : PySem.HandSPX.refsVE bm_CA = true)
    (sa_CA : PySem.W.findIn K (.ref CA) "__setattr__" = some (some (.builtin "object.__setattr__")))
    (ex_CA : PySem.W.subIn K (.ref CA) (.type "BaseException") = some true)
    (ty_CA : PySem.W.typeIn K (.ref CA) = some (.type "type"))
    (kc_CA : PySem.W.keepIn K (.ref CA) = true)
    (i_CA : PySem.W.findIn K (.ref CA) "__init__" = some (some (.ref f_iA)))
    (t_CA : PySem.W.typeIn K (.ref f_iA) = some (.type "function"))
    (n_CA_word : PySem.W.findIn K (.ref CA) "word" = some none)
    (n_CA_one : PySem.W.findIn K (.ref CA) "one" = some none)
    (n_CA_other : PySem.W.findIn K (.ref CA) "other" = some none)
    (l_iH : K.lookup f_iH = some ⟨oc_iH, od_iH, .func (PySem.W.fnOf "__init__" "HallError.__init__" (defArgs sHEinit) (defBody sHEinit) (defScope sHEinit) .none kV_iH dc_iH pm_iH an_iH cd_iH ct_iH), sl_iH⟩)
    (c_iH : PySem.W.codeIn K cd_iH "HallError.__init__" = true)
    (k_iH : PySem.W.keepIn K (.ref f_iH) = true)
    (l_iB : K.lookup f_iB = some ⟨oc_iB, od_iB, .func (PySem.W.fnOf "__init__" "BadBar.__init__" (defArgs sBBinit) (defBody sBBinit) (defScope sBBinit) .none kV_iB dc_iB pm_iB an_iB cd_iB ct_iB), sl_iB⟩)
    (c_iB : PySem.W.codeIn K cd_iB "BadBar.__init__" = true)
    (k_iB : PySem.W.keepIn K (.ref f_iB) = true)
    (l_iF : K.lookup f_iF = some ⟨oc_iF, od_iF, .func (PySem.W.fnOf "__init__" "Fixed.__init__" (defArgs sFXinit) (defBody sFXinit) (defScope sFXinit) .none kV_iF dc_iF pm_iF an_iF cd_iF ct_iF), sl_iF⟩)
    (c_iF : PySem.W.codeIn K cd_iF "Fixed.__init__" = true)
    (k_iF : PySem.W.keepIn K (.ref f_iF) = true)
    (l_iA : K.lookup f_iA = some ⟨oc_iA, od_iA, .func (PySem.W.fnOf "__init__" "Alike.__init__" (defArgs sALinit) (defBody sALinit) (defScope sALinit) .none kV_iA dc_iA pm_iA an_iA cd_iA ct_iA), sl_iA⟩)
    (c_iA : PySem.W.codeIn K cd_iA "Alike.__init__" = true)
    (k_iA : PySem.W.keepIn K (.ref f_iA) = true)
    (a_C : PySem.W.nsIn K mainGlobals "Hall" = some (some (.ref C)))
    (i_C : PySem.W.findIn K (.ref C) "__init__" = some (some (.ref f_hi)))
    (j_C : PySem.W.isFn K (.ref f_hi) = true)
    (pg_C : PySem.W.plainGet K C Str.empty = true)
    (hd_C : PySem.W.hasDictIn K C = true)
    (po_C : PySem.W.plainOver K C = true)
    (sa_C : PySem.W.findIn K (.ref C) "__setattr__" = some (some (.builtin "object.__setattr__")))
    (mk_C : PySem.W.makesIn K C = true)
    (kp_C : PySem.W.keepIn K (.ref C) = true)
    (n1_C : PySem.W.findIn K (.ref C) "wall_text" = some none)
    (n2_C : PySem.W.findIn K (.ref C) "bar_list" = some none)
    (n3_C : PySem.W.findIn K (.ref C) "forced_by" = some none)
    (b_hb : PySem.W.findIn K (.ref C) "bars" = some (some (.ref f_hb)))
    (m_hb : PySem.W.isFn K (.ref f_hb) = true)
    (l_hb : K.lookup f_hb = some ⟨oc_hb, od_hb, .func (PySem.W.fnOf "bars" "Hall.bars" (defArgs sHbars) (defBody sHbars) (defScope sHbars) .none kV_hb dc_hb pm_hb an_hb cd_hb ct_hb), sl_hb⟩)
    (c_hb : PySem.W.codeIn K cd_hb "Hall.bars" = true)
    (k_hb : PySem.W.keepIn K (.ref f_hb) = true)
    (b_hm : PySem.W.findIn K (.ref C) "is_room" = some (some (.ref f_hm)))
    (m_hm : PySem.W.isFn K (.ref f_hm) = true)
    (l_hm : K.lookup f_hm = some ⟨oc_hm, od_hm, .func (PySem.W.fnOf "is_room" "Hall.is_room" (defArgs sHroom) (defBody sHroom) (defScope sHroom) .none kV_hm dc_hm pm_hm an_hm cd_hm ct_hm), sl_hm⟩)
    (c_hm : PySem.W.codeIn K cd_hm "Hall.is_room" = true)
    (k_hm : PySem.W.keepIn K (.ref f_hm) = true)
    (b_hr : PySem.W.findIn K (.ref C) "rooms" = some (some (.ref f_hr)))
    (m_hr : PySem.W.isFn K (.ref f_hr) = true)
    (l_hr : K.lookup f_hr = some ⟨oc_hr, od_hr, .func (PySem.W.fnOf "rooms" "Hall.rooms" (defArgs sHrooms) (defBody sHrooms) (defScope sHrooms) .none kV_hr dc_hr pm_hr an_hr cd_hr ct_hr), sl_hr⟩)
    (c_hr : PySem.W.codeIn K cd_hr "Hall.rooms" = true)
    (k_hr : PySem.W.keepIn K (.ref f_hr) = true)
    (b_hg : PySem.W.findIn K (.ref C) "goes_with" = some (some (.ref f_hg)))
    (m_hg : PySem.W.isFn K (.ref f_hg) = true)
    (l_hg : K.lookup f_hg = some ⟨oc_hg, od_hg, .func (PySem.W.fnOf "goes_with" "Hall.goes_with" (defArgs sHgoes) (defBody sHgoes) (defScope sHgoes) .none kV_hg dc_hg pm_hg an_hg cd_hg ct_hg), sl_hg⟩)
    (c_hg : PySem.W.codeIn K cd_hg "Hall.goes_with" = true)
    (k_hg : PySem.W.keepIn K (.ref f_hg) = true)
    (b_hwl : PySem.W.findIn K (.ref C) "walls" = some (some (.ref f_hwl)))
    (m_hwl : PySem.W.isFn K (.ref f_hwl) = true)
    (l_hwl : K.lookup f_hwl = some ⟨oc_hwl, od_hwl, .func (PySem.W.fnOf "walls" "Hall.walls" (defArgs sHwalls) (defBody sHwalls) (defScope sHwalls) .none kV_hwl dc_hwl pm_hwl an_hwl cd_hwl ct_hwl), sl_hwl⟩)
    (c_hwl : PySem.W.codeIn K cd_hwl "Hall.walls" = true)
    (k_hwl : PySem.W.keepIn K (.ref f_hwl) = true)
    (b_hfo : PySem.W.findIn K (.ref C) "forced" = some (some (.ref f_hfo)))
    (m_hfo : PySem.W.isFn K (.ref f_hfo) = true)
    (l_hfo : K.lookup f_hfo = some ⟨oc_hfo, od_hfo, .func (PySem.W.fnOf "forced" "Hall.forced" (defArgs sHforced) (defBody sHforced) (defScope sHforced) .none kV_hfo dc_hfo pm_hfo an_hfo cd_hfo ct_hfo), sl_hfo⟩)
    (c_hfo : PySem.W.codeIn K cd_hfo "Hall.forced" = true)
    (k_hfo : PySem.W.keepIn K (.ref f_hfo) = true)
    (b_hdo : PySem.W.findIn K (.ref C) "doors" = some (some (.ref f_hdo)))
    (m_hdo : PySem.W.isFn K (.ref f_hdo) = true)
    (l_hdo : K.lookup f_hdo = some ⟨oc_hdo, od_hdo, .func (PySem.W.fnOf "doors" "Hall.doors" (defArgs sHdoors) (defBody sHdoors) (defScope sHdoors) .none kV_hdo dc_hdo pm_hdo an_hdo cd_hdo ct_hdo), sl_hdo⟩)
    (c_hdo : PySem.W.codeIn K cd_hdo "Hall.doors" = true)
    (k_hdo : PySem.W.keepIn K (.ref f_hdo) = true)
    (b_hst : PySem.W.findIn K (.ref C) "steps" = some (some (.ref f_hst)))
    (m_hst : PySem.W.isFn K (.ref f_hst) = true)
    (l_hst : K.lookup f_hst = some ⟨oc_hst, od_hst, .func (PySem.W.fnOf "steps" "Hall.steps" (defArgs sHsteps) (defBody sHsteps) (defScope sHsteps) .none kV_hst dc_hst pm_hst an_hst cd_hst ct_hst), sl_hst⟩)
    (c_hst : PySem.W.codeIn K cd_hst "Hall.steps" = true)
    (k_hst : PySem.W.keepIn K (.ref f_hst) = true)
    (b_hwa : PySem.W.findIn K (.ref C) "way" = some (some (.ref f_hwa)))
    (m_hwa : PySem.W.isFn K (.ref f_hwa) = true)
    (l_hwa : K.lookup f_hwa = some ⟨oc_hwa, od_hwa, .func (PySem.W.fnOf "way" "Hall.way" (defArgs sHway) (defBody sHway) (defScope sHway) .none kV_hwa dc_hwa pm_hwa an_hwa cd_hwa ct_hwa), sl_hwa⟩)
    (c_hwa : PySem.W.codeIn K cd_hwa "Hall.way" = true)
    (k_hwa : PySem.W.keepIn K (.ref f_hwa) = true)
    (b_hne : PySem.W.findIn K (.ref C) "nearer" = some (some (.ref f_hne)))
    (m_hne : PySem.W.isFn K (.ref f_hne) = true)
    (l_hne : K.lookup f_hne = some ⟨oc_hne, od_hne, .func (PySem.W.fnOf "nearer" "Hall.nearer" (defArgs sHnear) (defBody sHnear) (defScope sHnear) .none kV_hne dc_hne pm_hne an_hne cd_hne ct_hne), sl_hne⟩)
    (c_hne : PySem.W.codeIn K cd_hne "Hall.nearer" = true)
    (k_hne : PySem.W.keepIn K (.ref f_hne) = true)
    (l_hi : K.lookup f_hi = some ⟨oc_hi, od_hi, .func (PySem.W.fnOf "__init__" "Hall.__init__" (defArgs sHinit) (defBody sHinit) (defScope sHinit) (.ref T_hi) kV_hi dc_hi pm_hi an_hi cd_hi ct_hi), sl_hi⟩)
    (c_hi : PySem.W.codeIn K cd_hi "Hall.__init__" = true)
    (k_hi : PySem.W.keepIn K (.ref f_hi) = true)
    (d_hi : K.lookup T_hi = some ⟨oc_T, od_T, .seq [Value.ref e_hi].toArray n_T, sl_T⟩)
    (d_e : K.lookup e_hi = some ⟨.type "tuple", od_e, .seq #[] n_e, sl_e⟩)
    (z_list : PySem.W.nsIn K mainGlobals "list" = some none)
    (z_sorted : PySem.W.nsIn K mainGlobals "sorted" = some none)
    (z_set : PySem.W.nsIn K mainGlobals "set" = some none)
    (z_all : PySem.W.nsIn K mainGlobals "all" = some none)
    (z_len : PySem.W.nsIn K mainGlobals "len" = some none)
    (z_enumerate : PySem.W.nsIn K mainGlobals "enumerate" = some none)
    (z_range : PySem.W.nsIn K mainGlobals "range" = some none)
    (z_isinstance : PySem.W.nsIn K mainGlobals "isinstance" = some none)
    (z_tuple : PySem.W.nsIn K mainGlobals "tuple" = some none)
    (z_ValueError : PySem.W.nsIn K mainGlobals "ValueError" = some none)
    (z_bool : PySem.W.nsIn K mainGlobals "bool" = some none)
    (z_str : PySem.W.nsIn K mainGlobals "str" = some none)
    (z_any : PySem.W.nsIn K mainGlobals "any" = some none)
    (z_zip : PySem.W.nsIn K mainGlobals "zip" = some none)
    (w_W : PySem.W.nsIn K mainGlobals "WIDEST" = some (some (.int 12 tw)))
    (a_L : PySem.W.nsIn K mainGlobals "law" = some (some (.ref fL)))
    (l_L : K.lookup fL = some ⟨ocL, odL, .func (PySem.W.fnOf "law" "law" (defArgs sLaw) (defBody sLaw) (defScope sLaw) .none kVL dcL pmL anL (.ref c) ctL), slL⟩)
    (c_L : PySem.W.codeIn K (.ref c) "law" = true)
    (k_L : PySem.W.keepIn K (.ref fL) = true)
    : LamX.LawAtS l w K CX0 9 63 "_law_script" mg fa h := by
  have F_O := fun_mk (st := sOther) l_O c_O k_O
  have D_O : DF K mg "other" sOther ["side"] f_O _ := ⟨F_O, PySem.W.mg_of X G a_O, F_O.binds (ps := ["side"]) fun _ _ _ _ _ _ us hl => match us, hl with | [_], _ => rfl⟩
  have F_S := fun_mk (st := sSides) l_S c_S k_S
  have D_S : DF K mg "sides_of" sSides ["walls"] f_S _ := ⟨F_S, PySem.W.mg_of X G a_S, F_S.binds (ps := ["walls"]) fun _ _ _ _ _ _ us hl => match us, hl with | [_], _ => rfl⟩
  have F_Y := fun_mk (st := sByWalls) l_Y c_Y k_Y
  have D_Y : DF K mg "by_walls" sByWalls ["walls", "sides"] f_Y _ := ⟨F_Y, PySem.W.mg_of X G a_Y, F_Y.binds (ps := ["walls", "sides"]) fun _ _ _ _ _ _ us hl => match us, hl with | [_, _], _ => rfl⟩
  have F_W := fun_mk (st := sIsWalls) l_W c_W k_W
  have D_W : DF K mg "is_walls" sIsWalls ["walls"] f_W _ := ⟨F_W, PySem.W.mg_of X G a_W, F_W.binds (ps := ["walls"]) fun _ _ _ _ _ _ us hl => match us, hl with | [_], _ => rfl⟩
  have F_I := fun_mk (st := sIsBar) l_I c_I k_I
  have D_I : DF K mg "is_bar" sIsBar ["walls", "bar"] f_I _ := ⟨F_I, PySem.W.mg_of X G a_I, F_I.binds (ps := ["walls", "bar"]) fun _ _ _ _ _ _ us hl => match us, hl with | [_, _], _ => rfl⟩
  have F_cw := fun_mk (st := sChkWalls) l_cw c_cw k_cw
  have D_cw : DF K mg "check_walls" sChkWalls ["walls"] f_cw _ := ⟨F_cw, PySem.W.mg_of X G a_cw, F_cw.binds (ps := ["walls"]) fun _ _ _ _ _ _ us hl => match us, hl with | [_], _ => rfl⟩
  have F_cb := fun_mk (st := sChkBars) l_cb c_cb k_cb
  have D_cb : DF K mg "check_bars" sChkBars ["walls", "bars"] f_cb _ := ⟨F_cb, PySem.W.mg_of X G a_cb, F_cb.binds (ps := ["walls", "bars"]) fun _ _ _ _ _ _ us hl => match us, hl with | [_, _], _ => rfl⟩
  have F_cs := fun_mk (st := sChkSide) l_cs c_cs k_cs
  have D_cs : DF K mg "check_side" sChkSide ["walls", "side"] f_cs _ := ⟨F_cs, PySem.W.mg_of X G a_cs, F_cs.binds (ps := ["walls", "side"]) fun _ _ _ _ _ _ us hl => match us, hl with | [_, _], _ => rfl⟩
  have F_st := fun_mk (st := sStraight) l_st c_st k_st
  have D_st : DF K mg "straight_from" sStraight ["walls", "bars"] f_st _ := ⟨F_st, PySem.W.mg_of X G a_st, F_st.binds (ps := ["walls", "bars"]) fun _ _ _ _ _ _ us hl => match us, hl with | [_, _], _ => rfl⟩
  have F_re := fun_mk (st := sReached) l_re c_re k_re
  have D_re : DF K mg "reached" sReached ["straight", "one"] f_re _ := ⟨F_re, PySem.W.mg_of X G a_re, F_re.binds (ps := ["straight", "one"]) fun _ _ _ _ _ _ us hl => match us, hl with | [_, _], _ => rfl⟩
  have F_af := fun_mk (st := sAllF) l_af c_af k_af
  have D_af : DF K mg "all_forced" sAllF ["walls", "bars"] f_af _ := ⟨F_af, PySem.W.mg_of X G a_af, F_af.binds (ps := ["walls", "bars"]) fun _ _ _ _ _ _ us hl => match us, hl with | [_, _], _ => rfl⟩
  have F_cf := fun_mk (st := sChkFix) l_cf c_cf k_cf
  have D_cf : DF K mg "check_fixed" sChkFix ["forced_by"] f_cf _ := ⟨F_cf, PySem.W.mg_of X G a_cf, F_cf.binds (ps := ["forced_by"]) fun _ _ _ _ _ _ us hl => match us, hl with | [_], _ => rfl⟩
  have F_ca := fun_mk (st := sChkAl) l_ca c_ca k_ca
  have D_ca : DF K mg "check_alike" sChkAl ["forced_by"] f_ca _ := ⟨F_ca, PySem.W.mg_of X G a_ca, F_ca.binds (ps := ["forced_by"]) fun _ _ _ _ _ _ us hl => match us, hl with | [_], _ => rfl⟩
  have F_same := fun_mk (st := sSame) l_same c_same k_same
  have D_same : DF K mg "_law_same" sSame ["_law_x", "_law_due"] f_same _ := ⟨F_same, PySem.W.mg_of X G a_same, F_same.binds (ps := ["_law_x", "_law_due"]) fun _ _ _ _ _ _ us hl => match us, hl with | [_, _], _ => rfl⟩
  have F_start := fun_mk (st := sStart) l_start c_start k_start
  have D_start : DF K mg "_law_start" sStart ["_law_script"] f_start _ := ⟨F_start, PySem.W.mg_of X G a_start, F_start.binds (ps := ["_law_script"]) fun _ _ _ _ _ _ us hl => match us, hl with | [_], _ => rfl⟩
  have F_draw := fun_mk (st := sDraw) l_draw c_draw k_draw
  have D_draw : DF K mg "_law_draw" sDraw ["_law_d", "_law_many"] f_draw _ := ⟨F_draw, PySem.W.mg_of X G a_draw, F_draw.binds (ps := ["_law_d", "_law_many"]) fun _ _ _ _ _ _ us hl => match us, hl with | [_, _], _ => rfl⟩
  have F_of := fun_mk (st := sOf) l_of c_of k_of
  have D_of : DF K mg "_law_of" sOf ["_law_d", "_law_some"] f_of _ := ⟨F_of, PySem.W.mg_of X G a_of, F_of.binds (ps := ["_law_d", "_law_some"]) fun _ _ _ _ _ _ us hl => match us, hl with | [_, _], _ => rfl⟩
  have F_mx := fun_mk (st := sLMix) l_mx c_mx k_mx
  have D_mx : DF K mg "_law_mixed" sLMix ["_law_d", "_law_some"] f_mx _ := ⟨F_mx, PySem.W.mg_of X G a_mx, F_mx.binds (ps := ["_law_d", "_law_some"]) fun _ _ _ _ _ _ us hl => match us, hl with | [_, _], _ => rfl⟩
  have F_letters := fun_mk (st := sLetters) l_letters c_letters k_letters
  have D_letters : DF K mg "_law_letters" sLetters [] f_letters _ := ⟨F_letters, PySem.W.mg_of X G a_letters, F_letters.binds (ps := []) fun _ _ _ _ _ _ us hl => match us, hl with | [], _ => rfl⟩
  have F_oth := fun_mk (st := sOth) l_oth c_oth k_oth
  have D_oth : DF K mg "_law_other" sOth ["_law_side"] f_oth _ := ⟨F_oth, PySem.W.mg_of X G a_oth, F_oth.binds (ps := ["_law_side"]) fun _ _ _ _ _ _ us hl => match us, hl with | [_], _ => rfl⟩
  have F_img := fun_mk (st := sLImg) l_img c_img k_img
  have D_img : DF K mg "_law_image" sLImg ["_law_shuts", "_law_turn", "_law_sides_here"] f_img _ := ⟨F_img, PySem.W.mg_of X G a_img, F_img.binds (ps := ["_law_shuts", "_law_turn", "_law_sides_here"]) fun _ _ _ _ _ _ us hl => match us, hl with | [_, _, _], _ => rfl⟩
  have F_bys := fun_mk (st := sLByS) l_bys c_bys k_bys
  have D_bys : DF K mg "_law_by_shuts" sLByS ["_law_sides_here"] f_bys _ := ⟨F_bys, PySem.W.mg_of X G a_bys, F_bys.binds (ps := ["_law_sides_here"]) fun _ _ _ _ _ _ us hl => match us, hl with | [_], _ => rfl⟩
  have F_smt := fun_mk (st := sLSome) l_smt c_smt k_smt
  have D_smt : DF K mg "_law_some_turn" sLSome ["_law_d", "_law_shuts"] f_smt _ := ⟨F_smt, PySem.W.mg_of X G a_smt, F_smt.binds (ps := ["_law_d", "_law_shuts"]) fun _ _ _ _ _ _ us hl => match us, hl with | [_, _], _ => rfl⟩
  have F_lsi := fun_mk (st := sLSides) l_lsi c_lsi k_lsi
  have D_lsi : DF K mg "_law_sides" sLSides ["_law_d", "_law_shuts"] f_lsi _ := ⟨F_lsi, PySem.W.mg_of X G a_lsi, F_lsi.binds (ps := ["_law_d", "_law_shuts"]) fun _ _ _ _ _ _ us hl => match us, hl with | [_, _], _ => rfl⟩
  have F_lcr := fun_mk (st := sLCR) l_lcr c_lcr k_lcr
  have D_lcr : DF K mg "_law_chain_right" sLCR ["_law_d", "_law_shuts"] f_lcr _ := ⟨F_lcr, PySem.W.mg_of X G a_lcr, F_lcr.binds (ps := ["_law_d", "_law_shuts"]) fun _ _ _ _ _ _ us hl => match us, hl with | [_, _], _ => rfl⟩
  have F_ltr := fun_mk (st := sLTR) l_ltr c_ltr k_ltr
  have D_ltr : DF K mg "_law_turns_right" sLTR ["_law_d", "_law_shuts"] f_ltr _ := ⟨F_ltr, PySem.W.mg_of X G a_ltr, F_ltr.binds (ps := ["_law_d", "_law_shuts"]) fun _ _ _ _ _ _ us hl => match us, hl with | [_, _], _ => rfl⟩
  have F_isP := fun_mk (st := sIsPart) l_isP c_isP k_isP
  have D_isP : DF K mg "is_part" sIsPart ["hall", "part"] f_isP _ := ⟨F_isP, PySem.W.mg_of X G a_isP, F_isP.binds (ps := ["hall", "part"]) fun _ _ _ _ _ _ us hl => match us, hl with | [_, _], _ => rfl⟩
  have F_chP := fun_mk (st := sChkPart) l_chP c_chP k_chP
  have D_chP : DF K mg "check_part" sChkPart ["hall", "part"] f_chP _ := ⟨F_chP, PySem.W.mg_of X G a_chP, F_chP.binds (ps := ["hall", "part"]) fun _ _ _ _ _ _ us hl => match us, hl with | [_, _], _ => rfl⟩
  have F_afb := fun_mk (st := sAllFB) l_afb c_afb k_afb
  have D_afb : DF K mg "all_forced_by" sAllFB ["hall", "part"] f_afb _ := ⟨F_afb, PySem.W.mg_of X G a_afb, F_afb.binds (ps := ["hall", "part"]) fun _ _ _ _ _ _ us hl => match us, hl with | [_, _], _ => rfl⟩
  have F_to := fun_mk (st := sTorn) l_to c_to k_to
  have D_to : DF K mg "torn_walls" sTorn ["hall", "part"] f_to _ := ⟨F_to, PySem.W.mg_of X G a_to, F_to.binds (ps := ["hall", "part"]) fun _ _ _ _ _ _ us hl => match us, hl with | [_, _], _ => rfl⟩
  have F_chk := fun_mk (st := sChkRoom) l_chk c_chk k_chk
  have D_chk : DF K mg "check_room" sChkRoom ["hall", "room"] f_chk _ := ⟨F_chk, PySem.W.mg_of X G a_chk, F_chk.binds (ps := ["hall", "room"]) fun _ _ _ _ _ _ us hl => match us, hl with | [_, _], _ => rfl⟩
  have F_un := fun_mk (st := sUnlike) l_un c_un k_un
  have D_un : DF K mg "unlike" sUnlike ["room", "goal"] f_un _ := ⟨F_un, PySem.W.mg_of X G a_un, F_un.binds (ps := ["room", "goal"]) fun _ _ _ _ _ _ us hl => match us, hl with | [_, _], _ => rfl⟩
  have F_ho := fun_mk (st := sHolds) l_ho c_ho k_ho
  have D_ho : DF K mg "holds" sHolds ["part", "room"] f_ho _ := ⟨F_ho, PySem.W.mg_of X G a_ho, F_ho.binds (ps := ["part", "room"]) fun _ _ _ _ _ _ us hl => match us, hl with | [_, _], _ => rfl⟩
  have F_sh := fun_mk (st := sShut) l_sh c_sh k_sh
  have D_sh : DF K mg "shut" sShut ["hall", "part"] f_sh _ := ⟨F_sh, PySem.W.mg_of X G a_sh, F_sh.binds (ps := ["hall", "part"]) fun _ _ _ _ _ _ us hl => match us, hl with | [_, _], _ => rfl⟩
  have F_ro := fun_mk (st := sRoomsOf) l_ro c_ro k_ro
  have D_ro : DF K mg "rooms_of" sRoomsOf ["hall", "part"] f_ro _ := ⟨F_ro, PySem.W.mg_of X G a_ro, F_ro.binds (ps := ["hall", "part"]) fun _ _ _ _ _ _ us hl => match us, hl with | [_, _], _ => rfl⟩
  have F_fr := fun_mk (st := sFirst) l_fr c_fr k_fr
  have D_fr : DF K mg "first_room" sFirst ["hall", "part"] f_fr _ := ⟨F_fr, PySem.W.mg_of X G a_fr, F_fr.binds (ps := ["hall", "part"]) fun _ _ _ _ _ _ us hl => match us, hl with | [_, _], _ => rfl⟩
  have F_go := fun_mk (st := sGoesO) l_go c_go k_go
  have D_go : DF K mg "goes_over" sGoesO ["walls", "turn"] f_go _ := ⟨F_go, PySem.W.mg_of X G a_go, F_go.binds (ps := ["walls", "turn"]) fun _ _ _ _ _ _ us hl => match us, hl with | [_, _], _ => rfl⟩
  have F_so := fun_mk (st := sSidesO) l_so c_so k_so
  have D_so : DF K mg "sides_over" sSidesO ["into", "sides"] f_so _ := ⟨F_so, PySem.W.mg_of X G a_so, F_so.binds (ps := ["into", "sides"]) fun _ _ _ _ _ _ us hl => match us, hl with | [_, _], _ => rfl⟩
  have F_ke := fun_mk (st := sKeeps) l_ke c_ke k_ke
  have D_ke : DF K mg "keeps_forcing" sKeeps ["hall", "into"] f_ke _ := ⟨F_ke, PySem.W.mg_of X G a_ke, F_ke.binds (ps := ["hall", "into"]) fun _ _ _ _ _ _ us hl => match us, hl with | [_, _], _ => rfl⟩
  have F_ist := fun_mk (st := sIsTurn) l_ist c_ist k_ist
  have D_ist : DF K mg "is_turn" sIsTurn ["hall", "turn"] f_ist _ := ⟨F_ist, PySem.W.mg_of X G a_ist, F_ist.binds (ps := ["hall", "turn"]) fun _ _ _ _ _ _ us hl => match us, hl with | [_, _], _ => rfl⟩
  have F_ct := fun_mk (st := sChkT) l_ct c_ct k_ct
  have D_ct : DF K mg "checked_turn" sChkT ["hall", "turn"] f_ct _ := ⟨F_ct, PySem.W.mg_of X G a_ct, F_ct.binds (ps := ["hall", "turn"]) fun _ _ _ _ _ _ us hl => match us, hl with | [_, _], _ => rfl⟩
  have F_tu := fun_mk (st := sTurned) l_tu c_tu k_tu
  have D_tu : DF K mg "turned" sTurned ["hall", "turn", "room"] f_tu _ := ⟨F_tu, PySem.W.mg_of X G a_tu, F_tu.binds (ps := ["hall", "turn", "room"]) fun _ _ _ _ _ _ us hl => match us, hl with | [_, _, _], _ => rfl⟩
  have F_ovr := fun_mk (st := sOver) l_ovr c_ovr k_ovr
  have D_ovr : DF K mg "over" sOver ["hall", "turn", "part"] f_ovr _ := ⟨F_ovr, PySem.W.mg_of X G a_ovr, F_ovr.binds (ps := ["hall", "turn", "part"]) fun _ _ _ _ _ _ us hl => match us, hl with | [_, _, _], _ => rfl⟩
  have F_bh := fun_mk (st := sBehind) l_bh c_bh k_bh
  have D_bh : DF K mg "turn_behind" sBehind ["hall", "one", "two"] f_bh _ := ⟨F_bh, PySem.W.mg_of X G a_bh, F_bh.binds (ps := ["hall", "one", "two"]) fun _ _ _ _ _ _ us hl => match us, hl with | [_, _, _], _ => rfl⟩
  have F_bk := fun_mk (st := sBack) l_bk c_bk k_bk
  have D_bk : DF K mg "back_turn" sBack ["hall", "turn"] f_bk _ := ⟨F_bk, PySem.W.mg_of X G a_bk, F_bk.binds (ps := ["hall", "turn"]) fun _ _ _ _ _ _ us hl => match us, hl with | [_, _], _ => rfl⟩
  have F_iH := fun_mk (st := sHEinit) l_iH c_iH k_iH
  have b_iH := F_iH.binds (ps := ["self", "word"]) fun _ _ _ _ _ _ us hl => match us, hl with | [_, _], _ => rfl
  have F_iB := fun_mk (st := sBBinit) l_iB c_iB k_iB
  have b_iB := F_iB.binds (ps := ["self", "at"]) fun _ _ _ _ _ _ us hl => match us, hl with | [_, _], _ => rfl
  have F_iF := fun_mk (st := sFXinit) l_iF c_iF k_iF
  have b_iF := F_iF.binds (ps := ["self", "side"]) fun _ _ _ _ _ _ us hl => match us, hl with | [_, _], _ => rfl
  have F_iA := fun_mk (st := sALinit) l_iA c_iA k_iA
  have b_iA := F_iA.binds (ps := ["self", "one", "other"]) fun _ _ _ _ _ _ us hl => match us, hl with | [_, _, _], _ => rfl
  have e := hfa.symm.trans (PySem.W.mg_of X G a_L)
  cases e
  have B : BM mg := ⟨PySem.W.mg_none_of X G z_list, PySem.W.mg_none_of X G z_sorted, PySem.W.mg_none_of X G z_set, PySem.W.mg_none_of X G z_all, PySem.W.mg_none_of X G z_len, PySem.W.mg_none_of X G z_enumerate, PySem.W.mg_none_of X G z_range, PySem.W.mg_none_of X G z_isinstance, PySem.W.mg_none_of X G z_tuple⟩
  have he : HE K mg CH f_iH _ := ⟨PySem.W.mg_of X G a_CH, ⟨_, ⟨r_H, g_H⟩, i_H⟩, F_iH, b_iH, PySem.W.mg_none_of X G z_ValueError, v_V⟩
  have xCB : XC K mg "BadBar" "BadBar.__init__" sBBinit "at" CB f_iB _ := ⟨PySem.W.mg_of X G a_CB, ⟨⟨_, _, _, _, _, _, _, _, _, _, _, _, _, _, _, x_CB, rv_CB⟩, sa_CB, ex_CB, ty_CB, kc_CB⟩, n_CB_word, n_CB_at, i_CB, t_CB, F_iB, b_iB⟩
  have xCF : XC K mg "Fixed" "Fixed.__init__" sFXinit "side" CF f_iF _ := ⟨PySem.W.mg_of X G a_CF, ⟨⟨_, _, _, _, _, _, _, _, _, _, _, _, _, _, _, x_CF, rv_CF⟩, sa_CF, ex_CF, ty_CF, kc_CF⟩, n_CF_word, n_CF_side, i_CF, t_CF, F_iF, b_iF⟩
  have xCA : XC2 K mg CA f_iA _ := ⟨PySem.W.mg_of X G a_CA, ⟨⟨_, _, _, _, _, _, _, _, _, _, _, _, _, _, _, x_CA, rv_CA⟩, sa_CA, ex_CA, ty_CA, kc_CA⟩, n_CA_word, n_CA_one, n_CA_other, i_CA, t_CA, F_iA, b_iA⟩
  have T8 := Txt8.mk B (PySem.W.mg_of X G w_W) D_O D_S D_Y D_W D_I D_cw D_cb D_cs D_st D_re D_af D_cf D_ca he xCB xCF xCA
  have F_hm := fun_mk (st := sHroom) l_hm c_hm k_hm
  have b1_hm := F_hm.binds (ps := ["self", "room"]) fun _ _ _ _ _ _ us hl => match us, hl with | [_, _], _ => rfl
  have F_hr := fun_mk (st := sHrooms) l_hr c_hr k_hr
  have b1_hr := F_hr.binds (ps := ["self"]) fun _ _ _ _ _ _ us hl => match us, hl with | [_], _ => rfl
  have F_hg := fun_mk (st := sHgoes) l_hg c_hg k_hg
  have b1_hg := F_hg.binds (ps := ["self", "side", "begun"]) fun _ _ _ _ _ _ us hl => match us, hl with | [_, _, _], _ => rfl
  have F_hwl := fun_mk (st := sHwalls) l_hwl c_hwl k_hwl
  have b1_hwl := F_hwl.binds (ps := ["self"]) fun _ _ _ _ _ _ us hl => match us, hl with | [_], _ => rfl
  have F_hfo := fun_mk (st := sHforced) l_hfo c_hfo k_hfo
  have b1_hfo := F_hfo.binds (ps := ["self", "side"]) fun _ _ _ _ _ _ us hl => match us, hl with | [_, _], _ => rfl
  have F_hdo := fun_mk (st := sHdoors) l_hdo c_hdo k_hdo
  have b1_hdo := F_hdo.binds (ps := ["self", "room"]) fun _ _ _ _ _ _ us hl => match us, hl with | [_, _], _ => rfl
  have F_hst := fun_mk (st := sHsteps) l_hst c_hst k_hst
  have b1_hst := F_hst.binds (ps := ["self", "room", "goal"]) fun _ _ _ _ _ _ us hl => match us, hl with | [_, _, _], _ => rfl
  have F_hwa := fun_mk (st := sHway) l_hwa c_hwa k_hwa
  have b1_hwa := F_hwa.binds (ps := ["self", "room", "goal"]) fun _ _ _ _ _ _ us hl => match us, hl with | [_, _, _], _ => rfl
  have F_hne := fun_mk (st := sHnear) l_hne c_hne k_hne
  have b1_hne := F_hne.binds (ps := ["self", "room", "goal"]) fun _ _ _ _ _ _ us hl => match us, hl with | [_, _, _], _ => rfl
  have hp : HP K C f_hwl f_hfo _ _ := ⟨⟨b_hwl, m_hwl, k_hwl⟩, F_hwl, b1_hwl, ⟨b_hfo, m_hfo, k_hfo⟩, F_hfo, b1_hfo⟩
  have mm : HM K C f_hm f_hr f_hg _ _ _ := ⟨⟨b_hm, m_hm, k_hm⟩, F_hm, b1_hm, ⟨b_hr, m_hr, k_hr⟩, F_hr, b1_hr, ⟨b_hg, m_hg, k_hg⟩, F_hg, b1_hg⟩
  have Fb := fun_mk (st := sHbars) l_hb c_hb k_hb
  have FD : FunD K "__init__" "Hall.__init__" (defArgs sHinit) (defBody sHinit) (defScope sHinit) [.ref e_hi] [] f_hi _ := ⟨⟨_, _, _, _, _, _, _, _, _, _, rfl, l_hi, c_hi, .inr ⟨by simp, T_hi, _, [.ref e_hi], n_T, rfl, d_hi, rfl, .cons rfl .nil⟩, .inl rfl⟩, k_hi⟩
  obtain ⟨ds, hds, hbi⟩ := FD.binds1 (ps := ["self", "walls", "bars"]) 3 1 (by simp) rfl (fun _ _ _ _ _ _ _ us its h1 h2 => match us, its, h1, h2 with | [_, _, _], [_], _, _ => ⟨_, rfl, rfl⟩)
  have hds2 : ds = [] := by
    have z : Vals ([] : List V) ds := hds
    cases z
    rfl
  subst hds2
  have zz : HC K mg C f_hi f_hb _ _ := ⟨PySem.W.mg_of X G a_C, ⟨pg_C, hd_C, po_C, sa_C⟩, ⟨mk_C, i_C, j_C, kp_C⟩, ⟨_, FD⟩, hbi, n1_C, n2_C, n3_C, ⟨b_hb, m_hb, k_hb⟩, Fb, Fb.binds (ps := ["self"]) fun _ _ _ _ _ _ us hl => match us, hl with | [_], _ => rfl⟩
  have hw : HW K C f_hdo f_hst f_hwa f_hne _ _ _ _ := ⟨⟨b_hdo, m_hdo, k_hdo⟩, F_hdo, b1_hdo, ⟨b_hst, m_hst, k_hst⟩, F_hst, b1_hst, ⟨b_hwa, m_hwa, k_hwa⟩, F_hwa, ⟨b_hne, m_hne, k_hne⟩, F_hne, b1_hne⟩
  obtain ⟨ds2, hds2, hbi2⟩ := FD.binds1 (ps := ["self", "walls", "bars"]) 2 0 (by simp) rfl (fun _ _ _ _ _ _ _ us its h1 h2 => match us, its, h1, h2 with | [_, _], [_], _, _ => ⟨_, rfl, rfl⟩)
  have hds3 : ds2 = [.ref e_hi] := by
    have z : Vals [V.ref e_hi] ds2 := hds2
    cases z with
    | cons r t =>
      cases t
      cases r
      rfl
  subst hds3
  have yy := NC.PT.mk hp D_isP D_chP D_afb D_to
  have uu := NC.TT_.mk D_go D_so D_ke D_ist D_ct (PySem.W.mg_none_of X G z_zip)
  have lt := HlT.mk D_same D_draw D_of D_mx D_letters D_oth D_img D_bys D_smt D_lsi D_tu D_ovr D_bh D_bk D_chk (PySem.W.mg_none_of X G z_any) (PySem.W.mg_none_of X G z_bool) (PySem.W.mg_none_of X G z_str)
  have lc := HlC.mk D_same D_draw D_chk D_un D_sh D_ho D_ro D_fr (PySem.W.mg_none_of X G z_any) (PySem.W.mg_none_of X G z_zip) (PySem.W.mg_none_of X G z_bool) (PySem.W.mg_none_of X G z_str)
  exact ⟨_, [], spLaw K, nofun, nofun, nofun, fun s u => .of_eq rfl, fun H a ns hl hb hH hS => ⟨a, ns, rfl, hS, fun _ => rfl⟩, fun base KB GB TB => ok_law (k := 0) (fun_mk (st := sLaw) l_L c_L k_L) zz mm hw b1_hwa yy uu T8 hbi2 ⟨_, _, d_e, rfl, rfl⟩ lt lc D_start D_lcr D_ltr⟩
end NC
open PySem PySem.W PyProof.Rows
set_option maxHeartbeats 0 in
theorem PySem.Challenge.cw_nearcall_k78_rooms_and_turns_of_wide_hal_holds : PySem.Challenge.rw_nearcall_k78_rooms_and_turns_of_wide_hal.Holds := by
  w_on; o_law; k_head; (case hw => w_witness2)
  k_fill
  refine LamX.walk_ofTs (l := PySem.Challenge.rw_nearcall_k78_rooms_and_turns_of_wide_hal) (n := 63) (k := 9) (x := "_law_script") (CX := fun w => L2.CX0) rfl (by decide) rfl ⟨rfl, by decide, by decide⟩ (fun w h Y => PySem.W.kIn_of Y) ?F (fun _ _ _ _ _ h => h)
  case F =>
    intro w mg fa h Y KX G hmg
    refine' NC.all_mk KX G hmg ?a_O ?l_O ?c_O ?k_O ?a_S ?l_S ?c_S ?k_S ?a_Y ?l_Y ?c_Y ?k_Y ?a_W ?l_W ?c_W ?k_W ?a_I ?l_I ?c_I ?k_I ?a_cw ?l_cw ?c_cw ?k_cw ?a_cb ?l_cb ?c_cb ?k_cb ?a_cs ?l_cs ?c_cs ?k_cs ?a_st ?l_st ?c_st ?k_st ?a_re ?l_re ?c_re ?k_re ?a_af ?l_af ?c_af ?k_af ?a_cf ?l_cf ?c_cf ?k_cf ?a_ca ?l_ca ?c_ca ?k_ca ?a_same ?l_same ?c_same ?k_same ?a_start ?l_start ?c_start ?k_start ?a_draw ?l_draw ?c_draw ?k_draw ?a_of ?l_of ?c_of ?k_of ?a_mx ?l_mx ?c_mx ?k_mx ?a_letters ?l_letters ?c_letters ?k_letters ?a_oth ?l_oth ?c_oth ?k_oth ?a_img ?l_img ?c_img ?k_img ?a_bys ?l_bys ?c_bys ?k_bys ?a_smt ?l_smt ?c_smt ?k_smt ?a_lsi ?l_lsi ?c_lsi ?k_lsi ?a_lcr ?l_lcr ?c_lcr ?k_lcr ?a_ltr ?l_ltr ?c_ltr ?k_ltr ?a_isP ?l_isP ?c_isP ?k_isP ?a_chP ?l_chP ?c_chP ?k_chP ?a_afb ?l_afb ?c_afb ?k_afb ?a_to ?l_to ?c_to ?k_to ?a_chk ?l_chk ?c_chk ?k_chk ?a_un ?l_un ?c_un ?k_un ?a_ho ?l_ho ?c_ho ?k_ho ?a_sh ?l_sh ?c_sh ?k_sh ?a_ro ?l_ro ?c_ro ?k_ro ?a_fr ?l_fr ?c_fr ?k_fr ?a_go ?l_go ?c_go ?k_go ?a_so ?l_so ?c_so ?k_so ?a_ke ?l_ke ?c_ke ?k_ke ?a_ist ?l_ist ?c_ist ?k_ist ?a_ct ?l_ct ?c_ct ?k_ct ?a_tu ?l_tu ?c_tu ?k_tu ?a_ovr ?l_ovr ?c_ovr ?k_ovr ?a_bh ?l_bh ?c_bh ?k_bh ?a_bk ?l_bk ?c_bk ?k_bk ?a_CH ?a_CB ?a_CF ?a_CA ?i_H ?r_H ?g_H ?v_V ?x_CB ?rv_CB ?sa_CB ?ex_CB ?ty_CB ?kc_CB ?i_CB ?t_CB ?n_CB_word ?n_CB_at ?x_CF ?rv_CF ?sa_CF ?ex_CF ?ty_CF ?kc_CF ?i_CF ?t_CF ?n_CF_word ?n_CF_side ?x_CA ?rv_CA ?sa_CA ?ex_CA ?ty_CA ?kc_CA ?i_CA ?t_CA ?n_CA_word ?n_CA_one ?n_CA_other ?l_iH ?c_iH ?k_iH ?l_iB ?c_iB ?k_iB ?l_iF ?c_iF ?k_iF ?l_iA ?c_iA ?k_iA ?a_C ?i_C ?j_C ?pg_C ?hd_C ?po_C ?sa_C ?mk_C ?kp_C ?n1_C ?n2_C ?n3_C ?b_hb ?m_hb ?l_hb ?c_hb ?k_hb ?b_hm ?m_hm ?l_hm ?c_hm ?k_hm ?b_hr ?m_hr ?l_hr ?c_hr ?k_hr ?b_hg ?m_hg ?l_hg ?c_hg ?k_hg ?b_hwl ?m_hwl ?l_hwl ?c_hwl ?k_hwl ?b_hfo ?m_hfo ?l_hfo ?c_hfo ?k_hfo ?b_hdo ?m_hdo ?l_hdo ?c_hdo ?k_hdo ?b_hst ?m_hst ?l_hst ?c_hst ?k_hst ?b_hwa ?m_hwa ?l_hwa ?c_hwa ?k_hwa ?b_hne ?m_hne ?l_hne ?c_hne ?k_hne ?l_hi ?c_hi ?k_hi ?d_hi ?d_e ?z_list ?z_sorted ?z_set ?z_all ?z_len ?z_enumerate ?z_range ?z_isinstance ?z_tuple ?z_ValueError ?z_bool ?z_str ?z_any ?z_zip ?w_W ?a_L ?l_L ?c_L ?k_L
    (case a_O => k_is)
    (case l_O => k_is)
    (case c_O => k_is)
    (case k_O => k_is)
    (case a_S => k_is)
    (case l_S => k_is)
    (case c_S => k_is)
    (case k_S => k_is)
    (case a_Y => k_is)
    (case l_Y => k_is)
    (case c_Y => k_is)
    (case k_Y => k_is)
    (case a_W => k_is)
    (case l_W => k_is)
    (case c_W => k_is)
    (case k_W => k_is)
    (case a_I => k_is)
    (case l_I => k_is)
    (case c_I => k_is)
    (case k_I => k_is)
    (case a_cw => k_is)
    (case l_cw => k_is)
    (case c_cw => k_is)
    (case k_cw => k_is)
    (case a_cb => k_is)
    (case l_cb => k_is)
    (case c_cb => k_is)
    (case k_cb => k_is)
    (case a_cs => k_is)
    (case l_cs => k_is)
    (case c_cs => k_is)
    (case k_cs => k_is)
    (case a_st => k_is)
    (case l_st => k_is)
    (case c_st => k_is)
    (case k_st => k_is)
    (case a_re => k_is)
    (case l_re => k_is)
    (case c_re => k_is)
    (case k_re => k_is)
    (case a_af => k_is)
    (case l_af => k_is)
    (case c_af => k_is)
    (case k_af => k_is)
    (case a_cf => k_is)
    (case l_cf => k_is)
    (case c_cf => k_is)
    (case k_cf => k_is)
    (case a_ca => k_is)
    (case l_ca => k_is)
    (case c_ca => k_is)
    (case k_ca => k_is)
    (case a_same => k_is)
    (case l_same => k_is)
    (case c_same => k_is)
    (case k_same => k_is)
    (case a_start => k_is)
    (case l_start => k_is)
    (case c_start => k_is)
    (case k_start => k_is)
    (case a_draw => k_is)
    (case l_draw => k_is)
    (case c_draw => k_is)
    (case k_draw => k_is)
    (case a_of => k_is)
    (case l_of => k_is)
    (case c_of => k_is)
    (case k_of => k_is)
    (case a_mx => k_is)
    (case l_mx => k_is)
    (case c_mx => k_is)
    (case k_mx => k_is)
    (case a_letters => k_is)
    (case l_letters => k_is)
    (case c_letters => k_is)
    (case k_letters => k_is)
    (case a_oth => k_is)
    (case l_oth => k_is)
    (case c_oth => k_is)
    (case k_oth => k_is)
    (case a_img => k_is)
    (case l_img => k_is)
    (case c_img => k_is)
    (case k_img => k_is)
    (case a_bys => k_is)
    (case l_bys => k_is)
    (case c_bys => k_is)
    (case k_bys => k_is)
    (case a_smt => k_is)
    (case l_smt => k_is)
    (case c_smt => k_is)
    (case k_smt => k_is)
    (case a_lsi => k_is)
    (case l_lsi => k_is)
    (case c_lsi => k_is)
    (case k_lsi => k_is)
    (case a_lcr => k_is)
    (case l_lcr => k_is)
    (case c_lcr => k_is)
    (case k_lcr => k_is)
    (case a_ltr => k_is)
    (case l_ltr => k_is)
    (case c_ltr => k_is)
    (case k_ltr => k_is)
    (case a_isP => k_is)
    (case l_isP => k_is)
    (case c_isP => k_is)
    (case k_isP => k_is)
    (case a_chP => k_is)
    (case l_chP => k_is)
    (case c_chP => k_is)
    (case k_chP => k_is)
    (case a_afb => k_is)
    (case l_afb => k_is)
    (case c_afb => k_is)
    (case k_afb => k_is)
    (case a_to => k_is)
    (case l_to => k_is)
    (case c_to => k_is)
    (case k_to => k_is)
    (case a_chk => k_is)
    (case l_chk => k_is)
    (case c_chk => k_is)
    (case k_chk => k_is)
    (case a_un => k_is)
    (case l_un => k_is)
    (case c_un => k_is)
    (case k_un => k_is)
    (case a_ho => k_is)
    (case l_ho => k_is)
    (case c_ho => k_is)
    (case k_ho => k_is)
    (case a_sh => k_is)
    (case l_sh => k_is)
    (case c_sh => k_is)
    (case k_sh => k_is)
    (case a_ro => k_is)
    (case l_ro => k_is)
    (case c_ro => k_is)
    (case k_ro => k_is)
    (case a_fr => k_is)
    (case l_fr => k_is)
    (case c_fr => k_is)
    (case k_fr => k_is)
    (case a_go => k_is)
    (case l_go => k_is)
    (case c_go => k_is)
    (case k_go => k_is)
    (case a_so => k_is)
    (case l_so => k_is)
    (case c_so => k_is)
    (case k_so => k_is)
    (case a_ke => k_is)
    (case l_ke => k_is)
    (case c_ke => k_is)
    (case k_ke => k_is)
    (case a_ist => k_is)
    (case l_ist => k_is)
    (case c_ist => k_is)
    (case k_ist => k_is)
    (case a_ct => k_is)
    (case l_ct => k_is)
    (case c_ct => k_is)
    (case k_ct => k_is)
    (case a_tu => k_is)
    (case l_tu => k_is)
    (case c_tu => k_is)
    (case k_tu => k_is)
    (case a_ovr => k_is)
    (case l_ovr => k_is)
    (case c_ovr => k_is)
    (case k_ovr => k_is)
    (case a_bh => k_is)
    (case l_bh => k_is)
    (case c_bh => k_is)
    (case k_bh => k_is)
    (case a_bk => k_is)
    (case l_bk => k_is)
    (case c_bk => k_is)
    (case k_bk => k_is)
    (case a_CH => k_is)
    (case a_CB => k_is)
    (case a_CF => k_is)
    (case a_CA => k_is)
    (case i_H => k_is)
    (case r_H => k_is)
    (case g_H => k_is)
    (case v_V => k_is)
    (case x_CB => k_is)
    (case rv_CB => decide +kernel)
    (case sa_CB => k_is)
    (case ex_CB => k_is)
    (case ty_CB => k_is)
    (case kc_CB => k_is)
    (case i_CB => k_is)
    (case t_CB => k_is)
    (case n_CB_word => k_is)
    (case n_CB_at => k_is)
    (case x_CF => k_is)
    (case rv_CF => decide +kernel)
    (case sa_CF => k_is)
    (case ex_CF => k_is)
    (case ty_CF => k_is)
    (case kc_CF => k_is)
    (case i_CF => k_is)
    (case t_CF => k_is)
    (case n_CF_word => k_is)
    (case n_CF_side => k_is)
    (case x_CA => k_is)
    (case rv_CA => decide +kernel)
    (case sa_CA => k_is)
    (case ex_CA => k_is)
    (case ty_CA => k_is)
    (case kc_CA => k_is)
    (case i_CA => k_is)
    (case t_CA => k_is)
    (case n_CA_word => k_is)
    (case n_CA_one => k_is)
    (case n_CA_other => k_is)
    (case l_iH => k_is)
    (case c_iH => k_is)
    (case k_iH => k_is)
    (case l_iB => k_is)
    (case c_iB => k_is)
    (case k_iB => k_is)
    (case l_iF => k_is)
    (case c_iF => k_is)
    (case k_iF => k_is)
    (case l_iA => k_is)
    (case c_iA => k_is)
    (case k_iA => k_is)
    (case a_C => k_is)
    (case i_C => k_is)
    (case j_C => k_is)
    (case pg_C => k_is)
    (case hd_C => k_is)
    (case po_C => k_is)
    (case sa_C => k_is)
    (case mk_C => k_is)
    (case kp_C => k_is)
    (case n1_C => k_is)
    (case n2_C => k_is)
    (case n3_C => k_is)
    (case b_hb => k_is)
    (case m_hb => k_is)
    (case l_hb => k_is)
    (case c_hb => k_is)
    (case k_hb => k_is)
    (case b_hm => k_is)
    (case m_hm => k_is)
    (case l_hm => k_is)
    (case c_hm => k_is)
    (case k_hm => k_is)
    (case b_hr => k_is)
    (case m_hr => k_is)
    (case l_hr => k_is)
    (case c_hr => k_is)
    (case k_hr => k_is)
    (case b_hg => k_is)
    (case m_hg => k_is)
    (case l_hg => k_is)
    (case c_hg => k_is)
    (case k_hg => k_is)
    (case b_hwl => k_is)
    (case m_hwl => k_is)
    (case l_hwl => k_is)
    (case c_hwl => k_is)
    (case k_hwl => k_is)
    (case b_hfo => k_is)
    (case m_hfo => k_is)
    (case l_hfo => k_is)
    (case c_hfo => k_is)
    (case k_hfo => k_is)
    (case b_hdo => k_is)
    (case m_hdo => k_is)
    (case l_hdo => k_is)
    (case c_hdo => k_is)
    (case k_hdo => k_is)
    (case b_hst => k_is)
    (case m_hst => k_is)
    (case l_hst => k_is)
    (case c_hst => k_is)
    (case k_hst => k_is)
    (case b_hwa => k_is)
    (case m_hwa => k_is)
    (case l_hwa => k_is)
    (case c_hwa => k_is)
    (case k_hwa => k_is)
    (case b_hne => k_is)
    (case m_hne => k_is)
    (case l_hne => k_is)
    (case c_hne => k_is)
    (case k_hne => k_is)
    (case l_hi => k_is)
    (case c_hi => k_is)
    (case k_hi => k_is)
    (case d_hi => k_is)
    (case d_e => k_is)
    (case z_list => k_is)
    (case z_sorted => k_is)
    (case z_set => k_is)
    (case z_all => k_is)
    (case z_len => k_is)
    (case z_enumerate => k_is)
    (case z_range => k_is)
    (case z_isinstance => k_is)
    (case z_tuple => k_is)
    (case z_ValueError => k_is)
    (case z_bool => k_is)
    (case z_str => k_is)
    (case z_any => k_is)
    (case z_zip => k_is)
    (case w_W => k_is)
    (case a_L => k_is)
    (case l_L => k_is)
    (case c_L => k_is)
    (case k_L => k_is)
