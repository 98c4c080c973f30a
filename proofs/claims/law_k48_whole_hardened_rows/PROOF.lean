import PyProof.Rows.All
import Wide.All
import OpenK.AllK
import Wide.FinOn
import HandS.ForMost
import HandS.More
import HandS.Set
import HandS.ClsMeth
import HandS.ExcInit
import HandS.Lambda
import HandS.TryMany
import HandS.ExcField
import HandS.SetTxt0
import HandS.SetFor
import KE.GoesMore
import HandS.Walk
import HandS.DictComp
import HandS.WordsExc
import HandS.Defaults
import PySem.Challenge.RW_nearcall_k48_whole_hardened_rows
import HandS.StrMore
import HandS.IsInst
import KE.GoesZip
import KE.GoesEnum
import HandS.Flow
import HandS.Style
import HandS.Iter
import HandS.Deep
import HandS.DeepEq
import HandS.Conv
import HandS.EndTab
set_option Elab.async false
set_option linter.all false
set_option maxRecDepth 100000
namespace NC
open PySem PySem.Spec PyProof.Rows L2
def sg (c : Nat) : Str := ⟨#[c]⟩
def sgs (x : Str) : List Str := x.cps.toList.map sg
section
variable {X : Cx}
theorem mt_swap : MtR X "str.swapcase" (fun x xs H Q => ∃ a, x = .str a ∧ xs = [] ∧ a.length ≤ 1000 ∧ Q (.str (Txt.swapcase a)) H) :=
  mt0 (C := fun a => a.length ≤ 1000) (g := fun a => .str (Txt.swapcase a)) fun a _ s _ hc h =>
    PySem.SC.swapcase (short24 (by have h1 : a.length ≤ 1000 := hc; have := len_swapcase a; omega)) (h _ (s.toks + 1) ⟨_, rfl⟩)
theorem items_strs {x : Str} {acc : Array Value} (h : ItemsOf (SignAt x) acc x.cps.size) : StrsAre acc.toList (sgs x) := by
  refine strs_at (by simp [sgs, h.1]) fun j v e => ?_
  obtain ⟨c, u, hc, hv⟩ := h.2 j v (by simpa using e)
  exact ⟨sg c, u, by simp [sgs, hc], hv⟩
/-- list(text) -/
theorem cr_listS (hc : X.calm = true) : CallR X (.type "list") (fun xs H Q => ∃ z, xs = [.str z] ∧ z.length ≤ sizeLine ∧ ∀ l, H l = none → Q (.ref l) (upd H l (.lst ((sgs z).map V.str)))) := by
  intro pins s σ H xs us Q I r h
  obtain ⟨z, rfl, hz, q⟩ := h
  obtain ⟨u, rfl, t, rfl⟩ := vals1 r
  refine call_list_str (I.ok.hd hc) z t (hn := hz) fun h' tk acc' c' hk hS' hacc => ?_
  have hl : ((sgs z).map V.str).length ≤ sizeLine := by
    rw [List.length_map]; unfold sgs; rw [List.length_map, Array.length_toList]; exact hz
  refine ⟨.ref s.heap.objs.size, upd H s.heap.objs.size (.lst ((sgs z).map V.str)), I.laid hk (Nat.le_refl _) ⟨hl, acc'.toList, c', vals_of_strs (items_strs hacc), by simpa using hS'⟩, rfl, q _ (I.hok.fresh (Nat.le_refl _))⟩
/-- sorted(v), where what is gathered of v are fewer than 64 texts -/
theorem srt_str {pins : List (Addr × Obj)} {s : Shared} {σ : L2.St} {H : Hp} {Q : VK} (I : Inv X pins σ H s) (v : Value) (ks : List Str) (h64 : ks.length < 64)
    (hcol : ∀ (E : Value → Shared → Prop) (Q' : List Value → Shared → Prop), (∀ s' out ks', s'.os = s.os → s'.gens = s.gens → (∀ b o, s.heap.get? b = some o → s'.heap.get? b = some o) → StrsAre out ks' → ks'.Perm ks → Q' out s') →
      wpAny (model X.prog X.w) X.A.in1 (collect v) Q' E s)
    (q : ∀ ys p, ys.Perm ks → sortedS ys = true → H p = none → Q (.ref p) (upd H p (.lst (ys.map V.str)))) :
    wpAny (model X.prog X.w) X.A (call (.builtin "sorted") [v]) (EP X pins σ Q) X.xe s := by
  have go : wpAny (model X.prog X.w) X.A.in1 (collect v) (fun out s1 => ∃ ks', s1.os = s.os ∧ s1.gens = s.gens ∧ (∀ b o, s.heap.get? b = some o → s1.heap.get? b = some o) ∧ StrsAre out ks' ∧ ks'.Perm ks) X.xe s := hcol _ _ fun s1 out ks' e1 e2 e3 e4 e5 => ⟨ks', e1, e2, e3, e4, e5⟩
  refine Calls.call_function_entry PyProof.Rows.kind_sorted PyProof.Rows.plain_sorted PyProof.Rows.entry_sorted (PyProof.Rows.args_sorted1 _) (show wpAny _ X.A.in1 (Builtin.«sorted» _) _ _ _ from ?_)
  unfold Builtin.«sorted»
  refine wpAny_bind (wpAny_pure (wpAny_bind (thn go fun out t g => ?_)))
  obtain ⟨ks', io, gn, stay, sts, perm⟩ := g
  have J : Inv X pins σ H t := I.call' (ch := []) io (Un.kept stay) (I.hok.kept stay) (gn.symm ▸ I.bare) nofun
  have few : out.length < 64 := by
    have l1 := StrsAre.len_eq sts
    have l2 := perm.length_eq
    omega
  obtain ⟨hp, gs, dr, tk, os⟩ := t
  have lst : (hp.push (seqObj "list" out.toArray 0)).get? hp.objs.size = some (seqObj "list" out.toArray 0) := Heap.get?_push_size _ rfl
  refine wpAny_bind (wpAny_newList (wpAny_bind (wpAny_holding (wpAny_call_entry PyProof.Rows.slot_list_sort ⟨_, lst, rfl⟩ PyProof.Rows.entry_list_sort (list_sort_treeK strKind_oneLt lst sts.keysOf (fun _ _ _ e => keyKind_strs (e ▸ sts)) few fun st p1 p2 => ⟨_, rfl, ?_⟩)
    (PyProof.Rows.args_list_sort _)))) (by rw [sizeLine_eq]; omega))
  obtain ⟨ys, is, py, so⟩ := sorted_out_str sts p1 p2
  obtain ⟨ep, at_⟩ := PyProof.Rows.sortedHeap_at (vs := out) (out := (arrOf st).map (·.2)) lst
  have pk : ys.Perm ks := py.trans perm
  have sz : (ys.map V.str).length ≤ sizeLine := by
    have l3 := pk.length_eq
    rw [sizeLine_eq, List.length_map]
    omega
  have old : ∀ (b : Addr) (o : Obj), hp.get? b = some o → (sortedHeap (hp.push (seqObj "list" out.toArray 0)) hp.objs.size out ((arrOf st).map (·.2))).get? b = some o := fun b o e => by
    have lo := Heap.lt_size e
    rw [PyProof.Rows.sortedHeap_old (Nat.ne_of_lt lo) (by rw [size_push']; exact Nat.lt_succ_of_lt lo), Heap.get?_push_of_some _ e]
  exact wpAny_pure ⟨_, rfl, .ref hp.objs.size, upd H hp.objs.size (.lst (ys.map V.str)), J.laid (t' := tk) old (Nat.le_refl _) (show ObjOk X.prog X.w _ _ _ (.lst (ys.map V.str)) from ⟨sz, ((arrOf st).map (·.2)).toList, ep, vals_of_strs is, Array.toArray_toList.symm ▸ at_⟩), rfl, q ys _ pk so (J.hok.fresh (Nat.le_refl _))⟩
/-- sorted(text) -/
theorem cr_sortedT (hc : X.calm = true) : CallR X (.builtin "sorted") (fun xs H Q => ∃ z, xs = [.str z] ∧ z.length < 64 ∧ ∀ ys p, ys.Perm (sgs z) → sortedS ys = true → H p = none → Q (.ref p) (upd H p (.lst (ys.map V.str)))) := by
  intro pins s σ H xs us Q I r h
  obtain ⟨z, rfl, hz, q⟩ := h
  obtain ⟨u, rfl, t, rfl⟩ := vals1 r
  have hl : (sgs z).length < 64 := by unfold sgs; rw [List.length_map, Array.length_toList]; exact hz
  refine srt_str I (.str z t) (sgs z) hl (fun E Q' hQ => ?_) q
  refine wpAny_collect_str (A := X.A.in1) (I.ok.hd hc) z t (hn := by show z.length ≤ sizeLine; rw [sizeLine_eq]; omega) fun s' acc hk hg hd ho hacc => ?_
  exact hQ s' _ _ ho hg hk (items_strs hacc) (List.Perm.refl _)
end
end NC
namespace NC
open PySem PySem.Spec PyProof.Rows L2
section
variable {X : Cx} {CX : CXT} {k : Nat} {C f : Addr} {mc : Value} {sp : Sp} {E : XK} {e : Expr} {es : List Expr} {x m : Str} {pos p1 p2 : Pos} {t : TA} {pl : Sem Bool}
  {fd : FuncData} {ps : List Str} {dvs : List V} {ds : List Value}
/-- C.m(e, ..), C an own class by its name, m a plain def of it -/
theorem pe_clsfn (hg : Gl X x) (hm : X.mg x = some (.ref C)) (rd : ClX.CRead X.K C mc) (kv : PySem.W.findCls X.K (.ref C) mc m = some (.val (.ref f)))
    (F : FnOk X.prog X.w X.K X.mg X.base CX k f fd ps sp) (hr : Room k X.A) (hk : PySem.W.keepIn X.K (.ref f) = true) (hb : Binds X.K fd ps ds) (hd : Vals dvs ds) (hx : Passes CX X E) (ha : PA X (e :: es) t)
    (hdb : (x == ("__debug__" : Str)) = false := by decide)
    (hst : starEach (e :: es) X.env = (false, eval e X.env) :: starEach es X.env := by rfl) (hpl : (backTo pos (starEach es X.env)).any (·.1) = false := by rfl)
    (ht : eval (.Call (.Attribute (.Name x p1) m p2) (e :: es) [] pos) X.env = (do
      let ov ← eval (.Name x p1) X.env
      standAt p2.atName
      let (g, first) ← holding [ov] (getMethod ov m pl)
      callWith pos g first (backTo pos (starEach (e :: es) X.env)) (backToKw pos (keywordEach [] X.env))) := by rfl) :
    PE X (.Call (.Attribute (.Name x p1) m p2) (e :: es) [] pos) (tCall sp dvs E t) := by
  refine ⟨fun pins s0 σ H Q I0 h0 => ?_⟩
  refine PySem.W.methodCall_KW (pl := pl) (ld_glob I0 hg hm ?_ hdb) ht
  refine PySem.W.method_cls I0.kIn rd.ga (ClX.getcval_ok (v := .ref f) I0 rd ⟨kv, rfl⟩ fun s1 I1 => ?_)
  refine PySem.W.callWith_K (first := []) (h₀ := X.base) I1.ok.mod.kin hk (thn (ha.run pos pins s1 σ H _ I1 h0) fun us s2 ⟨vs, H2, I2, r2, q2⟩ => ⟨I2.kIn, ?_⟩) hst hpl
  exact run_fn (us := us) (vs := vs) F hr hb hd hx I2 r2 q2
end
end NC
namespace NC
open PySem PySem.Spec PyProof.Rows L2
open PySem.Froz (SD sObj runD addTx tailTx TxOk sing itObj finU two)
/-- the table rises and may be walked -/
def TxG (b : Bool) (D : SD) : Prop := Ris D.2.2.place.toList ∧ D.2.2.led = b
theorem txg_tail {b : Bool} {ep : Nat} {es : Array (Int × Value)} {t : SetTable} {d : Bool} (h : Ris t.place.toList ∧ t.led = b) : TxG b (tailTx ep es t d) := by
  unfold tailTx
  by_cases c : (!d && t.tooFull) = true
  · rw [if_pos c]; exact ⟨relayAll_ris _ _ _, (relayAll_led _ _ _).trans h.2⟩
  · rw [if_neg c]; exact h
theorem txg_add {b : Bool} {D : SD} {hv : Int} {v : Value} (h : TxG b D) : TxG b (addTx hv v D) := by
  unfold addTx
  have h1 := layNew_ris D.2.2 D.1 hv v h.1
  have h2 := (layNew_led D.2.2 D.1 hv v).trans h.2
  refine txg_tail ?_
  split
  · exact ⟨h1, h2⟩
  · exact ⟨h1, h2⟩
theorem run_good {P : Program} {w : World} {b : Bool} : ∀ (cs : List Nat) (tk : Tok) (D : SD) (l : List Str), TxG b D → TxOk P w D l → ∃ l', TxG b (runD w cs tk D) ∧ TxOk P w (runD w cs tk D) l' ∧ l'.Perm (l ++ cs.map sg)
  | [], tk, D, l, g, o => ⟨l, g, o, by simp⟩
  | c :: r, tk, D, l, g, o => by
    obtain ⟨l', g', o', p⟩ := run_good r (tk + 2) _ (sing c :: l) (txg_add g) (Froz.add_ok (k := sing c) tk o)
    refine ⟨l', g', o', p.trans ?_⟩
    show (sg c :: (l ++ r.map sg)).Perm (l ++ (sg c :: r.map sg))
    exact List.perm_middle.symm
theorem loop_txt {P : Program} {w : World} {A : Around} {R : Result → Shared → Prop} {s : Shared} {a it : Addr} {x : Str} {u : Tok} {led : Bool} (hh : A.handled = none) (hne : a ≠ it)
    (ha : s.heap.get? a = some (sObj "set" (#[], 0, .fresh 0 0 led))) (hit : s.heap.get? it = some (itObj x u 0)) (hnd : x.cps.toList.Nodup) (hb : x.cps.toList.length < 64)
    (h : ∀ (h' : Heap) (tk : Nat) (D : SD) (l : List Str), h'.get? a = some (sObj "set" D) → TxG led D → TxOk P w D l → l.Perm (sgs x) →
      (∀ b o, b ≠ a → b ≠ it → s.heap.get? b = some o → h'.get? b = some o) → R (.ok (.ret .none)) { s with heap := h', toks := tk }) :
    codeAny (model P w) A (.builtin "set.update.loop" ⟨[.ref a, .ref it], []⟩) R s := by
  have g0 : TxG led ((#[], 0, .fresh 0 0 led) : SD) := ⟨List.Pairwise.nil, rfl⟩
  have o0 : TxOk P w ((#[], 0, .fresh 0 0 led) : SD) [] := Froz.TxOk.nil rfl
  obtain ⟨l', g1, o1, p1⟩ := run_good (P := P) (w := w) x.cps.toList s.toks _ [] g0 o0
  refine Froz.code_update (T := "set") (u := u) hne hh x.cps.toList 0 _ [] s rfl ha hit o0 (fun c _ z => nomatch z) hnd (by show 0 + x.cps.toList.length < scanBound; unfold scanBound; omega) ?_
  unfold finU two
  have e1 := Froz.get_upd (sObj "set" (runD w x.cps.toList s.toks (#[], 0, .fresh 0 0 led))) ha rfl
  refine h _ _ _ l' (Heap.get?_push_of_some _ (Heap.get?_push_of_some _ (Heap.get?_update_of_ne _ (Ne.symm hne) e1))) g1 o1 (p1.trans (by simp [sgs])) fun b o h1 h2 e => ?_
  exact Heap.get?_push_of_some _ (Heap.get?_push_of_some _ (Heap.get?_update_of_ne _ (Ne.symm h2) (Heap.get?_update_of_ne _ (Ne.symm h1) e)))
set_option maxHeartbeats 3200000 in
/-- set(text), its signs unlike -/
theorem call_set_txt {P : Program} {w : World} {A : Around} {E : Value → Shared → Prop} {s : Shared} {x : Str} {t : Tok} {Q : Value → Shared → Prop} (hh : A.handled = none) (hA : x.cps.all (· < 128) = true)
    (hnd : x.cps.toList.Nodup) (hb : x.cps.toList.length < 64)
    (h : ∀ (h' : Heap) (tk : Nat) (D : SD) (l : List Str), h'.get? s.heap.objs.size = some (sObj "set" D) → TxG (!w.params.followText "set-order") D → TxOk P w D l → l.Perm (sgs x) →
      (∀ b o, s.heap.get? b = some o → h'.get? b = some o) → Q (.ref s.heap.objs.size) { s with heap := h', toks := tk }) :
    wpAny (model P w) A (call (.type "set") [.str x t]) Q E s := by
  obtain ⟨c, tl, hmro⟩ := PySem.F.called_set.mro
  have hmade := PySem.F.called_set.made
  have hsub := PySem.F.called_set.sub
  generalize hled : (!w.params.followText "set-order") = led at h
  refine wpAny_call (codeAny_of_tree ?_)
  show wpAny _ _ (callAny (.type "set") _) _ _ _
  refine wpAny_pure ⟨Code.quiet_builtin _ (by decide +kernel), codeAny_builtin PySem.F.entry_type_call ?_⟩
  rw [Around.under_plain (weight_type_call_type "set" [.str x t] []) rfl]
  have n1 := PySem.F.called_set.notType
  have n2 := PySem.F.called_set.canCreate
  have hct := PySem.F.typeCall_set_1 (.str x t)
  repeat (any_goals (first | assumption | wp_step))
  refine codeAny_mono (code_set_led1 (.str x t) (E := E) (Q₁ := fun ob s1 => ob = .ref s.heap.objs.size ∧ s1 = { s with heap := s.heap.push (sObj "set" (#[], 0, .fresh 0 0 led)) }) ⟨rfl, by rw [hled]; rfl⟩) fun r s1 hr => ?_
  cases r with
  | error e => exact hr
  | ok fl =>
    cases fl with
    | ret ob =>
      obtain ⟨rfl, rfl⟩ := hr
      have hS : (s.heap.push (sObj "set" (#[], 0, .fresh 0 0 led))).get? s.heap.objs.size = some (sObj "set" (#[], 0, .fresh 0 0 led)) := Heap.get?_push_size _ rfl
      have hT : Shared.TypeIs { s with heap := s.heap.push (sObj "set" (#[], 0, .fresh 0 0 led)) } (.ref s.heap.objs.size) "set" := ⟨_, hS, rfl⟩
      have hli := PySem.F.called_set.init.lookup
      have hbi := PySem.F.called_set.init.bind (.ref s.heap.objs.size)
      repeat (any_goals (first | assumption | wp_step))
      refine codeAny_mono (codeAny_call_builtin (R := wants (fun r s2 => r = .none ∧ Q (.ref s.heap.objs.size) s2) E) PySem.F.called_set.init.plain PySem.F.entry_set_init (check_set_init_1 hT ?_)) fun r2 s2 hr2 => ?_
      · unfold Builtin.«set.__init__» noKeywords Builtin.Frozenset.updateFrom
        have b1 : isSubtype (.type "str") (.type "set") = pure false := by rw [isSubtype_type]; kernel_rfl
        have b2 : isSubtype (.type "str") (.type "frozenset") = pure false := by rw [isSubtype_type]; kernel_rfl
        have b3 : (Value.type "str" == Value.type "dict") = false := by decide
        generalize hPI : pyIter = PI
        wp_walk
        subst hPI
        refine wpAny_pyIter_ascii hA ?_
        refine wpAny_bind (wpAny_runValue ?_)
        have hz : (s.heap.push (sObj "set" (#[], 0, .fresh 0 0 led))).objs.size = s.heap.objs.size + 1 := Heap.size_push ..
        refine loop_txt (A := A.in1.in1) (u := t) (by simp [hh]) (by show s.heap.objs.size ≠ (s.heap.push _).objs.size; rw [hz]; omega) (Heap.get?_push_of_some _ hS) (Heap.get?_push_size _ rfl) hnd hb fun h' tk D l e1 e2 e3 e4 e5 => ?_
        refine wpAny_pure ?_
        show wpAny _ _ (ret Value.none) _ _ _
        refine wpAny_pure ⟨rfl, h h' tk D l e1 e2 e3 e4 fun b o e => e5 b o ?_ ?_ (Heap.get?_push_of_some _ (Heap.get?_push_of_some _ e))⟩
        · exact Nat.ne_of_lt (Heap.lt_size e)
        · show b ≠ (s.heap.push _).objs.size
          rw [hz]
          exact Nat.ne_of_lt (Nat.lt_succ_of_lt (Heap.lt_size e))
      · cases r2 with
        | error e => exact hr2
        | ok f2 =>
          cases f2 with
          | ret r =>
            obtain ⟨rfl, hq⟩ := hr2
            repeat (any_goals (first | assumption | wp_step))
          | _ => exact hr2.elim
    | _ => exact hr.elim
/-- a set of the texts l -/
def SetTx (P : Program) (w : World) (a : Addr) (l : List Str) : HO := .ext fun h => ∃ D : SD, h.get? a = some (sObj "set" D) ∧ TxG (!w.params.followText "set-order") D ∧ TxOk P w D l
section
variable {X : Cx}
theorem setTx_ok {H : Hp} {h : Heap} {a : Addr} {l : List Str} {D : SD} (e : h.get? a = some (sObj "set" D)) (g : TxG (!X.w.params.followText "set-order") D) (o : TxOk X.prog X.w D l) : ObjOk X.prog X.w H h a (SetTx X.prog X.w a l) :=
  ⟨⟨D, e, g, o⟩, ⟨_, e⟩, fun h1 h2 ⟨D', e', r'⟩ k => ⟨D', k _ e', r'⟩⟩
theorem cr_setT (hc : X.calm = true) : CallR X (.type "set") (fun xs H Q => ∃ z, xs = [.str z] ∧ z.cps.all (· < 128) = true ∧ z.cps.toList.Nodup ∧ z.cps.toList.length < 64 ∧
    ∀ p l, H p = none → l.Perm (sgs z) → Q (.ref p) (upd H p (SetTx X.prog X.w p l))) := by
  intro pins s σ H xs us Q I r h
  obtain ⟨z, rfl, hA, hn, hl, q⟩ := h
  obtain ⟨u, rfl, t, rfl⟩ := vals1 r
  refine call_set_txt (P := X.prog) (w := X.w) (I.ok.hd hc) hA hn hl fun h' tk D l e1 e2 e3 e4 e5 => ?_
  exact ⟨.ref s.heap.objs.size, _, I.laid e5 (Nat.le_refl _) (setTx_ok e1 e2 e3), rfl, q _ l (I.hok.fresh (Nat.le_refl _)) e4⟩
theorem strs_map : ∀ vs : List Value, (∀ v ∈ vs, ∃ y u, v = Value.str y u) → StrsAre vs (vs.map strOf)
  | [], _ => .nil
  | v :: r, h => by
    obtain ⟨y, u, rfl⟩ := h v (List.mem_cons_self ..)
    exact .cons y u (strs_map r fun z hz => h z (List.mem_cons_of_mem _ hz))
theorem strs_perm {vs out : List Value} {ks : List Str} (h : StrsAre vs ks) (p : out.Perm vs) : ∃ ks', StrsAre out ks' ∧ ks'.Perm ks := by
  refine ⟨_, strs_map out fun v hv => h.all v (p.mem_iff.mp hv), ?_⟩
  rw [← h.strs]
  exact p.map _
theorem nd_perm : ∀ (l ks : List Str), l.Nodup → (∀ y ∈ l, y ∈ ks) → ks.length ≤ l.length → ks.Perm l
  | [], ks, _, _, h => by
    have e : ks = [] := List.length_eq_zero_iff.mp (by simpa using h)
    rw [e]
  | y :: r, ks, hn, hs, h => by
    obtain ⟨n1, n2⟩ := List.nodup_cons.mp hn
    have m : y ∈ ks := hs y (List.mem_cons_self ..)
    have hl := List.length_erase_of_mem m
    have q := nd_perm r (ks.erase y) n2 (fun z hz => (List.mem_erase_of_ne (fun e : z = y => n1 (by rw [← e]; exact hz))).mpr (hs z (List.mem_cons_of_mem _ hz))) (by
      rw [List.length_cons] at h
      omega)
    exact (List.perm_cons_erase m).trans (q.cons y)
theorem tx_strs {P : Program} {w : World} {D : SD} {l : List Str} (o : TxOk P w D l) (hn : l.Nodup) : ∃ ks, StrsAre (D.1.toList.map (·.2)) ks ∧ ks.Perm l := by
  have sh : ∀ e ∈ D.1.toList, ∃ k u, e.2 = Value.str k u ∧ (strKind P w).is k e.2 = true := fun e he => by
    obtain ⟨⟨k, hk, _⟩, _⟩ := o.el e he
    obtain ⟨u, eu⟩ := Value.isStrOf_shape (x := k) (v := e.2) hk
    exact ⟨k, u, eu, hk⟩
  refine ⟨_, strs_map _ fun v hv => ?_, nd_perm l _ hn (fun k hk => ?_) ?_⟩
  · obtain ⟨e, he, rfl⟩ := List.mem_map.mp hv
    obtain ⟨k, u, eu, _⟩ := sh e he
    exact ⟨k, u, eu⟩
  · obtain ⟨e, he, z⟩ := (o.mem k).mp hk
    obtain ⟨u, eu⟩ := Value.isStrOf_shape (x := k) (v := e.2) z
    refine List.mem_map.mpr ⟨e.2, List.mem_map.mpr ⟨e, he, rfl⟩, ?_⟩
    rw [eu]
    rfl
  · rw [List.length_map, List.length_map, Array.length_toList, o.sz]
    exact Nat.le_refl _
theorem cr_sortedSetT (hc : X.calm = true) : CallR X (.builtin "sorted") (fun xs H Q => ∃ a l, xs = [.ref a] ∧ H a = some (SetTx X.prog X.w a l) ∧ l.Nodup ∧ l.length < 64 ∧
    ∀ ys p, ys.Perm l → sortedS ys = true → H p = none → Q (.ref p) (upd H p (.lst (ys.map V.str)))) := by
  intro pins s σ H xs us Q I r h
  obtain ⟨a, l, rfl, ha, hn, hl, q⟩ := h
  rw [Vals.ref1 r]
  obtain ⟨⟨D, e, g, o⟩, _, _⟩ := I.hok a _ ha
  obtain ⟨ks, hS, hp⟩ := tx_strs o hn
  have hsz : D.1.size < scanBound := by rw [o.sz]; unfold scanBound; omega
  refine srt_str I (.ref a) l hl (fun E Q' hQ => ?_) q
  refine collect_set (A := X.A.in1) (P := X.prog) (w := X.w) (es := D.1) (ep := D.2.1) (t := D.2.2) (I.ok.hd hc) ⟨_, e, rfl, rfl⟩ o.fit hsz g.1 ?_ fun s' out k1 k2 k3 k4 k5 => ?_
  · rw [g.2]
    cases X.w.params.followText "set-order"
    · exact .inr rfl
    · exact .inl rfl
  · obtain ⟨ks', hS', hp'⟩ := strs_perm hS k5
    exact hQ s' out ks' k4 k3 k1 hS' (hp'.trans hp)
end
end NC
/-! enumerate of a tuple: the call, one turn, the end -/
namespace NC
open PySem PySem.Spec PyProof.Rows L2
/-- the two objects that enumerate(t) lays, t at l -/
abbrev titO (l : Addr) : Obj := { cls := .type "tuple_iterator", data := .fields #[.ref l, .int 0 0] }
abbrev enuO (it : Addr) : Obj := { cls := .type "enumerate", data := .fields #[.none, .bool false, .ref it, rawInt 0, .none, .none] }
theorem meets_enumT (l : Addr) (ob : Obj) (items : Array Value) (n : Nat) (hc : ob.cls = .type "tuple") (hd : ob.data = .seq items n) :
    Meets (Builtin.«enumerate.__new__» ⟨[.type "enumerate", .ref l], []⟩) (fun _ R s => s.heap.get? l = some ob ∧ R (.ok (.ret (.ref (s.heap.push (titO l)).objs.size))) { s with heap := (s.heap.push (titO l)).push (enuO s.heap.objs.size) }) :=
  .of_wp fun P w A R t h => by
    obtain ⟨oc, od, dt, sl⟩ := ob
    cases (show oc = _ from hc)
    cases (show dt = _ from hd)
    have tup : t.heap.IsTuple l items := ⟨_, h.1, rfl, n, rfl⟩
    have sb := sub_enumerate
    obtain ⟨hp, g, d, tk, os⟩ := t
    have ld := h.1
    wp_walk using AutoSeq1.wpAny_loadPart' ld
    refine wpAny_stack_any fun _ => wpAny_pure ?_
    split
    · rename_i k _ _ _ _ _
      cases (k == Value.type "enumerate") <;> (wp_walk using AutoSeq1.wpAny_loadPart' ld, wpAny_pyIter_tuple tup; exact ⟨_, rfl, h.2⟩)
    · wp_walk using AutoSeq1.wpAny_loadPart' ld, wpAny_pyIter_tuple tup
      exact ⟨_, rfl, h.2⟩
theorem call_enumT {P : Program} {w : World} {A : Around} {E Q : Value → Shared → Prop} {t : Shared} {l : Addr} {items : Array Value} (tup : t.heap.IsTuple l items)
    (h : ∀ g, IsEnum g (t.heap.objs.size + 1) t.heap.objs.size 0 .none → g.IsTupleIter t.heap.objs.size l 0 → (∀ b o, t.heap.get? b = some o → g.get? b = some o) → Q (.ref (t.heap.objs.size + 1)) { t with heap := g }) :
    wpAny (model P w) A (call (.type "enumerate") [.ref l]) Q E t := by
  obtain ⟨ob, ho, oc, n, od⟩ := tup
  have sz : (t.heap.push (titO l)).objs.size = t.heap.objs.size + 1 := Heap.size_push ..
  have laid : IsEnum ((t.heap.push (titO l)).push (enuO t.heap.objs.size)) (t.heap.objs.size + 1) t.heap.objs.size 0 .none := by
    have z := Heap.get?_push_size (t.heap.push (titO l)) (o := enuO t.heap.objs.size) rfl
    exact sz ▸ z
  refine callType_new F.called_enumerate (by decide) (F.typeCall_enumerate_1 _) (F.newCall_enumerate_1 _) (fun z => F.args_object_init_2 z _) F.entry_enumerate_new (meets_enumT l ob items n oc od) ⟨ho, ?_⟩
  show _ ∧ _
  rw [sz]
  exact ⟨⟨_, laid, rfl⟩, h _ laid ⟨_, Heap.get?_push_of_some _ (Heap.get?_push_size _ rfl), rfl, rfl⟩ fun _ _ z => Heap.get?_push_of_some _ (Heap.get?_push_of_some _ z)⟩
/-- the walk: at turn i a new pair of i and the item -/
def ItET (K : PySem.W.Frag) (a : Addr) : It :=
  ⟨fun i H => ∃ (xs : List V) (x : V), SqT K H a xs ∧ xs[i]? = some x, fun i H v H' => ∃ T x, v = .ref T ∧ H T = none ∧ H' = upd H T (.tup [.int (i : Nat), x]) ∧ ∀ xs, SqT K H a xs → xs[i]? = some x,
    fun i H => ∃ xs : List V, SqT K H a xs ∧ xs.length ≤ i⟩
/-- the state ahead of turn i: the enumerate object at e, its iterator at it -/
def AtE (a e it : Addr) (i : Nat) (h : Heap) : Prop := (∃ last, IsEnum h e it ((i : Nat) : Int) last) ∧ h.IsTupleIter it a i ∧ e ≠ it
theorem AtE.apart {a e it : Addr} {i : Nat} {h : Heap} {vs : Array Value} (st : AtE a e it i h) (t : h.IsTuple a vs) : a ≠ it ∧ e ≠ a := by
  obtain ⟨⟨_, g1⟩, ⟨o2, g2, c2, _⟩, _⟩ := st
  obtain ⟨o3, g3, c3, _⟩ := t
  have g1 : h.get? e = _ := g1
  refine ⟨fun z => ?_, fun z => ?_⟩
  · rw [z, g2] at g3
    exact absurd (c2.symm.trans ((Option.some.inj g3) ▸ c3)) (by decide)
  · rw [z, g3] at g1
    have c4 : o3.cls = .type "enumerate" := (Option.some.inj g1) ▸ rfl
    exact absurd (c3.symm.trans c4) (by decide)
theorem AtE.olds {a e it : Addr} {i : Nat} {h : Heap} (st : AtE a e it i h) {b : Addr} (m : b ∈ [e, it]) : b < h.objs.size := by
  obtain ⟨⟨_, g1⟩, ⟨o2, g2, _⟩, _⟩ := st
  rcases List.mem_cons.mp m with rfl | m
  · exact Heap.lt_size g1
  · exact (List.mem_singleton.mp m) ▸ Heap.lt_size g2
theorem turn_enumT {P : Program} {w : World} {K : PySem.W.Frag} {elts : List Expr} {kk : Nat} {tpos : Pos} (a e it : Addr) : Turn P w K (.Tuple elts kk tpos) (ItET K a) [e, it] e (AtE a e it) where
  mem := .head _
  obj := fun i h st b m => by
    rcases List.mem_cons.mp m with rfl | m
    · exact st.1.elim fun _ g => ⟨_, g, nofun⟩
    · obtain ⟨o, g, _, k⟩ := st.2.1
      exact ⟨o, (List.mem_singleton.mp m) ▸ g, fun v z => nomatch k.symm.trans z⟩
  keep := fun i h h' st k => ⟨st.1.imp fun _ g => k e (.head _) _ g, st.2.1.at fun o g => k it (.tail _ (.head _)) o g, st.2.2⟩
  item := by
    rintro X rfl rfl rfl calm i ps t σ H E I fre st ⟨xs, x, sq, ax⟩
    obtain ⟨its, vl, tp, _⟩ := I.tuple sq
    have tup : t.heap.IsTuple a its.toArray := tp
    obtain ⟨u, au, rel⟩ := vl.get ax
    have lt : i < its.toArray.size := by simpa using (List.getElem?_eq_some_iff.mp au).1
    obtain ⟨n1, n2⟩ := st.apart tup
    obtain ⟨_, enu⟩ := st.1
    have old : e < t.heap.objs.size := st.olds (.head _)
    refine wpAny_pyNext_enum_itemD (Draws.tuple (prog := X.prog) (w := X.w) (A := X.A.in1) (I.ok.hd calm) it a n1 its.toArray) enu ⟨st.2.1, tup⟩ lt st.2.2 (by simp [st.2.2, n2]) fun y g tk ay own on pair _ stay => ?_
    obtain rfl : y = u := Option.some.inj ((show its[i]? = some y by simpa using ay).symm.trans au)
    refine ⟨_, rfl, wpAny_letOwnedTupleGo_enum (s := { t with heap := g, toks := tk + 1 }) own fun g2 enu2 but => ?_⟩
    have pair2 : g2.get? t.heap.objs.size = some { cls := .type "tuple", data := .seq #[.int i tk, y] } := (but.2 _ (Nat.ne_of_gt old)).trans pair
    refine ⟨.ref t.heap.objs.size, upd H t.heap.objs.size (.tup [.int (i : Nat), x]), I.turnedNew (ch := [e, it]) (fun b o nb z => (but.2 b fun q => nb (by simp [q])).trans (stay b o (fun q => nb (by simp [q])) (fun q => nb (by simp [q])) z)) fre (Nat.le_refl _)
        ⟨by show 2 ≤ sizeLine; decide, [.int i tk, y], .cons ⟨_, rfl⟩ (.cons rel .nil), ⟨_, pair2, rfl, _, rfl⟩⟩, rfl, ⟨_, x, rfl, I.hok.fresh (Nat.le_refl _), rfl, fun ys sy => I.tuple_inj sy sq ▸ ax⟩, ⟨⟨y, ?_⟩, on.1.at fun o z => (but.2 it (Ne.symm st.2.2)).trans z, st.2.2⟩, fun b m => ?_⟩
    · exact (show ((i + 1 : Nat) : Int) = (i : Int) + 1 by omega) ▸ enu2
    · exact (upd_ne (Nat.ne_of_lt (st.olds m))).trans (fre b m).1
  done := by
    rintro X rfl rfl rfl calm i ps t σ H E I fre st ⟨xs, sq, le⟩
    obtain ⟨its, vl, tp, _⟩ := I.tuple sq
    have tup : t.heap.IsTuple a its.toArray := tp
    obtain ⟨_, enu⟩ := st.1
    have ty : t.TypeIs (.ref e) "enumerate" := ⟨_, enu, rfl⟩
    have end_ : its.toArray[i]? = none := by
      have := vl.length
      simp
      omega
    have fr := fre it (.tail _ (.head _))
    unfold pyNext
    refine wpAny_bind (wpAny_attempt (wpAny_callSpecial?_slot (name := Str.ofString "__next__") ty F.slot_enumerate_next (wpAny_call_entry F.slot_enumerate_next ty F.entry_enumerate_next ?_ (F.args_enumerate_next_1 _))))
    show wpAny _ _ (field (.ref e) 2 >>= fun _ => _) _ _ _
    refine wpAny_bind (wpAny_field enu rfl (x := .ref it) rfl (wpAny_bind (wpAny_nextOf_tuple_end (I.ok.hd calm) st.2.1 tup end_ fun g z but hz => ?_)))
    exact wpAny_bind (wpAny_isInstance (T := "StopIteration") (b := true) hz isSubtype_stop (wpAny_pure ⟨rfl, I.turned (t' := t.toks) (fun b o nb q => but b o nb q) fr.1 fr.2.1 fr.2.2.2.1 fr.2.2.2.2.1 fr.2.2.2.2.2⟩))
  self := fun _ _ _ _ _ st h => st.1.elim fun _ g => wpAny_pyIter_enum g h
def iEnumT (K : PySem.W.Frag) (ta : TA) : TI := fun σ H R => ta σ H fun vs H1 => ∃ a, vs = [.ref a] ∧ ((∃ xs, SqL K H1 a xs) ∧ R (Ite K a) H1 ∨ (∃ xs, SqT K H1 a xs) ∧ R (ItET K a) H1)
/-- enumerate of a list or of a tuple -/
theorem pi_enumT {X : Cx} {e : Expr} {ta : TA} {p pos tpos : Pos} {elts : List Expr} {kk : Nat} (gl : Gl X "enumerate") (bi : X.mg "enumerate" = none) (arg : PA X [e] ta) (one : starEach [e] X.env = [(false, eval e X.env)] := by rfl) :
    PI X (.Tuple elts kk tpos) (.Call (.Name "enumerate" p) [e] [] pos) (iEnumT X.K ta) := by
  refine ⟨fun ps t σ H R I h => Call_ (ld_blt I gl bi boot_enumerate (PyProof.Rows.callWith_type1 (thn (arg.run pos ps t σ H _ I h) fun us v r => ?_) one rfl))⟩
  obtain ⟨vs, G, J, rv, a, rfl, r⟩ := r
  cases Vals.ref1 rv
  have new : ∀ b ∈ [v.heap.objs.size + 1, v.heap.objs.size], FpOk X ps G b := fun b m => by
    have up : v.heap.objs.size ≤ b := by
      simp at m
      omega
    exact J.fpOk up (J.hok.fresh up)
  rcases r with ⟨⟨xs, sq⟩, r⟩ | ⟨⟨xs, sq⟩, r⟩
  · obtain ⟨_, _, k, _⟩ := J.list sq
    exact call_enumerate_list k.isList fun g enu iter _ stay => wpAny_pyIter_enum enu ⟨v.heap.objs.size + 1, _, _, _, G, rfl, J.kept (t' := v.toks) stay, turn_enum a (v.heap.objs.size + 1) v.heap.objs.size, ⟨⟨.none, enu⟩, iter, Nat.succ_ne_self _⟩, new, r⟩
  · obtain ⟨its, _, k, _⟩ := J.tuple sq
    exact call_enumT (show v.heap.IsTuple a its.toArray from k) fun g enu iter stay => wpAny_pyIter_enum enu ⟨v.heap.objs.size + 1, _, _, _, G, rfl, J.kept (t' := v.toks) stay, turn_enumT a (v.heap.objs.size + 1) v.heap.objs.size, ⟨⟨.none, enu⟩, iter, Nat.succ_ne_self _⟩, new, r⟩
end NC
namespace NC
open PySem PySem.Spec PyProof.Rows L2
/-! ### signs and texts -/
def tx (l : List Nat) : Str := ⟨l.toArray⟩
def upc (c : Nat) : Nat := if 97 ≤ c ∧ c ≤ 122 then c - 32 else c
def lwc (c : Nat) : Nat := if 65 ≤ c ∧ c ≤ 90 then c + 32 else c
def swp (c : Nat) : Nat := if 97 ≤ c ∧ c ≤ 122 then c - 32 else if 65 ≤ c ∧ c ≤ 90 then c + 32 else c
theorem sg_tx (c : Nat) : sg c = tx [c] := rfl
theorem tx_list (l : List Nat) : (tx l).cps.toList = l := by simp [tx]
theorem tx_len (l : List Nat) : (tx l).length = l.length := by show (tx l).cps.size = l.length; simp [tx]
theorem tx_inj {a b : List Nat} (h : tx a = tx b) : a = b := by rw [← tx_list a, h, tx_list]
theorem sg_inj {a b : Nat} (h : sg a = sg b) : a = b := by
  have := tx_inj (a := [a]) (b := [b]) h
  simpa using this
theorem tx_app (a b : List Nat) : tx a ++ tx b = tx (a ++ b) := by
  show Str.mk (a.toArray ++ b.toArray) = Str.mk (a ++ b).toArray
  simp
theorem sgs_tx (l : List Nat) : sgs (tx l) = l.map sg := by simp [sgs, tx_list]
theorem up1_eq : ∀ c : Nat, c < 128 → up1 c = upc c := by
  have h : ∀ c : Fin 128, up1 c.val = upc c.val := by decide +kernel
  exact fun c hc => h ⟨c, hc⟩
theorem lo1_eq : ∀ c : Nat, c < 128 → lo1 c = lwc c := by
  have h : ∀ c : Fin 128, lo1 c.val = lwc c.val := by decide +kernel
  exact fun c hc => h ⟨c, hc⟩
theorem upper_tx {l : List Nat} (h : ∀ c ∈ l, c < 128) : Txt.upper (tx l) = tx (l.map upc) := by
  rw [upper_ascii (by rw [tx_list]; exact h)]
  show Str.mk (l.toArray.map up1) = Str.mk (l.map upc).toArray
  rw [List.map_toArray, List.map_congr_left fun c hc => up1_eq c (h c hc)]
theorem lower_tx {l : List Nat} (h : ∀ c ∈ l, c < 128) : Txt.lower (tx l) = tx (l.map lwc) := by
  rw [lower_ascii (by rw [tx_list]; exact h)]
  show Str.mk (l.toArray.map lo1) = Str.mk (l.map lwc).toArray
  rw [List.map_toArray, List.map_congr_left fun c hc => lo1_eq c (h c hc)]
theorem swap_sg : ∀ c : Nat, c < 128 → Txt.swapcase (sg c) = sg (swp c) := by
  have h : ∀ c : Fin 128, Txt.swapcase (sg c.val) = sg (swp c.val) := by decide +kernel
  exact fun c hc => h ⟨c, hc⟩
/-! ### walls and sides -/
structure GoodW (l : List Nat) : Prop where
  lo : 1 ≤ l.length
  hi : l.length ≤ 12
  sm : ∀ c ∈ l, 97 ≤ c ∧ c ≤ 122
  rise : l.Pairwise (· < ·)
def sds (l : List Nat) : List Nat := l.map upc ++ l
theorem GoodW.asc {l : List Nat} (g : GoodW l) : ∀ c ∈ l, c < 128 := fun c h => by have := g.sm c h; omega
theorem GoodW.nd {l : List Nat} (g : GoodW l) : l.Nodup := g.rise.imp fun h => Nat.ne_of_lt h
theorem upc_small {c : Nat} (h : 97 ≤ c ∧ c ≤ 122) : upc c = c - 32 := by unfold upc; rw [if_pos h]
theorem sds_shape {l : List Nat} (g : GoodW l) {s : Nat} (h : s ∈ sds l) : (97 ≤ s ∧ s ≤ 122 ∧ s ∈ l) ∨ (65 ≤ s ∧ s ≤ 90 ∧ s + 32 ∈ l) := by
  rcases List.mem_append.mp h with q | q
  · obtain ⟨c, hc, e⟩ := List.mem_map.mp q
    have := g.sm c hc
    rw [upc_small this] at e
    exact .inr ⟨by omega, by omega, by rw [← e, show c - 32 + 32 = c by omega]; exact hc⟩
  · have := g.sm s q
    exact .inl ⟨this.1, this.2, q⟩
theorem sds_of_small {l : List Nat} {s : Nat} (h : s ∈ l) : s ∈ sds l := List.mem_append_right _ h
theorem sds_of_great {l : List Nat} (g : GoodW l) {c : Nat} (h : c ∈ l) : c - 32 ∈ sds l := by
  refine List.mem_append_left _ (List.mem_map.mpr ⟨c, h, upc_small (g.sm c h)⟩)
theorem sds_swp {l : List Nat} (g : GoodW l) {s : Nat} (h : s ∈ sds l) : swp s ∈ sds l := by
  rcases sds_shape g h with ⟨a, b, q⟩ | ⟨a, b, q⟩
  · rw [show swp s = s - 32 by unfold swp; rw [if_pos ⟨a, b⟩]]
    exact sds_of_great g q
  · rw [show swp s = s + 32 by unfold swp; rw [if_neg (by omega), if_pos ⟨a, b⟩]]
    exact sds_of_small q
theorem sds_asc {l : List Nat} (g : GoodW l) {s : Nat} (h : s ∈ sds l) : s < 128 := by
  rcases sds_shape g h with q | q <;> omega
theorem sds_len {l : List Nat} (g : GoodW l) : (sds l).length ≤ 24 := by
  unfold sds
  rw [List.length_append, List.length_map]
  have := g.hi
  omega
theorem sds_nd {l : List Nat} (g : GoodW l) : (sds l).Nodup := by
  refine List.nodup_append.mpr ⟨?_, g.nd, fun a ha b hb e => ?_⟩
  · refine List.pairwise_map.mpr (g.rise.imp_of_mem fun {a b} ha hb h e => ?_)
    have := g.sm a ha
    have := g.sm b hb
    rw [upc_small (by omega), upc_small (by omega)] at e
    omega
  · obtain ⟨c, hc, e2⟩ := List.mem_map.mp ha
    have h1 := g.sm c hc
    have h2 := g.sm b hb
    rw [upc_small h1] at e2
    omega
/-- is_bar -/
def isBar (l b : List Nat) : Bool := match b with
  | [x, y] => decide (x ∈ sds l) && (decide (y ∈ sds l) && decide (lwc x < lwc y))
  | _ => false
theorem lt1 (a b : Nat) : ([a] : List Nat) < [b] ↔ a < b := by simp [List.cons_lt_cons_iff]
/-! ### heaps -/
theorem same_upd {H : Hp} {p : Addr} {o : HO} (h : H p = none) : Same H (upd H p o) := fun b x e => by
  rw [upd_ne (ne_of_none e h)]
  exact e
theorem sm_t {K : PySem.W.Frag} {H H' : Hp} {a : Addr} {xs : List V} (e : Same H H') (h : SqT K H a xs) : SqT K H' a xs := by
  rcases h with (h | ⟨o, h⟩) | h
  · exact .inl (.inl (e _ _ h))
  · exact .inl (.inr ⟨o, e _ _ h⟩)
  · exact .inr h
theorem yes_i {σ : L2.St} {H : Hp} {A B : Hp → Prop} (h : A H) : tYes σ H (fun b H3 => if b = true then A H3 else B H3) := show (if true = true then A H else B H) from iteT h
theorem sm_trans {H H1 H2 : Hp} (a : Same H H1) (b : Same H1 H2) : Same H H2 := fun c o h => b c o (a c o h)
theorem sm_upd {H H1 : Hp} {p : Addr} {o : HO} (e : Same H H1) (h : H1 p = none) : Same H (upd H1 p o) := sm_trans e (same_upd h)
/-- a store at what was new -/
theorem sm_over {H H1 : Hp} {p : Addr} {o : HO} (e : Same H H1) (h : H p = none) : Same H (upd H1 p o) := fun b x hb => by
  rw [upd_ne (ne_of_none hb h)]
  exact e b x hb
theorem sm_l {K : PySem.W.Frag} {H H' : Hp} {a : Addr} {xs : List V} (e : Same H H') (h : SqL K H a xs) : SqL K H' a xs := L2.Same.seq e h
theorem inV_str (x : Str) (ys : List Str) : inV (.str x) (ys.map V.str) = decide (x ∈ ys) := by
  unfold inV
  rw [List.any_map]
  induction ys with
  | nil => rfl
  | cons y r ih =>
    rw [List.any_cons, ih]
    by_cases e : y = x
    · subst e
      simp [eqV]
    · have e2 : ¬ x = y := fun z => e z.symm
      have q : eqV (.str y) (.str x) = false := by
        show (y == x) = false
        simpa using e
      show (eqV (.str y) (.str x) || _) = _
      rw [q]
      simp [e2]
theorem flat_str (ys : List Str) : (ys.map V.str).all flatV = true := by
  rw [List.all_map]
  exact List.all_eq_true.mpr fun _ _ => rfl
theorem mem_sg {c : Nat} {l : List Nat} : sg c ∈ l.map sg ↔ c ∈ l := by
  constructor
  · intro h
    obtain ⟨d, hd, e⟩ := List.mem_map.mp h
    rw [← sg_inj e]
    exact hd
  · exact fun h => List.mem_map.mpr ⟨c, h, rfl⟩
end NC
namespace NC
open PySem PySem.Spec PyProof.Rows L2
def topS (i : Nat) : Stmt := PySem.Challenge.pw_nearcall_k48_whole_hardened_rows.main.body.getD i (.Pass ⟨0, 0, 0, 0⟩)
abbrev sOther : Stmt := topS 15
abbrev sSides : Stmt := topS 16
abbrev sByWalls : Stmt := topS 17
abbrev sIsWalls : Stmt := topS 18
abbrev sIsBar : Stmt := topS 19
abbrev sChkWalls : Stmt := topS 20
abbrev sChkBars : Stmt := topS 21
abbrev sChkSide : Stmt := topS 22
/-- the built-ins are the built-ins -/
structure BM (mg : Str → Option Value) : Prop where
  list : mg "list" = none
  sorted : mg "sorted" = none
  set : mg "set" = none
  all : mg "all" = none
  len : mg "len" = none
  enumerate : mg "enumerate" = none
  range : mg "range" = none
  isinstance : mg "isinstance" = none
  tuple : mg "tuple" = none
/-- a def of the top, by its name -/
structure DF (K : PySem.W.Frag) (mg : Str → Option Value) (x : Str) (st : Stmt) (ps : List Str) (f : Addr) (fd : FuncData) : Prop where
  F : Fun K x x st f fd
  g : mg x = some (.ref f)
  b : Binds K fd ps []
theorem scOther : FnScope ["side"] ["side"] (defScope sOther) := ⟨rfl, rfl, rfl, by decide +kernel, rfl, by decide +kernel, by decide +kernel⟩
theorem scSides : FnScope ["walls"] ["walls"] (defScope sSides) := ⟨rfl, rfl, rfl, by decide +kernel, rfl, by decide +kernel, by decide +kernel⟩
theorem scIsBar : FnScope ["walls", "bar", "sides"] ["walls", "bar"] (defScope sIsBar) := ⟨rfl, rfl, rfl, by decide +kernel, rfl, by decide +kernel, by decide +kernel⟩
theorem scChkSide : FnScope ["walls", "side"] ["walls", "side"] (defScope sChkSide) := ⟨rfl, rfl, rfl, by decide +kernel, rfl, by decide +kernel, by decide +kernel⟩
section
variable {P : Program} {w : World} {K : PySem.W.Frag} {mg : Str → Option Value} {base : Heap}
/-! ### other -/
def spOther : Sp := fun vs H Q _ => ∃ c, vs = [.str (sg c)] ∧ c < 128 ∧ Q (.str (sg (swp c))) H
theorem ok_other {f : Addr} {fd : FuncData} {k : Nat} (F : Fun K "other" "other" sOther f fd) : FnOk P w K mg base CX0 (k + 1) f fd ["side"] spOther := by
  refine F.ok scOther (fun vs H Q E h => ?_) (fun cdv A outer s H vs Q E hr h => ?_)
  · obtain ⟨c, rfl, _⟩ := h
    rfl
  · obtain ⟨c, rfl, hc, q⟩ := h
    refine ⟨_, pss_one (ps_ret (pe_m0 PySem.F.slot_str_swapcase PySem.F.type_str_swapcase mt_swap (pv 0))), ?_⟩
    refine ⟨_, rfl, ⟨_, rfl⟩, _, rfl, rfl, by show 1 ≤ 1000; decide, ?_⟩
    rw [swap_sg c hc]
    exact q
/-! ### sides_of -/
def spSides : Sp := fun vs H Q _ => ∃ l, vs = [.str (tx l)] ∧ (∀ c ∈ l, c < 128) ∧ l.length ≤ 100 ∧ ∀ p, H p = none → Q (.ref p) (upd H p (.lst (((sds l).map sg).map V.str)))
theorem ok_sides {f : Addr} {fd : FuncData} {k : Nat} (B : BM mg) (F : Fun K "sides_of" "sides_of" sSides f fd) : FnOk P w K mg base CX0 (k + 1) f fd ["walls"] spSides := by
  refine F.ok scSides (fun vs H Q E h => ?_) (fun cdv A outer s H vs Q E hr h => ?_)
  · obtain ⟨c, rfl, _⟩ := h
    rfl
  · obtain ⟨l, rfl, hl, hz, q⟩ := h
    refine ⟨_, pss_one (ps_ret (pe_callTy (cr_listS rfl) (by rfl) B.list (by decide +kernel) (pa_cons (pe_op op_add_str (pe_upper (pv 0)) (pv 0)) pa_nil))), ?_⟩
    refine ⟨_, rfl, ⟨_, rfl⟩, _, rfl, rfl, by rw [tx_len]; omega, ?_⟩
    rw [upper_tx hl]
    refine ⟨_, rfl, _, _, rfl, rfl, by rw [tx_len, tx_len, List.length_map, sizeLine_eq]; omega, ?_⟩
    rw [tx_app]
    refine ⟨_, rfl, by rw [tx_len, List.length_append, List.length_map, sizeLine_eq]; omega, fun p hp => ?_⟩
    rw [sgs_tx]
    exact q p hp
/-! ### is_bar -/
def spIsBar : Sp := fun vs H Q _ => ∃ l b, vs = [.str (tx l), .str (tx b)] ∧ (∀ c ∈ l, c < 128) ∧ l.length ≤ 100 ∧ (∀ c ∈ b, c < 128) ∧ b.length ≤ 100 ∧ ∀ H', Same H H' → Q (.bl (isBar l b)) H'
theorem ok_isBar {f fS : Addr} {fd fdS : FuncData} {k : Nat} (B : BM mg) (F : Fun K "is_bar" "is_bar" sIsBar f fd) (S : DF K mg "sides_of" sSides ["walls"] fS fdS) : FnOk P w K mg base CX0 (k + 2) f fd ["walls", "bar"] spIsBar := by
  have GS : FnOk P w K mg base CX0 (k + 1) fS fdS ["walls"] spSides := ok_sides B S.F
  refine F.ok scIsBar (fun vs H Q E h => ?_) (fun cdv A outer s H vs Q E hr h => ?_)
  · obtain ⟨l, b, rfl, _⟩ := h
    rfl
  · obtain ⟨l, b, rfl, hl, hlz, hb, hbz, q⟩ := h
    have hbs : (tx b).length ≤ sizeLine := by rw [tx_len, sizeLine_eq]; omega
    refine ⟨_, pss_cons (ps_set (i := 2) scIsBar.nd rfl (.inl rfl) (pe_call GS hr rfl S.g S.F.kp S.b .nil pass0 (pa_cons (pv 0) pa_nil)))
      (pss_cons (ps_if (PW.pt (pw_or (pt_cmpR op_ne (pe_callB call_len_str (by rfl) B.len PySem.boot_len (pa_cons (pv 1) pa_nil)) pe_int (nomark _))
          (pw_or (pt_cmpR op_notIn_seq (pe_ix ix_str (pv 1) pe_int (fun _ _ => rfl)) (pv 2) (by rfl))
            (pw_or1 (pt_cmpR op_notIn_seq (pe_ix ix_str (pv 1) pe_int (fun _ _ => rfl)) (pv 2) (by rfl))))))
        (pss_one (ps_ret pe_bl)) pss_nil)
      (pss_one (ps_ret (pe_cmpR op_lt_str (pe_lower (pe_ix ix_str (pv 1) pe_int (fun _ _ => rfl))) (pe_lower (pe_ix ix_str (pv 1) pe_int (fun _ _ => rfl))) (nomark _))))), ?_⟩
    refine ⟨_, rfl, l, rfl, hl, hlz, fun p hp => ?_⟩
    have sm : Same H (upd H p (.lst (((sds l).map sg).map V.str))) := same_upd hp
    have hS : SqL K (upd H p (.lst (((sds l).map sg).map V.str))) p (((sds l).map sg).map V.str) := SqL.of upd_same
    have ix : ∀ c, inV (.str (sg c)) (((sds l).map sg).map V.str) = decide (c ∈ sds l) := fun c => by
      rw [inV_str]
      by_cases hm : c ∈ sds l
      · rw [decide_eq_true hm, decide_eq_true (mem_sg.mpr hm)]
      · rw [decide_eq_false hm, decide_eq_false fun z => hm (mem_sg.mp z)]
    refine ⟨_, rfl, _, rfl, hbs, rfl, _, rfl, ite2 (fun e => ?_) (fun e => ?_)⟩
    · have hn : b.length ≠ 2 := fun z => by
        rw [tx_len, z] at e
        exact absurd e (by decide)
      have e0 : isBar l b = false := by
        match b, hn with
        | [], _ => rfl
        | [_], _ => rfl
        | [_, _], hn => exact absurd rfl hn
        | _ :: _ :: _ :: _, _ => rfl
      refine iteT (show Q (.bl false) _ from ?_)
      rw [← e0]
      exact q _ sm
    · have hn : b.length = 2 := by
        have e1 : decide (V.int ↑(tx b).length = V.int 2) = true := by simpa using e
        have e2 : ((tx b).length : Int) = 2 := V.int.inj (of_decide_eq_true e1)
        rw [tx_len] at e2
        omega
      obtain ⟨x, y, rfl⟩ : ∃ x y, b = [x, y] := by
        match b, hn with
        | [x, y], _ => exact ⟨x, y, rfl⟩
      refine ⟨_, rfl, _, _, x, rfl, rfl, hbs, rfl, _, rfl, p, _, rfl, .inl hS, rfl, flat_str _, _, rfl, ite2 (fun e1 => ?_) (fun e1 => ?_)⟩
      · have e1 : (!inV (.str (sg x)) (((sds l).map sg).map V.str)) = true := e1
        rw [ix] at e1
        have e0 : isBar l [x, y] = false := by
          show (decide (x ∈ sds l) && _) = false
          simp only [Bool.not_eq_true'] at e1
          rw [e1]; rfl
        refine iteT (show Q (.bl false) _ from ?_)
        rw [← e0]
        exact q _ sm
      · have e1 : ¬ (!inV (.str (sg x)) (((sds l).map sg).map V.str)) = true := e1
        rw [ix] at e1
        have hx : decide (x ∈ sds l) = true := by simpa using e1
        refine ⟨_, rfl, _, _, y, rfl, rfl, hbs, rfl, _, rfl, p, _, rfl, .inl hS, rfl, flat_str _, _, rfl, ite2 (fun e2 => ?_) (fun e2 => ?_)⟩
        · have e2 : (!inV (.str (sg y)) (((sds l).map sg).map V.str)) = true := e2
          rw [ix] at e2
          have e0 : isBar l [x, y] = false := by
            show (decide (x ∈ sds l) && (decide (y ∈ sds l) && _)) = false
            simp only [Bool.not_eq_true'] at e2
            rw [e2]; simp
          show Q (.bl false) _
          rw [← e0]
          exact q _ sm
        · have e2 : ¬ (!inV (.str (sg y)) (((sds l).map sg).map V.str)) = true := e2
          rw [ix] at e2
          have hy : decide (y ∈ sds l) = true := by simpa using e2
          refine ⟨_, rfl, _, _, x, rfl, rfl, hbs, rfl, ⟨_, rfl⟩, _, rfl, rfl, by show 1 ≤ 5592405; decide, _, rfl, _, _, y, rfl, rfl, hbs, rfl, ⟨_, rfl⟩, _, rfl, rfl, by show 1 ≤ 5592405; decide, ?_⟩
          rw [show Txt.lower (⟨#[x]⟩ : Str) = tx [lwc x] from lower_tx (l := [x]) (fun c hc => hb c (by simp at hc; simp [hc])), show Txt.lower (⟨#[y]⟩ : Str) = tx [lwc y] from lower_tx (l := [y]) (fun c hc => hb c (by simp at hc; simp [hc]))]
          refine ⟨_, _, rfl, rfl, ?_⟩
          have e0 : decide ((tx [lwc x]).cps.toList < (tx [lwc y]).cps.toList) = isBar l [x, y] := by
            show _ = (decide (x ∈ sds l) && (decide (y ∈ sds l) && decide (lwc x < lwc y)))
            rw [hx, hy, tx_list, tx_list]
            simp [lt1]
          rw [e0]
          exact q _ sm
end
end NC
namespace NC
open PySem PySem.Spec PyProof.Rows L2
def leS (a b : Str) : Prop := a.cps.toList ≤ b.cps.toList
theorem ltc_iff (a b : List Nat) : ltCps a b = decide (a < b) := by
  induction a generalizing b with
  | nil => cases b <;> simp [ltCps]
  | cons x r ih =>
    cases b with
    | nil => simp [ltCps]
    | cons y s =>
      simp only [ltCps, ih, List.cons_lt_cons_iff]
      by_cases h1 : x < y
      · simp [h1]
      · by_cases h2 : x = y
        · subst h2; simp
        · simp [h1, h2]
theorem rise_pw : ∀ (l : List Str) (p : Str), risingS p l = true → (p :: l).Pairwise leS
  | [], p, _ => by simp
  | x :: r, p, h => by
    have h' : (!ltCps x.cps.toList p.cps.toList && risingS x r) = true := h
    rw [Bool.and_eq_true] at h'
    have q := rise_pw r x h'.2
    have hpx : leS p x := by
      have z := h'.1
      rw [ltc_iff] at z
      simpa [leS] using z
    refine List.pairwise_cons.mpr ⟨fun y hy => ?_, q⟩
    rcases List.mem_cons.mp hy with e | e
    · rw [e]; exact hpx
    · exact List.le_trans hpx ((List.pairwise_cons.mp q).1 y e)
theorem sortedS_pw : ∀ l : List Str, sortedS l = true → l.Pairwise leS
  | [], _ => List.Pairwise.nil
  | x :: r, h => rise_pw r x h
theorem str_ext {a b : Str} (h : a.cps.toList = b.cps.toList) : a = b := by
  cases a; cases b
  simp at h
  rw [h]
theorem sortedS_eq {ys zs : List Str} (h : sortedS ys = true) (p : ys.Perm zs) (hz : zs.Pairwise leS) : ys = zs :=
  p.eq_of_pairwise (fun a b _ _ h1 h2 => str_ext (List.le_antisymm h1 h2)) (sortedS_pw ys h) hz
theorem leS_sg {a b : Nat} (h : a ≤ b) : leS (sg a) (sg b) := by
  show ([a] : List Nat) ≤ [b]
  rw [List.cons_le_cons_iff]
  by_cases e : a = b
  · exact .inr ⟨e, List.le_refl _⟩
  · exact .inl (by omega)
theorem GoodW.pw {l : List Nat} (g : GoodW l) : (l.map sg).Pairwise leS := List.pairwise_map.mpr (g.rise.imp fun h => leS_sg (Nat.le_of_lt h))
theorem eqvAll_strs : ∀ xs ys : List Str, PyData.eqvAll (xs.map .str) (ys.map .str) = decide (xs = ys)
  | [], [] => rfl
  | [], _ :: _ => rfl
  | _ :: _, [] => rfl
  | x :: r, y :: s => by
    show ((x == y) && PyData.eqvAll (r.map .str) (s.map .str)) = _
    rw [eqvAll_strs r s]
    by_cases h1 : x = y
    · subst h1
      by_cases h2 : r = s
      · simp [h2]
      · simp [h2]
    · simp [h1]
def okS (x : Str) : Prop := ∀ c ∈ x.cps.toList, c < 128
theorem okS_tx {l : List Nat} (h : ∀ c ∈ l, c < 128) : okS (tx l) := by unfold okS; rw [tx_list]; exact h
theorem okS_sg {c : Nat} (h : c < 128) : okS (sg c) := okS_tx (l := [c]) fun d hd => by simp at hd; omega
theorem strOk_of {x : Str} (h : okS x) : PyData.strOk x = true := by
  unfold PyData.strOk
  rw [← Array.all_toList, List.all_eq_true]
  intro c hc
  have := h c hc
  simp
  omega
theorem canAll_strs : ∀ xs : List Str, (∀ x ∈ xs, okS x) → PyData.canLayAll0 (xs.map .str) = true
  | [], _ => rfl
  | x :: r, h => by
    show (PyData.strOk x && PyData.canLayAll0 (r.map .str)) = true
    rw [strOk_of (h x (List.mem_cons_self ..)), canAll_strs r fun y hy => h y (List.mem_cons_of_mem _ hy)]
    rfl
theorem depAll_strs : ∀ xs : List Str, PyData.depthAll (xs.map .str) = 0
  | [] => rfl
  | x :: r => by
    show max 0 (PyData.depthAll (r.map .str)) = 0
    rw [depAll_strs r]
    rfl
theorem shaped_strs {xs : List Str} (h : ∀ x ∈ xs, okS x) : SeqAt.shaped (.list (xs.map .str)) = true := by
  show (PyData.canLayAll0 (xs.map .str) && decide (PyData.depthAll (xs.map .str) + 1 ≤ 64)) = true
  rw [canAll_strs xs h, depAll_strs]
  rfl
theorem dpAll_strs {K : PySem.W.Frag} {H : Hp} : ∀ xs : List Str, DpAll K H (xs.map V.str) (xs.map .str)
  | [] => .nil
  | x :: r => .cons (.str x) (dpAll_strs r)
end NC
namespace NC
open PySem PySem.Spec PyProof.Rows L2
theorem scIsWalls : FnScope ["walls", "small", "letter"] ["walls"] (defScope sIsWalls) := ⟨rfl, rfl, rfl, by decide +kernel, rfl, by decide +kernel, by decide +kernel⟩
theorem scChkWalls : FnScope ["walls"] ["walls"] (defScope sChkWalls) := ⟨rfl, rfl, rfl, by decide +kernel, rfl, by decide +kernel, by decide +kernel⟩
theorem scByWalls : FnScope ["walls", "sides", "wall", "side"] ["walls", "sides"] (defScope sByWalls) := ⟨rfl, rfl, rfl, by decide +kernel, rfl, by decide +kernel, by decide +kernel⟩
theorem strA : (Str.ofString "a") = sg 97 := by decide +kernel
theorem strZ : (Str.ofString "z") = sg 122 := by decide +kernel
section
variable {P : Program} {w : World} {K : PySem.W.Frag} {mg : Str → Option Value} {base : Heap}
/-! ### is_walls, of good walls -/
def spIsWalls : Sp := fun vs H Q _ => ∃ l, vs = [.str (tx l)] ∧ GoodW l ∧ ∀ H', Same H H' → Q (.bl true) H'
theorem ok_isWalls {f : Addr} {fd : FuncData} {k : Nat} {tw : Tok} (B : BM mg) (mW : mg "WIDEST" = some (.int 12 tw)) (F : Fun K "is_walls" "is_walls" sIsWalls f fd) : FnOk P w K mg base CX0 (k + 1) f fd ["walls"] spIsWalls := by
  refine F.ok scIsWalls (fun vs H Q E h => ?_) (fun cdv A outer s H vs Q E hr h => ?_)
  · obtain ⟨l, rfl, _⟩ := h
    rfl
  · obtain ⟨l, rfl, g, q⟩ := h
    have hlz : (tx l).length ≤ sizeLine := by rw [tx_len, sizeLine_eq]; have := g.hi; omega
    refine ⟨_, pss_cons (ps_set (i := 1) scIsWalls.nd rfl (.inl rfl) (pe_callB (cr_all rfl) (by rfl) B.all (by decide +kernel) (pa_cons
        (pe_lc (own := [("letter", 2)]) (g := gName 2) (tt := tYes) rfl scIsWalls.nd (pi_str (pv 0)) (blkOk_by (N := ["walls", "small", "letter"]) (sc := defScope sIsWalls) (by decide +kernel))
          (fun _ _ _ _ _ => pg_name (i := 2) scIsWalls.nd rfl (Or.inl rfl)) (fun _ _ _ _ _ => pts_nil) (fun _ _ _ _ _ => pe_chain op_le_str op_le_str pe_str (pv 2) pe_str)) pa_nil)))
      (pss_one (ps_ret (pe_and (pv 1) (pe_and (pe_chain op_le op_le pe_int (pe_callB call_len_str (by rfl) B.len PySem.boot_len (pa_cons (pv 0) pa_nil)) (pe_glob (v := .int 12) rfl mW ⟨_, rfl⟩))
        (pe_one (pe_cmpR (op_eqD hr.units) (pe_callB (cr_sortedSetT rfl) (by rfl) B.sorted (by decide +kernel) (pa_cons (pe_callTy (cr_setT rfl) (by rfl) B.set (by decide +kernel) (pa_cons (pv 0) pa_nil)) pa_nil))
          (pe_callTy (cr_listS rfl) (by rfl) B.list (by decide +kernel) (pa_cons (pv 0) pa_nil)) (nomark _))))))), ?_⟩
    refine ⟨_, rfl, tx l, rfl, fun D hD => lc_it walk_str (fun i H' => ∃ n : Nat, n = i ∧ Same H H' ∧ H' D = some (.lst ((List.replicate i true).map V.bl))) ⟨0, rfl, same_upd hD, upd_same⟩ (fun _ _ _ _ => trivial) ?_ ?_⟩
    · rintro i x H1 H2 hi ⟨n, rfl, sm, eD⟩ ⟨rfl, c, hc, rfl⟩
      have hcl : c ∈ l := by
        have e : l[n]? = some c := by
          rw [← Array.getElem?_toList, tx_list] at hc
          exact hc
        exact List.mem_of_getElem? e
      have hs := g.sm c hcl
      have hn : n < l.length := by
        have : (tx l).cps.size = l.length := tx_len l
        omega
      refine ⟨rfl, yes_i ⟨_, rfl, _, _, rfl, rfl, true, ?_, iteT ⟨_, _, rfl, rfl, ?_⟩⟩⟩
      · rw [strA]
        show V.bl (!decide (([c] : List Nat) < [97])) = .bl true
        rw [decide_eq_false (by rw [lt1]; omega)]
        rfl
      · have e2 : (!decide ((Str.ofString "z").cps.toList < (⟨#[c]⟩ : Str).cps.toList)) = true := by
          rw [strZ]
          show (!decide (([122] : List Nat) < [c])) = true
          rw [decide_eq_false (by rw [lt1]; omega)]
          rfl
        rw [e2]
        refine ⟨_, eD, ?_, _, rfl, ?_, ?_⟩
        · rw [List.length_map, List.length_replicate, sizeLine_eq]
          have := g.hi
          omega
        · exact sm_over sm hD
        · rw [upd_same, List.replicate_succ', List.map_append]
          rfl
    · rintro H1 ⟨n, rfl, sm, eD⟩
      refine ⟨_, _, rfl, SqL.of eD, ?_⟩
      have ea : (List.replicate (tx l).cps.size true).all id = true := by simp
      rw [ea]
      refine ⟨_, rfl, true, rfl, iteT ⟨_, rfl, _, rfl, hlz, _, _, rfl, rfl, true, ?_, iteT ⟨_, _, rfl, rfl, true, ?_, iteT ?_⟩⟩⟩
      · show V.bl (decide ((1 : Int) ≤ ((tx l).length : Int))) = .bl true
        rw [tx_len, decide_eq_true (by have := g.lo; omega)]
      · show V.bl (decide (((tx l).length : Int) ≤ 12)) = .bl true
        rw [tx_len, decide_eq_true (by have := g.hi; omega)]
      · refine ⟨_, rfl, tx l, rfl, ?_, by rw [tx_list]; exact g.nd, by rw [tx_list]; have := g.hi; omega, fun p z hp hz => ?_⟩
        · rw [← Array.all_toList, tx_list, List.all_eq_true]
          intro c hc
          have := g.asc c hc
          simpa using this
        · rw [sgs_tx] at hz
          have hnd : (l.map sg).Nodup := List.pairwise_map.mpr (g.nd.imp fun {a b} h e => h (sg_inj e))
          refine ⟨p, z, rfl, upd_same, hz.nodup_iff.mpr hnd, by rw [hz.length_eq, List.length_map]; have := g.hi; omega, fun ys r hy hs hr2 => ?_⟩
          have ey : ys = l.map sg := sortedS_eq hs (hy.trans hz) g.pw
          subst ey
          refine ⟨_, rfl, _, rfl, hlz, fun a ha => ?_⟩
          rw [sgs_tx]
          have hra : r ≠ a := ne_of_none upd_same ha
          have oks : ∀ x ∈ l.map sg, okS x := fun x hx => by
            obtain ⟨c, hc, rfl⟩ := List.mem_map.mp hx
            exact okS_sg (g.asc c hc)
          refine ⟨_, _, .lst (SqL.of (by rw [upd_ne hra, upd_same])) (dpAll_strs _), .lst (SqL.of upd_same) (dpAll_strs _), shaped_strs oks, shaped_strs oks, ?_⟩
          show Q (.bl (PyData.eqvAll _ _)) _
          rw [eqvAll_strs, decide_eq_true rfl]
          exact q _ (sm_upd (sm_upd (sm_upd sm hp) hr2) ha)
end
end NC
namespace NC
open PySem PySem.Spec PyProof.Rows L2
/-- a dict comprehension over a walk -/
theorem dc_it {J : It} {n : Nat} {G : Hp → Prop} {Y : Nat → Hp → V → Hp → Prop} (wk : Walk J n G Y) {g : TG} {tt : TT} {tk tv : TE} {vs : List Nat} {σ : L2.St} {H1 : Hp} {D : Addr} {Qd : Hp → Prop} (Pv : Nat → Hp → Prop)
    (h0 : Pv 0 (upd H1 D (.dK []))) (hG : ∀ i H, i ≤ n → Pv i H → G H)
    (hs : ∀ i x H H', i < n → Pv i H → Y i H x H' → g x (wipe σ vs) H' fun σ2 H2 => wipe σ2 vs = wipe σ vs ∧ tt σ2 H2 fun b H3 =>
      if b = true then tk σ2 H3 fun y H4 => tv σ2 H4 fun z H5 => ∃ kvs k, y = kV k ∧ H5 D = some (.dK kvs) ∧ kvs.length < sizeLine ∧ Pv (i + 1) (upd H5 D (.dK (putK kvs k z))) else Pv (i + 1) H3) (hd : ∀ H, Pv n H → Qd H) :
    ∃ W : Nat → Nat → Hp → Prop, (∃ m, W 0 m (upd H1 D (.dK []))) ∧ ∀ i m H, W i m H →
      (J.stop i H ∧ Qd H) ∨ (J.go i H ∧ ∃ Nx : Hp → Prop, (∀ H', Nx H' → ∃ m', m' < m ∧ W (i + 1) m' H') ∧ ∀ x H', J.yld i H x H' → g x (wipe σ vs) H' fun σ2 H2 => wipe σ2 vs = wipe σ vs ∧ tt σ2 H2 fun b H3 =>
        if b = true then tk σ2 H3 fun y H4 => tv σ2 H4 fun z H5 => ∃ kvs k, y = kV k ∧ H5 D = some (.dK kvs) ∧ kvs.length < sizeLine ∧ Nx (upd H5 D (.dK (putK kvs k z))) else Nx H3) := by
  refine ⟨fun i m H => m = n - i ∧ i ≤ n ∧ Pv i H, ⟨n, by simp, Nat.zero_le _, h0⟩, ?_⟩
  rintro i m H ⟨rfl, hi, p⟩
  have q := hG i H hi p
  rcases Nat.lt_or_ge i n with hlt | hge
  · exact .inr ⟨wk.goes i H hlt q, Pv (i + 1), fun H' p' => ⟨n - (i + 1), by omega, rfl, hlt, p'⟩, fun x H' y => hs i x H H' hlt p (wk.yields i H x H' hlt q y)⟩
  · obtain rfl : i = n := by omega
    exact .inl ⟨wk.stops H q, hd H p⟩
/-- the inner walk of a comprehension of two -/
theorem in_it {J : It} {n : Nat} {G : Hp → Prop} {Y : Nat → Hp → V → Hp → Prop} (wk : Walk J n G Y) {g1 : TG} {tt1 : TT} {te : TE} {vs1 : List Nat} {σ2 : L2.St} {H4 : Hp} {D : Addr} {Nx : Hp → Prop} (Pv : Nat → Hp → Prop)
    (h0 : Pv 0 H4) (hG : ∀ i H, i ≤ n → Pv i H → G H)
    (hs : ∀ i x H H', i < n → Pv i H → Y i H x H' → g1 x (wipe σ2 vs1) H' fun σ3 H5 => wipe σ3 vs1 = wipe σ2 vs1 ∧ tt1 σ3 H5 fun b H6 =>
      if b = true then te σ3 H6 fun y H7 => ∃ acc, H7 D = some (.lst acc) ∧ acc.length < sizeLine ∧ Pv (i + 1) (upd H7 D (.lst (acc ++ [y]))) else Pv (i + 1) H6) (hd : ∀ H, Pv n H → Nx H) :
    ∃ W1 : Nat → Nat → Hp → Prop, (∃ m, W1 0 m H4) ∧ ∀ j k H, W1 j k H →
      (J.stop j H ∧ Nx H) ∨ (J.go j H ∧ ∃ Nx1 : Hp → Prop, (∀ H', Nx1 H' → ∃ k', k' < k ∧ W1 (j + 1) k' H') ∧ ∀ x H', J.yld j H x H' → g1 x (wipe σ2 vs1) H' fun σ3 H5 => wipe σ3 vs1 = wipe σ2 vs1 ∧ tt1 σ3 H5 fun b H6 =>
        if b = true then te σ3 H6 fun y H7 => ∃ acc, H7 D = some (.lst acc) ∧ acc.length < sizeLine ∧ Nx1 (upd H7 D (.lst (acc ++ [y]))) else Nx1 H6) := by
  refine ⟨fun i m H => m = n - i ∧ i ≤ n ∧ Pv i H, ⟨n, by simp, Nat.zero_le _, h0⟩, ?_⟩
  rintro i m H ⟨rfl, hi, p⟩
  have q := hG i H hi p
  rcases Nat.lt_or_ge i n with hlt | hge
  · exact .inr ⟨wk.goes i H hlt q, Pv (i + 1), fun H' p' => ⟨n - (i + 1), by omega, rfl, hlt, p'⟩, fun x H' y => hs i x H H' hlt p (wk.yields i H x H' hlt q y)⟩
  · obtain rfl : i = n := by omega
    exact .inl ⟨wk.stops H q, hd H p⟩
/-- the outer walk of a comprehension of two (no test on the outer) -/
theorem out_it {J : It} {n : Nat} {G : Hp → Prop} {Y : Nat → Hp → V → Hp → Prop} (wk : Walk J n G Y) {H1 : Hp} {D : Addr} {Qd : Hp → Prop} {B : V → Hp → (Hp → Prop) → Prop} (Pv : Nat → Hp → Prop)
    (h0 : Pv 0 (upd H1 D (.lst []))) (hG : ∀ i H, i ≤ n → Pv i H → G H) (hs : ∀ i x H H', i < n → Pv i H → Y i H x H' → B x H' (Pv (i + 1))) (hd : ∀ H, Pv n H → Qd H) :
    ∃ W : Nat → Nat → Hp → Prop, (∃ m, W 0 m (upd H1 D (.lst []))) ∧ ∀ i m H, W i m H →
      (J.stop i H ∧ Qd H) ∨ (J.go i H ∧ ∃ Nx : Hp → Prop, (∀ H', Nx H' → ∃ m', m' < m ∧ W (i + 1) m' H') ∧ ∀ x H', J.yld i H x H' → B x H' Nx) := by
  refine ⟨fun i m H => m = n - i ∧ i ≤ n ∧ Pv i H, ⟨n, by simp, Nat.zero_le _, h0⟩, ?_⟩
  rintro i m H ⟨rfl, hi, p⟩
  have q := hG i H hi p
  rcases Nat.lt_or_ge i n with hlt | hge
  · exact .inr ⟨wk.goes i H hlt q, Pv (i + 1), fun H' p' => ⟨n - (i + 1), by omega, rfl, hlt, p'⟩, fun x H' y => hs i x H H' hlt p (wk.yields i H x H' hlt q y)⟩
  · obtain rfl : i = n := by omega
    exact .inl ⟨wk.stops H q, hd H p⟩
theorem fold_glue (e : Array Nat) (he : e = #[]) : ∀ (r : List (List Nat)) (acc : Array Nat), (r.map tx).foldl (fun acc p => acc ++ e ++ p.cps) acc = acc ++ r.flatten.toArray
  | [], acc => by simp
  | x :: r, acc => by
    rw [List.map_cons, List.foldl_cons, fold_glue e he r, he]
    simp [tx]
theorem join_tx (xs : List (List Nat)) : Txt.join (Str.ofString "") (xs.map tx) = tx xs.flatten := by
  have e0 : (Str.ofString "").cps = #[] := by decide +kernel
  show (⟨((xs.map tx).drop 1).foldl (fun acc p => acc ++ (Str.ofString "").cps ++ p.cps) ((xs.map tx).headD Str.empty).cps⟩ : Str) = _
  cases xs with
  | nil => rfl
  | cons x r =>
    show (⟨(r.map tx).foldl (fun acc p => acc ++ (Str.ofString "").cps ++ p.cps) x.toArray⟩ : Str) = _
    rw [fold_glue _ e0]
    show Str.mk _ = Str.mk _
    simp
/-- ''.join of signs -/
theorem join_sg (l : List Nat) : Txt.join (Str.ofString "") (l.map sg) = tx l := by
  have e2 : ∀ l : List Nat, (l.map fun c => [c]).flatten = l := fun l => by
    induction l with
    | nil => rfl
    | cons x r ih => simp [ih]
  have e := join_tx (l.map fun c => [c])
  rw [List.map_map, e2] at e
  exact e
end NC
namespace NC
open PySem PySem.Spec PyProof.Rows L2
/-- by_walls, the other part a dict -/
def inK (kvs : List (Key × V)) (c : Nat) : Bool := (valV kvs (Sum.inr (sg c))).isSome
def byW (l : List Nat) (kvs : List (Key × V)) : List Nat := l.flatMap fun c => [swp c, c].filter (inK kvs)
theorem byW_len (l : List Nat) (kvs : List (Key × V)) : (byW l kvs).length ≤ 2 * l.length := by
  induction l with
  | nil => simp [byW]
  | cons x r ih =>
    have h1 : (byW (x :: r) kvs) = [swp x, x].filter (inK kvs) ++ byW r kvs := by simp [byW]
    rw [h1, List.length_append, List.length_cons]
    have h2 : ([swp x, x].filter (inK kvs)).length ≤ 2 := List.length_filter_le _ _
    omega
theorem byW_mem {l : List Nat} (g : GoodW l) {kvs : List (Key × V)} {s : Nat} (h : s ∈ byW l kvs) : s ∈ sds l ∧ inK kvs s = true := by
  obtain ⟨c, hc, hs⟩ := List.mem_flatMap.mp h
  obtain ⟨h1, h2⟩ := List.mem_filter.mp hs
  refine ⟨?_, h2⟩
  rcases List.mem_cons.mp h1 with e | e
  · rw [e]; exact sds_swp g (sds_of_small hc)
  · rw [List.mem_singleton.mp e]; exact sds_of_small hc
theorem byW_snoc (l : List Nat) (n : Nat) (c : Nat) (kvs : List (Key × V)) (h : l[n]? = some c) : byW (l.take (n + 1)) kvs = byW (l.take n) kvs ++ [swp c, c].filter (inK kvs) := by
  rw [List.take_add_one, h]
  unfold byW
  rw [List.flatMap_append]
  simp
section
variable {P : Program} {w : World} {K : PySem.W.Frag} {mg : Str → Option Value} {base : Heap}
def spByWalls : Sp := fun vs H Q _ => ∃ l d kvs, vs = [.str (tx l), .ref d] ∧ GoodW l ∧ H d = some (.dK kvs) ∧ ∀ H', Same H H' → Q (.str (tx (byW l kvs))) H'
set_option maxHeartbeats 1000000 in
theorem ok_byWalls {f fO : Addr} {fd fdO : FuncData} {k : Nat} (B : BM mg) (F : Fun K "by_walls" "by_walls" sByWalls f fd) (O : DF K mg "other" sOther ["side"] fO fdO) : FnOk P w K mg base CX0 (k + 2) f fd ["walls", "sides"] spByWalls := by
  have GO : FnOk P w K mg base CX0 (k + 1) fO fdO ["side"] spOther := ok_other O.F
  refine F.ok scByWalls (fun vs H Q E h => ?_) (fun cdv A outer s H vs Q E hr h => ?_)
  · obtain ⟨l, d, kvs, rfl, _⟩ := h
    rfl
  · obtain ⟨l, d, kvs, rfl, g, hd, q⟩ := h
    refine ⟨_, pss_one (ps_ret (pe_join pe_str (pe_lc2 (wi1 := iTup K (tTup (tCons (tCall spOther [] E0 (tCons (tVar 2) tNil)) (tCons (tVar 2) tNil)))) (own := [("wall", 2), ("side", 3)]) (vs1 := [3]) (g := gName 2) (g1 := gName 3) (tt := tYes) rfl scByWalls.nd (pi_str (pv 0))
      (blkOk_by (N := ["walls", "sides", "wall", "side"]) (sc := defScope sByWalls) (by decide +kernel)) (by decide)
      (fun _ _ _ _ _ => pg_name (i := 2) scByWalls.nd rfl (Or.inl rfl)) (fun _ _ _ _ _ => pts_nil)
      (fun _ _ _ _ _ => pi_tup (pe_tup (pa_cons (pe_call GO hr rfl O.g O.F.kp O.b .nil pass0 (pa_cons (pv 2) pa_nil)) (pa_cons (pv 2) pa_nil))))
      (fun _ _ _ _ _ => pg_name (i := 3) scByWalls.nd rfl (Or.inl rfl))
      (fun _ _ _ _ _ => pts_one (pt_cmp (pc_din (hu_of hr) (pv 3) (pv 1)))) (fun _ _ _ _ _ => pv 3)))), ?_⟩
    refine ⟨⟨_, rfl⟩, _, rfl, tx l, rfl, fun D hD => ?_⟩
    have nDd : d ≠ D := ne_of_none hd hD
    refine out_it walk_str (fun i H' => Same H H' ∧ H' D = some (.lst (((byW (l.take i) kvs).map sg).map V.str))) ⟨same_upd hD, upd_same⟩ (fun _ _ _ _ => trivial) ?_ ?_
    · rintro i x H1 H2 hi ⟨sm, eD⟩ ⟨rfl, c, hc, rfl⟩
      have hcl : l[i]? = some c := by
        rw [← Array.getElem?_toList, tx_list] at hc
        exact hc
      have hca : c < 128 := g.asc c (List.mem_of_getElem? hcl)
      refine ⟨rfl, yes_i ⟨_, rfl, c, rfl, hca, _, rfl, by show 2 ≤ sizeLine; decide, fun T hT => ⟨T, rfl, ⟨_, SqT.of upd_same⟩, ?_⟩⟩⟩
      have nDT : D ≠ T := ne_of_none eD hT
      refine in_it (walk_tup (K := K) (a := T) (xs := [swp c, c].map fun e => V.str (sg e))) (fun j H' => Same H H' ∧ SqT K H' T ([swp c, c].map fun e => V.str (sg e)) ∧ H' D = some (.lst (((byW (l.take i) kvs ++ ([swp c, c].take j).filter (inK kvs)).map sg).map V.str)))
        ⟨sm_upd sm hT, SqT.of upd_same, by rw [upd_ne nDT, eD]; simp⟩ (fun j H' _ h => h.2.1) ?_ ?_
      · rintro j x H3 H4 hj ⟨sm2, hT2, eD2⟩ ⟨rfl, hx⟩
        rw [List.getElem?_map] at hx
        obtain ⟨e, he, rfl⟩ := Option.map_eq_some_iff.mp hx
        have hd4 : H4 d = some (.dK kvs) := sm2 _ _ hd
        have hlen : (byW (l.take i) kvs ++ ([swp c, c].take j).filter (inK kvs)).length ≤ 2 * 12 + 2 := by
          rw [List.length_append]
          have h1 := byW_len (l.take i) kvs
          have h2 : (([swp c, c].take j).filter (inK kvs)).length ≤ 2 := Nat.le_trans (List.length_filter_le _ _) (by rw [List.length_take]; exact Nat.min_le_right _ _)
          have h3 : (l.take i).length ≤ 12 := Nat.le_trans (by rw [List.length_take]; exact Nat.min_le_right _ _) g.hi
          omega
        refine ⟨rfl, _, rfl, _, rfl, d, _, rfl, DGet.k (k := Sum.inr (sg e)) hd4, _, rfl, ite2 (fun ht => ⟨_, rfl, _, eD2, ?_, sm_over sm2 hD, ?_, ?_⟩) (fun ht => ⟨sm2, hT2, ?_⟩)⟩
        · rw [List.length_map, List.length_map, sizeLine_eq]
          omega
        · rcases hT2 with (z | ⟨o, z⟩) | z
          · exact .inl (.inl (by rw [upd_ne (Ne.symm nDT)]; exact z))
          · exact .inl (.inr ⟨o, by rw [upd_ne (Ne.symm nDT)]; exact z⟩)
          · exact .inr z
        · have e1 : inK kvs e = true := ht
          rw [upd_same, List.take_add_one, he, List.filter_append]
          simp [e1, sg_tx]
        · have e1 : inK kvs e = false := by
            unfold inK
            simpa using ht
          rw [eD2, List.take_add_one, he, List.filter_append]
          simp [e1]
      · rintro H3 ⟨sm2, _, eD2⟩
        refine ⟨sm2, ?_⟩
        rw [eD2, byW_snoc l i c kvs hcl]
        rfl
    · rintro H3 ⟨sm2, eD2⟩
      have e1 : (l.take (tx l).cps.size) = l := by
        rw [show (tx l).cps.size = l.length from tx_len l]
        exact List.take_length
      rw [e1] at eD2
      refine ⟨_, _, (byW l kvs).map sg, rfl, rfl, .inl (SqL.of eD2), ?_, ?_⟩
      · have h1 := byW_len l kvs
        have h2 := g.hi
        have h3 : ∀ xs : List Nat, ((xs.map sg).map (·.length)).sum = xs.length := fun xs => by
          induction xs with
          | nil => rfl
          | cons x r ih =>
            rw [List.map_cons, List.map_cons, List.sum_cons, ih, List.length_cons]
            show 1 + r.length = _
            omega
        rw [h3, show (Str.ofString "").length = 0 by decide +kernel]
        omega
      · rw [join_sg]
        exact q _ sm2
end
end NC
namespace NC
open PySem PySem.Spec PyProof.Rows L2
abbrev sHEinit : Stmt := inClass (topS 2) 0
abbrev sBBinit : Stmt := inClass (topS 4) 0
abbrev sFXinit : Stmt := inClass (topS 6) 0
abbrev sALinit : Stmt := inClass (topS 7) 0
theorem scHE : FnScope ["self", "word"] ["self", "word"] (defScope sHEinit) := ⟨rfl, rfl, rfl, by decide +kernel, rfl, by decide +kernel, by decide +kernel⟩
theorem scBB : FnScope ["self", "at"] ["self", "at"] (defScope sBBinit) := ⟨rfl, rfl, rfl, by decide +kernel, rfl, by decide +kernel, by decide +kernel⟩
theorem scFX : FnScope ["self", "side"] ["self", "side"] (defScope sFXinit) := ⟨rfl, rfl, rfl, by decide +kernel, rfl, by decide +kernel, by decide +kernel⟩
theorem scAL : FnScope ["self", "one", "other"] ["self", "one", "other"] (defScope sALinit) := ⟨rfl, rfl, rfl, by decide +kernel, rfl, by decide +kernel, by decide +kernel⟩
/-- HallError, at C, and its __init__ -/
structure HE (K : PySem.W.Frag) (mg : Str → Option Value) (C f : Addr) (fd : FuncData) : Prop where
  gC : mg "HallError" = some (.ref C)
  rd : ∃ mc, ClX.CRead K C mc ∧ PySem.W.findCls K (.ref C) mc "__init__" = some (.val (.ref f))
  F : Fun K "__init__" "HallError.__init__" sHEinit f fd
  b : Binds K fd ["self", "word"] []
  mV : mg "ValueError" = none
  vV : PySem.W.findCls K (.type "ValueError") (.type "type") "__init__" = some (.val (.builtin "ValueError.__init__"))
section
variable {P : Program} {w : World} {K : PySem.W.Frag} {mg : Str → Option Value} {base : Heap}
theorem ok_chkWalls {f fW : Addr} {fd fdW : FuncData} {k : Nat} {tw : Tok} (B : BM mg) (mW : mg "WIDEST" = some (.int 12 tw)) (F : Fun K "check_walls" "check_walls" sChkWalls f fd) (W : DF K mg "is_walls" sIsWalls ["walls"] fW fdW) :
    FnOk P w K mg base CX0 (k + 2) f fd ["walls"] (fun vs H Q _ => ∃ l, vs = [.str (tx l)] ∧ GoodW l ∧ ∀ H', Same H H' → Q .non H') := by
  have GW : FnOk P w K mg base CX0 (k + 1) fW fdW ["walls"] spIsWalls := ok_isWalls B mW W.F
  refine F.ok scChkWalls (fun vs H Q E h => ?_) (fun cdv A outer s H vs Q E hr h => ?_)
  · obtain ⟨l, rfl, _⟩ := h
    rfl
  · obtain ⟨l, rfl, g, q⟩ := h
    refine ⟨_, pss_one (ps_if (pt_not (pt_val (pe_call GW hr rfl W.g W.F.kp W.b .nil pass0 (pa_cons (pv 0) pa_nil)))) (pss_one ps_never) pss_nil), ?_⟩
    exact ⟨_, rfl, l, rfl, g, fun H1 sm => ⟨true, rfl, iteF (q H1 sm)⟩⟩
theorem ok_chkSide {f fS : Addr} {fd fdS : FuncData} {k : Nat} (B : BM mg) (F : Fun K "check_side" "check_side" sChkSide f fd) (S : DF K mg "sides_of" sSides ["walls"] fS fdS) :
    FnOk P w K mg base CX0 (k + 2) f fd ["walls", "side"] (fun vs H Q _ => ∃ l c, vs = [.str (tx l), .str (sg c)] ∧ GoodW l ∧ c ∈ sds l ∧ ∀ H', Same H H' → Q .non H') := by
  have GS : FnOk P w K mg base CX0 (k + 1) fS fdS ["walls"] spSides := ok_sides B S.F
  refine F.ok scChkSide (fun vs H Q E h => ?_) (fun cdv A outer s H vs Q E hr h => ?_)
  · obtain ⟨l, c, rfl, _⟩ := h
    rfl
  · obtain ⟨l, c, rfl, g, hc, q⟩ := h
    refine ⟨_, pss_one (ps_if (pt_cmpR op_notIn_seq (pv 1) (pe_call GS hr rfl S.g S.F.kp S.b .nil pass0 (pa_cons (pv 0) pa_nil)) (by rfl)) (pss_one ps_never) pss_nil), ?_⟩
    refine ⟨_, rfl, _, rfl, l, rfl, g.asc, by have := g.hi; omega, fun p hp => ⟨p, _, rfl, .inl (SqL.of upd_same), rfl, flat_str _, _, rfl, ?_⟩⟩
    have e : (!inV (.str (sg c)) (((sds l).map sg).map V.str)) = false := by
      rw [inV_str, decide_eq_true (mem_sg.mpr hc)]
      rfl
    show if (!inV (.str (sg c)) (((sds l).map sg).map V.str)) = true then _ else _
    rw [e]
    exact iteF (q _ (same_upd hp))
/-! ### the refusals' own __init__ -/
def spHE (K : PySem.W.Frag) : Sp := fun vs H Q _ => ∃ a C v, vs = [.ref a, v] ∧ OexC K C ∧ PySem.W.findIn K (.ref C) "word" = some none ∧ H a = some (exo a C none) ∧
  ∀ dx, H dx = none → dx ≠ a → Q .non (upd (upd H dx (exd dx [("word", v)])) a (exo a C (some dx)))
theorem ok_HE {C f : Addr} {fd : FuncData} {k : Nat} (T : HE K mg C f fd) : FnOk P w K mg base CX0 (k + 1) f fd ["self", "word"] (spHE K) := by
  refine T.F.ok scHE (fun vs H Q E h => ?_) (fun cdv A outer s H vs Q E hr h => ?_)
  · obtain ⟨a, C, v, rfl, _⟩ := h
    rfl
  · obtain ⟨a, C, v, rfl, hO, hw, ha, q⟩ := h
    refine ⟨_, pss_cons (ps_expr (pe_veinit (by rfl) T.mV T.vV (pa_cons (pv 0) (pa_cons (pv 1) pa_nil)))) (pss_one (ps_ost (pv 0) (pv 1))), ?_⟩
    refine ⟨_, rfl, _, rfl, a, C, [v], rfl, by show 1 ≤ 1000; decide, hO, ha, ?_⟩
    exact ⟨_, rfl, _, rfl, a, C, rfl, hO, hw, .inl ⟨ha, fun dx n ne => q dx n ne⟩⟩
/-- a refusal of one field beside its word -/
def sp1 (K : PySem.W.Frag) (fld : Str) (word : Str) : Sp := fun vs H Q _ => ∃ a C v, vs = [.ref a, v] ∧ OexC K C ∧ PySem.W.findIn K (.ref C) "word" = some none ∧ PySem.W.findIn K (.ref C) fld = some none ∧ H a = some (exo a C none) ∧
  ∀ dx H', H dx = none → dx ≠ a → (∀ b, b ≠ dx → b ≠ a → H' b = H b) → H' a = some (exo a C (some dx)) → H' dx = some (exd dx [(fld, v), ("word", .str word)]) → Q .non H'
theorem ok_BB {CH fH f : Addr} {fd fdH : FuncData} {k : Nat} (T : HE K mg CH fH fdH) (F : Fun K "__init__" "BadBar.__init__" sBBinit f fd) : FnOk P w K mg base CX0 (k + 2) f fd ["self", "at"] (sp1 K "at" "badbar") := by
  have GH : FnOk P w K mg base CX0 (k + 1) fH fdH ["self", "word"] (spHE K) := ok_HE T
  obtain ⟨mc, rd, fc⟩ := T.rd
  refine F.ok scBB (fun vs H Q E h => ?_) (fun cdv A outer s H vs Q E hr h => ?_)
  · obtain ⟨a, C, v, rfl, _⟩ := h
    rfl
  · obtain ⟨a, C, v, rfl, hO, hw, hf, ha, q⟩ := h
    refine ⟨_, pss_cons (ps_expr (pe_clsfn (by rfl) T.gC rd fc GH hr T.F.kp T.b .nil pass0 (pa_cons (pv 0) (pa_cons pe_str pa_nil)))) (pss_one (ps_ost (pv 0) (pv 1))), ?_⟩
    refine ⟨_, rfl, a, C, _, rfl, hO, hw, ha, fun dx n ne => ?_⟩
    refine ⟨_, rfl, _, rfl, a, C, rfl, hO, hf, .inr ⟨dx, _, upd_same, by rw [upd_ne ne, upd_same], by show 1 ≤ 900; decide, q dx _ n ne (fun b h1 h2 => ?_) ?_ ?_⟩⟩
    · rw [upd_ne h1, upd_ne h2, upd_ne h1]
    · rw [upd_ne (Ne.symm ne), upd_same]
    · rw [upd_same]
theorem ok_FX {CH fH f : Addr} {fd fdH : FuncData} {k : Nat} (T : HE K mg CH fH fdH) (F : Fun K "__init__" "Fixed.__init__" sFXinit f fd) : FnOk P w K mg base CX0 (k + 2) f fd ["self", "side"] (sp1 K "side" "fixed") := by
  have GH : FnOk P w K mg base CX0 (k + 1) fH fdH ["self", "word"] (spHE K) := ok_HE T
  obtain ⟨mc, rd, fc⟩ := T.rd
  refine F.ok scFX (fun vs H Q E h => ?_) (fun cdv A outer s H vs Q E hr h => ?_)
  · obtain ⟨a, C, v, rfl, _⟩ := h
    rfl
  · obtain ⟨a, C, v, rfl, hO, hw, hf, ha, q⟩ := h
    refine ⟨_, pss_cons (ps_expr (pe_clsfn (by rfl) T.gC rd fc GH hr T.F.kp T.b .nil pass0 (pa_cons (pv 0) (pa_cons pe_str pa_nil)))) (pss_one (ps_ost (pv 0) (pv 1))), ?_⟩
    refine ⟨_, rfl, a, C, _, rfl, hO, hw, ha, fun dx n ne => ?_⟩
    refine ⟨_, rfl, _, rfl, a, C, rfl, hO, hf, .inr ⟨dx, _, upd_same, by rw [upd_ne ne, upd_same], by show 1 ≤ 900; decide, q dx _ n ne (fun b h1 h2 => ?_) ?_ ?_⟩⟩
    · rw [upd_ne h1, upd_ne h2, upd_ne h1]
    · rw [upd_ne (Ne.symm ne), upd_same]
    · rw [upd_same]
def sp2 (K : PySem.W.Frag) : Sp := fun vs H Q _ => ∃ a C v u, vs = [.ref a, v, u] ∧ OexC K C ∧ PySem.W.findIn K (.ref C) "word" = some none ∧ PySem.W.findIn K (.ref C) "one" = some none ∧ PySem.W.findIn K (.ref C) "other" = some none ∧ H a = some (exo a C none) ∧
  ∀ dx H', H dx = none → dx ≠ a → (∀ b, b ≠ dx → b ≠ a → H' b = H b) → H' a = some (exo a C (some dx)) → H' dx = some (exd dx [("other", u), ("one", v), ("word", .str "alike")]) → Q .non H'
theorem ok_AL {CH fH f : Addr} {fd fdH : FuncData} {k : Nat} (T : HE K mg CH fH fdH) (F : Fun K "__init__" "Alike.__init__" sALinit f fd) : FnOk P w K mg base CX0 (k + 2) f fd ["self", "one", "other"] (sp2 K) := by
  have GH : FnOk P w K mg base CX0 (k + 1) fH fdH ["self", "word"] (spHE K) := ok_HE T
  obtain ⟨mc, rd, fc⟩ := T.rd
  refine F.ok scAL (fun vs H Q E h => ?_) (fun cdv A outer s H vs Q E hr h => ?_)
  · obtain ⟨a, C, v, u, rfl, _⟩ := h
    rfl
  · obtain ⟨a, C, v, u, rfl, hO, hw, h1, h2, ha, q⟩ := h
    refine ⟨_, pss_cons (ps_expr (pe_clsfn (by rfl) T.gC rd fc GH hr T.F.kp T.b .nil pass0 (pa_cons (pv 0) (pa_cons pe_str pa_nil)))) (pss_cons (ps_ost (pv 0) (pv 1)) (pss_one (ps_ost (pv 0) (pv 2)))), ?_⟩
    refine ⟨_, rfl, a, C, _, rfl, hO, hw, ha, fun dx n ne => ?_⟩
    refine ⟨_, rfl, _, rfl, a, C, rfl, hO, h1, .inr ⟨dx, _, upd_same, by rw [upd_ne ne, upd_same], by show 1 ≤ 900; decide, ?_⟩⟩
    refine ⟨_, rfl, _, rfl, a, C, rfl, hO, h2, .inr ⟨dx, _, by rw [upd_ne (Ne.symm ne), upd_same], upd_same, by show 2 ≤ 900; decide, q dx _ n ne (fun b g1 g2 => ?_) ?_ ?_⟩⟩
    · rw [upd_ne g1, upd_ne g1, upd_ne g2, upd_ne g1]
    · rw [upd_ne (Ne.symm ne), upd_ne (Ne.symm ne), upd_same]
    · rw [upd_same]
end
end NC
namespace NC
open PySem PySem.Spec PyProof.Rows L2
def badAt (l : List Nat) (bs : List (List Nat)) (i : Nat) : Bool := !isBar l (bs.getD i []) || decide (bs.getD i [] ∈ bs.take i)
def firstBad (l : List Nat) (bs : List (List Nat)) : Option Nat := (List.range bs.length).find? (badAt l bs)
theorem first_at {l : List Nat} {bs : List (List Nat)} {i : Nat} {b : List Nat} (h : bs[i]? = some b) (ok : ∀ j, j < i → badAt l bs j = false) (hb : badAt l bs i = true) : firstBad l bs = some i := by
  have hi : i < bs.length := (List.getElem?_eq_some_iff.mp h).1
  unfold firstBad
  refine List.find?_eq_some_iff_getElem.mpr ⟨hb, i, by simpa using hi, by simp, fun j hj => ?_⟩
  rw [List.getElem_range, ok j hj]
  rfl
theorem walk_enumT {K : PySem.W.Frag} {a : Addr} {xs : List V} : Walk (ItET K a) xs.length (fun H => SqT K H a xs) (YPair (fun i => some (.int (i : Nat))) (fun i => xs[i]?)) where
  goes := fun i _ lt sq => ⟨xs, xs[i], sq, List.getElem?_eq_getElem lt⟩
  stops := fun _ sq => ⟨xs, sq, Nat.le_refl _⟩
  yields := fun i _ _ _ _ sq ⟨T, x, e1, e2, e3, e4⟩ => ⟨T, .int (i : Nat), x, e1, e2, e3, rfl, e4 xs sq⟩
theorem cut_to (bs : List (List Nat)) (i : Nat) (h : i ≤ bs.length) : cutV ((bs.map tx).map V.str) none (some ((i : Nat) : Int)) = ((bs.take i).map tx).map V.str := by
  unfold cutV
  rw [HT.sIx_none, HT.sIx_nat, List.drop_zero, Nat.sub_zero, List.length_map, List.length_map, Nat.min_eq_left h, List.map_take, List.map_take]
/-- an own refusal's class, at C, its __init__ at fI -/
structure XC (K : PySem.W.Frag) (mg : Str → Option Value) (x q : Str) (st : Stmt) (fld : Str) (C fI : Addr) (fd : FuncData) : Prop where
  gC : mg x = some (.ref C)
  O : OexC K C
  hw : PySem.W.findIn K (.ref C) "word" = some none
  hf : PySem.W.findIn K (.ref C) fld = some none
  iC : PySem.W.findIn K (.ref C) "__init__" = some (some (.ref fI))
  tI : PySem.W.typeIn K (.ref fI) = some (.type "function")
  F : Fun K "__init__" q st fI fd
  b : Binds K fd ["self", fld] []
theorem mk1 {K : PySem.W.Frag} {C : Addr} {fld word : Str} (hO : OexC K C) (hw : PySem.W.findIn K (.ref C) "word" = some none) (hf : PySem.W.findIn K (.ref C) fld = some none) {H1 : Hp} {v : V} {Q : XK}
    (q : ∀ d H', Same H1 H' → H1 d = none → H' d = some (.xd [(fld, v), ("word", .str word)]) → Q (.ref C) (some d) H') :
    ∀ a, H1 a = none → sp1 K fld word (.ref a :: ([v] ++ [])) (upd H1 a (exo a C none))
      (fun u H2 => u = .non ∧ ∃ (d : Addr) (fs : List (Str × V)), H2 a = some (exo a C (some d)) ∧ H2 d = some (exd d fs) ∧ H1 d = none ∧ Q (.ref C) (some d) (upd (del H2 a) d (.xd fs))) (fun _ _ _ => False) := by
  intro a na
  refine ⟨a, C, v, rfl, hO, hw, hf, upd_same, fun dx H' n1 n2 k e1 e2 => ⟨rfl, dx, _, e1, e2, ?_, q dx _ (fun b o hb => ?_) ?_ upd_same⟩⟩
  · rw [upd_ne n2] at n1
    exact n1
  · have hd : H1 dx = none := by
      rw [upd_ne n2] at n1
      exact n1
    have b1 : b ≠ dx := ne_of_none hb hd
    have b2 : b ≠ a := ne_of_none hb na
    rw [upd_ne b1, del_ne b2, k b b1 b2, upd_ne b2]
    exact hb
  · rw [upd_ne n2] at n1
    exact n1
theorem scChkBars : FnScope ["walls", "bars", "at", "bar"] ["walls", "bars"] (defScope sChkBars) := ⟨rfl, rfl, rfl, by decide +kernel, rfl, by decide +kernel, by decide +kernel⟩
section
variable {P : Program} {w : World} {K : PySem.W.Frag} {mg : Str → Option Value} {base : Heap}
def BarsOk (bs : List (List Nat)) : Prop := ∀ b ∈ bs, (∀ c ∈ b, c < 128) ∧ b.length ≤ 100
def spChkBars (K : PySem.W.Frag) (CB : Addr) : Sp := fun vs H Q E => ∃ l a bs, vs = [.str (tx l), .ref a] ∧ GoodW l ∧ BarsOk bs ∧ bs.length ≤ 100 ∧ (SqL K H a ((bs.map tx).map V.str) ∨ SqT K H a ((bs.map tx).map V.str)) ∧
  match firstBad l bs with
  | none => ∀ H', Same H H' → Q .non H'
  | some i => ∀ H' d, Same H H' → H d = none → H' d = some (.xd [("at", .int (i : Nat)), ("word", .str "badbar")]) → E (.ref CB) (some d) H'
set_option maxHeartbeats 1000000 in
theorem ok_chkBars {f fI CB fB CH fH fS : Addr} {fd fdI fdB fdH fdS : FuncData} {k : Nat} (B : BM mg) (F : Fun K "check_bars" "check_bars" sChkBars f fd) (I : DF K mg "is_bar" sIsBar ["walls", "bar"] fI fdI) (S : DF K mg "sides_of" sSides ["walls"] fS fdS)
    (T : HE K mg CH fH fdH) (X : XC K mg "BadBar" "BadBar.__init__" sBBinit "at" CB fB fdB) : FnOk P w K mg base (L2.CX P w) (k + 4) f fd ["walls", "bars"] (spChkBars K CB) := by
  have GI : FnOk P w K mg base CX0 (k + 2) fI fdI ["walls", "bar"] spIsBar := ok_isBar B I.F S
  have GB : FnOk P w K mg base CX0 (k + 2) fB fdB ["self", "at"] (sp1 K "at" "badbar") := ok_BB T X.F
  refine F.okX scChkBars (fun vs H Q E h => ?_) (fun cdv A outer s H vs Q E hr h => ?_)
  · obtain ⟨l, a, bs, rfl, _⟩ := h
    rfl
  · obtain ⟨l, a, bs, rfl, g, hbs, hbl, hS, q⟩ := h
    refine ⟨_, pss_one (ps_for (passes_of rfl) rfl (pi_enumT (by rfl) B.enumerate (pa_cons (pv 1) pa_nil))
        (pg_tup rfl (pgs_cons (pg_name (i := 2) scChkBars.nd rfl (.inl rfl)) (pgs_cons (pg_name (i := 3) scChkBars.nd rfl (.inl rfl)) pgs_nil)))
      (pss_one (ps_if (PW.pt (pw_or (pt_not (pt_val (pe_call GI (hr.mono (by omega)) rfl I.g I.F.kp I.b .nil pass0 (pa_cons (pv 0) (pa_cons (pv 3) pa_nil)))))
          (pw_or1 (pt_cmpR op_in_seq (pv 3) (pe_slice (SlR.or sl_list sl_tup) (pv 1) po_none (po_some (pv 2))) (by rfl)))))
        (pss_one (ps_raise rfl (takes_of rfl rfl rfl rfl) (pmk_oex X.O X.iC X.tI GB hr X.b .nil pass0 (by rfl) X.gC (pa_cons (pv 2) pa_nil)))) pss_nil))), ?_⟩
    refine ⟨_, rfl, a, rfl, ?_⟩
    have len : ((bs.map tx).map V.str).length = bs.length := by rw [List.length_map, List.length_map]
    rcases hS with hS | hS
    · have wk := walk_enum (K := K) (a := a) (xs := (bs.map tx).map V.str)
      rw [len] at wk
      refine .inl ⟨⟨_, hS⟩, for_it wk (fun i σ H' => ∃ y2 y3, σ = [some (.str (tx l)), some (.ref a), y2, y3] ∧ (∀ j, j < i → badAt l bs j = false) ∧ Same H H')
        ⟨_, _, rfl, fun _ h => absurd h (Nat.not_lt_zero _), L2.Same.refl _⟩ (fun i σ H' _ p => by obtain ⟨_, _, _, _, sm⟩ := p; exact sm_l sm hS) ?_ ?_⟩
      · rintro i x σ H1 H2 hi ⟨y2, y3, rfl, hok, sm⟩ ⟨T, x1, x2, rfl, nT, rfl, e1, e2⟩
        obtain rfl : V.int (i : Nat) = x1 := Option.some.inj e1
        have e2 : ((bs.map tx).map V.str)[i]? = some x2 := e2
        rw [List.getElem?_map, List.getElem?_map] at e2
        obtain ⟨z, hz, e3⟩ := Option.map_eq_some_iff.mp e2
        obtain ⟨b, hbi, rfl⟩ := Option.map_eq_some_iff.mp hz
        subst e3
        have hb : b ∈ bs := List.mem_of_getElem? hbi
        have sT : Same H (upd H1 T (.tup [.int (i : Nat), .str (tx b)])) := sm_upd sm nT
        refine ⟨T, _, rfl, SqT.of upd_same, rfl, _, _, rfl, _, _, rfl, rfl, ?_⟩
        refine ⟨_, rfl, _, rfl, l, b, rfl, g.asc, by have := g.hi; omega, (hbs b hb).1, (hbs b hb).2, fun H3 s3 => ⟨_, rfl, ite2 (fun t1 => ?_) (fun t1 => ?_)⟩⟩
        · -- no bar
          have hn : isBar l b = false := by simpa using t1
          have fb : firstBad l bs = some i := first_at hbi hok (by unfold badAt; rw [List.getD_eq_getElem?_getD, hbi]; simp [hn])
          rw [fb] at q
          refine iteT ⟨_, rfl, by show 1 ≤ 1000; decide, mk1 X.O X.hw X.hf fun d H4 s4 n4 e4 => ?_⟩
          exact q H4 d (sm_trans (sm_trans sT s3) s4) (L2.Same.free (sm_trans sT s3) n4) e4
        · have hy : isBar l b = true := by simpa using t1
          have hS3 := sm_l (sm_trans sT s3) hS
          refine ⟨_, rfl, _, rfl, _, rfl, _, rfl, .inl ⟨a, _, rfl, hS3, fun p np => ?_⟩⟩
          rw [cut_to bs i (Nat.le_of_lt hi)]
          refine ⟨p, _, rfl, .inl (SqL.of upd_same), rfl, flat_str _, _, rfl, ite2 (fun t2 => ?_) (fun t2 => ?_)⟩
          · have hm : b ∈ bs.take i := by
              have t3 : inV (.str (tx b)) (((bs.take i).map tx).map V.str) = true := t2
              rw [inV_str] at t3
              obtain ⟨c, hc, e⟩ := List.mem_map.mp (of_decide_eq_true t3)
              rw [← tx_inj e]
              exact hc
            have fb : firstBad l bs = some i := first_at hbi hok (by unfold badAt; rw [List.getD_eq_getElem?_getD, hbi]; simp [hm])
            rw [fb] at q
            refine ⟨_, rfl, by show 1 ≤ 1000; decide, mk1 X.O X.hw X.hf fun d H4 s4 n4 e4 => ?_⟩
            have s5 := sm_upd (o := .lst (((bs.take i).map tx).map V.str)) (sm_trans sT s3) np
            exact q H4 d (sm_trans s5 s4) (L2.Same.free s5 n4) e4
          · refine ⟨_, _, rfl, fun j hj => ?_, sm_upd (sm_trans sT s3) np⟩
            rcases Nat.lt_or_ge j i with h | h
            · exact hok j h
            · obtain rfl : j = i := by omega
              have hm : b ∉ bs.take j := fun z => by
                have t3 : ¬ inV (.str (tx b)) (((bs.take j).map tx).map V.str) = true := t2
                rw [inV_str] at t3
                exact t3 (decide_eq_true (List.mem_map.mpr ⟨b, z, rfl⟩))
              unfold badAt
              rw [List.getD_eq_getElem?_getD, hbi]
              simp [hy, hm]
      · rintro σ H1 ⟨y2, y3, rfl, hok, sm⟩
        have fb : firstBad l bs = none := List.find?_eq_none.mpr fun j hj => by
          rw [hok j (by simpa using hj)]
          decide
        rw [fb] at q
        exact q H1 sm
    · have wk := walk_enumT (K := K) (a := a) (xs := (bs.map tx).map V.str)
      rw [len] at wk
      refine .inr ⟨⟨_, hS⟩, for_it wk (fun i σ H' => ∃ y2 y3, σ = [some (.str (tx l)), some (.ref a), y2, y3] ∧ (∀ j, j < i → badAt l bs j = false) ∧ Same H H')
        ⟨_, _, rfl, fun _ h => absurd h (Nat.not_lt_zero _), L2.Same.refl _⟩ (fun i σ H' _ p => by obtain ⟨_, _, _, _, sm⟩ := p; exact sm_t sm hS) ?_ ?_⟩
      · rintro i x σ H1 H2 hi ⟨y2, y3, rfl, hok, sm⟩ ⟨T, x1, x2, rfl, nT, rfl, e1, e2⟩
        obtain rfl : V.int (i : Nat) = x1 := Option.some.inj e1
        have e2 : ((bs.map tx).map V.str)[i]? = some x2 := e2
        rw [List.getElem?_map, List.getElem?_map] at e2
        obtain ⟨z, hz, e3⟩ := Option.map_eq_some_iff.mp e2
        obtain ⟨b, hbi, rfl⟩ := Option.map_eq_some_iff.mp hz
        subst e3
        have hb : b ∈ bs := List.mem_of_getElem? hbi
        have sT : Same H (upd H1 T (.tup [.int (i : Nat), .str (tx b)])) := sm_upd sm nT
        refine ⟨T, _, rfl, SqT.of upd_same, rfl, _, _, rfl, _, _, rfl, rfl, ?_⟩
        refine ⟨_, rfl, _, rfl, l, b, rfl, g.asc, by have := g.hi; omega, (hbs b hb).1, (hbs b hb).2, fun H3 s3 => ⟨_, rfl, ite2 (fun t1 => ?_) (fun t1 => ?_)⟩⟩
        · -- no bar
          have hn : isBar l b = false := by simpa using t1
          have fb : firstBad l bs = some i := first_at hbi hok (by unfold badAt; rw [List.getD_eq_getElem?_getD, hbi]; simp [hn])
          rw [fb] at q
          refine iteT ⟨_, rfl, by show 1 ≤ 1000; decide, mk1 X.O X.hw X.hf fun d H4 s4 n4 e4 => ?_⟩
          exact q H4 d (sm_trans (sm_trans sT s3) s4) (L2.Same.free (sm_trans sT s3) n4) e4
        · have hy : isBar l b = true := by simpa using t1
          have hS3 := sm_t (sm_trans sT s3) hS
          refine ⟨_, rfl, _, rfl, _, rfl, _, rfl, .inr ⟨a, _, rfl, hS3, fun z => absurd z.2 (by rw [len, HT.sIx_nat]; omega), fun p np => ?_⟩⟩
          rw [cut_to bs i (Nat.le_of_lt hi)]
          refine ⟨p, _, rfl, .inr (SqT.of upd_same), rfl, flat_str _, _, rfl, ite2 (fun t2 => ?_) (fun t2 => ?_)⟩
          · have hm : b ∈ bs.take i := by
              have t3 : inV (.str (tx b)) (((bs.take i).map tx).map V.str) = true := t2
              rw [inV_str] at t3
              obtain ⟨c, hc, e⟩ := List.mem_map.mp (of_decide_eq_true t3)
              rw [← tx_inj e]
              exact hc
            have fb : firstBad l bs = some i := first_at hbi hok (by unfold badAt; rw [List.getD_eq_getElem?_getD, hbi]; simp [hm])
            rw [fb] at q
            refine ⟨_, rfl, by show 1 ≤ 1000; decide, mk1 X.O X.hw X.hf fun d H4 s4 n4 e4 => ?_⟩
            have s5 := sm_upd (o := .tup (((bs.take i).map tx).map V.str)) (sm_trans sT s3) np
            exact q H4 d (sm_trans s5 s4) (L2.Same.free s5 n4) e4
          · refine ⟨_, _, rfl, fun j hj => ?_, sm_upd (sm_trans sT s3) np⟩
            rcases Nat.lt_or_ge j i with h | h
            · exact hok j h
            · obtain rfl : j = i := by omega
              have hm : b ∉ bs.take j := fun z => by
                have t3 : ¬ inV (.str (tx b)) (((bs.take j).map tx).map V.str) = true := t2
                rw [inV_str] at t3
                exact t3 (decide_eq_true (List.mem_map.mpr ⟨b, z, rfl⟩))
              unfold badAt
              rw [List.getD_eq_getElem?_getD, hbi]
              simp [hy, hm]
      · rintro σ H1 ⟨y2, y3, rfl, hok, sm⟩
        have fb : firstBad l bs = none := List.find?_eq_none.mpr fun j hj => by
          rw [hok j (by simpa using hj)]
          decide
        rw [fb] at q
        exact q H1 sm
end
end NC
namespace NC
open PySem PySem.Spec PyProof.Rows L2
section
variable {X : Cx}
/-- y = {k: v for ..}, y a plain local: what the comprehension hands on is stored in y's slot -/
theorem ps_setDc {i : Nat} {y : Str} {py : Pos} {kx vx tg iter : Expr} {ifs : List Expr} {scope : Scope} {own : List (Str × Nat)} {pos spos : Pos} {wi : TI} {g : TG} {tt : TT} {tk tv : TE} (calm : X.calm = true) (nd : X.N.Nodup) (at_ : X.N[i]? = some y)
    (loc : X.env.scope.names.lookup y = some .local) (sw : swapsWith (.DictComp kx vx [⟨tg, iter, ifs, 0⟩] scope pos) (some (.Name y py)) spos.line X.env = pure true) (it : PI X tg iter wi) (blk : BlkOk X.N X.env.scope scope own)
    (pg : ∀ (s : Shared) (H : Hp) (C : Addr) (cl : List (Str × Addr)) (fp : List Addr), PG (X.blk s H scope (compEnvC scope cl C X.env) fp) tg g)
    (pt : ∀ (s : Shared) (H : Hp) (C : Addr) (cl : List (Str × Addr)) (fp : List Addr), PTs (X.blk s H scope (compEnvC scope cl C X.env) fp) ifs tt)
    (pk : ∀ (s : Shared) (H : Hp) (C : Addr) (cl : List (Str × Addr)) (fp : List Addr), PE (X.blk s H scope (compEnvC scope cl C X.env) fp) kx tk)
    (pw : ∀ (s : Shared) (H : Hp) (C : Addr) (cl : List (Str × Addr)) (fp : List Addr), PE (X.blk s H scope (compEnvC scope cl C X.env) fp) vx tv) (fo : ∀ x, foldedSetIterable iter X.env x = pure x := by intro _; rfl) :
    PS X (.Assign [.Name y py] (.DictComp kx vx [⟨tg, iter, ifs, 0⟩] scope pos) spos) (tAsg (tDc wi g tt tk tv (own.map (·.2))) (gName i)) := ⟨fun ps t σ H D I w => by
  have made : wpAny (model X.prog X.w) X.A (comprehension (.DictComp kx vx [⟨tg, iter, ifs, 0⟩] scope pos) scope X.env (firstIterPos [⟨tg, iter, ifs, 0⟩] pos) newDict false (eval iter X.env) (some (assign (.Name y py) X.env))) (fun _ v => SP X ps D .next v) X.xe t := by
    refine dc_core (Qf := fun _ v => SP X ps D .next v) calm nd I it blk pg pt pk pw fo (show tDc wi g tt tk tv (own.map (·.2)) σ H (fun x G => gName i x σ G D.nx) from w) fun L C v m G J q cells fr => ?_
    show wpAny (model X.prog X.w) X.A (assign (.Name y py) X.env (.ref L)) _ X.xe v
    refine wpAny_assign_Name (store_ok2 (v := V.ref L) J nd at_ (.inl loc) rfl (fun v2 J2 st => ?_) (.inr loc))
    obtain ⟨b, same, eb⟩ := st
    have apart : C ≠ b := eb.elim (fun z => z ▸ fr.2.1) (fun z z2 => fr.2.2.2.2.1 y b z z2.symm)
    exact ⟨m, cells.sameBut same apart, fun _ keep => ⟨_, G, J2.turned (t' := v2.toks) (fun c o hc e => (keep.2 c hc).trans e) fr.1 fr.2.1 fr.2.2.2.1 fr.2.2.2.2.1 fr.2.2.2.2.2, q⟩⟩
  rw [exec_Assign_Name_used _ _ _ _ sw]
  exact wpAny_bind (wpAny_standAt (wpAny_bind (wpAny_bind (thn made fun _ v r => wpAny_pure (wpAny_pure r)))))⟩
/-- such an assignment swaps where the name is a local of a function and none of the comprehension's own -/
theorem sw_dict {kx vx : Expr} {gs : List Comprehension} {scope : Scope} {pos py : Pos} {y : Str} {l : Nat} {env : Env} (fn : env.scope.kind = .function) (loc : env.scope.names.lookup y = some .local) (row : (py.line == pos.line) = true)
    (out : (scope.names.any fun (n, k) => n == y && (k == .local || k == .cell)) = false) : swapsWith (.DictComp kx vx gs scope pos) (some (.Name y py)) l env = pure true := by
  have k1 : env.blockKind = .function := by
    unfold Env.blockKind
    rw [fn]
    rfl
  unfold swapsWith
  simp only [k1, show env.kindOf y = some .local from loc, out, Expr.pos, row]
  rfl
/-- for x in a name that holds a list or a tuple -/
def iSeq (K : PySem.W.Frag) (tl : TE) : TI := fun σ H R => tl σ H fun x H1 => ∃ a, x = .ref a ∧ ((∃ xs, SqL K H1 a xs) ∧ R (Itl K a) H1 ∨ (∃ xs, SqT K H1 a xs) ∧ R (Itt K a) H1)
theorem pi_seq {tg l : Expr} {i : Nat} (at_ : PE X l (tVar i)) : PI X tg l (iSeq X.K (tVar i)) := ⟨fun ps s σ H R I ⟨v, sv, a, ev, k⟩ => k.elim
  (fun k => (pi_list (tg := tg) at_).run ps s σ H R I ⟨v, sv, a, ev, k⟩) (fun k => (pi_tup (tg := tg) at_).run ps s σ H R I ⟨v, sv, a, ev, k⟩)⟩
end
end NC
namespace NC
open PySem PySem.Spec PyProof.Rows L2
abbrev sStraight : Stmt := topS 24
theorem scStraight : FnScope ["walls", "bars", "straight", "bar", "side"] ["walls", "bars"] (defScope sStraight) := ⟨rfl, rfl, rfl, by decide +kernel, rfl, by decide +kernel, by decide +kernel⟩
def con (s : Nat) (b : List Nat) : List Nat := match b with
  | [x, y] => (if x = s then [swp y] else []) ++ (if y = s then [swp x] else [])
  | _ => []
def adjOf (bs : List (List Nat)) (s : Nat) : List Nat := bs.flatMap (con s)
theorem con_len (s : Nat) (b : List Nat) : (con s b).length ≤ 2 := by
  unfold con
  split
  · rw [List.length_append]
    split <;> split <;> simp
  · simp
theorem adj_len (bs : List (List Nat)) (s : Nat) : (adjOf bs s).length ≤ 2 * bs.length := by
  induction bs with
  | nil => simp [adjOf]
  | cons b r ih =>
    have e : adjOf (b :: r) s = con s b ++ adjOf r s := by simp [adjOf]
    rw [e, List.length_append, List.length_cons]
    have := con_len s b
    omega
theorem bar_two {l b : List Nat} (h : isBar l b = true) : ∃ x y, b = [x, y] ∧ x ∈ sds l ∧ y ∈ sds l ∧ lwc x < lwc y := by
  match b, h with
  | [x, y], h =>
    have h' : (decide (x ∈ sds l) && (decide (y ∈ sds l) && decide (lwc x < lwc y))) = true := h
    rw [Bool.and_eq_true, Bool.and_eq_true] at h'
    exact ⟨x, y, rfl, of_decide_eq_true h'.1, of_decide_eq_true h'.2.1, of_decide_eq_true h'.2.2⟩
theorem adj_mem {l : List Nat} (g : GoodW l) {bs : List (List Nat)} (hb : ∀ b ∈ bs, isBar l b = true) {s c : Nat} (h : c ∈ adjOf bs s) : c ∈ sds l := by
  obtain ⟨b, hb1, hc⟩ := List.mem_flatMap.mp h
  obtain ⟨x, y, rfl, hx, hy, _⟩ := bar_two (hb b hb1)
  have hc : c ∈ (if x = s then [swp y] else []) ++ (if y = s then [swp x] else []) := hc
  rcases List.mem_append.mp hc with q | q
  · split at q
    · rw [List.mem_singleton.mp q]; exact sds_swp g hy
    · cases q
  · split at q
    · rw [List.mem_singleton.mp q]; exact sds_swp g hx
    · cases q
theorem adj_snoc (bs : List (List Nat)) (i s : Nat) (b : List Nat) (h : bs[i]? = some b) : adjOf (bs.take (i + 1)) s = adjOf (bs.take i) s ++ con s b := by
  rw [List.take_add_one, h]
  unfold adjOf
  rw [List.flatMap_append]
  simp
def stK (L : List Nat) (ad : Nat → Addr) : List (Key × V) := L.map fun s => (Sum.inr (sg s), V.ref (ad s))
theorem stK_val {L : List Nat} {ad : Nat → Addr} {s : Nat} (h : s ∈ L) : valV (stK L ad) (Sum.inr (sg s)) = some (.ref (ad s)) := by
  induction L with
  | nil => cases h
  | cons t r ih =>
    by_cases e : t = s
    · subst e
      exact valV_pos (p := (Sum.inr (sg t), V.ref (ad t))) rfl
    · have h2 : s ∈ r := by
        rcases List.mem_cons.mp h with z | z
        · exact absurd z.symm e
        · exact z
      exact (valV_neg (p := (Sum.inr (sg t), V.ref (ad t))) (fun z => e (sg_inj (Sum.inr.inj z)))).trans (ih h2)
theorem stK_no {L : List Nat} {ad : Nat → Addr} {s : Nat} (h : s ∉ L) : valV (stK L ad) (Sum.inr (sg s)) = none := by
  induction L with
  | nil => rfl
  | cons t r ih =>
    have e : ¬ t = s := fun z => h (by rw [z]; exact List.mem_cons_self ..)
    exact (valV_neg (p := (Sum.inr (sg t), V.ref (ad t))) (fun z => e (sg_inj (Sum.inr.inj z)))).trans (ih fun z => h (List.mem_cons_of_mem _ z))
theorem stK_congr {L : List Nat} {ad ad' : Nat → Addr} (h : ∀ s ∈ L, ad s = ad' s) : stK L ad = stK L ad' := List.map_congr_left fun s hs => by rw [h s hs]
/-- the dict of lists of what is forced straight -/
structure SD8 (H : Hp) (L : List Nat) (d : Addr) (ad : Nat → Addr) (adj : Nat → List Nat) : Prop where
  dk : H d = some (.dK (stK L ad))
  at_ : ∀ s ∈ L, H (ad s) = some (.lst (((adj s).map sg).map V.str))
  inj : ∀ s ∈ L, ∀ t ∈ L, ad s = ad t → s = t
theorem SD8.nd {H : Hp} {L : List Nat} {d : Addr} {ad : Nat → Addr} {adj : Nat → List Nat} (S : SD8 H L d ad adj) {s : Nat} (h : s ∈ L) : ad s ≠ d := ne_of (S.at_ s h) S.dk fun z => by cases z
theorem SD8.get {H : Hp} {L : List Nat} {d : Addr} {ad : Nat → Addr} {adj : Nat → List Nat} (S : SD8 H L d ad adj) {s : Nat} (h : s ∈ L) : DGet H d (.str (sg s)) (some (.ref (ad s))) := by
  rw [← stK_val (ad := ad) h]
  exact DGet.k (k := Sum.inr (sg s)) S.dk
theorem SD8.app {H : Hp} {L : List Nat} {d : Addr} {ad : Nat → Addr} {adj : Nat → List Nat} (S : SD8 H L d ad adj) {s c : Nat} (h : s ∈ L) :
    SD8 (upd H (ad s) (.lst (((adj s).map sg).map V.str ++ [.str (sg c)]))) L d ad (fun t => if t = s then adj t ++ [c] else adj t) := by
  refine ⟨by rw [upd_ne (Ne.symm (S.nd h))]; exact S.dk, fun t ht => ?_, S.inj⟩
  by_cases e : t = s
  · subst e
    rw [upd_same, if_pos rfl, List.map_append, List.map_append]
    rfl
  · rw [upd_ne (fun z => e (S.inj t ht s h z)), if_neg e]
    exact S.at_ t ht
section
variable {P : Program} {w : World} {K : PySem.W.Frag} {mg : Str → Option Value} {base : Heap}
def spStraight (K : PySem.W.Frag) : Sp := fun vs H Q _ => ∃ l a bs, vs = [.str (tx l), .ref a] ∧ GoodW l ∧ (∀ b ∈ bs, isBar l b = true) ∧ bs.length ≤ 100 ∧ (SqL K H a ((bs.map tx).map V.str) ∨ SqT K H a ((bs.map tx).map V.str)) ∧
  ∀ H' d ad, Same H H' → H d = none → SD8 H' (sds l) d ad (adjOf bs) → Q (.ref d) H'
set_option maxHeartbeats 1000000 in
theorem ok_straight {f fS fO : Addr} {fd fdS fdO : FuncData} {k : Nat} (B : BM mg) (F : Fun K "straight_from" "straight_from" sStraight f fd) (S : DF K mg "sides_of" sSides ["walls"] fS fdS) (O : DF K mg "other" sOther ["side"] fO fdO) :
    FnOk P w K mg base CX0 (k + 2) f fd ["walls", "bars"] (spStraight K) := by
  have GS : FnOk P w K mg base CX0 (k + 1) fS fdS ["walls"] spSides := ok_sides B S.F
  have GO : FnOk P w K mg base CX0 (k + 1) fO fdO ["side"] spOther := ok_other O.F
  refine F.ok scStraight (fun vs H Q E h => ?_) (fun cdv A outer s H vs Q E hr h => ?_)
  · obtain ⟨l, a, bs, rfl, _⟩ := h
    rfl
  · obtain ⟨l, a, bs, rfl, g, hbar, hbl, hS, q⟩ := h
    refine ⟨_, pss_cons (ps_setDc (i := 2) (own := [("side", 4)]) (g := gName 4) (tt := tYes) rfl scStraight.nd rfl rfl (sw_dict rfl rfl rfl (by decide +kernel)) (pi_list (pe_call GS hr rfl S.g S.F.kp S.b .nil pass0 (pa_cons (pv 0) pa_nil)))
        (blkOk_by (N := ["walls", "bars", "straight", "bar", "side"]) (sc := defScope sStraight) (by decide +kernel)) (fun _ _ _ _ _ => pg_name (i := 4) scStraight.nd rfl (Or.inl rfl)) (fun _ _ _ _ _ => pts_nil) (fun _ _ _ _ _ => pv 4) (fun _ _ _ _ _ => pe_lst pa_nil))
      (pss_cons (ps_for PassesOwn.never rfl (pi_seq (pv 1)) (pg_name (i := 3) scStraight.nd rfl (Or.inl rfl))
        (pss_cons (ps_expr (pe_bm PySem.F.plainAttrs_list PySem.F.slot_list_append PySem.F.type_list_append mt_append (pe_dget (hu_of hr) (pv 2) (pe_ix ix_str (pv 3) pe_int (fun _ _ => rfl)) (fun _ _ => rfl))
            (pa_cons (pe_call GO hr rfl O.g O.F.kp O.b .nil pass0 (pa_cons (pe_ix ix_str (pv 3) pe_int (fun _ _ => rfl)) pa_nil)) pa_nil)))
          (pss_one (ps_expr (pe_bm PySem.F.plainAttrs_list PySem.F.slot_list_append PySem.F.type_list_append mt_append (pe_dget (hu_of hr) (pv 2) (pe_ix ix_str (pv 3) pe_int (fun _ _ => rfl)) (fun _ _ => rfl))
            (pa_cons (pe_call GO hr rfl O.g O.F.kp O.b .nil pass0 (pa_cons (pe_ix ix_str (pv 3) pe_int (fun _ _ => rfl)) pa_nil)) pa_nil))))))
      (pss_one (ps_ret (pv 2)))), ?_⟩
    refine ⟨_, rfl, l, rfl, g.asc, by have := g.hi; omega, fun p np => ⟨p, rfl, ⟨_, SqL.of upd_same⟩, fun D nD => ?_⟩⟩
    have s1 : Same H (upd H p (.lst (((sds l).map sg).map V.str))) := same_upd np
    have hp1 : (upd H p (.lst (((sds l).map sg).map V.str))) p = some (.lst (((sds l).map sg).map V.str)) := upd_same
    generalize (upd H p (.lst (((sds l).map sg).map V.str))) = H1 at s1 nD hp1 ⊢
    have wk := walk_list (K := K) (a := p) (xs := ((sds l).map sg).map V.str)
    rw [List.length_map, List.length_map] at wk
    refine dc_it wk (fun i H' => ∃ ad, Same H1 H' ∧ SD8 H' ((sds l).take i) D ad (fun _ => []) ∧ ∀ s ∈ (sds l).take i, H1 (ad s) = none)
      ⟨fun _ => p, same_upd nD, ⟨upd_same, fun s hs => by simp at hs, fun s hs => by simp at hs⟩, fun s hs => by simp at hs⟩ (fun i H' _ h => by obtain ⟨ad, sm, _⟩ := h; exact SqL.of (sm _ _ hp1)) ?_ ?_
    · rintro i x H2 H3 hi ⟨ad, sm, S8, fr0⟩ ⟨rfl, hx⟩
      rw [List.getElem?_map, List.getElem?_map] at hx
      obtain ⟨z, hz, rfl⟩ := Option.map_eq_some_iff.mp hx
      obtain ⟨c, hc, rfl⟩ := Option.map_eq_some_iff.mp hz
      have hnc : c ∉ (sds l).take i := fun hm => by
        obtain ⟨j, hj⟩ := List.getElem?_of_mem hm
        have hji : j < i := by
          have := (List.getElem?_eq_some_iff.mp hj).1
          rw [List.length_take] at this
          omega
        rw [List.getElem?_take_of_lt hji] at hj
        exact absurd ((List.getElem?_inj (List.getElem?_eq_some_iff.mp hj).1 (sds_nd g)).mp (hj.trans hc.symm)) (Nat.ne_of_lt hji)
      refine ⟨rfl, yes_i ⟨_, rfl, Nat.zero_le _, fun r nr => ⟨stK ((sds l).take i) ad, Sum.inr (sg c), rfl, ?_, ?_, fun t => if t = c then r else ad t, ?_, ?_, ?_⟩⟩⟩
      · rw [upd_ne (ne_of_none S8.dk nr)]
        exact S8.dk
      · unfold stK
        rw [List.length_map, List.length_take, sizeLine_eq]
        have := sds_len g
        omega
      · exact sm_over (sm_upd sm nr) nD
      · have nrD : D ≠ r := ne_of_none S8.dk nr
        have e1 : ∀ t ∈ (sds l).take i, (if t = c then r else ad t) = ad t := fun t ht => if_neg fun e => hnc (by rw [← e]; exact ht)
        have tk : (sds l).take (i + 1) = (sds l).take i ++ [c] := by rw [List.take_add_one, hc]; rfl
        refine ⟨?_, fun t ht => ?_, fun t ht u hu e => ?_⟩
        · rw [upd_same, putK_new _ (stK_no hnc), tk]
          unfold stK
          rw [List.map_append]
          rw [List.map_congr_left (g := fun s => (Sum.inr (sg s), V.ref (if s = c then r else ad s))) fun t ht => by rw [e1 t ht]]
          simp
        · rw [tk] at ht
          rcases List.mem_append.mp ht with h | h
          · rw [e1 t h, upd_ne (S8.nd h), upd_ne (ne_of_none (S8.at_ t h) nr)]
            exact S8.at_ t h
          · obtain rfl := List.mem_singleton.mp h
            rw [if_pos rfl, upd_ne (Ne.symm nrD), upd_same]
            rfl
        · rw [tk] at ht hu
          rcases List.mem_append.mp ht with h | h <;> rcases List.mem_append.mp hu with h2 | h2
          · rw [e1 t h, e1 u h2] at e
            exact S8.inj t h u h2 e
          · obtain rfl := List.mem_singleton.mp h2
            rw [e1 t h, if_pos rfl] at e
            exact absurd e (ne_of_none (S8.at_ t h) nr)
          · obtain rfl := List.mem_singleton.mp h
            rw [e1 u h2, if_pos rfl] at e
            exact absurd e.symm (ne_of_none (S8.at_ u h2) nr)
          · rw [List.mem_singleton.mp h, List.mem_singleton.mp h2]
      · intro t ht
        show H1 (if t = c then r else ad t) = none
        by_cases e : t = c
        · rw [if_pos e]
          exact L2.Same.free sm nr
        · rw [if_neg e]
          refine fr0 t ?_
          rw [List.take_add_one, hc] at ht
          rcases List.mem_append.mp ht with h | h
          · exact h
          · exact absurd (List.mem_singleton.mp h) e
    · rintro H2 ⟨ad, sm, S8, fr0⟩
      rw [List.take_of_length_le (Nat.le_refl _)] at S8
      have nd0 : H D = none := L2.Same.free s1 nD
      have fr : ∀ s ∈ sds l, H (ad s) = none := fun s hs => L2.Same.free s1 (fr0 s (by rw [List.take_of_length_le (Nat.le_refl _)]; exact hs))
      have sm0 : Same H H2 := sm_trans s1 sm
      refine ⟨_, rfl, a, rfl, ?_⟩
      have len : ((bs.map tx).map V.str).length = bs.length := by rw [List.length_map, List.length_map]
      rcases hS with hS | hS
      · have wk2 := walk_list (K := K) (a := a) (xs := (bs.map tx).map V.str)
        rw [len] at wk2
        refine .inl ⟨⟨_, sm_l sm0 hS⟩, for_it wk2 (fun i σ H' => ∃ y3, σ = [some (.str (tx l)), some (.ref a), some (.ref D), y3, none] ∧ Same H H' ∧ SD8 H' (sds l) D ad (adjOf (bs.take i)))
          ⟨_, rfl, sm0, S8⟩ (fun i σ H' _ p => by obtain ⟨_, _, sm, _⟩ := p; exact sm_l sm hS) ?_ ?_⟩
        · rintro i x σ H5 H6 hi ⟨y3, rfl, sm5, S5⟩ ⟨rfl, hx⟩
          rw [List.getElem?_map, List.getElem?_map] at hx
          obtain ⟨z, hz, rfl⟩ := Option.map_eq_some_iff.mp hx
          obtain ⟨b, hbi, rfl⟩ := Option.map_eq_some_iff.mp hz
          obtain ⟨u, v, rfl, hu, hv, huv⟩ := bar_two (hbar b (List.mem_of_getElem? hbi))
          have hbz : (tx [u, v]).length ≤ sizeLine := by rw [tx_len, sizeLine_eq]; show 2 ≤ 16777216; decide
          have nuv : u ≠ v := fun e => by rw [e] at huv; exact Nat.lt_irrefl _ huv
          have hz1 : ∀ s, (adjOf (bs.take i) s).length ≤ 200 := fun s => by
            have h1 := adj_len (bs.take i) s
            have h2 : (bs.take i).length ≤ 100 := Nat.le_trans (by rw [List.length_take]; exact Nat.min_le_right _ _) hbl
            omega
          have S6 := S5.app (c := swp v) hu
          have S7 := S6.app (c := swp u) hv
          have nH : ∀ s ∈ sds l, ∀ o, Same H H6 → Same H (upd H6 (ad s) o) := fun s hs o z => sm_over z (fr s hs)
          refine ⟨_, rfl, _, rfl, _, _, u, rfl, rfl, hbz, rfl, D, _, rfl, S5.get hu, .inl ⟨rfl, _, SqL.of (S5.at_ u hu)⟩, _, rfl, _, _, v, rfl, rfl, hbz, rfl, v, rfl, sds_asc g hv, ad u, _, _, rfl, rfl, S5.at_ u hu, ?_, ?_⟩
          · rw [List.length_map, List.length_map, sizeLine_eq]
            have := hz1 u
            omega
          · refine ⟨_, rfl, _, rfl, _, _, v, rfl, rfl, hbz, rfl, D, _, rfl, S6.get hv, .inl ⟨rfl, _, SqL.of (S6.at_ v hv)⟩, _, rfl, _, _, u, rfl, rfl, hbz, rfl, u, rfl, sds_asc g hu, ad v, _, _, rfl, rfl, S6.at_ v hv, ?_, ?_⟩
            · rw [if_neg (Ne.symm nuv), List.length_map, List.length_map, sizeLine_eq]
              have := hz1 v
              omega
            · refine ⟨_, rfl, sm_over (sm_over sm5 (fr u hu)) (fr v hv), ?_⟩
              have ea : (fun t => if t = v then (if t = u then adjOf (bs.take i) t ++ [swp v] else adjOf (bs.take i) t) ++ [swp u] else if t = u then adjOf (bs.take i) t ++ [swp v] else adjOf (bs.take i) t) = adjOf (bs.take (i + 1)) := by
                funext t
                rw [adj_snoc bs i t [u, v] hbi]
                show _ = adjOf (bs.take i) t ++ ((if u = t then [swp v] else []) ++ (if v = t then [swp u] else []))
                by_cases e1 : t = u
                · subst e1
                  rw [if_neg nuv, if_pos rfl, if_pos rfl, if_neg (Ne.symm nuv)]
                  simp
                · rw [if_neg e1, if_neg (Ne.symm e1)]
                  by_cases e2 : t = v
                  · subst e2
                    rw [if_pos rfl, if_pos rfl]
                    simp
                  · rw [if_neg e2, if_neg (Ne.symm e2)]
                    simp [e1]
              rw [← ea]
              exact S7
        · rintro σ H5 ⟨y3, rfl, sm5, S5⟩
          rw [List.take_of_length_le (Nat.le_refl _)] at S5
          exact ⟨_, rfl, q H5 D ad sm5 nd0 S5⟩
      · have wk2 := walk_tup (K := K) (a := a) (xs := (bs.map tx).map V.str)
        rw [len] at wk2
        refine .inr ⟨⟨_, sm_t sm0 hS⟩, for_it wk2 (fun i σ H' => ∃ y3, σ = [some (.str (tx l)), some (.ref a), some (.ref D), y3, none] ∧ Same H H' ∧ SD8 H' (sds l) D ad (adjOf (bs.take i)))
          ⟨_, rfl, sm0, S8⟩ (fun i σ H' _ p => by obtain ⟨_, _, sm, _⟩ := p; exact sm_t sm hS) ?_ ?_⟩
        · rintro i x σ H5 H6 hi ⟨y3, rfl, sm5, S5⟩ ⟨rfl, hx⟩
          rw [List.getElem?_map, List.getElem?_map] at hx
          obtain ⟨z, hz, rfl⟩ := Option.map_eq_some_iff.mp hx
          obtain ⟨b, hbi, rfl⟩ := Option.map_eq_some_iff.mp hz
          obtain ⟨u, v, rfl, hu, hv, huv⟩ := bar_two (hbar b (List.mem_of_getElem? hbi))
          have hbz : (tx [u, v]).length ≤ sizeLine := by rw [tx_len, sizeLine_eq]; show 2 ≤ 16777216; decide
          have nuv : u ≠ v := fun e => by rw [e] at huv; exact Nat.lt_irrefl _ huv
          have hz1 : ∀ s, (adjOf (bs.take i) s).length ≤ 200 := fun s => by
            have h1 := adj_len (bs.take i) s
            have h2 : (bs.take i).length ≤ 100 := Nat.le_trans (by rw [List.length_take]; exact Nat.min_le_right _ _) hbl
            omega
          have S6 := S5.app (c := swp v) hu
          have S7 := S6.app (c := swp u) hv
          have nH : ∀ s ∈ sds l, ∀ o, Same H H6 → Same H (upd H6 (ad s) o) := fun s hs o z => sm_over z (fr s hs)
          refine ⟨_, rfl, _, rfl, _, _, u, rfl, rfl, hbz, rfl, D, _, rfl, S5.get hu, .inl ⟨rfl, _, SqL.of (S5.at_ u hu)⟩, _, rfl, _, _, v, rfl, rfl, hbz, rfl, v, rfl, sds_asc g hv, ad u, _, _, rfl, rfl, S5.at_ u hu, ?_, ?_⟩
          · rw [List.length_map, List.length_map, sizeLine_eq]
            have := hz1 u
            omega
          · refine ⟨_, rfl, _, rfl, _, _, v, rfl, rfl, hbz, rfl, D, _, rfl, S6.get hv, .inl ⟨rfl, _, SqL.of (S6.at_ v hv)⟩, _, rfl, _, _, u, rfl, rfl, hbz, rfl, u, rfl, sds_asc g hu, ad v, _, _, rfl, rfl, S6.at_ v hv, ?_, ?_⟩
            · rw [if_neg (Ne.symm nuv), List.length_map, List.length_map, sizeLine_eq]
              have := hz1 v
              omega
            · refine ⟨_, rfl, sm_over (sm_over sm5 (fr u hu)) (fr v hv), ?_⟩
              have ea : (fun t => if t = v then (if t = u then adjOf (bs.take i) t ++ [swp v] else adjOf (bs.take i) t) ++ [swp u] else if t = u then adjOf (bs.take i) t ++ [swp v] else adjOf (bs.take i) t) = adjOf (bs.take (i + 1)) := by
                funext t
                rw [adj_snoc bs i t [u, v] hbi]
                show _ = adjOf (bs.take i) t ++ ((if u = t then [swp v] else []) ++ (if v = t then [swp u] else []))
                by_cases e1 : t = u
                · subst e1
                  rw [if_neg nuv, if_pos rfl, if_pos rfl, if_neg (Ne.symm nuv)]
                  simp
                · rw [if_neg e1, if_neg (Ne.symm e1)]
                  by_cases e2 : t = v
                  · subst e2
                    rw [if_pos rfl, if_pos rfl]
                    simp
                  · rw [if_neg e2, if_neg (Ne.symm e2)]
                    simp [e1]
              rw [← ea]
              exact S7
        · rintro σ H5 ⟨y3, rfl, sm5, S5⟩
          rw [List.take_of_length_le (Nat.le_refl _)] at S5
          exact ⟨_, rfl, q H5 D ad sm5 nd0 S5⟩
end
end NC
namespace NC
open PySem PySem.Spec PyProof.Rows L2
abbrev sReached : Stmt := topS 25
theorem scReached : FnScope ["straight", "one", "ahead", "wave", "later", "side", "met"] ["straight", "one"] (defScope sReached) := ⟨rfl, rfl, rfl, by decide +kernel, rfl, by decide +kernel, by decide +kernel⟩
def pV : Option Nat → V
  | none => .non
  | some c => .str (sg c)
def ahK (rs : List (Nat × Option Nat)) : List (Key × V) := rs.map fun r => (Sum.inr (sg r.1), pV r.2)
def kys (rs : List (Nat × Option Nat)) : List Nat := rs.map (·.1)
theorem ahK_no {rs : List (Nat × Option Nat)} {s : Nat} (h : s ∉ kys rs) : valV (ahK rs) (Sum.inr (sg s)) = none := by
  induction rs with
  | nil => rfl
  | cons r t ih =>
    have e : ¬ r.1 = s := fun z => h (by show s ∈ r.1 :: kys t; rw [z]; exact List.mem_cons_self ..)
    exact (valV_neg (p := (Sum.inr (sg r.1), pV r.2)) (fun z => e (sg_inj (Sum.inr.inj z)))).trans (ih fun z => h (List.mem_cons_of_mem _ z))
theorem ahK_some {rs : List (Nat × Option Nat)} {s : Nat} (h : s ∈ kys rs) : ∃ (i : Nat) (p : Option Nat), rs[i]? = some (s, p) ∧ valV (ahK rs) (Sum.inr (sg s)) = some (pV p) := by
  induction rs with
  | nil => cases h
  | cons r t ih =>
    by_cases e : r.1 = s
    · exact ⟨0, r.2, by rw [← e]; rfl, by rw [← e]; exact valV_pos (p := (Sum.inr (sg r.1), pV r.2)) rfl⟩
    · have h2 : s ∈ kys t := by
        rcases List.mem_cons.mp (show s ∈ r.1 :: kys t from h) with z | z
        · exact absurd z.symm e
        · exact z
      obtain ⟨i, p, h3, h4⟩ := ih h2
      exact ⟨i + 1, p, h3, (valV_neg (p := (Sum.inr (sg r.1), pV r.2)) (fun z => e (sg_inj (Sum.inr.inj z)))).trans h4⟩
theorem nd_len : ∀ (a L : List Nat), a.Nodup → (∀ x ∈ a, x ∈ L) → a.length ≤ L.length
  | [], L, _, _ => Nat.zero_le _
  | x :: r, L, hn, hs => by
    obtain ⟨n1, n2⟩ := List.nodup_cons.mp hn
    have m : x ∈ L := hs x (List.mem_cons_self ..)
    have hl := List.length_erase_of_mem m
    have q := nd_len r (L.erase x) n2 fun z hz => (List.mem_erase_of_ne (fun e : z = x => n1 (by rw [← e]; exact hz))).mpr (hs z (List.mem_cons_of_mem _ hz))
    have hp : 0 < L.length := List.length_pos_of_mem m
    rw [List.length_cons]
    omega
/-- the same, to be read alone (the dict may be walked) -/
structure SR8 (H : Hp) (L : List Nat) (d : Addr) (ad : Nat → Addr) (adj : Nat → List Nat) : Prop where
  dk : Rd H d (.dK (stK L ad))
  at_ : ∀ s ∈ L, H (ad s) = some (.lst (((adj s).map sg).map V.str))
theorem SD8.rd {H : Hp} {L : List Nat} {d : Addr} {ad : Nat → Addr} {adj : Nat → List Nat} (S : SD8 H L d ad adj) : SR8 H L d ad adj := ⟨.inl S.dk, S.at_⟩
theorem SR8.same {H H' : Hp} {L : List Nat} {d : Addr} {ad : Nat → Addr} {adj : Nat → List Nat} (S : SR8 H L d ad adj) (e : Same H H') : SR8 H' L d ad adj :=
  ⟨S.dk.elim (fun z => .inl (e _ _ z)) fun ⟨o, z⟩ => .inr ⟨o, e _ _ z⟩, fun s hs => e _ _ (S.at_ s hs)⟩
theorem SR8.get {H : Hp} {L : List Nat} {d : Addr} {ad : Nat → Addr} {adj : Nat → List Nat} (S : SR8 H L d ad adj) {s : Nat} (h : s ∈ L) : DGet H d (.str (sg s)) (some (.ref (ad s))) := by
  rw [← stK_val (ad := ad) h]
  exact .inl ⟨_, Sum.inr (sg s), S.dk, rfl, rfl⟩
structure RsOk (L : List Nat) (adj : Nat → List Nat) (one : Nat) (rs : List (Nat × Option Nat)) : Prop where
  hd : ∃ r, rs = (one, none) :: r
  nd : (kys rs).Nodup
  sub : ∀ s ∈ kys rs, s ∈ L
  par : ∀ (i s : Nat) (p : Option Nat), rs[i]? = some (s, p) → (i = 0 ∧ p = none) ∨ ∃ c j q, p = some c ∧ j < i ∧ rs[j]? = some (c, q) ∧ s ∈ adj c
theorem RsOk.len {L : List Nat} {adj : Nat → List Nat} {one : Nat} {rs : List (Nat × Option Nat)} (h : RsOk L adj one rs) : rs.length ≤ L.length := by
  have := nd_len (kys rs) L h.nd h.sub
  rw [kys, List.length_map] at this
  exact this
theorem RsOk.snoc {L : List Nat} {adj : Nat → List Nat} {one s m : Nat} {rs : List (Nat × Option Nat)} (h : RsOk L adj one rs) (hs : s ∈ kys rs) (hm : m ∈ adj s) (hL : m ∈ L) (hn : m ∉ kys rs) : RsOk L adj one (rs ++ [(m, some s)]) := by
  obtain ⟨r, e⟩ := h.hd
  have ek : kys (rs ++ [(m, some s)]) = kys rs ++ [m] := by simp [kys]
  refine ⟨⟨r ++ [(m, some s)], by rw [e]; rfl⟩, ?_, fun t ht => ?_, fun i t p hi => ?_⟩
  · rw [ek]
    exact nd_snoc h.nd hn
  · rw [ek] at ht
    rcases List.mem_append.mp ht with z | z
    · exact h.sub t z
    · rw [List.mem_singleton.mp z]; exact hL
  · rcases Nat.lt_or_ge i rs.length with hl | hl
    · rw [List.getElem?_append_left hl] at hi
      rcases h.par i t p hi with z | ⟨c, j, q, h1, h2, h3, h4⟩
      · exact .inl z
      · exact .inr ⟨c, j, q, h1, h2, by rw [List.getElem?_append_left (by omega)]; exact h3, h4⟩
    · rw [List.getElem?_append_right hl] at hi
      have hi0 : i - rs.length = 0 := by
        have := (List.getElem?_eq_some_iff.mp hi).1
        simp at this
        omega
      rw [hi0] at hi
      have e2 : (m, some s) = (t, p) := Option.some.inj hi
      cases e2
      obtain ⟨j, q, hj⟩ : ∃ (j : Nat) (q : Option Nat), rs[j]? = some (s, q) := by
        obtain ⟨x, hx, ex⟩ := List.mem_map.mp hs
        obtain ⟨j, hj⟩ := List.getElem?_of_mem hx
        exact ⟨j, x.2, by rw [hj, ← ex]⟩
      have hjl := (List.getElem?_eq_some_iff.mp hj).1
      exact .inr ⟨s, j, q, rfl, by omega, by rw [List.getElem?_append_left hjl]; exact hj, hm⟩
theorem ahK_snoc (rs : List (Nat × Option Nat)) (m s : Nat) (h : m ∉ kys rs) : putK (ahK rs) (Sum.inr (sg m)) (.str (sg s)) = ahK (rs ++ [(m, some s)]) := by
  rw [putK_new _ (ahK_no h)]
  unfold ahK
  rw [List.map_append]
  rfl
inductive Wk (adj : Nat → List Nat) (one : Nat) : Nat → Nat → Prop
  | zero : Wk adj one 0 one
  | step {n s c : Nat} : Wk adj one n s → c ∈ adj s → Wk adj one (n + 1) c
def Dst (adj : Nat → List Nat) (one n s : Nat) : Prop := Wk adj one n s ∧ ∀ m, m < n → ¬ Wk adj one m s
theorem Dst.uniq {adj : Nat → List Nat} {one n m s : Nat} (a : Dst adj one n s) (b : Dst adj one m s) : n = m := by
  rcases Nat.lt_trichotomy n m with h | h | h
  · exact absurd a.1 (b.2 n h)
  · exact h
  · exact absurd b.1 (a.2 m h)
def Lvl (adj : Nat → List Nat) (one : Nat) (rs : List (Nat × Option Nat)) : Prop := ∀ (i s c : Nat), rs[i]? = some (s, some c) → ∃ m, Dst adj one m c ∧ Dst adj one (m + 1) s
def Fil (adj : Nat → List Nat) (one n : Nat) (rs : List (Nat × Option Nat)) : Prop := ∀ m t, m ≤ n → Wk adj one m t → t ∈ kys rs
def Frn (adj : Nat → List Nat) (one n : Nat) (wv : List Nat) : Prop := ∀ t ∈ wv, Dst adj one n t
theorem Dst.zero {adj : Nat → List Nat} {one : Nat} : Dst adj one 0 one := ⟨.zero, fun m h => absurd h (Nat.not_lt_zero _)⟩
theorem Lvl.one {adj : Nat → List Nat} {one : Nat} : Lvl adj one [(one, none)] := fun i s c h => by
  have hi := (List.getElem?_eq_some_iff.mp h).1
  have h0 : i = 0 := by simp at hi; omega
  subst h0
  cases h
theorem Fil.one {adj : Nat → List Nat} {one : Nat} : Fil adj one 0 [(one, none)] := fun m t h w => by
  obtain rfl : m = 0 := by omega
  cases w
  simp [kys]
theorem Frn.one {adj : Nat → List Nat} {one : Nat} : Frn adj one 0 [one] := fun t h => by rw [List.mem_singleton.mp h]; exact .zero
theorem Lvl.snoc {adj : Nat → List Nat} {one n s m : Nat} {rs : List (Nat × Option Nat)} (h : Lvl adj one rs) (a : Dst adj one n s) (b : Dst adj one (n + 1) m) : Lvl adj one (rs ++ [(m, some s)]) := fun i t c hi => by
  rcases Nat.lt_or_ge i rs.length with hl | hl
  · rw [List.getElem?_append_left hl] at hi
    exact h i t c hi
  · rw [List.getElem?_append_right hl] at hi
    have h0 : i - rs.length = 0 := by
      have := (List.getElem?_eq_some_iff.mp hi).1
      simp at this
      omega
    rw [h0] at hi
    cases hi
    exact ⟨n, a, b⟩
theorem Frn.snoc {adj : Nat → List Nat} {one n m : Nat} {wv : List Nat} (h : Frn adj one n wv) (b : Dst adj one n m) : Frn adj one n (wv ++ [m]) := fun t ht => by
  rcases List.mem_append.mp ht with z | z
  · exact h t z
  · rw [List.mem_singleton.mp z]; exact b
theorem Fil.next {adj : Nat → List Nat} {one n : Nat} {rs rs2 : List (Nat × Option Nat)} {lt : List Nat} (f : Fil adj one n rs) (k : ∀ t ∈ kys rs, t ∈ kys rs2) (fr : Frn adj one (n + 1) lt) (cl : ∀ u ∈ kys rs2, u ∉ lt → ∀ c ∈ adj u, c ∈ kys rs2) : Fil adj one (n + 1) rs2 := fun m t hm w => by
  rcases Nat.lt_or_ge n m with h | h
  · obtain rfl : m = n + 1 := by omega
    cases w with
    | step ws ht => exact cl _ (k _ (f n _ (Nat.le_refl _) ws)) (fun z => (fr _ z).2 n (Nat.lt_succ_self _) ws) t ht
  · exact k t (f m t h w)
theorem reach_in {adj : Nat → List Nat} {one : Nat} {rs : List (Nat × Option Nat)} (h0 : one ∈ kys rs) (cl : ∀ s ∈ kys rs, ∀ c ∈ adj s, c ∈ kys rs) {n s : Nat} (w : Wk adj one n s) : s ∈ kys rs := by
  induction w with
  | zero => exact h0
  | step _ hc ih => exact cl _ ih _ hc
section
variable {P : Program} {w : World} {K : PySem.W.Frag} {mg : Str → Option Value} {base : Heap}
def spReached : Sp := fun vs H Q _ => ∃ L d ad adj one, vs = [.ref d, .str (sg one)] ∧ SR8 H L d ad adj ∧ one ∈ L ∧ (∀ s ∈ L, ∀ c ∈ adj s, c ∈ L) ∧ L.length ≤ 24 ∧
  ∀ H' a rs, Same H H' → H a = none → RsOk L adj one rs → (∀ s ∈ kys rs, ∀ c ∈ adj s, c ∈ kys rs) → Lvl adj one rs → H' a = some (.dK (ahK rs)) → Q (.ref a) H'
set_option maxHeartbeats 1000000 in
theorem ok_reached {f : Addr} {fd : FuncData} {k : Nat} (F : Fun K "reached" "reached" sReached f fd) : FnOk P w K mg base CX0 (k + 1) f fd ["straight", "one"] spReached := by
  refine F.ok scReached (fun vs H Q E h => ?_) (fun cdv A outer s H vs Q E hr h => ?_)
  · obtain ⟨L, d, ad, adj, one, rfl, _⟩ := h
    rfl
  · obtain ⟨L, d, ad, adj, one, rfl, S8, hone, hadj, hL, q⟩ := h
    refine ⟨_, pss_cons (ps_set (i := 2) scReached.nd rfl (.inl rfl) (pe_disp (pps_cons (pv 1) pe_non pps_nil) (by rfl) (by rfl) (fun z => by cases z) (by decide)))
      (pss_cons (ps_set (i := 3) scReached.nd rfl (.inl rfl) (pe_lst (pa_cons (pv 1) pa_nil)))
      (pss_cons (ps_while PassesOwn.never (pt_truth (pv 3) (by intro _; rfl))
        (pss_cons (ps_set (i := 4) scReached.nd rfl (.inl rfl) (pe_lst pa_nil))
        (pss_cons (ps_for PassesOwn.never rfl (pi_list (pv 3)) (pg_name (i := 5) scReached.nd rfl (Or.inl rfl))
          (pss_one (ps_for PassesOwn.never rfl (pi_list (pe_dget (hu_of hr) (pv 0) (pv 5) (fun _ _ => rfl))) (pg_name (i := 6) scReached.nd rfl (Or.inl rfl))
            (pss_one (ps_if (pt_cmp (pc_dnotin (hu_of hr) (pv 6) (pv 2)))
              (pss_cons (ps_dput (hu_of hr) (pv 2) (pv 6) (pv 5) rfl)
              (pss_one (ps_expr (pe_bm PySem.F.plainAttrs_list PySem.F.slot_list_append PySem.F.type_list_append mt_append (pv 4) (pa_cons (pv 6) pa_nil))))) pss_nil)))))
        (pss_one (ps_set (i := 3) scReached.nd rfl (.inl rfl) (pv 4))))))
      (pss_one (ps_ret (pv 2))))), ?_⟩
    refine fun A0 nA => ⟨_, rfl, upd_same, [(Sum.inr (sg one), .non)], rfl, by show 1 ≤ 15; decide, ?_⟩
    have eA : upd (upd H A0 (.dK [])) A0 (.dK (mergeK [] [(Sum.inr (sg one), .non)])) = upd H A0 (.dK (ahK [(one, none)])) := by
      rw [L2.upd_upd]
      rfl
    rw [eA]
    refine ⟨_, rfl, by show 1 ≤ sizeLine; decide, fun W0 nW => ?_⟩
    have nAW : A0 ≠ W0 := ne_of_none upd_same nW
    have nW0 : H W0 = none := by
      rw [upd_ne (Ne.symm nAW)] at nW
      exact nW
    -- the while
    refine ⟨fun m σ H' => ∃ rs wv Wd y4 y5 y6, σ = [some (.ref d), some (.str (sg one)), some (.ref A0), some (.ref Wd), y4, y5, y6] ∧ Same H H' ∧ H Wd = none ∧ H' A0 = some (.dK (ahK rs)) ∧ H' Wd = some (.lst ((wv.map sg).map V.str)) ∧
      RsOk L adj one rs ∧ (∀ t ∈ wv, t ∈ kys rs) ∧ wv.length ≤ 24 ∧ (∀ t ∈ kys rs, t ∉ wv → ∀ c ∈ adj t, c ∈ kys rs) ∧ (∃ n, Lvl adj one rs ∧ Fil adj one n rs ∧ Frn adj one n wv) ∧ m = 2 * (24 - rs.length) + (if wv = [] then 0 else 1), ?_, ?_⟩
    · refine ⟨_, [(one, none)], [one], W0, _, _, _, rfl, sm_upd (same_upd nA) nW, nW0, ?_, upd_same, ⟨⟨[], rfl⟩, by simp [kys], fun t ht => ?_, fun i t p hi => ?_⟩, fun t ht => by simpa [kys] using ht, by show 1 ≤ 24; decide, fun t ht hn => ?_, ⟨0, Lvl.one, Fil.one, Frn.one⟩, rfl⟩
      · rw [upd_ne nAW, upd_same]
      · have e : t = one := by simpa [kys] using ht
        rw [e]; exact hone
      · have hi0 : i = 0 := by
          have := (List.getElem?_eq_some_iff.mp hi).1
          simp at this
          omega
        subst hi0
        cases hi
        exact .inl ⟨rfl, rfl⟩
      · have e : t = one := by simpa [kys] using ht
        exact absurd (by simp [e]) hn
    · rintro m σ H1 ⟨rs, wv, Wd, y4, y5, y6, rfl, sm, nWd, eA1, eW, R, hwv, hwl, hdone, ⟨n, LV, FL, FR⟩, rfl⟩
      refine ⟨_, rfl, _, .inl ⟨_, SqL.of eW, rfl⟩, ite2 (fun hne => ?_) (fun he => ?_)⟩
      · -- a turn of the while
        have hw0 : wv ≠ [] := fun z => by
          rw [z] at hne
          exact absurd hne (by decide)
        refine ⟨fun σ' H' => ∃ (rs2 : List (Nat × Option Nat)) (lt : List Nat) (Wd2 : Addr) (y4 y5 y6 : Option V), σ' = [some (.ref d), some (.str (sg one)), some (.ref A0), some (.ref Wd2), y4, y5, y6] ∧ Same H H' ∧ H Wd2 = none ∧ H' A0 = some (.dK (ahK rs2)) ∧ H' Wd2 = some (.lst ((lt.map sg).map V.str)) ∧
          RsOk L adj one rs2 ∧ (∀ t ∈ lt, t ∈ kys rs2) ∧ lt.length ≤ 24 ∧ (∀ t ∈ kys rs2, t ∉ lt → ∀ c ∈ adj t, c ∈ kys rs2) ∧ (∃ n, Lvl adj one rs2 ∧ Fil adj one n rs2 ∧ Frn adj one n lt) ∧ rs2.length = rs.length + lt.length, ?_, ?_⟩
        · rintro σ' H' ⟨rs2, lt, Wd2, y4, y5, y6, h1, h2, h3, h4, h5, h6, h7, h8, h9, hL, h10⟩
          refine ⟨_, ?_, rs2, lt, Wd2, y4, y5, y6, h1, h2, h3, h4, h5, h6, h7, h8, h9, hL, rfl⟩
          have l2 := h6.len
          rw [if_neg hw0]
          by_cases e : lt = []
          · rw [if_pos e, h10, e]
            simp
          · rw [if_neg e, h10]
            have : 0 < lt.length := List.length_pos_iff.mpr e
            omega
        · refine ⟨Nat.zero_le _, fun T nT => ?_⟩
          have nTA : A0 ≠ T := ne_of_none eA1 nT
          have nTW : Wd ≠ T := ne_of_none eW nT
          have nTH : H T = none := L2.Same.free sm nT
          have wk := walk_list (K := K) (a := Wd) (xs := (wv.map sg).map V.str)
          rw [List.length_map, List.length_map] at wk
          refine ⟨_, rfl, Wd, rfl, ⟨_, SqL.of (by rw [upd_ne nTW]; exact eW)⟩, for_it wk (fun i σ H' => ∃ (rs2 : List (Nat × Option Nat)) (lt : List Nat) (y5 y6 : Option V), σ = [some (.ref d), some (.str (sg one)), some (.ref A0), some (.ref Wd), some (.ref T), y5, y6] ∧ Same H H' ∧ H' A0 = some (.dK (ahK rs2)) ∧
            H' Wd = some (.lst ((wv.map sg).map V.str)) ∧ H' T = some (.lst ((lt.map sg).map V.str)) ∧ RsOk L adj one rs2 ∧ rs2.length = rs.length + lt.length ∧ (∀ t ∈ kys rs, t ∈ kys rs2) ∧ (∀ t ∈ lt, t ∈ kys rs2) ∧
            (∀ t ∈ kys rs2, t ∉ lt → t ∉ wv.drop i → ∀ c ∈ adj t, c ∈ kys rs2) ∧ Lvl adj one rs2 ∧ Frn adj one (n + 1) lt)
            ⟨rs, [], _, _, rfl, sm_upd sm nT, by rw [upd_ne nTA]; exact eA1, by rw [upd_ne nTW]; exact eW, upd_same, R, rfl, fun _ h => h, (fun t h => absurd h (by simp)), (fun t h1 _ h2 => hdone t h1 h2), LV, (fun t h => absurd h (by simp))⟩
            (fun i σ H' _ p => by obtain ⟨_, _, _, _, _, _, _, h, _⟩ := p; exact SqL.of h) ?_ ?_⟩
          · rintro i x σ H2 H3 hi ⟨rs2, lt, y5, y6, rfl, s2, a2, w2, t2, R2, len2, k2, lk2, dn2, LV2, FR2⟩ ⟨rfl, hx⟩
            rw [List.getElem?_map, List.getElem?_map] at hx
            obtain ⟨z, hz, rfl⟩ := Option.map_eq_some_iff.mp hx
            obtain ⟨t, ht, rfl⟩ := Option.map_eq_some_iff.mp hz
            have htk : t ∈ kys rs2 := k2 t (hwv t (List.mem_of_getElem? ht))
            have htL : t ∈ L := R2.sub t htk
            have S2 : SR8 H3 L d ad adj := S8.same s2
            have wk3 := walk_list (K := K) (a := ad t) (xs := ((adj t).map sg).map V.str)
            rw [List.length_map, List.length_map] at wk3
            refine ⟨_, rfl, _, rfl, d, _, rfl, S2.get htL, ad t, rfl, ⟨_, SqL.of (S2.at_ t htL)⟩, for_it wk3 (fun j σ H' => ∃ (rs3 : List (Nat × Option Nat)) (lt3 : List Nat) (y6 : Option V), σ = [some (.ref d), some (.str (sg one)), some (.ref A0), some (.ref Wd), some (.ref T), some (.str (sg t)), y6] ∧ Same H H' ∧
              H' A0 = some (.dK (ahK rs3)) ∧ H' Wd = some (.lst ((wv.map sg).map V.str)) ∧ H' T = some (.lst ((lt3.map sg).map V.str)) ∧ RsOk L adj one rs3 ∧ rs3.length = rs.length + lt3.length ∧ (∀ u ∈ kys rs2, u ∈ kys rs3) ∧ (∀ u ∈ lt3, u ∈ kys rs3) ∧
              (∀ u ∈ kys rs3, u ∉ lt3 → u ∉ wv.drop i → ∀ c ∈ adj u, c ∈ kys rs3) ∧ (∀ c ∈ (adj t).take j, c ∈ kys rs3) ∧ Lvl adj one rs3 ∧ Frn adj one (n + 1) lt3)
              ⟨rs2, lt, _, rfl, s2, a2, w2, t2, R2, len2, fun _ h => h, lk2, dn2, (fun _ h => by simp at h), LV2, FR2⟩
              (fun j σ H' _ p => by obtain ⟨_, _, _, _, s3, _⟩ := p; exact SqL.of ((S8.same s3).at_ t htL)) ?_ ?_⟩
            · rintro j x σ H4 H5 hj ⟨rs3, lt3, y6, rfl, s3, a3, w3, t3, R3, len3, k3, lk3, dn3, tk3, LV3, FR3⟩ ⟨rfl, hx⟩
              rw [List.getElem?_map, List.getElem?_map] at hx
              obtain ⟨z, hz, rfl⟩ := Option.map_eq_some_iff.mp hx
              obtain ⟨m, hm, rfl⟩ := Option.map_eq_some_iff.mp hz
              have hma : m ∈ adj t := List.mem_of_getElem? hm
              have hmL : m ∈ L := hadj t htL m hma
              have l3 := R3.len
              have tkS : (adj t).take (j + 1) = (adj t).take j ++ [m] := by rw [List.take_add_one, hm]; rfl
              refine ⟨_, rfl, _, rfl, A0, _, rfl, DGet.k (k := Sum.inr (sg m)) a3, _, rfl, ite2 (fun hn => ?_) (fun hn => ?_)⟩
              · have hmn : m ∉ kys rs3 := fun z => by
                  obtain ⟨_, p, _, e⟩ := ahK_some z
                  rw [e] at hn
                  exact absurd hn Bool.false_ne_true
                have R4 := R3.snoc (k3 t htk) hma hmL hmn
                have dT : Dst adj one n t := FR t (List.mem_of_getElem? ht)
                have dM : Dst adj one (n + 1) m := ⟨.step dT.1 hma, fun j hj w => hmn (k3 m (k2 m (FL j m (by omega) w)))⟩
                have l4 := R4.len
                rw [List.length_append] at l4
                have l4 : rs3.length + 1 ≤ L.length := l4
                have ek : kys (rs3 ++ [(m, some t)]) = kys rs3 ++ [m] := by simp [kys]
                refine ⟨_, rfl, _, rfl, _, rfl, A0, _, rfl, DPut.k (k := Sum.inr (sg m)) a3 (by unfold ahK; rw [List.length_map, sizeLine_eq]; omega), ?_⟩
                rw [ahK_snoc rs3 m t hmn]
                have eT : (upd H5 A0 (.dK (ahK (rs3 ++ [(m, some t)])))) T = some (.lst ((lt3.map sg).map V.str)) := by rw [upd_ne (Ne.symm nTA)]; exact t3
                refine ⟨_, rfl, .inl ⟨rfl, _, SqL.of eT⟩, _, rfl, T, _, _, rfl, rfl, eT, by rw [List.length_map, List.length_map, sizeLine_eq]; omega, ?_⟩
                refine ⟨rs3 ++ [(m, some t)], lt3 ++ [m], _, rfl, sm_over (sm_over s3 nA) nTH, ?_, ?_, ?_, R4, ?_, fun u hu => ?_, fun u hu => ?_, fun u h1 h2 h3 c hc => ?_, fun c hc => ?_, LV3.snoc dT dM, FR3.snoc dM⟩
                · rw [upd_ne nTA, upd_same]
                · rw [upd_ne nTW, upd_ne (ne_of w3 a3 fun z => by cases z)]
                  exact w3
                · rw [upd_same, List.map_append, List.map_append]
                  rfl
                · rw [List.length_append, List.length_append, len3]
                  rfl
                · rw [ek]; exact List.mem_append_left _ (k3 u hu)
                · rw [ek]
                  rcases List.mem_append.mp hu with z | z
                  · exact List.mem_append_left _ (lk3 u z)
                  · exact List.mem_append_right _ z
                · rw [ek] at h1 ⊢
                  have h4 : u ∉ lt3 := fun z => h2 (List.mem_append_left _ z)
                  have h5 : u ∈ kys rs3 := by
                    rcases List.mem_append.mp h1 with z | z
                    · exact z
                    · exact absurd (List.mem_append_right _ z) h2
                  exact List.mem_append_left _ (dn3 u h5 h4 h3 c hc)
                · rw [ek]
                  rw [tkS] at hc
                  rcases List.mem_append.mp hc with z | z
                  · exact List.mem_append_left _ (tk3 c z)
                  · exact List.mem_append_right _ z
              · have hmi : m ∈ kys rs3 := by
                  refine Classical.byContradiction fun z => hn ?_
                  rw [ahK_no z]
                  rfl
                refine ⟨rs3, lt3, _, rfl, s3, a3, w3, t3, R3, len3, k3, lk3, dn3, fun c hc => ?_, LV3, FR3⟩
                rw [tkS] at hc
                rcases List.mem_append.mp hc with z | z
                · exact tk3 c z
                · rw [List.mem_singleton.mp z]; exact hmi
            · rintro σ H4 ⟨rs3, lt3, y6, rfl, s3, a3, w3, t3, R3, len3, k3, lk3, dn3, tk3, LV3, FR3⟩
              rw [List.take_of_length_le (Nat.le_refl _)] at tk3
              refine ⟨rs3, lt3, _, _, rfl, s3, a3, w3, t3, R3, len3, fun u hu => k3 u (k2 u hu), lk3, fun u h1 h2 h3 c hc => ?_, LV3, FR3⟩
              by_cases e : u = t
              · rw [e] at hc
                exact tk3 c hc
              · refine dn3 u h1 h2 (fun z => h3 ?_) c hc
                rw [List.drop_eq_getElem_cons hi] at z
                rcases List.mem_cons.mp z with z | z
                · have e2 : wv[i] = t := by
                    rw [List.getElem?_eq_getElem hi] at ht
                    exact Option.some.inj ht
                  exact absurd (z.trans e2) e
                · exact z
          · rintro σ H4 ⟨rs2, lt, y5, y6, rfl, s2, a2, w2, t2, R2, len2, k2, lk2, dn2, LV2, FR2⟩
            have l2 := R2.len
            exact ⟨_, rfl, rs2, lt, T, _, _, _, rfl, s2, nTH, a2, t2, R2, lk2, by omega, fun u h1 h2 => dn2 u h1 h2 (by simp), ⟨n + 1, LV2, FL.next k2 FR2 (fun u h1 h2 => dn2 u h1 h2 (by simp)), FR2⟩, len2⟩
      · have e : wv = [] := by
          cases wv with
          | nil => rfl
          | cons x r => exact absurd rfl he
        exact ⟨_, rfl, q H1 A0 rs sm nA R (fun t ht => hdone t ht (by rw [e]; simp)) LV eA1⟩
end
end NC
namespace NC
open PySem PySem.Spec PyProof.Rows L2
abbrev sAllF : Stmt := topS 26
theorem scAllF : FnScope ["walls", "bars", "straight", "side"] ["walls", "bars"] (defScope sAllF) := ⟨rfl, rfl, rfl, by decide +kernel, rfl, by decide +kernel, by decide +kernel⟩
def foK (L : List Nat) (fo : Nat → List Nat) : List (Key × V) := L.map fun s => (Sum.inr (sg s), V.str (tx (fo s)))
theorem foK_val {L : List Nat} {fo : Nat → List Nat} {s : Nat} (h : s ∈ L) : valV (foK L fo) (Sum.inr (sg s)) = some (.str (tx (fo s))) := by
  induction L with
  | nil => cases h
  | cons t r ih =>
    by_cases e : t = s
    · subst e
      exact valV_pos (p := (Sum.inr (sg t), V.str (tx (fo t)))) rfl
    · have h2 : s ∈ r := by
        rcases List.mem_cons.mp h with z | z
        · exact absurd z.symm e
        · exact z
      exact (valV_neg (p := (Sum.inr (sg t), V.str (tx (fo t)))) (fun z => e (sg_inj (Sum.inr.inj z)))).trans (ih h2)
theorem foK_no {L : List Nat} {fo : Nat → List Nat} {s : Nat} (h : s ∉ L) : valV (foK L fo) (Sum.inr (sg s)) = none := by
  induction L with
  | nil => rfl
  | cons t r ih =>
    have e : ¬ t = s := fun z => h (by rw [z]; exact List.mem_cons_self ..)
    exact (valV_neg (p := (Sum.inr (sg t), V.str (tx (fo t)))) (fun z => e (sg_inj (Sum.inr.inj z)))).trans (ih fun z => h (List.mem_cons_of_mem _ z))
/-- what a side forces, as all_forced tells it -/
def FoOk (l : List Nat) (adj : Nat → List Nat) (L : List Nat) (fo : Nat → List Nat) : Prop := ∀ s ∈ L, ∃ rs, RsOk (sds l) adj s rs ∧ (∀ t ∈ kys rs, ∀ c ∈ adj t, c ∈ kys rs) ∧ fo s = byW l (ahK rs)
theorem take_new {L : List Nat} (nd : L.Nodup) {i c : Nat} (hc : L[i]? = some c) : c ∉ L.take i := fun hm => by
  obtain ⟨j, hj⟩ := List.getElem?_of_mem hm
  have hji : j < i := by
    have := (List.getElem?_eq_some_iff.mp hj).1
    rw [List.length_take] at this
    omega
  rw [List.getElem?_take_of_lt hji] at hj
  exact absurd ((List.getElem?_inj (List.getElem?_eq_some_iff.mp hj).1 nd).mp (hj.trans hc.symm)) (Nat.ne_of_lt hji)
section
variable {P : Program} {w : World} {K : PySem.W.Frag} {mg : Str → Option Value} {base : Heap}
def spAllF (K : PySem.W.Frag) : Sp := fun vs H Q _ => ∃ l a bs, vs = [.str (tx l), .ref a] ∧ GoodW l ∧ (∀ b ∈ bs, isBar l b = true) ∧ bs.length ≤ 100 ∧ (SqL K H a ((bs.map tx).map V.str) ∨ SqT K H a ((bs.map tx).map V.str)) ∧
  ∀ H' D fo, Same H H' → H D = none → H' D = some (.dK (foK (sds l) fo)) → FoOk l (adjOf bs) (sds l) fo → Q (.ref D) H'
set_option maxHeartbeats 1000000 in
theorem ok_allF {f fT fR fB fS fO : Addr} {fd fdT fdR fdB fdS fdO : FuncData} {k : Nat} (B : BM mg) (F : Fun K "all_forced" "all_forced" sAllF f fd) (T : DF K mg "straight_from" sStraight ["walls", "bars"] fT fdT)
    (R : DF K mg "reached" sReached ["straight", "one"] fR fdR) (Y : DF K mg "by_walls" sByWalls ["walls", "sides"] fB fdB) (S : DF K mg "sides_of" sSides ["walls"] fS fdS) (O : DF K mg "other" sOther ["side"] fO fdO) :
    FnOk P w K mg base CX0 (k + 3) f fd ["walls", "bars"] (spAllF K) := by
  have GT : FnOk P w K mg base CX0 (k + 2) fT fdT ["walls", "bars"] (spStraight K) := ok_straight B T.F S O
  have GR : FnOk P w K mg base CX0 (k + 2) fR fdR ["straight", "one"] spReached := ok_reached R.F
  have GY : FnOk P w K mg base CX0 (k + 2) fB fdB ["walls", "sides"] spByWalls := ok_byWalls B Y.F O
  refine F.ok scAllF (fun vs H Q E h => ?_) (fun cdv A outer s H vs Q E hr h => ?_)
  · obtain ⟨l, a, bs, rfl, _⟩ := h
    rfl
  · obtain ⟨l, a, bs, rfl, g, hbar, hbl, hS, q⟩ := h
    refine ⟨_, pss_cons (ps_set (i := 2) scAllF.nd rfl (.inr rfl) (pe_call GT hr rfl T.g T.F.kp T.b .nil pass0 (pa_cons (pv 0) (pa_cons (pv 1) pa_nil))))
      (pss_one (ps_ret (pe_lock (pe_dc (own := [("side", 3)]) (g := gName 3) (tt := tYes) rfl scAllF.nd (pi_keys (pv 2)) (blkOk_by (N := ["walls", "bars", "straight", "side"]) (sc := defScope sAllF) (by decide +kernel))
        (fun _ _ _ _ _ => pg_name (i := 3) scAllF.nd rfl (Or.inl rfl)) (fun _ _ _ _ _ => pts_nil) (fun _ _ _ _ _ => pv 3)
        (fun _ _ _ _ _ => pe_call GY hr rfl Y.g Y.F.kp Y.b .nil pass0 (pa_cons (pv 0) (pa_cons (pe_call GR hr rfl R.g R.F.kp R.b .nil pass0 (pa_cons (pv 2) (pa_cons (pv 3) pa_nil))) pa_nil))))))), ?_⟩
    refine ⟨_, rfl, _, rfl, l, a, bs, rfl, g, hbar, hbl, hS, fun H1 d ad s1 nd1 S8 => ?_⟩
    refine ⟨d, _, S8.dk, trivial, fun od => ?_⟩
    refine ⟨_, rfl, d, od, rfl, .inl ⟨_, upd_same, fun D nD => ?_⟩⟩
    have ndD : D ≠ d := fun e => by
      rw [e, upd_same] at nD
      cases nD
    have SR : SR8 (upd H1 d (.frz od (.dK (stK (sds l) ad)))) (sds l) d ad (adjOf bs) := ⟨.inr ⟨od, upd_same⟩, fun s hs => by rw [upd_ne (S8.nd hs)]; exact S8.at_ s hs⟩
    have e0 : (upd H1 d (.frz od (.dK (stK (sds l) ad)))) d = some (.frz od (.dK (stK (sds l) ad))) := upd_same
    have s2 : Same H (upd H1 d (.frz od (.dK (stK (sds l) ad)))) := sm_over s1 nd1
    generalize (upd H1 d (.frz od (.dK (stK (sds l) ad)))) = H2 at nD SR e0 s2 ⊢
    have wk := walk_keys (d := d) (o := od) (kvs := stK (sds l) ad)
    have len : (stK (sds l) ad).length = (sds l).length := by unfold stK; rw [List.length_map]
    rw [len] at wk
    have hD0 : H D = none := L2.Same.free s2 nD
    refine dc_it wk (fun i H' => ∃ fo, Same H2 H' ∧ H' D = some (.dK (foK ((sds l).take i) fo)) ∧ FoOk l (adjOf bs) ((sds l).take i) fo)
      ⟨fun _ => [], same_upd nD, upd_same, fun s hs => by simp at hs⟩ (fun i H' _ h => by obtain ⟨_, sm, _⟩ := h; exact sm _ _ e0) ?_ ?_
    · rintro i x H3 H4 hi ⟨fo, sm, eD, ok⟩ ⟨rfl, kk, v, hk, rfl⟩
      unfold stK at hk
      rw [List.getElem?_map] at hk
      obtain ⟨c, hc, e⟩ := Option.map_eq_some_iff.mp hk
      obtain ⟨rfl, rfl⟩ := Prod.mk.inj e
      have hcL : c ∈ sds l := List.mem_of_getElem? hc
      have hnc := take_new (sds_nd g) hc
      have tk : (sds l).take (i + 1) = (sds l).take i ++ [c] := by rw [List.take_add_one, hc]; rfl
      refine ⟨rfl, yes_i ⟨_, rfl, _, rfl, _, rfl, _, rfl, sds l, d, ad, adjOf bs, c, rfl, SR.same sm, hcL, fun s hs c hc => adj_mem g hbar hc, sds_len g, fun H5 r rs s5 nr R5 cl _ er => ?_⟩⟩
      refine ⟨l, r, _, rfl, g, er, fun H6 s6 => ?_⟩
      have e1 : ∀ t ∈ (sds l).take i, (if t = c then byW l (ahK rs) else fo t) = fo t := fun t ht => if_neg fun e => hnc (by rw [← e]; exact ht)
      have eD6 : H6 D = some (.dK (foK ((sds l).take i) fo)) := s6 _ _ (s5 _ _ eD)
      refine ⟨foK ((sds l).take i) fo, Sum.inr (sg c), rfl, eD6, ?_, fun t => if t = c then byW l (ahK rs) else fo t, ?_, ?_, ?_⟩
      · unfold foK
        rw [List.length_map, List.length_take, sizeLine_eq]
        have := sds_len g
        omega
      · exact sm_over (sm_trans (sm_trans sm s5) s6) nD
      · rw [upd_same, putK_new _ (foK_no hnc), tk]
        unfold foK
        rw [List.map_append]
        rw [List.map_congr_left (g := fun s => (Sum.inr (sg s), V.str (tx (if s = c then byW l (ahK rs) else fo s)))) fun t ht => by rw [e1 t ht]]
        simp
      · intro t ht
        rw [tk] at ht
        rcases List.mem_append.mp ht with h | h
        · obtain ⟨rs', a1, a2, a3⟩ := ok t h
          exact ⟨rs', a1, a2, (e1 t h).trans a3⟩
        · obtain rfl := List.mem_singleton.mp h
          exact ⟨rs, R5, cl, if_pos rfl⟩
    · rintro H3 ⟨fo, sm, eD, ok⟩
      rw [List.take_of_length_le (Nat.le_refl _)] at eD ok
      refine ⟨sm _ _ e0, q _ D fo (sm_over (sm_trans s2 sm) nd1) hD0 ?_ ok⟩
      rw [upd_ne ndD]
      exact eD
end
end NC
/-! what forces what, and rooms: bars of two sides, a room as the walls whose small side is stood on -/
namespace NC
open PySem PySem.Spec PyProof.Rows L2
def isLt (c : Nat) : Prop := (97 ≤ c ∧ c ≤ 122) ∨ (65 ≤ c ∧ c ≤ 90)
theorem sds_lt {l : List Nat} (g : GoodW l) {s : Nat} (h : s ∈ sds l) : isLt s := (sds_shape g h).imp (fun z => ⟨z.1, z.2.1⟩) (fun z => ⟨z.1, z.2.1⟩)
theorem swp_small {c : Nat} (h : 97 ≤ c ∧ c ≤ 122) : swp c = c - 32 := by unfold swp; rw [if_pos h]
theorem swp_great {c : Nat} (h : 65 ≤ c ∧ c ≤ 90) : swp c = c + 32 := by unfold swp; rw [if_neg (by omega), if_pos h]
theorem swp_swp {c : Nat} (h : isLt c) : swp (swp c) = c := by
  rcases h with h | h
  · rw [swp_small h, swp_great (by omega)]
    omega
  · rw [swp_great h, swp_small (by omega)]
    omega
theorem isLt.asc {c : Nat} (h : isLt c) : c < 128 := by rcases h with h | h <;> omega
/-- a side forces another -/
def Frc (adj : Nat → List Nat) (s t : Nat) : Prop := ∃ n, Wk adj s n t
theorem Frc.refl {adj : Nat → List Nat} {s : Nat} : Frc adj s s := ⟨0, .zero⟩
theorem Frc.step {adj : Nat → List Nat} {s t u : Nat} (h : Frc adj s t) (k : u ∈ adj t) : Frc adj s u := let ⟨n, w⟩ := h; ⟨n + 1, .step w k⟩
theorem Frc.ind {adj : Nat → List Nat} {s t : Nat} (h : Frc adj s t) {p : Nat → Prop} (h0 : p s) (hs : ∀ a b, p a → b ∈ adj a → p b) : p t := by
  obtain ⟨n, w⟩ := h
  induction w with
  | zero => exact h0
  | step _ k ih => exact hs _ _ ih k
theorem Frc.trans {adj : Nat → List Nat} {s t u : Nat} (a : Frc adj s t) (b : Frc adj t u) : Frc adj s u := b.ind (p := fun x => Frc adj s x) a fun _ _ h k => h.step k
theorem adj_iff {l : List Nat} (g : GoodW l) {bs : List (List Nat)} (hb : ∀ b ∈ bs, isBar l b = true) {a b : Nat} (h : isLt b) : b ∈ adjOf bs a ↔ [a, swp b] ∈ bs ∨ [swp b, a] ∈ bs := by
  constructor
  · intro z
    obtain ⟨c, hc, z⟩ := List.mem_flatMap.mp z
    obtain ⟨x, y, rfl, hx, hy, _⟩ := bar_two (hb c hc)
    have z : b ∈ (if x = a then [swp y] else []) ++ (if y = a then [swp x] else []) := z
    rcases List.mem_append.mp z with z | z
    · split at z
      · rename_i e
        rw [List.mem_singleton.mp z, swp_swp (sds_lt g hy), ← e]
        exact .inl hc
      · cases z
    · split at z
      · rename_i e
        rw [List.mem_singleton.mp z, swp_swp (sds_lt g hx), ← e]
        exact .inr hc
      · cases z
  · rintro (z | z)
    · refine List.mem_flatMap.mpr ⟨_, z, ?_⟩
      show b ∈ (if a = a then [swp (swp b)] else []) ++ _
      rw [if_pos rfl, swp_swp h]
      exact List.mem_append_left _ (List.mem_singleton.mpr rfl)
    · refine List.mem_flatMap.mpr ⟨_, z, ?_⟩
      show b ∈ _ ++ (if a = a then [swp (swp b)] else [])
      rw [if_pos rfl, swp_swp h]
      exact List.mem_append_right _ (List.mem_singleton.mpr rfl)
theorem adj_back {l : List Nat} (g : GoodW l) {bs : List (List Nat)} (hb : ∀ b ∈ bs, isBar l b = true) {a b : Nat} (ha : a ∈ sds l) (h : b ∈ adjOf bs a) : swp a ∈ adjOf bs (swp b) := by
  have hbL := adj_mem g hb h
  refine (adj_iff g hb (sds_lt g (sds_swp g ha))).mpr ?_
  rw [swp_swp (sds_lt g ha)]
  exact ((adj_iff g hb (sds_lt g hbL)).mp h).symm
section
variable {l : List Nat} (g : GoodW l) {bs : List (List Nat)} (hb : ∀ b ∈ bs, isBar l b = true)
include g hb
theorem Frc.mem {s t : Nat} (hs : s ∈ sds l) (h : Frc (adjOf bs) s t) : t ∈ sds l := h.ind (p := fun x => x ∈ sds l) hs fun _ _ _ k => adj_mem g hb k
theorem Frc.back {s t : Nat} (hs : s ∈ sds l) (h : Frc (adjOf bs) s t) : Frc (adjOf bs) (swp t) (swp s) := by
  have q := h.ind (p := fun x => x ∈ sds l ∧ Frc (adjOf bs) (swp x) (swp s)) ⟨hs, .refl⟩ fun a b hab k => ⟨adj_mem g hb k, (Frc.refl.step (adj_back g hb hab.1 k)).trans hab.2⟩
  exact q.2
/-- both sides of one wall: then the other side of what forces them -/
theorem Frc.torn {s t : Nat} (hs : s ∈ sds l) (a : Frc (adjOf bs) s t) (b : Frc (adjOf bs) s (swp t)) : Frc (adjOf bs) s (swp s) := by
  have q := Frc.back g hb hs b
  rw [swp_swp (sds_lt g (Frc.mem g hb hs a))] at q
  exact a.trans q
end
/-! ### rooms -/
/-- where one stands who stands on the small sides of p: whether on a side -/
def val (p : Nat → Bool) (s : Nat) : Bool := if s ≤ 90 then !p (s + 32) else p s
theorem val_swp {p : Nat → Bool} {s : Nat} (h : isLt s) : val p (swp s) = !val p s := by
  rcases h with h | h
  · rw [swp_small h]
    unfold val
    rw [if_pos (by omega), if_neg (by omega), show s - 32 + 32 = s by omega]
  · rw [swp_great h]
    unfold val
    rw [if_neg (by omega), if_pos (by omega), Bool.not_not]
def Sat (bs : List (List Nat)) (p : Nat → Bool) : Prop := ∀ x y, [x, y] ∈ bs → ¬ (val p x = true ∧ val p y = true)
section
variable {l : List Nat} (g : GoodW l) {bs : List (List Nat)} (hb : ∀ b ∈ bs, isBar l b = true)
include g hb
theorem Sat.adj {p : Nat → Bool} (h : Sat bs p) {a b : Nat} (ha : val p a = true) (k : b ∈ adjOf bs a) : val p b = true := by
  have hl := sds_lt g (adj_mem g hb k)
  have e : val p (swp b) = false := by
    rcases (adj_iff g hb hl).mp k with z | z
    · have := h _ _ z
      simpa [ha] using this
    · have := h _ _ z
      simpa [ha] using this
  rw [val_swp hl] at e
  simpa using e
theorem Sat.frc {p : Nat → Bool} (h : Sat bs p) {s t : Nat} (ha : val p s = true) (k : Frc (adjOf bs) s t) : val p t = true := k.ind (p := fun x => val p x = true) ha fun _ _ q z => h.adj g hb q z
/-- what s forces, written over a room -/
theorem Sat.over {p : Nat → Bool} (h : Sat bs p) {s : Nat} (hs : s ∈ sds l) (nf : ¬ Frc (adjOf bs) s (swp s)) : ∃ p', Sat bs p' ∧ (∀ t ∈ sds l, Frc (adjOf bs) s t → val p' t = true) ∧ ∀ t ∈ sds l, ¬ Frc (adjOf bs) s (swp t) → val p t = true → val p' t = true := by
  classical
  let p' : Nat → Bool := fun c => if Frc (adjOf bs) s c then true else if Frc (adjOf bs) s (c - 32) then false else p c
  have cons : ∀ t, Frc (adjOf bs) s t → ¬ Frc (adjOf bs) s (swp t) := fun t a b => nf (Frc.torn g hb hs a b)
  have ev : ∀ t ∈ sds l, val p' t = if Frc (adjOf bs) s t then true else if Frc (adjOf bs) s (swp t) then false else val p t := fun t ht => by
    rcases sds_lt g ht with z | z
    · have e1 : val p' t = p' t := by unfold val; rw [if_neg (by omega)]
      have e2 : val p t = p t := by unfold val; rw [if_neg (by omega)]
      rw [e1, e2, swp_small z]
    · have e1 : val p' t = !p' (t + 32) := by unfold val; rw [if_pos (by omega)]
      have e2 : val p t = !p (t + 32) := by unfold val; rw [if_pos (by omega)]
      rw [e1, e2]
      have hsw : swp t = t + 32 := swp_great z
      show (!(if Frc (adjOf bs) s (t + 32) then true else if Frc (adjOf bs) s (t + 32 - 32) then false else p (t + 32))) = _
      rw [show t + 32 - 32 = t by omega, ← hsw]
      by_cases a : Frc (adjOf bs) s t
      · rw [if_neg (cons t a), if_pos a, if_pos a]
        rfl
      · rw [if_neg a, if_neg a]
        by_cases b : Frc (adjOf bs) s (swp t)
        · rw [if_pos b, if_pos b]
          rfl
        · rw [if_neg b, if_neg b]
  refine ⟨p', fun x y hxy => ?_, fun t ht a => by rw [ev t ht, if_pos a], fun t ht a b => ?_⟩
  · rintro ⟨vx, vy⟩
    obtain ⟨x', y', e, hx, hy, _⟩ := bar_two (hb _ hxy)
    obtain ⟨rfl, rfl⟩ : x = x' ∧ y = y' := by simpa using e
    have kx : swp y ∈ adjOf bs x := (adj_iff g hb (sds_lt g (sds_swp g hy))).mpr (by rw [swp_swp (sds_lt g hy)]; exact .inl hxy)
    have ky : swp x ∈ adjOf bs y := (adj_iff g hb (sds_lt g (sds_swp g hx))).mpr (by rw [swp_swp (sds_lt g hx)]; exact .inr hxy)
    rw [ev x hx] at vx
    rw [ev y hy] at vy
    by_cases a : Frc (adjOf bs) s x
    · have q := a.step kx
      by_cases b : Frc (adjOf bs) s y
      · exact cons y b q
      · rw [if_neg b, if_pos q] at vy
        cases vy
    · rw [if_neg a] at vx
      by_cases a2 : Frc (adjOf bs) s (swp x)
      · rw [if_pos a2] at vx
        cases vx
      · rw [if_neg a2] at vx
        by_cases b : Frc (adjOf bs) s y
        · exact a2 (b.step ky)
        · rw [if_neg b] at vy
          by_cases b2 : Frc (adjOf bs) s (swp y)
          · rw [if_pos b2] at vy
            cases vy
          · rw [if_neg b2] at vy
            exact h x y hxy ⟨vx, vy⟩
  · rw [ev t ht]
    by_cases c : Frc (adjOf bs) s t
    · rw [if_pos c]
    · rw [if_neg c, if_neg a]
      exact b
/-- a hall of which no side forces its other one has a room -/
theorem sat_of (nf : ∀ s ∈ sds l, ¬ Frc (adjOf bs) s (swp s)) : ∃ p, Sat bs p := by
  classical
  have go : ∀ w : List Nat, (∀ c ∈ w, c ∈ l) → ∃ A : Nat → Prop, (∀ x, A x → x ∈ sds l) ∧ (∀ x y, A x → y ∈ adjOf bs x → A y) ∧ (∀ x, A x → ¬ A (swp x)) ∧ ∀ c ∈ w, A c ∨ A (swp c) := by
    intro w
    induction w with
    | nil => exact fun _ => ⟨fun _ => False, fun _ h => h.elim, fun _ _ h => h.elim, fun _ h => h.elim, fun _ h => absurd h (by simp)⟩
    | cons c r ih =>
      intro hw
      obtain ⟨A, a1, a2, a3, a4⟩ := ih fun d hd => hw d (List.mem_cons_of_mem _ hd)
      have hc : c ∈ sds l := sds_of_small (hw c (List.mem_cons_self ..))
      by_cases hd : A c ∨ A (swp c)
      · refine ⟨A, a1, a2, a3, fun d hd2 => ?_⟩
        rcases List.mem_cons.mp hd2 with e | e
        · rw [e]; exact hd
        · exact a4 d e
      · have a2' : ∀ x y, A x → Frc (adjOf bs) x y → A y := fun x y hx k => k.ind (p := A) hx fun _ _ q z => a2 _ _ q z
        refine ⟨fun x => A x ∨ Frc (adjOf bs) c x, fun x h => h.elim (a1 x) fun k => Frc.mem g hb hc k, fun x y h k => h.imp (fun h => a2 x y h k) fun h => h.step k, fun x h h2 => ?_, fun d hd2 => ?_⟩
        · rcases h with h | h
          · rcases h2 with h2 | h2
            · exact a3 x h h2
            · have q := Frc.back g hb hc h2
              rw [swp_swp (sds_lt g (a1 x h))] at q
              exact hd (.inr (a2' x _ h q))
          · rcases h2 with h2 | h2
            · have q := Frc.back g hb hc h
              exact hd (.inr (a2' _ _ h2 q))
            · exact nf c hc (Frc.torn g hb hc h h2)
        · rcases List.mem_cons.mp hd2 with e | e
          · rw [e]; exact .inl (.inr .refl)
          · exact (a4 d e).imp .inl .inl
  obtain ⟨A, a1, a2, a3, a4⟩ := go l fun _ h => h
  have ev : ∀ s ∈ sds l, val (fun c => decide (A c)) s = true → A s := fun s hs v => by
    rcases sds_shape g hs with z | z
    · unfold val at v
      rw [if_neg (by omega)] at v
      exact of_decide_eq_true v
    · unfold val at v
      rw [if_pos (by omega)] at v
      have n : ¬ A (s + 32) := by simpa using v
      rcases a4 _ z.2.2 with q | q
      · exact absurd q n
      · rw [swp_small (by omega), show s + 32 - 32 = s by omega] at q
        exact q
  refine ⟨fun c => decide (A c), fun x y hxy => ?_⟩
  rintro ⟨vx, vy⟩
  obtain ⟨x', y', e, hx, hy, _⟩ := bar_two (hb _ hxy)
  obtain ⟨rfl, rfl⟩ : x = x' ∧ y = y' := by simpa using e
  have kx : swp y ∈ adjOf bs x := (adj_iff g hb (sds_lt g (sds_swp g hy))).mpr (by rw [swp_swp (sds_lt g hy)]; exact .inl hxy)
  exact a3 y (ev y hy vy) (a2 x _ (ev x hx vx) kx)
/-- a side is in some room just where it doesn't force its other one, if there is a room -/
theorem fix_iff {p0 : Nat → Bool} (h0 : Sat bs p0) {s : Nat} (hs : s ∈ sds l) : Frc (adjOf bs) s (swp s) ↔ ∀ p, Sat bs p → val p s = false := by
  constructor
  · intro k p hp
    cases hv : val p s with
    | false => rfl
    | true =>
      have q := hp.frc g hb hv k
      rw [val_swp (sds_lt g hs), hv] at q
      cases q
  · intro h
    refine Classical.byContradiction fun nf => ?_
    obtain ⟨p', hp, k, _⟩ := h0.over g hb hs nf
    have q := h p' hp
    rw [k s hs .refl] at q
    cases q
/-- two sides go together in all rooms just where they force one another, if no side forces its other one -/
theorem alike_iff (nf : ∀ s ∈ sds l, ¬ Frc (adjOf bs) s (swp s)) {s t : Nat} (hs : s ∈ sds l) (ht : t ∈ sds l) : (Frc (adjOf bs) s t ∧ Frc (adjOf bs) t s) ↔ ∀ p, Sat bs p → val p s = val p t := by
  have one : ∀ {a b : Nat}, a ∈ sds l → b ∈ sds l → (∀ p, Sat bs p → val p a = true → val p b = true) → Frc (adjOf bs) a b := fun {a b} ha hb2 h => by
    refine Classical.byContradiction fun n => ?_
    obtain ⟨p0, h0⟩ := sat_of g hb nf
    obtain ⟨p1, h1, k1, _⟩ := h0.over g hb ha (nf a ha)
    have hbs := sds_swp g hb2
    obtain ⟨p2, h2, k2, k3⟩ := h1.over g hb hbs (nf _ hbs)
    have va : val p2 a = true := k3 a ha (fun z => n (by
      have q := Frc.back g hb hbs z
      rw [swp_swp (sds_lt g ha), swp_swp (sds_lt g hb2)] at q
      exact q)) (k1 a ha .refl)
    have vb := h p2 h2 va
    have vb2 := k2 _ hbs .refl
    rw [val_swp (sds_lt g hb2), vb] at vb2
    cases vb2
  constructor
  · rintro ⟨a, b⟩ p hp
    cases hv : val p s with
    | true => exact (hp.frc g hb hv a).symm
    | false =>
      cases hw : val p t with
      | false => rfl
      | true =>
        have := hp.frc g hb hw b
        rw [hv] at this
        cases this
  · exact fun h => ⟨one hs ht fun p hp v => (h p hp).symm.trans v, one ht hs fun p hp v => (h p hp).trans v⟩
end
end NC
/-! rooms as lists of sides; what is said of a hall: by what forces what, and by its rooms -/
namespace NC
open PySem PySem.Spec PyProof.Rows L2
def rmOf (l : List Nat) (p : Nat → Bool) : List Nat := l.map fun c => if p c then c else upc c
def allT (l : List Nat) : Nat → List (List Nat)
  | 0 => [[]]
  | k + 1 => (allT l k).flatMap fun r => [r ++ [upc (l.getD k 0)], r ++ [l.getD k 0]]
def inR (b r : List Nat) : Bool := b.all fun s => decide (s ∈ r)
def rms (l : List Nat) (bs : List (List Nat)) : List (List Nat) := (allT l l.length).filter fun r => !bs.any fun b => inR b r
theorem allT_len (l : List Nat) : ∀ k, (allT l k).length = 2 ^ k
  | 0 => rfl
  | k + 1 => by
    have h : ∀ xs : List (List Nat), (xs.flatMap fun r => [r ++ [upc (l.getD k 0)], r ++ [l.getD k 0]]).length = 2 * xs.length := fun xs => by
      induction xs with
      | nil => rfl
      | cons x r ih =>
        have e : (x :: r).length = r.length + 1 := rfl
        rw [List.flatMap_cons, List.length_append, ih, e]
        show 2 + 2 * r.length = _
        omega
    show ((allT l k).flatMap _).length = _
    rw [h, allT_len l k, Nat.pow_succ, Nat.mul_comm]
theorem allT_mem {l : List Nat} (nd : l.Nodup) : ∀ {k : Nat}, k ≤ l.length → ∀ r, r ∈ allT l k ↔ ∃ p, r = rmOf (l.take k) p
  | 0, _, r => by
    show r ∈ [[]] ↔ _
    rw [List.mem_singleton]
    exact ⟨fun e => ⟨fun _ => true, by rw [e]; simp [rmOf]⟩, fun ⟨p, e⟩ => by rw [e]; simp [rmOf]⟩
  | k + 1, hk, r => by
    have hkl : k < l.length := hk
    have ec : l.getD k 0 = l[k] := by simp [List.getD, hkl]
    have et : l.take (k + 1) = l.take k ++ [l[k]] := by rw [List.take_add_one, List.getElem?_eq_getElem hkl]; rfl
    have hn : l[k] ∉ l.take k := take_new nd (List.getElem?_eq_getElem hkl)
    show r ∈ (allT l k).flatMap _ ↔ _
    rw [List.mem_flatMap, ec, et]
    constructor
    · rintro ⟨q, hq, hr⟩
      obtain ⟨p, rfl⟩ := (allT_mem nd (Nat.le_of_lt hkl) q).mp hq
      have same : ∀ b : Bool, rmOf (l.take k) (fun x => if x = l[k] then b else p x) = rmOf (l.take k) p := fun b => List.map_congr_left fun c hc => by
        have : c ≠ l[k] := fun e => hn (by rw [← e]; exact hc)
        show (if (if c = l[k] then b else p c) = true then c else upc c) = _
        rw [if_neg this]
      simp only [List.mem_cons, List.not_mem_nil, or_false] at hr
      rcases hr with rfl | rfl
      · refine ⟨fun x => if x = l[k] then false else p x, ?_⟩
        show _ = (l.take k ++ [l[k]]).map _
        rw [List.map_append]
        show _ = rmOf (l.take k) _ ++ _
        rw [same false]
        simp
      · refine ⟨fun x => if x = l[k] then true else p x, ?_⟩
        show _ = (l.take k ++ [l[k]]).map _
        rw [List.map_append]
        show _ = rmOf (l.take k) _ ++ _
        rw [same true]
        simp
    · rintro ⟨p, rfl⟩
      refine ⟨rmOf (l.take k) p, (allT_mem nd (Nat.le_of_lt hkl) _).mpr ⟨p, rfl⟩, ?_⟩
      have e : rmOf (l.take k ++ [l[k]]) p = rmOf (l.take k) p ++ [if p l[k] then l[k] else upc l[k]] := by
        unfold rmOf
        rw [List.map_append]
        rfl
      rw [e]
      by_cases h : p l[k] = true
      · rw [if_pos h]; simp
      · rw [if_neg h]; simp
theorem rm_mem {l : List Nat} (g : GoodW l) {p : Nat → Bool} {s : Nat} (hs : s ∈ sds l) : s ∈ rmOf l p ↔ val p s = true := by
  unfold rmOf
  rw [List.mem_map]
  rcases sds_shape g hs with z | z
  · have ev : val p s = p s := by unfold val; rw [if_neg (by omega)]
    rw [ev]
    constructor
    · rintro ⟨c, hc, e⟩
      have h1 := g.sm c hc
      by_cases h : p c = true
      · rw [if_pos h] at e
        rw [← e]; exact h
      · rw [if_neg h, upc_small h1] at e
        omega
    · intro h
      exact ⟨s, z.2.2, by rw [if_pos h]⟩
  · have ev : val p s = !p (s + 32) := by unfold val; rw [if_pos (by omega)]
    rw [ev]
    constructor
    · rintro ⟨c, hc, e⟩
      have h1 := g.sm c hc
      by_cases h : p c = true
      · rw [if_pos h] at e
        omega
      · rw [if_neg h, upc_small h1] at e
        rw [show s + 32 = c by omega]
        simpa using h
    · intro h
      refine ⟨s + 32, z.2.2, ?_⟩
      rw [if_neg (by simpa using h), upc_small (by omega)]
      omega
theorem rm_asc {l : List Nat} (g : GoodW l) {p : Nat → Bool} {s : Nat} (hs : s ∈ rmOf l p) : s ∈ sds l := by
  obtain ⟨c, hc, e⟩ := List.mem_map.mp hs
  by_cases h : p c = true
  · rw [if_pos h] at e
    rw [← e]; exact sds_of_small hc
  · rw [if_neg h, upc_small (g.sm c hc)] at e
    rw [← e]; exact sds_of_great g hc
theorem rms_mem {l : List Nat} (g : GoodW l) {bs : List (List Nat)} (hb : ∀ b ∈ bs, isBar l b = true) (r : List Nat) : r ∈ rms l bs ↔ ∃ p, r = rmOf l p ∧ Sat bs p := by
  have key : ∀ p, (!bs.any fun b => inR b (rmOf l p)) = true ↔ Sat bs p := fun p => by
    rw [Bool.not_eq_true', List.any_eq_false]
    constructor
    · intro h x y hxy
      rintro ⟨vx, vy⟩
      obtain ⟨x', y', e, hx, hy, _⟩ := bar_two (hb _ hxy)
      obtain ⟨rfl, rfl⟩ : x = x' ∧ y = y' := by simpa using e
      refine h _ hxy ?_
      simp [inR, (rm_mem g hx).mpr vx, (rm_mem g hy).mpr vy]
    · intro h b hbb hr
      obtain ⟨x, y, rfl, hx, hy, _⟩ := bar_two (hb _ hbb)
      simp [inR] at hr
      exact h x y hbb ⟨(rm_mem g hx).mp hr.1, (rm_mem g hy).mp hr.2⟩
  unfold rms
  rw [List.mem_filter, allT_mem g.nd (Nat.le_refl _), List.take_length]
  constructor
  · rintro ⟨⟨p, rfl⟩, h⟩
    exact ⟨p, rfl, (key p).mp h⟩
  · rintro ⟨p, rfl, h⟩
    exact ⟨⟨p, rfl⟩, (key p).mpr h⟩
/-! ### what is said of a hall -/
inductive Vd
  | ok
  | fixed (s : Nat)
  | alike (s t : Nat)
def vdOf (L : List Nat) (fx : Nat → Bool) (al : Nat → Nat → Bool) : Vd := match L.find? fx with
  | some s => .fixed s
  | none => match L.findSome? fun s => (L.find? (al s)).map fun t => (s, t) with
    | some p => .alike p.1 p.2
    | none => .ok
theorem find_congr {α : Type} {L : List α} {p q : α → Bool} (h : ∀ x ∈ L, p x = q x) : L.find? p = L.find? q := by
  induction L with
  | nil => rfl
  | cons x r ih =>
    rw [List.find?_cons, List.find?_cons, h x (List.mem_cons_self ..), ih fun y hy => h y (List.mem_cons_of_mem _ hy)]
theorem findS_congr {α β : Type} {L : List α} {p q : α → Option β} (h : ∀ x ∈ L, p x = q x) : L.findSome? p = L.findSome? q := by
  induction L with
  | nil => rfl
  | cons x r ih =>
    rw [List.findSome?_cons, List.findSome?_cons, h x (List.mem_cons_self ..), ih fun y hy => h y (List.mem_cons_of_mem _ hy)]
theorem find_at {α : Type} : ∀ {L : List α} {p : α → Bool} {i : Nat} {s : α}, L[i]? = some s → (∀ j t, j < i → L[j]? = some t → p t = false) → p s = true → L.find? p = some s
  | [], p, i, s, h, _, _ => by simp at h
  | x :: r, p, 0, s, h, _, hs => by
    cases h
    rw [List.find?_cons, hs]
  | x :: r, p, i + 1, s, h, hn, hs => by
    rw [List.find?_cons, hn 0 x (Nat.succ_pos _) rfl]
    exact find_at (L := r) (i := i) h (fun j t hj ht => hn (j + 1) t (by omega) ht) hs
theorem findS_at {α β : Type} : ∀ {L : List α} {p : α → Option β} {i : Nat} {s : α} {v : β}, L[i]? = some s → (∀ j t, j < i → L[j]? = some t → p t = none) → p s = some v → L.findSome? p = some v
  | [], p, i, s, v, h, _, _ => by simp at h
  | x :: r, p, 0, s, v, h, _, hs => by
    cases h
    rw [List.findSome?_cons, hs]
  | x :: r, p, i + 1, s, v, h, hn, hs => by
    rw [List.findSome?_cons, hn 0 x (Nat.succ_pos _) rfl]
    exact findS_at (L := r) (i := i) h (fun j t hj ht => hn (j + 1) t (by omega) ht) hs
theorem find_no {α : Type} {L : List α} {p : α → Bool} (h : ∀ j t, j < L.length → L[j]? = some t → p t = false) : L.find? p = none := List.find?_eq_none.mpr fun x hx => by
  obtain ⟨j, hj, e⟩ := List.getElem_of_mem hx
  rw [h j x hj (by rw [List.getElem?_eq_getElem hj, e])]
  decide
theorem findS_no {α β : Type} {L : List α} {p : α → Option β} (h : ∀ j t, j < L.length → L[j]? = some t → p t = none) : L.findSome? p = none := List.findSome?_eq_none_iff.mpr fun x hx => by
  obtain ⟨j, hj, e⟩ := List.getElem_of_mem hx
  exact h j x hj (by rw [List.getElem?_eq_getElem hj, e])
/-- by what forces what: fo s are the sides that s forces -/
def fxP (fo : Nat → List Nat) (s : Nat) : Bool := decide (swp s ∈ fo s)
def alP (fo : Nat → List Nat) (s m : Nat) : Bool := decide (m ∈ fo s) && (decide (m ≠ s) && decide (s ∈ fo m))
/-- by the rooms; fo only where there is none -/
def fxL (l : List Nat) (bs : List (List Nat)) (fo : Nat → List Nat) (s : Nat) : Bool := if rms l bs = [] then decide (swp s ∈ fo s) else !(rms l bs).any fun r => decide (s ∈ r)
def alL (l : List Nat) (bs : List (List Nat)) (s t : Nat) : Bool := decide (lwc s ≠ lwc t) && (rms l bs).all fun r => decide (decide (s ∈ r) = decide (t ∈ r))
theorem same_wall {l : List Nat} (g : GoodW l) {s t : Nat} (hs : s ∈ sds l) (ht : t ∈ sds l) (e : lwc s = lwc t) : t = s ∨ t = swp s := by
  rcases sds_lt g hs with a | a <;> rcases sds_lt g ht with b | b <;> unfold lwc at e
  · rw [if_neg (by omega), if_neg (by omega)] at e
    exact .inl e.symm
  · rw [if_neg (by omega), if_pos b] at e
    rw [swp_small a]
    exact .inr (by omega)
  · rw [if_pos a, if_neg (by omega)] at e
    rw [swp_great a]
    exact .inr e.symm
  · rw [if_pos a, if_pos b] at e
    exact .inl (by omega)
theorem vd_same {l : List Nat} (g : GoodW l) {bs : List (List Nat)} (hb : ∀ b ∈ bs, isBar l b = true) {fo fo' : Nat → List Nat} (hf : ∀ s ∈ sds l, ∀ t, t ∈ fo s ↔ Frc (adjOf bs) s t) (hf' : ∀ s ∈ sds l, ∀ t, t ∈ fo' s ↔ Frc (adjOf bs) s t) :
    vdOf (sds l) (fxP fo) (alP fo) = vdOf (sds l) (fxL l bs fo') (alL l bs) := by
  have mr := rms_mem g hb
  have ne : ∀ {p0 : Nat → Bool}, Sat bs p0 → rms l bs ≠ [] := fun {p0} h0 z => by
    have := (mr _).mpr ⟨p0, rfl, h0⟩
    rw [z] at this
    cases this
  have fx : ∀ s ∈ sds l, fxP fo s = fxL l bs fo' s := fun s hs => by
    unfold fxP fxL
    rw [Bool.eq_iff_iff, decide_eq_true_eq, hf s hs]
    by_cases hr : rms l bs = []
    · rw [if_pos hr, decide_eq_true_eq, hf' s hs]
    · rw [if_neg hr, Bool.not_eq_true', List.any_eq_false]
      obtain ⟨r0, hr0⟩ := List.exists_mem_of_ne_nil _ hr
      obtain ⟨p0, _, h0⟩ := (mr r0).mp hr0
      rw [fix_iff g hb h0 hs]
      constructor
      · intro h r hrm hd
        obtain ⟨p, rfl, hp⟩ := (mr r).mp hrm
        have := (rm_mem g hs).mp (of_decide_eq_true hd)
        rw [h p hp] at this
        cases this
      · intro h p hp
        cases hv : val p s with
        | false => rfl
        | true => exact absurd (decide_eq_true ((rm_mem g hs).mpr hv)) (h _ ((mr _).mpr ⟨p, rfl, hp⟩))
  unfold vdOf
  rw [find_congr fx]
  cases h1 : (sds l).find? (fxL l bs fo') with
  | some s => rfl
  | none =>
    have nf : ∀ s ∈ sds l, ¬ Frc (adjOf bs) s (swp s) := fun s hs k => by
      have := List.find?_eq_none.mp h1 s hs
      rw [← fx s hs] at this
      exact this (decide_eq_true ((hf s hs _).mpr k))
    have al : ∀ s ∈ sds l, ∀ t ∈ sds l, alP fo s t = alL l bs s t := fun s hs t ht => by
      unfold alP alL
      rw [Bool.eq_iff_iff, Bool.and_eq_true, Bool.and_eq_true, Bool.and_eq_true, decide_eq_true_eq, decide_eq_true_eq, decide_eq_true_eq, decide_eq_true_eq, List.all_eq_true, hf s hs, hf t ht]
      constructor
      · rintro ⟨a, b, c⟩
        refine ⟨fun e => ?_, fun r hr => ?_⟩
        · rcases same_wall g hs ht e with z | z
          · exact b z
          · rw [z] at a
            exact nf s hs a
        · obtain ⟨p, rfl, hp⟩ := (mr r).mp hr
          have q := (alike_iff g hb nf hs ht).mp ⟨a, c⟩ p hp
          have e1 : decide (s ∈ rmOf l p) = val p s := by rw [Bool.eq_iff_iff, decide_eq_true_eq]; exact rm_mem g hs
          have e2 : decide (t ∈ rmOf l p) = val p t := by rw [Bool.eq_iff_iff, decide_eq_true_eq]; exact rm_mem g ht
          rw [e1, e2, q]
          simp
      · rintro ⟨a, b⟩
        have q := (alike_iff g hb nf hs ht).mpr fun p hp => by
          have z := of_decide_eq_true (b _ ((mr _).mpr ⟨p, rfl, hp⟩))
          have e1 : decide (s ∈ rmOf l p) = val p s := by rw [Bool.eq_iff_iff, decide_eq_true_eq]; exact rm_mem g hs
          have e2 : decide (t ∈ rmOf l p) = val p t := by rw [Bool.eq_iff_iff, decide_eq_true_eq]; exact rm_mem g ht
          rw [e1, e2] at z
          exact z
        exact ⟨q.1, fun e => a (by rw [e]), q.2⟩
    rw [findS_congr fun s hs => by rw [find_congr fun t ht => al s hs t ht]]
end NC
namespace NC
open PySem PySem.Spec PyProof.Rows L2
abbrev sChkFix : Stmt := topS 27
abbrev sChkAl : Stmt := topS 28
theorem scChkFix : FnScope ["forced_by", "side"] ["forced_by"] (defScope sChkFix) := ⟨rfl, rfl, rfl, by decide +kernel, rfl, by decide +kernel, by decide +kernel⟩
theorem scChkAl : FnScope ["forced_by", "side", "met"] ["forced_by"] (defScope sChkAl) := ⟨rfl, rfl, rfl, by decide +kernel, rfl, by decide +kernel, by decide +kernel⟩
structure XC2 (K : PySem.W.Frag) (mg : Str → Option Value) (C fI : Addr) (fd : FuncData) : Prop where
  gC : mg "Alike" = some (.ref C)
  O : OexC K C
  hw : PySem.W.findIn K (.ref C) "word" = some none
  h1 : PySem.W.findIn K (.ref C) "one" = some none
  h2 : PySem.W.findIn K (.ref C) "other" = some none
  iC : PySem.W.findIn K (.ref C) "__init__" = some (some (.ref fI))
  tI : PySem.W.typeIn K (.ref fI) = some (.type "function")
  F : Fun K "__init__" "Alike.__init__" sALinit fI fd
  b : Binds K fd ["self", "one", "other"] []
theorem mk2 {K : PySem.W.Frag} {C : Addr} (hO : OexC K C) (hw : PySem.W.findIn K (.ref C) "word" = some none) (h1 : PySem.W.findIn K (.ref C) "one" = some none) (h2 : PySem.W.findIn K (.ref C) "other" = some none) {H1 : Hp} {v u : V} {Q : XK}
    (q : ∀ d H', Same H1 H' → H1 d = none → H' d = some (.xd [("other", u), ("one", v), ("word", .str "alike")]) → Q (.ref C) (some d) H') :
    ∀ a, H1 a = none → sp2 K (.ref a :: ([v, u] ++ [])) (upd H1 a (exo a C none))
      (fun z H2 => z = .non ∧ ∃ (d : Addr) (fs : List (Str × V)), H2 a = some (exo a C (some d)) ∧ H2 d = some (exd d fs) ∧ H1 d = none ∧ Q (.ref C) (some d) (upd (del H2 a) d (.xd fs))) (fun _ _ _ => False) := by
  intro a na
  refine ⟨a, C, v, u, rfl, hO, hw, h1, h2, upd_same, fun dx H' n1 n2 k e1 e2 => ?_⟩
  have hd : H1 dx = none := by
    rw [upd_ne n2] at n1
    exact n1
  refine ⟨rfl, dx, _, e1, e2, hd, q dx _ (fun b o hb => ?_) hd upd_same⟩
  have b1 : b ≠ dx := ne_of_none hb hd
  have b2 : b ≠ a := ne_of_none hb na
  rw [upd_ne b1, del_ne b2, k b b1 b2, upd_ne b2]
  exact hb
theorem foK_keys (L : List Nat) (fo : Nat → List Nat) : (foK L fo).map (·.1) = (L.map sg).map Sum.inr := by
  unfold foK
  rw [List.map_map, List.map_map]
  rfl
theorem foK_get {H : Hp} {L : List Nat} {fo : Nat → List Nat} {d : Addr} {s : Nat} (e : H d = some (.dK (foK L fo))) (h : s ∈ L) : DGet H d (.str (sg s)) (some (.str (tx (fo s)))) := by
  rw [← foK_val (fo := fo) h]
  exact DGet.k (k := Sum.inr (sg s)) e
theorem FoOk.mem {l : List Nat} (g : GoodW l) {adj : Nat → List Nat} {L : List Nat} {fo : Nat → List Nat} (h : FoOk l adj L fo) {s c : Nat} (hs : s ∈ L) (hc : c ∈ fo s) : c ∈ sds l := by
  obtain ⟨rs, _, _, e⟩ := h s hs
  rw [e] at hc
  exact (byW_mem g hc).1
theorem FoOk.len {l : List Nat} (g : GoodW l) {adj : Nat → List Nat} {L : List Nat} {fo : Nat → List Nat} (h : FoOk l adj L fo) {s : Nat} (hs : s ∈ L) : (fo s).length ≤ 24 := by
  obtain ⟨rs, _, _, e⟩ := h s hs
  rw [e]
  have h1 := byW_len l (ahK rs)
  have h2 := g.hi
  omega
theorem perm_sg {ys : List Str} {L : List Nat} (p : ys.Perm (L.map sg)) {i : Nat} {y : Str} (h : ys[i]? = some y) : ∃ c ∈ L, y = sg c := by
  obtain ⟨c, hc, e⟩ := List.mem_map.mp (p.mem_iff.mp (List.mem_of_getElem? h))
  exact ⟨c, hc, e.symm⟩
theorem kys_frc {L : List Nat} {adj : Nat → List Nat} {one : Nat} {rs : List (Nat × Option Nat)} (R : RsOk L adj one rs) : ∀ (i s : Nat) (p : Option Nat), rs[i]? = some (s, p) → Frc adj one s := fun i => by
  induction i using Nat.strongRecOn with
  | ind i ih =>
    intro s p hi
    rcases R.par i s p hi with ⟨rfl, rfl⟩ | ⟨c, j, q, rfl, hj, hrj, hadj⟩
    · obtain ⟨r, e⟩ := R.hd
      rw [e] at hi
      cases hi
      exact .refl
    · exact (ih j hj c q hrj).step hadj
theorem byW_of {l : List Nat} (g : GoodW l) {kvs : List (Key × V)} {t : Nat} (h : t ∈ sds l) (k : inK kvs t = true) : t ∈ byW l kvs := by
  rcases sds_shape g h with z | z
  · exact List.mem_flatMap.mpr ⟨t, z.2.2, List.mem_filter.mpr ⟨by simp, k⟩⟩
  · refine List.mem_flatMap.mpr ⟨t + 32, z.2.2, List.mem_filter.mpr ⟨?_, k⟩⟩
    rw [swp_small (by omega), show t + 32 - 32 = t by omega]
    simp
theorem FoOk.iff {l : List Nat} (g : GoodW l) {bs : List (List Nat)} (hb : ∀ b ∈ bs, isBar l b = true) {fo : Nat → List Nat} (h : FoOk l (adjOf bs) (sds l) fo) : ∀ s ∈ sds l, ∀ t, t ∈ fo s ↔ Frc (adjOf bs) s t := fun s hs t => by
  obtain ⟨rs, R, cl, e⟩ := h s hs
  rw [e]
  constructor
  · intro ht
    obtain ⟨_, hk⟩ := byW_mem g ht
    have hm : t ∈ kys rs := by
      refine Classical.byContradiction fun z => ?_
      unfold inK at hk
      rw [ahK_no z] at hk
      cases hk
    obtain ⟨i, p, hi, _⟩ := ahK_some hm
    exact kys_frc R i t p hi
  · rintro ⟨n, w⟩
    have h0 : s ∈ kys rs := by
      obtain ⟨r, e⟩ := R.hd
      rw [e]
      exact List.mem_cons_self ..
    have hm := reach_in h0 cl w
    obtain ⟨i, p, _, ev⟩ := ahK_some hm
    exact byW_of g (R.sub t hm) (by unfold inK; rw [ev]; rfl)
theorem two_nd : ∀ w : List Nat, (∀ c ∈ w, 97 ≤ c ∧ c ≤ 122) → w.Nodup → (w.flatMap fun c => [swp c, c]).Nodup
  | [], _, _ => by simp
  | c :: r, hs, hn => by
    obtain ⟨n1, n2⟩ := List.nodup_cons.mp hn
    have hc := hs c (List.mem_cons_self ..)
    have ih := two_nd r (fun d hd => hs d (List.mem_cons_of_mem _ hd)) n2
    rw [List.flatMap_cons]
    refine List.nodup_append.mpr ⟨?_, ih, fun a ha b hb e => ?_⟩
    · rw [swp_small hc]
      simp
      omega
    · obtain ⟨d, hd, hbd⟩ := List.mem_flatMap.mp hb
      have hd2 := hs d (List.mem_cons_of_mem _ hd)
      have ne : d ≠ c := fun z => n1 (by rw [← z]; exact hd)
      rw [swp_small hc] at ha
      rw [swp_small hd2] at hbd
      simp only [List.mem_cons, List.not_mem_nil, or_false] at ha hbd
      omega
theorem byW_nd {l : List Nat} (g : GoodW l) (kvs : List (Key × V)) : (byW l kvs).Nodup := by
  have e : byW l kvs = (l.flatMap fun c => [swp c, c]).filter (inK kvs) := by
    unfold byW
    rw [List.filter_flatMap]
  rw [e]
  exact (two_nd l g.sm g.nd).filter _
theorem sds_rise {l : List Nat} (g : GoodW l) : (sds l).Pairwise (· < ·) := by
  refine List.pairwise_append.mpr ⟨List.pairwise_map.mpr (g.rise.imp_of_mem fun {a b} ha hb h => ?_), g.rise, fun a ha b hb => ?_⟩
  · rw [upc_small (g.sm a ha), upc_small (g.sm b hb)]
    have := g.sm a ha
    omega
  · obtain ⟨c, hc, rfl⟩ := List.mem_map.mp ha
    have := g.sm c hc
    have := g.sm b hb
    rw [upc_small (by omega)]
    omega
theorem pw_sg {L : List Nat} (h : L.Pairwise (· < ·)) : (L.map sg).Pairwise leS := List.pairwise_map.mpr (h.imp fun h => leS_sg (Nat.le_of_lt h))
theorem sorted_sds {l : List Nat} (g : GoodW l) {ys : List Str} (hp : ys.Perm ((sds l).map sg)) (hs : sortedS ys = true) : ys = (sds l).map sg := sortedS_eq hs hp (pw_sg (sds_rise g))
theorem perm_nd : ∀ {a b : List Nat}, a.Nodup → b.Nodup → (∀ x, x ∈ a ↔ x ∈ b) → a.Perm b
  | [], b, _, _, h => by
    cases b with
    | nil => exact .nil
    | cons x r => exact absurd ((h x).mpr (List.mem_cons_self ..)) (by simp)
  | x :: r, b, ha, hb, h => by
    obtain ⟨n1, n2⟩ := List.nodup_cons.mp ha
    have hx : x ∈ b := (h x).mp (List.mem_cons_self ..)
    refine ((perm_nd n2 (hb.erase x) fun y => ?_).cons x).trans (List.perm_cons_erase hx).symm
    rw [hb.mem_erase_iff]
    constructor
    · exact fun hy => ⟨fun e => n1 (by rw [← e]; exact hy), (h y).mp (List.mem_cons_of_mem _ hy)⟩
    · rintro ⟨a, c⟩
      rcases List.mem_cons.mp ((h y).mpr c) with z | z
      · exact absurd z a
      · exact z
theorem sorted_fo {l : List Nat} (g : GoodW l) {adj : Nat → List Nat} {fo : Nat → List Nat} (h : FoOk l adj (sds l) fo) {s : Nat} (hs : s ∈ sds l) {ys : List Str} (hp : ys.Perm ((fo s).map sg)) (hso : sortedS ys = true) : ys = ((sds l).filter fun m => decide (m ∈ fo s)).map sg := by
  refine sortedS_eq hso (hp.trans (List.Perm.map _ (perm_nd ?_ ((sds_nd g).filter _) fun x => ?_))) (pw_sg ((sds_rise g).filter _))
  · obtain ⟨rs, _, _, e⟩ := h s hs
    rw [e]
    exact byW_nd g _
  · rw [List.mem_filter, decide_eq_true_eq]
    exact ⟨fun hx => ⟨h.mem g hs hx, hx⟩, fun hx => hx.2⟩
section
variable {P : Program} {w : World} {K : PySem.W.Frag} {mg : Str → Option Value} {base : Heap}
def spChkFix (CF : Addr) : Sp := fun vs H Q E => ∃ l d adj fo, vs = [.ref d] ∧ GoodW l ∧ H d = some (.dK (foK (sds l) fo)) ∧ FoOk l adj (sds l) fo ∧
  match (sds l).find? (fxP fo) with
  | none => ∀ H', Same H H' → Q .non H'
  | some s => ∀ H' x, Same H H' → H x = none → H' x = some (.xd [("side", .str (sg s)), ("word", .str "fixed")]) → E (.ref CF) (some x) H'
set_option maxHeartbeats 1000000 in
theorem ok_chkFix {f fO CF fF CH fH : Addr} {fd fdO fdF fdH : FuncData} {k : Nat} (B : BM mg) (F : Fun K "check_fixed" "check_fixed" sChkFix f fd) (O : DF K mg "other" sOther ["side"] fO fdO)
    (T : HE K mg CH fH fdH) (X : XC K mg "Fixed" "Fixed.__init__" sFXinit "side" CF fF fdF) : FnOk P w K mg base (L2.CX P w) (k + 4) f fd ["forced_by"] (spChkFix CF) := by
  have GO : FnOk P w K mg base CX0 (k + 1) fO fdO ["side"] spOther := ok_other O.F
  have GF : FnOk P w K mg base CX0 (k + 2) fF fdF ["self", "side"] (sp1 K "side" "fixed") := ok_FX T X.F
  refine F.okX scChkFix (fun vs H Q E h => ?_) (fun cdv A outer s H vs Q E hr h => ?_)
  · obtain ⟨l, d, adj, fo, rfl, _⟩ := h
    rfl
  · obtain ⟨l, d, adj, fo, rfl, g, hd, ok, q⟩ := h
    refine ⟨_, pss_one (ps_for (passes_of rfl) rfl (pi_list (pe_callB (call_sortedD rfl) (by rfl) B.sorted (by decide +kernel) (pa_cons (pv 0) pa_nil))) (pg_name (i := 1) scChkFix.nd rfl (.inl rfl))
      (pss_one (ps_if (pt_cmpR op_in_sign (pe_call GO (hr.mono (by omega)) rfl O.g O.F.kp O.b .nil pass0 (pa_cons (pv 1) pa_nil)) (pe_dget (hu_of hr) (pv 0) (pv 1) (fun _ _ => rfl)) (by rfl))
        (pss_one (ps_raise rfl (takes_of rfl rfl rfl rfl) (pmk_oex X.O X.iC X.tI GF hr X.b .nil pass0 (by rfl) X.gC (pa_cons (pv 1) pa_nil)))) pss_nil))), ?_⟩
    refine ⟨_, rfl, d, _, (sds l).map sg, rfl, .inl hd, foK_keys _ _, by rw [List.length_map]; have := sds_len g; omega, fun ys p hp hso np => ⟨p, rfl, ⟨_, SqL.of upd_same⟩, ?_⟩⟩
    obtain rfl := sorted_sds g hp hso
    have wk := walk_list (K := K) (a := p) (xs := ((sds l).map sg).map V.str)
    rw [List.length_map, List.length_map] at wk
    refine for_it wk (fun i σ H' => ∃ y1, σ = [some (.ref d), y1] ∧ Same H H' ∧ H' p = some (.lst (((sds l).map sg).map V.str)) ∧ ∀ j t, j < i → (sds l)[j]? = some t → fxP fo t = false) ⟨_, rfl, same_upd np, upd_same, fun j t h => absurd h (Nat.not_lt_zero _)⟩ (fun i σ H' _ h => by obtain ⟨_, _, _, h, _⟩ := h; exact SqL.of h) ?_ ?_
    · rintro i x σ H1 H2 hi ⟨y1, rfl, sm, ep, no⟩ ⟨rfl, hx⟩
      rw [List.getElem?_map, List.getElem?_map] at hx
      obtain ⟨y, hy, rfl⟩ := Option.map_eq_some_iff.mp hx
      obtain ⟨c, hci, rfl⟩ := Option.map_eq_some_iff.mp hy
      have hc : c ∈ sds l := List.mem_of_getElem? hci
      refine ⟨_, rfl, c, rfl, sds_asc g hc, _, rfl, _, rfl, d, _, rfl, foK_get (sm _ _ hd) hc, swp c, _, rfl, rfl, _, rfl, ite2 (fun t => ?_) (fun t => ?_)⟩
      · have t : decide (swp c ∈ (tx (fo c)).cps.toList) = true := t
        rw [tx_list] at t
        rw [find_at hci no t] at q
        exact ⟨_, rfl, by show 1 ≤ 1000; decide, mk1 X.O X.hw X.hf fun x H4 s4 n4 e4 => q H4 x (sm_trans sm s4) (L2.Same.free sm n4) e4⟩
      · have t : ¬ decide (swp c ∈ (tx (fo c)).cps.toList) = true := t
        rw [tx_list] at t
        refine ⟨_, rfl, sm, ep, fun j u hj hu => ?_⟩
        rcases Nat.lt_or_ge j i with h | h
        · exact no j u h hu
        · obtain rfl : j = i := by omega
          rw [hci] at hu
          cases hu
          exact Bool.eq_false_iff.mpr t
    · rintro σ H1 ⟨y1, rfl, sm, _, no⟩
      rw [find_no no] at q
      exact q H1 sm
def spChkAl (CA : Addr) : Sp := fun vs H Q E => ∃ l d adj fo, vs = [.ref d] ∧ GoodW l ∧ H d = some (.dK (foK (sds l) fo)) ∧ FoOk l adj (sds l) fo ∧
  match (sds l).findSome? fun s => ((sds l).find? (alP fo s)).map fun t => (s, t) with
  | none => ∀ H', Same H H' → Q .non H'
  | some v => ∀ H' x, Same H H' → H x = none → H' x = some (.xd [("other", .str (sg v.2)), ("one", .str (sg v.1)), ("word", .str "alike")]) → E (.ref CA) (some x) H'
set_option maxHeartbeats 1000000 in
theorem ok_chkAl {f CA fA CH fH : Addr} {fd fdA fdH : FuncData} {k : Nat} (B : BM mg) (F : Fun K "check_alike" "check_alike" sChkAl f fd)
    (T : HE K mg CH fH fdH) (X : XC2 K mg CA fA fdA) : FnOk P w K mg base (L2.CX P w) (k + 4) f fd ["forced_by"] (spChkAl CA) := by
  have GA : FnOk P w K mg base CX0 (k + 2) fA fdA ["self", "one", "other"] (sp2 K) := ok_AL T X.F
  refine F.okX scChkAl (fun vs H Q E h => ?_) (fun cdv A outer s H vs Q E hr h => ?_)
  · obtain ⟨l, d, adj, fo, rfl, _⟩ := h
    rfl
  · obtain ⟨l, d, adj, fo, rfl, g, hd, ok, q⟩ := h
    refine ⟨_, pss_one (ps_for (passes_of rfl) rfl (pi_list (pe_callB (call_sortedD rfl) (by rfl) B.sorted (by decide +kernel) (pa_cons (pv 0) pa_nil))) (pg_name (i := 1) scChkAl.nd rfl (.inl rfl))
      (pss_one (ps_for (passes_of rfl) rfl (pi_list (pe_callB (cr_sortedT rfl) (by rfl) B.sorted (by decide +kernel) (pa_cons (pe_dget (hu_of hr) (pv 0) (pv 1) (fun _ _ => rfl)) pa_nil))) (pg_name (i := 2) scChkAl.nd rfl (.inl rfl))
        (pss_one (ps_if (PW.pt (pw_and (pt_cmpR op_ne (pv 2) (pv 1) (nomark _)) (pw_and1 (pt_cmpR op_in_sign (pv 1) (pe_dget (hu_of hr) (pv 0) (pv 2) (fun _ _ => rfl)) (by rfl)))))
          (pss_one (ps_raise rfl (takes_of rfl rfl rfl rfl) (pmk_oex X.O X.iC X.tI GA hr X.b .nil pass0 (by rfl) X.gC (pa_cons (pv 1) (pa_cons (pv 2) pa_nil))))) pss_nil))))), ?_⟩
    refine ⟨_, rfl, d, _, (sds l).map sg, rfl, .inl hd, foK_keys _ _, by rw [List.length_map]; have := sds_len g; omega, fun ys p hp hso np => ⟨p, rfl, ⟨_, SqL.of upd_same⟩, ?_⟩⟩
    obtain rfl := sorted_sds g hp hso
    have wk := walk_list (K := K) (a := p) (xs := ((sds l).map sg).map V.str)
    rw [List.length_map, List.length_map] at wk
    refine for_it wk (fun i σ H' => ∃ y1 y2, σ = [some (.ref d), y1, y2] ∧ Same H H' ∧ H' p = some (.lst (((sds l).map sg).map V.str)) ∧ ∀ j t, j < i → (sds l)[j]? = some t → (sds l).find? (alP fo t) = none) ⟨_, _, rfl, same_upd np, upd_same, fun j t h => absurd h (Nat.not_lt_zero _)⟩ (fun i σ H' _ h => by obtain ⟨_, _, _, _, h, _⟩ := h; exact SqL.of h) ?_ ?_
    · rintro i x σ H1 H2 hi ⟨y1, y2, rfl, sm, ep, no⟩ ⟨rfl, hx⟩
      rw [List.getElem?_map, List.getElem?_map] at hx
      obtain ⟨y, hy, rfl⟩ := Option.map_eq_some_iff.mp hx
      obtain ⟨c, hci, rfl⟩ := Option.map_eq_some_iff.mp hy
      have hc : c ∈ sds l := List.mem_of_getElem? hci
      refine ⟨_, rfl, _, rfl, d, _, rfl, foK_get (sm _ _ hd) hc, tx (fo c), rfl, by rw [tx_len]; have := ok.len g hc; omega, fun zs r hz hzo nr => ⟨r, rfl, ⟨_, SqL.of upd_same⟩, ?_⟩⟩
      rw [sgs_tx] at hz
      obtain rfl := sorted_fo g ok hc hz hzo
      generalize hfl : ((sds l).filter fun m => decide (m ∈ fo c)) = fl at nr ⊢
      have ef : fl.find? (fun m => decide (m ≠ c) && decide (c ∈ fo m)) = (sds l).find? (alP fo c) := by
        rw [← hfl, List.find?_filter]
        congr 1
        funext m
        unfold alP
        by_cases h : m ∈ fo c
        · simp [h]
        · simp [h]
      have flm : ∀ m ∈ fl, m ∈ sds l := fun m hm => by rw [← hfl] at hm; exact (List.mem_filter.mp hm).1
      have wk2 := walk_list (K := K) (a := r) (xs := (fl.map sg).map V.str)
      rw [List.length_map, List.length_map] at wk2
      have npr : p ≠ r := ne_of_none ep nr
      refine for_it wk2 (fun j σ H' => ∃ y2, σ = [some (.ref d), some (.str (sg c)), y2] ∧ Same H H' ∧ H' p = some (.lst (((sds l).map sg).map V.str)) ∧ H' r = some (.lst ((fl.map sg).map V.str)) ∧ ∀ u t, u < j → fl[u]? = some t → (decide (t ≠ c) && decide (c ∈ fo t)) = false) ⟨_, rfl, sm_upd sm nr, by rw [upd_ne npr]; exact ep, upd_same, fun u t h => absurd h (Nat.not_lt_zero _)⟩
        (fun i σ H' _ h => by obtain ⟨_, _, _, _, h, _⟩ := h; exact SqL.of h) ?_ ?_
      · rintro j x σ H3 H4 hj ⟨y2, rfl, sm3, ep3, er3, no2⟩ ⟨rfl, hx⟩
        rw [List.getElem?_map, List.getElem?_map] at hx
        obtain ⟨z, hz2, rfl⟩ := Option.map_eq_some_iff.mp hx
        obtain ⟨m, hmj, rfl⟩ := Option.map_eq_some_iff.mp hz2
        have hmL : m ∈ sds l := flm m (List.mem_of_getElem? hmj)
        have next : (decide (m ≠ c) && decide (c ∈ fo m)) = false → ∀ u t, u < j + 1 → fl[u]? = some t → (decide (t ≠ c) && decide (c ∈ fo t)) = false := fun hmf u t hu ht => by
          rcases Nat.lt_or_ge u j with h | h
          · exact no2 u t h ht
          · obtain rfl : u = j := by omega
            rw [hmj] at ht
            cases ht
            exact hmf
        refine ⟨_, rfl, _, rfl, rfl, _, rfl, ite2 (fun t1 => ?_) (fun t1 => ?_)⟩
        · refine ⟨_, rfl, _, rfl, _, rfl, d, _, rfl, foK_get (sm3 _ _ hd) hmL, c, _, rfl, rfl, _, rfl, ite2 (fun t => ?_) (fun t => ?_)⟩
          · have t : decide (c ∈ (tx (fo m)).cps.toList) = true := t
            rw [tx_list] at t
            have t2 : ¬ sg m = sg c := by simpa using t1
            have t0 : decide (m ≠ c) = true := decide_eq_true fun e => t2 (by rw [e])
            have e1 : fl.find? (fun m => decide (m ≠ c) && decide (c ∈ fo m)) = some m := find_at hmj no2 (by rw [t0, t]; rfl)
            rw [ef] at e1
            rw [findS_at (v := (c, m)) hci (fun j t hj ht => by rw [no j t hj ht]; rfl) (by rw [e1]; rfl)] at q
            exact ⟨_, rfl, _, rfl, by show 2 ≤ 1000; decide, mk2 X.O X.hw X.h1 X.h2 fun x H5 s5 n5 e5 => q H5 x (sm_trans sm3 s5) (L2.Same.free sm3 n5) e5⟩
          · have t : ¬ decide (c ∈ (tx (fo m)).cps.toList) = true := t
            rw [tx_list] at t
            exact ⟨_, rfl, sm3, ep3, er3, next (by rw [Bool.eq_false_iff.mpr t]; simp)⟩
        · have t2 : sg m = sg c := by simpa using t1
          have t0 : decide (m ≠ c) = false := by simpa using sg_inj t2
          exact iteF ⟨_, rfl, sm3, ep3, er3, next (by rw [t0]; rfl)⟩
      · rintro σ H3 ⟨y2, rfl, sm3, ep3, er3, no2⟩
        refine ⟨_, _, rfl, sm3, ep3, fun j u hj hu => ?_⟩
        rcases Nat.lt_or_ge j i with h | h
        · exact no j u h hu
        · obtain rfl : j = i := by omega
          rw [hci] at hu
          cases hu
          rw [← ef]
          exact find_no no2
    · rintro σ H1 ⟨y1, y2, rfl, sm, _, no⟩
      rw [findS_no fun j t hj ht => by rw [no j t hj ht]; rfl] at q
      exact q H1 sm
end
end NC
namespace NC
open PySem PySem.Spec PyProof.Rows L2
theorem first_none {l : List Nat} {bs : List (List Nat)} (h : firstBad l bs = none) : ∀ b ∈ bs, isBar l b = true := fun b hb => by
  obtain ⟨i, hi⟩ := List.getElem?_of_mem hb
  have hl := (List.getElem?_eq_some_iff.mp hi).1
  have q := List.find?_eq_none.mp h i (by simpa using hl)
  unfold badAt at q
  rw [List.getD_eq_getElem?_getD, hi] at q
  simp at q
  exact q.1
/-- all that a hall's making asks for in the text -/
structure Txt8 (K : PySem.W.Frag) (mg : Str → Option Value) (tw : Tok) (fOther fSides fByW fIsW fIsB fCW fCB fCS fSt fRe fAF fCF fCA : Addr) (dOther dSides dByW dIsW dIsB dCW dCB dCS dSt dRe dAF dCF dCA : FuncData)
    (CH iH CB iB CF iF CA iA : Addr) (eH eB eF eA : FuncData) : Prop where
  B : BM mg
  mW : mg "WIDEST" = some (.int 12 tw)
  O : DF K mg "other" sOther ["side"] fOther dOther
  S : DF K mg "sides_of" sSides ["walls"] fSides dSides
  Y : DF K mg "by_walls" sByWalls ["walls", "sides"] fByW dByW
  W : DF K mg "is_walls" sIsWalls ["walls"] fIsW dIsW
  I : DF K mg "is_bar" sIsBar ["walls", "bar"] fIsB dIsB
  cw : DF K mg "check_walls" sChkWalls ["walls"] fCW dCW
  cb : DF K mg "check_bars" sChkBars ["walls", "bars"] fCB dCB
  cs : DF K mg "check_side" sChkSide ["walls", "side"] fCS dCS
  st : DF K mg "straight_from" sStraight ["walls", "bars"] fSt dSt
  re : DF K mg "reached" sReached ["straight", "one"] fRe dRe
  af : DF K mg "all_forced" sAllF ["walls", "bars"] fAF dAF
  cf : DF K mg "check_fixed" sChkFix ["forced_by"] fCF dCF
  ca : DF K mg "check_alike" sChkAl ["forced_by"] fCA dCA
  he : HE K mg CH iH eH
  xb : XC K mg "BadBar" "BadBar.__init__" sBBinit "at" CB iB eB
  xf : XC K mg "Fixed" "Fixed.__init__" sFXinit "side" CF iF eF
  xa : XC2 K mg CA iA eA
end NC
namespace NC
open PySem PySem.Spec PyProof.Rows L2
abbrev sHinit : Stmt := inClass (topS 29) 0
abbrev sHbars : Stmt := inClass (topS 29) 2
theorem scHinit : FnScope ["self", "walls", "bars", "forced_by"] ["self", "walls", "bars"] (defScope sHinit) := ⟨rfl, rfl, rfl, by decide +kernel, rfl, by decide +kernel, by decide +kernel⟩
theorem scHbars : FnScope ["self"] ["self"] (defScope sHbars) := ⟨rfl, rfl, rfl, by decide +kernel, rfl, by decide +kernel, by decide +kernel⟩
/-- the class Hall -/
structure HC (K : PySem.W.Frag) (mg : Str → Option Value) (C fi fb : Addr) (di db : FuncData) : Prop where
  gC : mg "Hall" = some (.ref C)
  cl : Cls K C
  mks : Mk K C fi
  F : ∃ dvs, FunD K "__init__" "Hall.__init__" (defArgs sHinit) (defBody sHinit) (defScope sHinit) dvs [] fi di
  b : Binds K di ["self", "walls", "bars"] []
  n1 : NoAttr K C "wall_text"
  n2 : NoAttr K C "bar_list"
  n3 : NoAttr K C "forced_by"
  mb : Meth K C "bars" fb
  Fb : Fun K "bars" "Hall.bars" sHbars fb db
  bb : Binds K db ["self"] []
/-- all but x stays -/
def SmX (x : Addr) (H H' : Hp) : Prop := ∀ b o, b ≠ x → H b = some o → H' b = some o
/-- a hall at x of the walls l, its bars' list at sb -/
structure HallAt (C : Addr) (H : Hp) (x dx sb D : Addr) (l : List Nat) (ys : List Str) (fo : Nat → List Nat) : Prop where
  x : H x = some (.ins C dx [("wall_text", .str (tx l)), ("bar_list", .ref sb), ("forced_by", .ref D)])
  sb : H sb = some (.lst (ys.map V.str))
  D : H D = some (.dK (foK (sds l) fo))
section
variable {P : Program} {w : World} {K : PySem.W.Frag} {mg : Str → Option Value} {base : Heap} {tw : Tok} {fOther fSides fByW fIsW fIsB fCW fCB fCS fSt fRe fAF fCF fCA : Addr} {dOther dSides dByW dIsW dIsB dCW dCB dCS dSt dRe dAF dCF dCA : FuncData}
    {CH iH CB iB CF iF CA iA : Addr} {eH eB eF eA : FuncData} {C fi fb : Addr} {di db : FuncData}
def spHinit (K : PySem.W.Frag) (C CB CF CA : Addr) : Sp := fun vs H Q E => ∃ x dx l a bs, vs = [.ref x, .str (tx l), .ref a] ∧ H x = some (.ins C dx []) ∧ GoodW l ∧ BarsOk bs ∧ bs.length < 64 ∧ SqL K H a ((bs.map tx).map V.str) ∧
  match firstBad l bs with
  | some i => ∀ H' d, Same H H' → H d = none → H' d = some (.xd [("at", .int (i : Nat)), ("word", .str "badbar")]) → E (.ref CB) (some d) H'
  | none => ∀ fo, FoOk l (adjOf bs) (sds l) fo → match vdOf (sds l) (fxP fo) (alP fo) with
    | .fixed s => ∀ H' d, Same H H' → H d = none → H' d = some (.xd [("side", .str (sg s)), ("word", .str "fixed")]) → E (.ref CF) (some d) H'
    | .alike s m => ∀ H' d, Same H H' → H d = none → H' d = some (.xd [("other", .str (sg m)), ("one", .str (sg s)), ("word", .str "alike")]) → E (.ref CA) (some d) H'
    | .ok => ∀ H' sb D ys, SmX x H H' → H sb = none → H D = none → HallAt C H' x dx sb D l ys fo → ys.Perm (bs.map tx) → sortedS ys = true → Q .non H'
set_option maxHeartbeats 1000000 in
theorem ok_Hinit {k : Nat} (Z : HC K mg C fi fb di db) (T : Txt8 K mg tw fOther fSides fByW fIsW fIsB fCW fCB fCS fSt fRe fAF fCF fCA dOther dSides dByW dIsW dIsB dCW dCB dCS dSt dRe dAF dCF dCA CH iH CB iB CF iF CA iA eH eB eF eA) :
    FnOk P w K mg base (L2.CX P w) (k + 5) fi di ["self", "walls", "bars"] (spHinit K C CB CF CA) := by
  have GW := ok_chkWalls (P := P) (w := w) (base := base) (k := k) T.B T.mW T.cw.F T.W
  have GB : FnOk P w K mg base (L2.CX P w) (k + 4) fCB dCB ["walls", "bars"] (spChkBars K CB) := ok_chkBars T.B T.cb.F T.I T.S T.he T.xb
  have GA : FnOk P w K mg base CX0 (k + 3) fAF dAF ["walls", "bars"] (spAllF K) := ok_allF T.B T.af.F T.st T.re T.Y T.S T.O
  have GF : FnOk P w K mg base (L2.CX P w) (k + 4) fCF dCF ["forced_by"] (spChkFix CF) := ok_chkFix T.B T.cf.F T.O T.he T.xf
  have GL : FnOk P w K mg base (L2.CX P w) (k + 4) fCA dCA ["forced_by"] (spChkAl CA) := ok_chkAl T.B T.ca.F T.he T.xa
  obtain ⟨dvs, ZF⟩ := Z.F
  refine ZF.ok scHinit (fun vs H Q E h => ?_) (fun cdv A outer s H vs Q E hr h => ?_)
  · obtain ⟨x, dx, l, a, bs, rfl, _⟩ := h
    rfl
  · obtain ⟨x, dx, l, a, bs, rfl, hx, g, hbs, hbl, hS, q⟩ := h
    have r2 : Room (k + 2) _ := hr.mono (by omega)
    have r3 : Room (k + 3) _ := hr.mono (by omega)
    refine ⟨_, pss_cons (ps_expr (pe_call GW r2 rfl T.cw.g T.cw.F.kp T.cw.b .nil pass0 (pa_cons (pv 1) pa_nil)))
      (pss_cons (ps_expr (pe_call (E := E) GB hr rfl T.cb.g T.cb.F.kp T.cb.b .nil (passes_call (takes_of rfl rfl rfl rfl) (fun _ _ _ _ h => h)) (pa_cons (pv 1) (pa_cons (pv 2) pa_nil))))
      (pss_cons (ps_set (i := 3) scHinit.nd rfl (.inl rfl) (pe_call GA r3 rfl T.af.g T.af.F.kp T.af.b .nil pass0 (pa_cons (pv 1) (pa_cons (pv 2) pa_nil))))
      (pss_cons (ps_expr (pe_call (E := E) GF hr rfl T.cf.g T.cf.F.kp T.cf.b .nil (passes_call (takes_of rfl rfl rfl rfl) (fun _ _ _ _ h => h)) (pa_cons (pv 3) pa_nil)))
      (pss_cons (ps_expr (pe_call (E := E) GL hr rfl T.ca.g T.ca.F.kp T.ca.b .nil (passes_call (takes_of rfl rfl rfl rfl) (fun _ _ _ _ h => h)) (pa_cons (pv 3) pa_nil)))
      (pss_cons (ps_fld (pv 0) (pv 1) rfl)
      (pss_cons (ps_fld (pv 0) (pe_callB cr_sortedS (by rfl) T.B.sorted (by decide +kernel) (pa_cons (pv 2) pa_nil)) rfl)
      (pss_one (ps_fld (pv 0) (pv 3) rfl)))))))), ?_⟩
    refine ⟨_, rfl, l, rfl, g, fun H1 s1 => ⟨_, rfl, _, rfl, l, a, bs, rfl, g, hbs, by omega, .inl (sm_l s1 hS), ?_⟩⟩
    cases fbd : firstBad l bs with
    | some i =>
      rw [fbd] at q
      intro H' d sm nd e
      exact q H' d (sm_trans s1 sm) (L2.Same.free s1 nd) e
    | none =>
      rw [fbd] at q
      have hbar := first_none fbd
      intro H2 s2
      have s12 := sm_trans s1 s2
      refine ⟨_, rfl, _, rfl, l, a, bs, rfl, g, hbar, by omega, .inl (sm_l s12 hS), fun H3 D fo s3 nD eD ok => ?_⟩
      have s13 := sm_trans s12 s3
      have q := q fo ok
      unfold vdOf at q
      refine ⟨_, rfl, l, D, adjOf bs, fo, rfl, g, eD, ok, ?_⟩
      cases h1 : (sds l).find? (fxP fo) with
      | some s0 =>
        rw [h1] at q
        exact fun H' d sm nd e => q H' d (sm_trans s13 sm) (L2.Same.free s13 nd) e
      | none =>
      rw [h1] at q
      intro H4 s4
      have s14 := sm_trans s13 s4
      refine ⟨_, rfl, l, D, adjOf bs, fo, rfl, g, s4 _ _ eD, ok, ?_⟩
      cases h2 : (sds l).findSome? fun s => ((sds l).find? (alP fo s)).map fun t => (s, t) with
      | some v =>
        rw [h2] at q
        exact fun H' d sm nd e => q H' d (sm_trans s14 sm) (L2.Same.free s14 nd) e
      | none =>
      rw [h2] at q
      intro H5 s5
      have s15 := sm_trans s14 s5
      have nxa : ∀ o, Same H H5 → SqL K (upd H5 x o) a ((bs.map tx).map V.str) := fun o sm => by
        have hS5 := sm_l sm hS
        rcases hS5 with (z | ⟨ob, z⟩) | z
        · exact .inl (.inl (by rw [upd_ne (ne_of z (sm _ _ hx) fun e => by cases e)]; exact z))
        · exact .inl (.inr ⟨ob, by rw [upd_ne (ne_of z (sm _ _ hx) fun e => by cases e)]; exact z⟩)
        · exact .inr z
      refine ⟨_, rfl, _, rfl, x, C, dx, _, rfl, s15 _ _ hx, Z.cl, Z.n1, by decide, ?_⟩
      refine ⟨_, rfl, a, bs.map tx, rfl, nxa _ s15, by rw [List.length_map]; exact hbl, fun ys p hp hs np => ?_⟩
      have npx : x ≠ p := ne_of_none upd_same np
      refine ⟨_, rfl, x, C, dx, _, rfl, by rw [upd_ne npx, upd_same], Z.cl, Z.n2, by show 1 < 1000; decide, ?_⟩
      refine ⟨_, rfl, _, rfl, x, C, dx, _, rfl, upd_same, Z.cl, Z.n3, by show 2 < 1000; decide, ?_⟩
      have np5 : H5 p = none := by
        rw [upd_ne (Ne.symm npx)] at np
        exact np
      have eD5 : H5 D = some (.dK (foK (sds l) fo)) := s5 _ _ (s4 _ _ eD)
      have nDx : D ≠ x := ne_of eD5 (s15 _ _ hx) fun z => by cases z
      have nDp : D ≠ p := ne_of_none eD5 np5
      refine q _ p D ys (fun b o hb e => ?_) (L2.Same.free s15 np5) (L2.Same.free s12 nD) ⟨upd_same, ?_, by rw [upd_ne nDx, upd_ne nDx, upd_ne nDp, upd_ne nDx]; exact eD5⟩ hp hs
      · have e5 := s15 _ _ e
        rw [upd_ne hb, upd_ne hb, upd_ne (ne_of_none e5 np5), upd_ne hb]
        exact e5
      · rw [upd_ne (Ne.symm npx), upd_ne (Ne.symm npx), upd_same]
/-! ### bars() -/
def spHbars (C : Addr) : Sp := fun vs H Q _ => ∃ x dx sb D l ys fo, vs = [.ref x] ∧ HallAt C H x dx sb D l ys fo ∧ ∀ p, H p = none → Q (.ref p) (upd H p (.lst (ys.map V.str)))
theorem ok_Hbars {k : Nat} (B : BM mg) (Z : HC K mg C fi fb di db) : FnOk P w K mg base CX0 (k + 1) fb db ["self"] (spHbars C) := by
  refine Z.Fb.ok scHbars (fun vs H Q E h => ?_) (fun cdv A outer s H vs Q E hr h => ?_)
  · obtain ⟨x, dx, sb, D, l, ys, fo, rfl, _⟩ := h
    rfl
  · obtain ⟨x, dx, sb, D, l, ys, fo, rfl, hA, q⟩ := h
    refine ⟨_, pss_one (ps_ret (pe_callTy call_list_of (by rfl) B.list (by decide +kernel) (pa_cons (pe_fld (pv 0) rfl) pa_nil))), ?_⟩
    exact ⟨_, rfl, x, C, dx, _, .ref sb, rfl, hA.x, Z.cl, Z.n2, rfl, sb, _, rfl, .inl (SqL.of hA.sb), q⟩
end
end NC
namespace NC
open PySem PySem.Spec PyProof.Rows L2
abbrev sStart : Stmt := topS 57
abbrev sDraw : Stmt := topS 58
abbrev sOf : Stmt := topS 59
abbrev sLetters : Stmt := topS 60
theorem scStart : FnScope ["_law_script", "_law_seed", "_law_cell"] ["_law_script"] (defScope sStart) := ⟨rfl, rfl, rfl, by decide +kernel, rfl, by decide +kernel, by decide +kernel⟩
theorem scDraw : FnScope ["_law_d", "_law_many_it", "_law_cell", "_law_digit", "_law_mix"] ["_law_d", "_law_many_it"] (defScope sDraw) := ⟨rfl, rfl, rfl, by decide +kernel, rfl, by decide +kernel, by decide +kernel⟩
theorem scOf : FnScope ["_law_d", "_law_some"] ["_law_d", "_law_some"] (defScope sOf) := ⟨rfl, rfl, rfl, by decide +kernel, rfl, by decide +kernel, by decide +kernel⟩
theorem scLetters : FnScope [] [] (defScope sLetters) := ⟨rfl, rfl, rfl, by decide +kernel, rfl, by decide +kernel, by decide +kernel⟩
def Dr (H : Hp) (d : Addr) : Prop := ∃ (c : Addr) (ns : List Int) (i a b e : Int), H d = some (.lst [.ref c, .int i, .int a, .int b, .int e]) ∧ H c = some (.lst (ns.map V.int)) ∧ 0 ≤ i
theorem SmX.refl (x : Addr) (H : Hp) : SmX x H H := fun _ _ _ h => h
theorem SmX.trans {x : Addr} {H H1 H2 : Hp} (a : SmX x H H1) (b : SmX x H1 H2) : SmX x H H2 := fun c o n h => b c o n (a c o n h)
theorem SmX.of {x : Addr} {H H1 : Hp} (a : Same H H1) : SmX x H H1 := fun c o _ h => a c o h
theorem SmX.upd {x : Addr} {H : Hp} {o : HO} : SmX x H (L2.upd H x o) := fun c z n h => by rw [upd_ne n]; exact h
/-- all but d's list stays, and the first of d's list too -/
def HeadC (H : Hp) (d c : Addr) : Prop := ∃ r, H d = some (.lst (.ref c :: r))
def SmD (d : Addr) (H H' : Hp) : Prop := SmX d H H' ∧ ∀ c, HeadC H d c → HeadC H' d c
theorem SmD.refl (x : Addr) (H : Hp) : SmD x H H := ⟨SmX.refl x H, fun _ h => h⟩
theorem SmD.trans {x : Addr} {H H1 H2 : Hp} (a : SmD x H H1) (b : SmD x H1 H2) : SmD x H H2 := ⟨a.1.trans b.1, fun c h => b.2 c (a.2 c h)⟩
theorem SmD.of {x : Addr} {H H1 : Hp} (a : Same H H1) : SmD x H H1 := ⟨SmX.of a, fun _ ⟨r, h⟩ => ⟨r, a _ _ h⟩⟩
theorem SmD.upd {x c : Addr} {H : Hp} {r r' : List V} (h : H x = some (.lst (.ref c :: r))) : SmD x H (L2.upd H x (.lst (.ref c :: r'))) := ⟨SmX.upd, fun c2 ⟨r2, h2⟩ => by
  rw [h] at h2
  have e : c = c2 := by
    injection h2 with h3
    injection h3 with h3
    injection h3 with h3 _
    injection h3
  exact ⟨r', by rw [← e]; exact upd_same⟩⟩
theorem dr_ne {H : Hp} {c d : Addr} {ns : List Int} {x : Addr} {i a b e : Int} (h1 : H d = some (.lst [.ref x, .int i, .int a, .int b, .int e])) (h2 : H c = some (.lst (ns.map V.int))) : c ≠ d := ne_of h2 h1 fun z => by
  have z2 : ns.map V.int = [.ref x, .int i, .int a, .int b, .int e] := by injection z
  cases ns with
  | nil => cases z2
  | cons n r =>
    rw [List.map_cons] at z2
    injection z2 with z3 _
    cases z3
theorem Dr.same {H H' : Hp} {d : Addr} (h : Dr H d) (e : Same H H') : Dr H' d := by
  obtain ⟨c, ns, i, a, b, f, h1, h2, h3⟩ := h
  exact ⟨c, ns, i, a, b, f, e _ _ h1, e _ _ h2, h3⟩
section
variable {P : Program} {w : World} {K : PySem.W.Frag} {mg : Str → Option Value} {base : Heap}
def spDraw : Sp := fun vs H Q _ => ∃ d n, vs = [.ref d, .int n] ∧ Dr H d ∧ 1 ≤ n ∧ n ≤ 1000000000 ∧ ∀ H' v, SmD d H H' → Dr H' d → 0 ≤ v → v < n → Q (.int v) H'
set_option maxHeartbeats 1000000 in
theorem ok_draw {f : Addr} {fd : FuncData} {k : Nat} (B : BM mg) (F : Fun K "_law_draw" "_law_draw" sDraw f fd) : FnOk P w K mg base CX0 (k + 1) f fd ["_law_d", "_law_many_it"] spDraw := by
  refine F.ok scDraw (fun vs H Q E h => ?_) (fun cdv A outer s H vs Q E hr h => ?_)
  · obtain ⟨d, n, rfl, _⟩ := h
    rfl
  · obtain ⟨d, n, rfl, D, hn1, hn2, q⟩ := h
    refine ⟨_, C8.pss_cut (ps_if (PW.pt (pw_and (pt_cmpR op_lt (pe_ix ix_list (pv 0) pe_int (fun _ _ => rfl)) (pv 1) (nomark _))
        (pw_and1 (pt_cmpR op_lt (pe_ix ix_list (pv 0) pe_int (fun _ _ => rfl)) (pe_callB call_len_seq (by rfl) B.len PySem.boot_len (pa_cons (pe_ix ix_list (pv 0) pe_int (fun _ _ => rfl)) pa_nil)) (nomark _)))))
      (pss_cons (ps_set (i := 2) scDraw.nd rfl (.inl rfl) (pe_ix ix_list (pe_ix ix_list (pv 0) pe_int (fun _ _ => rfl)) (pe_ix ix_list (pv 0) pe_int (fun _ _ => rfl)) (fun _ _ => rfl)))
      (pss_cons (ps_asg (pe_op op_add (pe_ix ix_list (pv 0) pe_int (fun _ _ => rfl)) pe_int) (pg_sub (pv 0) pe_int set_list))
      (pss_cons (ps_asg (pe_ifExp (pt_cmpR op_ge (pv 2) (pe_op op_pow pe_int pe_int) (nomark _)) (pv 2) pe_int) (pg_sub (pv 0) pe_int set_list))
      (pss_one (ps_asg (pe_op op_mod (pe_op op_add (pe_op op_add (pe_op op_mul (pe_ix ix_list (pv 0) pe_int (fun _ _ => rfl)) pe_int) (pe_op op_mod (pv 2) pe_int)) pe_int) pe_int) (pg_sub (pv 0) pe_int set_list)))))) pss_nil)
      (pss_cons (ps_if (pt_cmpR op_ge (pe_ix ix_list (pv 0) pe_int (fun _ _ => rfl)) (pv 1) (nomark _))
        (pss_cons (ps_set (i := 3) scDraw.nd rfl (.inl rfl) (pe_op op_mod (pe_ix ix_list (pv 0) pe_int (fun _ _ => rfl)) (pv 1)))
        (pss_cons (ps_asg (pe_op op_fdiv (pe_ix ix_list (pv 0) pe_int (fun _ _ => rfl)) (pv 1)) (pg_sub (pv 0) pe_int set_list))
        (pss_one (ps_ret (pv 3))))) pss_nil)
      (pss_cons (ps_asg (pe_op op_add (pe_ix ix_list (pv 0) pe_int (fun _ _ => rfl)) pe_int) (pg_sub (pv 0) pe_int set_list))
      (pss_cons (ps_set (i := 4) scDraw.nd rfl (.inl rfl) (pe_op op_add (pe_op op_add (pe_op op_mul (pe_ix ix_list (pv 0) pe_int (fun _ _ => rfl)) pe_int) (pe_op op_mul (pe_ix ix_list (pv 0) pe_int (fun _ _ => rfl)) pe_int)) pe_int))
      (pss_cons (ps_set (i := 4) scDraw.nd rfl (.inl rfl) (pe_op op_add (pe_op op_mul (pv 4) (pe_op op_add (pe_op op_mod (pv 4) pe_int) pe_int)) (pe_op op_mul (pe_ix ix_list (pv 0) pe_int (fun _ _ => rfl)) pe_int)))
      (pss_cons (ps_asg (pe_op op_mod (pv 4) pe_int) (pg_sub (pv 0) pe_int set_list))
      (pss_one (ps_ret (pe_op op_mod (pe_op op_add (pe_op op_fdiv (pe_ix ix_list (pv 0) pe_int (fun _ _ => rfl)) pe_int) (pe_op op_mul (pe_op op_mod (pe_ix ix_list (pv 0) pe_int (fun _ _ => rfl)) pe_int) pe_int)) (pv 1))))))))), ?_⟩
    obtain ⟨c, ns, i, a, b, e, hd, hc, hi⟩ := D
    have nc := dr_ne hd hc
    refine ⟨fun σ H' => ∃ y2 y3 y4, σ = [some (.ref d), some (.int n), y2, y3, y4] ∧ SmD d H H' ∧ Dr H' d, ?_, ?_⟩
    · refine ⟨_, rfl, d, _, 2, .int a, rfl, rfl, SqL.of hd, rfl, _, rfl, _, _, rfl, rfl, _, rfl, ite2 (fun t1 => ?_) (fun t1 => ?_)⟩
      · refine ⟨_, rfl, d, _, 1, .int i, rfl, rfl, SqL.of hd, rfl, _, rfl, d, _, 0, .ref c, rfl, rfl, SqL.of hd, rfl, c, _, rfl, .inl (SqL.of hc), _, _, rfl, rfl, _, rfl, ite2 (fun t2 => ?_) (fun t2 => ?_)⟩
        · have hil : i < (ns.length : Int) := by
            have := of_decide_eq_true t2
            rw [List.length_map] at this
            exact this
          obtain ⟨j, rfl⟩ := Int.eq_ofNat_of_zero_le hi
          have hjl : j < ns.length := by omega
          have hat : (ns.map V.int)[j]? = some (.int ns[j]) := by rw [List.getElem?_map, List.getElem?_eq_getElem hjl]; rfl
          refine ⟨_, rfl, d, _, 0, .ref c, rfl, rfl, SqL.of hd, rfl, _, rfl, d, _, 1, .int j, rfl, rfl, SqL.of hd, rfl, c, _, j, .int ns[j], rfl, rfl, SqL.of hc, atI_nat hat, ?_⟩
          generalize ns[j] = z
          refine ⟨_, rfl, d, _, 1, .int j, rfl, rfl, SqL.of hd, rfl, _, _, rfl, rfl, _, rfl, d, _, 1, 1, rfl, rfl, hd, rfl, ?_⟩
          have fin : ∀ (H2 : Hp) (z2 : Int), SmD d H H2 → H2 d = some (.lst [.ref c, .int ((j : Int) + 1), .int z2, .int b, .int e]) →
              ∃ H3, SmD d H H3 ∧ Dr H3 d ∧ H3 = upd H2 d (.lst ([.ref c, .int ((j : Int) + 1), .int z2, .int b, .int e].set 3 (.int ((b * 69621 + z % 998244353 + 1) % 2147483647)))) := fun H2 z2 s2 e2 =>
            ⟨_, s2.trans (SmD.upd e2), ⟨c, ns, _, _, _, _, upd_same, by rw [upd_ne nc]; exact s2.1 _ _ nc hc, by omega⟩, rfl⟩
          refine ⟨_, rfl, _, _, rfl, rfl, ⟨by decide, by decide, by decide⟩, _, _, rfl, rfl, _, rfl, ite2 (fun t3 => ?_) (fun t3 => ?_)⟩
          · refine ⟨_, rfl, _, rfl, d, _, 2, 2, rfl, rfl, upd_same, rfl, ?_⟩
            rw [L2.upd_upd]
            obtain ⟨H3, a1, a2, a3⟩ := fin (upd H d (.lst [.ref c, .int ((j : Int) + 1), .int z, .int b, .int e])) z (SmD.upd hd) upd_same
            refine ⟨_, rfl, d, _, 3, .int b, rfl, rfl, SqL.of upd_same, rfl, _, _, rfl, rfl, .inr ⟨by decide, by decide⟩, _, rfl, _, _, rfl, rfl, (by show (0 : Int) < 998244353; decide), _, _, rfl, rfl, _, _, rfl, rfl, _, _, rfl, rfl, (by show (0 : Int) < 2147483647; decide), _, rfl, d, _, 3, 3, rfl, rfl, upd_same, rfl, ?_⟩
            exact ⟨_, _, _, rfl, by rw [a3] at a1; exact a1, by rw [a3] at a2; exact a2⟩
          · refine ⟨_, rfl, d, _, 2, 2, rfl, rfl, upd_same, rfl, ?_⟩
            rw [L2.upd_upd]
            obtain ⟨H3, a1, a2, a3⟩ := fin (upd H d (.lst [.ref c, .int ((j : Int) + 1), .int 0, .int b, .int e])) 0 (SmD.upd hd) upd_same
            refine ⟨_, rfl, d, _, 3, .int b, rfl, rfl, SqL.of upd_same, rfl, _, _, rfl, rfl, .inr ⟨by decide, by decide⟩, _, rfl, _, _, rfl, rfl, (by show (0 : Int) < 998244353; decide), _, _, rfl, rfl, _, _, rfl, rfl, _, _, rfl, rfl, (by show (0 : Int) < 2147483647; decide), _, rfl, d, _, 3, 3, rfl, rfl, upd_same, rfl, ?_⟩
            exact ⟨_, _, _, rfl, by rw [a3] at a1; exact a1, by rw [a3] at a2; exact a2⟩
        · exact ⟨_, _, _, rfl, SmD.refl _ _, c, ns, i, a, b, e, hd, hc, hi⟩
      · exact iteF ⟨_, _, _, rfl, SmD.refl _ _, c, ns, i, a, b, e, hd, hc, hi⟩
    · rintro σ H1 ⟨y2, y3, y4, rfl, s1, c1, ns1, i1, a1, b1, e1, hd1, hc1, hi1⟩
      have nc1 := dr_ne hd1 hc1
      refine ⟨_, rfl, d, _, 2, .int a1, rfl, rfl, SqL.of hd1, rfl, _, rfl, _, _, rfl, rfl, _, rfl, ite2 (fun t1 => ?_) (fun t1 => ?_)⟩
      · refine ⟨_, rfl, d, _, 2, .int a1, rfl, rfl, SqL.of hd1, rfl, _, rfl, _, _, rfl, rfl, (by show 0 < n; omega), ?_⟩
        refine ⟨_, rfl, d, _, 2, .int a1, rfl, rfl, SqL.of hd1, rfl, _, rfl, _, _, rfl, rfl, ⟨by omega, by omega⟩, _, rfl, d, _, 2, 2, rfl, rfl, hd1, rfl, ?_⟩
        refine ⟨_, rfl, q _ _ (s1.trans (SmD.upd hd1)) ⟨c1, ns1, _, _, _, _, upd_same, by rw [upd_ne nc1]; exact hc1, hi1⟩ (Int.emod_nonneg _ (by omega)) (Int.emod_lt_of_pos _ (by omega))⟩
      · refine ⟨_, rfl, d, _, 4, .int e1, rfl, rfl, SqL.of hd1, rfl, _, _, rfl, rfl, _, rfl, d, _, 4, 4, rfl, rfl, hd1, rfl, ?_⟩
        have hd2 : (upd H1 d (.lst ([.ref c1, .int i1, .int a1, .int b1, .int e1].set 4 (.int (e1 + 1))))) d = some (.lst [.ref c1, .int i1, .int a1, .int b1, .int (e1 + 1)]) := upd_same
        refine ⟨_, rfl, d, _, 3, .int b1, rfl, rfl, SqL.of hd2, rfl, _, _, rfl, rfl, .inr ⟨by decide, by decide⟩, _, rfl, d, _, 4, .int (e1 + 1), rfl, rfl, SqL.of hd2, rfl, _, _, rfl, rfl, .inr ⟨by decide, by decide⟩, _, _, rfl, rfl, _, _, rfl, rfl, ?_⟩
        have m1 : 0 ≤ (b1 * 16807 + (e1 + 1) * 40692 + 7) % 65521 := Int.emod_nonneg _ (by decide)
        have m2 : (b1 * 16807 + (e1 + 1) * 40692 + 7) % 65521 < 65521 := Int.emod_lt_of_pos _ (by decide)
        refine ⟨_, rfl, _, rfl, _, _, rfl, rfl, (by show (0 : Int) < 65521; decide), _, _, rfl, rfl, _, _, rfl, rfl, .inr ⟨by show -(2 ^ 64) < (b1 * 16807 + (e1 + 1) * 40692 + 7) % 65521 + 3; omega, by show (b1 * 16807 + (e1 + 1) * 40692 + 7) % 65521 + 3 < 2 ^ 64; omega⟩, _, rfl, d, _, 4, .int (e1 + 1), rfl, rfl, SqL.of hd2, rfl, _, _, rfl, rfl, .inr ⟨by decide, by decide⟩, _, _, rfl, rfl, ?_⟩
        refine ⟨_, rfl, _, _, rfl, rfl, (by show (0 : Int) < 2147483629; decide), _, rfl, d, _, 3, 3, rfl, rfl, hd2, rfl, ?_⟩
        have hd3 : (upd (upd H1 d (.lst ([.ref c1, .int i1, .int a1, .int b1, .int e1].set 4 (.int (e1 + 1))))) d (.lst ([.ref c1, .int i1, .int a1, .int b1, .int (e1 + 1)].set 3 (.int (((b1 * 16807 + (e1 + 1) * 40692 + 7) * ((b1 * 16807 + (e1 + 1) * 40692 + 7) % 65521 + 3) + (e1 + 1) * 9176) % 2147483629))))) d = some (.lst [.ref c1, .int i1, .int a1, .int (((b1 * 16807 + (e1 + 1) * 40692 + 7) * ((b1 * 16807 + (e1 + 1) * 40692 + 7) % 65521 + 3) + (e1 + 1) * 9176) % 2147483629), .int (e1 + 1)]) := upd_same
        refine ⟨_, rfl, d, _, 3, .int (((b1 * 16807 + (e1 + 1) * 40692 + 7) * ((b1 * 16807 + (e1 + 1) * 40692 + 7) % 65521 + 3) + (e1 + 1) * 9176) % 2147483629), rfl, rfl, SqL.of hd3, rfl, _, _, rfl, rfl, ⟨by decide, by decide⟩, _, rfl, d, _, 3, .int (((b1 * 16807 + (e1 + 1) * 40692 + 7) * ((b1 * 16807 + (e1 + 1) * 40692 + 7) % 65521 + 3) + (e1 + 1) * 9176) % 2147483629), rfl, rfl, SqL.of hd3, rfl, _, _, rfl, rfl, (by show (0 : Int) < 8191; decide), _, _, rfl, rfl, .inr ⟨by decide, by decide⟩, _, _, rfl, rfl, _, rfl, _, _, rfl, rfl, (by show 0 < n; omega), ?_⟩
        refine q _ _ ((s1.trans (SmD.upd hd1)).trans (SmD.upd hd2)) ⟨c1, ns1, _, _, _, _, hd3, by rw [upd_ne nc1, upd_ne nc1]; exact hc1, hi1⟩ (Int.emod_nonneg _ (by omega)) (Int.emod_lt_of_pos _ (by omega))
end
end NC
namespace NC
open PySem PySem.Spec PyProof.Rows L2
def ltrs : List Nat := (List.range 26).map (· + 97)
theorem ltrs_eq : Str.ofString "abcdefghijklmnopqrstuvwxyz" = tx ltrs := by decide +kernel
theorem ltrs_at {i c : Nat} (h : ltrs[i]? = some c) : c = 97 + i ∧ i < 26 := by
  unfold ltrs at h
  rw [List.getElem?_map] at h
  obtain ⟨j, hj, e⟩ := Option.map_eq_some_iff.mp h
  obtain ⟨h1, h2⟩ := List.getElem?_eq_some_iff.mp hj
  rw [List.getElem_range] at h2
  rw [List.length_range] at h1
  omega
theorem smx_l {K : PySem.W.Frag} {d : Addr} {H H' : Hp} {a : Addr} {xs : List V} (e : SmX d H H') (n : a ≠ d) (h : SqL K H a xs) : SqL K H' a xs := by
  rcases h with (h | ⟨o, h⟩) | h
  · exact .inl (.inl (e _ _ n h))
  · exact .inl (.inr ⟨o, e _ _ n h⟩)
  · exact .inr h
theorem len_v {n : Nat} : V.int ((n : Nat) : Int) = V.int (n : Int) := rfl
section
variable {P : Program} {w : World} {K : PySem.W.Frag} {mg : Str → Option Value} {base : Heap}
/-! ### _law_start -/
def spStart (K : PySem.W.Frag) : Sp := fun vs H Q _ => ∃ (a : Addr) (ns : List Int), vs = [.ref a] ∧ SqL K H a (ns.map V.int) ∧ ∀ H' d, Same H H' → H d = none → Dr H' d → Q (.ref d) H'
theorem ok_start {f : Addr} {fd : FuncData} {k : Nat} (B : BM mg) (F : Fun K "_law_start" "_law_start" sStart f fd) : FnOk P w K mg base CX0 (k + 1) f fd ["_law_script"] (spStart K) := by
  refine F.ok scStart (fun vs H Q E h => ?_) (fun cdv A outer s H vs Q E hr h => ?_)
  · obtain ⟨a, ns, rfl, _⟩ := h
    rfl
  · obtain ⟨a, ns, rfl, hS, q⟩ := h
    refine ⟨_, pss_cons (ps_set (i := 1) scStart.nd rfl (.inl rfl) pe_int)
      (pss_cons (ps_for PassesOwn.never rfl (pi_list (pe_slice sl_list (pv 0) po_none (po_some pe_int))) (pg_name (i := 2) scStart.nd rfl (.inl rfl))
        (pss_one (ps_set (i := 1) scStart.nd rfl (.inl rfl) (pe_op op_mod (pe_op op_add (pe_op op_add (pe_op op_mul (pv 1) pe_int) (pe_op op_mod (pv 2) pe_int)) pe_int) pe_int))))
      (pss_one (ps_ret (pe_lst (pa_cons (pe_callTy call_list_of (by rfl) B.list (by decide +kernel) (pa_cons (pe_slice sl_list (pv 0) po_none (po_some pe_int)) pa_nil)) (pa_cons pe_int (pa_cons pe_int (pa_cons (pv 1) (pa_cons pe_int pa_nil))))))))), ?_⟩
    refine ⟨_, rfl, 63, rfl, a, _, rfl, hS, fun p np => ⟨p, rfl, ⟨_, SqL.of upd_same⟩, ?_⟩⟩
    have ec : cutV (ns.map V.int) none (some 63) = (ns.take 63).map V.int := by
      unfold cutV
      rw [HT.sIx_none, show HT.sIx (ns.map V.int).length (ns.map V.int).length (some 63) = min 63 (ns.map V.int).length from HT.sIx_nat _ _ 63, List.drop_zero, Nat.sub_zero, List.map_take, List.length_map]
      rcases Nat.le_total 63 ns.length with h | h
      · rw [Nat.min_eq_left h]
      · rw [Nat.min_eq_right h, List.take_of_length_le (by rw [List.length_map]; exact Nat.le_refl _), List.take_of_length_le (by rw [List.length_map]; exact h)]
    rw [ec]
    have wk := walk_list (K := K) (a := p) (xs := (ns.take 63).map V.int)
    refine for_it wk (fun i σ H' => ∃ (z : Int) (y2 : Option V), σ = [some (.ref a), some (.int z), y2] ∧ Same H H' ∧ H' p = some (.lst ((ns.take 63).map V.int))) ⟨_, _, rfl, same_upd np, upd_same⟩
      (fun i σ H' _ h => by obtain ⟨_, _, _, _, h⟩ := h; exact SqL.of h) ?_ ?_
    · rintro i x σ H1 H2 hi ⟨z, y2, rfl, sm, ep⟩ ⟨rfl, hx⟩
      rw [List.getElem?_map] at hx
      obtain ⟨c, hc, rfl⟩ := Option.map_eq_some_iff.mp hx
      exact ⟨_, rfl, _, _, rfl, rfl, .inr ⟨by decide, by decide⟩, _, rfl, _, _, rfl, rfl, (by show (0 : Int) < 1000003; decide), _, _, rfl, rfl, _, _, rfl, rfl, _, _, rfl, rfl, (by show (0 : Int) < 2147483647; decide), _, _, rfl, sm, ep⟩
    · rintro σ H1 ⟨z, y2, rfl, sm, ep⟩
      refine ⟨_, rfl, 63, rfl, a, _, rfl, sm_l sm hS, fun p2 np2 => ⟨p2, _, rfl, .inl (SqL.of upd_same), fun p3 np3 => ?_⟩⟩
      rw [ec] at np3 ⊢
      have s3 := sm_upd (o := .lst ((ns.take 63).map V.int)) (sm_upd (o := .lst ((ns.take 63).map V.int)) sm np2) np3
      refine ⟨_, rfl, by show 5 ≤ sizeLine; decide, fun d nd => ?_⟩
      have n3 : p3 ≠ d := ne_of_none upd_same nd
      exact q _ d (sm_upd s3 nd) (L2.Same.free s3 nd) ⟨p3, ns.take 63, 0, 0, _, 0, upd_same, by rw [upd_ne n3, upd_same], Int.le_refl _⟩
/-! ### _law_of -/
def spOf (K : PySem.W.Frag) : Sp := fun vs H Q _ => ∃ d x, vs = [.ref d, x] ∧ Dr H d ∧
  ((∃ a xs, x = .ref a ∧ a ≠ d ∧ SqL K H a xs ∧ 1 ≤ xs.length ∧ xs.length ≤ 1000 ∧ ∀ H' v (i : Nat), SmD d H H' → Dr H' d → xs[i]? = some v → Q v H') ∨
    ∃ l : List Nat, x = .str (tx l) ∧ 1 ≤ l.length ∧ l.length ≤ 1000 ∧ ∀ H' c, SmD d H H' → Dr H' d → c ∈ l → Q (.str (sg c)) H')
theorem ok_of {f fD : Addr} {fd fdD : FuncData} {k : Nat} (B : BM mg) (F : Fun K "_law_of" "_law_of" sOf f fd) (D : DF K mg "_law_draw" sDraw ["_law_d", "_law_many_it"] fD fdD) : FnOk P w K mg base CX0 (k + 2) f fd ["_law_d", "_law_some"] (spOf K) := by
  have GD : FnOk P w K mg base CX0 (k + 1) fD fdD ["_law_d", "_law_many_it"] spDraw := ok_draw B D.F
  refine F.ok scOf (fun vs H Q E h => ?_) (fun cdv A outer s H vs Q E hr h => ?_)
  · obtain ⟨d, x, rfl, _⟩ := h
    rfl
  · obtain ⟨d, x, rfl, hD, h⟩ := h
    refine ⟨_, pss_one (ps_ret (pe_ix (IxR.or ix_list ix_str) (pv 1) (pe_call GD hr rfl D.g D.F.kp D.b .nil pass0 (pa_cons (pv 0) (pa_cons (pe_callB (CallR.or call_len_seq call_len_str) (by rfl) B.len PySem.boot_len (pa_cons (pv 1) pa_nil)) pa_nil))) (fun _ _ => rfl))), ?_⟩
    rcases h with ⟨a, xs, rfl, nd, hS, h1, h2, q⟩ | ⟨l, rfl, h1, h2, q⟩
    · refine ⟨_, rfl, _, rfl, _, rfl, .inl ⟨a, xs, rfl, .inl hS, d, _, rfl, hD, by omega, by omega, fun H1 v s1 D1 v0 v1 => ?_⟩⟩
      obtain ⟨j, rfl⟩ := Int.eq_ofNat_of_zero_le v0
      have hj : j < xs.length := by omega
      exact .inl ⟨a, xs, j, xs[j], rfl, rfl, smx_l s1.1 nd hS, atI_nat (List.getElem?_eq_getElem hj), q H1 _ j s1 D1 (List.getElem?_eq_getElem hj)⟩
    · have hz : (tx l).length ≤ sizeLine := by rw [tx_len, sizeLine_eq]; omega
      refine ⟨_, rfl, _, rfl, _, rfl, .inr ⟨tx l, rfl, hz, d, _, rfl, hD, by rw [tx_len]; omega, by rw [tx_len]; omega, fun H1 v s1 D1 v0 v1 => ?_⟩⟩
      obtain ⟨j, rfl⟩ := Int.eq_ofNat_of_zero_le v0
      have hj : j < l.length := by rw [tx_len] at v1; omega
      exact .inr ⟨tx l, j, l[j], rfl, rfl, hz, by rw [tx_list]; exact atI_nat (List.getElem?_eq_getElem hj), q H1 _ s1 D1 (List.getElem_mem hj)⟩
/-! ### _law_letters -/
theorem ok_letters {f : Addr} {fd : FuncData} {k : Nat} (F : Fun K "_law_letters" "_law_letters" sLetters f fd) : FnOk P w K mg base CX0 (k + 1) f fd [] (fun vs H Q _ => vs = [] ∧ Q (.str (tx ltrs)) H) := by
  refine F.ok scLetters (fun vs H Q E h => ?_) (fun cdv A outer s H vs Q E hr h => ?_)
  · obtain ⟨rfl, _⟩ := h
    rfl
  · obtain ⟨rfl, q⟩ := h
    refine ⟨_, pss_one (ps_ret pe_str), ?_⟩
    show Q (.str (Str.ofString "abcdefghijklmnopqrstuvwxyz")) H
    rw [ltrs_eq]
    exact q
end
end NC
namespace NC
open PySem PySem.Spec PyProof.Rows L2
abbrev sShuts : Stmt := topS 61
abbrev sPairs : Stmt := topS 64
theorem scShuts : FnScope ["_law_d", "_law_most_it", "_law_found", "_law_skip", "_law_sign"] ["_law_d", "_law_most_it"] (defScope sShuts) := ⟨rfl, rfl, rfl, by decide +kernel, rfl, by decide +kernel, by decide +kernel⟩
theorem cut_from (l : List Nat) (j : Nat) : cutS (tx l) (some ((j : Nat) : Int)) none = tx (l.drop j) := by
  unfold cutS
  rw [HT.sIx_none, HT.sIx_nat, tx_list, tx_len]
  show Str.mk _ = Str.mk _
  congr 1
  rcases Nat.le_total j l.length with h | h
  · rw [Nat.min_eq_left h, List.take_of_length_le (by rw [List.length_drop]; exact Nat.le_refl _)]
  · rw [Nat.min_eq_right h, List.drop_of_length_le (Nat.le_refl _), List.drop_of_length_le h]
    simp
theorem strK : (Str.ofString "k") = tx [107] := by decide +kernel
theorem str0 : (Str.ofString "") = tx [] := by decide +kernel
theorem good_k : GoodW [107] := ⟨by decide, by decide, fun c h => by simp at h; omega, by simp⟩
section
variable {P : Program} {w : World} {K : PySem.W.Frag} {mg : Str → Option Value} {base : Heap}
def spShuts : Sp := fun vs H Q _ => ∃ (d : Addr) (n : Int), vs = [.ref d, .int n] ∧ Dr H d ∧ 1 ≤ n ∧ n ≤ 12 ∧ ∀ H' l, SmD d H H' → Dr H' d → GoodW l → (l.length : Int) ≤ n → Q (.str (tx l)) H'
set_option maxHeartbeats 1000000 in
theorem ok_shuts {f fD fL : Addr} {fd fdD fdL : FuncData} {k : Nat} (B : BM mg) (F : Fun K "_law_shuts" "_law_shuts" sShuts f fd) (D : DF K mg "_law_draw" sDraw ["_law_d", "_law_many_it"] fD fdD) (Lt : DF K mg "_law_letters" sLetters [] fL fdL) :
    FnOk P w K mg base CX0 (k + 2) f fd ["_law_d", "_law_most_it"] spShuts := by
  have GD : FnOk P w K mg base CX0 (k + 1) fD fdD ["_law_d", "_law_many_it"] spDraw := ok_draw B D.F
  have GL := ok_letters (P := P) (w := w) (mg := mg) (base := base) (k := k) Lt.F
  refine F.ok scShuts (fun vs H Q E h => ?_) (fun cdv A outer s H vs Q E hr h => ?_)
  · obtain ⟨d, n, rfl, _⟩ := h
    rfl
  · obtain ⟨d, n, rfl, hD, hn1, hn2, q⟩ := h
    refine ⟨_, pss_cons (ps_set (i := 2) scShuts.nd rfl (.inl rfl) pe_str)
      (pss_cons (ps_set (i := 3) scShuts.nd rfl (.inl rfl) (pe_ix ix_list (pe_lst (pa_cons pe_int (pa_cons pe_int (pa_cons pe_int pa_nil)))) (pe_call GD hr rfl D.g D.F.kp D.b .nil pass0 (pa_cons (pv 0) (pa_cons pe_int pa_nil))) (fun _ _ => rfl)))
      (pss_cons (ps_for PassesOwn.never rfl (pi_str (pe_slice sl_str (pe_call0 GL hr rfl Lt.g Lt.F.kp Lt.b .nil pass0) (po_some (pe_call GD hr rfl D.g D.F.kp D.b .nil pass0 (pa_cons (pv 0) (pa_cons pe_int pa_nil)))) po_none)) (pg_name (i := 4) scShuts.nd rfl (.inl rfl))
        (pss_one (ps_if (PW.pt (pw_and (pt_cmpR op_lt (pe_callB call_len_str (by rfl) B.len PySem.boot_len (pa_cons (pv 2) pa_nil)) (pv 1) (nomark _))
            (pw_and1 (PW.pt (pw_or (pt_cmpR op_eq (pv 3) pe_int (nomark _)) (pw_or1 (pt_cmpR op_eq (pe_call GD hr rfl D.g D.F.kp D.b .nil pass0 (pa_cons (pv 0) (pa_cons (pv 3) pa_nil))) pe_int (nomark _))))))))
          (pss_one (ps_set (i := 2) scShuts.nd rfl (.inl rfl) (pe_op op_add_str (pv 2) (pv 4)))) pss_nil)))
      (pss_one (ps_ret (pe_ifExp (pt_cmpR op_ne (pv 2) pe_str (nomark _)) (pv 2) pe_str))))), ?_⟩
    refine ⟨by show 3 ≤ sizeLine; decide, fun p np => ?_⟩
    have ndp : d ≠ p := by
      obtain ⟨c, ns, i, a, b, e, hd, _⟩ := hD
      exact ne_of_none hd np
    have D1 : Dr (upd H p (.lst [.int 0, .int 2, .int 26])) d := hD.same (same_upd np)
    refine ⟨_, rfl, d, 3, rfl, D1, by decide, by decide, fun H1 v s1 D1' v0 v1 => ?_⟩
    have s01 : SmD d H H1 := (SmD.of (same_upd np)).trans s1
    have ep : H1 p = some (.lst [.int 0, .int 2, .int 26]) := s1.1 _ _ (Ne.symm ndp) upd_same
    obtain ⟨sk, hsk, hat⟩ : ∃ sk : Int, (sk = 0 ∨ sk = 2 ∨ sk = 26) ∧ atI [V.int 0, .int 2, .int 26] v = some (.int sk) := by
      have hv : v = 0 ∨ v = 1 ∨ v = 2 := by omega
      rcases hv with rfl | rfl | rfl
      · exact ⟨0, .inl rfl, rfl⟩
      · exact ⟨2, .inr (.inl rfl), rfl⟩
      · exact ⟨26, .inr (.inr rfl), rfl⟩
    refine ⟨p, _, v, .int sk, rfl, rfl, SqL.of ep, hat, ?_⟩
    refine ⟨rfl, _, rfl, d, 9, rfl, D1', by decide, by decide, fun H2 u s2 D2 u0 u1 => ?_⟩
    obtain ⟨j, rfl⟩ := Int.eq_ofNat_of_zero_le u0
    refine ⟨_, rfl, _, rfl, by rw [tx_len, sizeLine_eq]; decide, ?_⟩
    rw [cut_from]
    refine ⟨_, rfl, ?_⟩
    have lz : (tx (ltrs.drop j)).cps.size = (ltrs.drop j).length := tx_len _
    refine for_it walk_str (fun i σ H' => ∃ (l : List Nat) (y4 : Option V), σ = [some (.ref d), some (.int n), some (.str (tx l)), some (.int sk), y4] ∧ SmD d H H' ∧ Dr H' d ∧ l.Pairwise (· < ·) ∧ (∀ c ∈ l, 97 ≤ c ∧ c < 97 + (j + i) ∧ c ≤ 122) ∧ (l.length : Int) ≤ n)
      ⟨[], _, by rw [← str0]; rfl, s01.trans s2, D2, List.Pairwise.nil, (fun c h => absurd h (by simp)), by show (0 : Int) ≤ n; omega⟩ (fun _ _ _ _ _ => trivial) ?_ ?_
    · rintro i x σ H3 H4 hi ⟨l, y4, rfl, s3, D3, pw, hb, hln⟩ ⟨rfl, c, hc, rfl⟩
      have hcc : c = 97 + (j + i) ∧ j + i < 26 := by
        rw [← Array.getElem?_toList, tx_list, List.getElem?_drop] at hc
        exact ltrs_at hc
      have hlz : (tx l).length ≤ sizeLine := by rw [tx_len, sizeLine_eq]; omega
      have stay : ∀ (y : Option V) (H5 : Hp), SmD d H H5 → Dr H5 d → ∃ (l1 : List Nat) (y4 : Option V), [some (V.ref d), some (.int n), some (.str (tx l)), some (.int sk), y] = [some (.ref d), some (.int n), some (.str (tx l1)), some (.int sk), y4] ∧ SmD d H H5 ∧ Dr H5 d ∧ l1.Pairwise (· < ·) ∧
          (∀ c ∈ l1, 97 ≤ c ∧ c < 97 + (j + (i + 1)) ∧ c ≤ 122) ∧ (l1.length : Int) ≤ n := fun y H5 a1 a2 => ⟨l, y, rfl, a1, a2, pw, fun e he => by have := hb e he; omega, hln⟩
      have grow : ∀ (H5 : Hp), SmD d H H5 → Dr H5 d → (l.length : Int) < n → (tx l).length + (sg c).length ≤ sizeLine ∧ ∃ (l1 : List Nat) (y4 : Option V), [some (V.ref d), some (.int n), some (.str (tx l ++ sg c)), some (.int sk), some (.str (sg c))] = [some (.ref d), some (.int n), some (.str (tx l1)), some (.int sk), y4] ∧ SmD d H H5 ∧ Dr H5 d ∧ l1.Pairwise (· < ·) ∧
          (∀ c ∈ l1, 97 ≤ c ∧ c < 97 + (j + (i + 1)) ∧ c ≤ 122) ∧ (l1.length : Int) ≤ n := fun H5 a1 a2 hlt => by
        refine ⟨by rw [tx_len, sizeLine_eq]; show l.length + 1 ≤ _; omega, l ++ [c], _, by rw [sg_tx, tx_app], a1, a2, ?_, fun e he => ?_, by rw [List.length_append]; show ((l.length + 1 : Nat) : Int) ≤ n; omega⟩
        · refine List.pairwise_append.mpr ⟨pw, by simp, fun a ha b hb2 => ?_⟩
          have := hb a ha
          have := List.mem_singleton.mp hb2
          omega
        · rcases List.mem_append.mp he with z | z
          · have := hb e z
            omega
          · have := List.mem_singleton.mp z
            omega
      refine ⟨_, rfl, _, rfl, hlz, _, rfl, _, _, rfl, rfl, _, rfl, ite2 (fun t1 => ?_) (fun t1 => ?_)⟩
      · have hlt : (l.length : Int) < n := by
          have := of_decide_eq_true t1
          rw [tx_len] at this
          exact this
        refine ⟨_, rfl, rfl, _, rfl, ite2 (fun t2 => ?_) (fun t2 => ?_)⟩
        · obtain ⟨g1, g2⟩ := grow H4 s3 D3 hlt
          exact iteT ⟨_, rfl, _, rfl, _, _, rfl, rfl, g1, g2⟩
        · have hsk2 : 1 ≤ sk ∧ sk ≤ 1000 := by
            have : sk ≠ 0 := fun z => t2 (by rw [z]; exact decide_eq_true rfl)
            omega
          refine ⟨_, rfl, _, rfl, d, sk, rfl, D3, hsk2.1, Int.le_trans hsk2.2 (by decide), fun H5 v5 s5 D5 _ _ => ⟨rfl, _, rfl, ite2 (fun t3 => ?_) (fun t3 => ?_)⟩⟩
          · obtain ⟨g1, g2⟩ := grow H5 (s3.trans s5) D5 hlt
            exact ⟨_, rfl, _, rfl, _, _, rfl, rfl, g1, g2⟩
          · exact stay _ H5 (s3.trans s5) D5
      · exact iteF (stay _ H4 s3 D3)
    · rintro σ H3 ⟨l, y4, rfl, s3, D3, pw, hb, hln⟩
      refine ⟨_, rfl, rfl, _, rfl, ite2 (fun t1 => ?_) (fun t1 => ?_)⟩
      · have hl0 : l ≠ [] := fun z => by
          rw [z, ← str0] at t1
          exact absurd t1 (by decide +kernel)
        refine ⟨_, rfl, q H3 l s3 D3 ⟨List.length_pos_iff.mpr hl0, by omega, fun c hc => (by have := hb c hc; omega), pw⟩ hln⟩
      · show Q (.str (Str.ofString "k")) H3
        rw [strK]
        exact q H3 [107] s3 D3 good_k (by show (1 : Int) ≤ n; omega)
end
end NC
namespace NC
open PySem PySem.Spec PyProof.Rows L2
theorem scPairs : FnScope ["_law_shuts_here", "_law_found", "_law_one", "_law_two", "_law_first", "_law_second"] ["_law_shuts_here"] (defScope sPairs) := ⟨rfl, rfl, rfl, by decide +kernel, rfl, by decide +kernel, by decide +kernel⟩
def sec (f y : Nat) : List (List Nat) := [y, upc y].map fun s => [f, s]
def pr2 (x y : Nat) : List (List Nat) := [x, upc x].flatMap fun f => sec f y
def prI (l : List Nat) (i m : Nat) : List (List Nat) := (List.range m).flatMap fun j => pr2 (l.getD i 0) (l.getD (i + 1 + j) 0)
def prs (l : List Nat) (m : Nat) : List (List Nat) := (List.range m).flatMap fun i => prI l i (l.length - (i + 1))
theorem prI_len (l : List Nat) (i m : Nat) : (prI l i m).length = 4 * m := by
  induction m with
  | zero => rfl
  | succ m ih =>
    unfold prI at ih ⊢
    rw [List.range_succ, List.flatMap_append, List.length_append, ih]
    show _ + ([m].flatMap _).length = _
    simp [pr2, sec]
    omega
theorem prs_len (l : List Nat) : ∀ m, (prs l m).length ≤ 4 * l.length * m
  | 0 => by simp [prs]
  | m + 1 => by
    have ih := prs_len l m
    unfold prs at ih ⊢
    rw [List.range_succ, List.flatMap_append, List.length_append]
    have e : ([m].flatMap fun i => prI l i (l.length - (i + 1))).length = 4 * (l.length - (m + 1)) := by simp [prI_len]
    rw [e, Nat.mul_succ]
    have : 4 * (l.length - (m + 1)) ≤ 4 * l.length := Nat.mul_le_mul_left _ (Nat.sub_le _ _)
    omega
theorem lwc_of {x f : Nat} (h : 97 ≤ x ∧ x ≤ 122) (hf : f ∈ [x, upc x]) : lwc f = x := by
  rcases List.mem_cons.mp hf with e | e
  · rw [e]; unfold lwc; rw [if_neg (by omega)]
  · rw [List.mem_singleton.mp e, upc_small h]; unfold lwc; rw [if_pos (by omega)]; omega
theorem sds_of {l : List Nat} (g : GoodW l) {x f : Nat} (hx : x ∈ l) (hf : f ∈ [x, upc x]) : f ∈ sds l := by
  rcases List.mem_cons.mp hf with e | e
  · rw [e]; exact sds_of_small hx
  · rw [List.mem_singleton.mp e, upc_small (g.sm x hx)]; exact sds_of_great g hx
theorem of_sds {l : List Nat} (g : GoodW l) {f : Nat} (h : f ∈ sds l) : lwc f ∈ l ∧ f ∈ [lwc f, upc (lwc f)] := by
  rcases sds_shape g h with ⟨a, b, hm⟩ | ⟨a, b, hm⟩
  · have e : lwc f = f := by unfold lwc; rw [if_neg (by omega)]
    rw [e]
    exact ⟨hm, List.mem_cons_self ..⟩
  · have e : lwc f = f + 32 := by unfold lwc; rw [if_pos ⟨a, b⟩]
    rw [e, upc_small (by omega), show f + 32 - 32 = f by omega]
    exact ⟨hm, by simp⟩
theorem getD_of {l : List Nat} {i : Nat} (h : i < l.length) : l.getD i 0 = l[i] := by simp [List.getD, h]
theorem prs_mem {l : List Nat} (g : GoodW l) (b : List Nat) : b ∈ prs l l.length ↔ isBar l b = true := by
  constructor
  · intro h
    obtain ⟨i, hi, h⟩ := List.mem_flatMap.mp h
    obtain ⟨j, hj, h⟩ := List.mem_flatMap.mp h
    obtain ⟨f, hf, h⟩ := List.mem_flatMap.mp h
    obtain ⟨s, hs, rfl⟩ := List.mem_map.mp h
    have hi := List.mem_range.mp hi
    have hj := List.mem_range.mp hj
    have hk : i + 1 + j < l.length := by omega
    rw [getD_of hi] at hf
    rw [getD_of hk] at hs
    have m1 : l[i] ∈ l := List.getElem_mem hi
    have m2 : l[i + 1 + j] ∈ l := List.getElem_mem hk
    have lt : l[i] < l[i + 1 + j] := List.pairwise_iff_getElem.mp g.rise i (i + 1 + j) hi hk (by omega)
    show (decide (f ∈ sds l) && (decide (s ∈ sds l) && decide (lwc f < lwc s))) = true
    rw [decide_eq_true (sds_of g m1 hf), decide_eq_true (sds_of g m2 hs), lwc_of (g.sm _ m1) hf, lwc_of (g.sm _ m2) hs, decide_eq_true lt]
    rfl
  · intro h
    obtain ⟨f, s, rfl, hf, hs, lt⟩ := bar_two h
    obtain ⟨m1, f1⟩ := of_sds g hf
    obtain ⟨m2, s1⟩ := of_sds g hs
    obtain ⟨i, hi, ei⟩ := List.getElem_of_mem m1
    obtain ⟨k, hk, ek⟩ := List.getElem_of_mem m2
    have hik : i < k := by
      rcases Nat.lt_trichotomy i k with z | z | z
      · exact z
      · subst z
        rw [← ei, ← ek] at lt
        omega
      · have := List.pairwise_iff_getElem.mp g.rise k i hk hi z
        omega
    refine List.mem_flatMap.mpr ⟨i, List.mem_range.mpr hi, List.mem_flatMap.mpr ⟨k - (i + 1), List.mem_range.mpr (by omega), List.mem_flatMap.mpr ⟨f, ?_, List.mem_map.mpr ⟨s, ?_, rfl⟩⟩⟩⟩
    · rw [getD_of hi, ei]
      exact f1
    · rw [show i + 1 + (k - (i + 1)) = k by omega, getD_of hk, ek]
      exact s1
section
variable {P : Program} {w : World} {K : PySem.W.Frag} {mg : Str → Option Value} {base : Heap}
def spPairs : Sp := fun vs H Q _ => ∃ l, vs = [.str (tx l)] ∧ GoodW l ∧ ∀ H' p, Same H H' → H p = none → H' p = some (.lst (((prs l l.length).map tx).map V.str)) → Q (.ref p) H'
set_option maxHeartbeats 1000000 in
theorem ok_pairs {f : Addr} {fd : FuncData} {k : Nat} (B : BM mg) (F : Fun K "_law_pairs" "_law_pairs" sPairs f fd) : FnOk P w K mg base CX0 (k + 1) f fd ["_law_shuts_here"] spPairs := by
  refine F.ok scPairs (fun vs H Q E h => ?_) (fun cdv A outer s H vs Q E hr h => ?_)
  · obtain ⟨l, rfl, _⟩ := h
    rfl
  · obtain ⟨l, rfl, g, q⟩ := h
    have hz : (tx l).length ≤ sizeLine := by rw [tx_len, sizeLine_eq]; have := g.hi; omega
    refine ⟨_, pss_cons (ps_set (i := 1) scPairs.nd rfl (.inl rfl) (pe_lst pa_nil))
      (pss_cons (ps_for PassesOwn.never rfl (pi_range1 (by rfl) B.range (pa_cons (pe_callB call_len_str (by rfl) B.len PySem.boot_len (pa_cons (pv 0) pa_nil)) pa_nil)) (pg_name (i := 2) scPairs.nd rfl (.inl rfl))
        (pss_one (ps_for PassesOwn.never rfl (pi_range2 (by rfl) B.range (pa_cons (pe_op op_add (pv 2) pe_int) (pa_cons (pe_callB call_len_str (by rfl) B.len PySem.boot_len (pa_cons (pv 0) pa_nil)) pa_nil))) (pg_name (i := 3) scPairs.nd rfl (.inl rfl))
          (pss_one (ps_for PassesOwn.never rfl (pi_tup (pe_tup (pa_cons (pe_ix ix_str (pv 0) (pv 2) (fun _ _ => rfl)) (pa_cons (pe_upper (pe_ix ix_str (pv 0) (pv 2) (fun _ _ => rfl))) pa_nil)))) (pg_name (i := 4) scPairs.nd rfl (.inr rfl))
            (pss_one (ps_expr (pe_bm PySem.F.plainAttrs_list PySem.F.slot_list_extend PySem.F.type_list_extend mt_extend (pv 1) (pa_cons
              (pe_lc (own := [("_law_second", 5)]) (g := gName 5) (tt := tYes) rfl scPairs.nd (pi_tup (pe_tup (pa_cons (pe_ix ix_str (pv 0) (pv 3) (fun _ _ => rfl)) (pa_cons (pe_upper (pe_ix ix_str (pv 0) (pv 3) (fun _ _ => rfl))) pa_nil))))
                (blkOk_by (N := ["_law_shuts_here", "_law_found", "_law_one", "_law_two", "_law_first", "_law_second"]) (sc := defScope sPairs) (by decide +kernel)) (fun _ _ _ _ _ => pg_name (i := 5) scPairs.nd rfl (Or.inl rfl)) (fun _ _ _ _ _ => pts_nil) (fun _ _ _ _ _ => pe_op op_add_str (pv 4) (pv 5)))
              pa_nil)))))))))
      (pss_one (ps_ret (pv 1)))), ?_⟩
    refine ⟨Nat.zero_le _, fun p np => ?_⟩
    refine ⟨_, rfl, _, rfl, hz, _, rfl, by rw [tx_len]; omega, by rw [tx_len]; have := g.hi; omega, ?_⟩
    have hi12 := g.hi
    rw [show (((tx l).length : Nat) : Int).toNat = l.length by rw [tx_len]; exact Int.toNat_natCast _]
    refine for_it walk_range (fun i σ H' => ∃ y2 y3 y4 y5, σ = [some (.str (tx l)), some (.ref p), y2, y3, y4, y5] ∧ Same H H' ∧ H' p = some (.lst (((prs l i).map tx).map V.str))) ⟨_, _, _, _, rfl, same_upd np, upd_same⟩ (fun _ _ _ _ _ => trivial) ?_ ?_
    · rintro i v σ H1 H2 hi ⟨y2, y3, y4, y5, rfl, s1, e1⟩ ⟨rfl, rfl⟩
      refine ⟨_, rfl, _, _, rfl, rfl, _, rfl, _, rfl, hz, _, _, rfl, ⟨by omega, by omega, by rw [tx_len]; omega, by rw [tx_len]; omega⟩, ?_⟩
      rw [show ((((tx l).length : Nat) : Int) - (0 + (i : Int) + 1)).toNat = l.length - (i + 1) by rw [tx_len]; omega]
      have hpl := prs_len l i
      refine for_it walk_range (fun j σ H' => ∃ y3 y4 y5, σ = [some (.str (tx l)), some (.ref p), some (.int (0 + (i : Int))), y3, y4, y5] ∧ Same H H' ∧ H' p = some (.lst (((prs l i ++ prI l i j).map tx).map V.str))) ⟨_, _, _, rfl, s1, by rw [e1]; simp [prI]⟩ (fun _ _ _ _ _ => trivial) ?_ ?_
      · rintro j v σ H3 H4 hj ⟨y3, y4, y5, rfl, s3, e3⟩ ⟨rfl, rfl⟩
        have hk : i + 1 + j < l.length := by omega
        have mx : l[i] ∈ l := List.getElem_mem hi
        have my : l[i + 1 + j] ∈ l := List.getElem_mem hk
        have ax : atI (tx l).cps.toList (0 + (i : Int)) = some l[i] := by
          rw [tx_list, show (0 + (i : Int)) = ((i : Nat) : Int) by omega]
          exact atI_nat (List.getElem?_eq_getElem hi)
        have ay : atI (tx l).cps.toList (0 + (i : Int) + 1 + (j : Int)) = some l[i + 1 + j] := by
          rw [tx_list, show (0 + (i : Int) + 1 + (j : Int)) = ((i + 1 + j : Nat) : Int) by omega]
          exact atI_nat (List.getElem?_eq_getElem hk)
        generalize hX : l[i] = x at mx ax
        generalize hY : l[i + 1 + j] = y at my ay
        have ux : Txt.upper (⟨#[x]⟩ : Str) = sg (upc x) := upper_tx (l := [x]) (fun c hc => by simp at hc; rw [hc]; exact g.asc x mx)
        have uy : Txt.upper (⟨#[y]⟩ : Str) = sg (upc y) := upper_tx (l := [y]) (fun c hc => by simp at hc; rw [hc]; exact g.asc y my)
        refine ⟨_, rfl, _, rfl, _, _, x, rfl, rfl, hz, ax, _, rfl, _, rfl, _, _, x, rfl, rfl, hz, ax, ⟨_, rfl⟩, _, rfl, rfl, by show 1 ≤ 5592405; decide, by show 2 ≤ sizeLine; decide, fun T nT => ⟨T, rfl, ⟨_, SqT.of upd_same⟩, ?_⟩⟩
        rw [ux]
        have npT : p ≠ T := ne_of_none e3 nT
        refine for_it (walk_tup (K := K) (a := T) (xs := [x, upc x].map fun e => V.str (sg e))) (fun t σ H' => ∃ y4 y5, σ = [some (.str (tx l)), some (.ref p), some (.int (0 + (i : Int))), some (.int (0 + (i : Int) + 1 + (j : Int))), y4, y5] ∧ Same H H' ∧
          SqT K H' T ([x, upc x].map fun e => V.str (sg e)) ∧ H' p = some (.lst (((prs l i ++ prI l i j ++ ([x, upc x].take t).flatMap fun f => sec f y).map tx).map V.str)))
          ⟨_, _, rfl, sm_upd s3 nT, SqT.of upd_same, by rw [upd_ne npT, e3]; simp⟩ (fun t σ H' _ h => by obtain ⟨_, _, _, _, h, _⟩ := h; exact h) ?_ ?_
        · rintro t v σ H5 H6 ht ⟨y4, y5, rfl, s5, hT5, e5⟩ ⟨rfl, hv⟩
          rw [List.getElem?_map] at hv
          obtain ⟨f, hf, rfl⟩ := Option.map_eq_some_iff.mp hv
          refine ⟨_, rfl, .inl ⟨rfl, _, SqL.of e5⟩, _, rfl, _, rfl, _, _, y, rfl, rfl, hz, ay, _, rfl, _, rfl, _, _, y, rfl, rfl, hz, ay, ⟨_, rfl⟩, _, rfl, rfl, by show 1 ≤ 5592405; decide, by show 2 ≤ sizeLine; decide, fun T2 nT2 => ⟨T2, rfl, ⟨_, SqT.of upd_same⟩, fun D nD => ?_⟩⟩
          rw [uy] at nD ⊢
          have eT2 : (upd H6 T2 (.tup [.str ⟨#[y]⟩, .str (sg (upc y))])) T2 = some (.tup ([y, upc y].map fun e => V.str (sg e))) := upd_same
          have s6 : Same H6 (upd H6 T2 (.tup [.str ⟨#[y]⟩, .str (sg (upc y))])) := same_upd nT2
          generalize (upd H6 T2 (.tup [.str ⟨#[y]⟩, .str (sg (upc y))])) = H7 at nD eT2 s6 ⊢
          refine lc_it (walk_tup (K := K) (a := T2) (xs := [y, upc y].map fun e => V.str (sg e))) (fun u H' => Same H7 H' ∧ H' D = some (.lst (((([y, upc y].take u).map fun s => [f, s]).map tx).map V.str))) ⟨same_upd nD, upd_same⟩ (fun u H' _ h => SqT.of (h.1 _ _ eT2)) ?_ ?_
          · rintro u v H8 H9 hu ⟨s8, e8⟩ ⟨rfl, hv⟩
            rw [List.getElem?_map] at hv
            obtain ⟨c, hc, rfl⟩ := Option.map_eq_some_iff.mp hv
            refine ⟨rfl, yes_i ⟨_, rfl, _, rfl, _, _, rfl, rfl, by show 1 + 1 ≤ sizeLine; decide, _, e8, ?_, sm_over s8 nD, ?_⟩⟩
            · rw [List.length_map, List.length_map, List.length_map, List.length_take, sizeLine_eq]
              have hu2 : u < 2 := hu
              omega
            · rw [upd_same, List.take_add_one, hc, List.map_append, List.map_append, List.map_append, sg_tx, sg_tx, tx_app]
              rfl
          · rintro H8 ⟨s8, e8⟩
            have e58 : H8 p = _ := s8 _ _ (s6 _ _ e5)
            have hsum : (prs l i ++ prI l i j ++ ([x, upc x].take t).flatMap fun f => sec f y).length ≤ 700 := by
              rw [List.length_append, List.length_append, prI_len]
              have h2 : (([x, upc x].take t).flatMap fun f => sec f y).length ≤ 4 := by
                have ht2 : t < 2 := ht
                have : t = 0 ∨ t = 1 := by omega
                rcases this with rfl | rfl
                · simp
                · simp [sec]
              have h3 : 4 * l.length * i ≤ 4 * 12 * 12 := Nat.mul_le_mul (Nat.mul_le_mul_left _ hi12) (by omega)
              omega
            refine ⟨p, D, _, _, rfl, rfl, e58, e8, ?_, ?_⟩
            · rw [List.length_map, List.length_map, List.length_map, List.length_map, List.length_map, sizeLine_eq]
              show _ + 2 ≤ _
              omega
            · refine ⟨_, _, rfl, sm_over (sm_trans (sm_trans s5 s6) s8) np, ?_, ?_⟩
              · have hT8 := sm_t s8 (sm_t s6 hT5)
                have ntp : ∀ o, H8 T = some o → (∀ z, o ≠ .lst z) → T ≠ p := fun o ho hz2 => ne_of ho e58 (hz2 _)
                rcases hT8 with (z | ⟨o, z⟩) | z
                · exact .inl (.inl (by rw [upd_ne (ntp _ z fun q e => by cases e)]; exact z))
                · exact .inl (.inr ⟨o, by rw [upd_ne (ntp _ z fun q e => by cases e)]; exact z⟩)
                · exact .inr z
              · rw [upd_same, List.take_add_one, hf, List.flatMap_append, ← List.map_append, ← List.map_append, List.append_assoc (prs l i ++ prI l i j)]
                simp [sec]
        · rintro σ H5 ⟨y4, y5, rfl, s5, _, e5⟩
          refine ⟨_, _, _, rfl, s5, ?_⟩
          rw [e5]
          have ej : prI l i (j + 1) = prI l i j ++ pr2 x y := by
            unfold prI
            rw [List.range_succ, List.flatMap_append]
            simp only [List.flatMap_cons, List.flatMap_nil, List.append_nil]
            rw [getD_of hi, getD_of hk, hX, hY]
          rw [ej, List.append_assoc]
          rfl
      · rintro σ H3 ⟨y3, y4, y5, rfl, s3, e3⟩
        refine ⟨_, _, _, _, rfl, s3, ?_⟩
        rw [e3]
        have ei : prs l (i + 1) = prs l i ++ prI l i (l.length - (i + 1)) := by
          unfold prs
          rw [List.range_succ, List.flatMap_append]
          simp
        rw [ei]
    · rintro σ H1 ⟨y2, y3, y4, y5, rfl, s1, e1⟩
      exact ⟨_, rfl, q H1 p s1 np e1⟩
end
end NC
namespace NC
open PySem PySem.Spec PyProof.Rows L2
abbrev sOth : Stmt := topS 62
abbrev sWithin : Stmt := topS 63
abbrev sAll : Stmt := topS 65
abbrev sRooms : Stmt := topS 66
theorem scOth : FnScope ["_law_side"] ["_law_side"] (defScope sOth) := ⟨rfl, rfl, rfl, by decide +kernel, rfl, by decide +kernel, by decide +kernel⟩
theorem scWithin : FnScope ["_law_sides_here", "_law_room", "_law_side"] ["_law_sides_here", "_law_room"] (defScope sWithin) := ⟨rfl, rfl, rfl, by decide +kernel, rfl, by decide +kernel, by decide +kernel⟩
theorem scAll : FnScope ["_law_shuts_here", "_law_found", "_law_shut_here", "_law_longer", "_law_begun_it"] ["_law_shuts_here"] (defScope sAll) := ⟨rfl, rfl, rfl, by decide +kernel, rfl, by decide +kernel, by decide +kernel⟩
theorem scRooms : FnScope ["_law_shuts_here", "_law_bars", "_law_room", "_law_bar"] ["_law_shuts_here", "_law_bars"] (defScope sRooms) := ⟨rfl, rfl, rfl, by decide +kernel, rfl, by decide +kernel, by decide +kernel⟩
theorem isup_sg : ∀ c : Nat, c < 128 → Txt.isupper (sg c) = decide (65 ≤ c ∧ c ≤ 90) := by
  have h : ∀ c : Fin 128, Txt.isupper (sg c.val) = decide (65 ≤ c.val ∧ c.val ≤ 90) := by decide +kernel
  exact fun c hc => h ⟨c, hc⟩
section
variable {P : Program} {w : World} {K : PySem.W.Frag} {mg : Str → Option Value} {base : Heap}
def spOth : Sp := fun vs H Q _ => ∃ c, vs = [.str (sg c)] ∧ isLt c ∧ Q (.str (sg (swp c))) H
theorem ok_oth {f : Addr} {fd : FuncData} {k : Nat} (F : Fun K "_law_other" "_law_other" sOth f fd) : FnOk P w K mg base CX0 (k + 1) f fd ["_law_side"] spOth := by
  refine F.ok scOth (fun vs H Q E h => ?_) (fun cdv A outer s H vs Q E hr h => ?_)
  · obtain ⟨c, rfl, _⟩ := h
    rfl
  · obtain ⟨c, rfl, hc, q⟩ := h
    refine ⟨_, pss_one (ps_ret (pe_ifExp (pt_val (pe_m0 PySem.F.slot_str_isupper PySem.F.type_str_isupper mt_isupper (pv 0))) (pe_lower (pv 0)) (pe_upper (pv 0)))), ?_⟩
    refine ⟨_, rfl, ⟨_, rfl⟩, _, rfl, rfl, trivial, _, rfl, ?_⟩
    have a1 : ∀ e ∈ [c], e < 128 := fun e he => by rw [List.mem_singleton.mp he]; exact hc.asc
    rw [isup_sg c hc.asc]
    refine ite2 (fun t => ?_) (fun t => ?_)
    · have t := of_decide_eq_true t
      refine ⟨_, rfl, ⟨_, rfl⟩, _, rfl, rfl, by show 1 ≤ 5592405; decide, ?_⟩
      rw [show Txt.lower (sg c) = tx [lwc c] from lower_tx (l := [c]) a1, show lwc c = swp c by rw [swp_great t]; unfold lwc; rw [if_pos t]]
      exact q
    · have t : ¬ (65 ≤ c ∧ c ≤ 90) := fun z => t (decide_eq_true z)
      have h1 : 97 ≤ c ∧ c ≤ 122 := hc.elim id fun z => absurd z t
      refine ⟨_, rfl, ⟨_, rfl⟩, _, rfl, rfl, by show 1 ≤ 5592405; decide, ?_⟩
      rw [show Txt.upper (sg c) = tx [upc c] from upper_tx (l := [c]) a1, show upc c = swp c by rw [swp_small h1, upc_small h1]]
      exact q
/-! ### _law_within -/
def spWithin : Sp := fun vs H Q _ => ∃ b r, vs = [.str (tx b), .str (tx r)] ∧ b.length ≤ 100 ∧ ∀ H', Same H H' → Q (.bl (inR b r)) H'
theorem ok_within {f : Addr} {fd : FuncData} {k : Nat} (B : BM mg) (F : Fun K "_law_within" "_law_within" sWithin f fd) : FnOk P w K mg base CX0 (k + 1) f fd ["_law_sides_here", "_law_room"] spWithin := by
  refine F.ok scWithin (fun vs H Q E h => ?_) (fun cdv A outer s H vs Q E hr h => ?_)
  · obtain ⟨b, r, rfl, _⟩ := h
    rfl
  · obtain ⟨b, r, rfl, hbl, q⟩ := h
    refine ⟨_, pss_one (ps_ret (pe_callB (cr_all rfl) (by rfl) B.all (by decide +kernel) (pa_cons (pe_lc (own := [("_law_side", 2)]) (g := gName 2) (tt := tYes) rfl scWithin.nd (pi_str (pv 0))
      (blkOk_by (N := ["_law_sides_here", "_law_room", "_law_side"]) (sc := defScope sWithin) (by decide +kernel)) (fun _ _ _ _ _ => pg_name (i := 2) scWithin.nd rfl (Or.inl rfl)) (fun _ _ _ _ _ => pts_nil)
      (fun _ _ _ _ _ => pe_cmpR op_in_sign (pv 2) (pv 1) (by rfl))) pa_nil))), ?_⟩
    refine ⟨_, rfl, tx b, rfl, fun D nD => ?_⟩
    have lz : (tx b).cps.size = b.length := tx_len _
    refine lc_it walk_str (fun i H' => Same H H' ∧ H' D = some (.lst (((b.take i).map fun s => decide (s ∈ r)).map V.bl))) ⟨same_upd nD, upd_same⟩ (fun _ _ _ _ => trivial) ?_ ?_
    · rintro i x H1 H2 hi ⟨s1, e1⟩ ⟨rfl, c, hc, rfl⟩
      have hcl : b[i]? = some c := by
        rw [← Array.getElem?_toList, tx_list] at hc
        exact hc
      refine ⟨rfl, yes_i ⟨_, rfl, _, rfl, c, tx r, rfl, rfl, ?_⟩⟩
      rw [tx_list]
      refine ⟨_, e1, ?_, sm_over s1 nD, ?_⟩
      · rw [List.length_map, List.length_map, List.length_take, sizeLine_eq]
        omega
      · rw [upd_same, List.take_add_one, hcl, List.map_append, List.map_append]
        rfl
    · rintro H1 ⟨s1, e1⟩
      rw [lz, List.take_length] at e1
      refine ⟨_, _, rfl, SqL.of e1, ?_⟩
      rw [show (b.map fun s => decide (s ∈ r)).all id = inR b r by unfold inR; rw [List.all_map]; rfl]
      exact q _ s1
/-! ### _law_all -/
def spAll : Sp := fun vs H Q _ => ∃ l, vs = [.str (tx l)] ∧ GoodW l ∧ ∀ H' p, Same H H' → H p = none → H' p = some (.lst (((allT l l.length).map tx).map V.str)) → Q (.ref p) H'
theorem allT_lens (l : List Nat) : ∀ k r, r ∈ allT l k → r.length = k
  | 0, r, h => by rw [List.mem_singleton.mp h]; rfl
  | k + 1, r, h => by
    obtain ⟨q, hq, hr⟩ := List.mem_flatMap.mp h
    have := allT_lens l k q hq
    simp only [List.mem_cons, List.not_mem_nil, or_false] at hr
    rcases hr with rfl | rfl <;> simp [this]
theorem pow12 {k : Nat} (h : k ≤ 12) : 2 ^ k ≤ 4096 := Nat.le_trans (Nat.pow_le_pow_right (by decide) h) (by decide)
set_option maxHeartbeats 1000000 in
theorem ok_all {f : Addr} {fd : FuncData} {k : Nat} (F : Fun K "_law_all" "_law_all" sAll f fd) : FnOk P w K mg base CX0 (k + 1) f fd ["_law_shuts_here"] spAll := by
  refine F.ok scAll (fun vs H Q E h => ?_) (fun cdv A outer s H vs Q E hr h => ?_)
  · obtain ⟨l, rfl, _⟩ := h
    rfl
  · obtain ⟨l, rfl, g, q⟩ := h
    have nd := scAll.nd
    have hl12 := g.hi
    refine ⟨_, pss_cons (ps_set (i := 1) nd rfl (.inl rfl) (pe_lst (pa_cons pe_str pa_nil)))
      (pss_cons (ps_for PassesOwn.never rfl (pi_str (pv 0)) (pg_name (i := 2) nd rfl (.inl rfl))
        (pss_cons (ps_set (i := 3) nd rfl (.inl rfl) (pe_lst pa_nil))
        (pss_cons (ps_for PassesOwn.never rfl (pi_list (pv 1)) (pg_name (i := 4) nd rfl (.inl rfl))
          (pss_one (ps_expr (pe_bm PySem.F.plainAttrs_list PySem.F.slot_list_extend PySem.F.type_list_extend mt_extend (pv 3) (pa_cons (pe_lst (pa_cons (pe_op op_add_str (pv 4) (pe_upper (pv 2))) (pa_cons (pe_op op_add_str (pv 4) (pv 2)) pa_nil))) pa_nil)))))
        (pss_one (ps_set (i := 1) nd rfl (.inl rfl) (pv 3))))))
      (pss_one (ps_ret (pv 1)))), ?_⟩
    refine ⟨by show 1 ≤ sizeLine; decide, fun p0 np0 => ?_⟩
    have lz : (tx l).cps.size = l.length := tx_len _
    refine ⟨_, rfl, tx l, rfl, ?_⟩
    refine for_it walk_str (fun i σ H' => ∃ (p : Addr) (y2 y3 y4 : Option V), σ = [some (.str (tx l)), some (.ref p), y2, y3, y4] ∧ Same H H' ∧ H p = none ∧ H' p = some (.lst (((allT l i).map tx).map V.str)))
      ⟨p0, _, _, _, rfl, same_upd np0, np0, by rw [upd_same, str0]; rfl⟩ (fun _ _ _ _ _ => trivial) ?_ ?_
    · rintro i x σ H1 H2 hi ⟨p, y2, y3, y4, rfl, s1, np, e1⟩ ⟨rfl, c, hc, rfl⟩
      rw [lz] at hi
      have hcl : l[i]? = some c := by
        rw [← Array.getElem?_toList, tx_list] at hc
        exact hc
      have hca : c < 128 := g.asc c (List.mem_of_getElem? hcl)
      have ecg : l.getD i 0 = c := by rw [List.getD_eq_getElem?_getD, hcl]; rfl
      have uc : Txt.upper (⟨#[c]⟩ : Str) = sg (upc c) := upper_tx (l := [c]) (fun e he => by rw [List.mem_singleton.mp he]; exact hca)
      refine ⟨Nat.zero_le _, fun L nL => ?_⟩
      have npL : p ≠ L := ne_of_none e1 nL
      have nLH : H L = none := L2.Same.free s1 nL
      have wk := walk_list (K := K) (a := p) (xs := ((allT l i).map tx).map V.str)
      rw [List.length_map, List.length_map] at wk
      have tl := allT_len l i
      have tp := pow12 (Nat.le_trans (Nat.le_of_lt hi) hl12)
      refine ⟨_, rfl, p, rfl, ⟨_, SqL.of (by rw [upd_ne npL]; exact e1)⟩, ?_⟩
      refine for_it wk (fun j σ H' => ∃ (y4 : Option V), σ = [some (.str (tx l)), some (.ref p), some (.str ⟨#[c]⟩), some (.ref L), y4] ∧ Same H H' ∧ H' p = some (.lst (((allT l i).map tx).map V.str)) ∧
        H' L = some (.lst (((((allT l i).take j).flatMap fun r => [r ++ [upc c], r ++ [c]]).map tx).map V.str))) ⟨_, rfl, sm_upd s1 nL, by rw [upd_ne npL]; exact e1, upd_same⟩ (fun j σ H' _ h => by obtain ⟨_, _, _, h, _⟩ := h; exact SqL.of h) ?_ ?_
      · rintro j x σ H3 H4 hj ⟨y4, rfl, s3, e3, eL⟩ ⟨rfl, hx⟩
        rw [List.getElem?_map, List.getElem?_map] at hx
        obtain ⟨z, hz, rfl⟩ := Option.map_eq_some_iff.mp hx
        obtain ⟨r, hr2, rfl⟩ := Option.map_eq_some_iff.mp hz
        have rl := allT_lens l i r (List.mem_of_getElem? hr2)
        have bnd : (tx r).length + 1 ≤ sizeLine := by rw [tx_len, sizeLine_eq]; omega
        have fl : (((allT l i).take j).flatMap fun r => [r ++ [upc c], r ++ [c]]).length ≤ 2 * 4096 := by
          have h : ∀ xs : List (List Nat), (xs.flatMap fun r => [r ++ [upc c], r ++ [c]]).length = 2 * xs.length := fun xs => by
            induction xs with
            | nil => rfl
            | cons x r ih =>
              have e : (x :: r).length = r.length + 1 := rfl
              rw [List.flatMap_cons, List.length_append, ih, e]
              show 2 + 2 * r.length = _
              omega
          rw [h, List.length_take]
          omega
        refine ⟨_, rfl, .inl ⟨rfl, _, SqL.of eL⟩, _, rfl, _, rfl, ⟨_, rfl⟩, _, rfl, rfl, by show 1 ≤ 5592405; decide, ?_⟩
        rw [uc]
        refine ⟨_, _, rfl, rfl, bnd, _, rfl, _, rfl, _, _, rfl, rfl, bnd, by show 2 ≤ sizeLine; decide, fun T nT => ?_⟩
        have nLT : L ≠ T := ne_of_none eL nT
        refine ⟨L, T, _, _, rfl, rfl, by rw [upd_ne nLT]; exact eL, upd_same, by rw [List.length_map, List.length_map, sizeLine_eq]; show _ + 2 ≤ _; omega, ?_⟩
        have npT : p ≠ T := ne_of_none e3 nT
        refine ⟨_, rfl, sm_over (sm_upd s3 nT) nLH, by rw [upd_ne npL, upd_ne npT]; exact e3, ?_⟩
        rw [upd_same, List.take_add_one, hr2, List.flatMap_append, List.map_append, List.map_append]
        show some (HO.lst (_ ++ [V.str (tx r ++ sg (upc c)), V.str (tx r ++ sg c)])) = some (HO.lst (_ ++ _))
        rw [sg_tx, sg_tx, tx_app, tx_app]
        simp
      · rintro σ H3 ⟨y4, rfl, s3, e3, eL⟩
        rw [List.take_length] at eL
        refine ⟨_, rfl, L, _, _, _, rfl, s3, nLH, ?_⟩
        rw [eL]
        show _ = some (HO.lst ((((allT l i).flatMap fun r => [r ++ [upc (l.getD i 0)], r ++ [l.getD i 0]]).map tx).map V.str))
        rw [ecg]
    · rintro σ H1 ⟨p, y2, y3, y4, rfl, s1, np, e1⟩
      rw [lz] at e1
      exact ⟨_, rfl, q H1 p s1 np e1⟩
end
end NC
namespace NC
open PySem PySem.Spec PyProof.Rows L2
section
variable {P : Program} {w : World} {K : PySem.W.Frag} {mg : Str → Option Value} {base : Heap}
/-! ### _law_rooms -/
def scpR : Scope := { kind := .function, names := [(".0", .local), ("_law_room", .cell), ("any", .globalImplicit), ("_law_bars", .cell)], isGenerator := false, isCoroutine := false }
def tInR (K : PySem.W.Frag) : TE := tCB (rAny K) (tCons (tLc (iList K (tVar 1)) (gName 3) tYes (tCall spWithin [] E0 (tCons (tVar 3) (tCons (tVar 2) tNil))) [3]) tNil)
def spRooms (K : PySem.W.Frag) : Sp := fun vs H Q _ => ∃ l a bs, vs = [.str (tx l), .ref a] ∧ GoodW l ∧ SqL K H a ((bs.map tx).map V.str) ∧ (∀ b ∈ bs, b.length ≤ 100) ∧ bs.length ≤ 100 ∧ ∀ H' p, Same H H' → H p = none → H' p = some (.lst (((rms l bs).map tx).map V.str)) → Q (.ref p) H'
set_option maxHeartbeats 1000000 in
theorem ok_rooms {f fA fW : Addr} {fd fdA fdW : FuncData} {k : Nat} (B : BM mg) (hany : mg "any" = none) (F : Fun K "_law_rooms" "_law_rooms" sRooms f fd) (Al : DF K mg "_law_all" sAll ["_law_shuts_here"] fA fdA) (W : DF K mg "_law_within" sWithin ["_law_sides_here", "_law_room"] fW fdW) :
    FnOk P w K mg base CX0 (k + 2) f fd ["_law_shuts_here", "_law_bars"] (spRooms K) := by
  have GA : FnOk P w K mg base CX0 (k + 1) fA fdA ["_law_shuts_here"] spAll := ok_all Al.F
  have GW : FnOk P w K mg base CX0 (k + 1) fW fdW ["_law_sides_here", "_law_room"] spWithin := ok_within B W.F
  refine F.ok scRooms (fun vs H Q E h => ?_) (fun cdv A outer s H vs Q E hr h => ?_)
  · obtain ⟨l, a, bs, rfl, _⟩ := h
    rfl
  · obtain ⟨l, a, bs, rfl, g, hS, hbl, hbn, q⟩ := h
    have nd := scRooms.nd
    refine ⟨_, pss_one (ps_ret (pe_lc (own := [("_law_room", 2)]) (g := gName 2) (tt := tNot (tB (tInR K))) rfl nd (pi_list (pe_call GA hr rfl Al.g Al.F.kp Al.b .nil pass0 (pa_cons (pv 0) pa_nil)))
      (blkOk_by (N := ["_law_shuts_here", "_law_bars", "_law_room", "_law_bar"]) (sc := defScope sRooms) (by decide +kernel)) (fun _ _ _ _ _ => pg_name (i := 2) nd rfl (Or.inr rfl))
      (fun _ _ _ _ _ => pts_one (pt_not (pt_val (pe_callB (cr_any rfl) (by rfl) hany (by decide +kernel) (pa_cons (pe_lc (own := [("_law_bar", 3)]) (g := gName 3) (tt := tYes) (te := tCall spWithin [] E0 (tCons (tVar 3) (tCons (tVar 2) tNil))) rfl nd (pi_list (pv 1))
        (blkOk_by (N := ["_law_shuts_here", "_law_bars", "_law_room", "_law_bar"]) (sc := scpR) (by decide +kernel)) (fun _ _ _ _ _ => pg_name (i := 3) nd rfl (Or.inl rfl)) (fun _ _ _ _ _ => pts_nil)
        (fun _ _ _ _ _ => pe_call GW hr rfl W.g W.F.kp W.b .nil pass0 (pa_cons (pv 3) (pa_cons (pv 2) pa_nil)))) pa_nil))))) (fun _ _ _ _ _ => pv 2))), ?_⟩
    refine ⟨_, rfl, l, rfl, g, fun H1 pA s1 npA eA => ⟨pA, rfl, ⟨_, SqL.of eA⟩, fun D nD => ?_⟩⟩
    have nDH : H D = none := L2.Same.free s1 nD
    have wk := walk_list (K := K) (a := pA) (xs := ((allT l l.length).map tx).map V.str)
    rw [List.length_map, List.length_map] at wk
    have tl := allT_len l l.length
    have tp := pow12 g.hi
    refine lc_it wk (fun j H' => Same H1 H' ∧ H' D = some (.lst (((((allT l l.length).take j).filter fun r => !bs.any fun b => inR b r).map tx).map V.str))) ⟨same_upd nD, upd_same⟩ (fun j H' _ h => SqL.of (h.1 _ _ eA)) ?_ ?_
    · rintro j x G2 G3 hj ⟨u2, e2⟩ ⟨rfl, hx⟩
      rw [List.getElem?_map, List.getElem?_map] at hx
      obtain ⟨z, hz, rfl⟩ := Option.map_eq_some_iff.mp hx
      obtain ⟨r, hr2, rfl⟩ := Option.map_eq_some_iff.mp hz
      have tk : (allT l l.length).take (j + 1) = (allT l l.length).take j ++ [r] := by rw [List.take_add_one, hr2]; rfl
      have hS3 := sm_l (sm_trans s1 u2) hS
      have wkb := walk_list (K := K) (a := a) (xs := (bs.map tx).map V.str)
      rw [List.length_map, List.length_map] at wkb
      refine ⟨rfl, _, rfl, a, rfl, ⟨_, hS3⟩, fun Da na => ?_⟩
      refine lc_it wkb (fun u H' => Same G3 H' ∧ H' Da = some (.lst (((bs.take u).map fun b => inR b r).map V.bl))) ⟨same_upd na, upd_same⟩ (fun u H' _ h => sm_l h.1 hS3) ?_ ?_
      · rintro u x G5 G6 hu ⟨u5, ea⟩ ⟨rfl, hx⟩
        rw [List.getElem?_map, List.getElem?_map] at hx
        obtain ⟨z, hz, rfl⟩ := Option.map_eq_some_iff.mp hx
        obtain ⟨b, hb1, rfl⟩ := Option.map_eq_some_iff.mp hz
        refine ⟨rfl, yes_i ⟨_, rfl, _, rfl, b, r, rfl, hbl b (List.mem_of_getElem? hb1), fun G7 u7 => ⟨_, u7 _ _ ea, ?_, sm_over (sm_trans u5 u7) na, ?_⟩⟩⟩
        · rw [List.length_map, List.length_map, List.length_take, sizeLine_eq]
          omega
        · rw [upd_same, List.take_add_one, hb1, List.map_append, List.map_append]
          rfl
      · rintro G5 ⟨u5, ea⟩
        rw [List.take_length] at ea
        refine ⟨Da, _, rfl, SqL.of ea, _, rfl, ?_⟩
        rw [show (bs.map fun b => inR b r).any id = bs.any fun b => inR b r by rw [List.any_map]; rfl]
        refine ite2 (fun t => ⟨_, rfl, _, u5 _ _ e2, ?_, sm_over (sm_trans u2 u5) nD, ?_⟩) (fun t => ⟨sm_trans u2 u5, ?_⟩)
        · rw [List.length_map, List.length_map, sizeLine_eq]
          have h1 : (((allT l l.length).take j).filter fun r => !bs.any fun b => inR b r).length ≤ 4096 := Nat.le_trans (List.length_filter_le _ _) (by rw [List.length_take]; omega)
          omega
        · rw [upd_same, tk, List.filter_append, List.filter_cons, if_pos t]
          simp
        · rw [u5 _ _ e2, tk, List.filter_append, List.filter_cons, if_neg t]
          simp
    · rintro G2 ⟨u2, e2⟩
      rw [List.take_length] at e2
      exact q G2 D (sm_trans s1 u2) nDH e2
end
end NC
/-! halls that are fine by their rooms; the rooms as the program begins them, wall by wall -/
namespace NC
open PySem PySem.Spec PyProof.Rows L2
open Classical in
noncomputable def foC (l : List Nat) (bs : List (List Nat)) (s : Nat) : List Nat := (sds l).filter fun t => decide (Frc (adjOf bs) s t)
open Classical in
theorem foC_mem {l : List Nat} (g : GoodW l) {bs : List (List Nat)} (hb : ∀ b ∈ bs, isBar l b = true) : ∀ s ∈ sds l, ∀ t, t ∈ foC l bs s ↔ Frc (adjOf bs) s t := fun s hs t => by
  unfold foC
  rw [List.mem_filter]
  exact ⟨fun h => of_decide_eq_true h.2, fun h => ⟨Frc.mem g hb hs h, decide_eq_true h⟩⟩
/-- the hall is let by -/
def Okv (l : List Nat) (bs : List (List Nat)) : Prop := ∀ fo : Nat → List Nat, (∀ s ∈ sds l, ∀ t, t ∈ fo s ↔ Frc (adjOf bs) s t) → vdOf (sds l) (fxP fo) (alP fo) = .ok
theorem vd_ok {L : List Nat} {fx : Nat → Bool} {al : Nat → Nat → Bool} (h1 : ∀ s ∈ L, fx s = false) (h2 : ∀ s ∈ L, ∀ t ∈ L, al s t = false) : vdOf L fx al = .ok := by
  unfold vdOf
  rw [List.find?_eq_none.mpr fun s hs => by rw [h1 s hs]; decide]
  have e : (L.findSome? fun s => (L.find? (al s)).map fun t => (s, t)) = none := List.findSome?_eq_none_iff.mpr fun s hs => by
    rw [List.find?_eq_none.mpr fun t ht => by rw [h2 s hs t ht]; decide]
    rfl
  rw [e]
theorem okv_nil {l : List Nat} (g : GoodW l) : Okv l [] := fun fo hf => by
  have one : ∀ {s t : Nat}, Frc (adjOf []) s t → t = s := fun {s t} h => h.ind (p := fun x => x = s) rfl fun a b _ k => absurd k (by simp [adjOf])
  refine vd_ok (fun s hs => ?_) (fun s hs t ht => ?_)
  · refine decide_eq_false fun z => ?_
    have e := one ((hf s hs _).mp z)
    rcases sds_lt g hs with q | q
    · rw [swp_small q] at e
      omega
    · rw [swp_great q] at e
      omega
  · unfold alP
    by_cases h : t ∈ fo s
    · have e := one ((hf s hs t).mp h)
      simp [e]
    · simp [h]
structure Fine (l : List Nat) (rs : List (List Nat)) : Prop where
  has : ∀ c ∈ l, (∃ r ∈ rs, c ∈ r) ∧ ∃ r ∈ rs, c ∉ r
  apart : ∀ x y, isBar l [x, y] = true → ∃ r ∈ rs, inR [x, y] r = true ∨ inR [swp x, swp y] r = true
theorem Fine.ok {l : List Nat} (g : GoodW l) {bs : List (List Nat)} (hb : ∀ b ∈ bs, isBar l b = true) (F : Fine l (rms l bs)) : Okv l bs := fun fo hf => by
  have mr := rms_mem g hb
  rw [vd_same g hb hf (foC_mem g hb)]
  have ne : rms l bs ≠ [] := fun z => by
    obtain ⟨c, hc⟩ : ∃ c, c ∈ l := by
      have := g.lo
      cases l with
      | nil => exact absurd this (by decide)
      | cons c r => exact ⟨c, List.mem_cons_self ..⟩
    obtain ⟨⟨r, hr, _⟩, _⟩ := F.has c hc
    rw [z] at hr
    cases hr
  have other : ∀ {s : Nat} {r : List Nat}, s ∈ sds l → r ∈ rms l bs → (s ∉ r ↔ swp s ∈ r) := fun {s r} hs hr => by
    obtain ⟨p, rfl, _⟩ := (mr r).mp hr
    rw [rm_mem g hs, rm_mem g (sds_swp g hs), val_swp (sds_lt g hs)]
    cases val p s <;> simp
  refine vd_ok (fun s hs => ?_) (fun s hs t ht => ?_)
  · unfold fxL
    rw [if_neg ne]
    have : ∃ r ∈ rms l bs, s ∈ r := by
      rcases sds_shape g hs with z | z
      · exact (F.has s z.2.2).1
      · obtain ⟨_, r, hr, hn⟩ := F.has (s + 32) z.2.2
        refine ⟨r, hr, ?_⟩
        have := (other (sds_of_small z.2.2) hr).mp hn
        rw [swp_small (by omega), show s + 32 - 32 = s by omega] at this
        exact this
    obtain ⟨r, hr, hsr⟩ := this
    rw [show ((rms l bs).any fun r => decide (s ∈ r)) = true from List.any_eq_true.mpr ⟨r, hr, decide_eq_true hsr⟩]
    rfl
  · unfold alL
    by_cases e : lwc s = lwc t
    · rw [e]; simp
    · have main : ∃ r ∈ rms l bs, (s ∈ r ∧ t ∉ r) ∨ (s ∉ r ∧ t ∈ r) := by
        have hst := sds_swp g ht
        have lt2 : lwc (swp t) = lwc t := by
          rcases sds_lt g ht with q | q
          · rw [swp_small q]
            unfold lwc
            rw [if_pos (by omega), if_neg (by omega)]
            omega
          · rw [swp_great q]
            unfold lwc
            rw [if_neg (by omega), if_pos q]
        have fin : ∀ r ∈ rms l bs, (s ∈ r ∧ swp t ∈ r) ∨ (swp s ∈ r ∧ t ∈ r) → (s ∈ r ∧ t ∉ r) ∨ (s ∉ r ∧ t ∈ r) := fun r hr h => h.imp (fun z => ⟨z.1, (other ht hr).mpr z.2⟩) (fun z => ⟨(other hs hr).mpr z.1, z.2⟩)
        have bar : ∀ {x y : Nat}, x ∈ sds l → y ∈ sds l → lwc x < lwc y → isBar l [x, y] = true := fun {x y} hx hy h => by
          show (decide (x ∈ sds l) && (decide (y ∈ sds l) && decide (lwc x < lwc y))) = true
          rw [decide_eq_true hx, decide_eq_true hy, decide_eq_true h]
          rfl
        rcases Nat.lt_or_ge (lwc s) (lwc t) with h | h
        · obtain ⟨r, hr, z⟩ := F.apart s (swp t) (bar hs hst (by rw [lt2]; exact h))
          refine ⟨r, hr, fin r hr (z.imp (fun z => ?_) (fun z => ?_))⟩
          · simp [inR] at z
            exact z
          · rw [swp_swp (sds_lt g ht)] at z
            simp [inR] at z
            exact z
        · obtain ⟨r, hr, z⟩ := F.apart (swp t) s (bar hst hs (by rw [lt2]; omega))
          refine ⟨r, hr, fin r hr (z.imp (fun z => ?_) (fun z => ?_))⟩
          · simp [inR] at z
            exact ⟨z.2, z.1⟩
          · rw [swp_swp (sds_lt g ht)] at z
            simp [inR] at z
            exact ⟨z.2, z.1⟩
      obtain ⟨r, hr, z⟩ := main
      have : (rms l bs).all (fun r => decide (decide (s ∈ r) = decide (t ∈ r))) = false := by
        rw [List.all_eq_false]
        refine ⟨r, hr, ?_⟩
        rcases z with ⟨a, b⟩ | ⟨a, b⟩
        · simp [a, b]
        · simp [a, b]
      rw [this]
      simp
/-- may s stand behind what is begun -/
def goes (fo : Nat → List Nat) (s : Nat) (r : List Nat) : Bool := !r.any fun h => decide (swp h ∈ fo s)
def okP (fo : Nat → List Nat) : List Nat → List Nat → Bool
  | _, [] => true
  | a, s :: r => goes fo s a && okP fo (a ++ [s]) r
def prT (l : List Nat) (fo : Nat → List Nat) : Nat → List (List Nat)
  | 0 => [[]]
  | k + 1 => (prT l fo k).flatMap fun r => ([upc (l.getD k 0), l.getD k 0].filter fun s => goes fo s r).map fun s => r ++ [s]
def okR (fo : Nat → List Nat) (r : List Nat) : Bool := okP fo [] r
theorem okP_snoc (fo : Nat → List Nat) : ∀ (a r : List Nat) (s : Nat), okP fo a (r ++ [s]) = (okP fo a r && goes fo s (a ++ r))
  | a, [], s => by
    show (goes fo s a && true) = (true && goes fo s (a ++ []))
    rw [List.append_nil, Bool.and_true, Bool.true_and]
  | a, x :: r, s => by
    show (goes fo x a && okP fo (a ++ [x]) (r ++ [s])) = (goes fo x a && okP fo (a ++ [x]) r && goes fo s (a ++ x :: r))
    rw [okP_snoc fo (a ++ [x]) r s, Bool.and_assoc, List.append_assoc]
    rfl
theorem okR_snoc (fo : Nat → List Nat) (r : List Nat) (s : Nat) : okR fo (r ++ [s]) = (okR fo r && goes fo s r) := okP_snoc fo [] r s
theorem prT_eq (l : List Nat) (fo : Nat → List Nat) : ∀ k, prT l fo k = (allT l k).filter (okR fo)
  | 0 => rfl
  | k + 1 => by
    show (prT l fo k).flatMap _ = ((allT l k).flatMap _).filter _
    rw [prT_eq l fo k, List.filter_flatMap]
    generalize l.getD k 0 = c
    generalize allT l k = A
    induction A with
    | nil => rfl
    | cons r t ih =>
      rw [List.flatMap_cons, List.filter_cons]
      have e : [r ++ [upc c], r ++ [c]].filter (okR fo) = if okR fo r = true then (([upc c, c].filter fun s => goes fo s r).map fun s => r ++ [s]) else [] := by
        by_cases h : okR fo r = true
        · rw [if_pos h]
          simp only [List.filter_cons, List.filter_nil, okR_snoc, h, Bool.true_and]
          by_cases h1 : goes fo (upc c) r = true <;> by_cases h2 : goes fo c r = true <;> simp [h1, h2]
        · have h' : okR fo r = false := by simpa using h
          rw [if_neg h]
          simp only [List.filter_cons, List.filter_nil, okR_snoc, h', Bool.false_and]
          rfl
      rw [e]
      by_cases h : okR fo r = true
      · rw [if_pos h, if_pos h, List.flatMap_cons, ih]
      · rw [if_neg h, if_neg h, ih]
        rfl
theorem okP_iff (fo : Nat → List Nat) : ∀ (r a : List Nat), okP fo a r = true ↔ ∀ i s, r[i]? = some s → ∀ h, (h ∈ a ∨ h ∈ r.take i) → swp h ∉ fo s
  | [], a => by
    constructor
    · intro _ i s hi
      simp at hi
    · intro _
      rfl
  | x :: r, a => by
    show (goes fo x a && okP fo (a ++ [x]) r) = true ↔ _
    rw [Bool.and_eq_true, okP_iff fo r (a ++ [x])]
    have hg : goes fo x a = true ↔ ∀ h ∈ a, swp h ∉ fo x := by
      unfold goes
      rw [Bool.not_eq_true', List.any_eq_false]
      constructor
      · exact fun z h hh k => z h hh (decide_eq_true k)
      · exact fun z h hh k => z h hh (of_decide_eq_true k)
    rw [hg]
    constructor
    · rintro ⟨h1, h2⟩ i s hi h hh
      cases i with
      | zero =>
        cases hi
        rcases hh with q | q
        · exact h1 h q
        · simp at q
      | succ i =>
        refine h2 i s hi h ?_
        rcases hh with q | q
        · exact .inl (List.mem_append_left _ q)
        · rw [List.take_succ_cons] at q
          rcases List.mem_cons.mp q with e | e
          · exact .inl (by rw [e]; simp)
          · exact .inr e
    · intro H
      refine ⟨fun h hh => H 0 x rfl h (.inl hh), fun i s hi h hh => H (i + 1) s hi h ?_⟩
      rw [List.take_succ_cons]
      rcases hh with q | q
      · rcases List.mem_append.mp q with e | e
        · exact .inl e
        · exact .inr (by rw [List.mem_singleton.mp e]; simp)
      · exact .inr (List.mem_cons_of_mem _ q)
/-- the program's rooms are the law's -/
theorem prT_rms {l : List Nat} (g : GoodW l) {bs : List (List Nat)} (hb : ∀ b ∈ bs, isBar l b = true) {fo : Nat → List Nat} (hf : ∀ s ∈ sds l, ∀ t, t ∈ fo s ↔ Frc (adjOf bs) s t) : prT l fo l.length = rms l bs := by
  rw [prT_eq]
  unfold rms
  refine List.filter_congr fun r hr => ?_
  obtain ⟨p, rfl⟩ := (allT_mem g.nd (Nat.le_refl _) r).mp hr
  rw [List.take_length]
  have key : (!bs.any fun b => inR b (rmOf l p)) = true ↔ Sat bs p := by
    constructor
    · intro h
      obtain ⟨p', e, hs⟩ := (rms_mem g hb (rmOf l p)).mp (List.mem_filter.mpr ⟨(allT_mem g.nd (Nat.le_refl _) _).mpr ⟨p, by rw [List.take_length]⟩, h⟩)
      intro x y hxy
      rintro ⟨vx, vy⟩
      obtain ⟨x', y', e2, hx, hy, _⟩ := bar_two (hb _ hxy)
      obtain ⟨rfl, rfl⟩ : x = x' ∧ y = y' := by simpa using e2
      have a := (rm_mem g hx).mpr vx
      have b := (rm_mem g hy).mpr vy
      rw [e] at a b
      exact hs x y hxy ⟨(rm_mem g hx).mp a, (rm_mem g hy).mp b⟩
    · intro h
      exact (List.mem_filter.mp ((rms_mem g hb (rmOf l p)).mpr ⟨p, rfl, h⟩)).2
  rw [Bool.eq_iff_iff, key]
  unfold okR
  rw [okP_iff]
  have rl : (rmOf l p).length = l.length := by unfold rmOf; rw [List.length_map]
  have at_ : ∀ {i s : Nat}, (rmOf l p)[i]? = some s → ∃ hi : i < l.length, lwc s = l[i] ∧ s ∈ sds l := fun {i s} h => by
    have hm := List.mem_of_getElem? h
    have hs := rm_asc g hm
    obtain ⟨hi, _⟩ := List.getElem?_eq_some_iff.mp h
    rw [rl] at hi
    refine ⟨hi, ?_, hs⟩
    unfold rmOf at h
    rw [List.getElem?_map, List.getElem?_eq_getElem hi] at h
    have e : (if p l[i] then l[i] else upc l[i]) = s := Option.some.inj h
    have h1 := g.sm l[i] (List.getElem_mem hi)
    rw [← e]
    by_cases hp : p l[i] = true
    · rw [if_pos hp]
      unfold lwc
      rw [if_neg (by omega)]
    · rw [if_neg hp, upc_small h1]
      unfold lwc
      rw [if_pos (by omega)]
      omega
  constructor
  · intro H x y hxy
    rintro ⟨vx, vy⟩
    obtain ⟨x', y', e2, hx, hy, hlt⟩ := bar_two (hb _ hxy)
    obtain ⟨rfl, rfl⟩ : x = x' ∧ y = y' := by simpa using e2
    obtain ⟨i, hi, ei⟩ := List.getElem_of_mem ((rm_mem g hx).mpr vx)
    obtain ⟨j, hj, ej⟩ := List.getElem_of_mem ((rm_mem g hy).mpr vy)
    have gi : (rmOf l p)[i]? = some x := by rw [List.getElem?_eq_getElem hi, ei]
    have gj : (rmOf l p)[j]? = some y := by rw [List.getElem?_eq_getElem hj, ej]
    obtain ⟨hi2, wi, _⟩ := at_ gi
    obtain ⟨hj2, wj, _⟩ := at_ gj
    have hij : i < j := by
      rcases Nat.lt_trichotomy i j with z | z | z
      · exact z
      · subst z
        rw [wi, wj] at hlt
        omega
      · have := List.pairwise_iff_getElem.mp g.rise j i hj2 hi2 z
        rw [wi, wj] at hlt
        omega
    have hxt : x ∈ (rmOf l p).take j := List.mem_of_getElem? (i := i) (by rw [List.getElem?_take_of_lt hij]; exact gi)
    have ky : swp x ∈ adjOf bs y := (adj_iff g hb (sds_lt g (sds_swp g hx))).mpr (by rw [swp_swp (sds_lt g hx)]; exact .inr hxy)
    exact H j y gj x (.inr hxt) ((hf y hy _).mpr (Frc.refl.step ky))
  · intro hS i s hi h hh k
    rcases hh with q | q
    · cases q
    · obtain ⟨_, _, hs⟩ := at_ hi
      have hm : h ∈ rmOf l p := List.mem_of_mem_take q
      have hhs := rm_asc g hm
      have v1 := (rm_mem g hs).mp (List.mem_of_getElem? hi)
      have v2 := hS.frc g hb v1 ((hf s hs _).mp k)
      rw [val_swp (sds_lt g hhs), (rm_mem g hhs).mp hm] at v2
      cases v2
end NC
namespace NC
open PySem PySem.Spec PyProof.Rows L2
abbrev sFine : Stmt := topS 67
abbrev nFine : List Str := ["_law_shuts_here", "_law_rooms_here", "_law_shut_here", "_law_there", "_law_pair", "_law_back", "_law_room"]
theorem scFine : FnScope nFine ["_law_shuts_here", "_law_rooms_here"] (defScope sFine) := ⟨rfl, rfl, rfl, by decide +kernel, rfl, by decide +kernel, by decide +kernel⟩
theorem inV_bl (b : Bool) (xs : List Bool) : inV (.bl b) (xs.map V.bl) = decide (b ∈ xs) := by
  unfold inV
  rw [List.any_map, Bool.eq_iff_iff, List.any_eq_true, decide_eq_true_eq]
  constructor
  · rintro ⟨x, hx, e⟩
    have e : (x == b) = true := e
    rw [← eq_of_beq e]
    exact hx
  · intro h
    exact ⟨b, h, by show (b == b) = true; simp⟩
theorem flat_bl (xs : List Bool) : (xs.map V.bl).all flatV = true := by
  rw [List.all_map]
  exact List.all_eq_true.mpr fun _ _ => rfl
theorem rms_ok {l : List Nat} (g : GoodW l) {bs : List (List Nat)} : ∀ r ∈ rms l bs, ∀ c ∈ r, c < 128 := fun r hr c hc => by
  unfold rms at hr
  obtain ⟨p, rfl⟩ := (allT_mem g.nd (Nat.le_refl _) r).mp (List.mem_filter.mp hr).1
  rw [List.take_length] at hc
  exact sds_asc g (rm_asc g hc)
theorem rms_len {l : List Nat} (g : GoodW l) {bs : List (List Nat)} : (rms l bs).length ≤ 4096 := by
  unfold rms
  refine Nat.le_trans (List.length_filter_le _ _) ?_
  rw [allT_len]
  exact pow12 g.hi
section
variable {P : Program} {w : World} {K : PySem.W.Frag} {mg : Str → Option Value} {base : Heap}
def rSgn : R2 := fun x y H Q => ∃ (c : Nat) (z : Str), x = .str ⟨#[c]⟩ ∧ y = .str z ∧ Q (.bl (decide (c ∈ z.cps.toList))) H
def tWith (i j : Nat) : TE := tCall spWithin [] E0 (tCons (tVar i) (tCons (tVar j) tNil))
def spFine (K : PySem.W.Frag) : Sp := fun vs H Q _ => ∃ l a rs, vs = [.str (tx l), .ref a] ∧ GoodW l ∧ SqL K H a ((rs.map tx).map V.str) ∧ rs.length ≤ 4096 ∧ ∀ H' b, Same H H' → (b = true → Fine l rs) → Q (.bl b) H'
set_option maxHeartbeats 2000000 in
theorem ok_fine {f fP fO fW : Addr} {fd fdP fdO fdW : FuncData} {k : Nat} (B : BM mg) (hany : mg "any" = none) (F : Fun K "_law_fine" "_law_fine" sFine f fd) (Pr : DF K mg "_law_pairs" sPairs ["_law_shuts_here"] fP fdP) (O : DF K mg "_law_other" sOth ["_law_side"] fO fdO) (W : DF K mg "_law_within" sWithin ["_law_sides_here", "_law_room"] fW fdW) :
    FnOk P w K mg base CX0 (k + 2) f fd ["_law_shuts_here", "_law_rooms_here"] (spFine K) := by
  have GP : FnOk P w K mg base CX0 (k + 1) fP fdP ["_law_shuts_here"] spPairs := ok_pairs B Pr.F
  have GO : FnOk P w K mg base CX0 (k + 1) fO fdO ["_law_side"] spOth := ok_oth O.F
  have GW : FnOk P w K mg base CX0 (k + 1) fW fdW ["_law_sides_here", "_law_room"] spWithin := ok_within B W.F
  refine F.ok scFine (fun vs H Q E h => ?_) (fun cdv A outer st H vs Q E hr h => ?_)
  · obtain ⟨l, a, rs, rfl, _⟩ := h
    rfl
  · obtain ⟨l, a, rs, rfl, g, hS, hrn, q⟩ := h
    have nd := scFine.nd
    refine ⟨_, pss_cons (ps_for PassesOwn.never rfl (pi_str (pv 0)) (pg_name (i := 2) nd rfl (.inr rfl))
        (pss_cons (ps_setLc (i := 3) (own := [("_law_room", 6)]) (g := gName 6) (tt := tYes) rfl nd rfl rfl (sw_true rfl rfl rfl (by decide +kernel)) (pi_list (pv 1)) (blkOk_by (N := nFine) (sc := defScope sFine) (by decide +kernel)) (fun _ _ _ _ _ => pg_name (i := 6) nd rfl (Or.inl rfl)) (fun _ _ _ _ _ => pts_nil)
          (fun _ _ _ _ _ => pe_cmpR op_in_sign (pv 2) (pv 6) (by rfl)))
        (pss_one (ps_if (PW.pt (pw_or (pt_cmpR op_notIn_seq pe_bl (pv 3) (by rfl)) (pw_or1 (pt_cmpR op_notIn_seq pe_bl (pv 3) (by rfl))))) (pss_one (ps_ret pe_bl)) pss_nil))))
      (pss_cons (ps_for PassesOwn.never rfl (pi_list (pe_call GP hr rfl Pr.g Pr.F.kp Pr.b .nil pass0 (pa_cons (pv 0) pa_nil))) (pg_name (i := 4) nd rfl (.inr rfl))
        (pss_cons (ps_set (i := 5) nd rfl (.inr rfl) (pe_op op_add_str (pe_call GO hr rfl O.g O.F.kp O.b .nil pass0 (pa_cons (pe_ix ix_str (pv 4) pe_int (fun _ _ => rfl)) pa_nil)) (pe_call GO hr rfl O.g O.F.kp O.b .nil pass0 (pa_cons (pe_ix ix_str (pv 4) pe_int (fun _ _ => rfl)) pa_nil))))
        (pss_one (ps_if (pt_not (pt_val (pe_callB (cr_any rfl) (by rfl) hany (by decide +kernel) (pa_cons (pe_lc (own := [("_law_room", 6)]) (g := gName 6) (tt := tYes) (te := tOrV (tWith 4 6) (tWith 5 6)) rfl nd (pi_list (pv 1)) (blkOk_by (N := nFine) (sc := defScope sFine) (by decide +kernel)) (fun _ _ _ _ _ => pg_name (i := 6) nd rfl (Or.inl rfl)) (fun _ _ _ _ _ => pts_nil)
            (fun _ _ _ _ _ => pe_or (pe_call GW hr rfl W.g W.F.kp W.b .nil pass0 (pa_cons (pv 4) (pa_cons (pv 6) pa_nil))) (pe_one (pe_call GW hr rfl W.g W.F.kp W.b .nil pass0 (pa_cons (pv 5) (pa_cons (pv 6) pa_nil)))))) pa_nil))))
          (pss_one (ps_ret pe_bl)) pss_nil))))
      (pss_one (ps_ret pe_bl))), ?_⟩
    have lz : (tx l).cps.size = l.length := tx_len _
    have hl12 := g.hi
    have wkr := walk_list (K := K) (a := a) (xs := (rs.map tx).map V.str)
    rw [List.length_map, List.length_map] at wkr
    refine ⟨_, rfl, tx l, rfl, ?_⟩
    refine for_it walk_str (fun i σ H' => ∃ (y2 y3 y4 y5 y6 : Option V), σ = [some (.str (tx l)), some (.ref a), y2, y3, y4, y5, y6] ∧ Same H H' ∧ ∀ c ∈ l.take i, (∃ r ∈ rs, c ∈ r) ∧ ∃ r ∈ rs, c ∉ r) ⟨_, _, _, _, _, rfl, L2.Same.refl _, fun c h => absurd h (by simp)⟩ (fun _ _ _ _ _ => trivial) ?_ ?_
    · rintro i x σ H1 H2 hi ⟨y2, y3, y4, y5, y6, rfl, s1, hv⟩ ⟨rfl, c, hc, rfl⟩
      have hcl : l[i]? = some c := by
        rw [← Array.getElem?_toList, tx_list] at hc
        exact hc
      have hS2 := sm_l s1 hS
      refine ⟨_, rfl, a, rfl, ⟨_, hS2⟩, fun Da na => ?_⟩
      refine lc_it wkr (fun u H' => Same H2 H' ∧ H' Da = some (.lst (((rs.take u).map fun r => decide (c ∈ r)).map V.bl))) ⟨same_upd na, upd_same⟩ (fun u H' _ h => sm_l h.1 hS2) ?_ ?_
      · rintro u x G5 G6 hu ⟨u5, ea⟩ ⟨rfl, hx⟩
        rw [List.getElem?_map, List.getElem?_map] at hx
        obtain ⟨z, hz, rfl⟩ := Option.map_eq_some_iff.mp hx
        obtain ⟨r, hr1, rfl⟩ := Option.map_eq_some_iff.mp hz
        refine ⟨rfl, yes_i ⟨_, rfl, _, rfl, c, tx r, rfl, rfl, ?_⟩⟩
        rw [tx_list]
        refine ⟨_, ea, ?_, sm_over u5 na, ?_⟩
        · rw [List.length_map, List.length_map, List.length_take, sizeLine_eq]
          omega
        · rw [upd_same, List.take_add_one, hr1, List.map_append, List.map_append]
          rfl
      · rintro G5 ⟨u5, ea⟩
        rw [List.take_length] at ea
        have no : ∀ G, Same G5 G → Q (.bl false) G := fun G hG => q G false (sm_trans (sm_trans s1 u5) hG) (fun h => by cases h)
        refine ⟨_, rfl, Da, _, rfl, .inl (SqL.of ea), rfl, flat_bl _, _, rfl, ?_⟩
        show if (!inV (.bl true) _) = true then _ else _
        rw [inV_bl]
        refine ite2 (fun t => iteT (no G5 (L2.Same.refl _))) (fun t => ?_)
        refine ⟨_, rfl, Da, _, rfl, .inl (SqL.of ea), rfl, flat_bl _, _, rfl, ?_⟩
        show if (!inV (.bl false) _) = true then _ else _
        rw [inV_bl]
        refine ite2 (fun t2 => no G5 (L2.Same.refl _)) (fun t2 => ?_)
        refine ⟨_, _, _, _, _, rfl, sm_trans s1 u5, fun e he => ?_⟩
        rw [List.take_add_one, hcl] at he
        rcases List.mem_append.mp he with h | h
        · exact hv e h
        · have e1 : e = c := by simpa using h
          rw [e1]
          have m1 : true ∈ rs.map fun r => decide (c ∈ r) := by simpa using t
          have m2 : false ∈ rs.map fun r => decide (c ∈ r) := by simpa using t2
          obtain ⟨r1, h1, k1⟩ := List.mem_map.mp m1
          obtain ⟨r2, h2, k2⟩ := List.mem_map.mp m2
          exact ⟨⟨r1, h1, of_decide_eq_true k1⟩, ⟨r2, h2, of_decide_eq_false k2⟩⟩
    rintro σ H1 ⟨y2, y3, y4, y5, y6, rfl, s1, hv⟩
    rw [lz, List.take_length] at hv
    refine ⟨_, rfl, l, rfl, g, fun H2 p s2 np ep => ?_⟩
    have wkp := walk_list (K := K) (a := p) (xs := ((prs l l.length).map tx).map V.str)
    rw [List.length_map, List.length_map] at wkp
    have s02 := sm_trans s1 s2
    refine ⟨p, rfl, ⟨_, SqL.of ep⟩, ?_⟩
    refine for_it wkp (fun i σ H' => ∃ (y2 y3 y4 y5 y6 : Option V), σ = [some (.str (tx l)), some (.ref a), y2, y3, y4, y5, y6] ∧ Same H2 H' ∧ ∀ b ∈ (prs l l.length).take i, ∃ r ∈ rs, inR b r = true ∨ inR (b.map swp) r = true) ⟨_, _, _, _, _, rfl, L2.Same.refl _, fun c h => absurd h (by simp)⟩ (fun i σ H' _ h => by obtain ⟨_, _, _, _, _, _, h, _⟩ := h; exact SqL.of (h _ _ ep)) ?_ ?_
    · rintro i x σ H3 H4 hi ⟨y2, y3, y4, y5, y6, rfl, s3, hw⟩ ⟨rfl, hx⟩
      rw [List.getElem?_map, List.getElem?_map] at hx
      obtain ⟨z, hz, rfl⟩ := Option.map_eq_some_iff.mp hx
      obtain ⟨b, hb1, rfl⟩ := Option.map_eq_some_iff.mp hz
      have hb2 : isBar l b = true := (prs_mem g b).mp (List.mem_of_getElem? hb1)
      obtain ⟨s, t, rfl, hs, ht, _⟩ := bar_two hb2
      have tz : (tx [s, t]).length ≤ sizeLine := by rw [tx_len, sizeLine_eq]; show 2 ≤ _; omega
      refine ⟨_, rfl, _, _, s, rfl, rfl, tz, rfl, s, rfl, sds_lt g hs, ?_⟩
      refine ⟨_, rfl, _, _, t, rfl, rfl, tz, rfl, t, rfl, sds_lt g ht, ?_⟩
      refine ⟨_, _, rfl, rfl, by show 1 + 1 ≤ sizeLine; decide, ?_⟩
      rw [show sg (swp s) ++ sg (swp t) = tx [swp s, swp t] by rw [sg_tx, sg_tx, tx_app]; rfl]
      have hS4 := sm_l (sm_trans s02 s3) hS
      refine ⟨_, rfl, a, rfl, ⟨_, hS4⟩, fun Da na => ?_⟩
      refine lc_it wkr (fun u H' => Same H4 H' ∧ H' Da = some (.lst (((rs.take u).map fun r => inR [s, t] r || inR [swp s, swp t] r).map V.bl))) ⟨same_upd na, upd_same⟩ (fun u H' _ h => sm_l h.1 hS4) ?_ ?_
      · rintro u x G5 G6 hu ⟨u5, ea⟩ ⟨rfl, hx⟩
        rw [List.getElem?_map, List.getElem?_map] at hx
        obtain ⟨z, hz, rfl⟩ := Option.map_eq_some_iff.mp hx
        obtain ⟨r, hr1, rfl⟩ := Option.map_eq_some_iff.mp hz
        have fin : ∀ G7, Same G6 G7 → ∀ bb : Bool, bb = (inR [s, t] r || inR [swp s, swp t] r) → ∃ acc, G7 Da = some (.lst acc) ∧ acc.length + 1 ≤ sizeLine ∧ Same H4 (upd G7 Da (.lst (acc ++ [V.bl bb]))) ∧ upd G7 Da (.lst (acc ++ [V.bl bb])) Da = some (.lst (((rs.take (u + 1)).map fun r => inR [s, t] r || inR [swp s, swp t] r).map V.bl)) := fun G7 u7 bb ebb => by
          refine ⟨_, u7 _ _ ea, ?_, sm_over (sm_trans u5 u7) na, ?_⟩
          · rw [List.length_map, List.length_map, List.length_take, sizeLine_eq]
            omega
          · rw [upd_same, List.take_add_one, hr1, List.map_append, List.map_append, ebb]
            rfl
        refine ⟨rfl, yes_i ⟨_, rfl, _, rfl, [s, t], r, rfl, by show 2 ≤ 100; decide, fun G7 u7 => ⟨_, rfl, ?_⟩⟩⟩
        refine ite2 (fun k1 => fin G7 u7 true (by rw [k1]; rfl)) (fun k1 => ?_)
        refine ⟨_, rfl, _, rfl, [swp s, swp t], r, rfl, by show 2 ≤ 100; decide, fun G8 u8 => fin G8 (sm_trans u7 u8) _ (by rw [Bool.eq_false_iff.mpr k1]; rfl)⟩
      · rintro G5 ⟨u5, ea⟩
        rw [List.take_length] at ea
        refine ⟨Da, _, rfl, SqL.of ea, _, rfl, ?_⟩
        refine ite2 (fun t0 => ?_) (fun t0 => ?_)
        · exact q G5 false (sm_trans (sm_trans s02 s3) u5) (fun h => by cases h)
        · refine ⟨_, _, _, _, _, rfl, sm_trans s3 u5, fun e he => ?_⟩
          rw [List.take_add_one, hb1] at he
          rcases List.mem_append.mp he with h | h
          · exact hw e h
          · have e1 : e = [s, t] := by simpa using h
            rw [e1]
            have t1 : (rs.map fun r => inR [s, t] r || inR [swp s, swp t] r).any id = true := by
              cases hh : (rs.map fun r => inR [s, t] r || inR [swp s, swp t] r).any id with
              | true => rfl
              | false => rw [hh] at t0; exact absurd rfl t0
            rw [List.any_map] at t1
            obtain ⟨r, hr2, k2⟩ := List.any_eq_true.mp t1
            refine ⟨r, hr2, ?_⟩
            have k2 : (inR [s, t] r || inR [swp s, swp t] r) = true := k2
            rcases Bool.or_eq_true_iff.mp k2 with z | z
            · exact .inl z
            · exact .inr z
    · rintro σ H3 ⟨y2, y3, y4, y5, y6, rfl, s3, hw⟩
      rw [List.take_length] at hw
      refine q H3 true (sm_trans s02 s3) fun _ => ⟨hv, fun x y hxy => ?_⟩
      exact hw [x, y] ((prs_mem g _).mpr hxy)
end
end NC
namespace NC
open PySem PySem.Spec PyProof.Rows L2
abbrev sHall : Stmt := topS 68
abbrev nHall : List Str := ["_law_d", "_law_most_it", "_law_shuts_here", "_law_bars", "_law_many_it", "_law_k", "_law_bar"]
theorem scHall : FnScope nHall ["_law_d", "_law_most_it"] (defScope sHall) := ⟨rfl, rfl, rfl, by decide +kernel, rfl, by decide +kernel, by decide +kernel⟩
theorem Dr.cell {H : Hp} {d c : Addr} (h : Dr H d) (hc : HeadC H d c) : ∃ ns : List Int, H c = some (.lst (ns.map V.int)) := by
  obtain ⟨c0, ns, i, a, b, f, h1, h2, h3⟩ := h
  obtain ⟨r, e⟩ := hc
  rw [h1] at e
  have e2 : c0 = c := by
    injection e with e
    injection e with e
    injection e with e _
    injection e
  exact ⟨ns, by rw [← e2]; exact h2⟩
theorem Dr.upd {H : Hp} {d c b : Addr} {o : HO} (h : Dr H d) (hc : HeadC H d c) (n1 : b ≠ d) (n2 : b ≠ c) : Dr (L2.upd H b o) d := by
  obtain ⟨c0, ns, i, a, b2, f, h1, h2, h3⟩ := h
  obtain ⟨r, e⟩ := hc
  rw [h1] at e
  have e2 : c0 = c := by
    injection e with e
    injection e with e
    injection e with e _
    injection e
  exact ⟨c0, ns, i, a, b2, f, by rw [upd_ne (Ne.symm n1)]; exact h1, by rw [e2, upd_ne (Ne.symm n2), ← e2]; exact h2, h3⟩
theorem Dr.head {H : Hp} {d : Addr} (h : Dr H d) : ∃ c, HeadC H d c := by
  obtain ⟨c0, ns, i, a, b2, f, h1, h2, h3⟩ := h
  exact ⟨c0, _, h1⟩
theorem HeadC.upd {H : Hp} {d c b : Addr} {o : HO} (h : HeadC H d c) (n1 : b ≠ d) : HeadC (L2.upd H b o) d c := by
  obtain ⟨r, h⟩ := h
  exact ⟨r, by rw [upd_ne (Ne.symm n1)]; exact h⟩
theorem first_ok {l : List Nat} {bs : List (List Nat)} (h : ∀ b ∈ bs, isBar l b = true) (nd : bs.Nodup) : firstBad l bs = none := List.find?_eq_none.mpr fun i hi => by
  have hl : i < bs.length := by simpa using hi
  have e : bs.getD i [] = bs[i] := by simp [List.getD, hl]
  unfold badAt
  rw [e, h _ (List.getElem_mem hl)]
  have hn : bs[i] ∉ bs.take i := fun hm => by
    obtain ⟨j, hj, ej⟩ := List.getElem_of_mem hm
    have hji : j < i := by rw [List.length_take] at hj; omega
    rw [List.getElem_take] at ej
    have hjl : j < bs.length := by omega
    have ee : bs[j]? = bs[i]? := by rw [List.getElem?_eq_getElem hjl, List.getElem?_eq_getElem hl, ej]
    have := (List.getElem?_inj hjl nd).mp ee
    omega
  simp [hn]
theorem bars_ok {l : List Nat} (g : GoodW l) {bs : List (List Nat)} (h : ∀ b ∈ bs, isBar l b = true) : BarsOk bs := fun b hb => by
  obtain ⟨x, y, rfl, hx, hy, _⟩ := bar_two (h b hb)
  refine ⟨fun c hc => ?_, by show 2 ≤ 100; decide⟩
  rcases List.mem_cons.mp hc with e | e
  · rw [e]; exact sds_asc g hx
  · rw [List.mem_singleton.mp e]; exact sds_asc g hy
theorem prs_pos {l : List Nat} (g : GoodW l) (h : 1 < l.length) : 1 ≤ (prs l l.length).length := by
  have h0 : 0 < l.length := by omega
  have lt : l[0] < l[1] := List.pairwise_iff_getElem.mp g.rise 0 1 h0 h (by omega)
  have m0 : l[0] ∈ l := List.getElem_mem h0
  have m1 : l[1] ∈ l := List.getElem_mem h
  have hm : [l[0], l[1]] ∈ prs l l.length := (prs_mem g _).mpr (by
    show (decide (l[0] ∈ sds l) && (decide (l[1] ∈ sds l) && decide (lwc l[0] < lwc l[1]))) = true
    rw [decide_eq_true (sds_of_small m0), decide_eq_true (sds_of_small m1), lwc_of (g.sm _ m0) (List.mem_cons_self ..), lwc_of (g.sm _ m1) (List.mem_cons_self ..), decide_eq_true lt]
    rfl)
  exact List.length_pos_of_mem hm
theorem mem_tx {x : List Nat} {bs : List (List Nat)} : tx x ∈ bs.map tx ↔ x ∈ bs := by
  constructor
  · intro h
    obtain ⟨y, hy, e⟩ := List.mem_map.mp h
    rw [← tx_inj e]
    exact hy
  · exact fun h => List.mem_map.mpr ⟨x, h, rfl⟩
theorem inV_tx (x : List Nat) (bs : List (List Nat)) : inV (.str (tx x)) ((bs.map tx).map V.str) = decide (x ∈ bs) := by
  rw [inV_str]
  by_cases h : x ∈ bs
  · rw [decide_eq_true h, decide_eq_true (mem_tx.mpr h)]
  · rw [decide_eq_false h, decide_eq_false fun z => h (mem_tx.mp z)]
/-- a hall as the law draws it -/
structure HallOk (l : List Nat) (bs : List (List Nat)) : Prop where
  g : GoodW l
  bar : ∀ b ∈ bs, isBar l b = true
  nd : bs.Nodup
  len : bs.length ≤ 24
  ok : Okv l bs
  ne : rms l bs ≠ []
theorem rms_nil_ne {l : List Nat} : rms l [] ≠ [] := fun h => by
  have e : rms l [] = allT l l.length := List.filter_eq_self.mpr fun _ _ => rfl
  rw [e] at h
  have := allT_len l l.length
  rw [h] at this
  have h2 : 0 < 2 ^ l.length := Nat.pow_pos (by decide)
  rw [← this] at h2
  exact absurd h2 (by decide)
theorem Fine.ne {l : List Nat} (g : GoodW l) {rs : List (List Nat)} (F : Fine l rs) : rs ≠ [] := fun z => by
  obtain ⟨c, hc⟩ : ∃ c, c ∈ l := by
    have := g.lo
    cases l with
    | nil => exact absurd this (by decide)
    | cons c r => exact ⟨c, List.mem_cons_self ..⟩
  obtain ⟨⟨r, hr, _⟩, _⟩ := F.has c hc
  rw [z] at hr
  cases hr
section
variable {P : Program} {w : World} {K : PySem.W.Frag} {mg : Str → Option Value} {base : Heap}
def spHall : Sp := fun vs H Q _ => ∃ (d : Addr) (n : Int), vs = [.ref d, .int n] ∧ Dr H d ∧ 1 ≤ n ∧ n ≤ 12 ∧
  ∀ H' l bs T bA rA, SmD d H H' → Dr H' d → HallOk l bs → (l.length : Int) ≤ n → bA ≠ d → rA ≠ d → H' T = some (.lst [.str (tx l), .ref bA, .ref rA]) → H' bA = some (.lst ((bs.map tx).map V.str)) → H' rA = some (.lst (((rms l bs).map tx).map V.str)) → Q (.ref T) H'
set_option maxHeartbeats 2000000 in
theorem ok_hall {f fDraw fOf fLet fShuts fOth fWit fPairs fAll fRms fFine : Addr} {fd dDraw dOf dLet dShuts dOth dWit dPairs dAll dRms dFine : FuncData} {k : Nat} (B : BM mg) (hany : mg "any" = none) (F : Fun K "_law_hall" "_law_hall" sHall f fd)
    (Ld : DF K mg "_law_draw" sDraw ["_law_d", "_law_many_it"] fDraw dDraw) (Lo : DF K mg "_law_of" sOf ["_law_d", "_law_some"] fOf dOf) (Ll : DF K mg "_law_letters" sLetters [] fLet dLet) (Ls : DF K mg "_law_shuts" sShuts ["_law_d", "_law_most_it"] fShuts dShuts)
    (Lt : DF K mg "_law_other" sOth ["_law_side"] fOth dOth) (Lw : DF K mg "_law_within" sWithin ["_law_sides_here", "_law_room"] fWit dWit) (Lp : DF K mg "_law_pairs" sPairs ["_law_shuts_here"] fPairs dPairs) (La : DF K mg "_law_all" sAll ["_law_shuts_here"] fAll dAll)
    (Lr : DF K mg "_law_rooms" sRooms ["_law_shuts_here", "_law_bars"] fRms dRms) (Lf : DF K mg "_law_fine" sFine ["_law_shuts_here", "_law_rooms_here"] fFine dFine) :
    FnOk P w K mg base CX0 (k + 3) f fd ["_law_d", "_law_most_it"] spHall := by
  have GD : FnOk P w K mg base CX0 (k + 1) fDraw dDraw ["_law_d", "_law_many_it"] spDraw := ok_draw B Ld.F
  have GO : FnOk P w K mg base CX0 (k + 2) fOf dOf ["_law_d", "_law_some"] (spOf K) := ok_of B Lo.F Ld
  have GSh : FnOk P w K mg base CX0 (k + 2) fShuts dShuts ["_law_d", "_law_most_it"] spShuts := ok_shuts B Ls.F Ld Ll
  have GP : FnOk P w K mg base CX0 (k + 1) fPairs dPairs ["_law_shuts_here"] spPairs := ok_pairs B Lp.F
  have GR : FnOk P w K mg base CX0 (k + 2) fRms dRms ["_law_shuts_here", "_law_bars"] (spRooms K) := ok_rooms B hany Lr.F La Lw
  have GF : FnOk P w K mg base CX0 (k + 2) fFine dFine ["_law_shuts_here", "_law_rooms_here"] (spFine K) := ok_fine B hany Lf.F Lp Lt Lw
  refine F.ok scHall (fun vs H Q E h => ?_) (fun cdv A outer st H vs Q E hr h => ?_)
  · obtain ⟨d, n, rfl, _⟩ := h
    rfl
  · obtain ⟨d, n, rfl, hD, n1, n12, q⟩ := h
    have r1 : Room (k + 1) _ := hr.mono (by omega)
    have r2 : Room (k + 2) _ := hr.mono (by omega)
    have nd := scHall.nd
    refine ⟨_, pss_cons (ps_par (i := 2) (j := 3) rfl nd rfl rfl (by decide) rfl rfl (pa_cons (pe_call GSh r2 rfl Ls.g Ls.F.kp Ls.b .nil pass0 (pa_cons (pv 0) (pa_cons (pe_op op_add pe_int (pe_call GD r1 rfl Ld.g Ld.F.kp Ld.b .nil pass0 (pa_cons (pv 0) (pa_cons (pv 1) pa_nil)))) pa_nil))) (pa_cons (pe_lst pa_nil) pa_nil)) rfl)
      (C8.pss_cut (ps_set (i := 4) nd rfl (.inl rfl) (pe_ifExp (pt_cmpR op_gt (pe_callB call_len_str (by rfl) B.len PySem.boot_len (pa_cons (pv 2) pa_nil)) pe_int (nomark _))
          (pe_ix ix_list (pe_lst (pa_cons pe_int (pa_cons (pe_callB call_len_str (by rfl) B.len PySem.boot_len (pa_cons (pv 2) pa_nil)) (pa_cons (pe_op op_mul pe_int (pe_callB call_len_str (by rfl) B.len PySem.boot_len (pa_cons (pv 2) pa_nil))) (pa_cons pe_int pa_nil))))) (pe_call GD r1 rfl Ld.g Ld.F.kp Ld.b .nil pass0 (pa_cons (pv 0) (pa_cons pe_int pa_nil))) (fun _ _ => rfl)) pe_int))
      (pss_cons (ps_for PassesOwn.never rfl (pi_range1 (by rfl) B.range (pa_cons (pv 4) pa_nil)) (pg_name (i := 5) nd rfl (.inl rfl))
        (pss_cons (ps_set (i := 6) nd rfl (.inl rfl) (pe_call GO r2 rfl Lo.g Lo.F.kp Lo.b .nil pass0 (pa_cons (pv 0) (pa_cons (pe_call GP r1 rfl Lp.g Lp.F.kp Lp.b .nil pass0 (pa_cons (pv 2) pa_nil)) pa_nil))))
        (pss_one (ps_if (PW.pt (pw_and (pt_cmpR op_notIn_seq (pv 6) (pv 3) (by rfl)) (pw_and1 (pt_val (pe_call GF r2 rfl Lf.g Lf.F.kp Lf.b .nil pass0 (pa_cons (pv 2) (pa_cons (pe_call GR r2 rfl Lr.g Lr.F.kp Lr.b .nil pass0 (pa_cons (pv 2) (pa_cons (pe_op op_cat (pv 3) (pe_lst (pa_cons (pv 6) pa_nil))) pa_nil))) pa_nil)))))))
          (pss_one (ps_set (i := 3) nd rfl (.inl rfl) (pe_op op_cat (pv 3) (pe_lst (pa_cons (pv 6) pa_nil))))) pss_nil))))
      (pss_one (ps_ret (pe_lst (pa_cons (pv 2) (pa_cons (pv 3) (pa_cons (pe_call GR r2 rfl Lr.g Lr.F.kp Lr.b .nil pass0 (pa_cons (pv 2) (pa_cons (pv 3) pa_nil))) pa_nil)))))))), ?_⟩
    refine ⟨_, rfl, _, rfl, _, rfl, d, n, rfl, hD, by omega, by omega, fun H1 v s1 D1 v0 v1 => ⟨_, _, rfl, rfl, d, _, rfl, D1, by omega, by omega, fun H2 l s2 D2 g hln => ?_⟩⟩
    have hz : (tx l).length ≤ sizeLine := by rw [tx_len, sizeLine_eq]; have := g.hi; omega
    have hl12 := g.hi
    have s02 := s1.trans s2
    refine ⟨Nat.zero_le _, fun bA0 nb0 => ⟨_, _, rfl, ?_⟩⟩
    have nbd0 : bA0 ≠ d := by
      obtain ⟨c0, r0, hd2⟩ := D2.head
      exact Ne.symm (ne_of_none hd2 nb0)
    have s03 : SmD d H (upd H2 bA0 (.lst [])) := s02.trans (SmD.of (same_upd nb0))
    have D3 : Dr (upd H2 bA0 (.lst [])) d := D2.same (same_upd nb0)
    have e3 : (upd H2 bA0 (.lst [])) bA0 = some (.lst []) := upd_same
    generalize (upd H2 bA0 (.lst [])) = H3 at s03 D3 e3 ⊢
    refine ⟨fun σ H' => ∃ (m : Nat) (y5 y6 : Option V), σ = [some (.ref d), some (.int n), some (.str (tx l)), some (.ref bA0), some (.int m), y5, y6] ∧ m ≤ 24 ∧ (0 < m → 1 < l.length) ∧ SmD d H H' ∧ Dr H' d ∧ H' bA0 = some (.lst []), ?_, ?_⟩
    · refine ⟨_, rfl, _, rfl, hz, _, _, rfl, rfl, _, rfl, ite2 (fun t => ?_) (fun t => ?_)⟩
      · have hl1 : 1 < l.length := by
          have := of_decide_eq_true t
          rw [tx_len] at this
          omega
        refine ⟨_, rfl, _, rfl, hz, _, rfl, _, rfl, hz, _, _, rfl, rfl, .inl ⟨by decide, by decide⟩, by show 4 ≤ sizeLine; decide, fun p np => ?_⟩
        have npd : p ≠ d := by
          obtain ⟨c0, r0, hd3⟩ := D3.head
          exact Ne.symm (ne_of_none hd3 np)
        have npb : bA0 ≠ p := ne_of_none e3 np
        refine ⟨_, rfl, d, 4, rfl, D3.same (same_upd np), by decide, by decide, fun H4 v4 s4 D4 v40 v44 => ?_⟩
        have ep : H4 p = _ := s4.1 _ _ npd upd_same
        obtain ⟨m, hm, hat⟩ : ∃ m : Nat, m ≤ 24 ∧ atI [V.int 0, .int ((tx l).length : Nat), .int (2 * ((tx l).length : Nat)), .int 1] v4 = some (.int m) := by
          rw [tx_len]
          have hv : v4 = 0 ∨ v4 = 1 ∨ v4 = 2 ∨ v4 = 3 := by omega
          rcases hv with rfl | rfl | rfl | rfl
          · exact ⟨0, by omega, rfl⟩
          · exact ⟨l.length, by omega, rfl⟩
          · exact ⟨2 * l.length, by omega, by show some (V.int (2 * ((l.length : Nat) : Int))) = _; congr 2⟩
          · exact ⟨1, by omega, rfl⟩
        refine ⟨p, _, v4, .int m, rfl, rfl, SqL.of ep, hat, m, _, _, rfl, hm, fun _ => hl1, (s03.trans (SmD.of (same_upd np))).trans s4, D4, s4.1 _ _ nbd0 (by rw [upd_ne npb]; exact e3)⟩
      · exact ⟨0, _, _, rfl, by omega, fun h => absurd h (by decide), s03, D3, e3⟩
    rintro σ H4 ⟨m, y5, y6, rfl, hm, hm1, s4, D4, e4⟩
    refine ⟨_, rfl, m, rfl, by omega, by omega, ?_⟩
    rw [show ((m : Nat) : Int).toNat = m from Int.toNat_natCast _]
    refine for_it walk_range (fun j σ H' => ∃ (bA : Addr) (y5 y6 : Option V) (bs : List (List Nat)), σ = [some (.ref d), some (.int n), some (.str (tx l)), some (.ref bA), some (.int m), y5, y6] ∧ SmD d H H' ∧ Dr H' d ∧ bA ≠ d ∧ H' bA = some (.lst ((bs.map tx).map V.str)) ∧ HallOk l bs ∧ bs.length ≤ j)
      ⟨bA0, _, _, [], rfl, s4, D4, nbd0, e4, ⟨g, (fun b h => absurd h (by simp)), List.nodup_nil, Nat.zero_le _, okv_nil g, rms_nil_ne⟩, Nat.le_refl _⟩ (fun _ _ _ _ _ => trivial) ?_ ?_
    · rintro j v σ Ha Hb hj ⟨bA, y5, y6, bs, rfl, sa, Da, nbd, ea, ho, hbl⟩ ⟨rfl, rfl⟩
      have hl1 : 1 < l.length := hm1 (by omega)
      have pl := prs_len l l.length
      have pl2 : 4 * l.length * l.length ≤ 4 * 12 * 12 := Nat.mul_le_mul (Nat.mul_le_mul_left _ hl12) hl12
      refine ⟨_, rfl, _, rfl, l, rfl, g, fun H5 pA s5 npA epA => ?_⟩
      have npd : pA ≠ d := by
        obtain ⟨c0, r5, hd5⟩ := Da.head
        exact Ne.symm (ne_of_none hd5 npA)
      have D5 := Da.same s5
      refine ⟨d, _, rfl, D5, .inl ⟨pA, _, rfl, npd, SqL.of epA, by rw [List.length_map, List.length_map]; exact prs_pos g hl1, by rw [List.length_map, List.length_map]; omega, fun H6 v j s6 D6 hv => ?_⟩⟩
      rw [List.getElem?_map, List.getElem?_map] at hv
      obtain ⟨z, hz1, rfl⟩ := Option.map_eq_some_iff.mp hv
      obtain ⟨b, hb1, rfl⟩ := Option.map_eq_some_iff.mp hz1
      have hbar : isBar l b = true := (prs_mem g b).mp (List.mem_of_getElem? hb1)
      have e6 : H6 bA = _ := s6.1 _ _ nbd (s5 _ _ ea)
      have s06 := (sa.trans (SmD.of s5)).trans s6
      refine ⟨_, rfl, _, rfl, bA, _, rfl, .inl (SqL.of e6), rfl, flat_str _, _, rfl, ?_⟩
      show if (!inV (.str (tx b)) ((bs.map tx).map V.str)) = true then _ else _
      rw [inV_tx]
      refine ite2 (fun t => ?_) (fun t => ?_)
      · have hn : b ∉ bs := by simpa using t
        have ej : (bs.map tx).map V.str ++ [V.str (tx b)] = ((bs ++ [b]).map tx).map V.str := by simp
        have lz2 : ((bs.map tx).map V.str).length + [V.str (tx b)].length ≤ sizeLine := by
          rw [List.length_map, List.length_map, sizeLine_eq]
          show bs.length + 1 ≤ _
          omega
        have hb' : ∀ e ∈ bs ++ [b], isBar l e = true := fun e he => by
          rcases List.mem_append.mp he with z | z
          · exact ho.bar e z
          · rw [List.mem_singleton.mp z]; exact hbar
        have bok := bars_ok g hb'
        refine ⟨_, rfl, _, rfl, _, rfl, _, rfl, by show 1 ≤ sizeLine; decide, fun p1 np1 => ?_⟩
        have n1b : bA ≠ p1 := ne_of_none e6 np1
        refine ⟨bA, p1, _, _, rfl, rfl, by rw [upd_ne n1b]; exact e6, upd_same, lz2, fun p2 np2 => ?_⟩
        have n12' : p1 ≠ p2 := ne_of_none upd_same np2
        have s67 : Same H6 (upd (upd H6 p1 (.lst [V.str (tx b)])) p2 (.lst ((bs.map tx).map V.str ++ [V.str (tx b)]))) := sm_upd (same_upd np1) np2
        have e7 : (upd (upd H6 p1 (.lst [V.str (tx b)])) p2 (.lst ((bs.map tx).map V.str ++ [V.str (tx b)]))) p2 = some (.lst (((bs ++ [b]).map tx).map V.str)) := by rw [upd_same, ej]
        generalize (upd (upd H6 p1 (.lst [V.str (tx b)])) p2 (.lst ((bs.map tx).map V.str ++ [V.str (tx b)]))) = H7 at s67 e7 ⊢
        refine ⟨l, p2, bs ++ [b], rfl, g, SqL.of e7, fun x hx => (bok x hx).2, by rw [List.length_append]; show bs.length + 1 ≤ 100; omega, fun H8 rA s8 nrA erA => ?_⟩
        refine ⟨l, rA, rms l (bs ++ [b]), rfl, g, SqL.of erA, rms_len g, fun H9 c s9 hc => ?_⟩
        have s69 := sm_trans (sm_trans s67 s8) s9
        refine ⟨_, rfl, ite2 (fun t2 => ?_) (fun t2 => ?_)⟩
        · have fine := hc t2
          have ho' : HallOk l (bs ++ [b]) := ⟨g, hb', nd_snoc ho.nd hn, by rw [List.length_append]; show bs.length + 1 ≤ 24; omega, fine.ok g hb', fine.ne g⟩
          have e9 := s69 _ _ e6
          refine ⟨_, rfl, _, rfl, by show 1 ≤ sizeLine; decide, fun p3 np3 => ?_⟩
          have n3b : bA ≠ p3 := ne_of_none e9 np3
          refine ⟨bA, p3, _, _, rfl, rfl, by rw [upd_ne n3b]; exact e9, upd_same, lz2, fun p4 np4 => ?_⟩
          have sX := sm_upd (same_upd np3) np4 (o := .lst ((bs.map tx).map V.str ++ [V.str (tx b)]))
          have D9 := D6.same s69
          have n4d : p4 ≠ d := by
            obtain ⟨c0, r5, hd5⟩ := (D9.same (same_upd np3)).head
            exact Ne.symm (ne_of_none hd5 np4)
          exact ⟨p4, _, _, bs ++ [b], rfl, s06.trans (SmD.of (sm_trans s69 sX)), D9.same sX, n4d, by rw [upd_same, ej], ho', by rw [List.length_append]; show bs.length + 1 ≤ _ + 1; omega⟩
        · exact ⟨bA, _, _, bs, rfl, s06.trans (SmD.of s69), D6.same s69, nbd, s69 _ _ e6, ho, by omega⟩
      · exact iteF ⟨bA, _, _, bs, rfl, s06, D6, nbd, e6, ho, by omega⟩
    · rintro σ H5 ⟨bA, y5, y6, bs, rfl, s5, D5, nbd, e5, ho, hbl⟩
      have bok := bars_ok g ho.bar
      refine ⟨_, rfl, _, rfl, _, rfl, _, rfl, l, bA, bs, rfl, g, SqL.of e5, fun x hx => (bok x hx).2, by omega, fun H6 rA s6 nrA erA => ?_⟩
      have nrd : rA ≠ d := by
        obtain ⟨c0, r5, hd5⟩ := D5.head
        exact Ne.symm (ne_of_none hd5 nrA)
      refine ⟨by show 3 ≤ sizeLine; decide, fun T nT => ?_⟩
      have sT := sm_upd s6 nT (o := .lst [.str (tx l), .ref bA, .ref rA])
      have ntb : bA ≠ T := ne_of_none (s6 _ _ e5) nT
      have ntr : rA ≠ T := ne_of_none erA nT
      exact q _ l bs T bA rA (s5.trans (SmD.of sT)) (D5.same sT) ho (by omega) nbd nrd upd_same (by rw [upd_ne ntb]; exact s6 _ _ e5) (by rw [upd_ne ntr]; exact erA)
end
end NC
namespace NC
open PySem PySem.Spec PyProof.Rows L2
abbrev sSame : Stmt := topS 56
theorem scSame : FnScope ["_law_x", "_law_due", "_law_k"] ["_law_x", "_law_due"] (defScope sSame) := ⟨rfl, rfl, rfl, by decide +kernel, rfl, by decide +kernel, by decide +kernel⟩
theorem boot_isi : bootBuiltins "isinstance" = some (.builtin "isinstance") := PyProof.Rows.boot_isinstance
/-- two things that are the same all through, at most n lists or tuples within one another -/
inductive Alk (H : Hp) : Nat → V → V → Prop where
  | str {n : Nat} (a : Str) : Alk H n (.str a) (.str a)
  | bl {n : Nat} (a : Bool) : Alk H n (.bl a) (.bl a)
  | int {n : Nat} (a : Int) : Alk H n (.int a) (.int a)
  | non {n : Nat} : Alk H n .non .non
  | lst {n : Nat} {p r : Addr} {xs ys : List V} (ep : H p = some (.lst xs)) (er : H r = some (.lst ys)) (hl : xs.length = ys.length) (h5 : ys.length ≤ 5000) (h : ∀ (i : Nat) a b, xs[i]? = some a → ys[i]? = some b → Alk H n a b) : Alk H (n + 1) (.ref p) (.ref r)
  | tup {n : Nat} {p r : Addr} {xs ys : List V} (ep : H p = some (.tup xs)) (er : H r = some (.tup ys)) (hl : xs.length = ys.length) (h5 : ys.length ≤ 5000) (h : ∀ (i : Nat) a b, xs[i]? = some a → ys[i]? = some b → Alk H n a b) : Alk H (n + 1) (.ref p) (.ref r)
theorem Alk.same {H H' : Hp} (s : Same H H') : ∀ {n : Nat} {x y : V}, Alk H n x y → Alk H' n x y
  | _, _, _, .str a => .str a
  | _, _, _, .bl a => .bl a
  | _, _, _, .int a => .int a
  | _, _, _, .non => .non
  | _, _, _, .lst ep er hl h5 h => .lst (s _ _ ep) (s _ _ er) hl h5 fun i a b ha hb => (h i a b ha hb).same s
  | _, _, _, .tup ep er hl h5 h => .tup (s _ _ ep) (s _ _ er) hl h5 fun i a b ha hb => (h i a b ha hb).same s
theorem Alk.strs {H : Hp} {n : Nat} {p r : Addr} {xs : List Str} (ep : H p = some (.lst (xs.map V.str))) (er : H r = some (.lst (xs.map V.str))) (h5 : xs.length ≤ 5000) : Alk H (n + 1) (.ref p) (.ref r) :=
  .lst ep er rfl (by rw [List.length_map]; exact h5) fun i a b ha hb => by
    rw [ha] at hb
    cases hb
    rw [List.getElem?_map] at ha
    obtain ⟨z, _, rfl⟩ := Option.map_eq_some_iff.mp ha
    exact .str z
section
variable {P : Program} {w : World} {K : PySem.W.Frag} {mg : Str → Option Value} {base : Heap}
/-- yes alone: only of what is the same -/
def spYes : Nat → Sp := fun n vs H Q _ => ∃ x y, vs = [x, y] ∧ Alk H n x y ∧ ∀ H', Same H H' → Q (.bl true) H'
def spNo : Sp := fun _ _ _ _ => False
theorem range_true (n : Nat) : ((List.range n).map fun _ => true).all id = true := by
  rw [List.all_eq_true]
  intro x hx
  obtain ⟨_, _, e⟩ := List.mem_map.mp hx
  rw [← e]
  rfl
theorem dec_self (x : V) : decide (x = x) = true := decide_eq_true rfl
set_option maxHeartbeats 2000000 in
theorem ok_yes1 {f : Addr} {fd : FuncData} {k : Nat} {spR : Sp} {n : Nat} (B : BM mg) (hb : mg "bool" = none) (hst : mg "str" = none) (D : DF K mg "_law_same" sSame ["_law_x", "_law_due"] f fd) (GS : FnOk P w K mg base CX0 k f fd ["_law_x", "_law_due"] spR)
    (hR : ∀ m, n = m + 1 → ∀ a b H (Q : VK) E, Alk H m a b → (∀ H', Same H H' → Q (.bl true) H') → spR [a, b] H Q E) :
    FnOk P w K mg base CX0 (k + 1) f fd ["_law_x", "_law_due"] (spYes n) := by
  refine D.F.ok scSame (fun vs H Q E h => ?_) (fun cdv A outer s H vs Q E hr h => ?_)
  · obtain ⟨x, y, rfl, _⟩ := h
    rfl
  · obtain ⟨x, y, rfl, al, q⟩ := h
    refine ⟨_, pss_cons (ps_if (pt_val (pe_callB call_isiT (by rfl) B.isinstance boot_isi (pa_cons (pv 1) (pa_cons (pe_tup (pa_cons (pe_bltn (v := .ty "list") (by rfl) B.list (by decide +kernel) rfl) (pa_cons (pe_bltn (v := .ty "tuple") (by rfl) B.tuple (by decide +kernel) rfl) pa_nil))) pa_nil))))
        (pss_cons (ps_if (PW.pt (pw_or
            (pt_cmpR op_ne (pe_callB call_isi (by rfl) B.isinstance boot_isi (pa_cons (pv 1) (pa_cons (pe_bltn (v := .ty "list") (by rfl) B.list (by decide +kernel) rfl) pa_nil))) (pe_callB call_isi (by rfl) B.isinstance boot_isi (pa_cons (pv 0) (pa_cons (pe_bltn (v := .ty "list") (by rfl) B.list (by decide +kernel) rfl) pa_nil))) (nomark _))
            (pw_or1 (pt_cmpR op_ne (pe_callB call_isi (by rfl) B.isinstance boot_isi (pa_cons (pv 1) (pa_cons (pe_bltn (v := .ty "tuple") (by rfl) B.tuple (by decide +kernel) rfl) pa_nil))) (pe_callB call_isi (by rfl) B.isinstance boot_isi (pa_cons (pv 0) (pa_cons (pe_bltn (v := .ty "tuple") (by rfl) B.tuple (by decide +kernel) rfl) pa_nil))) (nomark _)))))
          (pss_one (ps_ret pe_bl)) pss_nil)
        (pss_one (ps_ret (pe_and (pe_cmpR op_eq (pe_callB call_len_seq (by rfl) B.len PySem.boot_len (pa_cons (pv 0) pa_nil)) (pe_callB call_len_seq (by rfl) B.len PySem.boot_len (pa_cons (pv 1) pa_nil)) (nomark _))
          (pe_one (pe_callB (cr_all rfl) (by rfl) B.all (by decide +kernel) (pa_cons (pe_lc (own := [("_law_k", 2)]) (g := gName 2) (tt := tYes) (te := tCall spR [] E0 (tCons (tOp (fun x y H Q => rIxL K x y H Q ∨ rIxT K x y H Q) (tVar 0) (tVar 2)) (tCons (tOp (fun x y H Q => rIxL K x y H Q ∨ rIxT K x y H Q) (tVar 1) (tVar 2)) tNil))) rfl scSame.nd (pi_range1 (by rfl) B.range (pa_cons (pe_callB call_len_seq (by rfl) B.len PySem.boot_len (pa_cons (pv 1) pa_nil)) pa_nil))
            (blkOk_by (N := ["_law_x", "_law_due", "_law_k"]) (sc := defScope sSame) (by decide +kernel)) (fun _ _ _ _ _ => pg_name (i := 2) scSame.nd rfl (Or.inl rfl)) (fun _ _ _ _ _ => pts_nil)
            (fun _ _ _ _ _ => pe_call GS hr rfl D.g D.F.kp D.b .nil pass0 (pa_cons (pe_ix (IxR.or ix_list ix_tup) (pv 0) (pv 2) (fun _ _ => rfl)) (pa_cons (pe_ix (IxR.or ix_list ix_tup) (pv 1) (pv 2) (fun _ _ => rfl)) pa_nil)))) pa_nil)))))))
        pss_nil)
      (pss_cons (ps_if (PW.pt (pw_or
            (pt_cmpR op_ne (pe_callB call_isi (by rfl) B.isinstance boot_isi (pa_cons (pv 0) (pa_cons (pe_bltn (v := .ty "bool") (by rfl) hb (by decide +kernel) rfl) pa_nil))) (pe_callB call_isi (by rfl) B.isinstance boot_isi (pa_cons (pv 1) (pa_cons (pe_bltn (v := .ty "bool") (by rfl) hb (by decide +kernel) rfl) pa_nil))) (nomark _))
            (pw_or1 (pt_cmpR op_ne (pe_callB call_isi (by rfl) B.isinstance boot_isi (pa_cons (pv 0) (pa_cons (pe_bltn (v := .ty "str") (by rfl) hst (by decide +kernel) rfl) pa_nil))) (pe_callB call_isi (by rfl) B.isinstance boot_isi (pa_cons (pv 1) (pa_cons (pe_bltn (v := .ty "str") (by rfl) hst (by decide +kernel) rfl) pa_nil))) (nomark _)))))
          (pss_one (ps_ret pe_bl)) pss_nil)
      (pss_one (ps_ret (pe_and (pe_cmpR op_eq (pe_cmp (pc_isN (pv 0))) (pe_cmp (pc_isN (pv 1))) (nomark _)) (pe_one (pe_cmpR op_eq (pv 0) (pv 1) (nomark _))))))), ?_⟩
    cases al with
    | str a =>
      refine ⟨_, rfl, by show 2 ≤ sizeLine; decide, fun T nT => ⟨_, T, _, .type "str", [.type "list", .type "tuple"], false, rfl, upd_same, .cons (.ty _) (.cons (.ty _) .nil), .base (.str _), kitAny_cons (kit_ty (b := "list") (r := false) (by decide +kernel)) (fun _ => kitAny_cons (kit_ty (b := "tuple") (r := false) (by decide +kernel)) (fun _ => rfl) (fun z => by cases z)) (fun z => by cases z), _, rfl, iteF ?_⟩⟩
      refine ⟨_, rfl, _, _, .type "str", .type "bool", false, rfl, .ty _, .base (.str _), kit_ty (by decide +kernel), _, rfl, _, _, .type "str", .type "bool", false, rfl, .ty _, .base (.str _), kit_ty (by decide +kernel), rfl, _, rfl, ite2 (fun z => absurd z (by decide)) (fun _ => ?_)⟩
      refine ⟨_, rfl, _, _, .type "str", .type "str", true, rfl, .ty _, .base (.str _), kit_ty (by decide +kernel), _, rfl, _, _, .type "str", .type "str", true, rfl, .ty _, .base (.str _), kit_ty (by decide +kernel), rfl, _, rfl, ite2 (fun z => absurd z (by decide)) (fun _ => ?_)⟩
      refine ⟨_, rfl, _, rfl, rfl, _, rfl, ?_⟩
      rw [dec_self]
      refine iteT ⟨_, rfl, _, rfl, rfl, ?_⟩
      rw [dec_self]
      exact q _ (same_upd nT)
    | bl a =>
      refine ⟨_, rfl, by show 2 ≤ sizeLine; decide, fun T nT => ⟨_, T, _, .type "bool", [.type "list", .type "tuple"], false, rfl, upd_same, .cons (.ty _) (.cons (.ty _) .nil), .base (.bl _), kitAny_cons (kit_ty (b := "list") (r := false) (by decide +kernel)) (fun _ => kitAny_cons (kit_ty (b := "tuple") (r := false) (by decide +kernel)) (fun _ => rfl) (fun z => by cases z)) (fun z => by cases z), _, rfl, iteF ?_⟩⟩
      refine ⟨_, rfl, _, _, .type "bool", .type "bool", true, rfl, .ty _, .base (.bl _), kit_ty (by decide +kernel), _, rfl, _, _, .type "bool", .type "bool", true, rfl, .ty _, .base (.bl _), kit_ty (by decide +kernel), rfl, _, rfl, ite2 (fun z => absurd z (by decide)) (fun _ => ?_)⟩
      refine ⟨_, rfl, _, _, .type "bool", .type "str", false, rfl, .ty _, .base (.bl _), kit_ty (by decide +kernel), _, rfl, _, _, .type "bool", .type "str", false, rfl, .ty _, .base (.bl _), kit_ty (by decide +kernel), rfl, _, rfl, ite2 (fun z => absurd z (by decide)) (fun _ => ?_)⟩
      refine ⟨_, rfl, _, rfl, rfl, _, rfl, ?_⟩
      rw [dec_self]
      refine iteT ⟨_, rfl, _, rfl, rfl, ?_⟩
      rw [dec_self]
      exact q _ (same_upd nT)
    | int a =>
      refine ⟨_, rfl, by show 2 ≤ sizeLine; decide, fun T nT => ⟨_, T, _, .type "int", [.type "list", .type "tuple"], false, rfl, upd_same, .cons (.ty _) (.cons (.ty _) .nil), .base (.int _), kitAny_cons (kit_ty (b := "list") (r := false) (by decide +kernel)) (fun _ => kitAny_cons (kit_ty (b := "tuple") (r := false) (by decide +kernel)) (fun _ => rfl) (fun z => by cases z)) (fun z => by cases z), _, rfl, iteF ?_⟩⟩
      refine ⟨_, rfl, _, _, .type "int", .type "bool", false, rfl, .ty _, .base (.int _), kit_ty (by decide +kernel), _, rfl, _, _, .type "int", .type "bool", false, rfl, .ty _, .base (.int _), kit_ty (by decide +kernel), rfl, _, rfl, ite2 (fun z => absurd z (by decide)) (fun _ => ?_)⟩
      refine ⟨_, rfl, _, _, .type "int", .type "str", false, rfl, .ty _, .base (.int _), kit_ty (by decide +kernel), _, rfl, _, _, .type "int", .type "str", false, rfl, .ty _, .base (.int _), kit_ty (by decide +kernel), rfl, _, rfl, ite2 (fun z => absurd z (by decide)) (fun _ => ?_)⟩
      refine ⟨_, rfl, _, rfl, rfl, _, rfl, ?_⟩
      rw [dec_self]
      refine iteT ⟨_, rfl, _, rfl, rfl, ?_⟩
      rw [dec_self]
      exact q _ (same_upd nT)
    | non =>
      refine ⟨_, rfl, by show 2 ≤ sizeLine; decide, fun T nT => ⟨_, T, _, .type "NoneType", [.type "list", .type "tuple"], false, rfl, upd_same, .cons (.ty _) (.cons (.ty _) .nil), .base .non, kitAny_cons (kit_ty (b := "list") (r := false) (by decide +kernel)) (fun _ => kitAny_cons (kit_ty (b := "tuple") (r := false) (by decide +kernel)) (fun _ => rfl) (fun z => by cases z)) (fun z => by cases z), _, rfl, iteF ?_⟩⟩
      refine ⟨_, rfl, _, _, .type "NoneType", .type "bool", false, rfl, .ty _, .base .non, kit_ty (by decide +kernel), _, rfl, _, _, .type "NoneType", .type "bool", false, rfl, .ty _, .base .non, kit_ty (by decide +kernel), rfl, _, rfl, ite2 (fun z => absurd z (by decide)) (fun _ => ?_)⟩
      refine ⟨_, rfl, _, _, .type "NoneType", .type "str", false, rfl, .ty _, .base .non, kit_ty (by decide +kernel), _, rfl, _, _, .type "NoneType", .type "str", false, rfl, .ty _, .base .non, kit_ty (by decide +kernel), rfl, _, rfl, ite2 (fun z => absurd z (by decide)) (fun _ => ?_)⟩
      refine ⟨_, rfl, _, rfl, rfl, _, rfl, ?_⟩
      rw [dec_self]
      refine iteT ⟨_, rfl, _, rfl, rfl, ?_⟩
      rw [dec_self]
      exact q _ (same_upd nT)
    | @lst m p r xs ys ep er hl h5 hal =>
      have s1 : ∀ {T : Addr}, H T = none → ∀ {o : HO}, (upd H T o) p = some (.lst xs) ∧ (upd H T o) r = some (.lst ys) := fun {T} nT {o} => ⟨by rw [upd_ne (ne_of_none ep nT)]; exact ep, by rw [upd_ne (ne_of_none er nT)]; exact er⟩
      refine ⟨_, rfl, by show 2 ≤ sizeLine; decide, fun T nT => ⟨_, T, _, .type "list", [.type "list", .type "tuple"], true, rfl, upd_same, .cons (.ty _) (.cons (.ty _) .nil), .base (.lst (s1 nT).2), kitAny_cons (kit_ty (b := "list") (r := true) (by decide +kernel)) (fun z => by cases z) (fun _ => rfl), _, rfl, iteT ?_⟩⟩
      have sT : Same H (upd H T (.tup [V.ty "list", V.ty "tuple"])) := same_upd nT
      generalize (upd H T (.tup [V.ty "list", V.ty "tuple"])) = H1 at sT ⊢
      have ep1 := sT _ _ ep
      have er1 := sT _ _ er
      refine ⟨_, rfl, _, _, .type "list", .type "list", true, rfl, .ty _, .base (.lst er1), kit_ty (by decide +kernel), _, rfl, _, _, .type "list", .type "list", true, rfl, .ty _, .base (.lst ep1), kit_ty (by decide +kernel), rfl, _, rfl, ite2 (fun z => absurd z (by decide)) (fun _ => ?_)⟩
      refine ⟨_, rfl, _, _, .type "list", .type "tuple", false, rfl, .ty _, .base (.lst er1), kit_ty (by decide +kernel), _, rfl, _, _, .type "list", .type "tuple", false, rfl, .ty _, .base (.lst ep1), kit_ty (by decide +kernel), rfl, _, rfl, ite2 (fun z => absurd z (by decide)) (fun _ => ?_)⟩
      refine ⟨_, rfl, p, _, rfl, .inl (SqL.of ep1), _, rfl, r, _, rfl, .inl (SqL.of er1), rfl, _, rfl, ?_⟩
      rw [hl, dec_self]
      refine iteT ⟨_, rfl, r, _, rfl, .inl (SqL.of er1), _, rfl, by omega, by omega, ?_⟩
      rw [show ((ys.length : Nat) : Int).toNat = ys.length by exact Int.toNat_natCast _]
      intro Da nD
      refine lc_it walk_range (fun i H' => Same H1 H' ∧ H' Da = some (.lst (((List.range i).map fun _ => true).map V.bl))) ⟨same_upd nD, upd_same⟩ (fun _ _ _ _ => trivial) ?_ ?_
      · rintro i v H2 H3 hi ⟨s2, e2⟩ ⟨rfl, rfl⟩
        have hx : i < xs.length := by omega
        have ax : atI xs (0 + (i : Int)) = some xs[i] := by
          rw [show (0 + (i : Int)) = ((i : Nat) : Int) by omega]
          exact atI_nat (List.getElem?_eq_getElem hx)
        have ay : atI ys (0 + (i : Int)) = some ys[i] := by
          rw [show (0 + (i : Int)) = ((i : Nat) : Int) by omega]
          exact atI_nat (List.getElem?_eq_getElem hi)
        refine ⟨rfl, yes_i ⟨_, rfl, _, rfl, .inl ⟨p, _, _, _, rfl, rfl, SqL.of (s2 _ _ ep1), ax, _, rfl, _, rfl, .inl ⟨r, _, _, _, rfl, rfl, SqL.of (s2 _ _ er1), ay, hR m rfl _ _ _ _ _ ((hal i _ _ (List.getElem?_eq_getElem hx) (List.getElem?_eq_getElem hi)).same (sm_trans sT s2)) fun H4 s4 => ⟨_, s4 _ _ e2, ?_, sm_over (sm_trans s2 s4) nD, ?_⟩⟩⟩⟩⟩
        · rw [List.length_map, List.length_map, List.length_range, sizeLine_eq]
          omega
        · rw [upd_same, List.range_succ, List.map_append, List.map_append]
          rfl
      · rintro H2 ⟨s2, e2⟩
        refine ⟨_, _, rfl, SqL.of e2, ?_⟩
        rw [range_true]
        exact q _ (sm_trans sT s2)
    | @tup m p r xs ys ep er hl h5 hal =>
      have s1 : ∀ {T : Addr}, H T = none → ∀ {o : HO}, (upd H T o) p = some (.tup xs) ∧ (upd H T o) r = some (.tup ys) := fun {T} nT {o} => ⟨by rw [upd_ne (ne_of_none ep nT)]; exact ep, by rw [upd_ne (ne_of_none er nT)]; exact er⟩
      refine ⟨_, rfl, by show 2 ≤ sizeLine; decide, fun T nT => ⟨_, T, _, .type "tuple", [.type "list", .type "tuple"], true, rfl, upd_same, .cons (.ty _) (.cons (.ty _) .nil), .base (.tup (s1 nT).2), kitAny_cons (kit_ty (b := "list") (r := false) (by decide +kernel)) (fun _ => kitAny_cons (kit_ty (b := "tuple") (r := true) (by decide +kernel)) (fun z => by cases z) (fun _ => rfl)) (fun z => by cases z), _, rfl, iteT ?_⟩⟩
      have sT : Same H (upd H T (.tup [V.ty "list", V.ty "tuple"])) := same_upd nT
      generalize (upd H T (.tup [V.ty "list", V.ty "tuple"])) = H1 at sT ⊢
      have ep1 := sT _ _ ep
      have er1 := sT _ _ er
      refine ⟨_, rfl, _, _, .type "tuple", .type "list", false, rfl, .ty _, .base (.tup er1), kit_ty (by decide +kernel), _, rfl, _, _, .type "tuple", .type "list", false, rfl, .ty _, .base (.tup ep1), kit_ty (by decide +kernel), rfl, _, rfl, ite2 (fun z => absurd z (by decide)) (fun _ => ?_)⟩
      refine ⟨_, rfl, _, _, .type "tuple", .type "tuple", true, rfl, .ty _, .base (.tup er1), kit_ty (by decide +kernel), _, rfl, _, _, .type "tuple", .type "tuple", true, rfl, .ty _, .base (.tup ep1), kit_ty (by decide +kernel), rfl, _, rfl, ite2 (fun z => absurd z (by decide)) (fun _ => ?_)⟩
      refine ⟨_, rfl, p, _, rfl, .inr (SqT.of ep1), _, rfl, r, _, rfl, .inr (SqT.of er1), rfl, _, rfl, ?_⟩
      rw [hl, dec_self]
      refine iteT ⟨_, rfl, r, _, rfl, .inr (SqT.of er1), _, rfl, by omega, by omega, ?_⟩
      rw [show ((ys.length : Nat) : Int).toNat = ys.length by exact Int.toNat_natCast _]
      intro Da nD
      refine lc_it walk_range (fun i H' => Same H1 H' ∧ H' Da = some (.lst (((List.range i).map fun _ => true).map V.bl))) ⟨same_upd nD, upd_same⟩ (fun _ _ _ _ => trivial) ?_ ?_
      · rintro i v H2 H3 hi ⟨s2, e2⟩ ⟨rfl, rfl⟩
        have hx : i < xs.length := by omega
        have ax : atI xs (0 + (i : Int)) = some xs[i] := by
          rw [show (0 + (i : Int)) = ((i : Nat) : Int) by omega]
          exact atI_nat (List.getElem?_eq_getElem hx)
        have ay : atI ys (0 + (i : Int)) = some ys[i] := by
          rw [show (0 + (i : Int)) = ((i : Nat) : Int) by omega]
          exact atI_nat (List.getElem?_eq_getElem hi)
        refine ⟨rfl, yes_i ⟨_, rfl, _, rfl, .inr ⟨p, _, _, _, rfl, rfl, SqT.of (s2 _ _ ep1), ax, _, rfl, _, rfl, .inr ⟨r, _, _, _, rfl, rfl, SqT.of (s2 _ _ er1), ay, hR m rfl _ _ _ _ _ ((hal i _ _ (List.getElem?_eq_getElem hx) (List.getElem?_eq_getElem hi)).same (sm_trans sT s2)) fun H4 s4 => ⟨_, s4 _ _ e2, ?_, sm_over (sm_trans s2 s4) nD, ?_⟩⟩⟩⟩⟩
        · rw [List.length_map, List.length_map, List.length_range, sizeLine_eq]
          omega
        · rw [upd_same, List.range_succ, List.map_append, List.map_append]
          rfl
      · rintro H2 ⟨s2, e2⟩
        refine ⟨_, _, rfl, SqL.of e2, ?_⟩
        rw [range_true]
        exact q _ (sm_trans sT s2)
theorem ok_yes {f : Addr} {fd : FuncData} {k : Nat} (B : BM mg) (hb : mg "bool" = none) (hst : mg "str" = none) (D : DF K mg "_law_same" sSame ["_law_x", "_law_due"] f fd) : ∀ n, FnOk P w K mg base CX0 (k + n + 2) f fd ["_law_x", "_law_due"] (spYes n)
  | 0 => ok_yes1 (spR := spNo) B hb hst D (D.F.ok scSame (fun vs H Q E h => h.elim) (fun cdv A outer s H vs Q E hr h => h.elim)) fun m e => by cases e
  | n + 1 => ok_yes1 B hb hst D (ok_yes B hb hst D n) fun m e a b H Q E al q => by
    cases e
    exact ⟨a, b, rfl, al, q⟩
end
end NC
namespace NC
open PySem PySem.Spec PyProof.Rows L2
abbrev sHroom : Stmt := inClass (topS 29) 5
abbrev sHrooms : Stmt := inClass (topS 29) 6
abbrev sHgoes : Stmt := inClass (topS 29) 7
theorem scHroom : FnScope ["self", "room", "bar"] ["self", "room"] (defScope sHroom) := ⟨rfl, rfl, rfl, by decide +kernel, rfl, by decide +kernel, by decide +kernel⟩
theorem scHrooms : FnScope ["self", "begun", "wall", "room", "side"] ["self"] (defScope sHrooms) := ⟨rfl, rfl, rfl, by decide +kernel, rfl, by decide +kernel, by decide +kernel⟩
theorem scHgoes : FnScope ["self", "side", "begun", "forced", "had"] ["self", "side", "begun"] (defScope sHgoes) := ⟨rfl, rfl, rfl, by decide +kernel, rfl, by decide +kernel, by decide +kernel⟩
structure HM (K : PySem.W.Frag) (C fm fr fg : Addr) (dm dr dg : FuncData) : Prop where
  mm : Meth K C "is_room" fm
  Fm : Fun K "is_room" "Hall.is_room" sHroom fm dm
  bm : Binds K dm ["self", "room"] []
  mr : Meth K C "rooms" fr
  Fr : Fun K "rooms" "Hall.rooms" sHrooms fr dr
  br : Binds K dr ["self"] []
  mg : Meth K C "goes_with" fg
  Fg : Fun K "goes_with" "Hall.goes_with" sHgoes fg dg
  bg : Binds K dg ["self", "side", "begun"] []
theorem mem_tx0 {x : List Nat} {bs : List (List Nat)} : tx x ∈ bs.map tx ↔ x ∈ bs := by
  constructor
  · intro h
    obtain ⟨y, hy, e⟩ := List.mem_map.mp h
    rw [← tx_inj e]
    exact hy
  · exact fun h => List.mem_map.mpr ⟨x, h, rfl⟩
theorem str00 : (Str.ofString "") = tx [] := by decide +kernel
theorem HallAt.same {C : Addr} {H H' : Hp} {x dx sb D : Addr} {l : List Nat} {ys : List Str} {fo : Nat → List Nat} (h : HallAt C H x dx sb D l ys fo) (s : Same H H') : HallAt C H' x dx sb D l ys fo := ⟨s _ _ h.x, s _ _ h.sb, s _ _ h.D⟩
theorem prT_len (l : List Nat) (fo : Nat → List Nat) (k : Nat) : (prT l fo k).length ≤ 2 ^ k := by
  rw [prT_eq]
  refine Nat.le_trans (List.length_filter_le _ _) ?_
  rw [allT_len]
  exact Nat.le_refl _
theorem prT_sds {l : List Nat} (g : GoodW l) (fo : Nat → List Nat) {k : Nat} (hk : k ≤ l.length) : ∀ r ∈ prT l fo k, r.length = k ∧ ∀ c ∈ r, c ∈ sds l := fun r hr => by
  rw [prT_eq] at hr
  have hr := (List.mem_filter.mp hr).1
  obtain ⟨p, rfl⟩ := (allT_mem g.nd hk r).mp hr
  refine ⟨by unfold rmOf; rw [List.length_map, List.length_take]; omega, fun c hc => ?_⟩
  unfold rmOf at hc
  obtain ⟨e, he, rfl⟩ := List.mem_map.mp hc
  have he := List.mem_of_mem_take he
  by_cases h : p e = true
  · rw [if_pos h]; exact sds_of_small he
  · rw [if_neg h, upc_small (g.sm e he)]; exact sds_of_great g he
/-- a text is a room of the walls when it is one but for what is great -/
theorem room_low {l : List Nat} (g : GoodW l) (r : List Nat) : r ∈ allT l l.length ↔ r.map lwc = l := by
  have lw1 : ∀ {c : Nat}, c ∈ l → lwc c = c := fun {c} hc => by
    have := g.sm c hc
    unfold lwc
    rw [if_neg (by omega)]
  have lw2 : ∀ {c : Nat}, c ∈ l → lwc (upc c) = c := fun {c} hc => by
    have := g.sm c hc
    rw [upc_small this]
    unfold lwc
    rw [if_pos (by omega)]
    omega
  rw [allT_mem g.nd (Nat.le_refl _) r, List.take_length]
  constructor
  · rintro ⟨p, rfl⟩
    unfold rmOf
    rw [List.map_map]
    refine Eq.trans (List.map_congr_left fun c hc => ?_) (List.map_id l)
    show lwc (if p c then c else upc c) = c
    by_cases h : p c = true
    · rw [if_pos h]; exact lw1 hc
    · rw [if_neg h]; exact lw2 hc
  · intro h
    refine ⟨fun c => decide (c ∈ r), ?_⟩
    have hl : r.length = l.length := by rw [← h, List.length_map]
    refine List.ext_getElem (by unfold rmOf; rw [List.length_map]; exact hl) fun i h1 h2 => ?_
    have hil : i < l.length := by omega
    have ei : lwc r[i] = l[i] := by
      have : (r.map lwc)[i]'(by rw [List.length_map]; exact h1) = l[i] := by simp only [h]
      rw [List.getElem_map] at this
      exact this
    have hm : l[i] ∈ l := List.getElem_mem hil
    have sm := g.sm _ hm
    have eR : (rmOf l fun c => decide (c ∈ r))[i]'h2 = if decide (l[i] ∈ r) = true then l[i] else upc l[i] := by simp only [rmOf, List.getElem_map]
    rw [eR]
    by_cases hin : l[i] ∈ r
    · rw [if_pos (decide_eq_true hin)]
      obtain ⟨j, hj, ej⟩ := List.getElem_of_mem hin
      have ejl : lwc r[j] = l[j]'(by omega) := by
        have : (r.map lwc)[j]'(by rw [List.length_map]; exact hj) = l[j]'(by omega) := by simp only [h]
        rw [List.getElem_map] at this
        exact this
      rw [ej, lw1 hm] at ejl
      have : i = j := (List.getElem?_inj hil g.nd).mp (by rw [List.getElem?_eq_getElem hil, List.getElem?_eq_getElem (show j < l.length by omega), ejl])
      subst this
      exact ej
    · rw [if_neg (fun z => hin (of_decide_eq_true z)), upc_small sm]
      unfold lwc at ei
      by_cases hh : 65 ≤ r[i] ∧ r[i] ≤ 90
      · rw [if_pos hh] at ei
        omega
      · rw [if_neg hh] at ei
        exact absurd (by rw [← ei]; exact List.getElem_mem h1) hin
section
variable {P : Program} {w : World} {K : PySem.W.Frag} {mg : Str → Option Value} {base : Heap} {C fi fb fm fr fg : Addr} {di db dm dr dg : FuncData}
/-! ### goes_with -/
def spGoes (C : Addr) : Sp := fun vs H Q _ => ∃ x dx sb D l ys fo s r, vs = [.ref x, .str (sg s), .str (tx r)] ∧ HallAt C H x dx sb D l ys fo ∧ GoodW l ∧ s ∈ sds l ∧ (∀ c ∈ r, c ∈ sds l) ∧ r.length ≤ 100 ∧ ∀ H', Same H H' → Q (.bl (goes fo s r)) H'
def rSgn2 : R2 := fun x y H Q => ∃ (c : Nat) (z : Str), x = .str ⟨#[c]⟩ ∧ y = .str z ∧ Q (.bl (decide (c ∈ z.cps.toList))) H
set_option maxHeartbeats 1000000 in
theorem ok_Hgoes {fO : Addr} {fdO : FuncData} {k : Nat} (hany : mg "any" = none) (Z : HC K mg C fi fb di db) (M : HM K C fm fr fg dm dr dg) (O : DF K mg "other" sOther ["side"] fO fdO) : FnOk P w K mg base CX0 (k + 2) fg dg ["self", "side", "begun"] (spGoes C) := by
  have GO : FnOk P w K mg base CX0 (k + 1) fO fdO ["side"] spOther := ok_other O.F
  refine M.Fg.ok scHgoes (fun vs H Q E h => ?_) (fun cdv A outer st H vs Q E hr h => ?_)
  · obtain ⟨x, dx, sb, D, l, ys, fo, s, r, rfl, _⟩ := h
    rfl
  · obtain ⟨x, dx, sb, D, l, ys, fo, s, r, rfl, hA, g, hs, hrs, hrl, q⟩ := h
    have nd := scHgoes.nd
    refine ⟨_, pss_cons (ps_set (i := 3) nd rfl (.inr rfl) (pe_dget (hu_of hr) (pe_fld (pv 0) rfl) (pv 1) (fun _ _ => rfl)))
      (pss_one (ps_ret (pe_not (pe_callB (cr_any rfl) (by rfl) hany (by decide +kernel) (pa_cons (pe_lc (own := [("had", 4)]) (g := gName 4) (tt := tYes) (te := tOp rSgn2 (tCall spOther [] E0 (tCons (tVar 4) tNil)) (tVar 3)) rfl nd (pi_str (pv 2)) (blkOk_by (N := ["self", "side", "begun", "forced", "had"]) (sc := defScope sHgoes) (by decide +kernel)) (fun _ _ _ _ _ => pg_name (i := 4) nd rfl (Or.inl rfl)) (fun _ _ _ _ _ => pts_nil)
        (fun _ _ _ _ _ => pe_cmpR op_in_sign (pe_call GO hr rfl O.g O.F.kp O.b .nil pass0 (pa_cons (pv 4) pa_nil)) (pv 3) (by rfl))) pa_nil))))), ?_⟩
    refine ⟨_, rfl, x, C, dx, _, .ref D, rfl, hA.x, Z.cl, Z.n3, rfl, _, rfl, D, _, rfl, foK_get hA.D hs, ?_⟩
    refine ⟨_, rfl, tx r, rfl, fun Da na => ?_⟩
    have lz : (tx r).cps.size = r.length := tx_len _
    refine lc_it walk_str (fun i H' => Same H H' ∧ H' Da = some (.lst (((r.take i).map fun h => decide (swp h ∈ fo s)).map V.bl))) ⟨same_upd na, upd_same⟩ (fun _ _ _ _ => trivial) ?_ ?_
    · rintro i v H1 H2 hi ⟨s1, e1⟩ ⟨rfl, c, hc, rfl⟩
      have hcl : r[i]? = some c := by
        rw [← Array.getElem?_toList, tx_list] at hc
        exact hc
      refine ⟨rfl, yes_i ⟨_, rfl, c, rfl, sds_asc g (hrs c (List.mem_of_getElem? hcl)), _, rfl, swp c, tx (fo s), rfl, rfl, ?_⟩⟩
      rw [tx_list]
      refine ⟨_, e1, ?_, sm_over s1 na, ?_⟩
      · rw [List.length_map, List.length_map, List.length_take, sizeLine_eq]
        omega
      · rw [upd_same, List.take_add_one, hcl, List.map_append, List.map_append]
        rfl
    · rintro H1 ⟨s1, e1⟩
      rw [lz, List.take_length] at e1
      refine ⟨_, _, rfl, SqL.of e1, _, rfl, ?_⟩
      rw [show (!(r.map fun h => decide (swp h ∈ fo s)).any id) = goes fo s r by unfold goes; rw [List.any_map]; rfl]
      exact q _ s1
/-! ### rooms -/
def spHrooms (C : Addr) : Sp := fun vs H Q _ => ∃ x dx sb D l ys fo, vs = [.ref x] ∧ HallAt C H x dx sb D l ys fo ∧ GoodW l ∧ ∀ H' p, Same H H' → H p = none → H' p = some (.lst (((prT l fo l.length).map tx).map V.str)) → Q (.ref p) H'
abbrev nHrooms : List Str := ["self", "begun", "wall", "room", "side"]
set_option maxHeartbeats 2000000 in
theorem ok_Hrooms {fO : Addr} {fdO : FuncData} {k : Nat} (hany : mg "any" = none) (Z : HC K mg C fi fb di db) (M : HM K C fm fr fg dm dr dg) (O : DF K mg "other" sOther ["side"] fO fdO) : FnOk P w K mg base CX0 (k + 3) fr dr ["self"] (spHrooms C) := by
  have GO : FnOk P w K mg base CX0 (k + 1) fO fdO ["side"] spOther := ok_other O.F
  have GG : FnOk P w K mg base CX0 (k + 2) fg dg ["self", "side", "begun"] (spGoes C) := ok_Hgoes hany Z M O
  refine M.Fr.ok scHrooms (fun vs H Q E h => ?_) (fun cdv A outer st H vs Q E hr h => ?_)
  · obtain ⟨x, dx, sb, D, l, ys, fo, rfl, _⟩ := h
    rfl
  · obtain ⟨x, dx, sb, D, l, ys, fo, rfl, hA, g, q⟩ := h
    have nd := scHrooms.nd
    have r1 : Room (k + 1) _ := hr.mono (by omega)
    refine ⟨_, pss_cons (ps_set (i := 1) nd rfl (.inl rfl) (pe_lst (pa_cons pe_str pa_nil)))
      (pss_cons (ps_for PassesOwn.never rfl (pi_str (pe_fld (pv 0) rfl)) (pg_name (i := 2) nd rfl (.inr rfl))
        (pss_one (ps_setLc2 (i := 1) (wi1 := iTup K (tTup (tCons (tCall spOther [] E0 (tCons (tVar 2) tNil)) (tCons (tVar 2) tNil)))) (own := [("room", 3), ("side", 4)]) (vs1 := [4]) (g := gName 3) (g1 := gName 4) (tt := tYes)
          (tt1 := tB (tMeth C "goes_with" (spGoes C) [] E0 (tVar 0) (tCons (tVar 4) (tCons (tVar 3) tNil)))) rfl nd rfl rfl (sw_true rfl rfl rfl (by decide +kernel)) (pi_list (pv 1))
          (blkOk_by (N := nHrooms) (sc := defScope sHrooms) (by decide +kernel)) (by decide)
          (fun _ _ _ _ _ => pg_name (i := 3) nd rfl (Or.inl rfl)) (fun _ _ _ _ _ => pts_nil)
          (fun _ _ _ _ _ => pi_tup (pe_tup (pa_cons (pe_call GO r1 rfl O.g O.F.kp O.b .nil pass0 (pa_cons (pv 2) pa_nil)) (pa_cons (pv 2) pa_nil))))
          (fun _ _ _ _ _ => pg_name (i := 4) nd rfl (Or.inl rfl))
          (fun _ _ _ _ _ => pts_one (pt_val (pe_meth (pv 0) Z.cl M.mg GG hr M.bg .nil pass0 (pa_cons (pv 4) (pa_cons (pv 3) pa_nil))))) (fun _ _ _ _ _ => pe_op op_add_str (pv 3) (pv 4)))))
      (pss_one (ps_ret (pv 1)))), ?_⟩
    have hl12 := g.hi
    refine ⟨by show 1 ≤ sizeLine; decide, fun p0 np0 => ?_⟩
    have lz : (tx l).cps.size = l.length := tx_len _
    have s0 : Same H (upd H p0 (.lst [V.str (Str.ofString "")])) := same_upd np0
    refine ⟨_, rfl, x, C, dx, _, .str (tx l), rfl, (hA.same s0).x, Z.cl, Z.n1, rfl, tx l, rfl, ?_⟩
    refine for_it walk_str (fun i σ H' => ∃ (p : Addr) (y2 y3 y4 : Option V), σ = [some (.ref x), some (.ref p), y2, y3, y4] ∧ Same H H' ∧ H p = none ∧ H' p = some (.lst (((prT l fo i).map tx).map V.str)))
      ⟨p0, _, _, _, rfl, s0, np0, by rw [upd_same, str00]; rfl⟩ (fun _ _ _ _ _ => trivial) ?_ ?_
    · rintro i v σ H1 H2 hi ⟨p, y2, y3, y4, rfl, s1, np, e1⟩ ⟨rfl, c, hc, rfl⟩
      rw [lz] at hi
      have hcl : l[i]? = some c := by
        rw [← Array.getElem?_toList, tx_list] at hc
        exact hc
      have hcm := List.mem_of_getElem? hcl
      have hca : c < 128 := g.asc c hcm
      have ecg : l.getD i 0 = c := by rw [List.getD_eq_getElem?_getD, hcl]; rfl
      have esw : swp c = upc c := by rw [swp_small (g.sm c hcm), upc_small (g.sm c hcm)]
      have wk := walk_list (K := K) (a := p) (xs := ((prT l fo i).map tx).map V.str)
      rw [List.length_map, List.length_map] at wk
      have tl := prT_len l fo i
      have tp : 2 ^ i ≤ 4096 := Nat.le_trans (Nat.pow_le_pow_right (by decide) (Nat.le_trans (Nat.le_of_lt hi) hl12)) (by decide)
      have hsd : ∀ e ∈ [swp c, c], e ∈ sds l := fun e he => by
        rcases List.mem_cons.mp he with z | z
        · rw [z]; exact sds_swp g (sds_of_small hcm)
        · rw [List.mem_singleton.mp z]; exact sds_of_small hcm
      refine ⟨_, rfl, p, rfl, ⟨_, SqL.of e1⟩, fun Da na => ?_⟩
      have nDH : H Da = none := L2.Same.free s1 na
      have npD : p ≠ Da := ne_of_none e1 na
      refine out_it wk (fun j H' => Same H2 H' ∧ H' Da = some (.lst (((((prT l fo i).take j).flatMap fun r => ([swp c, c].filter fun s => goes fo s r).map fun s => r ++ [s]).map tx).map V.str))) ⟨same_upd na, upd_same⟩ (fun j H' _ h => SqL.of (h.1 _ _ e1)) ?_ ?_
      · rintro j v G3 G4 hj ⟨u3, e3⟩ ⟨rfl, hx⟩
        rw [List.getElem?_map, List.getElem?_map] at hx
        obtain ⟨z, hz, rfl⟩ := Option.map_eq_some_iff.mp hx
        obtain ⟨r, hr2, rfl⟩ := Option.map_eq_some_iff.mp hz
        have hr3 := prT_sds g fo (Nat.le_of_lt hi) r (List.mem_of_getElem? hr2)
        have fl : ∀ (xs : List (List Nat)), (xs.flatMap fun r => ([swp c, c].filter fun s => goes fo s r).map fun s => r ++ [s]).length ≤ 2 * xs.length := fun xs => by
          induction xs with
          | nil => exact Nat.le_refl _
          | cons y t ih =>
            have e : (y :: t).length = t.length + 1 := rfl
            have h2 : ([swp c, c].filter fun s => goes fo s y).length ≤ 2 := List.length_filter_le _ _
            rw [List.flatMap_cons, List.length_append, e, List.length_map]
            omega
        refine ⟨rfl, yes_i ⟨_, rfl, c, rfl, hca, _, rfl, by show 2 ≤ sizeLine; decide, fun T hT => ⟨T, rfl, ⟨_, SqT.of upd_same⟩, ?_⟩⟩⟩
        have nDT : Da ≠ T := ne_of_none e3 hT
        refine in_it (walk_tup (K := K) (a := T) (xs := [swp c, c].map fun e => V.str (sg e))) (fun t H' => Same H2 H' ∧ SqT K H' T ([swp c, c].map fun e => V.str (sg e)) ∧
          H' Da = some (.lst ((((((prT l fo i).take j).flatMap fun r => ([swp c, c].filter fun s => goes fo s r).map fun s => r ++ [s]) ++ (([swp c, c].take t).filter fun s => goes fo s r).map fun s => r ++ [s]).map tx).map V.str)))
          ⟨sm_upd u3 hT, SqT.of upd_same, by rw [upd_ne nDT, e3]; simp⟩ (fun j H' _ h => h.2.1) ?_ ?_
        · rintro t v G5 G6 ht ⟨u5, hT5, e5⟩ ⟨rfl, hx⟩
          rw [List.getElem?_map] at hx
          obtain ⟨e, he, rfl⟩ := Option.map_eq_some_iff.mp hx
          have hes := hsd e (List.mem_of_getElem? he)
          have hA6 := hA.same (sm_trans s1 u5)
          refine ⟨rfl, _, rfl, x, dx, _, rfl, hA6.x, rfl, _, rfl, _, rfl, x, dx, sb, D, l, ys, fo, e, r, rfl, hA6, g, hes, hr3.2, by omega, fun G7 u7 => ⟨_, rfl, ?_⟩⟩
          have hT7 := sm_t u7 hT5
          have e7 := u7 _ _ e5
          refine ite2 (fun k1 => ?_) (fun k1 => ?_)
          · refine ⟨_, rfl, _, rfl, _, _, rfl, rfl, by rw [tx_len, hr3.1, sizeLine_eq]; show i + 1 ≤ _; omega, ?_⟩
            refine ⟨_, e7, ?_, sm_over (sm_trans u5 u7) na, ?_, ?_⟩
            · rw [List.length_map, List.length_map, List.length_append, sizeLine_eq]
              have f1 := fl ((prT l fo i).take j)
              have f2 : ((([swp c, c].take t).filter fun s => goes fo s r).map fun s => r ++ [s]).length ≤ 2 := by
                rw [List.length_map]
                exact Nat.le_trans (List.length_filter_le _ _) (by rw [List.length_take]; exact Nat.min_le_right _ _)
              have f3 : ((prT l fo i).take j).length ≤ 4096 := by rw [List.length_take]; omega
              have f1 : (((prT l fo i).take j).flatMap fun r => ([swp c, c].filter fun s => goes fo s r).map fun s => r ++ [s]).length ≤ 2 * ((prT l fo i).take j).length := f1
              omega
            · rcases hT7 with (z | ⟨o, z⟩) | z
              · exact .inl (.inl (by rw [upd_ne (Ne.symm nDT)]; exact z))
              · exact .inl (.inr ⟨o, by rw [upd_ne (Ne.symm nDT)]; exact z⟩)
              · exact .inr z
            · rw [upd_same, List.take_add_one, he, List.filter_append]
              rw [sg_tx, tx_app]
              simp [k1]
          · refine ⟨sm_trans u5 u7, hT7, ?_⟩
            rw [e7, List.take_add_one, he, List.filter_append]
            have k1 : goes fo e r = false := Bool.eq_false_iff.mpr k1
            simp [k1]
        · rintro G5 ⟨u5, _, e5⟩
          refine ⟨u5, ?_⟩
          rw [e5, List.take_add_one, hr2, List.flatMap_append]
          simp
      · rintro G3 ⟨u3, e3⟩
        rw [List.take_length] at e3
        refine ⟨Da, _, _, _, rfl, sm_trans s1 u3, nDH, ?_⟩
        rw [e3]
        show _ = some (HO.lst ((((prT l fo i).flatMap fun r => ([upc (l.getD i 0), l.getD i 0].filter fun s => goes fo s r).map fun s => r ++ [s]).map tx).map V.str))
        rw [ecg, esw]
    · rintro σ H1 ⟨p, y2, y3, y4, rfl, s1, np, e1⟩
      rw [lz] at e1
      exact ⟨_, rfl, q H1 p s1 np e1⟩
/-! ### is_room -/
def spHroom (C : Addr) : Sp := fun vs H Q _ => ∃ x dx sb D l ys fo bs r, vs = [.ref x, .str (tx r)] ∧ HallAt C H x dx sb D l ys fo ∧ GoodW l ∧ (∀ b ∈ bs, isBar l b = true) ∧ ys.Perm (bs.map tx) ∧ bs.length ≤ 64 ∧ (∀ c ∈ r, c < 128) ∧ r.length ≤ 100 ∧ ∀ H', Same H H' → Q (.bl (decide (r ∈ rms l bs))) H'
set_option maxHeartbeats 1000000 in
theorem ok_Hroom {k : Nat} (hany : mg "any" = none) (Z : HC K mg C fi fb di db) (M : HM K C fm fr fg dm dr dg) : FnOk P w K mg base CX0 (k + 1) fm dm ["self", "room"] (spHroom C) := by
  refine M.Fm.ok scHroom (fun vs H Q E h => ?_) (fun cdv A outer st H vs Q E hr h => ?_)
  · obtain ⟨x, dx, sb, D, l, ys, fo, bs, r, rfl, _⟩ := h
    rfl
  · obtain ⟨x, dx, sb, D, l, ys, fo, bs, r, rfl, hA, g, hb, hp, hbn, hra, hrl, q⟩ := h
    have nd := scHroom.nd
    refine ⟨_, pss_cons (ps_if (pt_cmpR op_ne (pe_lower (pv 1)) (pe_fld (pv 0) rfl) (nomark _)) (pss_one (ps_ret pe_bl)) pss_nil)
      (pss_one (ps_ret (pe_not (pe_callB (cr_any rfl) (by rfl) hany (by decide +kernel) (pa_cons (pe_lc (own := [("bar", 2)]) (g := gName 2) (tt := tYes) (te := tAndV (tOp rSgn2 (tOp rIxS (tVar 2) (tC (.int 0))) (tVar 1)) (tOp rSgn2 (tOp rIxS (tVar 2) (tC (.int 1))) (tVar 1))) rfl nd (pi_list (pe_fld (pv 0) rfl)) (blkOk_by (N := ["self", "room", "bar"]) (sc := defScope sHroom) (by decide +kernel)) (fun _ _ _ _ _ => pg_name (i := 2) nd rfl (Or.inl rfl)) (fun _ _ _ _ _ => pts_nil)
        (fun _ _ _ _ _ => pe_and (pe_cmpR op_in_sign (pe_ix ix_str (pv 2) pe_int (fun _ _ => rfl)) (pv 1) (by rfl)) (pe_one (pe_cmpR op_in_sign (pe_ix ix_str (pv 2) pe_int (fun _ _ => rfl)) (pv 1) (by rfl))))) pa_nil))))), ?_⟩
    refine ⟨_, rfl, ⟨_, rfl⟩, _, rfl, rfl, by show r.toArray.size ≤ 5592405; rw [List.size_toArray]; omega, ?_⟩
    rw [lower_tx hra]
    refine ⟨_, rfl, x, C, dx, _, .str (tx l), rfl, hA.x, Z.cl, Z.n1, rfl, rfl, _, rfl, ite2 (fun t => ?_) (fun t => ?_)⟩
    · have hn : r ∉ rms l bs := fun z => by
        unfold rms at z
        have := (room_low g r).mp (List.mem_filter.mp z).1
        rw [this] at t
        simp at t
      have := q H (L2.Same.refl _)
      rw [decide_eq_false hn] at this
      exact this
    · have hlow : r.map lwc = l := by
        have t2 : tx (r.map lwc) = tx l := by simpa using t
        exact tx_inj t2
      have hall := (room_low g r).mpr hlow
      have yz : ys = (ys.map fun y => y.cps.toList).map tx := by
        rw [List.map_map]
        refine (Eq.trans (List.map_congr_left fun y _ => ?_) (List.map_id ys)).symm
        show Str.mk y.cps.toList.toArray = y
        rw [Array.toArray_toList]
      generalize hzs : (ys.map fun y => y.cps.toList) = zs at yz
      have mz : ∀ b, b ∈ zs ↔ b ∈ bs := fun b => by
        rw [← mem_tx0, ← mem_tx0, ← yz]
        exact hp.mem_iff
      have zl : zs.length ≤ 64 := by
        have := hp.length_eq
        rw [yz, List.length_map, List.length_map] at this
        omega
      rw [yz] at hA
      have wk := walk_list (K := K) (a := sb) (xs := (zs.map tx).map V.str)
      rw [List.length_map, List.length_map] at wk
      refine ⟨_, rfl, x, C, dx, _, .ref sb, rfl, hA.x, Z.cl, Z.n2, rfl, sb, rfl, ⟨_, SqL.of hA.sb⟩, fun Da na => ?_⟩
      refine lc_it wk (fun i H' => Same H H' ∧ H' Da = some (.lst (((zs.take i).map fun b => inR b r).map V.bl))) ⟨same_upd na, upd_same⟩ (fun i H' _ h => SqL.of (h.1 _ _ hA.sb)) ?_ ?_
      · rintro u v G5 G6 hu ⟨u5, ea⟩ ⟨rfl, hx⟩
        rw [List.getElem?_map, List.getElem?_map] at hx
        obtain ⟨z, hz, rfl⟩ := Option.map_eq_some_iff.mp hx
        obtain ⟨b, hb1, rfl⟩ := Option.map_eq_some_iff.mp hz
        obtain ⟨s, m, rfl, hs, hm, _⟩ := bar_two (hb b ((mz b).mp (List.mem_of_getElem? hb1)))
        have tz : (tx [s, m]).length ≤ sizeLine := by rw [tx_len, sizeLine_eq]; show 2 ≤ _; omega
        have fin : ∀ bb : Bool, bb = inR [s, m] r → ∃ acc, G6 Da = some (.lst acc) ∧ acc.length < sizeLine ∧ Same H (upd G6 Da (.lst (acc ++ [V.bl bb]))) ∧ upd G6 Da (.lst (acc ++ [V.bl bb])) Da = some (.lst (((zs.take (u + 1)).map fun b => inR b r).map V.bl)) := fun bb ebb => by
          refine ⟨_, ea, ?_, sm_over u5 na, ?_⟩
          · rw [List.length_map, List.length_map, List.length_take, sizeLine_eq]
            omega
          · rw [upd_same, List.take_add_one, hb1, List.map_append, List.map_append, ebb]
            rfl
        have ein : inR [s, m] r = (decide (s ∈ r) && decide (m ∈ r)) := by simp [inR]
        refine ⟨rfl, yes_i ⟨_, rfl, _, _, s, rfl, rfl, tz, rfl, _, rfl, s, tx r, rfl, rfl, ?_⟩⟩
        rw [tx_list]
        refine ⟨_, rfl, ite2 (fun k1 => ?_) (fun k1 => fin false (by rw [ein, Bool.eq_false_iff.mpr k1]; rfl))⟩
        refine ⟨_, rfl, _, _, m, rfl, rfl, tz, rfl, _, rfl, m, tx r, rfl, rfl, ?_⟩
        rw [tx_list]
        exact fin _ (by rw [ein, k1]; rfl)
      · rintro G5 ⟨u5, ea⟩
        rw [List.take_length] at ea
        refine ⟨Da, _, rfl, SqL.of ea, _, rfl, ?_⟩
        have e2 : (!(zs.map fun b => inR b r).any id) = decide (r ∈ rms l bs) := by
          rw [List.any_map, Bool.eq_iff_iff, decide_eq_true_eq]
          unfold rms
          rw [List.mem_filter]
          have e3 : (zs.any (id ∘ fun b => inR b r)) = bs.any fun b => inR b r := by
            rw [Bool.eq_iff_iff, List.any_eq_true, List.any_eq_true]
            exact ⟨fun ⟨b, h1, h2⟩ => ⟨b, (mz b).mp h1, h2⟩, fun ⟨b, h1, h2⟩ => ⟨b, (mz b).mpr h1, h2⟩⟩
          rw [e3]
          exact ⟨fun h => ⟨hall, h⟩, fun h => h.2⟩
        rw [e2]
        exact q _ u5
end
end NC
/-! how far rooms lie apart; a door nearer -/
namespace NC
open PySem PySem.Spec PyProof.Rows L2
def dif (r g : List Nat) (k : Nat) : Bool := decide (r.getD k 0 ≠ g.getD k 0)
def ham (r g : List Nat) : Nat := ((List.range r.length).filter (dif r g)).length
def turnAt (r : List Nat) (i : Nat) : List Nat := r.set i (swp (r.getD i 0))
theorem turn_len (r : List Nat) (i : Nat) : (turnAt r i).length = r.length := List.length_set ..
theorem turn_cut {r : List Nat} {i : Nat} (h : i < r.length) : turnAt r i = r.take i ++ [swp (r.getD i 0)] ++ r.drop (i + 1) := by
  unfold turnAt
  rw [List.set_eq_take_append_cons_drop, if_pos h]
  simp
theorem turn_get {r : List Nat} {i k : Nat} (h : i < r.length) : (turnAt r i).getD k 0 = if k = i then swp (r.getD i 0) else r.getD k 0 := by
  unfold turnAt
  rw [List.getD_eq_getElem?_getD, List.getElem?_set]
  by_cases e : i = k
  · subst e
    rw [if_pos rfl, if_pos h, if_pos rfl]
    rfl
  · rw [if_neg e, if_neg (Ne.symm e), List.getD_eq_getElem?_getD]
theorem filter_one {p q : Nat → Bool} {n i : Nat} (hi : i < n) (hp : p i = true) (hq : q i = false) (hs : ∀ k, k ≠ i → p k = q k) : ((List.range n).filter p).length = ((List.range n).filter q).length + 1 := by
  induction n with
  | zero => exact absurd hi (Nat.not_lt_zero _)
  | succ n ih =>
    rw [List.range_succ, List.filter_append, List.filter_append, List.length_append, List.length_append]
    by_cases e : i = n
    · subst e
      have same : (List.range i).filter p = (List.range i).filter q := List.filter_congr fun k hk => hs k (by have := List.mem_range.mp hk; omega)
      rw [same]
      simp [hp, hq]
    · have := ih (by omega)
      have e2 : [n].filter p = [n].filter q := List.filter_congr fun k hk => by rw [List.mem_singleton.mp hk]; exact hs n (Ne.symm e)
      rw [e2]
      omega
theorem ham_zero {r g : List Nat} (hl : r.length = g.length) : ham r g = 0 ↔ r = g := by
  unfold ham
  rw [List.length_eq_zero_iff, List.filter_eq_nil_iff]
  constructor
  · intro h
    refine List.ext_getElem hl fun k h1 h2 => ?_
    have := h k (List.mem_range.mpr h1)
    unfold dif at this
    have e : r.getD k 0 = g.getD k 0 := by simpa using this
    rw [List.getD_eq_getElem?_getD, List.getD_eq_getElem?_getD, List.getElem?_eq_getElem h1, List.getElem?_eq_getElem h2] at e
    exact e
  · rintro rfl k _
    unfold dif
    simp
theorem dif_comm (r g : List Nat) (k : Nat) : dif r g k = dif g r k := by
  unfold dif
  by_cases h : r.getD k 0 = g.getD k 0
  · rw [decide_eq_false (fun z => z h), decide_eq_false (fun z => z h.symm)]
  · rw [decide_eq_true h, decide_eq_true (Ne.symm h)]
theorem ham_comm {r g : List Nat} (hl : r.length = g.length) : ham r g = ham g r := by
  unfold ham
  rw [hl]
  congr 1
  exact List.filter_congr fun k _ => dif_comm r g k
theorem ham_turn {r g : List Nat} {i : Nat} (hi : i < r.length) (hd : dif r g i = true) (hs : swp (r.getD i 0) = g.getD i 0) : ham r g = ham (turnAt r i) g + 1 := by
  unfold ham
  rw [turn_len]
  refine filter_one hi hd ?_ fun k hk => ?_
  · unfold dif
    rw [turn_get hi, if_pos rfl, hs]
    simp
  · unfold dif
    rw [turn_get hi, if_neg hk]
theorem ham_one {r : List Nat} {i : Nat} (hi : i < r.length) (hs : swp (r.getD i 0) ≠ r.getD i 0) : ham r (turnAt r i) = 1 := by
  have h : ham (turnAt r i) (turnAt r i) = 0 := (ham_zero rfl).mpr rfl
  have d : dif r (turnAt r i) i = true := by
    unfold dif
    rw [turn_get hi, if_pos rfl]
    exact decide_eq_true (Ne.symm hs)
  have := ham_turn (g := turnAt r i) hi d (by rw [turn_get hi, if_pos rfl])
  omega
theorem ham_tri {r s g : List Nat} (h1 : r.length = s.length) : ham r g ≤ ham r s + ham s g := by
  have aux : ∀ n, ((List.range n).filter (dif r g)).length ≤ ((List.range n).filter (dif r s)).length + ((List.range n).filter (dif s g)).length := fun n => by
    induction n with
    | zero => exact Nat.zero_le _
    | succ n ih =>
      rw [List.range_succ, List.filter_append, List.filter_append, List.filter_append, List.length_append, List.length_append, List.length_append]
      have one : ([n].filter (dif r g)).length ≤ ([n].filter (dif r s)).length + ([n].filter (dif s g)).length := by
        by_cases a : r.getD n 0 = g.getD n 0
        · have : dif r g n = false := decide_eq_false fun z => z a
          simp [this]
        · have hrg : dif r g n = true := decide_eq_true a
          by_cases b : r.getD n 0 = s.getD n 0
          · have : dif s g n = true := decide_eq_true fun z => a (b.trans z)
            simp [hrg, this]
          · have : dif r s n = true := decide_eq_true b
            simp [hrg, this]
      omega
  unfold ham
  rw [← h1]
  exact aux r.length
/-- of what is let by: no side forces its other one, no two sides force each other -/
theorem okv_use {l : List Nat} (g : GoodW l) {bs : List (List Nat)} (hb : ∀ b ∈ bs, isBar l b = true) (ok : Okv l bs) {s t : Nat} (hs : s ∈ sds l) (ht : t ∈ sds l) (h1 : Frc (adjOf bs) s t) (h2 : Frc (adjOf bs) t s) : t = s := by
  have fo := foC_mem g hb
  have v := ok (foC l bs) fo
  unfold vdOf at v
  split at v
  · cases v
  · split at v
    · cases v
    · rename_i h
      rw [List.findSome?_eq_none_iff] at h
      have h3 := h s hs
      rw [Option.map_eq_none_iff, List.find?_eq_none] at h3
      have h4 := h3 t ht
      refine Classical.byContradiction fun ne => h4 ?_
      unfold alP
      rw [decide_eq_true ((fo s hs t).mpr h1), decide_eq_true ne, decide_eq_true ((fo t ht s).mpr h2)]
      rfl
open Classical in
/-- of the sides that q has and p lacks there is one that forces no other of them -/
theorem sink {l : List Nat} (g : GoodW l) {bs : List (List Nat)} (hb : ∀ b ∈ bs, isBar l b = true) (ok : Okv l bs) {p q : Nat → Bool} (h : ∃ s ∈ sds l, val q s = true ∧ val p s = false) :
    ∃ s ∈ sds l, val q s = true ∧ val p s = false ∧ ∀ t, Frc (adjOf bs) s t → val q t = true → val p t = false → t = s := by
  let c : Nat → Nat := fun s => ((sds l).filter fun t => decide (Frc (adjOf bs) s t ∧ val p t = false)).length
  have main : ∀ n s, s ∈ sds l → val q s = true → val p s = false → c s = n → ∃ s ∈ sds l, val q s = true ∧ val p s = false ∧ ∀ t, Frc (adjOf bs) s t → val q t = true → val p t = false → t = s := fun n => by
    induction n using Nat.strongRecOn with
    | _ n ih =>
      intro s hs hq hp hc
      by_cases al : ∀ t, Frc (adjOf bs) s t → val q t = true → val p t = false → t = s
      · exact ⟨s, hs, hq, hp, al⟩
      · obtain ⟨t, ht⟩ := Classical.not_forall.mp al
        obtain ⟨f, ht⟩ := Classical.not_imp.mp ht
        obtain ⟨tq, ht⟩ := Classical.not_imp.mp ht
        obtain ⟨tp, ne⟩ := Classical.not_imp.mp ht
        have htm : t ∈ sds l := Frc.mem g hb hs f
        have less : c t < c s := by
          have sub : ∀ (L : List Nat), (∀ x ∈ L, x ∈ sds l) → s ∈ L → (L.filter fun x => decide (Frc (adjOf bs) t x ∧ val p x = false)).length < (L.filter fun x => decide (Frc (adjOf bs) s x ∧ val p x = false)).length := fun L hL hsL => by
            have le : ∀ (L : List Nat), (L.filter fun x => decide (Frc (adjOf bs) t x ∧ val p x = false)).length ≤ (L.filter fun x => decide (Frc (adjOf bs) s x ∧ val p x = false)).length := fun L => by
              induction L with
              | nil => exact Nat.le_refl _
              | cons x L ih2 =>
                rw [List.filter_cons, List.filter_cons]
                by_cases h1 : Frc (adjOf bs) t x ∧ val p x = false
                · rw [if_pos (decide_eq_true h1), if_pos (decide_eq_true ⟨f.trans h1.1, h1.2⟩)]
                  exact Nat.succ_le_succ ih2
                · rw [if_neg (fun z => h1 (of_decide_eq_true z))]
                  split
                  · exact Nat.le_succ_of_le ih2
                  · exact ih2
            induction L with
            | nil => cases hsL
            | cons x L ih2 =>
              rw [List.filter_cons, List.filter_cons]
              rcases List.mem_cons.mp hsL with e | e
              · subst e
                have no : ¬ (Frc (adjOf bs) t s ∧ val p s = false) := fun z => ne (okv_use g hb ok hs htm f z.1)
                rw [if_neg (fun z => no (of_decide_eq_true z)), if_pos (decide_eq_true ⟨Frc.refl, hp⟩)]
                exact Nat.lt_succ_of_le (le L)
              · have ih3 := ih2 (fun y hy => hL y (List.mem_cons_of_mem _ hy)) e
                by_cases h1 : Frc (adjOf bs) t x ∧ val p x = false
                · rw [if_pos (decide_eq_true h1), if_pos (decide_eq_true ⟨f.trans h1.1, h1.2⟩)]
                  exact Nat.succ_lt_succ ih3
                · rw [if_neg (fun z => h1 (of_decide_eq_true z))]
                  split
                  · exact Nat.lt_succ_of_lt ih3
                  · exact ih3
          exact sub (sds l) (fun _ h => h) hs
        exact ih (c t) (by omega) t htm tq tp rfl
  obtain ⟨s, hs, hq, hp⟩ := h
  exact main (c s) s hs hq hp rfl
end NC
namespace NC
open PySem PySem.Spec PyProof.Rows L2
theorem rm_get {l : List Nat} {p : Nat → Bool} {i : Nat} (h : i < l.length) : (rmOf l p).getD i 0 = if p l[i] then l[i] else upc l[i] := by
  unfold rmOf
  rw [List.getD_eq_getElem?_getD, List.getElem?_map, List.getElem?_eq_getElem h]
  rfl
theorem rm_len (l : List Nat) (p : Nat → Bool) : (rmOf l p).length = l.length := List.length_map ..
theorem val_small {p : Nat → Bool} {c : Nat} (h : 97 ≤ c ∧ c ≤ 122) : val p c = p c := by unfold val; rw [if_neg (by omega)]
theorem val_great {p : Nat → Bool} {c : Nat} (h : 97 ≤ c ∧ c ≤ 122) : val p (c - 32) = !p c := by unfold val; rw [if_pos (by omega), show c - 32 + 32 = c by omega]
theorem swp_sd {c : Nat} (h : 97 ≤ c ∧ c ≤ 122) (b : Bool) : swp (if b then c else upc c) = if !b then c else upc c := by
  cases b with
  | true =>
    show swp c = upc c
    rw [swp_small h, upc_small h]
  | false =>
    show swp (upc c) = c
    rw [upc_small h, swp_great (by omega)]
    omega
/-- a side of a wall: it is the one that q has there -/
theorem side_is {p : Nat → Bool} {c x : Nat} (h : 97 ≤ c ∧ c ≤ 122) (hx : lwc x = c) (hl : isLt x) (v : val p x = true) : x = if p c then c else upc c := by
  unfold lwc at hx
  rcases hl with z | z
  · rw [if_neg (by omega)] at hx
    subst hx
    rw [val_small h] at v
    rw [if_pos v]
  · rw [if_pos z] at hx
    have e : x = c - 32 := by omega
    rw [e, val_great h] at v
    have v : p c = false := by simpa using v
    rw [v, e, upc_small h]
    rfl
theorem lwc_swp {x : Nat} (h : isLt x) : lwc (swp x) = lwc x := by
  rcases h with z | z
  · rw [swp_small z]
    unfold lwc
    rw [if_pos (by omega), if_neg (by omega)]
    omega
  · rw [swp_great z]
    unfold lwc
    rw [if_neg (by omega), if_pos z]
theorem val_off {p : Nat → Bool} {c x : Nat} {b : Bool} (hl : isLt x) (hx : lwc x ≠ c) : val (fun y => if y = c then b else p y) x = val p x := by
  unfold lwc at hx
  unfold val
  rcases hl with z | z
  · rw [if_neg (by omega)] at hx
    rw [if_neg (by omega), if_neg (by omega)]
    show (if x = c then b else p x) = p x
    rw [if_neg hx]
  · rw [if_pos z] at hx
    rw [if_pos (by omega), if_pos (by omega)]
    show (!(if x + 32 = c then b else p (x + 32))) = !p (x + 32)
    rw [if_neg hx]
theorem door_near {l : List Nat} (g : GoodW l) {bs : List (List Nat)} (hb : ∀ b ∈ bs, isBar l b = true) (ok : Okv l bs) {r o : List Nat} (hr : r ∈ rms l bs) (ho : o ∈ rms l bs) (ne : r ≠ o) :
    ∃ i, i < r.length ∧ turnAt r i ∈ rms l bs ∧ ham r o = ham (turnAt r i) o + 1 := by
  obtain ⟨p, rfl, sp⟩ := (rms_mem g hb r).mp hr
  obtain ⟨q, rfl, sq⟩ := (rms_mem g hb o).mp ho
  have ex : ∃ s ∈ sds l, val q s = true ∧ val p s = false := by
    have : ∃ c ∈ l, p c ≠ q c := Classical.byContradiction fun no => ne (List.map_congr_left fun c hc => by
      have e : p c = q c := Classical.byContradiction fun z => no ⟨c, hc, z⟩
      rw [e])
    obtain ⟨c, hc, hne⟩ := this
    have sm := g.sm c hc
    cases hq : q c with
    | true =>
      refine ⟨c, sds_of_small hc, by rw [val_small sm]; exact hq, ?_⟩
      rw [val_small sm]
      rw [hq] at hne
      simpa using hne
    | false =>
      refine ⟨c - 32, sds_of_great g hc, by rw [val_great sm, hq]; rfl, ?_⟩
      rw [val_great sm]
      rw [hq] at hne
      have : p c = true := by simpa using hne
      rw [this]
      rfl
  obtain ⟨s, hs, hsq, hsp, only⟩ := sink g hb ok ex
  have slt := sds_lt g hs
  have hcm : lwc s ∈ l := by
    rcases sds_shape g hs with ⟨a, b, hm⟩ | ⟨a, b, hm⟩
    · unfold lwc; rw [if_neg (by omega)]; exact hm
    · unfold lwc; rw [if_pos ⟨a, b⟩]; exact hm
  generalize hc : lwc s = c at hcm
  have sm := g.sm c hcm
  obtain ⟨i, hi, ei⟩ := List.getElem_of_mem hcm
  have hpq : p c = !q c := by
    have e1 := side_is sm hc slt hsq
    have e2 : val p (swp s) = true := by rw [val_swp slt, hsp]; rfl
    have e3 := side_is (p := p) sm ((lwc_swp slt).trans hc) (sds_lt g (sds_swp g hs)) e2
    rw [e1, swp_sd sm] at e3
    cases hp : p c with
    | true =>
      cases hq : q c with
      | true =>
        rw [hp, hq] at e3
        have e3 : upc c = c := e3
        rw [upc_small sm] at e3
        omega
      | false => rfl
    | false =>
      cases hq : q c with
      | true => rfl
      | false =>
        rw [hp, hq] at e3
        have e3 : c = upc c := e3
        rw [upc_small sm] at e3
        omega
  have etn : turnAt (rmOf l p) i = rmOf l fun y => if y = c then q c else p y := by
    refine List.ext_getElem (by rw [turn_len, rm_len, rm_len]) fun k h1 h2 => ?_
    have hk : k < l.length := by rw [turn_len, rm_len] at h1; exact h1
    have a1 : (turnAt (rmOf l p) i).getD k 0 = (turnAt (rmOf l p) i)[k] := by rw [List.getD_eq_getElem?_getD, List.getElem?_eq_getElem h1]; rfl
    have a2 : (rmOf l fun y => if y = c then q c else p y).getD k 0 = (rmOf l fun y => if y = c then q c else p y)[k] := by rw [List.getD_eq_getElem?_getD, List.getElem?_eq_getElem h2]; rfl
    rw [← a1, ← a2, turn_get (by rw [rm_len]; exact hi), rm_get (p := fun y => if y = c then q c else p y) hk]
    by_cases e : k = i
    · subst e
      rw [if_pos rfl, rm_get hk, ei, swp_sd sm, hpq]
      simp
    · rw [if_neg e, rm_get hk]
      have hne : l[k] ≠ c := fun z => e ((List.getElem?_inj hk g.nd).mp (by rw [List.getElem?_eq_getElem hk, List.getElem?_eq_getElem hi, z, ei]))
      show _ = if (if l[k] = c then q c else p l[k]) = true then _ else _
      rw [if_neg hne]
  have onW : ∀ {x : Nat}, isLt x → lwc x = c → val (fun y => if y = c then q c else p y) x = true → x = s := fun {x} hx hl v => by
    have e1 := side_is sm hl hx v
    have e2 := side_is sm hc slt hsq
    rw [e1, e2]
    show (if (if c = c then q c else p c) = true then c else upc c) = _
    rw [if_pos rfl]
  have stop : ∀ {y : Nat}, y ∈ sds l → lwc y ≠ c → ([s, y] ∈ bs ∨ [y, s] ∈ bs) → val p y = true → False := fun {y} hy hyc hbar vy => by
    have ylt := sds_lt g hy
    have yl2 := sds_lt g (sds_swp g hy)
    have adj : swp y ∈ adjOf bs s := (adj_iff g hb yl2).mpr (by rw [swp_swp ylt]; exact hbar)
    have vq : val q (swp y) = true := sq.adj g hb hsq adj
    have vp : val p (swp y) = false := by rw [val_swp ylt, vy]; rfl
    have e := only (swp y) (Frc.refl.step adj) vq vp
    exact hyc (by rw [← lwc_swp ylt, e, hc])
  have sat : Sat bs fun y => if y = c then q c else p y := fun x y hxy hv => by
    obtain ⟨x', y', e, hx, hy, lt⟩ := bar_two (hb _ hxy)
    have e1 : x = x' := by injection e
    have e2 : y = y' := by
      injection e with _ e
      injection e
    subst e1 e2
    have xl := sds_lt g hx
    have yl := sds_lt g hy
    by_cases cx : lwc x = c
    · have ex := onW xl cx hv.1
      subst ex
      have cy : lwc y ≠ c := by omega
      have vy := hv.2
      rw [val_off yl cy] at vy
      exact stop hy cy (.inl hxy) vy
    · by_cases cy : lwc y = c
      · have ey := onW yl cy hv.2
        subst ey
        have vx := hv.1
        rw [val_off xl cx] at vx
        exact stop hx cx (.inr hxy) vx
      · have v1 := hv.1
        have v2 := hv.2
        rw [val_off xl cx] at v1
        rw [val_off yl cy] at v2
        exact sp x y hxy ⟨v1, v2⟩
  have esw : swp ((rmOf l p).getD i 0) = (rmOf l q).getD i 0 := by
    rw [rm_get hi, rm_get hi, ei, swp_sd sm, hpq]
    simp
  refine ⟨i, by rw [rm_len]; exact hi, (rms_mem g hb _).mpr ⟨_, etn, sat⟩, ham_turn (by rw [rm_len]; exact hi) ?_ esw⟩
  unfold dif
  refine decide_eq_true fun z => ?_
  rw [rm_get hi, rm_get hi, ei, hpq] at z
  have u := upc_small sm
  cases hq : q c with
  | true =>
    rw [hq] at z
    have z : upc c = c := z
    omega
  | false =>
    rw [hq] at z
    have z : c = upc c := z
    omega
/-- at each lesser distance from o there is a room -/
theorem far_all {l : List Nat} (g : GoodW l) {bs : List (List Nat)} (hb : ∀ b ∈ bs, isBar l b = true) (ok : Okv l bs) {o : List Nat} (ho : o ∈ rms l bs) : ∀ n r, r ∈ rms l bs → ham r o = n → ∀ k, k ≤ n → ∃ x ∈ rms l bs, ham x o = k
  | 0, r, hr, h, k, hk => ⟨r, hr, by omega⟩
  | n + 1, r, hr, h, k, hk => by
    by_cases e : k = n + 1
    · exact ⟨r, hr, by omega⟩
    · have ne : r ≠ o := fun z => by
        rw [z, (ham_zero rfl).mpr rfl] at h
        cases h
      obtain ⟨i, _, ht, hh⟩ := door_near g hb ok hr ho ne
      exact far_all g hb ok ho n (turnAt r i) ht (by omega) k (by omega)
end NC
/-! enumerate of a text; zip of two texts -/
namespace NC
open PySem PySem.Spec PyProof.Rows L2
/-- the sign of x at i -/
abbrev SgAt (x : Str) (i : Nat) (v : V) : Prop := ∃ c, x.cps[i]? = some c ∧ v = .str ⟨#[c]⟩
def ItES (x : Str) : It :=
  ⟨fun i _ => i < x.cps.size, fun i H v H' => ∃ T s, v = .ref T ∧ H T = none ∧ H' = upd H T (.tup [.int (i : Nat), s]) ∧ SgAt x i s, fun i _ => x.cps.size ≤ i⟩
def AtES (x : Str) (t : Tok) (e it : Addr) (i : Nat) (h : Heap) : Prop := (∃ last, IsEnum h e it ((i : Nat) : Int) last) ∧ h.IsStrIter it (strIterType x) x t i ∧ e ≠ it ∧ i ≤ x.cps.size
theorem AtES.olds {x : Str} {t : Tok} {e it : Addr} {i : Nat} {h : Heap} (st : AtES x t e it i h) {b : Addr} (m : b ∈ [e, it]) : b < h.objs.size := by
  obtain ⟨⟨_, g1⟩, ⟨o2, g2, _⟩, _⟩ := st
  rcases List.mem_cons.mp m with rfl | m
  · exact Heap.lt_size g1
  · exact (List.mem_singleton.mp m) ▸ Heap.lt_size g2
theorem turn_enumS {P : Program} {w : World} {K : PySem.W.Frag} {elts : List Expr} {kk : Nat} {tpos : Pos} (x : Str) (tk0 : Tok) (e it : Addr) : Turn P w K (.Tuple elts kk tpos) (ItES x) [e, it] e (AtES x tk0 e it) where
  mem := .head _
  obj := fun i h st b m => by
    rcases List.mem_cons.mp m with rfl | m
    · exact st.1.elim fun _ g => ⟨_, g, nofun⟩
    · obtain ⟨o, g, _, k⟩ := st.2.1
      exact ⟨o, (List.mem_singleton.mp m) ▸ g, fun v z => nomatch k.symm.trans z⟩
  keep := fun i h h' st k => ⟨st.1.imp fun _ g => k e (.head _) _ g, let ⟨o, ho, r⟩ := st.2.1; ⟨o, k it (.tail _ (.head _)) o ho, r⟩, st.2.2⟩
  item := by
    rintro X rfl rfl rfl calm i ps t σ H E I fre st lt
    have lt : i < x.cps.size := lt
    obtain ⟨_, enu⟩ := st.1
    have old : e < t.heap.objs.size := st.olds (.head _)
    refine wpAny_pyNext_enum_itemD (Draws.text (prog := X.prog) (w := X.w) (A := X.A.in1) (I.ok.hd calm) it x tk0) enu st.2.1 lt st.2.2.1 (by simp [st.2.2.1]) fun y g tk ay own on pair _ stay => ?_
    obtain ⟨c, u, hc, rfl⟩ := ay
    refine ⟨_, rfl, wpAny_letOwnedTupleGo_enum (s := { t with heap := g, toks := tk + 1 }) own fun g2 enu2 but => ?_⟩
    have pair2 : g2.get? t.heap.objs.size = some { cls := .type "tuple", data := .seq #[.int i tk, .str ⟨#[c]⟩ u] } := (but.2 _ (Nat.ne_of_gt old)).trans pair
    refine ⟨.ref t.heap.objs.size, upd H t.heap.objs.size (.tup [.int (i : Nat), .str ⟨#[c]⟩]), I.turnedNew (ch := [e, it]) (fun b o nb z => (but.2 b fun q => nb (by simp [q])).trans (stay b o (fun q => nb (by simp [q])) (fun q => nb (by simp [q])) z)) fre (Nat.le_refl _)
        ⟨by show 2 ≤ sizeLine; decide, [.int i tk, .str ⟨#[c]⟩ u], .cons ⟨_, rfl⟩ (.cons ⟨_, rfl⟩ .nil), ⟨_, pair2, rfl, _, rfl⟩⟩, rfl, ⟨_, _, rfl, I.hok.fresh (Nat.le_refl _), rfl, c, hc, rfl⟩, ⟨⟨.str ⟨#[c]⟩ u, ?_⟩, ?_, st.2.2.1, lt⟩, fun b m => ?_⟩
    · exact (show ((i + 1 : Nat) : Int) = (i : Int) + 1 by omega) ▸ enu2
    · obtain ⟨o, ho, r⟩ := on
      exact ⟨o, (but.2 it (Ne.symm st.2.2.1)).trans ho, r⟩
    · exact (upd_ne (Nat.ne_of_lt (st.olds m))).trans (fre b m).1
  done := by
    rintro X rfl rfl rfl calm i ps t σ H E I fre st le
    have le : x.cps.size ≤ i := le
    obtain ⟨_, enu⟩ := st.1
    have ei : i = x.cps.size := Nat.le_antisymm st.2.2.2 le
    have it0 : t.heap.IsStrIter it (strIterType x) x tk0 x.cps.size := ei ▸ st.2.1
    have ty : t.TypeIs (.ref e) "enumerate" := ⟨_, enu, rfl⟩
    have fr := fre it (.tail _ (.head _))
    unfold pyNext
    refine wpAny_bind (wpAny_attempt (wpAny_callSpecial?_slot (name := Str.ofString "__next__") ty F.slot_enumerate_next (wpAny_call_entry F.slot_enumerate_next ty F.entry_enumerate_next ?_ (F.args_enumerate_next_1 _))))
    show wpAny _ _ (field (.ref e) 2 >>= fun _ => _) _ _ _
    refine wpAny_bind (wpAny_field enu rfl (x := .ref it) rfl (wpAny_bind ((Draws.text (prog := X.prog) (w := X.w) (A := X.A.in1) (I.ok.hd calm) it x tk0).done _ _ _ it0 fun g z but hz => ?_)))
    exact wpAny_bind (wpAny_isInstance (T := "StopIteration") (b := true) hz isSubtype_stop (wpAny_pure ⟨rfl, I.turned (t' := t.toks) (fun b o nb q => but b o nb q) fr.1 fr.2.1 fr.2.2.2.1 fr.2.2.2.2.1 fr.2.2.2.2.2⟩))
  self := fun _ _ _ _ _ st h => st.1.elim fun _ g => wpAny_pyIter_enum g h
def iEnumS (ta : TA) : TI := fun σ H R => ta σ H fun vs H1 => ∃ x, vs = [.str x] ∧ R (ItES x) H1
theorem pi_enumS {X : Cx} {e : Expr} {ta : TA} {p pos tpos : Pos} {elts : List Expr} {kk : Nat} (gl : Gl X "enumerate") (bi : X.mg "enumerate" = none) (arg : PA X [e] ta) (one : starEach [e] X.env = [(false, eval e X.env)] := by rfl) :
    PI X (.Tuple elts kk tpos) (.Call (.Name "enumerate" p) [e] [] pos) (iEnumS ta) := by
  refine ⟨fun ps t σ H R I h => Call_ (ld_blt I gl bi boot_enumerate (PyProof.Rows.callWith_type1 (thn (arg.run pos ps t σ H _ I h) fun us v r => ?_) one rfl))⟩
  obtain ⟨vs, G, J, rv, x, rfl, r⟩ := r
  cases rv with
  | cons r1 rr =>
    cases rr
    obtain ⟨tk0, rfl⟩ := r1
    have new : ∀ b ∈ [v.heap.objs.size + 1, v.heap.objs.size], FpOk X ps G b := fun b m => by
      have up : v.heap.objs.size ≤ b := by
        simp at m
        omega
      exact J.fpOk up (J.hok.fresh up)
    exact call_enumerate_str fun g enu iter _ stay => wpAny_pyIter_enum enu ⟨v.heap.objs.size + 1, _, _, _, G, rfl, J.kept (t' := v.toks) stay, turn_enumS x tk0 (v.heap.objs.size + 1) v.heap.objs.size, ⟨⟨.none, enu⟩, iter, Nat.succ_ne_self _, Nat.zero_le _⟩, new, r⟩
theorem walk_enumS {x : Str} : Walk (ItES x) x.cps.size (fun _ => True) (fun i H v H' => ∃ T s, v = .ref T ∧ H T = none ∧ H' = upd H T (.tup [.int (i : Nat), s]) ∧ SgAt x i s) :=
  ⟨fun _ _ hi _ => hi, fun _ _ => Nat.le_refl _, fun _ _ _ _ _ _ y => y⟩
/-! ### zip -/
def ItZS (x y : Str) : It :=
  ⟨fun i _ => i < x.cps.size ∧ i < y.cps.size, fun i H v H' => ∃ T s u, v = .ref T ∧ H T = none ∧ H' = upd H T (.tup [s, u]) ∧ SgAt x i s ∧ SgAt y i u, fun i _ => x.cps.size ≤ i ∨ y.cps.size ≤ i⟩
def AtZS (x y : Str) (t1 t2 : Tok) (z TI TO i1 i2 : Addr) (i : Nat) (h : Heap) : Prop := IsZip h z TI TO .none ∧ IsTupOf2 h TI (.ref i1) (.ref i2) ∧ (∃ a b, IsTupOf2 h TO a b) ∧ h.IsStrIter i1 (strIterType x) x t1 i ∧ h.IsStrIter i2 (strIterType y) y t2 i ∧ i ≤ x.cps.size ∧ i ≤ y.cps.size
theorem AtZS.olds {x y : Str} {t1 t2 : Tok} {z TI TO i1 i2 : Addr} {i : Nat} {h : Heap} (st : AtZS x y t1 t2 z TI TO i1 i2 i h) : ∀ b ∈ [z, TI, TO, i1, i2], ∃ o, h.get? b = some o ∧ ∀ v, o.data ≠ .cell v := by
  obtain ⟨hz, hI, ⟨a, b, hO⟩, ⟨o1, e1, _, d1⟩, ⟨o2, e2, _, d2⟩, _⟩ := st
  simp only [List.mem_cons, List.not_mem_nil, or_false, forall_eq_or_imp, forall_eq]
  exact ⟨⟨_, hz, nofun⟩, ⟨_, hI, nofun⟩, ⟨_, hO, nofun⟩, ⟨o1, e1, fun v q => nomatch d1.symm.trans q⟩, ⟨o2, e2, fun v q => nomatch d2.symm.trans q⟩⟩
theorem turn_zipS {P : Program} {w : World} {K : PySem.W.Frag} {elts : List Expr} {kk : Nat} {tpos : Pos} (x y : Str) (t1 t2 : Tok) {z TI TO i1 i2 : Addr} (S : ZipSep2 z TI TO i1 i2 [i1] [i2]) :
    Turn P w K (.Tuple elts kk tpos) (ItZS x y) [z, TI, TO, i1, i2] z (AtZS x y t1 t2 z TI TO i1 i2) where
  mem := .head _
  obj := fun i h st b m => st.olds b m
  keep := fun i h h' st k => by
    obtain ⟨hz, hI, ⟨a, b, hO⟩, ⟨o1, e1, r1⟩, ⟨o2, e2, r2⟩, le⟩ := st
    exact ⟨k z (by simp) _ hz, k TI (by simp) _ hI, ⟨a, b, k TO (by simp) _ hO⟩, ⟨o1, k i1 (by simp) _ e1, r1⟩, ⟨o2, k i2 (by simp) _ e2, r2⟩, le⟩
  item := by
    rintro X rfl rfl rfl calm i ps t σ H E I fre st ⟨l1, l2⟩
    have olds := st.olds
    obtain ⟨hz, hI, ⟨a, b, hO⟩, s1, s2, _⟩ := st
    have old : z < t.heap.objs.size := Heap.lt_size hz
    refine wpAny_pyNext_zipD2_item S (Draws.text (prog := X.prog) (w := X.w) (A := X.A.in1) (I.ok.hd calm) i1 x t1) (Draws.text (prog := X.prog) (w := X.w) (A := X.A.in1) (I.ok.hd calm) i2 y t2) hz hI hO s1 s2 l1 l2 fun v1 v2 g tk p1 p2 hz' hO' s1' s2' pair _ stay => ?_
    obtain ⟨c1, u1, h1, rfl⟩ := p1
    obtain ⟨c2, u2, h2, rfl⟩ := p2
    refine ⟨_, rfl, wpAny_letOwnedTupleGo_zip (s := { t with heap := g, toks := tk }) hz' fun g2 hz2 but => ?_⟩
    have pair2 : g2.get? t.heap.objs.size = some { cls := .type "tuple", data := .seq #[.str ⟨#[c1]⟩ u1, .str ⟨#[c2]⟩ u2] } := (but.2 _ (Nat.ne_of_gt old)).trans pair
    have lts : ∀ b ∈ [z, TI, TO, i1, i2], b < t.heap.objs.size := fun b m => let ⟨_, g, _⟩ := olds b m; Heap.lt_size g
    refine ⟨.ref t.heap.objs.size, upd H t.heap.objs.size (.tup [.str ⟨#[c1]⟩, .str ⟨#[c2]⟩]), I.turnedNew (ch := [z, TI, TO, i1, i2]) (fun b o nb q => (but.2 b fun e => nb (by simp [e])).trans (stay b o (fun e => nb (by simp [e])) (fun e => nb (by simp [e])) (fun e => nb (by simp [e])) (fun e => nb (by simp [e])) q)) fre (Nat.le_refl _)
        ⟨by show 2 ≤ sizeLine; decide, [.str ⟨#[c1]⟩ u1, .str ⟨#[c2]⟩ u2], .cons ⟨_, rfl⟩ (.cons ⟨_, rfl⟩ .nil), ⟨_, pair2, rfl, _, rfl⟩⟩, rfl, ⟨_, _, _, rfl, I.hok.fresh (Nat.le_refl _), rfl, ⟨c1, h1, rfl⟩, ⟨c2, h2, rfl⟩⟩, ⟨hz2, ?_, ⟨_, _, (but.2 _ S.TOz).trans hO'⟩, ?_, ?_, l1, l2⟩, fun b m => ?_⟩
    · exact (but.2 _ S.TIz).trans (stay _ _ S.TIz S.TITO S.TIi1 S.TIi2 hI)
    · obtain ⟨o, ho, r⟩ := s1'
      exact ⟨o, (but.2 _ (Ne.symm S.zi1)).trans ho, r⟩
    · obtain ⟨o, ho, r⟩ := s2'
      exact ⟨o, (but.2 _ (Ne.symm S.zi2)).trans ho, r⟩
    · exact (upd_ne (Nat.ne_of_lt (lts b m))).trans (fre b m).1
  done := by
    rintro X rfl rfl rfl calm i ps t σ H E I fre st fin
    obtain ⟨hz, hI, ⟨a, b, hO⟩, s1, s2, le1, le2⟩ := st
    have fin : x.cps.size ≤ i ∨ y.cps.size ≤ i := fin
    refine wpAny_pyNext_zipD2_end S (Draws.text (prog := X.prog) (w := X.w) (A := X.A.in1) (I.ok.hd calm) i1 x t1) (Draws.text (prog := X.prog) (w := X.w) (A := X.A.in1) (I.ok.hd calm) i2 y t2) hz hI hO s1 s2 le1 le2 (by omega) fun g tk stay => ?_
    exact ⟨rfl, I.turnedL (t' := tk) (ch := [z, TI, TO, i1, i2]) (fun b o nb q => stay b o (fun e => nb (by simp [e])) (fun e => nb (by simp [e])) (fun e => nb (by simp [e])) (fun e => nb (by simp [e])) q) fre⟩
  self := fun _ _ _ _ _ st h => wpAny_pyIter_zip st.1 h
def iZipS (ta : TA) : TI := fun σ H R => ta σ H fun vs H1 => ∃ x y, vs = [.str x, .str y] ∧ R (ItZS x y) H1
theorem pi_zipS {X : Cx} {e e2 : Expr} {ta : TA} {p pos tpos : Pos} {elts : List Expr} {kk : Nat} (gl : Gl X "zip") (bi : X.mg "zip" = none) (arg : PA X [e, e2] ta)
    (st : starEach [e, e2] X.env = (false, eval e X.env) :: starEach [e2] X.env := by rfl) (pl : (backTo pos (starEach [e2] X.env)).any (·.1) = false := by rfl) :
    PI X (.Tuple elts kk tpos) (.Call (.Name "zip" p) [e, e2] [] pos) (iZipS ta) := by
  refine ⟨fun ps t σ H R I h => Call_ (ld_blt I gl bi PyProof.Rows.boot_zip (PyProof.Rows.callWith_type1 (thn (arg.run pos ps t σ H _ I h) fun us v r => ?_) st pl))⟩
  obtain ⟨vs, G, J, rv, x, y, rfl, r⟩ := r
  cases rv with
  | cons r1 rr =>
    cases rr with
    | cons r2 rr =>
      cases rr
      obtain ⟨t1, rfl⟩ := r1
      obtain ⟨t2, rfl⟩ := r2
      refine zip_begins2 (begins_text x t1) (begins_text y t2) trivial trivial fun g hz hI hO g1 g2 _ stay => wpAny_pyIter_zip hz ?_
      have new : ∀ b ∈ [v.heap.objs.size + 4, v.heap.objs.size + 2, v.heap.objs.size + 3, v.heap.objs.size, v.heap.objs.size + 1], FpOk X ps G b := fun b m => by
        have up : v.heap.objs.size ≤ b := by
          simp at m
          omega
        exact J.fpOk up (J.hok.fresh up)
      exact ⟨_, _, _, _, G, rfl, J.kept (t' := v.toks) stay, turn_zipS x y t1 t2 (zip_sep2 (fp1 := []) (fp2 := []) (fun _ h => nomatch h) (fun _ h => nomatch h)), ⟨hz, hI, ⟨_, _, hO⟩, ⟨_, g1, rfl, rfl⟩, ⟨_, g2, rfl, rfl⟩, Nat.zero_le _, Nat.zero_le _⟩, new, r⟩
theorem walk_zipS {x y : Str} {n : Nat} (hn : n = min x.cps.size y.cps.size) : Walk (ItZS x y) n (fun _ => True) (fun i H v H' => ∃ T s u, v = .ref T ∧ H T = none ∧ H' = upd H T (.tup [s, u]) ∧ SgAt x i s ∧ SgAt y i u) :=
  ⟨fun i _ hi _ => ⟨by omega, by omega⟩, fun _ _ => by show _ ∨ _; omega, fun _ _ _ _ _ _ y => y⟩
/-- a statement that is never come to -/
theorem ps_dead {X : Cx} {st : Stmt} : PS X st (fun _ _ _ => False) := ⟨fun _ _ _ _ _ _ h => h.elim⟩
end NC
namespace NC
open PySem PySem.Spec PyProof.Rows L2
abbrev sChkRoom : Stmt := topS 23
theorem scChkRoom : FnScope ["hall", "room"] ["hall", "room"] (defScope sChkRoom) := ⟨rfl, rfl, rfl, by decide +kernel, rfl, by decide +kernel, by decide +kernel⟩
/-- a hall that was let by, at x -/
structure HallG (C : Addr) (H : Hp) (x dx sb D : Addr) (l : List Nat) (ys : List Str) (fo : Nat → List Nat) (bs : List (List Nat)) : Prop where
  hA : HallAt C H x dx sb D l ys fo
  g : GoodW l
  bar : ∀ b ∈ bs, isBar l b = true
  perm : ys.Perm (bs.map tx)
  len : bs.length ≤ 64
  ok : Okv l bs
theorem HallG.same {C : Addr} {H H' : Hp} {x dx sb D : Addr} {l : List Nat} {ys : List Str} {fo : Nat → List Nat} {bs : List (List Nat)} (h : HallG C H x dx sb D l ys fo bs) (s : Same H H') : HallG C H' x dx sb D l ys fo bs := ⟨h.hA.same s, h.g, h.bar, h.perm, h.len, h.ok⟩
theorem rms_lets {l : List Nat} (g : GoodW l) {bs : List (List Nat)} : ∀ r ∈ rms l bs, r.length = l.length ∧ ∀ c ∈ r, isLt c := fun r hr => by
  have hm : r ∈ allT l l.length := by
    unfold rms at hr
    exact (List.mem_filter.mp hr).1
  obtain ⟨p, rfl⟩ := (allT_mem g.nd (Nat.le_refl _) r).mp hm
  rw [List.take_length]
  exact ⟨rm_len l p, fun c hc => sds_lt g (rm_asc g hc)⟩
theorem get_of {r : List Nat} {i c : Nat} (h : r[i]? = some c) : r.getD i 0 = c := by rw [List.getD_eq_getElem?_getD, h]; rfl
theorem cutS_to (l : List Nat) (j : Nat) : cutS (tx l) none (some ((j : Nat) : Int)) = tx (l.take j) := by
  unfold cutS
  rw [HT.sIx_none, HT.sIx_nat, tx_list, tx_len]
  show Str.mk _ = Str.mk _
  congr 1
  rw [List.drop_zero, Nat.sub_zero]
  rcases Nat.le_total j l.length with h | h
  · rw [Nat.min_eq_left h]
  · rw [Nat.min_eq_right h, List.take_of_length_le (Nat.le_refl _), List.take_of_length_le h]
theorem cutS_from (l : List Nat) (j : Nat) : cutS (tx l) (some ((j : Nat) : Int)) none = tx (l.drop j) := by
  unfold cutS
  rw [HT.sIx_none, HT.sIx_nat, tx_list, tx_len]
  show Str.mk _ = Str.mk _
  congr 1
  rcases Nat.le_total j l.length with h | h
  · rw [Nat.min_eq_left h, List.take_of_length_le (by rw [List.length_drop]; exact Nat.le_refl _)]
  · rw [Nat.min_eq_right h, List.drop_of_length_le (Nat.le_refl _), List.drop_of_length_le h]
    simp
section
variable {P : Program} {w : World} {K : PySem.W.Frag} {mg : Str → Option Value} {base : Heap} {C fi fb fm fr fg : Addr} {di db dm dr dg : FuncData}
/-! ### check_room, let by -/
def spChkRoom (C : Addr) : Sp := fun vs H Q _ => ∃ x dx sb D l ys fo bs r, vs = [.ref x, .str (tx r)] ∧ HallG C H x dx sb D l ys fo bs ∧ r ∈ rms l bs ∧ ∀ H', Same H H' → Q .non H'
theorem ok_chkRoom {f : Addr} {fd : FuncData} {k : Nat} (hany : mg "any" = none) (Z : HC K mg C fi fb di db) (M : HM K C fm fr fg dm dr dg) (F : Fun K "check_room" "check_room" sChkRoom f fd) : FnOk P w K mg base CX0 (k + 2) f fd ["hall", "room"] (spChkRoom C) := by
  have GM : FnOk P w K mg base CX0 (k + 1) fm dm ["self", "room"] (spHroom C) := ok_Hroom hany Z M
  refine F.ok scChkRoom (fun vs H Q E h => ?_) (fun cdv A outer st H vs Q E hr h => ?_)
  · obtain ⟨x, dx, sb, D, l, ys, fo, bs, r, rfl, _⟩ := h
    rfl
  · obtain ⟨x, dx, sb, D, l, ys, fo, bs, r, rfl, hG, hm, q⟩ := h
    obtain ⟨rl, rlt⟩ := rms_lets hG.g r hm
    have hl12 := hG.g.hi
    refine ⟨_, pss_one (ps_if (pt_not (pt_val (pe_meth (pv 0) Z.cl M.mm GM hr M.bm .nil pass0 (pa_cons (pv 1) pa_nil)))) (pss_one ps_dead) pss_nil), ?_⟩
    refine ⟨_, rfl, x, dx, _, rfl, hG.hA.x, rfl, _, rfl, x, dx, sb, D, l, ys, fo, bs, r, rfl, hG.hA, hG.g, hG.bar, hG.perm, hG.len, (fun c hc => (rlt c hc).asc), by omega, fun H1 s1 => ⟨_, rfl, ?_⟩⟩
    rw [decide_eq_true hm]
    exact iteF (q H1 s1)
end
end NC
/-! parts: what their sides force; the nearest room of one -/
namespace NC
open PySem PySem.Spec PyProof.Rows L2
/-- a part: sides of rising walls -/
structure Part (l P : List Nat) : Prop where
  sub : (P.map lwc).Sublist l
  sd : ∀ c ∈ P, c ∈ sds l
def allFo (fo : Nat → List Nat) (P : List Nat) : List Nat := P.flatMap fo
def tornL (l W : List Nat) : List Nat := l.filter fun c => decide (c ∈ W) && decide (swp c ∈ W)
def byWT (l W : List Nat) : List Nat := l.flatMap fun c => [swp c, c].filter fun e => decide (e ∈ W)
def wov (W r : List Nat) : List Nat := r.map fun s => if swp s ∈ W then swp s else s
theorem inR_iff {b r : List Nat} : inR b r = true ↔ ∀ s ∈ b, s ∈ r := by
  unfold inR
  rw [List.all_eq_true]
  exact ⟨fun h s hs => of_decide_eq_true (h s hs), fun h s hs => decide_eq_true (h s hs)⟩
theorem Part.len {l P : List Nat} (h : Part l P) : P.length ≤ l.length := by
  have := h.sub.length_le
  rw [List.length_map] at this
  exact this
theorem byWT_mem {l : List Nat} (g : GoodW l) {W : List Nat} {s : Nat} : s ∈ byWT l W ↔ s ∈ sds l ∧ s ∈ W := by
  unfold byWT
  rw [List.mem_flatMap]
  constructor
  · rintro ⟨c, hc, hs⟩
    obtain ⟨h1, h2⟩ := List.mem_filter.mp hs
    refine ⟨?_, of_decide_eq_true h2⟩
    rcases List.mem_cons.mp h1 with e | e
    · rw [e]; exact sds_swp g (sds_of_small hc)
    · rw [List.mem_singleton.mp e]; exact sds_of_small hc
  · rintro ⟨h1, h2⟩
    rcases sds_shape g h1 with z | z
    · exact ⟨s, z.2.2, List.mem_filter.mpr ⟨List.mem_cons_of_mem _ (List.mem_singleton.mpr rfl), decide_eq_true h2⟩⟩
    · refine ⟨s + 32, z.2.2, List.mem_filter.mpr ⟨?_, decide_eq_true h2⟩⟩
      rw [swp_small (by omega)]
      exact List.mem_cons.mpr (.inl (by omega))
theorem byWT_len (l W : List Nat) : (byWT l W).length ≤ 2 * l.length := by
  induction l with
  | nil => simp [byWT]
  | cons x r ih =>
    have h1 : (byWT (x :: r) W) = ([swp x, x].filter fun e => decide (e ∈ W)) ++ byWT r W := by simp [byWT]
    rw [h1, List.length_append, List.length_cons]
    have h2 : ([swp x, x].filter fun e => decide (e ∈ W)).length ≤ 2 := List.length_filter_le _ _
    omega
theorem byWT_snoc (l : List Nat) (n : Nat) (c : Nat) (W : List Nat) (h : l[n]? = some c) : byWT (l.take (n + 1)) W = byWT (l.take n) W ++ [swp c, c].filter fun e => decide (e ∈ W) := by
  rw [List.take_add_one, h]
  unfold byWT
  rw [List.flatMap_append]
  simp
section
variable {l : List Nat} (g : GoodW l) {bs : List (List Nat)} (hb : ∀ b ∈ bs, isBar l b = true) {fo : Nat → List Nat} (hf : ∀ s ∈ sds l, ∀ t, t ∈ fo s ↔ Frc (adjOf bs) s t)
include g hb hf
theorem allFo_mem {P : List Nat} (hP : ∀ c ∈ P, c ∈ sds l) {t : Nat} : t ∈ allFo fo P ↔ ∃ s ∈ P, Frc (adjOf bs) s t := by
  unfold allFo
  rw [List.mem_flatMap]
  exact ⟨fun ⟨s, hs, h⟩ => ⟨s, hs, (hf s (hP s hs) t).mp h⟩, fun ⟨s, hs, h⟩ => ⟨s, hs, (hf s (hP s hs) t).mpr h⟩⟩
theorem allFo_sd {P : List Nat} (hP : ∀ c ∈ P, c ∈ sds l) {t : Nat} (h : t ∈ allFo fo P) : t ∈ sds l := by
  obtain ⟨s, hs, k⟩ := (allFo_mem g hb hf hP).mp h
  exact Frc.mem g hb (hP s hs) k
theorem allFo_adj {P : List Nat} (hP : ∀ c ∈ P, c ∈ sds l) {t u : Nat} (h : t ∈ allFo fo P) (k : u ∈ adjOf bs t) : u ∈ allFo fo P := by
  obtain ⟨s, hs, z⟩ := (allFo_mem g hb hf hP).mp h
  exact (allFo_mem g hb hf hP).mpr ⟨s, hs, z.step k⟩
theorem allFo_self {P : List Nat} (hP : ∀ c ∈ P, c ∈ sds l) {t : Nat} (h : t ∈ P) : t ∈ allFo fo P := (allFo_mem g hb hf hP).mpr ⟨t, h, Frc.refl⟩
/-- what a room has of a part it has of all that is forced -/
theorem allFo_in {P : List Nat} (hP : ∀ c ∈ P, c ∈ sds l) {q : List Nat} (hq : q ∈ rms l bs) (hin : ∀ s ∈ P, s ∈ q) {t : Nat} (h : t ∈ allFo fo P) : t ∈ q := by
  obtain ⟨p, rfl, sp⟩ := (rms_mem g hb q).mp hq
  obtain ⟨s, hs, z⟩ := (allFo_mem g hb hf hP).mp h
  have v := Sat.frc g hb sp ((rm_mem g (hP s hs)).mp (hin s hs)) z
  exact (rm_mem g (Frc.mem g hb (hP s hs) z)).mpr v
theorem room_one {q : List Nat} (hq : q ∈ rms l bs) {t : Nat} (ht : t ∈ sds l) (h1 : t ∈ q) (h2 : swp t ∈ q) : False := by
  obtain ⟨p, rfl, sp⟩ := (rms_mem g hb q).mp hq
  have v1 := (rm_mem g ht).mp h1
  have v2 := (rm_mem g (sds_swp g ht)).mp h2
  rw [val_swp (sds_lt g ht), v1] at v2
  cases v2
theorem torn_no {P : List Nat} (hP : ∀ c ∈ P, c ∈ sds l) {q : List Nat} (hq : q ∈ rms l bs) (hin : ∀ s ∈ P, s ∈ q) : tornL l (allFo fo P) = [] := by
  unfold tornL
  rw [List.filter_eq_nil_iff]
  intro c hc h
  rw [Bool.and_eq_true, decide_eq_true_eq, decide_eq_true_eq] at h
  exact room_one g hb hf hq (sds_of_small hc) (allFo_in g hb hf hP hq hin h.1) (allFo_in g hb hf hP hq hin h.2)
/-- what is written over a room is a room of the part -/
theorem wov_room {P : List Nat} (hP : ∀ c ∈ P, c ∈ sds l) {q r : List Nat} (hq : q ∈ rms l bs) (hin : ∀ s ∈ P, s ∈ q) (hr : r ∈ rms l bs) : wov (allFo fo P) r ∈ rms l bs ∧ ∀ s ∈ P, s ∈ wov (allFo fo P) r := by
  have hW : ∀ {t}, t ∈ allFo fo P → t ∈ q := fun h => allFo_in g hb hf hP hq hin h
  have hWs : ∀ {t}, t ∈ allFo fo P → t ∈ sds l := fun h => allFo_sd g hb hf hP h
  have one : ∀ {t}, t ∈ allFo fo P → swp t ∈ allFo fo P → False := fun h1 h2 => room_one g hb hf hq (hWs h1) (hW h1) (hW h2)
  obtain ⟨p, rfl, sp⟩ := (rms_mem g hb r).mp hr
  have self : ∀ {t}, t ∈ P → t ∈ allFo fo P := fun h => allFo_self g hb hf hP h
  have adj : ∀ {t u}, t ∈ allFo fo P → u ∈ adjOf bs t → u ∈ allFo fo P := fun h k => allFo_adj g hb hf hP h k
  generalize allFo fo P = W at hW hWs one self adj
  have eN : wov W (rmOf l p) = rmOf l (fun c => if c ∈ W then true else if upc c ∈ W then false else p c) := by
    unfold wov rmOf
    rw [List.map_map]
    refine List.map_congr_left fun c hc => ?_
    have sm := g.sm c hc
    show (if swp (if p c then c else upc c) ∈ W then swp (if p c then c else upc c) else (if p c then c else upc c)) = _
    have e1 : swp c = upc c := by rw [swp_small sm, upc_small sm]
    have e2 : swp (upc c) = c := by rw [upc_small sm, swp_great (by omega)]; omega
    have no : c ∈ W → upc c ∈ W → False := fun h1 h2 => one h1 (by rw [e1]; exact h2)
    by_cases hp : p c = true
    · simp only [hp, if_true, e1]
      by_cases h1 : c ∈ W
      · by_cases h2 : upc c ∈ W
        · exact (no h1 h2).elim
        · simp [h1, h2]
      · by_cases h2 : upc c ∈ W <;> simp [h1, h2]
    · simp only [hp, e2]
      by_cases h1 : c ∈ W
      · simp [h1, e2]
      · by_cases h2 : upc c ∈ W <;> simp [h1, h2, e2]
  generalize hpN : (fun c => if c ∈ W then true else if upc c ∈ W then false else p c) = pN at eN
  have vW : ∀ {t}, t ∈ sds l → t ∈ W → val pN t = true := fun {t} ht h => by
    rcases sds_shape g ht with z | z
    · rw [val_small ⟨z.1, z.2.1⟩, ← hpN]
      simp [h]
    · have hn : t + 32 ∉ W := fun k => one h (by rw [swp_great ⟨z.1, z.2.1⟩]; exact k)
      have hu : upc (t + 32) = t := by rw [upc_small (by omega)]; omega
      unfold val
      rw [if_pos (by omega), ← hpN]
      simp [hn, hu, h]
  have vr : ∀ {t}, t ∈ sds l → t ∉ W → val pN t = true → val p t = true := fun {t} ht h v => by
    have hn : swp t ∉ W := fun k => by
      have := vW (sds_swp g ht) k
      rw [val_swp (sds_lt g ht), v] at this
      cases this
    rcases sds_shape g ht with z | z
    · rw [swp_small ⟨z.1, z.2.1⟩, ← upc_small ⟨z.1, z.2.1⟩] at hn
      rw [val_small ⟨z.1, z.2.1⟩, ← hpN] at v
      rw [val_small ⟨z.1, z.2.1⟩]
      simpa [h, hn] using v
    · rw [swp_great ⟨z.1, z.2.1⟩] at hn
      have hu : upc (t + 32) = t := by rw [upc_small (by omega)]; omega
      unfold val at v ⊢
      rw [if_pos (by omega), ← hpN] at v
      rw [if_pos (by omega)]
      simpa [hn, hu, h] using v
  refine ⟨?_, fun s hs => ?_⟩
  · rw [eN]
    refine (rms_mem g hb _).mpr ⟨pN, rfl, fun x y hxy ⟨v1, v2⟩ => ?_⟩
    obtain ⟨x', y', e, hx, hy, _⟩ := bar_two (hb _ hxy)
    cases e
    by_cases h1 : x ∈ W
    · have := adj h1 ((adj_iff g hb (sds_lt g (sds_swp g hy))).mpr (.inl (by rw [swp_swp (sds_lt g hy)]; exact hxy)))
      have := vW (sds_swp g hy) this
      rw [val_swp (sds_lt g hy), v2] at this
      cases this
    · by_cases h2 : y ∈ W
      · have := adj h2 ((adj_iff g hb (sds_lt g (sds_swp g hx))).mpr (.inr (by rw [swp_swp (sds_lt g hx)]; exact hxy)))
        have := vW (sds_swp g hx) this
        rw [val_swp (sds_lt g hx), v1] at this
        cases this
      · exact sp x y hxy ⟨vr hx h1 v1, vr hy h2 v2⟩
  · rw [eN]
    exact (rm_mem g (hP s hs)).mpr (vW (hP s hs) (self hs))
end
theorem filter_add {L : List Nat} {p a b : Nat → Bool} (h : ∀ k ∈ L, p k = (a k || b k) ∧ ¬ (a k = true ∧ b k = true)) : (L.filter p).length = (L.filter a).length + (L.filter b).length := by
  induction L with
  | nil => rfl
  | cons x r ih =>
    have h0 := h x (List.mem_cons_self ..)
    have ih := ih fun k hk => h k (List.mem_cons_of_mem _ hk)
    rw [List.filter_cons, List.filter_cons, List.filter_cons, h0.1]
    have h1 := h0.2
    cases ha : a x <;> cases hb : b x
    · simpa [ha, hb] using ih
    · simp only [ha, hb, Bool.or_true, if_true, List.length_cons, ih, Bool.false_eq_true, if_false]; omega
    · simp only [ha, hb, Bool.or_false, if_true, List.length_cons, ih, Bool.false_eq_true, if_false]; omega
    · exact absurd ⟨ha, hb⟩ h1
section
variable {l : List Nat} (g : GoodW l) {bs : List (List Nat)} (hb : ∀ b ∈ bs, isBar l b = true) {fo : Nat → List Nat} (hf : ∀ s ∈ sds l, ∀ t, t ∈ fo s ↔ Frc (adjOf bs) s t)
include g hb hf
/-- how far it is to a room of the part: over the written one -/
theorem wov_ham {P : List Nat} (hP : ∀ c ∈ P, c ∈ sds l) {q r : List Nat} (hq : q ∈ rms l bs) (hin : ∀ s ∈ P, s ∈ q) (hr : r ∈ rms l bs) : ham r q = ham r (wov (allFo fo P) r) + ham (wov (allFo fo P) r) q := by
  have hW : ∀ {t}, t ∈ allFo fo P → t ∈ q := fun h => allFo_in g hb hf hP hq hin h
  obtain ⟨pq, rfl, sq⟩ := (rms_mem g hb q).mp hq
  obtain ⟨p, rfl, sp⟩ := (rms_mem g hb r).mp hr
  generalize allFo fo P = W at hW
  have wl : (wov W (rmOf l p)).length = l.length := by unfold wov; rw [List.length_map, rm_len]
  unfold ham
  rw [wl, rm_len]
  refine filter_add fun k hk => ?_
  have hk := List.mem_range.mp hk
  have sm := g.sm _ (List.getElem_mem hk)
  have ew : (wov W (rmOf l p)).getD k 0 = if swp (if p l[k] then l[k] else upc l[k]) ∈ W then swp (if p l[k] then l[k] else upc l[k]) else if p l[k] then l[k] else upc l[k] := by
    unfold wov rmOf
    rw [List.getD_eq_getElem?_getD, List.getElem?_map, List.getElem?_map, List.getElem?_eq_getElem hk]
    rfl
  have hsd : ∀ b : Bool, (if b then l[k] else upc l[k]) ∈ sds l := fun b => by
    cases b
    · rw [if_neg (by simp), upc_small sm]; exact sds_of_great g (List.getElem_mem hk)
    · rw [if_pos rfl]; exact sds_of_small (List.getElem_mem hk)
  have key : swp (if p l[k] then l[k] else upc l[k]) ∈ W → (if pq l[k] then l[k] else upc l[k]) = swp (if p l[k] then l[k] else upc l[k]) := fun h => by
    have h2 := hW h
    have h3 := (rm_mem g (sds_swp g (hsd _))).mp h2
    rw [swp_sd sm] at h3 ⊢
    have : pq l[k] = !p l[k] := by
      cases hpk : p l[k]
      · rw [hpk] at h3
        simpa [val_small sm] using h3
      · rw [hpk] at h3
        have h4 : val pq (l[k] - 32) = true := by simpa [upc_small sm] using h3
        rw [val_great sm] at h4
        simpa using h4
    rw [this]
  unfold dif
  rw [ew, rm_get hk, rm_get hk]
  by_cases h : swp (if p l[k] then l[k] else upc l[k]) ∈ W
  · rw [if_pos h, key h]
    refine ⟨by simp, fun z => ?_⟩
    have := z.2
    simp at this
  · rw [if_neg h]
    refine ⟨by simp, fun z => ?_⟩
    have := z.1
    simp at this
theorem wov_best {P : List Nat} (hP : ∀ c ∈ P, c ∈ sds l) {q r : List Nat} (hq : q ∈ rms l bs) (hin : ∀ s ∈ P, s ∈ q) (hr : r ∈ rms l bs) (h : ham r q ≤ ham r (wov (allFo fo P) r)) : q = wov (allFo fo P) r := by
  have e := wov_ham g hb hf hP hq hin hr
  have z : ham (wov (allFo fo P) r) q = 0 := by omega
  refine ((ham_zero ?_).mp z).symm
  have h1 := (wov_room g hb hf hP hq hin hr).1
  obtain ⟨p1, e1, _⟩ := (rms_mem g hb _).mp h1
  obtain ⟨p2, e2, _⟩ := (rms_mem g hb _).mp hq
  rw [e1, e2, rm_len, rm_len]
theorem wov_wov {P : List Nat} (hP : ∀ c ∈ P, c ∈ sds l) {q r : List Nat} (hq : q ∈ rms l bs) (hin : ∀ s ∈ P, s ∈ q) (hr : r ∈ rms l bs) : wov (allFo fo P) (wov (allFo fo P) r) = wov (allFo fo P) r := by
  obtain ⟨h1, h2⟩ := wov_room g hb hf hP hq hin hr
  refine (wov_best g hb hf hP h1 h2 h1 ?_).symm
  rw [(ham_zero rfl).mpr rfl]
  exact Nat.zero_le _
end
/-- written over by what stands by walls -/
theorem wov_by {l : List Nat} (g : GoodW l) {W r : List Nat} (hr : ∀ c ∈ r, c ∈ sds l) : wov (byWT l W) r = wov W r := by
  unfold wov
  refine List.map_congr_left fun c hc => ?_
  have : swp c ∈ byWT l W ↔ swp c ∈ W := by
    rw [byWT_mem g]
    exact ⟨fun h => h.2, fun h => ⟨sds_swp g (hr c hc), h⟩⟩
  by_cases h : swp c ∈ W
  · rw [if_pos h, if_pos (this.mpr h)]
  · rw [if_neg h, if_neg fun z => h (this.mp z)]
theorem upc_ne {c : Nat} (h : 97 ≤ c ∧ c ≤ 122) : upc c ≠ c := by rw [upc_small h]; omega
theorem allT_nd {l : List Nat} (sm : ∀ c ∈ l, 97 ≤ c ∧ c ≤ 122) : ∀ k, k ≤ l.length → (allT l k).Nodup
  | 0, _ => by simp [allT]
  | k + 1, h => by
    have ih := allT_nd sm k (by omega)
    have hk : k < l.length := by omega
    have ne : upc (l.getD k 0) ≠ l.getD k 0 := by
      have : l.getD k 0 = l[k] := by rw [List.getD_eq_getElem?_getD, List.getElem?_eq_getElem hk]; rfl
      rw [this]
      exact upc_ne (sm _ (List.getElem_mem hk))
    show ((allT l k).flatMap fun r => [r ++ [upc (l.getD k 0)], r ++ [l.getD k 0]]).Nodup
    generalize allT l k = L at ih
    induction L with
    | nil => simp
    | cons x r ih2 =>
      have h1 := List.nodup_cons.mp ih
      rw [List.flatMap_cons, List.nodup_append]
      refine ⟨?_, ih2 h1.2, fun a ha b hb e => ?_⟩
      · rw [List.nodup_cons]
        refine ⟨fun z => ?_, by simp⟩
        have := List.mem_singleton.mp z
        have := List.append_cancel_left this
        exact ne (by simpa using this)
      · subst e
        obtain ⟨y, hy, hm⟩ := List.mem_flatMap.mp hb
        have e1 : a.dropLast = x := by
          rcases List.mem_cons.mp ha with z | z
          · rw [z]; simp
          · rw [List.mem_singleton.mp z]; simp
        have e2 : a.dropLast = y := by
          rcases List.mem_cons.mp hm with z | z
          · rw [z]; simp
          · rw [List.mem_singleton.mp z]; simp
        rw [← e1, e2] at h1
        exact h1.1 hy
theorem rms_nd {l : List Nat} (g : GoodW l) {bs : List (List Nat)} : (rms l bs).Nodup := by
  unfold rms
  exact (allT_nd g.sm _ (Nat.le_refl _)).sublist List.filter_sublist
theorem filter_one' {L : List (List Nat)} (nd : L.Nodup) {p : List Nat → Bool} {x : List Nat} (hx : x ∈ L) (h : ∀ y ∈ L, p y = true ↔ y = x) : (L.filter p).length = 1 := by
  have e : L.filter p = L.filter (fun y => decide (y = x)) := List.filter_congr fun y hy => by
    rw [Bool.eq_iff_iff, decide_eq_true_eq]
    exact h y hy
  rw [e]
  clear e h
  induction L with
  | nil => cases hx
  | cons y r ih =>
    have h1 := List.nodup_cons.mp nd
    by_cases z : y = x
    · subst z
      rw [List.filter_cons, if_pos (by simp), List.filter_eq_nil_iff.mpr fun a ha => by
        rw [decide_eq_true_eq]
        intro k
        rw [k] at ha
        exact h1.1 ha]
      rfl
    · rw [List.filter_cons, if_neg (by simpa using z)]
      refine ih h1.2 ?_
      rcases List.mem_cons.mp hx with k | k
      · exact absurd k.symm z
      · exact k
theorem part_pw {l P : List Nat} (g : GoodW l) (h : Part l P) : (P.map lwc).Pairwise (· < ·) := g.rise.sublist h.sub
end NC
namespace NC
open PySem PySem.Spec PyProof.Rows L2
abbrev sHwalls : Stmt := inClass (topS 29) 1
abbrev sHforced : Stmt := inClass (topS 29) 3
abbrev sIsPart : Stmt := topS 31
abbrev sChkPart : Stmt := topS 32
abbrev sAllFB : Stmt := topS 33
abbrev sTorn : Stmt := topS 34
theorem scHwalls : FnScope ["self"] ["self"] (defScope sHwalls) := ⟨rfl, rfl, rfl, by decide +kernel, rfl, by decide +kernel, by decide +kernel⟩
theorem scHforced : FnScope ["self", "side"] ["self", "side"] (defScope sHforced) := ⟨rfl, rfl, rfl, by decide +kernel, rfl, by decide +kernel, by decide +kernel⟩
abbrev nIsPart : List Str := ["hall", "part", "walls", "ahead", "wall"]
theorem scIsPart : FnScope nIsPart ["hall", "part"] (defScope sIsPart) := ⟨rfl, rfl, rfl, by decide +kernel, rfl, by decide +kernel, by decide +kernel⟩
theorem scChkPart : FnScope ["hall", "part"] ["hall", "part"] (defScope sChkPart) := ⟨rfl, rfl, rfl, by decide +kernel, rfl, by decide +kernel, by decide +kernel⟩
theorem scAllFB : FnScope ["hall", "part", "side"] ["hall", "part"] (defScope sAllFB) := ⟨rfl, rfl, rfl, by decide +kernel, rfl, by decide +kernel, by decide +kernel⟩
theorem scTorn : FnScope ["hall", "part", "sides", "wall"] ["hall", "part"] (defScope sTorn) := ⟨rfl, rfl, rfl, by decide +kernel, rfl, by decide +kernel, by decide +kernel⟩
structure HP (K : PySem.W.Frag) (C fw ff : Addr) (dw df : FuncData) : Prop where
  mw : Meth K C "walls" fw
  Fw : Fun K "walls" "Hall.walls" sHwalls fw dw
  bw : Binds K dw ["self"] []
  mf : Meth K C "forced" ff
  Ff : Fun K "forced" "Hall.forced" sHforced ff df
  bf : Binds K df ["self", "side"] []
/-- a hall of which it is known what its sides force -/
structure HallF (C : Addr) (H : Hp) (x dx sb D : Addr) (l : List Nat) (ys : List Str) (fo : Nat → List Nat) (bs : List (List Nat)) : Prop where
  G : HallG C H x dx sb D l ys fo bs
  hf : ∀ s ∈ sds l, ∀ t, t ∈ fo s ↔ Frc (adjOf bs) s t
  fl : ∀ s ∈ sds l, (fo s).length ≤ 24
theorem HallF.same {C : Addr} {H H' : Hp} {x dx sb D : Addr} {l : List Nat} {ys : List Str} {fo : Nat → List Nat} {bs : List (List Nat)} (h : HallF C H x dx sb D l ys fo bs) (s : Same H H') : HallF C H' x dx sb D l ys fo bs := ⟨h.G.same s, h.hf, h.fl⟩
theorem allFo_len {l : List Nat} {fo : Nat → List Nat} (fl : ∀ s ∈ sds l, (fo s).length ≤ 24) : ∀ {P : List Nat}, (∀ c ∈ P, c ∈ sds l) → (allFo fo P).length ≤ 24 * P.length
  | [], _ => by simp [allFo]
  | x :: r, h => by
    have e : allFo fo (x :: r) = fo x ++ allFo fo r := by simp [allFo]
    have h1 := fl x (h x (List.mem_cons_self ..))
    have h2 := allFo_len fl (P := r) fun c hc => h c (List.mem_cons_of_mem _ hc)
    rw [e, List.length_append, List.length_cons]
    omega
theorem sum_txs (xs : List (List Nat)) : ((xs.map tx).map (·.length)).sum = xs.flatten.length := by
  induction xs with
  | nil => rfl
  | cons x r ih => rw [List.map_cons, List.map_cons, List.sum_cons, ih, List.flatten_cons, List.length_append, tx_len]
theorem sum_sgs (xs : List Nat) : ((xs.map sg).map (·.length)).sum = xs.length := by
  induction xs with
  | nil => rfl
  | cons x r ih =>
    rw [List.map_cons, List.map_cons, List.sum_cons, ih, List.length_cons]
    show 1 + r.length = _
    omega
section
variable {P : Program} {w : World} {K : PySem.W.Frag} {mg : Str → Option Value} {base : Heap} {C fi fb fm fr fg fw ff : Addr} {di db dm dr dg dw df : FuncData}
/-! ### walls, forced -/
def spHwalls (C : Addr) : Sp := fun vs H Q _ => ∃ x dx sb D l ys fo, vs = [.ref x] ∧ HallAt C H x dx sb D l ys fo ∧ Q (.str (tx l)) H
theorem ok_Hwalls {k : Nat} (Z : HC K mg C fi fb di db) (Y : HP K C fw ff dw df) : FnOk P w K mg base CX0 (k + 1) fw dw ["self"] (spHwalls C) := by
  refine Y.Fw.ok scHwalls (fun vs H Q E h => ?_) (fun cdv A outer st H vs Q E hr h => ?_)
  · obtain ⟨x, dx, sb, D, l, ys, fo, rfl, _⟩ := h
    rfl
  · obtain ⟨x, dx, sb, D, l, ys, fo, rfl, hA, q⟩ := h
    refine ⟨_, pss_one (ps_ret (pe_fld (pv 0) rfl)), ?_⟩
    exact ⟨_, rfl, x, C, dx, _, .str (tx l), rfl, hA.x, Z.cl, Z.n1, rfl, q⟩
def spHforced (C : Addr) : Sp := fun vs H Q _ => ∃ x dx sb D l ys fo s, vs = [.ref x, .str (sg s)] ∧ HallAt C H x dx sb D l ys fo ∧ GoodW l ∧ s ∈ sds l ∧ ∀ H', Same H H' → Q (.str (tx (fo s))) H'
theorem ok_Hforced {fC fS : Addr} {dC dS : FuncData} {k : Nat} (B : BM mg) (Z : HC K mg C fi fb di db) (Y : HP K C fw ff dw df) (Cs : DF K mg "check_side" sChkSide ["walls", "side"] fC dC) (S : DF K mg "sides_of" sSides ["walls"] fS dS) : FnOk P w K mg base CX0 (k + 3) ff df ["self", "side"] (spHforced C) := by
  have GS := ok_chkSide (P := P) (w := w) (base := base) (k := k) B Cs.F S
  refine Y.Ff.ok scHforced (fun vs H Q E h => ?_) (fun cdv A outer st H vs Q E hr h => ?_)
  · obtain ⟨x, dx, sb, D, l, ys, fo, s, rfl, _⟩ := h
    rfl
  · obtain ⟨x, dx, sb, D, l, ys, fo, s, rfl, hA, g, hs, q⟩ := h
    refine ⟨_, pss_cons (ps_expr (pe_call GS hr rfl Cs.g Cs.F.kp Cs.b .nil pass0 (pa_cons (pe_fld (pv 0) rfl) (pa_cons (pv 1) pa_nil)))) (pss_one (ps_ret (pe_dget (hu_of hr) (pe_fld (pv 0) rfl) (pv 1) (fun _ _ => rfl)))), ?_⟩
    refine ⟨_, rfl, x, C, dx, _, .str (tx l), rfl, hA.x, Z.cl, Z.n1, rfl, _, rfl, l, s, rfl, g, hs, fun H1 s1 => ?_⟩
    have hA1 := hA.same s1
    exact ⟨_, rfl, x, C, dx, _, .ref D, rfl, hA1.x, Z.cl, Z.n3, rfl, _, rfl, D, _, rfl, foK_get hA1.D hs, q H1 s1⟩
/-! ### is_part, check_part: let by -/
def spIsPart (C : Addr) : Sp := fun vs H Q _ => ∃ x dx sb D l ys fo P, vs = [.ref x, .str (tx P)] ∧ HallAt C H x dx sb D l ys fo ∧ GoodW l ∧ Part l P ∧ ∀ H', Same H H' → Q (.bl true) H'
set_option maxHeartbeats 1000000 in
theorem ok_isPart {f : Addr} {fd : FuncData} {k : Nat} (Z : HC K mg C fi fb di db) (Y : HP K C fw ff dw df) (F : Fun K "is_part" "is_part" sIsPart f fd) : FnOk P w K mg base CX0 (k + 2) f fd ["hall", "part"] (spIsPart C) := by
  have GW : FnOk P w K mg base CX0 (k + 1) fw dw ["self"] (spHwalls C) := ok_Hwalls Z Y
  refine F.ok scIsPart (fun vs H Q E h => ?_) (fun cdv A outer st H vs Q E hr h => ?_)
  · obtain ⟨x, dx, sb, D, l, ys, fo, P, rfl, _⟩ := h
    rfl
  · obtain ⟨x, dx, sb, D, l, ys, fo, P, rfl, hA, g, hP, q⟩ := h
    have nd := scIsPart.nd
    have hl12 := g.hi
    refine ⟨_, pss_cons (ps_set (i := 2) nd rfl (.inl rfl) (pe_meth0 (pv 0) Z.cl Y.mw GW hr Y.bw .nil pass0))
      (pss_cons (ps_set (i := 3) nd rfl (.inl rfl) pe_str)
      (pss_cons (ps_for PassesOwn.never rfl (pi_str (pe_lower (pv 1))) (pg_name (i := 4) nd rfl (.inl rfl))
        (pss_cons (ps_if (PW.pt (pw_or (pt_cmpR op_notIn_sign (pv 4) (pv 2) (by rfl)) (pw_or1 (pt_cmpR op_le_str (pv 4) (pv 3) (nomark _))))) (pss_one (ps_ret pe_bl)) pss_nil)
        (pss_one (ps_set (i := 3) nd rfl (.inl rfl) (pv 4)))))
      (pss_one (ps_ret pe_bl)))), ?_⟩
    refine ⟨_, rfl, x, dx, _, rfl, hA.x, rfl, x, dx, sb, D, l, ys, fo, rfl, hA, ?_⟩
    have pa : ∀ c ∈ P, c < 128 := fun c hc => sds_asc g (hP.sd c hc)
    have pl := hP.len
    refine ⟨_, rfl, ⟨_, rfl⟩, _, rfl, rfl, by show P.toArray.size ≤ 5592405; rw [List.size_toArray]; omega, ?_⟩
    rw [lower_tx pa]
    refine ⟨_, rfl, ?_⟩
    have lz : (tx (P.map lwc)).cps.size = P.length := by rw [show (tx (P.map lwc)).cps.size = (P.map lwc).length from tx_len _, List.length_map]
    have wk := walk_str (z := tx (P.map lwc))
    rw [lz] at wk
    have pw := part_pw g hP
    have sub := hP.sub
    generalize hS : P.map lwc = S at *
    have sl : S.length = P.length := by rw [← hS, List.length_map]
    refine for_it wk (fun i σ H' => ∃ (a : List Nat) (y4 : Option V), σ = [some (.ref x), some (.str (tx P)), some (.str (tx l)), some (.str (tx a)), y4] ∧ Same H H' ∧ ∀ c, S[i]? = some c → a < [c]) ⟨[], _, by rw [str00]; rfl, L2.Same.refl _, fun c _ => by simp⟩ (fun _ _ _ _ _ => trivial) ?_ ?_
    · rintro i v σ H1 H2 hi ⟨a, y4, rfl, s1, ha⟩ ⟨rfl, c, hc, rfl⟩
      have hc : S[i]? = some c := by
        rw [← Array.getElem?_toList, tx_list] at hc
        exact hc
      have cl : c ∈ l := sub.subset (List.mem_of_getElem? hc)
      refine ⟨_, rfl, _, rfl, c, tx l, rfl, rfl, _, rfl, ?_⟩
      rw [tx_list, decide_eq_true cl]
      refine iteF ⟨_, rfl, _, rfl, _, _, rfl, rfl, _, rfl, ?_⟩
      rw [show (⟨#[c]⟩ : Str).cps.toList = [c] from rfl, tx_list, decide_eq_true (ha c hc)]
      refine iteF ⟨_, rfl, [c], _, rfl, s1, fun e he => ?_⟩
      rw [lt1]
      have hi1 := (List.getElem?_eq_some_iff.mp hc)
      have hi2 := (List.getElem?_eq_some_iff.mp he)
      have := List.pairwise_iff_getElem.mp pw i (i + 1) hi1.1 hi2.1 (by omega)
      rw [hi1.2, hi2.2] at this
      exact this
    · rintro σ H1 ⟨a, y4, rfl, s1, ha⟩
      exact q H1 s1
def spChkPart (C : Addr) : Sp := fun vs H Q _ => ∃ x dx sb D l ys fo P, vs = [.ref x, .str (tx P)] ∧ HallAt C H x dx sb D l ys fo ∧ GoodW l ∧ Part l P ∧ ∀ H', Same H H' → Q .non H'
theorem ok_chkPart {f fI : Addr} {fd dI : FuncData} {k : Nat} (Z : HC K mg C fi fb di db) (Y : HP K C fw ff dw df) (F : Fun K "check_part" "check_part" sChkPart f fd) (I : DF K mg "is_part" sIsPart ["hall", "part"] fI dI) : FnOk P w K mg base CX0 (k + 3) f fd ["hall", "part"] (spChkPart C) := by
  have GI : FnOk P w K mg base CX0 (k + 2) fI dI ["hall", "part"] (spIsPart C) := ok_isPart Z Y I.F
  refine F.ok scChkPart (fun vs H Q E h => ?_) (fun cdv A outer st H vs Q E hr h => ?_)
  · obtain ⟨x, dx, sb, D, l, ys, fo, P, rfl, _⟩ := h
    rfl
  · obtain ⟨x, dx, sb, D, l, ys, fo, P, rfl, hA, g, hP, q⟩ := h
    refine ⟨_, pss_one (ps_if (pt_not (pt_val (pe_call GI hr rfl I.g I.F.kp I.b .nil pass0 (pa_cons (pv 0) (pa_cons (pv 1) pa_nil))))) (pss_one ps_dead) pss_nil), ?_⟩
    exact ⟨_, rfl, _, rfl, x, dx, sb, D, l, ys, fo, P, rfl, hA, g, hP, fun H1 s1 => ⟨_, rfl, iteF (q H1 s1)⟩⟩
/-! ### all_forced_by, torn_walls -/
def spAllFB (C : Addr) : Sp := fun vs H Q _ => ∃ x dx sb D l ys fo P, vs = [.ref x, .str (tx P)] ∧ HallAt C H x dx sb D l ys fo ∧ GoodW l ∧ (∀ s ∈ sds l, (fo s).length ≤ 24) ∧ (∀ c ∈ P, c ∈ sds l) ∧ P.length ≤ 100 ∧ ∀ H', Same H H' → Q (.str (tx (allFo fo P))) H'
set_option maxHeartbeats 1000000 in
theorem ok_allFB {f fC fS : Addr} {fd dC dS : FuncData} {k : Nat} (B : BM mg) (Z : HC K mg C fi fb di db) (Y : HP K C fw ff dw df) (Cs : DF K mg "check_side" sChkSide ["walls", "side"] fC dC) (S : DF K mg "sides_of" sSides ["walls"] fS dS) (F : Fun K "all_forced_by" "all_forced_by" sAllFB f fd) : FnOk P w K mg base CX0 (k + 4) f fd ["hall", "part"] (spAllFB C) := by
  have GF : FnOk P w K mg base CX0 (k + 3) ff df ["self", "side"] (spHforced C) := ok_Hforced B Z Y Cs S
  refine F.ok scAllFB (fun vs H Q E h => ?_) (fun cdv A outer st H vs Q E hr h => ?_)
  · obtain ⟨x, dx, sb, D, l, ys, fo, P, rfl, _⟩ := h
    rfl
  · obtain ⟨x, dx, sb, D, l, ys, fo, P, rfl, hA, g, fl, hP, hn, q⟩ := h
    have nd := scAllFB.nd
    refine ⟨_, pss_one (ps_ret (pe_join pe_str (pe_lc (own := [("side", 2)]) (g := gName 2) (tt := tYes) (te := tMeth C "forced" (spHforced C) [] E0 (tVar 0) (tCons (tVar 2) tNil)) rfl nd (pi_str (pv 1)) (blkOk_by (N := ["hall", "part", "side"]) (sc := defScope sAllFB) (by decide +kernel)) (fun _ _ _ _ _ => pg_name (i := 2) nd rfl (Or.inl rfl)) (fun _ _ _ _ _ => pts_nil)
      (fun _ _ _ _ _ => pe_meth (pv 0) Z.cl Y.mf GF hr Y.bf .nil pass0 (pa_cons (pv 2) pa_nil))))), ?_⟩
    refine ⟨⟨_, rfl⟩, _, rfl, tx P, rfl, fun Da na => ?_⟩
    have lz : (tx P).cps.size = P.length := tx_len _
    have wk := walk_str (z := tx P)
    rw [lz] at wk
    refine lc_it wk (fun i H' => Same H H' ∧ H' Da = some (.lst ((((P.take i).map fo).map tx).map V.str))) ⟨same_upd na, upd_same⟩ (fun _ _ _ _ => trivial) ?_ ?_
    · rintro i v H1 H2 hi ⟨s1, e1⟩ ⟨rfl, c, hc, rfl⟩
      have hc : P[i]? = some c := by
        rw [← Array.getElem?_toList, tx_list] at hc
        exact hc
      have hA1 := hA.same s1
      refine ⟨rfl, yes_i ⟨_, rfl, x, dx, _, rfl, hA1.x, rfl, _, rfl, x, dx, sb, D, l, ys, fo, c, rfl, hA1, g, hP c (List.mem_of_getElem? hc), fun H3 s3 => ⟨_, s3 _ _ e1, ?_, sm_over (sm_trans s1 s3) na, ?_⟩⟩⟩
      · rw [List.length_map, List.length_map, List.length_map, List.length_take, sizeLine_eq]
        omega
      · rw [upd_same, List.take_add_one, hc, List.map_append, List.map_append, List.map_append]
        rfl
    · rintro H1 ⟨s1, e1⟩
      rw [List.take_length] at e1
      have ln := allFo_len fl hP
      have ef : (P.map fo).flatten = allFo fo P := by unfold allFo; rw [List.flatMap_def]
      refine ⟨_, _, (P.map fo).map tx, rfl, rfl, .inl (SqL.of e1), ?_, ?_⟩
      · rw [sum_txs, ef, show (Str.ofString "").length = 0 by decide +kernel]
        omega
      · rw [join_tx, ef]
        exact q _ s1
def spTorn (C : Addr) : Sp := fun vs H Q _ => ∃ x dx sb D l ys fo P, vs = [.ref x, .str (tx P)] ∧ HallAt C H x dx sb D l ys fo ∧ GoodW l ∧ (∀ s ∈ sds l, (fo s).length ≤ 24) ∧ (∀ c ∈ P, c ∈ sds l) ∧ P.length ≤ 100 ∧ ∀ H', Same H H' → Q (.str (tx (tornL l (allFo fo P)))) H'
set_option maxHeartbeats 1000000 in
theorem ok_torn {f fC fS fA fO : Addr} {fd dC dS dA dO : FuncData} {k : Nat} (B : BM mg) (Z : HC K mg C fi fb di db) (Y : HP K C fw ff dw df) (Cs : DF K mg "check_side" sChkSide ["walls", "side"] fC dC) (S : DF K mg "sides_of" sSides ["walls"] fS dS) (A : DF K mg "all_forced_by" sAllFB ["hall", "part"] fA dA) (O : DF K mg "other" sOther ["side"] fO dO) (F : Fun K "torn_walls" "torn_walls" sTorn f fd) :
    FnOk P w K mg base CX0 (k + 5) f fd ["hall", "part"] (spTorn C) := by
  have GA : FnOk P w K mg base CX0 (k + 4) fA dA ["hall", "part"] (spAllFB C) := ok_allFB B Z Y Cs S A.F
  have GW : FnOk P w K mg base CX0 (k + 1) fw dw ["self"] (spHwalls C) := ok_Hwalls Z Y
  have GO : FnOk P w K mg base CX0 (k + 1) fO dO ["side"] spOther := ok_other O.F
  refine F.ok scTorn (fun vs H Q E h => ?_) (fun cdv A0 outer st H vs Q E hr h => ?_)
  · obtain ⟨x, dx, sb, D, l, ys, fo, P, rfl, _⟩ := h
    rfl
  · obtain ⟨x, dx, sb, D, l, ys, fo, P, rfl, hA, g, fl, hP, hn, q⟩ := h
    have nd := scTorn.nd
    have r1 : Room (k + 1) _ := hr.mono (by omega)
    have hl12 := g.hi
    refine ⟨_, pss_cons (ps_set (i := 2) nd rfl (.inr rfl) (pe_call GA hr rfl A.g A.F.kp A.b .nil pass0 (pa_cons (pv 0) (pa_cons (pv 1) pa_nil))))
      (pss_one (ps_ret (pe_join pe_str (pe_lc (own := [("wall", 3)]) (g := gName 3) (tt := tAnd (tTest (tOp rSgn2 (tVar 3) (tVar 2))) (tTest (tOp rSgn2 (tCall spOther [] E0 (tCons (tVar 3) tNil)) (tVar 2)))) rfl nd (pi_str (pe_meth0 (pv 0) Z.cl Y.mw GW r1 Y.bw .nil pass0)) (blkOk_by (N := ["hall", "part", "sides", "wall"]) (sc := defScope sTorn) (by decide +kernel)) (fun _ _ _ _ _ => pg_name (i := 3) nd rfl (Or.inl rfl))
        (fun _ _ _ _ _ => pts_one (PW.pt (pw_and (pt_cmpR op_in_sign (pv 3) (pv 2) (by rfl)) (pw_and1 (pt_cmpR op_in_sign (pe_call GO r1 rfl O.g O.F.kp O.b .nil pass0 (pa_cons (pv 3) pa_nil)) (pv 2) (by rfl)))))) (fun _ _ _ _ _ => pv 3))))), ?_⟩
    refine ⟨_, rfl, _, rfl, x, dx, sb, D, l, ys, fo, P, rfl, hA, g, fl, hP, hn, fun H0 s0 => ?_⟩
    have hA0 := hA.same s0
    generalize allFo fo P = W at *
    refine ⟨⟨_, rfl⟩, _, rfl, x, dx, _, rfl, hA0.x, rfl, x, dx, sb, D, l, ys, fo, rfl, hA0, tx l, rfl, fun Da na => ?_⟩
    have lz : (tx l).cps.size = l.length := tx_len _
    have wk := walk_str (z := tx l)
    rw [lz] at wk
    refine lc_it wk (fun i H' => Same H0 H' ∧ H' Da = some (.lst (((tornL (l.take i) W).map sg).map V.str))) ⟨same_upd na, upd_same⟩ (fun _ _ _ _ => trivial) ?_ ?_
    · rintro i v H1 H2 hi ⟨s1, e1⟩ ⟨rfl, c, hc, rfl⟩
      have hc : l[i]? = some c := by
        rw [← Array.getElem?_toList, tx_list] at hc
        exact hc
      have ca : c < 128 := g.asc c (List.mem_of_getElem? hc)
      have et : tornL (l.take (i + 1)) W = tornL (l.take i) W ++ [c].filter fun c => decide (c ∈ W) && decide (swp c ∈ W) := by
        unfold tornL
        rw [List.take_add_one, hc, List.filter_append]
        rfl
      have tl : (tornL (l.take i) W).length ≤ 12 := Nat.le_trans (List.length_filter_le _ _) (by rw [List.length_take]; omega)
      have no : (decide (c ∈ W) && decide (swp c ∈ W)) = false → Same H0 H2 ∧ H2 Da = some (.lst (((tornL (l.take (i + 1)) W).map sg).map V.str)) := fun z => by
        refine ⟨s1, ?_⟩
        rw [e1, et, List.filter_cons, if_neg (by rw [z]; simp)]
        simp
      refine ⟨rfl, _, rfl, _, rfl, c, tx W, rfl, rfl, _, rfl, ?_⟩
      rw [tx_list]
      refine ite2 (fun t1 => ?_) (fun t1 => no (by rw [Bool.eq_false_iff.mpr t1]; rfl))
      refine ⟨_, rfl, c, rfl, ca, _, rfl, swp c, tx W, rfl, rfl, _, rfl, ?_⟩
      rw [tx_list]
      refine ite2 (fun t2 => ?_) (fun t2 => no (by rw [Bool.eq_false_iff.mpr t2]; simp))
      refine ⟨_, rfl, _, e1, by rw [List.length_map, List.length_map, sizeLine_eq]; omega, sm_over s1 na, ?_⟩
      rw [upd_same, et, List.filter_cons, if_pos (by rw [t1, t2]; rfl)]
      simp
      rfl
    · rintro H1 ⟨s1, e1⟩
      rw [List.take_length] at e1
      have tl : (tornL l W).length ≤ 12 := Nat.le_trans (List.length_filter_le _ _) hl12
      refine ⟨_, _, (tornL l W).map sg, rfl, rfl, .inl (SqL.of e1), ?_, ?_⟩
      · rw [sum_sgs, show (Str.ofString "").length = 0 by decide +kernel]
        omega
      · rw [join_sg]
        exact q _ (sm_trans s0 s1)
end
end NC
namespace NC
open PySem PySem.Spec PyProof.Rows L2
abbrev sWOver : Stmt := topS 36
abbrev sShut : Stmt := topS 35
theorem scShut : FnScope ["hall", "part", "torn"] ["hall", "part"] (defScope sShut) := ⟨rfl, rfl, rfl, by decide +kernel, rfl, by decide +kernel, by decide +kernel⟩
theorem scWOver : FnScope ["written", "room", "side"] ["written", "room"] (defScope sWOver) := ⟨rfl, rfl, rfl, by decide +kernel, rfl, by decide +kernel, by decide +kernel⟩
section
variable {P : Program} {w : World} {K : PySem.W.Frag} {mg : Str → Option Value} {base : Heap} {C fi fb fm fr fg fw ff : Addr} {di db dm dr dg dw df : FuncData}
/-! ### by_walls, the other part a text -/
def spByWT : Sp := fun vs H Q _ => ∃ l W, vs = [.str (tx l), .str (tx W)] ∧ GoodW l ∧ ∀ H', Same H H' → Q (.str (tx (byWT l W))) H'
set_option maxHeartbeats 1000000 in
theorem ok_byWT {f fO : Addr} {fd fdO : FuncData} {k : Nat} (F : Fun K "by_walls" "by_walls" sByWalls f fd) (O : DF K mg "other" sOther ["side"] fO fdO) : FnOk P w K mg base CX0 (k + 2) f fd ["walls", "sides"] spByWT := by
  have GO : FnOk P w K mg base CX0 (k + 1) fO fdO ["side"] spOther := ok_other O.F
  refine F.ok scByWalls (fun vs H Q E h => ?_) (fun cdv A outer s H vs Q E hr h => ?_)
  · obtain ⟨l, W, rfl, _⟩ := h
    rfl
  · obtain ⟨l, W, rfl, g, q⟩ := h
    refine ⟨_, pss_one (ps_ret (pe_join pe_str (pe_lc2 (wi1 := iTup K (tTup (tCons (tCall spOther [] E0 (tCons (tVar 2) tNil)) (tCons (tVar 2) tNil)))) (own := [("wall", 2), ("side", 3)]) (vs1 := [3]) (g := gName 2) (g1 := gName 3) (tt := tYes) rfl scByWalls.nd (pi_str (pv 0))
      (blkOk_by (N := ["walls", "sides", "wall", "side"]) (sc := defScope sByWalls) (by decide +kernel)) (by decide)
      (fun _ _ _ _ _ => pg_name (i := 2) scByWalls.nd rfl (Or.inl rfl)) (fun _ _ _ _ _ => pts_nil)
      (fun _ _ _ _ _ => pi_tup (pe_tup (pa_cons (pe_call GO hr rfl O.g O.F.kp O.b .nil pass0 (pa_cons (pv 2) pa_nil)) (pa_cons (pv 2) pa_nil))))
      (fun _ _ _ _ _ => pg_name (i := 3) scByWalls.nd rfl (Or.inl rfl))
      (fun _ _ _ _ _ => pts_one (pt_cmpR op_in_sign (pv 3) (pv 1) (by rfl))) (fun _ _ _ _ _ => pv 3)))), ?_⟩
    refine ⟨⟨_, rfl⟩, _, rfl, tx l, rfl, fun D hD => ?_⟩
    refine out_it walk_str (fun i H' => Same H H' ∧ H' D = some (.lst (((byWT (l.take i) W).map sg).map V.str))) ⟨same_upd hD, upd_same⟩ (fun _ _ _ _ => trivial) ?_ ?_
    · rintro i x H1 H2 hi ⟨sm, eD⟩ ⟨rfl, c, hc, rfl⟩
      have hcl : l[i]? = some c := by
        rw [← Array.getElem?_toList, tx_list] at hc
        exact hc
      have hca : c < 128 := g.asc c (List.mem_of_getElem? hcl)
      refine ⟨rfl, yes_i ⟨_, rfl, c, rfl, hca, _, rfl, by show 2 ≤ sizeLine; decide, fun T hT => ⟨T, rfl, ⟨_, SqT.of upd_same⟩, ?_⟩⟩⟩
      have nDT : D ≠ T := ne_of_none eD hT
      refine in_it (walk_tup (K := K) (a := T) (xs := [swp c, c].map fun e => V.str (sg e))) (fun j H' => Same H H' ∧ SqT K H' T ([swp c, c].map fun e => V.str (sg e)) ∧ H' D = some (.lst (((byWT (l.take i) W ++ ([swp c, c].take j).filter fun e => decide (e ∈ W)).map sg).map V.str)))
        ⟨sm_upd sm hT, SqT.of upd_same, by rw [upd_ne nDT, eD]; simp⟩ (fun j H' _ h => h.2.1) ?_ ?_
      · rintro j x H3 H4 hj ⟨sm2, hT2, eD2⟩ ⟨rfl, hx⟩
        rw [List.getElem?_map] at hx
        obtain ⟨e, he, rfl⟩ := Option.map_eq_some_iff.mp hx
        have hlen : (byWT (l.take i) W ++ ([swp c, c].take j).filter fun e => decide (e ∈ W)).length ≤ 2 * 12 + 2 := by
          rw [List.length_append]
          have h1 := byWT_len (l.take i) W
          have h2 : (([swp c, c].take j).filter fun e => decide (e ∈ W)).length ≤ 2 := Nat.le_trans (List.length_filter_le _ _) (by rw [List.length_take]; exact Nat.min_le_right _ _)
          have h3 : (l.take i).length ≤ 12 := Nat.le_trans (by rw [List.length_take]; exact Nat.min_le_right _ _) g.hi
          omega
        refine ⟨rfl, _, rfl, _, rfl, e, tx W, rfl, rfl, _, rfl, ?_⟩
        rw [tx_list]
        refine ite2 (fun ht => ⟨_, rfl, _, eD2, ?_, sm_over sm2 hD, ?_, ?_⟩) (fun ht => ⟨sm2, hT2, ?_⟩)
        · rw [List.length_map, List.length_map, sizeLine_eq]
          omega
        · rcases hT2 with (z | ⟨o, z⟩) | z
          · exact .inl (.inl (by rw [upd_ne (Ne.symm nDT)]; exact z))
          · exact .inl (.inr ⟨o, by rw [upd_ne (Ne.symm nDT)]; exact z⟩)
          · exact .inr z
        · have e1 : e ∈ W := of_decide_eq_true ht
          rw [upd_same, List.take_add_one, he, List.filter_append]
          simp [e1, sg_tx]
        · have e1 : e ∉ W := fun z => ht (decide_eq_true z)
          rw [eD2, List.take_add_one, he, List.filter_append]
          simp [e1]
      · rintro H3 ⟨sm2, _, eD2⟩
        refine ⟨sm2, ?_⟩
        rw [eD2, byWT_snoc l i c W hcl]
        rfl
    · rintro H3 ⟨sm2, eD2⟩
      have e1 : (l.take (tx l).cps.size) = l := by
        rw [show (tx l).cps.size = l.length from tx_len l]
        exact List.take_length
      rw [e1] at eD2
      refine ⟨_, _, (byWT l W).map sg, rfl, rfl, .inl (SqL.of eD2), ?_, ?_⟩
      · have h1 := byWT_len l W
        have h2 := g.hi
        rw [sum_sgs, show (Str.ofString "").length = 0 by decide +kernel]
        omega
      · rw [join_sg]
        exact q _ sm2
/-- what the functions of parts ask for in the text -/
structure PT (K : PySem.W.Frag) (mg : Str → Option Value) (C fw ff : Addr) (dw df : FuncData) (fIsP fChP fAFB fTo : Addr) (dIsP dChP dAFB dTo : FuncData) : Prop where
  Y : HP K C fw ff dw df
  isP : DF K mg "is_part" sIsPart ["hall", "part"] fIsP dIsP
  chP : DF K mg "check_part" sChkPart ["hall", "part"] fChP dChP
  afb : DF K mg "all_forced_by" sAllFB ["hall", "part"] fAFB dAFB
  to : DF K mg "torn_walls" sTorn ["hall", "part"] fTo dTo
/-! ### shut, let by -/
def spShut (C : Addr) : Sp := fun vs H Q _ => ∃ x dx sb D l ys fo bs P z, vs = [.ref x, .str (tx P)] ∧ HallF C H x dx sb D l ys fo bs ∧ Part l P ∧ z ∈ rms l bs ∧ (∀ s ∈ P, s ∈ z) ∧ ∀ H', Same H H' → Q (.str (tx (byWT l (allFo fo P)))) H'
set_option maxHeartbeats 1000000 in
theorem ok_shut {f fC fS fO fBy fIsP fChP fAFB fTo : Addr} {fd dC dS dO dBy dIsP dChP dAFB dTo : FuncData} {k : Nat} (B : BM mg) (Z : HC K mg C fi fb di db) (T : PT K mg C fw ff dw df fIsP fChP fAFB fTo dIsP dChP dAFB dTo) (Cs : DF K mg "check_side" sChkSide ["walls", "side"] fC dC) (S : DF K mg "sides_of" sSides ["walls"] fS dS) (O : DF K mg "other" sOther ["side"] fO dO) (By : DF K mg "by_walls" sByWalls ["walls", "sides"] fBy dBy) (F : Fun K "shut" "shut" sShut f fd) :
    FnOk P w K mg base CX0 (k + 6) f fd ["hall", "part"] (spShut C) := by
  have GA : FnOk P w K mg base CX0 (k + 4) fAFB dAFB ["hall", "part"] (spAllFB C) := ok_allFB B Z T.Y Cs S T.afb.F
  have GW : FnOk P w K mg base CX0 (k + 1) fw dw ["self"] (spHwalls C) := ok_Hwalls Z T.Y
  have GT : FnOk P w K mg base CX0 (k + 5) fTo dTo ["hall", "part"] (spTorn C) := ok_torn B Z T.Y Cs S T.afb O T.to.F
  have GC : FnOk P w K mg base CX0 (k + 3) fChP dChP ["hall", "part"] (spChkPart C) := ok_chkPart Z T.Y T.chP.F T.isP
  have GB : FnOk P w K mg base CX0 (k + 2) fBy dBy ["walls", "sides"] spByWT := ok_byWT By.F O
  refine F.ok scShut (fun vs H Q E h => ?_) (fun cdv A0 outer st H vs Q E hr h => ?_)
  · obtain ⟨x, dx, sb, D, l, ys, fo, bs, P, z, rfl, _⟩ := h
    rfl
  · obtain ⟨x, dx, sb, D, l, ys, fo, bs, P, z, rfl, hF, hP, hz, hin, q⟩ := h
    have nd := scShut.nd
    have g := hF.G.g
    have hl12 := g.hi
    have pl := hP.len
    have r1 : Room (k + 1) _ := hr.mono (by omega)
    have r2 : Room (k + 2) _ := hr.mono (by omega)
    have r3 : Room (k + 3) _ := hr.mono (by omega)
    have r4 : Room (k + 4) _ := hr.mono (by omega)
    refine ⟨_, pss_cons (ps_expr (pe_call GC r3 rfl T.chP.g T.chP.F.kp T.chP.b .nil pass0 (pa_cons (pv 0) (pa_cons (pv 1) pa_nil))))
      (pss_cons (ps_set (i := 2) nd rfl (.inl rfl) (pe_call GT hr rfl T.to.g T.to.F.kp T.to.b .nil pass0 (pa_cons (pv 0) (pa_cons (pv 1) pa_nil))))
      (pss_cons (ps_if (pt_cmpR op_ne (pv 2) pe_str (nomark _)) (pss_one ps_dead) pss_nil)
      (pss_one (ps_ret (pe_call GB r2 rfl By.g By.F.kp By.b .nil pass0 (pa_cons (pe_meth0 (pv 0) Z.cl T.Y.mw GW r1 T.Y.bw .nil pass0) (pa_cons (pe_call GA r4 rfl T.afb.g T.afb.F.kp T.afb.b .nil pass0 (pa_cons (pv 0) (pa_cons (pv 1) pa_nil))) pa_nil))))))), ?_⟩
    refine ⟨_, rfl, _, rfl, x, dx, sb, D, l, ys, fo, P, rfl, hF.G.hA, g, hP, fun H1 s1 => ?_⟩
    have hF1 := hF.same s1
    refine ⟨_, rfl, _, rfl, x, dx, sb, D, l, ys, fo, P, rfl, hF1.G.hA, g, hF.fl, hP.sd, by omega, fun H2 s2 => ?_⟩
    have hF2 := hF1.same s2
    rw [torn_no g hF.G.bar hF.hf hP.sd hz hin]
    refine ⟨_, rfl, rfl, _, rfl, ?_⟩
    rw [str00, show (!decide (V.str (tx []) = V.str (tx []))) = false by simp]
    refine iteF ⟨_, rfl, x, dx, _, rfl, hF2.G.hA.x, rfl, x, dx, sb, D, l, ys, fo, rfl, hF2.G.hA, _, rfl, _, rfl, x, dx, sb, D, l, ys, fo, P, rfl, hF2.G.hA, g, hF.fl, hP.sd, by omega, fun H3 s3 => ?_⟩
    exact ⟨l, _, rfl, g, fun H4 s4 => q H4 (sm_trans (sm_trans s1 s2) (sm_trans s3 s4))⟩
/-! ### written_over -/
def spWOver : Sp := fun vs H Q _ => ∃ W r, vs = [.str (tx W), .str (tx r)] ∧ (∀ c ∈ r, c < 128) ∧ r.length ≤ 100 ∧ ∀ H', Same H H' → Q (.str (tx (wov W r))) H'
set_option maxHeartbeats 1000000 in
theorem ok_wover {f fO : Addr} {fd dO : FuncData} {k : Nat} (O : DF K mg "other" sOther ["side"] fO dO) (F : Fun K "written_over" "written_over" sWOver f fd) : FnOk P w K mg base CX0 (k + 2) f fd ["written", "room"] spWOver := by
  have GO : FnOk P w K mg base CX0 (k + 1) fO dO ["side"] spOther := ok_other O.F
  refine F.ok scWOver (fun vs H Q E h => ?_) (fun cdv A0 outer st H vs Q E hr h => ?_)
  · obtain ⟨W, r, rfl, _⟩ := h
    rfl
  · obtain ⟨W, r, rfl, ra, rl, q⟩ := h
    have nd := scWOver.nd
    refine ⟨_, pss_one (ps_ret (pe_join pe_str (pe_lc (own := [("side", 2)]) (g := gName 2) (tt := tYes) (te := tIf (tTest (tOp rSgn2 (tCall spOther [] E0 (tCons (tVar 2) tNil)) (tVar 0))) (tCall spOther [] E0 (tCons (tVar 2) tNil)) (tVar 2)) rfl nd (pi_str (pv 1)) (blkOk_by (N := ["written", "room", "side"]) (sc := defScope sWOver) (by decide +kernel)) (fun _ _ _ _ _ => pg_name (i := 2) nd rfl (Or.inl rfl)) (fun _ _ _ _ _ => pts_nil)
      (fun _ _ _ _ _ => pe_ifExp (pt_cmpR op_in_sign (pe_call GO hr rfl O.g O.F.kp O.b .nil pass0 (pa_cons (pv 2) pa_nil)) (pv 0) (by rfl)) (pe_call GO hr rfl O.g O.F.kp O.b .nil pass0 (pa_cons (pv 2) pa_nil)) (pv 2))))), ?_⟩
    refine ⟨⟨_, rfl⟩, _, rfl, tx r, rfl, fun Da na => ?_⟩
    have lz : (tx r).cps.size = r.length := tx_len _
    have wk := walk_str (z := tx r)
    rw [lz] at wk
    refine lc_it wk (fun i H' => Same H H' ∧ H' Da = some (.lst (((wov W (r.take i)).map sg).map V.str))) ⟨same_upd na, upd_same⟩ (fun _ _ _ _ => trivial) ?_ ?_
    · rintro i v H1 H2 hi ⟨s1, e1⟩ ⟨rfl, c, hc, rfl⟩
      have hc : r[i]? = some c := by
        rw [← Array.getElem?_toList, tx_list] at hc
        exact hc
      have ca : c < 128 := ra c (List.mem_of_getElem? hc)
      have ew : wov W (r.take (i + 1)) = wov W (r.take i) ++ [if swp c ∈ W then swp c else c] := by
        unfold wov
        rw [List.take_add_one, hc, List.map_append]
        rfl
      have wl : (wov W (r.take i)).length ≤ 100 := by unfold wov; rw [List.length_map, List.length_take]; omega
      have bd : (((wov W (r.take i)).map sg).map V.str).length < sizeLine := by rw [List.length_map, List.length_map, sizeLine_eq]; omega
      refine ⟨rfl, yes_i ⟨_, rfl, c, rfl, ca, _, rfl, swp c, tx W, rfl, rfl, _, rfl, ?_⟩⟩
      rw [tx_list]
      refine ite2 (fun t => ⟨_, rfl, c, rfl, ca, _, e1, bd, sm_over s1 na, ?_⟩) (fun t => ⟨_, rfl, _, e1, bd, sm_over s1 na, ?_⟩)
      · rw [upd_same, ew, if_pos (of_decide_eq_true t)]
        simp
      · rw [upd_same, ew, if_neg fun z => t (decide_eq_true z)]
        simp
        rfl
    · rintro H1 ⟨s1, e1⟩
      rw [List.take_length] at e1
      have wl : (wov W r).length ≤ 100 := by unfold wov; rw [List.length_map]; omega
      refine ⟨_, _, (wov W r).map sg, rfl, rfl, .inl (SqL.of e1), ?_, ?_⟩
      · rw [sum_sgs, show (Str.ofString "").length = 0 by decide +kernel]
        omega
      · rw [join_sg]
        exact q _ s1
end
end NC
namespace NC
open PySem PySem.Spec PyProof.Rows L2
abbrev sLSides : Stmt := topS 69
abbrev sLPart : Stmt := topS 70
abbrev nLSides : List Str := ["_law_d", "_law_shuts_here", "_law_odds", "_law_found", "_law_shut_here", "_law_how"]
abbrev nLPart : List Str := ["_law_d", "_law_shuts_here", "_law_rooms_here", "_law_part_here", "_law_room", "_law_side"]
theorem scLSides : FnScope nLSides ["_law_d", "_law_shuts_here"] (defScope sLSides) := ⟨rfl, rfl, rfl, by decide +kernel, rfl, by decide +kernel, by decide +kernel⟩
theorem scLPart : FnScope nLPart ["_law_d", "_law_shuts_here", "_law_rooms_here"] (defScope sLPart) := ⟨rfl, rfl, rfl, by decide +kernel, rfl, by decide +kernel, by decide +kernel⟩
theorem Dr.ne {H : Hp} {d p : Addr} (D : Dr H d) (n : H p = none) : p ≠ d := by
  obtain ⟨c0, r0, hd⟩ := D.head
  exact Ne.symm (ne_of_none hd n)
theorem lwc_small {c : Nat} (h : 97 ≤ c ∧ c ≤ 122) : lwc c = c := by unfold lwc; rw [if_neg (by omega)]
theorem lwc_up {c : Nat} (h : 97 ≤ c ∧ c ≤ 122) : lwc (upc c) = c := by rw [upc_small h]; unfold lwc; rw [if_pos (by omega)]; omega
theorem filter_part {l q S : List Nat} (g : GoodW l) {bs : List (List Nat)} (hb : ∀ b ∈ bs, isBar l b = true) (hq : q ∈ rms l bs) : Part l (q.filter fun c => decide (c ∈ S)) := by
  have h1 : q.map lwc = l := (room_low g q).mp (by unfold rms at hq; exact (List.mem_filter.mp hq).1)
  refine ⟨?_, fun c hc => ?_⟩
  · have := (List.filter_sublist (p := fun c => decide (c ∈ S)) (l := q)).map lwc
    rw [h1] at this
    exact this
  · obtain ⟨p, rfl, _⟩ := (rms_mem g hb q).mp hq
    exact rm_asc g (List.mem_filter.mp hc).1
section
variable {P : Program} {w : World} {K : PySem.W.Frag} {mg : Str → Option Value} {base : Heap}
/-! ### _law_sides -/
def spLSides : Sp := fun vs H Q _ => ∃ d l, vs = [.ref d, .str (tx l)] ∧ Dr H d ∧ GoodW l ∧ ∀ H' P, SmD d H H' → Dr H' d → Part l P → Q (.str (tx P)) H'
set_option maxHeartbeats 1000000 in
theorem ok_lsides {f fD fO : Addr} {fd dD dO : FuncData} {k : Nat} (B : BM mg) (F : Fun K "_law_sides" "_law_sides" sLSides f fd) (D : DF K mg "_law_draw" sDraw ["_law_d", "_law_many_it"] fD dD) (Of : DF K mg "_law_of" sOf ["_law_d", "_law_some"] fO dO) :
    FnOk P w K mg base CX0 (k + 3) f fd ["_law_d", "_law_shuts_here"] spLSides := by
  have GD : FnOk P w K mg base CX0 (k + 1) fD dD ["_law_d", "_law_many_it"] spDraw := ok_draw B D.F
  have GO : FnOk P w K mg base CX0 (k + 2) fO dO ["_law_d", "_law_some"] (spOf K) := ok_of B Of.F D
  refine F.ok scLSides (fun vs H Q E h => ?_) (fun cdv A outer st H vs Q E hr h => ?_)
  · obtain ⟨d, l, rfl, _⟩ := h
    rfl
  · obtain ⟨d, l, rfl, hD, g, q⟩ := h
    have nd := scLSides.nd
    have hl12 := g.hi
    have r1 : Room (k + 1) _ := hr.mono (by omega)
    refine ⟨_, pss_cons (ps_set (i := 2) nd rfl (.inl rfl) (pe_call GO hr rfl Of.g Of.F.kp Of.b .nil pass0 (pa_cons (pv 0) (pa_cons (pe_lst (pa_cons pe_int (pa_cons pe_int (pa_cons pe_int (pa_cons pe_int pa_nil))))) pa_nil))))
      (pss_cons (ps_set (i := 3) nd rfl (.inl rfl) pe_str)
      (pss_cons (ps_for PassesOwn.never rfl (pi_str (pv 1)) (pg_name (i := 4) nd rfl (.inl rfl))
        (pss_cons (ps_set (i := 5) nd rfl (.inl rfl) (pe_call GD r1 rfl D.g D.F.kp D.b .nil pass0 (pa_cons (pv 0) (pa_cons (pe_op op_mul pe_int (pv 2)) pa_nil))))
        (pss_one (ps_if (pt_cmpR op_lt (pv 5) pe_int (nomark _)) (pss_one (ps_set (i := 3) nd rfl (.inl rfl) (pe_op op_add_str (pv 3) (pe_ix ix_list (pe_lst (pa_cons (pv 4) (pa_cons (pe_upper (pv 4)) pa_nil))) (pv 5) (fun _ _ => rfl))))) pss_nil))))
      (pss_one (ps_ret (pv 3))))), ?_⟩
    refine ⟨_, rfl, by show 4 ≤ sizeLine; decide, fun p0 np0 => ?_⟩
    refine ⟨d, _, rfl, hD.same (same_upd np0), .inl ⟨p0, _, rfl, hD.ne np0, SqL.of upd_same, by show 1 ≤ 4; decide, by show 4 ≤ 1000; decide, fun H1 v j s1 D1 hv => ?_⟩⟩
    obtain ⟨od, rfl, od1, od2⟩ : ∃ od : Int, v = .int od ∧ 2 ≤ od ∧ od ≤ 6 := by
      match j, hv with
      | 0, hv => cases hv; exact ⟨_, rfl, by decide, by decide⟩
      | 1, hv => cases hv; exact ⟨_, rfl, by decide, by decide⟩
      | 2, hv => cases hv; exact ⟨_, rfl, by decide, by decide⟩
      | 3, hv => cases hv; exact ⟨_, rfl, by decide, by decide⟩
    have s01 : SmD d H H1 := (SmD.of (same_upd np0)).trans s1
    refine ⟨_, rfl, tx l, rfl, ?_⟩
    have lz : (tx l).cps.size = l.length := tx_len _
    have wk := walk_str (z := tx l)
    rw [lz] at wk
    refine for_it wk (fun i σ H' => ∃ (S : List Nat) (y4 y5 : Option V), σ = [some (.ref d), some (.str (tx l)), some (.int od), some (.str (tx S)), y4, y5] ∧ SmD d H H' ∧ Dr H' d ∧ (S.map lwc).Sublist (l.take i) ∧ ∀ c ∈ S, c ∈ sds l)
      ⟨[], _, _, by rw [← str0]; rfl, s01, D1, by simp, by simp⟩ (fun _ _ _ _ _ => trivial) ?_ ?_
    · rintro i v σ H2 H3 hi ⟨S, y4, y5, rfl, s2, D2, sub, hsd⟩ ⟨rfl, c, hc, rfl⟩
      have hc : l[i]? = some c := by
        rw [← Array.getElem?_toList, tx_list] at hc
        exact hc
      have cm := List.mem_of_getElem? hc
      have cs := g.sm c cm
      have tk : l.take (i + 1) = l.take i ++ [c] := by rw [List.take_add_one, hc]; rfl
      have sl : S.length ≤ 12 := by
        have := sub.length_le
        rw [List.length_map, List.length_take] at this
        omega
      refine ⟨_, rfl, _, rfl, _, _, rfl, rfl, .inl ⟨by omega, by omega⟩, d, _, rfl, D2, by omega, by omega, fun H4 how s4 D4 h0 h1 => ?_⟩
      have s24 := s2.trans s4
      refine ⟨_, rfl, _, _, rfl, rfl, _, rfl, ite2 (fun t => ?_) (fun t => ⟨S, _, _, rfl, s24, D4, by rw [tk]; exact sub.trans (List.sublist_append_left ..), hsd⟩)⟩
      have hw : how < 2 := of_decide_eq_true t
      have uc : Txt.upper (⟨#[c]⟩ : Str) = sg (upc c) := upper_tx (l := [c]) (fun e he => by rw [List.mem_singleton.mp he]; exact g.asc c cm)
      refine ⟨_, rfl, _, rfl, _, rfl, ⟨_, rfl⟩, _, rfl, rfl, by show 1 ≤ 5592405; decide, ?_⟩
      rw [uc]
      refine ⟨by show 2 ≤ sizeLine; decide, fun T nT => ?_⟩
      obtain ⟨e, he, hat⟩ : ∃ e, (e = c ∨ e = upc c) ∧ atI [V.str ⟨#[c]⟩, V.str (sg (upc c))] how = some (.str (sg e)) := by
        have hv : how = 0 ∨ how = 1 := by omega
        rcases hv with z | z
        · exact ⟨c, .inl rfl, by rw [z]; rfl⟩
        · exact ⟨upc c, .inr rfl, by rw [z]; rfl⟩
      refine ⟨_, rfl, T, _, how, .str (sg e), rfl, rfl, SqL.of upd_same, hat, _, _, rfl, rfl, by rw [tx_len, sizeLine_eq]; show _ + 1 ≤ _; omega, S ++ [e], _, _, by rw [sg_tx, tx_app]; rfl, s24.trans (SmD.of (same_upd nT)), D4.same (same_upd nT), ?_, fun b hb => ?_⟩
      · rw [List.map_append, tk]
        refine sub.append ?_
        show [lwc e].Sublist [c]
        rcases he with z | z
        · rw [z, lwc_small cs]; exact List.Sublist.refl _
        · rw [z, lwc_up cs]; exact List.Sublist.refl _
      · rcases List.mem_append.mp hb with z | z
        · exact hsd b z
        · rw [List.mem_singleton.mp z]
          rcases he with y | y
          · rw [y]; exact sds_of_small cm
          · rw [y, upc_small cs]; exact sds_of_great g cm
    · rintro σ H2 ⟨S, y4, y5, rfl, s2, D2, sub, hsd⟩
      rw [List.take_length] at sub
      exact ⟨_, rfl, q H2 S s2 D2 ⟨sub, hsd⟩⟩
/-! ### _law_part -/
def spLPart : Sp := fun vs H Q _ => ∃ d l bs rA, vs = [.ref d, .str (tx l), .ref rA] ∧ Dr H d ∧ GoodW l ∧ (∀ b ∈ bs, isBar l b = true) ∧ rA ≠ d ∧ H rA = some (.lst (((rms l bs).map tx).map V.str)) ∧ rms l bs ≠ [] ∧ (rms l bs).length ≤ 1000 ∧
  ∀ H' P z, SmD d H H' → Dr H' d → Part l P → z ∈ rms l bs → (∀ s ∈ P, s ∈ z) → Q (.str (tx P)) H'
set_option maxHeartbeats 1000000 in
theorem ok_lpart {f fD fO fS fW : Addr} {fd dD dO dS dW : FuncData} {k : Nat} (B : BM mg) (hany : mg "any" = none) (F : Fun K "_law_part" "_law_part" sLPart f fd) (D : DF K mg "_law_draw" sDraw ["_law_d", "_law_many_it"] fD dD) (Of : DF K mg "_law_of" sOf ["_law_d", "_law_some"] fO dO) (Sd : DF K mg "_law_sides" sLSides ["_law_d", "_law_shuts_here"] fS dS) (W : DF K mg "_law_within" sWithin ["_law_sides_here", "_law_room"] fW dW) :
    FnOk P w K mg base CX0 (k + 4) f fd ["_law_d", "_law_shuts_here", "_law_rooms_here"] spLPart := by
  have GS : FnOk P w K mg base CX0 (k + 3) fS dS ["_law_d", "_law_shuts_here"] spLSides := ok_lsides B Sd.F D Of
  have GO : FnOk P w K mg base CX0 (k + 2) fO dO ["_law_d", "_law_some"] (spOf K) := ok_of B Of.F D
  have GW : FnOk P w K mg base CX0 (k + 1) fW dW ["_law_sides_here", "_law_room"] spWithin := ok_within B W.F
  refine F.ok scLPart (fun vs H Q E h => ?_) (fun cdv A outer st H vs Q E hr h => ?_)
  · obtain ⟨d, l, bs, rA, rfl, _⟩ := h
    rfl
  · obtain ⟨d, l, bs, rA, rfl, hD, g, hb, nrd, er, rne, rlen, q⟩ := h
    have nd := scLPart.nd
    have hl12 := g.hi
    have r1 : Room (k + 1) _ := hr.mono (by omega)
    have r2 : Room (k + 2) _ := hr.mono (by omega)
    refine ⟨_, pss_cons (ps_set (i := 3) nd rfl (.inr rfl) (pe_call GS hr rfl Sd.g Sd.F.kp Sd.b .nil pass0 (pa_cons (pv 0) (pa_cons (pv 1) pa_nil))))
      (pss_cons (ps_if (pt_val (pe_callB (cr_any rfl) (by rfl) hany (by decide +kernel) (pa_cons (pe_lc (own := [("_law_room", 4)]) (g := gName 4) (tt := tYes) (te := tCall spWithin [] E0 (tCons (tVar 3) (tCons (tVar 4) tNil))) rfl nd (pi_list (pv 2)) (blkOk_by (N := nLPart) (sc := defScope sLPart) (by decide +kernel)) (fun _ _ _ _ _ => pg_name (i := 4) nd rfl (Or.inl rfl)) (fun _ _ _ _ _ => pts_nil)
          (fun _ _ _ _ _ => pe_call GW r1 rfl W.g W.F.kp W.b .nil pass0 (pa_cons (pv 3) (pa_cons (pv 4) pa_nil)))) pa_nil))) (pss_one (ps_ret (pv 3))) pss_nil)
      (pss_cons (ps_set (i := 4) nd rfl (.inl rfl) (pe_call GO r2 rfl Of.g Of.F.kp Of.b .nil pass0 (pa_cons (pv 0) (pa_cons (pv 2) pa_nil))))
      (pss_one (ps_ret (pe_join pe_str (pe_lc (own := [("_law_side", 5)]) (g := gName 5) (tt := tTest (tOp rSgn2 (tVar 5) (tVar 3))) rfl nd (pi_str (pv 4)) (blkOk_by (N := nLPart) (sc := defScope sLPart) (by decide +kernel)) (fun _ _ _ _ _ => pg_name (i := 5) nd rfl (Or.inl rfl))
        (fun _ _ _ _ _ => pts_one (pt_cmpR op_in_sign (pv 5) (pv 3) (by rfl))) (fun _ _ _ _ _ => pv 5))))))), ?_⟩
    refine ⟨_, rfl, _, rfl, d, l, rfl, hD, g, fun H1 S s1 D1 pS => ?_⟩
    have er1 := s1.1 _ _ nrd er
    have sl := pS.len
    have wk := walk_list (K := K) (a := rA) (xs := ((rms l bs).map tx).map V.str)
    rw [List.length_map, List.length_map] at wk
    refine ⟨_, rfl, rA, rfl, ⟨_, SqL.of er1⟩, fun Da na => ?_⟩
    refine lc_it wk (fun i H' => Same H1 H' ∧ H' Da = some (.lst ((((rms l bs).take i).map fun r => inR S r).map V.bl))) ⟨same_upd na, upd_same⟩ (fun i H' _ h => SqL.of (h.1 _ _ er1)) ?_ ?_
    · rintro i v H2 H3 hi ⟨s2, e2⟩ ⟨rfl, hx⟩
      rw [List.getElem?_map, List.getElem?_map] at hx
      obtain ⟨z, hz, rfl⟩ := Option.map_eq_some_iff.mp hx
      obtain ⟨r, hr2, rfl⟩ := Option.map_eq_some_iff.mp hz
      refine ⟨rfl, yes_i ⟨_, rfl, _, rfl, S, r, rfl, by omega, fun H4 s4 => ⟨_, s4 _ _ e2, ?_, sm_over (sm_trans s2 s4) na, ?_⟩⟩⟩
      · rw [List.length_map, List.length_map, List.length_take, sizeLine_eq]
        omega
      · rw [upd_same, List.take_add_one, hr2, List.map_append, List.map_append]
        rfl
    rintro H2 ⟨s2, e2⟩
    rw [List.take_length] at e2
    have D2 := D1.same s2
    have s12 := s1.trans (SmD.of s2)
    refine ⟨Da, _, rfl, SqL.of e2, _, rfl, ite2 (fun t => ?_) (fun t => ?_)⟩
    · obtain ⟨z, hz, hin⟩ : ∃ z ∈ rms l bs, inR S z = true := by
        rw [List.any_map, List.any_eq_true] at t
        exact t
      exact ⟨_, rfl, q H2 S z s12 D2 pS hz (inR_iff.mp hin)⟩
    · have ll : (((rms l bs).map tx).map V.str).length = (rms l bs).length := by rw [List.length_map, List.length_map]
      refine ⟨_, rfl, _, rfl, d, _, rfl, D2, .inl ⟨rA, _, rfl, nrd, SqL.of (s2 _ _ er1), by rw [ll]; exact List.length_pos_iff.mpr rne, by rw [ll]; exact rlen, fun H3 v j s3 D3 hv => ?_⟩⟩
      rw [List.getElem?_map, List.getElem?_map] at hv
      obtain ⟨z, hz1, rfl⟩ := Option.map_eq_some_iff.mp hv
      obtain ⟨r, hr1, rfl⟩ := Option.map_eq_some_iff.mp hz1
      have hm := List.mem_of_getElem? hr1
      have rl := (rms_lets g r hm).1
      refine ⟨⟨_, rfl⟩, _, rfl, tx r, rfl, fun Db nb => ?_⟩
      have lz : (tx r).cps.size = r.length := tx_len _
      have wk2 := walk_str (z := tx r)
      rw [lz] at wk2
      refine lc_it wk2 (fun i H' => Same H3 H' ∧ H' Db = some (.lst ((((r.take i).filter fun c => decide (c ∈ S)).map sg).map V.str))) ⟨same_upd nb, upd_same⟩ (fun _ _ _ _ => trivial) ?_ ?_
      · rintro i v H4 H5 hi ⟨s4, e4⟩ ⟨rfl, c, hc, rfl⟩
        have hc : r[i]? = some c := by
          rw [← Array.getElem?_toList, tx_list] at hc
          exact hc
        have tk : r.take (i + 1) = r.take i ++ [c] := by rw [List.take_add_one, hc]; rfl
        have fl : ((r.take i).filter fun c => decide (c ∈ S)).length ≤ 12 := Nat.le_trans (List.length_filter_le _ _) (by rw [List.length_take]; omega)
        refine ⟨rfl, _, rfl, _, rfl, c, tx S, rfl, rfl, _, rfl, ?_⟩
        rw [tx_list]
        refine ite2 (fun t2 => ⟨_, rfl, _, e4, by rw [List.length_map, List.length_map, sizeLine_eq]; omega, sm_over s4 nb, ?_⟩) (fun t2 => ⟨s4, ?_⟩)
        · rw [upd_same, tk, List.filter_append, List.filter_cons, if_pos t2]
          simp
          rfl
        · rw [e4, tk, List.filter_append, List.filter_cons, if_neg t2]
          simp
      · rintro H4 ⟨s4, e4⟩
        rw [List.take_length] at e4
        have fl : (r.filter fun c => decide (c ∈ S)).length ≤ 12 := Nat.le_trans (List.length_filter_le _ _) (by omega)
        refine ⟨_, _, (r.filter fun c => decide (c ∈ S)).map sg, rfl, rfl, .inl (SqL.of e4), ?_, ?_⟩
        · rw [sum_sgs, show (Str.ofString "").length = 0 by decide +kernel]
          omega
        · rw [join_sg]
          exact q H4 _ r ((s12.trans s3).trans (SmD.of s4)) (D3.same s4) (filter_part g hb hm) hm fun s hs => (List.mem_filter.mp hs).1
end
end NC
/-! except clauses with a name, as many as there are: a caught exception on the ground (Gnd), one clause (gnd_as), none left (gnd_out), the statement (ps_try_manyA) -/
namespace NC
open PySem PySem.Spec PyProof.Rows L2
/-- the ends of a suite whose clause names slot i -/
def endsAs (i : Nat) (D : Ends) : Ends := { nx := fun σ => D.nx (σ.set i none), rt := D.rt, bk := fun σ => D.bk (σ.set i none), ct := fun σ => D.ct (σ.set i none) }
abbrev Clause := Value × Nat × (Addr → Value → Option Addr → TS)
def wManyA (K : PySem.W.Frag) (Wout : WX) (D : Ends) : List Clause → WX
  | [] => Wout
  | c :: r => fun cls d σ H => ∃ b, PySem.W.exmOne K cls c.1 = some b ∧ (b = true → ∀ a, H a = none → c.2.2 a cls d (endsAs c.2.1 D) (σ.set c.2.1 (some (.ref a))) H) ∧ (b = false → wManyA K Wout D r cls d σ H)
/-- the clause 'except x as n' reads c -/
structure AsOk (X : Cx) (x n : Str) (suite : List Stmt) (c : Clause) : Prop where
  slot : X.N[c.2.1]? = some n
  kind : X.env.kindOf n = some .local
  cls : Names X x c.1
  run : ∀ (a : Addr) (oe : Obj) (cls : Value) (d : Option Addr) (pn : List (Addr × Obj)), Zc cls d oe → (∃ vs, oe.data = .fields vs) → PSs (X.suite a ((a, oe) :: pn)) suite (c.2.2 a cls d)
inductive HdsA (X : Cx) : List ExceptHandler → List Clause → Prop
  | nil : HdsA X [] []
  | cons {x n : Str} {c : Clause} {b₀ : Stmt} {suite : List Stmt} {p q : Pos} {hds : List ExceptHandler} {l : List Clause} (ok : AsOk X x n (b₀ :: suite) c) (r : HdsA X hds l) : HdsA X (.ExceptHandler (some (.Name x p)) (some n) (b₀ :: suite) q :: hds) (c :: l)
/-- the exception at a, caught in X's own frame, with the state t -/
structure Gnd (X : Cx) (pins : List (Addr × Obj)) (a : Addr) (cls : Value) (d : Option Addr) (σ : L2.St) (H : Hp) (B : Heap) (t0 t : Shared) : Prop where
  own : X.stack = X.env :: X.outer
  frm : X.env.frame = some X.env.locals
  was : Inv X pins σ H t0
  low : ∀ b o, t0.heap.get? b = some o → b ∉ frs X.stack → B.get? b = some o
  up : t0.heap.UpToSlots t.heap
  new : H a = none
  io : t.os = t0.os
  gen : AllBare t.gens
  fly : HandSPX.FlyingZ B (X.env :: X.outer) a (Zc cls d) t.heap
section
variable {X : Cx} {pins : List (Addr × Obj)} {a : Addr} {cls : Value} {d : Option Addr} {σ : L2.St} {H : Hp} {B : Heap} {t0 t : Shared} {D : Ends}
theorem Gnd.to (G : Gnd X pins a cls d σ H B t0 t) {h : Heap} (f : HandSPX.FlyingZ B (X.env :: X.outer) a (Zc cls d) h) (u : t.heap.UpToSlots h) : Gnd X pins a cls d σ H B t0 { t with heap := h } := { G with up := G.up.trans u, fly := f }
theorem Gnd.now (G : Gnd X pins a cls d σ H B t0 t) : Inv X pins σ H t := G.was.landed G.low G.fly.1 G.up G.io G.gen
/-- the exception is no frame -/
theorem Gnd.off (G : Gnd X pins a cls d σ H B t0 t) : a ∉ frs (X.env :: X.outer) := fun z => by
  obtain ⟨o, vs, g1, _, g2⟩ := G.fly.there
  obtain ⟨_, o2, g3, g4⟩ := G.fly.2.2.1.mem z
  exact g4 _ ((Option.some.inj (g3.symm.trans g1)) ▸ g2)
/-- the state in the clause's suite -/
theorem Gnd.inS (G : Gnd X pins a cls d σ H B t0 t) : ∃ oe, Zc cls d oe ∧ (∃ vs, oe.data = .fields vs) ∧ t.heap.get? a = some oe ∧ Inv (X.suite a ((a, oe) :: (X.pn ++ pins))) [] σ H t := by
  obtain ⟨o, vs, g1, g2, g3⟩ := G.fly.there
  refine ⟨o, g2, ⟨vs, g3⟩, g1, G.now.suite g1 g3 G.new (fun z => G.off ?_) fun z => G.off ?_⟩
  · exact List.mem_filterMap.mpr ⟨_, .head _, G.frm.trans (congrArg some z.symm)⟩
  · exact let ⟨e, m, q⟩ := List.mem_filterMap.mp z; List.mem_filterMap.mpr ⟨e, .tail _ m, q⟩
/-- no clause is left: it flies on -/
theorem gnd_out {Wout : WX} (tk : Takes X Wout) (G : Gnd X pins a cls d σ H B t0 t) (w : Wout cls d σ H) : wpAny (model X.prog X.w) X.A (handleBy (.ref a) X.env []) (SP X pins D) X.xe t := by
  have away : wpAny (model X.prog X.w) X.A (setFlight (.ref a) (some X.env.locals)) (fun _ v => wpAny (model X.prog X.w) X.A (throw (.ref a) : Sem Flow) (SP X pins D) X.xe v) X.xe t :=
    HandSPX.setFlight_upZ G.fly fun g held u => wpAny_throw (tk _ _ ⟨a, B, t0, pins, σ, H, cls, d, rfl, G.was, G.low, G.up.trans u, .inr (.inr (G.own ▸ held)), G.new, G.io, G.gen, w⟩)
  rw [← G.frm] at away
  obtain ⟨_, _, _, o, vs, tb, _, _, g1, _, g2, g3, _⟩ := G.fly
  refine wpAny_handleBy_nil ?_
  unfold PySem.passOn
  refine wpAny_bind (wpAny_field g1 g2 g3 ?_)
  have nn : ¬ (Value.ref tb == Value.none) = true := by simp
  rw [if_neg nn]
  first | exact wpAny_bind (wpAny_pure (wpAny_bind away)) | exact wpAny_bind away
/-- one clause: its suite, or what follows it -/
theorem gnd_as {x n : Str} {c : Clause} {b₀ : Stmt} {suite : List Stmt} {p q : Pos} {hds : List ExceptHandler} (hN : X.N.Nodup) (C : AsOk X x n (b₀ :: suite) c) (G : Gnd X pins a cls d σ H B t0 t) {b : Bool} (m : PySem.W.exmOne X.K cls c.1 = some b)
    (yes : b = true → c.2.2 a cls d (endsAs c.2.1 D) (σ.set c.2.1 (some (.ref a))) H) (no : b = false → wpAny (model X.prog X.w) X.A (handleBy (.ref a) X.env hds) (SP X pins D) X.xe t) :
    wpAny (model X.prog X.w) X.A (handleBy (.ref a) X.env (.ExceptHandler (some (.Name x p)) (some n) (b₀ :: suite) q :: hds)) (SP X pins D) X.xe t := by
  obtain ⟨oe, z1, z2, z3, I⟩ := G.inS
  have lk : PySem.W.Looks (model X.prog X.w) t.heap (typeOf (.ref a)) cls := fun _ _ _ _ k r => wpAny_typeOf_ref (k _ _ z3) (z1.1.symm ▸ r)
  have nm : ∀ {Q E : Value → Shared → Prop}, Q c.1 t → wpAny (model X.prog X.w) (X.A.mark (some (.ref a))) (eval (.Name x p) X.env) Q E t := fun {Q E} r => C.cls.2.2.elim
    (fun g => ld_glob (X := X.suite a ((a, oe) :: (X.pn ++ pins))) I C.cls.1 g r C.cls.2.1) (fun g => ld_blt (X := X.suite a ((a, oe) :: (X.pn ++ pins))) I C.cls.1 g.1 g.2.1 r g.2.2 C.cls.2.1)
  refine wpAny_handleBy_cons (codeAny_handlers_test (nm ((PySem.W.exm_one (M := model X.prog X.w) G.now.kIn lk m).here ?_))) nofun
  cases b with
  | false => exact no rfl
  | true =>
    refine codeAny_handlers_suite_as (HandSPX.lands_againZ G.fly fun g f u => ?_)
    obtain ⟨o2, y1, y2, _, I2⟩ := (G.to f u).inS
    refine store_ok (X := X.suite a ((a, o2) :: (X.pn ++ pins))) (v := .ref a) I2 hN C.slot (.inl C.kind) rfl (fun v I3 => ?_) (.inr C.kind)
    have gone : ∀ {τ : L2.St} {G' : Hp} {v' : Shared} {R : Shared → Prop}, Inv (X.suite a ((a, o2) :: (X.pn ++ pins))) [] τ G' v' → (∀ v2, Inv X pins (τ.set c.2.1 none) G' v2 → R v2) → wpAny (model X.prog X.w) X.A (do bindName X.env n .none; unbindBehindTheSuite X.env n q) (fun _ v2 => R v2) X.xe v' :=
      fun k r => gone_ok (k.unsuite G.was.ok) hN C.slot C.kind r
    refine wpAny_mono ((C.run a o2 cls d (X.pn ++ pins) y1 y2).run [] v _ H _ I3 (yes rfl)) (fun fl v' r => ?_) fun _ _ e => e.elim
    match fl, r with
    | .next, ⟨τ, G', k, r⟩ => exact gone k fun v2 k2 => ⟨_, G', k2, r⟩
    | .brk, ⟨τ, G', k, r⟩ => exact gone k fun v2 k2 => ⟨_, G', k2, r⟩
    | .cont, ⟨τ, G', k, r⟩ => exact gone k fun v2 k2 => ⟨_, G', k2, r⟩
    | .ret _, ⟨y, τ, G', k, rl, r⟩ => exact gone k fun v2 k2 => ⟨y, _, G', k2, rl, r⟩
theorem gnd_all {Wout : WX} (hN : X.N.Nodup) (tk : Takes X Wout) (G : Gnd X pins a cls d σ H B t0 t) : ∀ {hds : List ExceptHandler} {l : List Clause}, HdsA X hds l → wManyA X.K Wout D l cls d σ H → wpAny (model X.prog X.w) X.A (handleBy (.ref a) X.env hds) (SP X pins D) X.xe t
  | _, _, .nil, w => gnd_out tk G w
  | _, _, .cons ok r, ⟨_, m, yes, no⟩ => gnd_as hN ok G m (fun e => yes e a G.new) fun e => gnd_all hN tk G r (no e)
theorem ps_try_manyA {body : List Stmt} {h₀ : ExceptHandler} {hds : List ExceptHandler} {l : List Clause} {pos : Pos} {tb : WX → TS} {Wout : WX} (own : X.stack = X.env :: X.outer) (frm : X.env.frame = some X.env.locals) (hN : X.N.Nodup) (tk : Takes X Wout)
    (bd : ∀ (W : WX) (pn : List (Addr × Obj)) (xe : Value → Shared → Prop), Takes (X.tr pn xe) W → PSs (X.tr pn xe) body (tb W)) (cl : HdsA X (h₀ :: hds) l) : PS X (.Try body (h₀ :: hds) [] [] pos) (fun D σ H => tb (wManyA X.K Wout D l) D σ H) := by
  refine ⟨fun ps s σ0 H0 D I h => wpAny_Try_except (wpAny_mono ((bd _ (X.pn ++ ps) _ ?_).run [] s σ0 H0 D (I.toTry _) h) (fun fl v r => ?_) fun _ _ e => e)⟩
  · rintro u v ⟨a, B, t0, _, σ, H, cls, d, rfl, J, low, up, sky, new, io, gen, w⟩
    have fr : X.A.frames = some (X.env :: X.outer) := I.ok.frames.trans (congrArg some own)
    refine Sky.land (Z := Zc cls d) Zc.steady fr frm (B := B) (own ▸ sky) fun g f u => ?_
    exact gnd_all hN tk (show Gnd X ps a cls d σ H B t0 { v with heap := g } from ⟨own, frm, J.ofTry I.ok, low, up.trans u, new, io, gen, f⟩) cl w
  · match fl, r with
    | .next, ⟨τ, G', k, r⟩ => exact wpAny_execs_nil ⟨τ, G', k.ofTry I.ok, r⟩
    | .brk, ⟨τ, G', k, r⟩ => exact ⟨τ, G', k.ofTry I.ok, r⟩
    | .cont, ⟨τ, G', k, r⟩ => exact ⟨τ, G', k.ofTry I.ok, r⟩
    | .ret _, ⟨y, τ, G', k, rl, r⟩ => exact ⟨y, τ, G', k.ofTry I.ok, rl, r⟩
end
end NC
/-! what is handed to a def and called there, at any depth: Acts (f, called with nothing, does tl), Uses (a def that is handed such an f) -/
namespace NC
open PySem PySem.Spec PyProof.Rows L2
theorem un_join {fs gs : List Addr} {H0 H1 H2 : Hp} {h0 h1 h2 : Heap} (a : Un fs [] H0 H1 h0 h1) (b : Un gs [] H1 H2 h1 h2) (y : ∀ c ∈ gs, c ∈ fs ∨ h0.get? c = none) : Un fs [] H0 H2 h0 h2 where
  keep := fun c o g n nf nx => b.keep c o (a.keep c o g n nf nx) (a.free c o g n nx) (fun m => (y c m).elim nf fun z => by rw [g] at z; cases z) nx
  slot := fun c o g n mf nx => by
    obtain ⟨_, g1⟩ := a.slot c o g n mf nx
    obtain ⟨sl, g2⟩ := b.any g1 (a.free c o g n nx) nx
    exact ⟨sl, g2⟩
  free := fun c o g n nx => let ⟨o1, g1⟩ := a.there c o g nx; b.free c o1 g1 (a.free c o g n nx) nx
  there := fun c o g nx => let ⟨o1, g1⟩ := a.there c o g nx; b.there c o1 g1 nx
  tups := fun c xs g => b.tups c xs (a.tups c xs g)
  frzs := fun c o u g => b.frzs c o u (a.frzs c o u g)
  tbls := fun c ps g => by
    obtain ⟨m, g1⟩ := a.tbls c ps g
    obtain ⟨m', g2⟩ := b.tbls c _ g1
    exact ⟨m ++ m', g2.trans (by rw [Array.append_assoc])⟩
/-- f, called with nothing, does tl as long as J; fs H0 h0: the frames and the heaps that this was said of -/
structure Acts (P : Program) (w : World) (K : PySem.W.Frag) (mg : Str → Option Value) (B : Heap) (k : Nat) (f : Addr) (J : Hp → Prop) (fs : List Addr) (H0 : Hp) (h0 : Heap) (tl : XK → Hp → VK → Prop) : Prop where
  obj : ∀ (G : Hp) (s : Shared), Un fs [] H0 G h0 s.heap → HOk P w G s.heap → J G → PySem.W.FnAt f s.heap
  run : ∀ (A : Around) (out : List Env) (s : Shared) (G : Hp) (Q : VK) (E : XK), Room (k + 1) A → Env0 P w K mg B A out s G → Un fs [] H0 G h0 s.heap → J G → tl E G Q →
    codeAny (model P w) A (.call (.ref f) ⟨[], []⟩) (CR (L2.CX P w) out P w G s Q E) s
section
variable {P : Program} {w : World} {K : PySem.W.Frag} {mg : Str → Option Value} {B : Heap} {k j : Nat} {f g : Addr} {J : Hp → Prop} {fs gs : List Addr} {H0 H1 : Hp} {h0 h1 : Heap} {tl : XK → Hp → VK → Prop}
theorem Acts.move (a : Acts P w K mg B k f J fs H0 h0 tl) (u : Un fs [] H0 H1 h0 h1) (y : ∀ c ∈ gs, c ∈ fs ∨ h0.get? c = none) : Acts P w K mg B k f J gs H1 h1 tl :=
  ⟨fun G s v => a.obj G s (un_join u v y), fun A out s G Q E r e v => a.run A out s G Q E r e (un_join u v y)⟩
theorem Acts.mono {i : Nat} (a : Acts P w K mg B k f J fs H0 h0 tl) (l : k ≤ i) : Acts P w K mg B i f J fs H0 h0 tl := ⟨a.obj, fun A out s G Q E r => a.run A out s G Q E (r.mono (by omega))⟩
/-- from a def's beginning to where it stands -/
theorem Acts.here {Z : Cx} {pins : List (Addr × Obj)} {σ : L2.St} {H : Hp} {s : Shared} (I : Inv Z pins σ H s) (ex : Z.ex = []) (a : Acts Z.prog Z.w Z.K Z.mg Z.base k f J Z.fs Z.H_0 Z.s_0.heap tl) : Acts Z.prog Z.w Z.K Z.mg Z.base k f J (frs Z.stack) H s.heap tl :=
  a.move (ex ▸ I.base) fun c m => (List.mem_cons.mp (I.stkSub c m)).elim (fun e => .inr (by rw [e]; exact Heap.get?_none_of_le I.ok.above)) .inl
/-- the def at g, handed an f that does tl, does what sp says -/
def Uses (P : Program) (w : World) (K : PySem.W.Frag) (mg : Str → Option Value) (B : Heap) (k j : Nat) (g : Addr) (fd : FuncData) (ps : List Str) (sp : Addr → (XK → Hp → VK → Prop) → List V → Hp → VK → Prop) : Prop :=
  ∀ (A : Around) (out : List Env) (s : Shared) (H : Hp) (args : Args) (us : List Value) (vs : List V) (Q : VK) (f : Addr) (J : Hp → Prop) (tl : XK → Hp → VK → Prop), Room j A → Env0 P w K mg B A out s H → BindsTo s fd args (ps.zip us) → Vals vs us → vs.length = ps.length →
    Acts P w K mg B k f J (frs out) H s.heap tl → J H → sp f tl vs H Q → codeAny (model P w) A (.call (.ref g) args) (CR C8.CX0 out P w H s Q C8.E0) s
variable {fd : FuncData} {ps : List Str} {sp : Addr → (XK → Hp → VK → Prop) → List V → Hp → VK → Prop}
theorem uses_of {x qual : Str} {st : Stmt} {N : List Str} (F : Fun K x qual st g fd) (S : FnScope N ps (defScope st))
    (body : ∀ (cdv : Value) (A : Around) (out : List Env) (s : Shared) (H : Hp) (vs : List V) (Q : VK) (f : Addr) (J : Hp → Prop) (tl : XK → Hp → VK → Prop), Room j (A.deeper (envOfC qual (defScope st) s.heap.objs.size g cdv)) → Acts P w K mg B k f J (frs out) H s.heap tl → J H → sp f tl vs H Q →
      ∃ t, PSs (cxOf C8.CX0 P w K mg B N qual (defScope st) g cdv A out s H C8.E0).nox (defBody st) t ∧ t { nx := fun _ G => Q .non G, rt := Q } (L2.start N vs) H) : Uses P w K mg B k (j + 1) g fd ps sp := by
  obtain ⟨oc, od, kV, doc, pm, an, cd, ct, osl, rfl, lk, cc⟩ := F.ex
  intro A out s H args us vs Q f J tl r e0 b v l a jH h
  refine LamX.run_ofS (N := N) (us := us) lk cc S r e0 b v l fun r2 => ?_
  obtain ⟨t, d, q⟩ := body cd A out s H vs Q f J tl r2 a jH h
  exact ⟨t, d.nox, q⟩
end
section
variable {Z : Cx} {k j i : Nat} {f g : Addr} {J : Hp → Prop} {tl : XK → Hp → VK → Prop} {fd : FuncData} {ps : List Str} {sp : Addr → (XK → Hp → VK → Prop) → List V → Hp → VK → Prop} {x y : Str} {p p2 pos : Pos} {e : Expr} {es : List Expr} {t : TA} {E : XK}
theorem end_of {CX : CXT} {pins : List (Addr × Obj)} {σ : L2.St} {H : Hp} {s s' : Shared} {Q : VK} {r : Result} (I : Inv Z pins σ H s) (px : Passes CX Z E) (h : CR CX Z.stack Z.prog Z.w H s Q E r s') : wants (EP Z pins σ Q) Z.xe r s' := by
  match r, h with
  | .ok (.ret _), h => exact I.after h
  | .error _, h => exact px _ _ _ _ _ _ I h
/-- y(), y holding such an f -/
theorem pe_thunk (a : Acts Z.prog Z.w Z.K Z.mg Z.base k f J Z.fs Z.H_0 Z.s_0.heap tl) (ex : Z.ex = []) (px : Passes (L2.CX Z.prog Z.w) Z E) (r : Room (k + 1) Z.A) (at_ : PE Z (.Name y p) (tVar i)) :
    PE Z (.Call (.Name y p) [] [] p2) (fun σ H Q => σ[i]? = some (some (.ref f)) ∧ J H ∧ tl E H Q) := ⟨fun pins s σ H Q I ⟨sv, jH, h⟩ => by
  refine wpAny_Call_Name_kw (thn (at_.run pins s σ H (fun v G => v = .ref f ∧ J G ∧ tl E G Q) I ⟨_, sv, rfl, jH, h⟩) ?_)
  rintro u s1 ⟨v, G, I1, rv, rfl, jG, hG⟩
  obtain rfl : u = Value.ref f := rv
  have un : Un Z.fs [] Z.H_0 G Z.s_0.heap s1.heap := ex ▸ I1.base
  exact PySem.W.callWith_F0 (a.obj G s1 un I1.hok jG) (wpAny_call (codeAny_mono (a.run _ _ _ _ Q E r I1.env0 un jG hG) fun _ _ q => end_of I1 px q))⟩
/-- x(e, ..), x a def that is handed such an f -/
theorem pe_uses (U : Uses Z.prog Z.w Z.K Z.mg Z.base k j g fd ps sp) (r : Room j Z.A) (gl : Gl Z x) (hm : Z.mg x = some (.ref g)) (kp : PySem.W.keepIn Z.K (.ref g) = true) (b : Binds Z.K fd ps []) (ha : PA Z (e :: es) t)
    (a : Acts Z.prog Z.w Z.K Z.mg Z.base k f J Z.fs Z.H_0 Z.s_0.heap tl) (ex : Z.ex = []) (db : (x == ("__debug__" : Str)) = false := by decide) (h1 : starEach (e :: es) Z.env = (false, eval e Z.env) :: starEach es Z.env := by rfl) (h2 : (backTo pos (starEach es Z.env)).any (·.1) = false := by rfl) :
    PE Z (.Call (.Name x p) (e :: es) [] pos) (fun σ H Q => t σ H fun vs G => vs.length = ps.length ∧ J G ∧ sp f tl vs G Q) := ⟨fun pins s σ H Q I h => by
  refine wpAny_Call_Name_kw (ld_glob I gl hm (PySem.W.callWith_K (h₀ := Z.base) I.mod.kin kp (thn (ha.run pos pins s σ H _ I h) ?_) h1 h2) db)
  rintro us s1 ⟨vs, G, I1, v, l, jG, hG⟩
  have l2 : us.length = ps.length := v.length ▸ l
  have bt : BindsTo s1 fd ⟨us, []⟩ (ps.zip us) := by
    have z := b s1 us I1.kIn (by rw [List.append_nil]; exact l2)
    rw [List.append_nil] at z
    exact z
  exact ⟨I1.kIn, wpAny_call (codeAny_mono (U _ _ _ _ _ us vs Q f J tl r I1.env0 bt v l (a.here I1 ex) jG hG) fun _ _ q => end_of (CX := C8.CX0) (E := C8.E0) I1 (fun _ _ _ _ _ _ _ z => z.elim) q)⟩⟩
end
/-! ### a lambda without parameters -/
section
variable {X : Cx} {pins : List (Addr × Obj)} {σ : L2.St} {H : Hp} {s : Shared} {params : Arguments} {body : Expr} {scope : Scope} {f c' : Addr} {pm ctv : Value} {k : Nat} {t : XK → TE}
theorem acts_lam (I : Inv X pins σ H s) (L : LamX.LamS X.env.scope scope) (hf : s.heap.get? f = some (PySem.W.kla_obj "<lambda>" (X.env.qual ++ "<lambda>") params body scope (cloFrom X.env.cells scope.names []) pm c' ctv)) (nf : H f = none) (off : f ∉ frs X.stack)
    (nb : bindArgs (PySem.W.kla_fn "<lambda>" (X.env.qual ++ "<lambda>") params body scope (cloFrom X.env.cells scope.names []) pm (.ref c') ctv) ⟨[], []⟩ = pure [])
    (pb : ∀ (A : Around) (out : List Env) (s : Shared) (H : Hp) (E : XK), Room k (A.deeper (LamX.lamEnv X scope s.heap.objs.size f c')) → PE (LamX.lamCx X A out s H E scope f c') body (t E)) :
    Acts X.prog X.w X.K X.mg X.base k f (fun G => G c' = some (LamX.CodeO c' (X.env.qual ++ "<lambda>"))) (frs X.stack) H s.heap (fun E G Q => t E σ G Q) := by
  have stays : ∀ {G : Hp} {h : Heap}, Un (frs X.stack) [] H G s.heap h → h.get? f = _ := fun u => u.keep f _ hf nf off nofun
  refine ⟨fun G v u _ _ => ⟨_, _, _, _, stays u⟩, fun A out v G Q E r e0 u jG h => ?_⟩
  obtain ⟨⟨co, fl, tk, c1, c2, c3⟩, _⟩ := e0.hok c' _ jG
  refine PySem.W.kla_callFunE r.depth (stays u) rfl L.co L.gen rfl ⟨c', co, fl, tk, rfl, c1, c2, c3⟩ ?_
  rw [nb]
  have lim : v.heap.NoLimit := e0.mod.nolimit.keeps fun b o z => (e0.bs b o z).1
  refine wpAny_pure (wpAny_newFunctionEnv (fun y m => (L.own y m).2) nofun (fun h1 ns sb => ⟨lim.fresh _ sb, ?_⟩) L.kind)
  have old : ∀ b o, v.heap.get? b = some o → h1.get? b = some o := fun b o z => sb.extBut b o (Nat.ne_of_lt (Heap.lt_size z)) (Heap.get?_push_of_some _ z)
  have V := LamX.lam_start2 (E := E) (f := f) (c' := c') (tk := v.toks + ([] : List (Str × Value)).length) I L e0 r.hd u ns old
  refine PySem.W.kla_codeExpr (wpAny_mono ((pb A out v G E (r.deeper _)).run [] _ σ G Q V h) ?_ fun _ _ z => z)
  rintro u2 v2 ⟨y, G2, V2, ry, qy⟩
  exact ⟨y, G2, V2.os, V2.bare, V2.base, V2.hok, ry, qy⟩
end
section
variable {X : Cx} {T : List (Addr × Str)} {c P g : Addr} {params : Arguments} {body : Expr} {scope : Scope} {k j : Nat} {t : XK → TE} {es : List Expr} {vs0 : List V} {fd : FuncData} {ps : List Str} {sp : Addr → (XK → Hp → VK → Prop) → List V → Hp → VK → Prop} {x : Str} {p lpos pos : Pos}
def tLamU (T : List (Addr × Str)) (sp : Addr → (XK → Hp → VK → Prop) → List V → Hp → VK → Prop) (vs0 : List V) (t : XK → TE) : TE := fun σ H Q => LamX.Tabs T H ∧ ∀ f H1, LamX.ExtN H H1 → LamX.Tabs T H1 → sp f (fun E G R => t E σ G R) (.ref f :: vs0) H1 Q
/-- x(lambda: body, constants ..) -/
theorem pe_lamU (U : Uses X.prog X.w X.K X.mg X.base k j g fd ps sp) (r : Room j X.A) (gl : Gl X x) (hm : X.mg x = some (.ref g)) (kp : PySem.W.keepIn X.K (.ref g) = true) (b : Binds X.K fd ps []) (ln : vs0.length + 1 = ps.length) (ha : PA X es (fun _ H Q => Q vs0 H))
    (TB : LamX.TabB X.base X.mg c P) (hc : X.env.code = .ref c) (hT : (P, X.env.qual ++ "<lambda>") ∈ T) (hu : ∀ p ∈ T, p.1 = P → p.2 = X.env.qual ++ "<lambda>") (L : LamX.LamS X.env.scope scope) (nd : defaultsOf params X.env = ([], []))
    (nb : ∀ (q : Str) (cl : List (Str × Addr)) (pm cv ctv : Value), bindArgs (PySem.W.kla_fn "<lambda>" q params body scope cl pm cv ctv) ⟨[], []⟩ = pure [])
    (pb : ∀ (A : Around) (out : List Env) (s : Shared) (H : Hp) (E : XK) (f c' : Addr), Room k (A.deeper (LamX.lamEnv X scope s.heap.objs.size f c')) → PE (LamX.lamCx X A out s H E scope f c') body (t E)) (ex : X.ex = [])
    (db : (x == ("__debug__" : Str)) = false := by decide) (h1 : starEach (.Lambda params body scope lpos :: es) X.env = (false, eval (.Lambda params body scope lpos) X.env) :: starEach es X.env := by rfl) (h2 : (backTo pos (starEach es X.env)).any (·.1) = false := by rfl) :
    PE X (.Call (.Name x p) (.Lambda params body scope lpos :: es) [] pos) (tLamU T sp vs0 t) := ⟨fun pins s σ H Q I ⟨tb, h⟩ => by
  refine wpAny_Call_Name_kw (ld_glob I gl hm (PySem.W.callWith_K (h₀ := X.base) I.mod.kin kp ?_ h1 h2) db)
  rw [h1]
  refine Calls.spliced_cons (LamX.lam_make2 I TB hc hT hu tb nd (L.has I.ok) fun f c' pm ctv H1 s1 I1 eN T1 hf nf off jc => ?_)
  have offs : f ∉ X.fs := fun z => off (I1.ok.stk.elim (fun e => e ▸ z) fun e => by
    rw [e.1]
    exact let ⟨v, m, q⟩ := List.mem_filterMap.mp z; List.mem_filterMap.mpr ⟨v, .tail _ m, q⟩)
  have nl : f ≠ X.env.locals := fun z => by
    obtain ⟨m, ⟨o, es, ep, ho, hd, _⟩, _⟩ := I1.loc
    rw [← z, hf] at ho
    cases ho
    cases hd
  have I2 : Inv X ((f, _) :: pins) σ H1 s1 := I1.pins_of fun q m => (List.mem_cons.mp m).elim (fun e => by rw [e]; exact ⟨hf, nf, nl, offs, nofun⟩) fun m2 => I1.pin q (List.mem_append_right _ m2)
  refine thn (ha.run pos _ s1 σ H1 (fun vs G => vs = vs0 ∧ G = H1) I2 ⟨rfl, rfl⟩) ?_
  rintro us s2 ⟨vs, G, I3, v, rfl, rfl⟩
  obtain ⟨hf3, _⟩ := I3.pin (f, _) (List.mem_append_right _ (.head _))
  have I4 : Inv X pins σ G s2 := I3.pins_of fun q m => I3.pin q (List.mem_append_right _ (.tail _ m))
  have l2 : (Value.ref f :: us).length = ps.length := by rw [List.length_cons, ← v.length]; exact ln
  have bt : BindsTo s2 fd ⟨.ref f :: us, []⟩ (ps.zip (.ref f :: us)) := by
    have z := b s2 (.ref f :: us) I4.kIn (by rw [List.append_nil]; exact l2)
    rw [List.append_nil] at z
    exact z
  have a := acts_lam (k := k) (t := t) I4 L hf3 nf off (nb _ _ _ _ _) fun A out s H E => pb A out s H E f c'
  exact ⟨I4.kIn, wpAny_call (codeAny_mono (U _ _ _ _ _ (.ref f :: us) (.ref f :: vs) Q f _ _ r I4.env0 bt (.cons rfl v) ln a jc (h f G eN T1)) fun _ _ q => end_of (CX := C8.CX0) (E := C8.E0) I4 (fun _ _ _ _ _ _ _ z => z.elim) q)⟩⟩
end
end NC
/-! except (A, B, C) as n -/
namespace NC
open PySem PySem.Spec PyProof.Rows L2
theorem frames_kept {h h' B : Heap} (k : ∀ b o, h.get? b = some o → h'.get? b = some o) : ∀ {l : List Env}, h.FunFrames B l → h'.FunFrames B l
  | [], _ => trivial
  | _ :: _, ⟨a, ⟨L, o, b, c, d, e⟩, r⟩ => ⟨a, ⟨L, o, b, c, k _ _ d, e⟩, frames_kept k r⟩
theorem fly_kept {h h' B : Heap} {l : List Env} {a : Addr} {Z : Obj → Prop} (k : ∀ b o, h.get? b = some o → h'.get? b = some o) (x : HandSPX.FlyingZ B l a Z h) : HandSPX.FlyingZ B l a Z h' := by
  obtain ⟨s, n, fr, oe, vs, T, oT, ts, e1, e2, e3, e4, e5, e6, e7, e8, e9⟩ := x
  exact ⟨fun b o e => k b o (s b o e), n, frames_kept k fr, oe, vs, T, oT, ts, k _ _ e1, e2, e3, e4, e5, e6, k _ _ e7, e8, e9⟩
section
variable {X : Cx} {pins : List (Addr × Obj)} {a : Addr} {cls : Value} {d : Option Addr} {σ : L2.St} {H : Hp} {B : Heap} {t0 t : Shared} {D : Ends}
def wTup (K : PySem.W.Frag) (Wout : WX) (D : Ends) (cs : List Value) (i : Nat) (ts : Addr → Value → Option Addr → TS) : WX := fun cls d σ H => ∃ b, PySem.W.exmAny K cls cs = some b ∧
  (b = true → ∀ a, H a = none → ts a cls d (endsAs i D) (σ.set i (some (.ref a))) H) ∧ (b = false → Wout cls d σ H)
theorem gnd_tup {Wout : WX} {n x1 x2 x3 : Str} {c1 c2 c3 : Value} {i kk : Nat} {ts : Addr → Value → Option Addr → TS} {b₀ : Stmt} {suite : List Stmt} {p1 p2 p3 pt q : Pos} (hN : X.N.Nodup) (slot : X.N[i]? = some n) (kind : X.env.kindOf n = some .local)
    (n1 : Names X x1 c1) (n2 : Names X x2 c2) (n3 : Names X x3 c3) (run : ∀ (a : Addr) (oe : Obj) (cls : Value) (d : Option Addr) (pn : List (Addr × Obj)), Zc cls d oe → (∃ vs, oe.data = .fields vs) → PSs (X.suite a ((a, oe) :: pn)) (b₀ :: suite) (ts a cls d))
    (tk : Takes X Wout) (G : Gnd X pins a cls d σ H B t0 t) (w : wTup X.K Wout D [c1, c2, c3] i ts cls d σ H) :
    wpAny (model X.prog X.w) X.A (handleBy (.ref a) X.env [.ExceptHandler (some (.Tuple [.Name x1 p1, .Name x2 p2, .Name x3 p3] kk pt)) (some n) (b₀ :: suite) q]) (SP X pins D) X.xe t := by
  obtain ⟨b, m, yes, no⟩ := w
  obtain ⟨oe, z1, z2, z3, I⟩ := G.inS
  have nm : ∀ {x : Str} {c : Value} {p : Pos} {Q E : Value → Shared → Prop}, Names X x c → Q c t → wpAny (model X.prog X.w) (X.A.mark (some (.ref a))) (eval (.Name x p) X.env) Q E t := fun {x c p Q E} ok r => ok.2.2.elim
    (fun g => ld_glob (X := X.suite a ((a, oe) :: (X.pn ++ pins))) I ok.1 g r ok.2.1) (fun g => ld_blt (X := X.suite a ((a, oe) :: (X.pn ++ pins))) I ok.1 g.1 g.2.1 r g.2.2 ok.2.1)
  have kp : ∀ b o, t.heap.get? b = some o → (t.heap.push { cls := .type "tuple", data := .seq [c1, c2, c3].toArray }).get? b = some o := fun _ _ z => Heap.get?_push_of_some _ z
  have G1 := G.to (fly_kept kp G.fly) (.of_keeps kp)
  have lk : PySem.W.Looks (model X.prog X.w) (t.heap.push { cls := .type "tuple", data := .seq [c1, c2, c3].toArray }) (typeOf (.ref a)) cls := fun _ _ _ _ k r => wpAny_typeOf_ref (k _ _ (kp _ _ z3)) (z1.1.symm ▸ r)
  refine wpAny_handleBy_cons (codeAny_handlers_test (wpAny_Tuple (wpAny_items_cons (nm n1 (wpAny_items_cons (nm n2 (wpAny_items_cons (nm n3 (wpAny_items_nil ⟨by size_fits, ?_⟩)))))))) ) nofun
  refine (PySem.W.exm_tup3 (M := model X.prog X.w) (G.now.kIn.keeps kp) lk (Heap.get?_push_size t.heap rfl) m).here ?_
  cases b with
  | false => exact gnd_out tk G1 (no rfl)
  | true =>
    refine codeAny_handlers_suite_as (HandSPX.lands_againZ G1.fly fun g f u => ?_)
    obtain ⟨o2, y1, y2, _, I2⟩ := (G1.to f u).inS
    refine store_ok (X := X.suite a ((a, o2) :: (X.pn ++ pins))) (v := .ref a) I2 hN slot (.inl kind) rfl (fun v I3 => ?_) (.inr kind)
    have gone : ∀ {τ : L2.St} {G' : Hp} {v' : Shared} {R : Shared → Prop}, Inv (X.suite a ((a, o2) :: (X.pn ++ pins))) [] τ G' v' → (∀ v2, Inv X pins (τ.set i none) G' v2 → R v2) → wpAny (model X.prog X.w) X.A (do bindName X.env n .none; unbindBehindTheSuite X.env n q) (fun _ v2 => R v2) X.xe v' :=
      fun k r => gone_ok (k.unsuite G.was.ok) hN slot kind r
    refine wpAny_mono ((run a o2 cls d (X.pn ++ pins) y1 y2).run [] v _ H _ I3 (yes rfl a G.new)) (fun fl v' r => ?_) fun _ _ e => e.elim
    match fl, r with
    | .next, ⟨τ, G', k, r⟩ => exact gone k fun v2 k2 => ⟨_, G', k2, r⟩
    | .brk, ⟨τ, G', k, r⟩ => exact gone k fun v2 k2 => ⟨_, G', k2, r⟩
    | .cont, ⟨τ, G', k, r⟩ => exact gone k fun v2 k2 => ⟨_, G', k2, r⟩
    | .ret _, ⟨y, τ, G', k, rl, r⟩ => exact gone k fun v2 k2 => ⟨y, _, G', k2, rl, r⟩
theorem ps_try_tup {body : List Stmt} {pos : Pos} {tb : WX → TS} {Wout : WX} {n x1 x2 x3 : Str} {c1 c2 c3 : Value} {i kk : Nat} {ts : Addr → Value → Option Addr → TS} {b₀ : Stmt} {suite : List Stmt} {p1 p2 p3 pt q : Pos} (own : X.stack = X.env :: X.outer) (frm : X.env.frame = some X.env.locals) (hN : X.N.Nodup) (tk : Takes X Wout)
    (bd : ∀ (W : WX) (pn : List (Addr × Obj)) (xe : Value → Shared → Prop), Takes (X.tr pn xe) W → PSs (X.tr pn xe) body (tb W)) (slot : X.N[i]? = some n) (kind : X.env.kindOf n = some .local)
    (n1 : Names X x1 c1) (n2 : Names X x2 c2) (n3 : Names X x3 c3) (run : ∀ (a : Addr) (oe : Obj) (cls : Value) (d : Option Addr) (pn : List (Addr × Obj)), Zc cls d oe → (∃ vs, oe.data = .fields vs) → PSs (X.suite a ((a, oe) :: pn)) (b₀ :: suite) (ts a cls d)) :
    PS X (.Try body [.ExceptHandler (some (.Tuple [.Name x1 p1, .Name x2 p2, .Name x3 p3] kk pt)) (some n) (b₀ :: suite) q] [] [] pos) (fun D σ H => tb (wTup X.K Wout D [c1, c2, c3] i ts) D σ H) := by
  refine ⟨fun ps s σ0 H0 D I h => wpAny_Try_except (wpAny_mono ((bd _ (X.pn ++ ps) _ ?_).run [] s σ0 H0 D (I.toTry _) h) (fun fl v r => ?_) fun _ _ e => e)⟩
  · rintro u v ⟨a, B, t0, _, σ, H, cls, d, rfl, J, low, up, sky, new, io, gen, w⟩
    have fr : X.A.frames = some (X.env :: X.outer) := I.ok.frames.trans (congrArg some own)
    refine Sky.land (Z := Zc cls d) Zc.steady fr frm (B := B) (own ▸ sky) fun g f u => ?_
    exact gnd_tup hN slot kind n1 n2 n3 run tk (show Gnd X ps a cls d σ H B t0 { v with heap := g } from ⟨own, frm, J.ofTry I.ok, low, up.trans u, new, io, gen, f⟩) w
  · match fl, r with
    | .next, ⟨τ, G', k, r⟩ => exact wpAny_execs_nil ⟨τ, G', k.ofTry I.ok, r⟩
    | .brk, ⟨τ, G', k, r⟩ => exact ⟨τ, G', k.ofTry I.ok, r⟩
    | .cont, ⟨τ, G', k, r⟩ => exact ⟨τ, G', k.ofTry I.ok, r⟩
    | .ret _, ⟨y, τ, G', k, rl, r⟩ => exact ⟨y, τ, G', k.ofTry I.ok, rl, r⟩
end
end NC
/-! C(), an own refusal whose __init__ takes nothing but self -/
namespace NC
open PySem PySem.Spec PyProof.Rows L2
section
variable {X : Cx}
/-- the two objects that the making of a refusal lays: its arguments' tuple, itself -/
abbrev twoO (h : Heap) (C : Addr) : Heap := (h.push (PySem.W.kdv_tup [])).push (PySem.HandSPX.excO C h.objs.size)
theorem pmk_oex0 {x : Str} {C fI : Addr} {k : Nat} {fd : FuncData} {sp : Sp} {p pos : Pos} (O : OexC X.K C) (ini : PySem.W.findIn X.K (.ref C) "__init__" = some (some (.ref fI))) (fn : PySem.W.typeIn X.K (.ref fI) = some (.type "function"))
    (G : FnOk X.prog X.w X.K X.mg X.base C8.CX0 k fI fd ["self"] sp) (room : Room (k + 1) X.A) (b : Binds X.K fd ["self"] []) (gl : Gl X x) (mx : X.mg x = some (.ref C)) (db : (x == ("__debug__" : Str)) = false := by decide) :
    PMk X (.Call (.Name x p) [] [] pos) (tMkO C sp [] tNil) := fun pins s σ H Q I h => by
  obtain ⟨nm, q, N, bs, bm, sn, sub, ab, col, dd, k0, k1, k2, k3, k5, hC, hbm⟩ := O.cls
  obtain ⟨hp, gn, dr, tk, os⟩ := s
  have new : hp.objs.size ≤ hp.objs.size + 1 := by omega
  have want := h.2 (hp.objs.size + 1) (I.hok.fresh new)
  have old : ∀ b o, hp.get? b = some o → (twoO hp C).get? b = some o := fun b o z => Heap.get?_push_of_some _ (Heap.get?_push_of_some _ z)
  have there : (twoO hp C).get? (hp.objs.size + 1) = some (PySem.HandSPX.excO C hp.objs.size) := by heap_get
  have J : Inv X pins σ (upd H (hp.objs.size + 1) (exo (hp.objs.size + 1) C none)) ⟨twoO hp C, gn, dr, tk, os⟩ := I.laid (t' := tk) old new (exo_ok there)
  have bt := b ⟨twoO hp C, gn, dr, tk, os⟩ [.ref (hp.objs.size + 1)] J.kIn rfl
  have ran := G.run _ X.stack _ _ ⟨[.ref (hp.objs.size + 1)], []⟩ [.ref (hp.objs.size + 1)] [.ref (hp.objs.size + 1)] _ C8.E0 (room.make C [] []) (J.env0.make C [] []) bt (.cons rfl .nil) want
  refine wpAny_Call_Name_kw (ld_glob I gl mx (PySem.W.callWith_K0 (first := []) I.kIn O.kC (wpAny_call ?_)) db)
  refine PySem.HandSPX.call_own PySem.F.excBase_ValueError (fun Y => PySem.HandSPX.refsVE_contains Y bm hbm) (I.kIn _ _ hC) (PySem.W.looks_findIn I.kIn ini) (fun self => PySem.W.bind_fn I.kIn self fn) (Nat.zero_le _) (codeAny_mono ran fun r v z => ?_)
  match r, z with
  | .ok (.ret u), z =>
    obtain ⟨y, H2, o2, b2, u2, ok2, ry, rfl, d, fs, g1, g2, g3, g4⟩ := z
    obtain ⟨h2, n2, d2, t2, os2⟩ := v
    exact ⟨ry, mk_end (raises_own O.exC O.tyC) I new old u2 ok2 o2 b2 g1 g2 g3 g4⟩
/-- f(k = v, ..), no value by place -/
theorem pe_callN0 {CX : CXT} {k : Nat} {f : Addr} {fd : FuncData} {ps ks : List Str} {sp : Sp} {E : XK} {x : Str} {p pos : Pos} {kws : List Keyword} {tk : TA} {g : List Value → List Value → List Value} {gV : List V → List V → List V}
    (G : FnOk X.prog X.w X.K X.mg X.base CX k f fd ps sp) (room : Room k X.A) (gl : Gl X x) (mx : X.mg x = some (.ref f)) (kp : PySem.W.keepIn X.K (.ref f) = true) (b : KBn X.K fd ps 0 ks g gV) (px : Passes CX X E) (pk : PK X kws tk)
    (al : (backToKw pos (keywordEach kws X.env)).all (·.1.isSome) = true := by rfl) (nm : (backToKw pos (keywordEach kws X.env)).filterMap (·.1) = ks := by rfl) (db : (x == ("__debug__" : Str)) = false := by decide)
    (pl : ((backTo pos (starEach [] X.env)).any (·.1) || (backToKw pos (keywordEach kws X.env)).any (·.1.isNone)) = false := by rfl) : PE X (.Call (.Name x p) [] kws pos) (tCallN 0 ks.length sp gV E tNil tk) := ⟨fun pins s σ H Q I h => by
  refine wpAny_Call_Name_kw (ld_glob I gl mx (PySem.W.callWith_KW0 (h₀ := X.base) (first := []) I.mod.kin kp al (thn (pk.run pos pins s σ H _ I h) ?_) pl) db)
  rintro ws v ⟨zs, G2, J, rz, _, l2, q⟩
  rw [nm]
  exact ⟨J.kIn, run_fnN (us := []) (vs := []) G room b px J .nil rz rfl l2 q⟩⟩
end
end NC
/-! o.m(a=.., b=..): an own method, called by keywords only -/
namespace NC
open PySem PySem.Spec PyProof.Rows L2
def tMethN (C : Addr) (m : Str) (n : Nat) (sp : Sp) (gV : List V → List V → List V) (E : XK) (ta : TE) (tk : TA) : TE := fun σ H Q => ta σ H fun x H1 => ∃ a dx fs, x = .ref a ∧ H1 a = some (.ins C dx fs) ∧ fs.lookup m = none ∧ tk σ H1 fun zs H2 => zs.length = n ∧ sp (gV [x] zs) H2 Q E
section
variable {X : Cx}
theorem pe_methN0 {CX : CXT} {k : Nat} {C f : Addr} {fd : FuncData} {ps ks : List Str} {sp : Sp} {E : XK} {m : Str} {o : Expr} {apos pos : Pos} {ta : TE} {kws : List Keyword} {tk : TA} {g : List Value → List Value → List Value} {gV : List V → List V → List V} {pl : Sem Bool}
    (at_ : PE X o ta) (cl : Cls X.K C) (mt : Meth X.K C m f) (G : FnOk X.prog X.w X.K X.mg X.base CX k f fd ps sp) (room : Room k X.A) (b : KBn X.K fd ps 1 ks g gV) (px : Passes CX X E) (pk : PK X kws tk)
    (al : (backToKw pos (keywordEach kws X.env)).all (·.1.isSome) = true := by rfl) (nm : (backToKw pos (keywordEach kws X.env)).filterMap (·.1) = ks := by rfl)
    (pln : ((backTo pos (starEach [] X.env)).any (·.1) || (backToKw pos (keywordEach kws X.env)).any (·.1.isNone)) = false := by rfl)
    (ev : eval (.Call (.Attribute o m apos) [] kws pos) X.env = (do
      let ov ← eval o X.env
      standAt apos.atName
      let (f, first) ← holding [ov] (getMethod ov m pl)
      callWith pos f first (backTo pos (starEach [] X.env)) (backToKw pos (keywordEach kws X.env))) := by rfl) :
    PE X (.Call (.Attribute o m apos) [] kws pos) (tMethN C m ks.length sp gV E ta tk) := ⟨fun pins s σ H Q I h => by
  refine PySem.W.methodCall_KW (pl := pl) (thn (at_.run pins s σ H _ I h) ?_) ev
  rintro u t ⟨x, H1, J, rx, a, dx, fs, rfl, ea, no, q⟩
  cases (show u = Value.ref a from rx)
  refine getmeth_ok J ea cl mt no (PySem.W.callWith_KW0 (h₀ := X.base) (first := [.ref a]) J.mod.kin mt.kp al (thn (pk.run pos pins t σ H1 _ J q) ?_) pln)
  rintro ws v ⟨zs, G2, J2, rz, l2, q2⟩
  rw [nm]
  exact ⟨J2.kIn, run_fnN (us := [.ref a]) (vs := [.ref a]) G room b px J2 (.cons rfl .nil) rz rfl l2 q2⟩⟩
end
end NC
namespace NC
open PySem PySem.Spec PyProof.Rows L2
theorem passF {X : Cx} : Passes (L2.CX X.prog X.w) X E0 := fun _ _ _ _ _ _ _ h => by
  obtain ⟨_, _, _, _, _, _, _, _, _, _, _, _, z⟩ := h
  exact z.elim
def spLaw (K : PySem.W.Frag) : Sp := fun vs H Q _ => ∃ (a : Addr) (ns : List Int), vs = [.ref a] ∧ SqL K H a (ns.map V.int) ∧ ∀ H', Q (.bl true) H'
def spSmF : Sp := fun _ _ _ _ => False
/-- what stands beside the draws: the rooms, the hall -/
structure St6 (d c rA : Addr) (R : List V) (C x dx sb D : Addr) (l : List Nat) (ys : List Str) (fo : Nat → List Nat) (H : Hp) : Prop where
  dr : Dr H d
  hc : HeadC H d c
  rA : H rA = some (.lst R)
  hA : HallAt C H x dx sb D l ys fo
section
variable {d c rA C x dx sb D : Addr} {R : List V} {l : List Nat} {ys : List Str} {fo : Nat → List Nat} {H H' : Hp}
theorem St6.same (s : St6 d c rA R C x dx sb D l ys fo H) (e : Same H H') : St6 d c rA R C x dx sb D l ys fo H' := ⟨s.dr.same e, let ⟨r, h⟩ := s.hc; ⟨r, e _ _ h⟩, e _ _ s.rA, s.hA.same e⟩
theorem St6.smd (s : St6 d c rA R C x dx sb D l ys fo H) (nr : rA ≠ d) (ns : sb ≠ d) (e : SmD d H H') (D' : Dr H' d) : St6 d c rA R C x dx sb D l ys fo H' := by
  obtain ⟨r, hd⟩ := s.hc
  have nx : x ≠ d := ne_of s.hA.x hd fun z => by cases z
  have nD : D ≠ d := ne_of s.hA.D hd fun z => by cases z
  exact ⟨D', e.2 _ s.hc, e.1 _ _ nr s.rA, ⟨e.1 _ _ nx s.hA.x, e.1 _ _ ns s.hA.sb, e.1 _ _ nD s.hA.D⟩⟩
theorem St6.new (s : St6 d c rA R C x dx sb D l ys fo H) {p : Addr} (n : H p = none) (s' : St6 d c rA R C x dx sb D l ys fo H') {o : HO} : St6 d c rA R C x dx sb D l ys fo (L2.upd H' p o) := by
  obtain ⟨ns, hcell⟩ := s.dr.cell s.hc
  have n1 : p ≠ d := s.dr.ne n
  have n2 : p ≠ c := Ne.symm (ne_of_none hcell n)
  exact ⟨s'.dr.upd s'.hc n1 n2, s'.hc.upd n1, by rw [upd_ne (ne_of_none s.rA n)]; exact s'.rA, ⟨by rw [upd_ne (ne_of_none s.hA.x n)]; exact s'.hA.x, by rw [upd_ne (ne_of_none s.hA.sb n)]; exact s'.hA.sb, by rw [upd_ne (ne_of_none s.hA.D n)]; exact s'.hA.D⟩⟩
end
end NC
/-! the first room of a part: great sides as long as they may be -/
namespace NC
open PySem PySem.Spec PyProof.Rows L2
/-- which of two rooms comes first -/
def Bef (l a b : List Nat) : Prop := ∃ i, i < a.length ∧ i < b.length ∧ a.take i = b.take i ∧ a.getD i 0 = upc (l.getD i 0) ∧ b.getD i 0 = l.getD i 0
theorem allT_lens' (l : List Nat) : ∀ k r, r ∈ allT l k → r.length = k
  | 0, r, h => by rw [List.mem_singleton.mp h]; rfl
  | k + 1, r, h => by
    obtain ⟨q, hq, hr⟩ := List.mem_flatMap.mp h
    have := allT_lens' l k q hq
    simp only [List.mem_cons, List.not_mem_nil, or_false] at hr
    rcases hr with rfl | rfl <;> simp [this]
theorem getD_app {a : List Nat} {x i : Nat} (h : i < a.length) : (a ++ [x]).getD i 0 = a.getD i 0 := by
  rw [List.getD_eq_getElem?_getD, List.getD_eq_getElem?_getD, List.getElem?_append_left h]
theorem getD_last {a : List Nat} {x : Nat} : (a ++ [x]).getD a.length 0 = x := by
  rw [List.getD_eq_getElem?_getD, List.getElem?_append_right (Nat.le_refl _), Nat.sub_self]
  rfl
theorem allT_pw (l : List Nat) : ∀ k, (allT l k).Pairwise (Bef l)
  | 0 => by simp [allT]
  | k + 1 => by
    show ((allT l k).flatMap fun r => [r ++ [upc (l.getD k 0)], r ++ [l.getD k 0]]).Pairwise (Bef l)
    rw [List.pairwise_flatMap]
    refine ⟨fun r hr => ?_, ?_⟩
    · have rl := allT_lens' l k r hr
      rw [List.pairwise_cons]
      refine ⟨fun b hb => ?_, by simp⟩
      rw [List.mem_singleton.mp hb]
      refine ⟨r.length, by simp, by simp, by simp, ?_, ?_⟩
      · rw [getD_last, rl]
      · rw [getD_last, rl]
    · refine List.Pairwise.imp_of_mem ?_ (allT_pw l k)
      rintro a b ha hb ⟨i, h1, h2, h3, h4, h5⟩ x hx y hy
      obtain ⟨u, rfl⟩ : ∃ u, x = a ++ [u] := by
        rcases List.mem_cons.mp hx with z | z
        · exact ⟨_, z⟩
        · exact ⟨_, List.mem_singleton.mp z⟩
      obtain ⟨v, rfl⟩ : ∃ v, y = b ++ [v] := by
        rcases List.mem_cons.mp hy with z | z
        · exact ⟨_, z⟩
        · exact ⟨_, List.mem_singleton.mp z⟩
      refine ⟨i, by rw [List.length_append]; exact Nat.lt_of_lt_of_le h1 (Nat.le_add_right _ _), by rw [List.length_append]; exact Nat.lt_of_lt_of_le h2 (Nat.le_add_right _ _), ?_, ?_, ?_⟩
      · rw [List.take_append_of_le_length (Nat.le_of_lt h1), List.take_append_of_le_length (Nat.le_of_lt h2), h3]
      · rw [getD_app h1, h4]
      · rw [getD_app h2, h5]
theorem first_is {L : List (List Nat)} {R : List Nat → List Nat → Prop} {p : List Nat → Bool} {z : List Nat} (pw : L.Pairwise R) (hz : z ∈ L.filter p) (no : ∀ q ∈ L, p q = true → R q z → False) : ∃ t, L.filter p = z :: t := by
  have pf := pw.filter p
  match hL : L.filter p with
  | [] => rw [hL] at hz; cases hz
  | h :: t =>
    rw [hL] at hz pf
    rcases List.mem_cons.mp hz with e | e
    · exact ⟨t, by rw [e]⟩
    · have hm : h ∈ L.filter p := by rw [hL]; exact List.mem_cons_self ..
      obtain ⟨h1, h2⟩ := List.mem_filter.mp hm
      exact (no h h1 h2 (List.rel_of_pairwise_cons pf e)).elim
theorem rms_len0 {l : List Nat} (g : GoodW l) {bs : List (List Nat)} : (rms l bs).length ≤ 4096 := by
  unfold rms
  refine Nat.le_trans (List.length_filter_le _ _) ?_
  rw [allT_len]
  exact Nat.le_trans (Nat.pow_le_pow_right (by decide) g.hi) (by decide)
/-- the sides behind so many walls -/
def wS (fo : Nat → List Nat) (l W : List Nat) : Nat → List Nat
  | 0 => W
  | i + 1 => if l.getD i 0 ∈ wS fo l W i then wS fo l W i else wS fo l W i ++ fo (upc (l.getD i 0))
theorem wS_le {fo : Nat → List Nat} {l W : List Nat} {i j : Nat} (h : i ≤ j) : ∀ {t}, t ∈ wS fo l W i → t ∈ wS fo l W j := by
  induction j with
  | zero =>
    intro t ht
    rw [show i = 0 by omega] at ht
    exact ht
  | succ j ih =>
    intro t ht
    rcases Nat.lt_or_ge j i with z | z
    · rw [show i = j + 1 by omega] at ht
      exact ht
    · have := ih z ht
      show t ∈ (if l.getD j 0 ∈ wS fo l W j then wS fo l W j else wS fo l W j ++ fo (upc (l.getD j 0)))
      split
      · exact this
      · exact List.mem_append_left _ this
section
variable {l : List Nat} (g : GoodW l) {bs : List (List Nat)} (hb : ∀ b ∈ bs, isBar l b = true) {fo : Nat → List Nat} (hf : ∀ s ∈ sds l, ∀ t, t ∈ fo s ↔ Frc (adjOf bs) s t) (ok : Okv l bs)
/-- sides that force nothing more, no two of one wall -/
structure Clo (l : List Nat) (bs : List (List Nat)) (W : List Nat) : Prop where
  sd : ∀ t ∈ W, t ∈ sds l
  adj : ∀ t ∈ W, ∀ u ∈ adjOf bs t, u ∈ W
  one : ∀ t ∈ W, swp t ∉ W
include g hb hf ok
theorem no_self {s : Nat} (hs : s ∈ sds l) : ¬ Frc (adjOf bs) s (swp s) := fun h => by
  have e := ok fo hf
  unfold vdOf at e
  split at e
  · cases e
  · next hn =>
    have := List.find?_eq_none.mp hn s hs
    unfold fxP at this
    rw [decide_eq_true_eq] at this
    exact this ((hf s hs _).mpr h)
theorem Clo.grow {W : List Nat} (h : Clo l bs W) {c : Nat} (hc : c ∈ l) (hn : c ∉ W) : Clo l bs (W ++ fo (upc c)) := by
  have sm := g.sm c hc
  have hg : upc c ∈ sds l := by rw [upc_small sm]; exact sds_of_great g hc
  have e2 : swp (upc c) = c := by rw [upc_small sm, swp_great (by omega)]; omega
  have F : ∀ t, t ∈ fo (upc c) ↔ Frc (adjOf bs) (upc c) t := hf _ hg
  have cl : ∀ t ∈ W, ∀ u, Frc (adjOf bs) t u → u ∈ W := fun t ht u hu => hu.ind (p := fun x => x ∈ W) ht fun a b ha k => h.adj a ha b k
  have cross : ∀ t ∈ W, swp t ∈ fo (upc c) → False := fun t ht h2 => by
    have := Frc.back g hb hg ((F _).mp h2)
    rw [swp_swp (sds_lt g (h.sd t ht)), e2] at this
    exact hn (cl t ht c this)
  refine ⟨fun t ht => ?_, fun t ht u hu => ?_, fun t ht h2 => ?_⟩
  · rcases List.mem_append.mp ht with z | z
    · exact h.sd t z
    · exact Frc.mem g hb hg ((F t).mp z)
  · rcases List.mem_append.mp ht with z | z
    · exact List.mem_append_left _ (h.adj t z u hu)
    · exact List.mem_append_right _ ((F u).mpr (((F t).mp z).step hu))
  · rcases List.mem_append.mp ht with z | z <;> rcases List.mem_append.mp h2 with y | y
    · exact h.one t z y
    · exact cross t z y
    · refine cross (swp t) y ?_
      rw [swp_swp (sds_lt g (Frc.mem g hb hg ((F t).mp z)))]
      exact z
    · exact no_self g hb hf ok hg (Frc.torn g hb hg ((F t).mp z) ((F _).mp y))
theorem wS_clo {W : List Nat} (h : Clo l bs W) : ∀ i, i ≤ l.length → Clo l bs (wS fo l W i)
  | 0, _ => h
  | i + 1, hi => by
    have ih := wS_clo h i (by omega)
    have hil : i < l.length := by omega
    have e : l.getD i 0 = l[i] := by rw [List.getD_eq_getElem?_getD, List.getElem?_eq_getElem hil]; rfl
    show Clo l bs (if l.getD i 0 ∈ wS fo l W i then wS fo l W i else wS fo l W i ++ fo (upc (l.getD i 0)))
    split
    · exact ih
    · next hn => exact Clo.grow g hb hf ok ih (by rw [e]; exact List.getElem_mem hil) hn
theorem wS_full {W : List Nat} {i : Nat} (hi : i < l.length) : l[i] ∈ wS fo l W (i + 1) ∨ upc l[i] ∈ wS fo l W (i + 1) := by
  have e : l.getD i 0 = l[i] := by rw [List.getD_eq_getElem?_getD, List.getElem?_eq_getElem hi]; rfl
  have sm := g.sm _ (List.getElem_mem hi)
  have hg : upc l[i] ∈ sds l := by rw [upc_small sm]; exact sds_of_great g (List.getElem_mem hi)
  show _ ∈ (if l.getD i 0 ∈ wS fo l W i then wS fo l W i else wS fo l W i ++ fo (upc (l.getD i 0))) ∨ _ ∈ (if l.getD i 0 ∈ wS fo l W i then wS fo l W i else wS fo l W i ++ fo (upc (l.getD i 0)))
  rw [e]
  split
  · next h => exact .inl h
  · exact .inr (List.mem_append_right _ ((hf _ hg _).mpr Frc.refl))
theorem clo_room {W : List Nat} (h : Clo l bs W) (full : ∀ c ∈ l, c ∈ W ∨ upc c ∈ W) : byWT l W = rmOf l (fun c => decide (c ∈ W)) ∧ rmOf l (fun c => decide (c ∈ W)) ∈ rms l bs := by
  have e1 : ∀ c ∈ l, swp c = upc c := fun c hc => by rw [swp_small (g.sm c hc), upc_small (g.sm c hc)]
  constructor
  · unfold byWT rmOf
    have : ∀ L : List Nat, (∀ c ∈ L, c ∈ l) → (L.flatMap fun c => [swp c, c].filter fun e => decide (e ∈ W)) = L.map fun c => if decide (c ∈ W) = true then c else upc c := fun L => by
      induction L with
      | nil => intro _; rfl
      | cons c r ih =>
        intro hL
        have hc := hL c (List.mem_cons_self ..)
        rw [List.flatMap_cons, List.map_cons, ih fun x hx => hL x (List.mem_cons_of_mem _ hx), e1 c hc]
        by_cases hw : c ∈ W
        · have hn : upc c ∉ W := fun z => h.one c hw (by rw [e1 c hc]; exact z)
          simp [hw, hn]
        · have hy : upc c ∈ W := (full c hc).resolve_left hw
          simp [hw, hy]
    exact this l fun c hc => hc
  · refine (rms_mem g hb _).mpr ⟨_, rfl, fun x y hxy ⟨v1, v2⟩ => ?_⟩
    obtain ⟨x', y', e, hx, hy, _⟩ := bar_two (hb _ hxy)
    cases e
    have vW : ∀ t ∈ sds l, val (fun c => decide (c ∈ W)) t = true → t ∈ W := fun t ht v => by
      rcases sds_shape g ht with z | z
      · rw [val_small ⟨z.1, z.2.1⟩] at v
        exact of_decide_eq_true v
      · unfold val at v
        rw [if_pos (by omega)] at v
        have hn : t + 32 ∉ W := by simpa using v
        have := (full (t + 32) z.2.2).resolve_left hn
        rw [upc_small (by omega), show t + 32 - 32 = t by omega] at this
        exact this
    exact h.one y (vW y hy v2) (h.adj x (vW x hx v1) _ ((adj_iff g hb (sds_lt g (sds_swp g hy))).mpr (.inl (by rw [swp_swp (sds_lt g hy)]; exact hxy))))
/-- what the greedy going finds is the first room of the part -/
theorem first_room_is {P : List Nat} (hP : ∀ c ∈ P, c ∈ sds l) {q : List Nat} (hq : q ∈ rms l bs) (hin : ∀ s ∈ P, s ∈ q) :
    ∃ t, (rms l bs).filter (fun r => inR P r) = byWT l (wS fo l (byWT l (allFo fo P)) l.length) :: t := by
  have bm : ∀ t, t ∈ byWT l (allFo fo P) ↔ t ∈ allFo fo P := fun t => by
    rw [byWT_mem g]
    exact ⟨fun h => h.2, fun h => ⟨allFo_sd g hb hf hP h, h⟩⟩
  have c0 : Clo l bs (byWT l (allFo fo P)) := ⟨fun t ht => (byWT_mem g |>.mp ht).1, fun t ht u hu => (bm u).mpr (allFo_adj g hb hf hP ((bm t).mp ht) hu), fun t ht h2 => room_one g hb hf hq (byWT_mem g |>.mp ht).1 (allFo_in g hb hf hP hq hin ((bm t).mp ht)) (allFo_in g hb hf hP hq hin ((bm _).mp h2))⟩
  have self : ∀ t ∈ P, t ∈ byWT l (allFo fo P) := fun t ht => (bm t).mpr (allFo_self g hb hf hP ht)
  have inq : ∀ q ∈ rms l bs, (∀ s ∈ P, s ∈ q) → ∀ t ∈ byWT l (allFo fo P), t ∈ q := fun q hq hin t ht => allFo_in g hb hf hP hq hin ((bm t).mp ht)
  generalize byWT l (allFo fo P) = W0 at c0 self inq
  have cF := wS_clo g hb hf ok c0 l.length (Nat.le_refl _)
  have full : ∀ c ∈ l, c ∈ wS fo l W0 l.length ∨ upc c ∈ wS fo l W0 l.length := fun c hc => by
    obtain ⟨i, hi, rfl⟩ := List.getElem_of_mem hc
    exact (wS_full g hb hf ok hi).imp (wS_le hi) (wS_le hi)
  obtain ⟨eZ, hZ⟩ := clo_room g hb hf ok cF full
  have stage : ∀ i, (hi : i < l.length) → l[i] ∈ wS fo l W0 l.length → l[i] ∈ wS fo l W0 i := fun i hi h => by
    refine Decidable.byContradiction fun hn => ?_
    have e : l.getD i 0 = l[i] := by rw [List.getD_eq_getElem?_getD, List.getElem?_eq_getElem hi]; rfl
    have sm := g.sm _ (List.getElem_mem hi)
    have hg : upc l[i] ∈ sds l := by rw [upc_small sm]; exact sds_of_great g (List.getElem_mem hi)
    have : upc l[i] ∈ wS fo l W0 (i + 1) := by
      show _ ∈ (if l.getD i 0 ∈ wS fo l W0 i then wS fo l W0 i else wS fo l W0 i ++ fo (upc (l.getD i 0)))
      rw [e, if_neg hn]
      exact List.mem_append_right _ ((hf _ hg _).mpr Frc.refl)
    have := wS_le (j := l.length) hi this
    refine cF.one _ h ?_
    rw [swp_small sm, ← upc_small sm]
    exact this
  rw [eZ]
  have zget : ∀ i, (hi : i < l.length) → (rmOf l (fun c => decide (c ∈ wS fo l W0 l.length))).getD i 0 = if l[i] ∈ wS fo l W0 l.length then l[i] else upc l[i] := fun i hi => by
    rw [rm_get hi]
    by_cases h : l[i] ∈ wS fo l W0 l.length <;> simp [h]
  have pwr : (rms l bs).Pairwise (Bef l) := by
    unfold rms
    exact (allT_pw l l.length).filter _
  refine first_is pwr (List.mem_filter.mpr ⟨hZ, inR_iff.mpr fun s hs => ?_⟩) fun y hy hiy ⟨i, h1, h2, h3, h4, h5⟩ => ?_
  · rw [← eZ]
    exact (byWT_mem g).mpr ⟨hP s hs, wS_le (Nat.zero_le _) (self s hs)⟩
  · rw [rm_len] at h2
    have e : l.getD i 0 = l[i] := by rw [List.getD_eq_getElem?_getD, List.getElem?_eq_getElem h2]; rfl
    have sm := g.sm _ (List.getElem_mem h2)
    rw [e] at h4 h5
    have hiW : l[i] ∈ wS fo l W0 l.length := by
      refine Decidable.byContradiction fun hn => ?_
      rw [zget i h2, if_neg hn, upc_small sm] at h5
      omega
    have all : ∀ j, j ≤ i → ∀ t ∈ wS fo l W0 j, t ∈ y := fun j => by
      induction j with
      | zero => exact fun _ t ht => inq y hy (inR_iff.mp hiy) t ht
      | succ j ih =>
        intro hj t ht
        have ih := ih (by omega)
        have hjl : j < l.length := by omega
        have ej : l.getD j 0 = l[j] := by rw [List.getD_eq_getElem?_getD, List.getElem?_eq_getElem hjl]; rfl
        have smj := g.sm _ (List.getElem_mem hjl)
        have hgj : upc l[j] ∈ sds l := by rw [upc_small smj]; exact sds_of_great g (List.getElem_mem hjl)
        have ht2 : t ∈ (if l.getD j 0 ∈ wS fo l W0 j then wS fo l W0 j else wS fo l W0 j ++ fo (upc (l.getD j 0))) := ht
        rw [ej] at ht2
        by_cases hc : l[j] ∈ wS fo l W0 j
        · rw [if_pos hc] at ht2
          exact ih t ht2
        · rw [if_neg hc] at ht2
          rcases List.mem_append.mp ht2 with z | z
          · exact ih t z
          · have nW : l[j] ∉ wS fo l W0 l.length := fun z => hc (stage j hjl z)
            have zj := zget j hjl
            rw [if_neg nW] at zj
            have yj : y.getD j 0 = upc l[j] := by
              rw [← zj]
              have a1 : (y.take i)[j]? = y[j]? := List.getElem?_take_of_lt (by omega)
              have a2 : ((rmOf l (fun c => decide (c ∈ wS fo l W0 l.length))).take i)[j]? = (rmOf l (fun c => decide (c ∈ wS fo l W0 l.length)))[j]? := List.getElem?_take_of_lt (by omega)
              rw [List.getD_eq_getElem?_getD, List.getD_eq_getElem?_getD, ← a1, ← a2, h3]
            have ym : upc l[j] ∈ y := by
              rw [← yj, List.getD_eq_getElem?_getD, List.getElem?_eq_getElem (show j < y.length by omega)]
              exact List.getElem_mem _
            obtain ⟨p, rfl, sp⟩ := (rms_mem g hb y).mp hy
            have fr := (hf _ hgj t).mp z
            exact (rm_mem g (Frc.mem g hb hgj fr)).mpr (Sat.frc g hb sp ((rm_mem g hgj).mp ym) fr)
    have y1 := all i (Nat.le_refl _) _ (stage i h2 hiW)
    have y2 : upc l[i] ∈ y := by
      rw [← h4, List.getD_eq_getElem?_getD, List.getElem?_eq_getElem h1]
      exact List.getElem_mem _
    refine room_one g hb hf hy (sds_of_small (List.getElem_mem h2)) y1 ?_
    rw [swp_small sm, ← upc_small sm]
    exact y2
omit ok in
theorem shut_in {P : List Nat} (hP : ∀ c ∈ P, c ∈ sds l) {r : List Nat} (hr : r ∈ rms l bs) : inR (byWT l (allFo fo P)) r = inR P r := by
  rw [Bool.eq_iff_iff, inR_iff, inR_iff]
  exact ⟨fun h s hs => h s ((byWT_mem g).mpr ⟨hP s hs, allFo_self g hb hf hP hs⟩), fun h s hs => allFo_in g hb hf hP hr h ((byWT_mem g).mp hs).2⟩
end
theorem wS_len {fo : Nat → List Nat} {l W : List Nat} (fl : ∀ s ∈ sds l, (fo s).length ≤ 24) (g : GoodW l) : ∀ i, i ≤ l.length → (wS fo l W i).length ≤ W.length + 24 * i
  | 0, _ => Nat.le_refl _
  | i + 1, hi => by
    have ih := wS_len fl g (W := W) i (by omega)
    have hil : i < l.length := by omega
    have e : l.getD i 0 = l[i] := by rw [List.getD_eq_getElem?_getD, List.getElem?_eq_getElem hil]; rfl
    have sm := g.sm _ (List.getElem_mem hil)
    have hg : upc l[i] ∈ sds l := by rw [upc_small sm]; exact sds_of_great g (List.getElem_mem hil)
    have h24 := fl _ hg
    show (if l.getD i 0 ∈ wS fo l W i then wS fo l W i else wS fo l W i ++ fo (upc (l.getD i 0))).length ≤ _
    rw [e]
    split
    · omega
    · rw [List.length_append]
      omega
end NC
/-! what all rooms of a part have -/
namespace NC
open PySem PySem.Spec PyProof.Rows L2
/-- the sides of all rooms of a part, by its first room -/
def lshut (rs : List (List Nat)) (P : List Nat) : List Nat := match rs.filter fun r => inR P r with
  | [] => []
  | z :: t => z.filter fun s => (z :: t).all fun r => decide (s ∈ r)
section
variable {l : List Nat} (g : GoodW l) {bs : List (List Nat)} (hb : ∀ b ∈ bs, isBar l b = true) {fo : Nat → List Nat} (hf : ∀ s ∈ sds l, ∀ t, t ∈ fo s ↔ Frc (adjOf bs) s t) (ok : Okv l bs)
include g hb hf ok
theorem torn_iff {P : List Nat} (hP : ∀ c ∈ P, c ∈ sds l) : tornL l (allFo fo P) = [] ↔ ∃ z ∈ rms l bs, ∀ s ∈ P, s ∈ z := by
  constructor
  · intro h
    have c0 : Clo l bs (allFo fo P) := ⟨fun t ht => allFo_sd g hb hf hP ht, fun t ht u hu => allFo_adj g hb hf hP ht hu, fun t ht h2 => by
      have hs := allFo_sd g hb hf hP ht
      have : ∃ c ∈ l, c ∈ allFo fo P ∧ swp c ∈ allFo fo P := by
        rcases sds_shape g hs with z | z
        · exact ⟨t, z.2.2, ht, h2⟩
        · refine ⟨t + 32, z.2.2, ?_, ?_⟩
          · rw [swp_great ⟨z.1, z.2.1⟩] at h2
            exact h2
          · rw [swp_small (by omega), show t + 32 - 32 = t by omega]
            exact ht
      obtain ⟨c, hc, h3, h4⟩ := this
      have : c ∈ tornL l (allFo fo P) := List.mem_filter.mpr ⟨hc, by rw [decide_eq_true h3, decide_eq_true h4]; rfl⟩
      rw [h] at this
      cases this⟩
    have self : ∀ t ∈ P, t ∈ allFo fo P := fun t ht => allFo_self g hb hf hP ht
    generalize allFo fo P = W0 at c0 self
    have cF := wS_clo g hb hf ok c0 l.length (Nat.le_refl _)
    have full : ∀ c ∈ l, c ∈ wS fo l W0 l.length ∨ upc c ∈ wS fo l W0 l.length := fun c hc => by
      obtain ⟨i, hi, rfl⟩ := List.getElem_of_mem hc
      exact (wS_full g hb hf ok hi).imp (wS_le hi) (wS_le hi)
    obtain ⟨eZ, hZ⟩ := clo_room g hb hf ok cF full
    refine ⟨_, hZ, fun s hs => ?_⟩
    rw [← eZ]
    exact (byWT_mem g).mpr ⟨hP s hs, wS_le (Nat.zero_le _) (self s hs)⟩
  · rintro ⟨z, hz, hin⟩
    exact torn_no g hb hf hP hz hin
theorem side_room {s : Nat} (hs : s ∈ sds l) : ∃ z ∈ rms l bs, s ∈ z := by
  have hP : ∀ c ∈ [s], c ∈ sds l := fun c hc => by rw [List.mem_singleton.mp hc]; exact hs
  obtain ⟨z, hz, h⟩ := (torn_iff g hb hf ok hP).mp (by
    unfold tornL
    rw [List.filter_eq_nil_iff]
    intro c hc h
    rw [Bool.and_eq_true, decide_eq_true_eq, decide_eq_true_eq] at h
    obtain ⟨a1, h1, f1⟩ := (allFo_mem g hb hf hP).mp h.1
    obtain ⟨a2, h2, f2⟩ := (allFo_mem g hb hf hP).mp h.2
    rw [List.mem_singleton.mp h1] at f1
    rw [List.mem_singleton.mp h2] at f2
    exact no_self g hb hf ok hs (Frc.torn g hb hs f1 f2))
  exact ⟨z, hz, h s (List.mem_singleton.mpr rfl)⟩
theorem in_all {P : List Nat} (hP : ∀ c ∈ P, c ∈ sds l) {q : List Nat} (hq : q ∈ rms l bs) (hin : ∀ s ∈ P, s ∈ q) {t : Nat} (ht : t ∈ sds l) : (∀ r ∈ rms l bs, (∀ s ∈ P, s ∈ r) → t ∈ r) ↔ t ∈ allFo fo P := by
  refine ⟨fun h => Decidable.byContradiction fun hn => ?_, fun h r hr hi => allFo_in g hb hf hP hr hi h⟩
  obtain ⟨y, hy, hsw⟩ := side_room g hb hf ok (sds_swp g ht)
  obtain ⟨hN, hNin⟩ := wov_room g hb hf hP hq hin hy
  have h1 := h _ hN hNin
  have h2 : swp t ∈ wov (allFo fo P) y := by
    unfold wov
    refine List.mem_map.mpr ⟨swp t, hsw, ?_⟩
    rw [swp_swp (sds_lt g ht), if_neg hn]
  exact room_one g hb hf hN ht h1 h2
theorem room_filter {W q : List Nat} (hq : q ∈ rms l bs) (hW : ∀ t ∈ W, t ∈ q) : (q.filter fun t => decide (t ∈ W)) = byWT l W := by
  obtain ⟨p, rfl, sp⟩ := (rms_mem g hb q).mp hq
  have no : ∀ t ∈ sds l, t ∈ rmOf l p → swp t ∉ W := fun t ht h1 h2 => room_one g hb hf hq ht h1 (hW _ h2)
  have key : ∀ L : List Nat, (∀ c ∈ L, c ∈ l) → ((L.map fun c => if p c then c else upc c).filter fun t => decide (t ∈ W)) = L.flatMap fun c => [swp c, c].filter fun e => decide (e ∈ W) := fun L => by
    induction L with
    | nil => intro _; rfl
    | cons c r ih =>
      intro hL
      have hc := hL c (List.mem_cons_self ..)
      have sm := g.sm c hc
      have e1 : swp c = upc c := by rw [swp_small sm, upc_small sm]
      have e2 : swp (upc c) = c := by rw [upc_small sm, swp_great (by omega)]; omega
      have hg : upc c ∈ sds l := by rw [upc_small sm]; exact sds_of_great g hc
      rw [List.map_cons, List.filter_cons, List.flatMap_cons, ih fun x hx => hL x (List.mem_cons_of_mem _ hx), e1]
      have mem : (if p c then c else upc c) ∈ rmOf l p := List.mem_map.mpr ⟨c, hc, rfl⟩
      by_cases hp : p c = true
      · rw [if_pos hp] at mem ⊢
        have h3 := no c (sds_of_small hc) mem
        rw [e1] at h3
        by_cases h4 : c ∈ W <;> simp [h3, h4]
      · rw [if_neg hp] at mem ⊢
        have h3 := no _ hg mem
        rw [e2] at h3
        by_cases h4 : upc c ∈ W <;> simp [h3, h4]
  exact key l fun c hc => hc
theorem lshut_is {P : List Nat} (hP : ∀ c ∈ P, c ∈ sds l) {q : List Nat} (hq : q ∈ rms l bs) (hin : ∀ s ∈ P, s ∈ q) : lshut (rms l bs) P = byWT l (allFo fo P) := by
  unfold lshut
  have mem : ∀ r, r ∈ (rms l bs).filter (fun r => inR P r) ↔ r ∈ rms l bs ∧ ∀ s ∈ P, s ∈ r := fun r => by rw [List.mem_filter, inR_iff]
  match hL : (rms l bs).filter fun r => inR P r with
  | [] =>
    have := (mem q).mpr ⟨hq, hin⟩
    rw [hL] at this
    cases this
  | z :: t =>
    rw [hL] at mem
    have hz := (mem z).mp (List.mem_cons_self ..)
    have hzs : ∀ s ∈ z, s ∈ sds l := fun s hs => by
      obtain ⟨p, rfl, _⟩ := (rms_mem g hb z).mp hz.1
      exact rm_asc g hs
    show (z.filter fun s => (z :: t).all fun r => decide (s ∈ r)) = _
    rw [← room_filter g hb hf ok hz.1 fun s hs => allFo_in g hb hf hP hz.1 hz.2 hs]
    refine List.filter_congr fun s hs => ?_
    rw [Bool.eq_iff_iff, List.all_eq_true, decide_eq_true_eq, ← in_all g hb hf ok hP hq hin (hzs s hs)]
    exact ⟨fun h r hr hi => of_decide_eq_true (h r ((mem r).mpr ⟨hr, hi⟩)), fun h r hr => decide_eq_true (h r ((mem r).mp hr).1 ((mem r).mp hr).2)⟩
theorem lshut_one {s : Nat} (hs : s ∈ sds l) {t : Nat} : t ∈ lshut (rms l bs) [s] ↔ t ∈ fo s := by
  have hP : ∀ c ∈ [s], c ∈ sds l := fun c hc => by rw [List.mem_singleton.mp hc]; exact hs
  obtain ⟨z, hz, hin⟩ := side_room g hb hf ok hs
  have ea : allFo fo [s] = fo s := by simp [allFo]
  rw [lshut_is g hb hf ok hP hz fun c hc => by rw [List.mem_singleton.mp hc]; exact hin, byWT_mem g, ea]
  exact ⟨fun h => h.2, fun h => ⟨Frc.mem g hb hs ((hf s hs t).mp h), h⟩⟩
end
theorem lshut_len {rs : List (List Nat)} {P : List Nat} {n : Nat} (h : ∀ r ∈ rs, r.length ≤ n) : (lshut rs P).length ≤ n := by
  unfold lshut
  match hL : rs.filter fun r => inR P r with
  | [] => exact Nat.zero_le _
  | z :: t =>
    refine Nat.le_trans (List.length_filter_le _ _) (h z ?_)
    have : z ∈ rs.filter fun r => inR P r := by rw [hL]; exact List.mem_cons_self ..
    exact (List.mem_filter.mp this).1
end NC
/-! calls that are taken from behind -/
namespace NC
open PySem PySem.Spec PyProof.Rows L2
def low (T : List Nat) : List Nat := T.map lwc
def stray (T W goal : List Nat) : List Nat := T.filter fun s => decide (lwc s ∉ W) && decide (s ∉ goal)
def bad (T kept goal : List Nat) : List Nat := T.filter fun s => decide (s ∉ goal) && decide (lwc s ∉ kept)
abbrev TkW := List Nat × List Nat
def mayT (ts : List (List Nat)) (goal : List Nat) (s : TkW) (k : Nat) : Bool := decide (k ∉ s.1) && decide (stray (ts.getD k []) s.2 goal = [])
def nxt (ts : List (List Nat)) (goal : List Nat) (s : TkW) : Option Nat := (List.range ts.length).find? (mayT ts goal s)
def stp (ts : List (List Nat)) (goal : List Nat) (s : TkW) : TkW := match nxt ts goal s with
  | none => s
  | some k => (s.1 ++ [k], s.2 ++ low (ts.getD k []))
def itr (ts : List (List Nat)) (goal : List Nat) : Nat → TkW
  | 0 => ([], [])
  | i + 1 => stp ts goal (itr ts goal i)
section
variable {ts : List (List Nat)} {goal : List Nat}
theorem nxt_some {s : TkW} {k : Nat} (h : nxt ts goal s = some k) : k < ts.length ∧ k ∉ s.1 ∧ stray (ts.getD k []) s.2 goal = [] := by
  have h1 := List.find?_some h
  have h2 := List.mem_of_find?_eq_some h
  unfold mayT at h1
  rw [Bool.and_eq_true, decide_eq_true_eq, decide_eq_true_eq] at h1
  exact ⟨List.mem_range.mp h2, h1.1, h1.2⟩
theorem itr_some {i k : Nat} (h : nxt ts goal (itr ts goal i) = some k) : itr ts goal (i + 1) = ((itr ts goal i).1 ++ [k], (itr ts goal i).2 ++ low (ts.getD k [])) := by
  show stp ts goal (itr ts goal i) = _
  unfold stp
  rw [h]
theorem itr_none {i : Nat} (h : nxt ts goal (itr ts goal i) = none) : ∀ j, i ≤ j → itr ts goal j = itr ts goal i := fun j hj => by
  induction j with
  | zero => rw [show i = 0 by omega]
  | succ j ih =>
    rcases Nat.lt_or_ge j i with z | z
    · rw [show i = j + 1 by omega]
    · have e := ih z
      show stp ts goal (itr ts goal j) = _
      unfold stp
      rw [e, h]
theorem itr_ok (i : Nat) : (itr ts goal i).1.Nodup ∧ (∀ k ∈ (itr ts goal i).1, k < ts.length) ∧ (itr ts goal i).1.length ≤ i ∧ (itr ts goal i).2 = (itr ts goal i).1.flatMap fun k => low (ts.getD k []) := by
  induction i with
  | zero => exact ⟨by simp [itr], by simp [itr], by simp [itr], by simp [itr]⟩
  | succ i ih =>
    obtain ⟨h1, h2, h3, h4⟩ := ih
    cases h : nxt ts goal (itr ts goal i) with
    | none =>
      rw [itr_none h (i + 1) (by omega)]
      exact ⟨h1, h2, by omega, h4⟩
    | some k =>
      obtain ⟨k1, k2, k3⟩ := nxt_some h
      rw [itr_some h]
      refine ⟨?_, fun j hj => ?_, ?_, ?_⟩
      · rw [List.nodup_append]
        exact ⟨h1, by simp, fun a ha b hb e => k2 (by rw [List.mem_singleton.mp hb] at e; rw [← e]; exact ha)⟩
      · rcases List.mem_append.mp hj with z | z
        · exact h2 j z
        · rw [List.mem_singleton.mp z]; exact k1
      · show ((itr ts goal i).1 ++ [k]).length ≤ i + 1
        rw [List.length_append]
        show _ + 1 ≤ _
        omega
      · show (itr ts goal i).2 ++ low (ts.getD k []) = ((itr ts goal i).1 ++ [k]).flatMap _
        rw [List.flatMap_append, ← h4]
        simp
theorem nodup_lt {L : List Nat} (nd : L.Nodup) {n : Nat} (h : ∀ k ∈ L, k < n) : L.length ≤ n := by
  have := nd.length_le_of_subset (l₂ := List.range n) fun k hk => List.mem_range.mpr (h k hk)
  rw [List.length_range] at this
  exact this
/-- one taken more: there is room yet -/
theorem itr_lt {j k : Nat} (hl : (itr ts goal j).1.length = j) (h : nxt ts goal (itr ts goal j) = some k) : j < ts.length := by
  obtain ⟨h1, h2, _⟩ := itr_ok (ts := ts) (goal := goal) (j + 1)
  have := nodup_lt h1 h2
  rw [itr_some h] at this
  have e : ((itr ts goal j).1 ++ [k]).length = j + 1 := by rw [List.length_append, hl]; rfl
  have : ((itr ts goal j).1 ++ [k]).length ≤ ts.length := this
  omega
theorem itr_end {j : Nat} (hj : j ≤ ts.length) (h : nxt ts goal (itr ts goal j) = none) : itr ts goal ts.length = itr ts goal j := itr_none h _ hj
theorem itr_stop : nxt ts goal (itr ts goal ts.length) = none := by
  have key : ∀ j, j ≤ ts.length → (∃ i, i ≤ j ∧ nxt ts goal (itr ts goal i) = none) ∨ (itr ts goal j).1.length = j := fun j => by
    induction j with
    | zero => exact fun _ => .inr rfl
    | succ j ih =>
      intro hj
      rcases ih (by omega) with ⟨i, hi, h⟩ | h
      · exact .inl ⟨i, by omega, h⟩
      · cases hn : nxt ts goal (itr ts goal j) with
        | none => exact .inl ⟨j, by omega, hn⟩
        | some k =>
          refine .inr ?_
          rw [itr_some hn]
          show ((itr ts goal j).1 ++ [k]).length = j + 1
          rw [List.length_append, h]
          rfl
  rcases key ts.length (Nat.le_refl _) with ⟨i, hi, h⟩ | h
  · rw [itr_end hi h]
    exact h
  · cases hn : nxt ts goal (itr ts goal ts.length) with
    | none => rfl
    | some k => exact absurd (itr_lt h hn) (Nat.lt_irrefl _)
theorem stop_bad {s : TkW} (h : nxt ts goal s = none) {k : Nat} (hk : k < ts.length) (hn : k ∉ s.1) : stray (ts.getD k []) s.2 goal ≠ [] := fun z => by
  have := List.find?_eq_none.mp h k (List.mem_range.mpr hk)
  unfold mayT at this
  rw [z, decide_eq_true hn] at this
  simp at this
theorem nxt_at {s : TkW} {i : Nat} (hi : i < ts.length) (no : ∀ j, j < i → mayT ts goal s j = false) (yes : mayT ts goal s i = true) : nxt ts goal s = some i := by
  unfold nxt
  refine List.find?_eq_some_iff_getElem.mpr ⟨yes, i, by simpa using hi, by simp, fun j hj => ?_⟩
  rw [List.getElem_range, no j hj]
  rfl
theorem nxt_no {s : TkW} (no : ∀ j, j < ts.length → mayT ts goal s j = false) : nxt ts goal s = none := List.find?_eq_none.mpr fun j hj => by
  rw [no j (List.mem_range.mp hj)]
  simp
end
/-! what the law keeps -/
def keptL (l W : List Nat) : List Nat := l.filter fun c => decide (c ∈ W)
def ltrs' : List Nat := (List.range 26).map (· + 97)
def byS (X : List Nat) : List Nat := ltrs'.flatMap fun c => X.filter fun s => decide (lwc s = c)
theorem lwc_sd {l : List Nat} (g : GoodW l) {s : Nat} (h : s ∈ sds l) : lwc s ∈ l := by
  rcases sds_shape g h with z | z
  · unfold lwc
    rw [if_neg (by omega)]
    exact z.2.2
  · unfold lwc
    rw [if_pos (by omega)]
    exact z.2.2
theorem low_mem {l : List Nat} (g : GoodW l) {T : List Nat} (h : ∀ c ∈ T, c ∈ sds l) : ∀ c ∈ low T, c ∈ l := fun c hc => by
  obtain ⟨s, hs, rfl⟩ := List.mem_map.mp hc
  exact lwc_sd g (h s hs)
theorem kept_mem {l W : List Nat} {c : Nat} : c ∈ keptL l W ↔ c ∈ l ∧ c ∈ W := by
  unfold keptL
  rw [List.mem_filter, decide_eq_true_eq]
theorem bad_is {l : List Nat} (g : GoodW l) {T W goal : List Nat} (h : ∀ c ∈ T, c ∈ sds l) : bad T (keptL l W) goal = stray T W goal := by
  unfold bad stray
  refine List.filter_congr fun s hs => ?_
  have e : decide (lwc s ∉ keptL l W) = decide (lwc s ∉ W) := by
    rw [Bool.eq_iff_iff, decide_eq_true_eq, decide_eq_true_eq, kept_mem]
    exact ⟨fun z y => z ⟨lwc_sd g (h s hs), y⟩, fun z y => z y.2⟩
  rw [e, Bool.and_comm]
theorem rise_eq {a b : List Nat} (ha : a.Pairwise (· < ·)) (hb : b.Pairwise (· < ·)) (h : ∀ c, c ∈ a ↔ c ∈ b) : a = b := by
  have p : a.Perm b := (List.perm_ext_iff_of_nodup (ha.imp fun h => Nat.ne_of_lt h) (hb.imp fun h => Nat.ne_of_lt h)).mpr h
  exact p.eq_of_pairwise (fun x y _ _ h1 h2 => by omega) ha hb
theorem ltrs_rise : ltrs'.Pairwise (· < ·) := by decide +kernel
theorem byS_is {l : List Nat} (g : GoodW l) {X : List Nat} (nd : X.Nodup) (h : ∀ c ∈ X, c ∈ l) : byS X = l.filter fun c => decide (c ∈ X) := by
  have e1 : byS X = ltrs'.filter fun c => decide (c ∈ X) := by
    unfold byS
    have one : ∀ c, (X.filter fun s => decide (lwc s = c)) = if c ∈ X then [c] else [] := fun c => by
      have e : (X.filter fun s => decide (lwc s = c)) = X.filter fun s => decide (s = c) := List.filter_congr fun s hs => by
        have := g.sm s (h s hs)
        have : lwc s = s := by unfold lwc; rw [if_neg (by omega)]
        rw [this]
      rw [e]
      clear e h
      induction X with
      | nil => rfl
      | cons x r ih =>
        have hn := List.nodup_cons.mp nd
        rw [List.filter_cons, ih hn.2]
        by_cases z : x = c
        · subst z
          simp [hn.1]
        · have z2 : ¬ c = x := fun y => z y.symm
          simp [z, z2]
    rw [show (fun c => X.filter fun s => decide (lwc s = c)) = fun c => if c ∈ X then [c] else [] from funext one]
    generalize ltrs' = L
    induction L with
    | nil => rfl
    | cons c r ih =>
      rw [List.flatMap_cons, ih, List.filter_cons]
      by_cases z : c ∈ X <;> simp [z]
  rw [e1]
  refine rise_eq (ltrs_rise.filter _) (g.rise.filter _) fun c => ?_
  rw [List.mem_filter, List.mem_filter, decide_eq_true_eq]
  refine ⟨fun z => ⟨h c z.2, z.2⟩, fun z => ⟨?_, z.2⟩⟩
  have := g.sm c z.1
  unfold ltrs'
  exact List.mem_map.mpr ⟨c - 97, List.mem_range.mpr (by omega), by omega⟩
theorem kept_step {l : List Nat} (g : GoodW l) {W T : List Nat} (hT : Part l T) : byS (keptL l W ++ (low T).filter fun c => decide (c ∉ keptL l W)) = keptL l (W ++ low T) := by
  have lm := low_mem g hT.sd
  have lnd : (low T).Nodup := (part_pw g hT).imp fun h => Nat.ne_of_lt h
  rw [byS_is g]
  · unfold keptL
    refine List.filter_congr fun c hc => ?_
    rw [Bool.eq_iff_iff, decide_eq_true_eq, decide_eq_true_eq, List.mem_append, List.mem_append, List.mem_filter, List.mem_filter, decide_eq_true_eq, decide_eq_true_eq]
    constructor
    · rintro (z | z)
      · exact .inl z.2
      · exact .inr z.1
    · rintro (z | z)
      · exact .inl ⟨hc, z⟩
      · by_cases y : c ∈ W
        · exact .inl ⟨hc, y⟩
        · exact .inr ⟨z, fun k => y (by have := List.mem_filter.mp k; exact of_decide_eq_true this.2)⟩
  · rw [List.nodup_append]
    refine ⟨g.nd.sublist List.filter_sublist, lnd.sublist List.filter_sublist, fun a ha b hb e => ?_⟩
    have := (List.mem_filter.mp hb).2
    rw [decide_eq_true_eq] at this
    exact this (by rw [← e]; exact ha)
  · intro c hc
    rcases List.mem_append.mp hc with z | z
    · exact (kept_mem.mp z).1
    · exact lm c (List.mem_filter.mp z).1
/-- a shut text is a part -/
theorem shut_part {l : List Nat} (g : GoodW l) {bs : List (List Nat)} (hb : ∀ b ∈ bs, isBar l b = true) {fo : Nat → List Nat} (hf : ∀ s ∈ sds l, ∀ t, t ∈ fo s ↔ Frc (adjOf bs) s t) (ok : Okv l bs) {P : List Nat} (hP : ∀ c ∈ P, c ∈ sds l) {q : List Nat} (hq : q ∈ rms l bs) (hin : ∀ s ∈ P, s ∈ q) : Part l (byWT l (allFo fo P)) := by
  rw [← room_filter g hb hf ok hq fun s hs => allFo_in g hb hf hP hq hin hs]
  have h1 : q.map lwc = l := by
    obtain ⟨p, rfl, _⟩ := (rms_mem g hb q).mp hq
    unfold rmOf
    rw [List.map_map]
    refine Eq.trans (List.map_congr_left fun c hc => ?_) (List.map_id l)
    have sm := g.sm c hc
    show lwc (if p c then c else upc c) = c
    split
    · unfold lwc; rw [if_neg (by omega)]
    · rw [upc_small sm]; unfold lwc; rw [if_pos (by omega)]; omega
  refine ⟨?_, fun c hc => ?_⟩
  · have := (List.filter_sublist (p := fun c => decide (c ∈ allFo fo P)) (l := q)).map lwc
    rw [h1] at this
    exact this
  · obtain ⟨p, rfl, _⟩ := (rms_mem g hb q).mp hq
    exact rm_asc g (List.mem_filter.mp hc).1
end NC
namespace NC
open PySem PySem.Spec PyProof.Rows L2
abbrev sShCalls : Stmt := topS 38
abbrev sStray : Stmt := topS 39
abbrev sIsGood : Stmt := topS 40
abbrev sNextB : Stmt := topS 42
abbrev sTakenB : Stmt := topS 43
abbrev sTakenA : Stmt := topS 53
abbrev nNextB : List Str := ["shut_texts", "behind", "goal", "taken", "walls", "place", "written", "is_free", "later"]
theorem scShCalls : FnScope ["hall", "calls", "most", "part"] ["hall", "calls", "most"] (defScope sShCalls) := ⟨rfl, rfl, rfl, by decide +kernel, rfl, by decide +kernel, by decide +kernel⟩
theorem scStray : FnScope ["written", "walls", "goal", "side"] ["written", "walls", "goal"] (defScope sStray) := ⟨rfl, rfl, rfl, by decide +kernel, rfl, by decide +kernel, by decide +kernel⟩
theorem scIsGood : FnScope ["written", "walls", "goal"] ["written", "walls", "goal"] (defScope sIsGood) := ⟨rfl, rfl, rfl, by decide +kernel, rfl, by decide +kernel, by decide +kernel⟩
theorem scNextB : FnScope nNextB ["shut_texts", "behind", "goal", "taken", "walls"] (defScope sNextB) := ⟨rfl, rfl, rfl, by decide +kernel, rfl, by decide +kernel, by decide +kernel⟩
theorem scTakenB : FnScope ["shut_texts", "behind", "goal", "taken", "walls", "place"] ["shut_texts", "behind", "goal"] (defScope sTakenB) := ⟨rfl, rfl, rfl, by decide +kernel, rfl, by decide +kernel, by decide +kernel⟩
theorem scTakenA : FnScope ["shut_texts", "goal", "written"] ["shut_texts", "goal"] (defScope sTakenA) := ⟨rfl, rfl, rfl, by decide +kernel, rfl, by decide +kernel, by decide +kernel⟩
/-- the shut text of a part -/
def shT (l : List Nat) (fo : Nat → List Nat) (P : List Nat) : List Nat := byWT l (allFo fo P)
def nI (k : Nat) : V := .int (k : Int)
theorem nI_inj {a b : Nat} (h : nI a = nI b) : a = b := by
  have : (a : Int) = (b : Int) := by injection h
  omega
theorem inV_nI (k : Nat) (xs : List Nat) : inV (nI k) (xs.map nI) = decide (k ∈ xs) := by
  unfold inV
  rw [List.any_map, Bool.eq_iff_iff, List.any_eq_true, decide_eq_true_eq]
  constructor
  · rintro ⟨x, hx, e⟩
    have e : ((x : Int) == (k : Int)) = true := e
    have : (x : Int) = (k : Int) := eq_of_beq e
    rw [show k = x by omega]
    exact hx
  · intro h
    exact ⟨k, h, by show ((k : Int) == (k : Int)) = true; simp⟩
theorem flat_nI (xs : List Nat) : (xs.map nI).all flatV = true := by
  rw [List.all_map, List.all_eq_true]
  exact fun x _ => rfl
section
variable {P : Program} {w : World} {K : PySem.W.Frag} {mg : Str → Option Value} {base : Heap} {C fi fb fm fr fg fw ff : Addr} {di db dm dr dg dw df : FuncData}
/-! ### shut_calls, let by -/
def spShCalls (K : PySem.W.Frag) (C : Addr) : Sp := fun vs H Q _ => ∃ x dx sb D l ys fo bs a, ∃ (Ps : List (List Nat)), vs = [.ref x, .ref a, .int 12] ∧ HallF C H x dx sb D l ys fo bs ∧ (SqL K H a ((Ps.map tx).map V.str) ∨ SqT K H a ((Ps.map tx).map V.str)) ∧ Ps.length ≤ 12 ∧ (∀ P ∈ Ps, Part l P ∧ ∃ z ∈ rms l bs, ∀ s ∈ P, s ∈ z) ∧
  ∀ H' p, Same H H' → H p = none → H' p = some (.lst (((Ps.map (shT l fo)).map tx).map V.str)) → Q (.ref p) H'
set_option maxHeartbeats 1000000 in
theorem ok_shCalls {f fC fS fO fBy fIsP fChP fAFB fTo fSh : Addr} {fd dC dS dO dBy dIsP dChP dAFB dTo dSh : FuncData} {k : Nat} (B : BM mg) (Z : HC K mg C fi fb di db) (T : PT K mg C fw ff dw df fIsP fChP fAFB fTo dIsP dChP dAFB dTo) (Cs : DF K mg "check_side" sChkSide ["walls", "side"] fC dC) (S : DF K mg "sides_of" sSides ["walls"] fS dS) (O : DF K mg "other" sOther ["side"] fO dO) (By : DF K mg "by_walls" sByWalls ["walls", "sides"] fBy dBy)
    (Sh : DF K mg "shut" sShut ["hall", "part"] fSh dSh) (F : Fun K "shut_calls" "shut_calls" sShCalls f fd) : FnOk P w K mg base CX0 (k + 7) f fd ["hall", "calls", "most"] (spShCalls K C) := by
  have GS : FnOk P w K mg base CX0 (k + 6) fSh dSh ["hall", "part"] (spShut C) := ok_shut B Z T Cs S O By Sh.F
  refine F.ok scShCalls (fun vs H Q E h => ?_) (fun cdv A0 outer st H vs Q E hr h => ?_)
  · obtain ⟨x, dx, sb, D, l, ys, fo, bs, a, Ps, rfl, _⟩ := h
    rfl
  · obtain ⟨x, dx, sb, D, l, ys, fo, bs, a, Ps, rfl, hF, hS, hn, hPs, q⟩ := h
    have nd := scShCalls.nd
    refine ⟨_, pss_cons (ps_if (pt_cmpR op_gt (pe_callB call_len_seq (by rfl) B.len PySem.boot_len (pa_cons (pv 1) pa_nil)) (pv 2) (nomark _)) (pss_one ps_dead) pss_nil)
      (pss_one (ps_ret (pe_lc (own := [("part", 3)]) (g := gName 3) (tt := tYes) (te := tCall (spShut C) [] E0 (tCons (tVar 0) (tCons (tVar 3) tNil))) rfl nd (pi_seq (pv 1)) (blkOk_by (N := ["hall", "calls", "most", "part"]) (sc := defScope sShCalls) (by decide +kernel)) (fun _ _ _ _ _ => pg_name (i := 3) nd rfl (Or.inl rfl)) (fun _ _ _ _ _ => pts_nil)
        (fun _ _ _ _ _ => pe_call GS hr rfl Sh.g Sh.F.kp Sh.b .nil pass0 (pa_cons (pv 0) (pa_cons (pv 3) pa_nil)))))), ?_⟩
    refine ⟨_, rfl, a, _, rfl, hS, _, rfl, _, _, rfl, rfl, _, rfl, ?_⟩
    rw [decide_eq_false (by rw [List.length_map, List.length_map]; omega)]
    refine iteF ?_
    rcases hS with hS | hS
    · have wk := walk_list (K := K) (a := a) (xs := (Ps.map tx).map V.str)
      rw [List.length_map, List.length_map] at wk
      refine ⟨_, rfl, a, rfl, .inl ⟨⟨_, hS⟩, fun Da na => ?_⟩⟩
      refine lc_it wk (fun i H' => Same H H' ∧ H' Da = some (.lst ((((Ps.take i).map (shT l fo)).map tx).map V.str))) ⟨same_upd na, upd_same⟩ (fun i H' _ h => sm_l h.1 hS) ?_ ?_
      · rintro u v G1 G2 hu ⟨u1, e1⟩ ⟨rfl, hx⟩
        rw [List.getElem?_map, List.getElem?_map] at hx
        obtain ⟨z2, hz2, rfl⟩ := Option.map_eq_some_iff.mp hx
        obtain ⟨o, ho2, rfl⟩ := Option.map_eq_some_iff.mp hz2
        obtain ⟨pO, z, hz, hin⟩ := hPs o (List.mem_of_getElem? ho2)
        refine ⟨rfl, yes_i ⟨_, rfl, _, rfl, x, dx, sb, D, l, ys, fo, bs, o, z, rfl, hF.same u1, pO, hz, hin, fun G3 u3 => ⟨_, u3 _ _ e1, ?_, sm_over (sm_trans u1 u3) na, ?_⟩⟩⟩
        · rw [List.length_map, List.length_map, List.length_map, List.length_take, sizeLine_eq]
          omega
        · rw [upd_same, List.take_add_one, ho2, List.map_append, List.map_append, List.map_append]
          rfl
      · rintro H1 ⟨s1, e1⟩
        rw [List.take_length] at e1
        exact q H1 Da s1 na e1
    · have wk := walk_tup (K := K) (a := a) (xs := (Ps.map tx).map V.str)
      rw [List.length_map, List.length_map] at wk
      refine ⟨_, rfl, a, rfl, .inr ⟨⟨_, hS⟩, fun Da na => ?_⟩⟩
      refine lc_it wk (fun i H' => Same H H' ∧ H' Da = some (.lst ((((Ps.take i).map (shT l fo)).map tx).map V.str))) ⟨same_upd na, upd_same⟩ (fun i H' _ h => sm_t h.1 hS) ?_ ?_
      · rintro u v G1 G2 hu ⟨u1, e1⟩ ⟨rfl, hx⟩
        rw [List.getElem?_map, List.getElem?_map] at hx
        obtain ⟨z2, hz2, rfl⟩ := Option.map_eq_some_iff.mp hx
        obtain ⟨o, ho2, rfl⟩ := Option.map_eq_some_iff.mp hz2
        obtain ⟨pO, z, hz, hin⟩ := hPs o (List.mem_of_getElem? ho2)
        refine ⟨rfl, yes_i ⟨_, rfl, _, rfl, x, dx, sb, D, l, ys, fo, bs, o, z, rfl, hF.same u1, pO, hz, hin, fun G3 u3 => ⟨_, u3 _ _ e1, ?_, sm_over (sm_trans u1 u3) na, ?_⟩⟩⟩
        · rw [List.length_map, List.length_map, List.length_map, List.length_take, sizeLine_eq]
          omega
        · rw [upd_same, List.take_add_one, ho2, List.map_append, List.map_append, List.map_append]
          rfl
      · rintro H1 ⟨s1, e1⟩
        rw [List.take_length] at e1
        exact q H1 Da s1 na e1
/-! ### stray_sides, is_good -/
def spStray : Sp := fun vs H Q _ => ∃ T W goal, vs = [.str (tx T), .str (tx W), .str (tx goal)] ∧ (∀ c ∈ T, c < 128) ∧ T.length ≤ 100 ∧ ∀ H' p, Same H H' → H p = none → H' p = some (.lst (((stray T W goal).map sg).map V.str)) → Q (.ref p) H'
def rNSg : R2 := fun x y H Q => ∃ (c : Nat) (z : Str), x = .str ⟨#[c]⟩ ∧ y = .str z ∧ Q (.bl (!decide (c ∈ z.cps.toList))) H
def tLow (te : TE) : TE := tM0 (fun x xs H Q => ∃ a, x = .str a ∧ xs = [] ∧ a.length ≤ 5592405 ∧ Q (.str (Txt.lower a)) H) te
theorem low_sg {c : Nat} (h : c < 128) : Txt.lower (⟨#[c]⟩ : Str) = ⟨#[lwc c]⟩ := lower_tx (l := [c]) (fun e he => by rw [List.mem_singleton.mp he]; exact h)
set_option maxHeartbeats 1000000 in
theorem ok_stray {f : Addr} {fd : FuncData} {k : Nat} (F : Fun K "stray_sides" "stray_sides" sStray f fd) : FnOk P w K mg base CX0 (k + 1) f fd ["written", "walls", "goal"] spStray := by
  refine F.ok scStray (fun vs H Q E h => ?_) (fun cdv A0 outer st H vs Q E hr h => ?_)
  · obtain ⟨T, W, goal, rfl, _⟩ := h
    rfl
  · obtain ⟨T, W, goal, rfl, ta, tn, q⟩ := h
    have nd := scStray.nd
    refine ⟨_, pss_one (ps_ret (pe_lc (own := [("side", 3)]) (g := gName 3) (tt := tAnd (tTest (tOp rNSg (tLow (tVar 3)) (tVar 1))) (tTest (tOp rNSg (tVar 3) (tVar 2)))) rfl nd (pi_str (pv 0)) (blkOk_by (N := ["written", "walls", "goal", "side"]) (sc := defScope sStray) (by decide +kernel)) (fun _ _ _ _ _ => pg_name (i := 3) nd rfl (Or.inl rfl))
      (fun _ _ _ _ _ => pts_one (PW.pt (pw_and (pt_cmpR op_notIn_sign (pe_lower (pv 3)) (pv 1) (by rfl)) (pw_and1 (pt_cmpR op_notIn_sign (pv 3) (pv 2) (by rfl)))))) (fun _ _ _ _ _ => pv 3))), ?_⟩
    refine ⟨_, rfl, tx T, rfl, fun Da na => ?_⟩
    have lz : (tx T).cps.size = T.length := tx_len _
    have wk := walk_str (z := tx T)
    rw [lz] at wk
    refine lc_it wk (fun i H' => Same H H' ∧ H' Da = some (.lst (((stray (T.take i) W goal).map sg).map V.str))) ⟨same_upd na, upd_same⟩ (fun _ _ _ _ => trivial) ?_ ?_
    · rintro i v H1 H2 hi ⟨s1, e1⟩ ⟨rfl, c, hc, rfl⟩
      have hc : T[i]? = some c := by
        rw [← Array.getElem?_toList, tx_list] at hc
        exact hc
      have ca := ta c (List.mem_of_getElem? hc)
      have et : stray (T.take (i + 1)) W goal = stray (T.take i) W goal ++ [c].filter fun s => decide (lwc s ∉ W) && decide (s ∉ goal) := by
        unfold stray
        rw [List.take_add_one, hc, List.filter_append]
        rfl
      have tl : (stray (T.take i) W goal).length ≤ 100 := Nat.le_trans (List.length_filter_le _ _) (by rw [List.length_take]; omega)
      have no : (decide (lwc c ∉ W) && decide (c ∉ goal)) = false → Same H H2 ∧ H2 Da = some (.lst (((stray (T.take (i + 1)) W goal).map sg).map V.str)) := fun z => by
        refine ⟨s1, ?_⟩
        rw [e1, et, List.filter_cons, if_neg (by rw [z]; simp)]
        simp
      refine ⟨rfl, _, rfl, ⟨_, rfl⟩, _, rfl, rfl, by show 1 ≤ 5592405; decide, ?_⟩
      rw [low_sg ca]
      refine ⟨_, rfl, lwc c, tx W, rfl, rfl, _, rfl, ?_⟩
      rw [tx_list]
      refine ite2 (fun t1 => ?_) (fun t1 => no ?_)
      · have h1 : lwc c ∉ W := by simpa using t1
        refine ⟨_, rfl, _, rfl, c, tx goal, rfl, rfl, _, rfl, ?_⟩
        rw [tx_list]
        refine ite2 (fun t2 => ?_) (fun t2 => no ?_)
        · have h2 : c ∉ goal := by simpa using t2
          refine ⟨_, rfl, _, e1, by rw [List.length_map, List.length_map, sizeLine_eq]; omega, sm_over s1 na, ?_⟩
          rw [upd_same, et, List.filter_cons, if_pos (by rw [decide_eq_true h1, decide_eq_true h2]; rfl)]
          simp
          rfl
        · have h2 : c ∈ goal := by simpa using t2
          simp [h2]
      · have h1 : lwc c ∈ W := by simpa using t1
        simp [h1]
    · rintro H1 ⟨s1, e1⟩
      rw [List.take_length] at e1
      exact q H1 Da s1 na e1
def spGood : Sp := fun vs H Q _ => ∃ T W goal, vs = [.str (tx T), .str (tx W), .str (tx goal)] ∧ (∀ c ∈ T, c < 128) ∧ T.length ≤ 100 ∧ ∀ H', Same H H' → Q (.bl (decide (stray T W goal = []))) H'
theorem ok_good {f fS : Addr} {fd dS : FuncData} {k : Nat} (S : DF K mg "stray_sides" sStray ["written", "walls", "goal"] fS dS) (F : Fun K "is_good" "is_good" sIsGood f fd) : FnOk P w K mg base CX0 (k + 2) f fd ["written", "walls", "goal"] spGood := by
  have GS : FnOk P w K mg base CX0 (k + 1) fS dS ["written", "walls", "goal"] spStray := ok_stray S.F
  refine F.ok scIsGood (fun vs H Q E h => ?_) (fun cdv A0 outer st H vs Q E hr h => ?_)
  · obtain ⟨T, W, goal, rfl, _⟩ := h
    rfl
  · obtain ⟨T, W, goal, rfl, ta, tn, q⟩ := h
    refine ⟨_, pss_one (ps_ret (pe_notT (pe_call GS hr rfl S.g S.F.kp S.b .nil pass0 (pa_cons (pv 0) (pa_cons (pv 1) (pa_cons (pv 2) pa_nil)))))), ?_⟩
    refine ⟨_, rfl, _, rfl, _, rfl, T, W, goal, rfl, ta, tn, fun H1 p s1 np e1 => ⟨_, .inl ⟨_, SqL.of e1, rfl⟩, ?_⟩⟩
    rw [show (!(!(((stray T W goal).map sg).map V.str).isEmpty)) = decide (stray T W goal = []) by cases stray T W goal <;> rfl]
    exact q H1 s1
end
end NC
namespace NC
open PySem PySem.Spec PyProof.Rows L2
abbrev sLCalls : Stmt := topS 72
abbrev nLCalls : List Str := ["_law_d", "_law_shuts_here", "_law_rooms_here", "_law_most_it", "_law_k"]
theorem scLCalls : FnScope nLCalls ["_law_d", "_law_shuts_here", "_law_rooms_here", "_law_most_it"] (defScope sLCalls) := ⟨rfl, rfl, rfl, by decide +kernel, rfl, by decide +kernel, by decide +kernel⟩
section
variable {P : Program} {w : World} {K : PySem.W.Frag} {mg : Str → Option Value} {base : Heap}
/-! ### _law_calls -/
def spLCalls : Sp := fun vs H Q _ => ∃ d l bs rA, ∃ n : Nat, vs = [.ref d, .str (tx l), .ref rA, .int (n : Int)] ∧ n ≤ 100 ∧ Dr H d ∧ GoodW l ∧ (∀ b ∈ bs, isBar l b = true) ∧ rA ≠ d ∧ H rA = some (.lst (((rms l bs).map tx).map V.str)) ∧ rms l bs ≠ [] ∧ (rms l bs).length ≤ 1000 ∧
  ∀ H' p, ∀ Ps : List (List Nat), SmD d H H' → Dr H' d → H p = none → H' p = some (.lst ((Ps.map tx).map V.str)) → Ps.length ≤ n → (∀ P ∈ Ps, Part l P ∧ ∃ z ∈ rms l bs, ∀ s ∈ P, s ∈ z) → Q (.ref p) H'
set_option maxHeartbeats 1000000 in
theorem ok_lcalls {f fD fO fS fW fP : Addr} {fd dD dO dS dW dP : FuncData} {k : Nat} (B : BM mg) (hany : mg "any" = none) (F : Fun K "_law_calls" "_law_calls" sLCalls f fd) (D : DF K mg "_law_draw" sDraw ["_law_d", "_law_many_it"] fD dD) (Of : DF K mg "_law_of" sOf ["_law_d", "_law_some"] fO dO) (Sd : DF K mg "_law_sides" sLSides ["_law_d", "_law_shuts_here"] fS dS) (W : DF K mg "_law_within" sWithin ["_law_sides_here", "_law_room"] fW dW) (Pt : DF K mg "_law_part" sLPart ["_law_d", "_law_shuts_here", "_law_rooms_here"] fP dP) :
    FnOk P w K mg base CX0 (k + 5) f fd ["_law_d", "_law_shuts_here", "_law_rooms_here", "_law_most_it"] spLCalls := by
  have GD : FnOk P w K mg base CX0 (k + 1) fD dD ["_law_d", "_law_many_it"] spDraw := ok_draw B D.F
  have GP : FnOk P w K mg base CX0 (k + 4) fP dP ["_law_d", "_law_shuts_here", "_law_rooms_here"] spLPart := ok_lpart B hany Pt.F D Of Sd W
  refine F.ok scLCalls (fun vs H Q E h => ?_) (fun cdv A0 outer st H vs Q E hr h => ?_)
  · obtain ⟨d, l, bs, rA, n, rfl, _⟩ := h
    rfl
  · obtain ⟨d, l, bs, rA, n, rfl, hn, hD, g, hb, nrd, er, rne, rlen, q⟩ := h
    have nd := scLCalls.nd
    have r1 : Room (k + 1) _ := hr.mono (by omega)
    refine ⟨_, pss_one (ps_ret (pe_lc (own := [("_law_k", 4)]) (g := gName 4) (tt := tYes) (te := tCall spLPart [] E0 (tCons (tVar 0) (tCons (tVar 1) (tCons (tVar 2) tNil)))) rfl nd (pi_range1 (by rfl) B.range (pa_cons (pe_call GD r1 rfl D.g D.F.kp D.b .nil pass0 (pa_cons (pv 0) (pa_cons (pe_op op_add (pv 3) pe_int) pa_nil))) pa_nil)) (blkOk_by (N := nLCalls) (sc := defScope sLCalls) (by decide +kernel)) (fun _ _ _ _ _ => pg_name (i := 4) nd rfl (Or.inl rfl)) (fun _ _ _ _ _ => pts_nil)
      (fun _ _ _ _ _ => pe_call GP hr rfl Pt.g Pt.F.kp Pt.b .nil pass0 (pa_cons (pv 0) (pa_cons (pv 1) (pa_cons (pv 2) pa_nil)))))), ?_⟩
    refine ⟨_, rfl, _, rfl, _, _, rfl, rfl, d, _, rfl, hD, by omega, by omega, fun H1 v s1 D1 v0 v1 => ?_⟩
    obtain ⟨m, rfl⟩ := Int.eq_ofNat_of_zero_le v0
    refine ⟨_, rfl, by omega, by omega, ?_⟩
    rw [show ((m : Nat) : Int).toNat = m from Int.toNat_natCast _]
    intro Da na
    have nDd : Da ≠ d := D1.ne na
    have naH : H Da = none := by
      cases hz : H Da with
      | none => rfl
      | some o => rw [s1.1 _ _ nDd hz] at na; cases na
    refine lc_it walk_range (fun i H' => SmD d H1 H' ∧ Dr H' d ∧ ∃ Ps : List (List Nat), H' Da = some (.lst ((Ps.map tx).map V.str)) ∧ Ps.length = i ∧ ∀ P ∈ Ps, Part l P ∧ ∃ z ∈ rms l bs, ∀ s ∈ P, s ∈ z) ⟨SmD.of (same_upd na), D1.same (same_upd na), [], upd_same, rfl, by simp⟩ (fun _ _ _ _ => trivial) ?_ ?_
    · rintro i v G1 G2 hi ⟨u1, DG, Ps, e1, pl, hPs⟩ ⟨rfl, rfl⟩
      have er2 := u1.1 _ _ nrd (s1.1 _ _ nrd er)
      refine ⟨rfl, yes_i ⟨_, rfl, _, rfl, _, rfl, d, l, bs, rA, rfl, DG, g, hb, nrd, er2, rne, rlen, fun G3 S z u3 DG3 pS hz hin => ?_⟩⟩
      have e3 := u3.1 _ _ nDd e1
      obtain ⟨c0, hc0⟩ := DG3.head
      obtain ⟨nsx, hcell⟩ := DG3.cell hc0
      have nDc : Da ≠ c0 := by
        obtain ⟨c1, hc1⟩ := D1.head
        obtain ⟨ns1, hcell1⟩ := D1.cell hc1
        have hcc : HeadC G3 d c1 := u3.2 _ (u1.2 _ hc1)
        have : c1 = c0 := by
          obtain ⟨r1', h1'⟩ := hcc
          obtain ⟨r2', h2'⟩ := hc0
          rw [h1'] at h2'
          injection h2' with h2'
          injection h2' with h2'
          injection h2' with h2' _
          injection h2' with h2'
        rw [← this]
        exact Ne.symm (ne_of_none hcell1 na)
      refine ⟨_, e3, by rw [List.length_map, List.length_map, sizeLine_eq]; omega, ?_, DG3.upd hc0 nDd nDc, Ps ++ [S], ?_, by rw [List.length_append, pl]; rfl, fun P hP => ?_⟩
      · have u13 := u1.trans u3
        refine ⟨fun b o nb hb => ?_, fun c hc => (u13.2 c hc).upd nDd⟩
        rw [upd_ne (ne_of_none hb na)]
        exact u13.1 b o nb hb
      · rw [upd_same]
        simp
      · rcases List.mem_append.mp hP with z1 | z1
        · exact hPs P z1
        · rw [List.mem_singleton.mp z1]; exact ⟨pS, z, hz, hin⟩
    · rintro G1 ⟨u1, DG, Ps, e1, pl, hPs⟩
      exact q G1 Da Ps (s1.trans u1) DG naH e1 (by omega) hPs
end
end NC
/-! lambdas that are kept in a list and handed on from a comprehension: FnO (a function object that is tracked), LamOk (what a kept lambda does), pe_lam, lc_own (a comprehension whose element is told of the def's own state), pe_usesB -/
namespace NC
open PySem PySem.Spec PyProof.Rows L2
def FnO (f : Addr) (o : Obj) : HO := .ext fun h => h.get? f = some o
theorem fnO_ne {f : Addr} {o : Obj} (ps : Array Value) : FnO f o ≠ .tbl ps := fun z => by unfold FnO at z; cases z
theorem fnO_ok {P : Program} {w : World} {H : Hp} {h : Heap} {f : Addr} {o : Obj} (e : h.get? f = some o) : ObjOk P w H h f (FnO f o) := ⟨e, ⟨o, e⟩, fun _ _ a st => st _ a⟩
section
variable {X : Cx} {pins : List (Addr × Obj)} {σ : L2.St} {H : Hp} {s : Shared} {T : List (Addr × Str)} {c P : Addr} {params : Arguments} {body : Expr} {scope : Scope} {pos : Pos}
abbrev lamO (X : Cx) (params : Arguments) (body : Expr) (scope : Scope) (pm : Value) (c' : Addr) (ctv : Value) : Obj := PySem.W.kla_obj "<lambda>" (X.env.qual ++ "<lambda>") params body scope (cloFrom X.env.cells scope.names []) pm c' ctv
/-- a lambda is made, and its function object is tracked from now on -/
theorem lam_new {E : Value → Shared → Prop} {Q : Value → Shared → Prop} (I : Inv X pins σ H s) (TB : LamX.TabB X.base X.mg c P) (hc : X.env.code = .ref c) (hT : (P, X.env.qual ++ "<lambda>") ∈ T) (hu : ∀ p ∈ T, p.1 = P → p.2 = X.env.qual ++ "<lambda>") (tb : LamX.Tabs T H) (nd : defaultsOf params X.env = ([], []))
    (fr : ∀ y ∈ scope.names, y.2 = .free → ∃ c, X.env.cells.lookup y.1 = some c)
    (q : ∀ (f c' : Addr) (pm ctv : Value) (G : Hp) (v : Shared), Inv X pins σ (upd G f (FnO f (lamO X params body scope pm c' ctv))) v → G f = none → LamX.ExtN H G → LamX.Tabs T G → G c' = some (LamX.CodeO c' (X.env.qual ++ "<lambda>")) → Q (.ref f) v) :
    wpAny (model X.prog X.w) X.A (eval (.Lambda params body scope pos) X.env) Q E s := by
  obtain ⟨ps, eP, ok, old⟩ := tb _ hT
  have hP := I.hok P _ eP
  refine PySem.W.kla_eval nd ?_
  cases am : codeAmong pos ps.toList with
  | some cv =>
    obtain ⟨c', rfl, ec⟩ := old pos cv am
    refine PySem.W.kla_makeFunctionHit (mg := X.mg) (ps := ps) (closure_ok fr) I.ok.glob (I.mod.glob.keeps I.bk) hc (TB.code.keeps I.bk) hP ok am (TB.bm.keeps I.bk) fun ctv h1 tk k1 sz => ?_
    have n1 : H h1.objs.size = none := I.hok.fresh sz
    exact q _ c' _ ctv H _ (I.laid (t' := tk) (fun b u e => Heap.get?_push_of_some _ (k1 b u e)) sz (fnO_ok (Heap.get?_push_size _ rfl))) n1 (LamX.ExtN.refl H) tb ec
  | none =>
    refine PySem.W.kla_makeFunction (mg := X.mg) (ps := ps) (closure_ok fr) I.ok.glob (I.mod.glob.keeps I.bk) hc (TB.code.keeps I.bk) hP ok am TB.gP (TB.bm.keeps I.bk) fun c' ctv h1 tk k1 ge lt rc tbl => ?_
    obtain ⟨c2, oc, vs, t, e2, hoc, hd, hv⟩ := rc
    cases e2
    have nC : H c' = none := I.hok.fresh ge
    have I1 := LamX.inv_table (t' := tk) (more := #[rawInt pos.line, rawInt pos.col, .ref c']) I eP k1 tbl ge ⟨oc, vs, t, hoc, hd, hv⟩
    generalize hG : upd (upd H P (.tbl (ps ++ #[rawInt pos.line, rawInt pos.col, .ref c']))) c' (LamX.CodeO c' (X.env.qual ++ "<lambda>")) = G at I1
    have gC : G c' = some (LamX.CodeO c' (X.env.qual ++ "<lambda>")) := by rw [← hG, upd_same]
    have gP : G P = some (.tbl (ps ++ #[rawInt pos.line, rawInt pos.col, .ref c'])) := by rw [← hG, upd_ne (ne_of_none eP nC), upd_same]
    have ex : LamX.ExtN H G := fun b o e n => by
      rw [← hG, upd_ne (ne_of_none e nC), upd_ne (fun z => by rw [z, eP] at e; exact n ps (Option.some.inj e).symm)]
      exact e
    have sz : h1.objs.size ≤ h1.objs.size := Nat.le_refl _
    have I2 := I1.laid (a := h1.objs.size) (t' := tk) (o := FnO h1.objs.size (lamO X params body scope ((X.mg "__name__").getD .none) c' ctv)) (h' := h1.push (lamO X params body scope ((X.mg "__name__").getD .none) c' ctv)) (fun b u e => Heap.get?_push_of_some _ e) sz (fnO_ok (Heap.get?_push_size _ rfl))
    have eL : (ps ++ #[rawInt pos.line, rawInt pos.col, .ref c']).toList = ps.toList ++ [rawInt pos.line, rawInt pos.col, .ref c'] := by simp
    refine q _ c' _ ctv G _ I2 (I1.hok.fresh sz) ex (fun p hp => ?_) gC
    by_cases hb : p.1 = P
    · rw [hu p hp hb, hb]
      refine ⟨_, gP, by rw [eL]; exact PySem.TriplesOk_snoc _ _ _ _ ok, fun p' cv ecv => ?_⟩
      rw [eL] at ecv
      exact (LamX.among_app _ ok ecv).elim (fun z => let ⟨c0, e1, e2⟩ := old p' cv z; ⟨c0, e1, ex _ _ e2 LamX.codeO_ne⟩) fun z => ⟨c', z, gC⟩
    · obtain ⟨p1, a1, a2, a3⟩ := tb p hp
      have g1 : G p.1 = some (.tbl p1) := by rw [← hG, upd_ne (ne_of_none a1 nC), upd_ne hb]; exact a1
      exact ⟨p1, g1, a2, fun p' cv ecv => let ⟨c0, e1, e2⟩ := a3 p' cv ecv; ⟨c0, e1, ex _ _ e2 LamX.codeO_ne⟩⟩
/-- what a kept lambda does when it is called: t, read in the maker's slots as they are then -/
def LamOk (X : Cx) (k : Nat) (G : Hp) (f : Addr) (t : XK → TE) : Prop := ∃ (params : Arguments) (body : Expr) (scope : Scope) (pm : Value) (c' : Addr) (ctv : Value), LamX.LamS X.env.scope scope ∧ G f = some (FnO f (lamO X params body scope pm c' ctv)) ∧ G c' = some (LamX.CodeO c' (X.env.qual ++ "<lambda>")) ∧
  bindArgs (PySem.W.kla_fn "<lambda>" (X.env.qual ++ "<lambda>") params body scope (cloFrom X.env.cells scope.names []) pm (.ref c') ctv) ⟨[], []⟩ = pure [] ∧
  ∀ (A : Around) (out : List Env) (s : Shared) (H : Hp) (E : XK), Room k (A.deeper (LamX.lamEnv X scope s.heap.objs.size f c')) → PE (LamX.lamCx X A out s H E scope f c') body (t E)
theorem LamOk.ext {k : Nat} {G G1 : Hp} {f : Addr} {t : XK → TE} (h : LamOk X k G f t) (e : LamX.ExtN G G1) : LamOk X k G1 f t := by
  obtain ⟨params, body, scope, pm, c', ctv, a, b, c, d, r⟩ := h
  exact ⟨params, body, scope, pm, c', ctv, a, e _ _ b fnO_ne, e _ _ c LamX.codeO_ne, d, r⟩
theorem ExtN_laid {G : Hp} {f : Addr} {o : HO} (n : G f = none) : LamX.ExtN G (upd G f o) := fun b u e _ => by rw [upd_ne (ne_of_none e n)]; exact e
def tLamV (X : Cx) (T : List (Addr × Str)) (k : Nat) (t : XK → TE) : TE := fun _ H Q => LamX.Tabs T H ∧ ∀ f G, LamX.ExtN H G → LamX.Tabs T G → LamOk X k G f t → Q (.ref f) G
/-- lambda: body, as a value -/
theorem pe_lam {k : Nat} {t : XK → TE} (TB : LamX.TabB X.base X.mg c P) (hc : X.env.code = .ref c) (hT : (P, X.env.qual ++ "<lambda>") ∈ T) (hu : ∀ p ∈ T, p.1 = P → p.2 = X.env.qual ++ "<lambda>") (L : LamX.LamS X.env.scope scope) (nd : defaultsOf params X.env = ([], []))
    (nb : ∀ (q : Str) (cl : List (Str × Addr)) (pm cv ctv : Value), bindArgs (PySem.W.kla_fn "<lambda>" q params body scope cl pm cv ctv) ⟨[], []⟩ = pure [])
    (pb : ∀ (A : Around) (out : List Env) (s : Shared) (H : Hp) (E : XK) (f c' : Addr), Room k (A.deeper (LamX.lamEnv X scope s.heap.objs.size f c')) → PE (LamX.lamCx X A out s H E scope f c') body (t E)) :
    PE X (.Lambda params body scope pos) (tLamV X T k t) := ⟨fun pins s σ H Q I ⟨tb, h⟩ => by
  refine lam_new I TB hc hT hu tb nd (L.has I.ok) fun f c' pm ctv G v I1 n1 e1 t1 gc => ?_
  have l1 : LamX.ExtN G (upd G f (FnO f (lamO X params body scope pm c' ctv))) := ExtN_laid n1
  have t2 : LamX.Tabs T (upd G f (FnO f (lamO X params body scope pm c' ctv))) := t1.ext fun b o e => by rw [upd_ne (ne_of_none e n1)]; exact e
  exact ⟨.ref f, _, I1, rfl, h f _ (e1.trans l1) t2 ⟨params, body, scope, pm, c', ctv, L, upd_same, l1 _ _ gc LamX.codeO_ne, nb _ _ _ _ _, fun A out s H E r => pb A out s H E f c' r⟩⟩⟩
/-- a kept lambda, called from anywhere as long as the maker's frame is as it is -/
theorem LamOk.acts {k : Nat} {f : Addr} {t : XK → TE} (I : Inv X pins σ H s) (h : LamOk X k H f t) :
    ∃ J : Hp → Prop, J H ∧ Acts X.prog X.w X.K X.mg X.base k f J (frs X.stack) H s.heap (fun E G Q => t E σ G Q) := by
  obtain ⟨params, body, scope, pm, c', ctv, L, gf, gc, nb, pb⟩ := h
  refine ⟨fun G => G f = some (FnO f (lamO X params body scope pm c' ctv)) ∧ G c' = some (LamX.CodeO c' (X.env.qual ++ "<lambda>")), ⟨gf, gc⟩, fun G v u ho jG => ?_, fun A out v G Q E r e0 u jG h => ?_⟩
  · exact ⟨_, _, _, _, (ho f _ jG.1).1⟩
  · obtain ⟨⟨co, fl, tk, c1, c2, c3⟩, _⟩ := e0.hok c' _ jG.2
    have hf : v.heap.get? f = some (lamO X params body scope pm c' ctv) := (e0.hok f _ jG.1).1
    refine PySem.W.kla_callFunE r.depth hf rfl L.co L.gen rfl ⟨c', co, fl, tk, rfl, c1, c2, c3⟩ ?_
    rw [nb]
    have lim : v.heap.NoLimit := e0.mod.nolimit.keeps fun b o z => (e0.bs b o z).1
    refine wpAny_pure (wpAny_newFunctionEnv (fun y m => (L.own y m).2) nofun (fun h1 ns sb => ⟨lim.fresh _ sb, ?_⟩) L.kind)
    have old : ∀ b o, v.heap.get? b = some o → h1.get? b = some o := fun b o z => sb.extBut b o (Nat.ne_of_lt (Heap.lt_size z)) (Heap.get?_push_of_some _ z)
    have V := LamX.lam_start2 (E := E) (f := f) (c' := c') (tk := v.toks + ([] : List (Str × Value)).length) I L e0 r.hd u ns old
    refine PySem.W.kla_codeExpr (wpAny_mono ((pb A out v G E (r.deeper _)).run [] _ σ G Q V h) ?_ fun _ _ z => z)
    rintro u2 v2 ⟨y, G2, V2, ry, qy⟩
    exact ⟨y, G2, V2.os, V2.bare, V2.base, V2.hok, ry, qy⟩
end
end NC
/-! a comprehension whose element is told of the def's own state: lc_blk, lc_own, pe_lcI; a def that is handed a kept lambda there: pe_usesB -/
namespace NC
open PySem PySem.Spec PyProof.Rows L2
section
variable {X : Cx} {pins : List (Addr × Obj)} {σ : L2.St} {H : Hp} {s : Shared} {Q : VK} {elt tg iter : Expr} {scope : Scope} {own : List (Str × Nat)} {pos : Pos} {wi : TI} {g : TG} {te : TE}
theorem lc_blk {it D : Addr} {fp : List Addr} {tn : Nat → Heap → Prop} {J : It} {HL : Hp} {sL : Shared} {W : Nat → Nat → Hp → Prop} {m0 : Nat} (calm : X.calm = true) (nd : X.N.Nodup) (nm : BlkOk X.N X.env.scope scope own)
    (to : ∀ (v : Shared) (G : Hp) (C : Addr) (cl : List (Str × Addr)) (fp : List Addr), PG (X.blk v G scope (compEnvC scope cl C X.env) fp) tg g)
    (el : ∀ (v : Shared) (G : Hp) (C : Addr) (cl : List (Str × Addr)) (fp : List Addr), Inv X pins σ G v → (∀ b ∈ fp, FpOk X pins G b) → PE (X.blk v G scope (compEnvC scope cl C X.env) fp) elt te)
    (T : Turn X.prog X.w X.K tg J fp it tn) (IL : Inv X pins σ HL sL) (tL : tn 0 sL.heap) (fL : ∀ b ∈ fp, FpOk X pins HL b) (szL : ∀ b ∈ fp, b < sL.heap.objs.size) (w0 : W 0 m0 HL)
    (turn : ∀ i m G, W i m G → (J.stop i G ∧ Q (.ref D) G) ∨ (J.go i G ∧ ∃ Nx : Hp → Prop, (∀ G', Nx G' → ∃ m', m' < m ∧ W (i + 1) m' G') ∧ ∀ x G', J.yld i G x G' → g x (wipe σ (own.map (·.2))) G' fun σ2 G2 => wipe σ2 (own.map (·.2)) = wipe σ (own.map (·.2)) ∧ tYes σ2 G2 fun b G3 =>
      if b = true then te σ2 G3 fun y G4 => ∃ acc, G4 D = some (.lst acc) ∧ acc.length < sizeLine ∧ Nx (upd G4 D (.lst (acc ++ [y]))) else Nx G3)) :
    codeAny (model X.prog X.w) X.A (.compStart (.ListComp elt [⟨tg, iter, [], 0⟩] scope pos) 0 (.ref it) (.ref D) (compEnvC scope (cellsFrom (sL.heap.objs.size + 1) scope.names (cloFrom X.env.cells scope.names [])) sL.heap.objs.size X.env))
      (compPost (model X.prog X.w) X.A X.xe none (EP X pins σ Q) (.ref D) sL.heap.objs.size) { sL with heap := pushCells (sL.heap.push { cls := .type "dict", data := .dict #[] }) scope.names } := by
  have IB := block_start IL nm nd (fun b m => ⟨fL b m, szL b m⟩)
  have tB : tn 0 ({ sL with heap := pushCells (sL.heap.push { cls := .type "dict", data := .dict #[] }) scope.names } : Shared).heap := T.keep _ _ _ tL fun b _ o e => pushCells_keeps _ _ _ _ (Heap.get?_push_of_some _ e)
  have pg := to sL HL sL.heap.objs.size (cellsFrom (sL.heap.objs.size + 1) scope.names (cloFrom X.env.cells scope.names [])) fp
  have pe := el sL HL sL.heap.objs.size (cellsFrom (sL.heap.objs.size + 1) scope.names (cloFrom X.env.cells scope.names [])) fp IL fL
  generalize hce : compEnvC scope (cellsFrom (sL.heap.objs.size + 1) scope.names (cloFrom X.env.cells scope.names [])) sL.heap.objs.size X.env = ce at IB pg pe ⊢
  have cL : ce.locals = sL.heap.objs.size := by subst hce; rfl
  generalize ({ sL with heap := pushCells (sL.heap.push { cls := .type "dict", data := .dict #[] }) scope.names } : Shared) = sB at IB tB ⊢
  have ofp : ∀ {τ : L2.St} {G : Hp} {v : Shared}, Inv (X.blk sL HL scope ce fp) [] τ G v → (∀ b ∈ fp, G b = none) → ∀ b ∈ fp, FpOk (X.blk sL HL scope ce fp) [] G b := fun {τ G v} K n b m =>
    ⟨n b m, (K.ok.exf b m).1, K.ok.exfs b m, .inl m, fun x c e => (K.ok.exf b m).2 x c e, fun p hp => absurd (show p ∈ ([] : List (Addr × Obj)) ++ [] from hp) (by simp)⟩
  have loop : codeAny (model X.prog X.w) X.A (.compLoop (.ListComp elt [⟨tg, iter, [], 0⟩] scope pos) 0 (.ref it) (.ref D) ce) (compPost (model X.prog X.w) X.A X.xe none (EP X pins σ Q) (.ref D) sL.heap.objs.size) sB := by
    refine compLoop_any (fun n v => ∃ i G, Inv (X.blk sL HL scope ce fp) [] (wipe σ (own.map (·.2))) G v ∧ tn i v.heap ∧ (∀ b ∈ fp, G b = none) ∧ W i n G) ?_ m0 ⟨0, HL, IB, tB, fun b m => (fL b m).1, w0⟩
    rintro n v ⟨i, G, Iv, tv, nv, wv⟩
    rcases turn i n G wv with ⟨stop, fin⟩ | ⟨go, Nx, dec, step⟩
    · refine thnF (T.done (X.blk sL HL scope ce fp) rfl rfl rfl calm i [] v _ G (fun _ _ => False) Iv (ofp Iv nv) tv stop) ?_
      rintro _ v1 ⟨rfl, I1⟩
      have Ib : Inv X pins σ G v1 := IL.call' (ch := fp) I1.os I1.base I1.hok I1.bare fun b m => ⟨(fL b m).2.2.2.1, (fL b m).2.1, (fL b m).2.2.2.2.1, (fL b m).2.2.2.2.2⟩
      obtain ⟨mp, ns, _⟩ := I1.loc
      have ns : v1.heap.Ns ce.locals mp := ns
      have nC : G ce.locals = none := I1.free
      rw [cL] at ns nC
      obtain ⟨f0, f1, _, f3, f4, f5⟩ : FpOk X pins G sL.heap.objs.size := IL.fpOk (Nat.le_refl _) nC
      exact ⟨mp, ns, fun h2 sb => ⟨.ref D, G, Ib.turned (t' := v1.toks) (fun b o hb e => (sb.2 b hb).trans e) f0 f1 f3 f4 f5, rfl, fin⟩⟩
    · refine thnF (T.item (X.blk sL HL scope ce fp) rfl rfl rfl calm i [] v _ G (fun _ _ => False) Iv (ofp Iv nv) tv go) ?_
      rintro _ v1 ⟨u, rfl, z1⟩
      refine thnF z1 fun _ v2 ⟨x, G2, I2, r2, y2, t2, n2⟩ => ?_
      refine thnF (pg.run _ v2 _ G2 x u _ (I2.pinned (ofp I2 n2) (T.obj _ _ t2)) r2 (step x G2 y2)) fun _ v3 ⟨σ3, G3, I3, w3, q3⟩ => ?_
      have q3 := (show if true = true then te σ3 G3 _ else Nx G3 from q3)
      rw [if_pos rfl] at q3
      refine wpAny_tests_nil ?_
      rw [if_pos rfl]
      refine thnF (pe.run _ v3 σ3 G3 _ I3 q3) fun z v4 ⟨yv, G4, I4, r4, acc, hD, hz, nx⟩ => ?_
      refine app_ok (X := X.blk sL HL scope ce fp) I4 hD hz r4 fun v5 I5 => ?_
      obtain ⟨m', lt, w'⟩ := dec _ nx
      have kp : ∀ b ∈ fp, ∀ o, v2.heap.get? b = some o → v5.heap.get? b = some o ∧ upd G4 D (.lst (acc ++ [yv])) b = none := fun b m o e =>
        let z := I5.pin (b, o) (List.mem_append_right _ (List.mem_append_right _ (mem_pinsAt m e)))
        ⟨z.1, z.2.1⟩
      have ln : (wipe σ (own.map (·.2))).length = σ3.length := by rw [← w3, wipe_length]
      exact ⟨m', lt, i + 1, _, (I5.unpinned (pins := [])).weak ln (fun j y e => by rw [← w3] at e; exact (wipe_some e).1), T.keep _ _ _ t2 fun b m o e => (kp b m o e).1, fun b m => let ⟨o, e, _⟩ := T.obj _ _ t2 b m; (kp b m o e).2, w'⟩
  exact codeAny_compStart_list loop (T.self X.A 0 _ _ _ tB loop)
theorem lc_own (calm : X.calm = true) (nd : X.N.Nodup) (walk : PI X tg iter wi) (nm : BlkOk X.N X.env.scope scope own)
    (to : ∀ (v : Shared) (G : Hp) (C : Addr) (cl : List (Str × Addr)) (fp : List Addr), PG (X.blk v G scope (compEnvC scope cl C X.env) fp) tg g)
    (el : ∀ (v : Shared) (G : Hp) (C : Addr) (cl : List (Str × Addr)) (fp : List Addr), Inv X pins σ G v → (∀ b ∈ fp, FpOk X pins G b) → PE (X.blk v G scope (compEnvC scope cl C X.env) fp) elt te)
    (plain : ∀ x, foldedSetIterable iter X.env x = pure x) (I : Inv X pins σ H s) (h : tLc wi g tYes te (own.map (·.2)) σ H Q) :
    wpAny (model X.prog X.w) X.A (eval (.ListComp elt [⟨tg, iter, [], 0⟩] scope pos) X.env) (EP X pins σ Q) X.xe s := by
  rw [eval_ListComp]
  refine wpAny_comprehension_free (use := none) rfl plain (closure_ok fun y m e => (nm.free y m e).elim (fun z => I.ok.has _ (.inl z)) fun z => I.ok.has _ (.inr z)) nm.kind (fun y m e => by rw [nm.uniq y m, e])
    (thn (walk.run pins s σ H _ I h) fun _ _ z => thn z fun itv sI zI => ?_)
  obtain ⟨it, fp, tn, J, HI, rfl, II, T, t0, fI, q⟩ := zI
  refine wpAny_newObj_type (newEnv_comp ?_) (by show 0 ≤ sizeLine; decide)
  have nD : HI sI.heap.objs.size = none := II.hok.fresh (Nat.le_refl _)
  obtain ⟨W, ⟨m0, w0⟩, turn⟩ := q _ nD
  have there : ∀ b ∈ fp, b < sI.heap.objs.size := fun b m => let ⟨_, e, _⟩ := T.obj _ _ t0 b m; Heap.lt_size e
  have IL : Inv X pins σ (upd HI sI.heap.objs.size (.lst [])) { sI with heap := sI.heap.push { cls := .type "list", data := .seq ([] : List Value).toArray } } :=
    II.laid (t' := sI.toks) (fun b o e => Heap.get?_push_of_some _ e) (Nat.le_refl _) ⟨Nat.zero_le _, [], 0, .nil, Heap.get?_push_size _ rfl⟩
  have fL : ∀ b ∈ fp, FpOk X pins (upd HI sI.heap.objs.size (.lst [])) b := fun b m => ⟨by rw [upd_ne (Nat.ne_of_lt (there b m))]; exact (fI b m).1, (fI b m).2⟩
  exact lc_blk calm nd nm to el T IL (T.keep _ _ _ t0 fun b _ o e => Heap.get?_push_of_some _ e) fL (fun b m => by show b < (sI.heap.push _).objs.size; rw [Heap.size_push]; exact Nat.lt_succ_of_lt (there b m)) w0 turn
end
section
variable {X : Cx} {elt tg iter : Expr} {scope : Scope} {own : List (Str × Nat)} {pos : Pos} {wi : TI} {g : TG} {te : L2.St → TE}
theorem pe_lcI (calm : X.calm = true) (nd : X.N.Nodup) (walk : PI X tg iter wi) (nm : BlkOk X.N X.env.scope scope own)
    (to : ∀ (v : Shared) (G : Hp) (C : Addr) (cl : List (Str × Addr)) (fp : List Addr), PG (X.blk v G scope (compEnvC scope cl C X.env) fp) tg g)
    (el : ∀ (pins : List (Addr × Obj)) (σ : L2.St) (v : Shared) (G : Hp) (C : Addr) (cl : List (Str × Addr)) (fp : List Addr), Inv X pins σ G v → (∀ b ∈ fp, FpOk X pins G b) → PE (X.blk v G scope (compEnvC scope cl C X.env) fp) elt (te σ))
    (plain : ∀ x, foldedSetIterable iter X.env x = pure x := by intro _; rfl) :
    PE X (.ListComp elt [⟨tg, iter, [], 0⟩] scope pos) (fun σ H Q => tLc wi g tYes (te σ) (own.map (·.2)) σ H Q) :=
  ⟨fun pins s σ H Q I h => lc_own calm nd walk nm to (fun v G C cl fp => el pins σ v G C cl fp) plain I h⟩
end
section
variable {X : Cx} {pins : List (Addr × Obj)} {σ : L2.St} {H : Hp} {s : Shared} {scope : Scope} {ce : Env} {fp : List Addr} {k j : Nat} {g : Addr} {fd : FuncData} {ps : List Str} {sp : Addr → (XK → Hp → VK → Prop) → List V → Hp → VK → Prop} {x : Str} {p pos : Pos} {e : Expr} {es : List Expr} {t : TA}
def tUsesB (X : Cx) (k n : Nat) (sp : Addr → (XK → Hp → VK → Prop) → List V → Hp → VK → Prop) (t : TA) (σ : L2.St) : TE := fun τ G Q => t τ G fun vs G1 => vs.length = n ∧ ∃ f tb, LamOk X k G1 f tb ∧ sp f (fun E G R => tb E σ G R) vs G1 Q
/-- x(e, ..) in a comprehension of the def that made the lambda, e that lambda -/
theorem pe_usesB (I : Inv X pins σ H s) (fI : ∀ b ∈ fp, FpOk X pins H b) (U : Uses X.prog X.w X.K X.mg X.base k j g fd ps sp) (r : Room j X.A) (gl : Gl (X.blk s H scope ce fp) x) (hm : X.mg x = some (.ref g)) (kp : PySem.W.keepIn X.K (.ref g) = true) (b : Binds X.K fd ps [])
    (ha : PA (X.blk s H scope ce fp) (e :: es) t) (db : (x == ("__debug__" : Str)) = false := by decide)
    (h1 : starEach (e :: es) (X.blk s H scope ce fp).env = (false, eval e (X.blk s H scope ce fp).env) :: starEach es (X.blk s H scope ce fp).env := by rfl) (h2 : (backTo pos (starEach es (X.blk s H scope ce fp).env)).any (·.1) = false := by rfl) :
    PE (X.blk s H scope ce fp) (.Call (.Name x p) (e :: es) [] pos) (tUsesB X k ps.length sp t σ) := ⟨fun pn v τ G Q IZ h => by
  refine wpAny_Call_Name_kw (ld_glob IZ gl hm (PySem.W.callWith_K (h₀ := X.base) IZ.mod.kin kp (thn (ha.run pos pn v τ G _ IZ h) ?_) h1 h2) db)
  rintro us v1 ⟨vs, G1, I1, vv, l, f, tb, lo, hG⟩
  have l2 : us.length = ps.length := vv.length ▸ l
  have bt : BindsTo v1 fd ⟨us, []⟩ (ps.zip us) := by
    have z := b v1 us I1.kIn (by rw [List.append_nil]; exact l2)
    rw [List.append_nil] at z
    exact z
  have Ix : Inv X pins σ G1 v1 := I.call' (ch := fp) I1.os I1.base I1.hok I1.bare fun b m => ⟨(fI b m).2.2.2.1, (fI b m).2.1, (fI b m).2.2.2.2.1, (fI b m).2.2.2.2.2⟩
  obtain ⟨J, jG, ac⟩ := lo.acts Ix
  exact ⟨I1.kIn, wpAny_call (codeAny_mono (U _ _ _ _ _ us vs Q f J _ r I1.env0 bt vv l ac jG hG) fun _ _ q => end_of (CX := C8.CX0) (E := C8.E0) I1 (fun _ _ _ _ _ _ _ z => z.elim) q)⟩⟩
end
end NC
namespace NC
open PySem PySem.Spec PyProof.Rows L2
abbrev sTold : Stmt := topS 73
abbrev nTold : List Str := ["_law_ask", "_law_found", "e"]
theorem scTold : FnScope nTold ["_law_ask"] (defScope sTold) := ⟨rfl, rfl, rfl, by decide +kernel, rfl, by decide +kernel, by decide +kernel⟩
/-- e.f in a suite, the class told by the reading -/
def tXfG (K : PySem.W.Frag) (a : Addr) (cls : Value) (d : Option Addr) (f : Str) (te : TE) : TE := fun σ H Q => te σ H fun x H1 => x = .ref a ∧ ∃ (C dd : Addr) (fs : List (Str × V)) (v : V), cls = .ref C ∧ XfC K C ∧ PySem.W.findIn K (.ref C) f = some none ∧ d = some dd ∧ H1 dd = some (.xd fs) ∧ fs.lookup f = some v ∧ Q v H1
theorem pe_xfG {X : Cx} {a : Addr} {oe : Obj} {cls : Value} {d : Option Addr} {pn : List (Addr × Obj)} {e : Expr} {i : Nat} {pos : Pos} {n : Str} (hz : Zc cls d oe) (hf : ∃ vs, oe.data = .fields vs) (at_ : PE (X.suite a ((a, oe) :: pn)) e (tVar i))
    (hb : attributeBase e n X.env (eval e X.env) = eval e X.env := by rfl) : PE (X.suite a ((a, oe) :: pn)) (.Attribute e n pos) (tXfG X.K a cls d n (tVar i)) :=
  ⟨fun ps s σ H Q I ⟨v, sv, ev, C, dd, fs, u, ec, T, no, ed, ea, lu, q⟩ => (pe_xf (C := C) T no hz hf at_ hb).run ps s σ H Q I ⟨v, sv, ev, ec, dd, fs, u, ed, ea, lu, q⟩⟩
theorem takes_len {X : Cx} {W : WX} (t : Takes X W) : Takes X (fun c d σ H => σ.length = X.N.length → W c d σ H) := fun u s' ⟨a, B, sI, pins, σ, H, cls, d, e, I, nb, up, sky, na, os, ag, w⟩ =>
  t u s' ⟨a, B, sI, pins, σ, H, cls, d, e, I, nb, up, sky, na, os, ag, w I.len⟩
def FldAt (K : PySem.W.Frag) (cls : Value) (d : Option Addr) (f : Str) (H : Hp) (q : V → Prop) : Prop := ∃ (C dd : Addr) (fs : List (Str × V)) (v : V), cls = .ref C ∧ XfC K C ∧ PySem.W.findIn K (.ref C) f = some none ∧ d = some dd ∧ H dd = some (.xd fs) ∧ fs.lookup f = some v ∧ q v
/-- what _law_told makes of TooMany -/
def EchM (K : PySem.W.Frag) (CT_ : Addr) (Q : VK) : XK := fun cls d H' => PySem.W.exmOne K cls (.ref CT_) = some true ∧ FldAt K cls d "most" H' fun v => ∀ p, H' p = none → Q (.ref p) (upd H' p (.tup [.str "toomany", v]))
def spTold (K : PySem.W.Frag) (CT_ : Addr) : Addr → (XK → Hp → VK → Prop) → List V → Hp → VK → Prop := fun f tl vs H Q => vs = [.ref f] ∧ tl (EchM K CT_ Q) H fun x H1 => ∃ v, some (some x) = some (some v) ∧ Q v H1
section
variable {P : Program} {w : World} {K : PySem.W.Frag} {mg : Str → Option Value} {base : Heap}
set_option maxHeartbeats 1000000 in
theorem ok_told {g CT_ : Addr} {fd : FuncData} {k : Nat} (F : Fun K "_law_told" "_law_told" sTold g fd) (hT : mg "TooMany" = some (.ref CT_)) : Uses P w K mg base k (k + 2) g fd ["_law_ask"] (spTold K CT_) := by
  refine uses_of F scTold fun cdv A out s H vs Q f J tl hr a jH h => ?_
  obtain ⟨rfl, h⟩ := h
  have nd := scTold.nd
  refine ⟨_, pss_cons (ps_try_manyA (X := (cxOf C8.CX0 P w K mg base nTold "_law_told" (defScope sTold) g cdv A out s H C8.E0).nox)
      (tb := fun W D σ G => ∃ Ech : XK, (∀ cls d σ' H', Ech cls d H' → σ'.length = 3 → W cls d σ' H') ∧ (σ[0]? = some (some (.ref f)) ∧ J G ∧ tl Ech G fun x H1 => D.nx (σ.set 1 (some x)) H1))
      (l := [(.ref CT_, 2, fun a cls d => tAsg (tTup (tCons (tC (.str "toomany")) (tCons (tXfG K a cls d "most" (tVar 2)) tNil))) (gName 1))])
      rfl rfl nd LamX.takes0 (fun W pn xe tk => ?_)
      (.cons ⟨rfl, rfl, ⟨rfl, by decide, .inl hT⟩, fun a oe cls d pn hz hf => pss_one (ps_set (i := 1) nd rfl (.inl rfl) (pe_tup (pa_cons pe_str (pa_cons (pe_xfG hz hf (pv 2)) pa_nil))))⟩ .nil))
    (pss_one (ps_ret (pv 1))), ?_⟩
  · refine ⟨fun pins s' σ G D I h' => ?_⟩
    obtain ⟨Ech, hW, h3⟩ := h'
    exact (pss_one (ps_set (X := (cxOf C8.CX0 P w K mg base nTold "_law_told" (defScope sTold) g cdv A out s H C8.E0).nox.tr pn xe) (i := 1) nd rfl (.inl rfl) (pe_thunk (E := Ech) a rfl (passes_call (takes_len tk) hW) hr (pv 0)))).run pins s' σ G D I h3
  · refine ⟨EchM K CT_ Q, fun cls d σ' H' he hl => ?_, rfl, jH, ?_⟩
    · obtain ⟨y0, y1, y2, rfl⟩ : ∃ y0 y1 y2, σ' = [y0, y1, y2] := by
        match σ', hl with
        | [a, b, c], _ => exact ⟨a, b, c, rfl⟩
      obtain ⟨hm, C, dd, fs, v, e1, e2, e3, e4, e5, e6, e7⟩ := he
      exact ⟨true, hm, fun _ a na => ⟨_, rfl, rfl, C, dd, fs, v, e1, e2, e3, e4, e5, e6, by show 2 ≤ sizeLine; decide, fun p np => ⟨_, rfl, e7 p np⟩⟩, fun z => by cases z⟩
    · exact h
end
end NC
/-! calls in a row: where they lead, and where one can be led -/
namespace NC
open PySem PySem.Spec PyProof.Rows L2
/-- the room behind the calls of these places -/
def runC (ts : List (List Nat)) : List Nat → List Nat → List Nat
  | [], r => r
  | k :: ks, r => runC ts ks (wov (ts.getD k []) r)
/-- alike in all walls but these -/
def agrB (W r q : List Nat) : Bool := (List.range r.length).all fun i => decide (r.getD i 0 = q.getD i 0) || decide (lwc (r.getD i 0) ∈ W)
theorem agr_iff {W r q : List Nat} : agrB W r q = true ↔ ∀ i, i < r.length → lwc (r.getD i 0) ∉ W → r.getD i 0 = q.getD i 0 := by
  unfold agrB
  rw [List.all_eq_true]
  constructor
  · intro h i hi hn
    have := h i (List.mem_range.mpr hi)
    rw [Bool.or_eq_true, decide_eq_true_eq, decide_eq_true_eq] at this
    exact this.resolve_right hn
  · intro h i hi
    rw [Bool.or_eq_true, decide_eq_true_eq, decide_eq_true_eq]
    by_cases z : lwc (r.getD i 0) ∈ W
    · exact .inr z
    · exact .inl (h i (List.mem_range.mp hi) z)
theorem wov_len (T r : List Nat) : (wov T r).length = r.length := by unfold wov; rw [List.length_map]
theorem wov_get {T r : List Nat} {i : Nat} (h : i < r.length) : (wov T r).getD i 0 = if swp (r.getD i 0) ∈ T then swp (r.getD i 0) else r.getD i 0 := by
  unfold wov
  rw [List.getD_eq_getElem?_getD, List.getElem?_map, List.getElem?_eq_getElem h, List.getD_eq_getElem?_getD, List.getElem?_eq_getElem h]
  rfl
/-- texts that lead rooms to rooms -/
structure Txs (l : List Nat) (bs ts : List (List Nat)) : Prop where
  part : ∀ T ∈ ts, Part l T
  room : ∀ k r, k < ts.length → r ∈ rms l bs → wov (ts.getD k []) r ∈ rms l bs
section
variable {l : List Nat} (g : GoodW l) {bs : List (List Nat)} {ts : List (List Nat)} (hT : Txs l bs ts) {goal : List Nat} (hg : goal ∈ rms l bs)
theorem rm_side {l : List Nat} (g : GoodW l) {bs : List (List Nat)} {r : List Nat} (hr : r ∈ rms l bs) {i : Nat} (hi : i < l.length) : lwc (r.getD i 0) = l.getD i 0 ∧ isLt (r.getD i 0) ∧ (r.getD i 0 = l.getD i 0 ∨ r.getD i 0 = swp (l.getD i 0)) := by
  have hm : r ∈ allT l l.length := by unfold rms at hr; exact (List.mem_filter.mp hr).1
  obtain ⟨p, rfl⟩ := (allT_mem g.nd (Nat.le_refl _) r).mp hm
  rw [List.take_length, rm_get hi]
  have sm := g.sm _ (List.getElem_mem hi)
  have e : l.getD i 0 = l[i] := by rw [List.getD_eq_getElem?_getD, List.getElem?_eq_getElem hi]; rfl
  rw [e]
  by_cases h : p l[i] = true
  · rw [if_pos h]
    exact ⟨by unfold lwc; rw [if_neg (by omega)], .inl sm, .inl rfl⟩
  · rw [if_neg h, upc_small sm]
    exact ⟨by unfold lwc; rw [if_pos (by omega)]; omega, .inr (by omega), .inr (by rw [swp_small sm])⟩
theorem rm_len' {l : List Nat} (g : GoodW l) {bs : List (List Nat)} {r : List Nat} (hr : r ∈ rms l bs) : r.length = l.length := by
  have hm : r ∈ allT l l.length := by unfold rms at hr; exact (List.mem_filter.mp hr).1
  exact allT_lens' l l.length r hm
theorem get_ext {l r q : List Nat} (h1 : r.length = l.length) (h2 : q.length = l.length) (h : ∀ i, i < l.length → r.getD i 0 = q.getD i 0) : r = q := by
  refine List.ext_getElem (by omega) fun i a b => ?_
  have := h i (by omega)
  rw [List.getD_eq_getElem?_getD, List.getD_eq_getElem?_getD, List.getElem?_eq_getElem a, List.getElem?_eq_getElem b] at this
  exact this
/-- two sides of one wall in a part are one -/
theorem part_one {l : List Nat} (g : GoodW l) {T : List Nat} (h : Part l T) {s t : Nat} (hs : s ∈ T) (ht : t ∈ T) (e : lwc s = lwc t) : s = t := by
  obtain ⟨i, hi, rfl⟩ := List.getElem_of_mem hs
  obtain ⟨j, hj, rfl⟩ := List.getElem_of_mem ht
  have pw := part_pw g h
  have nd : (T.map lwc).Nodup := pw.imp fun h => Nat.ne_of_lt h
  have : i = j := by
    have a1 : (T.map lwc)[i]? = some (lwc T[i]) := by rw [List.getElem?_map, List.getElem?_eq_getElem hi]; rfl
    have a2 : (T.map lwc)[j]? = some (lwc T[j]) := by rw [List.getElem?_map, List.getElem?_eq_getElem hj]; rfl
    exact (List.getElem?_inj (by rw [List.length_map]; exact hi) nd).mp (by rw [a1, a2, e])
  subst this
  rfl
include g hT
/-- a call that isn't stray beside W writes towards the goal -/
theorem wov_toward (hg : goal ∈ rms l bs) {k : Nat} (hk : k < ts.length) {W r : List Nat} (hr : r ∈ rms l bs) (good : stray (ts.getD k []) W goal = []) (ag : agrB (W ++ low (ts.getD k [])) r goal = true) : agrB W (wov (ts.getD k []) r) goal = true := by
  have eT : ts[k]? = some (ts.getD k []) := by rw [List.getD_eq_getElem?_getD, List.getElem?_eq_getElem hk]; rfl
  have pT := hT.part _ (List.mem_of_getElem? eT)
  generalize ts.getD k [] = T at good ag pT
  rw [agr_iff] at ag ⊢
  rw [wov_len, rm_len' g hr]
  rw [rm_len' g hr] at ag
  intro i hi hn
  have hir : i < r.length := by rw [rm_len' g hr]; exact hi
  obtain ⟨lr, ltr, _⟩ := rm_side g hr hi
  obtain ⟨lg, ltg, gg⟩ := rm_side g hg hi
  rw [wov_get hir] at hn ⊢
  have gin : goal.getD i 0 ∈ goal := by
    rw [List.getD_eq_getElem?_getD, List.getElem?_eq_getElem (by rw [rm_len' g hg]; exact hi)]
    exact List.getElem_mem _
  have key : ∀ s, s ∈ T → lwc s = l.getD i 0 → lwc s ∉ W → s = goal.getD i 0 := fun s hs he hw => by
    have : s ∈ goal := Decidable.byContradiction fun z => by
      have : s ∈ stray T W goal := List.mem_filter.mpr ⟨hs, by rw [decide_eq_true hw, decide_eq_true z]; rfl⟩
      rw [good] at this
      cases this
    obtain ⟨j, hj, ej⟩ := List.getElem_of_mem this
    have hjl : j < l.length := by rw [rm_len' g hg] at hj; exact hj
    obtain ⟨lj, _, _⟩ := rm_side g hg hjl
    have ejD : goal.getD j 0 = s := by rw [List.getD_eq_getElem?_getD, List.getElem?_eq_getElem hj]; exact ej
    rw [ejD, he] at lj
    have : i = j := by
      have a1 : l[i]? = some (l.getD i 0) := by rw [List.getD_eq_getElem?_getD, List.getElem?_eq_getElem hi]; rfl
      have a2 : l[j]? = some (l.getD j 0) := by rw [List.getD_eq_getElem?_getD, List.getElem?_eq_getElem hjl]; rfl
      exact (List.getElem?_inj hi g.nd).mp (by rw [a1, a2, lj])
    subst this
    exact ejD.symm
  by_cases h : swp (r.getD i 0) ∈ T
  · rw [if_pos h] at hn ⊢
    have e1 : lwc (swp (r.getD i 0)) = l.getD i 0 := by rw [lwc_swp ltr, lr]
    exact key _ h e1 hn
  · rw [if_neg h] at hn ⊢
    by_cases h2 : r.getD i 0 ∈ T
    · exact key _ h2 lr hn
    · refine ag i hi fun z => ?_
      rcases List.mem_append.mp z with y | y
      · exact hn y
      · obtain ⟨s, hs, es⟩ := List.mem_map.mp y
        have : s = r.getD i 0 ∨ s = swp (r.getD i 0) := by
          have hss := sds_lt g (pT.sd s hs)
          have hsw := lwc_swp ltr
          rcases hss with a | a <;> rcases ltr with b | b
          · rw [show lwc s = s by unfold lwc; rw [if_neg (by omega)], show lwc (r.getD i 0) = r.getD i 0 by unfold lwc; rw [if_neg (by omega)]] at es
            exact .inl es
          · rw [show lwc s = s by unfold lwc; rw [if_neg (by omega)], show lwc (r.getD i 0) = r.getD i 0 + 32 by unfold lwc; rw [if_pos (by omega)]] at es
            exact .inr (by rw [swp_great b]; exact es)
          · rw [show lwc s = s + 32 by unfold lwc; rw [if_pos (by omega)], show lwc (r.getD i 0) = r.getD i 0 by unfold lwc; rw [if_neg (by omega)]] at es
            exact .inr (by rw [swp_small b]; omega)
          · rw [show lwc s = s + 32 by unfold lwc; rw [if_pos (by omega)], show lwc (r.getD i 0) = r.getD i 0 + 32 by unfold lwc; rw [if_pos (by omega)]] at es
            exact .inl (by omega)
        rcases this with e | e
        · rw [e] at hs; exact h2 hs
        · rw [e] at hs; exact h hs
theorem run_sound (hg : goal ∈ rms l bs) : ∀ j r, r ∈ rms l bs → agrB (itr ts goal j).2 r goal = true → runC ts (itr ts goal j).1.reverse r = goal := fun j => by
  induction j with
  | zero =>
    intro r hr ag
    rw [agr_iff] at ag
    refine get_ext (l := l) (rm_len' g hr) (rm_len' g hg) fun i hi => ?_
    exact ag i (by rw [rm_len' g hr]; exact hi) (by show _ ∉ ([] : List Nat); simp)
  | succ j ih =>
    intro r hr ag
    cases hn : nxt ts goal (itr ts goal j) with
    | none =>
      rw [itr_none hn (j + 1) (by omega)] at ag ⊢
      exact ih r hr ag
    | some k =>
      obtain ⟨k1, k2, k3⟩ := nxt_some hn
      rw [itr_some hn] at ag ⊢
      show runC ts (((itr ts goal j).1 ++ [k]).reverse) r = goal
      rw [List.reverse_append]
      show runC ts ((itr ts goal j).1.reverse) (wov (ts.getD k []) r) = goal
      exact ih _ (hT.room k r k1 hr) (wov_toward g hT hg k1 hr k3 ag)
/-- calls that write only W leave the other walls -/
theorem run_keeps {W : List Nat} : ∀ ks, (∀ k ∈ ks, k < ts.length ∧ ∀ c ∈ low (ts.getD k []), c ∈ W) → ∀ r, r ∈ rms l bs → runC ts ks r ∈ rms l bs ∧ ∀ i, i < l.length → l.getD i 0 ∉ W → (runC ts ks r).getD i 0 = r.getD i 0 := fun ks => by
  induction ks with
  | nil => exact fun _ r hr => ⟨hr, fun _ _ _ => rfl⟩
  | cons k ks ih =>
    intro h r hr
    obtain ⟨k1, kw⟩ := h k (List.mem_cons_self ..)
    obtain ⟨h1, h2⟩ := ih (fun x hx => h x (List.mem_cons_of_mem _ hx)) (wov (ts.getD k []) r) (hT.room k r k1 hr)
    refine ⟨h1, fun i hi hn => ?_⟩
    show (runC ts ks (wov (ts.getD k []) r)).getD i 0 = _
    rw [h2 i hi hn, wov_get (by rw [rm_len' g hr]; exact hi), if_neg]
    intro z
    obtain ⟨lr, ltr, _⟩ := rm_side g hr hi
    refine hn (kw _ (List.mem_map.mpr ⟨_, z, ?_⟩))
    rw [lwc_swp ltr, lr]
theorem run_room : ∀ ks, (∀ k ∈ ks, k < ts.length) → ∀ r, r ∈ rms l bs → runC ts ks r ∈ rms l bs := fun ks => by
  induction ks with
  | nil => exact fun _ r hr => hr
  | cons k ks ih => exact fun h r hr => ih (fun x hx => h x (List.mem_cons_of_mem _ hx)) _ (hT.room k r (h k (List.mem_cons_self ..)) hr)
/-- every call of a row that leads to the goal is taken -/
theorem run_taken (hg : goal ∈ rms l bs) : ∀ ks, (∀ k ∈ ks, k < ts.length) → ∀ r, r ∈ rms l bs → runC ts ks r = goal → ∀ k ∈ ks, k ∈ (itr ts goal ts.length).1 := fun ks => by
  induction ks with
  | nil => exact fun _ _ _ _ k hk => by cases hk
  | cons k ks ih =>
    intro h r hr e
    have k1 := h k (List.mem_cons_self ..)
    have hr' := hT.room k r k1 hr
    have rest := ih (fun x hx => h x (List.mem_cons_of_mem _ hx)) _ hr' e
    have kt : k ∈ (itr ts goal ts.length).1 := Decidable.byContradiction fun hn => by
      have sb := stop_bad (itr_stop (ts := ts) (goal := goal)) k1 hn
      obtain ⟨s, hs⟩ := List.exists_mem_of_ne_nil _ sb
      obtain ⟨sT, sc⟩ := List.mem_filter.mp hs
      rw [Bool.and_eq_true, decide_eq_true_eq, decide_eq_true_eq] at sc
      have eT : ts[k]? = some (ts.getD k []) := by rw [List.getD_eq_getElem?_getD, List.getElem?_eq_getElem k1]; rfl
      have pT := hT.part _ (List.mem_of_getElem? eT)
      have sl := lwc_sd g (pT.sd s sT)
      obtain ⟨i, hi, ei⟩ := List.getElem_of_mem sl
      have eiD : l.getD i 0 = lwc s := by rw [List.getD_eq_getElem?_getD, List.getElem?_eq_getElem hi]; exact ei
      have wW := (itr_ok (ts := ts) (goal := goal) ts.length).2.2.2
      obtain ⟨_, keep⟩ := run_keeps g hT (W := (itr ts goal ts.length).2) ks (fun x hx => ⟨h x (List.mem_cons_of_mem _ hx), fun c hc => by rw [wW]; exact List.mem_flatMap.mpr ⟨x, rest x hx, hc⟩⟩) _ hr'
      have k2 := keep i hi (by rw [eiD]; exact sc.1)
      have e : runC ts ks (wov (ts.getD k []) r) = goal := e
      rw [e, wov_get (by rw [rm_len' g hr]; exact hi)] at k2
      obtain ⟨lr, ltr, _⟩ := rm_side g hr hi
      have sid : (if swp (r.getD i 0) ∈ ts.getD k [] then swp (r.getD i 0) else r.getD i 0) = s := by
        by_cases z : swp (r.getD i 0) ∈ ts.getD k []
        · rw [if_pos z]
          exact part_one g pT z sT (by rw [lwc_swp ltr, lr, eiD])
        · rw [if_neg z]
          have hss := sds_lt g (pT.sd s sT)
          have el : lwc (r.getD i 0) = lwc s := by rw [lr, eiD]
          rcases hss with a | a <;> rcases ltr with b | b
          · rw [show lwc s = s by unfold lwc; rw [if_neg (by omega)], show lwc (r.getD i 0) = r.getD i 0 by unfold lwc; rw [if_neg (by omega)]] at el
            exact el
          · rw [show lwc s = s by unfold lwc; rw [if_neg (by omega)], show lwc (r.getD i 0) = r.getD i 0 + 32 by unfold lwc; rw [if_pos (by omega)]] at el
            exact absurd (by rw [swp_great b, el]; exact sT) z
          · rw [show lwc s = s + 32 by unfold lwc; rw [if_pos (by omega)], show lwc (r.getD i 0) = r.getD i 0 by unfold lwc; rw [if_neg (by omega)]] at el
            exact absurd (by rw [swp_small b, el, show s + 32 - 32 = s by omega]; exact sT) z
          · rw [show lwc s = s + 32 by unfold lwc; rw [if_pos (by omega)], show lwc (r.getD i 0) = r.getD i 0 + 32 by unfold lwc; rw [if_pos (by omega)]] at el
            omega
      rw [sid] at k2
      refine sc.2 ?_
      rw [← k2, List.getD_eq_getElem?_getD, List.getElem?_eq_getElem (by rw [rm_len' g hg]; exact hi)]
      exact List.getElem_mem _
    intro x hx
    rcases List.mem_cons.mp hx with z | z
    · rw [z]; exact kt
    · exact rest x z
theorem run_complete (hg : goal ∈ rms l bs) {ks : List Nat} (h : ∀ k ∈ ks, k < ts.length) {r : List Nat} (hr : r ∈ rms l bs) (e : runC ts ks r = goal) : agrB (itr ts goal ts.length).2 r goal = true := by
  have tk := run_taken g hT hg ks h r hr e
  have wW := (itr_ok (ts := ts) (goal := goal) ts.length).2.2.2
  obtain ⟨_, keep⟩ := run_keeps g hT (W := (itr ts goal ts.length).2) ks (fun x hx => ⟨h x hx, fun c hc => by rw [wW]; exact List.mem_flatMap.mpr ⟨x, tk x hx, hc⟩⟩) r hr
  rw [e] at keep
  rw [agr_iff, rm_len' g hr]
  intro i hi hn
  obtain ⟨lr, _, _⟩ := rm_side g hr hi
  rw [lr] at hn
  exact (keep i hi hn).symm
end
end NC
/-! of calls in a row those that have a last word -/
namespace NC
open PySem PySem.Spec PyProof.Rows L2
def laterW (ts : List (List Nat)) (k : Nat) : List Nat := low (ts.drop (k + 1)).flatten
def leanB (ts : List (List Nat)) (k : Nat) : Bool := (low (ts.getD k [])).any fun c => decide (c ∉ laterW ts k)
def leanL (ts : List (List Nat)) : List Nat := (List.range ts.length).filter (leanB ts)
theorem exists_last {p : Nat → Prop} [DecidablePred p] : ∀ {n : Nat}, (∃ k, k < n ∧ p k) → ∃ k, k < n ∧ p k ∧ ∀ j, k < j → j < n → ¬ p j
  | 0, ⟨k, h, _⟩ => absurd h (Nat.not_lt_zero _)
  | n + 1, ⟨k, hk, pk⟩ => by
    by_cases h : p n
    · exact ⟨n, Nat.lt_succ_self _, h, fun j h1 h2 => by omega⟩
    · have hkn : k < n := by
        rcases Nat.lt_or_ge k n with z | z
        · exact z
        · rw [show k = n by omega] at pk; exact absurd pk h
      obtain ⟨k0, a, b, c⟩ := exists_last (n := n) ⟨k, hkn, pk⟩
      refine ⟨k0, by omega, b, fun j h1 h2 => ?_⟩
      rcases Nat.lt_or_ge j n with z | z
      · exact c j h1 z
      · rw [show j = n by omega]; exact h
theorem runC_app (ts : List (List Nat)) : ∀ (a b : List Nat) (r : List Nat), runC ts (a ++ b) r = runC ts b (runC ts a r)
  | [], _, _ => rfl
  | x :: a, b, r => runC_app ts a b (wov (ts.getD x []) r)
section
variable {l : List Nat} (g : GoodW l) {bs : List (List Nat)} {ts : List (List Nat)} (hT : Txs l bs ts)
include g
theorem wov_writes {T : List Nat} (pT : Part l T) {s i : Nat} (hi : i < l.length) (hs : s ∈ T) (es : lwc s = l.getD i 0) {r : List Nat} (hr : r ∈ rms l bs) : (wov T r).getD i 0 = s := by
  obtain ⟨lr, ltr, _⟩ := rm_side g hr hi
  rw [wov_get (by rw [rm_len' g hr]; exact hi)]
  by_cases z : swp (r.getD i 0) ∈ T
  · rw [if_pos z]
    exact part_one g pT z hs (by rw [lwc_swp ltr, lr, es])
  · rw [if_neg z]
    have hss := sds_lt g (pT.sd s hs)
    have el : lwc (r.getD i 0) = lwc s := by rw [lr, es]
    rcases hss with a | a <;> rcases ltr with b | b
    · rw [show lwc s = s by unfold lwc; rw [if_neg (by omega)], show lwc (r.getD i 0) = r.getD i 0 by unfold lwc; rw [if_neg (by omega)]] at el
      exact el
    · rw [show lwc s = s by unfold lwc; rw [if_neg (by omega)], show lwc (r.getD i 0) = r.getD i 0 + 32 by unfold lwc; rw [if_pos (by omega)]] at el
      exact absurd (by rw [swp_great b, el]; exact hs) z
    · rw [show lwc s = s + 32 by unfold lwc; rw [if_pos (by omega)], show lwc (r.getD i 0) = r.getD i 0 by unfold lwc; rw [if_neg (by omega)]] at el
      exact absurd (by rw [swp_small b, el, show s + 32 - 32 = s by omega]; exact hs) z
    · rw [show lwc s = s + 32 by unfold lwc; rw [if_pos (by omega)], show lwc (r.getD i 0) = r.getD i 0 + 32 by unfold lwc; rw [if_pos (by omega)]] at el
      omega
include hT
theorem run_leaves {ks : List Nat} (h : ∀ k ∈ ks, k < ts.length) {i : Nat} (hi : i < l.length) (no : ∀ k ∈ ks, l.getD i 0 ∉ low (ts.getD k [])) {r : List Nat} (hr : r ∈ rms l bs) : (runC ts ks r).getD i 0 = r.getD i 0 :=
  (run_keeps g hT (W := ks.flatMap fun k => low (ts.getD k [])) ks (fun k hk => ⟨h k hk, fun c hc => List.mem_flatMap.mpr ⟨k, hk, hc⟩⟩) r hr).2 i hi fun z => by
    obtain ⟨k, hk, hc⟩ := List.mem_flatMap.mp z
    exact no k hk hc
/-- what has no last word may be left out -/
theorem lean_same {r : List Nat} (hr : r ∈ rms l bs) : runC ts (leanL ts) r = runC ts (List.range ts.length) r := by
  have hlt : ∀ k ∈ List.range ts.length, k < ts.length := fun k hk => List.mem_range.mp hk
  have hlt2 : ∀ k ∈ leanL ts, k < ts.length := fun k hk => hlt k (List.mem_filter.mp hk).1
  refine get_ext (l := l) (rm_len' g (run_room g hT _ hlt2 r hr)) (rm_len' g (run_room g hT _ hlt r hr)) fun i hi => ?_
  by_cases hw : ∃ k, k < ts.length ∧ l.getD i 0 ∈ low (ts.getD k [])
  · obtain ⟨k0, h1, h2, h3⟩ := exists_last hw
    have hm : k0 ∈ List.range ts.length := List.mem_range.mpr h1
    obtain ⟨A, B, eAB⟩ := List.append_of_mem hm
    have pw : (A ++ k0 :: B).Pairwise (· < ·) := by rw [← eAB]; exact List.pairwise_lt_range
    have hB : ∀ k ∈ B, k0 < k := fun k hk => List.rel_of_pairwise_cons (List.pairwise_append.mp pw).2.1 hk
    have hall : ∀ k ∈ A ++ k0 :: B, k < ts.length := fun k hk => by rw [← eAB] at hk; exact hlt k hk
    have lk : leanB ts k0 = true := by
      unfold leanB
      rw [List.any_eq_true]
      refine ⟨_, h2, decide_eq_true fun z => ?_⟩
      obtain ⟨s, hs, es⟩ := List.mem_map.mp z
      obtain ⟨T, hTm, hsT⟩ := List.mem_flatten.mp hs
      obtain ⟨j, hj⟩ := List.getElem?_of_mem hTm
      rw [List.getElem?_drop] at hj
      have hjl : k0 + 1 + j < ts.length := (List.getElem?_eq_some_iff.mp hj).1
      refine h3 (k0 + 1 + j) (by omega) hjl (List.mem_map.mpr ⟨s, ?_, es⟩)
      rw [List.getD_eq_getElem?_getD, hj]
      exact hsT
    obtain ⟨s, hs, es⟩ := List.mem_map.mp h2
    have eT : ts[k0]? = some (ts.getD k0 []) := by rw [List.getD_eq_getElem?_getD, List.getElem?_eq_getElem h1]; rfl
    have pT := hT.part _ (List.mem_of_getElem? eT)
    have fin : ∀ a b : List Nat, (∀ k ∈ a, k < ts.length) → (∀ k ∈ b, k < ts.length ∧ k0 < k) → (runC ts (a ++ k0 :: b) r).getD i 0 = s := fun a b ha hb => by
      rw [runC_app]
      have ra := run_room g hT a ha r hr
      show (runC ts b (wov (ts.getD k0 []) (runC ts a r))).getD i 0 = s
      rw [run_leaves g hT (fun k hk => (hb k hk).1) hi (fun k hk => h3 k (hb k hk).2 (hb k hk).1) (hT.room k0 _ h1 ra)]
      exact wov_writes g pT hi hs es ra
    have el : leanL ts = A.filter (leanB ts) ++ k0 :: B.filter (leanB ts) := by
      unfold leanL
      rw [eAB, List.filter_append, List.filter_cons, if_pos lk]
    rw [el, eAB, fin _ _ (fun k hk => hall k (List.mem_append_left _ (List.mem_filter.mp hk).1)) (fun k hk => ⟨hall k (List.mem_append_right _ (List.mem_cons_of_mem _ (List.mem_filter.mp hk).1)), hB k (List.mem_filter.mp hk).1⟩), fin _ _ (fun k hk => hall k (List.mem_append_left _ hk)) (fun k hk => ⟨hall k (List.mem_append_right _ (List.mem_cons_of_mem _ hk)), hB k hk⟩)]
  · rw [run_leaves g hT hlt2 hi (fun k hk z => hw ⟨k, hlt2 k hk, z⟩) hr, run_leaves g hT hlt hi (fun k hk z => hw ⟨k, hlt k hk, z⟩) hr]
end
end NC
/-! stories: which calls are lost at the least, gone through from behind -/
namespace NC
open PySem PySem.Spec PyProof.Rows L2
/-- places lost and walls written, from behind, of the m places from j on -/
def bk (ts : List (List Nat)) (goal : List Nat) (mis : Option Nat) : Nat → Nat → List Nat × List Nat
  | 0, _ => ([], [])
  | m + 1, j => if some j ≠ mis ∧ stray (ts.getD j []) (bk ts goal mis m (j + 1)).2 goal = [] then ((bk ts goal mis m (j + 1)).1, (bk ts goal mis m (j + 1)).2 ++ low (ts.getD j [])) else (j :: (bk ts goal mis m (j + 1)).1, (bk ts goal mis m (j + 1)).2)
theorem bk_mem (ts : List (List Nat)) (goal : List Nat) (mis : Option Nat) : ∀ m j k, k ∈ (bk ts goal mis m j).1 → j ≤ k ∧ k < j + m
  | 0, _, _, h => by cases h
  | m + 1, j, k, h => by
    unfold bk at h
    split at h
    · have := bk_mem ts goal mis m (j + 1) k h
      omega
    · rcases List.mem_cons.mp h with z | z
      · omega
      · have := bk_mem ts goal mis m (j + 1) k z
        omega
theorem agr_mono {W W' r q : List Nat} (h : ∀ c ∈ W, c ∈ W') (a : agrB W r q = true) : agrB W' r q = true := by
  rw [agr_iff] at a ⊢
  exact fun i hi hn => a i hi fun z => hn (h _ z)
def hrd (L : List Nat) (k : Nat) : Bool := decide (k ∉ L)
section
variable {l : List Nat} (g : GoodW l) {bs ts : List (List Nat)} (hT : Txs l bs ts) {goal : List Nat} (hg : goal ∈ rms l bs)
include g hT hg
theorem bk_sound (mis : Option Nat) : ∀ m j r, j + m ≤ ts.length → r ∈ rms l bs → agrB (bk ts goal mis m j).2 r goal = true → runC ts ((List.range' j m).filter (hrd (bk ts goal mis m j).1)) r = goal := fun m => by
  induction m with
  | zero =>
    intro j r _ hr ag
    rw [agr_iff] at ag
    exact get_ext (l := l) (rm_len' g hr) (rm_len' g hg) fun i hi => ag i (by rw [rm_len' g hr]; exact hi) (by show _ ∉ ([] : List Nat); simp)
  | succ m ih =>
    intro j r hj hr ag
    rw [List.range'_succ]
    have jn : j ∉ (bk ts goal mis m (j + 1)).1 := fun z => by
      have := bk_mem ts goal mis m (j + 1) j z
      omega
    by_cases c : some j ≠ mis ∧ stray (ts.getD j []) (bk ts goal mis m (j + 1)).2 goal = []
    · have e : bk ts goal mis (m + 1) j = ((bk ts goal mis m (j + 1)).1, (bk ts goal mis m (j + 1)).2 ++ low (ts.getD j [])) := by
        show (if _ then _ else _) = _
        rw [if_pos c]
      rw [e] at ag ⊢
      rw [List.filter_cons, if_pos (show hrd (bk ts goal mis m (j + 1)).1 j = true from decide_eq_true jn)]
      show runC ts ((List.range' (j + 1) m).filter _) (wov (ts.getD j []) r) = goal
      exact ih (j + 1) _ (by omega) (hT.room j r (by omega) hr) (wov_toward g hT hg (by omega) hr c.2 ag)
    · have e : bk ts goal mis (m + 1) j = (j :: (bk ts goal mis m (j + 1)).1, (bk ts goal mis m (j + 1)).2) := by
        show (if _ then _ else _) = _
        rw [if_neg c]
      rw [e] at ag ⊢
      rw [List.filter_cons, if_neg (show ¬ hrd (j :: (bk ts goal mis m (j + 1)).1) j = true by simp [hrd])]
      have ef : (List.range' (j + 1) m).filter (hrd (j :: (bk ts goal mis m (j + 1)).1)) = (List.range' (j + 1) m).filter (hrd (bk ts goal mis m (j + 1)).1) := by
        refine List.filter_congr fun k hk => ?_
        have := (List.mem_range'_1.mp hk).1
        unfold hrd
        rw [decide_eq_decide, List.mem_cons]
        have : k ≠ j := by omega
        simp [this]
      show runC ts ((List.range' (j + 1) m).filter (hrd (j :: (bk ts goal mis m (j + 1)).1))) r = goal
      rw [ef]
      exact ih (j + 1) r (by omega) hr ag
theorem bk_complete (mis : Option Nat) {p : Nat → Bool} (hp : ∀ k, mis = some k → p k = false) : ∀ m j r, j + m ≤ ts.length → r ∈ rms l bs → runC ts ((List.range' j m).filter p) r = goal → (∀ k, p k = true → k ∉ (bk ts goal mis m j).1) ∧ agrB (bk ts goal mis m j).2 r goal = true := fun m => by
  induction m with
  | zero =>
    intro j r _ hr e
    have e : r = goal := e
    exact ⟨fun k _ z => (by cases z), by rw [e, agr_iff]; exact fun _ _ _ => rfl⟩
  | succ m ih =>
    intro j r hj hr e
    rw [List.range'_succ, List.filter_cons] at e
    have eT : ts[j]? = some (ts.getD j []) := by rw [List.getD_eq_getElem?_getD, List.getElem?_eq_getElem (by omega)]; rfl
    have pT := hT.part _ (List.mem_of_getElem? eT)
    by_cases hj2 : p j = true
    · rw [if_pos hj2] at e
      have hr' := hT.room j r (by omega) hr
      obtain ⟨h1, h2⟩ := ih (j + 1) (wov (ts.getD j []) r) (by omega) hr' e
      rw [agr_iff, wov_len, rm_len' g hr] at h2
      have c : some j ≠ mis ∧ stray (ts.getD j []) (bk ts goal mis m (j + 1)).2 goal = [] := by
        refine ⟨fun z => (by rw [hp j z.symm] at hj2; cases hj2), ?_⟩
        unfold stray
        rw [List.filter_eq_nil_iff]
        intro s hs z
        rw [Bool.and_eq_true, decide_eq_true_eq, decide_eq_true_eq] at z
        have sl := lwc_sd g (pT.sd s hs)
        obtain ⟨i, hi, ei⟩ := List.getElem_of_mem sl
        have eiD : l.getD i 0 = lwc s := by rw [List.getD_eq_getElem?_getD, List.getElem?_eq_getElem hi]; exact ei
        have ww := wov_writes g pT hi hs eiD.symm hr
        have := h2 i hi (by rw [ww]; exact z.1)
        rw [ww] at this
        refine z.2 ?_
        rw [this, List.getD_eq_getElem?_getD, List.getElem?_eq_getElem (by rw [rm_len' g hg]; exact hi)]
        exact List.getElem_mem _
      have e2 : bk ts goal mis (m + 1) j = ((bk ts goal mis m (j + 1)).1, (bk ts goal mis m (j + 1)).2 ++ low (ts.getD j [])) := by
        show (if _ then _ else _) = _
        rw [if_pos c]
      rw [e2]
      refine ⟨h1, ?_⟩
      rw [agr_iff, rm_len' g hr]
      intro i hi hn
      have hir : i < r.length := by rw [rm_len' g hr]; exact hi
      obtain ⟨lr, ltr, _⟩ := rm_side g hr hi
      have nw : swp (r.getD i 0) ∉ ts.getD j [] := fun z => hn (List.mem_append_right _ (List.mem_map.mpr ⟨_, z, lwc_swp ltr⟩))
      have := h2 i hi
      rw [wov_get hir, if_neg nw] at this
      exact this fun z => hn (List.mem_append_left _ z)
    · rw [if_neg hj2] at e
      obtain ⟨h1, h2⟩ := ih (j + 1) r (by omega) hr e
      by_cases c : some j ≠ mis ∧ stray (ts.getD j []) (bk ts goal mis m (j + 1)).2 goal = []
      · have e2 : bk ts goal mis (m + 1) j = ((bk ts goal mis m (j + 1)).1, (bk ts goal mis m (j + 1)).2 ++ low (ts.getD j [])) := by
          show (if _ then _ else _) = _
          rw [if_pos c]
        rw [e2]
        exact ⟨h1, agr_mono (fun c hc => List.mem_append_left _ hc) h2⟩
      · have e2 : bk ts goal mis (m + 1) j = (j :: (bk ts goal mis m (j + 1)).1, (bk ts goal mis m (j + 1)).2) := by
          show (if _ then _ else _) = _
          rw [if_neg c]
        rw [e2]
        refine ⟨fun k hk z => ?_, h2⟩
        rcases List.mem_cons.mp z with y | y
        · rw [y] at hk; exact hj2 hk
        · exact h1 k hk y
end
end NC
/-! all stories, by masks, and how many lead to a room -/
namespace NC
open PySem PySem.Spec PyProof.Rows L2
/-- the room behind the first n calls, those of the mask lost -/
def fwd (ts : List (List Nat)) (room : List Nat) (mask : Nat) : Nat → List Nat
  | 0 => room
  | n + 1 => if mask.testBit n then fwd ts room mask n else wov (ts.getD n []) (fwd ts room mask n)
/-- the rooms behind the first n calls, in all stories -/
def endsM (ts : List (List Nat)) (room : List Nat) : Nat → List (List Nat)
  | 0 => [room]
  | n + 1 => (endsM ts room n).map (wov (ts.getD n [])) ++ endsM ts room n
theorem fwd_low (ts : List (List Nat)) (room : List Nat) (q N : Nat) : ∀ n, n ≤ N → fwd ts room (2 ^ N + q) n = fwd ts room q n
  | 0, _ => rfl
  | n + 1, h => by
    show (if (2 ^ N + q).testBit n then _ else _) = (if q.testBit n then _ else _)
    rw [Nat.testBit_two_pow_add_gt (by omega), fwd_low ts room q N n (by omega)]
theorem endsM_masks (ts : List (List Nat)) (room : List Nat) : ∀ n, endsM ts room n = (List.range (2 ^ n)).map fun m => fwd ts room m n
  | 0 => rfl
  | n + 1 => by
    have ih := endsM_masks ts room n
    show (endsM ts room n).map (wov (ts.getD n [])) ++ endsM ts room n = _
    rw [show 2 ^ (n + 1) = 2 ^ n + 2 ^ n by rw [Nat.pow_succ]; omega, List.range_add, List.map_append, ih, List.map_map, List.map_map]
    congr 1
    · refine List.map_congr_left fun m hm => ?_
      show wov (ts.getD n []) (fwd ts room m n) = if m.testBit n then _ else _
      rw [if_neg (by rw [Nat.testBit_lt_two_pow (List.mem_range.mp hm)]; simp)]
    · refine List.map_congr_left fun m hm => ?_
      show fwd ts room m n = if (2 ^ n + m).testBit n then fwd ts room (2 ^ n + m) n else _
      rw [if_pos (by rw [Nat.testBit_two_pow_add_eq, Nat.testBit_lt_two_pow (List.mem_range.mp hm)]; rfl), fwd_low ts room m n n (Nat.le_refl _)]
/-- the heard places of a mask -/
theorem fwd_run (ts : List (List Nat)) (room : List Nat) (mask : Nat) : ∀ n, fwd ts room mask n = runC ts ((List.range n).filter fun k => !mask.testBit k) room
  | 0 => rfl
  | n + 1 => by
    rw [List.range_succ, List.filter_append, runC_app, ← fwd_run ts room mask n]
    show (if mask.testBit n then fwd ts room mask n else wov (ts.getD n []) (fwd ts room mask n)) = runC ts ([n].filter fun k => !mask.testBit k) (fwd ts room mask n)
    cases h : mask.testBit n
    · rw [show ([n].filter fun k => !mask.testBit k) = [n] by simp [h]]
      rfl
    · rw [show ([n].filter fun k => !mask.testBit k) = [] by simp [h]]
      rfl
/-- counted by where one stood -/
theorem count_by {E : List (List Nat)} {f : List Nat → List Nat} {x : List Nat} : ∀ {ks : List (List Nat)}, ks.Nodup → (∀ y ∈ E, f y = x → y ∈ ks) → (E.map f).count x = ((ks.filter fun y => decide (f y = x)).map fun y => E.count y).sum := fun {ks} nd h => by
  induction E with
  | nil =>
    show 0 = _
    induction ks with
    | nil => rfl
    | cons k ks ih =>
      have := ih (List.nodup_cons.mp nd).2 (fun y hy => by cases hy)
      rw [List.filter_cons]
      split
      · rw [List.map_cons, List.sum_cons, ← this]
        rfl
      · exact this
  | cons e E ih =>
    have ih := ih fun y hy => h y (List.mem_cons_of_mem _ hy)
    rw [List.map_cons, List.count_cons, ih]
    have key : ∀ L : List (List Nat), L.Nodup → (L.map fun y => (e :: E).count y).sum = (L.map fun y => E.count y).sum + if e ∈ L then 1 else 0 := fun L => by
      induction L with
      | nil => exact fun _ => rfl
      | cons a L ih2 =>
        intro ndL
        obtain ⟨n1, n2⟩ := List.nodup_cons.mp ndL
        rw [List.map_cons, List.map_cons, List.sum_cons, List.sum_cons, ih2 n2, List.count_cons]
        by_cases ea : e = a
        · subst ea
          rw [if_neg n1]
          simp
          omega
        · have : (e == a) = false := by simpa using ea
          rw [this]
          simp [ea]
          omega
    rw [key _ (nd.filter _)]
    congr 1
    by_cases z : f e = x
    · rw [if_pos (by simpa using z), if_pos]
      exact List.mem_filter.mpr ⟨h e (List.mem_cons_self ..) z, decide_eq_true z⟩
    · rw [if_neg (by simpa using z), if_neg]
      exact fun y => z (of_decide_eq_true (List.mem_filter.mp y).2)
end NC
/-! a dict of rooms and how many stories lead there -/
namespace NC
open PySem PySem.Spec PyProof.Rows L2
def ctK (ks : List (List Nat)) (f : List Nat → Nat) : List (Key × V) := ks.map fun x => (Sum.inr (tx x), V.int (f x : Nat))
theorem ctK_val {f : List Nat → Nat} {x : List Nat} : ∀ {ks : List (List Nat)}, x ∈ ks → valV (ctK ks f) (Sum.inr (tx x)) = some (.int (f x : Nat))
  | t :: rest, h => by
    by_cases e : t = x
    · subst e
      exact valV_pos (p := (Sum.inr (tx t), V.int (f t : Nat))) rfl
    · have h2 : x ∈ rest := by
        rcases List.mem_cons.mp h with z | z
        · exact absurd z.symm e
        · exact z
      exact (valV_neg (p := (Sum.inr (tx t), V.int (f t : Nat))) (fun z => e (tx_inj (Sum.inr.inj z)))).trans (ctK_val h2)
theorem ctK_no {f : List Nat → Nat} {x : List Nat} : ∀ {ks : List (List Nat)}, x ∉ ks → valV (ctK ks f) (Sum.inr (tx x)) = none
  | [], _ => rfl
  | t :: rest, h => by
    have e : ¬ t = x := fun z => h (by rw [z]; exact List.mem_cons_self ..)
    exact (valV_neg (p := (Sum.inr (tx t), V.int (f t : Nat))) (fun z => e (tx_inj (Sum.inr.inj z)))).trans (ctK_no fun z => h (List.mem_cons_of_mem _ z))
theorem ctK_get {f : List Nat → Nat} {ks : List (List Nat)} (h : ∀ y, y ∉ ks → f y = 0) (x : List Nat) : (valV (ctK ks f) (Sum.inr (tx x))).getD (.int 0) = .int (f x : Nat) := by
  by_cases z : x ∈ ks
  · rw [ctK_val z]; rfl
  · rw [ctK_no z, h x z]; rfl
theorem ctK_put (f : List Nat → Nat) (ks : List (List Nat)) (y : List Nat) (n : Nat) : putK (ctK ks f) (Sum.inr (tx y)) (.int (n : Nat)) = ctK (if y ∈ ks then ks else ks ++ [y]) (fun x => if x = y then n else f x) := by
  by_cases z : y ∈ ks
  · rw [if_pos z]
    unfold putK
    rw [valV_any, ctK_val z]
    show (if true = true then _ else _) = _
    rw [if_pos rfl]
    unfold ctK
    rw [List.map_map]
    refine List.map_congr_left fun x _ => ?_
    show (if Sum.inr (tx x) = Sum.inr (tx y) then _ else _) = (Sum.inr (tx x), V.int ((if x = y then n else f x : Nat) : Int))
    by_cases e : x = y
    · rw [e, if_pos rfl, if_pos rfl]
    · rw [if_neg (fun w => e (tx_inj (Sum.inr.inj w))), if_neg e]
  · rw [if_neg z, putK_new _ (ctK_no z)]
    unfold ctK
    rw [List.map_append]
    congr 1
    · refine List.map_congr_left fun x hx => ?_
      show _ = (Sum.inr (tx x), V.int ((if x = y then n else f x : Nat) : Int))
      rw [if_neg (fun w : x = y => z (by rw [← w]; exact hx))]
    · show _ = [(Sum.inr (tx y), V.int ((if y = y then n else f y : Nat) : Int))]
      rw [if_pos rfl]
/-- how many, with those from these rooms heard -/
def gone (T : List Nat) (E : List (List Nat)) (ks : List (List Nat)) (x : List Nat) : Nat := E.count x + ((ks.filter fun y => decide (wov T y = x)).map fun y => E.count y).sum
theorem gone_nil (T : List Nat) (E : List (List Nat)) : gone T E [] = fun x => E.count x := rfl
theorem gone_snoc (T : List Nat) (E : List (List Nat)) (ks : List (List Nat)) (y : List Nat) : gone T E (ks ++ [y]) = fun x => if x = wov T y then gone T E ks (wov T y) + E.count y else gone T E ks x := by
  funext x
  unfold gone
  rw [List.filter_append, List.map_append, List.sum_append]
  by_cases e : x = wov T y
  · rw [if_pos e, ← e]
    rw [show ([y].filter fun y => decide (wov T y = x)) = [y] by simp [e]]
    show _ + (_ + (E.count y + 0)) = _
    omega
  · rw [if_neg e, show ([y].filter fun y => decide (wov T y = x)) = [] by simp [Ne.symm e]]
    rfl
theorem gone_all {T : List Nat} {E ks : List (List Nat)} (nd : ks.Nodup) (h : ∀ y ∈ E, y ∈ ks) : gone T E ks = fun x => (E.map (wov T) ++ E).count x := by
  funext x
  rw [List.count_append, count_by nd fun y hy _ => h y hy]
  unfold gone
  omega
theorem gone_zero {T : List Nat} {E ks : List (List Nat)} {y : List Nat} (h1 : y ∉ E) (h2 : ∀ z ∈ ks, wov T z ≠ y) : gone T E ks y = 0 := by
  unfold gone
  rw [List.count_eq_zero.mpr h1, show (ks.filter fun z => decide (wov T z = y)) = [] from List.filter_eq_nil_iff.mpr fun z hz w => h2 z hz (of_decide_eq_true w)]
  rfl
theorem ends_room {l : List Nat} {bs ts : List (List Nat)} (hT : Txs l bs ts) {room : List Nat} (hr : room ∈ rms l bs) : ∀ n, n ≤ ts.length → ∀ y ∈ endsM ts room n, y ∈ rms l bs
  | 0, _, y, hy => by rw [List.mem_singleton.mp hy]; exact hr
  | n + 1, hn, y, hy => by
    rcases List.mem_append.mp hy with z | z
    · obtain ⟨x, hx, rfl⟩ := List.mem_map.mp z
      exact hT.room n x (by omega) (ends_room hT hr n (by omega) x hx)
    · exact ends_room hT hr n (by omega) y z
end NC
/-! the stories that lead to the goal, against the story with the fewest lost -/
namespace NC
open PySem PySem.Spec PyProof.Rows L2
/-- the places of a mask -/
def lostP (n mask : Nat) : List Nat := (List.range n).filter fun k => mask.testBit k
def stT (ts : List (List Nat)) (room goal : List Nat) : List (List Nat) := ((List.range (2 ^ ts.length)).filter fun mk => decide (fwd ts room mk ts.length = goal)).map (lostP ts.length)
theorem mask_of (p : Nat → Bool) : ∀ n, ∃ m, m < 2 ^ n ∧ ∀ k, k < n → m.testBit k = p k
  | 0 => ⟨0, by decide, fun k hk => absurd hk (Nat.not_lt_zero _)⟩
  | n + 1 => by
    obtain ⟨m, h1, h2⟩ := mask_of p n
    cases hp : p n with
    | true =>
      refine ⟨2 ^ n + m, by rw [Nat.pow_succ]; omega, fun k hk => ?_⟩
      rcases Nat.lt_or_ge k n with z | z
      · rw [Nat.testBit_two_pow_add_gt z]; exact h2 k z
      · obtain rfl : k = n := by omega
        rw [Nat.testBit_two_pow_add_eq, Nat.testBit_lt_two_pow h1, hp]; rfl
    | false =>
      refine ⟨m, by rw [Nat.pow_succ]; omega, fun k hk => ?_⟩
      rcases Nat.lt_or_ge k n with z | z
      · exact h2 k z
      · obtain rfl : k = n := by omega
        rw [Nat.testBit_lt_two_pow h1, hp]
theorem bk_filter (ts : List (List Nat)) (goal : List Nat) (mis : Option Nat) : ∀ m j, (bk ts goal mis m j).1 = (List.range' j m).filter fun k => decide (k ∈ (bk ts goal mis m j).1)
  | 0, _ => rfl
  | m + 1, j => by
    have ih := bk_filter ts goal mis m (j + 1)
    have jn : j ∉ (bk ts goal mis m (j + 1)).1 := fun z => by
      have := bk_mem ts goal mis m (j + 1) j z
      omega
    rw [List.range'_succ]
    by_cases c : some j ≠ mis ∧ stray (ts.getD j []) (bk ts goal mis m (j + 1)).2 goal = []
    · have e : (bk ts goal mis (m + 1) j).1 = (bk ts goal mis m (j + 1)).1 := by
        show (if _ then _ else _ : List Nat × List Nat).1 = _
        rw [if_pos c]
      rw [e, List.filter_cons, if_neg (by simpa using jn)]
      exact ih
    · have e : (bk ts goal mis (m + 1) j).1 = j :: (bk ts goal mis m (j + 1)).1 := by
        show (if _ then _ else _ : List Nat × List Nat).1 = _
        rw [if_neg c]
      rw [e, List.filter_cons, if_pos (by simp)]
      congr 1
      refine Eq.trans ih (List.filter_congr fun k hk => ?_)
      have := (List.mem_range'_1.mp hk).1
      rw [decide_eq_decide, List.mem_cons]
      have : k ≠ j := by omega
      simp [this]
theorem bk_mis (ts : List (List Nat)) (goal : List Nat) (k : Nat) : ∀ m j, j ≤ k → k < j + m → k ∈ (bk ts goal (some k) m j).1
  | 0, j, h1, h2 => by omega
  | m + 1, j, h1, h2 => by
    by_cases c : some j ≠ some k ∧ stray (ts.getD j []) (bk ts goal (some k) m (j + 1)).2 goal = []
    · have e : (bk ts goal (some k) (m + 1) j).1 = (bk ts goal (some k) m (j + 1)).1 := by
        show (if _ then _ else _ : List Nat × List Nat).1 = _
        rw [if_pos c]
      rw [e]
      have : j ≠ k := fun z => c.1 (by rw [z])
      exact bk_mis ts goal k m (j + 1) (by omega) (by omega)
    · have e : (bk ts goal (some k) (m + 1) j).1 = j :: (bk ts goal (some k) m (j + 1)).1 := by
        show (if _ then _ else _ : List Nat × List Nat).1 = _
        rw [if_neg c]
      rw [e]
      by_cases z : j = k
      · rw [z]; exact List.mem_cons_self ..
      · exact List.mem_cons_of_mem _ (bk_mis ts goal k m (j + 1) (by omega) (by omega))
theorem st_count (ts : List (List Nat)) (room goal : List Nat) : (endsM ts room ts.length).count goal = (stT ts room goal).length := by
  unfold stT
  rw [endsM_masks, List.length_map, List.count, List.countP_map, List.countP_eq_length_filter]
  congr 1
  refine List.filter_congr fun m _ => ?_
  show (fwd ts room m ts.length == goal) = _
  rw [Bool.eq_iff_iff, beq_iff_eq, decide_eq_true_eq]
section
variable {l : List Nat} (g : GoodW l) {bs ts : List (List Nat)} (hT : Txs l bs ts) {goal : List Nat} (hg : goal ∈ rms l bs) {room : List Nat} (hr : room ∈ rms l bs)
include g hT hg hr
theorem st_of_bk {mis : Option Nat} (h : agrB (bk ts goal mis ts.length 0).2 room goal = true) : (bk ts goal mis ts.length 0).1 ∈ stT ts room goal := by
  obtain ⟨m, h1, h2⟩ := mask_of (fun k => decide (k ∈ (bk ts goal mis ts.length 0).1)) ts.length
  have sound := bk_sound g hT hg mis ts.length 0 room (by omega) hr h
  refine List.mem_map.mpr ⟨m, List.mem_filter.mpr ⟨List.mem_range.mpr h1, decide_eq_true ?_⟩, ?_⟩
  · rw [fwd_run]
    refine Eq.trans ?_ sound
    rw [← List.range_eq_range']
    congr 1
    refine List.filter_congr fun k hk => ?_
    rw [h2 k (List.mem_range.mp hk)]
    unfold hrd
    by_cases z : k ∈ (bk ts goal mis ts.length 0).1 <;> simp [z]
  · have e := bk_filter ts goal mis ts.length 0
    rw [← List.range_eq_range'] at e
    refine Eq.trans ?_ e.symm
    unfold lostP
    exact List.filter_congr fun k hk => h2 k (List.mem_range.mp hk)
theorem bk_of_st {mis : Option Nat} {L : List Nat} (hL : L ∈ stT ts room goal) (hm : ∀ k, mis = some k → k ∈ L) : (∀ k ∈ (bk ts goal mis ts.length 0).1, k ∈ L) ∧ agrB (bk ts goal mis ts.length 0).2 room goal = true := by
  obtain ⟨m, h1, rfl⟩ := List.mem_map.mp hL
  have e := of_decide_eq_true (List.mem_filter.mp h1).2
  rw [fwd_run, List.range_eq_range'] at e
  have lm : ∀ k, k ∈ lostP ts.length m ↔ k < ts.length ∧ m.testBit k = true := fun k => by
    unfold lostP
    rw [List.mem_filter, List.mem_range]
  obtain ⟨a, b⟩ := bk_complete g hT hg mis (p := fun k => !m.testBit k) (fun k hk => by
    have := ((lm k).mp (hm k hk)).2
    rw [this]; rfl) ts.length 0 room (by omega) hr e
  refine ⟨fun k hk => (lm k).mpr ⟨?_, ?_⟩, b⟩
  · have := bk_mem ts goal mis ts.length 0 k hk
    omega
  · cases hb : m.testBit k with
    | true => rfl
    | false => exact absurd hk (a k (by rw [hb]; rfl))
theorem st_nil (h : ¬ agrB (bk ts goal none ts.length 0).2 room goal = true) : stT ts room goal = [] := by
  cases e : stT ts room goal with
  | nil => rfl
  | cons L r => exact absurd (bk_of_st g hT hg hr (mis := none) (L := L) (by rw [e]; exact List.mem_cons_self ..) (fun k hk => by cases hk)).2 h
theorem st_least (h : agrB (bk ts goal none ts.length 0).2 room goal = true) (k : Nat) : (∀ L ∈ stT ts room goal, k ∈ L) ↔ k ∈ (bk ts goal none ts.length 0).1 :=
  ⟨fun a => a _ (st_of_bk g hT hg hr h), fun a L hL => (bk_of_st g hT hg hr (mis := none) hL (fun k hk => by cases hk)).1 k a⟩
theorem st_leastL (h : agrB (bk ts goal none ts.length 0).2 room goal = true) : ((List.range ts.length).filter fun k => (stT ts room goal).all fun L => decide (k ∈ L)) = (bk ts goal none ts.length 0).1 := by
  have e := bk_filter ts goal none ts.length 0
  rw [← List.range_eq_range'] at e
  refine Eq.trans (List.filter_congr fun k _ => ?_) e.symm
  rw [Bool.eq_iff_iff, List.all_eq_true, decide_eq_true_eq, ← st_least g hT hg hr h k]
  exact ⟨fun a L hL => of_decide_eq_true (a L hL), fun a L hL => decide_eq_true (a L hL)⟩
theorem st_some {k : Nat} (hk : k < ts.length) : agrB (bk ts goal (some k) ts.length 0).2 room goal = true ↔ ∃ L ∈ stT ts room goal, k ∈ L :=
  ⟨fun a => ⟨_, st_of_bk g hT hg hr a, bk_mis ts goal k ts.length 0 (by omega) (by omega)⟩, fun ⟨L, hL, hk⟩ => (bk_of_st g hT hg hr (mis := some k) hL (fun j hj => by cases hj; exact hk)).2⟩
end
end NC
/-! how many calls are lost at the least; stories in which one call is lost, or heard -/
namespace NC
open PySem PySem.Spec PyProof.Rows L2
/-! ### least values -/
/-- keys and their least candidates -/
structure Mn (c : List Nat → Nat → Prop) (ks : List (List Nat)) (f : List Nat → Nat) : Prop where
  nd : ks.Nodup
  key : ∀ x, x ∈ ks ↔ ∃ v, c x v
  at_ : ∀ x, x ∈ ks → c x (f x)
  low : ∀ x v, c x v → f x ≤ v
theorem Mn.add {c : List Nat → Nat → Prop} {ks : List (List Nat)} {f : List Nat → Nat} (h : Mn c ks f) (x0 : List Nat) (v0 : Nat) : Mn (fun x v => c x v ∨ (x = x0 ∧ v = v0)) (if x0 ∈ ks then ks else ks ++ [x0]) (fun x => if x = x0 then (if x0 ∈ ks then min (f x0) v0 else v0) else f x) := by
  refine ⟨?_, fun x => ?_, fun x hx => ?_, fun x v hc => ?_⟩
  · by_cases z : x0 ∈ ks
    · rw [if_pos z]; exact h.nd
    · rw [if_neg z]
      exact List.nodup_append.mpr ⟨h.nd, by simp, fun a ha b hb e => z (by rw [List.mem_singleton.mp hb] at e; rw [← e]; exact ha)⟩
  · have key : x ∈ (if x0 ∈ ks then ks else ks ++ [x0]) ↔ x ∈ ks ∨ x = x0 := by
      by_cases z : x0 ∈ ks
      · rw [if_pos z]
        exact ⟨.inl, fun h => h.elim id fun e => by rw [e]; exact z⟩
      · rw [if_neg z, List.mem_append, List.mem_singleton]
    rw [key, h.key x]
    constructor
    · rintro (⟨v, hv⟩ | e)
      · exact ⟨v, .inl hv⟩
      · exact ⟨v0, .inr ⟨e, rfl⟩⟩
    · rintro ⟨v, hv | ⟨e, _⟩⟩
      · exact .inl ⟨v, hv⟩
      · exact .inr e
  · show c x (if x = x0 then _ else _) ∨ _
    by_cases e : x = x0
    · rw [if_pos e]
      by_cases z : x0 ∈ ks
      · rw [if_pos z]
        rcases Nat.le_total (f x0) v0 with y | y
        · rw [Nat.min_eq_left y, e]; exact .inl (h.at_ x0 z)
        · rw [Nat.min_eq_right y]; exact .inr ⟨e, rfl⟩
      · rw [if_neg z]; exact .inr ⟨e, rfl⟩
    · rw [if_neg e]
      refine .inl (h.at_ x ?_)
      by_cases z : x0 ∈ ks
      · rw [if_pos z] at hx; exact hx
      · rw [if_neg z] at hx
        rcases List.mem_append.mp hx with y | y
        · exact y
        · exact absurd (List.mem_singleton.mp y) e
  · show (if x = x0 then _ else _) ≤ v
    by_cases e : x = x0
    · rw [if_pos e]
      by_cases z : x0 ∈ ks
      · rw [if_pos z]
        rcases hc with y | y
        · have := h.low x v y
          rw [e] at this
          omega
        · rw [y.2]; omega
      · rw [if_neg z]
        rcases hc with y | y
        · exact absurd ((h.key x0).mpr ⟨v, by rw [← e]; exact y⟩) z
        · rw [y.2]; exact Nat.le_refl _
    · rw [if_neg e]
      rcases hc with y | y
      · exact h.low x v y
      · exact absurd y.1 e
theorem Mn.congr {c d : List Nat → Nat → Prop} {ks : List (List Nat)} {f : List Nat → Nat} (h : Mn c ks f) (s : ∀ x v, c x v → d x v) (t : ∀ x v, d x v → ∃ v', v' ≤ v ∧ c x v') : Mn d ks f :=
  ⟨h.nd, fun x => (h.key x).trans ⟨fun ⟨v, hv⟩ => ⟨v, s x v hv⟩, fun ⟨v, hv⟩ => let ⟨v', _, hc⟩ := t x v hv; ⟨v', hc⟩⟩, fun x hx => s x _ (h.at_ x hx), fun x v hv => by
    obtain ⟨v', h1, h2⟩ := t x v hv
    have := h.low x v' h2
    omega⟩
/-- the room and how many are lost, behind n calls -/
def Rl (ts : List (List Nat)) (room : List Nat) : Nat → List Nat → Nat → Prop
  | 0, x, v => x = room ∧ v = 0
  | n + 1, x, v => (∃ v', v = v' + 1 ∧ Rl ts room n x v') ∨ ∃ y, Rl ts room n y v ∧ wov (ts.getD n []) y = x
theorem rl_iff (ts : List (List Nat)) (room : List Nat) : ∀ n x v, Rl ts room n x v ↔ ∃ p : Nat → Bool, runC ts ((List.range n).filter p) room = x ∧ ((List.range n).filter fun k => !p k).length = v
  | 0, x, v => by
    constructor
    · rintro ⟨rfl, rfl⟩
      exact ⟨fun _ => true, rfl, rfl⟩
    · rintro ⟨p, rfl, rfl⟩
      exact ⟨rfl, rfl⟩
  | n + 1, x, v => by
    have cg : ∀ (p : Nat → Bool) (b : Bool), (List.range n).filter (fun k => if k = n then b else p k) = (List.range n).filter p ∧ (List.range n).filter (fun k => !(if k = n then b else p k)) = (List.range n).filter fun k => !p k := fun p b =>
      ⟨List.filter_congr fun k hk => by rw [if_neg (by have := List.mem_range.mp hk; omega)], List.filter_congr fun k hk => by rw [if_neg (by have := List.mem_range.mp hk; omega)]⟩
    constructor
    · rintro (⟨v', rfl, h⟩ | ⟨y, h, rfl⟩)
      · obtain ⟨p, h1, h2⟩ := (rl_iff ts room n x v').mp h
        refine ⟨fun k => if k = n then false else p k, ?_, ?_⟩
        · rw [List.range_succ, List.filter_append, (cg p false).1, show ([n].filter fun k => if k = n then false else p k) = [] by simp, List.append_nil]
          exact h1
        · rw [List.range_succ, List.filter_append, (cg p false).2, show ([n].filter fun k => !(if k = n then false else p k)) = [n] by simp, List.length_append, h2]
          rfl
      · obtain ⟨p, h1, h2⟩ := (rl_iff ts room n y v).mp h
        refine ⟨fun k => if k = n then true else p k, ?_, ?_⟩
        · rw [List.range_succ, List.filter_append, (cg p true).1, show ([n].filter fun k => if k = n then true else p k) = [n] by simp, runC_app, h1]
          rfl
        · rw [List.range_succ, List.filter_append, (cg p true).2, show ([n].filter fun k => !(if k = n then true else p k)) = [] by simp, List.append_nil]
          exact h2
    · rintro ⟨p, h1, h2⟩
      rw [List.range_succ, List.filter_append] at h1 h2
      cases hp : p n with
      | true =>
        rw [show [n].filter p = [n] by simp [hp], runC_app] at h1
        rw [show ([n].filter fun k => !p k) = [] by simp [hp], List.append_nil] at h2
        exact .inr ⟨_, (rl_iff ts room n _ v).mpr ⟨p, rfl, h2⟩, h1⟩
      | false =>
        rw [show [n].filter p = [] by simp [hp], List.append_nil] at h1
        rw [show ([n].filter fun k => !p k) = [n] by simp [hp], List.length_append] at h2
        exact .inl ⟨_, h2.symm, (rl_iff ts room n x _).mpr ⟨p, h1, rfl⟩⟩
/-- a step of the least values -/
theorem mn_step {ts : List (List Nat)} {room : List Nat} {n : Nat} {ks ks' : List (List Nat)} {f f' : List Nat → Nat} (h : Mn (Rl ts room n) ks f) (h' : Mn (fun x v => (x ∈ ks ∧ v = f x + 1) ∨ ∃ y ∈ ks, wov (ts.getD n []) y = x ∧ v = f y) ks' f') : Mn (Rl ts room (n + 1)) ks' f' := by
  refine h'.congr (fun x v hc => ?_) (fun x v hd => ?_)
  · rcases hc with ⟨hx, rfl⟩ | ⟨y, hy, e, rfl⟩
    · exact .inl ⟨_, rfl, h.at_ x hx⟩
    · exact .inr ⟨y, h.at_ y hy, e⟩
  · rcases hd with ⟨v', rfl, hv⟩ | ⟨y, hy, e⟩
    · exact ⟨f x + 1, by have := h.low x v' hv; omega, .inl ⟨(h.key x).mpr ⟨v', hv⟩, rfl⟩⟩
    · exact ⟨f y, h.low y v hy, .inr ⟨y, (h.key y).mpr ⟨v, hy⟩, e, rfl⟩⟩
section
variable {l : List Nat} (g : GoodW l) {bs ts : List (List Nat)} (hT : Txs l bs ts) {room : List Nat} (hr : room ∈ rms l bs)
include hT hr
theorem rl_room : ∀ n, n ≤ ts.length → ∀ x v, Rl ts room n x v → x ∈ rms l bs
  | 0, _, x, v, h => by rw [h.1]; exact hr
  | n + 1, hn, x, v, h => by
    rcases h with ⟨v', _, h⟩ | ⟨y, h, rfl⟩
    · exact rl_room n (by omega) x v' h
    · exact hT.room n y (by omega) (rl_room n (by omega) y v h)
theorem ends_rl : ∀ n x, x ∈ endsM ts room n ↔ ∃ v, Rl ts room n x v
  | 0, x => by
    constructor
    · exact fun h => ⟨0, List.mem_singleton.mp h, rfl⟩
    · rintro ⟨v, h, _⟩
      rw [h]; exact List.mem_singleton.mpr rfl
  | n + 1, x => by
    show x ∈ (endsM ts room n).map (wov (ts.getD n [])) ++ endsM ts room n ↔ _
    rw [List.mem_append, List.mem_map, ends_rl n x]
    constructor
    · rintro (⟨y, hy, e⟩ | ⟨v, hv⟩)
      · obtain ⟨v, hv⟩ := (ends_rl n y).mp hy
        exact ⟨v, .inr ⟨y, hv, e⟩⟩
      · exact ⟨v + 1, .inl ⟨v, rfl, hv⟩⟩
    · rintro ⟨v, ⟨v', _, hv⟩ | ⟨y, hv, e⟩⟩
      · exact .inr ⟨v', hv⟩
      · exact .inl ⟨y, (ends_rl n y).mpr ⟨v, hv⟩, e⟩
include g
theorem fewest_least {goal : List Nat} (hg : goal ∈ rms l bs) {ks : List (List Nat)} {f : List Nat → Nat} (h : Mn (Rl ts room ts.length) ks f) : (agrB (bk ts goal none ts.length 0).2 room goal = true ↔ goal ∈ ks) ∧ (goal ∈ ks → (bk ts goal none ts.length 0).1.length = f goal) := by
  have e1 := bk_filter ts goal none ts.length 0
  rw [← List.range_eq_range'] at e1
  have back : goal ∈ ks → (agrB (bk ts goal none ts.length 0).2 room goal = true) ∧ (bk ts goal none ts.length 0).1.length ≤ f goal := fun hk => by
    obtain ⟨p, h1, h2⟩ := (rl_iff ts room ts.length goal (f goal)).mp (h.at_ goal hk)
    rw [List.range_eq_range'] at h1
    obtain ⟨a, b⟩ := bk_complete g hT hg none (p := p) (fun k hk => by cases hk) ts.length 0 room (by omega) hr h1
    refine ⟨b, ?_⟩
    rw [← h2]
    refine List.Nodup.length_le_of_subset ?_ fun k hk => ?_
    · rw [e1]; exact List.nodup_range.filter _
    · have := bk_mem ts goal none ts.length 0 k hk
      refine List.mem_filter.mpr ⟨List.mem_range.mpr (by omega), ?_⟩
      cases hp : p k with
      | true => exact absurd hk (a k hp)
      | false => rfl
  have forth : agrB (bk ts goal none ts.length 0).2 room goal = true → Rl ts room ts.length goal (bk ts goal none ts.length 0).1.length := fun ha => by
    refine (rl_iff ts room ts.length goal _).mpr ⟨hrd (bk ts goal none ts.length 0).1, ?_, ?_⟩
    · rw [List.range_eq_range']
      exact bk_sound g hT hg none ts.length 0 room (by omega) hr ha
    · have e2 : ((List.range ts.length).filter fun k => !hrd (bk ts goal none ts.length 0).1 k) = (List.range ts.length).filter fun k => decide (k ∈ (bk ts goal none ts.length 0).1) := by
        refine List.filter_congr fun k _ => ?_
        unfold hrd
        by_cases z : k ∈ (bk ts goal none ts.length 0).1 <;> simp [z]
      rw [e2, ← e1]
  refine ⟨⟨fun ha => (h.key goal).mpr ⟨_, forth ha⟩, fun hk => (back hk).1⟩, fun hk => ?_⟩
  obtain ⟨b1, b2⟩ := back hk
  have := h.low goal _ (forth b1)
  omega
end
/-! ### one call lost, or heard -/
/-- the rooms behind the first n calls, in all stories in which call k is lost -/
def endsX (ts : List (List Nat)) (room : List Nat) (k : Nat) : Nat → List (List Nat)
  | 0 => [room]
  | n + 1 => if n = k then endsX ts room k n else (endsX ts room k n).map (wov (ts.getD n [])) ++ endsX ts room k n
/-- heard -/
def endsY (ts : List (List Nat)) (room : List Nat) (k : Nat) : Nat → List (List Nat)
  | 0 => [room]
  | n + 1 => if n = k then (endsY ts room k n).map (wov (ts.getD n [])) else (endsY ts room k n).map (wov (ts.getD n [])) ++ endsY ts room k n
theorem endsX_le (ts : List (List Nat)) (room : List Nat) (k : Nat) : ∀ n, n ≤ k → endsX ts room k n = endsM ts room n ∧ endsY ts room k n = endsM ts room n
  | 0, _ => ⟨rfl, rfl⟩
  | n + 1, h => by
    obtain ⟨a, b⟩ := endsX_le ts room k n (by omega)
    have : n ≠ k := by omega
    constructor
    · show (if n = k then _ else _) = _
      rw [if_neg this, a]; rfl
    · show (if n = k then _ else _) = _
      rw [if_neg this, b]; rfl
theorem endsXY (ts : List (List Nat)) (room : List Nat) (k : Nat) : ∀ n, k < n → (endsM ts room n).Perm (endsY ts room k n ++ endsX ts room k n)
  | 0, h => by omega
  | n + 1, h => by
    by_cases e : n = k
    · obtain ⟨a, b⟩ := endsX_le ts room k n (by omega)
      show ((endsM ts room n).map (wov (ts.getD n [])) ++ endsM ts room n).Perm ((if n = k then _ else _) ++ (if n = k then _ else _))
      rw [if_pos e, if_pos e, a, b]
    · have ih := endsXY ts room k n (by omega)
      show ((endsM ts room n).map (wov (ts.getD n [])) ++ endsM ts room n).Perm ((if n = k then _ else _) ++ (if n = k then _ else _))
      rw [if_neg e, if_neg e]
      refine (List.Perm.append (ih.map _) ih).trans ?_
      rw [List.map_append]
      generalize (endsY ts room k n).map (wov (ts.getD n [])) = A
      generalize (endsX ts room k n).map (wov (ts.getD n [])) = B
      generalize endsY ts room k n = C
      generalize endsX ts room k n = D
      rw [List.append_assoc, List.append_assoc]
      refine List.Perm.append_left A ?_
      rw [← List.append_assoc, ← List.append_assoc]
      exact List.Perm.append_right D List.perm_append_comm
theorem endsX_mem (ts : List (List Nat)) (room : List Nat) (k : Nat) : ∀ n x, x ∈ endsX ts room k n ↔ ∃ p : Nat → Bool, (k < n → p k = false) ∧ runC ts ((List.range n).filter p) room = x
  | 0, x => ⟨fun h => ⟨fun _ => true, fun h => absurd h (Nat.not_lt_zero _), (List.mem_singleton.mp h).symm⟩, fun ⟨p, _, h⟩ => List.mem_singleton.mpr h.symm⟩
  | n + 1, x => by
    have cg : ∀ (p : Nat → Bool) (b : Bool), (List.range n).filter (fun j => if j = n then b else p j) = (List.range n).filter p := fun p b => List.filter_congr fun j hj => by rw [if_neg (by have := List.mem_range.mp hj; omega)]
    have up : ∀ (b : Bool) (y : List Nat), (n = k → b = false) → y ∈ endsX ts room k n → (if b then wov (ts.getD n []) y else y) = x → ∃ p : Nat → Bool, (k < n + 1 → p k = false) ∧ runC ts ((List.range (n + 1)).filter p) room = x := fun b y hb hy e => by
      obtain ⟨p, h1, h2⟩ := (endsX_mem ts room k n y).mp hy
      refine ⟨fun j => if j = n then b else p j, fun hk => ?_, ?_⟩
      · show (if k = n then b else p k) = _
        by_cases z : k = n
        · rw [if_pos z]; exact hb z.symm
        · rw [if_neg z]; exact h1 (by omega)
      · rw [List.range_succ, List.filter_append, cg]
        cases b with
        | true => rw [show ([n].filter fun j => if j = n then true else p j) = [n] by simp, runC_app, h2]; exact e
        | false => rw [show ([n].filter fun j => if j = n then false else p j) = [] by simp, List.append_nil, h2]; exact e
    have dn : ∀ p : Nat → Bool, (k < n + 1 → p k = false) → runC ts ((List.range (n + 1)).filter p) room = x → ∃ y ∈ endsX ts room k n, (if p n then wov (ts.getD n []) y else y) = x := fun p h1 h2 => by
      refine ⟨_, (endsX_mem ts room k n _).mpr ⟨p, fun h => h1 (by omega), rfl⟩, ?_⟩
      rw [List.range_succ, List.filter_append] at h2
      cases hp : p n with
      | true => rw [show [n].filter p = [n] by simp [hp], runC_app] at h2; exact h2
      | false => rw [show [n].filter p = [] by simp [hp], List.append_nil] at h2; exact h2
    show x ∈ (if n = k then _ else _) ↔ _
    by_cases e : n = k
    · rw [if_pos e]
      constructor
      · exact fun h => up false x (fun _ => rfl) h rfl
      · rintro ⟨p, h1, h2⟩
        obtain ⟨y, hy, ey⟩ := dn p h1 h2
        rw [show p n = false by rw [e]; exact h1 (by omega)] at ey
        have ey : y = x := ey
        rw [← ey]; exact hy
    · rw [if_neg e, List.mem_append, List.mem_map]
      constructor
      · rintro (⟨y, hy, ey⟩ | h)
        · exact up true y (fun z => absurd z e) hy ey
        · exact up false x (fun _ => rfl) h rfl
      · rintro ⟨p, h1, h2⟩
        obtain ⟨y, hy, ey⟩ := dn p h1 h2
        cases hp : p n with
        | true => rw [hp] at ey; exact .inl ⟨y, hy, ey⟩
        | false =>
          rw [hp] at ey
          have ey : y = x := ey
          rw [← ey]; exact .inr hy
theorem endsY_mem (ts : List (List Nat)) (room : List Nat) (k : Nat) : ∀ n x, x ∈ endsY ts room k n ↔ ∃ p : Nat → Bool, (k < n → p k = true) ∧ runC ts ((List.range n).filter p) room = x
  | 0, x => ⟨fun h => ⟨fun _ => true, fun h => absurd h (Nat.not_lt_zero _), (List.mem_singleton.mp h).symm⟩, fun ⟨p, _, h⟩ => List.mem_singleton.mpr h.symm⟩
  | n + 1, x => by
    have cg : ∀ (p : Nat → Bool) (b : Bool), (List.range n).filter (fun j => if j = n then b else p j) = (List.range n).filter p := fun p b => List.filter_congr fun j hj => by rw [if_neg (by have := List.mem_range.mp hj; omega)]
    have up : ∀ (b : Bool) (y : List Nat), (n = k → b = true) → y ∈ endsY ts room k n → (if b then wov (ts.getD n []) y else y) = x → ∃ p : Nat → Bool, (k < n + 1 → p k = true) ∧ runC ts ((List.range (n + 1)).filter p) room = x := fun b y hb hy e => by
      obtain ⟨p, h1, h2⟩ := (endsY_mem ts room k n y).mp hy
      refine ⟨fun j => if j = n then b else p j, fun hk => ?_, ?_⟩
      · show (if k = n then b else p k) = _
        by_cases z : k = n
        · rw [if_pos z]; exact hb z.symm
        · rw [if_neg z]; exact h1 (by omega)
      · rw [List.range_succ, List.filter_append, cg]
        cases b with
        | true => rw [show ([n].filter fun j => if j = n then true else p j) = [n] by simp, runC_app, h2]; exact e
        | false => rw [show ([n].filter fun j => if j = n then false else p j) = [] by simp, List.append_nil, h2]; exact e
    have dn : ∀ p : Nat → Bool, (k < n + 1 → p k = true) → runC ts ((List.range (n + 1)).filter p) room = x → ∃ y ∈ endsY ts room k n, (if p n then wov (ts.getD n []) y else y) = x := fun p h1 h2 => by
      refine ⟨_, (endsY_mem ts room k n _).mpr ⟨p, fun h => h1 (by omega), rfl⟩, ?_⟩
      rw [List.range_succ, List.filter_append] at h2
      cases hp : p n with
      | true => rw [show [n].filter p = [n] by simp [hp], runC_app] at h2; exact h2
      | false => rw [show [n].filter p = [] by simp [hp], List.append_nil] at h2; exact h2
    show x ∈ (if n = k then _ else _) ↔ _
    by_cases e : n = k
    · rw [if_pos e, List.mem_map]
      constructor
      · rintro ⟨y, hy, ey⟩
        exact up true y (fun _ => rfl) hy ey
      · rintro ⟨p, h1, h2⟩
        obtain ⟨y, hy, ey⟩ := dn p h1 h2
        rw [show p n = true by rw [e]; exact h1 (by omega)] at ey
        exact ⟨y, hy, ey⟩
    · rw [if_neg e, List.mem_append, List.mem_map]
      constructor
      · rintro (⟨y, hy, ey⟩ | h)
        · exact up true y (fun z => absurd z e) hy ey
        · exact up false x (fun z => absurd z e) h rfl
      · rintro ⟨p, h1, h2⟩
        obtain ⟨y, hy, ey⟩ := dn p h1 h2
        cases hp : p n with
        | true => rw [hp] at ey; exact .inl ⟨y, hy, ey⟩
        | false =>
          rw [hp] at ey
          have ey : y = x := ey
          rw [← ey]; exact .inr hy
section
variable {l : List Nat} (g : GoodW l) {bs ts : List (List Nat)} (hT : Txs l bs ts) {room goal : List Nat} (hr : room ∈ rms l bs) (hg : goal ∈ rms l bs)
include g hT hr hg
theorem x_some {k : Nat} (hk : k < ts.length) : goal ∈ endsX ts room k ts.length ↔ agrB (bk ts goal (some k) ts.length 0).2 room goal = true := by
  rw [endsX_mem]
  constructor
  · rintro ⟨p, h1, h2⟩
    rw [List.range_eq_range'] at h2
    exact (bk_complete g hT hg (some k) (p := p) (fun j hj => by cases hj; exact h1 hk) ts.length 0 room (by omega) hr h2).2
  · intro h
    refine ⟨hrd (bk ts goal (some k) ts.length 0).1, fun _ => ?_, ?_⟩
    · unfold hrd
      exact decide_eq_false fun z => z (bk_mis ts goal k ts.length 0 (by omega) (by omega))
    · rw [List.range_eq_range']
      exact bk_sound g hT hg (some k) ts.length 0 room (by omega) hr h
theorem y_some {k : Nat} (hk : k < ts.length) (h : agrB (bk ts goal none ts.length 0).2 room goal = true) : goal ∈ endsY ts room k ts.length ↔ k ∉ (bk ts goal none ts.length 0).1 := by
  rw [endsY_mem]
  constructor
  · rintro ⟨p, h1, h2⟩
    rw [List.range_eq_range'] at h2
    exact (bk_complete g hT hg none (p := p) (fun j hj => by cases hj) ts.length 0 room (by omega) hr h2).1 k (h1 hk)
  · intro hn
    refine ⟨hrd (bk ts goal none ts.length 0).1, fun _ => ?_, ?_⟩
    · unfold hrd
      exact decide_eq_true hn
    · rw [List.range_eq_range']
      exact bk_sound g hT hg none ts.length 0 room (by omega) hr h
end
end NC
/-! rows in which each text stands so often and once more: what is lost changes nothing -/
namespace NC
open PySem PySem.Spec PyProof.Rows L2
/-- behind these texts, v of them lost -/
def RlS : List (List Nat) → List Nat → List Nat → Nat → Prop
  | [], r, x, v => x = r ∧ v = 0
  | T :: ts, r, x, v => (∃ v', v = v' + 1 ∧ RlS ts r x v') ∨ RlS ts (wov T r) x v
def foldW (ts : List (List Nat)) (r : List Nat) : List Nat := ts.foldl (fun r T => wov T r) r
theorem rls_last (T : List Nat) : ∀ (ts : List (List Nat)) (r x : List Nat) (v : Nat), RlS (ts ++ [T]) r x v ↔ (∃ v', v = v' + 1 ∧ RlS ts r x v') ∨ ∃ y, RlS ts r y v ∧ wov T y = x
  | [], r, x, v => by
    show ((∃ v', v = v' + 1 ∧ (x = r ∧ v' = 0)) ∨ (x = wov T r ∧ v = 0)) ↔ _
    constructor
    · rintro (h | ⟨rfl, rfl⟩)
      · exact .inl h
      · exact .inr ⟨r, ⟨rfl, rfl⟩, rfl⟩
    · rintro (h | ⟨y, ⟨rfl, rfl⟩, rfl⟩)
      · exact .inl h
      · exact .inr ⟨rfl, rfl⟩
  | U :: ts, r, x, v => by
    show ((∃ v', v = v' + 1 ∧ RlS (ts ++ [T]) r x v') ∨ RlS (ts ++ [T]) (wov U r) x v) ↔ _
    constructor
    · rintro (⟨v', rfl, h⟩ | h)
      · rcases (rls_last T ts r x v').mp h with ⟨v2, rfl, h2⟩ | ⟨y, h2, e⟩
        · exact .inl ⟨v2 + 1, rfl, .inl ⟨v2, rfl, h2⟩⟩
        · exact .inr ⟨y, .inl ⟨v', rfl, h2⟩, e⟩
      · rcases (rls_last T ts (wov U r) x v).mp h with ⟨v2, rfl, h2⟩ | ⟨y, h2, e⟩
        · exact .inl ⟨v2, rfl, .inr h2⟩
        · exact .inr ⟨y, .inr h2, e⟩
    · rintro (⟨v', rfl, h⟩ | ⟨y, h, e⟩)
      · rcases h with ⟨v2, rfl, h2⟩ | h2
        · exact .inl ⟨v2 + 1, rfl, (rls_last T ts r x (v2 + 1)).mpr (.inl ⟨v2, rfl, h2⟩)⟩
        · exact .inr ((rls_last T ts (wov U r) x (v' + 1)).mpr (.inl ⟨v', rfl, h2⟩))
      · rcases h with ⟨v2, rfl, h2⟩ | h2
        · exact .inl ⟨v2, rfl, (rls_last T ts r x v2).mpr (.inr ⟨y, h2, e⟩)⟩
        · exact .inr ((rls_last T ts (wov U r) x v).mpr (.inr ⟨y, h2, e⟩))
theorem rl_rls (ts : List (List Nat)) (room : List Nat) : ∀ n, n ≤ ts.length → ∀ x v, Rl ts room n x v ↔ RlS (ts.take n) room x v
  | 0, _, x, v => Iff.rfl
  | n + 1, h, x, v => by
    have e : ts.take (n + 1) = ts.take n ++ [ts.getD n []] := by
      rw [List.take_add_one, List.getD_eq_getElem?_getD, List.getElem?_eq_getElem (by omega)]
      rfl
    rw [e, rls_last]
    show ((∃ v', v = v' + 1 ∧ Rl ts room n x v') ∨ ∃ y, Rl ts room n y v ∧ wov (ts.getD n []) y = x) ↔ _
    have ih := rl_rls ts room n (by omega)
    constructor
    · rintro (⟨v', rfl, h2⟩ | ⟨y, h2, e2⟩)
      · exact .inl ⟨v', rfl, (ih x v').mp h2⟩
      · exact .inr ⟨y, (ih y v).mp h2, e2⟩
    · rintro (⟨v', rfl, h2⟩ | ⟨y, h2, e2⟩)
      · exact .inl ⟨v', rfl, (ih x v').mpr h2⟩
      · exact .inr ⟨y, (ih y v).mpr h2, e2⟩
/-- the text is there already -/
theorem rls_still {T : List Nat} {rest : List (List Nat)} {x : List Nat} : ∀ (k : Nat) {r : List Nat} {v : Nat}, wov T r = r → RlS (List.replicate k T ++ rest) r x v → ∃ v', v' ≤ v ∧ RlS rest r x v'
  | 0, r, v, _, h => ⟨v, Nat.le_refl _, h⟩
  | k + 1, r, v, e, h => by
    rw [List.replicate_succ] at h
    rcases (show (∃ v', v = v' + 1 ∧ RlS (List.replicate k T ++ rest) r x v') ∨ RlS (List.replicate k T ++ rest) (wov T r) x v from h) with ⟨v', rfl, h2⟩ | h2
    · obtain ⟨v2, l2, h3⟩ := rls_still k e h2
      exact ⟨v2, by omega, h3⟩
    · rw [e] at h2
      exact rls_still k e h2
theorem rls_one {T : List Nat} {rest : List (List Nat)} {x : List Nat} : ∀ (k : Nat) {r : List Nat} {v : Nat}, wov T (wov T r) = wov T r → v < k → RlS (List.replicate k T ++ rest) r x v → ∃ v', v' ≤ v ∧ RlS rest (wov T r) x v'
  | 0, r, v, _, l, _ => absurd l (Nat.not_lt_zero _)
  | k + 1, r, v, e, l, h => by
    rw [List.replicate_succ] at h
    rcases (show (∃ v', v = v' + 1 ∧ RlS (List.replicate k T ++ rest) r x v') ∨ RlS (List.replicate k T ++ rest) (wov T r) x v from h) with ⟨v', rfl, h2⟩ | h2
    · obtain ⟨v2, l2, h3⟩ := rls_one k e (by omega) h2
      exact ⟨v2, by omega, h3⟩
    · exact rls_still k e h2
def hardT (m : Nat) (ts : List (List Nat)) : List (List Nat) := ts.flatMap fun T => List.replicate (m + 1) T
/-- no more than m lost: all lead to where all of them lead -/
theorem hard_all {S : List Nat → Prop} {m : Nat} : ∀ {ts : List (List Nat)}, (∀ T ∈ ts, ∀ r, S r → S (wov T r) ∧ wov T (wov T r) = wov T r) → ∀ {r x : List Nat} {v : Nat}, S r → v ≤ m → RlS (hardT m ts) r x v → x = foldW ts r
  | [], _, r, x, v, _, _, h => h.1
  | T :: ts, hT, r, x, v, hr, hv, h => by
    obtain ⟨s1, e1⟩ := hT T (List.mem_cons_self ..) r hr
    obtain ⟨v', l, h2⟩ := rls_one (T := T) (rest := hardT m ts) (m + 1) e1 (by omega) h
    exact hard_all (ts := ts) (fun U hU => hT U (List.mem_cons_of_mem _ hU)) s1 (by omega) h2
theorem rls_go {T : List Nat} {rest : List (List Nat)} {x r : List Nat} {v : Nat} (e : wov T r = r) (h : RlS rest r x v) : ∀ k, RlS (List.replicate k T ++ rest) r x v
  | 0 => h
  | k + 1 => by
    rw [List.replicate_succ]
    refine .inr ?_
    rw [e]
    exact rls_go e h k
theorem hard_some {S : List Nat → Prop} {m : Nat} : ∀ {ts : List (List Nat)}, (∀ T ∈ ts, ∀ r, S r → S (wov T r) ∧ wov T (wov T r) = wov T r) → ∀ {r : List Nat}, S r → RlS (hardT m ts) r (foldW ts r) 0
  | [], _, r, _ => ⟨rfl, rfl⟩
  | T :: ts, hT, r, hr => by
    obtain ⟨s1, e1⟩ := hT T (List.mem_cons_self ..) r hr
    have ih := hard_some (m := m) (ts := ts) (fun U hU => hT U (List.mem_cons_of_mem _ hU)) s1
    show RlS (List.replicate (m + 1) T ++ hardT m ts) r _ 0
    rw [List.replicate_succ]
    exact .inr (rls_go e1 ih m)
end NC
/-! the last word of each wall, in a hardened row -/
namespace NC
open PySem PySem.Spec PyProof.Rows L2
theorem hardT_filter (m : Nat) (p : List Nat → Bool) : ∀ ts : List (List Nat), (hardT m ts).filter p = hardT m (ts.filter p)
  | [] => rfl
  | T :: ts => by
    show (List.replicate (m + 1) T ++ hardT m ts).filter p = _
    rw [List.filter_append, hardT_filter m p ts, List.filter_cons, List.filter_replicate]
    cases p T with
    | true => rfl
    | false => rfl
theorem hardT_last (m : Nat) (L : List (List Nat)) (T : List Nat) : (hardT m (L ++ [T])).reverse.take (m + 1) = List.replicate (m + 1) T := by
  unfold hardT
  rw [List.flatMap_append, List.reverse_append]
  show List.take (m + 1) ((List.replicate (m + 1) T ++ []).reverse ++ _) = _
  rw [List.append_nil, List.reverse_replicate, List.take_append_of_le_length (by rw [List.length_replicate]; exact Nat.le_refl _), List.take_of_length_le (by rw [List.length_replicate]; exact Nat.le_refl _)]
theorem fold_last {l : List Nat} (g : GoodW l) {bs : List (List Nat)} {i : Nat} (hi : i < l.length) : ∀ {ts : List (List Nat)}, (∀ T ∈ ts, Part l T) → (∀ T ∈ ts, ∀ r, r ∈ rms l bs → wov T r ∈ rms l bs) → ∀ {r : List Nat}, r ∈ rms l bs →
    match (ts.filter fun T => decide (l.getD i 0 ∈ low T)).getLast? with
    | none => (foldW ts r).getD i 0 = r.getD i 0
    | some T => (foldW ts r).getD i 0 ∈ T
  | [], _, _, r, _ => rfl
  | T :: ts, hP, cl, r, hr => by
    have h1 := cl T (List.mem_cons_self ..) r hr
    have ih := fold_last g hi (ts := ts) (fun U hU => hP U (List.mem_cons_of_mem _ hU)) (fun U hU => cl U (List.mem_cons_of_mem _ hU)) h1
    rw [List.filter_cons]
    by_cases w : l.getD i 0 ∈ low T
    · rw [if_pos (decide_eq_true w)]
      obtain ⟨s, hs, es⟩ := List.mem_map.mp w
      have hw := wov_writes g (hP T (List.mem_cons_self ..)) hi hs es hr
      cases e : (ts.filter fun T => decide (l.getD i 0 ∈ low T)).getLast? with
      | none =>
        rw [e] at ih
        rw [List.getLast?_eq_none_iff.mp e]
        show (foldW ts (wov T r)).getD i 0 ∈ T
        rw [show (foldW ts (wov T r)).getD i 0 = (wov T r).getD i 0 from ih, hw]
        exact hs
      | some U =>
        rw [e] at ih
        rw [List.getLast?_cons, e]
        exact ih
    · rw [if_neg fun z => w (of_decide_eq_true z)]
      obtain ⟨lr, ltr, _⟩ := rm_side g hr hi
      have hw : (wov T r).getD i 0 = r.getD i 0 := by
        rw [wov_get (by rw [rm_len' g hr]; exact hi), if_neg fun z => w (List.mem_map.mpr ⟨_, z, by rw [lwc_swp ltr, lr]⟩)]
      cases e : (ts.filter fun T => decide (l.getD i 0 ∈ low T)).getLast? with
      | none =>
        rw [e] at ih
        exact (show (foldW ts (wov T r)).getD i 0 = (wov T r).getD i 0 from ih).trans hw
      | some U =>
        rw [e] at ih
        exact ih
end NC
namespace NC
open PySem PySem.Spec PyProof.Rows L2
theorem runC_fold (ts : List (List Nat)) : ∀ (ks : List Nat) (r : List Nat), runC ts ks r = foldW (ks.map fun k => ts.getD k []) r
  | [], _ => rfl
  | k :: ks, r => runC_fold ts ks (wov (ts.getD k []) r)
/-- a side of one wall written twice is written once -/
theorem wov_idem {l : List Nat} (g : GoodW l) {bs : List (List Nat)} {T : List Nat} (pT : Part l T) {r : List Nat} (hr : r ∈ rms l bs) (h1 : wov T r ∈ rms l bs) : wov T (wov T r) = wov T r := by
  have len : (wov T (wov T r)).length = (wov T r).length := wov_len T _
  refine List.ext_getElem len fun i h0 h2 => ?_
  have hi : i < l.length := by rw [rm_len' g h1] at h2; exact h2
  have key : (wov T (wov T r)).getD i 0 = (wov T r).getD i 0 := by
    by_cases w : l.getD i 0 ∈ low T
    · obtain ⟨s, hs, es⟩ := List.mem_map.mp w
      rw [wov_writes g pT hi hs es h1, wov_writes g pT hi hs es hr]
    · obtain ⟨lr, ltr, _⟩ := rm_side g h1 hi
      rw [wov_get h2, if_neg fun z => w (List.mem_map.mpr ⟨_, z, by rw [lwc_swp ltr, lr]⟩)]
  rw [List.getD_eq_getElem?_getD, List.getD_eq_getElem?_getD, List.getElem?_eq_getElem h0, List.getElem?_eq_getElem h2] at key
  exact key
end NC
namespace NC
open PySem PySem.Spec PyProof.Rows L2
section
variable {P : Program} {w : World} {K : PySem.W.Frag} {mg : Str → Option Value} {base : Heap} {C fi fb fm fr fg fw ff : Addr} {di db dm dr dg dw df : FuncData}
/-! ### shut_calls, let by -/
def spShCallsQ (K : PySem.W.Frag) (C : Addr) : Sp := fun vs H Q _ => ∃ x dx sb D l ys fo bs a, ∃ (Ps : List (List Nat)), vs = [.ref x, .ref a, .int 24] ∧ HallF C H x dx sb D l ys fo bs ∧ (SqL K H a ((Ps.map tx).map V.str) ∨ SqT K H a ((Ps.map tx).map V.str)) ∧ Ps.length ≤ 24 ∧ (∀ P ∈ Ps, Part l P ∧ ∃ z ∈ rms l bs, ∀ s ∈ P, s ∈ z) ∧
  ∀ H' p, Same H H' → H p = none → H' p = some (.lst (((Ps.map (shT l fo)).map tx).map V.str)) → Q (.ref p) H'
set_option maxHeartbeats 1000000 in
theorem ok_shCallsQ {f fC fS fO fBy fIsP fChP fAFB fTo fSh : Addr} {fd dC dS dO dBy dIsP dChP dAFB dTo dSh : FuncData} {k : Nat} (B : BM mg) (Z : HC K mg C fi fb di db) (T : PT K mg C fw ff dw df fIsP fChP fAFB fTo dIsP dChP dAFB dTo) (Cs : DF K mg "check_side" sChkSide ["walls", "side"] fC dC) (S : DF K mg "sides_of" sSides ["walls"] fS dS) (O : DF K mg "other" sOther ["side"] fO dO) (By : DF K mg "by_walls" sByWalls ["walls", "sides"] fBy dBy)
    (Sh : DF K mg "shut" sShut ["hall", "part"] fSh dSh) (F : Fun K "shut_calls" "shut_calls" sShCalls f fd) : FnOk P w K mg base CX0 (k + 7) f fd ["hall", "calls", "most"] (spShCallsQ K C) := by
  have GS : FnOk P w K mg base CX0 (k + 6) fSh dSh ["hall", "part"] (spShut C) := ok_shut B Z T Cs S O By Sh.F
  refine F.ok scShCalls (fun vs H Q E h => ?_) (fun cdv A0 outer st H vs Q E hr h => ?_)
  · obtain ⟨x, dx, sb, D, l, ys, fo, bs, a, Ps, rfl, _⟩ := h
    rfl
  · obtain ⟨x, dx, sb, D, l, ys, fo, bs, a, Ps, rfl, hF, hS, hn, hPs, q⟩ := h
    have nd := scShCalls.nd
    refine ⟨_, pss_cons (ps_if (pt_cmpR op_gt (pe_callB call_len_seq (by rfl) B.len PySem.boot_len (pa_cons (pv 1) pa_nil)) (pv 2) (nomark _)) (pss_one ps_dead) pss_nil)
      (pss_one (ps_ret (pe_lc (own := [("part", 3)]) (g := gName 3) (tt := tYes) (te := tCall (spShut C) [] E0 (tCons (tVar 0) (tCons (tVar 3) tNil))) rfl nd (pi_seq (pv 1)) (blkOk_by (N := ["hall", "calls", "most", "part"]) (sc := defScope sShCalls) (by decide +kernel)) (fun _ _ _ _ _ => pg_name (i := 3) nd rfl (Or.inl rfl)) (fun _ _ _ _ _ => pts_nil)
        (fun _ _ _ _ _ => pe_call GS hr rfl Sh.g Sh.F.kp Sh.b .nil pass0 (pa_cons (pv 0) (pa_cons (pv 3) pa_nil)))))), ?_⟩
    refine ⟨_, rfl, a, _, rfl, hS, _, rfl, _, _, rfl, rfl, _, rfl, ?_⟩
    rw [decide_eq_false (by rw [List.length_map, List.length_map]; omega)]
    refine iteF ?_
    rcases hS with hS | hS
    · have wk := walk_list (K := K) (a := a) (xs := (Ps.map tx).map V.str)
      rw [List.length_map, List.length_map] at wk
      refine ⟨_, rfl, a, rfl, .inl ⟨⟨_, hS⟩, fun Da na => ?_⟩⟩
      refine lc_it wk (fun i H' => Same H H' ∧ H' Da = some (.lst ((((Ps.take i).map (shT l fo)).map tx).map V.str))) ⟨same_upd na, upd_same⟩ (fun i H' _ h => sm_l h.1 hS) ?_ ?_
      · rintro u v G1 G2 hu ⟨u1, e1⟩ ⟨rfl, hx⟩
        rw [List.getElem?_map, List.getElem?_map] at hx
        obtain ⟨z2, hz2, rfl⟩ := Option.map_eq_some_iff.mp hx
        obtain ⟨o, ho2, rfl⟩ := Option.map_eq_some_iff.mp hz2
        obtain ⟨pO, z, hz, hin⟩ := hPs o (List.mem_of_getElem? ho2)
        refine ⟨rfl, yes_i ⟨_, rfl, _, rfl, x, dx, sb, D, l, ys, fo, bs, o, z, rfl, hF.same u1, pO, hz, hin, fun G3 u3 => ⟨_, u3 _ _ e1, ?_, sm_over (sm_trans u1 u3) na, ?_⟩⟩⟩
        · rw [List.length_map, List.length_map, List.length_map, List.length_take, sizeLine_eq]
          omega
        · rw [upd_same, List.take_add_one, ho2, List.map_append, List.map_append, List.map_append]
          rfl
      · rintro H1 ⟨s1, e1⟩
        rw [List.take_length] at e1
        exact q H1 Da s1 na e1
    · have wk := walk_tup (K := K) (a := a) (xs := (Ps.map tx).map V.str)
      rw [List.length_map, List.length_map] at wk
      refine ⟨_, rfl, a, rfl, .inr ⟨⟨_, hS⟩, fun Da na => ?_⟩⟩
      refine lc_it wk (fun i H' => Same H H' ∧ H' Da = some (.lst ((((Ps.take i).map (shT l fo)).map tx).map V.str))) ⟨same_upd na, upd_same⟩ (fun i H' _ h => sm_t h.1 hS) ?_ ?_
      · rintro u v G1 G2 hu ⟨u1, e1⟩ ⟨rfl, hx⟩
        rw [List.getElem?_map, List.getElem?_map] at hx
        obtain ⟨z2, hz2, rfl⟩ := Option.map_eq_some_iff.mp hx
        obtain ⟨o, ho2, rfl⟩ := Option.map_eq_some_iff.mp hz2
        obtain ⟨pO, z, hz, hin⟩ := hPs o (List.mem_of_getElem? ho2)
        refine ⟨rfl, yes_i ⟨_, rfl, _, rfl, x, dx, sb, D, l, ys, fo, bs, o, z, rfl, hF.same u1, pO, hz, hin, fun G3 u3 => ⟨_, u3 _ _ e1, ?_, sm_over (sm_trans u1 u3) na, ?_⟩⟩⟩
        · rw [List.length_map, List.length_map, List.length_map, List.length_take, sizeLine_eq]
          omega
        · rw [upd_same, List.take_add_one, ho2, List.map_append, List.map_append, List.map_append]
          rfl
      · rintro H1 ⟨s1, e1⟩
        rw [List.take_length] at e1
        exact q H1 Da s1 na e1
end
end NC
namespace NC
open PySem PySem.Spec PyProof.Rows L2
def TsQ (ts : List (List Nat)) : Prop := ts.length ≤ 24 ∧ ∀ T ∈ ts, T.length ≤ 12 ∧ ∀ c ∈ T, c < 128
structure CallsQ (l : List Nat) (bs : List (List Nat)) (Ps : List (List Nat)) : Prop where
  len : Ps.length ≤ 24
  ok : ∀ P ∈ Ps, Part l P ∧ ∃ z ∈ rms l bs, ∀ s ∈ P, s ∈ z
theorem CallsQ.ts {l : List Nat} {bs : List (List Nat)} {Ps : List (List Nat)} (h : CallsQ l bs Ps) (g : GoodW l) (hb : ∀ b ∈ bs, isBar l b = true) {fo : Nat → List Nat} (hf : ∀ s ∈ sds l, ∀ t, t ∈ fo s ↔ Frc (adjOf bs) s t) (ok : Okv l bs) : (∀ T ∈ Ps.map (shT l fo), Part l T) ∧ TsQ (Ps.map (shT l fo)) := by
  have hp : ∀ T ∈ Ps.map (shT l fo), Part l T := fun T hT => by
    obtain ⟨P, hP, rfl⟩ := List.mem_map.mp hT
    obtain ⟨pP, z, hz, hin⟩ := h.ok P hP
    exact shut_part g hb hf ok pP.sd hz hin
  refine ⟨hp, by rw [List.length_map]; exact h.len, fun T hT => ⟨?_, fun c hc => sds_asc g ((hp T hT).sd c hc)⟩⟩
  have := (hp T hT).len
  have := g.hi
  omega
theorem CallsQ.txs {l : List Nat} {bs : List (List Nat)} {Ps : List (List Nat)} (h : CallsQ l bs Ps) (g : GoodW l) (hb : ∀ b ∈ bs, isBar l b = true) {fo : Nat → List Nat} (hf : ∀ s ∈ sds l, ∀ t, t ∈ fo s ↔ Frc (adjOf bs) s t) (ok : Okv l bs) : Txs l bs (Ps.map (shT l fo)) ∧ ∀ k P r, Ps[k]? = some P → r ∈ rms l bs → wov ((Ps.map (shT l fo)).getD k []) r = wov (allFo fo P) r := by
  have e : ∀ k P r, Ps[k]? = some P → r ∈ rms l bs → wov ((Ps.map (shT l fo)).getD k []) r = wov (allFo fo P) r := fun k P r hP hr => by
    have : (Ps.map (shT l fo)).getD k [] = shT l fo P := by rw [List.getD_eq_getElem?_getD, List.getElem?_map, hP]; rfl
    rw [this]
    refine wov_by g fun c hc => ?_
    obtain ⟨p, rfl, _⟩ := (rms_mem g hb r).mp hr
    exact rm_asc g hc
  refine ⟨⟨(h.ts g hb hf ok).1, fun k r hk hr => ?_⟩, e⟩
  rw [List.length_map] at hk
  obtain ⟨pP, z, hz, hin⟩ := h.ok _ (List.getElem_mem hk)
  rw [e k _ r (List.getElem?_eq_getElem hk) hr]
  exact (wov_room g hb hf pP.sd hz hin hr).1
/-- what the functions of lost calls ask for in the text -/
structure CTQ (K : PySem.W.Frag) (mg : Str → Option Value) (tc : Tok) (fSh fSc fCR fWo : Addr) (dSh dSc dCR dWo : FuncData) : Prop where
  sh : DF K mg "shut" sShut ["hall", "part"] fSh dSh
  sc : DF K mg "shut_calls" sShCalls ["hall", "calls", "most"] fSc dSc
  cr : DF K mg "check_room" sChkRoom ["hall", "room"] fCR dCR
  wo : DF K mg "written_over" sWOver ["written", "room"] fWo dWo
  mC : mg "MOST_SENT" = some (.int 24 tc)
end NC
namespace NC
open PySem PySem.Spec PyProof.Rows L2
abbrev sLeastM : Stmt := topS 46
abbrev sRoomsW : Stmt := topS 47
abbrev sEndsW : Stmt := topS 48
abbrev sSurely : Stmt := topS 49
abbrev nLeastM : List Str := ["shut_texts", "room", "missed", "written", "stood", "later", "met"]
abbrev nRoomsW : List Str := ["shut_texts", "room", "most", "missed", "stood"]
theorem scLeastM : FnScope nLeastM ["shut_texts", "room"] (defScope sLeastM) := ⟨rfl, rfl, rfl, by decide +kernel, rfl, by decide +kernel, by decide +kernel⟩
theorem scRoomsW : FnScope nRoomsW ["shut_texts", "room", "most"] (defScope sRoomsW) := ⟨rfl, rfl, rfl, by decide +kernel, rfl, by decide +kernel, by decide +kernel⟩
theorem scEndsW : FnScope ["hall", "calls", "room", "most", "shut_texts"] ["hall", "calls", "room", "most"] (defScope sEndsW) := ⟨rfl, rfl, rfl, by decide +kernel, rfl, by decide +kernel, by decide +kernel⟩
theorem scSurely : FnScope ["hall", "calls", "room", "goal", "most", "shut_texts"] ["hall", "calls", "room", "goal", "most"] (defScope sSurely) := ⟨rfl, rfl, rfl, by decide +kernel, rfl, by decide +kernel, by decide +kernel⟩
/-! ### the rooms' texts rise -/
theorem lex_le : ∀ (p : List Nat) {x y : Nat} (r s : List Nat), x < y → (p ++ x :: r) ≤ (p ++ y :: s)
  | [], x, y, r, s, h => by
    show x :: r ≤ y :: s
    rw [List.cons_le_cons_iff]
    exact .inl h
  | a :: p, x, y, r, s, h => by
    show a :: (p ++ x :: r) ≤ a :: (p ++ y :: s)
    rw [List.cons_le_cons_iff]
    exact .inr ⟨rfl, lex_le p r s h⟩
theorem bef_le {l : List Nat} (g : GoodW l) {a b : List Nat} (ha : a.length = l.length) (h : Bef l a b) : leS (tx a) (tx b) := by
  obtain ⟨i, h1, h2, h3, h4, h5⟩ := h
  have hil : i < l.length := by omega
  have sm := g.sm _ (List.getElem_mem hil)
  have el : l.getD i 0 = l[i] := by rw [List.getD_eq_getElem?_getD, List.getElem?_eq_getElem hil]; rfl
  have ea : a.getD i 0 = a[i] := by rw [List.getD_eq_getElem?_getD, List.getElem?_eq_getElem h1]; rfl
  have eb : b.getD i 0 = b[i] := by rw [List.getD_eq_getElem?_getD, List.getElem?_eq_getElem h2]; rfl
  have lt : a[i] < b[i] := by
    rw [← ea, ← eb, h4, h5, el, upc_small sm]
    omega
  show (tx a).cps.toList ≤ (tx b).cps.toList
  rw [tx_list, tx_list]
  have sa : a = a.take i ++ a[i] :: a.drop (i + 1) := by rw [List.getElem_cons_drop, List.take_append_drop]
  have sb : b = b.take i ++ b[i] :: b.drop (i + 1) := by rw [List.getElem_cons_drop, List.take_append_drop]
  rw [sa, sb, h3]
  exact lex_le _ _ _ lt
theorem rms_rise {l : List Nat} (g : GoodW l) {bs : List (List Nat)} (p : List Nat → Bool) : (((rms l bs).filter p).map tx).Pairwise leS := by
  rw [List.pairwise_map]
  have pw : ((rms l bs).filter p).Pairwise (Bef l) := by
    unfold rms
    exact ((allT_pw l l.length).filter _).filter _
  refine List.Pairwise.imp_of_mem (fun {a b} ha hb h => ?_) pw
  exact bef_le g (rm_len' g (List.mem_filter.mp ha).1) h
theorem perm_of {α : Type} [DecidableEq α] : ∀ {a b : List α}, a.Nodup → b.Nodup → (∀ x, x ∈ a ↔ x ∈ b) → a.Perm b
  | [], b, _, _, h => by
    cases b with
    | nil => exact List.Perm.refl _
    | cons y r => exact absurd ((h y).mpr (List.mem_cons_self ..)) (by simp)
  | x :: a, b, na, nb, h => by
    obtain ⟨n1, n2⟩ := List.nodup_cons.mp na
    obtain ⟨u, v, e⟩ := List.append_of_mem ((h x).mp (List.mem_cons_self ..))
    rw [e] at nb h ⊢
    have nb' := List.nodup_append.mp nb
    have nc := List.nodup_cons.mp nb'.2.1
    refine List.Perm.trans ?_ List.perm_middle.symm
    refine List.Perm.cons x (perm_of n2 (List.nodup_append.mpr ⟨nb'.1, nc.2, fun p hp q hq => nb'.2.2 p hp q (List.mem_cons_of_mem _ hq)⟩) fun y => ?_)
    have hy := h y
    rw [List.mem_cons, List.mem_append, List.mem_cons] at hy
    rw [List.mem_append]
    constructor
    · intro hm
      have ne : y ≠ x := fun z => n1 (by rw [← z]; exact hm)
      rcases hy.mp (.inr hm) with z | z | z
      · exact .inl z
      · exact absurd z ne
      · exact .inr z
    · intro hm
      have ne : y ≠ x := fun z => by
        rcases hm with w | w
        · exact nb'.2.2 y w x (List.mem_cons_self ..) z
        · exact nc.1 (by rw [← z]; exact w)
      rcases hy.mpr (hm.elim .inl fun w => .inr (.inr w)) with z | z
      · exact absurd z ne
      · exact z
section
variable {P : Program} {w : World} {K : PySem.W.Frag} {mg : Str → Option Value} {base : Heap}
def spLeastM (K : PySem.W.Frag) : Sp := fun vs H Q _ => ∃ a, ∃ (ts : List (List Nat)) (room l : List Nat) (bs : List (List Nat)), vs = [.ref a, .str (tx room)] ∧ GoodW l ∧ Txs l bs ts ∧ TsQ ts ∧ SqL K H a ((ts.map tx).map V.str) ∧ room ∈ rms l bs ∧ ∀ H' p ks f, Same H H' → H p = none → H' p = some (.dK (ctK ks f)) → Mn (Rl ts room ts.length) ks f → Q (.ref p) H'
set_option maxHeartbeats 4000000 in
theorem ok_leastM {f fO fWo : Addr} {fd dO dWo : FuncData} {k : Nat} (B : BM mg) (hmin : mg "min" = none) (O : DF K mg "other" sOther ["side"] fO dO) (Wo : DF K mg "written_over" sWOver ["written", "room"] fWo dWo) (F : Fun K "least_missed" "least_missed" sLeastM f fd) : FnOk P w K mg base CX0 (k + 3) f fd ["shut_texts", "room"] (spLeastM K) := by
  have GW : FnOk P w K mg base CX0 (k + 2) fWo dWo ["written", "room"] spWOver := ok_wover O Wo.F
  refine F.ok scLeastM (fun vs H Q E h => ?_) (fun cdv A0 outer st H vs Q E hr h => ?_)
  · obtain ⟨a, ts, room, l, bs, rfl, _⟩ := h
    rfl
  · obtain ⟨a, ts, room, l, bs, rfl, g, txs, tok, hS, hm, q⟩ := h
    have nd := scLeastM.nd
    have hl12 := g.hi
    have tn := tok.1
    refine ⟨_, pss_cons (ps_set (i := 2) nd rfl (.inr rfl) (pe_disp (pps_cons (pv 1) pe_int pps_nil) (by rfl) (by rfl) (fun z => by cases z) (by decide)))
      (pss_cons (ps_for PassesOwn.never rfl (pi_list (pv 0)) (pg_name (i := 3) nd rfl (.inl rfl))
        (pss_cons (ps_lock (ps_setDc (i := 5) (own := [("stood", 4)]) (g := gName 4) (tt := tYes) (tk := tVar 4) (tv := tOp (rI0 fun i j => .int (i + j)) (tDGet (tVar 2) (tVar 4)) (tC (.int 1))) rfl nd rfl rfl (sw_dict rfl rfl rfl (by decide +kernel)) (pi_keys (pv 2)) (blkOk_by (N := nLeastM) (sc := defScope sLeastM) (by decide +kernel)) (fun _ _ _ _ _ => pg_name (i := 4) nd rfl (Or.inl rfl)) (fun _ _ _ _ _ => pts_nil) (fun _ _ _ _ _ => pv 4) (fun _ _ _ _ _ => pe_op op_add (pe_dget (hu_of hr) (pv 2) (pv 4) (fun _ _ => rfl)) pe_int)))
        (pss_cons (ps_lock (ps_for PassesOwn.never rfl (pi_keys (pv 2)) (pg_name (i := 4) nd rfl (.inl rfl))
          (pss_cons (ps_set (i := 6) nd rfl (.inl rfl) (pe_call GW hr rfl Wo.g Wo.F.kp Wo.b .nil pass0 (pa_cons (pv 3) (pa_cons (pv 4) pa_nil))))
          (pss_one (ps_dput (hu_of hr) (pv 5) (pv 6) (pe_callB (call_min2 rfl) (by rfl) hmin (by decide +kernel) (pa_cons (pe_dget (hu_of hr) (pv 2) (pv 4) (fun _ _ => rfl)) (pa_cons (pe_dget2 (hu_of hr) (pv 5) (pv 6) (pe_dget (hu_of hr) (pv 2) (pv 4) (fun _ _ => rfl)) ⟨rfl, rfl, rfl, rfl⟩) pa_nil))) rfl)))))
        (pss_one (ps_set (i := 2) nd rfl (.inr rfl) (pv 5))))))
      (pss_one (ps_ret (pv 2)))), ?_⟩
    refine fun M0 nM => ⟨_, rfl, upd_same, [(Sum.inr (tx room), .int 0)], rfl, by show 1 ≤ 15; decide, ?_⟩
    have eM : upd (upd H M0 (.dK [])) M0 (.dK (mergeK [] [(Sum.inr (tx room), .int 0)])) = upd H M0 (.dK (ctK [room] fun _ => 0)) := by
      rw [L2.upd_upd]
      rfl
    rw [eM]
    have mn0 : Mn (Rl ts room 0) [room] (fun _ => 0) := ⟨by simp, fun x => ⟨fun h => ⟨0, List.mem_singleton.mp h, rfl⟩, fun ⟨v, h, _⟩ => List.mem_singleton.mpr h⟩, fun x h => ⟨List.mem_singleton.mp h, rfl⟩, fun x v _ => Nat.zero_le _⟩
    have wk := walk_list (K := K) (a := a) (xs := (ts.map tx).map V.str)
    rw [List.length_map, List.length_map] at wk
    refine ⟨_, rfl, a, rfl, ⟨_, sm_l (same_upd nM) hS⟩, ?_⟩
    refine for_it wk (fun i σ H' => ∃ (A : Addr) (ks : List (List Nat)) (f : List Nat → Nat) (y3 y4 y5 y6 : Option V), σ = [some (.ref a), some (.str (tx room)), some (.ref A), y3, y4, y5, y6] ∧ Same H H' ∧ H A = none ∧ H' A = some (.dK (ctK ks f)) ∧ Mn (Rl ts room i) ks f)
      ⟨M0, [room], fun _ => 0, _, _, _, _, rfl, same_upd nM, nM, upd_same, mn0⟩ (fun i σ H' _ h => by obtain ⟨_, _, _, _, _, _, _, _, h, _⟩ := h; exact sm_l h hS) ?_ ?_
    · rintro i v σ G1 G2 hi ⟨A, ks, f, y3, y4, y5, y6, rfl, u1, nA, eA, mn⟩ ⟨rfl, hx⟩
      rw [List.getElem?_map, List.getElem?_map] at hx
      obtain ⟨z2, hz2, rfl⟩ := Option.map_eq_some_iff.mp hx
      obtain ⟨W, hW, rfl⟩ := Option.map_eq_some_iff.mp hz2
      have eW : ts.getD i [] = W := by rw [List.getD_eq_getElem?_getD, hW]; rfl
      have krm : ∀ x ∈ ks, x ∈ rms l bs := fun x hx => rl_room txs hm i (by omega) x (f x) (mn.at_ x hx)
      have kle : ks.length ≤ 4096 := Nat.le_trans (mn.nd.length_le_of_subset krm) (rms_len0 g)
      -- later, all a call more
      refine ⟨A, .dK (ctK ks f), eA, True.intro, fun od => ?_⟩
      have eF : (upd G2 A (.frz od (.dK (ctK ks f)))) A = some (.frz od (.dK (ctK ks f))) := upd_same
      have s23 : ∀ {o : HO}, Same H (upd G2 A o) := sm_over u1 nA
      generalize hG3 : upd G2 A (.frz od (.dK (ctK ks f))) = G3 at eF
      have s3 : Same H G3 := by rw [← hG3]; exact s23
      have wk2 := walk_keys (d := A) (o := od) (kvs := ctK ks f)
      rw [show (ctK ks f).length = ks.length by unfold ctK; rw [List.length_map]] at wk2
      refine ⟨_, rfl, A, od, rfl, .inl ⟨_, eF, fun Lt nLt => ?_⟩⟩
      have nL0 : H Lt = none := L2.Same.free s3 nLt
      have nAL : A ≠ Lt := ne_of_none eF nLt
      refine dc_it wk2 (fun j H' => Same G3 H' ∧ H' Lt = some (.dK (ctK (ks.take j) fun x => f x + 1))) ⟨same_upd nLt, upd_same⟩ (fun j H' _ h => h.1 _ _ eF) ?_ ?_
      · rintro j v G4 G5 hj ⟨u4, e4⟩ ⟨rfl, kk, vv, hk, rfl⟩
        unfold ctK at hk
        rw [List.getElem?_map] at hk
        obtain ⟨y, hy, ey⟩ := Option.map_eq_some_iff.mp hk
        cases ey
        have ym : y ∈ ks := List.mem_of_getElem? hy
        have yn : y ∉ ks.take j := fun hm => by
          obtain ⟨i', hi'⟩ := List.getElem?_of_mem hm
          have hlt : i' < j := by
            have := (List.getElem?_eq_some_iff.mp hi').1
            rw [List.length_take] at this
            omega
          rw [List.getElem?_take_of_lt hlt] at hi'
          have := (List.getElem?_inj (List.getElem?_eq_some_iff.mp hi').1 mn.nd).mp (hi'.trans hy.symm)
          omega
        have eA5 := u4 _ _ eF
        refine ⟨rfl, yes_i ⟨_, rfl, _, rfl, _, rfl, A, .int ((f y : Nat) : Int), rfl, .inl ⟨_, Sum.inr (tx y), .inr ⟨od, eA5⟩, rfl, (ctK_val (f := f) ym).symm⟩, _, _, rfl, rfl, _, Sum.inr (tx y), rfl, e4, by unfold ctK; rw [List.length_map, List.length_take, sizeLine_eq]; omega, sm_over u4 nLt, ?_⟩⟩
        rw [upd_same]
        show some (HO.dK (putK (ctK (ks.take j) fun x => f x + 1) (Sum.inr (tx y)) (V.int ((f y : Int) + 1)))) = _
        rw [show ((f y : Int) + 1) = ((f y + 1 : Nat) : Int) by omega, ctK_put, if_neg yn, List.take_add_one, hy]
        congr 2
        unfold ctK
        refine List.map_congr_left fun x _ => ?_
        show (Sum.inr (tx x), V.int ((if x = y then f y + 1 else f x + 1 : Nat) : Int)) = (Sum.inr (tx x), V.int ((f x + 1 : Nat) : Int))
        by_cases z : x = y
        · rw [if_pos z, z]
        · rw [if_neg z]
      rintro G4 ⟨u4, e4⟩
      rw [List.take_length] at e4
      refine ⟨u4 _ _ eF, ?_⟩
      have s4 : Same H (upd G4 A (.dK (ctK ks f))) := sm_over (sm_trans s3 u4) nA
      have eA4 : (upd G4 A (.dK (ctK ks f))) A = some (.dK (ctK ks f)) := upd_same
      have eL4 : (upd G4 A (.dK (ctK ks f))) Lt = some (.dK (ctK ks fun x => f x + 1)) := by rw [upd_ne (Ne.symm nAL)]; exact e4
      generalize upd G4 A (.dK (ctK ks f)) = G5 at s4 eA4 eL4 ⊢
      -- those who hear it
      refine ⟨A, .dK (ctK ks f), eA4, True.intro, fun od2 => ?_⟩
      have eF6 : (upd G5 A (.frz od2 (.dK (ctK ks f)))) A = some (.frz od2 (.dK (ctK ks f))) := upd_same
      have eL6 : (upd G5 A (.frz od2 (.dK (ctK ks f)))) Lt = some (.dK (ctK ks fun x => f x + 1)) := by rw [upd_ne (Ne.symm nAL)]; exact eL4
      have s6 : Same H (upd G5 A (.frz od2 (.dK (ctK ks f)))) := sm_over s4 nA
      generalize upd G5 A (.frz od2 (.dK (ctK ks f))) = G6 at eF6 eL6 s6 ⊢
      have wk3 := walk_keys (d := A) (o := od2) (kvs := ctK ks f)
      rw [show (ctK ks f).length = ks.length by unfold ctK; rw [List.length_map]] at wk3
      refine ⟨_, rfl, A, od2, rfl, .inl ⟨_, eF6, ?_⟩⟩
      have mn1 : Mn (fun x v => (x ∈ ks ∧ v = f x + 1) ∨ ∃ y ∈ ks.take 0, wov W y = x ∧ v = f y) ks (fun x => f x + 1) := ⟨mn.nd, fun x => ⟨fun h => ⟨_, .inl ⟨h, rfl⟩⟩, fun ⟨v, h⟩ => h.elim (·.1) fun ⟨y, hy, _⟩ => (by simp at hy)⟩, fun x h => .inl ⟨h, rfl⟩, fun x v h => h.elim (fun z => by rw [z.2]; exact Nat.le_refl _) fun ⟨y, hy, _⟩ => (by simp at hy)⟩
      refine for_it wk3 (fun j σ H' => ∃ (ks' : List (List Nat)) (f' : List Nat → Nat) (y4 y6 : Option V), σ = [some (.ref a), some (.str (tx room)), some (.ref A), some (.str (tx W)), y4, some (.ref Lt), y6] ∧ Same H H' ∧ H' A = some (.frz od2 (.dK (ctK ks f))) ∧ H' Lt = some (.dK (ctK ks' f')) ∧ Mn (fun x v => (x ∈ ks ∧ v = f x + 1) ∨ ∃ y ∈ ks.take j, wov W y = x ∧ v = f y) ks' f')
        ⟨ks, fun x => f x + 1, _, _, rfl, s6, eF6, eL6, mn1⟩ (fun j σ H' _ h => by obtain ⟨_, _, _, _, _, _, h, _⟩ := h; exact h) ?_ ?_
      · rintro j v σ G7 G8 hj ⟨ks', f', y4', y6', rfl, u7, eA7, eL7, mn7⟩ ⟨rfl, kk, vv, hk, rfl⟩
        unfold ctK at hk
        rw [List.getElem?_map] at hk
        obtain ⟨y, hy, ey⟩ := Option.map_eq_some_iff.mp hk
        cases ey
        have ym : y ∈ ks := List.mem_of_getElem? hy
        obtain ⟨yl, ylt⟩ := rms_lets g y (krm y ym)
        have tkS : ks.take (j + 1) = ks.take j ++ [y] := by rw [List.take_add_one, hy]; rfl
        have kl' : ks'.length ≤ 4096 := Nat.le_trans (mn7.nd.length_le_of_subset fun z hz => by
          rcases mn7.at_ z hz with ⟨h, _⟩ | ⟨t, ht, e, _⟩
          · exact krm z h
          · rw [← e, ← eW]; exact txs.room i t (by omega) (krm t (List.mem_of_mem_take ht))) (rms_len0 g)
        refine ⟨_, rfl, _, rfl, W, y, rfl, fun c hc => (ylt c hc).asc, by omega, fun G9 u9 => ?_⟩
        have eL9 := u9 _ _ eL7
        have eA9 := u9 _ _ eA7
        have dg : DGet G9 A (.str (tx y)) (some (.int ((f y : Nat) : Int))) := .inl ⟨_, Sum.inr (tx y), .inr ⟨od2, eA9⟩, rfl, (ctK_val (f := f) ym).symm⟩
        have gt : (valV (ctK ks' f') (Sum.inr (tx (wov W y)))).getD (.int ((f y : Nat) : Int)) = .int (((if wov W y ∈ ks' then f' (wov W y) else f y : Nat)) : Int) := by
          by_cases z : wov W y ∈ ks'
          · rw [ctK_val z, if_pos z]; rfl
          · rw [ctK_no z, if_neg z]; rfl
        refine ⟨_, rfl, _, rfl, A, _, rfl, dg, _, rfl, Lt, rfl, .inl ⟨_, .inl eL9⟩, _, rfl, _, rfl, _, rfl, A, _, rfl, dg, _, DGet.k (k := Sum.inr (tx (wov W y))) eL9, ((f y : Nat) : Int), (((if wov W y ∈ ks' then f' (wov W y) else f y : Nat)) : Int), ?_, _, rfl, _, rfl, Lt, _, rfl, DPut.k (k := Sum.inr (tx (wov W y))) eL9 (by unfold ctK; rw [List.length_map, sizeLine_eq]; omega), ?_⟩
        · rw [gt]
        · have nv : (if (((if wov W y ∈ ks' then f' (wov W y) else f y : Nat)) : Int) < ((f y : Nat) : Int) then (((if wov W y ∈ ks' then f' (wov W y) else f y : Nat)) : Int) else ((f y : Nat) : Int)) = ((if wov W y ∈ ks' then min (f' (wov W y)) (f y) else f y : Nat) : Int) := by
            by_cases z : wov W y ∈ ks'
            · rw [if_pos z, if_pos z]
              split <;> omega
            · rw [if_neg z, if_neg z, if_neg (by omega)]
          rw [nv, ctK_put]
          refine ⟨_, _, some (.str (tx y)), some (.str (tx (wov W y))), rfl, sm_over (sm_trans u7 u9) nL0, (by rw [upd_ne nAL]; exact eA9), upd_same, ?_⟩
          refine (mn7.add (wov W y) (f y)).congr (fun x v h => ?_) (fun x v h => ⟨v, Nat.le_refl _, ?_⟩)
          · rcases h with (h | ⟨t, ht, e⟩) | ⟨e1, e2⟩
            · exact .inl h
            · exact .inr ⟨t, by rw [tkS]; exact List.mem_append_left _ ht, e⟩
            · exact .inr ⟨y, by rw [tkS]; exact List.mem_append_right _ (List.mem_singleton.mpr rfl), e1.symm, e2⟩
          · rcases h with h | ⟨t, ht, e1, e2⟩
            · exact .inl (.inl h)
            · rw [tkS] at ht
              rcases List.mem_append.mp ht with z | z
              · exact .inl (.inr ⟨t, z, e1, e2⟩)
              · rw [List.mem_singleton.mp z] at e1 e2
                exact .inr ⟨e1.symm, e2⟩
      · rintro σ G7 ⟨ks', f', y4', y6', rfl, u7, eA7, eL7, mn7⟩
        rw [List.take_length] at mn7
        refine ⟨eA7, _, rfl, Lt, ks', f', _, _, _, _, rfl, sm_over u7 nA, nL0, (by rw [upd_ne (Ne.symm nAL)]; exact eL7), ?_⟩
        rw [← eW] at mn7
        exact mn_step mn mn7
    · rintro σ G1 ⟨A, ks, f, y3, y4, y5, y6, rfl, u1, nA, eA, mn⟩
      exact ⟨_, rfl, q G1 A ks f u1 nA eA mn⟩
end
end NC
namespace NC
open PySem PySem.Spec PyProof.Rows L2
section
variable {P : Program} {w : World} {K : PySem.W.Frag} {mg : Str → Option Value} {base : Heap}
/-- the rooms within so many lost, rising -/
def wthL (l : List Nat) (bs ks : List (List Nat)) (f : List Nat → Nat) (most : Int) : List (List Nat) := (rms l bs).filter fun x => decide (x ∈ ks) && decide ((f x : Int) ≤ most)
def spRoomsW (K : PySem.W.Frag) : Sp := fun vs H Q _ => ∃ a, ∃ (ts : List (List Nat)) (room l : List Nat) (bs : List (List Nat)) (most : Int), vs = [.ref a, .str (tx room), .int most] ∧ 0 ≤ most ∧ GoodW l ∧ Txs l bs ts ∧ TsQ ts ∧ SqL K H a ((ts.map tx).map V.str) ∧ room ∈ rms l bs ∧ (rms l bs).length < 64 ∧ ∀ H' p ks f, Same H H' → H p = none → Mn (Rl ts room ts.length) ks f → H' p = some (.lst (((wthL l bs ks f most).map tx).map V.str)) → Q (.ref p) H'
set_option maxHeartbeats 2000000 in
theorem ok_roomsW {f fO fWo fLm : Addr} {fd dO dWo dLm : FuncData} {k : Nat} (B : BM mg) (hmin : mg "min" = none) (O : DF K mg "other" sOther ["side"] fO dO) (Wo : DF K mg "written_over" sWOver ["written", "room"] fWo dWo) (Lm : DF K mg "least_missed" sLeastM ["shut_texts", "room"] fLm dLm) (F : Fun K "rooms_within" "rooms_within" sRoomsW f fd) : FnOk P w K mg base CX0 (k + 4) f fd ["shut_texts", "room", "most"] (spRoomsW K) := by
  have GL : FnOk P w K mg base CX0 (k + 3) fLm dLm ["shut_texts", "room"] (spLeastM K) := ok_leastM B hmin O Wo Lm.F
  refine F.ok scRoomsW (fun vs H Q E h => ?_) (fun cdv A0 outer st H vs Q E hr h => ?_)
  · obtain ⟨a, ts, room, l, bs, most, rfl, _⟩ := h
    rfl
  · obtain ⟨a, ts, room, l, bs, most, rfl, h0, g, txs, tok, hS, hm, hr64, q⟩ := h
    have nd := scRoomsW.nd
    refine ⟨_, pss_cons (ps_if (pt_cmpR op_lt (pv 2) pe_int (nomark _)) (pss_one ps_dead) pss_nil)
      (pss_cons (ps_set (i := 3) nd rfl (.inr rfl) (pe_call GL hr rfl Lm.g Lm.F.kp Lm.b .nil pass0 (pa_cons (pv 0) (pa_cons (pv 1) pa_nil))))
      (pss_one (ps_ret (pe_callB cr_sortedS (by rfl) B.sorted (by decide +kernel) (pa_cons (pe_lock (pe_lc (own := [("stood", 4)]) (g := gName 4) (tt := tTest (tOp (rI0 fun i j => .bl (decide (i ≤ j))) (tDGet (tVar 3) (tVar 4)) (tVar 2))) (te := tVar 4) rfl nd (pi_keys (pv 3)) (blkOk_by (N := nRoomsW) (sc := defScope sRoomsW) (by decide +kernel)) (fun _ _ _ _ _ => pg_name (i := 4) nd rfl (Or.inl rfl))
        (fun _ _ _ _ _ => pts_one (pt_cmpR op_le (pe_dget (hu_of hr) (pv 3) (pv 4) (fun _ _ => rfl)) (pv 2) (nomark _))) (fun _ _ _ _ _ => pv 4))) pa_nil))))), ?_⟩
    refine ⟨_, rfl, _, _, rfl, rfl, _, rfl, ?_⟩
    rw [decide_eq_false (by omega)]
    refine iteF ?_
    refine ⟨_, rfl, _, rfl, a, ts, room, l, bs, rfl, g, txs, tok, hS, hm, fun H1 A ks f s1 nA eA mn => ?_⟩
    have krm : ∀ x ∈ ks, x ∈ rms l bs := fun x hx => rl_room txs hm ts.length (Nat.le_refl _) x (f x) (mn.at_ x hx)
    have kle : ks.length < 64 := Nat.lt_of_le_of_lt (mn.nd.length_le_of_subset krm) hr64
    refine ⟨A, .dK (ctK ks f), eA, True.intro, fun od => ?_⟩
    have eF : (upd H1 A (.frz od (.dK (ctK ks f)))) A = some (.frz od (.dK (ctK ks f))) := upd_same
    have s2 : Same H (upd H1 A (.frz od (.dK (ctK ks f)))) := sm_over s1 nA
    generalize upd H1 A (.frz od (.dK (ctK ks f))) = H2 at eF s2 ⊢
    have wk2 := walk_keys (d := A) (o := od) (kvs := ctK ks f)
    rw [show (ctK ks f).length = ks.length by unfold ctK; rw [List.length_map]] at wk2
    refine ⟨_, rfl, A, od, rfl, .inl ⟨_, eF, fun Da na => ?_⟩⟩
    have nAD : A ≠ Da := ne_of_none eF na
    refine lc_it wk2 (fun j H' => Same H2 H' ∧ H' Da = some (.lst ((((ks.take j).filter fun x => decide ((f x : Int) ≤ most)).map tx).map V.str))) ⟨same_upd na, upd_same⟩ (fun j H' _ h => h.1 _ _ eF) ?_ ?_
    · rintro j v G4 G5 hj ⟨u4, e4⟩ ⟨rfl, kk, vv, hk, rfl⟩
      unfold ctK at hk
      rw [List.getElem?_map] at hk
      obtain ⟨y, hy, ey⟩ := Option.map_eq_some_iff.mp hk
      cases ey
      have ym : y ∈ ks := List.mem_of_getElem? hy
      have tkS : ks.take (j + 1) = ks.take j ++ [y] := by rw [List.take_add_one, hy]; rfl
      have dg : DGet G5 A (.str (tx y)) (some (.int ((f y : Nat) : Int))) := .inl ⟨_, Sum.inr (tx y), .inr ⟨od, u4 _ _ eF⟩, rfl, (ctK_val (f := f) ym).symm⟩
      refine ⟨rfl, _, rfl, _, rfl, A, _, rfl, dg, _, rfl, _, _, rfl, rfl, _, rfl, ?_⟩
      refine ite2 (fun t => ?_) (fun t => ⟨u4, ?_⟩)
      · refine ⟨_, rfl, _, e4, ?_, sm_over u4 na, ?_⟩
        · rw [List.length_map, List.length_map, sizeLine_eq]
          have := List.length_filter_le (fun x => decide ((f x : Int) ≤ most)) (ks.take j)
          rw [List.length_take] at this
          omega
        · rw [upd_same, tkS, List.filter_append, List.filter_cons, if_pos t, List.map_append, List.map_append]
          rfl
      · rw [e4, tkS, List.filter_append, List.filter_cons, if_neg t]
        simp
    · rintro G4 ⟨u4, e4⟩
      rw [List.take_length] at e4
      refine ⟨u4 _ _ eF, ?_⟩
      have s4 : Same H (upd G4 A (.dK (ctK ks f))) := sm_over (sm_trans s2 u4) nA
      refine ⟨Da, (ks.filter fun x => decide ((f x : Int) ≤ most)).map tx, rfl, SqL.of (by rw [upd_ne (Ne.symm nAD)]; exact e4), by rw [List.length_map]; exact Nat.lt_of_le_of_lt (List.length_filter_le _ _) kle, fun ys p pm so np => ?_⟩
      have pm2 : (ks.filter fun x => decide ((f x : Int) ≤ most)).Perm (wthL l bs ks f most) := perm_of (mn.nd.filter _) ((rms_nd g).filter _) fun x => by
        unfold wthL
        rw [List.mem_filter, List.mem_filter, Bool.and_eq_true, decide_eq_true_eq, decide_eq_true_eq]
        exact ⟨fun h => ⟨krm x h.1, h⟩, fun h => h.2⟩
      have ey : ys = (wthL l bs ks f most).map tx := sortedS_eq so (pm.trans (pm2.map tx)) (rms_rise g _)
      rw [ey]
      exact q _ p ks f (sm_upd s4 np) (L2.Same.free s4 np) mn upd_same
end
end NC
namespace NC
open PySem PySem.Spec PyProof.Rows L2
theorem filter_sole {α : Type} [DecidableEq α] {g : α} {p : α → Bool} : ∀ {L : List α}, L.Nodup → g ∈ L → (∀ x ∈ L, p x = true ↔ x = g) → L.filter p = [g]
  | [], _, h, _ => by cases h
  | a :: r, nd, h, hp => by
    obtain ⟨n1, n2⟩ := List.nodup_cons.mp nd
    rw [List.filter_cons]
    by_cases e : a = g
    · subst e
      rw [if_pos ((hp a (List.mem_cons_self ..)).mpr rfl)]
      congr 1
      exact List.filter_eq_nil_iff.mpr fun x hx hz => n1 (by rw [← (hp x (List.mem_cons_of_mem _ hx)).mp hz]; exact hx)
    · rw [if_neg (fun z => e ((hp a (List.mem_cons_self ..)).mp z))]
      exact filter_sole n2 ((List.mem_cons.mp h).resolve_left fun z => e z.symm) fun x hx => hp x (List.mem_cons_of_mem _ hx)
/-- a hardened row's rooms, no more than m lost: the goal alone -/
theorem hard_wth {l : List Nat} {bs ks ts : List (List Nat)} {f : List Nat → Nat} {room goal : List Nat} {m : Nat} (nd : (rms l bs).Nodup) (hr : room ∈ rms l bs) (hT : ∀ T ∈ ts, ∀ r, r ∈ rms l bs → wov T r ∈ rms l bs ∧ wov T (wov T r) = wov T r)
    (he : foldW ts room = goal) (hg : goal ∈ rms l bs) (hM : Mn (Rl (hardT m ts) room (hardT m ts).length) ks f) : wthL l bs ks f (m : Int) = [goal] := by
  unfold wthL
  have link := rl_rls (hardT m ts) room (hardT m ts).length (Nat.le_refl _)
  rw [List.take_length] at link
  refine filter_sole nd hg fun x hx => ?_
  rw [Bool.and_eq_true, decide_eq_true_eq, decide_eq_true_eq]
  constructor
  · rintro ⟨hk, hf⟩
    rw [← he]
    exact hard_all (S := fun r => r ∈ rms l bs) hT hr (by omega) ((link x (f x)).mp (hM.at_ x hk))
  · rintro rfl
    have h0 := (link _ 0).mpr (by have := hard_some (S := fun r => r ∈ rms l bs) (m := m) hT hr; rw [he] at this; exact this)
    have := hM.low _ 0 h0
    exact ⟨(hM.key _).mpr ⟨0, h0⟩, by omega⟩
end NC
namespace NC
open PySem PySem.Spec PyProof.Rows L2
abbrev sHarden : Stmt := topS 50
theorem scHarden : FnScope ["calls", "many", "found", "part"] ["calls", "many"] (defScope sHarden) := ⟨rfl, rfl, rfl, by decide +kernel, rfl, by decide +kernel, by decide +kernel⟩
/-- each so often and once more -/
def hardL (m : Nat) (xs : List V) : List V := xs.flatMap fun x => List.replicate (m + 1) x
theorem hardL_len (m : Nat) : ∀ xs : List V, (hardL m xs).length = xs.length * (m + 1)
  | [] => by simp [hardL]
  | x :: r => by
    have ih := hardL_len m r
    show (List.replicate (m + 1) x ++ hardL m r).length = _
    rw [List.length_append, List.length_replicate, ih, List.length_cons, Nat.succ_mul]
    omega
section
variable {P : Program} {w : World} {K : PySem.W.Frag} {mg : Str → Option Value} {base : Heap} {tc : Tok}
/-- let by: no more than 24 -/
def spHardenQ (K : PySem.W.Frag) : Sp := fun vs H Q _ => ∃ (a : Addr) (m : Nat) (xs : List V), vs = [.ref a, .int (m : Int)] ∧ (SqL K H a xs ∨ SqT K H a xs) ∧ xs.length * (m + 1) ≤ 24 ∧ ∀ H' p, Same H H' → H p = none → H' p = some (.lst (hardL m xs)) → Q (.ref p) H'
set_option maxHeartbeats 1000000 in
theorem ok_hardenQ {f : Addr} {fd : FuncData} {k : Nat} (B : BM mg) (mC : mg "MOST_SENT" = some (.int 24 tc)) (F : Fun K "hardened" "hardened" sHarden f fd) : FnOk P w K mg base CX0 (k + 1) f fd ["calls", "many"] (spHardenQ K) := by
  refine F.ok scHarden (fun vs H Q E h => ?_) (fun cdv A outer st H vs Q E hr h => ?_)
  · obtain ⟨a, m, xs, rfl, _⟩ := h
    rfl
  · obtain ⟨a, m, xs, rfl, hS, h24, q⟩ := h
    have nd := scHarden.nd
    refine ⟨_, pss_cons (ps_if (pt_cmpR op_lt (pv 1) pe_int (nomark _)) (pss_one ps_dead) pss_nil)
      (pss_cons (ps_if (pt_cmpR op_gt (pe_mul (pe_callB call_len_seq (by rfl) B.len PySem.boot_len (pa_cons (pv 0) pa_nil)) (pe_add (pv 1) pe_int)) (pe_glob (v := .int 24) rfl mC ⟨_, rfl⟩) (nomark _)) (pss_one ps_dead) pss_nil)
      (pss_cons (ps_set (i := 2) nd rfl (.inl rfl) (pe_lst pa_nil))
      (pss_cons (ps_for PassesOwn.never rfl (pi_seq (pv 0)) (pg_name (i := 3) nd rfl (.inl rfl))
        (pss_one (ps_aug (i := 2) nd rfl (.inl rfl) (pe_op op_rep (pe_lst (pa_cons (pv 3) pa_nil)) (pe_add (pv 1) pe_int)) iop_ext)))
      (pss_one (ps_ret (pv 2)))))), ?_⟩
    have m0 : ¬ ((m : Int) < 0) := by omega
    have m1 : ¬ ((24 : Int) < (xs.length : Int) * ((m : Int) + 1)) := by
      have : ((xs.length * (m + 1) : Nat) : Int) ≤ 24 := by omega
      rw [Int.natCast_mul, Int.natCast_add] at this
      exact Int.not_lt.mpr this
    have xl : xs.length ≤ 24 := Nat.le_trans (Nat.le_mul_of_pos_right _ (by omega)) h24
    refine ⟨_, rfl, _, _, rfl, rfl, _, rfl, ?_⟩
    rw [decide_eq_false m0]
    refine iteF ?_
    refine ⟨_, rfl, a, xs, rfl, hS, _, rfl, _, _, rfl, rfl, _, _, rfl, rfl, ⟨by omega, by omega⟩, _, _, rfl, rfl, _, rfl, ?_⟩
    rw [decide_eq_false m1]
    refine iteF ?_
    refine ⟨Nat.zero_le _, fun Lf nL => ⟨_, rfl, a, rfl, ?_⟩⟩
    rcases hS with hS | hS
    · refine .inl ⟨⟨xs, sm_l (same_upd nL) hS⟩, ?_⟩
      refine for_it (walk_list (K := K) (a := a) (xs := xs)) (fun i σ H' => ∃ y3 : Option V, σ = [some (.ref a), some (.int (m : Int)), some (.ref Lf), y3] ∧ Same H H' ∧ H' Lf = some (.lst (hardL m (xs.take i)))) ⟨_, rfl, same_upd nL, upd_same⟩ (fun i σ H' _ h => by obtain ⟨_, _, h, _⟩ := h; exact sm_l h hS) ?_ ?_
      · rintro i v σ H1 H2 hi ⟨y3, rfl, s1, e1⟩ ⟨rfl, hv⟩
        have tk : xs.take (i + 1) = xs.take i ++ [v] := by rw [List.take_add_one, hv]; rfl
        have hm : m + 1 ≤ 24 := Nat.le_trans (Nat.le_mul_of_pos_left _ (by omega)) h24
        have hl := hardL_len m (xs.take i)
        rw [List.length_take] at hl
        have hle : min i xs.length * (m + 1) ≤ 24 := Nat.le_trans (Nat.mul_le_mul_right _ (Nat.min_le_right _ _)) h24
        refine ⟨_, rfl, _, rfl, by show 1 ≤ sizeLine; decide, fun p np => ?_⟩
        refine ⟨_, rfl, _, _, rfl, rfl, p, _, _, rfl, rfl, upd_same, by omega, by omega, by rw [sizeLine_eq]; show 1 * _ ≤ _; omega, fun p2 np2 => ?_⟩
        have s2 := sm_trans (same_upd (o := .lst [v]) np) (same_upd (o := .lst (List.replicate ((m : Int) + 1).toNat [v]).flatten) np2)
        have em : ((m : Int) + 1).toNat = m + 1 := by omega
        have er : (List.replicate ((m : Int) + 1).toNat [v]).flatten = List.replicate (m + 1) v := by rw [em, List.flatten_replicate_singleton]
        refine ⟨Lf, p2, _, _, rfl, rfl, s2 _ _ e1, upd_same, ?_, ?_⟩
        · rw [hl, er, List.length_replicate, sizeLine_eq]
          omega
        · refine ⟨_, rfl, sm_over (sm_trans s1 s2) nL, ?_⟩
          rw [upd_same, er, tk]
          unfold hardL
          rw [List.flatMap_append]
          simp
      · rintro σ H1 ⟨y3, rfl, s1, e1⟩
        rw [List.take_length] at e1
        exact ⟨_, rfl, q H1 Lf s1 nL e1⟩
    · refine .inr ⟨⟨xs, sm_t (same_upd nL) hS⟩, ?_⟩
      refine for_it (walk_tup (K := K) (a := a) (xs := xs)) (fun i σ H' => ∃ y3 : Option V, σ = [some (.ref a), some (.int (m : Int)), some (.ref Lf), y3] ∧ Same H H' ∧ H' Lf = some (.lst (hardL m (xs.take i)))) ⟨_, rfl, same_upd nL, upd_same⟩ (fun i σ H' _ h => by obtain ⟨_, _, h, _⟩ := h; exact sm_t h hS) ?_ ?_
      · rintro i v σ H1 H2 hi ⟨y3, rfl, s1, e1⟩ ⟨rfl, hv⟩
        have tk : xs.take (i + 1) = xs.take i ++ [v] := by rw [List.take_add_one, hv]; rfl
        have hm : m + 1 ≤ 24 := Nat.le_trans (Nat.le_mul_of_pos_left _ (by omega)) h24
        have hl := hardL_len m (xs.take i)
        rw [List.length_take] at hl
        have hle : min i xs.length * (m + 1) ≤ 24 := Nat.le_trans (Nat.mul_le_mul_right _ (Nat.min_le_right _ _)) h24
        refine ⟨_, rfl, _, rfl, by show 1 ≤ sizeLine; decide, fun p np => ?_⟩
        refine ⟨_, rfl, _, _, rfl, rfl, p, _, _, rfl, rfl, upd_same, by omega, by omega, by rw [sizeLine_eq]; show 1 * _ ≤ _; omega, fun p2 np2 => ?_⟩
        have s2 := sm_trans (same_upd (o := .lst [v]) np) (same_upd (o := .lst (List.replicate ((m : Int) + 1).toNat [v]).flatten) np2)
        have em : ((m : Int) + 1).toNat = m + 1 := by omega
        have er : (List.replicate ((m : Int) + 1).toNat [v]).flatten = List.replicate (m + 1) v := by rw [em, List.flatten_replicate_singleton]
        refine ⟨Lf, p2, _, _, rfl, rfl, s2 _ _ e1, upd_same, ?_, ?_⟩
        · rw [hl, er, List.length_replicate, sizeLine_eq]
          omega
        · refine ⟨_, rfl, sm_over (sm_trans s1 s2) nL, ?_⟩
          rw [upd_same, er, tk]
          unfold hardL
          rw [List.flatMap_append]
          simp
      · rintro σ H1 ⟨y3, rfl, s1, e1⟩
        rw [List.take_length] at e1
        exact ⟨_, rfl, q H1 Lf s1 nL e1⟩
end
end NC
namespace NC
open PySem PySem.Spec PyProof.Rows L2
abbrev sTMinit : Stmt := inClass (topS 11) 0
theorem scTM : FnScope ["self", "most"] ["self", "most"] (defScope sTMinit) := ⟨rfl, rfl, rfl, by decide +kernel, rfl, by decide +kernel, by decide +kernel⟩
section
variable {P : Program} {w : World} {K : PySem.W.Frag} {mg : Str → Option Value} {base : Heap} {tc : Tok} {CT_ iT CH fH : Addr} {eT fdH : FuncData}
theorem ok_TM {CH fH f : Addr} {fd fdH : FuncData} {k : Nat} (T : HE K mg CH fH fdH) (F : Fun K "__init__" "TooMany.__init__" sTMinit f fd) : FnOk P w K mg base CX0 (k + 2) f fd ["self", "most"] (sp1 K "most" "toomany") := by
  have GH : FnOk P w K mg base CX0 (k + 1) fH fdH ["self", "word"] (spHE K) := ok_HE T
  obtain ⟨mc, rd, fc⟩ := T.rd
  refine F.ok scTM (fun vs H Q E h => ?_) (fun cdv A outer s H vs Q E hr h => ?_)
  · obtain ⟨a, C, v, rfl, _⟩ := h
    rfl
  · obtain ⟨a, C, v, rfl, hO, hw, hf, ha, q⟩ := h
    refine ⟨_, pss_cons (ps_expr (pe_clsfn (by rfl) T.gC rd fc GH hr T.F.kp T.b .nil pass0 (pa_cons (pv 0) (pa_cons pe_str pa_nil)))) (pss_one (ps_ost (pv 0) (pv 1))), ?_⟩
    refine ⟨_, rfl, a, C, _, rfl, hO, hw, ha, fun dx n ne => ?_⟩
    refine ⟨_, rfl, _, rfl, a, C, rfl, hO, hf, .inr ⟨dx, _, upd_same, by rw [upd_ne ne, upd_same], by show 1 ≤ 900; decide, q dx _ n ne (fun b h1 h2 => ?_) ?_ ?_⟩⟩
    · rw [upd_ne h1, upd_ne h2, upd_ne h1]
    · rw [upd_ne (Ne.symm ne), upd_same]
    · rw [upd_same]
/-- more than 24: TooMany, and nothing looked at -/
def spHardenX (K : PySem.W.Frag) (CT_ : Addr) : Sp := fun vs H Q E => ∃ (a : Addr) (m : Nat) (xs : List V), vs = [.ref a, .int (m : Int)] ∧ (SqL K H a xs ∨ SqT K H a xs) ∧ xs.length ≤ 1000 ∧ 24 < xs.length * (m + 1) ∧ ∀ H' d, Same H H' → H d = none → H' d = some (.xd [("most", .int 24), ("word", .str "toomany")]) → E (.ref CT_) (some d) H'
set_option maxHeartbeats 1000000 in
theorem ok_hardenTM {f : Addr} {fd : FuncData} {k : Nat} (B : BM mg) (mC : mg "MOST_SENT" = some (.int 24 tc)) (T : HE K mg CH fH fdH) (X : XC K mg "TooMany" "TooMany.__init__" sTMinit "most" CT_ iT eT) (F : Fun K "hardened" "hardened" sHarden f fd) : FnOk P w K mg base (L2.CX P w) (k + 4) f fd ["calls", "many"] (spHardenX K CT_) := by
  have GT : FnOk P w K mg base CX0 (k + 2) iT eT ["self", "most"] (sp1 K "most" "toomany") := ok_TM T X.F
  refine F.okX scHarden (fun vs H Q E h => ?_) (fun cdv A outer st H vs Q E hr h => ?_)
  · obtain ⟨a, m, xs, rfl, _⟩ := h
    rfl
  · obtain ⟨a, m, xs, rfl, hS, hl, hm, q⟩ := h
    have nd := scHarden.nd
    refine ⟨_, pss_cons (ps_if (pt_cmpR op_lt (pv 1) pe_int (nomark _)) (pss_one ps_dead) pss_nil)
      (pss_cons (ps_if (pt_cmpR op_gt (pe_mul (pe_callB call_len_seq (by rfl) B.len PySem.boot_len (pa_cons (pv 0) pa_nil)) (pe_add (pv 1) pe_int)) (pe_glob (v := .int 24) rfl mC ⟨_, rfl⟩) (nomark _))
        (pss_one (ps_raise rfl (takes_of rfl rfl rfl rfl) (pmk_oex X.O X.iC X.tI GT hr X.b .nil pass0 (by rfl) X.gC (pa_cons (pe_glob (v := .int 24) rfl mC ⟨_, rfl⟩) pa_nil)))) pss_nil)
      (pss_cons ps_dead (pss_cons ps_dead (pss_one ps_dead)))), ?_⟩
    have m0 : ¬ ((m : Int) < 0) := by omega
    have m1 : (24 : Int) < (xs.length : Int) * ((m : Int) + 1) := by
      have : (24 : Int) < ((xs.length * (m + 1) : Nat) : Int) := by omega
      rw [Int.natCast_mul, Int.natCast_add] at this
      exact this
    refine ⟨_, rfl, _, _, rfl, rfl, _, rfl, ?_⟩
    rw [decide_eq_false m0]
    refine iteF ?_
    refine ⟨_, rfl, a, xs, rfl, hS, _, rfl, _, _, rfl, rfl, _, _, rfl, rfl, ⟨by omega, by omega⟩, _, _, rfl, rfl, _, rfl, ?_⟩
    rw [decide_eq_true m1]
    exact iteT ⟨by show 1 ≤ 1000; decide, mk1 X.O X.hw X.hf fun d H4 s4 n4 e4 => q H4 d s4 n4 e4⟩
end
end NC
namespace NC
open PySem PySem.Spec PyProof.Rows L2
/-- what the functions of limits ask for besides -/
structure CU (K : PySem.W.Frag) (mg : Str → Option Value) (fLm fRw : Addr) (dLm dRw : FuncData) : Prop where
  lm : DF K mg "least_missed" sLeastM ["shut_texts", "room"] fLm dLm
  rw_ : DF K mg "rooms_within" sRoomsW ["shut_texts", "room", "most"] fRw dRw
  mn : mg "min" = none
section
variable {P : Program} {w : World} {K : PySem.W.Frag} {mg : Str → Option Value} {base : Heap} {C fi fb fm fr fg fw ff : Addr} {di db dm dr dg dw df : FuncData} {tc : Tok} {fSh fSc fCR fWo fLm fRw : Addr} {dSh dSc dCR dWo dLm dRw : FuncData}
def spEndsW (K : PySem.W.Frag) (C : Addr) : Sp := fun vs H Q _ => ∃ x dx sb D l ys fo bs a, ∃ (Ps : List (List Nat)) (room : List Nat) (most : Int), vs = [.ref x, .ref a, .str (tx room), .int most] ∧ HallF C H x dx sb D l ys fo bs ∧ (SqL K H a ((Ps.map tx).map V.str) ∨ SqT K H a ((Ps.map tx).map V.str)) ∧ CallsQ l bs Ps ∧ room ∈ rms l bs ∧ 0 ≤ most ∧ (rms l bs).length < 64 ∧
  ∀ H' p ks f, Same H H' → H p = none → Mn (Rl (Ps.map (shT l fo)) room (Ps.map (shT l fo)).length) ks f → H' p = some (.lst (((wthL l bs ks f most).map tx).map V.str)) → Q (.ref p) H'
set_option maxHeartbeats 1000000 in
theorem ok_endsW {f fC fS fO fBy fIsP fChP fAFB fTw : Addr} {fd dC dS dO dBy dIsP dChP dAFB dTw : FuncData} {k : Nat} (B : BM mg) (hany : mg "any" = none) (Z : HC K mg C fi fb di db) (M : HM K C fm fr fg dm dr dg) (T : PT K mg C fw ff dw df fIsP fChP fAFB fTw dIsP dChP dAFB dTw) (Cs : DF K mg "check_side" sChkSide ["walls", "side"] fC dC) (S : DF K mg "sides_of" sSides ["walls"] fS dS) (O : DF K mg "other" sOther ["side"] fO dO) (By : DF K mg "by_walls" sByWalls ["walls", "sides"] fBy dBy)
    (U : CTQ K mg tc fSh fSc fCR fWo dSh dSc dCR dWo) (V : CU K mg fLm fRw dLm dRw) (F : Fun K "ends_within" "ends_within" sEndsW f fd) : FnOk P w K mg base CX0 (k + 8) f fd ["hall", "calls", "room", "most"] (spEndsW K C) := by
  have GC : FnOk P w K mg base CX0 (k + 7) fSc dSc ["hall", "calls", "most"] (spShCallsQ K C) := ok_shCallsQ B Z T Cs S O By U.sh U.sc.F
  have GR : FnOk P w K mg base CX0 (k + 2) fCR dCR ["hall", "room"] (spChkRoom C) := ok_chkRoom hany Z M U.cr.F
  have GW : FnOk P w K mg base CX0 (k + 4) fRw dRw ["shut_texts", "room", "most"] (spRoomsW K) := ok_roomsW B V.mn O U.wo V.lm V.rw_.F
  refine F.ok scEndsW (fun vs H Q E h => ?_) (fun cdv A0 outer st H vs Q E hr h => ?_)
  · obtain ⟨x, dx, sb, D, l, ys, fo, bs, a, Ps, room, most, rfl, _⟩ := h
    rfl
  · obtain ⟨x, dx, sb, D, l, ys, fo, bs, a, Ps, room, most, rfl, hF, hS, hC, hm, h0, h64, q⟩ := h
    have nd := scEndsW.nd
    have g := hF.G.g
    have r2 : Room (k + 2) _ := hr.mono (by omega)
    have r4 : Room (k + 4) _ := hr.mono (by omega)
    obtain ⟨tsP, tok⟩ := hC.ts g hF.G.bar hF.hf hF.G.ok
    obtain ⟨txs, _⟩ := hC.txs g hF.G.bar hF.hf hF.G.ok
    refine ⟨_, pss_cons (ps_set (i := 4) nd rfl (.inl rfl) (pe_call GC hr rfl U.sc.g U.sc.F.kp U.sc.b .nil pass0 (pa_cons (pv 0) (pa_cons (pv 1) (pa_cons (pe_glob (v := .int 24) rfl U.mC ⟨_, rfl⟩) pa_nil)))))
      (pss_cons (ps_expr (pe_call GR r2 rfl U.cr.g U.cr.F.kp U.cr.b .nil pass0 (pa_cons (pv 0) (pa_cons (pv 2) pa_nil))))
      (pss_one (ps_ret (pe_call GW r4 rfl V.rw_.g V.rw_.F.kp V.rw_.b .nil pass0 (pa_cons (pv 4) (pa_cons (pv 2) (pa_cons (pv 3) pa_nil))))))), ?_⟩
    refine ⟨_, rfl, _, rfl, x, dx, sb, D, l, ys, fo, bs, a, Ps, rfl, hF, hS, hC.len, hC.ok, fun H1 pt s1 npt ept => ?_⟩
    have hF1 := hF.same s1
    refine ⟨_, rfl, _, rfl, x, dx, sb, D, l, ys, fo, bs, room, rfl, hF1.G, hm, fun H2 s2 => ?_⟩
    have sA := sm_trans s1 s2
    refine ⟨_, rfl, _, rfl, _, rfl, pt, Ps.map (shT l fo), room, l, bs, most, rfl, h0, g, txs, tok, SqL.of (s2 _ _ ept), hm, h64, fun H3 p ks f s3 np mn ep => ?_⟩
    exact q H3 p ks f (sm_trans sA s3) (L2.Same.free sA np) mn ep
def spSurely (K : PySem.W.Frag) (C : Addr) : Sp := fun vs H Q _ => ∃ x dx sb D l ys fo bs a, ∃ (Ps : List (List Nat)) (room goal : List Nat) (most : Int), vs = [.ref x, .ref a, .str (tx room), .str (tx goal), .int most] ∧ HallF C H x dx sb D l ys fo bs ∧ (SqL K H a ((Ps.map tx).map V.str) ∨ SqT K H a ((Ps.map tx).map V.str)) ∧ CallsQ l bs Ps ∧ room ∈ rms l bs ∧ goal ∈ rms l bs ∧ 0 ≤ most ∧ (rms l bs).length < 64 ∧
  ∀ H' ks f, Same H H' → Mn (Rl (Ps.map (shT l fo)) room (Ps.map (shT l fo)).length) ks f → Q (.bl (decide (wthL l bs ks f most = [goal]))) H'
theorem map_tx_inj' : ∀ {a b : List (List Nat)}, a.map tx = b.map tx → a = b
  | [], [], _ => rfl
  | [], _ :: _, h => by cases h
  | _ :: _, [], h => by cases h
  | x :: a, y :: b, h => by
    injection h with h1 h2
    rw [tx_inj h1, map_tx_inj' h2]
theorem eqv_txs (a b : List (List Nat)) : PyData.eqv (.list ((a.map tx).map .str)) (.list ((b.map tx).map .str)) = decide (a = b) := by
  show PyData.eqvAll _ _ = _
  rw [eqvAll_strs, decide_eq_decide]
  exact ⟨map_tx_inj', fun h => by rw [h]⟩
set_option maxHeartbeats 1000000 in
theorem ok_surely {f fC fS fO fBy fIsP fChP fAFB fTw : Addr} {fd dC dS dO dBy dIsP dChP dAFB dTw : FuncData} {k : Nat} (B : BM mg) (hany : mg "any" = none) (Z : HC K mg C fi fb di db) (M : HM K C fm fr fg dm dr dg) (T : PT K mg C fw ff dw df fIsP fChP fAFB fTw dIsP dChP dAFB dTw) (Cs : DF K mg "check_side" sChkSide ["walls", "side"] fC dC) (S : DF K mg "sides_of" sSides ["walls"] fS dS) (O : DF K mg "other" sOther ["side"] fO dO) (By : DF K mg "by_walls" sByWalls ["walls", "sides"] fBy dBy)
    (U : CTQ K mg tc fSh fSc fCR fWo dSh dSc dCR dWo) (V : CU K mg fLm fRw dLm dRw) (F : Fun K "surely_there" "surely_there" sSurely f fd) : FnOk P w K mg base CX0 (k + 8) f fd ["hall", "calls", "room", "goal", "most"] (spSurely K C) := by
  have GC : FnOk P w K mg base CX0 (k + 7) fSc dSc ["hall", "calls", "most"] (spShCallsQ K C) := ok_shCallsQ B Z T Cs S O By U.sh U.sc.F
  have GR : FnOk P w K mg base CX0 (k + 2) fCR dCR ["hall", "room"] (spChkRoom C) := ok_chkRoom hany Z M U.cr.F
  have GW : FnOk P w K mg base CX0 (k + 4) fRw dRw ["shut_texts", "room", "most"] (spRoomsW K) := ok_roomsW B V.mn O U.wo V.lm V.rw_.F
  refine F.ok scSurely (fun vs H Q E h => ?_) (fun cdv A0 outer st H vs Q E hr h => ?_)
  · obtain ⟨x, dx, sb, D, l, ys, fo, bs, a, Ps, room, goal, most, rfl, _⟩ := h
    rfl
  · obtain ⟨x, dx, sb, D, l, ys, fo, bs, a, Ps, room, goal, most, rfl, hF, hS, hC, hm, hg, h0, h64, q⟩ := h
    have nd := scSurely.nd
    have g := hF.G.g
    have hu := hr.units
    have r2 : Room (k + 2) _ := hr.mono (by omega)
    have r4 : Room (k + 4) _ := hr.mono (by omega)
    obtain ⟨tsP, tok⟩ := hC.ts g hF.G.bar hF.hf hF.G.ok
    obtain ⟨txs, _⟩ := hC.txs g hF.G.bar hF.hf hF.G.ok
    refine ⟨_, pss_cons (ps_set (i := 5) nd rfl (.inl rfl) (pe_call GC hr rfl U.sc.g U.sc.F.kp U.sc.b .nil pass0 (pa_cons (pv 0) (pa_cons (pv 1) (pa_cons (pe_glob (v := .int 24) rfl U.mC ⟨_, rfl⟩) pa_nil)))))
      (pss_cons (ps_expr (pe_call GR r2 rfl U.cr.g U.cr.F.kp U.cr.b .nil pass0 (pa_cons (pv 0) (pa_cons (pv 2) pa_nil))))
      (pss_cons (ps_expr (pe_call GR r2 rfl U.cr.g U.cr.F.kp U.cr.b .nil pass0 (pa_cons (pv 0) (pa_cons (pv 3) pa_nil))))
      (pss_one (ps_ret (pe_cmpR (op_eqD hu) (pe_call GW r4 rfl V.rw_.g V.rw_.F.kp V.rw_.b .nil pass0 (pa_cons (pv 5) (pa_cons (pv 2) (pa_cons (pv 4) pa_nil)))) (pe_lst (pa_cons (pv 3) pa_nil)) (nomark _)))))), ?_⟩
    refine ⟨_, rfl, _, rfl, x, dx, sb, D, l, ys, fo, bs, a, Ps, rfl, hF, hS, hC.len, hC.ok, fun H1 pt s1 npt ept => ?_⟩
    have hF1 := hF.same s1
    refine ⟨_, rfl, _, rfl, x, dx, sb, D, l, ys, fo, bs, room, rfl, hF1.G, hm, fun H2 s2 => ?_⟩
    have hF2 := hF1.same s2
    refine ⟨_, rfl, _, rfl, x, dx, sb, D, l, ys, fo, bs, goal, rfl, hF2.G, hg, fun H3 s3 => ?_⟩
    have sA := sm_trans (sm_trans s1 s2) s3
    refine ⟨_, rfl, _, rfl, _, rfl, pt, Ps.map (shT l fo), room, l, bs, most, rfl, h0, g, txs, tok, SqL.of (s3 _ _ (s2 _ _ ept)), hm, h64, fun H4 p ks f s4 np mn ep => ?_⟩
    refine ⟨_, rfl, by show 1 ≤ sizeLine; decide, fun T1 nT1 => ?_⟩
    have s45 : Same H4 (upd H4 T1 (.lst [.str (tx goal)])) := same_upd nT1
    have okr : ∀ r ∈ rms l bs, okS (tx r) := fun r hr' => okS_tx fun c hc => ((rms_lets g r hr').2 c hc).asc
    refine ⟨_, _, .lst (SqL.of (s45 _ _ ep)) (dpAll_strs _), .lst (xs := [.str (tx goal)]) (SqL.of upd_same) (dpAll_strs (K := K) [tx goal]), shaped_strs fun y hy => ?_, shaped_strs fun y hy => ?_, ?_⟩
    · obtain ⟨r, hr', rfl⟩ := List.mem_map.mp hy
      exact okr r (List.mem_filter.mp hr').1
    · rw [List.mem_singleton.mp hy]
      exact okr goal hg
    · have e : PyData.eqv (.list (((wthL l bs ks f most).map tx).map .str)) (.list ([tx goal].map .str)) = decide (wthL l bs ks f most = [goal]) := eqv_txs _ [goal]
      rw [e]
      exact q _ ks f (sm_trans (sm_trans sA s4) s45) mn
end
end NC
namespace NC
open PySem PySem.Spec PyProof.Rows L2
/-- for each of n places nothing that must come behind it -/
def BeE (H : Hp) (b : Addr) (n : Nat) : Prop := ∃ es : List Addr, es.length = n ∧ H b = some (.lst (es.map V.ref)) ∧ ∀ e ∈ es, H e = some (.tup [])
theorem BeE.same {H H' : Hp} {b : Addr} {n : Nat} (h : BeE H b n) (s : Same H H') : BeE H' b n := by
  obtain ⟨es, h1, h2, h3⟩ := h
  exact ⟨es, h1, s _ _ h2, fun e he => s _ _ (h3 e he)⟩
/-- texts that calls write -/
def TsOk (ts : List (List Nat)) : Prop := ts.length ≤ 12 ∧ ∀ T ∈ ts, T.length ≤ 12 ∧ ∀ c ∈ T, c < 128
section
variable {P : Program} {w : World} {K : PySem.W.Frag} {mg : Str → Option Value} {base : Heap} {C fi fb fm fr fg fw ff : Addr} {di db dm dr dg dw df : FuncData}
/-! ### next_from_behind, where nothing must come behind -/
def oI : Option Nat → V
  | none => .non
  | some k => nI k
def spNext (K : PySem.W.Frag) : Sp := fun vs H Q _ => ∃ a b t, ∃ (ts : List (List Nat)) (goal : List Nat) (s : TkW), vs = [.ref a, .ref b, .str (tx goal), .ref t, .str (tx s.2)] ∧ TsOk ts ∧ SqL K H a ((ts.map tx).map V.str) ∧ BeE H b ts.length ∧ SqL K H t (s.1.map nI) ∧ ∀ H', Same H H' → Q (oI (nxt ts goal s)) H'
set_option maxHeartbeats 2000000 in
theorem ok_next {f fS fG : Addr} {fd dS dG : FuncData} {k : Nat} (B : BM mg) (S : DF K mg "stray_sides" sStray ["written", "walls", "goal"] fS dS) (Gd : DF K mg "is_good" sIsGood ["written", "walls", "goal"] fG dG) (F : Fun K "next_from_behind" "next_from_behind" sNextB f fd) :
    FnOk P w K mg base CX0 (k + 3) f fd ["shut_texts", "behind", "goal", "taken", "walls"] (spNext K) := by
  have GG : FnOk P w K mg base CX0 (k + 2) fG dG ["written", "walls", "goal"] spGood := ok_good S Gd.F
  refine F.ok scNextB (fun vs H Q E h => ?_) (fun cdv A0 outer st H vs Q E hr h => ?_)
  · obtain ⟨a, b, t, ts, goal, s, rfl, _⟩ := h
    rfl
  · obtain ⟨a, b, t, ts, goal, s, rfl, tok, hS, hb, ht, q⟩ := h
    have nd := scNextB.nd
    obtain ⟨tn, tT⟩ := tok
    refine ⟨_, pss_cons (ps_for PassesOwn.never rfl (pi_enum (by rfl) B.enumerate (pa_cons (pv 0) pa_nil)) (pg_tup rfl (pgs_cons (pg_name (i := 5) nd rfl (.inl rfl)) (pgs_cons (pg_name (i := 6) nd rfl (.inl rfl)) pgs_nil)))
        (pss_cons (ps_set (i := 7) nd rfl (.inl rfl) (pe_and (pe_cmpR op_notIn_seq (pv 5) (pv 3) (by rfl)) (pe_one (pe_callB (cr_all rfl) (by rfl) B.all (by decide +kernel) (pa_cons (pe_lc (own := [("later", 8)]) (g := gName 8) (tt := tYes) (te := tOp (rIn K false) (tVar 8) (tVar 3)) rfl nd (pi_tup (pe_ix ix_list (pv 1) (pv 5) (fun _ _ => rfl))) (blkOk_by (N := nNextB) (sc := defScope sNextB) (by decide +kernel)) (fun _ _ _ _ _ => pg_name (i := 8) nd rfl (Or.inl rfl)) (fun _ _ _ _ _ => pts_nil)
          (fun _ _ _ _ _ => pe_cmpR op_in_seq (pv 8) (pv 3) (by rfl))) pa_nil)))))
        (pss_one (ps_if (PW.pt (pw_and (pt_val (pv 7)) (pw_and1 (pt_val (pe_call GG hr rfl Gd.g Gd.F.kp Gd.b .nil pass0 (pa_cons (pv 6) (pa_cons (pv 4) (pa_cons (pv 2) pa_nil)))))))) (pss_one (ps_ret (pv 5))) pss_nil))))
      (pss_one (ps_ret pe_non)), ?_⟩
    have wk := walk_enum (K := K) (a := a) (xs := (ts.map tx).map V.str)
    rw [List.length_map, List.length_map] at wk
    refine ⟨_, rfl, a, _, rfl, hS, ?_⟩
    refine for_it wk (fun i σ H' => ∃ (y5 y6 y7 y8 : Option V), σ = [some (.ref a), some (.ref b), some (.str (tx goal)), some (.ref t), some (.str (tx s.2)), y5, y6, y7, y8] ∧ Same H H' ∧ ∀ j, j < i → mayT ts goal s j = false) ⟨_, _, _, _, rfl, L2.Same.refl _, fun j h => absurd h (Nat.not_lt_zero _)⟩ (fun i σ H' _ h => by obtain ⟨_, _, _, _, _, h, _⟩ := h; exact sm_l h hS) ?_ ?_
    · rintro i v σ H1 H2 hi ⟨y5, y6, y7, y8, rfl, s1, no⟩ ⟨T, xx, yy, rfl, nT, rfl, hx, hy⟩
      cases hx
      have hy : ((ts.map tx).map V.str)[i]? = some yy := hy
      rw [List.getElem?_map, List.getElem?_map] at hy
      obtain ⟨z2, hz2, rfl⟩ := Option.map_eq_some_iff.mp hy
      obtain ⟨o, ho2, rfl⟩ := Option.map_eq_some_iff.mp hz2
      have oo := tT o (List.mem_of_getElem? ho2)
      have eo : ts.getD i [] = o := by rw [List.getD_eq_getElem?_getD, ho2]; rfl
      have s12 : Same H (upd H1 T (.tup [.int (i : Nat), .str (tx o)])) := sm_upd s1 nT
      refine ⟨T, _, rfl, SqT.of upd_same, rfl, _, _, rfl, _, _, rfl, rfl, ?_⟩
      generalize (upd H1 T (.tup [.int (i : Nat), .str (tx o)])) = H2 at s12 ⊢
      have may : mayT ts goal s i = (decide (i ∉ s.1) && decide (stray o s.2 goal = [])) := by unfold mayT; rw [eo]
      have next : ∀ (H4 : Hp) (y7 y8 : Option V), Same H H4 → mayT ts goal s i = false → ∃ (y5 y6 y7' y8' : Option V), [some (V.ref a), some (.ref b), some (.str (tx goal)), some (.ref t), some (.str (tx s.2)), some (.int (i : Nat)), some (.str (tx o)), y7, y8] = [some (.ref a), some (.ref b), some (.str (tx goal)), some (.ref t), some (.str (tx s.2)), y5, y6, y7', y8'] ∧ Same H H4 ∧ ∀ j, j < i + 1 → mayT ts goal s j = false := fun H4 y7 y8 s4 hm => ⟨_, _, _, _, rfl, s4, fun j hj => by
        rcases Nat.lt_or_ge j i with z | z
        · exact no j z
        · rw [show j = i by omega]; exact hm⟩
      refine ⟨_, rfl, _, rfl, t, _, rfl, .inl (sm_l s12 ht), rfl, flat_nI _, ?_⟩
      show ∃ k', _ ∧ if k' = true then _ else _
      refine ⟨_, rfl, ?_⟩
      show if (!inV (nI i) (s.1.map nI)) = true then _ else _
      rw [inV_nI]
      refine ite2 (fun t1 => ?_) (fun t1 => ?_)
      · have h1 : i ∉ s.1 := by simpa using t1
        obtain ⟨es, el, eb, ee⟩ := hb
        have hie : i < es.length := by omega
        have ax : atI (es.map V.ref) ((i : Nat) : Int) = some (.ref es[i]) := atI_nat (by rw [List.getElem?_map, List.getElem?_eq_getElem hie]; rfl)
        have e0 := ee _ (List.getElem_mem hie)
        refine ⟨_, rfl, _, rfl, b, _, _, _, rfl, rfl, SqL.of (s12 _ _ eb), ax, es[i], rfl, ⟨_, SqT.of (s12 _ _ e0)⟩, fun Da na => ?_⟩
        have wk0 := walk_tup (K := K) (a := es[i]) (xs := [])
        refine lc_it wk0 (fun j H' => Same H2 H' ∧ H' Da = some (.lst (([] : List Bool).map V.bl))) ⟨same_upd na, upd_same⟩ (fun j H' _ h => SqT.of (h.1 _ _ (s12 _ _ e0))) ?_ ?_
        · rintro j v G1 G2 hj
          exact absurd hj (Nat.not_lt_zero _)
        · rintro H3 ⟨s3, e3⟩
          have s13 := sm_trans s12 s3
          refine ⟨Da, _, rfl, SqL.of e3, ?_⟩
          refine ⟨_, rfl, _, rfl, iteT ?_⟩
          refine ⟨_, rfl, _, rfl, _, rfl, o, s.2, goal, rfl, oo.2, by have := oo.1; omega, fun H4 s4 => ⟨_, rfl, ite2 (fun t2 => ?_) (fun t2 => ?_)⟩⟩
          · have h2 : mayT ts goal s i = true := by rw [may, decide_eq_true h1, t2]; rfl
            have qq := q H4 (sm_trans s13 s4)
            rw [nxt_at hi no h2] at qq
            exact ⟨_, rfl, qq⟩
          · exact next H4 _ _ (sm_trans s13 s4) (by rw [may, Bool.eq_false_iff.mpr t2]; simp)
      · have h1 : i ∈ s.1 := by simpa using t1
        refine ⟨_, rfl, _, rfl, iteF ?_⟩
        exact next H2 _ _ s12 (by rw [may]; simp [h1])
    · rintro σ H1 ⟨y5, y6, y7, y8, rfl, s1, no⟩
      have qq := q H1 s1
      rw [nxt_no no] at qq
      exact qq
/-! ### taken_from_behind, taken_in_any_order -/
def spTakenB (K : PySem.W.Frag) : Sp := fun vs H Q _ => ∃ a b, ∃ (ts : List (List Nat)) (goal : List Nat), vs = [.ref a, .ref b, .str (tx goal)] ∧ TsOk ts ∧ SqL K H a ((ts.map tx).map V.str) ∧ BeE H b ts.length ∧
  ∀ H' p T, Same H H' → H p = none → H' p = some (.lst ((itr ts goal ts.length).1.map nI)) → H' T = some (.tup [.ref p, .str (tx (itr ts goal ts.length).2)]) → Q (.ref T) H'
theorem itr_wlen {ts : List (List Nat)} {goal : List Nat} (h : TsOk ts) (i : Nat) : (itr ts goal i).2.length ≤ 12 * (itr ts goal i).1.length := by
  rw [(itr_ok i).2.2.2]
  generalize (itr ts goal i).1 = L
  induction L with
  | nil => simp
  | cons k r ih =>
    rw [List.flatMap_cons, List.length_append, List.length_cons]
    have : (low (ts.getD k [])).length ≤ 12 := by
      unfold low
      rw [List.length_map, List.getD_eq_getElem?_getD]
      cases hk : ts[k]? with
      | none => simp
      | some T => exact (h.2 T (List.mem_of_getElem? hk)).1
    omega
set_option maxHeartbeats 2000000 in
theorem ok_takenB {f fS fG fN : Addr} {fd dS dG dN : FuncData} {k : Nat} (B : BM mg) (S : DF K mg "stray_sides" sStray ["written", "walls", "goal"] fS dS) (Gd : DF K mg "is_good" sIsGood ["written", "walls", "goal"] fG dG) (N : DF K mg "next_from_behind" sNextB ["shut_texts", "behind", "goal", "taken", "walls"] fN dN) (F : Fun K "taken_from_behind" "taken_from_behind" sTakenB f fd) :
    FnOk P w K mg base CX0 (k + 4) f fd ["shut_texts", "behind", "goal"] (spTakenB K) := by
  have GN : FnOk P w K mg base CX0 (k + 3) fN dN ["shut_texts", "behind", "goal", "taken", "walls"] (spNext K) := ok_next B S Gd N.F
  refine F.ok scTakenB (fun vs H Q E h => ?_) (fun cdv A0 outer st H vs Q E hr h => ?_)
  · obtain ⟨a, b, ts, goal, rfl, _⟩ := h
    rfl
  · obtain ⟨a, b, ts, goal, rfl, tok, hS, hb, q⟩ := h
    have nd := scTakenB.nd
    refine ⟨_, pss_cons (ps_set (i := 3) nd rfl (.inl rfl) (pe_lst pa_nil))
      (pss_cons (ps_set (i := 4) nd rfl (.inl rfl) pe_str)
      (pss_cons (ps_set (i := 5) nd rfl (.inl rfl) (pe_call GN hr rfl N.g N.F.kp N.b .nil pass0 (pa_cons (pv 0) (pa_cons (pv 1) (pa_cons (pv 2) (pa_cons (pv 3) (pa_cons (pv 4) pa_nil)))))))
      (pss_cons (ps_while PassesOwn.never (pt_cmpR op_notN (pv 5) pe_non (nomark _))
        (pss_cons (ps_expr (pe_bm PySem.F.plainAttrs_list PySem.F.slot_list_append PySem.F.type_list_append mt_append (pv 3) (pa_cons (pv 5) pa_nil)))
        (pss_cons (ps_aug (i := 4) nd rfl (.inl rfl) (pe_lower (pe_ix ix_list (pv 0) (pv 5) (fun _ _ => rfl))) iop_add_str)
        (pss_one (ps_set (i := 5) nd rfl (.inl rfl) (pe_call GN hr rfl N.g N.F.kp N.b .nil pass0 (pa_cons (pv 0) (pa_cons (pv 1) (pa_cons (pv 2) (pa_cons (pv 3) (pa_cons (pv 4) pa_nil)))))))))))
      (pss_one (ps_ret (pe_tup (pa_cons (pv 3) (pa_cons (pv 4) pa_nil)))))))), ?_⟩
    refine ⟨Nat.zero_le _, fun t nt => ?_⟩
    have s01 : Same H (upd H t (.lst [])) := same_upd nt
    have et : (upd H t (.lst [])) t = some (.lst (([] : List Nat).map nI)) := upd_same
    generalize (upd H t (.lst [])) = H1 at s01 et ⊢
    refine ⟨_, rfl, _, rfl, _, rfl, _, rfl, _, rfl, a, b, t, ts, goal, ([], []), congrArg (fun z => [V.ref a, .ref b, .str (tx goal), .ref t, V.str z]) str00, tok, sm_l s01 hS, hb.same s01, SqL.of et, fun H2 s2 => ?_⟩
    refine ⟨fun m σ H' => ∃ j, σ = [some (.ref a), some (.ref b), some (.str (tx goal)), some (.ref t), some (.str (tx (itr ts goal j).2)), some (oI (nxt ts goal (itr ts goal j)))] ∧ Same H H' ∧ H' t = some (.lst ((itr ts goal j).1.map nI)) ∧ (itr ts goal j).1.length = j ∧ j ≤ ts.length ∧ m = ts.length - j,
      ⟨ts.length, 0, by rw [str00]; rfl, sm_trans s01 s2, s2 _ _ et, rfl, Nat.zero_le _, rfl⟩, ?_⟩
    rintro m σ H3 ⟨j, rfl, s3, et3, hl, hj, rfl⟩
    refine ⟨_, rfl, rfl, _, rfl, ?_⟩
    cases hn : nxt ts goal (itr ts goal j) with
    | none =>
      rw [show (!decide (oI none = V.non)) = false from rfl]
      refine iteF ?_
      refine ⟨_, rfl, _, rfl, by show 2 ≤ sizeLine; decide, fun T nT => ?_⟩
      have ntT : t ≠ T := ne_of_none et3 nT
      refine q _ t T (sm_upd s3 nT) nt ?_ ?_
      · rw [upd_ne ntT, et3, itr_end hj hn]
      · rw [upd_same, itr_end hj hn]
    | some k' =>
      obtain ⟨k1, k2, k3⟩ := nxt_some hn
      have jlt := itr_lt hl hn
      have eT : ts[k']? = some (ts.getD k' []) := by rw [List.getD_eq_getElem?_getD, List.getElem?_eq_getElem k1]; rfl
      have oT := tok.2 _ (List.mem_of_getElem? eT)
      rw [show (!decide (oI (some k') = V.non)) = true from rfl]
      refine iteT ?_
      refine ⟨fun σ' H' => ∃ m', m' < ts.length - j ∧ ∃ j, σ' = [some (.ref a), some (.ref b), some (.str (tx goal)), some (.ref t), some (.str (tx (itr ts goal j).2)), some (oI (nxt ts goal (itr ts goal j)))] ∧ Same H H' ∧ H' t = some (.lst ((itr ts goal j).1.map nI)) ∧ (itr ts goal j).1.length = j ∧ j ≤ ts.length ∧ m' = ts.length - j, fun _ _ h => h, ?_⟩
      have tn := tok.1
      refine ⟨_, rfl, .inl ⟨rfl, _, SqL.of et3⟩, _, rfl, t, _, _, rfl, rfl, et3, by rw [List.length_map, hl, sizeLine_eq]; omega, ?_⟩
      have e4 : (upd H3 t (.lst ((itr ts goal j).1.map nI ++ [oI (some k')]))) t = some (.lst ((itr ts goal (j + 1)).1.map nI)) := by
        rw [upd_same, itr_some hn]
        simp [oI]
      have s4 : Same H (upd H3 t (.lst ((itr ts goal j).1.map nI ++ [oI (some k')]))) := sm_over s3 nt
      generalize (upd H3 t (.lst ((itr ts goal j).1.map nI ++ [oI (some k')]))) = H4 at e4 s4 ⊢
      have ax : atI ((ts.map tx).map V.str) ((k' : Nat) : Int) = some (.str (tx (ts.getD k' []))) := atI_nat (by rw [List.getElem?_map, List.getElem?_map, eT]; rfl)
      refine ⟨_, rfl, _, rfl, _, rfl, a, _, _, _, rfl, rfl, sm_l s4 hS, ax, ⟨_, rfl⟩, _, rfl, rfl, by show (ts.getD k' []).toArray.size ≤ 5592405; rw [List.size_toArray]; omega, ?_⟩
      rw [lower_tx oT.2]
      have wl := itr_wlen (goal := goal) tok j
      have ll : ((ts.getD k' []).map lwc).length ≤ 12 := by rw [List.length_map]; exact oT.1
      refine ⟨_, _, rfl, rfl, by rw [tx_len, tx_len, sizeLine_eq]; omega, ?_⟩
      rw [tx_app]
      have e2 : (itr ts goal j).2 ++ (ts.getD k' []).map lwc = (itr ts goal (j + 1)).2 := by rw [itr_some hn]; rfl
      rw [e2]
      have hl1 : (itr ts goal (j + 1)).1.length = j + 1 := by
        rw [itr_some hn]
        show ((itr ts goal j).1 ++ [k']).length = j + 1
        rw [List.length_append, hl]
        rfl
      refine ⟨_, rfl, _, rfl, _, rfl, _, rfl, _, rfl, a, b, t, ts, goal, itr ts goal (j + 1), rfl, tok, sm_l s4 hS, hb.same s4, SqL.of e4, fun H5 s5 => ?_⟩
      exact ⟨ts.length - (j + 1), by omega, j + 1, rfl, sm_trans s4 s5, s5 _ _ e4, hl1, jlt, rfl⟩
def spTakenA (K : PySem.W.Frag) : Sp := fun vs H Q _ => ∃ a, ∃ (ts : List (List Nat)) (goal : List Nat), vs = [.ref a, .str (tx goal)] ∧ TsOk ts ∧ SqL K H a ((ts.map tx).map V.str) ∧
  ∀ H' p T, Same H H' → H p = none → H' p = some (.lst ((itr ts goal ts.length).1.map nI)) → H' T = some (.tup [.ref p, .str (tx (itr ts goal ts.length).2)]) → Q (.ref T) H'
set_option maxHeartbeats 1000000 in
theorem ok_takenA {f fS fG fN fB : Addr} {fd dS dG dN dB : FuncData} {k : Nat} (B : BM mg) (S : DF K mg "stray_sides" sStray ["written", "walls", "goal"] fS dS) (Gd : DF K mg "is_good" sIsGood ["written", "walls", "goal"] fG dG) (N : DF K mg "next_from_behind" sNextB ["shut_texts", "behind", "goal", "taken", "walls"] fN dN) (Tb : DF K mg "taken_from_behind" sTakenB ["shut_texts", "behind", "goal"] fB dB) (F : Fun K "taken_in_any_order" "taken_in_any_order" sTakenA f fd) :
    FnOk P w K mg base CX0 (k + 5) f fd ["shut_texts", "goal"] (spTakenA K) := by
  have GB : FnOk P w K mg base CX0 (k + 4) fB dB ["shut_texts", "behind", "goal"] (spTakenB K) := ok_takenB B S Gd N Tb.F
  refine F.ok scTakenA (fun vs H Q E h => ?_) (fun cdv A0 outer st H vs Q E hr h => ?_)
  · obtain ⟨a, ts, goal, rfl, _⟩ := h
    rfl
  · obtain ⟨a, ts, goal, rfl, tok, hS, q⟩ := h
    have nd := scTakenA.nd
    refine ⟨_, pss_one (ps_ret (pe_call GB hr rfl Tb.g Tb.F.kp Tb.b .nil pass0 (pa_cons (pv 0) (pa_cons (pe_lc (own := [("written", 2)]) (g := gName 2) (tt := tYes) (te := tTup tNil) rfl nd (pi_list (pv 0)) (blkOk_by (N := ["shut_texts", "goal", "written"]) (sc := defScope sTakenA) (by decide +kernel)) (fun _ _ _ _ _ => pg_name (i := 2) nd rfl (Or.inl rfl)) (fun _ _ _ _ _ => pts_nil)
      (fun _ _ _ _ _ => pe_tup pa_nil)) (pa_cons (pv 1) pa_nil))))), ?_⟩
    have wk := walk_list (K := K) (a := a) (xs := (ts.map tx).map V.str)
    rw [List.length_map, List.length_map] at wk
    refine ⟨_, rfl, _, rfl, a, rfl, ⟨_, hS⟩, fun Da na => ?_⟩
    have tn := tok.1
    refine lc_it wk (fun i H' => Same H H' ∧ BeE H' Da i) ⟨same_upd na, [], rfl, upd_same, by simp⟩ (fun i H' _ h => sm_l h.1 hS) ?_ ?_
    · rintro i v H1 H2 hi ⟨s1, es, el, eb, ee⟩ ⟨rfl, hx⟩
      refine ⟨rfl, yes_i ⟨Nat.zero_le _, fun T nT => ⟨_, by rw [upd_ne (ne_of_none eb nT)]; exact eb, by rw [List.length_map, sizeLine_eq]; omega, sm_over (sm_upd s1 nT) na, es ++ [T], ?_, ?_, fun e he => ?_⟩⟩⟩
      · rw [List.length_append, el]
        rfl
      · rw [upd_same, List.map_append]
        rfl
      · rcases List.mem_append.mp he with z | z
        · have h0 := ee e z
          have n1 : e ≠ Da := ne_of h0 eb (fun z => by cases z)
          rw [upd_ne n1, upd_ne (ne_of_none h0 nT)]
          exact h0
        · rw [List.mem_singleton.mp z]
          have n1 : T ≠ Da := Ne.symm (ne_of_none eb nT)
          rw [upd_ne n1, upd_same]
    · rintro H1 ⟨s1, be⟩
      exact ⟨_, rfl, a, Da, ts, goal, rfl, tok, sm_l s1 hS, be, fun H2 p T s2 np e2 eT => q H2 p T (sm_trans s1 s2) (L2.Same.free s1 np) e2 eT⟩
end
end NC
namespace NC
open PySem PySem.Spec PyProof.Rows L2
abbrev sAlikeB : Stmt := topS 41
abbrev sSteer : Stmt := topS 54
theorem scAlikeB : FnScope ["walls", "room", "goal", "one", "two"] ["walls", "room", "goal"] (defScope sAlikeB) := ⟨rfl, rfl, rfl, by decide +kernel, rfl, by decide +kernel, by decide +kernel⟩
theorem scSteer : FnScope ["hall", "calls", "room", "goal", "shut_texts", "taken", "walls"] ["hall", "calls", "room", "goal"] (defScope sSteer) := ⟨rfl, rfl, rfl, by decide +kernel, rfl, by decide +kernel, by decide +kernel⟩
structure CallsOk (l : List Nat) (bs : List (List Nat)) (Ps : List (List Nat)) : Prop where
  len : Ps.length ≤ 12
  ok : ∀ P ∈ Ps, Part l P ∧ ∃ z ∈ rms l bs, ∀ s ∈ P, s ∈ z
theorem CallsOk.ts {l : List Nat} {bs : List (List Nat)} {Ps : List (List Nat)} (h : CallsOk l bs Ps) (g : GoodW l) (hb : ∀ b ∈ bs, isBar l b = true) {fo : Nat → List Nat} (hf : ∀ s ∈ sds l, ∀ t, t ∈ fo s ↔ Frc (adjOf bs) s t) (ok : Okv l bs) : (∀ T ∈ Ps.map (shT l fo), Part l T) ∧ TsOk (Ps.map (shT l fo)) := by
  have hp : ∀ T ∈ Ps.map (shT l fo), Part l T := fun T hT => by
    obtain ⟨P, hP, rfl⟩ := List.mem_map.mp hT
    obtain ⟨pP, z, hz, hin⟩ := h.ok P hP
    exact shut_part g hb hf ok pP.sd hz hin
  refine ⟨hp, by rw [List.length_map]; exact h.len, fun T hT => ⟨?_, fun c hc => sds_asc g ((hp T hT).sd c hc)⟩⟩
  have := (hp T hT).len
  have := g.hi
  omega
theorem CallsOk.txs {l : List Nat} {bs : List (List Nat)} {Ps : List (List Nat)} (h : CallsOk l bs Ps) (g : GoodW l) (hb : ∀ b ∈ bs, isBar l b = true) {fo : Nat → List Nat} (hf : ∀ s ∈ sds l, ∀ t, t ∈ fo s ↔ Frc (adjOf bs) s t) (ok : Okv l bs) : Txs l bs (Ps.map (shT l fo)) ∧ ∀ k P r, Ps[k]? = some P → r ∈ rms l bs → wov ((Ps.map (shT l fo)).getD k []) r = wov (allFo fo P) r := by
  have e : ∀ k P r, Ps[k]? = some P → r ∈ rms l bs → wov ((Ps.map (shT l fo)).getD k []) r = wov (allFo fo P) r := fun k P r hP hr => by
    have : (Ps.map (shT l fo)).getD k [] = shT l fo P := by rw [List.getD_eq_getElem?_getD, List.getElem?_map, hP]; rfl
    rw [this]
    refine wov_by g fun c hc => ?_
    obtain ⟨p, rfl, _⟩ := (rms_mem g hb r).mp hr
    exact rm_asc g hc
  refine ⟨⟨(h.ts g hb hf ok).1, fun k r hk hr => ?_⟩, e⟩
  rw [List.length_map] at hk
  obtain ⟨pP, z, hz, hin⟩ := h.ok _ (List.getElem_mem hk)
  rw [e k _ r (List.getElem?_eq_getElem hk) hr]
  exact (wov_room g hb hf pP.sd hz hin hr).1
/-- what the functions of calls ask for in the text -/
structure CT (K : PySem.W.Frag) (mg : Str → Option Value) (tc : Tok) (fSh fSc fSt fGo fAl fNx fTb fTa fCR fWo : Addr) (dSh dSc dSt dGo dAl dNx dTb dTa dCR dWo : FuncData) : Prop where
  sh : DF K mg "shut" sShut ["hall", "part"] fSh dSh
  sc : DF K mg "shut_calls" sShCalls ["hall", "calls", "most"] fSc dSc
  st : DF K mg "stray_sides" sStray ["written", "walls", "goal"] fSt dSt
  go : DF K mg "is_good" sIsGood ["written", "walls", "goal"] fGo dGo
  al : DF K mg "alike_beside" sAlikeB ["walls", "room", "goal"] fAl dAl
  nx : DF K mg "next_from_behind" sNextB ["shut_texts", "behind", "goal", "taken", "walls"] fNx dNx
  tb : DF K mg "taken_from_behind" sTakenB ["shut_texts", "behind", "goal"] fTb dTb
  ta : DF K mg "taken_in_any_order" sTakenA ["shut_texts", "goal"] fTa dTa
  cr : DF K mg "check_room" sChkRoom ["hall", "room"] fCR dCR
  wo : DF K mg "written_over" sWOver ["written", "room"] fWo dWo
  mC : mg "MOST_CALLS" = some (.int 12 tc)
  mz : mg "zip" = none
section
variable {P : Program} {w : World} {K : PySem.W.Frag} {mg : Str → Option Value} {base : Heap} {C fi fb fm fr fg fw ff : Addr} {di db dm dr dg dw df : FuncData} {tc : Tok} {fSh fSc fSt fGo fAl fNx fTb fTa fCR fWo : Addr} {dSh dSc dSt dGo dAl dNx dTb dTa dCR dWo : FuncData}
/-! ### alike_beside -/
def spAlikeB : Sp := fun vs H Q _ => ∃ W r q, vs = [.str (tx W), .str (tx r), .str (tx q)] ∧ r.length = q.length ∧ r.length ≤ 100 ∧ (∀ c ∈ r, c < 128) ∧ ∀ H', Same H H' → Q (.bl (agrB W r q)) H'
set_option maxHeartbeats 1000000 in
theorem ok_alikeB {f : Addr} {fd : FuncData} {k : Nat} (B : BM mg) (hz : mg "zip" = none) (F : Fun K "alike_beside" "alike_beside" sAlikeB f fd) : FnOk P w K mg base CX0 (k + 1) f fd ["walls", "room", "goal"] spAlikeB := by
  refine F.ok scAlikeB (fun vs H Q E h => ?_) (fun cdv A outer st H vs Q E hr h => ?_)
  · obtain ⟨W, r, o, rfl, _⟩ := h
    rfl
  · obtain ⟨W, r, o, rfl, hl, hn, ra, q⟩ := h
    have nd := scAlikeB.nd
    refine ⟨_, pss_one (ps_ret (pe_callB (cr_all rfl) (by rfl) B.all (by decide +kernel) (pa_cons (pe_lc (own := [("one", 3), ("two", 4)]) (g := gTup K 2 (gCons (gName 3) (gCons (gName 4) gNil))) (tt := tYes) (te := tOrV (tOp rEq (tVar 3) (tVar 4)) (tOp rSgn2 (tLow (tVar 3)) (tVar 0))) rfl nd (pi_zipS (by rfl) hz (pa_cons (pv 1) (pa_cons (pv 2) pa_nil)))
      (blkOk_by (N := ["walls", "room", "goal", "one", "two"]) (sc := defScope sAlikeB) (by decide +kernel)) (fun _ _ _ _ _ => pg_tup rfl (pgs_cons (pg_name (i := 3) nd rfl (Or.inl rfl)) (pgs_cons (pg_name (i := 4) nd rfl (Or.inl rfl)) pgs_nil))) (fun _ _ _ _ _ => pts_nil)
      (fun _ _ _ _ _ => pe_or (pe_cmpR op_eq (pv 3) (pv 4) (nomark _)) (pe_one (pe_cmpR op_in_sign (pe_lower (pv 3)) (pv 0) (by rfl))))) pa_nil))), ?_⟩
    refine ⟨_, rfl, _, rfl, tx r, tx o, rfl, fun Da na => ?_⟩
    have l1 : (tx r).cps.size = r.length := tx_len _
    have l2 : (tx o).cps.size = o.length := tx_len _
    refine lc_it (walk_zipS (n := r.length) (by rw [l1, l2]; omega)) (fun i H' => Same H H' ∧ H' Da = some (.lst (((List.range i).map fun i => decide (r.getD i 0 = o.getD i 0) || decide (lwc (r.getD i 0) ∈ W)).map V.bl))) ⟨same_upd na, upd_same⟩ (fun _ _ _ _ => trivial) ?_ ?_
    · rintro i v H1 H2 hi ⟨s1, e1⟩ ⟨T, s, u, rfl, nT, rfl, ⟨c, hc, rfl⟩, ⟨e, he, rfl⟩⟩
      have hc : r[i]? = some c := by
        rw [← Array.getElem?_toList, tx_list] at hc
        exact hc
      have he : o[i]? = some e := by
        rw [← Array.getElem?_toList, tx_list] at he
        exact he
      have ca := ra c (List.mem_of_getElem? hc)
      have nTD : Da ≠ T := ne_of_none e1 nT
      have fin : ∀ (H3 : Hp) (bb : Bool), Same (upd H1 T (.tup [.str ⟨#[c]⟩, .str ⟨#[e]⟩])) H3 → bb = (decide (c = e) || decide (lwc c ∈ W)) → ∃ acc, H3 Da = some (.lst acc) ∧ acc.length < sizeLine ∧ Same H (upd H3 Da (.lst (acc ++ [V.bl bb]))) ∧ upd H3 Da (.lst (acc ++ [V.bl bb])) Da = some (.lst (((List.range (i + 1)).map fun i => decide (r.getD i 0 = o.getD i 0) || decide (lwc (r.getD i 0) ∈ W)).map V.bl)) := fun H3 bb s3 ebb => by
        refine ⟨_, s3 _ _ (by rw [upd_ne nTD]; exact e1), ?_, sm_over (sm_trans (sm_upd s1 nT) s3) na, ?_⟩
        · rw [List.length_map, List.length_map, List.length_range, sizeLine_eq]
          omega
        · rw [upd_same, List.range_succ, List.map_append, List.map_append, ebb]
          show _ = some (HO.lst (_ ++ [V.bl (decide (r.getD i 0 = o.getD i 0) || decide (lwc (r.getD i 0) ∈ W))]))
          rw [get_of hc, get_of he]
      have ed : decide (V.str ⟨#[c]⟩ = V.str ⟨#[e]⟩) = decide (c = e) := by
        rw [Bool.eq_iff_iff, decide_eq_true_eq, decide_eq_true_eq]
        constructor
        · intro h
          have : (⟨#[c]⟩ : Str) = ⟨#[e]⟩ := by injection h
          have := congrArg Str.cps this
          simpa using this
        · intro h
          rw [h]
      refine ⟨T, _, rfl, SqT.of upd_same, rfl, _, _, rfl, _, _, rfl, rfl, rfl, yes_i ?_⟩
      refine ⟨_, rfl, _, rfl, rfl, _, rfl, ?_⟩
      rw [ed]
      refine ite2 (fun t => ?_) (fun t => ?_)
      · exact fin _ _ (L2.Same.refl _) (by rw [t]; rfl)
      · refine ⟨_, rfl, ⟨_, rfl⟩, _, rfl, rfl, by show 1 ≤ 5592405; decide, ?_⟩
        rw [low_sg ca]
        refine ⟨_, rfl, lwc c, tx W, rfl, rfl, ?_⟩
        rw [tx_list]
        exact fin _ _ (L2.Same.refl _) (by rw [Bool.eq_false_iff.mpr t]; rfl)
    · rintro H1 ⟨s1, e1⟩
      refine ⟨Da, _, rfl, SqL.of e1, ?_⟩
      rw [show ((List.range r.length).map fun i => decide (r.getD i 0 = o.getD i 0) || decide (lwc (r.getD i 0) ∈ W)).all id = agrB W r o by unfold agrB; rw [List.all_map]; rfl]
      exact q H1 s1
/-! ### steer -/
def spSteer (K : PySem.W.Frag) (C : Addr) : Sp := fun vs H Q _ => ∃ x dx sb D l ys fo bs a, ∃ (Ps : List (List Nat)) (room goal : List Nat), vs = [.ref x, .ref a, .str (tx room), .str (tx goal)] ∧ HallF C H x dx sb D l ys fo bs ∧ (SqL K H a ((Ps.map tx).map V.str) ∨ SqT K H a ((Ps.map tx).map V.str)) ∧ CallsOk l bs Ps ∧ room ∈ rms l bs ∧ goal ∈ rms l bs ∧
  if agrB (itr (Ps.map (shT l fo)) goal (Ps.map (shT l fo)).length).2 room goal = true then ∀ H' p, Same H H' → H p = none → H' p = some (.lst ((itr (Ps.map (shT l fo)) goal (Ps.map (shT l fo)).length).1.reverse.map nI)) → Q (.ref p) H' else ∀ H', Same H H' → Q .non H'
set_option maxHeartbeats 1000000 in
theorem ok_steer {f fC fS fO fBy fIsP fChP fAFB fTo : Addr} {fd dC dS dO dBy dIsP dChP dAFB dTo : FuncData} {k : Nat} (B : BM mg) (hany : mg "any" = none) (Z : HC K mg C fi fb di db) (M : HM K C fm fr fg dm dr dg) (T : PT K mg C fw ff dw df fIsP fChP fAFB fTo dIsP dChP dAFB dTo) (Cs : DF K mg "check_side" sChkSide ["walls", "side"] fC dC) (S : DF K mg "sides_of" sSides ["walls"] fS dS) (O : DF K mg "other" sOther ["side"] fO dO) (By : DF K mg "by_walls" sByWalls ["walls", "sides"] fBy dBy)
    (U : CT K mg tc fSh fSc fSt fGo fAl fNx fTb fTa fCR fWo dSh dSc dSt dGo dAl dNx dTb dTa dCR dWo) (F : Fun K "steer" "steer" sSteer f fd) : FnOk P w K mg base CX0 (k + 8) f fd ["hall", "calls", "room", "goal"] (spSteer K C) := by
  have GC : FnOk P w K mg base CX0 (k + 7) fSc dSc ["hall", "calls", "most"] (spShCalls K C) := ok_shCalls B Z T Cs S O By U.sh U.sc.F
  have GR : FnOk P w K mg base CX0 (k + 2) fCR dCR ["hall", "room"] (spChkRoom C) := ok_chkRoom hany Z M U.cr.F
  have GA : FnOk P w K mg base CX0 (k + 5) fTa dTa ["shut_texts", "goal"] (spTakenA K) := ok_takenA B U.st U.go U.nx U.tb U.ta.F
  have GL : FnOk P w K mg base CX0 (k + 1) fAl dAl ["walls", "room", "goal"] spAlikeB := ok_alikeB B U.mz U.al.F
  refine F.ok scSteer (fun vs H Q E h => ?_) (fun cdv A0 outer st H vs Q E hr h => ?_)
  · obtain ⟨x, dx, sb, D, l, ys, fo, bs, a, Ps, room, goal, rfl, _⟩ := h
    rfl
  · obtain ⟨x, dx, sb, D, l, ys, fo, bs, a, Ps, room, goal, rfl, hF, hS, hC, hm, hg, q⟩ := h
    have nd := scSteer.nd
    have g := hF.G.g
    have hl12 := g.hi
    have r1 : Room (k + 1) _ := hr.mono (by omega)
    have r2 : Room (k + 2) _ := hr.mono (by omega)
    have r5 : Room (k + 5) _ := hr.mono (by omega)
    obtain ⟨tsP, tok⟩ := hC.ts g hF.G.bar hF.hf hF.G.ok
    refine ⟨_, pss_cons (ps_set (i := 4) nd rfl (.inl rfl) (pe_call GC hr rfl U.sc.g U.sc.F.kp U.sc.b .nil pass0 (pa_cons (pv 0) (pa_cons (pv 1) (pa_cons (pe_glob (v := .int 12) rfl U.mC ⟨_, rfl⟩) pa_nil)))))
      (pss_cons (ps_expr (pe_call GR r2 rfl U.cr.g U.cr.F.kp U.cr.b .nil pass0 (pa_cons (pv 0) (pa_cons (pv 2) pa_nil))))
      (pss_cons (ps_expr (pe_call GR r2 rfl U.cr.g U.cr.F.kp U.cr.b .nil pass0 (pa_cons (pv 0) (pa_cons (pv 3) pa_nil))))
      (pss_cons (ps_asg (pe_call GA r5 rfl U.ta.g U.ta.F.kp U.ta.b .nil pass0 (pa_cons (pv 4) (pa_cons (pv 3) pa_nil))) (pg_tup rfl (pgs_cons (pg_name (i := 5) nd rfl (.inl rfl)) (pgs_cons (pg_name (i := 6) nd rfl (.inl rfl)) pgs_nil))))
      (pss_one (ps_ret (pe_ifExp (pt_val (pe_call GL r1 rfl U.al.g U.al.F.kp U.al.b .nil pass0 (pa_cons (pv 6) (pa_cons (pv 2) (pa_cons (pv 3) pa_nil))))) (pe_revL (pv 5)) pe_non)))))), ?_⟩
    refine ⟨_, rfl, _, rfl, x, dx, sb, D, l, ys, fo, bs, a, Ps, rfl, hF, hS, hC.len, hC.ok, fun H1 pt s1 npt ept => ?_⟩
    generalize Ps.map (shT l fo) = ts at q tsP tok ept
    have hF1 := hF.same s1
    refine ⟨_, rfl, _, rfl, x, dx, sb, D, l, ys, fo, bs, room, rfl, hF1.G, hm, fun H2 s2 => ?_⟩
    have hF2 := hF1.same s2
    refine ⟨_, rfl, _, rfl, x, dx, sb, D, l, ys, fo, bs, goal, rfl, hF2.G, hg, fun H3 s3 => ?_⟩
    have ept3 := s3 _ _ (s2 _ _ ept)
    have sA : Same H H3 := sm_trans s1 (sm_trans s2 s3)
    refine ⟨_, rfl, _, rfl, pt, ts, goal, rfl, tok, SqL.of ept3, fun H4 pk T4 s4 npk epk eT4 => ?_⟩
    refine ⟨T4, _, rfl, SqT.of eT4, rfl, _, _, rfl, _, _, rfl, rfl, ?_⟩
    obtain ⟨rl, rlt⟩ := rms_lets g room hm
    obtain ⟨gl, glt⟩ := rms_lets g goal hg
    refine ⟨_, rfl, _, rfl, _, rfl, _, room, goal, rfl, by omega, by omega, fun c hc => (rlt c hc).asc, fun H5 s5 => ⟨_, rfl, ?_⟩⟩
    have sB : Same H H5 := sm_trans sA (sm_trans s4 s5)
    refine ite2 (fun t => ?_) (fun t => ?_)
    · rw [if_pos t] at q
      refine ⟨_, rfl, pk, _, rfl, SqL.of (s5 _ _ epk), fun p np => q _ p (sm_upd sB np) (L2.Same.free sB np) ?_⟩
      rw [upd_same, List.map_reverse]
    · rw [if_neg t] at q
      exact q H5 sB
end
end NC
namespace NC
open PySem PySem.Spec PyProof.Rows L2
theorem tabs_smx {T : List (Addr × Str)} {H H' : Hp} {d : Addr} (t : LamX.Tabs T H) (D : Dr H d) (s : SmX d H H') : LamX.Tabs T H' := fun p hp => by
  obtain ⟨ps, h1, h2, h3⟩ := t p hp
  obtain ⟨c0, ns, i, a, b, e, hd, _⟩ := D
  refine ⟨ps, s _ _ (ne_of h1 hd fun z => by cases z) h1, h2, fun pos cv hc => ?_⟩
  obtain ⟨c, e1, e2⟩ := h3 pos cv hc
  exact ⟨c, e1, s _ _ (ne_of e2 hd fun z => by unfold LamX.CodeO at z; cases z) e2⟩
theorem Dr.ext {H H' : Hp} {d : Addr} (h : Dr H d) (e : LamX.ExtN H H') : Dr H' d := by
  obtain ⟨c, ns, i, a, b, f, h1, h2, h3⟩ := h
  exact ⟨c, ns, i, a, b, f, e _ _ h1 (fun _ z => by cases z), e _ _ h2 (fun _ z => by cases z), h3⟩
theorem tabs_upd {T : List (Addr × Str)} {H : Hp} {b : Addr} {xs ys : List V} (t : LamX.Tabs T H) (h : H b = some (.lst xs)) : LamX.Tabs T (L2.upd H b (.lst ys)) := fun p hp => by
  obtain ⟨ps, h1, h2, h3⟩ := t p hp
  refine ⟨ps, by rw [upd_ne (ne_of h1 h fun z => by cases z)]; exact h1, h2, fun pos cv hc => ?_⟩
  obtain ⟨c, e1, e2⟩ := h3 pos cv hc
  exact ⟨c, e1, by rw [upd_ne (ne_of e2 h fun z => by unfold LamX.CodeO at z; cases z)]; exact e2⟩
section
variable {d c rA C x dx sb D : Addr} {R : List V} {l : List Nat} {ys : List Str} {fo : Nat → List Nat} {H H' : Hp} {T : List (Addr × Str)}
theorem St6.ext (s : St6 d c rA R C x dx sb D l ys fo H) (e : LamX.ExtN H H') : St6 d c rA R C x dx sb D l ys fo H' :=
  ⟨s.dr.ext e, let ⟨r, h⟩ := s.hc; ⟨r, e _ _ h (fun _ z => by cases z)⟩, e _ _ s.rA (fun _ z => by cases z), ⟨e _ _ s.hA.x (fun _ z => by cases z), e _ _ s.hA.sb (fun _ z => by cases z), e _ _ s.hA.D (fun _ z => by cases z)⟩⟩
/-- and the table of the law's lambdas -/
structure St7 (T : List (Addr × Str)) (d c rA : Addr) (R : List V) (C x dx sb D : Addr) (l : List Nat) (ys : List Str) (fo : Nat → List Nat) (H : Hp) : Prop where
  S : St6 d c rA R C x dx sb D l ys fo H
  T : LamX.Tabs T H
theorem St7.same (s : St7 T d c rA R C x dx sb D l ys fo H) (e : Same H H') : St7 T d c rA R C x dx sb D l ys fo H' := ⟨s.S.same e, s.T.ext e⟩
theorem St7.ext (s : St7 T d c rA R C x dx sb D l ys fo H) (e : LamX.ExtN H H') (t : LamX.Tabs T H') : St7 T d c rA R C x dx sb D l ys fo H' := ⟨s.S.ext e, t⟩
theorem St7.smd (s : St7 T d c rA R C x dx sb D l ys fo H) (nr : rA ≠ d) (ns : sb ≠ d) (e : SmD d H H') (D' : Dr H' d) : St7 T d c rA R C x dx sb D l ys fo H' := ⟨s.S.smd nr ns e D', tabs_smx s.T s.S.dr e.1⟩
theorem St7.put (s : St7 T d c rA R C x dx sb D l ys fo H) {p : Addr} (n : H p = none) (s' : St7 T d c rA R C x dx sb D l ys fo H') {xs zs : List V} (e : H' p = some (.lst xs)) : St7 T d c rA R C x dx sb D l ys fo (L2.upd H' p (.lst zs)) := ⟨s.S.new n s'.S, tabs_upd s'.T e⟩
end
/-! ### hardened rows of texts -/
theorem hardL_strs (m : Nat) : ∀ Ps : List (List Nat), hardL m ((Ps.map tx).map V.str) = ((hardT m Ps).map tx).map V.str
  | [] => rfl
  | P :: r => by
    have ih := hardL_strs m r
    show List.replicate (m + 1) (V.str (tx P)) ++ hardL m ((r.map tx).map V.str) = (((List.replicate (m + 1) P ++ hardT m r)).map tx).map V.str
    rw [ih, List.map_append, List.map_append, List.map_replicate, List.map_replicate]
theorem hardT_map (m : Nat) (f : List Nat → List Nat) : ∀ Ps : List (List Nat), (hardT m Ps).map f = hardT m (Ps.map f)
  | [] => rfl
  | P :: r => by
    have ih := hardT_map m f r
    show (List.replicate (m + 1) P ++ hardT m r).map f = List.replicate (m + 1) (f P) ++ hardT m (r.map f)
    rw [List.map_append, List.map_replicate, ih]
theorem hardT_len (m : Nat) : ∀ Ps : List (List Nat), (hardT m Ps).length = Ps.length * (m + 1)
  | [] => by simp [hardT]
  | P :: r => by
    have ih := hardT_len m r
    show (List.replicate (m + 1) P ++ hardT m r).length = _
    rw [List.length_append, List.length_replicate, ih, List.length_cons, Nat.succ_mul]
    omega
theorem hardT_mem {m : Nat} {Ps : List (List Nat)} {T : List Nat} (h : T ∈ hardT m Ps) : T ∈ Ps := by
  obtain ⟨P, hP, hT⟩ := List.mem_flatMap.mp h
  rw [List.eq_of_mem_replicate hT]
  exact hP
/-- the parts at these places -/
def picked (Ps : List (List Nat)) (ks : List Nat) : List (List Nat) := ks.map fun k => Ps.getD k []
theorem picked_map {Ps : List (List Nat)} (f : List Nat → List Nat) {ks : List Nat} (h : ∀ k ∈ ks, k < Ps.length) : (picked Ps ks).map f = picked (Ps.map f) ks := by
  unfold picked
  rw [List.map_map]
  refine List.map_congr_left fun k hk => ?_
  show f (Ps.getD k []) = _
  rw [List.getD_eq_getElem?_getD, List.getD_eq_getElem?_getD, List.getElem?_map, List.getElem?_eq_getElem (h k hk)]
  rfl
theorem picked_mem {Ps : List (List Nat)} {ks : List Nat} (h : ∀ k ∈ ks, k < Ps.length) {P : List Nat} (hP : P ∈ picked Ps ks) : P ∈ Ps := by
  obtain ⟨k, hk, rfl⟩ := List.mem_map.mp hP
  rw [List.getD_eq_getElem?_getD, List.getElem?_eq_getElem (h k hk)]
  exact List.getElem_mem _
/-- what the law asks of a row that steer tells, hardened -/
structure Surely (l : List Nat) (bs ts : List (List Nat)) (m : Nat) (room goal : List Nat) : Prop where
  ends : ∀ (kk : List (List Nat)) (f : List Nat → Nat), Mn (Rl (hardT m ts) room (hardT m ts).length) kk f → wthL l bs kk f (m : Int) = [goal]
  last : ∀ i, i < l.length → ∀ T ∈ ((hardT m ts).filter fun T => decide (l.getD i 0 ∈ low T)).reverse.take (m + 1), goal.getD i 0 ∈ T
  none_ : ∀ i, i < l.length → ((hardT m ts).filter fun T => decide (l.getD i 0 ∈ low T)) = [] → room.getD i 0 = goal.getD i 0
theorem surely_of {l : List Nat} (g : GoodW l) {bs ts : List (List Nat)} (nd : (rms l bs).Nodup) (hP : ∀ T ∈ ts, Part l T) (cl : ∀ T ∈ ts, ∀ r, r ∈ rms l bs → wov T r ∈ rms l bs) {room goal : List Nat} (hr : room ∈ rms l bs) (hg : goal ∈ rms l bs) (he : foldW ts room = goal) (m : Nat) : Surely l bs ts m room goal := by
  refine ⟨fun kk f hM => hard_wth nd hr (fun T hT r h => ⟨cl T hT r h, wov_idem g (hP T hT) h (cl T hT r h)⟩) he hg hM, fun i hi T hT => ?_, fun i hi e => ?_⟩
  · have fl := fold_last g hi hP cl hr
    rw [hardT_filter] at hT
    cases e : (ts.filter fun T => decide (l.getD i 0 ∈ low T)).getLast? with
    | none =>
      rw [List.getLast?_eq_none_iff.mp e] at hT
      cases hT
    | some U =>
      rw [e] at fl
      obtain ⟨ys, hy⟩ := List.getLast?_eq_some_iff.mp e
      rw [hy, hardT_last] at hT
      rw [List.eq_of_mem_replicate hT]
      rw [he] at fl
      exact fl
  · have fl := fold_last g hi hP cl hr
    rw [hardT_filter] at e
    have l0 : (ts.filter fun T => decide (l.getD i 0 ∈ low T)) = [] := by
      have z := hardT_len m (ts.filter fun T => decide (l.getD i 0 ∈ low T))
      rw [e] at z
      refine List.eq_nil_of_length_eq_zero ?_
      have z : 0 = _ * (m + 1) := z
      rcases Nat.mul_eq_zero.mp z.symm with q | q
      · exact q
      · omega
    rw [l0] at fl
    have fl : (foldW ts room).getD i 0 = room.getD i 0 := fl
    rw [← fl, he]
/-- the refusal's class -/
structure EX (K : PySem.W.Frag) (CT_ : Addr) : Prop where
  t : XfC K CT_
  tt : PySem.W.exmOne K (.ref CT_) (.ref CT_) = some true
def spHd (K : PySem.W.Frag) (CT_ : Addr) : Sp := fun vs H Q E => spHardenQ K vs H Q E ∨ spHardenX K CT_ vs H Q E
theorem fnok_up {P : Program} {w : World} {K : PySem.W.Frag} {mg : Str → Option Value} {base : Heap} {CX : CXT} {k : Nat} {f : Addr} {fd : FuncData} {ps : List Str} {sp : Sp} (F : FnOk P w K mg base CX0 k f fd ps sp) : FnOk P w K mg base CX k f fd ps sp :=
  ⟨F.len, fun A outer s H args us vs Q E hr he hb hv hs => codeAny_mono (F.run A outer s H args us vs Q E hr he hb hv hs) fun r s' q => by
    cases r with
    | error e => exact (show False from q).elim
    | ok d => cases d <;> exact q⟩
theorem fnok_or {P : Program} {w : World} {K : PySem.W.Frag} {mg : Str → Option Value} {base : Heap} {CX : CXT} {k : Nat} {f : Addr} {fd : FuncData} {ps : List Str} {sp sp' : Sp} (F : FnOk P w K mg base CX k f fd ps sp) (G : FnOk P w K mg base CX k f fd ps sp') : FnOk P w K mg base CX k f fd ps (fun vs H Q E => sp vs H Q E ∨ sp' vs H Q E) :=
  ⟨fun vs H Q E q => q.elim (F.len vs H Q E) (G.len vs H Q E), fun A outer s H args us vs Q E hr he hb hv hs => hs.elim (F.run A outer s H args us vs Q E hr he hb hv) (G.run A outer s H args us vs Q E hr he hb hv)⟩
section
variable {P : Program} {w : World} {K : PySem.W.Frag} {mg : Str → Option Value} {base : Heap} {tc : Tok} {CT_ iT CH fH : Addr} {eT fdH : FuncData}
theorem ok_hd {f : Addr} {fd : FuncData} {k : Nat} (B : BM mg) (mC : mg "MOST_SENT" = some (.int 24 tc)) (T : HE K mg CH fH fdH) (X : XC K mg "TooMany" "TooMany.__init__" sTMinit "most" CT_ iT eT) (F : Fun K "hardened" "hardened" sHarden f fd) : FnOk P w K mg base (L2.CX P w) (k + 4) f fd ["calls", "many"] (spHd K CT_) :=
  fnok_or (fnok_up ((ok_hardenQ (k := k) B mC F).mono (by omega))) (ok_hardenTM B mC T X F)
end
/-- TooMany, let by the law's own try -/
theorem ech_t {K : PySem.W.Frag} {CT_ : Addr} (X : EX K CT_) (hf : PySem.W.findIn K (.ref CT_) "most" = some none) {G : Hp} {Q : VK} (q : ∀ G' p, Same G G' → G' p = none → Q (.ref p) (upd G' p (.tup [.str "toomany", .int 24]))) :
    ∀ H' d, Same G H' → H' d = some (.xd [("most", .int 24), ("word", .str "toomany")]) → EchM K CT_ Q (.ref CT_) (some d) H' := fun H' d s e =>
  ⟨X.tt, CT_, d, _, _, rfl, X.t, hf, rfl, e, rfl, fun p np => q H' p s np⟩
end NC
namespace NC
open PySem PySem.Spec PyProof.Rows L2
abbrev sLShut : Stmt := topS 71
abbrev nLShut : List Str := ["_law_rooms_here", "_law_part_here", "_law_some", "_law_room", "_law_side"]
theorem scLShut : FnScope nLShut ["_law_rooms_here", "_law_part_here"] (defScope sLShut) := ⟨rfl, rfl, rfl, by decide +kernel, rfl, by decide +kernel, by decide +kernel⟩
def scpS : Scope := { kind := .function, names := [(".0", .local), ("_law_side", .cell), ("all", .globalImplicit), ("_law_some", .cell)], isGenerator := false, isCoroutine := false }
theorem eq_eqv (a b : List Str) : PyData.eqv (.list (a.map .str)) (.list (b.map .str)) = decide (a = b) := by
  show PyData.eqvAll _ _ = _
  rw [eqvAll_strs]
section
variable {P : Program} {w : World} {K : PySem.W.Frag} {mg : Str → Option Value} {base : Heap}
/-! ### _law_shut -/
def spLShut (K : PySem.W.Frag) : Sp := fun vs H Q _ => ∃ a l bs P, vs = [.ref a, .str (tx P)] ∧ GoodW l ∧ SqL K H a (((rms l bs).map tx).map V.str) ∧ P.length ≤ 100 ∧ ∀ H', Same H H' → Q (.str (tx (lshut (rms l bs) P))) H'
set_option maxHeartbeats 2000000 in
theorem ok_lshut {f fW : Addr} {fd dW : FuncData} {k : Nat} (B : BM mg) (F : Fun K "_law_shut" "_law_shut" sLShut f fd) (W : DF K mg "_law_within" sWithin ["_law_sides_here", "_law_room"] fW dW) :
    FnOk P w K mg base CX0 (k + 2) f fd ["_law_rooms_here", "_law_part_here"] (spLShut K) := by
  have GW : FnOk P w K mg base CX0 (k + 1) fW dW ["_law_sides_here", "_law_room"] spWithin := ok_within B W.F
  refine F.ok scLShut (fun vs H Q E h => ?_) (fun cdv A outer st H vs Q E hr h => ?_)
  · obtain ⟨a, l, bs, P, rfl, _⟩ := h
    rfl
  · obtain ⟨a, l, bs, P, rfl, g, hS, pl, q⟩ := h
    have nd := scLShut.nd
    have hu := hr.units
    have hl12 := g.hi
    have rlen := rms_len g (bs := bs)
    refine ⟨_, pss_cons (ps_set (i := 2) nd rfl (.inr rfl) (pe_lc (own := [("_law_room", 3)]) (g := gName 3) (tt := tB (tCall spWithin [] E0 (tCons (tVar 1) (tCons (tVar 3) tNil)))) rfl nd (pi_list (pv 0)) (blkOk_by (N := nLShut) (sc := defScope sLShut) (by decide +kernel)) (fun _ _ _ _ _ => pg_name (i := 3) nd rfl (Or.inl rfl))
        (fun _ _ _ _ _ => pts_one (pt_val (pe_call GW hr rfl W.g W.F.kp W.b .nil pass0 (pa_cons (pv 1) (pa_cons (pv 3) pa_nil))))) (fun _ _ _ _ _ => pv 3)))
      (pss_cons (ps_if (pt_cmpR (op_eqD hu) (pv 2) (pe_lst pa_nil) (nomark _)) (pss_one (ps_ret pe_str)) pss_nil)
      (pss_one (ps_ret (pe_join pe_str (pe_lc (own := [("_law_side", 4)]) (g := gName 4) (tt := tB (tCB (rAll K) (tCons (tLc (iList K (tVar 2)) (gName 3) tYes (tOp rSgn2 (tVar 4) (tVar 3)) [3]) tNil))) rfl nd (pi_str (pe_ix ix_list (pv 2) pe_int (fun _ _ => rfl))) (blkOk_by (N := nLShut) (sc := defScope sLShut) (by decide +kernel)) (fun _ _ _ _ _ => pg_name (i := 4) nd rfl (Or.inr rfl))
        (fun _ _ _ _ _ => pts_one (pt_val (pe_callB (cr_all rfl) (by rfl) B.all (by decide +kernel) (pa_cons (pe_lc (own := [("_law_room", 3)]) (g := gName 3) (tt := tYes) (te := tOp rSgn2 (tVar 4) (tVar 3)) rfl nd (pi_list (pv 2)) (blkOk_by (N := nLShut) (sc := scpS) (by decide +kernel)) (fun _ _ _ _ _ => pg_name (i := 3) nd rfl (Or.inl rfl)) (fun _ _ _ _ _ => pts_nil)
          (fun _ _ _ _ _ => pe_cmpR op_in_sign (pv 4) (pv 3) (by rfl))) pa_nil)))) (fun _ _ _ _ _ => pv 4)))))), ?_⟩
    have wk := walk_list (K := K) (a := a) (xs := ((rms l bs).map tx).map V.str)
    rw [List.length_map, List.length_map] at wk
    refine ⟨_, rfl, a, rfl, ⟨_, hS⟩, fun Da na => ?_⟩
    refine lc_it wk (fun i H' => Same H H' ∧ H' Da = some (.lst (((((rms l bs).take i).filter fun o => inR P o).map tx).map V.str))) ⟨same_upd na, upd_same⟩ (fun i H' _ h => sm_l h.1 hS) ?_ ?_
    · rintro u v G1 G2 hu ⟨u1, e1⟩ ⟨rfl, hx⟩
      rw [List.getElem?_map, List.getElem?_map] at hx
      obtain ⟨z2, hz2, rfl⟩ := Option.map_eq_some_iff.mp hx
      obtain ⟨o, ho2, rfl⟩ := Option.map_eq_some_iff.mp hz2
      have tk : (rms l bs).take (u + 1) = (rms l bs).take u ++ [o] := by rw [List.take_add_one, ho2]; rfl
      have fl : (((rms l bs).take u).filter fun o => inR P o).length ≤ 4096 := Nat.le_trans (List.length_filter_le _ _) (by rw [List.length_take]; omega)
      refine ⟨rfl, _, rfl, _, rfl, P, o, rfl, pl, fun G3 u3 => ⟨_, rfl, ite2 (fun t => ⟨_, rfl, _, u3 _ _ e1, by rw [List.length_map, List.length_map, sizeLine_eq]; omega, sm_over (sm_trans u1 u3) na, ?_⟩) (fun t => ⟨sm_trans u1 u3, ?_⟩)⟩⟩
      · rw [upd_same, tk, List.filter_append, List.filter_cons, if_pos t]
        simp
      · rw [u3 _ _ e1, tk, List.filter_append, List.filter_cons, if_neg t]
        simp
    rintro H1 ⟨s1, e1⟩
    rw [List.take_length] at e1
    have sm : ∀ r ∈ (rms l bs).filter (fun o => inR P o), r ∈ rms l bs := fun r hr => (List.mem_filter.mp hr).1
    have fl : ((rms l bs).filter fun o => inR P o).length ≤ 4096 := Nat.le_trans (List.length_filter_le _ _) rlen
    have q : ∀ H', Same H H' → Q (.str (tx (match (rms l bs).filter (fun o => inR P o) with | [] => [] | z :: t => z.filter fun s => (z :: t).all fun r => decide (s ∈ r)))) H' := q
    generalize (rms l bs).filter (fun o => inR P o) = some' at e1 sm fl q
    have sh1 : SeqAt.shaped (.list ((some'.map tx).map .str)) = true := shaped_strs fun y hy => by
      obtain ⟨z, hz, rfl⟩ := List.mem_map.mp hy
      exact okS_tx (rms_ok g z (sm z hz))
    have sh2 := shaped_strs (xs := []) (fun y hy => by cases hy)
    refine ⟨_, rfl, Nat.zero_le _, fun T1 nT1 => ?_⟩
    have s12 : Same H1 (upd H1 T1 (.lst [])) := same_upd nT1
    have d1 : Dp K (upd H1 T1 (.lst [])) (.ref Da) (.list ((some'.map tx).map .str)) := .lst (SqL.of (s12 _ _ e1)) (dpAll_strs _)
    have d2 : Dp K (upd H1 T1 (.lst [])) (.ref T1) (.list []) := .lst (xs := []) (SqL.of upd_same) (dpAll_strs (K := K) [])
    refine ⟨_, _, d1, d2, sh1, sh2, _, rfl, ?_⟩
    rw [show PyData.eqv (.list ((some'.map tx).map .str)) (.list []) = decide (some'.map tx = []) from eq_eqv _ []]
    generalize upd H1 T1 (.lst []) = H2 at s12 ⊢
    have e2 := s12 _ _ e1
    have s02 := sm_trans s1 s12
    match some', e2, sm, fl, q with
    | [], e2, sm, fl, q =>
      rw [show decide (([] : List (List Nat)).map tx = []) = true from decide_eq_true rfl]
      refine iteT ?_
      show Q (.str (Str.ofString "")) H2
      rw [str00]
      exact q H2 s02
    | z :: t, e2, sm, fl, q =>
      rw [show decide ((z :: t).map tx = []) = false from decide_eq_false fun h => by cases h]
      refine iteF ?_
      have q : ∀ H', Same H H' → Q (.str (tx (z.filter fun s => (z :: t).all fun r => decide (s ∈ r)))) H' := q
      have zl := (rms_lets g z (sm z (List.mem_cons_self ..))).1
      refine ⟨⟨_, rfl⟩, _, rfl, Da, _, 0, .str (tx z), rfl, rfl, SqL.of e2, atI_nat (j := 0) (xs := ((z :: t).map tx).map V.str) rfl, tx z, rfl, fun Db nb => ?_⟩
      have lz : (tx z).cps.size = z.length := tx_len _
      have wk2 := walk_str (z := tx z)
      rw [lz] at wk2
      have wk3 := walk_list (K := K) (a := Da) (xs := ((z :: t).map tx).map V.str)
      rw [List.length_map, List.length_map] at wk3
      refine lc_it wk2 (fun i H' => Same H2 H' ∧ H' Db = some (.lst ((((z.take i).filter fun s => (z :: t).all fun r => decide (s ∈ r)).map sg).map V.str))) ⟨same_upd nb, upd_same⟩ (fun _ _ _ _ => trivial) ?_ ?_
      · rintro i v G1 G2 hi ⟨u1, e3⟩ ⟨rfl, c, hc, rfl⟩
        have hc : z[i]? = some c := by
          rw [← Array.getElem?_toList, tx_list] at hc
          exact hc
        have tk : z.take (i + 1) = z.take i ++ [c] := by rw [List.take_add_one, hc]; rfl
        have fl2 : ((z.take i).filter fun s => (z :: t).all fun r => decide (s ∈ r)).length ≤ 12 := Nat.le_trans (List.length_filter_le _ _) (by rw [List.length_take]; omega)
        refine ⟨rfl, _, rfl, Da, rfl, ⟨_, SqL.of (u1 _ _ e2)⟩, fun Dc nc => ?_⟩
        have eDa := u1 _ _ e2
        refine lc_it wk3 (fun u H' => Same G2 H' ∧ H' Dc = some (.lst ((((z :: t).take u).map fun r => decide (c ∈ r)).map V.bl))) ⟨same_upd nc, upd_same⟩ (fun u H' _ h => SqL.of (h.1 _ _ eDa)) ?_ ?_
        · rintro u v G3 G4 hu2 ⟨u3, e4⟩ ⟨rfl, hx⟩
          rw [List.getElem?_map, List.getElem?_map] at hx
          obtain ⟨z2, hz2, rfl⟩ := Option.map_eq_some_iff.mp hx
          obtain ⟨o, ho2, rfl⟩ := Option.map_eq_some_iff.mp hz2
          refine ⟨rfl, yes_i ⟨_, rfl, _, rfl, c, tx o, rfl, rfl, ?_⟩⟩
          rw [tx_list]
          refine ⟨_, e4, ?_, sm_over u3 nc, ?_⟩
          · rw [List.length_map, List.length_map, List.length_take, sizeLine_eq]
            omega
          · rw [upd_same, List.take_add_one, ho2, List.map_append, List.map_append]
            rfl
        · rintro G3 ⟨u3, e4⟩
          rw [List.take_length] at e4
          refine ⟨Dc, _, rfl, SqL.of e4, _, rfl, ?_⟩
          rw [show ((z :: t).map fun r => decide (c ∈ r)).all id = (z :: t).all fun r => decide (c ∈ r) by rw [List.all_map]; rfl]
          refine ite2 (fun t2 => ⟨_, rfl, _, u3 _ _ e3, by rw [List.length_map, List.length_map, sizeLine_eq]; omega, sm_over (sm_trans u1 u3) nb, ?_⟩) (fun t2 => ⟨sm_trans u1 u3, ?_⟩)
          · rw [upd_same, tk, List.filter_append, List.filter_cons, if_pos t2]
            simp
            rfl
          · rw [u3 _ _ e3, tk, List.filter_append, List.filter_cons, if_neg t2]
            simp
      · rintro G1 ⟨u1, e3⟩
        rw [List.take_length] at e3
        have fl2 : (z.filter fun s => (z :: t).all fun r => decide (s ∈ r)).length ≤ 12 := Nat.le_trans (List.length_filter_le _ _) (by omega)
        refine ⟨_, _, (z.filter fun s => (z :: t).all fun r => decide (s ∈ r)).map sg, rfl, rfl, .inl (SqL.of e3), ?_, ?_⟩
        · rw [sum_sgs, show (Str.ofString "").length = 0 by decide +kernel]
          omega
        · rw [join_sg]
          exact q G1 (sm_trans s02 u1)
end
end NC
namespace NC
open PySem PySem.Spec PyProof.Rows L2
abbrev sLaw : Stmt := topS 74
abbrev nLaw : List Str := ["_law_script", "_law_d", "_law_shuts_here", "_law_bars", "_law_rooms_here", "_law_hall_here", "_law_room", "_law_goal", "_law_due", "_law_part_here", "_law_want", "_law_row", "_law_k", "_law_texts", "_law_writes", "_law_cap", "_law_far", "_law_parts", "_law_places", "_law_text"]
theorem scLaw : FnScope nLaw ["_law_script"] (defScope sLaw) := ⟨rfl, rfl, rfl, by decide +kernel, rfl, by decide +kernel, by decide +kernel⟩
def gApp {α : Type} (us ws : List α) : List α := us ++ ws
def gSw {α : Type} (_ ws : List α) : List α := match ws with
  | [m, c] => [c, m]
  | _ => []
/-- the name of the law's lambdas -/
def lamN (c : Value) : Str := (envOfC "law" (defScope sLaw) 0 0 c).qual ++ "<lambda>"
def spLawT (K : PySem.W.Frag) (T : List (Addr × Str)) : Sp := fun vs H Q _ => ∃ (a : Addr) (ns : List Int), vs = [.ref a] ∧ SqL K H a (ns.map V.int) ∧ LamX.Tabs T H ∧ ∀ H', Q (.bl true) H'
def rListQ (K : PySem.W.Frag) : List V → Hp → VK → Prop := fun xs H Q => ∃ p ys, xs = [V.ref p] ∧ (SqL K H p ys ∨ SqT K H p ys) ∧ ∀ l, H l = none → Q (V.ref l) (L2.upd H l (.lst ys))
def tmD : PyData := .tuple [.str "toomany", .int 24]
theorem okTM : okS "toomany" := by
  rw [show (Str.ofString "toomany") = tx [116, 111, 111, 109, 97, 110, 121] by decide +kernel]
  exact okS_tx (by decide)
theorem sh_tm : SeqAt.shaped tmD = true := by
  have q := strOk_of okTM
  show (PyData.canLay0 _ && decide (PyData.depth _ ≤ 64)) = true
  simp [tmD, PyData.canLay0, PyData.canLayAll0, PyData.depth, PyData.depthAll, q]
theorem ev_tm : PyData.eqv tmD tmD = true := by simp [tmD, PyData.eqv, PyData.eqvAll]
theorem cutV_first (xs : List V) (k : Nat) : cutV xs none (some ((k : Nat) : Int)) = xs.take k := by
  unfold cutV
  rw [HT.sIx_none, HT.sIx_nat]
  show (xs.drop 0).take (min k xs.length - 0) = _
  rw [List.drop_zero, Nat.sub_zero, ← List.take_eq_take_min]
/-- the law's own helpers -/
structure Hlp (K : PySem.W.Frag) (mg : Str → Option Value) (fSame fStart fDraw fOf fLet fShuts fOth fWit fPairs fAll fRms fFine fHall fLSi fLPa fLSh fCal fTold fHd fSt fEw fSu : Addr) (dSame dStart dDraw dOf dLet dShuts dOth dWit dPairs dAll dRms dFine dHall dLSi dLPa dLSh dCal dTold dHd dSt dEw dSu : FuncData) : Prop where
  same : DF K mg "_law_same" sSame ["_law_x", "_law_due"] fSame dSame
  start : DF K mg "_law_start" sStart ["_law_script"] fStart dStart
  draw : DF K mg "_law_draw" sDraw ["_law_d", "_law_many_it"] fDraw dDraw
  of : DF K mg "_law_of" sOf ["_law_d", "_law_some"] fOf dOf
  letters : DF K mg "_law_letters" sLetters [] fLet dLet
  shuts : DF K mg "_law_shuts" sShuts ["_law_d", "_law_most_it"] fShuts dShuts
  oth : DF K mg "_law_other" sOth ["_law_side"] fOth dOth
  wit : DF K mg "_law_within" sWithin ["_law_sides_here", "_law_room"] fWit dWit
  pairs : DF K mg "_law_pairs" sPairs ["_law_shuts_here"] fPairs dPairs
  all : DF K mg "_law_all" sAll ["_law_shuts_here"] fAll dAll
  rms : DF K mg "_law_rooms" sRooms ["_law_shuts_here", "_law_bars"] fRms dRms
  fine : DF K mg "_law_fine" sFine ["_law_shuts_here", "_law_rooms_here"] fFine dFine
  hall : DF K mg "_law_hall" sHall ["_law_d", "_law_most_it"] fHall dHall
  lsi : DF K mg "_law_sides" sLSides ["_law_d", "_law_shuts_here"] fLSi dLSi
  lpa : DF K mg "_law_part" sLPart ["_law_d", "_law_shuts_here", "_law_rooms_here"] fLPa dLPa
  lsh : DF K mg "_law_shut" sLShut ["_law_rooms_here", "_law_part_here"] fLSh dLSh
  cal : DF K mg "_law_calls" sLCalls ["_law_d", "_law_shuts_here", "_law_rooms_here", "_law_most_it"] fCal dCal
  told : DF K mg "_law_told" sTold ["_law_ask"] fTold dTold
  hd : DF K mg "hardened" sHarden ["calls", "many"] fHd dHd
  st : DF K mg "steer" sSteer ["hall", "calls", "room", "goal"] fSt dSt
  ewF : Fun K "ends_within" "ends_within" sEndsW fEw dEw
  ewG : mg "ends_within" = some (.ref fEw)
  suF : Fun K "surely_there" "surely_there" sSurely fSu dSu
  suG : mg "surely_there" = some (.ref fSu)
  kwE : KBn K dEw ["hall", "calls", "room", "most"] 3 ["most"] gApp gApp
  kwS : KBn K dSu ["hall", "calls", "room", "goal", "most"] 4 ["most"] gApp gApp
  kwH : KBn K dHd ["calls", "many"] 0 ["many", "calls"] gSw gSw
  many : mg "any" = none
  mb : mg "bool" = none
  ms : mg "str" = none
section
variable {P : Program} {w : World} {K : PySem.W.Frag} {mg : Str → Option Value} {base : Heap} {tw tc td : Tok} {fOther fSides fByW fIsW fIsB fCW fCB fCS fSt fRe fAF fCF fCA : Addr} {dOther dSides dByW dIsW dIsB dCW dCB dCS dSt dRe dAF dCF dCA : FuncData}
    {CH iH CB iB CF iF CA iA CT_ iT : Addr} {eH eB eF eA eT : FuncData} {C fi fb fm fr fg fw ff : Addr} {di db dm dr dg dw df : FuncData} {fIsP fChP fAFB fTw : Addr} {dIsP dChP dAFB dTw : FuncData}
    {fSh fSc fStS fGo fAl fNx fTb fTa fCR fWo : Addr} {dSh dSc dStS dGo dAl dNx dTb dTa dCR dWo : FuncData} {fLm fRw : Addr} {dLm dRw : FuncData}
    {fSame fStart fDraw fOf fLet fShuts fOth fWit fPairs fAll fRms fFine fHall fLSi fLPa fLSh fCal fTold fHd fSteer fEw fSu : Addr} {dSame dStart dDraw dOf dLet dShuts dOth dWit dPairs dAll dRms dFine dHall dLSi dLPa dLSh dCal dTold dHd dSteer dEw dSu : FuncData}
set_option maxHeartbeats 8000000 in
theorem ok_law {f c PT_ : Addr} {kV doc pm ct oc : Value} {an od : Option Addr} {osl : Array (Option Value)} {k : Nat}
    (lk : K.lookup f = some ⟨oc, od, .func (PySem.W.fnOf "law" "law" (defArgs sLaw) (defBody sLaw) (defScope sLaw) .none kV doc pm an (.ref c) ct), osl⟩) (hcd : PySem.W.codeIn K (.ref c) "law" = true) (TB : LamX.TabB base mg c PT_) (X : EX K CT_)
    (Z : HC K mg C fi fb di db) (M : HM K C fm fr fg dm dr dg) (Y : PT K mg C fw ff dw df fIsP fChP fAFB fTw dIsP dChP dAFB dTw) (U : CT K mg tc fSh fSc fStS fGo fAl fNx fTb fTa fCR fWo dSh dSc dStS dGo dAl dNx dTb dTa dCR dWo) (UQ : CTQ K mg td fSh fSc fCR fWo dSh dSc dCR dWo) (VV : CU K mg fLm fRw dLm dRw) (XT : XC K mg "TooMany" "TooMany.__init__" sTMinit "most" CT_ iT eT)
    (T : Txt8 K mg tw fOther fSides fByW fIsW fIsB fCW fCB fCS fSt fRe fAF fCF fCA dOther dSides dByW dIsW dIsB dCW dCB dCS dSt dRe dAF dCF dCA CH iH CB iB CF iF CA iA eH eB eF eA)
    (L : Hlp K mg fSame fStart fDraw fOf fLet fShuts fOth fWit fPairs fAll fRms fFine fHall fLSi fLPa fLSh fCal fTold fHd fSteer fEw fSu dSame dStart dDraw dOf dLet dShuts dOth dWit dPairs dAll dRms dFine dHall dLSi dLPa dLSh dCal dTold dHd dSteer dEw dSu) :
    FnOk P w K mg base CX0 (k + 11) f (PySem.W.fnOf "law" "law" (defArgs sLaw) (defBody sLaw) (defScope sLaw) .none kV doc pm an (.ref c) ct) ["_law_script"] (spLawT K [(PT_, lamN (.ref c))]) := by
  have GSt : FnOk P w K mg base CX0 (k + 1) fStart dStart ["_law_script"] (spStart K) := ok_start T.B L.start.F
  have GD : FnOk P w K mg base CX0 (k + 1) fDraw dDraw ["_law_d", "_law_many_it"] spDraw := ok_draw T.B L.draw.F
  have GO : FnOk P w K mg base CX0 (k + 2) fOf dOf ["_law_d", "_law_some"] (spOf K) := ok_of T.B L.of.F L.draw
  have GHl : FnOk P w K mg base CX0 (k + 3) fHall dHall ["_law_d", "_law_most_it"] spHall := ok_hall T.B L.many L.hall.F L.draw L.of L.letters L.shuts L.oth L.wit L.pairs L.all L.rms L.fine
  have GCa : FnOk P w K mg base CX0 (k + 5) fCal dCal ["_law_d", "_law_shuts_here", "_law_rooms_here", "_law_most_it"] spLCalls := ok_lcalls T.B L.many L.cal.F L.draw L.of L.lsi L.wit L.lpa
  have GLs : FnOk P w K mg base CX0 (k + 2) fLSh dLSh ["_law_rooms_here", "_law_part_here"] (spLShut K) := ok_lshut T.B L.lsh.F L.wit
  have GS : FnOk P w K mg base CX0 (k + 4) fSame dSame ["_law_x", "_law_due"] (spYes 2) := ok_yes T.B L.mb L.ms L.same 2
  have GH : FnOk P w K mg base (L2.CX P w) (k + 5) fi di ["self", "walls", "bars"] (spHinit K C CB CF CA) := ok_Hinit Z T
  have GT : FnOk P w K mg base CX0 (k + 8) fSteer dSteer ["hall", "calls", "room", "goal"] (spSteer K C) := ok_steer T.B L.many Z M Y T.cs T.S T.O T.Y U L.st.F
  have GE : FnOk P w K mg base CX0 (k + 8) fEw dEw ["hall", "calls", "room", "most"] (spEndsW K C) := ok_endsW T.B L.many Z M Y T.cs T.S T.O T.Y UQ VV L.ewF
  have GSu : FnOk P w K mg base CX0 (k + 8) fSu dSu ["hall", "calls", "room", "goal", "most"] (spSurely K C) := ok_surely T.B L.many Z M Y T.cs T.S T.O T.Y UQ VV L.suF
  have GHd : FnOk P w K mg base (L2.CX P w) (k + 8) fHd dHd ["calls", "many"] (spHd K CT_) := (ok_hd (k := k) T.B UQ.mC T.he XT L.hd.F).mono (by omega)
  have GH1 : FnOk P w K mg base CX0 (k + 1) fHd dHd ["calls", "many"] (spHardenQ K) := ok_hardenQ (k := k) T.B UQ.mC L.hd.F
  have UT : Uses P w K mg base (k + 8) (k + 10) fTold dTold ["_law_ask"] (spTold K CT_) := ok_told L.told.F XT.gC
  refine fn_of lk hcd scLaw (fun vs H Q E h => ?_) (fun A outer st H vs Q E hr h => ?_)
  · obtain ⟨a, ns, rfl, _⟩ := h
    rfl
  · obtain ⟨a, ns, rfl, hS, hT, q⟩ := h
    have r1 : Room (k + 1) _ := hr.mono (by omega)
    have r2 : Room (k + 2) _ := hr.mono (by omega)
    have r3 : Room (k + 3) _ := hr.mono (by omega)
    have r4 : Room (k + 4) _ := hr.mono (by omega)
    have r5 : Room (k + 5) _ := hr.mono (by omega)
    have r6 : Room (k + 6) _ := hr.mono (by omega)
    have r8 : Room (k + 8) _ := hr.mono (by omega)
    have B := T.B
    have nd := scLaw.nd
    have hu := hr.units
    refine ⟨_, PSs.nox (pss_cons (ps_set (i := 1) nd rfl (.inl rfl) (pe_call GSt r1 rfl L.start.g L.start.F.kp L.start.b .nil pass0 (pa_cons (pv 0) pa_nil)))
      (pss_cons (ps_asg (pe_call GHl r3 rfl L.hall.g L.hall.F.kp L.hall.b .nil pass0 (pa_cons (pv 1) (pa_cons pe_int pa_nil))) (pg_lst rfl (pgs_cons (pg_name (i := 2) nd rfl (.inl rfl)) (pgs_cons (pg_name (i := 3) nd rfl (.inl rfl)) (pgs_cons (pg_name (i := 4) nd rfl (.inr rfl)) pgs_nil)))))
      (pss_cons (ps_set (i := 5) nd rfl (.inl rfl) (pe_make (E := E0) Z.mks GH r6 rfl Z.gC Z.b .nil passF (pa_cons (pv 2) (pa_cons (pv 3) pa_nil))))
      (pss_cons (ps_set (i := 17) nd rfl (.inr rfl) (pe_call GCa r5 rfl L.cal.g L.cal.F.kp L.cal.b .nil pass0 (pa_cons (pv 1) (pa_cons (pv 2) (pa_cons (pv 4) (pa_cons pe_int pa_nil))))))
      (pss_cons (ps_asg (pe_tup (pa_cons (pe_call GO r2 rfl L.of.g L.of.F.kp L.of.b .nil pass0 (pa_cons (pv 1) (pa_cons (pv 4) pa_nil))) (pa_cons (pe_call GO r2 rfl L.of.g L.of.F.kp L.of.b .nil pass0 (pa_cons (pv 1) (pa_cons (pv 4) pa_nil))) pa_nil))) (pg_tup rfl (pgs_cons (pg_name (i := 6) nd rfl (.inl rfl)) (pgs_cons (pg_name (i := 7) nd rfl (.inr rfl)) pgs_nil))))
      (pss_cons (ps_for PassesOwn.never rfl (pi_range1 (by rfl) B.range (pa_cons pe_int pa_nil)) (pg_name (i := 15) nd rfl (.inr rfl))
        (pss_cons (ps_set (i := 8) nd rfl (.inl rfl) (pe_lst pa_nil))
        (pss_cons (ps_for PassesOwn.never rfl (pi_list (pv 17)) (pg_name (i := 9) nd rfl (.inl rfl))
          (pss_one (ps_set (i := 8) nd rfl (.inl rfl) (pe_op op_cat (pv 8) (pe_op op_rep (pe_lst (pa_cons (pv 9) pa_nil)) (pe_op op_add (pv 15) pe_int))))))
        (C8.pss_cut (ps_set (i := 10) nd rfl (.inl rfl) (pe_ifExp (pt_cmpR op_gt (pe_callB call_len_seq (by rfl) B.len PySem.boot_len (pa_cons (pv 8) pa_nil)) pe_int (nomark _)) (pe_tup (pa_cons pe_str (pa_cons pe_int pa_nil))) (pv 8)))
        (C8.pss_cut (ps_if (pt_not (pt_val (pe_call GS r4 rfl L.same.g L.same.F.kp L.same.b .nil pass0 (pa_cons
            (pe_lamU (T := [(PT_, lamN (.ref c))]) (vs0 := []) (t := fun E => tCall (spHd K CT_) [] E (tCons (tCB (rListQ K) (tCons (tVar 17) tNil)) (tCons (tVar 15) tNil))) UT hr rfl L.told.g L.told.F.kp L.told.b rfl pa_nil TB rfl (List.mem_cons_self ..) (fun p hp _ => by rw [List.mem_singleton.mp hp]; rfl)
              (LamX.lamS_by (sc := defScope sLaw) (by decide +kernel)) rfl (fun _ _ _ _ _ => rfl)
              (fun A out s H E f c' hr2 => pe_call (E := E) GHd hr2 rfl L.hd.g L.hd.F.kp L.hd.b .nil (passes_call (takes_of rfl rfl rfl rfl) (fun _ _ _ _ h => h)) (pa_cons (pe_callTy call_list_of (by rfl) B.list (by decide +kernel) (pa_cons (pv 17) pa_nil)) (pa_cons (pv 15) pa_nil))) rfl)
            (pa_cons (pv 10) pa_nil))))) (pss_one (ps_ret pe_bl)) pss_nil)
        (pss_cons (ps_set (i := 18) nd rfl (.inr rfl) (pe_call GT r8 rfl L.st.g L.st.F.kp L.st.b .nil pass0 (pa_cons (pv 5) (pa_cons (pv 17) (pa_cons (pv 6) (pa_cons (pv 7) pa_nil))))))
        (pss_cons (ps_if (pt_cmpR op_isN (pv 18) pe_non (nomark _)) (pss_one ps_continue) pss_nil)
        (pss_cons (ps_set (i := 11) nd rfl (.inl rfl)
            (pe_lamU (T := [(PT_, lamN (.ref c))]) (vs0 := []) (t := fun E => tCall (spHd K CT_) [] E (tCons (tLc (iList K (tVar 18)) (gName 12) tYes (tOp (rIxL K) (tVar 17) (tVar 12)) [12]) (tCons (tVar 15) tNil))) UT hr rfl L.told.g L.told.F.kp L.told.b rfl pa_nil TB rfl (List.mem_cons_self ..) (fun p hp _ => by rw [List.mem_singleton.mp hp]; rfl)
              (LamX.lamS_by (sc := defScope sLaw) (by decide +kernel)) rfl (fun _ _ _ _ _ => rfl)
              (fun A out s H E f c' hr2 => pe_call (E := E) GHd hr2 rfl L.hd.g L.hd.F.kp L.hd.b .nil (passes_call (takes_of rfl rfl rfl rfl) (fun _ _ _ _ h => h)) (pa_cons (pe_lc (own := [("_law_k", 12)]) (g := gName 12) (tt := tYes) (te := tOp (rIxL K) (tVar 17) (tVar 12)) rfl nd (pi_list (pv 18)) (blkOk_by (N := nLaw) (by rfl)) (fun _ _ _ _ _ => pg_name (i := 12) nd rfl (Or.inl rfl)) (fun _ _ _ _ _ => pts_nil) (fun _ _ _ _ _ => pe_ix ix_list (pv 17) (pv 12) (fun _ _ => rfl))) (pa_cons (pv 15) pa_nil))) rfl))
        (pss_cons (ps_if (pt_not (pt_val (pe_callB call_isi (by rfl) B.isinstance boot_isi (pa_cons (pv 11) (pa_cons (pe_bltn (v := .ty "list") (by rfl) B.list (by decide +kernel) rfl) pa_nil))))) (pss_one ps_continue) pss_nil)
        (pss_cons (ps_if (pt_not (pt_val (pe_call GS r4 rfl L.same.g L.same.F.kp L.same.b .nil pass0 (pa_cons (pe_callN (ks := ["most"]) GSu r8 rfl L.suG L.suF.kp L.kwS pass0 (pa_cons (pv 5) (pa_cons (pv 11) (pa_cons (pv 6) (pa_cons (pv 7) pa_nil)))) (pk_cons (pv 15) pk_nil)) (pa_cons pe_bl pa_nil))))) (pss_one (ps_ret pe_bl)) pss_nil)
        (pss_cons (ps_if (pt_not (pt_val (pe_call GS r4 rfl L.same.g L.same.F.kp L.same.b .nil pass0 (pa_cons (pe_callN (ks := ["most"]) GE r8 rfl L.ewG L.ewF.kp L.kwE pass0 (pa_cons (pv 5) (pa_cons (pv 11) (pa_cons (pv 6) pa_nil))) (pk_cons (pv 15) pk_nil)) (pa_cons (pe_lst (pa_cons (pv 7) pa_nil)) pa_nil))))) (pss_one (ps_ret pe_bl)) pss_nil)
        (pss_one (ps_for PassesOwn.never rfl (pi_range1 (by rfl) B.range (pa_cons (pe_callB call_len_str (by rfl) B.len PySem.boot_len (pa_cons (pv 7) pa_nil)) pa_nil)) (pg_name (i := 12) nd rfl (.inr rfl))
          (pss_cons (ps_setLc (i := 13) (own := [("_law_part_here", 9)]) (g := gName 9) (tt := tYes) (te := tCall (spLShut K) [] E0 (tCons (tVar 4) (tCons (tVar 9) tNil))) rfl nd rfl rfl (sw_true rfl rfl rfl (by decide +kernel)) (pi_list (pv 11)) (blkOk_by (N := nLaw) (sc := defScope sLaw) (by decide +kernel)) (fun _ _ _ _ _ => pg_name (i := 9) nd rfl (Or.inl rfl)) (fun _ _ _ _ _ => pts_nil)
            (fun _ _ _ _ _ => pe_call GLs r2 rfl L.lsh.g L.lsh.F.kp L.lsh.b .nil pass0 (pa_cons (pv 4) (pa_cons (pv 9) pa_nil))))
          (pss_cons (ps_setLc (i := 14) (own := [("_law_text", 19)]) (g := gName 19) (tt := tTest (tOp rSgn2 (tLow (tOp rIxS (tVar 7) (tVar 12))) (tLow (tVar 19)))) (te := tVar 19) rfl nd rfl rfl (sw_true rfl rfl rfl (by decide +kernel)) (pi_list (pv 13)) (blkOk_by (N := nLaw) (sc := defScope sLaw) (by decide +kernel)) (fun _ _ _ _ _ => pg_name (i := 19) nd rfl (Or.inl rfl))
            (fun _ _ _ _ _ => pts_one (pt_cmpR op_in_sign (pe_lower (pe_ix ix_str (pv 7) (pv 12) (fun _ _ => rfl))) (pe_lower (pv 19)) (by rfl))) (fun _ _ _ _ _ => pv 19))
          (pss_cons (ps_if (pt_val (pe_callB (cr_any rfl) (by rfl) L.many (by decide +kernel) (pa_cons (pe_lc (own := [("_law_text", 19)]) (g := gName 19) (tt := tYes) (te := tOp rNSg (tOp rIxS (tVar 7) (tVar 12)) (tVar 19)) rfl nd (pi_list (pe_slice sl_list (pe_revL (pv 14)) po_none (po_some (pe_op op_add (pv 15) pe_int)))) (blkOk_by (N := nLaw) (sc := defScope sLaw) (by decide +kernel)) (fun _ _ _ _ _ => pg_name (i := 19) nd rfl (Or.inl rfl)) (fun _ _ _ _ _ => pts_nil)
            (fun _ _ _ _ _ => pe_cmpR op_notIn_sign (pe_ix ix_str (pv 7) (pv 12) (fun _ _ => rfl)) (pv 19) (by rfl))) pa_nil))) (pss_one (ps_ret pe_bl)) pss_nil)
          (pss_one (ps_if (PW.pt (pw_and (pt_cmpR (op_eqD hu) (pv 14) (pe_lst pa_nil) (nomark _)) (pw_and1 (pt_cmpR op_ne (pe_ix ix_str (pv 6) (pv 12) (fun _ _ => rfl)) (pe_ix ix_str (pv 7) (pv 12) (fun _ _ => rfl)) (nomark _))))) (pss_one (ps_ret pe_bl)) pss_nil))))))))))))))))))
      (pss_cons (ps_set (i := 16) nd rfl (.inr rfl) (pe_op op_add (pe_op op_pow pe_int pe_int) (pe_call GD r1 rfl L.draw.g L.draw.F.kp L.draw.b .nil pass0 (pa_cons (pv 1) (pa_cons (pe_op op_pow pe_int pe_int) pa_nil)))))
      (pss_cons (ps_if (pt_cmpR (op_neD hu)
            (pe_lamU (T := [(PT_, lamN (.ref c))]) (vs0 := []) (t := fun E => tCall (spHd K CT_) [] E (tCons (tLst (tCons (tC (.str "?")) tNil)) (tCons (tVar 16) tNil))) UT hr rfl L.told.g L.told.F.kp L.told.b rfl pa_nil TB rfl (List.mem_cons_self ..) (fun p hp _ => by rw [List.mem_singleton.mp hp]; rfl)
              (LamX.lamS_by (sc := defScope sLaw) (by decide +kernel)) rfl (fun _ _ _ _ _ => rfl)
              (fun A out s H E f c' hr2 => pe_call (E := E) GHd hr2 rfl L.hd.g L.hd.F.kp L.hd.b .nil (passes_call (takes_of rfl rfl rfl rfl) (fun _ _ _ _ h => h)) (pa_cons (pe_lst (pa_cons pe_str pa_nil)) (pa_cons (pv 16) pa_nil))) rfl)
            (pe_tup (pa_cons pe_str (pa_cons pe_int pa_nil))) (nomark _)) (pss_one (ps_ret pe_bl)) pss_nil)
      (pss_one (ps_ret (pe_call GS r4 rfl L.same.g L.same.F.kp L.same.b .nil pass0 (pa_cons (pe_lst (pa_cons
          (pe_callN0 (ks := ["many", "calls"]) GH1 r1 rfl L.hd.g L.hd.F.kp L.kwH pass0 (pk_cons pe_int (pk_cons (pe_tup (pa_cons pe_str (pa_cons pe_str pa_nil))) pk_nil)))
          (pa_cons (pe_call GH1 r1 rfl L.hd.g L.hd.F.kp L.hd.b .nil pass0 (pa_cons (pe_lst pa_nil) (pa_cons (pv 16) pa_nil))) pa_nil)))
        (pa_cons (pe_lst (pa_cons (pe_lst (pa_cons pe_str (pa_cons pe_str (pa_cons pe_str (pa_cons pe_str pa_nil))))) (pa_cons (pe_lst pa_nil) pa_nil))) pa_nil))))))))))))), ?_⟩
    refine ⟨_, rfl, a, ns, rfl, hS, fun H0 d s0 nd0 D0 => ?_⟩
    refine ⟨_, rfl, d, 5, rfl, D0, by decide, by decide, fun H1 l bs Tl bA rA s1 D1 ho hln nbd nrd eT eb er => ?_⟩
    have T1 := tabs_smx (hT.ext s0) D0 s1.1
    have g := ho.g
    have hl6 : l.length ≤ 6 := by omega
    refine ⟨Tl, _, rfl, SqL.of eT, rfl, _, _, rfl, _, _, rfl, _, _, rfl, rfl, ?_⟩
    have fok := first_ok ho.bar ho.nd
    have bok := bars_ok g ho.bar
    obtain ⟨c0, hc0⟩ := D1.head
    obtain ⟨rr, hd1⟩ := id hc0
    refine ⟨_, rfl, _, rfl, fun x dx nx ndx nne => ?_⟩
    have s8 : Same H1 (upd (upd H1 dx (.own x)) x (.ins C dx [])) := sm_upd (same_upd ndx) (by rw [upd_ne (Ne.symm nne)]; exact nx)
    refine ⟨x, dx, l, bA, bs, rfl, upd_same, g, bok, by have := ho.len; omega, sm_l s8 (SqL.of eb), ?_⟩
    rw [fok]
    intro fo hfo
    have foI := hfo.iff g ho.bar
    rw [ho.ok fo foI]
    intro H2 sb D ys s9 nsb nD hat hp hso
    refine ⟨rfl, ?_⟩
    have s2 : Same H1 H2 := fun b o hb => s9 b o (ne_of_none hb nx) (s8 b o hb)
    have nsd : sb ≠ d := Ne.symm (ne_of_none (s8 _ _ hd1) nsb)
    have S2 : St7 [(PT_, lamN (.ref c))] d c0 rA (((rms l bs).map tx).map V.str) C x dx sb D l ys fo H2 := ⟨⟨D1.same s2, ⟨rr, s2 _ _ hd1⟩, s2 _ _ er, hat⟩, T1.ext s2⟩
    have hgo : ∀ {H'}, St7 [(PT_, lamN (.ref c))] d c0 rA (((rms l bs).map tx).map V.str) C x dx sb D l ys fo H' → HallF C H' x dx sb D l ys fo bs := fun S => ⟨⟨S.S.hA, g, ho.bar, hp, by have := ho.len; omega, ho.ok⟩, foI, fun s hs => hfo.len g hs⟩
    have ra6 : (rms l bs).length ≤ 2 ^ l.length := by
      unfold rms
      refine Nat.le_trans (List.length_filter_le _ _) ?_
      rw [allT_len]
      exact Nat.le_refl _
    have ll : (((rms l bs).map tx).map V.str).length = (rms l bs).length := by rw [List.length_map, List.length_map]
    have rpos : 0 < (rms l bs).length := List.length_pos_iff.mpr ho.ne
    have rl32 : (rms l bs).length ≤ 32 := Nat.le_trans ra6 (Nat.le_trans (Nat.pow_le_pow_right (by decide) (show l.length ≤ 5 by omega)) (by decide))
    refine ⟨_, rfl, _, rfl, _, rfl, d, l, bs, rA, 7, rfl, by decide, S2.S.dr, g, ho.bar, nrd, S2.S.rA, ho.ne, by omega, fun H3 pA Ps s3 D3 npA epA pl hPs => ?_⟩
    have S3 := S2.smd nrd nsd s3 D3
    have nPd : pA ≠ d := S2.S.dr.ne npA
    have hC : CallsOk l bs Ps := ⟨by omega, hPs⟩
    have draw : ∀ {H3}, St7 [(PT_, lamN (.ref c))] d c0 rA (((rms l bs).map tx).map V.str) C x dx sb D l ys fo H3 → H3 pA = some (.lst ((Ps.map tx).map V.str)) → ∀ (Q3 : VK), (∀ H4 r, St7 [(PT_, lamN (.ref c))] d c0 rA (((rms l bs).map tx).map V.str) C x dx sb D l ys fo H4 → H4 pA = some (.lst ((Ps.map tx).map V.str)) → r ∈ rms l bs → Q3 (.str (tx r)) H4) → Dr H3 d ∧ ((∃ a xs, V.ref rA = .ref a ∧ a ≠ d ∧ SqL K H3 a xs ∧ 1 ≤ xs.length ∧ xs.length ≤ 1000 ∧ ∀ H' v (i : Nat), SmD d H3 H' → Dr H' d → xs[i]? = some v → Q3 v H') ∨
          ∃ l : List Nat, V.ref rA = .str (tx l) ∧ 1 ≤ l.length ∧ l.length ≤ 1000 ∧ ∀ H' c, SmD d H3 H' → Dr H' d → c ∈ l → Q3 (.str (sg c)) H') := fun {H3} S3 e3 Q3 k3 =>
        ⟨S3.S.dr, .inl ⟨rA, _, rfl, nrd, SqL.of S3.S.rA, by rw [ll]; omega, by rw [ll]; omega, fun H4 v j s4 D4 hv => by
          rw [List.getElem?_map, List.getElem?_map] at hv
          obtain ⟨z, hz1, rfl⟩ := Option.map_eq_some_iff.mp hv
          obtain ⟨r, hr1, rfl⟩ := Option.map_eq_some_iff.mp hz1
          exact k3 H4 r (S3.smd nrd nsd s4 D4) (s4.1 _ _ nPd e3) (List.mem_of_getElem? hr1)⟩⟩
    refine ⟨_, rfl, _, rfl, d, _, rfl, draw S3 epA _ fun H4 room S4 epA4 hroom => ⟨_, rfl, _, rfl, d, _, rfl, draw S4 epA4 _ fun H5 goal S5 epA5 hgoal => ?_⟩⟩
    refine ⟨by show 2 ≤ sizeLine; decide, fun T5 nT5 => ?_⟩
    have s56 : Same H5 (upd H5 T5 (.tup [.str (tx room), .str (tx goal)])) := same_upd nT5
    refine ⟨T5, _, rfl, SqT.of upd_same, rfl, _, _, rfl, _, _, rfl, rfl, ?_⟩
    have S6 := S5.same s56
    have epA6 := s56 _ _ epA5
    generalize (upd H5 T5 (.tup [.str (tx room), .str (tx goal)])) = H6 at S6 epA6 ⊢
    obtain ⟨txs, txe⟩ := hC.txs g ho.bar foI ho.ok
    have tlen : (Ps.map (shT l fo)).length = Ps.length := List.length_map ..
    refine ⟨4, rfl, by decide, by decide, ?_⟩
    refine for_it walk_range (fun i σ H' => ∃ (y8 y9 y10 y11 y12 y13 y14 y15 y18 : Option V), σ = [some (.ref a), some (.ref d), some (.str (tx l)), some (.ref bA), some (.ref rA), some (.ref x), some (.str (tx room)), some (.str (tx goal)), y8, y9, y10, y11, y12, y13, y14, y15, none, some (.ref pA), y18, none] ∧ St7 [(PT_, lamN (.ref c))] d c0 rA (((rms l bs).map tx).map V.str) C x dx sb D l ys fo H' ∧ H' pA = some (.lst ((Ps.map tx).map V.str))) ⟨_, _, _, _, _, _, _, _, _, rfl, S6, epA6⟩ (fun _ _ _ _ _ => trivial) ?_ ?_
    · rintro cap v σ Ha Hb hi ⟨y8, y9, y10, y11, y12, y13, y14, y15, y18, rfl, Sa, epa⟩ ⟨rfl, rfl⟩
      refine ⟨Nat.zero_le _, fun pD0 nD0 => ?_⟩
      have S7 := Sa.same (same_upd (o := .lst []) nD0)
      have epA7 := (same_upd (o := .lst []) nD0) _ _ epa
      have eD0 : (upd Hb pD0 (.lst [])) pD0 = some (.lst []) := upd_same
      generalize (upd Hb pD0 (.lst [])) = H7 at S7 epA7 eD0 ⊢
      refine ⟨_, rfl, pA, rfl, ⟨_, SqL.of epA7⟩, ?_⟩
      have wkp := walk_list (K := K) (a := pA) (xs := (Ps.map tx).map V.str)
      rw [List.length_map, List.length_map] at wkp
      refine for_it wkp (fun i σ H' => ∃ (pD : Addr) (y9' : Option V), σ = [some (.ref a), some (.ref d), some (.str (tx l)), some (.ref bA), some (.ref rA), some (.ref x), some (.str (tx room)), some (.str (tx goal)), some (.ref pD), y9', y10, y11, y12, y13, y14, some (.int (0 + (cap : Nat))), none, some (.ref pA), y18, none] ∧ Same H7 H' ∧ H' pD = some (.lst (hardL cap (((Ps.map tx).map V.str).take i)))) ⟨pD0, _, rfl, L2.Same.refl _, eD0⟩ (fun i σ H' _ h => by obtain ⟨_, _, _, u, _⟩ := h; exact SqL.of (u _ _ epA7)) ?_ ?_
      · rintro j v σ Hc Hd hj ⟨pD, y9', rfl, uc, eD⟩ ⟨rfl, hv⟩
        refine ⟨_, rfl, _, rfl, by show 1 ≤ sizeLine; decide, fun q1 n1 => ?_⟩
        have tk : (((Ps.map tx).map V.str).take (j + 1)) = (((Ps.map tx).map V.str).take j) ++ [v] := by rw [List.take_add_one, hv]; rfl
        have hc4 : cap < 4 := hi
        have hl := hardL_len cap (((Ps.map tx).map V.str).take j)
        rw [List.length_take] at hl
        have hlj : min j ((Ps.map tx).map V.str).length * (cap + 1) ≤ 7 * 4 := Nat.mul_le_mul (by rw [List.length_map, List.length_map]; omega) (by omega)
        refine ⟨_, rfl, _, _, rfl, rfl, q1, _, _, rfl, rfl, upd_same, by omega, by omega, by rw [sizeLine_eq]; show 1 * _ ≤ _; omega, fun q2 n2 => ?_⟩
        have em : ((0 : Int) + (cap : Int) + 1).toNat = cap + 1 := by omega
        have er : (List.replicate ((0 : Int) + (cap : Int) + 1).toNat [v]).flatten = List.replicate (cap + 1) v := by rw [em, List.flatten_replicate_singleton]
        have s2' := sm_trans (same_upd (o := .lst [v]) n1) (same_upd (o := .lst (List.replicate ((0 : Int) + (cap : Int) + 1).toNat [v]).flatten) n2)
        refine ⟨pD, q2, _, _, rfl, rfl, s2' _ _ eD, upd_same, by rw [hl, er, List.length_replicate, sizeLine_eq]; omega, fun q3 n3 => ?_⟩
        refine ⟨q3, _, rfl, sm_upd (sm_trans uc s2') n3, ?_⟩
        rw [upd_same, er, tk]
        unfold hardL
        rw [List.flatMap_append]
        simp
      · rintro σ H8 ⟨pD, y9', rfl, u8, eD⟩
        rw [List.take_of_length_le (by rw [List.length_map, List.length_map]; exact Nat.le_refl _), hardL_strs] at eD
        have S8 := S7.same u8
        have epA8 := u8 _ _ epA7
        have hc4 : cap < 4 := hi
        have hlen : ((((hardT cap Ps).map tx).map V.str)).length = Ps.length * (cap + 1) := by rw [List.length_map, List.length_map, hardT_len]
        refine ⟨fun σ H' => ∃ v10 : V, σ = [some (.ref a), some (.ref d), some (.str (tx l)), some (.ref bA), some (.ref rA), some (.ref x), some (.str (tx room)), some (.str (tx goal)), some (.ref pD), y9', some v10, y11, y12, y13, y14, some (.int (0 + (cap : Nat))), none, some (.ref pA), y18, none] ∧ Same H8 H' ∧ ((24 < Ps.length * (cap + 1) ∧ ∃ Tw, v10 = .ref Tw ∧ H' Tw = some (.tup [.str "toomany", .int 24])) ∨ (Ps.length * (cap + 1) ≤ 24 ∧ v10 = .ref pD)), ?_, ?_⟩
        · refine ⟨_, rfl, pD, _, rfl, .inl (SqL.of eD), _, _, rfl, rfl, _, rfl, ?_⟩
          rw [hlen]
          refine ite2 (fun tb => ?_) (fun tb => ?_)
          · have tb' : (24 : Int) < ((Ps.length * (cap + 1) : Nat) : Int) := of_decide_eq_true tb
            exact ⟨by show 2 ≤ sizeLine; decide, fun Tw nTw => ⟨.ref Tw, rfl, same_upd nTw, .inl ⟨by omega, Tw, rfl, upd_same⟩⟩⟩
          · have tb' : ¬ (24 : Int) < ((Ps.length * (cap + 1) : Nat) : Int) := fun z => tb (decide_eq_true z)
            exact ⟨_, rfl, _, rfl, L2.Same.refl _, .inr ⟨by omega, rfl⟩⟩
        rintro σ H9 ⟨v10, rfl, u9, hw⟩
        have S9 := S8.same u9
        have epA9 := u9 _ _ epA8
        have eD9 := u9 _ _ eD
        have zc : (0 : Int) + (cap : Int) = ((cap : Nat) : Int) := Int.zero_add _
        refine ⟨fun σ H' => σ = [some (.ref a), some (.ref d), some (.str (tx l)), some (.ref bA), some (.ref rA), some (.ref x), some (.str (tx room)), some (.str (tx goal)), some (.ref pD), y9', some v10, y11, y12, y13, y14, some (.int (0 + (cap : Nat))), none, some (.ref pA), y18, none] ∧ St7 [(PT_, lamN (.ref c))] d c0 rA (((rms l bs).map tx).map V.str) C x dx sb D l ys fo H' ∧ H' pA = some (.lst ((Ps.map tx).map V.str)), ?_, ?_⟩
        · refine ⟨S9.T, fun f1 G1 x1 t1 => ⟨rfl, ?_⟩⟩
          have Sx := S9.ext x1 t1
          have px := x1 _ _ epA9 (fun _ z => by cases z)
          have dx' := x1 _ _ eD9 (fun _ z => by cases z)
          refine ⟨_, rfl, pA, _, rfl, .inl (SqL.of px), fun pL nL => ?_⟩
          have sL : Same G1 (upd G1 pL (.lst ((Ps.map tx).map V.str))) := same_upd nL
          have eL : (upd G1 pL (.lst ((Ps.map tx).map V.str))) pL = some (.lst ((Ps.map tx).map V.str)) := upd_same
          generalize (upd G1 pL (.lst ((Ps.map tx).map V.str))) = G2 at sL eL ⊢
          have Sy := Sx.same sL
          have py := sL _ _ px
          have dy := sL _ _ dx'
          have ev : ([V.ref pL] ++ [V.int (0 + (cap : Int))] : List V) ++ [] = [.ref pL, .int ((cap : Nat) : Int)] := by rw [zc]; rfl
          have pl0 : ((Ps.map tx).map V.str).length = Ps.length := by rw [List.length_map, List.length_map]
          refine ⟨_, rfl, ?_⟩
          rcases hw with ⟨hb, Tw, rfl, eTw⟩ | ⟨hs, rfl⟩
          · have eT2 := sL _ _ (x1 _ _ eTw (fun _ z => by cases z))
            refine .inr ⟨pL, cap, _, ev, .inl (SqL.of eL), by rw [pl0]; omega, by rw [pl0]; exact hb, fun H' dd s' nd' e' => ech_t X XT.hf (fun G' p s3' np => ?_) H' dd s' e'⟩
            refine ⟨_, rfl, _, _, rfl, .tup upd_same ((same_upd np) _ _ (s3' _ _ eT2)) rfl (by show 2 ≤ 5000; decide) (fun i a b ha hb => ?_), fun G5 s5 => ⟨_, rfl, iteF ⟨rfl, (Sy.same s3').same (sm_trans (same_upd np) s5), s5 _ _ ((same_upd np) _ _ (s3' _ _ py))⟩⟩⟩
            match i, ha, hb with
            | 0, ha, hb => cases ha; cases hb; exact .str _
            | 1, ha, hb => cases ha; cases hb; exact .int _
          · refine .inl ⟨pL, cap, _, ev, .inl (SqL.of eL), by rw [pl0]; exact hs, fun H' p s3' np ep => ?_⟩
            rw [hardL_strs] at ep
            exact ⟨_, rfl, _, rfl, _, _, rfl, Alk.strs ep (s3' _ _ dy) (by rw [List.length_map, hardT_len]; omega), fun G5 s5 => ⟨_, rfl, iteF ⟨rfl, (Sy.same s3').same s5, s5 _ _ (s3' _ _ py)⟩⟩⟩
        · rintro σ H10 ⟨rfl, S10, epA10⟩
          refine ⟨_, rfl, _, rfl, _, rfl, _, rfl, x, dx, sb, D, l, ys, fo, bs, pA, Ps, room, goal, rfl, hgo S10, .inl (SqL.of epA10), hC, hroom, hgoal, ?_⟩
          by_cases hag : agrB (itr (Ps.map (shT l fo)) goal (Ps.map (shT l fo)).length).2 room goal = true
          · rw [if_pos hag]
            intro H11 pK s11 npK epK
            have S11 := S10.same s11
            have epA11 := s11 _ _ epA10
            have tl0 : (Ps.map (shT l fo)).length = Ps.length := tlen
            obtain ⟨ind, ilt, ile, _⟩ := itr_ok (ts := Ps.map (shT l fo)) (goal := goal) (Ps.map (shT l fo)).length
            have run := run_sound g txs hgoal (Ps.map (shT l fo)).length room hroom hag
            generalize hks : (itr (Ps.map (shT l fo)) goal (Ps.map (shT l fo)).length).1.reverse = ks at run epK
            have klt : ∀ k ∈ ks, k < Ps.length := fun k hk => by
              rw [← hks, List.mem_reverse] at hk
              have := ilt k hk
              omega
            have kle : ks.length ≤ 12 := by
              rw [← hks, List.length_reverse]
              omega
            refine ⟨_, rfl, rfl, _, rfl, ?_⟩
            rw [decide_eq_false (fun z => by cases z)]
            refine iteF ?_
            refine ⟨S11.T, fun f2 G1 x1 t1 => ⟨rfl, ?_⟩⟩
            have Sx := S11.ext x1 t1
            have px := x1 _ _ epA11 (fun _ z => by cases z)
            have kx := x1 _ _ epK (fun _ z => by cases z)
            refine ⟨_, rfl, pK, rfl, ⟨_, SqL.of kx⟩, fun De ne => ?_⟩
            have wkk := walk_list (K := K) (a := pK) (xs := ks.map nI)
            rw [List.length_map] at wkk
            refine lc_it wkk (fun i H' => Same G1 H' ∧ H' De = some (.lst (((picked Ps (ks.take i)).map tx).map V.str))) ⟨same_upd ne, upd_same⟩ (fun i H' _ h => SqL.of (h.1 _ _ kx)) ?_ ?_
            · rintro i v Gc Gd hi' ⟨ua, ea⟩ ⟨rfl, hv⟩
              rw [List.getElem?_map] at hv
              obtain ⟨kk, hkk, rfl⟩ := Option.map_eq_some_iff.mp hv
              have hkl : kk < Ps.length := klt kk (List.mem_of_getElem? hkk)
              have hP0 : ((Ps.map tx).map V.str)[kk]? = some (V.str (tx (Ps.getD kk []))) := by
                rw [List.getElem?_map, List.getElem?_map, List.getD_eq_getElem?_getD, List.getElem?_eq_getElem hkl]
                rfl
              have tkk : ks.take (i + 1) = ks.take i ++ [kk] := by rw [List.take_add_one, hkk]; rfl
              refine ⟨rfl, yes_i ⟨_, rfl, _, rfl, pA, _, _, _, rfl, rfl, SqL.of (ua _ _ px), atI_nat (j := kk) hP0, _, ea, ?_, sm_over ua ne, ?_⟩⟩
              · rw [List.length_map, List.length_map]
                unfold picked
                rw [List.length_map, List.length_take, sizeLine_eq]
                omega
              · rw [upd_same, tkk]
                unfold picked
                rw [List.map_append, List.map_append, List.map_append]
                rfl
            · rintro G2 ⟨ua, ea⟩
              rw [List.take_of_length_le (Nat.le_refl _)] at ea
              have Sy := Sx.same ua
              have py := ua _ _ px
              have rlen : (((picked Ps ks).map tx).map V.str).length = ks.length := by
                unfold picked
                rw [List.length_map, List.length_map, List.length_map]
              have ev : ([V.ref De] ++ [V.int (0 + (cap : Int))] : List V) ++ [] = [.ref De, .int ((cap : Nat) : Int)] := by rw [zc]; rfl
              refine ⟨_, rfl, ?_⟩
              by_cases hb2 : 24 < ks.length * (cap + 1)
              · refine .inr ⟨De, cap, _, ev, .inl (SqL.of ea), by rw [rlen]; omega, by rw [rlen]; exact hb2, fun H' dd s' nd' e' => ech_t X XT.hf (fun G' p s3' np => ?_) H' dd s' e'⟩
                refine ⟨_, rfl, _, _, .type "tuple", .type "list", false, rfl, .ty _, .base (.tup upd_same), kit_ty (by decide +kernel), _, rfl, iteT ?_⟩
                exact ⟨_, _, _, _, _, _, _, _, _, rfl, (Sy.same s3').same (same_upd np), (same_upd np) _ _ (s3' _ _ py)⟩
              · refine .inl ⟨De, cap, _, ev, .inl (SqL.of ea), by rw [rlen]; omega, fun H12 pR s12 npR epR => ?_⟩
                rw [hardL_strs] at epR
                have S12 := Sy.same s12
                have py12 := s12 _ _ py
                have klt' : ∀ k ∈ ks, k < (Ps.map (shT l fo)).length := fun k hk => by rw [tlen]; exact klt k hk
                have pkl : (picked Ps ks).length = ks.length := by unfold picked; rw [List.length_map]
                have hQ : CallsQ l bs (hardT cap (picked Ps ks)) := ⟨by rw [hardT_len, pkl]; omega, fun P0 hP0 => hC.ok P0 (picked_mem klt (hardT_mem hP0))⟩
                have eT : (hardT cap (picked Ps ks)).map (shT l fo) = hardT cap (picked (Ps.map (shT l fo)) ks) := by rw [hardT_map, picked_map _ klt]
                have sure : Surely l bs (picked (Ps.map (shT l fo)) ks) cap room goal := surely_of g (rms_nd g) (fun T hT => txs.1 T (picked_mem klt' hT)) (fun T hT r hr' => by
                  obtain ⟨k, hk, rfl⟩ := List.mem_map.mp hT
                  exact txs.room k r (klt' k hk) hr') hroom hgoal (by rw [← run, runC_fold]; rfl) cap
                refine ⟨_, rfl, ?_⟩
                refine ⟨_, rfl, _, _, .type "list", .type "list", true, rfl, .ty _, .base (.lst epR), kit_ty (by decide +kernel), _, rfl, iteF ?_⟩
                refine ⟨_, rfl, _, rfl, _, rfl, _, rfl, _, rfl, rfl, rfl, x, dx, sb, D, l, ys, fo, bs, pR, hardT cap (picked Ps ks), room, goal, 0 + (cap : Int), rfl, hgo S12, .inl (SqL.of epR), hQ, hroom, hgoal, by omega, by omega, fun H13 kk f3 s13 mn => ?_⟩
                have mn' := mn
                rw [eT] at mn'
                rw [zc, sure.ends kk f3 mn', decide_eq_true rfl]
                refine ⟨_, _, rfl, .bl _, fun H14 s14 => ⟨_, rfl, iteF ?_⟩⟩
                have S14 := (S12.same s13).same s14
                have u14 := sm_trans s13 s14
                refine ⟨_, rfl, _, rfl, _, rfl, _, rfl, rfl, rfl, x, dx, sb, D, l, ys, fo, bs, pR, hardT cap (picked Ps ks), room, (cap : Int), rfl, hgo S14, .inl (SqL.of (u14 _ _ epR)), hQ, hroom, by omega, by omega, fun H15 pE kk2 f4 s15 npE mn2 epE => ?_⟩
                rw [eT] at mn2
                rw [sure.ends kk2 f4 mn2] at epE
                refine ⟨_, rfl, by show 1 ≤ sizeLine; decide, fun pG npG => ?_⟩
                refine ⟨_, _, rfl, Alk.strs (xs := [tx goal]) ((same_upd npG) _ _ epE) upd_same (by show 1 ≤ 5000; decide), fun H16 s16 => ⟨_, rfl, iteF ?_⟩⟩
                have u16 := sm_trans u14 (sm_trans s15 (sm_trans (same_upd npG) s16))
                have S16 := S12.same u16
                have py16 := u16 _ _ py12
                have epR16 := u16 _ _ epR
                obtain ⟨gl, glt⟩ := rms_lets g goal hgoal
                obtain ⟨rol, rolt⟩ := rms_lets g room hroom
                have txl : (tx goal).length = l.length := by rw [tx_len, gl]
                refine ⟨_, rfl, _, rfl, by rw [txl, sizeLine_eq]; omega, ?_⟩
                rw [txl]
                refine ⟨_, rfl, by omega, by omega, ?_⟩
                rw [Int.toNat_natCast]
                refine for_it walk_range (fun i σ H' => ∃ (z12 z13 z14 : Option V), σ = [some (.ref a), some (.ref d), some (.str (tx l)), some (.ref bA), some (.ref rA), some (.ref x), some (.str (tx room)), some (.str (tx goal)), some (.ref pD), y9', some v10, some (.ref pR), z12, z13, z14, some (.int (cap : Nat)), none, some (.ref pA), some (.ref pK), none] ∧ Same H16 H') ⟨_, _, _, rfl, L2.Same.refl _⟩ (fun _ _ _ _ _ => trivial) ?_ ?_
                · rintro i v σ Hc Hd hi' ⟨z12, z13, z14, rfl, uc⟩ ⟨rfl, rfl⟩
                  have hil : i < l.length := hi'
                  have Sc := S16.same uc
                  have epRc := uc _ _ epR16
                  have Qlen : (hardT cap (picked Ps ks)).length ≤ 24 := hQ.len
                  have Tlen : (hardT cap (picked (Ps.map (shT l fo)) ks)).length ≤ 24 := by rw [← eT, List.length_map]; exact Qlen
                  -- the texts
                  refine ⟨_, rfl, pR, rfl, ⟨_, SqL.of epRc⟩, fun Dt nt => ?_⟩
                  have wkr := walk_list (K := K) (a := pR) (xs := ((hardT cap (picked Ps ks)).map tx).map V.str)
                  rw [List.length_map, List.length_map] at wkr
                  refine lc_it wkr (fun j H' => Same Hd H' ∧ H' Dt = some (.lst ((((hardT cap (picked Ps ks)).take j).map fun P => V.str (tx (shT l fo P)))))) ⟨same_upd nt, upd_same⟩ (fun j H' _ h => SqL.of (h.1 _ _ epRc)) ?_ ?_
                  · rintro j v Ge Gf hj ⟨ue, ee⟩ ⟨rfl, hv⟩
                    rw [List.getElem?_map, List.getElem?_map] at hv
                    obtain ⟨z1, hz1, rfl⟩ := Option.map_eq_some_iff.mp hv
                    obtain ⟨P0, hP0, rfl⟩ := Option.map_eq_some_iff.mp hz1
                    obtain ⟨pP, qq, hqq, hin⟩ := hQ.ok P0 (List.mem_of_getElem? hP0)
                    refine ⟨rfl, yes_i ⟨_, rfl, _, rfl, rA, l, bs, P0, rfl, g, SqL.of (Sc.same ue).S.rA, ?_, fun G' sg' => ?_⟩⟩
                    · have := pP.len
                      omega
                    · rw [lshut_is g ho.bar foI ho.ok pP.sd hqq hin]
                      refine ⟨_, sg' _ _ ee, ?_, sm_over (sm_trans ue sg') nt, ?_⟩
                      · rw [List.length_map, List.length_take, sizeLine_eq]
                        omega
                      · rw [upd_same, List.take_add_one, hP0, List.map_append]
                        rfl
                  rintro Ge ⟨ue, ee⟩
                  rw [List.take_of_length_le (Nat.le_refl _)] at ee
                  have eTx : ((hardT cap (picked Ps ks)).map fun P => V.str (tx (shT l fo P))) = ((hardT cap (picked (Ps.map (shT l fo)) ks)).map tx).map V.str := by
                    rw [← eT, List.map_map, List.map_map]
                    rfl
                  rw [eTx] at ee
                  have lst := sure.last i hil
                  have non := sure.none_ i hil
                  have tPt : ∀ T ∈ hardT cap (picked (Ps.map (shT l fo)) ks), Part l T := fun T hT => txs.1 T (picked_mem klt' (hardT_mem hT))
                  generalize hardT cap (picked (Ps.map (shT l fo)) ks) = TT at ee lst non tPt Tlen
                  obtain ⟨gi, gis, _⟩ := rm_side g hgoal hil
                  have tas : ∀ T ∈ TT, (∀ c ∈ T, c < 128) ∧ T.length ≤ 12 := fun T hT => ⟨fun c hc => sds_asc g ((tPt T hT).sd c hc), by have := (tPt T hT).len; omega⟩
                  have gat : atI (tx goal).cps.toList (0 + (i : Int)) = some (goal.getD i 0) := by
                    rw [tx_list, Int.zero_add]
                    refine atI_nat ?_
                    rw [List.getD_eq_getElem?_getD, List.getElem?_eq_getElem (by omega)]
                    rfl
                  have rat : atI (tx room).cps.toList (0 + (i : Int)) = some (room.getD i 0) := by
                    rw [tx_list, Int.zero_add]
                    refine atI_nat ?_
                    rw [List.getD_eq_getElem?_getD, List.getElem?_eq_getElem (by omega)]
                    rfl
                  have gle : (tx goal).length ≤ sizeLine := by rw [txl, sizeLine_eq]; omega
                  have rle : (tx room).length ≤ sizeLine := by rw [tx_len, rol, sizeLine_eq]; omega
                  -- those that write the wall
                  refine ⟨_, rfl, Dt, rfl, ⟨_, SqL.of ee⟩, fun Dw nw => ?_⟩
                  have wkt := walk_list (K := K) (a := Dt) (xs := (TT.map tx).map V.str)
                  rw [List.length_map, List.length_map] at wkt
                  refine lc_it wkt (fun j H' => Same Ge H' ∧ H' Dw = some (.lst ((((TT.take j).filter fun T => decide (l.getD i 0 ∈ low T)).map tx).map V.str))) ⟨same_upd nw, upd_same⟩ (fun j H' _ h => SqL.of (h.1 _ _ ee)) ?_ ?_
                  · rintro j v Gg Gh hj ⟨ug, eg⟩ ⟨rfl, hv⟩
                    rw [List.getElem?_map, List.getElem?_map] at hv
                    obtain ⟨z1, hz1, rfl⟩ := Option.map_eq_some_iff.mp hv
                    obtain ⟨T0, hT0, rfl⟩ := Option.map_eq_some_iff.mp hz1
                    obtain ⟨ta, tl12⟩ := tas T0 (List.mem_of_getElem? hT0)
                    have fl : ((TT.take j).filter fun T => decide (l.getD i 0 ∈ low T)).length ≤ 24 := Nat.le_trans (List.length_filter_le _ _) (by rw [List.length_take]; omega)
                    refine ⟨rfl, ?_⟩
                    refine ⟨_, rfl, _, rfl, tx goal, _, goal.getD i 0, rfl, rfl, gle, gat, ⟨_, rfl⟩, _, rfl, rfl, by show 1 ≤ 5592405; decide, ?_⟩
                    rw [low_sg gis.asc, gi]
                    refine ⟨_, rfl, ⟨_, rfl⟩, _, rfl, rfl, by rw [tx_len]; omega, ?_⟩
                    rw [lower_tx ta]
                    refine ⟨l.getD i 0, _, rfl, rfl, _, rfl, ?_⟩
                    rw [tx_list]
                    have tkT : TT.take (j + 1) = TT.take j ++ [T0] := by rw [List.take_add_one, hT0]; rfl
                    refine ite2 (fun t => ⟨_, rfl, _, eg, ?_, sm_over ug nw, ?_⟩) (fun t => ⟨ug, ?_⟩)
                    · rw [List.length_map, List.length_map, sizeLine_eq]
                      omega
                    · rw [upd_same, tkT, List.filter_append, List.filter_cons, if_pos (show decide (l.getD i 0 ∈ low T0) = true from t), List.map_append, List.map_append]
                      rfl
                    · rw [eg, tkT, List.filter_append, List.filter_cons, if_neg (show ¬ decide (l.getD i 0 ∈ low T0) = true from t)]
                      simp
                  rintro Gw ⟨uw, ew⟩
                  rw [List.take_of_length_le (Nat.le_refl _)] at ew
                  have fl : (TT.filter fun T => decide (l.getD i 0 ∈ low T)).length ≤ 24 := Nat.le_trans (List.length_filter_le _ _) Tlen
                  have fin : ∀ W ∈ (TT.filter fun T => decide (l.getD i 0 ∈ low T)), ∀ c ∈ W, c < 128 := fun W hW => (tas W (List.mem_filter.mp hW).1).1
                  generalize (TT.filter fun T => decide (l.getD i 0 ∈ low T)) = WW at lst non ew fl fin
                  refine ⟨_, rfl, Dw, _, rfl, SqL.of ew, fun pV nV => ?_⟩
                  have uV : Same Gw (upd Gw pV (.lst (((WW.map tx).map V.str).reverse))) := same_upd nV
                  refine ⟨_, rfl, _, _, rfl, rfl, _, rfl, pV, _, rfl, SqL.of upd_same, fun pS nS => ⟨pS, rfl, ⟨_, SqL.of upd_same⟩, fun Dy ny => ?_⟩⟩
                  have cz : (cap : Int) + 1 = ((cap + 1 : Nat) : Int) := by omega
                  rw [cz, cutV_first] at ny ⊢
                  have eS : (((WW.map tx).map V.str).reverse).take (cap + 1) = (((WW.reverse.take (cap + 1)).map tx).map V.str) := by
                    rw [List.map_take, List.map_take, List.map_reverse, List.map_reverse]
                  rw [eS] at ny ⊢
                  have lle : (WW.reverse.take (cap + 1)).length ≤ 24 := by rw [List.length_take, List.length_reverse]; omega
                  generalize WW.reverse.take (cap + 1) = LL at lst ny lle ⊢
                  have uS : Same Gw (upd (upd Gw pV (.lst (((WW.map tx).map V.str).reverse))) pS (.lst ((LL.map tx).map V.str))) := sm_upd uV nS
                  have eSS : (upd (upd Gw pV (.lst (((WW.map tx).map V.str).reverse))) pS (.lst ((LL.map tx).map V.str))) pS = some (.lst ((LL.map tx).map V.str)) := upd_same
                  generalize (upd (upd Gw pV (.lst (((WW.map tx).map V.str).reverse))) pS (.lst ((LL.map tx).map V.str))) = Gs at uS eSS ny ⊢
                  have wky := walk_list (K := K) (a := pS) (xs := (LL.map tx).map V.str)
                  rw [List.length_map, List.length_map] at wky
                  refine lc_it wky (fun j H' => Same Gs H' ∧ H' Dy = some (.lst ((List.replicate j false).map V.bl))) ⟨same_upd ny, upd_same⟩ (fun j H' _ h => SqL.of (h.1 _ _ eSS)) ?_ ?_
                  · rintro j v Gg Gh hj ⟨ug, eg⟩ ⟨rfl, hv⟩
                    rw [List.getElem?_map, List.getElem?_map] at hv
                    obtain ⟨z1, hz1, rfl⟩ := Option.map_eq_some_iff.mp hv
                    obtain ⟨T0, hT0, rfl⟩ := Option.map_eq_some_iff.mp hz1
                    refine ⟨rfl, yes_i ⟨_, rfl, _, rfl, tx goal, _, goal.getD i 0, rfl, rfl, gle, gat, _, rfl, _, _, rfl, rfl, _, eg, ?_, sm_over ug ny, ?_⟩⟩
                    · rw [List.length_map, List.length_replicate, sizeLine_eq]
                      omega
                    · rw [upd_same, tx_list, decide_eq_true (lst T0 (List.mem_of_getElem? hT0)), List.replicate_succ', List.map_append]
                      rfl
                  rintro Gz ⟨uz, ez⟩
                  refine ⟨Dy, _, rfl, SqL.of ez, ?_⟩
                  rw [show (List.replicate LL.length false).any id = false by simp]
                  refine ⟨_, rfl, iteF ?_⟩
                  have uZ : Same H16 Gz := sm_trans uc (sm_trans ue (sm_trans uw (sm_trans uS uz)))
                  have ewz := uz _ _ (uS _ _ ew)
                  refine ⟨_, rfl, Nat.zero_le _, fun pZ nZ => ?_⟩
                  have sZ := same_upd (o := .lst []) nZ
                  have okW : ∀ y ∈ WW.map tx, okS y := fun y hy => by
                    obtain ⟨W, hW, rfl⟩ := List.mem_map.mp hy
                    exact okS_tx (fin W hW)
                  refine ⟨_, _, .lst (SqL.of (sZ _ _ ewz)) (dpAll_strs _), .lst (xs := []) (SqL.of upd_same) (dpAll_strs (K := K) []), shaped_strs okW, shaped_strs (xs := []) (fun y hy => by cases hy), _, rfl, ?_⟩
                  rw [show PyData.eqv (.list ((WW.map tx).map .str)) (.list (([] : List Str).map .str)) = decide (WW.map tx = []) from eq_eqv _ []]
                  refine ite2 (fun t1 => ?_) (fun t1 => ⟨_, _, _, rfl, sm_trans uZ sZ⟩)
                  have w0 : WW = [] := List.map_eq_nil_iff.mp (of_decide_eq_true t1)
                  refine ⟨_, rfl, _, rfl, tx room, _, room.getD i 0, rfl, rfl, rle, rat, _, rfl, _, rfl, tx goal, _, goal.getD i 0, rfl, rfl, gle, gat, rfl, _, rfl, ?_⟩
                  refine ite2 (fun t2 => ?_) (fun _ => ⟨_, _, _, rfl, sm_trans uZ sZ⟩)
                  rw [non w0] at t2
                  exact absurd t2 (by simp)
                · rintro σ Hc ⟨z12, z13, z14, rfl, uc⟩
                  exact ⟨_, _, _, _, _, _, _, _, _, rfl, S16.same uc, uc _ _ py16⟩
          · rw [if_neg hag]
            intro H11 s11
            refine ⟨_, rfl, rfl, _, rfl, ?_⟩
            rw [dec_self]
            exact iteT ⟨_, _, _, _, _, _, _, _, _, rfl, S10.same s11, s11 _ _ epA10⟩
    · rintro σ Ha ⟨y8, y9, y10, y11, y12, y13, y14, y15, y18, rfl, Sa, epa⟩
      refine ⟨_, _, rfl, rfl, ⟨by decide, by decide, by decide⟩, _, rfl, _, _, rfl, rfl, ⟨by decide, by decide, by decide⟩, d, _, rfl, Sa.S.dr, by decide, by decide, fun Hb b sb2 Db b0 b1 => ⟨_, _, rfl, rfl, ?_⟩⟩
      have Sb := Sa.smd nrd nsd sb2 Db
      obtain ⟨m, hm, hm24⟩ : ∃ m : Nat, (10 ^ (39 : Int).toNat + b : Int) = (m : Int) ∧ 24 < m := by
        have h39 : (25 : Int) ≤ 10 ^ (39 : Int).toNat := by decide
        exact ⟨(10 ^ (39 : Int).toNat + b : Int).toNat, by omega, by omega⟩
      show gName 16 (V.int (10 ^ (39 : Int).toNat + b)) _ Hb _
      rw [hm]
      refine ⟨Sb.T, fun f3 G1 x1 t1 => ⟨rfl, ?_⟩⟩
      have Sx := Sb.ext x1 t1
      refine ⟨by show 1 ≤ sizeLine; decide, fun pL nL => ⟨_, rfl, ?_⟩⟩
      refine .inr ⟨pL, m, [.str "?"], rfl, .inl (SqL.of upd_same), by show 1 ≤ 1000; decide, by show 24 < 1 * (m + 1); omega, fun H' dd s' nd' e' => ech_t X XT.hf (fun G' p s3' np => ?_) H' dd s' e'⟩
      have S3x := ((Sx.same (same_upd nL)).same s3').same (same_upd (o := .tup [.str "toomany", .int 24]) np)
      refine ⟨by show 2 ≤ sizeLine; decide, fun p2 np2 => ?_⟩
      have S4x := S3x.same (same_upd (o := .tup [.str "toomany", .int 24]) np2)
      refine ⟨tmD, tmD, .tup (SqT.of ((same_upd np2) _ _ upd_same)) (.cons (.str _) (.cons (.int _) .nil)), .tup (SqT.of upd_same) (.cons (.str _) (.cons (.int _) .nil)), sh_tm, sh_tm, _, rfl, ?_⟩
      rw [ev_tm]
      refine iteF ?_
      generalize (upd (upd G' p (.tup [.str "toomany", .int 24])) p2 (.tup [.str "toomany", .int 24])) = G3 at S4x ⊢
      refine ⟨by show 2 ≤ sizeLine; decide, fun tA nA => ?_⟩
      refine ⟨rfl, rfl, tA, 1, [.str "?", .str ""], rfl, .inr (SqT.of upd_same), by decide, fun G4 p1 s4 np1 ep1 => ?_⟩
      refine ⟨Nat.zero_le _, fun pe ne => ⟨_, rfl, ?_⟩⟩
      refine ⟨pe, m, [], rfl, .inl (SqL.of upd_same), by show 0 * (m + 1) ≤ 24; omega, fun G5 p2' s5 np2' ep2 => ?_⟩
      refine ⟨by show 2 ≤ sizeLine; decide, fun pa na => ?_⟩
      refine ⟨by show 4 ≤ sizeLine; decide, fun pb nb => ?_⟩
      refine ⟨Nat.zero_le _, fun pc nc => ?_⟩
      refine ⟨by show 2 ≤ sizeLine; decide, fun pd nd' => ?_⟩
      have a1 : Same G5 _ := same_upd (o := .lst [.ref p1, .ref p2']) na
      have a2 := same_upd (o := .lst [.str "?", .str "?", .str "", .str ""]) nb
      have a3 := same_upd (o := .lst []) nc
      have a4 := same_upd (o := .lst [.ref pb, .ref pc]) nd'
      have e1 := s5 _ _ ((same_upd (o := .lst []) ne) _ _ ep1)
      refine ⟨_, _, rfl, .lst (xs := [.ref p1, .ref p2']) (ys := [.ref pb, .ref pc]) (a4 _ _ (a3 _ _ (a2 _ _ upd_same))) upd_same rfl (by show 2 ≤ 5000; decide) (fun i u v hu hv => ?_), fun G6 _ => q G6⟩
      match i, hu, hv with
      | 0, hu, hv =>
        cases hu
        cases hv
        refine .lst (xs := [.str "?", .str "?", .str "", .str ""]) (ys := [.str "?", .str "?", .str "", .str ""]) (a4 _ _ (a3 _ _ (a2 _ _ (a1 _ _ e1)))) (a4 _ _ (a3 _ _ upd_same)) rfl (by show 4 ≤ 5000; decide) (fun i u v hu hv => ?_)
        rw [hu] at hv
        cases hv
        match i, hu with
        | 0, hu => cases hu; exact .str _
        | 1, hu => cases hu; exact .str _
        | 2, hu => cases hu; exact .str _
        | 3, hu => cases hu; exact .str _
      | 1, hu, hv =>
        cases hu
        cases hv
        exact .lst (xs := []) (ys := []) (a4 _ _ (a3 _ _ (a2 _ _ (a1 _ _ ep2)))) (a4 _ _ upd_same) rfl (by show 0 ≤ 5000; decide) (fun i u v hu hv => by cases hu)
end
end NC
namespace NC
open PySem PySem.Spec PyProof.Rows L2
theorem exm_of {K : PySem.W.Frag} {R S : Addr} {b : Bool} (h1 : PySem.W.subIn K (.ref S) (.type "BaseException") = some true) (h2 : PySem.W.isClsIn K S = true) (h3 : PySem.W.typeIn K (.ref S) = some (.type "type")) (h4 : PySem.W.subIn K (.ref R) (.ref S) = some b) :
    PySem.W.exmOne K (.ref R) (.ref S) = some b := by
  have e1 : (PySem.W.subIn K (.ref S) (.type "BaseException") == some true) = true := by rw [h1] <;> rfl
  have e2 : ((PySem.W.clsIn K S).isSome && PySem.W.typeIn K (.ref S) == some (.type "type")) = true := by
    have h2' : (PySem.W.clsIn K S).isSome = true := h2
    rw [h2', h3] <;> rfl
  show (if (PySem.W.subIn K (.ref S) (.type "BaseException") == some true) = true then (if ((PySem.W.clsIn K S).isSome && PySem.W.typeIn K (.ref S) == some (.type "type")) = true then PySem.W.subIn K (.ref R) (.ref S) else none) else none) = some b
  rw [if_pos e1, if_pos e2]
  exact h4
theorem exmAny_of {K : PySem.W.Frag} {cls c : Value} {r : List Value} {a b : Bool} (h1 : PySem.W.exmOne K cls c = some a) (h2 : PySem.W.exmAny K cls r = some b) : PySem.W.exmAny K cls (c :: r) = some (a || b) := by
  unfold PySem.W.exmAny
  rw [h1, h2]
theorem kw_e {K : PySem.W.Frag} {fd : FuncData} (h : ∀ a b c d : Value, bindArgs fd ⟨[a, b, c], [("most", d)]⟩ = (pure ((["hall", "calls", "room", "most"] : List Str).zip [a, b, c, d]) : Sem (List (Str × Value)))) : KBn K fd ["hall", "calls", "room", "most"] 3 ["most"] gApp gApp where
  to := fun s us ws _ l1 l2 => match us, ws, l1, l2 with
    | [a, b, c], [d], _, _ => .of_eq (h a b c d)
  rel := fun r1 r2 => Vals.append r1 r2
theorem kw_s {K : PySem.W.Frag} {fd : FuncData} (h : ∀ a b c d e : Value, bindArgs fd ⟨[a, b, c, d], [("most", e)]⟩ = (pure ((["hall", "calls", "room", "goal", "most"] : List Str).zip [a, b, c, d, e]) : Sem (List (Str × Value)))) : KBn K fd ["hall", "calls", "room", "goal", "most"] 4 ["most"] gApp gApp where
  to := fun s us ws _ l1 l2 => match us, ws, l1, l2 with
    | [a, b, c, d], [e], _, _ => .of_eq (h a b c d e)
  rel := fun r1 r2 => Vals.append r1 r2
theorem kw_h {K : PySem.W.Frag} {fd : FuncData} (h : ∀ m c : Value, bindArgs fd ⟨[], [("many", m), ("calls", c)]⟩ = (pure ((["calls", "many"] : List Str).zip [c, m]) : Sem (List (Str × Value)))) : KBn K fd ["calls", "many"] 0 ["many", "calls"] gSw gSw where
  to := fun s us ws _ l1 l2 => match us, ws, l1, l2 with
    | [], [a, b], _, _ => .of_eq (h a b)
  rel := fun {vs us zs ws} _ r => match r with
    | .cons r1 (.cons r2 .nil) => .cons r2 (.cons r1 .nil)
    | .nil => .nil
    | .cons _ .nil => .nil
    | .cons _ (.cons _ (.cons _ _)) => .nil
set_option maxHeartbeats 4000000 in
theorem all_mk {l : PySem.W.OpenLaw} {w : World} {K : PySem.W.Frag} {h : Heap} {mg : Str → Option Value} {fa : Addr} {PT : Addr} (X : K.In h) (G : h.Ns mainGlobals mg) (hfa : mg "law" = some (.ref fa)) (hPT : h.get? PT = some { cls := .none, data := .fields #[] }) (nPT : K.lookup PT = none)
    {f_O : Addr} {oc_O kV_O dc_O pm_O cd_O ct_O : Value} {od_O an_O : Option Addr} {sl_O : Array (Option Value)}
    {f_S : Addr} {oc_S kV_S dc_S pm_S cd_S ct_S : Value} {od_S an_S : Option Addr} {sl_S : Array (Option Value)}
    {f_Y : Addr} {oc_Y kV_Y dc_Y pm_Y cd_Y ct_Y : Value} {od_Y an_Y : Option Addr} {sl_Y : Array (Option Value)}
    {f_W : Addr} {oc_W kV_W dc_W pm_W cd_W ct_W : Value} {od_W an_W : Option Addr} {sl_W : Array (Option Value)}
    {f_I : Addr} {oc_I kV_I dc_I pm_I cd_I ct_I : Value} {od_I an_I : Option Addr} {sl_I : Array (Option Value)}
    {f_cw : Addr} {oc_cw kV_cw dc_cw pm_cw cd_cw ct_cw : Value} {od_cw an_cw : Option Addr} {sl_cw : Array (Option Value)}
    {f_cb : Addr} {oc_cb kV_cb dc_cb pm_cb cd_cb ct_cb : Value} {od_cb an_cb : Option Addr} {sl_cb : Array (Option Value)}
    {f_cs : Addr} {oc_cs kV_cs dc_cs pm_cs cd_cs ct_cs : Value} {od_cs an_cs : Option Addr} {sl_cs : Array (Option Value)}
    {f_st : Addr} {oc_st kV_st dc_st pm_st cd_st ct_st : Value} {od_st an_st : Option Addr} {sl_st : Array (Option Value)}
    {f_re : Addr} {oc_re kV_re dc_re pm_re cd_re ct_re : Value} {od_re an_re : Option Addr} {sl_re : Array (Option Value)}
    {f_af : Addr} {oc_af kV_af dc_af pm_af cd_af ct_af : Value} {od_af an_af : Option Addr} {sl_af : Array (Option Value)}
    {f_cf : Addr} {oc_cf kV_cf dc_cf pm_cf cd_cf ct_cf : Value} {od_cf an_cf : Option Addr} {sl_cf : Array (Option Value)}
    {f_ca : Addr} {oc_ca kV_ca dc_ca pm_ca cd_ca ct_ca : Value} {od_ca an_ca : Option Addr} {sl_ca : Array (Option Value)}
    {f_same : Addr} {oc_same kV_same dc_same pm_same cd_same ct_same : Value} {od_same an_same : Option Addr} {sl_same : Array (Option Value)}
    {f_start : Addr} {oc_start kV_start dc_start pm_start cd_start ct_start : Value} {od_start an_start : Option Addr} {sl_start : Array (Option Value)}
    {f_draw : Addr} {oc_draw kV_draw dc_draw pm_draw cd_draw ct_draw : Value} {od_draw an_draw : Option Addr} {sl_draw : Array (Option Value)}
    {f_of : Addr} {oc_of kV_of dc_of pm_of cd_of ct_of : Value} {od_of an_of : Option Addr} {sl_of : Array (Option Value)}
    {f_letters : Addr} {oc_letters kV_letters dc_letters pm_letters cd_letters ct_letters : Value} {od_letters an_letters : Option Addr} {sl_letters : Array (Option Value)}
    {f_shuts : Addr} {oc_shuts kV_shuts dc_shuts pm_shuts cd_shuts ct_shuts : Value} {od_shuts an_shuts : Option Addr} {sl_shuts : Array (Option Value)}
    {f_oth : Addr} {oc_oth kV_oth dc_oth pm_oth cd_oth ct_oth : Value} {od_oth an_oth : Option Addr} {sl_oth : Array (Option Value)}
    {f_wit : Addr} {oc_wit kV_wit dc_wit pm_wit cd_wit ct_wit : Value} {od_wit an_wit : Option Addr} {sl_wit : Array (Option Value)}
    {f_pairs : Addr} {oc_pairs kV_pairs dc_pairs pm_pairs cd_pairs ct_pairs : Value} {od_pairs an_pairs : Option Addr} {sl_pairs : Array (Option Value)}
    {f_all : Addr} {oc_all kV_all dc_all pm_all cd_all ct_all : Value} {od_all an_all : Option Addr} {sl_all : Array (Option Value)}
    {f_rms : Addr} {oc_rms kV_rms dc_rms pm_rms cd_rms ct_rms : Value} {od_rms an_rms : Option Addr} {sl_rms : Array (Option Value)}
    {f_fine : Addr} {oc_fine kV_fine dc_fine pm_fine cd_fine ct_fine : Value} {od_fine an_fine : Option Addr} {sl_fine : Array (Option Value)}
    {f_hall : Addr} {oc_hall kV_hall dc_hall pm_hall cd_hall ct_hall : Value} {od_hall an_hall : Option Addr} {sl_hall : Array (Option Value)}
    {f_lsi : Addr} {oc_lsi kV_lsi dc_lsi pm_lsi cd_lsi ct_lsi : Value} {od_lsi an_lsi : Option Addr} {sl_lsi : Array (Option Value)}
    {f_lpa : Addr} {oc_lpa kV_lpa dc_lpa pm_lpa cd_lpa ct_lpa : Value} {od_lpa an_lpa : Option Addr} {sl_lpa : Array (Option Value)}
    {f_lsh : Addr} {oc_lsh kV_lsh dc_lsh pm_lsh cd_lsh ct_lsh : Value} {od_lsh an_lsh : Option Addr} {sl_lsh : Array (Option Value)}
    {f_cal : Addr} {oc_cal kV_cal dc_cal pm_cal cd_cal ct_cal : Value} {od_cal an_cal : Option Addr} {sl_cal : Array (Option Value)}
    {f_told : Addr} {oc_told kV_told dc_told pm_told cd_told ct_told : Value} {od_told an_told : Option Addr} {sl_told : Array (Option Value)}
    {f_hd : Addr} {oc_hd kV_hd dc_hd pm_hd cd_hd ct_hd : Value} {od_hd an_hd : Option Addr} {sl_hd : Array (Option Value)}
    {f_st_ : Addr} {oc_st_ kV_st_ dc_st_ pm_st_ cd_st_ ct_st_ : Value} {od_st_ an_st_ : Option Addr} {sl_st_ : Array (Option Value)}
    {f_isP : Addr} {oc_isP kV_isP dc_isP pm_isP cd_isP ct_isP : Value} {od_isP an_isP : Option Addr} {sl_isP : Array (Option Value)}
    {f_chP : Addr} {oc_chP kV_chP dc_chP pm_chP cd_chP ct_chP : Value} {od_chP an_chP : Option Addr} {sl_chP : Array (Option Value)}
    {f_afb : Addr} {oc_afb kV_afb dc_afb pm_afb cd_afb ct_afb : Value} {od_afb an_afb : Option Addr} {sl_afb : Array (Option Value)}
    {f_to : Addr} {oc_to kV_to dc_to pm_to cd_to ct_to : Value} {od_to an_to : Option Addr} {sl_to : Array (Option Value)}
    {f_sh : Addr} {oc_sh kV_sh dc_sh pm_sh cd_sh ct_sh : Value} {od_sh an_sh : Option Addr} {sl_sh : Array (Option Value)}
    {f_sc : Addr} {oc_sc kV_sc dc_sc pm_sc cd_sc ct_sc : Value} {od_sc an_sc : Option Addr} {sl_sc : Array (Option Value)}
    {f_str : Addr} {oc_str kV_str dc_str pm_str cd_str ct_str : Value} {od_str an_str : Option Addr} {sl_str : Array (Option Value)}
    {f_goo : Addr} {oc_goo kV_goo dc_goo pm_goo cd_goo ct_goo : Value} {od_goo an_goo : Option Addr} {sl_goo : Array (Option Value)}
    {f_alb : Addr} {oc_alb kV_alb dc_alb pm_alb cd_alb ct_alb : Value} {od_alb an_alb : Option Addr} {sl_alb : Array (Option Value)}
    {f_nxb : Addr} {oc_nxb kV_nxb dc_nxb pm_nxb cd_nxb ct_nxb : Value} {od_nxb an_nxb : Option Addr} {sl_nxb : Array (Option Value)}
    {f_tkb : Addr} {oc_tkb kV_tkb dc_tkb pm_tkb cd_tkb ct_tkb : Value} {od_tkb an_tkb : Option Addr} {sl_tkb : Array (Option Value)}
    {f_tka : Addr} {oc_tka kV_tka dc_tka pm_tka cd_tka ct_tka : Value} {od_tka an_tka : Option Addr} {sl_tka : Array (Option Value)}
    {f_chk : Addr} {oc_chk kV_chk dc_chk pm_chk cd_chk ct_chk : Value} {od_chk an_chk : Option Addr} {sl_chk : Array (Option Value)}
    {f_wo : Addr} {oc_wo kV_wo dc_wo pm_wo cd_wo ct_wo : Value} {od_wo an_wo : Option Addr} {sl_wo : Array (Option Value)}
    {f_lm : Addr} {oc_lm kV_lm dc_lm pm_lm cd_lm ct_lm : Value} {od_lm an_lm : Option Addr} {sl_lm : Array (Option Value)}
    {f_rw : Addr} {oc_rw kV_rw dc_rw pm_rw cd_rw ct_rw : Value} {od_rw an_rw : Option Addr} {sl_rw : Array (Option Value)}
    {f_ew : Addr} {oc_ew kV_ew dc_ew pm_ew cd_ew ct_ew : Value} {od_ew an_ew : Option Addr} {sl_ew : Array (Option Value)}
    {f_su : Addr} {oc_su kV_su dc_su pm_su cd_su ct_su : Value} {od_su an_su : Option Addr} {sl_su : Array (Option Value)}
    {CH : Addr}
    {CB : Addr}
    {CF : Addr}
    {CA : Addr}
    {CTm : Addr}
    {nm_CB q_CB : Str} {N_CB : Addr} {bs_CB bm_CB sub_CB : List Value} {sn_CB : List Str} {ab_CB : Bool} {col_CB : Option Bool} {dd_CB : Option Addr} {m0_CB m1_CB m2_CB m3_CB m5_CB : Option Value}
    {nm_CF q_CF : Str} {N_CF : Addr} {bs_CF bm_CF sub_CF : List Value} {sn_CF : List Str} {ab_CF : Bool} {col_CF : Option Bool} {dd_CF : Option Addr} {m0_CF m1_CF m2_CF m3_CF m5_CF : Option Value}
    {nm_CA q_CA : Str} {N_CA : Addr} {bs_CA bm_CA sub_CA : List Value} {sn_CA : List Str} {ab_CA : Bool} {col_CA : Option Bool} {dd_CA : Option Addr} {m0_CA m1_CA m2_CA m3_CA m5_CA : Option Value}
    {nm_CTm q_CTm : Str} {N_CTm : Addr} {bs_CTm bm_CTm sub_CTm : List Value} {sn_CTm : List Str} {ab_CTm : Bool} {col_CTm : Option Bool} {dd_CTm : Option Addr} {m0_CTm m1_CTm m2_CTm m3_CTm m5_CTm : Option Value}
    {f_iH : Addr} {oc_iH kV_iH dc_iH pm_iH cd_iH ct_iH : Value} {od_iH an_iH : Option Addr} {sl_iH : Array (Option Value)}
    {f_iB : Addr} {oc_iB kV_iB dc_iB pm_iB cd_iB ct_iB : Value} {od_iB an_iB : Option Addr} {sl_iB : Array (Option Value)}
    {f_iF : Addr} {oc_iF kV_iF dc_iF pm_iF cd_iF ct_iF : Value} {od_iF an_iF : Option Addr} {sl_iF : Array (Option Value)}
    {f_iA : Addr} {oc_iA kV_iA dc_iA pm_iA cd_iA ct_iA : Value} {od_iA an_iA : Option Addr} {sl_iA : Array (Option Value)}
    {f_iTm : Addr} {oc_iTm kV_iTm dc_iTm pm_iTm cd_iTm ct_iTm : Value} {od_iTm an_iTm : Option Addr} {sl_iTm : Array (Option Value)}
    {T_hi e_hi : Addr} {oc_T : Value} {od_T : Option Addr} {n_T : Nat} {sl_T : Array (Option Value)}
    {C : Addr}
    {f_hb : Addr} {oc_hb kV_hb dc_hb pm_hb cd_hb ct_hb : Value} {od_hb an_hb : Option Addr} {sl_hb : Array (Option Value)}
    {f_hm : Addr} {oc_hm kV_hm dc_hm pm_hm cd_hm ct_hm : Value} {od_hm an_hm : Option Addr} {sl_hm : Array (Option Value)}
    {f_hr : Addr} {oc_hr kV_hr dc_hr pm_hr cd_hr ct_hr : Value} {od_hr an_hr : Option Addr} {sl_hr : Array (Option Value)}
    {f_hg : Addr} {oc_hg kV_hg dc_hg pm_hg cd_hg ct_hg : Value} {od_hg an_hg : Option Addr} {sl_hg : Array (Option Value)}
    {f_hwl : Addr} {oc_hwl kV_hwl dc_hwl pm_hwl cd_hwl ct_hwl : Value} {od_hwl an_hwl : Option Addr} {sl_hwl : Array (Option Value)}
    {f_hfo : Addr} {oc_hfo kV_hfo dc_hfo pm_hfo cd_hfo ct_hfo : Value} {od_hfo an_hfo : Option Addr} {sl_hfo : Array (Option Value)}
    {f_hi : Addr} {oc_hi kV_hi dc_hi pm_hi cd_hi ct_hi : Value} {od_hi an_hi : Option Addr} {sl_hi : Array (Option Value)}
    {tw : Tok}
    {td : Tok}
    {tc : Tok}
    {c : Addr} {fL : Addr} {ocL kVL dcL pmL ctL : Value} {odL anL : Option Addr} {slL : Array (Option Value)}
    (a_O : PySem.W.nsIn K mainGlobals "other" = some (some (.ref f_O)))
    (l_O : K.lookup f_O = some ⟨oc_O, od_O, .func (PySem.W.fnOf "other" "other" (defArgs sOther) (defBody sOther) (defScope sOther) .none kV_O dc_O pm_O an_O cd_O ct_O), sl_O⟩)
    (c_O : PySem.W.codeIn K cd_O "other" = true)
    (k_O : PySem.W.keepIn K (.ref f_O) = true)
    (a_S : PySem.W.nsIn K mainGlobals "sides_of" = some (some (.ref f_S)))
    (l_S : K.lookup f_S = some ⟨oc_S, od_S, .func (PySem.W.fnOf "sides_of" "sides_of" (defArgs sSides) (defBody sSides) (defScope sSides) .none kV_S dc_S pm_S an_S cd_S ct_S), sl_S⟩)
    (c_S : PySem.W.codeIn K cd_S "sides_of" = true)
    (k_S : PySem.W.keepIn K (.ref f_S) = true)
    (a_Y : PySem.W.nsIn K mainGlobals "by_walls" = some (some (.ref f_Y)))
    (l_Y : K.lookup f_Y = some ⟨oc_Y, od_Y, .func (PySem.W.fnOf "by_walls" "by_walls" (defArgs sByWalls) (defBody sByWalls) (defScope sByWalls) .none kV_Y dc_Y pm_Y an_Y cd_Y ct_Y), sl_Y⟩)
    (c_Y : PySem.W.codeIn K cd_Y "by_walls" = true)
    (k_Y : PySem.W.keepIn K (.ref f_Y) = true)
    (a_W : PySem.W.nsIn K mainGlobals "is_walls" = some (some (.ref f_W)))
    (l_W : K.lookup f_W = some ⟨oc_W, od_W, .func (PySem.W.fnOf "is_walls" "is_walls" (defArgs sIsWalls) (defBody sIsWalls) (defScope sIsWalls) .none kV_W dc_W pm_W an_W cd_W ct_W), sl_W⟩)
    (c_W : PySem.W.codeIn K cd_W "is_walls" = true)
    (k_W : PySem.W.keepIn K (.ref f_W) = true)
    (a_I : PySem.W.nsIn K mainGlobals "is_bar" = some (some (.ref f_I)))
    (l_I : K.lookup f_I = some ⟨oc_I, od_I, .func (PySem.W.fnOf "is_bar" "is_bar" (defArgs sIsBar) (defBody sIsBar) (defScope sIsBar) .none kV_I dc_I pm_I an_I cd_I ct_I), sl_I⟩)
    (c_I : PySem.W.codeIn K cd_I "is_bar" = true)
    (k_I : PySem.W.keepIn K (.ref f_I) = true)
    (a_cw : PySem.W.nsIn K mainGlobals "check_walls" = some (some (.ref f_cw)))
    (l_cw : K.lookup f_cw = some ⟨oc_cw, od_cw, .func (PySem.W.fnOf "check_walls" "check_walls" (defArgs sChkWalls) (defBody sChkWalls) (defScope sChkWalls) .none kV_cw dc_cw pm_cw an_cw cd_cw ct_cw), sl_cw⟩)
    (c_cw : PySem.W.codeIn K cd_cw "check_walls" = true)
    (k_cw : PySem.W.keepIn K (.ref f_cw) = true)
    (a_cb : PySem.W.nsIn K mainGlobals "check_bars" = some (some (.ref f_cb)))
    (l_cb : K.lookup f_cb = some ⟨oc_cb, od_cb, .func (PySem.W.fnOf "check_bars" "check_bars" (defArgs sChkBars) (defBody sChkBars) (defScope sChkBars) .none kV_cb dc_cb pm_cb an_cb cd_cb ct_cb), sl_cb⟩)
    (c_cb : PySem.W.codeIn K cd_cb "check_bars" = true)
    (k_cb : PySem.W.keepIn K (.ref f_cb) = true)
    (a_cs : PySem.W.nsIn K mainGlobals "check_side" = some (some (.ref f_cs)))
    (l_cs : K.lookup f_cs = some ⟨oc_cs, od_cs, .func (PySem.W.fnOf "check_side" "check_side" (defArgs sChkSide) (defBody sChkSide) (defScope sChkSide) .none kV_cs dc_cs pm_cs an_cs cd_cs ct_cs), sl_cs⟩)
    (c_cs : PySem.W.codeIn K cd_cs "check_side" = true)
    (k_cs : PySem.W.keepIn K (.ref f_cs) = true)
    (a_st : PySem.W.nsIn K mainGlobals "straight_from" = some (some (.ref f_st)))
    (l_st : K.lookup f_st = some ⟨oc_st, od_st, .func (PySem.W.fnOf "straight_from" "straight_from" (defArgs sStraight) (defBody sStraight) (defScope sStraight) .none kV_st dc_st pm_st an_st cd_st ct_st), sl_st⟩)
    (c_st : PySem.W.codeIn K cd_st "straight_from" = true)
    (k_st : PySem.W.keepIn K (.ref f_st) = true)
    (a_re : PySem.W.nsIn K mainGlobals "reached" = some (some (.ref f_re)))
    (l_re : K.lookup f_re = some ⟨oc_re, od_re, .func (PySem.W.fnOf "reached" "reached" (defArgs sReached) (defBody sReached) (defScope sReached) .none kV_re dc_re pm_re an_re cd_re ct_re), sl_re⟩)
    (c_re : PySem.W.codeIn K cd_re "reached" = true)
    (k_re : PySem.W.keepIn K (.ref f_re) = true)
    (a_af : PySem.W.nsIn K mainGlobals "all_forced" = some (some (.ref f_af)))
    (l_af : K.lookup f_af = some ⟨oc_af, od_af, .func (PySem.W.fnOf "all_forced" "all_forced" (defArgs sAllF) (defBody sAllF) (defScope sAllF) .none kV_af dc_af pm_af an_af cd_af ct_af), sl_af⟩)
    (c_af : PySem.W.codeIn K cd_af "all_forced" = true)
    (k_af : PySem.W.keepIn K (.ref f_af) = true)
    (a_cf : PySem.W.nsIn K mainGlobals "check_fixed" = some (some (.ref f_cf)))
    (l_cf : K.lookup f_cf = some ⟨oc_cf, od_cf, .func (PySem.W.fnOf "check_fixed" "check_fixed" (defArgs sChkFix) (defBody sChkFix) (defScope sChkFix) .none kV_cf dc_cf pm_cf an_cf cd_cf ct_cf), sl_cf⟩)
    (c_cf : PySem.W.codeIn K cd_cf "check_fixed" = true)
    (k_cf : PySem.W.keepIn K (.ref f_cf) = true)
    (a_ca : PySem.W.nsIn K mainGlobals "check_alike" = some (some (.ref f_ca)))
    (l_ca : K.lookup f_ca = some ⟨oc_ca, od_ca, .func (PySem.W.fnOf "check_alike" "check_alike" (defArgs sChkAl) (defBody sChkAl) (defScope sChkAl) .none kV_ca dc_ca pm_ca an_ca cd_ca ct_ca), sl_ca⟩)
    (c_ca : PySem.W.codeIn K cd_ca "check_alike" = true)
    (k_ca : PySem.W.keepIn K (.ref f_ca) = true)
    (a_same : PySem.W.nsIn K mainGlobals "_law_same" = some (some (.ref f_same)))
    (l_same : K.lookup f_same = some ⟨oc_same, od_same, .func (PySem.W.fnOf "_law_same" "_law_same" (defArgs sSame) (defBody sSame) (defScope sSame) .none kV_same dc_same pm_same an_same cd_same ct_same), sl_same⟩)
    (c_same : PySem.W.codeIn K cd_same "_law_same" = true)
    (k_same : PySem.W.keepIn K (.ref f_same) = true)
    (a_start : PySem.W.nsIn K mainGlobals "_law_start" = some (some (.ref f_start)))
    (l_start : K.lookup f_start = some ⟨oc_start, od_start, .func (PySem.W.fnOf "_law_start" "_law_start" (defArgs sStart) (defBody sStart) (defScope sStart) .none kV_start dc_start pm_start an_start cd_start ct_start), sl_start⟩)
    (c_start : PySem.W.codeIn K cd_start "_law_start" = true)
    (k_start : PySem.W.keepIn K (.ref f_start) = true)
    (a_draw : PySem.W.nsIn K mainGlobals "_law_draw" = some (some (.ref f_draw)))
    (l_draw : K.lookup f_draw = some ⟨oc_draw, od_draw, .func (PySem.W.fnOf "_law_draw" "_law_draw" (defArgs sDraw) (defBody sDraw) (defScope sDraw) .none kV_draw dc_draw pm_draw an_draw cd_draw ct_draw), sl_draw⟩)
    (c_draw : PySem.W.codeIn K cd_draw "_law_draw" = true)
    (k_draw : PySem.W.keepIn K (.ref f_draw) = true)
    (a_of : PySem.W.nsIn K mainGlobals "_law_of" = some (some (.ref f_of)))
    (l_of : K.lookup f_of = some ⟨oc_of, od_of, .func (PySem.W.fnOf "_law_of" "_law_of" (defArgs sOf) (defBody sOf) (defScope sOf) .none kV_of dc_of pm_of an_of cd_of ct_of), sl_of⟩)
    (c_of : PySem.W.codeIn K cd_of "_law_of" = true)
    (k_of : PySem.W.keepIn K (.ref f_of) = true)
    (a_letters : PySem.W.nsIn K mainGlobals "_law_letters" = some (some (.ref f_letters)))
    (l_letters : K.lookup f_letters = some ⟨oc_letters, od_letters, .func (PySem.W.fnOf "_law_letters" "_law_letters" (defArgs sLetters) (defBody sLetters) (defScope sLetters) .none kV_letters dc_letters pm_letters an_letters cd_letters ct_letters), sl_letters⟩)
    (c_letters : PySem.W.codeIn K cd_letters "_law_letters" = true)
    (k_letters : PySem.W.keepIn K (.ref f_letters) = true)
    (a_shuts : PySem.W.nsIn K mainGlobals "_law_shuts" = some (some (.ref f_shuts)))
    (l_shuts : K.lookup f_shuts = some ⟨oc_shuts, od_shuts, .func (PySem.W.fnOf "_law_shuts" "_law_shuts" (defArgs sShuts) (defBody sShuts) (defScope sShuts) .none kV_shuts dc_shuts pm_shuts an_shuts cd_shuts ct_shuts), sl_shuts⟩)
    (c_shuts : PySem.W.codeIn K cd_shuts "_law_shuts" = true)
    (k_shuts : PySem.W.keepIn K (.ref f_shuts) = true)
    (a_oth : PySem.W.nsIn K mainGlobals "_law_other" = some (some (.ref f_oth)))
    (l_oth : K.lookup f_oth = some ⟨oc_oth, od_oth, .func (PySem.W.fnOf "_law_other" "_law_other" (defArgs sOth) (defBody sOth) (defScope sOth) .none kV_oth dc_oth pm_oth an_oth cd_oth ct_oth), sl_oth⟩)
    (c_oth : PySem.W.codeIn K cd_oth "_law_other" = true)
    (k_oth : PySem.W.keepIn K (.ref f_oth) = true)
    (a_wit : PySem.W.nsIn K mainGlobals "_law_within" = some (some (.ref f_wit)))
    (l_wit : K.lookup f_wit = some ⟨oc_wit, od_wit, .func (PySem.W.fnOf "_law_within" "_law_within" (defArgs sWithin) (defBody sWithin) (defScope sWithin) .none kV_wit dc_wit pm_wit an_wit cd_wit ct_wit), sl_wit⟩)
    (c_wit : PySem.W.codeIn K cd_wit "_law_within" = true)
    (k_wit : PySem.W.keepIn K (.ref f_wit) = true)
    (a_pairs : PySem.W.nsIn K mainGlobals "_law_pairs" = some (some (.ref f_pairs)))
    (l_pairs : K.lookup f_pairs = some ⟨oc_pairs, od_pairs, .func (PySem.W.fnOf "_law_pairs" "_law_pairs" (defArgs sPairs) (defBody sPairs) (defScope sPairs) .none kV_pairs dc_pairs pm_pairs an_pairs cd_pairs ct_pairs), sl_pairs⟩)
    (c_pairs : PySem.W.codeIn K cd_pairs "_law_pairs" = true)
    (k_pairs : PySem.W.keepIn K (.ref f_pairs) = true)
    (a_all : PySem.W.nsIn K mainGlobals "_law_all" = some (some (.ref f_all)))
    (l_all : K.lookup f_all = some ⟨oc_all, od_all, .func (PySem.W.fnOf "_law_all" "_law_all" (defArgs sAll) (defBody sAll) (defScope sAll) .none kV_all dc_all pm_all an_all cd_all ct_all), sl_all⟩)
    (c_all : PySem.W.codeIn K cd_all "_law_all" = true)
    (k_all : PySem.W.keepIn K (.ref f_all) = true)
    (a_rms : PySem.W.nsIn K mainGlobals "_law_rooms" = some (some (.ref f_rms)))
    (l_rms : K.lookup f_rms = some ⟨oc_rms, od_rms, .func (PySem.W.fnOf "_law_rooms" "_law_rooms" (defArgs sRooms) (defBody sRooms) (defScope sRooms) .none kV_rms dc_rms pm_rms an_rms cd_rms ct_rms), sl_rms⟩)
    (c_rms : PySem.W.codeIn K cd_rms "_law_rooms" = true)
    (k_rms : PySem.W.keepIn K (.ref f_rms) = true)
    (a_fine : PySem.W.nsIn K mainGlobals "_law_fine" = some (some (.ref f_fine)))
    (l_fine : K.lookup f_fine = some ⟨oc_fine, od_fine, .func (PySem.W.fnOf "_law_fine" "_law_fine" (defArgs sFine) (defBody sFine) (defScope sFine) .none kV_fine dc_fine pm_fine an_fine cd_fine ct_fine), sl_fine⟩)
    (c_fine : PySem.W.codeIn K cd_fine "_law_fine" = true)
    (k_fine : PySem.W.keepIn K (.ref f_fine) = true)
    (a_hall : PySem.W.nsIn K mainGlobals "_law_hall" = some (some (.ref f_hall)))
    (l_hall : K.lookup f_hall = some ⟨oc_hall, od_hall, .func (PySem.W.fnOf "_law_hall" "_law_hall" (defArgs sHall) (defBody sHall) (defScope sHall) .none kV_hall dc_hall pm_hall an_hall cd_hall ct_hall), sl_hall⟩)
    (c_hall : PySem.W.codeIn K cd_hall "_law_hall" = true)
    (k_hall : PySem.W.keepIn K (.ref f_hall) = true)
    (a_lsi : PySem.W.nsIn K mainGlobals "_law_sides" = some (some (.ref f_lsi)))
    (l_lsi : K.lookup f_lsi = some ⟨oc_lsi, od_lsi, .func (PySem.W.fnOf "_law_sides" "_law_sides" (defArgs sLSides) (defBody sLSides) (defScope sLSides) .none kV_lsi dc_lsi pm_lsi an_lsi cd_lsi ct_lsi), sl_lsi⟩)
    (c_lsi : PySem.W.codeIn K cd_lsi "_law_sides" = true)
    (k_lsi : PySem.W.keepIn K (.ref f_lsi) = true)
    (a_lpa : PySem.W.nsIn K mainGlobals "_law_part" = some (some (.ref f_lpa)))
    (l_lpa : K.lookup f_lpa = some ⟨oc_lpa, od_lpa, .func (PySem.W.fnOf "_law_part" "_law_part" (defArgs sLPart) (defBody sLPart) (defScope sLPart) .none kV_lpa dc_lpa pm_lpa an_lpa cd_lpa ct_lpa), sl_lpa⟩)
    (c_lpa : PySem.W.codeIn K cd_lpa "_law_part" = true)
    (k_lpa : PySem.W.keepIn K (.ref f_lpa) = true)
    (a_lsh : PySem.W.nsIn K mainGlobals "_law_shut" = some (some (.ref f_lsh)))
    (l_lsh : K.lookup f_lsh = some ⟨oc_lsh, od_lsh, .func (PySem.W.fnOf "_law_shut" "_law_shut" (defArgs sLShut) (defBody sLShut) (defScope sLShut) .none kV_lsh dc_lsh pm_lsh an_lsh cd_lsh ct_lsh), sl_lsh⟩)
    (c_lsh : PySem.W.codeIn K cd_lsh "_law_shut" = true)
    (k_lsh : PySem.W.keepIn K (.ref f_lsh) = true)
    (a_cal : PySem.W.nsIn K mainGlobals "_law_calls" = some (some (.ref f_cal)))
    (l_cal : K.lookup f_cal = some ⟨oc_cal, od_cal, .func (PySem.W.fnOf "_law_calls" "_law_calls" (defArgs sLCalls) (defBody sLCalls) (defScope sLCalls) .none kV_cal dc_cal pm_cal an_cal cd_cal ct_cal), sl_cal⟩)
    (c_cal : PySem.W.codeIn K cd_cal "_law_calls" = true)
    (k_cal : PySem.W.keepIn K (.ref f_cal) = true)
    (a_told : PySem.W.nsIn K mainGlobals "_law_told" = some (some (.ref f_told)))
    (l_told : K.lookup f_told = some ⟨oc_told, od_told, .func (PySem.W.fnOf "_law_told" "_law_told" (defArgs sTold) (defBody sTold) (defScope sTold) .none kV_told dc_told pm_told an_told cd_told ct_told), sl_told⟩)
    (c_told : PySem.W.codeIn K cd_told "_law_told" = true)
    (k_told : PySem.W.keepIn K (.ref f_told) = true)
    (a_hd : PySem.W.nsIn K mainGlobals "hardened" = some (some (.ref f_hd)))
    (l_hd : K.lookup f_hd = some ⟨oc_hd, od_hd, .func (PySem.W.fnOf "hardened" "hardened" (defArgs sHarden) (defBody sHarden) (defScope sHarden) .none kV_hd dc_hd pm_hd an_hd cd_hd ct_hd), sl_hd⟩)
    (c_hd : PySem.W.codeIn K cd_hd "hardened" = true)
    (k_hd : PySem.W.keepIn K (.ref f_hd) = true)
    (a_st_ : PySem.W.nsIn K mainGlobals "steer" = some (some (.ref f_st_)))
    (l_st_ : K.lookup f_st_ = some ⟨oc_st_, od_st_, .func (PySem.W.fnOf "steer" "steer" (defArgs sSteer) (defBody sSteer) (defScope sSteer) .none kV_st_ dc_st_ pm_st_ an_st_ cd_st_ ct_st_), sl_st_⟩)
    (c_st_ : PySem.W.codeIn K cd_st_ "steer" = true)
    (k_st_ : PySem.W.keepIn K (.ref f_st_) = true)
    (a_isP : PySem.W.nsIn K mainGlobals "is_part" = some (some (.ref f_isP)))
    (l_isP : K.lookup f_isP = some ⟨oc_isP, od_isP, .func (PySem.W.fnOf "is_part" "is_part" (defArgs sIsPart) (defBody sIsPart) (defScope sIsPart) .none kV_isP dc_isP pm_isP an_isP cd_isP ct_isP), sl_isP⟩)
    (c_isP : PySem.W.codeIn K cd_isP "is_part" = true)
    (k_isP : PySem.W.keepIn K (.ref f_isP) = true)
    (a_chP : PySem.W.nsIn K mainGlobals "check_part" = some (some (.ref f_chP)))
    (l_chP : K.lookup f_chP = some ⟨oc_chP, od_chP, .func (PySem.W.fnOf "check_part" "check_part" (defArgs sChkPart) (defBody sChkPart) (defScope sChkPart) .none kV_chP dc_chP pm_chP an_chP cd_chP ct_chP), sl_chP⟩)
    (c_chP : PySem.W.codeIn K cd_chP "check_part" = true)
    (k_chP : PySem.W.keepIn K (.ref f_chP) = true)
    (a_afb : PySem.W.nsIn K mainGlobals "all_forced_by" = some (some (.ref f_afb)))
    (l_afb : K.lookup f_afb = some ⟨oc_afb, od_afb, .func (PySem.W.fnOf "all_forced_by" "all_forced_by" (defArgs sAllFB) (defBody sAllFB) (defScope sAllFB) .none kV_afb dc_afb pm_afb an_afb cd_afb ct_afb), sl_afb⟩)
    (c_afb : PySem.W.codeIn K cd_afb "all_forced_by" = true)
    (k_afb : PySem.W.keepIn K (.ref f_afb) = true)
    (a_to : PySem.W.nsIn K mainGlobals "torn_walls" = some (some (.ref f_to)))
    (l_to : K.lookup f_to = some ⟨oc_to, od_to, .func (PySem.W.fnOf "torn_walls" "torn_walls" (defArgs sTorn) (defBody sTorn) (defScope sTorn) .none kV_to dc_to pm_to an_to cd_to ct_to), sl_to⟩)
    (c_to : PySem.W.codeIn K cd_to "torn_walls" = true)
    (k_to : PySem.W.keepIn K (.ref f_to) = true)
    (a_sh : PySem.W.nsIn K mainGlobals "shut" = some (some (.ref f_sh)))
    (l_sh : K.lookup f_sh = some ⟨oc_sh, od_sh, .func (PySem.W.fnOf "shut" "shut" (defArgs sShut) (defBody sShut) (defScope sShut) .none kV_sh dc_sh pm_sh an_sh cd_sh ct_sh), sl_sh⟩)
    (c_sh : PySem.W.codeIn K cd_sh "shut" = true)
    (k_sh : PySem.W.keepIn K (.ref f_sh) = true)
    (a_sc : PySem.W.nsIn K mainGlobals "shut_calls" = some (some (.ref f_sc)))
    (l_sc : K.lookup f_sc = some ⟨oc_sc, od_sc, .func (PySem.W.fnOf "shut_calls" "shut_calls" (defArgs sShCalls) (defBody sShCalls) (defScope sShCalls) .none kV_sc dc_sc pm_sc an_sc cd_sc ct_sc), sl_sc⟩)
    (c_sc : PySem.W.codeIn K cd_sc "shut_calls" = true)
    (k_sc : PySem.W.keepIn K (.ref f_sc) = true)
    (a_str : PySem.W.nsIn K mainGlobals "stray_sides" = some (some (.ref f_str)))
    (l_str : K.lookup f_str = some ⟨oc_str, od_str, .func (PySem.W.fnOf "stray_sides" "stray_sides" (defArgs sStray) (defBody sStray) (defScope sStray) .none kV_str dc_str pm_str an_str cd_str ct_str), sl_str⟩)
    (c_str : PySem.W.codeIn K cd_str "stray_sides" = true)
    (k_str : PySem.W.keepIn K (.ref f_str) = true)
    (a_goo : PySem.W.nsIn K mainGlobals "is_good" = some (some (.ref f_goo)))
    (l_goo : K.lookup f_goo = some ⟨oc_goo, od_goo, .func (PySem.W.fnOf "is_good" "is_good" (defArgs sIsGood) (defBody sIsGood) (defScope sIsGood) .none kV_goo dc_goo pm_goo an_goo cd_goo ct_goo), sl_goo⟩)
    (c_goo : PySem.W.codeIn K cd_goo "is_good" = true)
    (k_goo : PySem.W.keepIn K (.ref f_goo) = true)
    (a_alb : PySem.W.nsIn K mainGlobals "alike_beside" = some (some (.ref f_alb)))
    (l_alb : K.lookup f_alb = some ⟨oc_alb, od_alb, .func (PySem.W.fnOf "alike_beside" "alike_beside" (defArgs sAlikeB) (defBody sAlikeB) (defScope sAlikeB) .none kV_alb dc_alb pm_alb an_alb cd_alb ct_alb), sl_alb⟩)
    (c_alb : PySem.W.codeIn K cd_alb "alike_beside" = true)
    (k_alb : PySem.W.keepIn K (.ref f_alb) = true)
    (a_nxb : PySem.W.nsIn K mainGlobals "next_from_behind" = some (some (.ref f_nxb)))
    (l_nxb : K.lookup f_nxb = some ⟨oc_nxb, od_nxb, .func (PySem.W.fnOf "next_from_behind" "next_from_behind" (defArgs sNextB) (defBody sNextB) (defScope sNextB) .none kV_nxb dc_nxb pm_nxb an_nxb cd_nxb ct_nxb), sl_nxb⟩)
    (c_nxb : PySem.W.codeIn K cd_nxb "next_from_behind" = true)
    (k_nxb : PySem.W.keepIn K (.ref f_nxb) = true)
    (a_tkb : PySem.W.nsIn K mainGlobals "taken_from_behind" = some (some (.ref f_tkb)))
    (l_tkb : K.lookup f_tkb = some ⟨oc_tkb, od_tkb, .func (PySem.W.fnOf "taken_from_behind" "taken_from_behind" (defArgs sTakenB) (defBody sTakenB) (defScope sTakenB) .none kV_tkb dc_tkb pm_tkb an_tkb cd_tkb ct_tkb), sl_tkb⟩)
    (c_tkb : PySem.W.codeIn K cd_tkb "taken_from_behind" = true)
    (k_tkb : PySem.W.keepIn K (.ref f_tkb) = true)
    (a_tka : PySem.W.nsIn K mainGlobals "taken_in_any_order" = some (some (.ref f_tka)))
    (l_tka : K.lookup f_tka = some ⟨oc_tka, od_tka, .func (PySem.W.fnOf "taken_in_any_order" "taken_in_any_order" (defArgs sTakenA) (defBody sTakenA) (defScope sTakenA) .none kV_tka dc_tka pm_tka an_tka cd_tka ct_tka), sl_tka⟩)
    (c_tka : PySem.W.codeIn K cd_tka "taken_in_any_order" = true)
    (k_tka : PySem.W.keepIn K (.ref f_tka) = true)
    (a_chk : PySem.W.nsIn K mainGlobals "check_room" = some (some (.ref f_chk)))
    (l_chk : K.lookup f_chk = some ⟨oc_chk, od_chk, .func (PySem.W.fnOf "check_room" "check_room" (defArgs sChkRoom) (defBody sChkRoom) (defScope sChkRoom) .none kV_chk dc_chk pm_chk an_chk cd_chk ct_chk), sl_chk⟩)
    (c_chk : PySem.W.codeIn K cd_chk "check_room" = true)
    (k_chk : PySem.W.keepIn K (.ref f_chk) = true)
    (a_wo : PySem.W.nsIn K mainGlobals "written_over" = some (some (.ref f_wo)))
    (l_wo : K.lookup f_wo = some ⟨oc_wo, od_wo, .func (PySem.W.fnOf "written_over" "written_over" (defArgs sWOver) (defBody sWOver) (defScope sWOver) .none kV_wo dc_wo pm_wo an_wo cd_wo ct_wo), sl_wo⟩)
    (c_wo : PySem.W.codeIn K cd_wo "written_over" = true)
    (k_wo : PySem.W.keepIn K (.ref f_wo) = true)
    (a_lm : PySem.W.nsIn K mainGlobals "least_missed" = some (some (.ref f_lm)))
    (l_lm : K.lookup f_lm = some ⟨oc_lm, od_lm, .func (PySem.W.fnOf "least_missed" "least_missed" (defArgs sLeastM) (defBody sLeastM) (defScope sLeastM) .none kV_lm dc_lm pm_lm an_lm cd_lm ct_lm), sl_lm⟩)
    (c_lm : PySem.W.codeIn K cd_lm "least_missed" = true)
    (k_lm : PySem.W.keepIn K (.ref f_lm) = true)
    (a_rw : PySem.W.nsIn K mainGlobals "rooms_within" = some (some (.ref f_rw)))
    (l_rw : K.lookup f_rw = some ⟨oc_rw, od_rw, .func (PySem.W.fnOf "rooms_within" "rooms_within" (defArgs sRoomsW) (defBody sRoomsW) (defScope sRoomsW) .none kV_rw dc_rw pm_rw an_rw cd_rw ct_rw), sl_rw⟩)
    (c_rw : PySem.W.codeIn K cd_rw "rooms_within" = true)
    (k_rw : PySem.W.keepIn K (.ref f_rw) = true)
    (a_ew : PySem.W.nsIn K mainGlobals "ends_within" = some (some (.ref f_ew)))
    (l_ew : K.lookup f_ew = some ⟨oc_ew, od_ew, .func (PySem.W.fnOf "ends_within" "ends_within" (defArgs sEndsW) (defBody sEndsW) (defScope sEndsW) .none kV_ew dc_ew pm_ew an_ew cd_ew ct_ew), sl_ew⟩)
    (c_ew : PySem.W.codeIn K cd_ew "ends_within" = true)
    (k_ew : PySem.W.keepIn K (.ref f_ew) = true)
    (a_su : PySem.W.nsIn K mainGlobals "surely_there" = some (some (.ref f_su)))
    (l_su : K.lookup f_su = some ⟨oc_su, od_su, .func (PySem.W.fnOf "surely_there" "surely_there" (defArgs sSurely) (defBody sSurely) (defScope sSurely) .none kV_su dc_su pm_su an_su cd_su ct_su), sl_su⟩)
    (c_su : PySem.W.codeIn K cd_su "surely_there" = true)
    (k_su : PySem.W.keepIn K (.ref f_su) = true)
    (a_CH : PySem.W.nsIn K mainGlobals "HallError" = some (some (.ref CH)))
    (a_CB : PySem.W.nsIn K mainGlobals "BadBar" = some (some (.ref CB)))
    (a_CF : PySem.W.nsIn K mainGlobals "Fixed" = some (some (.ref CF)))
    (a_CA : PySem.W.nsIn K mainGlobals "Alike" = some (some (.ref CA)))
    (a_CTm : PySem.W.nsIn K mainGlobals "TooMany" = some (some (.ref CTm)))
    (i_H : PySem.W.findCls K (.ref CH) (.type "type") "__init__" = some (.val (.ref f_iH)))
    (r_H : PySem.W.readsIn K CH (.type "type") = true)
    (g_H : PySem.W.specialIn K (.ref CH) "__getattribute__" = some (some (.builtin "type.__getattribute__")))
    (v_V : PySem.W.findCls K (.type "ValueError") (.type "type") "__init__" = some (.val (.builtin "ValueError.__init__")))
    (x_CB : K.lookup CB = some (excClassObj nm_CB q_CB CB N_CB bs_CB bm_CB true sn_CB sub_CB ab_CB col_CB dd_CB m0_CB m1_CB m2_CB m3_CB m5_CB "ValueError.__new__"))
    (rv_CB : PySem.HandSPX.refsVE bm_CB = true)
    (sa_CB : PySem.W.findIn K (.ref CB) "__setattr__" = some (some (.builtin "object.__setattr__")))
    (ex_CB : PySem.W.subIn K (.ref CB) (.type "BaseException") = some true)
    (ty_CB : PySem.W.typeIn K (.ref CB) = some (.type "type"))
    (kc_CB : PySem.W.keepIn K (.ref CB) = true)
    (i_CB : PySem.W.findIn K (.ref CB) "__init__" = some (some (.ref f_iB)))
    (t_CB : PySem.W.typeIn K (.ref f_iB) = some (.type "function"))
    (n_CB_word : PySem.W.findIn K (.ref CB) "word" = some none)
    (n_CB_at : PySem.W.findIn K (.ref CB) "at" = some none)
    (x_CF : K.lookup CF = some (excClassObj nm_CF q_CF CF N_CF bs_CF bm_CF true sn_CF sub_CF ab_CF col_CF dd_CF m0_CF m1_CF m2_CF m3_CF m5_CF "ValueError.__new__"))
    (rv_CF : PySem.HandSPX.refsVE bm_CF = true)
    (sa_CF : PySem.W.findIn K (.ref CF) "__setattr__" = some (some (.builtin "object.__setattr__")))
    (ex_CF : PySem.W.subIn K (.ref CF) (.type "BaseException") = some true)
    (ty_CF : PySem.W.typeIn K (.ref CF) = some (.type "type"))
    (kc_CF : PySem.W.keepIn K (.ref CF) = true)
    (i_CF : PySem.W.findIn K (.ref CF) "__init__" = some (some (.ref f_iF)))
    (t_CF : PySem.W.typeIn K (.ref f_iF) = some (.type "function"))
    (n_CF_word : PySem.W.findIn K (.ref CF) "word" = some none)
    (n_CF_side : PySem.W.findIn K (.ref CF) "side" = some none)
    (x_CA : K.lookup CA = some (excClassObj nm_CA q_CA CA N_CA bs_CA bm_CA true sn_CA sub_CA ab_CA col_CA dd_CA m0_CA m1_CA m2_CA m3_CA m5_CA "ValueError.__new__"))
    (rv_CA : PySem.HandSPX.refsVE bm_CA = true)
    (sa_CA : PySem.W.findIn K (.ref CA) "__setattr__" = some (some (.builtin "object.__setattr__")))
    (ex_CA : PySem.W.subIn K (.ref CA) (.type "BaseException") = some true)
    (ty_CA : PySem.W.typeIn K (.ref CA) = some (.type "type"))
    (kc_CA : PySem.W.keepIn K (.ref CA) = true)
    (i_CA : PySem.W.findIn K (.ref CA) "__init__" = some (some (.ref f_iA)))
    (t_CA : PySem.W.typeIn K (.ref f_iA) = some (.type "function"))
    (n_CA_word : PySem.W.findIn K (.ref CA) "word" = some none)
    (n_CA_one : PySem.W.findIn K (.ref CA) "one" = some none)
    (n_CA_other : PySem.W.findIn K (.ref CA) "other" = some none)
    (x_CTm : K.lookup CTm = some (excClassObj nm_CTm q_CTm CTm N_CTm bs_CTm bm_CTm true sn_CTm sub_CTm ab_CTm col_CTm dd_CTm m0_CTm m1_CTm m2_CTm m3_CTm m5_CTm "ValueError.__new__"))
    (rv_CTm : PySem.HandSPX.refsVE bm_CTm = true)
    (sa_CTm : PySem.W.findIn K (.ref CTm) "__setattr__" = some (some (.builtin "object.__setattr__")))
    (ga_CTm : PySem.W.findIn K (.ref CTm) "__getattribute__" = some (some (.builtin "BaseException.__getattribute__")))
    (gg_CTm : PySem.W.findIn K (.ref CTm) "__getattr__" = some none)
    (hd_CTm : PySem.W.hasDictIn K CTm = true)
    (ex_CTm : PySem.W.subIn K (.ref CTm) (.type "BaseException") = some true)
    (ty_CTm : PySem.W.typeIn K (.ref CTm) = some (.type "type"))
    (kc_CTm : PySem.W.keepIn K (.ref CTm) = true)
    (i_CTm : PySem.W.findIn K (.ref CTm) "__init__" = some (some (.ref f_iTm)))
    (t_CTm : PySem.W.typeIn K (.ref f_iTm) = some (.type "function"))
    (n_CTm_word : PySem.W.findIn K (.ref CTm) "word" = some none)
    (n_CTm_most : PySem.W.findIn K (.ref CTm) "most" = some none)
    (l_iH : K.lookup f_iH = some ⟨oc_iH, od_iH, .func (PySem.W.fnOf "__init__" "HallError.__init__" (defArgs sHEinit) (defBody sHEinit) (defScope sHEinit) .none kV_iH dc_iH pm_iH an_iH cd_iH ct_iH), sl_iH⟩)
    (c_iH : PySem.W.codeIn K cd_iH "HallError.__init__" = true)
    (k_iH : PySem.W.keepIn K (.ref f_iH) = true)
    (l_iB : K.lookup f_iB = some ⟨oc_iB, od_iB, .func (PySem.W.fnOf "__init__" "BadBar.__init__" (defArgs sBBinit) (defBody sBBinit) (defScope sBBinit) .none kV_iB dc_iB pm_iB an_iB cd_iB ct_iB), sl_iB⟩)
    (c_iB : PySem.W.codeIn K cd_iB "BadBar.__init__" = true)
    (k_iB : PySem.W.keepIn K (.ref f_iB) = true)
    (l_iF : K.lookup f_iF = some ⟨oc_iF, od_iF, .func (PySem.W.fnOf "__init__" "Fixed.__init__" (defArgs sFXinit) (defBody sFXinit) (defScope sFXinit) .none kV_iF dc_iF pm_iF an_iF cd_iF ct_iF), sl_iF⟩)
    (c_iF : PySem.W.codeIn K cd_iF "Fixed.__init__" = true)
    (k_iF : PySem.W.keepIn K (.ref f_iF) = true)
    (l_iA : K.lookup f_iA = some ⟨oc_iA, od_iA, .func (PySem.W.fnOf "__init__" "Alike.__init__" (defArgs sALinit) (defBody sALinit) (defScope sALinit) .none kV_iA dc_iA pm_iA an_iA cd_iA ct_iA), sl_iA⟩)
    (c_iA : PySem.W.codeIn K cd_iA "Alike.__init__" = true)
    (k_iA : PySem.W.keepIn K (.ref f_iA) = true)
    (l_iTm : K.lookup f_iTm = some ⟨oc_iTm, od_iTm, .func (PySem.W.fnOf "__init__" "TooMany.__init__" (defArgs sTMinit) (defBody sTMinit) (defScope sTMinit) .none kV_iTm dc_iTm pm_iTm an_iTm cd_iTm ct_iTm), sl_iTm⟩)
    (c_iTm : PySem.W.codeIn K cd_iTm "TooMany.__init__" = true)
    (k_iTm : PySem.W.keepIn K (.ref f_iTm) = true)
    (e_CTm_CTm : PySem.W.subIn K (.ref CTm) (.ref CTm) = some true)
    (ic_CTm : PySem.W.isClsIn K CTm = true)
    (a_C : PySem.W.nsIn K mainGlobals "Hall" = some (some (.ref C)))
    (i_C : PySem.W.findIn K (.ref C) "__init__" = some (some (.ref f_hi)))
    (j_C : PySem.W.isFn K (.ref f_hi) = true)
    (pg_C : PySem.W.plainGet K C Str.empty = true)
    (hd_C : PySem.W.hasDictIn K C = true)
    (po_C : PySem.W.plainOver K C = true)
    (sa_C : PySem.W.findIn K (.ref C) "__setattr__" = some (some (.builtin "object.__setattr__")))
    (mk_C : PySem.W.makesIn K C = true)
    (kp_C : PySem.W.keepIn K (.ref C) = true)
    (n1_C : PySem.W.findIn K (.ref C) "wall_text" = some none)
    (n2_C : PySem.W.findIn K (.ref C) "bar_list" = some none)
    (n3_C : PySem.W.findIn K (.ref C) "forced_by" = some none)
    (b_hb : PySem.W.findIn K (.ref C) "bars" = some (some (.ref f_hb)))
    (m_hb : PySem.W.isFn K (.ref f_hb) = true)
    (l_hb : K.lookup f_hb = some ⟨oc_hb, od_hb, .func (PySem.W.fnOf "bars" "Hall.bars" (defArgs sHbars) (defBody sHbars) (defScope sHbars) .none kV_hb dc_hb pm_hb an_hb cd_hb ct_hb), sl_hb⟩)
    (c_hb : PySem.W.codeIn K cd_hb "Hall.bars" = true)
    (k_hb : PySem.W.keepIn K (.ref f_hb) = true)
    (b_hm : PySem.W.findIn K (.ref C) "is_room" = some (some (.ref f_hm)))
    (m_hm : PySem.W.isFn K (.ref f_hm) = true)
    (l_hm : K.lookup f_hm = some ⟨oc_hm, od_hm, .func (PySem.W.fnOf "is_room" "Hall.is_room" (defArgs sHroom) (defBody sHroom) (defScope sHroom) .none kV_hm dc_hm pm_hm an_hm cd_hm ct_hm), sl_hm⟩)
    (c_hm : PySem.W.codeIn K cd_hm "Hall.is_room" = true)
    (k_hm : PySem.W.keepIn K (.ref f_hm) = true)
    (b_hr : PySem.W.findIn K (.ref C) "rooms" = some (some (.ref f_hr)))
    (m_hr : PySem.W.isFn K (.ref f_hr) = true)
    (l_hr : K.lookup f_hr = some ⟨oc_hr, od_hr, .func (PySem.W.fnOf "rooms" "Hall.rooms" (defArgs sHrooms) (defBody sHrooms) (defScope sHrooms) .none kV_hr dc_hr pm_hr an_hr cd_hr ct_hr), sl_hr⟩)
    (c_hr : PySem.W.codeIn K cd_hr "Hall.rooms" = true)
    (k_hr : PySem.W.keepIn K (.ref f_hr) = true)
    (b_hg : PySem.W.findIn K (.ref C) "goes_with" = some (some (.ref f_hg)))
    (m_hg : PySem.W.isFn K (.ref f_hg) = true)
    (l_hg : K.lookup f_hg = some ⟨oc_hg, od_hg, .func (PySem.W.fnOf "goes_with" "Hall.goes_with" (defArgs sHgoes) (defBody sHgoes) (defScope sHgoes) .none kV_hg dc_hg pm_hg an_hg cd_hg ct_hg), sl_hg⟩)
    (c_hg : PySem.W.codeIn K cd_hg "Hall.goes_with" = true)
    (k_hg : PySem.W.keepIn K (.ref f_hg) = true)
    (b_hwl : PySem.W.findIn K (.ref C) "walls" = some (some (.ref f_hwl)))
    (m_hwl : PySem.W.isFn K (.ref f_hwl) = true)
    (l_hwl : K.lookup f_hwl = some ⟨oc_hwl, od_hwl, .func (PySem.W.fnOf "walls" "Hall.walls" (defArgs sHwalls) (defBody sHwalls) (defScope sHwalls) .none kV_hwl dc_hwl pm_hwl an_hwl cd_hwl ct_hwl), sl_hwl⟩)
    (c_hwl : PySem.W.codeIn K cd_hwl "Hall.walls" = true)
    (k_hwl : PySem.W.keepIn K (.ref f_hwl) = true)
    (b_hfo : PySem.W.findIn K (.ref C) "forced" = some (some (.ref f_hfo)))
    (m_hfo : PySem.W.isFn K (.ref f_hfo) = true)
    (l_hfo : K.lookup f_hfo = some ⟨oc_hfo, od_hfo, .func (PySem.W.fnOf "forced" "Hall.forced" (defArgs sHforced) (defBody sHforced) (defScope sHforced) .none kV_hfo dc_hfo pm_hfo an_hfo cd_hfo ct_hfo), sl_hfo⟩)
    (c_hfo : PySem.W.codeIn K cd_hfo "Hall.forced" = true)
    (k_hfo : PySem.W.keepIn K (.ref f_hfo) = true)
    (l_hi : K.lookup f_hi = some ⟨oc_hi, od_hi, .func (PySem.W.fnOf "__init__" "Hall.__init__" (defArgs sHinit) (defBody sHinit) (defScope sHinit) (.ref T_hi) kV_hi dc_hi pm_hi an_hi cd_hi ct_hi), sl_hi⟩)
    (c_hi : PySem.W.codeIn K cd_hi "Hall.__init__" = true)
    (k_hi : PySem.W.keepIn K (.ref f_hi) = true)
    (d_hi : K.lookup T_hi = some ⟨oc_T, od_T, .seq [Value.ref e_hi].toArray n_T, sl_T⟩)
    (z_list : PySem.W.nsIn K mainGlobals "list" = some none)
    (z_sorted : PySem.W.nsIn K mainGlobals "sorted" = some none)
    (z_set : PySem.W.nsIn K mainGlobals "set" = some none)
    (z_all : PySem.W.nsIn K mainGlobals "all" = some none)
    (z_len : PySem.W.nsIn K mainGlobals "len" = some none)
    (z_enumerate : PySem.W.nsIn K mainGlobals "enumerate" = some none)
    (z_range : PySem.W.nsIn K mainGlobals "range" = some none)
    (z_isinstance : PySem.W.nsIn K mainGlobals "isinstance" = some none)
    (z_tuple : PySem.W.nsIn K mainGlobals "tuple" = some none)
    (z_any : PySem.W.nsIn K mainGlobals "any" = some none)
    (z_ValueError : PySem.W.nsIn K mainGlobals "ValueError" = some none)
    (z_bool : PySem.W.nsIn K mainGlobals "bool" = some none)
    (z_str : PySem.W.nsIn K mainGlobals "str" = some none)
    (z_zip : PySem.W.nsIn K mainGlobals "zip" = some none)
    (z_min : PySem.W.nsIn K mainGlobals "min" = some none)
    (w_W : PySem.W.nsIn K mainGlobals "WIDEST" = some (some (.int 12 tw)))
    (w_MOST_SENT : PySem.W.nsIn K mainGlobals "MOST_SENT" = some (some (.int 24 td)))
    (w_MOST_CALLS : PySem.W.nsIn K mainGlobals "MOST_CALLS" = some (some (.int 12 tc)))
    (a_L : PySem.W.nsIn K mainGlobals "law" = some (some (.ref fL)))
    (l_L : K.lookup fL = some ⟨ocL, odL, .func (PySem.W.fnOf "law" "law" (defArgs sLaw) (defBody sLaw) (defScope sLaw) .none kVL dcL pmL anL (.ref c) ctL), slL⟩)
    (c_L : PySem.W.codeIn K (.ref c) "law" = true)
    (h_L : PySem.W.codeHdIn K c PT = true)
    : LamX.LawAtS l w K CX0 11 63 "_law_script" mg fa h := by
  have F_O := fun_mk (st := sOther) l_O c_O k_O
  have D_O : DF K mg "other" sOther ["side"] f_O _ := ⟨F_O, PySem.W.mg_of X G a_O, F_O.binds (ps := ["side"]) fun _ _ _ _ _ _ us hl => match us, hl with | [_], _ => rfl⟩
  have F_S := fun_mk (st := sSides) l_S c_S k_S
  have D_S : DF K mg "sides_of" sSides ["walls"] f_S _ := ⟨F_S, PySem.W.mg_of X G a_S, F_S.binds (ps := ["walls"]) fun _ _ _ _ _ _ us hl => match us, hl with | [_], _ => rfl⟩
  have F_Y := fun_mk (st := sByWalls) l_Y c_Y k_Y
  have D_Y : DF K mg "by_walls" sByWalls ["walls", "sides"] f_Y _ := ⟨F_Y, PySem.W.mg_of X G a_Y, F_Y.binds (ps := ["walls", "sides"]) fun _ _ _ _ _ _ us hl => match us, hl with | [_, _], _ => rfl⟩
  have F_W := fun_mk (st := sIsWalls) l_W c_W k_W
  have D_W : DF K mg "is_walls" sIsWalls ["walls"] f_W _ := ⟨F_W, PySem.W.mg_of X G a_W, F_W.binds (ps := ["walls"]) fun _ _ _ _ _ _ us hl => match us, hl with | [_], _ => rfl⟩
  have F_I := fun_mk (st := sIsBar) l_I c_I k_I
  have D_I : DF K mg "is_bar" sIsBar ["walls", "bar"] f_I _ := ⟨F_I, PySem.W.mg_of X G a_I, F_I.binds (ps := ["walls", "bar"]) fun _ _ _ _ _ _ us hl => match us, hl with | [_, _], _ => rfl⟩
  have F_cw := fun_mk (st := sChkWalls) l_cw c_cw k_cw
  have D_cw : DF K mg "check_walls" sChkWalls ["walls"] f_cw _ := ⟨F_cw, PySem.W.mg_of X G a_cw, F_cw.binds (ps := ["walls"]) fun _ _ _ _ _ _ us hl => match us, hl with | [_], _ => rfl⟩
  have F_cb := fun_mk (st := sChkBars) l_cb c_cb k_cb
  have D_cb : DF K mg "check_bars" sChkBars ["walls", "bars"] f_cb _ := ⟨F_cb, PySem.W.mg_of X G a_cb, F_cb.binds (ps := ["walls", "bars"]) fun _ _ _ _ _ _ us hl => match us, hl with | [_, _], _ => rfl⟩
  have F_cs := fun_mk (st := sChkSide) l_cs c_cs k_cs
  have D_cs : DF K mg "check_side" sChkSide ["walls", "side"] f_cs _ := ⟨F_cs, PySem.W.mg_of X G a_cs, F_cs.binds (ps := ["walls", "side"]) fun _ _ _ _ _ _ us hl => match us, hl with | [_, _], _ => rfl⟩
  have F_st := fun_mk (st := sStraight) l_st c_st k_st
  have D_st : DF K mg "straight_from" sStraight ["walls", "bars"] f_st _ := ⟨F_st, PySem.W.mg_of X G a_st, F_st.binds (ps := ["walls", "bars"]) fun _ _ _ _ _ _ us hl => match us, hl with | [_, _], _ => rfl⟩
  have F_re := fun_mk (st := sReached) l_re c_re k_re
  have D_re : DF K mg "reached" sReached ["straight", "one"] f_re _ := ⟨F_re, PySem.W.mg_of X G a_re, F_re.binds (ps := ["straight", "one"]) fun _ _ _ _ _ _ us hl => match us, hl with | [_, _], _ => rfl⟩
  have F_af := fun_mk (st := sAllF) l_af c_af k_af
  have D_af : DF K mg "all_forced" sAllF ["walls", "bars"] f_af _ := ⟨F_af, PySem.W.mg_of X G a_af, F_af.binds (ps := ["walls", "bars"]) fun _ _ _ _ _ _ us hl => match us, hl with | [_, _], _ => rfl⟩
  have F_cf := fun_mk (st := sChkFix) l_cf c_cf k_cf
  have D_cf : DF K mg "check_fixed" sChkFix ["forced_by"] f_cf _ := ⟨F_cf, PySem.W.mg_of X G a_cf, F_cf.binds (ps := ["forced_by"]) fun _ _ _ _ _ _ us hl => match us, hl with | [_], _ => rfl⟩
  have F_ca := fun_mk (st := sChkAl) l_ca c_ca k_ca
  have D_ca : DF K mg "check_alike" sChkAl ["forced_by"] f_ca _ := ⟨F_ca, PySem.W.mg_of X G a_ca, F_ca.binds (ps := ["forced_by"]) fun _ _ _ _ _ _ us hl => match us, hl with | [_], _ => rfl⟩
  have F_same := fun_mk (st := sSame) l_same c_same k_same
  have D_same : DF K mg "_law_same" sSame ["_law_x", "_law_due"] f_same _ := ⟨F_same, PySem.W.mg_of X G a_same, F_same.binds (ps := ["_law_x", "_law_due"]) fun _ _ _ _ _ _ us hl => match us, hl with | [_, _], _ => rfl⟩
  have F_start := fun_mk (st := sStart) l_start c_start k_start
  have D_start : DF K mg "_law_start" sStart ["_law_script"] f_start _ := ⟨F_start, PySem.W.mg_of X G a_start, F_start.binds (ps := ["_law_script"]) fun _ _ _ _ _ _ us hl => match us, hl with | [_], _ => rfl⟩
  have F_draw := fun_mk (st := sDraw) l_draw c_draw k_draw
  have D_draw : DF K mg "_law_draw" sDraw ["_law_d", "_law_many_it"] f_draw _ := ⟨F_draw, PySem.W.mg_of X G a_draw, F_draw.binds (ps := ["_law_d", "_law_many_it"]) fun _ _ _ _ _ _ us hl => match us, hl with | [_, _], _ => rfl⟩
  have F_of := fun_mk (st := sOf) l_of c_of k_of
  have D_of : DF K mg "_law_of" sOf ["_law_d", "_law_some"] f_of _ := ⟨F_of, PySem.W.mg_of X G a_of, F_of.binds (ps := ["_law_d", "_law_some"]) fun _ _ _ _ _ _ us hl => match us, hl with | [_, _], _ => rfl⟩
  have F_letters := fun_mk (st := sLetters) l_letters c_letters k_letters
  have D_letters : DF K mg "_law_letters" sLetters [] f_letters _ := ⟨F_letters, PySem.W.mg_of X G a_letters, F_letters.binds (ps := []) fun _ _ _ _ _ _ us hl => match us, hl with | [], _ => rfl⟩
  have F_shuts := fun_mk (st := sShuts) l_shuts c_shuts k_shuts
  have D_shuts : DF K mg "_law_shuts" sShuts ["_law_d", "_law_most_it"] f_shuts _ := ⟨F_shuts, PySem.W.mg_of X G a_shuts, F_shuts.binds (ps := ["_law_d", "_law_most_it"]) fun _ _ _ _ _ _ us hl => match us, hl with | [_, _], _ => rfl⟩
  have F_oth := fun_mk (st := sOth) l_oth c_oth k_oth
  have D_oth : DF K mg "_law_other" sOth ["_law_side"] f_oth _ := ⟨F_oth, PySem.W.mg_of X G a_oth, F_oth.binds (ps := ["_law_side"]) fun _ _ _ _ _ _ us hl => match us, hl with | [_], _ => rfl⟩
  have F_wit := fun_mk (st := sWithin) l_wit c_wit k_wit
  have D_wit : DF K mg "_law_within" sWithin ["_law_sides_here", "_law_room"] f_wit _ := ⟨F_wit, PySem.W.mg_of X G a_wit, F_wit.binds (ps := ["_law_sides_here", "_law_room"]) fun _ _ _ _ _ _ us hl => match us, hl with | [_, _], _ => rfl⟩
  have F_pairs := fun_mk (st := sPairs) l_pairs c_pairs k_pairs
  have D_pairs : DF K mg "_law_pairs" sPairs ["_law_shuts_here"] f_pairs _ := ⟨F_pairs, PySem.W.mg_of X G a_pairs, F_pairs.binds (ps := ["_law_shuts_here"]) fun _ _ _ _ _ _ us hl => match us, hl with | [_], _ => rfl⟩
  have F_all := fun_mk (st := sAll) l_all c_all k_all
  have D_all : DF K mg "_law_all" sAll ["_law_shuts_here"] f_all _ := ⟨F_all, PySem.W.mg_of X G a_all, F_all.binds (ps := ["_law_shuts_here"]) fun _ _ _ _ _ _ us hl => match us, hl with | [_], _ => rfl⟩
  have F_rms := fun_mk (st := sRooms) l_rms c_rms k_rms
  have D_rms : DF K mg "_law_rooms" sRooms ["_law_shuts_here", "_law_bars"] f_rms _ := ⟨F_rms, PySem.W.mg_of X G a_rms, F_rms.binds (ps := ["_law_shuts_here", "_law_bars"]) fun _ _ _ _ _ _ us hl => match us, hl with | [_, _], _ => rfl⟩
  have F_fine := fun_mk (st := sFine) l_fine c_fine k_fine
  have D_fine : DF K mg "_law_fine" sFine ["_law_shuts_here", "_law_rooms_here"] f_fine _ := ⟨F_fine, PySem.W.mg_of X G a_fine, F_fine.binds (ps := ["_law_shuts_here", "_law_rooms_here"]) fun _ _ _ _ _ _ us hl => match us, hl with | [_, _], _ => rfl⟩
  have F_hall := fun_mk (st := sHall) l_hall c_hall k_hall
  have D_hall : DF K mg "_law_hall" sHall ["_law_d", "_law_most_it"] f_hall _ := ⟨F_hall, PySem.W.mg_of X G a_hall, F_hall.binds (ps := ["_law_d", "_law_most_it"]) fun _ _ _ _ _ _ us hl => match us, hl with | [_, _], _ => rfl⟩
  have F_lsi := fun_mk (st := sLSides) l_lsi c_lsi k_lsi
  have D_lsi : DF K mg "_law_sides" sLSides ["_law_d", "_law_shuts_here"] f_lsi _ := ⟨F_lsi, PySem.W.mg_of X G a_lsi, F_lsi.binds (ps := ["_law_d", "_law_shuts_here"]) fun _ _ _ _ _ _ us hl => match us, hl with | [_, _], _ => rfl⟩
  have F_lpa := fun_mk (st := sLPart) l_lpa c_lpa k_lpa
  have D_lpa : DF K mg "_law_part" sLPart ["_law_d", "_law_shuts_here", "_law_rooms_here"] f_lpa _ := ⟨F_lpa, PySem.W.mg_of X G a_lpa, F_lpa.binds (ps := ["_law_d", "_law_shuts_here", "_law_rooms_here"]) fun _ _ _ _ _ _ us hl => match us, hl with | [_, _, _], _ => rfl⟩
  have F_lsh := fun_mk (st := sLShut) l_lsh c_lsh k_lsh
  have D_lsh : DF K mg "_law_shut" sLShut ["_law_rooms_here", "_law_part_here"] f_lsh _ := ⟨F_lsh, PySem.W.mg_of X G a_lsh, F_lsh.binds (ps := ["_law_rooms_here", "_law_part_here"]) fun _ _ _ _ _ _ us hl => match us, hl with | [_, _], _ => rfl⟩
  have F_cal := fun_mk (st := sLCalls) l_cal c_cal k_cal
  have D_cal : DF K mg "_law_calls" sLCalls ["_law_d", "_law_shuts_here", "_law_rooms_here", "_law_most_it"] f_cal _ := ⟨F_cal, PySem.W.mg_of X G a_cal, F_cal.binds (ps := ["_law_d", "_law_shuts_here", "_law_rooms_here", "_law_most_it"]) fun _ _ _ _ _ _ us hl => match us, hl with | [_, _, _, _], _ => rfl⟩
  have F_told := fun_mk (st := sTold) l_told c_told k_told
  have D_told : DF K mg "_law_told" sTold ["_law_ask"] f_told _ := ⟨F_told, PySem.W.mg_of X G a_told, F_told.binds (ps := ["_law_ask"]) fun _ _ _ _ _ _ us hl => match us, hl with | [_], _ => rfl⟩
  have F_hd := fun_mk (st := sHarden) l_hd c_hd k_hd
  have D_hd : DF K mg "hardened" sHarden ["calls", "many"] f_hd _ := ⟨F_hd, PySem.W.mg_of X G a_hd, F_hd.binds (ps := ["calls", "many"]) fun _ _ _ _ _ _ us hl => match us, hl with | [_, _], _ => rfl⟩
  have F_st_ := fun_mk (st := sSteer) l_st_ c_st_ k_st_
  have D_st_ : DF K mg "steer" sSteer ["hall", "calls", "room", "goal"] f_st_ _ := ⟨F_st_, PySem.W.mg_of X G a_st_, F_st_.binds (ps := ["hall", "calls", "room", "goal"]) fun _ _ _ _ _ _ us hl => match us, hl with | [_, _, _, _], _ => rfl⟩
  have F_isP := fun_mk (st := sIsPart) l_isP c_isP k_isP
  have D_isP : DF K mg "is_part" sIsPart ["hall", "part"] f_isP _ := ⟨F_isP, PySem.W.mg_of X G a_isP, F_isP.binds (ps := ["hall", "part"]) fun _ _ _ _ _ _ us hl => match us, hl with | [_, _], _ => rfl⟩
  have F_chP := fun_mk (st := sChkPart) l_chP c_chP k_chP
  have D_chP : DF K mg "check_part" sChkPart ["hall", "part"] f_chP _ := ⟨F_chP, PySem.W.mg_of X G a_chP, F_chP.binds (ps := ["hall", "part"]) fun _ _ _ _ _ _ us hl => match us, hl with | [_, _], _ => rfl⟩
  have F_afb := fun_mk (st := sAllFB) l_afb c_afb k_afb
  have D_afb : DF K mg "all_forced_by" sAllFB ["hall", "part"] f_afb _ := ⟨F_afb, PySem.W.mg_of X G a_afb, F_afb.binds (ps := ["hall", "part"]) fun _ _ _ _ _ _ us hl => match us, hl with | [_, _], _ => rfl⟩
  have F_to := fun_mk (st := sTorn) l_to c_to k_to
  have D_to : DF K mg "torn_walls" sTorn ["hall", "part"] f_to _ := ⟨F_to, PySem.W.mg_of X G a_to, F_to.binds (ps := ["hall", "part"]) fun _ _ _ _ _ _ us hl => match us, hl with | [_, _], _ => rfl⟩
  have F_sh := fun_mk (st := sShut) l_sh c_sh k_sh
  have D_sh : DF K mg "shut" sShut ["hall", "part"] f_sh _ := ⟨F_sh, PySem.W.mg_of X G a_sh, F_sh.binds (ps := ["hall", "part"]) fun _ _ _ _ _ _ us hl => match us, hl with | [_, _], _ => rfl⟩
  have F_sc := fun_mk (st := sShCalls) l_sc c_sc k_sc
  have D_sc : DF K mg "shut_calls" sShCalls ["hall", "calls", "most"] f_sc _ := ⟨F_sc, PySem.W.mg_of X G a_sc, F_sc.binds (ps := ["hall", "calls", "most"]) fun _ _ _ _ _ _ us hl => match us, hl with | [_, _, _], _ => rfl⟩
  have F_str := fun_mk (st := sStray) l_str c_str k_str
  have D_str : DF K mg "stray_sides" sStray ["written", "walls", "goal"] f_str _ := ⟨F_str, PySem.W.mg_of X G a_str, F_str.binds (ps := ["written", "walls", "goal"]) fun _ _ _ _ _ _ us hl => match us, hl with | [_, _, _], _ => rfl⟩
  have F_goo := fun_mk (st := sIsGood) l_goo c_goo k_goo
  have D_goo : DF K mg "is_good" sIsGood ["written", "walls", "goal"] f_goo _ := ⟨F_goo, PySem.W.mg_of X G a_goo, F_goo.binds (ps := ["written", "walls", "goal"]) fun _ _ _ _ _ _ us hl => match us, hl with | [_, _, _], _ => rfl⟩
  have F_alb := fun_mk (st := sAlikeB) l_alb c_alb k_alb
  have D_alb : DF K mg "alike_beside" sAlikeB ["walls", "room", "goal"] f_alb _ := ⟨F_alb, PySem.W.mg_of X G a_alb, F_alb.binds (ps := ["walls", "room", "goal"]) fun _ _ _ _ _ _ us hl => match us, hl with | [_, _, _], _ => rfl⟩
  have F_nxb := fun_mk (st := sNextB) l_nxb c_nxb k_nxb
  have D_nxb : DF K mg "next_from_behind" sNextB ["shut_texts", "behind", "goal", "taken", "walls"] f_nxb _ := ⟨F_nxb, PySem.W.mg_of X G a_nxb, F_nxb.binds (ps := ["shut_texts", "behind", "goal", "taken", "walls"]) fun _ _ _ _ _ _ us hl => match us, hl with | [_, _, _, _, _], _ => rfl⟩
  have F_tkb := fun_mk (st := sTakenB) l_tkb c_tkb k_tkb
  have D_tkb : DF K mg "taken_from_behind" sTakenB ["shut_texts", "behind", "goal"] f_tkb _ := ⟨F_tkb, PySem.W.mg_of X G a_tkb, F_tkb.binds (ps := ["shut_texts", "behind", "goal"]) fun _ _ _ _ _ _ us hl => match us, hl with | [_, _, _], _ => rfl⟩
  have F_tka := fun_mk (st := sTakenA) l_tka c_tka k_tka
  have D_tka : DF K mg "taken_in_any_order" sTakenA ["shut_texts", "goal"] f_tka _ := ⟨F_tka, PySem.W.mg_of X G a_tka, F_tka.binds (ps := ["shut_texts", "goal"]) fun _ _ _ _ _ _ us hl => match us, hl with | [_, _], _ => rfl⟩
  have F_chk := fun_mk (st := sChkRoom) l_chk c_chk k_chk
  have D_chk : DF K mg "check_room" sChkRoom ["hall", "room"] f_chk _ := ⟨F_chk, PySem.W.mg_of X G a_chk, F_chk.binds (ps := ["hall", "room"]) fun _ _ _ _ _ _ us hl => match us, hl with | [_, _], _ => rfl⟩
  have F_wo := fun_mk (st := sWOver) l_wo c_wo k_wo
  have D_wo : DF K mg "written_over" sWOver ["written", "room"] f_wo _ := ⟨F_wo, PySem.W.mg_of X G a_wo, F_wo.binds (ps := ["written", "room"]) fun _ _ _ _ _ _ us hl => match us, hl with | [_, _], _ => rfl⟩
  have F_lm := fun_mk (st := sLeastM) l_lm c_lm k_lm
  have D_lm : DF K mg "least_missed" sLeastM ["shut_texts", "room"] f_lm _ := ⟨F_lm, PySem.W.mg_of X G a_lm, F_lm.binds (ps := ["shut_texts", "room"]) fun _ _ _ _ _ _ us hl => match us, hl with | [_, _], _ => rfl⟩
  have F_rw := fun_mk (st := sRoomsW) l_rw c_rw k_rw
  have D_rw : DF K mg "rooms_within" sRoomsW ["shut_texts", "room", "most"] f_rw _ := ⟨F_rw, PySem.W.mg_of X G a_rw, F_rw.binds (ps := ["shut_texts", "room", "most"]) fun _ _ _ _ _ _ us hl => match us, hl with | [_, _, _], _ => rfl⟩
  have F_ew := fun_mk (st := sEndsW) l_ew c_ew k_ew
  have F_su := fun_mk (st := sSurely) l_su c_su k_su
  have F_iH := fun_mk (st := sHEinit) l_iH c_iH k_iH
  have b_iH := F_iH.binds (ps := ["self", "word"]) fun _ _ _ _ _ _ us hl => match us, hl with | [_, _], _ => rfl
  have F_iB := fun_mk (st := sBBinit) l_iB c_iB k_iB
  have b_iB := F_iB.binds (ps := ["self", "at"]) fun _ _ _ _ _ _ us hl => match us, hl with | [_, _], _ => rfl
  have F_iF := fun_mk (st := sFXinit) l_iF c_iF k_iF
  have b_iF := F_iF.binds (ps := ["self", "side"]) fun _ _ _ _ _ _ us hl => match us, hl with | [_, _], _ => rfl
  have F_iA := fun_mk (st := sALinit) l_iA c_iA k_iA
  have b_iA := F_iA.binds (ps := ["self", "one", "other"]) fun _ _ _ _ _ _ us hl => match us, hl with | [_, _, _], _ => rfl
  have F_iTm := fun_mk (st := sTMinit) l_iTm c_iTm k_iTm
  have b_iTm := F_iTm.binds (ps := ["self", "most"]) fun _ _ _ _ _ _ us hl => match us, hl with | [_, _], _ => rfl
  have e := hfa.symm.trans (PySem.W.mg_of X G a_L)
  cases e
  have B : BM mg := ⟨PySem.W.mg_none_of X G z_list, PySem.W.mg_none_of X G z_sorted, PySem.W.mg_none_of X G z_set, PySem.W.mg_none_of X G z_all, PySem.W.mg_none_of X G z_len, PySem.W.mg_none_of X G z_enumerate, PySem.W.mg_none_of X G z_range, PySem.W.mg_none_of X G z_isinstance, PySem.W.mg_none_of X G z_tuple⟩
  have he : HE K mg CH f_iH _ := ⟨PySem.W.mg_of X G a_CH, ⟨_, ⟨r_H, g_H⟩, i_H⟩, F_iH, b_iH, PySem.W.mg_none_of X G z_ValueError, v_V⟩
  have xCB : XC K mg "BadBar" "BadBar.__init__" sBBinit "at" CB f_iB _ := ⟨PySem.W.mg_of X G a_CB, ⟨⟨_, _, _, _, _, _, _, _, _, _, _, _, _, _, _, x_CB, rv_CB⟩, sa_CB, ex_CB, ty_CB, kc_CB⟩, n_CB_word, n_CB_at, i_CB, t_CB, F_iB, b_iB⟩
  have xCF : XC K mg "Fixed" "Fixed.__init__" sFXinit "side" CF f_iF _ := ⟨PySem.W.mg_of X G a_CF, ⟨⟨_, _, _, _, _, _, _, _, _, _, _, _, _, _, _, x_CF, rv_CF⟩, sa_CF, ex_CF, ty_CF, kc_CF⟩, n_CF_word, n_CF_side, i_CF, t_CF, F_iF, b_iF⟩
  have xCA : XC2 K mg CA f_iA _ := ⟨PySem.W.mg_of X G a_CA, ⟨⟨_, _, _, _, _, _, _, _, _, _, _, _, _, _, _, x_CA, rv_CA⟩, sa_CA, ex_CA, ty_CA, kc_CA⟩, n_CA_word, n_CA_one, n_CA_other, i_CA, t_CA, F_iA, b_iA⟩
  have xCTm : XC K mg "TooMany" "TooMany.__init__" sTMinit "most" CTm f_iTm _ := ⟨PySem.W.mg_of X G a_CTm, ⟨⟨_, _, _, _, _, _, _, _, _, _, _, _, _, _, _, x_CTm, rv_CTm⟩, sa_CTm, ex_CTm, ty_CTm, kc_CTm⟩, n_CTm_word, n_CTm_most, i_CTm, t_CTm, F_iTm, b_iTm⟩
  have T8 := Txt8.mk B (PySem.W.mg_of X G w_W) D_O D_S D_Y D_W D_I D_cw D_cb D_cs D_st D_re D_af D_cf D_ca he xCB xCF xCA
  have F_hm := fun_mk (st := sHroom) l_hm c_hm k_hm
  have b1_hm := F_hm.binds (ps := ["self", "room"]) fun _ _ _ _ _ _ us hl => match us, hl with | [_, _], _ => rfl
  have F_hr := fun_mk (st := sHrooms) l_hr c_hr k_hr
  have b1_hr := F_hr.binds (ps := ["self"]) fun _ _ _ _ _ _ us hl => match us, hl with | [_], _ => rfl
  have F_hg := fun_mk (st := sHgoes) l_hg c_hg k_hg
  have b1_hg := F_hg.binds (ps := ["self", "side", "begun"]) fun _ _ _ _ _ _ us hl => match us, hl with | [_, _, _], _ => rfl
  have F_hwl := fun_mk (st := sHwalls) l_hwl c_hwl k_hwl
  have b1_hwl := F_hwl.binds (ps := ["self"]) fun _ _ _ _ _ _ us hl => match us, hl with | [_], _ => rfl
  have F_hfo := fun_mk (st := sHforced) l_hfo c_hfo k_hfo
  have b1_hfo := F_hfo.binds (ps := ["self", "side"]) fun _ _ _ _ _ _ us hl => match us, hl with | [_, _], _ => rfl
  have hp : HP K C f_hwl f_hfo _ _ := ⟨⟨b_hwl, m_hwl, k_hwl⟩, F_hwl, b1_hwl, ⟨b_hfo, m_hfo, k_hfo⟩, F_hfo, b1_hfo⟩
  have mm : HM K C f_hm f_hr f_hg _ _ _ := ⟨⟨b_hm, m_hm, k_hm⟩, F_hm, b1_hm, ⟨b_hr, m_hr, k_hr⟩, F_hr, b1_hr, ⟨b_hg, m_hg, k_hg⟩, F_hg, b1_hg⟩
  have Fb := fun_mk (st := sHbars) l_hb c_hb k_hb
  have FD : FunD K "__init__" "Hall.__init__" (defArgs sHinit) (defBody sHinit) (defScope sHinit) [.ref e_hi] [] f_hi _ := ⟨⟨_, _, _, _, _, _, _, _, _, _, rfl, l_hi, c_hi, .inr ⟨by simp, T_hi, _, [.ref e_hi], n_T, rfl, d_hi, rfl, .cons rfl .nil⟩, .inl rfl⟩, k_hi⟩
  obtain ⟨ds, hds, hbi⟩ := FD.binds1 (ps := ["self", "walls", "bars"]) 3 1 (by simp) rfl (fun _ _ _ _ _ _ _ us its h1 h2 => match us, its, h1, h2 with | [_, _, _], [_], _, _ => ⟨_, rfl, rfl⟩)
  have hds2 : ds = [] := by
    have z : Vals ([] : List V) ds := hds
    cases z
    rfl
  subst hds2
  have zz : HC K mg C f_hi f_hb _ _ := ⟨PySem.W.mg_of X G a_C, ⟨pg_C, hd_C, po_C, sa_C⟩, ⟨mk_C, i_C, j_C, kp_C⟩, ⟨_, FD⟩, hbi, n1_C, n2_C, n3_C, ⟨b_hb, m_hb, k_hb⟩, Fb, Fb.binds (ps := ["self"]) fun _ _ _ _ _ _ us hl => match us, hl with | [_], _ => rfl⟩
  have yy := NC.PT.mk hp D_isP D_chP D_afb D_to
  have ut := NC.CT.mk D_sh D_sc D_str D_goo D_alb D_nxb D_tkb D_tka D_chk D_wo (PySem.W.mg_of X G w_MOST_CALLS) (PySem.W.mg_none_of X G z_zip)
  have uq := NC.CTQ.mk D_sh D_sc D_chk D_wo (PySem.W.mg_of X G w_MOST_SENT)
  have uu := NC.CU.mk D_lm D_rw (PySem.W.mg_none_of X G z_min)
  have kwE : KBn K _ ["hall", "calls", "room", "most"] 3 ["most"] gApp gApp := kw_e (fd := PySem.W.fnOf "ends_within" "ends_within" (defArgs sEndsW) (defBody sEndsW) (defScope sEndsW) .none kV_ew dc_ew pm_ew an_ew cd_ew ct_ew) fun a b c d => rfl
  have kwS : KBn K _ ["hall", "calls", "room", "goal", "most"] 4 ["most"] gApp gApp := kw_s (fd := PySem.W.fnOf "surely_there" "surely_there" (defArgs sSurely) (defBody sSurely) (defScope sSurely) .none kV_su dc_su pm_su an_su cd_su ct_su) fun a b c d e => rfl
  have kwH : KBn K _ ["calls", "many"] 0 ["many", "calls"] gSw gSw := kw_h (fd := PySem.W.fnOf "hardened" "hardened" (defArgs sHarden) (defBody sHarden) (defScope sHarden) .none kV_hd dc_hd pm_hd an_hd cd_hd ct_hd) fun m c => rfl
  have ee : EX K CTm := ⟨⟨ga_CTm, gg_CTm, ex_CTm, hd_CTm⟩, exm_of ex_CTm ic_CTm ty_CTm e_CTm_CTm⟩
  have hh := Hlp.mk D_same D_start D_draw D_of D_letters D_shuts D_oth D_wit D_pairs D_all D_rms D_fine D_hall D_lsi D_lpa D_lsh D_cal D_told D_hd D_st_ F_ew (PySem.W.mg_of X G a_ew) F_su (PySem.W.mg_of X G a_su) kwE kwS kwH (PySem.W.mg_none_of X G z_any) (PySem.W.mg_none_of X G z_bool) (PySem.W.mg_none_of X G z_str)
  refine ⟨_, [(c, PT)], spLawT K [(PT, lamN (.ref c))], fun p hp => ?_, fun p hp => ?_, fun p hp => ?_, fun s u => .of_eq rfl, fun H a ns hl hb hH hS => ⟨a, ns, rfl, hS, fun p hp => ?_, fun _ => rfl⟩, fun base KB GB TB => ok_law (k := 0) l_L c_L (TB _ (List.mem_cons_self ..)) ee zz mm yy ut uq uu xCTm T8 hh⟩
  · rw [List.mem_singleton.mp hp]
    exact hPT
  · rw [List.mem_singleton.mp hp]
    exact nPT
  · rw [List.mem_singleton.mp hp]
    exact PySem.W.codeHd_of_K X h_L
  · rw [List.mem_singleton.mp hp]
    exact LamX.TabS.nil (hH _ (List.mem_cons_self ..))
end NC
open PySem PySem.W PyProof.Rows
set_option maxHeartbeats 0 in
theorem PySem.Challenge.cw_nearcall_k48_whole_hardened_rows_holds : PySem.Challenge.rw_nearcall_k48_whole_hardened_rows.Holds := by
  w_on; o_law; k_head; (case hw => w_witness2)
  k_fill
  refine LamX.walk_ofTs (l := PySem.Challenge.rw_nearcall_k48_whole_hardened_rows) (n := 63) (k := 11) (x := "_law_script") (CX := fun w => L2.CX0) rfl (by decide) rfl ⟨rfl, by decide, by decide⟩ (fun w h Y => PySem.W.km_in_of Y) ?F (fun _ _ _ _ _ h => h)
  case F =>
    intro w mg fa h Y KX G hmg
    refine' NC.all_mk (PT := 668) KX G hmg (PySem.W.km_tabs_of Y 668 (by k_mem)) ?nPT ?a_O ?l_O ?c_O ?k_O ?a_S ?l_S ?c_S ?k_S ?a_Y ?l_Y ?c_Y ?k_Y ?a_W ?l_W ?c_W ?k_W ?a_I ?l_I ?c_I ?k_I ?a_cw ?l_cw ?c_cw ?k_cw ?a_cb ?l_cb ?c_cb ?k_cb ?a_cs ?l_cs ?c_cs ?k_cs ?a_st ?l_st ?c_st ?k_st ?a_re ?l_re ?c_re ?k_re ?a_af ?l_af ?c_af ?k_af ?a_cf ?l_cf ?c_cf ?k_cf ?a_ca ?l_ca ?c_ca ?k_ca ?a_same ?l_same ?c_same ?k_same ?a_start ?l_start ?c_start ?k_start ?a_draw ?l_draw ?c_draw ?k_draw ?a_of ?l_of ?c_of ?k_of ?a_letters ?l_letters ?c_letters ?k_letters ?a_shuts ?l_shuts ?c_shuts ?k_shuts ?a_oth ?l_oth ?c_oth ?k_oth ?a_wit ?l_wit ?c_wit ?k_wit ?a_pairs ?l_pairs ?c_pairs ?k_pairs ?a_all ?l_all ?c_all ?k_all ?a_rms ?l_rms ?c_rms ?k_rms ?a_fine ?l_fine ?c_fine ?k_fine ?a_hall ?l_hall ?c_hall ?k_hall ?a_lsi ?l_lsi ?c_lsi ?k_lsi ?a_lpa ?l_lpa ?c_lpa ?k_lpa ?a_lsh ?l_lsh ?c_lsh ?k_lsh ?a_cal ?l_cal ?c_cal ?k_cal ?a_told ?l_told ?c_told ?k_told ?a_hd ?l_hd ?c_hd ?k_hd ?a_st_ ?l_st_ ?c_st_ ?k_st_ ?a_isP ?l_isP ?c_isP ?k_isP ?a_chP ?l_chP ?c_chP ?k_chP ?a_afb ?l_afb ?c_afb ?k_afb ?a_to ?l_to ?c_to ?k_to ?a_sh ?l_sh ?c_sh ?k_sh ?a_sc ?l_sc ?c_sc ?k_sc ?a_str ?l_str ?c_str ?k_str ?a_goo ?l_goo ?c_goo ?k_goo ?a_alb ?l_alb ?c_alb ?k_alb ?a_nxb ?l_nxb ?c_nxb ?k_nxb ?a_tkb ?l_tkb ?c_tkb ?k_tkb ?a_tka ?l_tka ?c_tka ?k_tka ?a_chk ?l_chk ?c_chk ?k_chk ?a_wo ?l_wo ?c_wo ?k_wo ?a_lm ?l_lm ?c_lm ?k_lm ?a_rw ?l_rw ?c_rw ?k_rw ?a_ew ?l_ew ?c_ew ?k_ew ?a_su ?l_su ?c_su ?k_su ?a_CH ?a_CB ?a_CF ?a_CA ?a_CTm ?i_H ?r_H ?g_H ?v_V ?x_CB ?rv_CB ?sa_CB ?ex_CB ?ty_CB ?kc_CB ?i_CB ?t_CB ?n_CB_word ?n_CB_at ?x_CF ?rv_CF ?sa_CF ?ex_CF ?ty_CF ?kc_CF ?i_CF ?t_CF ?n_CF_word ?n_CF_side ?x_CA ?rv_CA ?sa_CA ?ex_CA ?ty_CA ?kc_CA ?i_CA ?t_CA ?n_CA_word ?n_CA_one ?n_CA_other ?x_CTm ?rv_CTm ?sa_CTm ?ga_CTm ?gg_CTm ?hd_CTm ?ex_CTm ?ty_CTm ?kc_CTm ?i_CTm ?t_CTm ?n_CTm_word ?n_CTm_most ?l_iH ?c_iH ?k_iH ?l_iB ?c_iB ?k_iB ?l_iF ?c_iF ?k_iF ?l_iA ?c_iA ?k_iA ?l_iTm ?c_iTm ?k_iTm ?e_CTm_CTm ?ic_CTm ?a_C ?i_C ?j_C ?pg_C ?hd_C ?po_C ?sa_C ?mk_C ?kp_C ?n1_C ?n2_C ?n3_C ?b_hb ?m_hb ?l_hb ?c_hb ?k_hb ?b_hm ?m_hm ?l_hm ?c_hm ?k_hm ?b_hr ?m_hr ?l_hr ?c_hr ?k_hr ?b_hg ?m_hg ?l_hg ?c_hg ?k_hg ?b_hwl ?m_hwl ?l_hwl ?c_hwl ?k_hwl ?b_hfo ?m_hfo ?l_hfo ?c_hfo ?k_hfo ?l_hi ?c_hi ?k_hi ?d_hi ?z_list ?z_sorted ?z_set ?z_all ?z_len ?z_enumerate ?z_range ?z_isinstance ?z_tuple ?z_any ?z_ValueError ?z_bool ?z_str ?z_zip ?z_min ?w_W ?w_MOST_SENT ?w_MOST_CALLS ?a_L ?l_L ?c_L ?h_L
    (case nPT => kernel_rfl)
    (case a_O => k_is)
    (case l_O => k_is)
    (case c_O => k_is)
    (case k_O => k_is)
    (case a_S => k_is)
    (case l_S => k_is)
    (case c_S => k_is)
    (case k_S => k_is)
    (case a_Y => k_is)
    (case l_Y => k_is)
    (case c_Y => k_is)
    (case k_Y => k_is)
    (case a_W => k_is)
    (case l_W => k_is)
    (case c_W => k_is)
    (case k_W => k_is)
    (case a_I => k_is)
    (case l_I => k_is)
    (case c_I => k_is)
    (case k_I => k_is)
    (case a_cw => k_is)
    (case l_cw => k_is)
    (case c_cw => k_is)
    (case k_cw => k_is)
    (case a_cb => k_is)
    (case l_cb => k_is)
    (case c_cb => k_is)
    (case k_cb => k_is)
    (case a_cs => k_is)
    (case l_cs => k_is)
    (case c_cs => k_is)
    (case k_cs => k_is)
    (case a_st => k_is)
    (case l_st => k_is)
    (case c_st => k_is)
    (case k_st => k_is)
    (case a_re => k_is)
    (case l_re => k_is)
    (case c_re => k_is)
    (case k_re => k_is)
    (case a_af => k_is)
    (case l_af => k_is)
    (case c_af => k_is)
    (case k_af => k_is)
    (case a_cf => k_is)
    (case l_cf => k_is)
    (case c_cf => k_is)
    (case k_cf => k_is)
    (case a_ca => k_is)
    (case l_ca => k_is)
    (case c_ca => k_is)
    (case k_ca => k_is)
    (case a_same => k_is)
    (case l_same => k_is)
    (case c_same => k_is)
    (case k_same => k_is)
    (case a_start => k_is)
    (case l_start => k_is)
    (case c_start => k_is)
    (case k_start => k_is)
    (case a_draw => k_is)
    (case l_draw => k_is)
    (case c_draw => k_is)
    (case k_draw => k_is)
    (case a_of => k_is)
    (case l_of => k_is)
    (case c_of => k_is)
    (case k_of => k_is)
    (case a_letters => k_is)
    (case l_letters => k_is)
    (case c_letters => k_is)
    (case k_letters => k_is)
    (case a_shuts => k_is)
    (case l_shuts => k_is)
    (case c_shuts => k_is)
    (case k_shuts => k_is)
    (case a_oth => k_is)
    (case l_oth => k_is)
    (case c_oth => k_is)
    (case k_oth => k_is)
    (case a_wit => k_is)
    (case l_wit => k_is)
    (case c_wit => k_is)
    (case k_wit => k_is)
    (case a_pairs => k_is)
    (case l_pairs => k_is)
    (case c_pairs => k_is)
    (case k_pairs => k_is)
    (case a_all => k_is)
    (case l_all => k_is)
    (case c_all => k_is)
    (case k_all => k_is)
    (case a_rms => k_is)
    (case l_rms => k_is)
    (case c_rms => k_is)
    (case k_rms => k_is)
    (case a_fine => k_is)
    (case l_fine => k_is)
    (case c_fine => k_is)
    (case k_fine => k_is)
    (case a_hall => k_is)
    (case l_hall => k_is)
    (case c_hall => k_is)
    (case k_hall => k_is)
    (case a_lsi => k_is)
    (case l_lsi => k_is)
    (case c_lsi => k_is)
    (case k_lsi => k_is)
    (case a_lpa => k_is)
    (case l_lpa => k_is)
    (case c_lpa => k_is)
    (case k_lpa => k_is)
    (case a_lsh => k_is)
    (case l_lsh => k_is)
    (case c_lsh => k_is)
    (case k_lsh => k_is)
    (case a_cal => k_is)
    (case l_cal => k_is)
    (case c_cal => k_is)
    (case k_cal => k_is)
    (case a_told => k_is)
    (case l_told => k_is)
    (case c_told => k_is)
    (case k_told => k_is)
    (case a_hd => k_is)
    (case l_hd => k_is)
    (case c_hd => k_is)
    (case k_hd => k_is)
    (case a_st_ => k_is)
    (case l_st_ => k_is)
    (case c_st_ => k_is)
    (case k_st_ => k_is)
    (case a_isP => k_is)
    (case l_isP => k_is)
    (case c_isP => k_is)
    (case k_isP => k_is)
    (case a_chP => k_is)
    (case l_chP => k_is)
    (case c_chP => k_is)
    (case k_chP => k_is)
    (case a_afb => k_is)
    (case l_afb => k_is)
    (case c_afb => k_is)
    (case k_afb => k_is)
    (case a_to => k_is)
    (case l_to => k_is)
    (case c_to => k_is)
    (case k_to => k_is)
    (case a_sh => k_is)
    (case l_sh => k_is)
    (case c_sh => k_is)
    (case k_sh => k_is)
    (case a_sc => k_is)
    (case l_sc => k_is)
    (case c_sc => k_is)
    (case k_sc => k_is)
    (case a_str => k_is)
    (case l_str => k_is)
    (case c_str => k_is)
    (case k_str => k_is)
    (case a_goo => k_is)
    (case l_goo => k_is)
    (case c_goo => k_is)
    (case k_goo => k_is)
    (case a_alb => k_is)
    (case l_alb => k_is)
    (case c_alb => k_is)
    (case k_alb => k_is)
    (case a_nxb => k_is)
    (case l_nxb => k_is)
    (case c_nxb => k_is)
    (case k_nxb => k_is)
    (case a_tkb => k_is)
    (case l_tkb => k_is)
    (case c_tkb => k_is)
    (case k_tkb => k_is)
    (case a_tka => k_is)
    (case l_tka => k_is)
    (case c_tka => k_is)
    (case k_tka => k_is)
    (case a_chk => k_is)
    (case l_chk => k_is)
    (case c_chk => k_is)
    (case k_chk => k_is)
    (case a_wo => k_is)
    (case l_wo => k_is)
    (case c_wo => k_is)
    (case k_wo => k_is)
    (case a_lm => k_is)
    (case l_lm => k_is)
    (case c_lm => k_is)
    (case k_lm => k_is)
    (case a_rw => k_is)
    (case l_rw => k_is)
    (case c_rw => k_is)
    (case k_rw => k_is)
    (case a_ew => k_is)
    (case l_ew => k_is)
    (case c_ew => k_is)
    (case k_ew => k_is)
    (case a_su => k_is)
    (case l_su => k_is)
    (case c_su => k_is)
    (case k_su => k_is)
    (case a_CH => k_is)
    (case a_CB => k_is)
    (case a_CF => k_is)
    (case a_CA => k_is)
    (case a_CTm => k_is)
    (case i_H => k_is)
    (case r_H => k_is)
    (case g_H => k_is)
    (case v_V => k_is)
    (case x_CB => k_is)
    (case rv_CB => decide +kernel)
    (case sa_CB => k_is)
    (case ex_CB => k_is)
    (case ty_CB => k_is)
    (case kc_CB => k_is)
    (case i_CB => k_is)
    (case t_CB => k_is)
    (case n_CB_word => k_is)
    (case n_CB_at => k_is)
    (case x_CF => k_is)
    (case rv_CF => decide +kernel)
    (case sa_CF => k_is)
    (case ex_CF => k_is)
    (case ty_CF => k_is)
    (case kc_CF => k_is)
    (case i_CF => k_is)
    (case t_CF => k_is)
    (case n_CF_word => k_is)
    (case n_CF_side => k_is)
    (case x_CA => k_is)
    (case rv_CA => decide +kernel)
    (case sa_CA => k_is)
    (case ex_CA => k_is)
    (case ty_CA => k_is)
    (case kc_CA => k_is)
    (case i_CA => k_is)
    (case t_CA => k_is)
    (case n_CA_word => k_is)
    (case n_CA_one => k_is)
    (case n_CA_other => k_is)
    (case x_CTm => k_is)
    (case rv_CTm => decide +kernel)
    (case sa_CTm => k_is)
    (case ga_CTm => k_is)
    (case gg_CTm => k_is)
    (case hd_CTm => k_is)
    (case ex_CTm => k_is)
    (case ty_CTm => k_is)
    (case kc_CTm => k_is)
    (case i_CTm => k_is)
    (case t_CTm => k_is)
    (case n_CTm_word => k_is)
    (case n_CTm_most => k_is)
    (case l_iH => k_is)
    (case c_iH => k_is)
    (case k_iH => k_is)
    (case l_iB => k_is)
    (case c_iB => k_is)
    (case k_iB => k_is)
    (case l_iF => k_is)
    (case c_iF => k_is)
    (case k_iF => k_is)
    (case l_iA => k_is)
    (case c_iA => k_is)
    (case k_iA => k_is)
    (case l_iTm => k_is)
    (case c_iTm => k_is)
    (case k_iTm => k_is)
    (case e_CTm_CTm => first | k_is | kernel_rfl)
    (case ic_CTm => k_is)
    (case a_C => k_is)
    (case i_C => k_is)
    (case j_C => k_is)
    (case pg_C => k_is)
    (case hd_C => k_is)
    (case po_C => k_is)
    (case sa_C => k_is)
    (case mk_C => k_is)
    (case kp_C => k_is)
    (case n1_C => k_is)
    (case n2_C => k_is)
    (case n3_C => k_is)
    (case b_hb => k_is)
    (case m_hb => k_is)
    (case l_hb => k_is)
    (case c_hb => k_is)
    (case k_hb => k_is)
    (case b_hm => k_is)
    (case m_hm => k_is)
    (case l_hm => k_is)
    (case c_hm => k_is)
    (case k_hm => k_is)
    (case b_hr => k_is)
    (case m_hr => k_is)
    (case l_hr => k_is)
    (case c_hr => k_is)
    (case k_hr => k_is)
    (case b_hg => k_is)
    (case m_hg => k_is)
    (case l_hg => k_is)
    (case c_hg => k_is)
    (case k_hg => k_is)
    (case b_hwl => k_is)
    (case m_hwl => k_is)
    (case l_hwl => k_is)
    (case c_hwl => k_is)
    (case k_hwl => k_is)
    (case b_hfo => k_is)
    (case m_hfo => k_is)
    (case l_hfo => k_is)
    (case c_hfo => k_is)
    (case k_hfo => k_is)
    (case l_hi => k_is)
    (case c_hi => k_is)
    (case k_hi => k_is)
    (case d_hi => k_is)
    (case z_list => k_is)
    (case z_sorted => k_is)
    (case z_set => k_is)
    (case z_all => k_is)
    (case z_len => k_is)
    (case z_enumerate => k_is)
    (case z_range => k_is)
    (case z_isinstance => k_is)
    (case z_tuple => k_is)
    (case z_any => k_is)
    (case z_ValueError => k_is)
    (case z_bool => k_is)
    (case z_str => k_is)
    (case z_zip => k_is)
    (case z_min => k_is)
    (case w_W => k_is)
    (case w_MOST_SENT => k_is)
    (case w_MOST_CALLS => k_is)
    (case a_L => k_is)
    (case l_L => k_is)
    (case c_L => k_is)
    (case h_L => kernel_rfl)
