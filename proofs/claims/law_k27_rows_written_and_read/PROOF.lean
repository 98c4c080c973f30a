import PyProof.Rows.All
import Wide.All
import OpenK.AllK
import Wide.FinOn
import HandS.ForMost
import HandS.More
import HandS.Set
import HandS.ClsMeth
import HandS.ExcInit
import HandS.Lambda
import HandS.TryMany
import HandS.ExcField
import HandS.SetTxt0
import HandS.SetFor
import KE.GoesMore
import HandS.Walk
import HandS.DictComp
import HandS.WordsExc
import HandS.Defaults
import PySem.Challenge.RW_nearcall_k27_rows_written_and_read
import HandS.List
import HandS.IsInst
import HandS.Text
import KE.KIntText
import KE.GoesZip
import KE.GoesEnum
import HandS.Wide
import HandS.Conv
import HandS.Steps
import PyProof.Rows.RegStrCode
import HandS.EndTab
import KE.HD2
import HandS.Words
set_option Elab.async false
set_option linter.all false
set_option maxRecDepth 100000
namespace NC
open PySem PySem.Spec PyProof.Rows L2
def sg (c : Nat) : Str := ⟨#[c]⟩
def sgs (x : Str) : List Str := x.cps.toList.map sg
section
variable {X : Cx}
theorem items_strs {x : Str} {acc : Array Value} (h : ItemsOf (SignAt x) acc x.cps.size) : StrsAre acc.toList (sgs x) := by
  refine strs_at (by simp [sgs, h.1]) fun j v e => ?_
  obtain ⟨c, u, hc, hv⟩ := h.2 j v (by simpa using e)
  exact ⟨sg c, u, by simp [sgs, hc], hv⟩
/-- list(text) -/
theorem cr_listS (hc : X.calm = true) : CallR X (.type "list") (fun xs H Q => ∃ z, xs = [.str z] ∧ z.length ≤ sizeLine ∧ ∀ l, H l = none → Q (.ref l) (upd H l (.lst ((sgs z).map V.str)))) := by
  intro pins s σ H xs us Q I r h
  obtain ⟨z, rfl, hz, q⟩ := h
  obtain ⟨u, rfl, t, rfl⟩ := vals1 r
  refine call_list_str (I.ok.hd hc) z t (hn := hz) fun h' tk acc' c' hk hS' hacc => ?_
  have hl : ((sgs z).map V.str).length ≤ sizeLine := by
    rw [List.length_map]; unfold sgs; rw [List.length_map, Array.length_toList]; exact hz
  refine ⟨.ref s.heap.objs.size, upd H s.heap.objs.size (.lst ((sgs z).map V.str)), I.laid hk (Nat.le_refl _) ⟨hl, acc'.toList, c', vals_of_strs (items_strs hacc), by simpa using hS'⟩, rfl, q _ (I.hok.fresh (Nat.le_refl _))⟩
end
end NC
namespace NC
open PySem PySem.Spec PyProof.Rows L2
section
variable {X : Cx} {CX : CXT} {k : Nat} {C f : Addr} {mc : Value} {sp : Sp} {E : XK} {e : Expr} {es : List Expr} {x m : Str} {pos p1 p2 : Pos} {t : TA} {pl : Sem Bool}
  {fd : FuncData} {ps : List Str} {dvs : List V} {ds : List Value}
/-- C.m(e, ..), C an own class by its name, m a plain def of it -/
theorem pe_clsfn (hg : Gl X x) (hm : X.mg x = some (.ref C)) (rd : ClX.CRead X.K C mc) (kv : PySem.W.findCls X.K (.ref C) mc m = some (.val (.ref f)))
    (F : FnOk X.prog X.w X.K X.mg X.base CX k f fd ps sp) (hr : Room k X.A) (hk : PySem.W.keepIn X.K (.ref f) = true) (hb : Binds X.K fd ps ds) (hd : Vals dvs ds) (hx : Passes CX X E) (ha : PA X (e :: es) t)
    (hdb : (x == ("__debug__" : Str)) = false := by decide)
    (hst : starEach (e :: es) X.env = (false, eval e X.env) :: starEach es X.env := by rfl) (hpl : (backTo pos (starEach es X.env)).any (·.1) = false := by rfl)
    (ht : eval (.Call (.Attribute (.Name x p1) m p2) (e :: es) [] pos) X.env = (do
      let ov ← eval (.Name x p1) X.env
      standAt p2.atName
      let (g, first) ← holding [ov] (getMethod ov m pl)
      callWith pos g first (backTo pos (starEach (e :: es) X.env)) (backToKw pos (keywordEach [] X.env))) := by rfl) :
    PE X (.Call (.Attribute (.Name x p1) m p2) (e :: es) [] pos) (tCall sp dvs E t) := by
  refine ⟨fun pins s0 σ H Q I0 h0 => ?_⟩
  refine PySem.W.methodCall_KW (pl := pl) (ld_glob I0 hg hm ?_ hdb) ht
  refine PySem.W.method_cls I0.kIn rd.ga (ClX.getcval_ok (v := .ref f) I0 rd ⟨kv, rfl⟩ fun s1 I1 => ?_)
  refine PySem.W.callWith_K (first := []) (h₀ := X.base) I1.ok.mod.kin hk (thn (ha.run pos pins s1 σ H _ I1 h0) fun us s2 ⟨vs, H2, I2, r2, q2⟩ => ⟨I2.kIn, ?_⟩) hst hpl
  exact run_fn (us := us) (vs := vs) F hr hb hd hx I2 r2 q2
end
end NC
namespace NC
open PySem PySem.Spec PyProof.Rows L2
def tx (l : List Nat) : Str := ⟨l.toArray⟩
def upc (c : Nat) : Nat := if 97 ≤ c ∧ c ≤ 122 then c - 32 else c
theorem sg_tx (c : Nat) : sg c = tx [c] := rfl
theorem tx_list (l : List Nat) : (tx l).cps.toList = l := by simp [tx]
theorem tx_len (l : List Nat) : (tx l).length = l.length := by show (tx l).cps.size = l.length; simp [tx]
theorem tx_inj {a b : List Nat} (h : tx a = tx b) : a = b := by rw [← tx_list a, h, tx_list]
theorem tx_app (a b : List Nat) : tx a ++ tx b = tx (a ++ b) := by
  show Str.mk (a.toArray ++ b.toArray) = Str.mk (a ++ b).toArray
  simp
theorem up1_eq : ∀ c : Nat, c < 128 → up1 c = upc c := by
  have h : ∀ c : Fin 128, up1 c.val = upc c.val := by decide +kernel
  exact fun c hc => h ⟨c, hc⟩
theorem upper_tx {l : List Nat} (h : ∀ c ∈ l, c < 128) : Txt.upper (tx l) = tx (l.map upc) := by
  rw [upper_ascii (by rw [tx_list]; exact h)]
  show Str.mk (l.toArray.map up1) = Str.mk (l.map upc).toArray
  rw [List.map_toArray, List.map_congr_left fun c hc => up1_eq c (h c hc)]
structure GoodW (l : List Nat) : Prop where
  lo : 1 ≤ l.length
  hi : l.length ≤ 12
  sm : ∀ c ∈ l, 97 ≤ c ∧ c ≤ 122
  rise : l.Pairwise (· < ·)
theorem GoodW.nd {l : List Nat} (g : GoodW l) : l.Nodup := g.rise.imp fun h => Nat.ne_of_lt h
theorem upc_small {c : Nat} (h : 97 ≤ c ∧ c ≤ 122) : upc c = c - 32 := by unfold upc; rw [if_pos h]
theorem same_upd {H : Hp} {p : Addr} {o : HO} (h : H p = none) : Same H (upd H p o) := fun b x e => by
  rw [upd_ne (ne_of_none e h)]
  exact e
theorem sm_t {K : PySem.W.Frag} {H H' : Hp} {a : Addr} {xs : List V} (e : Same H H') (h : SqT K H a xs) : SqT K H' a xs := by
  rcases h with (h | ⟨o, h⟩) | h
  · exact .inl (.inl (e _ _ h))
  · exact .inl (.inr ⟨o, e _ _ h⟩)
  · exact .inr h
theorem yes_i {σ : L2.St} {H : Hp} {A B : Hp → Prop} (h : A H) : tYes σ H (fun b H3 => if b = true then A H3 else B H3) := show (if true = true then A H else B H) from iteT h
theorem sm_trans {H H1 H2 : Hp} (a : Same H H1) (b : Same H1 H2) : Same H H2 := fun c o h => b c o (a c o h)
theorem sm_upd {H H1 : Hp} {p : Addr} {o : HO} (e : Same H H1) (h : H1 p = none) : Same H (upd H1 p o) := sm_trans e (same_upd h)
/-- a store at what was new -/
theorem sm_over {H H1 : Hp} {p : Addr} {o : HO} (e : Same H H1) (h : H p = none) : Same H (upd H1 p o) := fun b x hb => by
  rw [upd_ne (ne_of_none hb h)]
  exact e b x hb
theorem sm_l {K : PySem.W.Frag} {H H' : Hp} {a : Addr} {xs : List V} (e : Same H H') (h : SqL K H a xs) : SqL K H' a xs := L2.Same.seq e h
end NC
namespace NC
open PySem PySem.Spec PyProof.Rows L2
def okS (x : Str) : Prop := ∀ c ∈ x.cps.toList, c < 128
theorem okS_tx {l : List Nat} (h : ∀ c ∈ l, c < 128) : okS (tx l) := by unfold okS; rw [tx_list]; exact h
theorem strOk_of {x : Str} (h : okS x) : PyData.strOk x = true := by
  unfold PyData.strOk
  rw [← Array.all_toList, List.all_eq_true]
  intro c hc
  have := h c hc
  simp
  omega
theorem canAll_strs : ∀ xs : List Str, (∀ x ∈ xs, okS x) → PyData.canLayAll0 (xs.map .str) = true
  | [], _ => rfl
  | x :: r, h => by
    show (PyData.strOk x && PyData.canLayAll0 (r.map .str)) = true
    rw [strOk_of (h x (List.mem_cons_self ..)), canAll_strs r fun y hy => h y (List.mem_cons_of_mem _ hy)]
    rfl
theorem depAll_strs : ∀ xs : List Str, PyData.depthAll (xs.map .str) = 0
  | [] => rfl
  | x :: r => by
    show max 0 (PyData.depthAll (r.map .str)) = 0
    rw [depAll_strs r]
    rfl
theorem shaped_strs {xs : List Str} (h : ∀ x ∈ xs, okS x) : SeqAt.shaped (.list (xs.map .str)) = true := by
  show (PyData.canLayAll0 (xs.map .str) && decide (PyData.depthAll (xs.map .str) + 1 ≤ 64)) = true
  rw [canAll_strs xs h, depAll_strs]
  rfl
theorem dpAll_strs {K : PySem.W.Frag} {H : Hp} : ∀ xs : List Str, DpAll K H (xs.map V.str) (xs.map .str)
  | [] => .nil
  | x :: r => .cons (.str x) (dpAll_strs r)
end NC
namespace NC
open PySem PySem.Spec PyProof.Rows L2
theorem fold_glue (e : Array Nat) (he : e = #[]) : ∀ (r : List (List Nat)) (acc : Array Nat), (r.map tx).foldl (fun acc p => acc ++ e ++ p.cps) acc = acc ++ r.flatten.toArray
  | [], acc => by simp
  | x :: r, acc => by
    rw [List.map_cons, List.foldl_cons, fold_glue e he r, he]
    simp [tx]
theorem join_tx (xs : List (List Nat)) : Txt.join (Str.ofString "") (xs.map tx) = tx xs.flatten := by
  have e0 : (Str.ofString "").cps = #[] := by decide +kernel
  show (⟨((xs.map tx).drop 1).foldl (fun acc p => acc ++ (Str.ofString "").cps ++ p.cps) ((xs.map tx).headD Str.empty).cps⟩ : Str) = _
  cases xs with
  | nil => rfl
  | cons x r =>
    show (⟨(r.map tx).foldl (fun acc p => acc ++ (Str.ofString "").cps ++ p.cps) x.toArray⟩ : Str) = _
    rw [fold_glue _ e0]
    show Str.mk _ = Str.mk _
    simp
/-- ''.join of signs -/
theorem join_sg (l : List Nat) : Txt.join (Str.ofString "") (l.map sg) = tx l := by
  have e2 : ∀ l : List Nat, (l.map fun c => [c]).flatten = l := fun l => by
    induction l with
    | nil => rfl
    | cons x r ih => simp [ih]
  have e := join_tx (l.map fun c => [c])
  rw [List.map_map, e2] at e
  exact e
end NC
namespace NC
open PySem PySem.Spec PyProof.Rows L2
def SmX (x : Addr) (H H' : Hp) : Prop := ∀ b o, b ≠ x → H b = some o → H' b = some o
end NC
namespace NC
open PySem PySem.Spec PyProof.Rows L2
def topS (i : Nat) : Stmt := PySem.Challenge.pw_nearcall_k27_rows_written_and_read.main.body.getD i (.Pass ⟨0, 0, 0, 0⟩)
/-- the built-ins are the built-ins -/
structure BM (mg : Str → Option Value) : Prop where
  list : mg "list" = none
  sorted : mg "sorted" = none
  set : mg "set" = none
  all : mg "all" = none
  len : mg "len" = none
  enumerate : mg "enumerate" = none
  range : mg "range" = none
  isinstance : mg "isinstance" = none
  tuple : mg "tuple" = none
/-- a def of the top, by its name -/
structure DF (K : PySem.W.Frag) (mg : Str → Option Value) (x : Str) (st : Stmt) (ps : List Str) (f : Addr) (fd : FuncData) : Prop where
  F : Fun K x x st f fd
  g : mg x = some (.ref f)
  b : Binds K fd ps []
end NC
namespace NC
open PySem PySem.Spec PyProof.Rows L2
abbrev sStart : Stmt := topS 30
abbrev sDraw : Stmt := topS 31
abbrev sOf : Stmt := topS 32
abbrev sLetters : Stmt := topS 34
theorem scStart : FnScope ["_law_script", "_law_seed", "_law_cell"] ["_law_script"] (defScope sStart) := ⟨rfl, rfl, rfl, by decide +kernel, rfl, by decide +kernel, by decide +kernel⟩
theorem scDraw : FnScope ["_law_d", "_law_many", "_law_cell", "_law_digit", "_law_mix"] ["_law_d", "_law_many"] (defScope sDraw) := ⟨rfl, rfl, rfl, by decide +kernel, rfl, by decide +kernel, by decide +kernel⟩
theorem scOf : FnScope ["_law_d", "_law_some"] ["_law_d", "_law_some"] (defScope sOf) := ⟨rfl, rfl, rfl, by decide +kernel, rfl, by decide +kernel, by decide +kernel⟩
theorem scLetters : FnScope [] [] (defScope sLetters) := ⟨rfl, rfl, rfl, by decide +kernel, rfl, by decide +kernel, by decide +kernel⟩
def Dr (H : Hp) (d : Addr) : Prop := ∃ (c : Addr) (ns : List Int) (i a b e : Int), H d = some (.lst [.ref c, .int i, .int a, .int b, .int e]) ∧ H c = some (.lst (ns.map V.int)) ∧ 0 ≤ i
theorem SmX.refl (x : Addr) (H : Hp) : SmX x H H := fun _ _ _ h => h
theorem SmX.trans {x : Addr} {H H1 H2 : Hp} (a : SmX x H H1) (b : SmX x H1 H2) : SmX x H H2 := fun c o n h => b c o n (a c o n h)
theorem SmX.of {x : Addr} {H H1 : Hp} (a : Same H H1) : SmX x H H1 := fun c o _ h => a c o h
theorem SmX.upd {x : Addr} {H : Hp} {o : HO} : SmX x H (L2.upd H x o) := fun c z n h => by rw [upd_ne n]; exact h
/-- all but d's list stays, and the first of d's list too -/
def HeadC (H : Hp) (d c : Addr) : Prop := ∃ r, H d = some (.lst (.ref c :: r))
def SmD (d : Addr) (H H' : Hp) : Prop := SmX d H H' ∧ ∀ c, HeadC H d c → HeadC H' d c
theorem SmD.refl (x : Addr) (H : Hp) : SmD x H H := ⟨SmX.refl x H, fun _ h => h⟩
theorem SmD.trans {x : Addr} {H H1 H2 : Hp} (a : SmD x H H1) (b : SmD x H1 H2) : SmD x H H2 := ⟨a.1.trans b.1, fun c h => b.2 c (a.2 c h)⟩
theorem SmD.of {x : Addr} {H H1 : Hp} (a : Same H H1) : SmD x H H1 := ⟨SmX.of a, fun _ ⟨r, h⟩ => ⟨r, a _ _ h⟩⟩
theorem SmD.upd {x c : Addr} {H : Hp} {r r' : List V} (h : H x = some (.lst (.ref c :: r))) : SmD x H (L2.upd H x (.lst (.ref c :: r'))) := ⟨SmX.upd, fun c2 ⟨r2, h2⟩ => by
  rw [h] at h2
  have e : c = c2 := by
    injection h2 with h3
    injection h3 with h3
    injection h3 with h3 _
    injection h3
  exact ⟨r', by rw [← e]; exact upd_same⟩⟩
theorem dr_ne {H : Hp} {c d : Addr} {ns : List Int} {x : Addr} {i a b e : Int} (h1 : H d = some (.lst [.ref x, .int i, .int a, .int b, .int e])) (h2 : H c = some (.lst (ns.map V.int))) : c ≠ d := ne_of h2 h1 fun z => by
  have z2 : ns.map V.int = [.ref x, .int i, .int a, .int b, .int e] := by injection z
  cases ns with
  | nil => cases z2
  | cons n r =>
    rw [List.map_cons] at z2
    injection z2 with z3 _
    cases z3
theorem Dr.same {H H' : Hp} {d : Addr} (h : Dr H d) (e : Same H H') : Dr H' d := by
  obtain ⟨c, ns, i, a, b, f, h1, h2, h3⟩ := h
  exact ⟨c, ns, i, a, b, f, e _ _ h1, e _ _ h2, h3⟩
section
variable {P : Program} {w : World} {K : PySem.W.Frag} {mg : Str → Option Value} {base : Heap}
def spDraw : Sp := fun vs H Q _ => ∃ d n, vs = [.ref d, .int n] ∧ Dr H d ∧ 1 ≤ n ∧ n ≤ 1000000000 ∧ ∀ H' v, SmD d H H' → Dr H' d → 0 ≤ v → v < n → Q (.int v) H'
set_option maxHeartbeats 1000000 in
theorem ok_draw {f : Addr} {fd : FuncData} {k : Nat} (B : BM mg) (F : Fun K "_law_draw" "_law_draw" sDraw f fd) : FnOk P w K mg base CX0 (k + 1) f fd ["_law_d", "_law_many"] spDraw := by
  refine F.ok scDraw (fun vs H Q E h => ?_) (fun cdv A outer s H vs Q E hr h => ?_)
  · obtain ⟨d, n, rfl, _⟩ := h
    rfl
  · obtain ⟨d, n, rfl, D, hn1, hn2, q⟩ := h
    refine ⟨_, C8.pss_cut (ps_if (PW.pt (pw_and (pt_cmpR op_lt (pe_ix ix_list (pv 0) pe_int (fun _ _ => rfl)) (pv 1) (nomark _))
        (pw_and1 (pt_cmpR op_lt (pe_ix ix_list (pv 0) pe_int (fun _ _ => rfl)) (pe_callB call_len_seq (by rfl) B.len PySem.boot_len (pa_cons (pe_ix ix_list (pv 0) pe_int (fun _ _ => rfl)) pa_nil)) (nomark _)))))
      (pss_cons (ps_set (i := 2) scDraw.nd rfl (.inl rfl) (pe_ix ix_list (pe_ix ix_list (pv 0) pe_int (fun _ _ => rfl)) (pe_ix ix_list (pv 0) pe_int (fun _ _ => rfl)) (fun _ _ => rfl)))
      (pss_cons (ps_asg (pe_op op_add (pe_ix ix_list (pv 0) pe_int (fun _ _ => rfl)) pe_int) (pg_sub (pv 0) pe_int set_list))
      (pss_cons (ps_asg (pe_ifExp (pt_cmpR op_ge (pv 2) (pe_op op_pow pe_int pe_int) (nomark _)) (pv 2) pe_int) (pg_sub (pv 0) pe_int set_list))
      (pss_one (ps_asg (pe_op op_mod (pe_op op_add (pe_op op_add (pe_op op_mul (pe_ix ix_list (pv 0) pe_int (fun _ _ => rfl)) pe_int) (pe_op op_mod (pv 2) pe_int)) pe_int) pe_int) (pg_sub (pv 0) pe_int set_list)))))) pss_nil)
      (pss_cons (ps_if (pt_cmpR op_ge (pe_ix ix_list (pv 0) pe_int (fun _ _ => rfl)) (pv 1) (nomark _))
        (pss_cons (ps_set (i := 3) scDraw.nd rfl (.inl rfl) (pe_op op_mod (pe_ix ix_list (pv 0) pe_int (fun _ _ => rfl)) (pv 1)))
        (pss_cons (ps_asg (pe_op op_fdiv (pe_ix ix_list (pv 0) pe_int (fun _ _ => rfl)) (pv 1)) (pg_sub (pv 0) pe_int set_list))
        (pss_one (ps_ret (pv 3))))) pss_nil)
      (pss_cons (ps_asg (pe_op op_add (pe_ix ix_list (pv 0) pe_int (fun _ _ => rfl)) pe_int) (pg_sub (pv 0) pe_int set_list))
      (pss_cons (ps_set (i := 4) scDraw.nd rfl (.inl rfl) (pe_op op_add (pe_op op_add (pe_op op_mul (pe_ix ix_list (pv 0) pe_int (fun _ _ => rfl)) pe_int) (pe_op op_mul (pe_ix ix_list (pv 0) pe_int (fun _ _ => rfl)) pe_int)) pe_int))
      (pss_cons (ps_set (i := 4) scDraw.nd rfl (.inl rfl) (pe_op op_add (pe_op op_mul (pv 4) (pe_op op_add (pe_op op_mod (pv 4) pe_int) pe_int)) (pe_op op_mul (pe_ix ix_list (pv 0) pe_int (fun _ _ => rfl)) pe_int)))
      (pss_cons (ps_asg (pe_op op_mod (pv 4) pe_int) (pg_sub (pv 0) pe_int set_list))
      (pss_one (ps_ret (pe_op op_mod (pe_op op_add (pe_op op_fdiv (pe_ix ix_list (pv 0) pe_int (fun _ _ => rfl)) pe_int) (pe_op op_mul (pe_op op_mod (pe_ix ix_list (pv 0) pe_int (fun _ _ => rfl)) pe_int) pe_int)) (pv 1))))))))), ?_⟩
    obtain ⟨c, ns, i, a, b, e, hd, hc, hi⟩ := D
    have nc := dr_ne hd hc
    refine ⟨fun σ H' => ∃ y2 y3 y4, σ = [some (.ref d), some (.int n), y2, y3, y4] ∧ SmD d H H' ∧ Dr H' d, ?_, ?_⟩
    · refine ⟨_, rfl, d, _, 2, .int a, rfl, rfl, SqL.of hd, rfl, _, rfl, _, _, rfl, rfl, _, rfl, ite2 (fun t1 => ?_) (fun t1 => ?_)⟩
      · refine ⟨_, rfl, d, _, 1, .int i, rfl, rfl, SqL.of hd, rfl, _, rfl, d, _, 0, .ref c, rfl, rfl, SqL.of hd, rfl, c, _, rfl, .inl (SqL.of hc), _, _, rfl, rfl, _, rfl, ite2 (fun t2 => ?_) (fun t2 => ?_)⟩
        · have hil : i < (ns.length : Int) := by
            have := of_decide_eq_true t2
            rw [List.length_map] at this
            exact this
          obtain ⟨j, rfl⟩ := Int.eq_ofNat_of_zero_le hi
          have hjl : j < ns.length := by omega
          have hat : (ns.map V.int)[j]? = some (.int ns[j]) := by rw [List.getElem?_map, List.getElem?_eq_getElem hjl]; rfl
          refine ⟨_, rfl, d, _, 0, .ref c, rfl, rfl, SqL.of hd, rfl, _, rfl, d, _, 1, .int j, rfl, rfl, SqL.of hd, rfl, c, _, j, .int ns[j], rfl, rfl, SqL.of hc, atI_nat hat, ?_⟩
          generalize ns[j] = z
          refine ⟨_, rfl, d, _, 1, .int j, rfl, rfl, SqL.of hd, rfl, _, _, rfl, rfl, _, rfl, d, _, 1, 1, rfl, rfl, hd, rfl, ?_⟩
          have fin : ∀ (H2 : Hp) (z2 : Int), SmD d H H2 → H2 d = some (.lst [.ref c, .int ((j : Int) + 1), .int z2, .int b, .int e]) →
              ∃ H3, SmD d H H3 ∧ Dr H3 d ∧ H3 = upd H2 d (.lst ([.ref c, .int ((j : Int) + 1), .int z2, .int b, .int e].set 3 (.int ((b * 69621 + z % 998244353 + 1) % 2147483647)))) := fun H2 z2 s2 e2 =>
            ⟨_, s2.trans (SmD.upd e2), ⟨c, ns, _, _, _, _, upd_same, by rw [upd_ne nc]; exact s2.1 _ _ nc hc, by omega⟩, rfl⟩
          refine ⟨_, rfl, _, _, rfl, rfl, ⟨by decide, by decide, by decide⟩, _, _, rfl, rfl, _, rfl, ite2 (fun t3 => ?_) (fun t3 => ?_)⟩
          · refine ⟨_, rfl, _, rfl, d, _, 2, 2, rfl, rfl, upd_same, rfl, ?_⟩
            rw [L2.upd_upd]
            obtain ⟨H3, a1, a2, a3⟩ := fin (upd H d (.lst [.ref c, .int ((j : Int) + 1), .int z, .int b, .int e])) z (SmD.upd hd) upd_same
            refine ⟨_, rfl, d, _, 3, .int b, rfl, rfl, SqL.of upd_same, rfl, _, _, rfl, rfl, .inr ⟨by decide, by decide⟩, _, rfl, _, _, rfl, rfl, (by show (0 : Int) < 998244353; decide), _, _, rfl, rfl, _, _, rfl, rfl, _, _, rfl, rfl, (by show (0 : Int) < 2147483647; decide), _, rfl, d, _, 3, 3, rfl, rfl, upd_same, rfl, ?_⟩
            exact ⟨_, _, _, rfl, by rw [a3] at a1; exact a1, by rw [a3] at a2; exact a2⟩
          · refine ⟨_, rfl, d, _, 2, 2, rfl, rfl, upd_same, rfl, ?_⟩
            rw [L2.upd_upd]
            obtain ⟨H3, a1, a2, a3⟩ := fin (upd H d (.lst [.ref c, .int ((j : Int) + 1), .int 0, .int b, .int e])) 0 (SmD.upd hd) upd_same
            refine ⟨_, rfl, d, _, 3, .int b, rfl, rfl, SqL.of upd_same, rfl, _, _, rfl, rfl, .inr ⟨by decide, by decide⟩, _, rfl, _, _, rfl, rfl, (by show (0 : Int) < 998244353; decide), _, _, rfl, rfl, _, _, rfl, rfl, _, _, rfl, rfl, (by show (0 : Int) < 2147483647; decide), _, rfl, d, _, 3, 3, rfl, rfl, upd_same, rfl, ?_⟩
            exact ⟨_, _, _, rfl, by rw [a3] at a1; exact a1, by rw [a3] at a2; exact a2⟩
        · exact ⟨_, _, _, rfl, SmD.refl _ _, c, ns, i, a, b, e, hd, hc, hi⟩
      · exact iteF ⟨_, _, _, rfl, SmD.refl _ _, c, ns, i, a, b, e, hd, hc, hi⟩
    · rintro σ H1 ⟨y2, y3, y4, rfl, s1, c1, ns1, i1, a1, b1, e1, hd1, hc1, hi1⟩
      have nc1 := dr_ne hd1 hc1
      refine ⟨_, rfl, d, _, 2, .int a1, rfl, rfl, SqL.of hd1, rfl, _, rfl, _, _, rfl, rfl, _, rfl, ite2 (fun t1 => ?_) (fun t1 => ?_)⟩
      · refine ⟨_, rfl, d, _, 2, .int a1, rfl, rfl, SqL.of hd1, rfl, _, rfl, _, _, rfl, rfl, (by show 0 < n; omega), ?_⟩
        refine ⟨_, rfl, d, _, 2, .int a1, rfl, rfl, SqL.of hd1, rfl, _, rfl, _, _, rfl, rfl, ⟨by omega, by omega⟩, _, rfl, d, _, 2, 2, rfl, rfl, hd1, rfl, ?_⟩
        refine ⟨_, rfl, q _ _ (s1.trans (SmD.upd hd1)) ⟨c1, ns1, _, _, _, _, upd_same, by rw [upd_ne nc1]; exact hc1, hi1⟩ (Int.emod_nonneg _ (by omega)) (Int.emod_lt_of_pos _ (by omega))⟩
      · refine ⟨_, rfl, d, _, 4, .int e1, rfl, rfl, SqL.of hd1, rfl, _, _, rfl, rfl, _, rfl, d, _, 4, 4, rfl, rfl, hd1, rfl, ?_⟩
        have hd2 : (upd H1 d (.lst ([.ref c1, .int i1, .int a1, .int b1, .int e1].set 4 (.int (e1 + 1))))) d = some (.lst [.ref c1, .int i1, .int a1, .int b1, .int (e1 + 1)]) := upd_same
        refine ⟨_, rfl, d, _, 3, .int b1, rfl, rfl, SqL.of hd2, rfl, _, _, rfl, rfl, .inr ⟨by decide, by decide⟩, _, rfl, d, _, 4, .int (e1 + 1), rfl, rfl, SqL.of hd2, rfl, _, _, rfl, rfl, .inr ⟨by decide, by decide⟩, _, _, rfl, rfl, _, _, rfl, rfl, ?_⟩
        have m1 : 0 ≤ (b1 * 16807 + (e1 + 1) * 40692 + 7) % 65521 := Int.emod_nonneg _ (by decide)
        have m2 : (b1 * 16807 + (e1 + 1) * 40692 + 7) % 65521 < 65521 := Int.emod_lt_of_pos _ (by decide)
        refine ⟨_, rfl, _, rfl, _, _, rfl, rfl, (by show (0 : Int) < 65521; decide), _, _, rfl, rfl, _, _, rfl, rfl, .inr ⟨by show -(2 ^ 64) < (b1 * 16807 + (e1 + 1) * 40692 + 7) % 65521 + 3; omega, by show (b1 * 16807 + (e1 + 1) * 40692 + 7) % 65521 + 3 < 2 ^ 64; omega⟩, _, rfl, d, _, 4, .int (e1 + 1), rfl, rfl, SqL.of hd2, rfl, _, _, rfl, rfl, .inr ⟨by decide, by decide⟩, _, _, rfl, rfl, ?_⟩
        refine ⟨_, rfl, _, _, rfl, rfl, (by show (0 : Int) < 2147483629; decide), _, rfl, d, _, 3, 3, rfl, rfl, hd2, rfl, ?_⟩
        have hd3 : (upd (upd H1 d (.lst ([.ref c1, .int i1, .int a1, .int b1, .int e1].set 4 (.int (e1 + 1))))) d (.lst ([.ref c1, .int i1, .int a1, .int b1, .int (e1 + 1)].set 3 (.int (((b1 * 16807 + (e1 + 1) * 40692 + 7) * ((b1 * 16807 + (e1 + 1) * 40692 + 7) % 65521 + 3) + (e1 + 1) * 9176) % 2147483629))))) d = some (.lst [.ref c1, .int i1, .int a1, .int (((b1 * 16807 + (e1 + 1) * 40692 + 7) * ((b1 * 16807 + (e1 + 1) * 40692 + 7) % 65521 + 3) + (e1 + 1) * 9176) % 2147483629), .int (e1 + 1)]) := upd_same
        refine ⟨_, rfl, d, _, 3, .int (((b1 * 16807 + (e1 + 1) * 40692 + 7) * ((b1 * 16807 + (e1 + 1) * 40692 + 7) % 65521 + 3) + (e1 + 1) * 9176) % 2147483629), rfl, rfl, SqL.of hd3, rfl, _, _, rfl, rfl, ⟨by decide, by decide⟩, _, rfl, d, _, 3, .int (((b1 * 16807 + (e1 + 1) * 40692 + 7) * ((b1 * 16807 + (e1 + 1) * 40692 + 7) % 65521 + 3) + (e1 + 1) * 9176) % 2147483629), rfl, rfl, SqL.of hd3, rfl, _, _, rfl, rfl, (by show (0 : Int) < 8191; decide), _, _, rfl, rfl, .inr ⟨by decide, by decide⟩, _, _, rfl, rfl, _, rfl, _, _, rfl, rfl, (by show 0 < n; omega), ?_⟩
        refine q _ _ ((s1.trans (SmD.upd hd1)).trans (SmD.upd hd2)) ⟨c1, ns1, _, _, _, _, hd3, by rw [upd_ne nc1, upd_ne nc1]; exact hc1, hi1⟩ (Int.emod_nonneg _ (by omega)) (Int.emod_lt_of_pos _ (by omega))
end
end NC
namespace NC
open PySem PySem.Spec PyProof.Rows L2
def ltrs : List Nat := (List.range 26).map (· + 97)
theorem ltrs_eq : Str.ofString "abcdefghijklmnopqrstuvwxyz" = tx ltrs := by decide +kernel
theorem ltrs_at {i c : Nat} (h : ltrs[i]? = some c) : c = 97 + i ∧ i < 26 := by
  unfold ltrs at h
  rw [List.getElem?_map] at h
  obtain ⟨j, hj, e⟩ := Option.map_eq_some_iff.mp h
  obtain ⟨h1, h2⟩ := List.getElem?_eq_some_iff.mp hj
  rw [List.getElem_range] at h2
  rw [List.length_range] at h1
  omega
theorem smx_l {K : PySem.W.Frag} {d : Addr} {H H' : Hp} {a : Addr} {xs : List V} (e : SmX d H H') (n : a ≠ d) (h : SqL K H a xs) : SqL K H' a xs := by
  rcases h with (h | ⟨o, h⟩) | h
  · exact .inl (.inl (e _ _ n h))
  · exact .inl (.inr ⟨o, e _ _ n h⟩)
  · exact .inr h
section
variable {P : Program} {w : World} {K : PySem.W.Frag} {mg : Str → Option Value} {base : Heap}
def spStart (K : PySem.W.Frag) : Sp := fun vs H Q _ => ∃ (a : Addr) (ns : List Int), vs = [.ref a] ∧ SqL K H a (ns.map V.int) ∧ ∀ H' d, Same H H' → H d = none → Dr H' d → Q (.ref d) H'
theorem ok_start {f : Addr} {fd : FuncData} {k : Nat} (B : BM mg) (F : Fun K "_law_start" "_law_start" sStart f fd) : FnOk P w K mg base CX0 (k + 1) f fd ["_law_script"] (spStart K) := by
  refine F.ok scStart (fun vs H Q E h => ?_) (fun cdv A outer s H vs Q E hr h => ?_)
  · obtain ⟨a, ns, rfl, _⟩ := h
    rfl
  · obtain ⟨a, ns, rfl, hS, q⟩ := h
    refine ⟨_, pss_cons (ps_set (i := 1) scStart.nd rfl (.inl rfl) pe_int)
      (pss_cons (ps_for PassesOwn.never rfl (pi_list (pe_slice sl_list (pv 0) po_none (po_some pe_int))) (pg_name (i := 2) scStart.nd rfl (.inl rfl))
        (pss_one (ps_set (i := 1) scStart.nd rfl (.inl rfl) (pe_op op_mod (pe_op op_add (pe_op op_add (pe_op op_mul (pv 1) pe_int) (pe_op op_mod (pv 2) pe_int)) pe_int) pe_int))))
      (pss_one (ps_ret (pe_lst (pa_cons (pe_callTy call_list_of (by rfl) B.list (by decide +kernel) (pa_cons (pe_slice sl_list (pv 0) po_none (po_some pe_int)) pa_nil)) (pa_cons pe_int (pa_cons pe_int (pa_cons (pv 1) (pa_cons pe_int pa_nil))))))))), ?_⟩
    refine ⟨_, rfl, 63, rfl, a, _, rfl, hS, fun p np => ⟨p, rfl, ⟨_, SqL.of upd_same⟩, ?_⟩⟩
    have ec : cutV (ns.map V.int) none (some 63) = (ns.take 63).map V.int := by
      unfold cutV
      rw [HT.sIx_none, show HT.sIx (ns.map V.int).length (ns.map V.int).length (some 63) = min 63 (ns.map V.int).length from HT.sIx_nat _ _ 63, List.drop_zero, Nat.sub_zero, List.map_take, List.length_map]
      rcases Nat.le_total 63 ns.length with h | h
      · rw [Nat.min_eq_left h]
      · rw [Nat.min_eq_right h, List.take_of_length_le (by rw [List.length_map]; exact Nat.le_refl _), List.take_of_length_le (by rw [List.length_map]; exact h)]
    rw [ec]
    have wk := walk_list (K := K) (a := p) (xs := (ns.take 63).map V.int)
    refine for_it wk (fun i σ H' => ∃ (z : Int) (y2 : Option V), σ = [some (.ref a), some (.int z), y2] ∧ Same H H' ∧ H' p = some (.lst ((ns.take 63).map V.int))) ⟨_, _, rfl, same_upd np, upd_same⟩
      (fun i σ H' _ h => by obtain ⟨_, _, _, _, h⟩ := h; exact SqL.of h) ?_ ?_
    · rintro i x σ H1 H2 hi ⟨z, y2, rfl, sm, ep⟩ ⟨rfl, hx⟩
      rw [List.getElem?_map] at hx
      obtain ⟨c, hc, rfl⟩ := Option.map_eq_some_iff.mp hx
      exact ⟨_, rfl, _, _, rfl, rfl, .inr ⟨by decide, by decide⟩, _, rfl, _, _, rfl, rfl, (by show (0 : Int) < 1000003; decide), _, _, rfl, rfl, _, _, rfl, rfl, _, _, rfl, rfl, (by show (0 : Int) < 2147483647; decide), _, _, rfl, sm, ep⟩
    · rintro σ H1 ⟨z, y2, rfl, sm, ep⟩
      refine ⟨_, rfl, 63, rfl, a, _, rfl, sm_l sm hS, fun p2 np2 => ⟨p2, _, rfl, .inl (SqL.of upd_same), fun p3 np3 => ?_⟩⟩
      rw [ec] at np3 ⊢
      have s3 := sm_upd (o := .lst ((ns.take 63).map V.int)) (sm_upd (o := .lst ((ns.take 63).map V.int)) sm np2) np3
      refine ⟨_, rfl, by show 5 ≤ sizeLine; decide, fun d nd => ?_⟩
      have n3 : p3 ≠ d := ne_of_none upd_same nd
      exact q _ d (sm_upd s3 nd) (L2.Same.free s3 nd) ⟨p3, ns.take 63, 0, 0, _, 0, upd_same, by rw [upd_ne n3, upd_same], Int.le_refl _⟩
def spOf (K : PySem.W.Frag) : Sp := fun vs H Q _ => ∃ d x, vs = [.ref d, x] ∧ Dr H d ∧
  ((∃ a xs, x = .ref a ∧ a ≠ d ∧ SqL K H a xs ∧ 1 ≤ xs.length ∧ xs.length ≤ 1000 ∧ ∀ H' v (i : Nat), SmD d H H' → Dr H' d → xs[i]? = some v → Q v H') ∨
    ∃ l : List Nat, x = .str (tx l) ∧ 1 ≤ l.length ∧ l.length ≤ 1000 ∧ ∀ H' c, SmD d H H' → Dr H' d → c ∈ l → Q (.str (sg c)) H')
theorem ok_of {f fD : Addr} {fd fdD : FuncData} {k : Nat} (B : BM mg) (F : Fun K "_law_of" "_law_of" sOf f fd) (D : DF K mg "_law_draw" sDraw ["_law_d", "_law_many"] fD fdD) : FnOk P w K mg base CX0 (k + 2) f fd ["_law_d", "_law_some"] (spOf K) := by
  have GD : FnOk P w K mg base CX0 (k + 1) fD fdD ["_law_d", "_law_many"] spDraw := ok_draw B D.F
  refine F.ok scOf (fun vs H Q E h => ?_) (fun cdv A outer s H vs Q E hr h => ?_)
  · obtain ⟨d, x, rfl, _⟩ := h
    rfl
  · obtain ⟨d, x, rfl, hD, h⟩ := h
    refine ⟨_, pss_one (ps_ret (pe_ix (IxR.or ix_list ix_str) (pv 1) (pe_call GD hr rfl D.g D.F.kp D.b .nil pass0 (pa_cons (pv 0) (pa_cons (pe_callB (CallR.or call_len_seq call_len_str) (by rfl) B.len PySem.boot_len (pa_cons (pv 1) pa_nil)) pa_nil))) (fun _ _ => rfl))), ?_⟩
    rcases h with ⟨a, xs, rfl, nd, hS, h1, h2, q⟩ | ⟨l, rfl, h1, h2, q⟩
    · refine ⟨_, rfl, _, rfl, _, rfl, .inl ⟨a, xs, rfl, .inl hS, d, _, rfl, hD, by omega, by omega, fun H1 v s1 D1 v0 v1 => ?_⟩⟩
      obtain ⟨j, rfl⟩ := Int.eq_ofNat_of_zero_le v0
      have hj : j < xs.length := by omega
      exact .inl ⟨a, xs, j, xs[j], rfl, rfl, smx_l s1.1 nd hS, atI_nat (List.getElem?_eq_getElem hj), q H1 _ j s1 D1 (List.getElem?_eq_getElem hj)⟩
    · have hz : (tx l).length ≤ sizeLine := by rw [tx_len, sizeLine_eq]; omega
      refine ⟨_, rfl, _, rfl, _, rfl, .inr ⟨tx l, rfl, hz, d, _, rfl, hD, by rw [tx_len]; omega, by rw [tx_len]; omega, fun H1 v s1 D1 v0 v1 => ?_⟩⟩
      obtain ⟨j, rfl⟩ := Int.eq_ofNat_of_zero_le v0
      have hj : j < l.length := by rw [tx_len] at v1; omega
      exact .inr ⟨tx l, j, l[j], rfl, rfl, hz, by rw [tx_list]; exact atI_nat (List.getElem?_eq_getElem hj), q H1 _ s1 D1 (List.getElem_mem hj)⟩
theorem ok_letters {f : Addr} {fd : FuncData} {k : Nat} (F : Fun K "_law_letters" "_law_letters" sLetters f fd) : FnOk P w K mg base CX0 (k + 1) f fd [] (fun vs H Q _ => vs = [] ∧ Q (.str (tx ltrs)) H) := by
  refine F.ok scLetters (fun vs H Q E h => ?_) (fun cdv A outer s H vs Q E hr h => ?_)
  · obtain ⟨rfl, _⟩ := h
    rfl
  · obtain ⟨rfl, q⟩ := h
    refine ⟨_, pss_one (ps_ret pe_str), ?_⟩
    show Q (.str (Str.ofString "abcdefghijklmnopqrstuvwxyz")) H
    rw [ltrs_eq]
    exact q
end
end NC
namespace NC
open PySem PySem.Spec PyProof.Rows L2
theorem Dr.cell {H : Hp} {d c : Addr} (h : Dr H d) (hc : HeadC H d c) : ∃ ns : List Int, H c = some (.lst (ns.map V.int)) := by
  obtain ⟨c0, ns, i, a, b, f, h1, h2, h3⟩ := h
  obtain ⟨r, e⟩ := hc
  rw [h1] at e
  have e2 : c0 = c := by
    injection e with e
    injection e with e
    injection e with e _
    injection e
  exact ⟨ns, by rw [← e2]; exact h2⟩
theorem Dr.upd {H : Hp} {d c b : Addr} {o : HO} (h : Dr H d) (hc : HeadC H d c) (n1 : b ≠ d) (n2 : b ≠ c) : Dr (L2.upd H b o) d := by
  obtain ⟨c0, ns, i, a, b2, f, h1, h2, h3⟩ := h
  obtain ⟨r, e⟩ := hc
  rw [h1] at e
  have e2 : c0 = c := by
    injection e with e
    injection e with e
    injection e with e _
    injection e
  exact ⟨c0, ns, i, a, b2, f, by rw [upd_ne (Ne.symm n1)]; exact h1, by rw [e2, upd_ne (Ne.symm n2), ← e2]; exact h2, h3⟩
theorem Dr.head {H : Hp} {d : Addr} (h : Dr H d) : ∃ c, HeadC H d c := by
  obtain ⟨c0, ns, i, a, b2, f, h1, h2, h3⟩ := h
  exact ⟨c0, _, h1⟩
theorem HeadC.upd {H : Hp} {d c b : Addr} {o : HO} (h : HeadC H d c) (n1 : b ≠ d) : HeadC (L2.upd H b o) d c := by
  obtain ⟨r, h⟩ := h
  exact ⟨r, by rw [upd_ne (Ne.symm n1)]; exact h⟩
theorem Dr.ne {H : Hp} {d p : Addr} (D : Dr H d) (n : H p = none) : p ≠ d := by
  obtain ⟨c0, r0, hd⟩ := D.head
  exact Ne.symm (ne_of_none hd n)
theorem ds_over {d p : Addr} {H H' : Hp} {o : HO} (D : Dr H d) (u : SmD d H H') (D' : Dr H' d) (np : H p = none) : SmD d H (upd H' p o) ∧ Dr (upd H' p o) d := by
  have nd := D.ne np
  obtain ⟨c0, hc0⟩ := D.head
  obtain ⟨ns, hcell⟩ := D.cell hc0
  have nc : p ≠ c0 := Ne.symm (ne_of_none hcell np)
  refine ⟨⟨fun b o' nb hb => ?_, fun c hc => (u.2 c hc).upd nd⟩, D'.upd (u.2 _ hc0) nd nc⟩
  rw [upd_ne (ne_of_none hb np)]
  exact u.1 b o' nb hb
theorem erase_perm {α : Type} : ∀ (L : List α) (j : Nat) (h : j < L.length), (L[j] :: L.eraseIdx j).Perm L
  | a :: r, 0, _ => List.Perm.refl _
  | a :: r, j + 1, h => by
    have hj : j < r.length := by rw [List.length_cons] at h; omega
    have ih := erase_perm r j hj
    show (r[j] :: a :: r.eraseIdx j).Perm (a :: r)
    exact (List.Perm.swap a r[j] (r.eraseIdx j)).trans (ih.cons a)
theorem perm_pop {α : Type} {acc L xs : List α} {j : Nat} {v : α} (h : (acc ++ L).Perm xs) (hj : L[j]? = some v) : ((acc ++ [v]) ++ L.eraseIdx j).Perm xs := by
  refine List.Perm.trans ?_ h
  rw [List.append_assoc]
  refine List.Perm.append_left acc ?_
  obtain ⟨hlt, rfl⟩ := List.getElem?_eq_some_iff.mp hj
  show (L[j] :: L.eraseIdx j).Perm L
  exact erase_perm L j hlt
def rLenK (K : PySem.W.Frag) : List V → Hp → VK → Prop := fun xs H Q => ∃ p ys, xs = [V.ref p] ∧ (SqL K H p ys ∨ SqT K H p ys) ∧ Q (V.int (ys.length : Nat)) H
theorem Dr.o {H : Hp} {d : Addr} (h : Dr H d) : ∃ xs, H d = some (.lst xs) := by
  obtain ⟨c0, ns, i, a, b, f, h1, h2, h3⟩ := h
  exact ⟨_, h1⟩
end NC
namespace NC
open PySem PySem.Spec PyProof.Rows L2
inductive Stp where
  | call (s : List Nat)
  | turn (s : List Nat)
  | row (n : List Nat)
  | times (m : Nat) (r : List Stp)
def smN : List Nat := (Str.ofString "abcdefghijklmnopqrstuvwxyz").cps.toList
def ltN : List Nat := (Str.ofString "abcdefghijklmnopqrstuvwxyzABCDEFGHIJKLMNOPQRSTUVWXYZ").cps.toList
def dgN : List Nat := (Str.ofString "0123456789").cps.toList
theorem smN_eq : smN = List.range' 97 26 := by decide +kernel
theorem ltN_eq : ltN = List.range' 97 26 ++ List.range' 65 26 := by decide +kernel
theorem dgN_eq : dgN = List.range' 48 10 := by decide +kernel
theorem smN_iff (c : Nat) : c ∈ smN ↔ 97 ≤ c ∧ c ≤ 122 := by
  rw [smN_eq, List.mem_range'_1]; omega
theorem ltN_iff (c : Nat) : c ∈ ltN ↔ (97 ≤ c ∧ c ≤ 122) ∨ (65 ≤ c ∧ c ≤ 90) := by
  rw [ltN_eq, List.mem_append, List.mem_range'_1, List.mem_range'_1]; omega
theorem dgN_iff (c : Nat) : c ∈ dgN ↔ 48 ≤ c ∧ c ≤ 57 := by
  rw [dgN_eq, List.mem_range'_1]; omega
mutual
def wfS : Stp → Bool
  | .call s => decide (s.length ≤ 12) && s.all fun c => decide (c ∈ ltN)
  | .turn s => decide (1 ≤ s.length) && decide (s.length ≤ 12) && s.all fun c => decide (c ∈ ltN)
  | .row n => decide (1 ≤ n.length) && decide (n.length ≤ 8) && n.all fun c => decide (c ∈ smN)
  | .times m r => decide (m ≤ 10 ^ 30) && wfR r
def wfR : List Stp → Bool
  | [] => true
  | s :: r => wfS s && wfR r
end
mutual
def szS : Stp → Nat
  | .times _ r => szR r + 1
  | _ => 1
def szR : List Stp → Nat
  | [] => 0
  | s :: r => szS s + szR r
end
mutual
def dpS : Stp → Nat
  | .times _ r => dpR r + 1
  | _ => 0
def dpR : List Stp → Nat
  | [] => 0
  | s :: r => max (dpS s) (dpR r)
end
mutual
def encS : Stp → PyData
  | .call s => .tuple [.str "call", .str (tx s)]
  | .turn s => .tuple [.str "turn", .str (tx s)]
  | .row n => .tuple [.str "row", .str (tx n)]
  | .times m r => .tuple [.str "times", .int (m : Nat), .tuple [.str "steps", .tuple (encL r)]]
def encL : List Stp → List PyData
  | [] => []
  | s :: r => encS s :: encL r
end
def encR (r : List Stp) : PyData := .tuple [.str "steps", .tuple (encL r)]
theorem encL_map : ∀ r : List Stp, encL r = r.map encS
  | [] => rfl
  | s :: r => by rw [encL, encL_map r]; rfl
theorem encL_len (r : List Stp) : (encL r).length = r.length := by rw [encL_map, List.length_map]
theorem wfR_mem : ∀ {r : List Stp}, wfR r = true → ∀ s ∈ r, wfS s = true
  | s :: r, h, x, hx => by
    rw [wfR, Bool.and_eq_true] at h
    rcases List.mem_cons.mp hx with rfl | hx
    · exact h.1
    · exact wfR_mem h.2 x hx
theorem wfR_of : ∀ {r : List Stp}, (∀ s ∈ r, wfS s = true) → wfR r = true
  | [], _ => by rw [wfR]
  | s :: r, h => by
    rw [wfR, h s (List.mem_cons_self ..), wfR_of fun x hx => h x (List.mem_cons_of_mem _ hx)]
    rfl
theorem dpR_mem : ∀ {r : List Stp} {s : Stp}, s ∈ r → dpS s ≤ dpR r
  | x :: r, s, h => by
    rw [dpR]
    rcases List.mem_cons.mp h with rfl | h
    · omega
    · have := dpR_mem h
      omega
theorem dpR_le : ∀ {r : List Stp} {n : Nat}, (∀ s ∈ r, dpS s ≤ n) → dpR r ≤ n
  | [], n, _ => by rw [dpR]; omega
  | s :: r, n, h => by
    rw [dpR]
    have := h s (List.mem_cons_self ..)
    have := dpR_le fun x hx => h x (List.mem_cons_of_mem _ hx)
    omega
theorem szR_app : ∀ (a b : List Stp), szR (a ++ b) = szR a + szR b
  | [], b => by rw [szR]; simp
  | s :: a, b => by
    rw [List.cons_append, szR, szR, szR_app a b]
    omega
theorem szS_pos : ∀ s : Stp, 1 ≤ szS s
  | .call _ => by rw [szS] <;> simp
  | .turn _ => by rw [szS] <;> simp
  | .row _ => by rw [szS] <;> simp
  | .times _ r => by rw [szS]; omega
theorem szR_len : ∀ r : List Stp, r.length ≤ szR r
  | [] => Nat.zero_le _
  | s :: r => by
    rw [szR, List.length_cons]
    have := szS_pos s
    have := szR_len r
    omega
def isWordD (z : Str) (lo hi : Int) : PyData → Bool
  | .str s => (decide (lo ≤ (s.length : Int)) && decide ((s.length : Int) ≤ hi)) && s.cps.toList.all fun c => decide (c ∈ z.cps.toList)
  | _ => false
def isNumD (most : Int) : PyData → Bool
  | .int i => decide (0 ≤ i) && decide (i ≤ most)
  | _ => false
def isTupD (n : Int) : PyData → Bool
  | .tuple xs => decide ((xs.length : Int) = n)
  | _ => false
def SM : Str := "abcdefghijklmnopqrstuvwxyz"
def LT : Str := "abcdefghijklmnopqrstuvwxyzABCDEFGHIJKLMNOPQRSTUVWXYZ"
def isNameD : PyData → Bool := isWordD SM 1 8
def eqStr (d : PyData) (x : Str) : Bool := PyData.eqv d (.str x)
def plainD : PyData → Bool
  | .tuple [a, b] => if eqStr a "call" = true then isWordD LT 0 12 b else if eqStr a "turn" = true then isWordD LT 1 12 b else eqStr a "row" && isNameD b
  | _ => false
def headD : PyData → Bool
  | .tuple [a, b, _] => eqStr a "times" && isNumD (10 ^ 30) b
  | _ => false
def thirdD : PyData → PyData
  | .tuple [_, _, c] => c
  | _ => .none
/-- behind some steps -/
def lbL (S : PyData → Int → Int) : List PyData → Int → Int
  | [], l => l
  | x :: xs, l => if S x l < 0 then -1 else lbL S xs (S x l)
def lbRof (S : PyData → Int → Int) : PyData → Int → Int
  | .tuple [a, .tuple xs], l => if eqStr a "steps" = true then lbL S xs l else -1
  | _, _ => -1
/-- with n groups more within one another let by -/
def lbS : Nat → PyData → Int → Int
  | 0, d, l => if plainD d = true then l - 1 else -1
  | n + 1, d, l => if plainD d = true then l - 1 else if headD d = true then lbRof (lbS n) (thirdD d) (l - 1) else -1
def lbR (n : Nat) : PyData → Int → Int := lbRof (lbS n)
def isRowD (d : PyData) : Bool := decide (0 ≤ lbR 12 d 60)
theorem eqStr_iff (d : PyData) (x : Str) : eqStr d x = true ↔ d = .str x := by
  unfold eqStr
  cases d with
  | str s =>
    by_cases h : s = x
    · subst h; simp [PyData.eqv]
    · simp [PyData.eqv, h]
  | none => simp [PyData.eqv]
  | bool b => simp [PyData.eqv]
  | int i => simp [PyData.eqv]
  | list xs => simp [PyData.eqv]
  | tuple xs => simp [PyData.eqv]
  | dict kvs => simp [PyData.eqv]
theorem str_tx {s : Str} : tx s.cps.toList = s := by
  cases s with
  | mk a => show (⟨a.toList.toArray⟩ : Str) = _; simp
theorem word_enc {z : Str} {lo hi : Nat} {d : PyData} : isWordD z lo hi d = true ↔ ∃ s : List Nat, d = .str (tx s) ∧ lo ≤ s.length ∧ s.length ≤ hi ∧ ∀ c ∈ s, c ∈ z.cps.toList := by
  constructor
  · intro h
    cases d with
    | str s =>
      simp only [isWordD, Bool.and_eq_true, decide_eq_true_eq, List.all_eq_true] at h
      have e : s.cps.toList.length = s.length := by simp [Str.length]
      exact ⟨s.cps.toList, by rw [str_tx], by omega, by omega, h.2⟩
    | none => simp [isWordD] at h
    | bool b => simp [isWordD] at h
    | int i => simp [isWordD] at h
    | list xs => simp [isWordD] at h
    | tuple xs => simp [isWordD] at h
    | dict kvs => simp [isWordD] at h
  · rintro ⟨s, rfl, h1, h2, h3⟩
    simp only [isWordD, Bool.and_eq_true, decide_eq_true_eq, List.all_eq_true, tx_len, tx_list]
    exact ⟨⟨by omega, by omega⟩, h3⟩
theorem LT_cps : LT.cps.toList = ltN := rfl
theorem SM_cps : SM.cps.toList = smN := rfl
theorem all_dec {l z : List Nat} : (l.all fun c => decide (c ∈ z)) = true ↔ ∀ c ∈ l, c ∈ z := by
  rw [List.all_eq_true]
  exact ⟨fun h c hc => of_decide_eq_true (h c hc), fun h c hc => decide_eq_true (h c hc)⟩
theorem plain_enc {d : PyData} : plainD d = true ↔ ∃ s, d = encS s ∧ wfS s = true ∧ dpS s = 0 ∧ szS s = 1 ∧ ∀ m r, s ≠ .times m r := by
  constructor
  · intro h
    unfold plainD at h
    split at h
    · rename_i a b
      split at h
      · rename_i e
        obtain ⟨s, rfl, h1, h2, h3⟩ := (word_enc (lo := 0) (hi := 12)).mp h
        rw [(eqStr_iff a "call").mp e]
        exact ⟨.call s, by rw [encS], by rw [wfS, decide_eq_true h2]; exact all_dec.mpr h3, by rw [dpS] <;> simp, by rw [szS] <;> simp, by simp⟩
      · split at h
        · rename_i e
          obtain ⟨s, rfl, h1, h2, h3⟩ := (word_enc (lo := 1) (hi := 12)).mp h
          rw [(eqStr_iff a "turn").mp e]
          exact ⟨.turn s, by rw [encS], by rw [wfS, decide_eq_true h1, decide_eq_true h2]; exact all_dec.mpr h3, by rw [dpS] <;> simp, by rw [szS] <;> simp, by simp⟩
        · rw [Bool.and_eq_true] at h
          obtain ⟨s, rfl, h1, h2, h3⟩ := (word_enc (lo := 1) (hi := 8)).mp h.2
          rw [(eqStr_iff a "row").mp h.1]
          exact ⟨.row s, by rw [encS], by rw [wfS, decide_eq_true h1, decide_eq_true h2]; exact all_dec.mpr h3, by rw [dpS] <;> simp, by rw [szS] <;> simp, by simp⟩
    · cases h
  · rintro ⟨s, rfl, hw, _, _, hn⟩
    cases s with
    | call s =>
      rw [wfS, Bool.and_eq_true, decide_eq_true_eq] at hw
      rw [encS]
      show (if eqStr (.str "call") "call" = true then isWordD LT 0 12 (.str (tx s)) else if eqStr (.str "call") "turn" = true then isWordD LT 1 12 (.str (tx s)) else eqStr (.str "call") "row" && isNameD (.str (tx s))) = true
      rw [if_pos ((eqStr_iff _ _).mpr rfl)]
      exact (word_enc (lo := 0) (hi := 12)).mpr ⟨s, rfl, Nat.zero_le _, hw.1, all_dec.mp hw.2⟩
    | turn s =>
      rw [wfS, Bool.and_eq_true, Bool.and_eq_true, decide_eq_true_eq, decide_eq_true_eq] at hw
      rw [encS]
      show (if eqStr (.str "turn") "call" = true then isWordD LT 0 12 (.str (tx s)) else if eqStr (.str "turn") "turn" = true then isWordD LT 1 12 (.str (tx s)) else eqStr (.str "turn") "row" && isNameD (.str (tx s))) = true
      rw [if_neg (fun z => by have := (eqStr_iff _ _).mp z; injection this with e; revert e; decide +kernel), if_pos ((eqStr_iff _ _).mpr rfl)]
      exact (word_enc (lo := 1) (hi := 12)).mpr ⟨s, rfl, hw.1.1, hw.1.2, all_dec.mp hw.2⟩
    | row s =>
      rw [wfS, Bool.and_eq_true, Bool.and_eq_true, decide_eq_true_eq, decide_eq_true_eq] at hw
      rw [encS]
      show (if eqStr (.str "row") "call" = true then isWordD LT 0 12 (.str (tx s)) else if eqStr (.str "row") "turn" = true then isWordD LT 1 12 (.str (tx s)) else eqStr (.str "row") "row" && isNameD (.str (tx s))) = true
      rw [if_neg (fun z => by have := (eqStr_iff _ _).mp z; injection this with e; revert e; decide +kernel), if_neg (fun z => by have := (eqStr_iff _ _).mp z; injection this with e; revert e; decide +kernel), (eqStr_iff _ _).mpr rfl, Bool.true_and]
      exact (word_enc (lo := 1) (hi := 8)).mpr ⟨s, rfl, hw.1.1, hw.1.2, all_dec.mp hw.2⟩
    | times m r => exact absurd rfl (hn m r)
theorem plain_times (m : Nat) (r : List Stp) : plainD (encS (.times m r)) = false := by
  rw [encS]
  rfl
theorem head_enc {d : PyData} : headD d = true ↔ ∃ (m : Nat) (c : PyData), d = .tuple [.str "times", .int (m : Nat), c] ∧ m ≤ 10 ^ 30 := by
  constructor
  · intro h
    unfold headD at h
    split at h
    · rename_i a b c
      rw [Bool.and_eq_true] at h
      cases b with
      | int i =>
        have h2 := h.2
        simp only [isNumD, Bool.and_eq_true, decide_eq_true_eq] at h2
        obtain ⟨m, rfl⟩ : ∃ m : Nat, i = (m : Int) := ⟨i.toNat, by omega⟩
        exact ⟨m, c, by rw [(eqStr_iff a "times").mp h.1], by omega⟩
      | str s => exact absurd h.2 (by simp [isNumD])
      | none => exact absurd h.2 (by simp [isNumD])
      | bool b => exact absurd h.2 (by simp [isNumD])
      | list xs => exact absurd h.2 (by simp [isNumD])
      | tuple xs => exact absurd h.2 (by simp [isNumD])
      | dict kvs => exact absurd h.2 (by simp [isNumD])
    · cases h
  · rintro ⟨m, c, rfl, h⟩
    show (eqStr (.str "times") "times" && isNumD (10 ^ 30) (.int (m : Nat))) = true
    rw [(eqStr_iff _ _).mpr rfl, Bool.true_and]
    show (decide (0 ≤ ((m : Nat) : Int)) && decide (((m : Nat) : Int) ≤ 10 ^ 30)) = true
    rw [decide_eq_true (Int.natCast_nonneg m), decide_eq_true (by omega)]
    rfl
theorem lb_sound : ∀ n d l, 0 ≤ lbS n d l → ∃ s, d = encS s ∧ wfS s = true ∧ dpS s ≤ n ∧ lbS n d l = l - szS s := by
  have plain : ∀ d (l : Int), plainD d = true → ∀ n, ∃ s, d = encS s ∧ wfS s = true ∧ dpS s ≤ n ∧ l - 1 = l - szS s := fun d l hp n => by
    obtain ⟨s, rfl, w, z, y, _⟩ := plain_enc.mp hp
    exact ⟨s, rfl, w, by omega, by rw [y]; rfl⟩
  have list : ∀ n, (∀ d l, 0 ≤ lbS n d l → ∃ s, d = encS s ∧ wfS s = true ∧ dpS s ≤ n ∧ lbS n d l = l - szS s) → ∀ xs l, 0 ≤ lbL (lbS n) xs l → ∃ r, xs = encL r ∧ wfR r = true ∧ dpR r ≤ n ∧ lbL (lbS n) xs l = l - szR r := fun n ih xs => by
    induction xs with
    | nil =>
      intro l _
      refine ⟨[], by rw [encL], by rw [wfR], by rw [dpR]; omega, ?_⟩
      rw [szR]
      show l = l - 0
      omega
    | cons x xs ih2 =>
      intro l h
      rw [lbL] at h ⊢
      split at h
      · omega
      · rename_i h0
        rw [if_neg h0]
        obtain ⟨s, rfl, w, dp, e⟩ := ih x l (by omega)
        obtain ⟨r, rfl, w2, dp2, e2⟩ := ih2 _ h
        refine ⟨s :: r, by rw [encL], by rw [wfR, w, w2]; rfl, by rw [dpR]; omega, ?_⟩
        rw [szR, e2, e]
        omega
  intro n
  induction n with
  | zero =>
    intro d l h
    rw [lbS] at h ⊢
    split at h
    · rename_i hp
      rw [if_pos hp]
      exact plain d l hp 0
    · omega
  | succ n ih =>
    intro d l h
    rw [lbS] at h ⊢
    split at h
    · rename_i hp
      rw [if_pos hp]
      exact plain d l hp _
    · rename_i hp
      rw [if_neg hp]
      split at h
      · rename_i hh
        rw [if_pos hh]
        obtain ⟨m, c, rfl, hm⟩ := head_enc.mp hh
        rw [show thirdD (.tuple [.str "times", .int (m : Nat), c]) = c from rfl] at h ⊢
        unfold lbRof at h ⊢
        split at h
        · rename_i a xs
          split at h
          · rename_i hs
            rw [if_pos hs]
            obtain ⟨r, rfl, w, dp, e⟩ := list n ih xs _ h
            refine ⟨.times m r, by rw [encS, (eqStr_iff a "steps").mp hs], by rw [wfS, decide_eq_true hm, w]; rfl, by rw [dpS]; omega, ?_⟩
            rw [szS, e]
            omega
          · omega
        · omega
      · omega
theorem lb_list : ∀ n xs l, 0 ≤ lbL (lbS n) xs l → ∃ r, xs = encL r ∧ wfR r = true ∧ dpR r ≤ n ∧ lbL (lbS n) xs l = l - szR r := fun n xs => by
  induction xs with
  | nil =>
    intro l _
    refine ⟨[], by rw [encL], by rw [wfR], by rw [dpR]; omega, ?_⟩
    rw [szR]
    show l = l - 0
    omega
  | cons x xs ih2 =>
    intro l h
    rw [lbL] at h ⊢
    split at h
    · omega
    · rename_i h0
      rw [if_neg h0]
      obtain ⟨s, rfl, w, dp, e⟩ := lb_sound n x l (by omega)
      obtain ⟨r, rfl, w2, dp2, e2⟩ := ih2 _ h
      refine ⟨s :: r, by rw [encL], by rw [wfR, w, w2]; rfl, by rw [dpR]; omega, ?_⟩
      rw [szR, e2, e]
      omega
mutual
theorem lb_compS : ∀ (s : Stp) (n : Nat) (l : Int), wfS s = true → dpS s ≤ n → (szS s : Int) ≤ l → lbS n (encS s) l = l - szS s
  | .times m r, n, l, w, dp, sz => by
    rw [dpS] at dp
    rw [wfS, Bool.and_eq_true, decide_eq_true_eq] at w
    rw [szS] at sz ⊢
    match n, dp with
    | n + 1, dp =>
      rw [lbS, plain_times, if_neg (by simp), if_pos (head_enc.mpr ⟨m, _, by rw [encS], w.1⟩)]
      rw [show thirdD (encS (.times m r)) = .tuple [.str "steps", .tuple (encL r)] by rw [encS]; rfl]
      show (if eqStr (.str "steps") "steps" = true then lbL (lbS n) (encL r) (l - 1) else -1) = _
      rw [if_pos ((eqStr_iff _ _).mpr rfl), lb_compL r n (l - 1) w.2 (by omega) (by omega)]
      omega
  | .call s, n, l, w, dp, sz => by
    have p := plain_enc.mpr ⟨.call s, rfl, w, by rw [dpS] <;> simp, by rw [szS] <;> simp, by simp⟩
    rw [szS] <;> try simp
    cases n <;> rw [lbS, if_pos p]
  | .turn s, n, l, w, dp, sz => by
    have p := plain_enc.mpr ⟨.turn s, rfl, w, by rw [dpS] <;> simp, by rw [szS] <;> simp, by simp⟩
    rw [szS] <;> try simp
    cases n <;> rw [lbS, if_pos p]
  | .row s, n, l, w, dp, sz => by
    have p := plain_enc.mpr ⟨.row s, rfl, w, by rw [dpS] <;> simp, by rw [szS] <;> simp, by simp⟩
    rw [szS] <;> try simp
    cases n <;> rw [lbS, if_pos p]
theorem lb_compL : ∀ (r : List Stp) (n : Nat) (l : Int), wfR r = true → dpR r ≤ n → (szR r : Int) ≤ l → lbL (lbS n) (encL r) l = l - szR r
  | [], n, l, w, dp, sz => by
    rw [encL, szR]
    show l = l - 0
    omega
  | s :: r, n, l, w, dp, sz => by
    rw [wfR, Bool.and_eq_true] at w
    rw [dpR] at dp
    rw [szR] at sz ⊢
    rw [encL, lbL, lb_compS s n l w.1 (by omega) (by omega), if_neg (by omega), lb_compL r n _ w.2 (by omega) (by omega)]
    omega
end
theorem row_iff (d : PyData) : isRowD d = true ↔ ∃ r, d = encR r ∧ wfR r = true ∧ dpR r ≤ 12 ∧ szR r ≤ 60 := by
  unfold isRowD
  rw [decide_eq_true_eq]
  constructor
  · intro h
    unfold lbR lbRof at h
    split at h
    · rename_i a xs
      split at h
      · rename_i hs
        obtain ⟨r, rfl, w, dp, e⟩ := lb_list 12 xs _ h
        exact ⟨r, by rw [(eqStr_iff a "steps").mp hs]; rfl, w, dp, by omega⟩
      · omega
    · omega
  · rintro ⟨r, rfl, w, dp, sz⟩
    show 0 ≤ (if eqStr (.str "steps") "steps" = true then lbL (lbS 12) (encL r) 60 else -1)
    rw [if_pos ((eqStr_iff _ _).mpr rfl), lb_compL r 12 60 w dp (by omega)]
    omega
mutual
theorem encS_inj : ∀ (a b : Stp), encS a = encS b → a = b
  | .call s, .call t, h => by
    simp only [encS, PyData.tuple.injEq, List.cons.injEq, PyData.str.injEq] at h
    rw [tx_inj h.2.1]
  | .turn s, .turn t, h => by
    simp only [encS, PyData.tuple.injEq, List.cons.injEq, PyData.str.injEq] at h
    rw [tx_inj h.2.1]
  | .row s, .row t, h => by
    simp only [encS, PyData.tuple.injEq, List.cons.injEq, PyData.str.injEq] at h
    rw [tx_inj h.2.1]
  | .times m r, .times m' r', h => by
    simp only [encS, PyData.tuple.injEq, List.cons.injEq, PyData.int.injEq] at h
    rw [encL_inj r r' h.2.2.1.2.1]
    have : m = m' := by omega
    rw [this]
  | .call s, .turn t, h => by
    simp only [encS, PyData.tuple.injEq, List.cons.injEq, PyData.str.injEq] at h
    exact absurd h.1 (by decide +kernel)
  | .call s, .row t, h => by
    simp only [encS, PyData.tuple.injEq, List.cons.injEq, PyData.str.injEq] at h
    exact absurd h.1 (by decide +kernel)
  | .turn s, .call t, h => by
    simp only [encS, PyData.tuple.injEq, List.cons.injEq, PyData.str.injEq] at h
    exact absurd h.1 (by decide +kernel)
  | .turn s, .row t, h => by
    simp only [encS, PyData.tuple.injEq, List.cons.injEq, PyData.str.injEq] at h
    exact absurd h.1 (by decide +kernel)
  | .row s, .call t, h => by
    simp only [encS, PyData.tuple.injEq, List.cons.injEq, PyData.str.injEq] at h
    exact absurd h.1 (by decide +kernel)
  | .row s, .turn t, h => by
    simp only [encS, PyData.tuple.injEq, List.cons.injEq, PyData.str.injEq] at h
    exact absurd h.1 (by decide +kernel)
  | .call s, .times m r, h => by simp [encS] at h
  | .turn s, .times m r, h => by simp [encS] at h
  | .row s, .times m r, h => by simp [encS] at h
  | .times m r, .call s, h => by simp [encS] at h
  | .times m r, .turn s, h => by simp [encS] at h
  | .times m r, .row s, h => by simp [encS] at h
theorem encL_inj : ∀ (a b : List Stp), encL a = encL b → a = b
  | [], [], _ => rfl
  | [], _ :: _, h => by simp [encL] at h
  | _ :: _, [], h => by simp [encL] at h
  | x :: a, y :: b, h => by
    simp only [encL, List.cons.injEq] at h
    rw [encS_inj x y h.1, encL_inj a b h.2]
end
theorem encR_inj {a b : List Stp} (h : encR a = encR b) : a = b := by
  unfold encR at h
  simp only [PyData.tuple.injEq, List.cons.injEq] at h
  exact encL_inj a b h.2.1
end NC
namespace NC
open PySem PySem.Spec PyProof.Rows L2
abbrev sIsWord : Stmt := topS 13
theorem scIsWord : FnScope ["thing", "letters", "fewest", "most", "sign"] ["thing", "letters", "fewest", "most"] (defScope sIsWord) := ⟨rfl, rfl, rfl, by decide +kernel, rfl, by decide +kernel, by decide +kernel⟩
abbrev sIsName : Stmt := topS 14
theorem scIsName : FnScope ["thing"] ["thing"] (defScope sIsName) := ⟨rfl, rfl, rfl, by decide +kernel, rfl, by decide +kernel, by decide +kernel⟩
abbrev sIsNum : Stmt := topS 15
theorem scIsNum : FnScope ["thing", "most"] ["thing", "most"] (defScope sIsNum) := ⟨rfl, rfl, rfl, by decide +kernel, rfl, by decide +kernel, by decide +kernel⟩
abbrev sIsTup : Stmt := topS 16
theorem scIsTup : FnScope ["thing", "many"] ["thing", "many"] (defScope sIsTup) := ⟨rfl, rfl, rfl, by decide +kernel, rfl, by decide +kernel, by decide +kernel⟩
abbrev sIsPlain : Stmt := topS 17
theorem scIsPlain : FnScope ["step"] ["step"] (defScope sIsPlain) := ⟨rfl, rfl, rfl, by decide +kernel, rfl, by decide +kernel, by decide +kernel⟩
abbrev sIsHead : Stmt := topS 18
theorem scIsHead : FnScope ["step"] ["step"] (defScope sIsHead) := ⟨rfl, rfl, rfl, by decide +kernel, rfl, by decide +kernel, by decide +kernel⟩
abbrev sLbS : Stmt := topS 19
theorem scLbS : FnScope ["step", "deep", "left"] ["step", "deep", "left"] (defScope sLbS) := ⟨rfl, rfl, rfl, by decide +kernel, rfl, by decide +kernel, by decide +kernel⟩
abbrev sLb : Stmt := topS 20
theorem scLb : FnScope ["row", "deep", "left", "step"] ["row", "deep", "left"] (defScope sLb) := ⟨rfl, rfl, rfl, by decide +kernel, rfl, by decide +kernel, by decide +kernel⟩
abbrev sIsRow : Stmt := topS 21
theorem scIsRow : FnScope ["tree"] ["tree"] (defScope sIsRow) := ⟨rfl, rfl, rfl, by decide +kernel, rfl, by decide +kernel, by decide +kernel⟩
theorem boot_isi : bootBuiltins "isinstance" = some (.builtin "isinstance") := PyProof.Rows.boot_isinstance
mutual
theorem dp_same {K : PySem.W.Frag} {H H' : Hp} (s : Same H H') : ∀ {v : V} {d : PyData}, Dp K H v d → Dp K H' v d
  | _, _, .non => .non
  | _, _, .bl b => .bl b
  | _, _, .int i => .int i
  | _, _, .str x => .str x
  | _, _, .lst h a => .lst (sm_l s h) (dpa_same s a)
  | _, _, .tup h a => .tup (sm_t s h) (dpa_same s a)
theorem dpa_same {K : PySem.W.Frag} {H H' : Hp} (s : Same H H') : ∀ {vs : List V} {ds : List PyData}, DpAll K H vs ds → DpAll K H' vs ds
  | _, _, .nil => .nil
  | _, _, .cons a b => .cons (dp_same s a) (dpa_same s b)
end
theorem dpa_len {K : PySem.W.Frag} {H : Hp} : ∀ {vs : List V} {ds : List PyData}, DpAll K H vs ds → vs.length = ds.length
  | _, _, .nil => rfl
  | _, _, .cons a b => by rw [List.length_cons, List.length_cons, dpa_len b]
theorem dpa_get {K : PySem.W.Frag} {H : Hp} : ∀ {vs : List V} {ds : List PyData}, DpAll K H vs ds → ∀ {i : Nat} {v : V}, vs[i]? = some v → ∃ d, ds[i]? = some d ∧ Dp K H v d
  | _, _, .nil, i, v, h => by simp at h
  | _, _, .cons a b, 0, v, h => by cases h; exact ⟨_, rfl, a⟩
  | _, _, .cons a b, i + 1, v, h => dpa_get b (i := i) h
def tyD : PyData → String
  | .none => "NoneType"
  | .bool _ => "bool"
  | .int _ => "int"
  | .str _ => "str"
  | .list _ => "list"
  | .tuple _ => "tuple"
  | .dict _ => "dict"
theorem dp_ty {K : PySem.W.Frag} {H : Hp} {v : V} {d : PyData} (h : Dp K H v d) : TyX K H v (.type (tyD d)) := by
  cases h with
  | non => exact .base .non
  | bl b => exact .base (.bl b)
  | int i => exact .base (.int i)
  | str x => exact .base (.str x)
  | lst h a =>
    rcases h with (h | ⟨o, h⟩) | ⟨o, its, n, h1, h2, _⟩
    · exact .base (.lst h)
    · exact .base (.frz h)
    · exact .kList h1 h2
  | tup h a =>
    rcases h with (h | ⟨o, h⟩) | ⟨o, its, n, h1, h2, _⟩
    · exact .base (.tup h)
    · exact .fTuple h
    · exact .kTuple h1 h2
def isD (n : String) (d : PyData) : Bool := tyD d == n || (n == "int" && tyD d == "bool")
theorem isD_kit {K : PySem.W.Frag} (n : String) (hn : n ∈ ["str", "int", "bool", "tuple"]) (d : PyData) (nd : ∀ kvs, d ≠ .dict kvs) : PySem.W.kitOne K (.type (tyD d)) (.type n) = some (isD n d) := by
  simp only [List.mem_cons, List.not_mem_nil, or_false] at hn
  rcases hn with rfl | rfl | rfl | rfl <;> cases d <;> first | exact absurd rfl (nd _) | rfl
abbrev rSgQ : R2 := fun x y H Q => ∃ (c : Nat) (z : Str), x = .str ⟨#[c]⟩ ∧ y = .str z ∧ Q (.bl (decide (c ∈ z.cps.toList))) H
mutual
def lnD : PyData → Bool
  | .str s => decide (s.length ≤ 5000)
  | .list xs => lnA xs
  | .tuple xs => decide (xs.length ≤ 5000) && lnA xs
  | _ => true
def lnA : List PyData → Bool
  | [] => true
  | x :: xs => lnD x && lnA xs
end
theorem lnA_mem : ∀ {xs : List PyData}, lnA xs = true → ∀ x ∈ xs, lnD x = true
  | y :: ys, h, x, hx => by
    rw [lnA, Bool.and_eq_true] at h
    rcases List.mem_cons.mp hx with rfl | hx
    · exact h.1
    · exact lnA_mem h.2 x hx
structure TrOk (d : PyData) : Prop where
  sh : SeqAt.shaped d = true
  ln : lnD d = true
theorem TrOk.str {d : PyData} (h : TrOk d) : ∀ s, d = .str s → s.length ≤ sizeLine := fun s e => by
  have := h.ln
  rw [e, lnD, decide_eq_true_eq] at this
  rw [sizeLine_eq]
  omega
theorem depth_mem : ∀ {xs : List PyData} {x : PyData}, x ∈ xs → x.depth ≤ PyData.depthAll xs
  | y :: ys, x, h => by
    rw [PyData.depthAll]
    rcases List.mem_cons.mp h with rfl | h
    · omega
    · have := depth_mem h
      omega
theorem TrOk.mem {xs : List PyData} (h : TrOk (.tuple xs)) : ∀ x ∈ xs, TrOk x := fun x hx => by
  have a := SeqAt.canLay_of_shaped h.sh
  have b := SeqAt.depth_of_shaped h.sh
  rw [PyData.canLay0] at a
  rw [PyData.depth] at b
  have := depth_mem hx
  have l := h.ln
  rw [lnD, Bool.and_eq_true] at l
  refine ⟨?_, lnA_mem l.2 x hx⟩
  unfold SeqAt.shaped
  rw [PyData.canLay0_of_mem xs x a hx, decide_eq_true (by omega)]
  rfl
theorem TrOk.two {a b : PyData} (h : TrOk (.tuple [a, b])) : TrOk a ∧ TrOk b := ⟨h.mem a (by simp), h.mem b (by simp)⟩
theorem TrOk.three {a b c : PyData} (h : TrOk (.tuple [a, b, c])) : TrOk a ∧ TrOk b ∧ TrOk c := ⟨h.mem a (by simp), h.mem b (by simp), h.mem c (by simp)⟩
theorem tup2 {d : PyData} (h : isTupD 2 d = true) : ∃ a b, d = .tuple [a, b] := by
  cases d with
  | tuple xs =>
    have h := of_decide_eq_true (show decide ((xs.length : Int) = 2) = true from h)
    match xs, h with
    | [a, b], _ => exact ⟨a, b, rfl⟩
    | [], h => simp at h
    | [_], h => simp at h
    | _ :: _ :: _ :: _, h => simp at h; omega
  | _ => cases h
theorem tup3 {d : PyData} (h : isTupD 3 d = true) : ∃ a b c, d = .tuple [a, b, c] := by
  cases d with
  | tuple xs =>
    have h := of_decide_eq_true (show decide ((xs.length : Int) = 3) = true from h)
    match xs, h with
    | [a, b, c], _ => exact ⟨a, b, c, rfl⟩
    | [], h => simp at h
    | [_], h => simp at h
    | [_, _], h => simp at h
    | _ :: _ :: _ :: _ :: _, h => simp at h; omega
  | _ => cases h
theorem dp_two {K : PySem.W.Frag} {H : Hp} {v : V} {a b : PyData} (h : Dp K H v (.tuple [a, b])) : ∃ p va vb, v = .ref p ∧ SqT K H p [va, vb] ∧ Dp K H va a ∧ Dp K H vb b := by
  cases h with
  | tup h d =>
    cases d with
    | cons a1 d => cases d with
      | cons a2 d => cases d; exact ⟨_, _, _, rfl, h, a1, a2⟩
theorem dp_three {K : PySem.W.Frag} {H : Hp} {v : V} {a b c : PyData} (h : Dp K H v (.tuple [a, b, c])) : ∃ p va vb vc, v = .ref p ∧ SqT K H p [va, vb, vc] ∧ Dp K H va a ∧ Dp K H vb b ∧ Dp K H vc c := by
  cases h with
  | tup h d =>
    cases d with
    | cons a1 d => cases d with
      | cons a2 d => cases d with
        | cons a3 d => cases d; exact ⟨_, _, _, _, rfl, h, a1, a2, a3⟩
theorem plain_not2 {d : PyData} (h : ¬ isTupD 2 d = true) : plainD d = false := by
  unfold plainD
  split
  · exact absurd rfl h
  · rfl
theorem head_not3 {d : PyData} (h : ¬ isTupD 3 d = true) : headD d = false := by
  unfold headD
  split
  · exact absurd rfl h
  · rfl
/-- the defs about rows -/
structure RowD (K : PySem.W.Frag) (mg : Str → Option Value) (f_w f_n f_nu f_tu f_pl f_gh f_ls f_lb f_ir : Addr) (d_w d_n d_nu d_tu d_pl d_gh d_ls d_lb d_ir : FuncData) : Prop where
  w : DF K mg "is_word" sIsWord ["thing", "letters", "fewest", "most"] f_w d_w
  n : DF K mg "is_name" sIsName ["thing"] f_n d_n
  nu : DF K mg "is_number" sIsNum ["thing", "most"] f_nu d_nu
  tu : DF K mg "is_tuple_of" sIsTup ["thing", "many"] f_tu d_tu
  pl : DF K mg "is_plain_step" sIsPlain ["step"] f_pl d_pl
  gh : DF K mg "is_group_head" sIsHead ["step"] f_gh d_gh
  ls : DF K mg "left_behind_step" sLbS ["step", "deep", "left"] f_ls d_ls
  lb : DF K mg "left_behind" sLb ["row", "deep", "left"] f_lb d_lb
  ir : DF K mg "is_row" sIsRow ["tree"] f_ir d_ir
  cSMALL : ∃ t, mg "SMALL" = some (.str SM t)
  cLETTERS : ∃ t, mg "LETTERS" = some (.str LT t)
  cMOST_STEPS : ∃ t, mg "MOST_STEPS" = some (.int 60 t)
  cMOST_DEEP : ∃ t, mg "MOST_DEEP" = some (.int 12 t)
  cMOST_TIMES : ∃ t, mg "MOST_TIMES" = some (.int (10 ^ 30) t)
  cMOST_SIDES : ∃ t, mg "MOST_SIDES" = some (.int 12 t)
  cLONGEST_NAME : ∃ t, mg "LONGEST_NAME" = some (.int 8 t)
  zisinstance : mg "isinstance" = none
  zstr : mg "str" = none
  zlen : mg "len" = none
  zall : mg "all" = none
  zint : mg "int" = none
  zbool : mg "bool" = none
  ztuple : mg "tuple" = none
section
variable {P : Program} {w : World} {K : PySem.W.Frag} {mg : Str → Option Value} {base : Heap} {f_w f_n f_nu f_tu f_pl f_gh f_ls f_lb f_ir : Addr} {d_w d_n d_nu d_tu d_pl d_gh d_ls d_lb d_ir : FuncData}
theorem dp_nd {H : Hp} {v : V} {d : PyData} (h : Dp K H v d) : ∀ kvs, d ≠ .dict kvs := fun kvs e => by rw [e] at h; cases h
def spTupQ (K : PySem.W.Frag) : Sp := fun vs H Q _ => ∃ v d n, vs = [v, .int n] ∧ Dp K H v d ∧ Q (.bl (isTupD n d)) H
theorem ok_tu {k : Nat} (W : RowD K mg f_w f_n f_nu f_tu f_pl f_gh f_ls f_lb f_ir d_w d_n d_nu d_tu d_pl d_gh d_ls d_lb d_ir) : FnOk P w K mg base CX0 (k + 1) f_tu d_tu ["thing", "many"] (spTupQ K) := by
  refine W.tu.F.ok scIsTup (fun vs H Q E h => ?_) (fun cdv A outer st H vs Q E hr h => ?_)
  · obtain ⟨v, d, n, rfl, _⟩ := h
    rfl
  · obtain ⟨v, d, n, rfl, hd, q⟩ := h
    refine ⟨_, (pss_one (ps_ret (pe_and (pe_callB call_isi (by rfl) W.zisinstance boot_isi (pa_cons (pv 0) (pa_cons (pe_bltn (v := .ty "tuple") (by rfl) W.ztuple (by decide +kernel) rfl) pa_nil))) (pe_one (pe_cmpR op_eq (pe_callB call_len_seq (by rfl) W.zlen PySem.boot_len (pa_cons (pv 0) pa_nil)) (pv 1) (nomark _)))))), ?_⟩
    refine ⟨_, rfl, v, _, _, _, _, rfl, .ty _, dp_ty hd, isD_kit "tuple" (by simp) d (dp_nd hd), _, rfl, ?_⟩
    cases hd with
    | tup h a =>
      rename_i p xs ds
      refine iteT ⟨_, rfl, p, xs, rfl, .inr h, _, rfl, rfl, ?_⟩
      rw [show decide (V.int (xs.length : Int) = V.int n) = isTupD n (.tuple ds) by
        unfold isTupD
        rw [Bool.eq_iff_iff, decide_eq_true_eq, decide_eq_true_eq, dpa_len a]
        exact ⟨fun h => by injection h, fun h => by rw [h]⟩]
      exact q
    | non => exact iteF q
    | bl b => exact iteF q
    | int i => exact iteF q
    | str s => exact iteF q
    | lst h a => exact iteF q
def spNumQ (K : PySem.W.Frag) : Sp := fun vs H Q _ => ∃ v d n, vs = [v, .int n] ∧ Dp K H v d ∧ Q (.bl (isNumD n d)) H
theorem ok_nu {k : Nat} (W : RowD K mg f_w f_n f_nu f_tu f_pl f_gh f_ls f_lb f_ir d_w d_n d_nu d_tu d_pl d_gh d_ls d_lb d_ir) : FnOk P w K mg base CX0 (k + 1) f_nu d_nu ["thing", "most"] (spNumQ K) := by
  refine W.nu.F.ok scIsNum (fun vs H Q E h => ?_) (fun cdv A outer st H vs Q E hr h => ?_)
  · obtain ⟨v, d, n, rfl, _⟩ := h
    rfl
  · obtain ⟨v, d, n, rfl, hd, q⟩ := h
    refine ⟨_, (pss_cons (ps_if (PW.pt (pw_or (pt_not (pt_val (pe_callB call_isi (by rfl) W.zisinstance boot_isi (pa_cons (pv 0) (pa_cons (pe_bltn (v := .ty "int") (by rfl) W.zint (by decide +kernel) rfl) pa_nil))))) (pw_or1 (pt_val (pe_callB call_isi (by rfl) W.zisinstance boot_isi (pa_cons (pv 0) (pa_cons (pe_bltn (v := .ty "bool") (by rfl) W.zbool (by decide +kernel) rfl) pa_nil)))))))
        (pss_one (ps_ret pe_bl))
        pss_nil)
      (pss_one (ps_ret (pe_chain op_le op_le pe_int (pv 0) (pv 1))))), ?_⟩
    refine ⟨_, rfl, v, _, _, _, _, rfl, .ty _, dp_ty hd, isD_kit "int" (by simp) d (dp_nd hd), _, rfl, ?_⟩
    have ib := isD_kit (K := K) "bool" (by simp) d (dp_nd hd)
    have ty := dp_ty hd
    cases hd with
    | int i =>
      refine iteF ⟨_, rfl, _, _, _, _, _, rfl, .ty _, ty, ib, _, rfl, iteF ?_⟩
      refine ⟨_, rfl, _, _, rfl, rfl, _, rfl, ?_⟩
      have q : Q (.bl (decide (0 ≤ i) && decide (i ≤ n))) H := q
      by_cases h0 : 0 ≤ i
      · rw [decide_eq_true h0] at q ⊢
        rw [Bool.true_and] at q
        exact iteT ⟨_, rfl, _, _, rfl, rfl, q⟩
      · rw [decide_eq_false h0] at q ⊢
        exact iteF q
    | bl b => exact iteF ⟨_, rfl, _, _, _, _, _, rfl, .ty _, ty, ib, _, rfl, iteT q⟩
    | non => exact iteT q
    | str s => exact iteT q
    | tup h a => exact iteT q
    | lst h a => exact iteT q
def spWordQ (K : PySem.W.Frag) : Sp := fun vs H Q _ => ∃ v d z lo hi, vs = [v, .str z, .int lo, .int hi] ∧ Dp K H v d ∧ hi ≤ 1000 ∧ (∀ s, d = .str s → s.length ≤ sizeLine) ∧ ∀ H', Same H H' → Q (.bl (isWordD z lo hi d)) H'
theorem ok_w {k : Nat} (W : RowD K mg f_w f_n f_nu f_tu f_pl f_gh f_ls f_lb f_ir d_w d_n d_nu d_tu d_pl d_gh d_ls d_lb d_ir) : FnOk P w K mg base CX0 (k + 1) f_w d_w ["thing", "letters", "fewest", "most"] (spWordQ K) := by
  refine W.w.F.ok scIsWord (fun vs H Q E h => ?_) (fun cdv A outer st H vs Q E hr h => ?_)
  · obtain ⟨v, d, z, lo, hi, rfl, _⟩ := h
    rfl
  · obtain ⟨v, d, z, lo, hi, rfl, hd, hh, hl, q⟩ := h
    have nd := scIsWord.nd
    refine ⟨_, (pss_cons (ps_if (PW.pt (pw_or (pt_not (pt_val (pe_callB call_isi (by rfl) W.zisinstance boot_isi (pa_cons (pv 0) (pa_cons (pe_bltn (v := .ty "str") (by rfl) W.zstr (by decide +kernel) rfl) pa_nil))))) (pw_or1 (pt_not (pt_chain op_le op_le (pv 2) (pe_callB call_len_str (by rfl) W.zlen PySem.boot_len (pa_cons (pv 0) pa_nil)) (pv 3))))))
        (pss_one (ps_ret pe_bl))
        pss_nil)
      (pss_one (ps_ret (pe_callB (cr_all rfl) (by rfl) W.zall (by decide +kernel) (pa_cons (pe_lc (own := [("sign", 4)]) (g := gName 4) (tt := tYes) (te := tOp rSgQ (tVar 4) (tVar 1)) rfl nd (pi_str (pv 0)) (blkOk_by (N := ["thing", "letters", "fewest", "most", "sign"]) (sc := defScope sIsWord) (by decide +kernel)) (fun _ _ _ _ _ => pg_name (i := 4) nd rfl (Or.inl rfl)) (fun _ _ _ _ _ => pts_nil) (fun _ _ _ _ _ => (pe_cmpR op_in_sign (pv 4) (pv 1) (by rfl)))) pa_nil))))), ?_⟩
    refine ⟨_, rfl, v, _, _, _, _, rfl, .ty _, dp_ty hd, isD_kit "str" (by simp) d (dp_nd hd), _, rfl, ?_⟩
    have r : Same H H := fun _ _ h => h
    have q0 := q H r
    cases hd with
    | str s =>
      refine iteF ⟨_, rfl, _, rfl, s, rfl, hl s rfl, _, _, rfl, rfl, _, rfl, ?_⟩
      have q : ∀ H', Same H H' → Q (.bl ((decide (lo ≤ (s.length : Int)) && decide ((s.length : Int) ≤ hi)) && s.cps.toList.all fun c => decide (c ∈ z.cps.toList))) H' := q
      by_cases h1 : lo ≤ (s.length : Int)
      · rw [decide_eq_true h1] at q ⊢
        refine iteT ⟨_, rfl, _, _, rfl, rfl, _, rfl, ?_⟩
        by_cases h2 : (s.length : Int) ≤ hi
        · rw [decide_eq_true h2] at q ⊢
          refine iteF ⟨_, rfl, s, rfl, fun D nD => ?_⟩
          have lz : s.cps.size = s.length := rfl
          refine lc_it walk_str (fun i H' => Same H H' ∧ H' D = some (.lst (((s.cps.toList.take i).map fun c => decide (c ∈ z.cps.toList)).map V.bl))) ⟨same_upd nD, upd_same⟩ (fun _ _ _ _ => trivial) ?_ ?_
          · rintro i x H1 H2 hi' ⟨s1, e1⟩ ⟨rfl, c, hc, rfl⟩
            have hcl : s.cps.toList[i]? = some c := by rw [Array.getElem?_toList]; exact hc
            refine ⟨rfl, yes_i ⟨_, rfl, _, rfl, c, z, rfl, rfl, ?_⟩⟩
            refine ⟨_, e1, ?_, sm_over s1 nD, ?_⟩
            · rw [List.length_map, List.length_map, List.length_take, sizeLine_eq]
              have : s.cps.toList.length = s.length := by simp [Str.length]
              omega
            · rw [upd_same, List.take_add_one, hcl, List.map_append, List.map_append]
              rfl
          · rintro H1 ⟨s1, e1⟩
            rw [List.take_of_length_le (by simp)] at e1
            refine ⟨_, _, rfl, SqL.of e1, ?_⟩
            rw [List.all_map]
            exact q _ s1
        · rw [decide_eq_false h2] at q ⊢
          exact iteT (q H r)
      · rw [decide_eq_false h1] at q ⊢
        exact iteF ⟨_, rfl, iteT (q H r)⟩
    | non => exact iteT q0
    | bl b => exact iteT q0
    | int i => exact iteT q0
    | tup h a => exact iteT q0
    | lst h a => exact iteT q0
/-- trees that can be looked at -/
def spNameQ (K : PySem.W.Frag) : Sp := fun vs H Q _ => ∃ v d, vs = [v] ∧ Dp K H v d ∧ TrOk d ∧ ∀ H', Same H H' → Q (.bl (isNameD d)) H'
theorem ok_n {k : Nat} (W : RowD K mg f_w f_n f_nu f_tu f_pl f_gh f_ls f_lb f_ir d_w d_n d_nu d_tu d_pl d_gh d_ls d_lb d_ir) : FnOk P w K mg base CX0 (k + 2) f_n d_n ["thing"] (spNameQ K) := by
  obtain ⟨_, hS⟩ := W.cSMALL
  obtain ⟨_, hN⟩ := W.cLONGEST_NAME
  have GW : FnOk P w K mg base CX0 (k + 1) f_w d_w ["thing", "letters", "fewest", "most"] (spWordQ K) := ok_w W
  refine W.n.F.ok scIsName (fun vs H Q E h => ?_) (fun cdv A outer st H vs Q E hr h => ?_)
  · obtain ⟨v, d, rfl, _⟩ := h
    rfl
  · obtain ⟨v, d, rfl, hd, ht, q⟩ := h
    refine ⟨_, (pss_one (ps_ret (pe_call GW hr rfl W.w.g W.w.F.kp W.w.b .nil pass0 (pa_cons (pv 0) (pa_cons (pe_glob (v := .str SM) rfl hS ⟨_, rfl⟩) (pa_cons pe_int (pa_cons (pe_glob (v := .int 8) rfl hN ⟨_, rfl⟩) pa_nil))))))), ?_⟩
    exact ⟨_, rfl, v, d, SM, 1, 8, rfl, hd, by decide, ht.str, q⟩
def spPlain (K : PySem.W.Frag) : Sp := fun vs H Q _ => ∃ v d, vs = [v] ∧ Dp K H v d ∧ TrOk d ∧ ∀ H', Same H H' → Q (.bl (plainD d)) H'
theorem ok_pl {k : Nat} (W : RowD K mg f_w f_n f_nu f_tu f_pl f_gh f_ls f_lb f_ir d_w d_n d_nu d_tu d_pl d_gh d_ls d_lb d_ir) : FnOk P w K mg base CX0 (k + 3) f_pl d_pl ["step"] (spPlain K) := by
  obtain ⟨_, hL⟩ := W.cLETTERS
  obtain ⟨_, hM⟩ := W.cMOST_SIDES
  have GW : FnOk P w K mg base CX0 (k + 1) f_w d_w ["thing", "letters", "fewest", "most"] (spWordQ K) := ok_w W
  have GT : FnOk P w K mg base CX0 (k + 1) f_tu d_tu ["thing", "many"] (spTupQ K) := ok_tu W
  have GN : FnOk P w K mg base CX0 (k + 2) f_n d_n ["thing"] (spNameQ K) := ok_n W
  refine W.pl.F.ok scIsPlain (fun vs H Q E h => ?_) (fun cdv A outer st H vs Q E hr h => ?_)
  · obtain ⟨v, d, rfl, _⟩ := h
    rfl
  · obtain ⟨v, d, rfl, hd, ht, q⟩ := h
    have r1 : Room (k + 1) _ := hr.mono (by omega)
    refine ⟨_, (pss_cons (ps_if (pt_not (pt_val (pe_call GT r1 rfl W.tu.g W.tu.F.kp W.tu.b .nil pass0 (pa_cons (pv 0) (pa_cons pe_int pa_nil)))))
        (pss_one (ps_ret pe_bl))
        pss_nil)
      (pss_cons (ps_if (pt_cmpR (op_eqD hr.units) (pe_ix ix_tup (pv 0) pe_int (fun _ _ => rfl)) pe_str (nomark _))
        (pss_one (ps_ret (pe_call GW r1 rfl W.w.g W.w.F.kp W.w.b .nil pass0 (pa_cons (pe_ix ix_tup (pv 0) pe_int (fun _ _ => rfl)) (pa_cons (pe_glob (v := .str LT) rfl hL ⟨_, rfl⟩) (pa_cons pe_int (pa_cons (pe_glob (v := .int 12) rfl hM ⟨_, rfl⟩) pa_nil)))))))
        pss_nil)
      (pss_cons (ps_if (pt_cmpR (op_eqD hr.units) (pe_ix ix_tup (pv 0) pe_int (fun _ _ => rfl)) pe_str (nomark _))
        (pss_one (ps_ret (pe_call GW r1 rfl W.w.g W.w.F.kp W.w.b .nil pass0 (pa_cons (pe_ix ix_tup (pv 0) pe_int (fun _ _ => rfl)) (pa_cons (pe_glob (v := .str LT) rfl hL ⟨_, rfl⟩) (pa_cons pe_int (pa_cons (pe_glob (v := .int 12) rfl hM ⟨_, rfl⟩) pa_nil)))))))
        pss_nil)
      (pss_one (ps_ret (pe_and (pe_cmpR (op_eqD hr.units) (pe_ix ix_tup (pv 0) pe_int (fun _ _ => rfl)) pe_str (nomark _)) (pe_one (pe_call GN hr rfl W.n.g W.n.F.kp W.n.b .nil pass0 (pa_cons (pe_ix ix_tup (pv 0) pe_int (fun _ _ => rfl)) pa_nil))))))))), ?_⟩
    have r : Same H H := fun _ _ h => h
    refine ⟨_, rfl, v, d, 2, rfl, hd, _, rfl, ?_⟩
    by_cases h2 : isTupD 2 d = true
    · obtain ⟨a, b, rfl⟩ := tup2 h2
      obtain ⟨p, va, vb, rfl, hT, ha, hb⟩ := dp_two hd
      obtain ⟨ta, tb⟩ := ht.two
      have q : ∀ H', Same H H' → Q (.bl (if eqStr a "call" = true then isWordD LT 0 12 b else if eqStr a "turn" = true then isWordD LT 1 12 b else eqStr a "row" && isNameD b)) H' := q
      rw [h2]
      refine iteF ?_
      have e : ∀ x : Str, PyData.eqv a (.str x) = eqStr a x := fun _ => rfl
      refine ⟨_, rfl, p, _, 0, va, rfl, rfl, hT, rfl, a, .str "call", ha, .str _, ta.sh, by decide +kernel, _, rfl, ?_⟩
      rw [e]
      refine ite2 (fun t => ?_) (fun t => ?_)
      · refine ⟨_, rfl, p, _, 1, vb, rfl, rfl, hT, rfl, vb, b, LT, 0, 12, rfl, hb, by decide, tb.str, fun H' s => ?_⟩
        have := q H' s
        rw [if_pos t] at this
        exact this
      · refine ⟨_, rfl, p, _, 0, va, rfl, rfl, hT, rfl, a, .str "turn", ha, .str _, ta.sh, by decide +kernel, _, rfl, ?_⟩
        rw [e]
        refine ite2 (fun t2 => ?_) (fun t2 => ?_)
        · refine ⟨_, rfl, p, _, 1, vb, rfl, rfl, hT, rfl, vb, b, LT, 1, 12, rfl, hb, by decide, tb.str, fun H' s => ?_⟩
          have := q H' s
          rw [if_neg t, if_pos t2] at this
          exact this
        · refine ⟨_, rfl, p, _, 0, va, rfl, rfl, hT, rfl, a, .str "row", ha, .str _, ta.sh, by decide +kernel, _, rfl, ?_⟩
          rw [e]
          have q : ∀ H', Same H H' → Q (.bl (eqStr a "row" && isNameD b)) H' := fun H' s => by
            have := q H' s
            rw [if_neg t, if_neg t2] at this
            exact this
          by_cases t3 : eqStr a "row" = true
          · rw [t3] at q ⊢
            exact iteT ⟨_, rfl, p, _, 1, vb, rfl, rfl, hT, rfl, vb, b, rfl, hb, tb, fun H' s => by have := q H' s; rw [Bool.true_and] at this; exact this⟩
          · rw [Bool.not_eq_true] at t3
            rw [t3] at q ⊢
            exact iteF (q H r)
    · have q := q H r
      rw [plain_not2 h2] at q
      rw [Bool.not_eq_true] at h2
      rw [h2]
      exact iteT q
def spHead (K : PySem.W.Frag) : Sp := fun vs H Q _ => ∃ v d, vs = [v] ∧ Dp K H v d ∧ TrOk d ∧ Q (.bl (headD d)) H
theorem ok_gh {k : Nat} (W : RowD K mg f_w f_n f_nu f_tu f_pl f_gh f_ls f_lb f_ir d_w d_n d_nu d_tu d_pl d_gh d_ls d_lb d_ir) : FnOk P w K mg base CX0 (k + 2) f_gh d_gh ["step"] (spHead K) := by
  obtain ⟨_, hTi⟩ := W.cMOST_TIMES
  have GT : FnOk P w K mg base CX0 (k + 1) f_tu d_tu ["thing", "many"] (spTupQ K) := ok_tu W
  have GNu : FnOk P w K mg base CX0 (k + 1) f_nu d_nu ["thing", "most"] (spNumQ K) := ok_nu W
  refine W.gh.F.ok scIsHead (fun vs H Q E h => ?_) (fun cdv A outer st H vs Q E hr h => ?_)
  · obtain ⟨v, d, rfl, _⟩ := h
    rfl
  · obtain ⟨v, d, rfl, hd, ht, q⟩ := h
    refine ⟨_, (pss_one (ps_ret (pe_and (pe_call GT hr rfl W.tu.g W.tu.F.kp W.tu.b .nil pass0 (pa_cons (pv 0) (pa_cons pe_int pa_nil))) (pe_and (pe_cmpR (op_eqD hr.units) (pe_ix ix_tup (pv 0) pe_int (fun _ _ => rfl)) pe_str (nomark _)) (pe_one (pe_call GNu hr rfl W.nu.g W.nu.F.kp W.nu.b .nil pass0 (pa_cons (pe_ix ix_tup (pv 0) pe_int (fun _ _ => rfl)) (pa_cons (pe_glob (v := .int (10 ^ 30)) rfl hTi ⟨_, rfl⟩) pa_nil)))))))), ?_⟩
    refine ⟨_, rfl, v, d, 3, rfl, hd, _, rfl, ?_⟩
    by_cases h3 : isTupD 3 d = true
    · obtain ⟨a, b, c, rfl⟩ := tup3 h3
      obtain ⟨p, va, vb, vc, rfl, hT, ha, hb, hc⟩ := dp_three hd
      obtain ⟨ta, tb, tc⟩ := ht.three
      rw [h3]
      refine iteT ⟨_, rfl, p, _, 0, va, rfl, rfl, hT, rfl, a, .str "times", ha, .str _, ta.sh, by decide +kernel, _, rfl, ?_⟩
      have q : Q (.bl (eqStr a "times" && isNumD (10 ^ 30) b)) H := q
      rw [show PyData.eqv a (.str "times") = eqStr a "times" from rfl]
      by_cases t : eqStr a "times" = true
      · rw [t] at q ⊢
        exact iteT ⟨_, rfl, p, _, 1, vb, rfl, rfl, hT, rfl, vb, b, 10 ^ 30, rfl, hb, by rw [Bool.true_and] at q; exact q⟩
      · rw [Bool.not_eq_true] at t
        rw [t] at q ⊢
        exact iteF q
    · rw [head_not3 h3] at q
      rw [Bool.not_eq_true] at h3
      rw [h3]
      exact iteF q
def spLbS (K : PySem.W.Frag) (n : Nat) : Sp := fun vs H Q _ => ∃ v d l, vs = [v, .int ((12 - n : Nat) : Int), .int l] ∧ n ≤ 12 ∧ Dp K H v d ∧ TrOk d ∧ ∀ H', Same H H' → Q (.int (lbS n d l)) H'
def spLbR (K : PySem.W.Frag) (n : Nat) : Sp := fun vs H Q _ => ∃ v d l, vs = [v, .int ((12 - n : Nat) : Int), .int l] ∧ n ≤ 12 ∧ Dp K H v d ∧ TrOk d ∧ ∀ H', Same H H' → Q (.int (lbR n d l)) H'
/-- a row, if its steps are told -/
theorem ok_lb_of {k n : Nat} (W : RowD K mg f_w f_n f_nu f_tu f_pl f_gh f_ls f_lb f_ir d_w d_n d_nu d_tu d_pl d_gh d_ls d_lb d_ir) (hk : 1 ≤ k) (GS : FnOk P w K mg base CX0 k f_ls d_ls ["step", "deep", "left"] (spLbS K n)) : FnOk P w K mg base CX0 (k + 1) f_lb d_lb ["row", "deep", "left"] (spLbR K n) := by
  have GT : FnOk P w K mg base CX0 (0 + 1) f_tu d_tu ["thing", "many"] (spTupQ K) := ok_tu W
  refine W.lb.F.ok scLb (fun vs H Q E h => ?_) (fun cdv A outer st H vs Q E hr h => ?_)
  · obtain ⟨v, d, l, rfl, _⟩ := h
    rfl
  · obtain ⟨v, d, l, rfl, hn, hd, ht, q⟩ := h
    have r1 : Room (0 + 1) _ := hr.mono (by omega)
    have nd := scLb.nd
    refine ⟨_, (pss_cons (ps_if (PW.pt (pw_or (pt_not (pt_val (pe_call GT r1 rfl W.tu.g W.tu.F.kp W.tu.b .nil pass0 (pa_cons (pv 0) (pa_cons pe_int pa_nil))))) (pw_or (pt_cmpR (op_neD hr.units) (pe_ix ix_tup (pv 0) pe_int (fun _ _ => rfl)) pe_str (nomark _)) (pw_or1 (pt_not (pt_val (pe_callB call_isi (by rfl) W.zisinstance boot_isi (pa_cons (pe_ix ix_tup (pv 0) pe_int (fun _ _ => rfl)) (pa_cons (pe_bltn (v := .ty "tuple") (by rfl) W.ztuple (by decide +kernel) rfl) pa_nil)))))))))
        (pss_one (ps_ret (pe_un un_neg pe_int)))
        pss_nil)
      (pss_cons (ps_for PassesOwn.never rfl (pi_tup (pe_ix ix_tup (pv 0) pe_int (fun _ _ => rfl))) (pg_name (i := 3) nd rfl (.inl rfl))
        (pss_cons (ps_set (i := 2) nd rfl (.inl rfl) (pe_call GS hr rfl W.ls.g W.ls.F.kp W.ls.b .nil pass0 (pa_cons (pv 3) (pa_cons (pv 1) (pa_cons (pv 2) pa_nil)))))
      (pss_one (ps_if (pt_cmpR op_lt (pv 2) pe_int (nomark _))
        (pss_one (ps_ret (pe_un un_neg pe_int)))
        pss_nil))))
      (pss_one (ps_ret (pv 2))))), ?_⟩
    have r : Same H H := fun _ _ h => h
    refine ⟨_, rfl, v, d, 2, rfl, hd, _, rfl, ?_⟩
    by_cases h2 : isTupD 2 d = true
    · obtain ⟨a, b, rfl⟩ := tup2 h2
      obtain ⟨p, va, vb, rfl, hT, ha, hb⟩ := dp_two hd
      obtain ⟨ta, tb⟩ := ht.two
      rw [h2]
      refine iteF ⟨_, rfl, p, _, 0, va, rfl, rfl, hT, rfl, a, .str "steps", ha, .str _, ta.sh, by decide +kernel, _, rfl, ?_⟩
      rw [show PyData.eqv a (.str "steps") = eqStr a "steps" from rfl]
      by_cases t : eqStr a "steps" = true
      · rw [t]
        refine iteF ⟨_, rfl, p, _, 1, vb, rfl, rfl, hT, rfl, vb, _, _, _, _, rfl, .ty _, dp_ty hb, isD_kit "tuple" (by simp) b (dp_nd hb), _, rfl, ?_⟩
        cases hb with
        | tup hq hall =>
          rename_i pq xs ds
          have q : ∀ H', Same H H' → Q (.int (lbL (lbS n) ds l)) H' := fun H' s => by
            have := q H' s
            show Q (.int (lbL (lbS n) ds l)) H'
            have e : lbR n (.tuple [a, .tuple ds]) l = lbL (lbS n) ds l := by
              show (if eqStr a "steps" = true then _ else _) = _
              rw [if_pos t]
            rw [e] at this
            exact this
          refine iteF ⟨_, rfl, p, _, 1, _, rfl, rfl, hT, rfl, pq, rfl, ⟨_, hq⟩, ?_⟩
          have wk := walk_tup (K := K) (a := pq) (xs := xs)
          refine for_it wk (fun i σ H' => ∃ (l' : Int) (y3 : Option V), σ = [some (.ref p), some (.int ((12 - n : Nat) : Int)), some (.int l'), y3] ∧ Same H H' ∧ lbL (lbS n) ds l = lbL (lbS n) (ds.drop i) l') ⟨l, _, rfl, r, rfl⟩ (fun i σ H' _ h => by obtain ⟨_, _, _, s, _⟩ := h; exact sm_t s hq) ?_ ?_
          · rintro i v σ G1 G2 hi ⟨l', y3, rfl, s, e⟩ ⟨rfl, hx⟩
            obtain ⟨d', hd', hdp⟩ := dpa_get hall hx
            have il : i < ds.length := (List.getElem?_eq_some_iff.mp hd').1
            have ed : ds.drop i = d' :: ds.drop (i + 1) := by
              rw [List.drop_eq_getElem_cons il, (List.getElem?_eq_some_iff.mp hd').2]
            rw [ed, lbL] at e
            refine ⟨_, rfl, _, rfl, _, rfl, v, d', l', rfl, hn, dp_same s hdp, tb.mem d' (List.mem_of_getElem? hd'), fun G3 s3 => ?_⟩
            refine ⟨_, rfl, _, _, rfl, rfl, _, rfl, ?_⟩
            by_cases neg : lbS n d' l' < 0
            · rw [decide_eq_true neg]
              rw [if_pos neg] at e
              refine iteT ⟨_, rfl, ?_⟩
              have := q G3 (sm_trans s s3)
              rw [e] at this
              exact this
            · rw [decide_eq_false neg]
              rw [if_neg neg] at e
              exact iteF ⟨_, _, rfl, sm_trans s s3, e⟩
          · rintro σ G1 ⟨l', y3, rfl, s, e⟩
            rw [dpa_len hall, List.drop_length, lbL] at e
            have := q G1 s
            rw [e] at this
            exact ⟨_, rfl, this⟩
        | non => exact iteT ⟨_, rfl, q H r⟩
        | bl b => exact iteT ⟨_, rfl, q H r⟩
        | int i => exact iteT ⟨_, rfl, q H r⟩
        | str s => exact iteT ⟨_, rfl, q H r⟩
        | lst h a => exact iteT ⟨_, rfl, q H r⟩
      · have q := q H r
        have e : lbR n (.tuple [a, b]) l = -1 := by
          cases b with
          | tuple xs =>
            show (if eqStr a "steps" = true then lbL (lbS n) xs l else -1) = -1
            rw [if_neg t]
          | _ => rfl
        rw [e] at q
        rw [Bool.not_eq_true] at t
        rw [t]
        exact iteT ⟨_, rfl, q⟩
    · have q := q H r
      have e : lbR n d l = -1 := by
        unfold lbR lbRof
        split
        · exact absurd rfl h2
        · rfl
      rw [e] at q
      rw [Bool.not_eq_true] at h2
      rw [h2]
      exact iteT ⟨_, rfl, q⟩
/-- a step, if rows within it are told -/
theorem ok_ls_of {k n : Nat} {spR : Sp} (W : RowD K mg f_w f_n f_nu f_tu f_pl f_gh f_ls f_lb f_ir d_w d_n d_nu d_tu d_pl d_gh d_ls d_lb d_ir) (hk : 4 ≤ k) (GR : FnOk P w K mg base CX0 k f_lb d_lb ["row", "deep", "left"] spR) (hR : ∀ m, n = m + 1 → spR = spLbR K m) : FnOk P w K mg base CX0 (k + 1) f_ls d_ls ["step", "deep", "left"] (spLbS K n) := by
  obtain ⟨_, hD⟩ := W.cMOST_DEEP
  have GP : FnOk P w K mg base CX0 (0 + 3) f_pl d_pl ["step"] (spPlain K) := ok_pl W
  have GH : FnOk P w K mg base CX0 (0 + 2) f_gh d_gh ["step"] (spHead K) := ok_gh W
  refine W.ls.F.ok scLbS (fun vs H Q E h => ?_) (fun cdv A outer st H vs Q E hr h => ?_)
  · obtain ⟨v, d, l, rfl, _⟩ := h
    rfl
  · obtain ⟨v, d, l, rfl, hn, hd, ht, q⟩ := h
    have r2 : Room (0 + 2) _ := hr.mono (by omega)
    have r3 : Room (0 + 3) _ := hr.mono (by omega)
    refine ⟨_, (pss_cons (ps_if (pt_val (pe_call GP r3 rfl W.pl.g W.pl.F.kp W.pl.b .nil pass0 (pa_cons (pv 0) pa_nil)))
        (pss_one (ps_ret (pe_op op_sub (pv 2) pe_int)))
        pss_nil)
      (pss_cons (ps_if (PW.pt (pw_or (pt_cmpR op_eq (pv 1) (pe_glob (v := .int 12) rfl hD ⟨_, rfl⟩) (nomark _)) (pw_or1 (pt_not (pt_val (pe_call GH r2 rfl W.gh.g W.gh.F.kp W.gh.b .nil pass0 (pa_cons (pv 0) pa_nil)))))))
        (pss_one (ps_ret (pe_un un_neg pe_int)))
        pss_nil)
      (pss_one (ps_ret (pe_call GR hr rfl W.lb.g W.lb.F.kp W.lb.b .nil pass0 (pa_cons (pe_ix ix_tup (pv 0) pe_int (fun _ _ => rfl)) (pa_cons (pe_op op_add (pv 1) pe_int) (pa_cons (pe_op op_sub (pv 2) pe_int) pa_nil)))))))), ?_⟩
    refine ⟨_, rfl, v, d, rfl, hd, ht, fun H1 s1 => ⟨_, rfl, ?_⟩⟩
    by_cases hp : plainD d = true
    · rw [hp]
      refine iteT ⟨_, rfl, _, _, rfl, rfl, ?_⟩
      have := q H1 s1
      rw [show lbS n d l = l - 1 by cases n <;> rw [lbS, if_pos hp]] at this
      exact this
    · rw [Bool.not_eq_true] at hp
      rw [hp]
      refine iteF ⟨_, rfl, rfl, _, rfl, ?_⟩
      cases n with
      | zero =>
        have := q H1 s1
        rw [show lbS 0 d l = -1 by rw [lbS, if_neg (by rw [hp]; simp)]] at this
        rw [show decide (V.int ((12 - 0 : Nat) : Int) = V.int 12) = true from decide_eq_true rfl]
        exact iteT ⟨_, rfl, this⟩
      | succ n =>
        have e1 : lbS (n + 1) d l = if headD d = true then lbRof (lbS n) (thirdD d) (l - 1) else -1 := by rw [lbS, if_neg (by rw [hp]; simp)]
        rw [e1] at q
        rw [show decide (V.int ((12 - (n + 1) : Nat) : Int) = V.int 12) = false from decide_eq_false fun h => by injection h with h; omega]
        refine iteF ⟨_, rfl, v, d, rfl, dp_same s1 hd, ht, _, rfl, ?_⟩
        by_cases hh : headD d = true
        · rw [if_pos hh] at q
          rw [hh]
          obtain ⟨m, c, rfl, hm⟩ := head_enc.mp hh
          obtain ⟨p, va, vb, vc, rfl, hT, ha, hb, hc⟩ := dp_three (dp_same s1 hd)
          obtain ⟨_, _, tc⟩ := ht.three
          have eR := hR n rfl
          subst eR
          refine iteF ⟨_, rfl, p, _, 2, vc, rfl, rfl, hT, rfl, _, rfl, _, _, rfl, rfl, _, rfl, _, _, rfl, rfl, vc, c, l - 1, ?_, by omega, hc, tc, fun H2 s2 => q H2 (sm_trans s1 s2)⟩
          show [vc, V.int (((12 - (n + 1) : Nat) : Int) + 1), V.int (l - 1)] = _
          rw [show ((12 - (n + 1) : Nat) : Int) + 1 = ((12 - n : Nat) : Int) by omega]
        · rw [if_neg hh] at q
          rw [Bool.not_eq_true] at hh
          rw [hh]
          exact iteT ⟨_, rfl, q H1 s1⟩
theorem ok_lbs {k : Nat} (W : RowD K mg f_w f_n f_nu f_tu f_pl f_gh f_ls f_lb f_ir d_w d_n d_nu d_tu d_pl d_gh d_ls d_lb d_ir) : ∀ n, FnOk P w K mg base CX0 (k + 5 + 2 * n) f_ls d_ls ["step", "deep", "left"] (spLbS K n)
  | 0 => ok_ls_of (k := k + 4) (spR := fun _ _ _ _ => False) W (by omega) (W.lb.F.ok scLb (fun vs H Q E h => h.elim) (fun cdv A outer s H vs Q E hr h => h.elim)) fun m e => by cases e
  | n + 1 => ok_ls_of (k := k + 5 + 2 * n + 1) W (by omega) (ok_lb_of W (by omega) (ok_lbs W n)) fun m e => by cases e; rfl
def spIsRow (K : PySem.W.Frag) : Sp := fun vs H Q _ => ∃ v d, vs = [v] ∧ Dp K H v d ∧ TrOk d ∧ ∀ H', Same H H' → Q (.bl (isRowD d)) H'
theorem ok_ir {k : Nat} (W : RowD K mg f_w f_n f_nu f_tu f_pl f_gh f_ls f_lb f_ir d_w d_n d_nu d_tu d_pl d_gh d_ls d_lb d_ir) : FnOk P w K mg base CX0 (k + 31) f_ir d_ir ["tree"] (spIsRow K) := by
  obtain ⟨_, hSt⟩ := W.cMOST_STEPS
  have GR : FnOk P w K mg base CX0 (k + 30) f_lb d_lb ["row", "deep", "left"] (spLbR K 12) := ok_lb_of (k := k + 29) W (by omega) (ok_lbs W 12)
  refine W.ir.F.ok scIsRow (fun vs H Q E h => ?_) (fun cdv A outer st H vs Q E hr h => ?_)
  · obtain ⟨v, d, rfl, _⟩ := h
    rfl
  · obtain ⟨v, d, rfl, hd, ht, q⟩ := h
    refine ⟨_, (pss_one (ps_ret (pe_cmpR op_ge (pe_call GR hr rfl W.lb.g W.lb.F.kp W.lb.b .nil pass0 (pa_cons (pv 0) (pa_cons pe_int (pa_cons (pe_glob (v := .int 60) rfl hSt ⟨_, rfl⟩) pa_nil)))) pe_int (nomark _)))), ?_⟩
    exact ⟨_, rfl, v, d, 60, rfl, by omega, hd, ht, fun H' s => ⟨_, _, rfl, rfl, q H' s⟩⟩
end
end NC
namespace NC
open PySem PySem.Spec PyProof.Rows L2
abbrev sSame : Stmt := topS 29
theorem scSame : FnScope ["_law_x", "_law_due", "_law_k"] ["_law_x", "_law_due"] (defScope sSame) := ⟨rfl, rfl, rfl, by decide +kernel, rfl, by decide +kernel, by decide +kernel⟩
theorem ty_sql {K : PySem.W.Frag} {H : Hp} {a : Addr} {xs : List V} (h : SqL K H a xs) : TyX K H (.ref a) (.type "list") := by
  rcases h with (h | ⟨o, h⟩) | ⟨o, its, n, h1, h2, _⟩
  · exact .base (.lst h)
  · exact .base (.frz h)
  · exact .kList h1 h2
theorem ty_sqt {K : PySem.W.Frag} {H : Hp} {a : Addr} {xs : List V} (h : SqT K H a xs) : TyX K H (.ref a) (.type "tuple") := by
  rcases h with (h | ⟨o, h⟩) | ⟨o, its, n, h1, h2, _⟩
  · exact .base (.tup h)
  · exact .fTuple h
  · exact .kTuple h1 h2
/-- two things that are the same all through, at most n lists or tuples within one another -/
inductive Alk (K : PySem.W.Frag) (H : Hp) : Nat → V → V → Prop where
  | str {n : Nat} (a : Str) : Alk K H n (.str a) (.str a)
  | bl {n : Nat} (a : Bool) : Alk K H n (.bl a) (.bl a)
  | int {n : Nat} (a : Int) : Alk K H n (.int a) (.int a)
  | non {n : Nat} : Alk K H n .non .non
  | lst {n : Nat} {p r : Addr} {xs ys : List V} (ep : SqL K H p xs) (er : SqL K H r ys) (hl : xs.length = ys.length) (h5 : ys.length ≤ 5000) (h : ∀ (i : Nat) a b, xs[i]? = some a → ys[i]? = some b → Alk K H n a b) : Alk K H (n + 1) (.ref p) (.ref r)
  | tup {n : Nat} {p r : Addr} {xs ys : List V} (ep : SqT K H p xs) (er : SqT K H r ys) (hl : xs.length = ys.length) (h5 : ys.length ≤ 5000) (h : ∀ (i : Nat) a b, xs[i]? = some a → ys[i]? = some b → Alk K H n a b) : Alk K H (n + 1) (.ref p) (.ref r)
theorem Alk.same {K : PySem.W.Frag} {H H' : Hp} (s : Same H H') : ∀ {n : Nat} {x y : V}, Alk K H n x y → Alk K H' n x y
  | _, _, _, .str a => .str a
  | _, _, _, .bl a => .bl a
  | _, _, _, .int a => .int a
  | _, _, _, .non => .non
  | _, _, _, .lst ep er hl h5 h => .lst (sm_l s ep) (sm_l s er) hl h5 fun i a b ha hb => (h i a b ha hb).same s
  | _, _, _, .tup ep er hl h5 h => .tup (sm_t s ep) (sm_t s er) hl h5 fun i a b ha hb => (h i a b ha hb).same s
mutual
def lnL : PyData → Bool
  | .list xs => decide (xs.length ≤ 5000) && lnLA xs
  | .tuple xs => decide (xs.length ≤ 5000) && lnLA xs
  | _ => true
def lnLA : List PyData → Bool
  | [] => true
  | x :: xs => lnL x && lnLA xs
end
mutual
/-- two things that tell the same tree are the same all through -/
theorem alk_dp {K : PySem.W.Frag} {H : Hp} : ∀ {v v' : V} {d : PyData} {n : Nat}, Dp K H v d → Dp K H v' d → d.depth ≤ n → lnL d = true → Alk K H n v v'
  | _, _, _, _, .non, .non, _, _ => .non
  | _, _, _, _, .bl b, .bl _, _, _ => .bl b
  | _, _, _, _, .int i, .int _, _, _ => .int i
  | _, _, _, _, .str x, .str _, _, _ => .str x
  | _, _, .list ds, n, .lst h a, .lst h' a', hd, hl => by
    rw [PyData.depth] at hd
    rw [lnL, Bool.and_eq_true, decide_eq_true_eq] at hl
    obtain ⟨m, rfl⟩ : ∃ m, n = m + 1 := ⟨n - 1, by omega⟩
    exact .lst h h' (by rw [dpa_len a, dpa_len a']) (by rw [dpa_len a']; exact hl.1) (alk_dpa a a' (by omega) hl.2)
  | _, _, .tuple ds, n, .tup h a, .tup h' a', hd, hl => by
    rw [PyData.depth] at hd
    rw [lnL, Bool.and_eq_true, decide_eq_true_eq] at hl
    obtain ⟨m, rfl⟩ : ∃ m, n = m + 1 := ⟨n - 1, by omega⟩
    exact .tup h h' (by rw [dpa_len a, dpa_len a']) (by rw [dpa_len a']; exact hl.1) (alk_dpa a a' (by omega) hl.2)
theorem alk_dpa {K : PySem.W.Frag} {H : Hp} : ∀ {vs vs' : List V} {ds : List PyData} {n : Nat}, DpAll K H vs ds → DpAll K H vs' ds → PyData.depthAll ds ≤ n → lnLA ds = true → ∀ (i : Nat) a b, vs[i]? = some a → vs'[i]? = some b → Alk K H n a b
  | _, _, _, _, .nil, .nil, _, _, i, a, b, ha, hb => by simp at ha
  | _, _, _, _, .cons x xs, .cons y ys, hd, hl, i, a, b, ha, hb => by
    rw [PyData.depthAll] at hd
    rw [lnLA, Bool.and_eq_true] at hl
    cases i with
    | zero => cases ha; cases hb; exact alk_dp x y (by omega) hl.1
    | succ i => exact alk_dpa xs ys (by omega) hl.2 i a b ha hb
end
section
variable {P : Program} {w : World} {K : PySem.W.Frag} {mg : Str → Option Value} {base : Heap}
/-- yes alone: only of what is the same -/
def spYes (K : PySem.W.Frag) : Nat → Sp := fun n vs H Q _ => ∃ x y, vs = [x, y] ∧ Alk K H n x y ∧ ∀ H', Same H H' → Q (.bl true) H'
def spNo : Sp := fun _ _ _ _ => False
theorem range_true (n : Nat) : ((List.range n).map fun _ => true).all id = true := by
  rw [List.all_eq_true]
  intro x hx
  obtain ⟨_, _, e⟩ := List.mem_map.mp hx
  rw [← e]
  rfl
theorem dec_self (x : V) : decide (x = x) = true := decide_eq_true rfl
set_option maxHeartbeats 2000000 in
theorem ok_yes1 {f : Addr} {fd : FuncData} {k : Nat} {spR : Sp} {n : Nat} (B : BM mg) (hb : mg "bool" = none) (hst : mg "str" = none) (D : DF K mg "_law_same" sSame ["_law_x", "_law_due"] f fd) (GS : FnOk P w K mg base CX0 k f fd ["_law_x", "_law_due"] spR)
    (hR : ∀ m, n = m + 1 → ∀ a b H (Q : VK) E, Alk K H m a b → (∀ H', Same H H' → Q (.bl true) H') → spR [a, b] H Q E) :
    FnOk P w K mg base CX0 (k + 1) f fd ["_law_x", "_law_due"] (spYes K n) := by
  refine D.F.ok scSame (fun vs H Q E h => ?_) (fun cdv A outer s H vs Q E hr h => ?_)
  · obtain ⟨x, y, rfl, _⟩ := h
    rfl
  · obtain ⟨x, y, rfl, al, q⟩ := h
    refine ⟨_, pss_cons (ps_if (pt_val (pe_callB call_isiT (by rfl) B.isinstance boot_isi (pa_cons (pv 1) (pa_cons (pe_tup (pa_cons (pe_bltn (v := .ty "list") (by rfl) B.list (by decide +kernel) rfl) (pa_cons (pe_bltn (v := .ty "tuple") (by rfl) B.tuple (by decide +kernel) rfl) pa_nil))) pa_nil))))
        (pss_cons (ps_if (PW.pt (pw_or
            (pt_cmpR op_ne (pe_callB call_isi (by rfl) B.isinstance boot_isi (pa_cons (pv 1) (pa_cons (pe_bltn (v := .ty "list") (by rfl) B.list (by decide +kernel) rfl) pa_nil))) (pe_callB call_isi (by rfl) B.isinstance boot_isi (pa_cons (pv 0) (pa_cons (pe_bltn (v := .ty "list") (by rfl) B.list (by decide +kernel) rfl) pa_nil))) (nomark _))
            (pw_or1 (pt_cmpR op_ne (pe_callB call_isi (by rfl) B.isinstance boot_isi (pa_cons (pv 1) (pa_cons (pe_bltn (v := .ty "tuple") (by rfl) B.tuple (by decide +kernel) rfl) pa_nil))) (pe_callB call_isi (by rfl) B.isinstance boot_isi (pa_cons (pv 0) (pa_cons (pe_bltn (v := .ty "tuple") (by rfl) B.tuple (by decide +kernel) rfl) pa_nil))) (nomark _)))))
          (pss_one (ps_ret pe_bl)) pss_nil)
        (pss_one (ps_ret (pe_and (pe_cmpR op_eq (pe_callB call_len_seq (by rfl) B.len PySem.boot_len (pa_cons (pv 0) pa_nil)) (pe_callB call_len_seq (by rfl) B.len PySem.boot_len (pa_cons (pv 1) pa_nil)) (nomark _))
          (pe_one (pe_callB (cr_all rfl) (by rfl) B.all (by decide +kernel) (pa_cons (pe_lc (own := [("_law_k", 2)]) (g := gName 2) (tt := tYes) (te := tCall spR [] E0 (tCons (tOp (fun x y H Q => rIxL K x y H Q ∨ rIxT K x y H Q) (tVar 0) (tVar 2)) (tCons (tOp (fun x y H Q => rIxL K x y H Q ∨ rIxT K x y H Q) (tVar 1) (tVar 2)) tNil))) rfl scSame.nd (pi_range1 (by rfl) B.range (pa_cons (pe_callB call_len_seq (by rfl) B.len PySem.boot_len (pa_cons (pv 1) pa_nil)) pa_nil))
            (blkOk_by (N := ["_law_x", "_law_due", "_law_k"]) (sc := defScope sSame) (by decide +kernel)) (fun _ _ _ _ _ => pg_name (i := 2) scSame.nd rfl (Or.inl rfl)) (fun _ _ _ _ _ => pts_nil)
            (fun _ _ _ _ _ => pe_call GS hr rfl D.g D.F.kp D.b .nil pass0 (pa_cons (pe_ix (IxR.or ix_list ix_tup) (pv 0) (pv 2) (fun _ _ => rfl)) (pa_cons (pe_ix (IxR.or ix_list ix_tup) (pv 1) (pv 2) (fun _ _ => rfl)) pa_nil)))) pa_nil)))))))
        pss_nil)
      (pss_cons (ps_if (PW.pt (pw_or
            (pt_cmpR op_ne (pe_callB call_isi (by rfl) B.isinstance boot_isi (pa_cons (pv 0) (pa_cons (pe_bltn (v := .ty "bool") (by rfl) hb (by decide +kernel) rfl) pa_nil))) (pe_callB call_isi (by rfl) B.isinstance boot_isi (pa_cons (pv 1) (pa_cons (pe_bltn (v := .ty "bool") (by rfl) hb (by decide +kernel) rfl) pa_nil))) (nomark _))
            (pw_or1 (pt_cmpR op_ne (pe_callB call_isi (by rfl) B.isinstance boot_isi (pa_cons (pv 0) (pa_cons (pe_bltn (v := .ty "str") (by rfl) hst (by decide +kernel) rfl) pa_nil))) (pe_callB call_isi (by rfl) B.isinstance boot_isi (pa_cons (pv 1) (pa_cons (pe_bltn (v := .ty "str") (by rfl) hst (by decide +kernel) rfl) pa_nil))) (nomark _)))))
          (pss_one (ps_ret pe_bl)) pss_nil)
      (pss_one (ps_ret (pe_and (pe_cmpR op_eq (pe_cmp (pc_isN (pv 0))) (pe_cmp (pc_isN (pv 1))) (nomark _)) (pe_one (pe_cmpR op_eq (pv 0) (pv 1) (nomark _))))))), ?_⟩
    cases al with
    | str a =>
      refine ⟨_, rfl, by show 2 ≤ sizeLine; decide, fun T nT => ⟨_, T, _, .type "str", [.type "list", .type "tuple"], false, rfl, upd_same, .cons (.ty _) (.cons (.ty _) .nil), .base (.str _), kitAny_cons (kit_ty (b := "list") (r := false) (by decide +kernel)) (fun _ => kitAny_cons (kit_ty (b := "tuple") (r := false) (by decide +kernel)) (fun _ => rfl) (fun z => by cases z)) (fun z => by cases z), _, rfl, iteF ?_⟩⟩
      refine ⟨_, rfl, _, _, .type "str", .type "bool", false, rfl, .ty _, .base (.str _), kit_ty (by decide +kernel), _, rfl, _, _, .type "str", .type "bool", false, rfl, .ty _, .base (.str _), kit_ty (by decide +kernel), rfl, _, rfl, ite2 (fun z => absurd z (by decide)) (fun _ => ?_)⟩
      refine ⟨_, rfl, _, _, .type "str", .type "str", true, rfl, .ty _, .base (.str _), kit_ty (by decide +kernel), _, rfl, _, _, .type "str", .type "str", true, rfl, .ty _, .base (.str _), kit_ty (by decide +kernel), rfl, _, rfl, ite2 (fun z => absurd z (by decide)) (fun _ => ?_)⟩
      refine ⟨_, rfl, _, rfl, rfl, _, rfl, ?_⟩
      rw [dec_self]
      refine iteT ⟨_, rfl, _, rfl, rfl, ?_⟩
      rw [dec_self]
      exact q _ (same_upd nT)
    | bl a =>
      refine ⟨_, rfl, by show 2 ≤ sizeLine; decide, fun T nT => ⟨_, T, _, .type "bool", [.type "list", .type "tuple"], false, rfl, upd_same, .cons (.ty _) (.cons (.ty _) .nil), .base (.bl _), kitAny_cons (kit_ty (b := "list") (r := false) (by decide +kernel)) (fun _ => kitAny_cons (kit_ty (b := "tuple") (r := false) (by decide +kernel)) (fun _ => rfl) (fun z => by cases z)) (fun z => by cases z), _, rfl, iteF ?_⟩⟩
      refine ⟨_, rfl, _, _, .type "bool", .type "bool", true, rfl, .ty _, .base (.bl _), kit_ty (by decide +kernel), _, rfl, _, _, .type "bool", .type "bool", true, rfl, .ty _, .base (.bl _), kit_ty (by decide +kernel), rfl, _, rfl, ite2 (fun z => absurd z (by decide)) (fun _ => ?_)⟩
      refine ⟨_, rfl, _, _, .type "bool", .type "str", false, rfl, .ty _, .base (.bl _), kit_ty (by decide +kernel), _, rfl, _, _, .type "bool", .type "str", false, rfl, .ty _, .base (.bl _), kit_ty (by decide +kernel), rfl, _, rfl, ite2 (fun z => absurd z (by decide)) (fun _ => ?_)⟩
      refine ⟨_, rfl, _, rfl, rfl, _, rfl, ?_⟩
      rw [dec_self]
      refine iteT ⟨_, rfl, _, rfl, rfl, ?_⟩
      rw [dec_self]
      exact q _ (same_upd nT)
    | int a =>
      refine ⟨_, rfl, by show 2 ≤ sizeLine; decide, fun T nT => ⟨_, T, _, .type "int", [.type "list", .type "tuple"], false, rfl, upd_same, .cons (.ty _) (.cons (.ty _) .nil), .base (.int _), kitAny_cons (kit_ty (b := "list") (r := false) (by decide +kernel)) (fun _ => kitAny_cons (kit_ty (b := "tuple") (r := false) (by decide +kernel)) (fun _ => rfl) (fun z => by cases z)) (fun z => by cases z), _, rfl, iteF ?_⟩⟩
      refine ⟨_, rfl, _, _, .type "int", .type "bool", false, rfl, .ty _, .base (.int _), kit_ty (by decide +kernel), _, rfl, _, _, .type "int", .type "bool", false, rfl, .ty _, .base (.int _), kit_ty (by decide +kernel), rfl, _, rfl, ite2 (fun z => absurd z (by decide)) (fun _ => ?_)⟩
      refine ⟨_, rfl, _, _, .type "int", .type "str", false, rfl, .ty _, .base (.int _), kit_ty (by decide +kernel), _, rfl, _, _, .type "int", .type "str", false, rfl, .ty _, .base (.int _), kit_ty (by decide +kernel), rfl, _, rfl, ite2 (fun z => absurd z (by decide)) (fun _ => ?_)⟩
      refine ⟨_, rfl, _, rfl, rfl, _, rfl, ?_⟩
      rw [dec_self]
      refine iteT ⟨_, rfl, _, rfl, rfl, ?_⟩
      rw [dec_self]
      exact q _ (same_upd nT)
    | non =>
      refine ⟨_, rfl, by show 2 ≤ sizeLine; decide, fun T nT => ⟨_, T, _, .type "NoneType", [.type "list", .type "tuple"], false, rfl, upd_same, .cons (.ty _) (.cons (.ty _) .nil), .base .non, kitAny_cons (kit_ty (b := "list") (r := false) (by decide +kernel)) (fun _ => kitAny_cons (kit_ty (b := "tuple") (r := false) (by decide +kernel)) (fun _ => rfl) (fun z => by cases z)) (fun z => by cases z), _, rfl, iteF ?_⟩⟩
      refine ⟨_, rfl, _, _, .type "NoneType", .type "bool", false, rfl, .ty _, .base .non, kit_ty (by decide +kernel), _, rfl, _, _, .type "NoneType", .type "bool", false, rfl, .ty _, .base .non, kit_ty (by decide +kernel), rfl, _, rfl, ite2 (fun z => absurd z (by decide)) (fun _ => ?_)⟩
      refine ⟨_, rfl, _, _, .type "NoneType", .type "str", false, rfl, .ty _, .base .non, kit_ty (by decide +kernel), _, rfl, _, _, .type "NoneType", .type "str", false, rfl, .ty _, .base .non, kit_ty (by decide +kernel), rfl, _, rfl, ite2 (fun z => absurd z (by decide)) (fun _ => ?_)⟩
      refine ⟨_, rfl, _, rfl, rfl, _, rfl, ?_⟩
      rw [dec_self]
      refine iteT ⟨_, rfl, _, rfl, rfl, ?_⟩
      rw [dec_self]
      exact q _ (same_upd nT)
    | @lst m p r xs ys ep er hl h5 hal =>
      have s1 : ∀ {T : Addr}, H T = none → ∀ {o : HO}, SqL K (upd H T o) p xs ∧ SqL K (upd H T o) r ys := fun {T} nT {o} => ⟨sm_l (same_upd nT) ep, sm_l (same_upd nT) er⟩
      refine ⟨_, rfl, by show 2 ≤ sizeLine; decide, fun T nT => ⟨_, T, _, .type "list", [.type "list", .type "tuple"], true, rfl, upd_same, .cons (.ty _) (.cons (.ty _) .nil), (ty_sql (s1 nT).2), kitAny_cons (kit_ty (b := "list") (r := true) (by decide +kernel)) (fun z => by cases z) (fun _ => rfl), _, rfl, iteT ?_⟩⟩
      have sT : Same H (upd H T (.tup [V.ty "list", V.ty "tuple"])) := same_upd nT
      generalize (upd H T (.tup [V.ty "list", V.ty "tuple"])) = H1 at sT ⊢
      have ep1 := sm_l sT ep
      have er1 := sm_l sT er
      refine ⟨_, rfl, _, _, .type "list", .type "list", true, rfl, .ty _, (ty_sql er1), kit_ty (by decide +kernel), _, rfl, _, _, .type "list", .type "list", true, rfl, .ty _, (ty_sql ep1), kit_ty (by decide +kernel), rfl, _, rfl, ite2 (fun z => absurd z (by decide)) (fun _ => ?_)⟩
      refine ⟨_, rfl, _, _, .type "list", .type "tuple", false, rfl, .ty _, (ty_sql er1), kit_ty (by decide +kernel), _, rfl, _, _, .type "list", .type "tuple", false, rfl, .ty _, (ty_sql ep1), kit_ty (by decide +kernel), rfl, _, rfl, ite2 (fun z => absurd z (by decide)) (fun _ => ?_)⟩
      refine ⟨_, rfl, p, _, rfl, .inl (ep1), _, rfl, r, _, rfl, .inl (er1), rfl, _, rfl, ?_⟩
      rw [hl, dec_self]
      refine iteT ⟨_, rfl, r, _, rfl, .inl (er1), _, rfl, by omega, by omega, ?_⟩
      rw [show ((ys.length : Nat) : Int).toNat = ys.length by exact Int.toNat_natCast _]
      intro Da nD
      refine lc_it walk_range (fun i H' => Same H1 H' ∧ H' Da = some (.lst (((List.range i).map fun _ => true).map V.bl))) ⟨same_upd nD, upd_same⟩ (fun _ _ _ _ => trivial) ?_ ?_
      · rintro i v H2 H3 hi ⟨s2, e2⟩ ⟨rfl, rfl⟩
        have hx : i < xs.length := by omega
        have ax : atI xs (0 + (i : Int)) = some xs[i] := by
          rw [show (0 + (i : Int)) = ((i : Nat) : Int) by omega]
          exact atI_nat (List.getElem?_eq_getElem hx)
        have ay : atI ys (0 + (i : Int)) = some ys[i] := by
          rw [show (0 + (i : Int)) = ((i : Nat) : Int) by omega]
          exact atI_nat (List.getElem?_eq_getElem hi)
        refine ⟨rfl, yes_i ⟨_, rfl, _, rfl, .inl ⟨p, _, _, _, rfl, rfl, (sm_l s2 ep1), ax, _, rfl, _, rfl, .inl ⟨r, _, _, _, rfl, rfl, (sm_l s2 er1), ay, hR m rfl _ _ _ _ _ ((hal i _ _ (List.getElem?_eq_getElem hx) (List.getElem?_eq_getElem hi)).same (sm_trans sT s2)) fun H4 s4 => ⟨_, s4 _ _ e2, ?_, sm_over (sm_trans s2 s4) nD, ?_⟩⟩⟩⟩⟩
        · rw [List.length_map, List.length_map, List.length_range, sizeLine_eq]
          omega
        · rw [upd_same, List.range_succ, List.map_append, List.map_append]
          rfl
      · rintro H2 ⟨s2, e2⟩
        refine ⟨_, _, rfl, SqL.of e2, ?_⟩
        rw [range_true]
        exact q _ (sm_trans sT s2)
    | @tup m p r xs ys ep er hl h5 hal =>
      have s1 : ∀ {T : Addr}, H T = none → ∀ {o : HO}, SqT K (upd H T o) p xs ∧ SqT K (upd H T o) r ys := fun {T} nT {o} => ⟨sm_t (same_upd nT) ep, sm_t (same_upd nT) er⟩
      refine ⟨_, rfl, by show 2 ≤ sizeLine; decide, fun T nT => ⟨_, T, _, .type "tuple", [.type "list", .type "tuple"], true, rfl, upd_same, .cons (.ty _) (.cons (.ty _) .nil), (ty_sqt (s1 nT).2), kitAny_cons (kit_ty (b := "list") (r := false) (by decide +kernel)) (fun _ => kitAny_cons (kit_ty (b := "tuple") (r := true) (by decide +kernel)) (fun z => by cases z) (fun _ => rfl)) (fun z => by cases z), _, rfl, iteT ?_⟩⟩
      have sT : Same H (upd H T (.tup [V.ty "list", V.ty "tuple"])) := same_upd nT
      generalize (upd H T (.tup [V.ty "list", V.ty "tuple"])) = H1 at sT ⊢
      have ep1 := sm_t sT ep
      have er1 := sm_t sT er
      refine ⟨_, rfl, _, _, .type "tuple", .type "list", false, rfl, .ty _, (ty_sqt er1), kit_ty (by decide +kernel), _, rfl, _, _, .type "tuple", .type "list", false, rfl, .ty _, (ty_sqt ep1), kit_ty (by decide +kernel), rfl, _, rfl, ite2 (fun z => absurd z (by decide)) (fun _ => ?_)⟩
      refine ⟨_, rfl, _, _, .type "tuple", .type "tuple", true, rfl, .ty _, (ty_sqt er1), kit_ty (by decide +kernel), _, rfl, _, _, .type "tuple", .type "tuple", true, rfl, .ty _, (ty_sqt ep1), kit_ty (by decide +kernel), rfl, _, rfl, ite2 (fun z => absurd z (by decide)) (fun _ => ?_)⟩
      refine ⟨_, rfl, p, _, rfl, .inr (ep1), _, rfl, r, _, rfl, .inr (er1), rfl, _, rfl, ?_⟩
      rw [hl, dec_self]
      refine iteT ⟨_, rfl, r, _, rfl, .inr (er1), _, rfl, by omega, by omega, ?_⟩
      rw [show ((ys.length : Nat) : Int).toNat = ys.length by exact Int.toNat_natCast _]
      intro Da nD
      refine lc_it walk_range (fun i H' => Same H1 H' ∧ H' Da = some (.lst (((List.range i).map fun _ => true).map V.bl))) ⟨same_upd nD, upd_same⟩ (fun _ _ _ _ => trivial) ?_ ?_
      · rintro i v H2 H3 hi ⟨s2, e2⟩ ⟨rfl, rfl⟩
        have hx : i < xs.length := by omega
        have ax : atI xs (0 + (i : Int)) = some xs[i] := by
          rw [show (0 + (i : Int)) = ((i : Nat) : Int) by omega]
          exact atI_nat (List.getElem?_eq_getElem hx)
        have ay : atI ys (0 + (i : Int)) = some ys[i] := by
          rw [show (0 + (i : Int)) = ((i : Nat) : Int) by omega]
          exact atI_nat (List.getElem?_eq_getElem hi)
        refine ⟨rfl, yes_i ⟨_, rfl, _, rfl, .inr ⟨p, _, _, _, rfl, rfl, (sm_t s2 ep1), ax, _, rfl, _, rfl, .inr ⟨r, _, _, _, rfl, rfl, (sm_t s2 er1), ay, hR m rfl _ _ _ _ _ ((hal i _ _ (List.getElem?_eq_getElem hx) (List.getElem?_eq_getElem hi)).same (sm_trans sT s2)) fun H4 s4 => ⟨_, s4 _ _ e2, ?_, sm_over (sm_trans s2 s4) nD, ?_⟩⟩⟩⟩⟩
        · rw [List.length_map, List.length_map, List.length_range, sizeLine_eq]
          omega
        · rw [upd_same, List.range_succ, List.map_append, List.map_append]
          rfl
      · rintro H2 ⟨s2, e2⟩
        refine ⟨_, _, rfl, SqL.of e2, ?_⟩
        rw [range_true]
        exact q _ (sm_trans sT s2)
theorem ok_yes {f : Addr} {fd : FuncData} {k : Nat} (B : BM mg) (hb : mg "bool" = none) (hst : mg "str" = none) (D : DF K mg "_law_same" sSame ["_law_x", "_law_due"] f fd) : ∀ n, FnOk P w K mg base CX0 (k + n + 2) f fd ["_law_x", "_law_due"] (spYes K n)
  | 0 => ok_yes1 (spR := spNo) B hb hst D (D.F.ok scSame (fun vs H Q E h => h.elim) (fun cdv A outer s H vs Q E hr h => h.elim)) fun m e => by cases e
  | n + 1 => ok_yes1 B hb hst D (ok_yes B hb hst D n) fun m e a b H Q E al q => by
    cases e
    exact ⟨a, b, rfl, al, q⟩
end
end NC
namespace NC
open PySem PySem.Spec PyProof.Rows L2
/-- a number's figures -/
def dgs (m : Nat) : List Nat := (Nat.toDigits 10 m).map Char.toNat
theorem dgs_str (m : Nat) : Str.ofString (toString ((m : Nat) : Int)) = tx (dgs m) := by
  rw [← str_tx (s := Str.ofString (toString ((m : Nat) : Int)))]
  congr 1
  exact PySem.W.KIN.signs_num m
theorem dig_nat : ∀ d, d < 10 → (Nat.digitChar d).toNat = 48 + d := by decide
theorem dgs_lt {m : Nat} (h : m < 10) : dgs m = [48 + m] := by
  unfold dgs
  rw [Nat.toDigits_of_lt_base h]
  show [_] = _
  rw [dig_nat m h]
theorem dgs_ge {m : Nat} (h : 10 ≤ m) : dgs m = dgs (m / 10) ++ [48 + m % 10] := by
  unfold dgs
  have t : Nat.toDigits 10 (m / 10) ++ Nat.toDigits 10 (m % 10) = Nat.toDigits 10 (10 * (m / 10) + m % 10) := Nat.toDigits_append_toDigits (by decide) (by omega) (by omega)
  rw [Nat.div_add_mod] at t
  rw [← t, List.map_append, Nat.toDigits_of_lt_base (show m % 10 < 10 by omega)]
  show _ ++ [_] = _
  rw [dig_nat _ (by omega)]
theorem dgs_ne (m : Nat) : dgs m ≠ [] := by
  unfold dgs
  simp [Nat.toDigits_ne_nil]
theorem dgs_dig : ∀ (m : Nat) c, c ∈ dgs m → c ∈ dgN := fun m => by
  induction m using Nat.strongRecOn with
  | ind m ih =>
    intro c hc
    rw [dgN_iff]
    rcases Nat.lt_or_ge m 10 with h | h
    · rw [dgs_lt h, List.mem_singleton] at hc
      omega
    · rw [dgs_ge h, List.mem_append, List.mem_singleton] at hc
      rcases hc with hc | hc
      · have := ih (m / 10) (by omega) c hc
        rw [dgN_iff] at this
        exact this
      · omega
theorem dgs_len : ∀ (k m : Nat), m < 10 ^ k → (dgs m).length ≤ max 1 k
  | 0, m, h => by
    have : m = 0 := by omega
    subst this
    rw [dgs_lt (by decide)]
    exact Nat.le_refl _
  | k + 1, m, h => by
    rcases Nat.lt_or_ge m 10 with h1 | h1
    · rw [dgs_lt h1]
      show 1 ≤ _
      omega
    · rw [dgs_ge h1, List.length_append]
      have := dgs_len k (m / 10) (by rw [Nat.pow_succ] at h; omega)
      show _ + 1 ≤ _
      rcases k with _ | k
      · rw [Nat.pow_succ] at h
        omega
      · omega
/-- words with blanks between -/
def sepB : List (List Nat) → List Nat
  | [] => []
  | [a] => a
  | a :: b :: r => a ++ 32 :: sepB (b :: r)
mutual
def wrS : Stp → List Nat
  | .call s => 46 :: s
  | .turn s => 126 :: s
  | .row n => 60 :: (n ++ [62])
  | .times m r => 40 :: ((if r.isEmpty then [45] else sepB (wrL r)) ++ 41 :: 42 :: dgs m)
def wrL : List Stp → List (List Nat)
  | [] => []
  | s :: r => wrS s :: wrL r
end
def wrR (r : List Stp) : List Nat := if r.isEmpty then [45] else sepB (wrL r)
theorem wrL_map : ∀ r : List Stp, wrL r = r.map wrS
  | [] => rfl
  | s :: r => by rw [wrL, wrL_map r]; rfl
theorem blank_tx : Str.ofString " " = tx [32] := by decide +kernel
theorem sep_join : ∀ L : List (List Nat), Txt.join (Str.ofString " ") (L.map tx) = tx (sepB L)
  | [] => rfl
  | [a] => rfl
  | a :: b :: r => by
    rw [TL.join_eq]
    show tx a ++ Str.ofString " " ++ Str.join (Str.ofString " ") ((b :: r).map tx) = tx (a ++ 32 :: sepB (b :: r))
    rw [← TL.join_eq, sep_join (b :: r), blank_tx, tx_app, tx_app, List.append_assoc]
    rfl
theorem sep_len : ∀ (L : List (List Nat)) (n : Nat), (L.map fun x => x.length + 1).sum ≤ n → (sepB L).length ≤ n
  | [], n, _ => Nat.zero_le _
  | [a], n, h => by
    rw [List.map_cons, List.sum_cons] at h
    show a.length ≤ n
    omega
  | a :: b :: r, n, h => by
    rw [List.map_cons, List.sum_cons] at h
    have := sep_len (b :: r) (n - (a.length + 1)) (by omega)
    show (a ++ 32 :: sepB (b :: r)).length ≤ n
    rw [List.length_append, List.length_cons]
    omega
mutual
theorem wrS_len : ∀ s : Stp, wfS s = true → (wrS s).length + 1 ≤ 40 * szS s
  | .call s, w => by
    rw [wfS, Bool.and_eq_true, decide_eq_true_eq] at w
    rw [wrS, szS] <;> try simp
    omega
  | .turn s, w => by
    rw [wfS, Bool.and_eq_true, Bool.and_eq_true, decide_eq_true_eq, decide_eq_true_eq] at w
    rw [wrS, szS] <;> try simp
    omega
  | .row s, w => by
    rw [wfS, Bool.and_eq_true, Bool.and_eq_true, decide_eq_true_eq, decide_eq_true_eq] at w
    rw [wrS, szS] <;> try simp
    omega
  | .times m r, w => by
    rw [wfS, Bool.and_eq_true, decide_eq_true_eq] at w
    have := wrL_len r w.2
    have d := dgs_len 31 m (by omega)
    have l := sep_len (wrL r) _ this
    rw [wrS, szS]
    have e : (if r.isEmpty = true then [45] else sepB (wrL r)).length ≤ 40 * szR r + 1 := by
      split
      · show 1 ≤ _; omega
      · omega
    simp only [List.length_cons, List.length_append]
    omega
theorem wrL_len : ∀ r : List Stp, wfR r = true → ((wrL r).map fun x => x.length + 1).sum ≤ 40 * szR r
  | [], _ => by rw [wrL, szR]; decide
  | s :: r, w => by
    rw [wfR, Bool.and_eq_true] at w
    have := wrS_len s w.1
    have := wrL_len r w.2
    rw [wrL, szR, List.map_cons, List.sum_cons]
    omega
end
theorem wrR_len {r : List Stp} (w : wfR r = true) : (wrR r).length ≤ 40 * szR r + 1 := by
  unfold wrR
  split
  · show 1 ≤ _; omega
  · have := sep_len (wrL r) _ (wrL_len r w)
    omega
theorem szR_mem : ∀ {r : List Stp} {s : Stp}, s ∈ r → szS s ≤ szR r
  | x :: r, s, h => by
    rw [szR]
    rcases List.mem_cons.mp h with rfl | h
    · omega
    · have := szR_mem h
      omega
theorem sum_le_map {α : Type} {f g : α → Nat} (h : ∀ x, f x ≤ g x) : ∀ {xs : List α}, (xs.map f).sum ≤ (xs.map g).sum
  | [] => Nat.le_refl _
  | x :: xs => by
    rw [List.map_cons, List.map_cons, List.sum_cons, List.sum_cons]
    have := h x
    have := sum_le_map h (xs := xs)
    omega
end NC
namespace NC
open PySem PySem.Spec PyProof.Rows L2
/-- one of these signs stands there -/
def atS (s : List Nat) (i : Nat) (z : List Nat) : Bool := match s[i]? with
  | some c => decide (c ∈ z)
  | none => false
def ltP (s z : List Nat) (lo : Nat) : Nat → List Nat → Nat → Except Nat (List Nat × Nat)
  | 0, t, i => .ok (t, i)
  | f + 1, t, i => if atS s i z = true then ltP s z lo f (t ++ [s.getD i 0]) (i + 1) else if t.length < lo then .error i else .ok (t, i)
def nmP (s : List Nat) : Nat → Nat → Nat → Except Nat (Nat × Nat)
  | 0, m, i => .ok (m, i)
  | f + 1, m, i => if 0 < m ∧ atS s i dgN = true then (if 10 ^ 30 < 10 * m + (s.getD i 0 - 48) then .error i else nmP s f (10 * m + (s.getD i 0 - 48)) (i + 1)) else .ok (m, i)
def numP (s : List Nat) (i : Nat) : Except Nat (Nat × Nat) := if atS s i dgN = true then nmP s (s.length - (i + 1)) (s.getD i 0 - 48) (i + 1) else .error i
abbrev RdP (α : Type) : Type := Except Nat (α × Nat × Nat)
def rsP (s : List Nat) (S : Nat → Nat → RdP Stp) : Nat → List Stp → Nat → Nat → RdP (List Stp)
  | 0, acc, i, b => .ok (acc, i, b)
  | f + 1, acc, i, b => if atS s i [32] = true then (match S (i + 1) b with
      | .ok (x, j, c) => rsP s S f (acc ++ [x]) j c
      | .error e => .error e)
    else .ok (acc, i, b)
def rwP (s : List Nat) (S : Nat → Nat → RdP Stp) (i b : Nat) : RdP (List Stp) := if atS s i [45] = true then .ok ([], i + 1, b) else match S i b with
  | .ok (x, j, c) => rsP s S (s.length - j) [x] j c
  | .error e => .error e
def grP (s : List Nat) (R : Nat → Nat → RdP (List Stp)) (i b : Nat) : RdP Stp := match R i b with
  | .ok (r, j, c) => if atS s j [41] = true then (if atS s (j + 1) [42] = true then (match numP s (j + 2) with
      | .ok (m, k) => .ok (.times m r, k, c)
      | .error e => .error e) else .error (j + 1)) else .error j
  | .error e => .error e
def fsN (can : Bool) : List Nat := if can = true then [46, 126, 60, 40] else [46, 126, 60]
def spP (s : List Nat) (G : Nat → Nat → RdP Stp) (can : Bool) (i b : Nat) : RdP Stp :=
  if b = 60 then .error i else
  if atS s i (fsN can) = true then
    (if s.getD i 0 = 46 then (match ltP s ltN 0 12 [] (i + 1) with
      | .ok (t, j) => .ok (.call t, j, b + 1)
      | .error e => .error e)
    else if s.getD i 0 = 126 then (match ltP s ltN 1 12 [] (i + 1) with
      | .ok (t, j) => .ok (.turn t, j, b + 1)
      | .error e => .error e)
    else if s.getD i 0 = 40 then G (i + 1) (b + 1)
    else match ltP s smN 1 8 [] (i + 1) with
      | .ok (t, j) => if atS s j [62] = true then .ok (.row t, j + 1, b + 1) else .error j
      | .error e => .error e)
  else .error i
def stP (s : List Nat) : Nat → Nat → Nat → RdP Stp
  | 0 => spP s (fun _ _ => .error 0) false
  | n + 1 => spP s (grP s (rwP s (stP s n))) true
/-- the whole text -/
def rdP (s : List Nat) : Except Nat (List Stp) := match rwP s (stP s 12) 0 0 with
  | .ok (r, j, _) => if j < s.length then .error j else .ok r
  | .error e => .error e
theorem atS_iff {s : List Nat} {i : Nat} {z : List Nat} : atS s i z = true ↔ ∃ c, s[i]? = some c ∧ c ∈ z := by
  unfold atS
  cases s[i]? with
  | none => simp
  | some c => simp
theorem atS_lt {s : List Nat} {i : Nat} {z : List Nat} (h : atS s i z = true) : i < s.length := by
  obtain ⟨c, h, _⟩ := atS_iff.mp h
  exact (List.getElem?_eq_some_iff.mp h).1
theorem atS_get {s : List Nat} {i : Nat} {z : List Nat} (h : atS s i z = true) : s[i]? = some (s.getD i 0) ∧ s.getD i 0 ∈ z := by
  obtain ⟨c, h, hc⟩ := atS_iff.mp h
  have e : s.getD i 0 = c := by rw [List.getD_eq_getElem?_getD, h]; rfl
  rw [e]
  exact ⟨h, hc⟩
theorem atS_far {s : List Nat} {i : Nat} {z : List Nat} (h : s.length ≤ i) : atS s i z = false := by
  unfold atS
  rw [List.getElem?_eq_none h]
theorem ltP_pos {s z : List Nat} {lo : Nat} : ∀ (f : Nat) (t : List Nat) (i : Nat) (u : List Nat) (j : Nat), ltP s z lo f t i = .ok (u, j) → i ≤ s.length → i ≤ j ∧ j ≤ s.length ∧ u.length + i = t.length + j
  | 0, t, i, u, j, h, hi => by
    rw [ltP] at h
    cases h
    exact ⟨Nat.le_refl _, hi, rfl⟩
  | f + 1, t, i, u, j, h, hi => by
    rw [ltP] at h
    split at h
    · rename_i a
      have := atS_lt a
      obtain ⟨h1, h2, h3⟩ := ltP_pos f _ _ u j h (by omega)
      rw [List.length_append] at h3
      have h3 : u.length + (i + 1) = t.length + 1 + j := h3
      exact ⟨by omega, h2, by omega⟩
    · split at h
      · cases h
      · cases h
        exact ⟨Nat.le_refl _, hi, rfl⟩
theorem nmP_pos {s : List Nat} : ∀ (f m i n j : Nat), nmP s f m i = .ok (n, j) → i ≤ s.length → i ≤ j ∧ j ≤ s.length
  | 0, m, i, n, j, h, hi => by
    rw [nmP] at h
    cases h
    exact ⟨Nat.le_refl _, hi⟩
  | f + 1, m, i, n, j, h, hi => by
    rw [nmP] at h
    split at h
    · rename_i a
      have := atS_lt a.2
      split at h
      · cases h
      · obtain ⟨h1, h2⟩ := nmP_pos f _ _ n j h (by omega)
        exact ⟨by omega, h2⟩
    · cases h
      exact ⟨Nat.le_refl _, hi⟩
theorem numP_pos {s : List Nat} {i n j : Nat} (h : numP s i = .ok (n, j)) : i < j ∧ j ≤ s.length := by
  unfold numP at h
  split at h
  · rename_i a
    have := atS_lt a
    obtain ⟨h1, h2⟩ := nmP_pos _ _ _ n j h (by omega)
    exact ⟨by omega, h2⟩
  · cases h
/-- a step reader that goes on, and counts what it begins -/
def StpOk (s : List Nat) (S : Nat → Nat → RdP Stp) : Prop := ∀ i b x j c, S i b = .ok (x, j, c) → i < j ∧ j ≤ s.length ∧ (b ≤ 60 → c ≤ 60)
def RowOk (s : List Nat) (R : Nat → Nat → RdP (List Stp)) : Prop := ∀ i b x j c, R i b = .ok (x, j, c) → i < j ∧ j ≤ s.length ∧ (b ≤ 60 → c ≤ 60)
theorem rsP_pos {s : List Nat} {S : Nat → Nat → RdP Stp} (hS : StpOk s S) : ∀ (f : Nat) (acc : List Stp) (i b : Nat) (r : List Stp) (j c : Nat), rsP s S f acc i b = .ok (r, j, c) → i ≤ s.length → i ≤ j ∧ j ≤ s.length ∧ (b ≤ 60 → c ≤ 60)
  | 0, acc, i, b, r, j, c, h, hi => by
    rw [rsP] at h
    cases h
    exact ⟨Nat.le_refl _, hi, id⟩
  | f + 1, acc, i, b, r, j, c, h, hi => by
    rw [rsP] at h
    split at h
    · split at h
      · rename_i x j1 c1 e
        obtain ⟨h1, h2, h4⟩ := hS _ _ _ _ _ e
        obtain ⟨h3, h5, h6⟩ := rsP_pos hS f _ _ _ r j c h h2
        exact ⟨by omega, h5, fun z => h6 (h4 z)⟩
      · cases h
    · cases h
      exact ⟨Nat.le_refl _, hi, id⟩
theorem rwP_ok {s : List Nat} {S : Nat → Nat → RdP Stp} (hS : StpOk s S) : RowOk s (rwP s S) := by
  intro i b r j c h
  unfold rwP at h
  split at h
  · rename_i a
    cases h
    have := atS_lt a
    exact ⟨by omega, by omega, id⟩
  · split at h
    · rename_i x j1 c1 e
      obtain ⟨h1, h2, h4⟩ := hS _ _ _ _ _ e
      obtain ⟨h3, h5, h6⟩ := rsP_pos hS _ _ _ _ r j c h h2
      exact ⟨by omega, h5, fun z => h6 (h4 z)⟩
    · cases h
theorem grP_ok {s : List Nat} {R : Nat → Nat → RdP (List Stp)} (hR : RowOk s R) : StpOk s (grP s R) := by
  intro i b r j c h
  unfold grP at h
  split at h
  · rename_i x j1 c1 e
    obtain ⟨h1, h2, h4⟩ := hR _ _ _ _ _ e
    split at h
    · split at h
      · split at h
        · rename_i m k e2
          cases h
          obtain ⟨h3, h5⟩ := numP_pos e2
          exact ⟨by omega, h5, h4⟩
        · cases h
      · cases h
    · cases h
  · cases h
theorem spP_ok {s : List Nat} {G : Nat → Nat → RdP Stp} (hG : StpOk s G) (can : Bool) : StpOk s (spP s G can) := by
  intro i b r j c h
  unfold spP at h
  split at h
  · cases h
  · split at h
    · rename_i n6 a
      have := atS_lt a
      split at h
      · split at h
        · rename_i e
          cases h
          obtain ⟨h1, h2, _⟩ := ltP_pos _ _ _ _ _ e (by omega)
          exact ⟨by omega, h2, fun z => by omega⟩
        · cases h
      · split at h
        · split at h
          · rename_i e
            cases h
            obtain ⟨h1, h2, _⟩ := ltP_pos _ _ _ _ _ e (by omega)
            exact ⟨by omega, h2, fun z => by omega⟩
          · cases h
        · split at h
          · obtain ⟨h1, h2, h3⟩ := hG _ _ _ _ _ h
            exact ⟨by omega, h2, fun z => h3 (by omega)⟩
          · split at h
            · rename_i e
              obtain ⟨h1, h2, _⟩ := ltP_pos _ _ _ _ _ e (by omega)
              split at h
              · rename_i a2
                have := atS_lt a2
                cases h
                exact ⟨by omega, by omega, fun z => by omega⟩
              · cases h
            · cases h
    · cases h
theorem stP_ok (s : List Nat) : ∀ n, StpOk s (stP s n)
  | 0 => spP_ok (fun _ _ _ _ _ h => by cases h) false
  | n + 1 => spP_ok (grP_ok (rwP_ok (stP_ok s n))) true
end NC
namespace NC
open PySem PySem.Spec PyProof.Rows L2
/-- f, called with nothing, does tl as long as J; fs H0 h0: the frames and the heaps that this was said of -/
structure Acts (P : Program) (w : World) (K : PySem.W.Frag) (mg : Str → Option Value) (B : Heap) (k : Nat) (f : Addr) (J : Hp → Prop) (fs : List Addr) (H0 : Hp) (h0 : Heap) (tl : XK → Hp → VK → Prop) : Prop where
  obj : ∀ (G : Hp) (s : Shared), Un fs [] H0 G h0 s.heap → HOk P w G s.heap → J G → PySem.W.FnAt f s.heap
  run : ∀ (A : Around) (out : List Env) (s : Shared) (G : Hp) (Q : VK) (E : XK), Room (k + 1) A → Env0 P w K mg B A out s G → Un fs [] H0 G h0 s.heap → J G → tl E G Q →
    codeAny (model P w) A (.call (.ref f) ⟨[], []⟩) (CR (L2.CX P w) out P w G s Q E) s
section
variable {P : Program} {w : World} {K : PySem.W.Frag} {mg : Str → Option Value} {B : Heap} {k j : Nat} {f g : Addr} {J : Hp → Prop} {fs gs : List Addr} {H0 H1 : Hp} {h0 h1 : Heap} {tl : XK → Hp → VK → Prop}
theorem Acts.mono {i : Nat} (a : Acts P w K mg B k f J fs H0 h0 tl) (l : k ≤ i) : Acts P w K mg B i f J fs H0 h0 tl := ⟨a.obj, fun A out s G Q E r => a.run A out s G Q E (r.mono (by omega))⟩
variable {fd : FuncData} {ps : List Str} {sp : Addr → (XK → Hp → VK → Prop) → List V → Hp → VK → Prop}
end
end NC
namespace NC
open PySem PySem.Spec PyProof.Rows L2
/-- a statement that is never come to -/
theorem ps_dead {X : Cx} {st : Stmt} : PS X st (fun _ _ _ => False) := ⟨fun _ _ _ _ _ _ h => h.elim⟩
end NC
namespace NC
open PySem PySem.Spec PyProof.Rows L2
abbrev sChkRow : Stmt := topS 22
theorem scChkRow : FnScope ["tree"] ["tree"] (defScope sChkRow) := ⟨rfl, rfl, rfl, by decide +kernel, rfl, by decide +kernel, by decide +kernel⟩
abbrev sStepT : Stmt := topS 23
theorem scStepT : FnScope ["step"] ["step"] (defScope sStepT) := ⟨rfl, rfl, rfl, by decide +kernel, rfl, by decide +kernel, by decide +kernel⟩
abbrev sTextOf : Stmt := topS 24
theorem scTextOf : FnScope ["row", "step"] ["row"] (defScope sTextOf) := ⟨rfl, rfl, rfl, by decide +kernel, rfl, by decide +kernel, by decide +kernel⟩
abbrev sRowT : Stmt := topS 25
theorem scRowT : FnScope ["tree"] ["tree"] (defScope sRowT) := ⟨rfl, rfl, rfl, by decide +kernel, rfl, by decide +kernel, by decide +kernel⟩
theorem plain_ok (x : Str) (s : List Nat) (hx : PyData.strOk x = true) (hl : x.length ≤ 5000) (h : ∀ c ∈ s, c ∈ ltN) (hs : s.length ≤ 12) (n : Nat) : (PyData.tuple [.str x, .str (tx s)]).canLay0 = true ∧ (PyData.tuple [.str x, .str (tx s)]).depth ≤ 1 + 3 * n ∧ lnD (.tuple [.str x, .str (tx s)]) = true := by
  have hk : PyData.strOk (tx s) = true := by
    refine strOk_of (okS_tx fun c hc => ?_)
    have := (ltN_iff c).mp (h c hc)
    omega
  refine ⟨?_, ?_, ?_⟩
  · simp only [PyData.canLay0, PyData.canLayAll0, hx, hk]
    rfl
  · simp only [PyData.depth, PyData.depthAll]
    omega
  · simp only [lnD, lnA, Bool.and_true, Bool.and_eq_true, decide_eq_true_eq, tx_len]
    exact ⟨by show 2 ≤ 5000; decide, hl, by omega⟩
mutual
theorem encS_ok : ∀ (s : Stp) (n : Nat), wfS s = true → dpS s ≤ n → szS s ≤ 5000 → (encS s).canLay0 = true ∧ (encS s).depth ≤ 1 + 3 * n ∧ lnD (encS s) = true
  | .call s, n, w, dp, sz => by
    rw [wfS, Bool.and_eq_true, decide_eq_true_eq] at w
    exact plain_ok "call" s (by decide +kernel) (by decide +kernel) (all_dec.mp w.2) w.1 n
  | .turn s, n, w, dp, sz => by
    rw [wfS, Bool.and_eq_true, Bool.and_eq_true, decide_eq_true_eq, decide_eq_true_eq] at w
    exact plain_ok "turn" s (by decide +kernel) (by decide +kernel) (all_dec.mp w.2) w.1.2 n
  | .row s, n, w, dp, sz => by
    rw [wfS, Bool.and_eq_true, Bool.and_eq_true, decide_eq_true_eq, decide_eq_true_eq] at w
    exact plain_ok "row" s (by decide +kernel) (by decide +kernel) (fun c hc => by
      have := (smN_iff c).mp (all_dec.mp w.2 c hc)
      exact (ltN_iff c).mpr (.inl this)) (by omega) n
  | .times m r, n, w, dp, sz => by
    rw [wfS, Bool.and_eq_true] at w
    rw [dpS] at dp
    rw [szS] at sz
    obtain ⟨a, b, c⟩ := encL_ok r (n - 1) w.2 (by omega) (by omega)
    have l := szR_len r
    rw [encS]
    refine ⟨?_, ?_, ?_⟩
    · simp only [PyData.canLay0, PyData.canLayAll0, a, Bool.and_true, Bool.true_and, Bool.and_eq_true]
      exact ⟨by decide +kernel, by decide +kernel⟩
    · simp only [PyData.depth, PyData.depthAll]
      omega
    · simp only [lnD, lnA, c, Bool.and_true, Bool.true_and, Bool.and_eq_true, decide_eq_true_eq]
      refine ⟨by show 3 ≤ 5000; decide, by decide +kernel, by show 2 ≤ 5000; decide, by decide +kernel, ?_⟩
      rw [encL_len]
      omega
theorem encL_ok : ∀ (r : List Stp) (n : Nat), wfR r = true → dpR r ≤ n → szR r ≤ 5000 → PyData.canLayAll0 (encL r) = true ∧ PyData.depthAll (encL r) ≤ 1 + 3 * n ∧ lnA (encL r) = true
  | [], n, w, dp, sz => by
    rw [encL]
    exact ⟨rfl, Nat.zero_le _, by rw [lnA]⟩
  | s :: r, n, w, dp, sz => by
    rw [wfR, Bool.and_eq_true] at w
    rw [dpR] at dp
    rw [szR] at sz
    obtain ⟨a, b, c⟩ := encS_ok s n w.1 (by omega) (by omega)
    obtain ⟨a2, b2, c2⟩ := encL_ok r n w.2 (by omega) (by omega)
    rw [encL]
    refine ⟨?_, ?_, ?_⟩
    · rw [PyData.canLayAll0, a, a2]; rfl
    · rw [PyData.depthAll]; omega
    · rw [lnA, c, c2]; rfl
end
theorem encR_ok {r : List Stp} (w : wfR r = true) (dp : dpR r ≤ 20) (sz : szR r ≤ 5000) : TrOk (encR r) := by
  obtain ⟨a, b, c⟩ := encL_ok r 20 w dp sz
  have l := szR_len r
  refine ⟨?_, ?_⟩
  · unfold SeqAt.shaped
    rw [show (encR r).canLay0 = true by
      unfold encR
      simp only [PyData.canLay0, PyData.canLayAll0, a, Bool.and_true]
      decide +kernel, decide_eq_true (by
      unfold encR
      simp only [PyData.depth, PyData.depthAll]
      omega)]
    rfl
  · unfold encR
    simp only [lnD, lnA, c, Bool.and_true, Bool.and_eq_true, decide_eq_true_eq]
    refine ⟨by show 2 ≤ 5000; decide, by decide +kernel, ?_⟩
    rw [encL_len]
    omega
theorem log_lt {m : Nat} (h : m ≤ 10 ^ 30) : m.log2 < 1920 := by
  by_cases z : m = 0
  · rw [z]; decide
  · exact (Nat.log2_lt z).mpr (Nat.lt_of_le_of_lt h (by decide))
/-- the defs about rows as texts -/
structure RowT (K : PySem.W.Frag) (mg : Str → Option Value) (f_cr f_st f_tx f_rt : Addr) (d_cr d_st d_tx d_rt : FuncData) : Prop where
  cr : DF K mg "check_row" sChkRow ["tree"] f_cr d_cr
  st : DF K mg "step_text" sStepT ["step"] f_st d_st
  tx : DF K mg "text_of" sTextOf ["row"] f_tx d_tx
  rt : DF K mg "row_text" sRowT ["tree"] f_rt d_rt
  zstr : mg "str" = none
section
variable {P : Program} {w : World} {K : PySem.W.Frag} {mg : Str → Option Value} {base : Heap} {f_w f_n f_nu f_tu f_pl f_gh f_ls f_lb f_ir f_cr f_st f_tx f_rt : Addr} {d_w d_n d_nu d_tu d_pl d_gh d_ls d_lb d_ir d_cr d_st d_tx d_rt : FuncData}
def spStT (K : PySem.W.Frag) (n : Nat) : Sp := fun vs H Q _ => ∃ v s, vs = [v] ∧ Dp K H v (encS s) ∧ wfS s = true ∧ dpS s ≤ n ∧ szS s ≤ 100 ∧ ∀ H', Same H H' → Q (.str (tx (wrS s))) H'
def spTxO (K : PySem.W.Frag) (n : Nat) : Sp := fun vs H Q _ => ∃ v r, vs = [v] ∧ Dp K H v (encR r) ∧ wfR r = true ∧ dpR r ≤ n ∧ szR r ≤ 100 ∧ ∀ H', Same H H' → Q (.str (tx (wrR r))) H'
theorem ok_st_of {k n : Nat} {spR : Sp} (Y : RowT K mg f_cr f_st f_tx f_rt d_cr d_st d_tx d_rt) (GT : FnOk P w K mg base CX0 k f_tx d_tx ["row"] spR) (hR : ∀ m, n = m + 1 → spR = spTxO K m) : FnOk P w K mg base CX0 (k + 1) f_st d_st ["step"] (spStT K n) := by
  refine Y.st.F.ok scStepT (fun vs H Q E h => ?_) (fun cdv A outer st H vs Q E hr h => ?_)
  · obtain ⟨v, s, rfl, _⟩ := h
    rfl
  · obtain ⟨v, s, rfl, hd, w, dp, sz, q⟩ := h
    refine ⟨_, (pss_cons (ps_if (pt_cmpR op_eq (pe_ix ix_tup (pv 0) pe_int (fun _ _ => rfl)) pe_str (nomark _))
        (pss_one (ps_ret (pe_op op_add_str pe_str (pe_ix ix_tup (pv 0) pe_int (fun _ _ => rfl)))))
        pss_nil)
      (pss_cons (ps_if (pt_cmpR op_eq (pe_ix ix_tup (pv 0) pe_int (fun _ _ => rfl)) pe_str (nomark _))
        (pss_one (ps_ret (pe_op op_add_str pe_str (pe_ix ix_tup (pv 0) pe_int (fun _ _ => rfl)))))
        pss_nil)
      (pss_cons (ps_if (pt_cmpR op_eq (pe_ix ix_tup (pv 0) pe_int (fun _ _ => rfl)) pe_str (nomark _))
        (pss_one (ps_ret (pe_op op_add_str (pe_op op_add_str pe_str (pe_ix ix_tup (pv 0) pe_int (fun _ _ => rfl))) pe_str)))
        pss_nil)
      (pss_one (ps_ret (pe_op op_add_str (pe_op op_add_str (pe_op op_add_str pe_str (pe_call GT hr rfl Y.tx.g Y.tx.F.kp Y.tx.b .nil pass0 (pa_cons (pe_ix ix_tup (pv 0) pe_int (fun _ _ => rfl)) pa_nil))) pe_str) (pe_callTy call_str_int (by rfl) Y.zstr (by decide +kernel) (pa_cons (pe_ix ix_tup (pv 0) pe_int (fun _ _ => rfl)) pa_nil)))))))), ?_⟩
    have r : Same H H := fun _ _ h => h
    have q0 := q H r
    have one : ∀ {x : Str} {c : Nat}, x = tx [c] → x.length = 1 := fun h => by rw [h, tx_len]; rfl
    have ed : Str.ofString "." = tx [46] := by decide +kernel
    have et : Str.ofString "~" = tx [126] := by decide +kernel
    have el : Str.ofString "<" = tx [60] := by decide +kernel
    have eg : Str.ofString ">" = tx [62] := by decide +kernel
    have eo : Str.ofString "(" = tx [40] := by decide +kernel
    have ec : Str.ofString ")*" = tx [41, 42] := by decide +kernel
    cases s with
    | call s =>
      rw [encS] at hd
      obtain ⟨p, va, vb, rfl, hT, ha, hb⟩ := dp_two hd
      cases ha; cases hb
      rw [wrS] at q0
      rw [wfS, Bool.and_eq_true, decide_eq_true_eq] at w
      refine ⟨_, rfl, p, _, 0, _, rfl, rfl, hT, rfl, rfl, _, rfl, ?_⟩
      rw [show decide (V.str "call" = V.str "call") = true from decide_eq_true rfl]
      refine iteT ⟨_, rfl, p, _, 1, _, rfl, rfl, hT, rfl, _, _, rfl, rfl, ?_, ?_⟩
      · rw [ed, tx_len, tx_len, sizeLine_eq]; show 1 + _ ≤ _; omega
      · rw [ed, tx_app]; exact q0
    | turn s =>
      rw [encS] at hd
      obtain ⟨p, va, vb, rfl, hT, ha, hb⟩ := dp_two hd
      cases ha; cases hb
      rw [wrS] at q0
      rw [wfS, Bool.and_eq_true, Bool.and_eq_true, decide_eq_true_eq, decide_eq_true_eq] at w
      refine ⟨_, rfl, p, _, 0, _, rfl, rfl, hT, rfl, rfl, _, rfl, ?_⟩
      rw [show decide (V.str "turn" = V.str "call") = false from decide_eq_false fun h => by cases V.str.inj h]
      refine iteF ⟨_, rfl, p, _, 0, _, rfl, rfl, hT, rfl, rfl, _, rfl, ?_⟩
      rw [show decide (V.str "turn" = V.str "turn") = true from decide_eq_true rfl]
      refine iteT ⟨_, rfl, p, _, 1, _, rfl, rfl, hT, rfl, _, _, rfl, rfl, ?_, ?_⟩
      · rw [et, tx_len, tx_len, sizeLine_eq]; show 1 + _ ≤ _; omega
      · rw [et, tx_app]; exact q0
    | row s =>
      rw [encS] at hd
      obtain ⟨p, va, vb, rfl, hT, ha, hb⟩ := dp_two hd
      cases ha; cases hb
      rw [wrS] at q0
      rw [wfS, Bool.and_eq_true, Bool.and_eq_true, decide_eq_true_eq, decide_eq_true_eq] at w
      refine ⟨_, rfl, p, _, 0, _, rfl, rfl, hT, rfl, rfl, _, rfl, ?_⟩
      rw [show decide (V.str "row" = V.str "call") = false from decide_eq_false fun h => by cases V.str.inj h]
      refine iteF ⟨_, rfl, p, _, 0, _, rfl, rfl, hT, rfl, rfl, _, rfl, ?_⟩
      rw [show decide (V.str "row" = V.str "turn") = false from decide_eq_false fun h => by cases V.str.inj h]
      refine iteF ⟨_, rfl, p, _, 0, _, rfl, rfl, hT, rfl, rfl, _, rfl, ?_⟩
      rw [show decide (V.str "row" = V.str "row") = true from decide_eq_true rfl]
      refine iteT ⟨_, rfl, p, _, 1, _, rfl, rfl, hT, rfl, _, _, rfl, rfl, ?_, _, _, rfl, rfl, ?_, ?_⟩
      · rw [el, tx_len, tx_len, sizeLine_eq]; show 1 + _ ≤ _; omega
      · rw [el, eg, tx_app, tx_len, tx_len, sizeLine_eq, List.length_append]; show 1 + _ + 1 ≤ _; omega
      · rw [el, eg, tx_app, tx_app]; exact q0
    | times m r' =>
      rw [encS] at hd
      obtain ⟨p, va, vb, vc, rfl, hT, ha, hb, hc⟩ := dp_three hd
      cases ha; cases hb
      rw [wfS, Bool.and_eq_true, decide_eq_true_eq] at w
      rw [dpS] at dp
      rw [szS] at sz
      refine ⟨_, rfl, p, _, 0, _, rfl, rfl, hT, rfl, rfl, _, rfl, ?_⟩
      rw [show decide (V.str "times" = V.str "call") = false from decide_eq_false fun h => by cases V.str.inj h]
      refine iteF ⟨_, rfl, p, _, 0, _, rfl, rfl, hT, rfl, rfl, _, rfl, ?_⟩
      rw [show decide (V.str "times" = V.str "turn") = false from decide_eq_false fun h => by cases V.str.inj h]
      refine iteF ⟨_, rfl, p, _, 0, _, rfl, rfl, hT, rfl, rfl, _, rfl, ?_⟩
      rw [show decide (V.str "times" = V.str "row") = false from decide_eq_false fun h => by cases V.str.inj h]
      obtain ⟨n, rfl⟩ : ∃ n', n = n' + 1 := ⟨n - 1, by omega⟩
      have e := hR n rfl
      subst e
      have wl := wrR_len w.2
      have dl := dgs_len 31 m (by omega)
      refine iteF ⟨_, rfl, p, _, 2, _, rfl, rfl, hT, rfl, vc, r', rfl, hc, w.2, by omega, by omega, fun H' s' => ?_⟩
      refine ⟨_, _, rfl, rfl, ?_, _, _, rfl, rfl, ?_, _, rfl, p, _, 1, _, rfl, rfl, sm_t s' hT, rfl, _, rfl, ?_, _, _, rfl, rfl, ?_, ?_⟩
      · rw [eo, tx_len, tx_len, sizeLine_eq]; show 1 + _ ≤ _; omega
      · rw [eo, ec, tx_app, tx_len, tx_len, sizeLine_eq, List.length_append]; show 1 + _ + 2 ≤ _; omega
      · rw [Int.natAbs_natCast]
        exact log_lt w.1
      · rw [dgs_str, eo, ec, tx_app, tx_app, tx_len, tx_len, sizeLine_eq, List.length_append, List.length_append]; show 1 + _ + 2 + _ ≤ _; omega
      · rw [dgs_str, eo, ec, tx_app, tx_app, tx_app]
        have := q H' s'
        rw [wrS] at this
        simp only [List.append_assoc]
        exact this
theorem ok_tx_of {k n : Nat} (Y : RowT K mg f_cr f_st f_tx f_rt d_cr d_st d_tx d_rt) (GS : FnOk P w K mg base CX0 k f_st d_st ["step"] (spStT K n)) : FnOk P w K mg base CX0 (k + 1) f_tx d_tx ["row"] (spTxO K n) := by
  refine Y.tx.F.ok scTextOf (fun vs H Q E h => ?_) (fun cdv A outer st H vs Q E hr h => ?_)
  · obtain ⟨v, r, rfl, _⟩ := h
    rfl
  · obtain ⟨v, r, rfl, hd, w, dp, sz, q⟩ := h
    have nd := scTextOf.nd
    refine ⟨_, (pss_cons (ps_if (pt_not (pt_truth (pe_ix ix_tup (pv 0) pe_int (fun _ _ => rfl)) (by intro _; rfl)))
        (pss_one (ps_ret pe_str))
        pss_nil)
      (pss_one (ps_ret (pe_join pe_str (pe_lc (own := [("step", 1)]) (g := gName 1) (tt := tYes) (te := tCall (spStT K n) [] E0 (tCons (tVar 1) tNil)) rfl nd (pi_tup (pe_ix ix_tup (pv 0) pe_int (fun _ _ => rfl))) (blkOk_by (N := ["row", "step"]) (sc := defScope sTextOf) (by decide +kernel)) (fun _ _ _ _ _ => pg_name (i := 1) nd rfl (Or.inl rfl)) (fun _ _ _ _ _ => pts_nil) (fun _ _ _ _ _ => (pe_call GS hr rfl Y.st.g Y.st.F.kp Y.st.b .nil pass0 (pa_cons (pv 1) pa_nil)))))))), ?_⟩
    unfold encR at hd
    obtain ⟨p, va, vb, rfl, hT, ha, hb⟩ := dp_two hd
    cases hb with
    | tup hq hall =>
      rename_i pq xs
      have xl : xs.length = r.length := by rw [dpa_len hall, encL_len]
      refine ⟨_, rfl, p, _, 1, _, rfl, rfl, hT, rfl, _, .inr (.inl ⟨xs, hq, rfl⟩), ?_⟩
      have s0 : Same H H := fun _ _ h => h
      cases r with
      | nil =>
        have : xs = [] := List.length_eq_zero_iff.mp xl
        subst this
        have q0 := q H s0
        rw [show wrR [] = [45] from rfl, show tx [45] = Str.ofString "-" by decide +kernel] at q0
        exact iteT q0
      | cons s0' r' =>
        have ne : xs.isEmpty = false := by
          cases xs with
          | nil => simp at xl
          | cons => rfl
        rw [ne]
        have el := wrL_map (s0' :: r')
        have ew : wrR (s0' :: r') = sepB (wrL (s0' :: r')) := rfl
        rw [ew] at q
        generalize s0' :: r' = r at *
        have wk := walk_tup (K := K) (a := pq) (xs := xs)
        refine iteF ⟨⟨_, rfl⟩, _, rfl, p, _, 1, _, rfl, rfl, hT, rfl, pq, rfl, ⟨_, hq⟩, fun D nD => ?_⟩
        refine lc_it wk (fun i H' => Same H H' ∧ H' D = some (.lst ((((r.take i).map wrS).map tx).map V.str))) ⟨same_upd nD, upd_same⟩ (fun i H' _ h => sm_t h.1 hq) ?_ ?_
        · rintro i v G1 G2 hi ⟨s, e⟩ ⟨rfl, hx⟩
          obtain ⟨d', hd', hdp⟩ := dpa_get hall hx
          rw [encL_map, List.getElem?_map] at hd'
          obtain ⟨s1, hs1, rfl⟩ := Option.map_eq_some_iff.mp hd'
          have m1 := List.mem_of_getElem? hs1
          have := dpR_mem m1
          have := szR_mem m1
          refine ⟨rfl, yes_i ⟨_, rfl, v, s1, rfl, dp_same s hdp, wfR_mem w s1 m1, by omega, by omega, fun G3 s3 => ?_⟩⟩
          refine ⟨_, s3 _ _ e, ?_, sm_over (sm_trans s s3) nD, ?_⟩
          · rw [List.length_map, List.length_map, List.length_map, List.length_take, sizeLine_eq]
            have := szR_len r
            omega
          · rw [upd_same, List.take_add_one, hs1, List.map_append, List.map_append, List.map_append]
            rfl
        · rintro G1 ⟨s, e⟩
          rw [List.take_of_length_le (by omega), ← el] at e
          refine ⟨_, D, _, rfl, rfl, .inl (SqL.of e), ?_, ?_⟩
          · have hl := wrL_len r w
            have hlen : (wrL r).length = r.length := by rw [el, List.length_map]
            have := szR_len r
            rw [show (Str.ofString " ").length = 1 by decide +kernel, List.length_map, hlen]
            have e2 : ((wrL r).map tx).map (fun z : Str => z.length) = (wrL r).map (fun x => x.length) := by
              rw [List.map_map]
              exact List.map_congr_left fun x _ => tx_len x
            have : (((wrL r).map tx).map (fun z : Str => z.length)).sum ≤ 40 * szR r := by
              rw [e2]
              refine Nat.le_trans ?_ hl
              exact sum_le_map fun x => Nat.le_succ _
            have : (((wrL r).map tx).map (·.length)).sum ≤ 40 * szR r := this
            omega
          · rw [sep_join]
            exact q _ s
theorem ok_sts {k : Nat} (Y : RowT K mg f_cr f_st f_tx f_rt d_cr d_st d_tx d_rt) : ∀ n, FnOk P w K mg base CX0 (k + 2 + 2 * n) f_st d_st ["step"] (spStT K n)
  | 0 => ok_st_of (k := k + 1) (spR := fun _ _ _ _ => False) Y (Y.tx.F.ok scTextOf (fun vs H Q E h => False.elim h) (fun cdv A outer s H vs Q E hr h => False.elim h)) fun m e => by cases e
  | n + 1 => ok_st_of (k := k + 2 + 2 * n + 1) Y (ok_tx_of Y (ok_sts Y n)) fun m e => by cases e; rfl
/-- check_row lets by what is a row -/
def spChkRow (K : PySem.W.Frag) : Sp := fun vs H Q _ => ∃ v d, vs = [v] ∧ Dp K H v d ∧ TrOk d ∧ isRowD d = true ∧ ∀ H', Same H H' → Q .non H'
theorem ok_cr {k : Nat} (W : RowD K mg f_w f_n f_nu f_tu f_pl f_gh f_ls f_lb f_ir d_w d_n d_nu d_tu d_pl d_gh d_ls d_lb d_ir) (Y : RowT K mg f_cr f_st f_tx f_rt d_cr d_st d_tx d_rt) : FnOk P w K mg base CX0 (k + 32) f_cr d_cr ["tree"] (spChkRow K) := by
  have GI : FnOk P w K mg base CX0 (k + 31) f_ir d_ir ["tree"] (spIsRow K) := ok_ir W
  refine Y.cr.F.ok scChkRow (fun vs H Q E h => ?_) (fun cdv A outer st H vs Q E hr h => ?_)
  · obtain ⟨v, d, rfl, _⟩ := h
    rfl
  · obtain ⟨v, d, rfl, hd, ht, hi, q⟩ := h
    refine ⟨_, (pss_one (ps_if (pt_not (pt_val (pe_call GI hr rfl W.ir.g W.ir.F.kp W.ir.b .nil pass0 (pa_cons (pv 0) pa_nil))))
        (pss_one ps_dead)
        pss_nil)), ?_⟩
    refine ⟨_, rfl, v, d, rfl, hd, ht, fun H' s => ⟨_, rfl, ?_⟩⟩
    rw [hi]
    exact iteF (q H' s)
def spRowT (K : PySem.W.Frag) : Sp := fun vs H Q _ => ∃ v r, vs = [v] ∧ Dp K H v (encR r) ∧ wfR r = true ∧ dpR r ≤ 12 ∧ szR r ≤ 60 ∧ ∀ H', Same H H' → Q (.str (tx (wrR r))) H'
theorem ok_rt {k : Nat} (W : RowD K mg f_w f_n f_nu f_tu f_pl f_gh f_ls f_lb f_ir d_w d_n d_nu d_tu d_pl d_gh d_ls d_lb d_ir) (Y : RowT K mg f_cr f_st f_tx f_rt d_cr d_st d_tx d_rt) : FnOk P w K mg base CX0 (k + 33) f_rt d_rt ["tree"] (spRowT K) := by
  have GC : FnOk P w K mg base CX0 (k + 32) f_cr d_cr ["tree"] (spChkRow K) := ok_cr W Y
  have GT : FnOk P w K mg base CX0 (k + 27) f_tx d_tx ["row"] (spTxO K 12) := ok_tx_of (k := k + 26) Y (ok_sts Y 12)
  refine Y.rt.F.ok scRowT (fun vs H Q E h => ?_) (fun cdv A outer st H vs Q E hr h => ?_)
  · obtain ⟨v, r, rfl, _⟩ := h
    rfl
  · obtain ⟨v, r, rfl, hd, hw, hdp, hs, q⟩ := h
    have r32 : Room (k + 32) _ := hr
    have r30 : Room (k + 27) _ := hr.mono (by omega)
    refine ⟨_, (pss_cons (ps_expr (pe_call GC r32 rfl Y.cr.g Y.cr.F.kp Y.cr.b .nil pass0 (pa_cons (pv 0) pa_nil)))
      (pss_one (ps_ret (pe_call GT r30 rfl Y.tx.g Y.tx.F.kp Y.tx.b .nil pass0 (pa_cons (pv 0) pa_nil))))), ?_⟩
    refine ⟨_, rfl, v, _, rfl, hd, encR_ok hw (by omega) (by omega), (row_iff _).mpr ⟨r, rfl, hw, hdp, hs⟩, fun H' s => ?_⟩
    exact ⟨_, rfl, v, r, rfl, dp_same s hd, hw, hdp, by omega, fun H2 s2 => q H2 (sm_trans s s2)⟩
end
end NC
namespace NC
open PySem PySem.Spec PyProof.Rows L2
abbrev sHEinit : Stmt := inClass (topS 1) 0
abbrev sBTinit : Stmt := inClass (topS 2) 0
abbrev sReadRow : Stmt := topS 27
theorem scHE : FnScope ["self", "word"] ["self", "word"] (defScope sHEinit) := ⟨rfl, rfl, rfl, by decide +kernel, rfl, by decide +kernel, by decide +kernel⟩
theorem scBT : FnScope ["self", "at"] ["self", "at"] (defScope sBTinit) := ⟨rfl, rfl, rfl, by decide +kernel, rfl, by decide +kernel, by decide +kernel⟩
theorem scReadRow : FnScope ["text", "reader", "row"] ["text"] (defScope sReadRow) := ⟨rfl, rfl, rfl, by decide +kernel, rfl, by decide +kernel, by decide +kernel⟩
abbrev sRd_ini : Stmt := inClass (topS 26) 0
theorem scRd_ini : FnScope ["self", "text"] ["self", "text"] (defScope sRd_ini) := ⟨rfl, rfl, rfl, by decide +kernel, rfl, by decide +kernel, by decide +kernel⟩
abbrev sRd_sg : Stmt := inClass (topS 26) 1
theorem scRd_sg : FnScope ["self"] ["self"] (defScope sRd_sg) := ⟨rfl, rfl, rfl, by decide +kernel, rfl, by decide +kernel, by decide +kernel⟩
abbrev sRd_sd : Stmt := inClass (topS 26) 2
theorem scRd_sd : FnScope ["self", "signs"] ["self", "signs"] (defScope sRd_sd) := ⟨rfl, rfl, rfl, by decide +kernel, rfl, by decide +kernel, by decide +kernel⟩
abbrev sRd_tk : Stmt := inClass (topS 26) 3
theorem scRd_tk : FnScope ["self", "signs", "taken"] ["self", "signs"] (defScope sRd_tk) := ⟨rfl, rfl, rfl, by decide +kernel, rfl, by decide +kernel, by decide +kernel⟩
abbrev sRd_lt : Stmt := inClass (topS 26) 4
theorem scRd_lt : FnScope ["self", "letters", "fewest", "most", "taken"] ["self", "letters", "fewest", "most"] (defScope sRd_lt) := ⟨rfl, rfl, rfl, by decide +kernel, rfl, by decide +kernel, by decide +kernel⟩
abbrev sRd_nm : Stmt := inClass (topS 26) 5
theorem scRd_nm : FnScope ["self", "many"] ["self"] (defScope sRd_nm) := ⟨rfl, rfl, rfl, by decide +kernel, rfl, by decide +kernel, by decide +kernel⟩
abbrev sRd_gr : Stmt := inClass (topS 26) 6
theorem scRd_gr : FnScope ["self", "deep", "row"] ["self", "deep"] (defScope sRd_gr) := ⟨rfl, rfl, rfl, by decide +kernel, rfl, by decide +kernel, by decide +kernel⟩
abbrev sRd_sp : Stmt := inClass (topS 26) 7
theorem scRd_sp : FnScope ["self", "deep", "first", "called"] ["self", "deep"] (defScope sRd_sp) := ⟨rfl, rfl, rfl, by decide +kernel, rfl, by decide +kernel, by decide +kernel⟩
abbrev sRd_rw : Stmt := inClass (topS 26) 8
theorem scRd_rw : FnScope ["self", "deep", "found"] ["self", "deep"] (defScope sRd_rw) := ⟨rfl, rfl, rfl, by decide +kernel, rfl, by decide +kernel, by decide +kernel⟩
/-- HallError, at C, and its __init__ -/
structure HE (K : PySem.W.Frag) (mg : Str → Option Value) (C f : Addr) (fd : FuncData) : Prop where
  gC : mg "HallError" = some (.ref C)
  rd : ∃ mc, ClX.CRead K C mc ∧ PySem.W.findCls K (.ref C) mc "__init__" = some (.val (.ref f))
  F : Fun K "__init__" "HallError.__init__" sHEinit f fd
  b : Binds K fd ["self", "word"] []
  mV : mg "ValueError" = none
  vV : PySem.W.findCls K (.type "ValueError") (.type "type") "__init__" = some (.val (.builtin "ValueError.__init__"))
section
variable {P : Program} {w : World} {K : PySem.W.Frag} {mg : Str → Option Value} {base : Heap}
def spHE (K : PySem.W.Frag) : Sp := fun vs H Q _ => ∃ a C v, vs = [.ref a, v] ∧ OexC K C ∧ PySem.W.findIn K (.ref C) "word" = some none ∧ H a = some (exo a C none) ∧
  ∀ dx, H dx = none → dx ≠ a → Q .non (upd (upd H dx (exd dx [("word", v)])) a (exo a C (some dx)))
theorem ok_HE {C f : Addr} {fd : FuncData} {k : Nat} (T : HE K mg C f fd) : FnOk P w K mg base CX0 (k + 1) f fd ["self", "word"] (spHE K) := by
  refine T.F.ok scHE (fun vs H Q E h => ?_) (fun cdv A outer s H vs Q E hr h => ?_)
  · obtain ⟨a, C, v, rfl, _⟩ := h
    rfl
  · obtain ⟨a, C, v, rfl, hO, hw, ha, q⟩ := h
    refine ⟨_, pss_cons (ps_expr (pe_veinit (by rfl) T.mV T.vV (pa_cons (pv 0) (pa_cons (pv 1) pa_nil)))) (pss_one (ps_ost (pv 0) (pv 1))), ?_⟩
    refine ⟨_, rfl, _, rfl, a, C, [v], rfl, by show 1 ≤ 1000; decide, hO, ha, ?_⟩
    exact ⟨_, rfl, _, rfl, a, C, rfl, hO, hw, .inl ⟨ha, fun dx n ne => q dx n ne⟩⟩
/-- a refusal of one field beside its word -/
def sp1 (K : PySem.W.Frag) (fld : Str) (word : Str) : Sp := fun vs H Q _ => ∃ a C v, vs = [.ref a, v] ∧ OexC K C ∧ PySem.W.findIn K (.ref C) "word" = some none ∧ PySem.W.findIn K (.ref C) fld = some none ∧ H a = some (exo a C none) ∧
  ∀ dx H', H dx = none → dx ≠ a → (∀ b, b ≠ dx → b ≠ a → H' b = H b) → H' a = some (exo a C (some dx)) → H' dx = some (exd dx [(fld, v), ("word", .str word)]) → Q .non H'
theorem ok_BT {CH fH f : Addr} {fd fdH : FuncData} {k : Nat} (T : HE K mg CH fH fdH) (F : Fun K "__init__" "BadText.__init__" sBTinit f fd) : FnOk P w K mg base CX0 (k + 2) f fd ["self", "at"] (sp1 K "at" "badtext") := by
  have GH : FnOk P w K mg base CX0 (k + 1) fH fdH ["self", "word"] (spHE K) := ok_HE T
  obtain ⟨mc, rd, fc⟩ := T.rd
  refine F.ok scBT (fun vs H Q E h => ?_) (fun cdv A outer s H vs Q E hr h => ?_)
  · obtain ⟨a, C, v, rfl, _⟩ := h
    rfl
  · obtain ⟨a, C, v, rfl, hO, hw, hf, ha, q⟩ := h
    refine ⟨_, pss_cons (ps_expr (pe_clsfn (by rfl) T.gC rd fc GH hr T.F.kp T.b .nil pass0 (pa_cons (pv 0) (pa_cons pe_str pa_nil)))) (pss_one (ps_ost (pv 0) (pv 1))), ?_⟩
    refine ⟨_, rfl, a, C, _, rfl, hO, hw, ha, fun dx n ne => ?_⟩
    refine ⟨_, rfl, _, rfl, a, C, rfl, hO, hf, .inr ⟨dx, _, upd_same, by rw [upd_ne ne, upd_same], by show 1 ≤ 900; decide, q dx _ n ne (fun b h1 h2 => ?_) ?_ ?_⟩⟩
    · rw [upd_ne h1, upd_ne h2, upd_ne h1]
    · rw [upd_ne (Ne.symm ne), upd_same]
    · rw [upd_same]
end
/-- an own refusal's class, at C, its __init__ at fI -/
structure XC (K : PySem.W.Frag) (mg : Str → Option Value) (x q : Str) (st : Stmt) (fld : Str) (C fI : Addr) (fd : FuncData) : Prop where
  gC : mg x = some (.ref C)
  O : OexC K C
  hw : PySem.W.findIn K (.ref C) "word" = some none
  hf : PySem.W.findIn K (.ref C) fld = some none
  iC : PySem.W.findIn K (.ref C) "__init__" = some (some (.ref fI))
  tI : PySem.W.typeIn K (.ref fI) = some (.type "function")
  F : Fun K "__init__" q st fI fd
  b : Binds K fd ["self", fld] []
theorem mk1 {K : PySem.W.Frag} {C : Addr} {fld word : Str} (hO : OexC K C) (hw : PySem.W.findIn K (.ref C) "word" = some none) (hf : PySem.W.findIn K (.ref C) fld = some none) {H1 : Hp} {v : V} {Q : XK}
    (q : ∀ d H', Same H1 H' → H1 d = none → H' d = some (.xd [(fld, v), ("word", .str word)]) → Q (.ref C) (some d) H') :
    ∀ a, H1 a = none → sp1 K fld word (.ref a :: ([v] ++ [])) (upd H1 a (exo a C none))
      (fun u H2 => u = .non ∧ ∃ (d : Addr) (fs : List (Str × V)), H2 a = some (exo a C (some d)) ∧ H2 d = some (exd d fs) ∧ H1 d = none ∧ Q (.ref C) (some d) (upd (del H2 a) d (.xd fs))) (fun _ _ _ => False) := by
  intro a na
  refine ⟨a, C, v, rfl, hO, hw, hf, upd_same, fun dx H' n1 n2 k e1 e2 => ⟨rfl, dx, _, e1, e2, ?_, q dx _ (fun b o hb => ?_) ?_ upd_same⟩⟩
  · rw [upd_ne n2] at n1
    exact n1
  · have hd : H1 dx = none := by
      rw [upd_ne n2] at n1
      exact n1
    have b1 : b ≠ dx := ne_of_none hb hd
    have b2 : b ≠ a := ne_of_none hb na
    rw [upd_ne b1, del_ne b2, k b b1 b2, upd_ne b2]
    exact hb
  · rw [upd_ne n2] at n1
    exact n1
def DG : Str := "0123456789"
/-- a reader -/
def RdF (s : List Nat) (i b : Nat) : List (Str × V) := [("text", .str (tx s)), ("at", .int (i : Nat)), ("begun", .int (b : Nat))]
def RdAt (RC : Addr) (H : Hp) (g : Addr) (s : List Nat) (i b : Nat) : Prop := ∃ dx, H g = some (.ins RC dx (RdF s i b))
/-- a refusal at a place -/
def PBd (CB g : Addr) (H : Hp) (E : XK) (j : Nat) : Prop := ∀ H' d, SmX g H H' → H d = none → H' d = some (.xd [("at", .int (j : Nat)), ("word", .str "badtext")]) → E (.ref CB) (some d) H'
theorem smx_none {g d : Addr} {H H' : Hp} {o : HO} (s : SmX g H H') (e : H' g = some o) (h : H' d = none) : H d = none := by
  cases h2 : H d with
  | none => rfl
  | some x =>
    have n : d ≠ g := fun z => by rw [z, e] at h; cases h
    rw [s d x n h2] at h
    cases h
theorem PBd.later {CB g : Addr} {H H1 : Hp} {E : XK} {j : Nat} {o : HO} (p : PBd CB g H E j) (s : SmX g H H1) (e : H1 g = some o) : PBd CB g H1 E j := fun H' d s1 n d' => p H' d (s.trans s1) (smx_none s e n) d'
theorem cut_one (s : List Nat) (i : Nat) (h : i < s.length) : cutS (tx s) (some ((i : Nat) : Int)) (some ((i : Nat) + 1 : Int)) = tx [s.getD i 0] := by
  unfold cutS
  rw [show ((i : Nat) + 1 : Int) = ((i + 1 : Nat) : Int) by omega, HT.sIx_nat, HT.sIx_nat, tx_list, tx_len, Nat.min_eq_left (by omega), Nat.min_eq_left (by omega), show i + 1 - i = 1 by omega, List.drop_eq_getElem_cons h, List.getD_eq_getElem?_getD, List.getElem?_eq_getElem h]
  rfl
theorem put_at (s : List Nat) (i b : Nat) : putF "at" (.int ((i : Nat) + 1 : Int)) (RdF s i b) = RdF s (i + 1) b := by
  unfold RdF
  rw [putF, if_neg (by decide +kernel), putF, if_pos rfl]
  rfl
theorem put_begun (s : List Nat) (i b : Nat) : putF "begun" (.int ((b : Nat) + 1 : Int)) (RdF s i b) = RdF s i (b + 1) := by
  unfold RdF
  rw [putF, if_neg (by decide +kernel), putF, if_neg (by decide +kernel), putF, if_pos rfl]
  rfl
theorem int_dig : ∀ c, c ∈ dgN → PySem.intText? (tx [c]) = some ((c - 48 : Nat) : Int) := by
  rw [dgN_eq]
  decide +kernel
/-- things that may change -/
def Mut (o : HO) : Prop := (∃ xs, o = .lst xs) ∨ ∃ C dx fs, o = .ins C dx fs
theorem smx_t {K : PySem.W.Frag} {p a : Addr} {H H' : Hp} {o : HO} {xs : List V} (s : SmX p H H') (e : H p = some o) (m : Mut o) (h : SqT K H a xs) : SqT K H' a xs := by
  rcases h with (h | ⟨o', h⟩) | h
  · refine .inl (.inl (s _ _ (fun z => ?_) h))
    rw [z, e] at h
    rcases m with ⟨_, rfl⟩ | ⟨_, _, _, rfl⟩ <;> cases h
  · refine .inl (.inr ⟨o', s _ _ (fun z => ?_) h⟩)
    rw [z, e] at h
    rcases m with ⟨_, rfl⟩ | ⟨_, _, _, rfl⟩ <;> cases h
  · exact .inr h
mutual
/-- no lists in it -/
def noL : PyData → Bool
  | .list _ => false
  | .tuple xs => noLA xs
  | _ => true
def noLA : List PyData → Bool
  | [] => true
  | x :: xs => noL x && noLA xs
end
mutual
theorem dp_smx {K : PySem.W.Frag} {p : Addr} {H H' : Hp} {o : HO} (s : SmX p H H') (e : H p = some o) (m : Mut o) : ∀ {v : V} {d : PyData}, noL d = true → Dp K H v d → Dp K H' v d
  | _, _, _, .non => .non
  | _, _, _, .bl b => .bl b
  | _, _, _, .int i => .int i
  | _, _, _, .str x => .str x
  | _, _, n, .lst h a => by rw [noL] at n; cases n
  | _, _, n, .tup h a => .tup (smx_t s e m h) (dpa_smx s e m (by rw [noL] at n; exact n) a)
theorem dpa_smx {K : PySem.W.Frag} {p : Addr} {H H' : Hp} {o : HO} (s : SmX p H H') (e : H p = some o) (m : Mut o) : ∀ {vs : List V} {ds : List PyData}, noLA ds = true → DpAll K H vs ds → DpAll K H' vs ds
  | _, _, _, .nil => .nil
  | _, _, n, .cons a b => by
    rw [noLA, Bool.and_eq_true] at n
    exact .cons (dp_smx s e m n.1 a) (dpa_smx s e m n.2 b)
end
mutual
theorem noL_encS : ∀ s : Stp, noL (encS s) = true
  | .call s => by rw [encS]; rfl
  | .turn s => by rw [encS]; rfl
  | .row s => by rw [encS]; rfl
  | .times m r => by
    rw [encS]
    simp only [noL, noLA, noL_encL r, Bool.true_and, Bool.and_true]
theorem noL_encL : ∀ r : List Stp, noLA (encL r) = true
  | [] => by rw [encL, noLA]
  | s :: r => by rw [encL, noLA, noL_encS s, noL_encL r]; rfl
end
theorem noL_encR (r : List Stp) : noL (encR r) = true := by
  unfold encR
  simp only [noL, noLA, noL_encL r, Bool.true_and, Bool.and_true]
theorem dpa_snoc {K : PySem.W.Frag} {H : Hp} : ∀ {vs : List V} {ds : List PyData} {v : V} {d : PyData}, DpAll K H vs ds → Dp K H v d → DpAll K H (vs ++ [v]) (ds ++ [d])
  | _, _, _, _, .nil, h => .cons h .nil
  | _, _, _, _, .cons a b, h => .cons a (dpa_snoc b h)
theorem one_eq (c a : Nat) : decide (V.str (tx [c]) = V.str (tx [a])) = decide (c = a) := by
  by_cases h : c = a
  · rw [h, decide_eq_true rfl, decide_eq_true rfl]
  · rw [decide_eq_false h, decide_eq_false fun z => by
      injection z with z
      have := tx_inj z
      injection this with this
      exact h this]
theorem encL_snoc (r : List Stp) (x : Stp) : encL (r ++ [x]) = encL r ++ [encS x] := by
  rw [encL_map, encL_map, List.map_append]
  rfl
/-- the class of readers -/
structure RdC (K : PySem.W.Frag) (mg : Str → Option Value) (RC : Addr) (g_ini g_sg g_sd g_tk g_lt g_nm g_gr g_sp g_rw : Addr) (e_ini e_sg e_sd e_tk e_lt e_nm e_gr e_sp e_rw : FuncData) : Prop where
  gC : mg "Reader" = some (.ref RC)
  cl : Cls K RC
  mks : Mk K RC g_ini
  n1 : NoAttr K RC "text"
  n2 : NoAttr K RC "at"
  n3 : NoAttr K RC "begun"
  Fini : Fun K "__init__" "Reader.__init__" sRd_ini g_ini e_ini
  bini : Binds K e_ini ["self", "text"] []
  Fsg : Fun K "sign" "Reader.sign" sRd_sg g_sg e_sg
  bsg : Binds K e_sg ["self"] []
  msg : Meth K RC "sign" g_sg
  Fsd : Fun K "stands" "Reader.stands" sRd_sd g_sd e_sd
  bsd : Binds K e_sd ["self", "signs"] []
  msd : Meth K RC "stands" g_sd
  Ftk : Fun K "take" "Reader.take" sRd_tk g_tk e_tk
  btk : Binds K e_tk ["self", "signs"] []
  mtk : Meth K RC "take" g_tk
  Flt : Fun K "letters_taken" "Reader.letters_taken" sRd_lt g_lt e_lt
  blt : Binds K e_lt ["self", "letters", "fewest", "most"] []
  mlt : Meth K RC "letters_taken" g_lt
  Fnm : Fun K "number" "Reader.number" sRd_nm g_nm e_nm
  bnm : Binds K e_nm ["self"] []
  mnm : Meth K RC "number" g_nm
  Fgr : Fun K "group" "Reader.group" sRd_gr g_gr e_gr
  bgr : Binds K e_gr ["self", "deep"] []
  mgr : Meth K RC "group" g_gr
  Fsp : Fun K "step" "Reader.step" sRd_sp g_sp e_sp
  bsp : Binds K e_sp ["self", "deep"] []
  msp : Meth K RC "step" g_sp
  Frw : Fun K "row" "Reader.row" sRd_rw g_rw e_rw
  brw : Binds K e_rw ["self", "deep"] []
  mrw : Meth K RC "row" g_rw
  cSMALL : ∃ t, mg "SMALL" = some (.str SM t)
  cLETTERS : ∃ t, mg "LETTERS" = some (.str LT t)
  cFIGURES : ∃ t, mg "FIGURES" = some (.str DG t)
  cMOST_STEPS : ∃ t, mg "MOST_STEPS" = some (.int 60 t)
  cMOST_DEEP : ∃ t, mg "MOST_DEEP" = some (.int 12 t)
  cMOST_TIMES : ∃ t, mg "MOST_TIMES" = some (.int (10 ^ 30) t)
  cMOST_SIDES : ∃ t, mg "MOST_SIDES" = some (.int 12 t)
  cLONGEST_NAME : ∃ t, mg "LONGEST_NAME" = some (.int 8 t)
  zlen : mg "len" = none
  zint : mg "int" = none
  ztuple : mg "tuple" = none
section
variable {P : Program} {w : World} {K : PySem.W.Frag} {mg : Str → Option Value} {base : Heap} {RC CB CH fH fB : Addr} {fdH fdB : FuncData} {g_ini g_sg g_sd g_tk g_lt g_nm g_gr g_sp g_rw : Addr} {e_ini e_sg e_sd e_tk e_lt e_nm e_gr e_sp e_rw : FuncData}
def spSg (RC : Addr) : Sp := fun vs H Q _ => ∃ g s i b, vs = [.ref g] ∧ RdAt RC H g s i b ∧ i < s.length ∧ s.length ≤ 100000 ∧ Q (.str (tx [s.getD i 0])) H
theorem ok_sg {k : Nat} (R : RdC K mg RC g_ini g_sg g_sd g_tk g_lt g_nm g_gr g_sp g_rw e_ini e_sg e_sd e_tk e_lt e_nm e_gr e_sp e_rw) : FnOk P w K mg base CX0 (k + 1) g_sg e_sg ["self"] (spSg RC) := by
  refine R.Fsg.ok scRd_sg (fun vs H Q E h => ?_) (fun cdv A outer st H vs Q E hr h => ?_)
  · obtain ⟨g, s, i, b, rfl, _⟩ := h
    rfl
  · obtain ⟨g, s, i, b, rfl, ⟨dx, hg⟩, hi, hl, q⟩ := h
    refine ⟨_, (pss_one (ps_ret (pe_slice sl_str (pe_fld (pv 0) rfl) (po_some (pe_fld (pv 0) rfl)) (po_some (pe_op op_add (pe_fld (pv 0) rfl) pe_int))))), ?_⟩
    refine ⟨_, rfl, g, RC, dx, _, _, rfl, hg, R.cl, R.n1, rfl, _, rfl, g, RC, dx, _, _, rfl, hg, R.cl, R.n2, rfl, (i : Nat), rfl, _, rfl, g, RC, dx, _, _, rfl, hg, R.cl, R.n2, rfl, _, _, rfl, rfl, _, rfl, tx s, rfl, by rw [tx_len, sizeLine_eq]; omega, ?_⟩
    rw [cut_one s i hi]
    exact q
def spSd (RC : Addr) : Sp := fun vs H Q _ => ∃ g z s i b, vs = [.ref g, .str z] ∧ RdAt RC H g s i b ∧ s.length ≤ 100000 ∧ Q (.bl (atS s i z.cps.toList)) H
theorem ok_sd {k : Nat} (R : RdC K mg RC g_ini g_sg g_sd g_tk g_lt g_nm g_gr g_sp g_rw e_ini e_sg e_sd e_tk e_lt e_nm e_gr e_sp e_rw) : FnOk P w K mg base CX0 (k + 1) g_sd e_sd ["self", "signs"] (spSd RC) := by
  refine R.Fsd.ok scRd_sd (fun vs H Q E h => ?_) (fun cdv A outer st H vs Q E hr h => ?_)
  · obtain ⟨g, z, s, i, b, rfl, _⟩ := h
    rfl
  · obtain ⟨g, z, s, i, b, rfl, ⟨dx, hg⟩, hl, q⟩ := h
    refine ⟨_, (pss_one (ps_ret (pe_and (pe_cmpR op_lt (pe_fld (pv 0) rfl) (pe_callB call_len_str (by rfl) R.zlen PySem.boot_len (pa_cons (pe_fld (pv 0) rfl) pa_nil)) (nomark _)) (pe_one (pe_cmpR op_in_sign (pe_ix ix_str (pe_fld (pv 0) rfl) (pe_fld (pv 0) rfl) (fun _ _ => rfl)) (pv 1) (by rfl)))))), ?_⟩
    refine ⟨_, rfl, g, RC, dx, _, _, rfl, hg, R.cl, R.n2, rfl, _, rfl, g, RC, dx, _, _, rfl, hg, R.cl, R.n1, rfl, _, rfl, by rw [tx_len, sizeLine_eq]; omega, _, _, rfl, rfl, ?_⟩
    rw [tx_len]
    refine ⟨_, rfl, ?_⟩
    by_cases hi : i < s.length
    · rw [decide_eq_true (by omega)]
      refine iteT ⟨_, rfl, g, RC, dx, _, _, rfl, hg, R.cl, R.n1, rfl, _, rfl, g, RC, dx, _, _, rfl, hg, R.cl, R.n2, rfl, tx s, (i : Nat), s.getD i 0, rfl, rfl, by rw [tx_len, sizeLine_eq]; omega, ?_, _, rfl, s.getD i 0, z, rfl, rfl, ?_⟩
      · refine atI_nat ?_
        rw [tx_list, List.getD_eq_getElem?_getD, List.getElem?_eq_getElem hi]
        rfl
      · have e : decide (s.getD i 0 ∈ z.cps.toList) = atS s i z.cps.toList := by
          unfold atS
          rw [List.getD_eq_getElem?_getD, List.getElem?_eq_getElem hi]
          rfl
        rw [e]
        exact q
    · rw [atS_far (by omega)] at q
      rw [decide_eq_false (by omega)]
      exact iteF q
def spTk (RC CB : Addr) : Sp := fun vs H Q E => ∃ g z s i b, vs = [.ref g, .str z] ∧ RdAt RC H g s i b ∧ s.length ≤ 100000 ∧ (atS s i z.cps.toList = true → ∀ H', SmX g H H' → RdAt RC H' g s (i + 1) b → Q (.str (tx [s.getD i 0])) H') ∧ (atS s i z.cps.toList = false → PBd CB g H E i)
theorem ok_tk {k : Nat} (R : RdC K mg RC g_ini g_sg g_sd g_tk g_lt g_nm g_gr g_sp g_rw e_ini e_sg e_sd e_tk e_lt e_nm e_gr e_sp e_rw) (T : HE K mg CH fH fdH) (X : XC K mg "BadText" "BadText.__init__" sBTinit "at" CB fB fdB) : FnOk P w K mg base (L2.CX P w) (k + 4) g_tk e_tk ["self", "signs"] (spTk RC CB) := by
  have GSd : FnOk P w K mg base CX0 (k + 1) g_sd e_sd ["self", "signs"] (spSd RC) := ok_sd R
  have GSg : FnOk P w K mg base CX0 (k + 1) g_sg e_sg ["self"] (spSg RC) := ok_sg R
  have GB : FnOk P w K mg base CX0 (k + 2) fB fdB ["self", "at"] (sp1 K "at" "badtext") := ok_BT T X.F
  refine R.Ftk.okX scRd_tk (fun vs H Q E h => ?_) (fun cdv A outer st H vs Q E hr h => ?_)
  · obtain ⟨g, z, s, i, b, rfl, _⟩ := h
    rfl
  · obtain ⟨g, z, s, i, b, rfl, ⟨dx, hg⟩, hl, q, qe⟩ := h
    have nd := scRd_tk.nd
    have r1 : Room (k + 1) _ := hr.mono (by omega)
    have r3 : Room (k + 3) _ := hr
    refine ⟨_, (pss_cons (ps_if (pt_not (pt_val (pe_meth (pv 0) R.cl R.msd GSd r1 R.bsd .nil pass0 (pa_cons (pv 1) pa_nil))))
        (pss_one (ps_raise rfl (takes_of rfl rfl rfl rfl) (pmk_oex X.O X.iC X.tI GB r3 X.b .nil pass0 (by rfl) X.gC (pa_cons (pe_fld (pv 0) rfl) pa_nil))))
        pss_nil)
      (pss_cons (ps_set (i := 2) nd rfl (.inl rfl) (pe_meth0 (pv 0) R.cl R.msg GSg r1 R.bsg .nil pass0))
      (pss_cons (ps_fldaug (pv 0) pe_int in_add)
      (pss_one (ps_ret (pv 2)))))), ?_⟩
    refine ⟨_, rfl, g, dx, _, rfl, hg, rfl, _, rfl, g, z, s, i, b, rfl, ⟨dx, hg⟩, hl, _, rfl, ?_⟩
    by_cases a : atS s i z.cps.toList = true
    · rw [a]
      refine iteF ⟨_, rfl, g, dx, _, rfl, hg, rfl, g, s, i, b, rfl, ⟨dx, hg⟩, atS_lt a, hl, ?_⟩
      refine ⟨_, rfl, g, RC, dx, _, _, rfl, hg, R.cl, R.n2, rfl, _, _, rfl, rfl, dx, _, hg, by show 3 < 1000; decide, ?_⟩
      refine ⟨_, rfl, q a _ SmX.upd ⟨dx, ?_⟩⟩
      rw [upd_same, put_at]
    · rw [Bool.not_eq_true] at a
      rw [a]
      refine iteT ⟨_, rfl, g, RC, dx, _, _, rfl, hg, R.cl, R.n2, rfl, by show 1 ≤ 1000; decide, mk1 X.O X.hw X.hf fun d H4 s4 n4 e4 => qe a H4 d (SmX.of s4) n4 e4⟩
def spLt (RC CB : Addr) : Sp := fun vs H Q E => ∃ g z s i b, ∃ (lo hi : Nat), vs = [.ref g, .str z, .int (lo : Nat), .int (hi : Nat)] ∧ RdAt RC H g s i b ∧ s.length ≤ 100000 ∧ lo ≤ hi ∧ hi ≤ 100 ∧
  match ltP s z.cps.toList lo hi [] i with
  | .ok (t, j) => ∀ H', SmX g H H' → RdAt RC H' g s j b → Q (.str (tx t)) H'
  | .error j => PBd CB g H E j
theorem ok_lt {k : Nat} (R : RdC K mg RC g_ini g_sg g_sd g_tk g_lt g_nm g_gr g_sp g_rw e_ini e_sg e_sd e_tk e_lt e_nm e_gr e_sp e_rw) (T : HE K mg CH fH fdH) (X : XC K mg "BadText" "BadText.__init__" sBTinit "at" CB fB fdB) : FnOk P w K mg base (L2.CX P w) (k + 5) g_lt e_lt ["self", "letters", "fewest", "most"] (spLt RC CB) := by
  have GSd : FnOk P w K mg base CX0 (k + 1) g_sd e_sd ["self", "signs"] (spSd RC) := ok_sd R
  have GTk : FnOk P w K mg base (L2.CX P w) (k + 4) g_tk e_tk ["self", "signs"] (spTk RC CB) := ok_tk R T X
  refine R.Flt.okX scRd_lt (fun vs H Q E h => ?_) (fun cdv A outer st H vs Q E hr h => ?_)
  · obtain ⟨g, z, s, i, b, lo, hi, rfl, _⟩ := h
    rfl
  · obtain ⟨g, z, s, i, b, lo, hi, rfl, hg, hl, hlo, hhi, q⟩ := h
    have nd := scRd_lt.nd
    have r1 : Room (k + 1) _ := hr.mono (by omega)
    have r4 : Room (k + 4) _ := hr
    refine ⟨_, (pss_cons (ps_set (i := 4) nd rfl (.inl rfl) pe_str)
      (pss_cons (ps_while (passes_of rfl) (PW.pt (pw_or (pt_cmpR op_lt (pe_callB call_len_str (by rfl) R.zlen PySem.boot_len (pa_cons (pv 4) pa_nil)) (pv 2) (nomark _)) (pw_or1 (PW.pt (pw_and (pt_cmpR op_lt (pe_callB call_len_str (by rfl) R.zlen PySem.boot_len (pa_cons (pv 4) pa_nil)) (pv 3) (nomark _)) (pw_and1 (pt_val (pe_meth (pv 0) R.cl R.msd GSd r1 R.bsd .nil pass0 (pa_cons (pv 1) pa_nil)))))))))
        (pss_one (ps_aug (i := 4) nd rfl (.inl rfl) (pe_meth (E := E) (pv 0) R.cl R.mtk GTk r4 R.btk .nil (passes_call (takes_of rfl rfl rfl rfl) (fun _ _ _ _ h => h)) (pa_cons (pv 1) pa_nil)) iop_add_str)))
      (pss_one (ps_ret (pv 4))))), ?_⟩
    refine ⟨fun m σ H' => ∃ (t : List Nat) (j : Nat), σ = [some (.ref g), some (.str z), some (.int (lo : Nat)), some (.int (hi : Nat)), some (.str (tx t))] ∧ SmX g H H' ∧ RdAt RC H' g s j b ∧ t.length + m = hi ∧ ltP s z.cps.toList lo hi [] i = ltP s z.cps.toList lo m t j, ⟨hi, [], i, ?_, SmX.refl _ _, hg, ?_, rfl⟩, ?_⟩
    · rfl
    · show 0 + hi = hi
      omega
    · rintro m σ H1 ⟨t, j, rfl, s1, hg1, hm, e⟩
      obtain ⟨dx, hg1'⟩ := hg1
      have bd : (tx t).length ≤ sizeLine := by rw [tx_len, sizeLine_eq]; omega
      refine ⟨_, rfl, _, rfl, bd, _, rfl, _, _, rfl, rfl, _, rfl, ?_⟩
      have e1 : V.int ((tx t).length : Nat) = V.int (t.length : Nat) := by rw [tx_len]
      have ok : 0 < m → atS s j z.cps.toList = true → ltP s z.cps.toList lo hi [] i = ltP s z.cps.toList lo (m - 1) (t ++ [s.getD j 0]) (j + 1) := fun h0 a => by
        obtain ⟨n, rfl⟩ : ∃ n, m = n + 1 := ⟨m - 1, by omega⟩
        rw [e, ltP, if_pos a]
        rfl
      have stop : atS s j z.cps.toList = false ∨ m = 0 → ¬ t.length < lo → ltP s z.cps.toList lo hi [] i = .ok (t, j) := fun a h0 => by
        rw [e]
        cases m with
        | zero => rw [ltP]
        | succ m =>
          rcases a with a | a
          · rw [ltP, a, if_neg (by simp), if_neg h0]
          · cases a
      have bad : atS s j z.cps.toList = false → t.length < lo → ltP s z.cps.toList lo hi [] i = .error j := fun a h0 => by
        rw [e]
        obtain ⟨n, rfl⟩ : ∃ n, m = n + 1 := ⟨m - 1, by omega⟩
        rw [ltP, a, if_neg (by simp), if_pos h0]
      rw [tx_len]
      by_cases h1 : t.length < lo
      · rw [decide_eq_true (by omega)]
        refine iteT (iteT ⟨_, fun _ _ h => h, ?_⟩)
        refine ⟨_, rfl, _, rfl, g, dx, _, rfl, hg1', rfl, _, rfl, g, z, s, j, b, rfl, ⟨dx, hg1'⟩, hl, fun a H2 s2 hg2 => ?_, fun a => ?_⟩
        · refine ⟨_, _, rfl, rfl, by rw [tx_len, tx_len, sizeLine_eq]; show _ + 1 ≤ _; omega, m - 1, by omega, t ++ [s.getD j 0], j + 1, ?_, s1.trans s2, hg2, by rw [List.length_append]; show t.length + 1 + _ = _; omega, ok (by omega) a⟩
          rw [tx_app]
          rfl
        · rw [bad a h1] at q
          exact q.later s1 hg1'
      · rw [decide_eq_false (by omega)]
        refine iteF ?_
        refine ⟨_, rfl, _, rfl, bd, _, rfl, _, _, rfl, rfl, _, rfl, ?_⟩
        rw [tx_len]
        by_cases h2 : t.length < hi
        · rw [decide_eq_true (by omega)]
          refine iteT ⟨_, rfl, g, dx, _, rfl, hg1', rfl, _, rfl, g, z, s, j, b, rfl, ⟨dx, hg1'⟩, hl, _, rfl, ?_⟩
          by_cases a : atS s j z.cps.toList = true
          · rw [a]
            refine iteT ⟨_, fun _ _ h => h, ?_⟩
            refine ⟨_, rfl, _, rfl, g, dx, _, rfl, hg1', rfl, _, rfl, g, z, s, j, b, rfl, ⟨dx, hg1'⟩, hl, fun a H2 s2 hg2 => ?_, fun a' => by rw [a] at a'; cases a'⟩
            refine ⟨_, _, rfl, rfl, by rw [tx_len, tx_len, sizeLine_eq]; show _ + 1 ≤ _; omega, m - 1, by omega, t ++ [s.getD j 0], j + 1, ?_, s1.trans s2, hg2, by rw [List.length_append]; show t.length + 1 + _ = _; omega, ok (by omega) a⟩
            rw [tx_app]
            rfl
          · rw [Bool.not_eq_true] at a
            rw [a]
            rw [stop (.inl a) h1] at q
            exact iteF ⟨_, rfl, q _ s1 ⟨dx, hg1'⟩⟩
        · rw [decide_eq_false (by omega)]
          rw [stop (.inr (by omega)) h1] at q
          exact iteF (iteF ⟨_, rfl, q _ s1 ⟨dx, hg1'⟩⟩)
def spNm (RC CB : Addr) : Sp := fun vs H Q E => ∃ g s i b, vs = [.ref g] ∧ RdAt RC H g s i b ∧ s.length ≤ 100000 ∧
  match numP s i with
  | .ok (m, j) => ∀ H', SmX g H H' → RdAt RC H' g s j b → Q (.int (m : Nat)) H'
  | .error j => PBd CB g H E j
set_option maxHeartbeats 1000000 in
theorem ok_nm {k : Nat} (R : RdC K mg RC g_ini g_sg g_sd g_tk g_lt g_nm g_gr g_sp g_rw e_ini e_sg e_sd e_tk e_lt e_nm e_gr e_sp e_rw) (T : HE K mg CH fH fdH) (X : XC K mg "BadText" "BadText.__init__" sBTinit "at" CB fB fdB) : FnOk P w K mg base (L2.CX P w) (k + 5) g_nm e_nm ["self"] (spNm RC CB) := by
  obtain ⟨_, hFg⟩ := R.cFIGURES
  obtain ⟨_, hTi⟩ := R.cMOST_TIMES
  have GSd : FnOk P w K mg base CX0 (k + 1) g_sd e_sd ["self", "signs"] (spSd RC) := ok_sd R
  have GSg : FnOk P w K mg base CX0 (k + 1) g_sg e_sg ["self"] (spSg RC) := ok_sg R
  have GTk : FnOk P w K mg base (L2.CX P w) (k + 4) g_tk e_tk ["self", "signs"] (spTk RC CB) := ok_tk R T X
  have GB : FnOk P w K mg base CX0 (k + 2) fB fdB ["self", "at"] (sp1 K "at" "badtext") := ok_BT T X.F
  refine R.Fnm.okX scRd_nm (fun vs H Q E h => ?_) (fun cdv A outer st H vs Q E hr h => ?_)
  · obtain ⟨g, s, i, b, rfl, _⟩ := h
    rfl
  · obtain ⟨g, s, i, b, rfl, ⟨dx, hg⟩, hl, q⟩ := h
    have nd := scRd_nm.nd
    have r1 : Room (k + 1) _ := hr.mono (by omega)
    have r3 : Room (k + 3) _ := hr.mono (by omega)
    have r4 : Room (k + 4) _ := hr
    refine ⟨_, (pss_cons (ps_set (i := 1) nd rfl (.inl rfl) (pe_callTy call_int_str (by rfl) R.zint (by decide +kernel) (pa_cons (pe_meth (E := E) (pv 0) R.cl R.mtk GTk r4 R.btk .nil (passes_call (takes_of rfl rfl rfl rfl) (fun _ _ _ _ h => h)) (pa_cons (pe_glob (v := .str DG) rfl hFg ⟨_, rfl⟩) pa_nil)) pa_nil)))
      (pss_cons (ps_while (passes_of rfl) (PW.pt (pw_and (pt_cmpR op_gt (pv 1) pe_int (nomark _)) (pw_and1 (pt_val (pe_meth (pv 0) R.cl R.msd GSd r1 R.bsd .nil pass0 (pa_cons (pe_glob (v := .str DG) rfl hFg ⟨_, rfl⟩) pa_nil))))))
        (pss_cons (ps_set (i := 1) nd rfl (.inl rfl) (pe_op op_add (pe_op op_mulW pe_int (pv 1)) (pe_callTy call_int_str (by rfl) R.zint (by decide +kernel) (pa_cons (pe_meth0 (pv 0) R.cl R.msg GSg r1 R.bsg .nil pass0) pa_nil))))
      (pss_cons (ps_if (pt_cmpR op_gt (pv 1) (pe_glob (v := .int (10 ^ 30)) rfl hTi ⟨_, rfl⟩) (nomark _))
        (pss_one (ps_raise rfl (takes_of rfl rfl rfl rfl) (pmk_oex X.O X.iC X.tI GB r3 X.b .nil pass0 (by rfl) X.gC (pa_cons (pe_fld (pv 0) rfl) pa_nil))))
        pss_nil)
      (pss_one (ps_fldaug (pv 0) pe_int in_add)))))
      (pss_one (ps_ret (pv 1))))), ?_⟩
    refine ⟨_, rfl, g, dx, _, rfl, hg, rfl, g, DG, s, i, b, rfl, ⟨dx, hg⟩, hl, fun a H1 s1 hg1 => ?_, fun a => ?_⟩
    · have a : atS s i dgN = true := a
      have ⟨ag, ad⟩ := atS_get a
      have ad2 := (dgN_iff _).mp ad
      refine ⟨_, _, rfl, int_dig _ ad, by rw [tx_len]; show 1 ≤ 640; decide, ?_⟩
      have e0 : numP s i = nmP s (s.length - (i + 1)) (s.getD i 0 - 48) (i + 1) := by
        unfold numP
        rw [if_pos a]
      rw [e0] at q
      refine ⟨fun f σ H' => ∃ (m j : Nat), σ = [some (.ref g), some (.int (m : Nat))] ∧ SmX g H H' ∧ RdAt RC H' g s j b ∧ m ≤ 10 ^ 30 ∧ s.length ≤ f + j ∧ nmP s (s.length - (i + 1)) (s.getD i 0 - 48) (i + 1) = nmP s f m j, ⟨_, _, _, rfl, s1, hg1, by omega, by omega, rfl⟩, ?_⟩
      rintro f σ H2 ⟨m, j, rfl, s2, ⟨dx2, hg2⟩, hm, hf, e⟩
      rw [e] at q
      refine ⟨_, rfl, _, _, rfl, rfl, _, rfl, ?_⟩
      by_cases m0 : 0 < m
      · rw [decide_eq_true (by omega)]
        refine iteT ⟨_, rfl, g, dx2, _, rfl, hg2, rfl, g, DG, s, j, b, rfl, ⟨dx2, hg2⟩, hl, _, rfl, ?_⟩
        by_cases a2 : atS s j dgN = true
        · have jl := atS_lt a2
          have ⟨ag2, ad2⟩ := atS_get a2
          have ad3 := (dgN_iff _).mp ad2
          rw [show atS s j DG.cps.toList = true from a2]
          obtain ⟨f, rfl⟩ : ∃ n, f = n + 1 := ⟨f - 1, by omega⟩
          rw [nmP, if_pos ⟨m0, a2⟩] at q e
          refine iteT ⟨_, fun _ _ h => h, ?_⟩
          refine ⟨_, rfl, _, _, rfl, rfl, wide_mul (a := 4) (b := 110) (by decide) (by rw [Int.natAbs_natCast]; exact Nat.lt_of_le_of_lt hm (by decide)) (by decide) (by decide) (by decide), ?_⟩
          refine ⟨_, rfl, g, dx2, _, rfl, hg2, rfl, g, s, j, b, rfl, ⟨dx2, hg2⟩, jl, hl, _, _, rfl, int_dig _ ad2, by rw [tx_len]; show 1 ≤ 640; decide, _, _, rfl, rfl, ?_⟩
          have ev : V.int (10 * ((m : Nat) : Int) + ((s.getD j 0 - 48 : Nat) : Int)) = V.int ((10 * m + (s.getD j 0 - 48) : Nat) : Int) := by
            congr 1
          refine ⟨_, rfl, _, _, rfl, rfl, _, rfl, ?_⟩
          by_cases big : 10 ^ 30 < 10 * m + (s.getD j 0 - 48)
          · rw [if_pos big] at q
            rw [decide_eq_true (by omega)]
            refine iteT ⟨_, rfl, g, RC, dx2, _, _, rfl, hg2, R.cl, R.n2, rfl, by show 1 ≤ 1000; decide, mk1 X.O X.hw X.hf fun d H4 s4 n4 e4 => q H4 d (s2.trans (SmX.of s4)) (smx_none s2 hg2 n4) e4⟩
          · rw [if_neg big] at q e
            rw [decide_eq_false (by omega)]
            refine iteF ⟨_, rfl, g, RC, dx2, _, _, rfl, hg2, R.cl, R.n2, rfl, _, _, rfl, rfl, dx2, _, hg2, by show 3 < 1000; decide, ?_⟩
            refine ⟨f, by omega, 10 * m + (s.getD j 0 - 48), j + 1, ?_, s2.trans SmX.upd, ⟨dx2, by rw [upd_same, put_at]⟩, by omega, by omega, e⟩
            rw [← ev]
            rfl
        · rw [Bool.not_eq_true] at a2
          rw [show atS s j DG.cps.toList = false from a2]
          refine iteF ⟨_, rfl, ?_⟩
          cases f with
          | zero => rw [nmP] at q; exact q _ s2 ⟨dx2, hg2⟩
          | succ f => rw [nmP, if_neg (fun z => by rw [z.2] at a2; cases a2)] at q; exact q _ s2 ⟨dx2, hg2⟩
      · rw [decide_eq_false (by omega)]
        refine iteF ⟨_, rfl, ?_⟩
        cases f with
        | zero => rw [nmP] at q; exact q _ s2 ⟨dx2, hg2⟩
        | succ f => rw [nmP, if_neg (fun z => m0 z.1)] at q; exact q _ s2 ⟨dx2, hg2⟩
    · have a : atS s i dgN = false := a
      unfold numP at q
      rw [a, if_neg (by simp)] at q
      exact q
def spSp (K : PySem.W.Frag) (RC CB : Addr) (n : Nat) : Sp := fun vs H Q E => ∃ g s i b, vs = [.ref g, .int ((12 - n : Nat))] ∧ n ≤ 12 ∧ RdAt RC H g s i b ∧ s.length ≤ 100000 ∧ b ≤ 60 ∧
  match stP s n i b with
  | .ok (x, j, c) => ∀ H' v, SmX g H H' → RdAt RC H' g s j c → Dp K H' v (encS x) → Q v H'
  | .error j => PBd CB g H E j
def spRw (K : PySem.W.Frag) (RC CB : Addr) (n : Nat) : Sp := fun vs H Q E => ∃ g s i b, vs = [.ref g, .int ((12 - n : Nat))] ∧ n ≤ 12 ∧ RdAt RC H g s i b ∧ s.length ≤ 100000 ∧ b ≤ 60 ∧
  match rwP s (stP s n) i b with
  | .ok (r, j, c) => ∀ H' v, SmX g H H' → RdAt RC H' g s j c → Dp K H' v (encR r) → Q v H'
  | .error j => PBd CB g H E j
def spGr (K : PySem.W.Frag) (RC CB : Addr) (n : Nat) : Sp := fun vs H Q E => ∃ g s i b, vs = [.ref g, .int ((12 - (n + 1) : Nat))] ∧ n + 1 ≤ 12 ∧ RdAt RC H g s i b ∧ s.length ≤ 100000 ∧ b ≤ 60 ∧
  match grP s (rwP s (stP s n)) i b with
  | .ok (x, j, c) => ∀ H' v, SmX g H H' → RdAt RC H' g s j c → Dp K H' v (encS x) → Q v H'
  | .error j => PBd CB g H E j
theorem ok_gr {k n : Nat} (hk : 5 ≤ k) (R : RdC K mg RC g_ini g_sg g_sd g_tk g_lt g_nm g_gr g_sp g_rw e_ini e_sg e_sd e_tk e_lt e_nm e_gr e_sp e_rw) (T : HE K mg CH fH fdH) (X : XC K mg "BadText" "BadText.__init__" sBTinit "at" CB fB fdB) (GRw : FnOk P w K mg base (L2.CX P w) k g_rw e_rw ["self", "deep"] (spRw K RC CB n)) : FnOk P w K mg base (L2.CX P w) (k + 1) g_gr e_gr ["self", "deep"] (spGr K RC CB n) := by
  have GTk : FnOk P w K mg base (L2.CX P w) (0 + 4) g_tk e_tk ["self", "signs"] (spTk RC CB) := ok_tk R T X
  have GNm : FnOk P w K mg base (L2.CX P w) (0 + 5) g_nm e_nm ["self"] (spNm RC CB) := ok_nm R T X
  refine R.Fgr.okX scRd_gr (fun vs H Q E h => ?_) (fun cdv A outer st H vs Q E hr h => ?_)
  · obtain ⟨g, s, i, b, rfl, _⟩ := h
    rfl
  · obtain ⟨g, s, i, b, rfl, hn, hg, hl, hb, q⟩ := h
    have nd := scRd_gr.nd
    have r4 : Room (0 + 4) _ := hr.mono (by omega)
    have r5 : Room (0 + 5) _ := hr.mono (by omega)
    have rR : Room k _ := hr
    obtain ⟨dx, hg⟩ := hg
    refine ⟨_, (pss_cons (ps_set (i := 2) nd rfl (.inl rfl) (pe_meth (E := E) (pv 0) R.cl R.mrw GRw rR R.brw .nil (passes_call (takes_of rfl rfl rfl rfl) (fun _ _ _ _ h => h)) (pa_cons (pe_op op_add (pv 1) pe_int) pa_nil)))
      (pss_cons (ps_expr (pe_meth (E := E) (pv 0) R.cl R.mtk GTk r4 R.btk .nil (passes_call (takes_of rfl rfl rfl rfl) (fun _ _ _ _ h => h)) (pa_cons pe_str pa_nil)))
      (pss_cons (ps_expr (pe_meth (E := E) (pv 0) R.cl R.mtk GTk r4 R.btk .nil (passes_call (takes_of rfl rfl rfl rfl) (fun _ _ _ _ h => h)) (pa_cons pe_str pa_nil)))
      (pss_one (ps_ret (pe_tup (pa_cons pe_str (pa_cons (pe_meth0 (E := E) (pv 0) R.cl R.mnm GNm r5 R.bnm .nil (passes_call (takes_of rfl rfl rfl rfl) (fun _ _ _ _ h => h))) (pa_cons (pv 2) pa_nil))))))))), ?_⟩
    refine ⟨_, rfl, g, dx, _, rfl, hg, rfl, _, rfl, _, _, rfl, rfl, g, s, i, b, ?_, by omega, ⟨dx, hg⟩, hl, hb, ?_⟩
    · show [V.ref g, V.int (((12 - (n + 1) : Nat) : Int) + 1)] = _
      rw [show ((12 - (n + 1) : Nat) : Int) + 1 = ((12 - n : Nat) : Int) by omega]
    unfold grP at q
    cases e : rwP s (stP s n) i b with
    | error j => rw [e] at q; exact q
    | ok x =>
      obtain ⟨r, j, c⟩ := x
      rw [e] at q
      have hc := (rwP_ok (stP_ok s n) _ _ _ _ _ e).2.2 hb
      rintro H1 v s1 hg1 hv
      obtain ⟨dx1, hg1'⟩ := hg1
      refine ⟨_, rfl, g, dx1, _, rfl, hg1', rfl, g, _, s, j, c, rfl, ⟨dx1, hg1'⟩, hl, fun a H2 s2 hg2 => ?_, fun a => ?_⟩
      · have a : atS s j [41] = true := a
        obtain ⟨dx2, hg2'⟩ := hg2
        refine ⟨_, rfl, g, dx2, _, rfl, hg2', rfl, g, _, s, j + 1, c, rfl, ⟨dx2, hg2'⟩, hl, fun a2 H3 s3 hg3 => ?_, fun a2 => ?_⟩
        · have a2 : atS s (j + 1) [42] = true := a2
          simp only [a, a2, if_true] at q
          obtain ⟨dx3, hg3'⟩ := hg3
          refine ⟨_, rfl, g, dx3, _, rfl, hg3', rfl, g, s, j + 2, c, rfl, ⟨dx3, hg3'⟩, hl, ?_⟩
          cases e2 : numP s (j + 2) with
          | error j2 =>
            rw [e2] at q
            exact q.later ((s1.trans s2).trans s3) hg3'
          | ok y =>
            obtain ⟨m, j2⟩ := y
            rw [e2] at q
            rintro H4 s4 hg4
            refine ⟨_, rfl, by show 3 ≤ sizeLine; decide, fun p np => ?_⟩
            refine q _ _ ((((s1.trans s2).trans s3).trans s4).trans (SmX.of (same_upd np))) ?_ ?_
            · obtain ⟨dx4, hg4⟩ := hg4
              exact ⟨dx4, same_upd np _ _ hg4⟩
            · rw [encS]
              have d1 := dp_smx (s2.trans (s3.trans s4)) hg1' (.inr ⟨_, _, _, rfl⟩) (noL_encR r) hv
              exact .tup (SqT.of upd_same) (.cons (.str _) (.cons (.int _) (.cons (dp_same (same_upd np) d1) .nil)))
        · have a2 : atS s (j + 1) [42] = false := a2
          simp only [a, a2, if_true] at q
          exact q.later (s1.trans s2) hg2'
      · have a : atS s j [41] = false := a
        simp only [a] at q
        exact q.later s1 hg1'
set_option maxHeartbeats 1000000 in
theorem ok_sp_of {k n : Nat} {spG : Sp} (hk : 5 ≤ k) (R : RdC K mg RC g_ini g_sg g_sd g_tk g_lt g_nm g_gr g_sp g_rw e_ini e_sg e_sd e_tk e_lt e_nm e_gr e_sp e_rw) (T : HE K mg CH fH fdH) (X : XC K mg "BadText" "BadText.__init__" sBTinit "at" CB fB fdB) (GGr : FnOk P w K mg base (L2.CX P w) k g_gr e_gr ["self", "deep"] spG) (hG : ∀ m, n = m + 1 → spG = spGr K RC CB m) : FnOk P w K mg base (L2.CX P w) (k + 1) g_sp e_sp ["self", "deep"] (spSp K RC CB n) := by
  obtain ⟨_, hSt⟩ := R.cMOST_STEPS
  obtain ⟨_, hD⟩ := R.cMOST_DEEP
  obtain ⟨_, hSd⟩ := R.cMOST_SIDES
  obtain ⟨_, hN⟩ := R.cLONGEST_NAME
  obtain ⟨_, hL⟩ := R.cLETTERS
  obtain ⟨_, hS⟩ := R.cSMALL
  have GTk : FnOk P w K mg base (L2.CX P w) (0 + 4) g_tk e_tk ["self", "signs"] (spTk RC CB) := ok_tk R T X
  have GLt : FnOk P w K mg base (L2.CX P w) (0 + 5) g_lt e_lt ["self", "letters", "fewest", "most"] (spLt RC CB) := ok_lt R T X
  have GB : FnOk P w K mg base CX0 (0 + 2) fB fdB ["self", "at"] (sp1 K "at" "badtext") := ok_BT T X.F
  refine R.Fsp.okX scRd_sp (fun vs H Q E h => ?_) (fun cdv A outer st H vs Q E hr h => ?_)
  · obtain ⟨g, s, i, b, rfl, _⟩ := h
    rfl
  · obtain ⟨g, s, i, b, rfl, hn, ⟨dx, hg⟩, hl, hb, q⟩ := h
    have nd := scRd_sp.nd
    have r3 : Room (0 + 3) _ := hr.mono (by omega)
    have r4 : Room (0 + 4) _ := hr.mono (by omega)
    have r5 : Room (0 + 5) _ := hr.mono (by omega)
    have rR : Room k _ := hr
    refine ⟨_, (pss_cons (ps_if (pt_cmpR op_eq (pe_fld (pv 0) rfl) (pe_glob (v := .int 60) rfl hSt ⟨_, rfl⟩) (nomark _))
        (pss_one (ps_raise rfl (takes_of rfl rfl rfl rfl) (pmk_oex X.O X.iC X.tI GB r3 X.b .nil pass0 (by rfl) X.gC (pa_cons (pe_fld (pv 0) rfl) pa_nil))))
        pss_nil)
      (pss_cons (ps_fldaug (pv 0) pe_int in_add)
      (pss_cons (ps_set (i := 2) nd rfl (.inl rfl) (pe_meth (E := E) (pv 0) R.cl R.mtk GTk r4 R.btk .nil (passes_call (takes_of rfl rfl rfl rfl) (fun _ _ _ _ h => h)) (pa_cons (pe_ifExp (pt_cmpR op_lt (pv 1) (pe_glob (v := .int 12) rfl hD ⟨_, rfl⟩) (nomark _)) pe_str pe_str) pa_nil)))
      (pss_cons (ps_if (pt_cmpR op_eq (pv 2) pe_str (nomark _))
        (pss_one (ps_ret (pe_tup (pa_cons pe_str (pa_cons (pe_meth (E := E) (pv 0) R.cl R.mlt GLt r5 R.blt .nil (passes_call (takes_of rfl rfl rfl rfl) (fun _ _ _ _ h => h)) (pa_cons (pe_glob (v := .str LT) rfl hL ⟨_, rfl⟩) (pa_cons pe_int (pa_cons (pe_glob (v := .int 12) rfl hSd ⟨_, rfl⟩) pa_nil)))) pa_nil)))))
        pss_nil)
      (pss_cons (ps_if (pt_cmpR op_eq (pv 2) pe_str (nomark _))
        (pss_one (ps_ret (pe_tup (pa_cons pe_str (pa_cons (pe_meth (E := E) (pv 0) R.cl R.mlt GLt r5 R.blt .nil (passes_call (takes_of rfl rfl rfl rfl) (fun _ _ _ _ h => h)) (pa_cons (pe_glob (v := .str LT) rfl hL ⟨_, rfl⟩) (pa_cons pe_int (pa_cons (pe_glob (v := .int 12) rfl hSd ⟨_, rfl⟩) pa_nil)))) pa_nil)))))
        pss_nil)
      (pss_cons (ps_if (pt_cmpR op_eq (pv 2) pe_str (nomark _))
        (pss_one (ps_ret (pe_meth (E := E) (pv 0) R.cl R.mgr GGr rR R.bgr .nil (passes_call (takes_of rfl rfl rfl rfl) (fun _ _ _ _ h => h)) (pa_cons (pv 1) pa_nil))))
        pss_nil)
      (pss_cons (ps_set (i := 3) nd rfl (.inl rfl) (pe_meth (E := E) (pv 0) R.cl R.mlt GLt r5 R.blt .nil (passes_call (takes_of rfl rfl rfl rfl) (fun _ _ _ _ h => h)) (pa_cons (pe_glob (v := .str SM) rfl hS ⟨_, rfl⟩) (pa_cons pe_int (pa_cons (pe_glob (v := .int 8) rfl hN ⟨_, rfl⟩) pa_nil)))))
      (pss_cons (ps_expr (pe_meth (E := E) (pv 0) R.cl R.mtk GTk r4 R.btk .nil (passes_call (takes_of rfl rfl rfl rfl) (fun _ _ _ _ h => h)) (pa_cons pe_str pa_nil)))
      (pss_one (ps_ret (pe_tup (pa_cons pe_str (pa_cons (pv 3) pa_nil))))))))))))), ?_⟩
    refine ⟨_, rfl, g, RC, dx, _, _, rfl, hg, R.cl, R.n3, rfl, rfl, _, rfl, ?_⟩
    have eP : stP s n i b = spP s (match n with | 0 => fun _ _ => .error 0 | m + 1 => grP s (rwP s (stP s m))) (decide (0 < n)) i b := by
      cases n <;> rfl
    rw [eP] at q
    unfold spP at q
    by_cases b6 : b = 60
    · rw [if_pos b6] at q
      rw [decide_eq_true (by rw [b6]; rfl)]
      refine iteT ⟨_, rfl, g, RC, dx, _, _, rfl, hg, R.cl, R.n2, rfl, by show 1 ≤ 1000; decide, mk1 X.O X.hw X.hf fun d H4 s4 n4 e4 => q H4 d (SmX.of s4) n4 e4⟩
    · rw [if_neg b6] at q
      rw [decide_eq_false (by intro z; injection z with z; omega)]
      refine iteF ⟨_, rfl, g, RC, dx, _, _, rfl, hg, R.cl, R.n3, rfl, _, _, rfl, rfl, dx, _, hg, by show 3 < 1000; decide, ?_⟩
      rw [put_begun]
      generalize hH1 : upd H g (.ins RC dx (RdF s i (b + 1))) = H1
      have hg1 : H1 g = some (.ins RC dx (RdF s i (b + 1))) := by rw [← hH1, upd_same]
      have s1 : SmX g H H1 := by rw [← hH1]; exact SmX.upd
      refine ⟨_, rfl, g, dx, _, rfl, hg1, rfl, _, rfl, _, _, rfl, rfl, _, rfl, ?_⟩
      have zF : (Str.ofString ".~<").cps.toList = fsN false := by decide +kernel
      have zT : (Str.ofString ".~<(").cps.toList = fsN true := by decide +kernel
      by_cases a0 : atS s i (fsN (decide (0 < n))) = true
      rotate_left
      · rw [Bool.not_eq_true] at a0
        have bad : PBd CB g H E i := by
          simp only [a0] at q
          exact q
        rcases Nat.eq_zero_or_pos n with h0 | h0
        · rw [decide_eq_false (by omega)] at a0
          rw [decide_eq_false (by omega)]
          refine iteF ⟨g, _, s, i, b + 1, rfl, ⟨dx, hg1⟩, hl, fun a => ?_, fun _ => bad.later s1 hg1⟩
          rw [zF, a0] at a
          cases a
        · rw [decide_eq_true h0] at a0
          rw [decide_eq_true (by omega)]
          refine iteT ⟨g, _, s, i, b + 1, rfl, ⟨dx, hg1⟩, hl, fun a => ?_, fun _ => bad.later s1 hg1⟩
          rw [zT, a0] at a
          cases a
      rw [if_pos a0] at q
      have a1 := atS_lt a0
      have fc : s.getD i 0 ∈ fsN (decide (0 < n)) := (atS_get a0).2
      rcases Nat.eq_zero_or_pos n with h0 | h0
      rw [decide_eq_false (by omega)] at a0
      rw [decide_eq_false (by omega)]
      refine iteF ⟨g, _, s, i, b + 1, rfl, ⟨dx, hg1⟩, hl, fun a H2 s2 hg2 => ?_, fun a => by rw [zF, a0] at a; cases a⟩
      rotate_left
      rw [decide_eq_true h0] at a0
      rw [decide_eq_true (by omega)]
      refine iteT ⟨g, _, s, i, b + 1, rfl, ⟨dx, hg1⟩, hl, fun a H2 s2 hg2 => ?_, fun a => by rw [zT, a0] at a; cases a⟩
      all_goals clear a0
      all_goals obtain ⟨dx2, hg2⟩ := hg2
      all_goals refine ⟨_, rfl, rfl, _, rfl, ?_⟩
      all_goals
        have ed : Str.ofString "." = tx [46] := by decide +kernel
        have et : Str.ofString "~" = tx [126] := by decide +kernel
        have eo : Str.ofString "(" = tx [40] := by decide +kernel
        rw [ed, one_eq]
        by_cases c46 : s.getD i 0 = 46
        · rw [if_pos c46] at q
          rw [decide_eq_true c46]
          refine iteT ⟨_, rfl, g, dx2, _, rfl, hg2, rfl, g, LT, s, i + 1, b + 1, 0, 12, rfl, ⟨dx2, hg2⟩, hl, by decide, by decide, ?_⟩
          rw [LT_cps]
          cases e : ltP s ltN 0 12 [] (i + 1) with
          | error j =>
            rw [e] at q
            exact PBd.later q (s1.trans s2) hg2
          | ok y =>
            obtain ⟨t, j⟩ := y
            rw [e] at q
            rintro H3 s3 hg3
            refine ⟨by show 2 ≤ sizeLine; decide, fun p np => ?_⟩
            obtain ⟨dx3, hg3⟩ := hg3
            refine q _ _ (((s1.trans s2).trans s3).trans (SmX.of (same_upd np))) ⟨dx3, same_upd np _ _ hg3⟩ ?_
            rw [encS]
            exact .tup (SqT.of upd_same) (.cons (.str _) (.cons (.str _) .nil))
        rw [if_neg c46] at q
        rw [decide_eq_false c46]
        refine iteF ⟨_, rfl, rfl, _, rfl, ?_⟩
        rw [et, one_eq]
        by_cases c126 : s.getD i 0 = 126
        · rw [if_pos c126] at q
          rw [decide_eq_true c126]
          refine iteT ⟨_, rfl, g, dx2, _, rfl, hg2, rfl, g, LT, s, i + 1, b + 1, 1, 12, rfl, ⟨dx2, hg2⟩, hl, by decide, by decide, ?_⟩
          rw [LT_cps]
          cases e : ltP s ltN 1 12 [] (i + 1) with
          | error j =>
            rw [e] at q
            exact PBd.later q (s1.trans s2) hg2
          | ok y =>
            obtain ⟨t, j⟩ := y
            rw [e] at q
            rintro H3 s3 hg3
            refine ⟨by show 2 ≤ sizeLine; decide, fun p np => ?_⟩
            obtain ⟨dx3, hg3⟩ := hg3
            refine q _ _ (((s1.trans s2).trans s3).trans (SmX.of (same_upd np))) ⟨dx3, same_upd np _ _ hg3⟩ ?_
            rw [encS]
            exact .tup (SqT.of upd_same) (.cons (.str _) (.cons (.str _) .nil))
        rw [if_neg c126] at q
        rw [decide_eq_false c126]
        refine iteF ⟨_, rfl, rfl, _, rfl, ?_⟩
        rw [eo, one_eq]
        by_cases c40 : s.getD i 0 = 40
        · rw [if_pos c40] at q
          rw [decide_eq_true c40]
          obtain ⟨m, rfl⟩ : ∃ m, n = m + 1 := by
            cases n with
            | zero =>
              rw [c40] at fc
              exact absurd fc (by decide)
            | succ m => exact ⟨m, rfl⟩
          have eG := hG m rfl
          subst eG
          refine iteT ⟨_, rfl, g, dx2, _, rfl, hg2, rfl, _, rfl, g, s, i + 1, b + 1, rfl, hn, ⟨dx2, hg2⟩, hl, by omega, ?_⟩
          have q : (match grP s (rwP s (stP s m)) (i + 1) (b + 1) with
            | .ok (x, j, c) => ∀ H' v, SmX g H H' → RdAt RC H' g s j c → Dp K H' v (encS x) → Q v H'
            | .error j => PBd CB g H E j) := q
          cases e : grP s (rwP s (stP s m)) (i + 1) (b + 1) with
          | error j =>
            rw [e] at q
            exact PBd.later q (s1.trans s2) hg2
          | ok y =>
            obtain ⟨x, j, c⟩ := y
            rw [e] at q
            exact fun H3 v s3 hg3 hv => q H3 v ((s1.trans s2).trans s3) hg3 hv
        rw [if_neg c40] at q
        rw [decide_eq_false c40]
        refine iteF ⟨_, rfl, g, dx2, _, rfl, hg2, rfl, g, SM, s, i + 1, b + 1, 1, 8, rfl, ⟨dx2, hg2⟩, hl, by decide, by decide, ?_⟩
        rw [SM_cps]
        cases e : ltP s smN 1 8 [] (i + 1) with
        | error j =>
          rw [e] at q
          exact PBd.later q (s1.trans s2) hg2
        | ok y =>
          obtain ⟨t, j⟩ := y
          rw [e] at q
          rintro H3 s3 hg3
          obtain ⟨dx3, hg3⟩ := hg3
          refine ⟨_, rfl, g, dx3, _, rfl, hg3, rfl, g, _, s, j, b + 1, rfl, ⟨dx3, hg3⟩, hl, fun a H4 s4 hg4 => ?_, fun a => ?_⟩
          · have a : atS s j [62] = true := a
            simp only [a, if_true] at q
            obtain ⟨dx4, hg4⟩ := hg4
            refine ⟨_, rfl, by show 2 ≤ sizeLine; decide, fun p np => ?_⟩
            refine q _ _ ((((s1.trans s2).trans s3).trans s4).trans (SmX.of (same_upd np))) ⟨dx4, same_upd np _ _ hg4⟩ ?_
            rw [encS]
            exact .tup (SqT.of upd_same) (.cons (.str _) (.cons (.str _) .nil))
          · have a : atS s j [62] = false := a
            simp only [a] at q
            exact PBd.later q ((s1.trans s2).trans s3) hg3
set_option maxHeartbeats 1000000 in
theorem ok_rw_of {k n : Nat} (hk : 4 ≤ k) (R : RdC K mg RC g_ini g_sg g_sd g_tk g_lt g_nm g_gr g_sp g_rw e_ini e_sg e_sd e_tk e_lt e_nm e_gr e_sp e_rw) (T : HE K mg CH fH fdH) (X : XC K mg "BadText" "BadText.__init__" sBTinit "at" CB fB fdB) (GSp : FnOk P w K mg base (L2.CX P w) k g_sp e_sp ["self", "deep"] (spSp K RC CB n)) : FnOk P w K mg base (L2.CX P w) (k + 1) g_rw e_rw ["self", "deep"] (spRw K RC CB n) := by
  have GSd : FnOk P w K mg base CX0 (0 + 1) g_sd e_sd ["self", "signs"] (spSd RC) := ok_sd R
  have GTk : FnOk P w K mg base (L2.CX P w) (0 + 4) g_tk e_tk ["self", "signs"] (spTk RC CB) := ok_tk R T X
  refine R.Frw.okX scRd_rw (fun vs H Q E h => ?_) (fun cdv A outer st H vs Q E hr h => ?_)
  · obtain ⟨g, s, i, b, rfl, _⟩ := h
    rfl
  · obtain ⟨g, s, i, b, rfl, hn, ⟨dx, hg⟩, hl, hb, q⟩ := h
    have nd := scRd_rw.nd
    have r1 : Room (0 + 1) _ := hr.mono (by omega)
    have r4 : Room (0 + 4) _ := hr.mono (by omega)
    refine ⟨_, (pss_cons (ps_if (pt_val (pe_meth (pv 0) R.cl R.msd GSd r1 R.bsd .nil pass0 (pa_cons pe_str pa_nil)))
        (pss_cons (ps_expr (pe_meth (E := E) (pv 0) R.cl R.mtk GTk r4 R.btk .nil (passes_call (takes_of rfl rfl rfl rfl) (fun _ _ _ _ h => h)) (pa_cons pe_str pa_nil)))
      (pss_one (ps_ret (pe_tup (pa_cons pe_str (pa_cons (pe_tup pa_nil) pa_nil))))))
        pss_nil)
      (pss_cons (ps_set (i := 2) nd rfl (.inl rfl) (pe_lst (pa_cons (pe_meth (E := E) (pv 0) R.cl R.msp GSp hr R.bsp .nil (passes_call (takes_of rfl rfl rfl rfl) (fun _ _ _ _ h => h)) (pa_cons (pv 1) pa_nil)) pa_nil)))
      (pss_cons (ps_while (passes_of rfl) (pt_val (pe_meth (pv 0) R.cl R.msd GSd r1 R.bsd .nil pass0 (pa_cons pe_str pa_nil)))
        (pss_cons (ps_expr (pe_meth (E := E) (pv 0) R.cl R.mtk GTk r4 R.btk .nil (passes_call (takes_of rfl rfl rfl rfl) (fun _ _ _ _ h => h)) (pa_cons pe_str pa_nil)))
      (pss_one (ps_expr (pe_bm PySem.F.plainAttrs_list PySem.F.slot_list_append PySem.F.type_list_append mt_append (pv 2) (pa_cons (pe_meth (E := E) (pv 0) R.cl R.msp GSp hr R.bsp .nil (passes_call (takes_of rfl rfl rfl rfl) (fun _ _ _ _ h => h)) (pa_cons (pv 1) pa_nil)) pa_nil))))))
      (pss_one (ps_ret (pe_tup (pa_cons pe_str (pa_cons (pe_tupleOf (by rfl) R.ztuple (pv 2)) pa_nil)))))))), ?_⟩
    have zm : (Str.ofString "-").cps.toList = [45] := by decide +kernel
    have zb : (Str.ofString " ").cps.toList = [32] := by decide +kernel
    unfold rwP at q
    refine ⟨_, rfl, g, dx, _, rfl, hg, rfl, g, _, s, i, b, rfl, ⟨dx, hg⟩, hl, _, rfl, ?_⟩
    rw [zm]
    by_cases a : atS s i [45] = true
    · rw [if_pos a] at q
      rw [a]
      refine iteT ⟨_, rfl, g, dx, _, rfl, hg, rfl, g, _, s, i, b, rfl, ⟨dx, hg⟩, hl, fun _ H1 s1 hg1 => ?_, fun a' => by rw [zm, a] at a'; cases a'⟩
      refine ⟨by show 0 ≤ sizeLine; decide, fun p1 np1 => ⟨by show 2 ≤ sizeLine; decide, fun p np => ?_⟩⟩
      obtain ⟨dx1, hg1⟩ := hg1
      have s2 : Same H1 (upd (upd H1 p1 (.tup [])) p (.tup [.str "steps", .ref p1])) := sm_trans (same_upd np1) (same_upd np)
      refine q _ _ (s1.trans (SmX.of s2)) ⟨dx1, s2 _ _ hg1⟩ ?_
      have np1' : p1 ≠ p := ne_of_none upd_same np
      exact .tup (SqT.of upd_same) (.cons (.str _) (.cons (.tup (SqT.of (by rw [upd_ne np1', upd_same])) .nil) .nil))
    · rw [if_neg a] at q
      rw [Bool.not_eq_true] at a
      rw [a]
      refine iteF ⟨_, rfl, g, dx, _, rfl, hg, rfl, _, rfl, g, s, i, b, rfl, hn, ⟨dx, hg⟩, hl, hb, ?_⟩
      cases e : stP s n i b with
      | error j =>
        rw [e] at q
        exact q
      | ok y =>
        obtain ⟨x1, j1, c1⟩ := y
        rw [e] at q
        have ⟨_, j1l, c1l⟩ := stP_ok s n _ _ _ _ _ e
        rintro H1 v1 s1 hg1 hv1
        refine ⟨by show 1 ≤ sizeLine; decide, fun D nD => ?_⟩
        have nD' : H D = none := smx_none s1 hg1.choose_spec nD
        obtain ⟨dx1, hg1⟩ := hg1
        have q : (match rsP s (stP s n) (s.length - j1) [x1] j1 c1 with
            | .ok (r, j, c) => ∀ H' v, SmX g H H' → RdAt RC H' g s j c → Dp K H' v (encR r) → Q v H'
            | .error j => PBd CB g H E j) := q
        refine ⟨fun f σ H' => ∃ (acc : List Stp) (vs : List V) (j c : Nat), σ = [some (.ref g), some (.int ((12 - n : Nat))), some (.ref D)] ∧ SmX g H H' ∧ RdAt RC H' g s j c ∧ H' D = some (.lst vs) ∧ DpAll K H' vs (encL acc) ∧ c ≤ 60 ∧ s.length ≤ f + j ∧ vs.length ≤ j ∧ j ≤ s.length ∧ rsP s (stP s n) (s.length - j1) [x1] j1 c1 = rsP s (stP s n) f acc j c, ⟨s.length - j1, [x1], [v1], j1, c1, rfl, s1.trans (SmX.of (same_upd nD)), ⟨dx1, same_upd nD _ _ hg1⟩, upd_same, ?_, c1l hb, by omega, by show 1 ≤ j1; omega, j1l, rfl⟩, ?_⟩
        · rw [encL, encL]
          exact .cons (dp_same (same_upd nD) hv1) .nil
        · rintro f σ H2 ⟨acc, vs, j, c, rfl, s2, ⟨dx2, hg2⟩, hD, hv, hc, hf, hj, hjl, e2⟩
          rw [e2] at q
          have gD : g ≠ D := ne_of hg2 hD fun z => by cases z
          refine ⟨_, rfl, g, dx2, _, rfl, hg2, rfl, g, _, s, j, c, rfl, ⟨dx2, hg2⟩, hl, _, rfl, ?_⟩
          rw [zb]
          by_cases a2 : atS s j [32] = true
          · have := atS_lt a2
            obtain ⟨f, rfl⟩ : ∃ n, f = n + 1 := ⟨f - 1, by omega⟩
            rw [rsP, if_pos a2] at q e2
            rw [a2]
            refine iteT ⟨_, fun _ _ h => h, ?_⟩
            refine ⟨_, rfl, g, dx2, _, rfl, hg2, rfl, g, _, s, j, c, rfl, ⟨dx2, hg2⟩, hl, fun _ H3 s3 hg3 => ?_, fun a' => by rw [zb, a2] at a'; cases a'⟩
            obtain ⟨dx3, hg3⟩ := hg3
            have hD3 := s3 _ _ (Ne.symm gD) hD
            refine ⟨_, rfl, .inl ⟨rfl, _, SqL.of hD3⟩, _, rfl, g, dx3, _, rfl, hg3, rfl, _, rfl, g, s, j + 1, c, rfl, hn, ⟨dx3, hg3⟩, hl, hc, ?_⟩
            cases e3 : stP s n (j + 1) c with
            | error j3 =>
              rw [e3] at q
              exact PBd.later q (s2.trans s3) hg3
            | ok y =>
              obtain ⟨x3, j3, c3⟩ := y
              rw [e3] at q e2
              have ⟨lt3, j3l, c3l⟩ := stP_ok s n _ _ _ _ _ e3
              rintro H4 v4 s4 hg4 hv4
              obtain ⟨dx4, hg4⟩ := hg4
              have hD4 := s4 _ _ (Ne.symm gD) hD3
              refine ⟨D, vs, v4, rfl, rfl, hD4, by rw [sizeLine_eq]; omega, ?_⟩
              have s5 : SmX D H4 (upd H4 D (.lst (vs ++ [v4]))) := SmX.upd
              refine ⟨f, by omega, acc ++ [x3], vs ++ [v4], j3, c3, rfl, fun p o np h => ?_, ⟨dx4, s5 _ _ gD hg4⟩, upd_same, ?_, c3l hc, by omega, ?_, j3l, e2⟩
              · have h4 := ((s2.trans s3).trans s4) p o np h
                refine s5 _ _ (fun z => ?_) h4
                rw [z, nD' ] at h
                cases h
              · rw [encL_snoc]
                have e5 : noLA (encL acc ++ [encS x3]) = true := by
                  rw [← encL_snoc]
                  exact noL_encL _
                have v5 := dpa_smx (s3.trans s4) hg2 (.inr ⟨_, _, _, rfl⟩) (noL_encL acc) hv
                exact dpa_smx s5 hD4 (.inl ⟨_, rfl⟩) e5 (dpa_snoc v5 hv4)
              · rw [List.length_append]
                show vs.length + 1 ≤ j3
                omega
          · rw [Bool.not_eq_true] at a2
            rw [a2]
            have e4 : rsP s (stP s n) f acc j c = .ok (acc, j, c) := by
              cases f with
              | zero => rw [rsP]
              | succ f => rw [rsP, a2, if_neg (by simp)]
            rw [e4] at q
            refine iteF ⟨_, rfl, .inl ⟨D, vs, rfl, SqL.of hD, fun p1 np1 => ⟨by show 2 ≤ sizeLine; decide, fun p np => ?_⟩⟩⟩
            have s5 : Same H2 (upd (upd H2 p1 (.tup vs)) p (.tup [.str "steps", .ref p1])) := sm_trans (same_upd np1) (same_upd np)
            have np1' : p1 ≠ p := ne_of_none upd_same np
            refine q _ _ (s2.trans (SmX.of s5)) ⟨dx2, s5 _ _ hg2⟩ ?_
            exact .tup (SqT.of upd_same) (.cons (.str _) (.cons (.tup (SqT.of (by rw [upd_ne np1', upd_same])) (dpa_same s5 hv)) .nil))
theorem ok_sps {k : Nat} (R : RdC K mg RC g_ini g_sg g_sd g_tk g_lt g_nm g_gr g_sp g_rw e_ini e_sg e_sd e_tk e_lt e_nm e_gr e_sp e_rw) (T : HE K mg CH fH fdH) (X : XC K mg "BadText" "BadText.__init__" sBTinit "at" CB fB fdB) : ∀ n, FnOk P w K mg base (L2.CX P w) (k + 6 + 3 * n) g_sp e_sp ["self", "deep"] (spSp K RC CB n)
  | 0 => ok_sp_of (k := k + 5) (spG := fun _ _ _ _ => False) (by omega) R T X (R.Fgr.okX (k := k + 4) scRd_gr (fun vs H Q E h => False.elim h) (fun cdv A outer s H vs Q E hr h => False.elim h)) fun m e => by cases e
  | n + 1 => ok_sp_of (k := k + 6 + 3 * n + 2) (by omega) R T X (ok_gr (k := k + 6 + 3 * n + 1) (by omega) R T X (ok_rw_of (k := k + 6 + 3 * n) (by omega) R T X (ok_sps R T X n))) fun m e => by cases e; rfl
def spIni (RC : Addr) : Sp := fun vs H Q _ => ∃ g dg s, vs = [.ref g, .str (tx s)] ∧ H g = some (.ins RC dg []) ∧ ∀ H', SmX g H H' → RdAt RC H' g s 0 0 → Q .non H'
theorem ok_ini {k : Nat} (R : RdC K mg RC g_ini g_sg g_sd g_tk g_lt g_nm g_gr g_sp g_rw e_ini e_sg e_sd e_tk e_lt e_nm e_gr e_sp e_rw) : FnOk P w K mg base CX0 (k + 1) g_ini e_ini ["self", "text"] (spIni RC) := by
  refine R.Fini.ok scRd_ini (fun vs H Q E h => ?_) (fun cdv A outer st H vs Q E hr h => ?_)
  · obtain ⟨g, dg, s, rfl, _⟩ := h
    rfl
  · obtain ⟨g, dg, s, rfl, hg, q⟩ := h
    refine ⟨_, (pss_cons (ps_fld (pv 0) (pv 1) rfl)
      (pss_cons (ps_fld (pv 0) pe_int rfl)
      (pss_one (ps_fld (pv 0) pe_int rfl)))), ?_⟩
    refine ⟨_, rfl, _, rfl, g, RC, dg, _, rfl, hg, R.cl, R.n1, by decide, ?_⟩
    refine ⟨_, rfl, g, RC, dg, _, rfl, upd_same, R.cl, R.n2, by show 1 < 1000; decide, ?_⟩
    refine ⟨_, rfl, g, RC, dg, _, rfl, upd_same, R.cl, R.n3, by show 2 < 1000; decide, ?_⟩
    refine q _ (SmX.upd.trans (SmX.upd.trans SmX.upd)) ⟨dg, ?_⟩
    rw [upd_same]
    rfl
def spRR (K : PySem.W.Frag) (CB : Addr) : Sp := fun vs H Q E => ∃ s, vs = [.str (tx s)] ∧ s.length ≤ 100000 ∧
  match rdP s with
  | .ok r => ∀ H' v, Same H H' → Dp K H' v (encR r) → Q v H'
  | .error j => ∀ H' d, Same H H' → H d = none → H' d = some (.xd [("at", .int (j : Nat)), ("word", .str "badtext")]) → E (.ref CB) (some d) H'
set_option maxHeartbeats 1000000 in
theorem ok_rr {k : Nat} {f : Addr} {fd : FuncData} (R : RdC K mg RC g_ini g_sg g_sd g_tk g_lt g_nm g_gr g_sp g_rw e_ini e_sg e_sd e_tk e_lt e_nm e_gr e_sp e_rw) (T : HE K mg CH fH fdH) (X : XC K mg "BadText" "BadText.__init__" sBTinit "at" CB fB fdB) (F : Fun K "read_row" "read_row" sReadRow f fd) : FnOk P w K mg base (L2.CX P w) (k + 44) f fd ["text"] (spRR K CB) := by
  have GR : FnOk P w K mg base (L2.CX P w) (k + 43) g_rw e_rw ["self", "deep"] (spRw K RC CB 12) := ok_rw_of (k := k + 42) (by omega) R T X (ok_sps R T X 12)
  have GI : FnOk P w K mg base CX0 (0 + 1) g_ini e_ini ["self", "text"] (spIni RC) := ok_ini R
  have GB : FnOk P w K mg base CX0 (0 + 2) fB fdB ["self", "at"] (sp1 K "at" "badtext") := ok_BT T X.F
  refine F.okX scReadRow (fun vs H Q E h => ?_) (fun cdv A outer st H vs Q E hr h => ?_)
  · obtain ⟨s, rfl, _⟩ := h
    rfl
  · obtain ⟨s, rfl, hl, q⟩ := h
    have nd := scReadRow.nd
    have r2 : Room (0 + 1 + 1) _ := hr.mono (by omega)
    have r3 : Room (0 + 3) _ := hr.mono (by omega)
    refine ⟨_, (pss_cons (ps_set (i := 1) nd rfl (.inl rfl) (pe_make R.mks GI r2 (by rfl) R.gC R.bini .nil pass0 (pa_cons (pv 0) pa_nil)))
      (pss_cons (ps_set (i := 2) nd rfl (.inl rfl) (pe_meth (E := E) (pv 1) R.cl R.mrw GR hr R.brw .nil (passes_call (takes_of rfl rfl rfl rfl) (fun _ _ _ _ h => h)) (pa_cons pe_int pa_nil)))
      (pss_cons (ps_if (pt_cmpR op_lt (pe_fld (pv 1) rfl) (pe_callB call_len_str (by rfl) R.zlen PySem.boot_len (pa_cons (pv 0) pa_nil)) (nomark _))
        (pss_one (ps_raise rfl (takes_of rfl rfl rfl rfl) (pmk_oex X.O X.iC X.tI GB r3 X.b .nil pass0 (by rfl) X.gC (pa_cons (pe_fld (pv 1) rfl) pa_nil))))
        pss_nil)
      (pss_one (ps_ret (pv 2)))))), ?_⟩
    refine ⟨_, rfl, fun g dg ng ndg ne => ?_⟩
    have sg : Same H (upd (upd H dg (.own g)) g (.ins RC dg [])) := sm_trans (same_upd ndg) (same_upd (by rw [upd_ne (Ne.symm ne)]; exact ng))
    refine ⟨g, dg, s, rfl, upd_same, fun H1 s1 hg1 => ⟨rfl, ?_⟩⟩
    obtain ⟨dx, hg1⟩ := hg1
    have all : ∀ H', SmX g H1 H' → Same H H' := fun H' s2 b o hb => (s1.trans s2) b o (ne_of_none hb ng) (sg b o hb)
    have none' : ∀ d, H1 d = none → H d = none := fun d n => by
      cases h : H d with
      | none => rfl
      | some o =>
        rw [all H1 (SmX.refl _ _) d o h] at n
        cases n
    refine ⟨_, rfl, g, dx, _, rfl, hg1, rfl, g, s, 0, 0, rfl, by omega, ⟨dx, hg1⟩, hl, by omega, ?_⟩
    unfold rdP at q
    cases e : rwP s (stP s 12) 0 0 with
    | error j =>
      rw [e] at q
      exact fun H' d s2 n d' => q H' d (all H' s2) (none' d n) d'
    | ok y =>
      obtain ⟨r, j, c⟩ := y
      rw [e] at q
      rintro H2 v s2 hg2 hv
      obtain ⟨dx2, hg2⟩ := hg2
      refine ⟨_, rfl, g, RC, dx2, _, _, rfl, hg2, R.cl, R.n2, rfl, _, rfl, _, rfl, by rw [tx_len, sizeLine_eq]; omega, _, _, rfl, rfl, _, rfl, ?_⟩
      rw [tx_len]
      by_cases lt : j < s.length
      · simp only [lt, if_true] at q
        rw [decide_eq_true (by omega)]
        refine iteT ⟨_, rfl, g, RC, dx2, _, _, rfl, hg2, R.cl, R.n2, rfl, by show 1 ≤ 1000; decide, mk1 X.O X.hw X.hf fun d H4 s4 n4 e4 => q H4 d (sm_trans (all H2 s2) s4) (none' d (smx_none s2 hg2 n4)) e4⟩
      · simp only [lt, if_false] at q
        rw [decide_eq_false (by omega)]
        exact iteF ⟨_, rfl, q H2 v (all H2 s2) hv⟩
end
end NC
namespace NC
open PySem PySem.Spec PyProof.Rows L2
theorem op_mul_str {X : Cx} : OpR X (binaryOp .Mult) (fun x y H Q => ∃ i n, x = .str i ∧ y = .int n ∧ MulOk i n ∧ Q (.str (Txt.mul i n)) H) := by
  intro pins s σ H x y v u Q I rx ry h
  obtain ⟨i, n, rfl, rfl, ok, q⟩ := h
  obtain ⟨t, rfl⟩ := rx
  obtain ⟨t', rfl⟩ := ry
  exact PySem.SB.mul ok (fun t' k => ⟨.str _, H, I.tok _, ⟨_, rfl⟩, q⟩)
theorem rep_arr (c : Nat) : ∀ (n : Nat) (a : Array Nat), (List.replicate n #[c]).foldl (· ++ ·) a = a ++ (List.replicate n c).toArray
  | 0, a => by simp
  | n + 1, a => by
    rw [List.replicate_succ, List.foldl_cons, rep_arr c n, List.replicate_succ, Array.append_assoc]
    congr 1
    apply Array.ext'
    simp
theorem mul_sg {c n : Nat} (h : 1 ≤ n) : Txt.mul ⟨#[c]⟩ (n : Int) = ⟨(List.replicate n c).toArray⟩ := by
  unfold Txt.mul
  rw [if_neg (by omega)]
  by_cases e : n = 1
  · subst e
    rfl
  · rw [if_neg (by show ¬ (((n : Int) == 1) || (1 == 0)) = true; simp; omega), Int.toNat_natCast]
    show Str.mk _ = Str.mk _
    congr 1
    rw [rep_arr]
    simp
end NC
namespace NC
open PySem PySem.Spec PyProof.Rows L2
abbrev sLMix : Stmt := topS 33
abbrev nLMix : List Str := ["_law_d", "_law_some", "_law_left", "_law_one"]
theorem scLMix : FnScope nLMix ["_law_d", "_law_some"] (defScope sLMix) := ⟨rfl, rfl, rfl, by decide +kernel, rfl, by decide +kernel, by decide +kernel⟩
abbrev sLSides : Stmt := topS 35
abbrev nLSides : List Str := ["_law_d", "_law_shuts", "_law_odds", "_law_found", "_law_shut", "_law_how"]
theorem scLSides : FnScope nLSides ["_law_d", "_law_shuts"] (defScope sLSides) := ⟨rfl, rfl, rfl, by decide +kernel, rfl, by decide +kernel, by decide +kernel⟩
abbrev sNumber : Stmt := topS 36
abbrev nNumber : List Str := ["_law_d"]
theorem scNumber : FnScope nNumber ["_law_d"] (defScope sNumber) := ⟨rfl, rfl, rfl, by decide +kernel, rfl, by decide +kernel, by decide +kernel⟩
abbrev sName : Stmt := topS 37
abbrev nName : List Str := ["_law_d", "_law_stem", "_law_spot"]
theorem scName : FnScope nName ["_law_d"] (defScope sName) := ⟨rfl, rfl, rfl, by decide +kernel, rfl, by decide +kernel, by decide +kernel⟩
abbrev sTree : Stmt := topS 38
abbrev nTree : List Str := ["_law_d", "_law_left", "_law_deep", "_law_steps", "_law_k", "_law_how", "_law_text_here"]
theorem scTree : FnScope nTree ["_law_d", "_law_left", "_law_deep"] (defScope sTree) := ⟨rfl, rfl, rfl, by decide +kernel, rfl, by decide +kernel, by decide +kernel⟩
abbrev sText : Stmt := topS 39
abbrev nText : List Str := ["_law_tree_here", "_law_words", "_law_step"]
theorem scText : FnScope nText ["_law_tree_here"] (defScope sText) := ⟨rfl, rfl, rfl, by decide +kernel, rfl, by decide +kernel, by decide +kernel⟩
def lsV (u : List Nat) : List V := (u.map sg).map V.str
theorem lsV_len (u : List Nat) : (lsV u).length = u.length := by unfold lsV; rw [List.length_map, List.length_map]
theorem lsV_get {u : List Nat} {i : Nat} (h : i < u.length) : (lsV u)[i]? = some (.str (sg u[i])) := by
  unfold lsV
  rw [List.getElem?_map, List.getElem?_map, List.getElem?_eq_getElem h]
  rfl
theorem lsV_erase : ∀ (u : List Nat) (i : Nat), (lsV u).eraseIdx i = lsV (u.eraseIdx i)
  | [], i => rfl
  | a :: u, 0 => rfl
  | a :: u, i + 1 => by
    show _ :: (lsV u).eraseIdx i = _ :: lsV (u.eraseIdx i)
    rw [lsV_erase u i]
theorem lsV_app (u v : List Nat) : lsV (u ++ v) = lsV u ++ lsV v := by unfold lsV; rw [List.map_append, List.map_append]
theorem sgs_lsV (z : List Nat) : (sgs (tx z)).map V.str = lsV z := by
  unfold sgs lsV
  rw [tx_list]
theorem ltrs_len : ltrs.length = 26 := by decide +kernel
theorem ltrs_sm {c : Nat} (h : c ∈ ltrs) : c ∈ smN := by
  obtain ⟨i, hi, e⟩ := List.getElem_of_mem h
  have := ltrs_at (List.getElem?_eq_getElem hi)
  rw [smN_iff]
  omega
theorem cut_from (l : List Nat) (j : Nat) : cutS (tx l) (some ((j : Nat) : Int)) none = tx (l.drop j) := by
  unfold cutS
  rw [HT.sIx_none, HT.sIx_nat, tx_list, tx_len]
  rcases Nat.le_total j l.length with h | h
  · rw [Nat.min_eq_left h, List.take_of_length_le (by rw [List.length_drop]; exact Nat.le_refl _)]
    rfl
  · rw [Nat.min_eq_right h, List.drop_of_length_le h, List.drop_of_length_le (Nat.le_refl _), List.take_nil]
    rfl
theorem cutS_to (l : List Nat) (j : Nat) : cutS (tx l) none (some ((j : Nat) : Int)) = tx (l.take j) := by
  unfold cutS
  rw [HT.sIx_none, HT.sIx_nat, tx_list, tx_len, List.drop_zero, Nat.sub_zero]
  rcases Nat.le_total j l.length with h | h
  · rw [Nat.min_eq_left h]
    rfl
  · rw [Nat.min_eq_right h, List.take_of_length_le (Nat.le_refl _), List.take_of_length_le h]
    rfl
theorem mulok1 (c : Nat) : ∀ b : Nat, b < 7 → MulOk (⟨#[c]⟩ : Str) ((b : Nat) : Int) := by
  intro b hb
  unfold MulOk
  rw [show (⟨#[c]⟩ : Str).length = 1 from rfl]
  revert b
  decide +kernel
theorem sg_sum : ∀ u : List Nat, ((u.map sg).map fun x : Str => x.length).sum = u.length
  | [] => rfl
  | a :: u => by
    rw [List.map_cons, List.map_cons, List.sum_cons, sg_sum u, List.length_cons]
    show 1 + u.length = _
    omega
theorem sepB_asc : ∀ {L : List (List Nat)}, (∀ z ∈ L, ∀ c ∈ z, c < 128) → ∀ c ∈ sepB L, c < 128
  | [], h, c, hc => by rw [sepB] at hc; cases hc
  | [a], h, c, hc => h a (List.mem_cons_self ..) c (by rw [sepB] at hc; exact hc)
  | a :: b :: r, h, c, hc => by
    rw [sepB] at hc
    rcases List.mem_append.mp hc with hc | hc
    · exact h a (List.mem_cons_self ..) c hc
    · rcases List.mem_cons.mp hc with hc | hc
      · omega
      · exact sepB_asc (fun z hz => h z (List.mem_cons_of_mem _ hz)) c hc
mutual
theorem wrS_asc : ∀ (x : Stp), wfS x = true → ∀ c ∈ wrS x, c < 128
  | .call t, w, c, hc => by
    rw [wfS, Bool.and_eq_true] at w
    rw [wrS] at hc
    rcases List.mem_cons.mp hc with h | h
    · omega
    · have := (ltN_iff c).mp (all_dec.mp w.2 c h); omega
  | .turn t, w, c, hc => by
    rw [wfS, Bool.and_eq_true] at w
    rw [wrS] at hc
    rcases List.mem_cons.mp hc with h | h
    · omega
    · have := (ltN_iff c).mp (all_dec.mp w.2 c h); omega
  | .row t, w, c, hc => by
    rw [wfS, Bool.and_eq_true] at w
    rw [wrS] at hc
    rcases List.mem_cons.mp hc with h | h
    · omega
    · rcases List.mem_append.mp h with h | h
      · have := (smN_iff c).mp (all_dec.mp w.2 c h); omega
      · have := List.mem_singleton.mp h; omega
  | .times m r, w, c, hc => by
    rw [wfS, Bool.and_eq_true] at w
    rw [wrS] at hc
    rcases List.mem_cons.mp hc with h | h
    · omega
    · rcases List.mem_append.mp h with h | h
      · split at h
        · have := List.mem_singleton.mp h; omega
        · exact sepB_asc (wrL_asc w.2) c h
      · rcases List.mem_cons.mp h with h | h
        · omega
        · rcases List.mem_cons.mp h with h | h
          · omega
          · have := (dgN_iff c).mp (dgs_dig m c h); omega
theorem wrL_asc : ∀ {r : List Stp}, wfR r = true → ∀ z ∈ wrL r, ∀ c ∈ z, c < 128
  | [], w, z, hz => by rw [wrL] at hz; cases hz
  | x :: r, w, z, hz => by
    rw [wfR, Bool.and_eq_true] at w
    rw [wrL] at hz
    rcases List.mem_cons.mp hz with rfl | hz
    · exact wrS_asc x w.1
    · exact wrL_asc w.2 z hz
end
/-- the law's own defs about rows -/
structure RL (K : PySem.W.Frag) (mg : Str → Option Value) (f_of f_draw f_letters f_mixed f_sides f_number f_name f_tree f_text : Addr) (d_of d_draw d_letters d_mixed d_sides d_number d_name d_tree d_text : FuncData) : Prop where
  of : DF K mg "_law_of" sOf ["_law_d", "_law_some"] f_of d_of
  draw : DF K mg "_law_draw" sDraw ["_law_d", "_law_many"] f_draw d_draw
  letters : DF K mg "_law_letters" sLetters [] f_letters d_letters
  mixed : DF K mg "_law_mixed" sLMix ["_law_d", "_law_some"] f_mixed d_mixed
  sides : DF K mg "_law_sides" sLSides ["_law_d", "_law_shuts"] f_sides d_sides
  number : DF K mg "_law_number" sNumber ["_law_d"] f_number d_number
  name : DF K mg "_law_name" sName ["_law_d"] f_name d_name
  tree : DF K mg "_law_tree" sTree ["_law_d", "_law_left", "_law_deep"] f_tree d_tree
  text : DF K mg "_law_text" sText ["_law_tree_here"] f_text d_text
  ms : mg "str" = none
  mi : mg "int" = none
section
variable {P : Program} {w : World} {K : PySem.W.Frag} {mg : Str → Option Value} {base : Heap} {f_of f_draw f_letters f_mixed f_sides f_number f_name f_tree f_text : Addr} {d_of d_draw d_letters d_mixed d_sides d_number d_name d_tree d_text : FuncData}
def spMixS : Sp := fun vs H Q _ => ∃ (d : Addr) (z : List Nat), vs = [.ref d, .str (tx z)] ∧ Dr H d ∧ z.length ≤ 100 ∧ ∀ H' q (u : List Nat), SmD d H H' → Dr H' d → H q = none → H' q = some (.lst (lsV u)) → u.Perm z → Q (.ref q) H'
set_option maxHeartbeats 2000000 in
theorem ok_mixS {k : Nat} (B : BM mg) (L : RL K mg f_of f_draw f_letters f_mixed f_sides f_number f_name f_tree f_text d_of d_draw d_letters d_mixed d_sides d_number d_name d_tree d_text) : FnOk P w K mg base CX0 (k + 2) f_mixed d_mixed ["_law_d", "_law_some"] spMixS := by
  have GD : FnOk P w K mg base CX0 (k + 1) f_draw d_draw ["_law_d", "_law_many"] spDraw := ok_draw B L.draw.F
  refine L.mixed.F.ok scLMix (fun vs H Q E h => ?_) (fun cdv A outer st H vs Q E hr h => ?_)
  · obtain ⟨d, z, rfl, _⟩ := h
    rfl
  · obtain ⟨d, z, rfl, hD, hl, q⟩ := h
    have nd := scLMix.nd
    refine ⟨_, (pss_cons (ps_set (i := 2) nd rfl (.inr rfl) (pe_callTy (cr_listS rfl) (by rfl) B.list (by decide +kernel) (pa_cons (pv 1) pa_nil)))
      (pss_one (ps_ret (pe_lc (own := [("_law_one", 3)]) (g := gName 3) (tt := tYes) (te := tBM K "list" rPopAt (tVar 2) (tCons (tCall spDraw [] E0 (tCons (tVar 0) (tCons (tCB (rLenK K) (tCons (tVar 2) tNil)) tNil))) tNil)) rfl nd (pi_str (pv 1)) (blkOk_by (N := nLMix) (sc := defScope sLMix) (by decide +kernel)) (fun _ _ _ _ _ => pg_name (i := 3) nd rfl (Or.inl rfl)) (fun _ _ _ _ _ => pts_nil) (fun _ _ _ _ _ => pe_bm PySem.F.plainAttrs_list PySem.F.slot_list_pop PySem.F.type_list_pop mt_popAt (pv 2) (pa_cons (pe_call GD hr rfl L.draw.g L.draw.F.kp L.draw.b .nil pass0 (pa_cons (pv 0) (pa_cons (pe_callB call_len_seq (by rfl) B.len PySem.boot_len (pa_cons (pv 2) pa_nil)) pa_nil))) pa_nil)))))), ?_⟩
    refine ⟨_, rfl, tx z, rfl, by rw [tx_len, sizeLine_eq]; omega, fun Lf nL => ?_⟩
    rw [sgs_lsV]
    have nLd := hD.ne nL
    have s1 : Same H (upd H Lf (.lst (lsV z))) := same_upd nL
    refine ⟨_, rfl, _, rfl, fun Da na => ?_⟩
    have nDL : Da ≠ Lf := Ne.symm (ne_of_none upd_same na)
    have na0 : H Da = none := L2.Same.free s1 na
    have wk := walk_str (z := tx z)
    have lz : (tx z).cps.size = z.length := tx_len _
    rw [lz] at wk
    refine lc_it wk (fun i H' => SmD d H H' ∧ Dr H' d ∧ ∃ acc left : List Nat, H' Da = some (.lst (lsV acc)) ∧ H' Lf = some (.lst (lsV left)) ∧ (acc ++ left).Perm z ∧ acc.length = i) ⟨SmD.of (sm_upd s1 na), hD.same (sm_upd s1 na), [], z, upd_same, by rw [upd_ne (Ne.symm nDL), upd_same], List.Perm.refl _, rfl⟩ (fun _ _ _ _ => trivial) ?_ ?_
    · rintro i v G1 G2 hi ⟨u1, D1, acc, left, e1, e2, pm, al⟩ ⟨rfl, hx⟩
      have ll : acc.length + left.length = z.length := by
        have := pm.length_eq
        rw [List.length_append] at this
        exact this
      have e2l : (lsV left).length = left.length := lsV_len left
      refine ⟨rfl, yes_i ⟨_, rfl, .inl ⟨rfl, _, SqL.of e2⟩, _, rfl, _, rfl, Lf, _, rfl, .inl (SqL.of e2), d, _, rfl, D1, by omega, by omega, fun G3 y u3 D3 z0 z1 => ?_⟩⟩
      have e1' := u3.1 _ _ (hD.ne na0) e1
      have e2' := u3.1 _ _ nLd e2
      have hk : seqIndex? y (lsV left).length = some y.toNat := seqIndex_of z0 z1
      have hlt : y.toNat < left.length := by omega
      refine ⟨Lf, lsV left, y, y.toNat, .str (sg left[y.toNat]), rfl, rfl, e2', by omega, by omega, hk, lsV_get hlt, ?_⟩
      rw [lsV_erase]
      obtain ⟨u4, D4⟩ := ds_over (o := .lst (lsV (left.eraseIdx y.toNat))) hD (u1.trans u3) D3 nL
      refine ⟨lsV acc, (by rw [upd_ne nDL]; exact e1'), by rw [lsV_len, sizeLine_eq]; omega, ?_⟩
      rw [show lsV acc ++ [V.str (sg left[y.toNat])] = lsV (acc ++ [left[y.toNat]]) by rw [lsV_app]; rfl]
      obtain ⟨u5, D5⟩ := ds_over (o := .lst (lsV (acc ++ [left[y.toNat]]))) hD u4 D4 na0
      refine ⟨u5, D5, acc ++ [left[y.toNat]], left.eraseIdx y.toNat, upd_same, by rw [upd_ne (Ne.symm nDL), upd_same], perm_pop pm (List.getElem?_eq_getElem hlt), by rw [List.length_append, al]; rfl⟩
    · rintro G1 ⟨u1, D1, acc, left, e1, e2, pm, al⟩
      have : left = [] := by
        have := pm.length_eq
        rw [List.length_append] at this
        exact List.eq_nil_of_length_eq_zero (by omega)
      rw [this, List.append_nil] at pm
      exact q G1 Da acc u1 D1 na0 e1 pm
/-- sides of some letters -/
def spSidesR : Sp := fun vs H Q _ => ∃ (d : Addr) (l : List Nat), vs = [.ref d, .str (tx l)] ∧ Dr H d ∧ l.length ≤ 12 ∧ (∀ c ∈ l, c ∈ smN) ∧ ∀ H' S, SmD d H H' → Dr H' d → S.length ≤ 12 → (∀ c ∈ S, c ∈ ltN) → Q (.str (tx S)) H'
set_option maxHeartbeats 1000000 in
theorem ok_sidesR {k : Nat} (B : BM mg) (L : RL K mg f_of f_draw f_letters f_mixed f_sides f_number f_name f_tree f_text d_of d_draw d_letters d_mixed d_sides d_number d_name d_tree d_text) : FnOk P w K mg base CX0 (k + 3) f_sides d_sides ["_law_d", "_law_shuts"] spSidesR := by
  have GD : FnOk P w K mg base CX0 (k + 1) f_draw d_draw ["_law_d", "_law_many"] spDraw := ok_draw B L.draw.F
  have GO : FnOk P w K mg base CX0 (k + 2) f_of d_of ["_law_d", "_law_some"] (spOf K) := ok_of B L.of.F L.draw
  refine L.sides.F.ok scLSides (fun vs H Q E h => ?_) (fun cdv A outer st H vs Q E hr h => ?_)
  · obtain ⟨d, l, rfl, _⟩ := h
    rfl
  · obtain ⟨d, l, rfl, hD, hl12, hsm, q⟩ := h
    have nd := scLSides.nd
    have r1 : Room (k + 1) _ := hr.mono (by omega)
    refine ⟨_, (pss_cons (ps_set (i := 2) nd rfl (.inl rfl) (pe_call GO hr rfl L.of.g L.of.F.kp L.of.b .nil pass0 (pa_cons (pv 0) (pa_cons (pe_lst (pa_cons pe_int (pa_cons pe_int (pa_cons pe_int (pa_cons pe_int pa_nil))))) pa_nil))))
      (pss_cons (ps_set (i := 3) nd rfl (.inl rfl) pe_str)
      (pss_cons (ps_for PassesOwn.never rfl (pi_str (pv 1)) (pg_name (i := 4) nd rfl (.inl rfl))
        (pss_cons (ps_set (i := 5) nd rfl (.inl rfl) (pe_call GD r1 rfl L.draw.g L.draw.F.kp L.draw.b .nil pass0 (pa_cons (pv 0) (pa_cons (pe_op op_mul pe_int (pv 2)) pa_nil))))
      (pss_one (ps_if (pt_cmpR op_lt (pv 5) pe_int (nomark _))
        (pss_one (ps_set (i := 3) nd rfl (.inl rfl) (pe_op op_add_str (pv 3) (pe_ix ix_list (pe_lst (pa_cons (pv 4) (pa_cons (pe_upper (pv 4)) pa_nil))) (pv 5) (fun _ _ => rfl)))))
        pss_nil))))
      (pss_one (ps_ret (pv 3)))))), ?_⟩
    refine ⟨_, rfl, by show 4 ≤ sizeLine; decide, fun p0 np0 => ?_⟩
    refine ⟨d, _, rfl, hD.same (same_upd np0), .inl ⟨p0, _, rfl, hD.ne np0, SqL.of upd_same, by show 1 ≤ 4; decide, by show 4 ≤ 1000; decide, fun H1 v j s1 D1 hv => ?_⟩⟩
    obtain ⟨od, rfl, od1, od2⟩ : ∃ od : Int, v = .int od ∧ 2 ≤ od ∧ od ≤ 6 := by
      match j, hv with
      | 0, hv => cases hv; exact ⟨_, rfl, by decide, by decide⟩
      | 1, hv => cases hv; exact ⟨_, rfl, by decide, by decide⟩
      | 2, hv => cases hv; exact ⟨_, rfl, by decide, by decide⟩
      | 3, hv => cases hv; exact ⟨_, rfl, by decide, by decide⟩
    have s01 : SmD d H H1 := (SmD.of (same_upd np0)).trans s1
    refine ⟨_, rfl, tx l, rfl, ?_⟩
    have lz : (tx l).cps.size = l.length := tx_len _
    have wk := walk_str (z := tx l)
    rw [lz] at wk
    refine for_it wk (fun i σ H' => ∃ (S : List Nat) (y4 y5 : Option V), σ = [some (.ref d), some (.str (tx l)), some (.int od), some (.str (tx S)), y4, y5] ∧ SmD d H H' ∧ Dr H' d ∧ S.length ≤ i ∧ ∀ c ∈ S, c ∈ ltN)
      ⟨[], _, _, by rfl, s01, D1, by simp, by simp⟩ (fun _ _ _ _ _ => trivial) ?_ ?_
    · rintro i v σ H2 H3 hi ⟨S, y4, y5, rfl, s2, D2, sub, hsd⟩ ⟨rfl, c, hc, rfl⟩
      have hc : l[i]? = some c := by
        rw [← Array.getElem?_toList, tx_list] at hc
        exact hc
      have cm := List.mem_of_getElem? hc
      have cs := (smN_iff c).mp (hsm c cm)
      refine ⟨_, rfl, _, rfl, _, _, rfl, rfl, .inl ⟨by omega, by omega⟩, d, _, rfl, D2, by omega, by omega, fun H4 how s4 D4 h0 h1 => ?_⟩
      have s24 := s2.trans s4
      refine ⟨_, rfl, _, _, rfl, rfl, _, rfl, ite2 (fun t => ?_) (fun t => ⟨S, _, _, rfl, s24, D4, by omega, hsd⟩)⟩
      have hw : how < 2 := of_decide_eq_true t
      have uc : Txt.upper (⟨#[c]⟩ : Str) = sg (upc c) := upper_tx (l := [c]) (fun e he => by rw [List.mem_singleton.mp he]; omega)
      refine ⟨_, rfl, _, rfl, _, rfl, ⟨_, rfl⟩, _, rfl, rfl, by show 1 ≤ 5592405; decide, ?_⟩
      rw [uc]
      refine ⟨by show 2 ≤ sizeLine; decide, fun T nT => ?_⟩
      obtain ⟨e, he, hat⟩ : ∃ e, (e = c ∨ e = upc c) ∧ atI [V.str ⟨#[c]⟩, V.str (sg (upc c))] how = some (.str (sg e)) := by
        have hv : how = 0 ∨ how = 1 := by omega
        rcases hv with z | z
        · exact ⟨c, .inl rfl, by rw [z]; rfl⟩
        · exact ⟨upc c, .inr rfl, by rw [z]; rfl⟩
      refine ⟨_, rfl, T, _, how, .str (sg e), rfl, rfl, SqL.of upd_same, hat, _, _, rfl, rfl, by rw [tx_len, sizeLine_eq]; show _ + 1 ≤ _; omega, S ++ [e], _, _, by rw [sg_tx, tx_app]; rfl, s24.trans (SmD.of (same_upd nT)), D4.same (same_upd nT), by rw [List.length_append]; show _ + 1 ≤ _; omega, fun b hb => ?_⟩
      rcases List.mem_append.mp hb with z | z
      · exact hsd b z
      · rw [List.mem_singleton.mp z]
        rw [ltN_iff]
        rcases he with y | y
        · rw [y]; exact .inl cs
        · rw [y, upc_small cs]; exact .inr (by omega)
    · rintro σ H2 ⟨S, y4, y5, rfl, s2, D2, sub, hsd⟩
      exact ⟨_, rfl, q H2 S s2 D2 (by omega) hsd⟩
def spNumR : Sp := fun vs H Q _ => ∃ d, vs = [.ref d] ∧ Dr H d ∧ ∀ H' (n : Nat), SmD d H H' → Dr H' d → n ≤ 10 ^ 30 → Q (.int (n : Nat)) H'
theorem ok_numR {k : Nat} (B : BM mg) (L : RL K mg f_of f_draw f_letters f_mixed f_sides f_number f_name f_tree f_text d_of d_draw d_letters d_mixed d_sides d_number d_name d_tree d_text) : FnOk P w K mg base CX0 (k + 3) f_number d_number ["_law_d"] spNumR := by
  have GD : FnOk P w K mg base CX0 (k + 1) f_draw d_draw ["_law_d", "_law_many"] spDraw := ok_draw B L.draw.F
  have GO : FnOk P w K mg base CX0 (k + 2) f_of d_of ["_law_d", "_law_some"] (spOf K) := ok_of B L.of.F L.draw
  refine L.number.F.ok scNumber (fun vs H Q E h => ?_) (fun cdv A outer st H vs Q E hr h => ?_)
  · obtain ⟨d, rfl, _⟩ := h
    rfl
  · obtain ⟨d, rfl, hD, q⟩ := h
    have r1 : Room (k + 1) _ := hr.mono (by omega)
    refine ⟨_, (pss_one (ps_ret (pe_call GO hr rfl L.of.g L.of.F.kp L.of.b .nil pass0 (pa_cons (pv 0) (pa_cons (pe_lst (pa_cons pe_int (pa_cons pe_int (pa_cons pe_int (pa_cons pe_int (pa_cons (pe_call GD r1 rfl L.draw.g L.draw.F.kp L.draw.b .nil pass0 (pa_cons (pv 0) (pa_cons pe_int pa_nil))) (pa_cons (pe_op op_add (pe_op op_pow pe_int pe_int) (pe_call GD r1 rfl L.draw.g L.draw.F.kp L.draw.b .nil pass0 (pa_cons (pv 0) (pa_cons (pe_op op_pow pe_int pe_int) pa_nil)))) (pa_cons (pe_op op_sub (pe_op op_pow pe_int pe_int) (pe_call GD r1 rfl L.draw.g L.draw.F.kp L.draw.b .nil pass0 (pa_cons (pv 0) (pa_cons pe_int pa_nil)))) pa_nil)))))))) pa_nil))))), ?_⟩
    refine ⟨_, rfl, _, rfl, d, 40, rfl, hD, by decide, by decide, fun H1 a s1 D1 a0 a1 => ?_⟩
    refine ⟨_, _, rfl, rfl, ⟨by decide, by decide, by decide⟩, _, rfl, _, _, rfl, rfl, ⟨by decide, by decide, by decide⟩, d, _, rfl, D1, by decide, by decide, fun H2 b s2 D2 b0 b1 => ⟨_, _, rfl, rfl, ?_⟩⟩
    refine ⟨_, _, rfl, rfl, ⟨by decide, by decide, by decide⟩, _, rfl, d, 1000, rfl, D2, by decide, by decide, fun H3 c s3 D3 c0 c1 => ⟨_, _, rfl, rfl, ?_⟩⟩
    refine ⟨by show 7 ≤ sizeLine; decide, fun p np => ?_⟩
    have s4 : Same H3 (upd H3 p (.lst [.int 0, .int 1, .int 2, .int 3, .int a, .int (10 ^ (9 : Int).toNat + b), .int (10 ^ (30 : Int).toNat - c)])) := same_upd np
    refine ⟨d, _, rfl, D3.same s4, .inl ⟨p, _, rfl, D3.ne np, SqL.of upd_same, by show 1 ≤ 7; decide, by show 7 ≤ 1000; decide, fun H5 v j s5 D5 hv => ?_⟩⟩
    have h9 : (10 : Int) ^ (9 : Int).toNat = 1000000000 := by decide
    have b1 : b < 1000000 := b1
    have h30 : (10 : Int) ^ (30 : Int).toNat = ((10 ^ 30 : Nat) : Int) := by decide
    have sA : SmD d H H5 := ((s1.trans s2).trans s3).trans ((SmD.of s4).trans s5)
    have fin : ∀ n : Int, 0 ≤ n → n ≤ ((10 ^ 30 : Nat) : Int) → Q (.int n) H5 := fun n h0 h1 => by
      have e : n = ((n.toNat : Nat) : Int) := by omega
      rw [e]
      exact q H5 n.toNat sA D5 (by omega)
    match j, hv with
    | 0, hv => cases hv; exact fin _ (by decide) (by decide)
    | 1, hv => cases hv; exact fin _ (by decide) (by decide)
    | 2, hv => cases hv; exact fin _ (by decide) (by decide)
    | 3, hv => cases hv; exact fin _ (by decide) (by decide)
    | 4, hv => cases hv; exact fin _ a0 (by omega)
    | 5, hv => cases hv; rw [h9]; exact fin _ (by omega) (by omega)
    | 6, hv => cases hv; rw [h30]; exact fin _ (by omega) (by omega)
def spNameR : Sp := fun vs H Q _ => ∃ d, vs = [.ref d] ∧ Dr H d ∧ ∀ H' (n : List Nat), SmD d H H' → Dr H' d → 1 ≤ n.length → n.length ≤ 8 → (∀ c ∈ n, c ∈ smN) → Q (.str (tx n)) H'
theorem ok_nameR {k : Nat} (B : BM mg) (L : RL K mg f_of f_draw f_letters f_mixed f_sides f_number f_name f_tree f_text d_of d_draw d_letters d_mixed d_sides d_number d_name d_tree d_text) : FnOk P w K mg base CX0 (k + 2) f_name d_name ["_law_d"] spNameR := by
  have GD : FnOk P w K mg base CX0 (k + 1) f_draw d_draw ["_law_d", "_law_many"] spDraw := ok_draw B L.draw.F
  have GLe : FnOk P w K mg base CX0 (k + 1) f_letters d_letters [] (fun vs H Q _ => vs = [] ∧ Q (.str (tx ltrs)) H) := ok_letters L.letters.F
  refine L.name.F.ok scName (fun vs H Q E h => ?_) (fun cdv A outer st H vs Q E hr h => ?_)
  · obtain ⟨d, rfl, _⟩ := h
    rfl
  · obtain ⟨d, rfl, hD, q⟩ := h
    have nd := scName.nd
    have r1 : Room (k + 1) _ := hr
    have lt := ltrs_len
    refine ⟨_, (pss_cons (ps_set (i := 1) nd rfl (.inl rfl) (pe_op op_mul_str (pe_ix ix_str (pe_call0 GLe r1 rfl L.letters.g L.letters.F.kp L.letters.b .nil pass0) (pe_call GD r1 rfl L.draw.g L.draw.F.kp L.draw.b .nil pass0 (pa_cons (pv 0) (pa_cons pe_int pa_nil))) (fun _ _ => rfl)) (pe_call GD r1 rfl L.draw.g L.draw.F.kp L.draw.b .nil pass0 (pa_cons (pv 0) (pa_cons pe_int pa_nil)))))
      (pss_cons (ps_set (i := 2) nd rfl (.inl rfl) (pe_call GD r1 rfl L.draw.g L.draw.F.kp L.draw.b .nil pass0 (pa_cons (pv 0) (pa_cons (pe_op op_add (pe_callB call_len_str (by rfl) B.len PySem.boot_len (pa_cons (pv 1) pa_nil)) pe_int) pa_nil))))
      (pss_one (ps_ret (pe_op op_add_str (pe_op op_add_str (pe_slice sl_str (pv 1) po_none (po_some (pv 2))) (pe_ix ix_str (pe_call0 GLe r1 rfl L.letters.g L.letters.F.kp L.letters.b .nil pass0) (pe_call GD r1 rfl L.draw.g L.draw.F.kp L.draw.b .nil pass0 (pa_cons (pv 0) (pa_cons pe_int pa_nil))) (fun _ _ => rfl))) (pe_slice sl_str (pv 1) (po_some (pv 2)) po_none)))))), ?_⟩
    refine ⟨rfl, _, rfl, d, 26, rfl, hD, by decide, by decide, fun H1 a s1 D1 a0 a1 => ?_⟩
    obtain ⟨a, rfl⟩ := Int.eq_ofNat_of_zero_le a0
    have al : a < ltrs.length := by omega
    have m1 : ltrs[a] ∈ smN := ltrs_sm (List.getElem_mem al)
    refine ⟨tx ltrs, _, ltrs[a], rfl, rfl, by rw [tx_len, lt, sizeLine_eq]; decide, by rw [tx_list]; exact atI_nat (List.getElem?_eq_getElem al), ?_⟩
    refine ⟨_, rfl, d, 7, rfl, D1, by decide, by decide, fun H2 b s2 D2 b0 b1 => ?_⟩
    obtain ⟨b, rfl⟩ := Int.eq_ofNat_of_zero_le b0
    have em : Txt.mul (⟨#[ltrs[a]]⟩ : Str) ((b : Nat) : Int) = tx (List.replicate b ltrs[a]) := by
      cases b with
      | zero => rfl
      | succ b => exact mul_sg (by omega)
    refine ⟨_, _, rfl, rfl, ?_, ?_⟩
    · exact mulok1 _ b (by omega)
    rw [em]
    generalize hst : List.replicate b ltrs[a] = st0
    have sl : st0.length = b := by rw [← hst, List.length_replicate]
    have sm : ∀ c ∈ st0, c ∈ smN := fun c hc => by
      rw [← hst] at hc
      rw [(List.mem_replicate.mp hc).2]
      exact m1
    refine ⟨_, rfl, _, rfl, tx st0, rfl, by rw [tx_len, sizeLine_eq]; omega, _, _, rfl, rfl, d, _, rfl, D2, by rw [tx_len]; omega, by rw [tx_len]; omega, fun H3 c s3 D3 c0 c1 => ?_⟩
    rw [tx_len] at c1
    obtain ⟨c, rfl⟩ := Int.eq_ofNat_of_zero_le c0
    refine ⟨_, rfl, _, rfl, _, rfl, tx st0, rfl, by rw [tx_len, sizeLine_eq]; omega, ?_⟩
    rw [cutS_to]
    refine ⟨rfl, _, rfl, d, 26, rfl, D3, by decide, by decide, fun H4 e s4 D4 e0 e1 => ?_⟩
    obtain ⟨e, rfl⟩ := Int.eq_ofNat_of_zero_le e0
    have el : e < ltrs.length := by omega
    have m2 : ltrs[e] ∈ smN := ltrs_sm (List.getElem_mem el)
    refine ⟨tx ltrs, _, ltrs[e], rfl, rfl, by rw [tx_len, lt, sizeLine_eq]; decide, by rw [tx_list]; exact atI_nat (List.getElem?_eq_getElem el), ?_⟩
    refine ⟨_, _, rfl, rfl, ?_, ?_⟩
    · rw [tx_len, List.length_take, sizeLine_eq]; show _ + 1 ≤ _; omega
    refine ⟨_, rfl, _, rfl, _, rfl, tx st0, rfl, by rw [tx_len, sizeLine_eq]; omega, ?_⟩
    rw [cut_from]
    refine ⟨_, _, rfl, rfl, ?_, ?_⟩
    · rw [show (⟨#[ltrs[e]]⟩ : Str) = tx [ltrs[e]] from rfl, tx_app, tx_len, tx_len, List.length_append, List.length_take, List.length_drop, sizeLine_eq]; show _ + 1 + _ ≤ _; omega
    rw [show (⟨#[ltrs[e]]⟩ : Str) = tx [ltrs[e]] from rfl, tx_app, tx_app]
    refine q H4 _ (((s1.trans s2).trans s3).trans s4) D4 ?_ ?_ (fun x hx => ?_)
    · simp; omega
    · simp; omega
    · rcases List.mem_append.mp hx with h | h
      · rcases List.mem_append.mp h with h | h
        · exact sm x (List.mem_of_mem_take h)
        · rw [List.mem_singleton.mp h]; exact m2
      · exact sm x (List.mem_of_mem_drop h)
def per : Nat → Nat → Nat
  | 0, _ => 1
  | n + 1, l => 1 + max 3 (l / 8) * per n (l / 8)
theorem per_pos : ∀ n l, 1 ≤ per n l
  | 0, _ => Nat.le_refl _
  | n + 1, l => by rw [per]; omega
def bnd (n l : Nat) : Nat := max 3 l * per n l
def spTree (K : PySem.W.Frag) (n : Nat) : Sp := fun vs H Q _ => ∃ (d : Addr) (l : Nat), vs = [.ref d, .int (l : Nat), .int (n : Nat)] ∧ Dr H d ∧ l ≤ 20 ∧ ∀ H' v r, SmD d H H' → Dr H' d → Dp K H' v (encR r) → wfR r = true → dpR r ≤ n → szR r ≤ bnd n l → Q v H'
set_option maxHeartbeats 2000000 in
theorem ok_tree_of {k n : Nat} {spT : Sp} (hk : 3 ≤ k) (B : BM mg) (L : RL K mg f_of f_draw f_letters f_mixed f_sides f_number f_name f_tree f_text d_of d_draw d_letters d_mixed d_sides d_number d_name d_tree d_text) (GT : FnOk P w K mg base CX0 k f_tree d_tree ["_law_d", "_law_left", "_law_deep"] spT) (hT : ∀ m, n = m + 1 → spT = spTree K m) : FnOk P w K mg base CX0 (k + 1) f_tree d_tree ["_law_d", "_law_left", "_law_deep"] (spTree K n) := by
  have GD : FnOk P w K mg base CX0 (0 + 1) f_draw d_draw ["_law_d", "_law_many"] spDraw := ok_draw B L.draw.F
  have GO : FnOk P w K mg base CX0 (0 + 2) f_of d_of ["_law_d", "_law_some"] (spOf K) := ok_of B L.of.F L.draw
  have GLe : FnOk P w K mg base CX0 (0 + 1) f_letters d_letters [] (fun vs H Q _ => vs = [] ∧ Q (.str (tx ltrs)) H) := ok_letters L.letters.F
  have GM : FnOk P w K mg base CX0 (0 + 2) f_mixed d_mixed ["_law_d", "_law_some"] spMixS := ok_mixS B L
  have GS : FnOk P w K mg base CX0 (0 + 3) f_sides d_sides ["_law_d", "_law_shuts"] spSidesR := ok_sidesR B L
  have GNu : FnOk P w K mg base CX0 (0 + 3) f_number d_number ["_law_d"] spNumR := ok_numR B L
  have GNa : FnOk P w K mg base CX0 (0 + 2) f_name d_name ["_law_d"] spNameR := ok_nameR B L
  refine L.tree.F.ok scTree (fun vs H Q E h => ?_) (fun cdv A outer st H vs Q E hr h => ?_)
  · obtain ⟨d, l, rfl, _⟩ := h
    rfl
  · obtain ⟨d, l, rfl, hD, hl, q⟩ := h
    have nd := scTree.nd
    have r1 : Room (0 + 1) _ := hr.mono (by omega)
    have r2 : Room (0 + 2) _ := hr.mono (by omega)
    have r3 : Room (0 + 3) _ := hr.mono (by omega)
    refine ⟨_, (pss_cons (ps_set (i := 3) nd rfl (.inl rfl) (pe_lst pa_nil))
      (pss_cons (ps_for PassesOwn.never rfl (pi_range1 (by rfl) B.range (pa_cons (pe_call GO r2 rfl L.of.g L.of.F.kp L.of.b .nil pass0 (pa_cons (pv 0) (pa_cons (pe_lst (pa_cons pe_int (pa_cons pe_int (pa_cons pe_int (pa_cons pe_int (pa_cons (pv 1) pa_nil)))))) pa_nil))) pa_nil)) (pg_name (i := 4) nd rfl (.inl rfl))
        (pss_cons (ps_set (i := 5) nd rfl (.inl rfl) (pe_call GD r1 rfl L.draw.g L.draw.F.kp L.draw.b .nil pass0 (pa_cons (pv 0) (pa_cons pe_int pa_nil))))
      (pss_one (ps_if (PW.pt (pw_and (pt_cmpR op_eq (pv 5) pe_int (nomark _)) (pw_and1 (pt_cmpR op_gt (pv 2) pe_int (nomark _)))))
        (pss_one (ps_expr (pe_bm PySem.F.plainAttrs_list PySem.F.slot_list_append PySem.F.type_list_append mt_append (pv 3) (pa_cons (pe_tup (pa_cons pe_str (pa_cons (pe_call GNu r3 rfl L.number.g L.number.F.kp L.number.b .nil pass0 (pa_cons (pv 0) pa_nil)) (pa_cons (pe_call GT hr rfl L.tree.g L.tree.F.kp L.tree.b .nil pass0 (pa_cons (pv 0) (pa_cons (pe_op op_fdiv (pv 1) pe_int) (pa_cons (pe_op op_sub (pv 2) pe_int) pa_nil)))) pa_nil)))) pa_nil))))
        (pss_one (ps_if (pt_cmpR op_eq (pv 5) pe_int (nomark _))
        (pss_one (ps_expr (pe_bm PySem.F.plainAttrs_list PySem.F.slot_list_append PySem.F.type_list_append mt_append (pv 3) (pa_cons (pe_tup (pa_cons pe_str (pa_cons (pe_call GNa r2 rfl L.name.g L.name.F.kp L.name.b .nil pass0 (pa_cons (pv 0) pa_nil)) pa_nil))) pa_nil))))
        (pss_cons (ps_set (i := 6) nd rfl (.inl rfl) (pe_call GM r2 rfl L.mixed.g L.mixed.F.kp L.mixed.b .nil pass0 (pa_cons (pv 0) (pa_cons (pe_call GS r3 rfl L.sides.g L.sides.F.kp L.sides.b .nil pass0 (pa_cons (pv 0) (pa_cons (pe_slice sl_str (pe_call0 GLe r1 rfl L.letters.g L.letters.F.kp L.letters.b .nil pass0) po_none (po_some (pe_call GD r1 rfl L.draw.g L.draw.F.kp L.draw.b .nil pass0 (pa_cons (pv 0) (pa_cons pe_int pa_nil))))) pa_nil))) pa_nil))))
      (pss_cons (ps_set (i := 6) nd rfl (.inl rfl) (pe_join pe_str (pv 6)))
      (pss_one (ps_expr (pe_bm PySem.F.plainAttrs_list PySem.F.slot_list_append PySem.F.type_list_append mt_append (pv 3) (pa_cons (pe_ifExp (PW.pt (pw_or (pt_cmpR op_lt (pv 5) pe_int (nomark _)) (pw_or1 (pt_cmpR op_eq (pv 6) pe_str (nomark _))))) (pe_tup (pa_cons pe_str (pa_cons (pv 6) pa_nil))) (pe_tup (pa_cons pe_str (pa_cons (pv 6) pa_nil)))) pa_nil))))))))))))
      (pss_one (ps_ret (pe_tup (pa_cons pe_str (pa_cons (pe_tupleOf (by rfl) B.tuple (pv 3)) pa_nil))))))), ?_⟩
    refine ⟨Nat.zero_le _, fun p np => ?_⟩
    have npd := hD.ne np
    refine ⟨_, rfl, _, rfl, by show 5 ≤ sizeLine; decide, fun p0 np0 => ?_⟩
    have s0 : Same H (upd (upd H p (.lst [])) p0 (.lst [.int 0, .int 1, .int 2, .int 3, .int (l : Nat)])) := sm_trans (same_upd np) (same_upd np0)
    have np0' : p ≠ p0 := ne_of_none upd_same np0
    refine ⟨d, _, rfl, hD.same s0, .inl ⟨p0, _, rfl, (hD.same (same_upd np)).ne np0, SqL.of upd_same, by show 1 ≤ 5; decide, by show 5 ≤ 1000; decide, fun H1 v j s1 D1 hv => ?_⟩⟩
    obtain ⟨m, rfl, hm⟩ : ∃ m : Nat, v = .int (m : Nat) ∧ m ≤ max 3 l := by
      match j, hv with
      | 0, hv => cases hv; exact ⟨0, rfl, by omega⟩
      | 1, hv => cases hv; exact ⟨1, rfl, by omega⟩
      | 2, hv => cases hv; exact ⟨2, rfl, by omega⟩
      | 3, hv => cases hv; exact ⟨3, rfl, by omega⟩
      | 4, hv => cases hv; exact ⟨l, rfl, by omega⟩
    have sA : SmD d H H1 := (SmD.of s0).trans s1
    have eL : H1 p = some (.lst []) := s1.1 _ _ npd (by rw [upd_ne np0', upd_same])
    refine ⟨_, rfl, by omega, by omega, ?_⟩
    rw [show ((m : Nat) : Int).toNat = m from Int.toNat_natCast _]
    refine for_it walk_range (fun i σ H' => ∃ (acc : List Stp) (vs : List V) (y4 y5 y6 : Option V), σ = [some (.ref d), some (.int (l : Nat)), some (.int (n : Nat)), some (.ref p), y4, y5, y6] ∧ SmD d H H' ∧ Dr H' d ∧ H' p = some (.lst vs) ∧ DpAll K H' vs (encL acc) ∧ wfR acc = true ∧ dpR acc ≤ n ∧ vs.length = i ∧ szR acc ≤ i * per n l)
      ⟨[], [], _, _, _, rfl, sA, D1, eL, by rw [encL]; exact .nil, by rw [wfR], by rw [dpR]; omega, rfl, by rw [szR]; omega⟩ (fun _ _ _ _ _ => trivial) ?_ ?_
    · rintro i v σ H2 H3 hi ⟨acc, vs, y4, y5, y6, rfl, s2, D2, e2, h2, w2, dp2, l2, sz2⟩ ⟨rfl, rfl⟩
      have pd : p ≠ d := npd
      have mD := fun {H : Hp} (D : Dr H d) => D.o
      refine ⟨_, rfl, d, 6, rfl, D2, by decide, by decide, fun H4 how s4 D4 h0 h1 => ?_⟩
      have e4 := s4.1 _ _ pd e2
      obtain ⟨o2, ho2⟩ := D2.o
      have h4 := dpa_smx s4.1 ho2 (.inl ⟨_, rfl⟩) (noL_encL acc) h2
      -- one step more
      have fin : ∀ (H5 : Hp) (x : Stp) (v : V) (y6' : Option V), SmD d H4 H5 → Dr H5 d → Dp K H5 v (encS x) → wfS x = true → dpS x ≤ n → szS x ≤ per n l → (H5 p = some (.lst vs) ∧ vs.length < sizeLine) ∧
          ∃ (acc : List Stp) (vs' : List V) (y4 y5 y6 : Option V), ([some (.ref d), some (.int (l : Nat)), some (.int (n : Nat)), some (.ref p), some (.int ((0 : Int) + (i : Nat))), some (.int how), y6'] : L2.St) = [some (.ref d), some (.int (l : Nat)), some (.int (n : Nat)), some (.ref p), y4, y5, y6] ∧ SmD d H (upd H5 p (.lst (vs ++ [v]))) ∧ Dr (upd H5 p (.lst (vs ++ [v]))) d ∧ (upd H5 p (.lst (vs ++ [v]))) p = some (.lst vs') ∧ DpAll K (upd H5 p (.lst (vs ++ [v]))) vs' (encL acc) ∧ wfR acc = true ∧ dpR acc ≤ n ∧ vs'.length = i + 1 ∧ szR acc ≤ (i + 1) * per n l := fun H5 x v y6' s5 D5 hv wx dx sx => by
        have e5 := s5.1 _ _ pd e4
        obtain ⟨o4, ho4⟩ := D4.o
        have h5 := dpa_smx s5.1 ho4 (.inl ⟨_, rfl⟩) (noL_encL acc) h4
        obtain ⟨u, D6⟩ := ds_over (o := .lst (vs ++ [v])) hD ((s2.trans s4).trans s5) D5 np
        refine ⟨⟨e5, by rw [sizeLine_eq]; omega⟩, acc ++ [x], vs ++ [v], _, _, _, rfl, u, D6, upd_same, ?_, ?_, ?_, ?_, ?_⟩
        · rw [encL_snoc]
          have nl : noLA (encL acc ++ [encS x]) = true := by
            rw [← encL_snoc]
            exact noL_encL _
          exact dpa_smx SmX.upd e5 (.inl ⟨_, rfl⟩) nl (dpa_snoc h5 hv)
        · exact wfR_of fun y hy => by
            rcases List.mem_append.mp hy with hy | hy
            · exact wfR_mem w2 y hy
            · rw [List.mem_singleton.mp hy]; exact wx
        · exact dpR_le fun y hy => by
            rcases List.mem_append.mp hy with hy | hy
            · exact Nat.le_trans (dpR_mem hy) dp2
            · rw [List.mem_singleton.mp hy]; exact dx
        · rw [List.length_append, l2]; rfl
        · rw [szR_app, szR, szR, Nat.add_mul]
          omega
      refine ⟨_, rfl, rfl, _, rfl, ?_⟩
      by_cases c01 : how = 0 ∧ 0 < n
      · obtain ⟨c0, n0⟩ := c01
        rw [show decide (V.int how = V.int 0) = true from decide_eq_true (by rw [c0])]
        refine iteT ⟨_, rfl, _, _, rfl, rfl, _, rfl, ?_⟩
        rw [decide_eq_true (by omega)]
        obtain ⟨n', rfl⟩ : ∃ n', n = n' + 1 := ⟨n - 1, by omega⟩
        have eT := hT n' rfl
        subst eT
        refine iteT ⟨_, rfl, .inl ⟨rfl, _, SqL.of e4⟩, _, rfl, d, rfl, D4, fun H5 m5 s5 D5 hm5 => ?_⟩
        refine ⟨_, rfl, _, rfl, _, _, rfl, rfl, ⟨by decide, by decide⟩, _, rfl, _, _, rfl, rfl, d, l / 8, ?_, D5, by omega, fun H6 v6 r6 s6 D6 hv6 w6 dp6 sz6 => ?_⟩
        · show [V.ref d, V.int (((l : Nat) : Int) / 8), V.int (((n' + 1 : Nat) : Int) - 1)] = _
          rw [show ((l : Nat) : Int) / 8 = ((l / 8 : Nat) : Int) by omega, show ((n' + 1 : Nat) : Int) - 1 = ((n' : Nat) : Int) by omega]
        refine ⟨by show 3 ≤ sizeLine; decide, fun p5 np5 => ?_⟩
        have s7 : SmD d H4 _ := (s5.trans s6).trans (SmD.of (same_upd np5 (o := .tup [.str "times", .int (m5 : Nat), v6])))
        have hv7 : Dp K (upd H6 p5 (.tup [.str "times", .int (m5 : Nat), v6])) (.ref p5) (encS (.times m5 r6)) := by
          rw [encS]
          exact .tup (SqT.of upd_same) (.cons (.str _) (.cons (.int _) (.cons (dp_same (same_upd np5) hv6) .nil)))
        obtain ⟨⟨e8, l8⟩, rest⟩ := fin _ (.times m5 r6) (.ref p5) y6 s7 (D6.same (same_upd np5)) hv7 (by rw [wfS, decide_eq_true hm5, w6]; rfl) (by rw [dpS]; omega) (by rw [szS]; unfold bnd at sz6; rw [per]; omega)
        exact ⟨p, vs, _, rfl, rfl, e8, l8, rest⟩
      refine ite2 (fun t => ⟨_, rfl, _, _, rfl, rfl, _, rfl, ?_⟩) (fun t => ?_)
      have c0 : how = 0 := by have := of_decide_eq_true t; injection this
      rw [decide_eq_false (by omega)]
      refine iteF ?_
      have c1 : ¬ n = n + 1 := by omega
      rotate_left
      have c0 : ¬ how = 0 := fun z => t (decide_eq_true (by rw [z]))
      refine iteF ?_
      have c1 : ¬ n = n + 1 := by omega
      all_goals clear t c0 c1
      all_goals refine ⟨_, rfl, rfl, _, rfl, ?_⟩
      all_goals by_cases c1 : how = 1
      all_goals first
        | rw [show decide (V.int how = V.int 1) = true from decide_eq_true (by rw [c1])]
          refine iteT ⟨_, rfl, .inl ⟨rfl, _, SqL.of e4⟩, _, rfl, d, rfl, D4, fun H5 nm s5 D5 hn1 hn8 hns => ⟨by show 2 ≤ sizeLine; decide, fun p5 np5 => ?_⟩⟩
          have hv7 : Dp K (upd H5 p5 (.tup [.str "row", .str (tx nm)])) (.ref p5) (encS (.row nm)) := by
            rw [encS]
            exact .tup (SqT.of upd_same) (.cons (.str _) (.cons (.str _) .nil))
          obtain ⟨⟨e8, l8⟩, rest⟩ := fin _ (.row nm) (.ref p5) y6 (s5.trans (SmD.of (same_upd np5))) (D5.same (same_upd np5)) hv7 (by rw [wfS, decide_eq_true hn1, decide_eq_true hn8]; exact all_dec.mpr hns) (by rw [dpS]; omega; simp) (by rw [szS]; exact per_pos n l; simp)
          exact ⟨p, vs, _, rfl, rfl, e8, l8, rest⟩
        | rw [show decide (V.int how = V.int 1) = false from decide_eq_false fun h => by injection h with h; exact c1 h]
          refine iteF ⟨_, rfl, _, rfl, rfl, _, rfl, d, 13, rfl, D4, by decide, by decide, fun H5 z s5 D5 z0 z1 => ?_⟩
          obtain ⟨z, rfl⟩ := Int.eq_ofNat_of_zero_le z0
          refine ⟨_, rfl, tx ltrs, rfl, by rw [tx_len, ltrs_len, sizeLine_eq]; decide, ?_⟩
          rw [cutS_to]
          refine ⟨d, ltrs.take z, rfl, D5, by rw [List.length_take]; omega, fun c hc => ltrs_sm (List.mem_of_mem_take hc), fun H6 S s6 D6 hS hS2 => ⟨d, S, rfl, D6, by omega, fun H7 q7 u s7 D7 nq7 eq7 pm => ?_⟩⟩
          have ul : u.length = S.length := pm.length_eq
          have um : ∀ c ∈ u, c ∈ ltN := fun c hc => hS2 c (pm.mem_iff.mp hc)
          refine ⟨⟨_, rfl⟩, _, rfl, _, q7, u.map sg, rfl, rfl, .inl (SqL.of eq7), ?_, ?_⟩
          · rw [sg_sum, List.length_map]
            show u.length + u.length * 0 ≤ _
            omega
          rw [join_sg]
          have e7 := s7.1 _ _ pd (s6.1 _ _ pd (s5.1 _ _ pd e4))
          have s47 : SmD d H4 H7 := (s5.trans s6).trans s7
          refine ⟨_, rfl, .inl ⟨rfl, _, SqL.of e7⟩, ?_⟩
          have doneC := fun p5 (np5 : H7 p5 = none) => fin (upd H7 p5 (.tup [.str "call", .str (tx u)])) (.call u) (.ref p5) (some (.str (tx u))) (s47.trans (SmD.of (same_upd np5))) (D7.same (same_upd np5)) (by rw [encS]; exact .tup (SqT.of upd_same) (.cons (.str _) (.cons (.str _) .nil))) (by rw [wfS, decide_eq_true (show u.length ≤ 12 by omega)]; exact all_dec.mpr um) (by rw [dpS]; omega; simp) (by rw [szS]; exact per_pos n l; simp)
          refine ⟨_, rfl, _, _, rfl, rfl, _, rfl, ?_⟩
          by_cases h5 : how < 5
          · rw [decide_eq_true (by omega)]
            refine iteT (iteT ⟨_, rfl, by show 2 ≤ sizeLine; decide, fun p5 np5 => ?_⟩)
            obtain ⟨⟨e8, l8⟩, rest⟩ := doneC p5 np5
            exact ⟨p, vs, _, rfl, rfl, e8, l8, rest⟩
          · rw [decide_eq_false (by omega)]
            refine iteF ⟨_, rfl, rfl, _, rfl, ?_⟩
            by_cases u0 : u = []
            · rw [show decide (V.str (tx u) = V.str "") = true by rw [u0]; exact decide_eq_true (by rfl)]
              refine iteT ⟨_, rfl, by show 2 ≤ sizeLine; decide, fun p5 np5 => ?_⟩
              obtain ⟨⟨e8, l8⟩, rest⟩ := doneC p5 np5
              exact ⟨p, vs, _, rfl, rfl, e8, l8, rest⟩
            · rw [show decide (V.str (tx u) = V.str "") = false from decide_eq_false fun h => by
                injection h with h
                exact u0 (tx_inj (h.trans (by rfl)))]
              refine iteF ⟨_, rfl, by show 2 ≤ sizeLine; decide, fun p5 np5 => ?_⟩
              have u1 : 1 ≤ u.length := List.length_pos_iff.mpr u0
              obtain ⟨⟨e8, l8⟩, rest⟩ := fin (upd H7 p5 (.tup [.str "turn", .str (tx u)])) (.turn u) (.ref p5) (some (.str (tx u))) (s47.trans (SmD.of (same_upd np5))) (D7.same (same_upd np5)) (by rw [encS]; exact .tup (SqT.of upd_same) (.cons (.str _) (.cons (.str _) .nil))) (by rw [wfS, decide_eq_true u1, decide_eq_true (show u.length ≤ 12 by omega)]; exact all_dec.mpr um) (by rw [dpS]; omega; simp) (by rw [szS]; exact per_pos n l; simp)
              exact ⟨p, vs, _, rfl, rfl, e8, l8, rest⟩
    · rintro σ H2 ⟨acc, vs, y4, y5, y6, rfl, s2, D2, e2, h2, w2, dp2, l2, sz2⟩
      refine ⟨_, rfl, .inl ⟨p, vs, rfl, SqL.of e2, fun p1 np1 => ⟨by show 2 ≤ sizeLine; decide, fun p2 np2 => ?_⟩⟩⟩
      have s5 : Same H2 (upd (upd H2 p1 (.tup vs)) p2 (.tup [.str "steps", .ref p1])) := sm_trans (same_upd np1) (same_upd np2)
      have np1' : p1 ≠ p2 := ne_of_none upd_same np2
      refine q _ _ acc (s2.trans (SmD.of s5)) (D2.same s5) ?_ w2 dp2 ?_
      · exact .tup (SqT.of upd_same) (.cons (.str _) (.cons (.tup (SqT.of (by rw [upd_ne np1', upd_same])) (dpa_same s5 h2)) .nil))
      · unfold bnd
        refine Nat.le_trans sz2 ?_
        exact Nat.mul_le_mul_right _ hm
theorem ok_tree {k : Nat} (B : BM mg) (L : RL K mg f_of f_draw f_letters f_mixed f_sides f_number f_name f_tree f_text d_of d_draw d_letters d_mixed d_sides d_number d_name d_tree d_text) : ∀ n, FnOk P w K mg base CX0 (k + 5 + n) f_tree d_tree ["_law_d", "_law_left", "_law_deep"] (spTree K n)
  | 0 => ok_tree_of (k := k + 4) (spT := fun _ _ _ _ => False) (by omega) B L (L.tree.F.ok scTree (fun vs H Q E h => False.elim h) (fun cdv A outer s H vs Q E hr h => False.elim h)) fun m e => by cases e
  | n + 1 => ok_tree_of (k := k + 5 + n) (by omega) B L (ok_tree B L n) fun m e => by cases e; rfl
def spText (K : PySem.W.Frag) (n : Nat) : Sp := fun vs H Q _ => ∃ v r, vs = [v] ∧ Dp K H v (encR r) ∧ wfR r = true ∧ dpR r ≤ n ∧ szR r ≤ 400 ∧ ∀ H', Same H H' → Q (.str (tx (wrR r))) H'
set_option maxHeartbeats 2000000 in
theorem ok_text_of {k n : Nat} {spX : Sp} (B : BM mg) (L : RL K mg f_of f_draw f_letters f_mixed f_sides f_number f_name f_tree f_text d_of d_draw d_letters d_mixed d_sides d_number d_name d_tree d_text) (GX : FnOk P w K mg base CX0 k f_text d_text ["_law_tree_here"] spX) (hX : ∀ m, n = m + 1 → spX = spText K m) : FnOk P w K mg base CX0 (k + 1) f_text d_text ["_law_tree_here"] (spText K n) := by
  refine L.text.F.ok scText (fun vs H Q E h => ?_) (fun cdv A outer st H vs Q E hr h => ?_)
  · obtain ⟨v, r, rfl, _⟩ := h
    rfl
  · obtain ⟨v, r, rfl, hd, w, dp, sz, q⟩ := h
    have nd := scText.nd
    refine ⟨_, (pss_cons (ps_set (i := 1) nd rfl (.inl rfl) (pe_lst pa_nil))
      (pss_cons (ps_for PassesOwn.never rfl (pi_tup (pe_ix ix_tup (pv 0) pe_int (fun _ _ => rfl))) (pg_name (i := 2) nd rfl (.inl rfl))
        (pss_one (ps_if (pt_cmpR op_eq (pe_ix ix_tup (pv 2) pe_int (fun _ _ => rfl)) pe_str (nomark _))
        (pss_one (ps_expr (pe_bm PySem.F.plainAttrs_list PySem.F.slot_list_append PySem.F.type_list_append mt_append (pv 1) (pa_cons (pe_op op_add_str (pe_op op_add_str (pe_op op_add_str pe_str (pe_call GX hr rfl L.text.g L.text.F.kp L.text.b .nil pass0 (pa_cons (pe_ix ix_tup (pv 2) pe_int (fun _ _ => rfl)) pa_nil))) pe_str) (pe_callTy call_str_int (by rfl) L.ms (by decide +kernel) (pa_cons (pe_ix ix_tup (pv 2) pe_int (fun _ _ => rfl)) pa_nil))) pa_nil))))
        (pss_one (ps_if (pt_cmpR op_eq (pe_ix ix_tup (pv 2) pe_int (fun _ _ => rfl)) pe_str (nomark _))
        (pss_one (ps_expr (pe_bm PySem.F.plainAttrs_list PySem.F.slot_list_append PySem.F.type_list_append mt_append (pv 1) (pa_cons (pe_op op_add_str (pe_op op_add_str pe_str (pe_ix ix_tup (pv 2) pe_int (fun _ _ => rfl))) pe_str) pa_nil))))
        (pss_one (ps_expr (pe_bm PySem.F.plainAttrs_list PySem.F.slot_list_append PySem.F.type_list_append mt_append (pv 1) (pa_cons (pe_op op_add_str (pe_ix ix_list (pe_lst (pa_cons pe_str (pa_cons pe_str pa_nil))) (pe_callTy call_int1 (by rfl) L.mi (by decide +kernel) (pa_cons (pe_cmpR op_eq (pe_ix ix_tup (pv 2) pe_int (fun _ _ => rfl)) pe_str (nomark _)) pa_nil)) (fun _ _ => rfl)) (pe_ix ix_tup (pv 2) pe_int (fun _ _ => rfl))) pa_nil)))))))))
      (pss_one (ps_ret (pe_ifExp (pt_cmpR (op_eqD hr.units) (pv 1) (pe_lst pa_nil) (nomark _)) pe_str (pe_join pe_str (pv 1))))))), ?_⟩
    unfold encR at hd
    obtain ⟨p0, va, vb, rfl, hT, ha, hb⟩ := dp_two hd
    have ed : Str.ofString "." = tx [46] := by decide +kernel
    have et : Str.ofString "~" = tx [126] := by decide +kernel
    have el : Str.ofString "<" = tx [60] := by decide +kernel
    have eg : Str.ofString ">" = tx [62] := by decide +kernel
    have eo : Str.ofString "(" = tx [40] := by decide +kernel
    have ec : Str.ofString ")*" = tx [41, 42] := by decide +kernel
    cases hb with
    | tup hq hall =>
      rename_i pq xs
      have xl : xs.length = r.length := by rw [dpa_len hall, encL_len]
      have rl := szR_len r
      have s0 : Same H H := fun _ _ h => h
      refine ⟨Nat.zero_le _, fun D nD => ?_⟩
      have s1 : Same H (upd H D (.lst [])) := same_upd nD
      refine ⟨_, rfl, p0, _, 1, _, rfl, rfl, sm_t s1 hT, rfl, pq, rfl, ⟨_, sm_t s1 hq⟩, ?_⟩
      have wk := walk_tup (K := K) (a := pq) (xs := xs)
      refine for_it wk (fun i σ H' => ∃ y2 : Option V, σ = [some (.ref p0), some (.ref D), y2] ∧ Same H H' ∧ H' D = some (.lst ((((r.take i).map wrS).map tx).map V.str))) ⟨_, rfl, s1, upd_same⟩ (fun i σ H' _ h => by obtain ⟨_, _, s, _⟩ := h; exact sm_t s hq) ?_ ?_
      · rintro i v σ G1 G2 hi ⟨y2, rfl, s, e⟩ ⟨rfl, hx⟩
        obtain ⟨d', hd', hdp⟩ := dpa_get hall hx
        rw [encL_map, List.getElem?_map] at hd'
        obtain ⟨x1, hx1, rfl⟩ := Option.map_eq_some_iff.mp hd'
        have m1 := List.mem_of_getElem? hx1
        have dp1 := dpR_mem m1
        have sz1 := szR_mem m1
        have w1 := wfR_mem w x1 m1
        have hv := dp_same s hdp
        -- one word more
        have fin : ∀ G3, Same G2 G3 → ∀ y2', ((((r.take i).map wrS).map tx).map V.str).length < sizeLine ∧ G3 D = some (.lst ((((r.take i).map wrS).map tx).map V.str)) ∧ ∃ y2 : Option V, ([some (.ref p0), some (.ref D), y2'] : L2.St) = [some (.ref p0), some (.ref D), y2] ∧ Same H (upd G3 D (.lst ((((r.take i).map wrS).map tx).map V.str ++ [.str (tx (wrS x1))]))) ∧ (upd G3 D (.lst ((((r.take i).map wrS).map tx).map V.str ++ [.str (tx (wrS x1))]))) D = some (.lst ((((r.take (i + 1)).map wrS).map tx).map V.str)) := fun G3 s3 y2' => by
          refine ⟨?_, s3 _ _ e, _, rfl, sm_over (sm_trans s s3) nD, ?_⟩
          · rw [List.length_map, List.length_map, List.length_map, List.length_take, sizeLine_eq]
            omega
          · rw [upd_same, List.take_add_one, hx1, List.map_append, List.map_append, List.map_append]
            rfl
        cases x1 with
        | times m r' =>
          rw [encS] at hv
          obtain ⟨pv, v1, v2, v3, rfl, hT1, ha1, hb1, hc1⟩ := dp_three hv
          cases ha1; cases hb1
          rw [wfS, Bool.and_eq_true, decide_eq_true_eq] at w1
          rw [dpS] at dp1
          rw [szS] at sz1
          refine ⟨_, rfl, pv, _, 0, _, rfl, rfl, hT1, rfl, rfl, _, rfl, ?_⟩
          rw [show decide (V.str "times" = V.str "times") = true from decide_eq_true rfl]
          obtain ⟨n, rfl⟩ : ∃ n', n = n' + 1 := ⟨n - 1, by omega⟩
          have eX := hX n rfl
          subst eX
          have wl := wrR_len w1.2
          have dl := dgs_len 31 m (by omega)
          refine iteT ⟨_, rfl, .inl ⟨rfl, _, SqL.of e⟩, _, rfl, pv, _, 2, _, rfl, rfl, hT1, rfl, v3, r', rfl, hc1, w1.2, by omega, by omega, fun G3 s3 => ?_⟩
          refine ⟨_, _, rfl, rfl, ?_, _, _, rfl, rfl, ?_, _, rfl, pv, _, 1, _, rfl, rfl, sm_t s3 hT1, rfl, _, rfl, ?_, _, _, rfl, rfl, ?_, ?_⟩
          · rw [eo, tx_len, tx_len, sizeLine_eq]; show 1 + _ ≤ _; omega
          · rw [eo, ec, tx_app, tx_len, tx_len, sizeLine_eq, List.length_append]; show 1 + _ + 2 ≤ _; omega
          · rw [Int.natAbs_natCast]
            exact log_lt w1.1
          · rw [dgs_str, eo, ec, tx_app, tx_app, tx_len, tx_len, sizeLine_eq, List.length_append, List.length_append]; show 1 + _ + 2 + _ ≤ _; omega
          · rw [dgs_str, eo, ec, tx_app, tx_app, tx_app]
            obtain ⟨f1, f2, f3⟩ := fin G3 s3 (some (.ref pv))
            rw [wrS] at f3
            simp only [List.append_assoc]
            exact ⟨D, _, _, rfl, rfl, f2, f1, f3⟩
        | row s2 =>
          rw [encS] at hv
          obtain ⟨pv, v1, v2, rfl, hT1, ha1, hb1⟩ := dp_two hv
          cases ha1; cases hb1
          rw [wfS, Bool.and_eq_true, Bool.and_eq_true, decide_eq_true_eq, decide_eq_true_eq] at w1
          refine ⟨_, rfl, pv, _, 0, _, rfl, rfl, hT1, rfl, rfl, _, rfl, ?_⟩
          rw [show decide (V.str "row" = V.str "times") = false from decide_eq_false fun h => by cases V.str.inj h]
          refine iteF ⟨_, rfl, pv, _, 0, _, rfl, rfl, hT1, rfl, rfl, _, rfl, ?_⟩
          rw [show decide (V.str "row" = V.str "row") = true from decide_eq_true rfl]
          refine iteT ⟨_, rfl, .inl ⟨rfl, _, SqL.of e⟩, _, rfl, pv, _, 1, _, rfl, rfl, hT1, rfl, _, _, rfl, rfl, ?_, _, _, rfl, rfl, ?_, ?_⟩
          · rw [el, tx_len, tx_len, sizeLine_eq]; show 1 + _ ≤ _; omega
          · rw [el, eg, tx_app, tx_len, tx_len, sizeLine_eq, List.length_append]; show 1 + _ + 1 ≤ _; omega
          · rw [el, eg, tx_app, tx_app]
            obtain ⟨f1, f2, f3⟩ := fin _ (fun _ _ h => h) (some (.ref pv))
            rw [wrS] at f3
            exact ⟨D, _, _, rfl, rfl, f2, f1, f3⟩
        | call s2 =>
          rw [encS] at hv
          obtain ⟨pv, v1, v2, rfl, hT1, ha1, hb1⟩ := dp_two hv
          cases ha1; cases hb1
          rw [wfS, Bool.and_eq_true, decide_eq_true_eq] at w1
          refine ⟨_, rfl, pv, _, 0, _, rfl, rfl, hT1, rfl, rfl, _, rfl, ?_⟩
          rw [show decide (V.str "call" = V.str "times") = false from decide_eq_false fun h => by cases V.str.inj h]
          refine iteF ⟨_, rfl, pv, _, 0, _, rfl, rfl, hT1, rfl, rfl, _, rfl, ?_⟩
          rw [show decide (V.str "call" = V.str "row") = false from decide_eq_false fun h => by cases V.str.inj h]
          refine iteF ⟨_, rfl, .inl ⟨rfl, _, SqL.of e⟩, ?_⟩
          refine ⟨by show 2 ≤ sizeLine; decide, fun T nT => ?_⟩
          have sT := same_upd (H := G2) nT (o := .lst [.str ".", .str "~"])
          refine ⟨_, rfl, pv, _, 0, _, rfl, rfl, sm_t sT hT1, rfl, rfl, .inr ⟨_, rfl, ?_⟩⟩
          rw [show decide (V.str "call" = V.str "turn") = false from decide_eq_false fun h => by cases V.str.inj h]
          refine ⟨T, _, 0, .str ".", rfl, rfl, SqL.of upd_same, rfl, _, rfl, pv, _, 1, _, rfl, rfl, sm_t sT hT1, rfl, _, _, rfl, rfl, ?_, ?_⟩
          · rw [ed, tx_len, tx_len, sizeLine_eq]; show 1 + _ ≤ _; omega
          · rw [ed, tx_app]
            obtain ⟨f1, f2, f3⟩ := fin _ sT (some (.ref pv))
            rw [wrS] at f3
            exact ⟨D, _, _, rfl, rfl, f2, f1, f3⟩
        | turn s2 =>
          rw [encS] at hv
          obtain ⟨pv, v1, v2, rfl, hT1, ha1, hb1⟩ := dp_two hv
          cases ha1; cases hb1
          rw [wfS, Bool.and_eq_true, Bool.and_eq_true, decide_eq_true_eq, decide_eq_true_eq] at w1
          refine ⟨_, rfl, pv, _, 0, _, rfl, rfl, hT1, rfl, rfl, _, rfl, ?_⟩
          rw [show decide (V.str "turn" = V.str "times") = false from decide_eq_false fun h => by cases V.str.inj h]
          refine iteF ⟨_, rfl, pv, _, 0, _, rfl, rfl, hT1, rfl, rfl, _, rfl, ?_⟩
          rw [show decide (V.str "turn" = V.str "row") = false from decide_eq_false fun h => by cases V.str.inj h]
          refine iteF ⟨_, rfl, .inl ⟨rfl, _, SqL.of e⟩, ?_⟩
          refine ⟨by show 2 ≤ sizeLine; decide, fun T nT => ?_⟩
          have sT := same_upd (H := G2) nT (o := .lst [.str ".", .str "~"])
          refine ⟨_, rfl, pv, _, 0, _, rfl, rfl, sm_t sT hT1, rfl, rfl, .inr ⟨_, rfl, ?_⟩⟩
          rw [show decide (V.str "turn" = V.str "turn") = true from decide_eq_true rfl]
          refine ⟨T, _, 1, .str "~", rfl, rfl, SqL.of upd_same, rfl, _, rfl, pv, _, 1, _, rfl, rfl, sm_t sT hT1, rfl, _, _, rfl, rfl, ?_, ?_⟩
          · rw [et, tx_len, tx_len, sizeLine_eq]; show 1 + _ ≤ _; omega
          · rw [et, tx_app]
            obtain ⟨f1, f2, f3⟩ := fin _ sT (some (.ref pv))
            rw [wrS] at f3
            exact ⟨D, _, _, rfl, rfl, f2, f1, f3⟩
      · rintro σ G1 ⟨y2, rfl, s, e⟩
        rw [List.take_of_length_le (by omega), ← wrL_map] at e
        have okw : ∀ x ∈ (wrL r).map tx, okS x := fun x hx => by
          obtain ⟨z, hz, rfl⟩ := List.mem_map.mp hx
          exact okS_tx fun c hc => wrL_asc w z hz c hc
        refine ⟨_, rfl, by show 0 ≤ sizeLine; decide, fun E0' nE => ?_⟩
        refine ⟨_, _, .lst (SqL.of (same_upd nE _ _ e)) (dpAll_strs _), .lst (SqL.of upd_same) .nil, shaped_strs okw, by decide +kernel, _, rfl, ?_⟩
        have sE := same_upd nE (o := .lst [])
        have q0 := q _ (sm_trans s sE)
        cases r with
        | nil =>
          rw [show wrR [] = [45] from rfl, show tx [45] = Str.ofString "-" by decide +kernel] at q0
          exact iteT q0
        | cons x r0 =>
          refine iteF ⟨⟨_, rfl⟩, _, rfl, _, D, _, rfl, rfl, .inl (SqL.of (sE _ _ e)), ?_, ?_⟩
          · have hl := wrL_len (x :: r0) w
            have hlen : (wrL (x :: r0)).length = (x :: r0).length := by rw [wrL_map, List.length_map]
            rw [show (Str.ofString " ").length = 1 by decide +kernel, List.length_map, hlen]
            have e2 : ((wrL (x :: r0)).map tx).map (fun z : Str => z.length) = (wrL (x :: r0)).map (fun x => x.length) := by
              rw [List.map_map]
              exact List.map_congr_left fun x _ => tx_len x
            have : (((wrL (x :: r0)).map tx).map (fun z : Str => z.length)).sum ≤ 40 * szR (x :: r0) := by
              rw [e2]
              refine Nat.le_trans ?_ hl
              exact sum_le_map fun x => Nat.le_succ _
            have : (((wrL (x :: r0)).map tx).map (·.length)).sum ≤ 40 * szR (x :: r0) := this
            omega
          · rw [sep_join]
            exact q0
theorem ok_text {k : Nat} (B : BM mg) (L : RL K mg f_of f_draw f_letters f_mixed f_sides f_number f_name f_tree f_text d_of d_draw d_letters d_mixed d_sides d_number d_name d_tree d_text) : ∀ n, FnOk P w K mg base CX0 (k + 2 + n) f_text d_text ["_law_tree_here"] (spText K n)
  | 0 => ok_text_of (k := k + 1) (spX := fun _ _ _ _ => False) B L (L.text.F.ok scText (fun vs H Q E h => False.elim h) (fun cdv A outer s H vs Q E hr h => False.elim h)) fun m e => by cases e
  | n + 1 => ok_text_of (k := k + 2 + n) B L (ok_text B L n) fun m e => by cases e; rfl
end
end NC
namespace NC
open PySem PySem.Spec PyProof.Rows L2
theorem at_here {pre rest : List Nat} {c : Nat} {z : List Nat} : atS (pre ++ c :: rest) pre.length z = decide (c ∈ z) := by
  unfold atS
  rw [List.getElem?_append_right (Nat.le_refl _), Nat.sub_self]
  rfl
theorem at_end {pre z : List Nat} : atS pre pre.length z = false := atS_far (Nat.le_refl _)
theorem get_here {pre rest : List Nat} {c : Nat} : (pre ++ c :: rest).getD pre.length 0 = c := by
  rw [List.getD_eq_getElem?_getD, List.getElem?_append_right (Nat.le_refl _), Nat.sub_self]
  rfl
/-- what is behind begins with none of these -/
def NoHd (z rest : List Nat) : Prop := ∀ c r, rest = c :: r → c ∉ z
theorem NoHd.at {z rest pre : List Nat} (h : NoHd z rest) : atS (pre ++ rest) pre.length z = false := by
  cases rest with
  | nil => rw [List.append_nil]; exact at_end
  | cons c r => rw [at_here]; exact decide_eq_false (h c r rfl)
theorem NoHd.mono {z z' rest : List Nat} (h : NoHd z rest) (m : ∀ c ∈ z', c ∈ z) : NoHd z' rest := fun c r e hc => h c r e (m c hc)
theorem noHd_cons {z r : List Nat} {c : Nat} (h : c ∉ z) : NoHd z (c :: r) := fun c' r' e => by cases e; exact h
theorem ltP_run {z : List Nat} {lo : Nat} : ∀ (t pre rest acc : List Nat) (f : Nat), (∀ c ∈ t, c ∈ z) → t.length ≤ f → NoHd z rest → lo ≤ acc.length + t.length → ltP (pre ++ t ++ rest) z lo f acc pre.length = .ok (acc ++ t, pre.length + t.length)
  | [], pre, rest, acc, f, _, _, hn, hlo => by
    have hlo : lo ≤ acc.length + 0 := hlo
    rw [List.append_nil, List.append_nil]
    cases f with
    | zero => rw [ltP]; rfl
    | succ f => rw [ltP, hn.at, if_neg (by simp), if_neg (by omega)]; rfl
  | c :: t, pre, rest, acc, f, hz, hf, hn, hlo => by
    rw [List.length_cons] at hf hlo ⊢
    obtain ⟨f, rfl⟩ : ∃ n, f = n + 1 := ⟨f - 1, by omega⟩
    have e : pre ++ c :: t ++ rest = (pre ++ [c]) ++ t ++ rest := by simp
    have e2 : pre ++ c :: t ++ rest = pre ++ c :: (t ++ rest) := by simp
    rw [ltP, if_pos (by rw [e2, at_here]; exact decide_eq_true (hz c (List.mem_cons_self ..)))]
    have g : (pre ++ c :: t ++ rest).getD pre.length 0 = c := by rw [e2, get_here]
    rw [g, e]
    have := ltP_run (z := z) (lo := lo) t (pre ++ [c]) rest (acc ++ [c]) f (fun x hx => hz x (List.mem_cons_of_mem _ hx)) (by omega) hn (by rw [List.length_append]; show lo ≤ acc.length + 1 + _; omega)
    rw [List.length_append] at this
    have this : ltP (pre ++ [c] ++ t ++ rest) z lo f (acc ++ [c]) (pre.length + 1) = .ok (acc ++ [c] ++ t, pre.length + 1 + t.length) := this
    rw [this, List.append_assoc, show pre.length + 1 + t.length = pre.length + (t.length + 1) by omega]
    rfl
def fv (v : Nat) (ds : List Nat) : Nat := ds.foldl (fun v d => 10 * v + (d - 48)) v
theorem fv_ge : ∀ (ds : List Nat) (v : Nat), v ≤ fv v ds
  | [], v => Nat.le_refl _
  | d :: ds, v => by
    show v ≤ fv (10 * v + (d - 48)) ds
    have := fv_ge ds (10 * v + (d - 48))
    omega
theorem fv_dgs : ∀ (m v : Nat), fv v (dgs m) = v * 10 ^ (dgs m).length + m := fun m => by
  induction m using Nat.strongRecOn with
  | ind m ih =>
    intro v
    rcases Nat.lt_or_ge m 10 with h | h
    · rw [dgs_lt h]
      show 10 * v + (48 + m - 48) = v * 10 ^ 1 + m
      omega
    · rw [dgs_ge h]
      show fv v (dgs (m / 10) ++ [48 + m % 10]) = _
      unfold fv
      rw [List.foldl_append]
      have := ih (m / 10) (by omega) v
      unfold fv at this
      rw [this]
      show 10 * (v * 10 ^ (dgs (m / 10)).length + m / 10) + (48 + m % 10 - 48) = v * 10 ^ ((dgs (m / 10) ++ [48 + m % 10]).length) + m
      rw [List.length_append]
      show _ = v * 10 ^ ((dgs (m / 10)).length + 1) + m
      rw [Nat.pow_succ, Nat.mul_add, ← Nat.mul_assoc v, Nat.mul_comm (v * 10 ^ _) 10]
      omega
theorem nmP_run : ∀ (ds pre rest : List Nat) (v f : Nat), (∀ d ∈ ds, d ∈ dgN) → (0 < v ∨ ds = []) → ds.length ≤ f → (v = 0 ∨ NoHd dgN rest) → fv v ds ≤ 10 ^ 30 → nmP (pre ++ ds ++ rest) f v pre.length = .ok (fv v ds, pre.length + ds.length)
  | [], pre, rest, v, f, _, _, _, hn, _ => by
    rw [List.append_nil]
    show nmP (pre ++ rest) f v pre.length = .ok (v, pre.length + 0)
    cases f with
    | zero => rw [nmP]; rfl
    | succ f =>
      rw [nmP, if_neg]
      · rfl
      · rintro ⟨h1, h2⟩
        rcases hn with hn | hn
        · omega
        · rw [hn.at] at h2
          cases h2
  | d :: ds, pre, rest, v, f, hd, hv, hf, hn, hm => by
    have v0 : 0 < v := by
      rcases hv with h | h
      · exact h
      · cases h
    rw [List.length_cons] at hf ⊢
    obtain ⟨f, rfl⟩ : ∃ n, f = n + 1 := ⟨f - 1, by omega⟩
    have e : pre ++ d :: ds ++ rest = (pre ++ [d]) ++ ds ++ rest := by simp
    have e2 : pre ++ d :: ds ++ rest = pre ++ d :: (ds ++ rest) := by simp
    have hm : fv (10 * v + (d - 48)) ds ≤ 10 ^ 30 := hm
    have g : (pre ++ d :: ds ++ rest).getD pre.length 0 = d := by rw [e2, get_here]
    rw [nmP, if_pos ⟨v0, by rw [e2, at_here]; exact decide_eq_true (hd d (List.mem_cons_self ..))⟩, g, if_neg (by have := fv_ge ds (10 * v + (d - 48)); omega), e]
    have := nmP_run ds (pre ++ [d]) rest (10 * v + (d - 48)) f (fun x hx => hd x (List.mem_cons_of_mem _ hx)) (.inl (by omega)) (by omega) (.inr (hn.resolve_left (by omega))) hm
    rw [List.length_append] at this
    have this : nmP (pre ++ [d] ++ ds ++ rest) f (10 * v + (d - 48)) (pre.length + 1) = .ok (fv (10 * v + (d - 48)) ds, pre.length + 1 + ds.length) := this
    rw [this, show pre.length + 1 + ds.length = pre.length + (ds.length + 1) by omega]
    rfl
/-- the first figure is no nought but of nought itself -/
theorem dgs_head : ∀ (m : Nat), ∃ d ds, dgs m = d :: ds ∧ (0 < d - 48 ∨ ds = []) := fun m => by
  induction m using Nat.strongRecOn with
  | ind m ih =>
    rcases Nat.lt_or_ge m 10 with h | h
    · exact ⟨48 + m, [], dgs_lt h, .inr rfl⟩
    · obtain ⟨d, ds, e, h2⟩ := ih (m / 10) (by omega)
      refine ⟨d, ds ++ [48 + m % 10], by rw [dgs_ge h, e]; rfl, .inl ?_⟩
      rcases h2 with h2 | h2
      · exact h2
      · subst h2
        rcases Nat.lt_or_ge (m / 10) 10 with h3 | h3
        · rw [dgs_lt h3] at e
          injection e with e _
          omega
        · rw [dgs_ge h3] at e
          have := congrArg List.length e
          rw [List.length_append] at this
          have l := List.length_pos_iff.mpr (dgs_ne (m / 10 / 10))
          have this : (dgs (m / 10 / 10)).length + 1 = 1 := this
          omega
theorem numP_run {m : Nat} (hm : m ≤ 10 ^ 30) (pre rest : List Nat) (hn : m = 0 ∨ NoHd dgN rest) : numP (pre ++ dgs m ++ rest) pre.length = .ok (m, pre.length + (dgs m).length) := by
  obtain ⟨d, ds, e, h2⟩ := dgs_head m
  have hd : ∀ x ∈ d :: ds, x ∈ dgN := by rw [← e]; exact dgs_dig m
  have f0 := fv_dgs m 0
  rw [e] at f0 ⊢
  have f0 : fv (10 * 0 + (d - 48)) ds = 0 * 10 ^ _ + m := f0
  have f1 : fv (d - 48) ds = m := by rw [show d - 48 = 10 * 0 + (d - 48) by omega, f0]; omega
  have e2 : pre ++ d :: ds ++ rest = pre ++ d :: (ds ++ rest) := by simp
  have e3 : pre ++ d :: ds ++ rest = (pre ++ [d]) ++ ds ++ rest := by simp
  unfold numP
  rw [if_pos (by rw [e2, at_here]; exact decide_eq_true (hd d (List.mem_cons_self ..))), show (pre ++ d :: ds ++ rest).getD pre.length 0 = d by rw [e2, get_here]]
  have z : d - 48 = 0 ∨ NoHd dgN rest := by
    rcases hn with hn | hn
    · have := fv_ge ds (d - 48)
      exact .inl (by omega)
    · exact .inr hn
  have run : ∀ f, ds.length ≤ f → nmP (pre ++ [d] ++ ds ++ rest) f (d - 48) (pre.length + 1) = .ok (m, pre.length + 1 + ds.length) := fun f hf => by
    have := nmP_run ds (pre ++ [d]) rest (d - 48) f (fun x hx => hd x (List.mem_cons_of_mem _ hx)) h2 hf z (by omega)
    rw [List.length_append, f1] at this
    exact this
  rw [e3, run _ (by simp; omega), List.length_cons, show pre.length + 1 + ds.length = pre.length + (ds.length + 1) by omega]
def sepT : List Stp → List Nat
  | [] => []
  | s :: r => 32 :: (wrS s ++ sepT r)
theorem sepB_T : ∀ (x : Stp) (r : List Stp), sepB (wrL (x :: r)) = wrS x ++ sepT r
  | x, [] => by rw [wrL, wrL, sepB, sepT, List.append_nil]
  | x, y :: r => by
    rw [wrL, wrL, sepB, sepT, ← sepB_T y r, wrL]
theorem wrR_cons (x : Stp) (r : List Stp) : wrR (x :: r) = wrS x ++ sepT r := sepB_T x r
theorem sepT_len : ∀ r : List Stp, r.length ≤ (sepT r).length
  | [] => Nat.le_refl _
  | s :: r => by
    rw [sepT, List.length_cons, List.length_cons, List.length_append]
    have := sepT_len r
    omega
theorem no_lt {rest : List Nat} (h : ∀ c r, rest = c :: r → c = 32 ∨ c = 41) : NoHd ltN rest ∧ NoHd dgN rest := ⟨fun c r e hc => by
    have := (ltN_iff c).mp hc
    have := h c r e
    omega, fun c r e hc => by
    have := (dgN_iff c).mp hc
    have := h c r e
    omega⟩
theorem sepT_hd {r : List Stp} {rest : List Nat} (h : ∀ c r, rest = c :: r → c = 41) : ∀ c q, sepT r ++ rest = c :: q → c = 32 ∨ c = 41 := by
  intro c q e
  cases r with
  | nil => exact .inr (h c q e)
  | cons x r =>
    rw [sepT, List.cons_append] at e
    injection e with e _
    exact .inl e.symm
/-- how a step that is no group is read -/
theorem spP_sign {s pre rest : List Nat} {G : Nat → Nat → RdP Stp} {can : Bool} {c b : Nat} (hs : s = pre ++ c :: rest) (hc : c ∈ fsN can) (hb : b < 60) :
    spP s G can pre.length b = (if c = 46 then (match ltP s ltN 0 12 [] (pre.length + 1) with
      | .ok (t, j) => .ok (.call t, j, b + 1)
      | .error e => .error e)
    else if c = 126 then (match ltP s ltN 1 12 [] (pre.length + 1) with
      | .ok (t, j) => .ok (.turn t, j, b + 1)
      | .error e => .error e)
    else if c = 40 then G (pre.length + 1) (b + 1)
    else match ltP s smN 1 8 [] (pre.length + 1) with
      | .ok (t, j) => if atS s j [62] = true then .ok (.row t, j + 1, b + 1) else .error j
      | .error e => .error e) := by
  subst hs
  unfold spP
  rw [if_neg (by omega), if_pos (by rw [at_here]; exact decide_eq_true hc), get_here] <;> rfl
theorem fsN_mem {can : Bool} {c : Nat} (h : c = 46 ∨ c = 126 ∨ c = 60) : c ∈ fsN can := by
  cases can <;> rcases h with rfl | rfl | rfl <;> decide
theorem stP_can (s : List Nat) (n : Nat) : ∃ G can, stP s n = spP s G can := by
  cases n with
  | zero => exact ⟨_, _, rfl⟩
  | succ n => exact ⟨_, _, rfl⟩
theorem run1 {z : List Nat} {lo hi c : Nat} {t pre rest : List Nat} (hz : ∀ c ∈ t, c ∈ z) (h1 : lo ≤ t.length) (h2 : t.length ≤ hi) (hn : NoHd z rest) : ltP (pre ++ c :: (t ++ rest)) z lo hi [] (pre.length + 1) = .ok (t, pre.length + 1 + t.length) := by
  have := ltP_run (z := z) (lo := lo) t (pre ++ [c]) rest [] hi hz h2 hn (by show lo ≤ 0 + _; omega)
  rw [List.length_append] at this
  rw [show pre ++ c :: (t ++ rest) = pre ++ [c] ++ t ++ rest by simp]
  exact this
mutual
theorem rdS : ∀ (x : Stp) (n b : Nat) (pre rest : List Nat), wfS x = true → dpS x ≤ n → b + szS x ≤ 60 → (∀ c r, rest = c :: r → c = 32 ∨ c = 41) → stP (pre ++ (wrS x ++ rest)) n pre.length b = .ok (x, pre.length + (wrS x).length, b + szS x)
  | .call t, n, b, pre, rest, w, dp, sz, hr => by
    obtain ⟨G, can, e⟩ := stP_can (pre ++ (wrS (.call t) ++ rest)) n
    rw [wfS, Bool.and_eq_true, decide_eq_true_eq] at w
    have s1 : szS (.call t) = 1 := by rw [szS] <;> simp
    rw [s1] at sz ⊢
    rw [e, wrS, List.cons_append, spP_sign rfl (fsN_mem (.inl rfl)) (by omega), if_pos rfl, run1 (all_dec.mp w.2) (by omega) w.1 (no_lt hr).1, List.length_cons, show pre.length + 1 + t.length = pre.length + (t.length + 1) by omega]
  | .turn t, n, b, pre, rest, w, dp, sz, hr => by
    obtain ⟨G, can, e⟩ := stP_can (pre ++ (wrS (.turn t) ++ rest)) n
    rw [wfS, Bool.and_eq_true, Bool.and_eq_true, decide_eq_true_eq, decide_eq_true_eq] at w
    have s1 : szS (.turn t) = 1 := by rw [szS] <;> simp
    rw [s1] at sz ⊢
    rw [e, wrS, List.cons_append, spP_sign rfl (fsN_mem (.inr (.inl rfl))) (by omega), if_neg (by decide), if_pos rfl, run1 (all_dec.mp w.2) w.1.1 w.1.2 (no_lt hr).1, List.length_cons, show pre.length + 1 + t.length = pre.length + (t.length + 1) by omega]
  | .row t, n, b, pre, rest, w, dp, sz, hr => by
    obtain ⟨G, can, e⟩ := stP_can (pre ++ (wrS (.row t) ++ rest)) n
    rw [wfS, Bool.and_eq_true, Bool.and_eq_true, decide_eq_true_eq, decide_eq_true_eq] at w
    have s1 : szS (.row t) = 1 := by rw [szS] <;> simp
    rw [s1] at sz ⊢
    have e2 : pre ++ (60 :: (t ++ [62]) ++ rest) = pre ++ 60 :: (t ++ (62 :: rest)) := by simp
    have e3 : pre ++ 60 :: (t ++ (62 :: rest)) = (pre ++ 60 :: t) ++ 62 :: rest := by simp
    have l3 : pre.length + 1 + t.length = (pre ++ 60 :: t).length := by simp; omega
    rw [e, wrS, spP_sign e2 (fsN_mem (.inr (.inr rfl))) (by omega), if_neg (by decide), if_neg (by decide), if_neg (by decide), e2, run1 (all_dec.mp w.2) w.1.1 w.1.2 (noHd_cons (fun h => by have := (smN_iff 62).mp h; omega))]
    show (if atS (pre ++ 60 :: (t ++ (62 :: rest))) (pre.length + 1 + t.length) [62] = true then _ else _) = _
    rw [if_pos (by rw [e3, l3, at_here]; rfl)]
    rw [List.length_cons, List.length_append, show pre.length + 1 + t.length + 1 = pre.length + (t.length + [62].length + 1) by show _ = pre.length + (t.length + 1 + 1); omega]
  | .times m r, n, b, pre, rest, w, dp, sz, hr => by
    rw [wfS, Bool.and_eq_true, decide_eq_true_eq] at w
    rw [dpS] at dp
    rw [szS] at sz ⊢
    obtain ⟨n, rfl⟩ : ∃ k, n = k + 1 := ⟨n - 1, by omega⟩
    have ew : wrS (.times m r) = 40 :: (wrR r ++ 41 :: 42 :: dgs m) := by rw [wrS]; rfl
    have e2 : pre ++ (wrS (.times m r) ++ rest) = pre ++ 40 :: (wrR r ++ 41 :: 42 :: dgs m ++ rest) := by rw [ew]; simp
    have e3 : pre ++ (wrS (.times m r) ++ rest) = (pre ++ [40]) ++ (wrR r ++ (41 :: 42 :: (dgs m ++ rest))) := by rw [ew]; simp
    have e4 : pre ++ (wrS (.times m r) ++ rest) = (pre ++ 40 :: wrR r) ++ 41 :: (42 :: (dgs m ++ rest)) := by rw [ew]; simp
    have e5 : pre ++ (wrS (.times m r) ++ rest) = (pre ++ 40 :: (wrR r ++ [41])) ++ 42 :: (dgs m ++ rest) := by rw [ew]; simp
    have e6 : pre ++ (wrS (.times m r) ++ rest) = (pre ++ 40 :: (wrR r ++ [41, 42])) ++ dgs m ++ rest := by rw [ew]; simp
    have R := rdR r n (b + 1) (pre ++ [40]) (41 :: 42 :: (dgs m ++ rest)) w.2 (by omega) (by omega) (fun c q h => by injection h with h _; exact h.symm)
    rw [← e3, List.length_append] at R
    have R : rwP (pre ++ (wrS (.times m r) ++ rest)) (stP (pre ++ (wrS (.times m r) ++ rest)) n) (pre.length + 1) (b + 1) = .ok (r, pre.length + 1 + (wrR r).length, b + 1 + szR r) := R
    rw [show stP (pre ++ (wrS (.times m r) ++ rest)) (n + 1) = spP (pre ++ (wrS (.times m r) ++ rest)) (grP (pre ++ (wrS (.times m r) ++ rest)) (rwP (pre ++ (wrS (.times m r) ++ rest)) (stP (pre ++ (wrS (.times m r) ++ rest)) n))) true from rfl]
    rw [spP_sign e2 (show 40 ∈ fsN true by decide) (by omega), if_neg (by decide), if_neg (by decide), if_pos rfl]
    unfold grP
    rw [R]
    have l4 : pre.length + 1 + (wrR r).length = (pre ++ 40 :: wrR r).length := by simp; omega
    have l5 : pre.length + 1 + (wrR r).length + 1 = (pre ++ 40 :: (wrR r ++ [41])).length := by simp; omega
    have l6 : pre.length + 1 + (wrR r).length + 2 = (pre ++ 40 :: (wrR r ++ [41, 42])).length := by simp; omega
    have N := numP_run w.1 (pre ++ 40 :: (wrR r ++ [41, 42])) rest (.inr (no_lt hr).2)
    rw [← e6, ← l6] at N
    show (if atS (pre ++ (wrS (.times m r) ++ rest)) (pre.length + 1 + (wrR r).length) [41] = true then _ else _) = _
    rw [if_pos (by rw [e4, l4, at_here]; rfl), if_pos (by rw [e5, l5, at_here]; rfl), N]
    show Except.ok (Stp.times m r, pre.length + 1 + (wrR r).length + 2 + (dgs m).length, b + 1 + szR r) = _
    rw [ew, List.length_cons, List.length_append, List.length_cons, List.length_cons, show pre.length + 1 + (wrR r).length + 2 + (dgs m).length = pre.length + ((wrR r).length + ((dgs m).length + 1 + 1) + 1) by omega, show b + 1 + szR r = b + (szR r + 1) by omega]
theorem rdT : ∀ (r : List Stp) (n b f : Nat) (acc : List Stp) (pre rest : List Nat), wfR r = true → dpR r ≤ n → b + szR r ≤ 60 → r.length ≤ f → (∀ c q, rest = c :: q → c = 41) → rsP (pre ++ (sepT r ++ rest)) (stP (pre ++ (sepT r ++ rest)) n) f acc pre.length b = .ok (acc ++ r, pre.length + (sepT r).length, b + szR r)
  | [], n, b, f, acc, pre, rest, w, dp, sz, hf, hr => by
    rw [sepT, szR, List.append_nil]
    have a : atS (pre ++ ([] ++ rest)) pre.length [32] = false := NoHd.at (fun c q e hc => by
      have := hr c q e
      rw [List.mem_singleton] at hc
      omega)
    cases f with
    | zero => rw [rsP]; rfl
    | succ f => rw [rsP, a, if_neg (by simp)]; rfl
  | x :: r, n, b, f, acc, pre, rest, w, dp, sz, hf, hr => by
    rw [wfR, Bool.and_eq_true] at w
    rw [dpR] at dp
    rw [szR] at sz ⊢
    rw [List.length_cons] at hf
    obtain ⟨f, rfl⟩ : ∃ k, f = k + 1 := ⟨f - 1, by omega⟩
    have e1 : pre ++ (sepT (x :: r) ++ rest) = pre ++ 32 :: (wrS x ++ sepT r ++ rest) := by rw [sepT]; simp
    have e2 : pre ++ (sepT (x :: r) ++ rest) = (pre ++ [32]) ++ (wrS x ++ (sepT r ++ rest)) := by rw [sepT]; simp
    have e3 : pre ++ (sepT (x :: r) ++ rest) = (pre ++ 32 :: wrS x) ++ (sepT r ++ rest) := by rw [sepT]; simp
    have S := rdS x n b (pre ++ [32]) (sepT r ++ rest) w.1 (by omega) (by omega) (sepT_hd hr)
    rw [← e2, List.length_append] at S
    have S : stP (pre ++ (sepT (x :: r) ++ rest)) n (pre.length + 1) b = .ok (x, pre.length + 1 + (wrS x).length, b + szS x) := S
    have L := rdT r n (b + szS x) f (acc ++ [x]) (pre ++ 32 :: wrS x) rest w.2 (by omega) (by omega) (by omega) hr
    rw [← e3] at L
    have l3 : (pre ++ 32 :: wrS x).length = pre.length + 1 + (wrS x).length := by simp; omega
    rw [l3] at L
    rw [rsP, if_pos (by rw [e1, at_here]; rfl), S]
    show rsP _ _ f (acc ++ [x]) (pre.length + 1 + (wrS x).length) (b + szS x) = _
    rw [L, sepT, List.length_cons, List.length_append, List.append_assoc, show pre.length + 1 + (wrS x).length + (sepT r).length = pre.length + ((wrS x).length + (sepT r).length + 1) by omega, Nat.add_assoc b]
    rfl
theorem rdR : ∀ (r : List Stp) (n b : Nat) (pre rest : List Nat), wfR r = true → dpR r ≤ n → b + szR r ≤ 60 → (∀ c q, rest = c :: q → c = 41) → rwP (pre ++ (wrR r ++ rest)) (stP (pre ++ (wrR r ++ rest)) n) pre.length b = .ok (r, pre.length + (wrR r).length, b + szR r)
  | [], n, b, pre, rest, w, dp, sz, hr => by
    unfold rwP
    rw [show wrR [] = [45] from rfl, show [45] ++ rest = 45 :: rest from rfl, at_here, if_pos (by decide), szR]
    rfl
  | x :: r, n, b, pre, rest, w, dp, sz, hr => by
    rw [wfR, Bool.and_eq_true] at w
    rw [dpR] at dp
    rw [szR] at sz ⊢
    rw [wrR_cons]
    have e2 : pre ++ (wrS x ++ sepT r ++ rest) = pre ++ (wrS x ++ (sepT r ++ rest)) := by simp
    have e3 : pre ++ (wrS x ++ (sepT r ++ rest)) = (pre ++ wrS x) ++ (sepT r ++ rest) := by simp
    have S := rdS x n b pre (sepT r ++ rest) w.1 (by omega) (by omega) (sepT_hd hr)
    have L := fun f hf => rdT r n (b + szS x) f [x] (pre ++ wrS x) rest w.2 (by omega) (by omega) hf hr
    have l3 : (pre ++ wrS x).length = pre.length + (wrS x).length := by simp
    rw [l3, ← e3] at L
    rw [e2]
    unfold rwP
    have a : atS (pre ++ (wrS x ++ (sepT r ++ rest))) pre.length [45] = false := by
      cases x with
      | call t => rw [wrS, List.cons_append, at_here]; decide
      | turn t => rw [wrS, List.cons_append, at_here]; decide
      | row t => rw [wrS, List.cons_append, at_here]; decide
      | times m t => rw [wrS, List.cons_append, at_here]; decide
    rw [a, if_neg (by simp), S]
    show rsP _ _ _ [x] (pre.length + (wrS x).length) (b + szS x) = _
    rw [L _ (by have := sepT_len r; simp; omega), List.length_append, Nat.add_assoc b, Nat.add_assoc pre.length]
    rfl
end
theorem rdP_wr {r : List Stp} (w : wfR r = true) (dp : dpR r ≤ 12) (sz : szR r ≤ 60) : rdP (wrR r) = .ok r := by
  have := rdR r 12 0 [] [] w dp (by omega) (fun c q e => by cases e)
  rw [List.append_nil] at this
  have this : rwP (wrR r) (stP (wrR r) 12) 0 0 = .ok (r, 0 + (wrR r).length, 0 + szR r) := this
  unfold rdP
  rw [this]
  show (if 0 + (wrR r).length < (wrR r).length then _ else _) = _
  rw [if_neg (by omega)]
end NC
namespace NC
open PySem PySem.Spec PyProof.Rows L2
abbrev sLaw : Stmt := topS 40
abbrev nLaw : List Str := ["_law_script", "_law_d", "_law_turn", "_law_tree_here", "_law_k", "_law_text_here"]
theorem scLaw : FnScope nLaw ["_law_script"] (defScope sLaw) := ⟨rfl, rfl, rfl, by decide +kernel, rfl, by decide +kernel, by decide +kernel⟩
theorem shp (r : List Stp) (m : Nat) : encR [.times m r] = .tuple [.str "steps", .tuple [.tuple [.str "times", .int (m : Nat), encR r]]] := by
  unfold encR
  rw [encL, encL, encS]
theorem isRow_enc {r : List Stp} (h : isRowD (encR r) = true) : wfR r = true ∧ dpR r ≤ 12 ∧ szR r ≤ 60 := by
  obtain ⟨r', e, h1, h2, h3⟩ := (row_iff _).mp h
  rw [encR_inj e]
  exact ⟨h1, h2, h3⟩
mutual
theorem lnL_S : ∀ s : Stp, szS s ≤ 5000 → lnL (encS s) = true
  | .call s, _ => by rw [encS]; simp [lnL, lnLA]
  | .turn s, _ => by rw [encS]; simp [lnL, lnLA]
  | .row s, _ => by rw [encS]; simp [lnL, lnLA]
  | .times m r, h => by
    rw [szS] at h
    have := lnL_L r (by omega)
    have l := szR_len r
    rw [encS]
    simp only [lnL, lnLA, this, Bool.and_true, Bool.true_and, Bool.and_eq_true, decide_eq_true_eq, encL_len]
    exact ⟨by show 3 ≤ 5000; decide, by show 2 ≤ 5000; decide, by omega⟩
theorem lnL_L : ∀ r : List Stp, szR r ≤ 5000 → lnLA (encL r) = true
  | [], _ => by rw [encL, lnLA]
  | s :: r, h => by
    rw [szR] at h
    rw [encL, lnLA, lnL_S s (by omega), lnL_L r (by omega)]
    rfl
end
theorem alk_row {K : PySem.W.Frag} {H : Hp} {v v' : V} {r : List Stp} (w : wfR r = true) (dp : dpR r ≤ 12) (sz : szR r ≤ 60) (h : Dp K H v (encR r)) (h' : Dp K H v' (encR r)) : Alk K H 39 v v' := by
  obtain ⟨a, b, c⟩ := encL_ok r 12 w dp (by omega)
  have l := szR_len r
  refine alk_dp h h' ?_ ?_
  · unfold encR
    simp only [PyData.depth, PyData.depthAll]
    omega
  · have := lnL_L r (by omega)
    unfold encR
    simp only [lnL, lnLA, this, Bool.and_true, Bool.true_and, Bool.and_eq_true, decide_eq_true_eq, encL_len]
    exact ⟨by show 2 ≤ 5000; decide, by omega⟩
theorem Alk.succ {K : PySem.W.Frag} {H : Hp} : ∀ {n : Nat} {x y : V}, Alk K H n x y → Alk K H (n + 1) x y
  | _, _, _, .str a => .str a
  | _, _, _, .bl a => .bl a
  | _, _, _, .int a => .int a
  | _, _, _, .non => .non
  | _, _, _, .lst ep er hl h5 h => .lst ep er hl h5 fun i a b ha hb => (h i a b ha hb).succ
  | _, _, _, .tup ep er hl h5 h => .tup ep er hl h5 fun i a b ha hb => (h i a b ha hb).succ
section
variable {P : Program} {w : World} {K : PySem.W.Frag} {mg : Str → Option Value} {base : Heap} {f_w f_n f_nu f_tu f_pl f_gh f_ls f_lb f_ir f_cr f_st f_tx f_rt f_of f_draw f_letters f_mixed f_sides f_number f_name f_tree f_text : Addr} {d_w d_n d_nu d_tu d_pl d_gh d_ls d_lb d_ir d_cr d_st d_tx d_rt d_of d_draw d_letters d_mixed d_sides d_number d_name d_tree d_text : FuncData} {RC CB CH fH fB : Addr} {fdH fdB : FuncData} {g_ini g_sg g_sd g_tk g_lt g_nm g_gr g_sp g_rw : Addr} {e_ini e_sg e_sd e_tk e_lt e_nm e_gr e_sp e_rw : FuncData} {f_same f_start f_rr : Addr} {d_same d_start d_rr : FuncData}
theorem passN {X : Cx} : Passes (L2.CX X.prog X.w) X E0 := fun _ _ _ _ _ _ _ h => by
  obtain ⟨_, _, _, _, _, _, _, _, _, _, _, _, h⟩ := h
  exact h.elim
def spLaw (K : PySem.W.Frag) : Sp := fun vs H Q _ => ∃ (a : Addr) (ns : List Int), vs = [.ref a] ∧ SqL K H a (ns.map V.int) ∧ ∀ H', Q (.bl true) H'
set_option maxHeartbeats 4000000 in
theorem ok_law {f : Addr} {fd : FuncData} {k : Nat} (F : Fun K "law" "law" sLaw f fd) (B : BM mg) (mb : mg "bool" = none) (W : RowD K mg f_w f_n f_nu f_tu f_pl f_gh f_ls f_lb f_ir d_w d_n d_nu d_tu d_pl d_gh d_ls d_lb d_ir) (Y : RowT K mg f_cr f_st f_tx f_rt d_cr d_st d_tx d_rt) (R : RdC K mg RC g_ini g_sg g_sd g_tk g_lt g_nm g_gr g_sp g_rw e_ini e_sg e_sd e_tk e_lt e_nm e_gr e_sp e_rw) (T : HE K mg CH fH fdH) (X : XC K mg "BadText" "BadText.__init__" sBTinit "at" CB fB fdB) (Rr : DF K mg "read_row" sReadRow ["text"] f_rr d_rr) (Sm : DF K mg "_law_same" sSame ["_law_x", "_law_due"] f_same d_same) (St : DF K mg "_law_start" sStart ["_law_script"] f_start d_start) (L : RL K mg f_of f_draw f_letters f_mixed f_sides f_number f_name f_tree f_text d_of d_draw d_letters d_mixed d_sides d_number d_name d_tree d_text) :
    FnOk P w K mg base CX0 (k + 45) f fd ["_law_script"] (spLaw K) := by
  have GSt : FnOk P w K mg base CX0 (k + 1) f_start d_start ["_law_script"] (spStart K) := ok_start B St.F
  have GD : FnOk P w K mg base CX0 (k + 1) f_draw d_draw ["_law_d", "_law_many"] spDraw := ok_draw B L.draw.F
  have GO : FnOk P w K mg base CX0 (k + 2) f_of d_of ["_law_d", "_law_some"] (spOf K) := ok_of B L.of.F L.draw
  have GNu : FnOk P w K mg base CX0 (k + 3) f_number d_number ["_law_d"] spNumR := ok_numR B L
  have GT : FnOk P w K mg base CX0 (k + 7) f_tree d_tree ["_law_d", "_law_left", "_law_deep"] (spTree K 2) := ok_tree (k := k) B L 2
  have GX : FnOk P w K mg base CX0 (k + 14) f_text d_text ["_law_tree_here"] (spText K 12) := ok_text (k := k) B L 12
  have GI : FnOk P w K mg base CX0 (k + 31) f_ir d_ir ["tree"] (spIsRow K) := ok_ir W
  have GRT : FnOk P w K mg base CX0 (k + 33) f_rt d_rt ["tree"] (spRowT K) := ok_rt W Y
  have GSm : FnOk P w K mg base CX0 (k + 42) f_same d_same ["_law_x", "_law_due"] (spYes K 40) := ok_yes (k := k) B mb L.ms Sm 40
  have GRR : FnOk P w K mg base (L2.CX P w) (k + 44) f_rr d_rr ["text"] (spRR K CB) := ok_rr R T X Rr.F
  refine F.ok scLaw (fun vs H Q E h => ?_) (fun cdv A outer st H vs Q E hr h => ?_)
  · obtain ⟨a, ns, rfl, _⟩ := h
    rfl
  · obtain ⟨a, ns, rfl, hS, q⟩ := h
    have r1 : Room (k + 1) _ := hr.mono (by omega)
    have r2 : Room (k + 2) _ := hr.mono (by omega)
    have r3 : Room (k + 3) _ := hr.mono (by omega)
    have r7 : Room (k + 7) _ := hr.mono (by omega)
    have r14 : Room (k + 14) _ := hr.mono (by omega)
    have r31 : Room (k + 31) _ := hr.mono (by omega)
    have r33 : Room (k + 33) _ := hr.mono (by omega)
    have r42 : Room (k + 42) _ := hr.mono (by omega)
    have nd := scLaw.nd
    refine ⟨_, (pss_cons (ps_set (i := 1) nd rfl (.inl rfl) (pe_call GSt r1 rfl St.g St.F.kp St.b .nil pass0 (pa_cons (pv 0) pa_nil)))
      (pss_cons (ps_for PassesOwn.never rfl (pi_range1 (by rfl) B.range (pa_cons pe_int pa_nil)) (pg_name (i := 2) nd rfl (.inl rfl))
        (pss_cons (ps_set (i := 3) nd rfl (.inl rfl) (pe_call GT r7 rfl L.tree.g L.tree.F.kp L.tree.b .nil pass0 (pa_cons (pv 1) (pa_cons (pe_call GO r2 rfl L.of.g L.of.F.kp L.of.b .nil pass0 (pa_cons (pv 1) (pa_cons (pe_lst (pa_cons pe_int (pa_cons pe_int (pa_cons pe_int pa_nil)))) pa_nil))) (pa_cons pe_int pa_nil)))))
      (pss_cons (ps_for PassesOwn.never rfl (pi_range1 (by rfl) B.range (pa_cons (pe_call GD r1 rfl L.draw.g L.draw.F.kp L.draw.b .nil pass0 (pa_cons (pv 1) (pa_cons pe_int pa_nil))) pa_nil)) (pg_name (i := 4) nd rfl (.inl rfl))
        (pss_one (ps_set (i := 3) nd rfl (.inl rfl) (pe_tup (pa_cons pe_str (pa_cons (pe_tup (pa_cons (pe_tup (pa_cons pe_str (pa_cons (pe_call GNu r3 rfl L.number.g L.number.F.kp L.number.b .nil pass0 (pa_cons (pv 1) pa_nil)) (pa_cons (pv 3) pa_nil)))) pa_nil)) pa_nil))))))
      (pss_cons (ps_set (i := 5) nd rfl (.inl rfl) (pe_call GX r14 rfl L.text.g L.text.F.kp L.text.b .nil pass0 (pa_cons (pv 3) pa_nil)))
      (pss_cons (ps_if (pt_not (pt_val (pe_call GI r31 rfl W.ir.g W.ir.F.kp W.ir.b .nil pass0 (pa_cons (pv 3) pa_nil))))
        (pss_one ps_continue)
        pss_nil)
      (pss_one (ps_if (PW.pt (pw_or (pt_not (pt_val (pe_call GSm r42 rfl Sm.g Sm.F.kp Sm.b .nil pass0 (pa_cons (pe_call GRT r33 rfl Y.rt.g Y.rt.F.kp Y.rt.b .nil pass0 (pa_cons (pv 3) pa_nil)) (pa_cons (pv 5) pa_nil))))) (pw_or1 (pt_not (pt_val (pe_call GSm r42 rfl Sm.g Sm.F.kp Sm.b .nil pass0 (pa_cons (pe_call (E := E0) GRR hr rfl Rr.g Rr.F.kp Rr.b .nil passN (pa_cons (pv 5) pa_nil)) (pa_cons (pv 3) pa_nil))))))))
        (pss_one (ps_ret pe_bl))
        pss_nil)))))))
      (pss_one (ps_ret (pe_call GSm r42 rfl Sm.g Sm.F.kp Sm.b .nil pass0 (pa_cons (pe_lst (pa_cons (pe_call (E := E0) GRR hr rfl Rr.g Rr.F.kp Rr.b .nil passN (pa_cons pe_str pa_nil)) (pa_cons (pe_call GRT r33 rfl Y.rt.g Y.rt.F.kp Y.rt.b .nil pass0 (pa_cons (pe_tup (pa_cons pe_str (pa_cons (pe_tup pa_nil) pa_nil))) pa_nil)) pa_nil))) (pa_cons (pe_lst (pa_cons (pe_tup (pa_cons pe_str (pa_cons (pe_tup pa_nil) pa_nil))) (pa_cons pe_str pa_nil))) pa_nil))))))), ?_⟩
    refine ⟨_, rfl, a, ns, rfl, hS, fun H1 d s1 nd1 D1 => ?_⟩
    refine ⟨4, rfl, by decide, by decide, ?_⟩
    refine for_it walk_range (fun i σ H' => ∃ y2 y3 y4 y5 : Option V, σ = [some (.ref a), some (.ref d), y2, y3, y4, y5] ∧ Dr H' d) ⟨_, _, _, _, rfl, D1⟩ (fun _ _ _ _ _ => trivial) ?_ ?_
    · rintro i v σ H2 H3 hi ⟨y2, y3, y4, y5, rfl, D2⟩ ⟨rfl, rfl⟩
      refine ⟨_, rfl, _, rfl, by show 3 ≤ sizeLine; decide, fun p0 np0 => ?_⟩
      refine ⟨d, _, rfl, D2.same (same_upd np0), .inl ⟨p0, _, rfl, D2.ne np0, SqL.of upd_same, by show 1 ≤ 3; decide, by show 3 ≤ 1000; decide, fun H4 v4 j s4 D4 hv => ?_⟩⟩
      obtain ⟨l, rfl, l20, lb⟩ : ∃ l : Nat, v4 = .int (l : Nat) ∧ l ≤ 20 ∧ bnd 2 l ≤ 300 := by
        match j, hv with
        | 0, hv => cases hv; exact ⟨3, rfl, by decide, by decide⟩
        | 1, hv => cases hv; exact ⟨7, rfl, by decide, by decide⟩
        | 2, hv => cases hv; exact ⟨20, rfl, by decide, by decide⟩
      refine ⟨d, l, rfl, D4, l20, fun H5 v5 r5 s5 D5 hv5 w5 dp5 sz5 => ?_⟩
      refine ⟨_, rfl, d, 10, rfl, D5, by decide, by decide, fun H6 n6 s6 D6 n0 n1 => ?_⟩
      obtain ⟨n6, rfl⟩ := Int.eq_ofNat_of_zero_le n0
      have m6 : n6 < 10 := by have n1 : ((n6 : Nat) : Int) < 10 := n1; omega
      refine ⟨_, rfl, by omega, by omega, ?_⟩
      rw [show ((n6 : Nat) : Int).toNat = n6 from Int.toNat_natCast _]
      obtain ⟨o5, ho5⟩ := D5.o
      have hv6 := dp_smx s6.1 ho5 (.inl ⟨_, rfl⟩) (noL_encR r5) hv5
      refine for_it walk_range (fun j σ H' => ∃ (y4 y5 : Option V) (v : V) (r : List Stp), σ = [some (.ref a), some (.ref d), some (.int (0 + ((i : Nat) : Int))), some v, y4, y5] ∧ Dr H' d ∧ Dp K H' v (encR r) ∧ wfR r = true ∧ dpR r ≤ 2 + j ∧ szR r ≤ 300 + j) ⟨_, _, v5, r5, rfl, D6, hv6, w5, dp5, by omega⟩ (fun _ _ _ _ _ => trivial) ?_ ?_
      · rintro j v σ H7 H8 hj ⟨y4, y5, v7, r7, rfl, D7, hv7, w7, dp7, sz7⟩ ⟨rfl, rfl⟩
        refine ⟨_, rfl, d, rfl, D7, fun H9 m s9 D9 hm => ⟨_, rfl, ?_⟩⟩
        obtain ⟨o7, ho7⟩ := D7.o
        have hv9 := dp_smx s9.1 ho7 (.inl ⟨_, rfl⟩) (noL_encR r7) hv7
        refine ⟨by show 3 ≤ sizeLine; decide, fun p1 np1 => ⟨by show 1 ≤ sizeLine; decide, fun p2 np2 => ⟨by show 2 ≤ sizeLine; decide, fun p3 np3 => ?_⟩⟩⟩
        have t1 := same_upd np1 (o := .tup [.str "times", .int (m : Nat), v7])
        have t2 := same_upd np2 (o := .tup [.ref p1])
        have t3 := same_upd np3 (o := .tup [.str "steps", .ref p2])
        refine ⟨_, _, .ref p3, [.times m r7], rfl, ((D9.same t1).same t2).same t3, ?_, ?_, ?_, ?_⟩
        · rw [shp]
          have h1 : Dp K _ (.ref p1) (.tuple [.str "times", .int (m : Nat), encR r7]) := .tup (SqT.of (upd_same (H := H9) (a := p1) (o := .tup [.str "times", .int (m : Nat), v7]))) (.cons (.str _) (.cons (.int _) (.cons (dp_same t1 hv9) .nil)))
          have h2 : Dp K _ (.ref p2) (.tuple [.tuple [.str "times", .int (m : Nat), encR r7]]) := .tup (SqT.of upd_same) (.cons (dp_same t2 h1) .nil)
          exact .tup (SqT.of upd_same) (.cons (.str _) (.cons (dp_same t3 h2) .nil))
        · rw [wfR, wfR, wfS, decide_eq_true hm, w7]; rfl
        · rw [dpR, dpR, dpS]; omega
        · rw [szR, szR, szS]; omega
      · rintro σ H7 ⟨y4, y5, v7, r7, rfl, D7, hv7, w7, dp7, sz7⟩
        refine ⟨_, rfl, v7, r7, rfl, hv7, w7, by omega, by omega, fun H8 s8 => ?_⟩
        have hv8 := dp_same s8 hv7
        refine ⟨_, rfl, v7, _, rfl, hv8, encR_ok w7 (by omega) (by omega), fun H9 s9 => ⟨_, rfl, ?_⟩⟩
        have D9 := (D7.same s8).same s9
        have hv9 := dp_same s9 hv8
        by_cases ir : isRowD (encR r7) = true
        · obtain ⟨_, dpk, szk⟩ := isRow_enc ir
          rw [ir]
          refine iteF ?_
          refine ⟨_, rfl, v7, r7, rfl, hv9, w7, dpk, szk, fun H10 s10 => ⟨_, rfl, _, _, rfl, .str _, fun H11 s11 => ⟨_, rfl, ?_⟩⟩⟩
          refine iteF ⟨_, rfl, wrR r7, rfl, ?_, ?_⟩
          · have := wrR_len w7
            omega
          rw [rdP_wr w7 dpk szk]
          intro H12 v12 s12 hv12
          have hv12' := dp_same (sm_trans (sm_trans s10 s11) s12) hv9
          refine ⟨_, rfl, v12, v7, rfl, (alk_row w7 dpk szk hv12 hv12').succ, fun H13 s13 => ⟨_, rfl, iteF ?_⟩⟩
          exact ⟨_, _, _, _, rfl, (((D9.same s10).same s11).same s12).same s13⟩
        · rw [Bool.not_eq_true] at ir
          rw [ir]
          refine iteT ?_
          exact ⟨_, _, _, _, rfl, D9⟩
    · rintro σ H2 ⟨y2, y3, y4, y5, rfl, D2⟩
      have zm : Str.ofString "-" = tx [45] := by decide +kernel
      have w0 : wfR [] = true := by rw [wfR]
      have d0 : dpR [] ≤ 12 := by rw [dpR]; decide
      have z0 : szR [] ≤ 60 := by rw [szR]; decide
      refine ⟨[45], by rw [zm]; rfl, by decide, ?_⟩
      rw [show rdP [45] = .ok [] from rdP_wr w0 d0 z0]
      intro H3 v3 s3 hv3
      refine ⟨by show 0 ≤ sizeLine; decide, fun p1 np1 => ⟨by show 2 ≤ sizeLine; decide, fun p2 np2 => ?_⟩⟩
      have t1 := same_upd np1 (o := .tup [])
      have t2 := same_upd np2 (o := .tup [.str "steps", .ref p1])
      have hv4 : Dp K _ (.ref p2) (encR []) := .tup (SqT.of upd_same) (.cons (.str _) (.cons (.tup (SqT.of (t2 _ _ upd_same)) .nil) .nil))
      refine ⟨_, [], rfl, hv4, w0, d0, z0, fun H5 s5 => ⟨by show 2 ≤ sizeLine; decide, fun p3 np3 => ?_⟩⟩
      have t3 := same_upd np3 (o := .lst [v3, .str (tx (wrR []))])
      refine ⟨by show 0 ≤ sizeLine; decide, fun p4 np4 => ⟨by show 2 ≤ sizeLine; decide, fun p5 np5 => ⟨by show 2 ≤ sizeLine; decide, fun p6 np6 => ?_⟩⟩⟩
      have t4 := same_upd np4 (o := .tup [])
      have t5 := same_upd np5 (o := .tup [.str "steps", .ref p4])
      have t6 := same_upd np6 (o := .lst [.ref p5, .str "-"])
      have hv6 : Dp K _ (.ref p5) (encR []) := .tup (SqT.of upd_same) (.cons (.str _) (.cons (.tup (SqT.of (t5 _ _ upd_same)) .nil) .nil))
      have hv3' := dp_same t6 (dp_same t5 (dp_same t4 (dp_same t3 (dp_same s5 (dp_same t2 (dp_same t1 hv3))))))
      have L1 := t6 _ _ (t5 _ _ (t4 _ _ (upd_same (H := H5) (a := p3) (o := .lst [v3, .str (tx (wrR []))]))))
      refine ⟨_, _, rfl, .lst (SqL.of L1) (SqL.of upd_same) rfl (by show 2 ≤ 5000; decide) (fun i x y hx hy => ?_), fun H7 s7 => q H7⟩
      match i, hx, hy with
      | 0, hx, hy => cases hx; cases hy; exact alk_row w0 d0 z0 hv3' (dp_same t6 hv6)
      | 1, hx, hy => cases hx; cases hy; rw [zm]; exact .str _
end
end NC
namespace NC
open PySem PySem.Spec PyProof.Rows L2
set_option maxHeartbeats 4000000 in
theorem all_mk {l : PySem.W.OpenLaw} {w : World} {K : PySem.W.Frag} {h : Heap} {mg : Str → Option Value} {fa : Addr}  (X : K.In h) (G : h.Ns mainGlobals mg) (hfa : mg "law" = some (.ref fa))
    {f_w : Addr} {oc_w kV_w dc_w pm_w cd_w ct_w : Value} {od_w an_w : Option Addr} {sl_w : Array (Option Value)}
    {f_n : Addr} {oc_n kV_n dc_n pm_n cd_n ct_n : Value} {od_n an_n : Option Addr} {sl_n : Array (Option Value)}
    {f_nu : Addr} {oc_nu kV_nu dc_nu pm_nu cd_nu ct_nu : Value} {od_nu an_nu : Option Addr} {sl_nu : Array (Option Value)}
    {f_tu : Addr} {oc_tu kV_tu dc_tu pm_tu cd_tu ct_tu : Value} {od_tu an_tu : Option Addr} {sl_tu : Array (Option Value)}
    {f_pl : Addr} {oc_pl kV_pl dc_pl pm_pl cd_pl ct_pl : Value} {od_pl an_pl : Option Addr} {sl_pl : Array (Option Value)}
    {f_gh : Addr} {oc_gh kV_gh dc_gh pm_gh cd_gh ct_gh : Value} {od_gh an_gh : Option Addr} {sl_gh : Array (Option Value)}
    {f_ls : Addr} {oc_ls kV_ls dc_ls pm_ls cd_ls ct_ls : Value} {od_ls an_ls : Option Addr} {sl_ls : Array (Option Value)}
    {f_lb : Addr} {oc_lb kV_lb dc_lb pm_lb cd_lb ct_lb : Value} {od_lb an_lb : Option Addr} {sl_lb : Array (Option Value)}
    {f_ir : Addr} {oc_ir kV_ir dc_ir pm_ir cd_ir ct_ir : Value} {od_ir an_ir : Option Addr} {sl_ir : Array (Option Value)}
    {f_cr : Addr} {oc_cr kV_cr dc_cr pm_cr cd_cr ct_cr : Value} {od_cr an_cr : Option Addr} {sl_cr : Array (Option Value)}
    {f_st : Addr} {oc_st kV_st dc_st pm_st cd_st ct_st : Value} {od_st an_st : Option Addr} {sl_st : Array (Option Value)}
    {f_tx : Addr} {oc_tx kV_tx dc_tx pm_tx cd_tx ct_tx : Value} {od_tx an_tx : Option Addr} {sl_tx : Array (Option Value)}
    {f_rt : Addr} {oc_rt kV_rt dc_rt pm_rt cd_rt ct_rt : Value} {od_rt an_rt : Option Addr} {sl_rt : Array (Option Value)}
    {f_of : Addr} {oc_of kV_of dc_of pm_of cd_of ct_of : Value} {od_of an_of : Option Addr} {sl_of : Array (Option Value)}
    {f_draw : Addr} {oc_draw kV_draw dc_draw pm_draw cd_draw ct_draw : Value} {od_draw an_draw : Option Addr} {sl_draw : Array (Option Value)}
    {f_letters : Addr} {oc_letters kV_letters dc_letters pm_letters cd_letters ct_letters : Value} {od_letters an_letters : Option Addr} {sl_letters : Array (Option Value)}
    {f_mixed : Addr} {oc_mixed kV_mixed dc_mixed pm_mixed cd_mixed ct_mixed : Value} {od_mixed an_mixed : Option Addr} {sl_mixed : Array (Option Value)}
    {f_sides : Addr} {oc_sides kV_sides dc_sides pm_sides cd_sides ct_sides : Value} {od_sides an_sides : Option Addr} {sl_sides : Array (Option Value)}
    {f_number : Addr} {oc_number kV_number dc_number pm_number cd_number ct_number : Value} {od_number an_number : Option Addr} {sl_number : Array (Option Value)}
    {f_name : Addr} {oc_name kV_name dc_name pm_name cd_name ct_name : Value} {od_name an_name : Option Addr} {sl_name : Array (Option Value)}
    {f_tree : Addr} {oc_tree kV_tree dc_tree pm_tree cd_tree ct_tree : Value} {od_tree an_tree : Option Addr} {sl_tree : Array (Option Value)}
    {f_text : Addr} {oc_text kV_text dc_text pm_text cd_text ct_text : Value} {od_text an_text : Option Addr} {sl_text : Array (Option Value)}
    {f_same : Addr} {oc_same kV_same dc_same pm_same cd_same ct_same : Value} {od_same an_same : Option Addr} {sl_same : Array (Option Value)}
    {f_start : Addr} {oc_start kV_start dc_start pm_start cd_start ct_start : Value} {od_start an_start : Option Addr} {sl_start : Array (Option Value)}
    {f_rr : Addr} {oc_rr kV_rr dc_rr pm_rr cd_rr ct_rr : Value} {od_rr an_rr : Option Addr} {sl_rr : Array (Option Value)}
    {CH : Addr}
    {CB : Addr}
    {nm_CB q_CB : Str} {N_CB : Addr} {bs_CB bm_CB sub_CB : List Value} {sn_CB : List Str} {ab_CB : Bool} {col_CB : Option Bool} {dd_CB : Option Addr} {m0_CB m1_CB m2_CB m3_CB m5_CB : Option Value}
    {f_iH : Addr} {oc_iH kV_iH dc_iH pm_iH cd_iH ct_iH : Value} {od_iH an_iH : Option Addr} {sl_iH : Array (Option Value)}
    {f_iB : Addr} {oc_iB kV_iB dc_iB pm_iB cd_iB ct_iB : Value} {od_iB an_iB : Option Addr} {sl_iB : Array (Option Value)}
    {RC : Addr}
    {f_qsg : Addr} {oc_qsg kV_qsg dc_qsg pm_qsg cd_qsg ct_qsg : Value} {od_qsg an_qsg : Option Addr} {sl_qsg : Array (Option Value)}
    {f_qsd : Addr} {oc_qsd kV_qsd dc_qsd pm_qsd cd_qsd ct_qsd : Value} {od_qsd an_qsd : Option Addr} {sl_qsd : Array (Option Value)}
    {f_qtk : Addr} {oc_qtk kV_qtk dc_qtk pm_qtk cd_qtk ct_qtk : Value} {od_qtk an_qtk : Option Addr} {sl_qtk : Array (Option Value)}
    {f_qlt : Addr} {oc_qlt kV_qlt dc_qlt pm_qlt cd_qlt ct_qlt : Value} {od_qlt an_qlt : Option Addr} {sl_qlt : Array (Option Value)}
    {f_qnm : Addr} {oc_qnm kV_qnm dc_qnm pm_qnm cd_qnm ct_qnm : Value} {od_qnm an_qnm : Option Addr} {sl_qnm : Array (Option Value)}
    {f_qgr : Addr} {oc_qgr kV_qgr dc_qgr pm_qgr cd_qgr ct_qgr : Value} {od_qgr an_qgr : Option Addr} {sl_qgr : Array (Option Value)}
    {f_qsp : Addr} {oc_qsp kV_qsp dc_qsp pm_qsp cd_qsp ct_qsp : Value} {od_qsp an_qsp : Option Addr} {sl_qsp : Array (Option Value)}
    {f_qrw : Addr} {oc_qrw kV_qrw dc_qrw pm_qrw cd_qrw ct_qrw : Value} {od_qrw an_qrw : Option Addr} {sl_qrw : Array (Option Value)}
    {f_qini : Addr} {oc_qini kV_qini dc_qini pm_qini cd_qini ct_qini : Value} {od_qini an_qini : Option Addr} {sl_qini : Array (Option Value)}
    {t1 : Tok}
    {t2 : Tok}
    {t3 : Tok}
    {t4 : Tok}
    {t5 : Tok}
    {t6 : Tok}
    {t7 : Tok}
    {t8 : Tok}
    {c : Addr} {fL : Addr} {ocL kVL dcL pmL ctL : Value} {odL anL : Option Addr} {slL : Array (Option Value)}
    (a_w : PySem.W.nsIn K mainGlobals "is_word" = some (some (.ref f_w)))
    (l_w : K.lookup f_w = some ⟨oc_w, od_w, .func (PySem.W.fnOf "is_word" "is_word" (defArgs sIsWord) (defBody sIsWord) (defScope sIsWord) .none kV_w dc_w pm_w an_w cd_w ct_w), sl_w⟩)
    (c_w : PySem.W.codeIn K cd_w "is_word" = true)
    (k_w : PySem.W.keepIn K (.ref f_w) = true)
    (a_n : PySem.W.nsIn K mainGlobals "is_name" = some (some (.ref f_n)))
    (l_n : K.lookup f_n = some ⟨oc_n, od_n, .func (PySem.W.fnOf "is_name" "is_name" (defArgs sIsName) (defBody sIsName) (defScope sIsName) .none kV_n dc_n pm_n an_n cd_n ct_n), sl_n⟩)
    (c_n : PySem.W.codeIn K cd_n "is_name" = true)
    (k_n : PySem.W.keepIn K (.ref f_n) = true)
    (a_nu : PySem.W.nsIn K mainGlobals "is_number" = some (some (.ref f_nu)))
    (l_nu : K.lookup f_nu = some ⟨oc_nu, od_nu, .func (PySem.W.fnOf "is_number" "is_number" (defArgs sIsNum) (defBody sIsNum) (defScope sIsNum) .none kV_nu dc_nu pm_nu an_nu cd_nu ct_nu), sl_nu⟩)
    (c_nu : PySem.W.codeIn K cd_nu "is_number" = true)
    (k_nu : PySem.W.keepIn K (.ref f_nu) = true)
    (a_tu : PySem.W.nsIn K mainGlobals "is_tuple_of" = some (some (.ref f_tu)))
    (l_tu : K.lookup f_tu = some ⟨oc_tu, od_tu, .func (PySem.W.fnOf "is_tuple_of" "is_tuple_of" (defArgs sIsTup) (defBody sIsTup) (defScope sIsTup) .none kV_tu dc_tu pm_tu an_tu cd_tu ct_tu), sl_tu⟩)
    (c_tu : PySem.W.codeIn K cd_tu "is_tuple_of" = true)
    (k_tu : PySem.W.keepIn K (.ref f_tu) = true)
    (a_pl : PySem.W.nsIn K mainGlobals "is_plain_step" = some (some (.ref f_pl)))
    (l_pl : K.lookup f_pl = some ⟨oc_pl, od_pl, .func (PySem.W.fnOf "is_plain_step" "is_plain_step" (defArgs sIsPlain) (defBody sIsPlain) (defScope sIsPlain) .none kV_pl dc_pl pm_pl an_pl cd_pl ct_pl), sl_pl⟩)
    (c_pl : PySem.W.codeIn K cd_pl "is_plain_step" = true)
    (k_pl : PySem.W.keepIn K (.ref f_pl) = true)
    (a_gh : PySem.W.nsIn K mainGlobals "is_group_head" = some (some (.ref f_gh)))
    (l_gh : K.lookup f_gh = some ⟨oc_gh, od_gh, .func (PySem.W.fnOf "is_group_head" "is_group_head" (defArgs sIsHead) (defBody sIsHead) (defScope sIsHead) .none kV_gh dc_gh pm_gh an_gh cd_gh ct_gh), sl_gh⟩)
    (c_gh : PySem.W.codeIn K cd_gh "is_group_head" = true)
    (k_gh : PySem.W.keepIn K (.ref f_gh) = true)
    (a_ls : PySem.W.nsIn K mainGlobals "left_behind_step" = some (some (.ref f_ls)))
    (l_ls : K.lookup f_ls = some ⟨oc_ls, od_ls, .func (PySem.W.fnOf "left_behind_step" "left_behind_step" (defArgs sLbS) (defBody sLbS) (defScope sLbS) .none kV_ls dc_ls pm_ls an_ls cd_ls ct_ls), sl_ls⟩)
    (c_ls : PySem.W.codeIn K cd_ls "left_behind_step" = true)
    (k_ls : PySem.W.keepIn K (.ref f_ls) = true)
    (a_lb : PySem.W.nsIn K mainGlobals "left_behind" = some (some (.ref f_lb)))
    (l_lb : K.lookup f_lb = some ⟨oc_lb, od_lb, .func (PySem.W.fnOf "left_behind" "left_behind" (defArgs sLb) (defBody sLb) (defScope sLb) .none kV_lb dc_lb pm_lb an_lb cd_lb ct_lb), sl_lb⟩)
    (c_lb : PySem.W.codeIn K cd_lb "left_behind" = true)
    (k_lb : PySem.W.keepIn K (.ref f_lb) = true)
    (a_ir : PySem.W.nsIn K mainGlobals "is_row" = some (some (.ref f_ir)))
    (l_ir : K.lookup f_ir = some ⟨oc_ir, od_ir, .func (PySem.W.fnOf "is_row" "is_row" (defArgs sIsRow) (defBody sIsRow) (defScope sIsRow) .none kV_ir dc_ir pm_ir an_ir cd_ir ct_ir), sl_ir⟩)
    (c_ir : PySem.W.codeIn K cd_ir "is_row" = true)
    (k_ir : PySem.W.keepIn K (.ref f_ir) = true)
    (a_cr : PySem.W.nsIn K mainGlobals "check_row" = some (some (.ref f_cr)))
    (l_cr : K.lookup f_cr = some ⟨oc_cr, od_cr, .func (PySem.W.fnOf "check_row" "check_row" (defArgs sChkRow) (defBody sChkRow) (defScope sChkRow) .none kV_cr dc_cr pm_cr an_cr cd_cr ct_cr), sl_cr⟩)
    (c_cr : PySem.W.codeIn K cd_cr "check_row" = true)
    (k_cr : PySem.W.keepIn K (.ref f_cr) = true)
    (a_st : PySem.W.nsIn K mainGlobals "step_text" = some (some (.ref f_st)))
    (l_st : K.lookup f_st = some ⟨oc_st, od_st, .func (PySem.W.fnOf "step_text" "step_text" (defArgs sStepT) (defBody sStepT) (defScope sStepT) .none kV_st dc_st pm_st an_st cd_st ct_st), sl_st⟩)
    (c_st : PySem.W.codeIn K cd_st "step_text" = true)
    (k_st : PySem.W.keepIn K (.ref f_st) = true)
    (a_tx : PySem.W.nsIn K mainGlobals "text_of" = some (some (.ref f_tx)))
    (l_tx : K.lookup f_tx = some ⟨oc_tx, od_tx, .func (PySem.W.fnOf "text_of" "text_of" (defArgs sTextOf) (defBody sTextOf) (defScope sTextOf) .none kV_tx dc_tx pm_tx an_tx cd_tx ct_tx), sl_tx⟩)
    (c_tx : PySem.W.codeIn K cd_tx "text_of" = true)
    (k_tx : PySem.W.keepIn K (.ref f_tx) = true)
    (a_rt : PySem.W.nsIn K mainGlobals "row_text" = some (some (.ref f_rt)))
    (l_rt : K.lookup f_rt = some ⟨oc_rt, od_rt, .func (PySem.W.fnOf "row_text" "row_text" (defArgs sRowT) (defBody sRowT) (defScope sRowT) .none kV_rt dc_rt pm_rt an_rt cd_rt ct_rt), sl_rt⟩)
    (c_rt : PySem.W.codeIn K cd_rt "row_text" = true)
    (k_rt : PySem.W.keepIn K (.ref f_rt) = true)
    (a_of : PySem.W.nsIn K mainGlobals "_law_of" = some (some (.ref f_of)))
    (l_of : K.lookup f_of = some ⟨oc_of, od_of, .func (PySem.W.fnOf "_law_of" "_law_of" (defArgs sOf) (defBody sOf) (defScope sOf) .none kV_of dc_of pm_of an_of cd_of ct_of), sl_of⟩)
    (c_of : PySem.W.codeIn K cd_of "_law_of" = true)
    (k_of : PySem.W.keepIn K (.ref f_of) = true)
    (a_draw : PySem.W.nsIn K mainGlobals "_law_draw" = some (some (.ref f_draw)))
    (l_draw : K.lookup f_draw = some ⟨oc_draw, od_draw, .func (PySem.W.fnOf "_law_draw" "_law_draw" (defArgs sDraw) (defBody sDraw) (defScope sDraw) .none kV_draw dc_draw pm_draw an_draw cd_draw ct_draw), sl_draw⟩)
    (c_draw : PySem.W.codeIn K cd_draw "_law_draw" = true)
    (k_draw : PySem.W.keepIn K (.ref f_draw) = true)
    (a_letters : PySem.W.nsIn K mainGlobals "_law_letters" = some (some (.ref f_letters)))
    (l_letters : K.lookup f_letters = some ⟨oc_letters, od_letters, .func (PySem.W.fnOf "_law_letters" "_law_letters" (defArgs sLetters) (defBody sLetters) (defScope sLetters) .none kV_letters dc_letters pm_letters an_letters cd_letters ct_letters), sl_letters⟩)
    (c_letters : PySem.W.codeIn K cd_letters "_law_letters" = true)
    (k_letters : PySem.W.keepIn K (.ref f_letters) = true)
    (a_mixed : PySem.W.nsIn K mainGlobals "_law_mixed" = some (some (.ref f_mixed)))
    (l_mixed : K.lookup f_mixed = some ⟨oc_mixed, od_mixed, .func (PySem.W.fnOf "_law_mixed" "_law_mixed" (defArgs sLMix) (defBody sLMix) (defScope sLMix) .none kV_mixed dc_mixed pm_mixed an_mixed cd_mixed ct_mixed), sl_mixed⟩)
    (c_mixed : PySem.W.codeIn K cd_mixed "_law_mixed" = true)
    (k_mixed : PySem.W.keepIn K (.ref f_mixed) = true)
    (a_sides : PySem.W.nsIn K mainGlobals "_law_sides" = some (some (.ref f_sides)))
    (l_sides : K.lookup f_sides = some ⟨oc_sides, od_sides, .func (PySem.W.fnOf "_law_sides" "_law_sides" (defArgs sLSides) (defBody sLSides) (defScope sLSides) .none kV_sides dc_sides pm_sides an_sides cd_sides ct_sides), sl_sides⟩)
    (c_sides : PySem.W.codeIn K cd_sides "_law_sides" = true)
    (k_sides : PySem.W.keepIn K (.ref f_sides) = true)
    (a_number : PySem.W.nsIn K mainGlobals "_law_number" = some (some (.ref f_number)))
    (l_number : K.lookup f_number = some ⟨oc_number, od_number, .func (PySem.W.fnOf "_law_number" "_law_number" (defArgs sNumber) (defBody sNumber) (defScope sNumber) .none kV_number dc_number pm_number an_number cd_number ct_number), sl_number⟩)
    (c_number : PySem.W.codeIn K cd_number "_law_number" = true)
    (k_number : PySem.W.keepIn K (.ref f_number) = true)
    (a_name : PySem.W.nsIn K mainGlobals "_law_name" = some (some (.ref f_name)))
    (l_name : K.lookup f_name = some ⟨oc_name, od_name, .func (PySem.W.fnOf "_law_name" "_law_name" (defArgs sName) (defBody sName) (defScope sName) .none kV_name dc_name pm_name an_name cd_name ct_name), sl_name⟩)
    (c_name : PySem.W.codeIn K cd_name "_law_name" = true)
    (k_name : PySem.W.keepIn K (.ref f_name) = true)
    (a_tree : PySem.W.nsIn K mainGlobals "_law_tree" = some (some (.ref f_tree)))
    (l_tree : K.lookup f_tree = some ⟨oc_tree, od_tree, .func (PySem.W.fnOf "_law_tree" "_law_tree" (defArgs sTree) (defBody sTree) (defScope sTree) .none kV_tree dc_tree pm_tree an_tree cd_tree ct_tree), sl_tree⟩)
    (c_tree : PySem.W.codeIn K cd_tree "_law_tree" = true)
    (k_tree : PySem.W.keepIn K (.ref f_tree) = true)
    (a_text : PySem.W.nsIn K mainGlobals "_law_text" = some (some (.ref f_text)))
    (l_text : K.lookup f_text = some ⟨oc_text, od_text, .func (PySem.W.fnOf "_law_text" "_law_text" (defArgs sText) (defBody sText) (defScope sText) .none kV_text dc_text pm_text an_text cd_text ct_text), sl_text⟩)
    (c_text : PySem.W.codeIn K cd_text "_law_text" = true)
    (k_text : PySem.W.keepIn K (.ref f_text) = true)
    (a_same : PySem.W.nsIn K mainGlobals "_law_same" = some (some (.ref f_same)))
    (l_same : K.lookup f_same = some ⟨oc_same, od_same, .func (PySem.W.fnOf "_law_same" "_law_same" (defArgs sSame) (defBody sSame) (defScope sSame) .none kV_same dc_same pm_same an_same cd_same ct_same), sl_same⟩)
    (c_same : PySem.W.codeIn K cd_same "_law_same" = true)
    (k_same : PySem.W.keepIn K (.ref f_same) = true)
    (a_start : PySem.W.nsIn K mainGlobals "_law_start" = some (some (.ref f_start)))
    (l_start : K.lookup f_start = some ⟨oc_start, od_start, .func (PySem.W.fnOf "_law_start" "_law_start" (defArgs sStart) (defBody sStart) (defScope sStart) .none kV_start dc_start pm_start an_start cd_start ct_start), sl_start⟩)
    (c_start : PySem.W.codeIn K cd_start "_law_start" = true)
    (k_start : PySem.W.keepIn K (.ref f_start) = true)
    (a_rr : PySem.W.nsIn K mainGlobals "read_row" = some (some (.ref f_rr)))
    (l_rr : K.lookup f_rr = some ⟨oc_rr, od_rr, .func (PySem.W.fnOf "read_row" "read_row" (defArgs sReadRow) (defBody sReadRow) (defScope sReadRow) .none kV_rr dc_rr pm_rr an_rr cd_rr ct_rr), sl_rr⟩)
    (c_rr : PySem.W.codeIn K cd_rr "read_row" = true)
    (k_rr : PySem.W.keepIn K (.ref f_rr) = true)
    (a_CH : PySem.W.nsIn K mainGlobals "HallError" = some (some (.ref CH)))
    (a_CB : PySem.W.nsIn K mainGlobals "BadText" = some (some (.ref CB)))
    (i_H : PySem.W.findCls K (.ref CH) (.type "type") "__init__" = some (.val (.ref f_iH)))
    (r_H : PySem.W.readsIn K CH (.type "type") = true)
    (g_H : PySem.W.specialIn K (.ref CH) "__getattribute__" = some (some (.builtin "type.__getattribute__")))
    (v_V : PySem.W.findCls K (.type "ValueError") (.type "type") "__init__" = some (.val (.builtin "ValueError.__init__")))
    (x_CB : K.lookup CB = some (excClassObj nm_CB q_CB CB N_CB bs_CB bm_CB true sn_CB sub_CB ab_CB col_CB dd_CB m0_CB m1_CB m2_CB m3_CB m5_CB "ValueError.__new__"))
    (rv_CB : PySem.HandSPX.refsVE bm_CB = true)
    (sa_CB : PySem.W.findIn K (.ref CB) "__setattr__" = some (some (.builtin "object.__setattr__")))
    (ga_CB : PySem.W.findIn K (.ref CB) "__getattribute__" = some (some (.builtin "BaseException.__getattribute__")))
    (gg_CB : PySem.W.findIn K (.ref CB) "__getattr__" = some none)
    (hd_CB : PySem.W.hasDictIn K CB = true)
    (ex_CB : PySem.W.subIn K (.ref CB) (.type "BaseException") = some true)
    (ty_CB : PySem.W.typeIn K (.ref CB) = some (.type "type"))
    (kc_CB : PySem.W.keepIn K (.ref CB) = true)
    (i_CB : PySem.W.findIn K (.ref CB) "__init__" = some (some (.ref f_iB)))
    (t_CB : PySem.W.typeIn K (.ref f_iB) = some (.type "function"))
    (n_CB_word : PySem.W.findIn K (.ref CB) "word" = some none)
    (n_CB_at : PySem.W.findIn K (.ref CB) "at" = some none)
    (l_iH : K.lookup f_iH = some ⟨oc_iH, od_iH, .func (PySem.W.fnOf "__init__" "HallError.__init__" (defArgs sHEinit) (defBody sHEinit) (defScope sHEinit) .none kV_iH dc_iH pm_iH an_iH cd_iH ct_iH), sl_iH⟩)
    (c_iH : PySem.W.codeIn K cd_iH "HallError.__init__" = true)
    (k_iH : PySem.W.keepIn K (.ref f_iH) = true)
    (l_iB : K.lookup f_iB = some ⟨oc_iB, od_iB, .func (PySem.W.fnOf "__init__" "BadText.__init__" (defArgs sBTinit) (defBody sBTinit) (defScope sBTinit) .none kV_iB dc_iB pm_iB an_iB cd_iB ct_iB), sl_iB⟩)
    (c_iB : PySem.W.codeIn K cd_iB "BadText.__init__" = true)
    (k_iB : PySem.W.keepIn K (.ref f_iB) = true)
    (a_RC : PySem.W.nsIn K mainGlobals "Reader" = some (some (.ref RC)))
    (i_RC : PySem.W.findIn K (.ref RC) "__init__" = some (some (.ref f_qini)))
    (j_RC : PySem.W.isFn K (.ref f_qini) = true)
    (pg_RC : PySem.W.plainGet K RC Str.empty = true)
    (hd_RC : PySem.W.hasDictIn K RC = true)
    (po_RC : PySem.W.plainOver K RC = true)
    (sa_RC : PySem.W.findIn K (.ref RC) "__setattr__" = some (some (.builtin "object.__setattr__")))
    (mk_RC : PySem.W.makesIn K RC = true)
    (kp_RC : PySem.W.keepIn K (.ref RC) = true)
    (n1_RC : PySem.W.findIn K (.ref RC) "text" = some none)
    (n2_RC : PySem.W.findIn K (.ref RC) "at" = some none)
    (n3_RC : PySem.W.findIn K (.ref RC) "begun" = some none)
    (b_qsg : PySem.W.findIn K (.ref RC) "sign" = some (some (.ref f_qsg)))
    (m_qsg : PySem.W.isFn K (.ref f_qsg) = true)
    (l_qsg : K.lookup f_qsg = some ⟨oc_qsg, od_qsg, .func (PySem.W.fnOf "sign" "Reader.sign" (defArgs sRd_sg) (defBody sRd_sg) (defScope sRd_sg) .none kV_qsg dc_qsg pm_qsg an_qsg cd_qsg ct_qsg), sl_qsg⟩)
    (c_qsg : PySem.W.codeIn K cd_qsg "Reader.sign" = true)
    (k_qsg : PySem.W.keepIn K (.ref f_qsg) = true)
    (b_qsd : PySem.W.findIn K (.ref RC) "stands" = some (some (.ref f_qsd)))
    (m_qsd : PySem.W.isFn K (.ref f_qsd) = true)
    (l_qsd : K.lookup f_qsd = some ⟨oc_qsd, od_qsd, .func (PySem.W.fnOf "stands" "Reader.stands" (defArgs sRd_sd) (defBody sRd_sd) (defScope sRd_sd) .none kV_qsd dc_qsd pm_qsd an_qsd cd_qsd ct_qsd), sl_qsd⟩)
    (c_qsd : PySem.W.codeIn K cd_qsd "Reader.stands" = true)
    (k_qsd : PySem.W.keepIn K (.ref f_qsd) = true)
    (b_qtk : PySem.W.findIn K (.ref RC) "take" = some (some (.ref f_qtk)))
    (m_qtk : PySem.W.isFn K (.ref f_qtk) = true)
    (l_qtk : K.lookup f_qtk = some ⟨oc_qtk, od_qtk, .func (PySem.W.fnOf "take" "Reader.take" (defArgs sRd_tk) (defBody sRd_tk) (defScope sRd_tk) .none kV_qtk dc_qtk pm_qtk an_qtk cd_qtk ct_qtk), sl_qtk⟩)
    (c_qtk : PySem.W.codeIn K cd_qtk "Reader.take" = true)
    (k_qtk : PySem.W.keepIn K (.ref f_qtk) = true)
    (b_qlt : PySem.W.findIn K (.ref RC) "letters_taken" = some (some (.ref f_qlt)))
    (m_qlt : PySem.W.isFn K (.ref f_qlt) = true)
    (l_qlt : K.lookup f_qlt = some ⟨oc_qlt, od_qlt, .func (PySem.W.fnOf "letters_taken" "Reader.letters_taken" (defArgs sRd_lt) (defBody sRd_lt) (defScope sRd_lt) .none kV_qlt dc_qlt pm_qlt an_qlt cd_qlt ct_qlt), sl_qlt⟩)
    (c_qlt : PySem.W.codeIn K cd_qlt "Reader.letters_taken" = true)
    (k_qlt : PySem.W.keepIn K (.ref f_qlt) = true)
    (b_qnm : PySem.W.findIn K (.ref RC) "number" = some (some (.ref f_qnm)))
    (m_qnm : PySem.W.isFn K (.ref f_qnm) = true)
    (l_qnm : K.lookup f_qnm = some ⟨oc_qnm, od_qnm, .func (PySem.W.fnOf "number" "Reader.number" (defArgs sRd_nm) (defBody sRd_nm) (defScope sRd_nm) .none kV_qnm dc_qnm pm_qnm an_qnm cd_qnm ct_qnm), sl_qnm⟩)
    (c_qnm : PySem.W.codeIn K cd_qnm "Reader.number" = true)
    (k_qnm : PySem.W.keepIn K (.ref f_qnm) = true)
    (b_qgr : PySem.W.findIn K (.ref RC) "group" = some (some (.ref f_qgr)))
    (m_qgr : PySem.W.isFn K (.ref f_qgr) = true)
    (l_qgr : K.lookup f_qgr = some ⟨oc_qgr, od_qgr, .func (PySem.W.fnOf "group" "Reader.group" (defArgs sRd_gr) (defBody sRd_gr) (defScope sRd_gr) .none kV_qgr dc_qgr pm_qgr an_qgr cd_qgr ct_qgr), sl_qgr⟩)
    (c_qgr : PySem.W.codeIn K cd_qgr "Reader.group" = true)
    (k_qgr : PySem.W.keepIn K (.ref f_qgr) = true)
    (b_qsp : PySem.W.findIn K (.ref RC) "step" = some (some (.ref f_qsp)))
    (m_qsp : PySem.W.isFn K (.ref f_qsp) = true)
    (l_qsp : K.lookup f_qsp = some ⟨oc_qsp, od_qsp, .func (PySem.W.fnOf "step" "Reader.step" (defArgs sRd_sp) (defBody sRd_sp) (defScope sRd_sp) .none kV_qsp dc_qsp pm_qsp an_qsp cd_qsp ct_qsp), sl_qsp⟩)
    (c_qsp : PySem.W.codeIn K cd_qsp "Reader.step" = true)
    (k_qsp : PySem.W.keepIn K (.ref f_qsp) = true)
    (b_qrw : PySem.W.findIn K (.ref RC) "row" = some (some (.ref f_qrw)))
    (m_qrw : PySem.W.isFn K (.ref f_qrw) = true)
    (l_qrw : K.lookup f_qrw = some ⟨oc_qrw, od_qrw, .func (PySem.W.fnOf "row" "Reader.row" (defArgs sRd_rw) (defBody sRd_rw) (defScope sRd_rw) .none kV_qrw dc_qrw pm_qrw an_qrw cd_qrw ct_qrw), sl_qrw⟩)
    (c_qrw : PySem.W.codeIn K cd_qrw "Reader.row" = true)
    (k_qrw : PySem.W.keepIn K (.ref f_qrw) = true)
    (l_qini : K.lookup f_qini = some ⟨oc_qini, od_qini, .func (PySem.W.fnOf "__init__" "Reader.__init__" (defArgs sRd_ini) (defBody sRd_ini) (defScope sRd_ini) .none kV_qini dc_qini pm_qini an_qini cd_qini ct_qini), sl_qini⟩)
    (c_qini : PySem.W.codeIn K cd_qini "Reader.__init__" = true)
    (k_qini : PySem.W.keepIn K (.ref f_qini) = true)
    (z_list : PySem.W.nsIn K mainGlobals "list" = some none)
    (z_sorted : PySem.W.nsIn K mainGlobals "sorted" = some none)
    (z_set : PySem.W.nsIn K mainGlobals "set" = some none)
    (z_all : PySem.W.nsIn K mainGlobals "all" = some none)
    (z_len : PySem.W.nsIn K mainGlobals "len" = some none)
    (z_enumerate : PySem.W.nsIn K mainGlobals "enumerate" = some none)
    (z_range : PySem.W.nsIn K mainGlobals "range" = some none)
    (z_isinstance : PySem.W.nsIn K mainGlobals "isinstance" = some none)
    (z_tuple : PySem.W.nsIn K mainGlobals "tuple" = some none)
    (z_ValueError : PySem.W.nsIn K mainGlobals "ValueError" = some none)
    (z_bool : PySem.W.nsIn K mainGlobals "bool" = some none)
    (z_str : PySem.W.nsIn K mainGlobals "str" = some none)
    (z_int : PySem.W.nsIn K mainGlobals "int" = some none)
    (e_wSMALL : PySem.W.nsIn K mainGlobals "SMALL" = some (some (.str SM t1)))
    (e_wLETTERS : PySem.W.nsIn K mainGlobals "LETTERS" = some (some (.str LT t2)))
    (e_wFIGURES : PySem.W.nsIn K mainGlobals "FIGURES" = some (some (.str DG t3)))
    (e_wMOST_STEPS : PySem.W.nsIn K mainGlobals "MOST_STEPS" = some (some (.int 60 t4)))
    (e_wMOST_DEEP : PySem.W.nsIn K mainGlobals "MOST_DEEP" = some (some (.int 12 t5)))
    (e_wMOST_TIMES : PySem.W.nsIn K mainGlobals "MOST_TIMES" = some (some (.int (10 ^ 30) t6)))
    (e_wMOST_SIDES : PySem.W.nsIn K mainGlobals "MOST_SIDES" = some (some (.int 12 t7)))
    (e_wLONGEST_NAME : PySem.W.nsIn K mainGlobals "LONGEST_NAME" = some (some (.int 8 t8)))
    (a_L : PySem.W.nsIn K mainGlobals "law" = some (some (.ref fL)))
    (l_L : K.lookup fL = some ⟨ocL, odL, .func (PySem.W.fnOf "law" "law" (defArgs sLaw) (defBody sLaw) (defScope sLaw) .none kVL dcL pmL anL (.ref c) ctL), slL⟩)
    (c_L : PySem.W.codeIn K (.ref c) "law" = true)
    (k_L : PySem.W.keepIn K (.ref fL) = true)
    : LamX.LawAtS l w K CX0 45 63 "_law_script" mg fa h := by
  have F_w := fun_mk (st := sIsWord) l_w c_w k_w
  have D_w : DF K mg "is_word" sIsWord ["thing", "letters", "fewest", "most"] f_w _ := ⟨F_w, PySem.W.mg_of X G a_w, F_w.binds (ps := ["thing", "letters", "fewest", "most"]) fun _ _ _ _ _ _ us hl => match us, hl with | [_, _, _, _], _ => rfl⟩
  have F_n := fun_mk (st := sIsName) l_n c_n k_n
  have D_n : DF K mg "is_name" sIsName ["thing"] f_n _ := ⟨F_n, PySem.W.mg_of X G a_n, F_n.binds (ps := ["thing"]) fun _ _ _ _ _ _ us hl => match us, hl with | [_], _ => rfl⟩
  have F_nu := fun_mk (st := sIsNum) l_nu c_nu k_nu
  have D_nu : DF K mg "is_number" sIsNum ["thing", "most"] f_nu _ := ⟨F_nu, PySem.W.mg_of X G a_nu, F_nu.binds (ps := ["thing", "most"]) fun _ _ _ _ _ _ us hl => match us, hl with | [_, _], _ => rfl⟩
  have F_tu := fun_mk (st := sIsTup) l_tu c_tu k_tu
  have D_tu : DF K mg "is_tuple_of" sIsTup ["thing", "many"] f_tu _ := ⟨F_tu, PySem.W.mg_of X G a_tu, F_tu.binds (ps := ["thing", "many"]) fun _ _ _ _ _ _ us hl => match us, hl with | [_, _], _ => rfl⟩
  have F_pl := fun_mk (st := sIsPlain) l_pl c_pl k_pl
  have D_pl : DF K mg "is_plain_step" sIsPlain ["step"] f_pl _ := ⟨F_pl, PySem.W.mg_of X G a_pl, F_pl.binds (ps := ["step"]) fun _ _ _ _ _ _ us hl => match us, hl with | [_], _ => rfl⟩
  have F_gh := fun_mk (st := sIsHead) l_gh c_gh k_gh
  have D_gh : DF K mg "is_group_head" sIsHead ["step"] f_gh _ := ⟨F_gh, PySem.W.mg_of X G a_gh, F_gh.binds (ps := ["step"]) fun _ _ _ _ _ _ us hl => match us, hl with | [_], _ => rfl⟩
  have F_ls := fun_mk (st := sLbS) l_ls c_ls k_ls
  have D_ls : DF K mg "left_behind_step" sLbS ["step", "deep", "left"] f_ls _ := ⟨F_ls, PySem.W.mg_of X G a_ls, F_ls.binds (ps := ["step", "deep", "left"]) fun _ _ _ _ _ _ us hl => match us, hl with | [_, _, _], _ => rfl⟩
  have F_lb := fun_mk (st := sLb) l_lb c_lb k_lb
  have D_lb : DF K mg "left_behind" sLb ["row", "deep", "left"] f_lb _ := ⟨F_lb, PySem.W.mg_of X G a_lb, F_lb.binds (ps := ["row", "deep", "left"]) fun _ _ _ _ _ _ us hl => match us, hl with | [_, _, _], _ => rfl⟩
  have F_ir := fun_mk (st := sIsRow) l_ir c_ir k_ir
  have D_ir : DF K mg "is_row" sIsRow ["tree"] f_ir _ := ⟨F_ir, PySem.W.mg_of X G a_ir, F_ir.binds (ps := ["tree"]) fun _ _ _ _ _ _ us hl => match us, hl with | [_], _ => rfl⟩
  have F_cr := fun_mk (st := sChkRow) l_cr c_cr k_cr
  have D_cr : DF K mg "check_row" sChkRow ["tree"] f_cr _ := ⟨F_cr, PySem.W.mg_of X G a_cr, F_cr.binds (ps := ["tree"]) fun _ _ _ _ _ _ us hl => match us, hl with | [_], _ => rfl⟩
  have F_st := fun_mk (st := sStepT) l_st c_st k_st
  have D_st : DF K mg "step_text" sStepT ["step"] f_st _ := ⟨F_st, PySem.W.mg_of X G a_st, F_st.binds (ps := ["step"]) fun _ _ _ _ _ _ us hl => match us, hl with | [_], _ => rfl⟩
  have F_tx := fun_mk (st := sTextOf) l_tx c_tx k_tx
  have D_tx : DF K mg "text_of" sTextOf ["row"] f_tx _ := ⟨F_tx, PySem.W.mg_of X G a_tx, F_tx.binds (ps := ["row"]) fun _ _ _ _ _ _ us hl => match us, hl with | [_], _ => rfl⟩
  have F_rt := fun_mk (st := sRowT) l_rt c_rt k_rt
  have D_rt : DF K mg "row_text" sRowT ["tree"] f_rt _ := ⟨F_rt, PySem.W.mg_of X G a_rt, F_rt.binds (ps := ["tree"]) fun _ _ _ _ _ _ us hl => match us, hl with | [_], _ => rfl⟩
  have F_of := fun_mk (st := sOf) l_of c_of k_of
  have D_of : DF K mg "_law_of" sOf ["_law_d", "_law_some"] f_of _ := ⟨F_of, PySem.W.mg_of X G a_of, F_of.binds (ps := ["_law_d", "_law_some"]) fun _ _ _ _ _ _ us hl => match us, hl with | [_, _], _ => rfl⟩
  have F_draw := fun_mk (st := sDraw) l_draw c_draw k_draw
  have D_draw : DF K mg "_law_draw" sDraw ["_law_d", "_law_many"] f_draw _ := ⟨F_draw, PySem.W.mg_of X G a_draw, F_draw.binds (ps := ["_law_d", "_law_many"]) fun _ _ _ _ _ _ us hl => match us, hl with | [_, _], _ => rfl⟩
  have F_letters := fun_mk (st := sLetters) l_letters c_letters k_letters
  have D_letters : DF K mg "_law_letters" sLetters [] f_letters _ := ⟨F_letters, PySem.W.mg_of X G a_letters, F_letters.binds (ps := []) fun _ _ _ _ _ _ us hl => match us, hl with | [], _ => rfl⟩
  have F_mixed := fun_mk (st := sLMix) l_mixed c_mixed k_mixed
  have D_mixed : DF K mg "_law_mixed" sLMix ["_law_d", "_law_some"] f_mixed _ := ⟨F_mixed, PySem.W.mg_of X G a_mixed, F_mixed.binds (ps := ["_law_d", "_law_some"]) fun _ _ _ _ _ _ us hl => match us, hl with | [_, _], _ => rfl⟩
  have F_sides := fun_mk (st := sLSides) l_sides c_sides k_sides
  have D_sides : DF K mg "_law_sides" sLSides ["_law_d", "_law_shuts"] f_sides _ := ⟨F_sides, PySem.W.mg_of X G a_sides, F_sides.binds (ps := ["_law_d", "_law_shuts"]) fun _ _ _ _ _ _ us hl => match us, hl with | [_, _], _ => rfl⟩
  have F_number := fun_mk (st := sNumber) l_number c_number k_number
  have D_number : DF K mg "_law_number" sNumber ["_law_d"] f_number _ := ⟨F_number, PySem.W.mg_of X G a_number, F_number.binds (ps := ["_law_d"]) fun _ _ _ _ _ _ us hl => match us, hl with | [_], _ => rfl⟩
  have F_name := fun_mk (st := sName) l_name c_name k_name
  have D_name : DF K mg "_law_name" sName ["_law_d"] f_name _ := ⟨F_name, PySem.W.mg_of X G a_name, F_name.binds (ps := ["_law_d"]) fun _ _ _ _ _ _ us hl => match us, hl with | [_], _ => rfl⟩
  have F_tree := fun_mk (st := sTree) l_tree c_tree k_tree
  have D_tree : DF K mg "_law_tree" sTree ["_law_d", "_law_left", "_law_deep"] f_tree _ := ⟨F_tree, PySem.W.mg_of X G a_tree, F_tree.binds (ps := ["_law_d", "_law_left", "_law_deep"]) fun _ _ _ _ _ _ us hl => match us, hl with | [_, _, _], _ => rfl⟩
  have F_text := fun_mk (st := sText) l_text c_text k_text
  have D_text : DF K mg "_law_text" sText ["_law_tree_here"] f_text _ := ⟨F_text, PySem.W.mg_of X G a_text, F_text.binds (ps := ["_law_tree_here"]) fun _ _ _ _ _ _ us hl => match us, hl with | [_], _ => rfl⟩
  have F_same := fun_mk (st := sSame) l_same c_same k_same
  have D_same : DF K mg "_law_same" sSame ["_law_x", "_law_due"] f_same _ := ⟨F_same, PySem.W.mg_of X G a_same, F_same.binds (ps := ["_law_x", "_law_due"]) fun _ _ _ _ _ _ us hl => match us, hl with | [_, _], _ => rfl⟩
  have F_start := fun_mk (st := sStart) l_start c_start k_start
  have D_start : DF K mg "_law_start" sStart ["_law_script"] f_start _ := ⟨F_start, PySem.W.mg_of X G a_start, F_start.binds (ps := ["_law_script"]) fun _ _ _ _ _ _ us hl => match us, hl with | [_], _ => rfl⟩
  have F_rr := fun_mk (st := sReadRow) l_rr c_rr k_rr
  have D_rr : DF K mg "read_row" sReadRow ["text"] f_rr _ := ⟨F_rr, PySem.W.mg_of X G a_rr, F_rr.binds (ps := ["text"]) fun _ _ _ _ _ _ us hl => match us, hl with | [_], _ => rfl⟩
  have F_iH := fun_mk (st := sHEinit) l_iH c_iH k_iH
  have b_iH := F_iH.binds (ps := ["self", "word"]) fun _ _ _ _ _ _ us hl => match us, hl with | [_, _], _ => rfl
  have F_iB := fun_mk (st := sBTinit) l_iB c_iB k_iB
  have b_iB := F_iB.binds (ps := ["self", "at"]) fun _ _ _ _ _ _ us hl => match us, hl with | [_, _], _ => rfl
  have e := hfa.symm.trans (PySem.W.mg_of X G a_L)
  cases e
  have B : BM mg := ⟨PySem.W.mg_none_of X G z_list, PySem.W.mg_none_of X G z_sorted, PySem.W.mg_none_of X G z_set, PySem.W.mg_none_of X G z_all, PySem.W.mg_none_of X G z_len, PySem.W.mg_none_of X G z_enumerate, PySem.W.mg_none_of X G z_range, PySem.W.mg_none_of X G z_isinstance, PySem.W.mg_none_of X G z_tuple⟩
  have he : HE K mg CH f_iH _ := ⟨PySem.W.mg_of X G a_CH, ⟨_, ⟨r_H, g_H⟩, i_H⟩, F_iH, b_iH, PySem.W.mg_none_of X G z_ValueError, v_V⟩
  have xCB : XC K mg "BadText" "BadText.__init__" sBTinit "at" CB f_iB _ := ⟨PySem.W.mg_of X G a_CB, ⟨⟨_, _, _, _, _, _, _, _, _, _, _, _, _, _, _, x_CB, rv_CB⟩, sa_CB, ex_CB, ty_CB, kc_CB⟩, n_CB_word, n_CB_at, i_CB, t_CB, F_iB, b_iB⟩
  have F_qsg := fun_mk (st := sRd_sg) l_qsg c_qsg k_qsg
  have b1_qsg := F_qsg.binds (ps := ["self"]) fun _ _ _ _ _ _ us hl => match us, hl with | [_], _ => rfl
  have F_qsd := fun_mk (st := sRd_sd) l_qsd c_qsd k_qsd
  have b1_qsd := F_qsd.binds (ps := ["self", "signs"]) fun _ _ _ _ _ _ us hl => match us, hl with | [_, _], _ => rfl
  have F_qtk := fun_mk (st := sRd_tk) l_qtk c_qtk k_qtk
  have b1_qtk := F_qtk.binds (ps := ["self", "signs"]) fun _ _ _ _ _ _ us hl => match us, hl with | [_, _], _ => rfl
  have F_qlt := fun_mk (st := sRd_lt) l_qlt c_qlt k_qlt
  have b1_qlt := F_qlt.binds (ps := ["self", "letters", "fewest", "most"]) fun _ _ _ _ _ _ us hl => match us, hl with | [_, _, _, _], _ => rfl
  have F_qnm := fun_mk (st := sRd_nm) l_qnm c_qnm k_qnm
  have b1_qnm := F_qnm.binds (ps := ["self"]) fun _ _ _ _ _ _ us hl => match us, hl with | [_], _ => rfl
  have F_qgr := fun_mk (st := sRd_gr) l_qgr c_qgr k_qgr
  have b1_qgr := F_qgr.binds (ps := ["self", "deep"]) fun _ _ _ _ _ _ us hl => match us, hl with | [_, _], _ => rfl
  have F_qsp := fun_mk (st := sRd_sp) l_qsp c_qsp k_qsp
  have b1_qsp := F_qsp.binds (ps := ["self", "deep"]) fun _ _ _ _ _ _ us hl => match us, hl with | [_, _], _ => rfl
  have F_qrw := fun_mk (st := sRd_rw) l_qrw c_qrw k_qrw
  have b1_qrw := F_qrw.binds (ps := ["self", "deep"]) fun _ _ _ _ _ _ us hl => match us, hl with | [_, _], _ => rfl
  have F_qini := fun_mk (st := sRd_ini) l_qini c_qini k_qini
  have b1_qini := F_qini.binds (ps := ["self", "text"]) fun _ _ _ _ _ _ us hl => match us, hl with | [_, _], _ => rfl
  have rd : RowD K mg f_w f_n f_nu f_tu f_pl f_gh f_ls f_lb f_ir _ _ _ _ _ _ _ _ _ := ⟨D_w, D_n, D_nu, D_tu, D_pl, D_gh, D_ls, D_lb, D_ir, ⟨_, PySem.W.mg_of X G e_wSMALL⟩, ⟨_, PySem.W.mg_of X G e_wLETTERS⟩, ⟨_, PySem.W.mg_of X G e_wMOST_STEPS⟩, ⟨_, PySem.W.mg_of X G e_wMOST_DEEP⟩, ⟨_, PySem.W.mg_of X G e_wMOST_TIMES⟩, ⟨_, PySem.W.mg_of X G e_wMOST_SIDES⟩, ⟨_, PySem.W.mg_of X G e_wLONGEST_NAME⟩, (PySem.W.mg_none_of X G z_isinstance), (PySem.W.mg_none_of X G z_str), (PySem.W.mg_none_of X G z_len), (PySem.W.mg_none_of X G z_all), (PySem.W.mg_none_of X G z_int), (PySem.W.mg_none_of X G z_bool), (PySem.W.mg_none_of X G z_tuple)⟩
  have rt : RowT K mg f_cr f_st f_tx f_rt _ _ _ _ := ⟨D_cr, D_st, D_tx, D_rt, (PySem.W.mg_none_of X G z_str)⟩
  have rc : RdC K mg RC f_qini f_qsg f_qsd f_qtk f_qlt f_qnm f_qgr f_qsp f_qrw _ _ _ _ _ _ _ _ _ := ⟨PySem.W.mg_of X G a_RC, ⟨pg_RC, hd_RC, po_RC, sa_RC⟩, ⟨mk_RC, i_RC, j_RC, kp_RC⟩, n1_RC, n2_RC, n3_RC, F_qini, b1_qini, F_qsg, b1_qsg, ⟨b_qsg, m_qsg, k_qsg⟩, F_qsd, b1_qsd, ⟨b_qsd, m_qsd, k_qsd⟩, F_qtk, b1_qtk, ⟨b_qtk, m_qtk, k_qtk⟩, F_qlt, b1_qlt, ⟨b_qlt, m_qlt, k_qlt⟩, F_qnm, b1_qnm, ⟨b_qnm, m_qnm, k_qnm⟩, F_qgr, b1_qgr, ⟨b_qgr, m_qgr, k_qgr⟩, F_qsp, b1_qsp, ⟨b_qsp, m_qsp, k_qsp⟩, F_qrw, b1_qrw, ⟨b_qrw, m_qrw, k_qrw⟩, ⟨_, PySem.W.mg_of X G e_wSMALL⟩, ⟨_, PySem.W.mg_of X G e_wLETTERS⟩, ⟨_, PySem.W.mg_of X G e_wFIGURES⟩, ⟨_, PySem.W.mg_of X G e_wMOST_STEPS⟩, ⟨_, PySem.W.mg_of X G e_wMOST_DEEP⟩, ⟨_, PySem.W.mg_of X G e_wMOST_TIMES⟩, ⟨_, PySem.W.mg_of X G e_wMOST_SIDES⟩, ⟨_, PySem.W.mg_of X G e_wLONGEST_NAME⟩, (PySem.W.mg_none_of X G z_len), (PySem.W.mg_none_of X G z_int), (PySem.W.mg_none_of X G z_tuple)⟩
  have rl : RL K mg f_of f_draw f_letters f_mixed f_sides f_number f_name f_tree f_text _ _ _ _ _ _ _ _ _ := ⟨D_of, D_draw, D_letters, D_mixed, D_sides, D_number, D_name, D_tree, D_text, (PySem.W.mg_none_of X G z_str), (PySem.W.mg_none_of X G z_int)⟩
  exact ⟨_, [], spLaw K, nofun, nofun, nofun, fun s u => .of_eq rfl, fun H a ns hl hb hH hS => ⟨a, ns, rfl, hS, fun _ => rfl⟩, fun base KB GB TB => ok_law (k := 0) (fun_mk (st := sLaw) l_L c_L k_L) B (PySem.W.mg_none_of X G z_bool) rd rt rc he xCB D_rr D_same D_start rl⟩
end NC
noncomputable section
namespace HC
open PySem PySem.W PySem.Calls PyProof.Rows HeadRun
def execsQ := PySem.W.Fast.tw12563942051412417395
theorem execsQ_eq : @PySem.execs = execsQ := PySem.W.Fast.te12563942051412417395
def blockQ := PySem.W.Fast.tw1066825118222455980
theorem blockQ_eq : @PySem.blockStart = blockQ := PySem.W.Fast.te1066825118222455980
section
variable (go : SharedT → Thread → Option (SharedT × Thread)) (lo : Nat) (an : Option Value)
/-- some statements, to their end -/
def goS : Nat → SharedT → Thread → Option (Flow × SharedT × Code × Pos)
  | 0, _, _ => none
  | m + 1, S, T => match endAt 1 T with
    | some x => some (x, S, T.code, T.pos)
    | none => match stepOk lo an T with
      | false => none
      | true => match go S T with
        | none => none
        | some (S', T') => frS S' fun S2 => goS m S2 T'
/-- so many steps of the top -/
def goG : Nat → SharedT → Thread → Option (SharedT × Thread)
  | 0, S, T => some (S, T)
  | m + 1, S, T => match through T with
    | true => none
    | false => match stepOk lo an T with
      | false => none
      | true => match go S T with
        | none => none
        | some (S', T') => frS S' fun S2 => goG m S2 T'
end
section
variable {tb : String → Option Builtin} {p : Program} {w : World} {lo : Nat} {an : Option Value}
theorem goS_ok : ∀ {m : Nat} {S S' : SharedT} {T : Thread} {x : Flow} {c : Code} {q : Pos}, goS (stepT (denote tb) p w) lo an m S T = some (x, S', c, q) → segRun tb p w lo an 1 m S.abs T = some (x, S'.abs, c, q)
  | 0, _, _, _, _, _, _, h => nomatch h
  | m + 1, S, S', T, x, c, q, h => by
    unfold goS at h
    unfold segRun
    cases h1 : endAt 1 T with
    | some y =>
      simp only [h1, Option.some.injEq, Prod.mk.injEq] at h ⊢
      obtain ⟨a, b, d, e⟩ := h
      exact ⟨a, by rw [b], d, e⟩
    | none =>
      cases h2 : stepOk lo an T with
      | false => simp [h1, h2] at h
      | true =>
        cases h3 : stepT (denote tb) p w S T with
        | none => simp [h1, h2, h3] at h
        | some r =>
          obtain ⟨S2, T2⟩ := r
          simp only [h1, h2, h3, frS_eq] at h
          simp only [stepT_spec h3]
          exact goS_ok h
theorem goG_ok : ∀ {m : Nat} {S S' : SharedT} {T T' : Thread}, goG (stepT (denote tb) p w) lo an m S T = some (S', T') → topGo tb p w lo an m S.abs T = some (S'.abs, T')
  | 0, S, S', T, T', h => by
    unfold goG at h
    simp only [Option.some.injEq, Prod.mk.injEq] at h
    obtain ⟨a, b⟩ := h
    rw [← a, ← b]
    rfl
  | m + 1, S, S', T, T', h => by
    unfold goG at h
    unfold topGo
    cases h1 : through T with
    | true => simp [h1] at h
    | false =>
      cases h2 : stepOk lo an T with
      | false => simp [h1, h2] at h
      | true =>
        cases h3 : stepT (denote tb) p w S T with
        | none => simp [h1, h2, h3] at h
        | some r =>
          obtain ⟨S2, T2⟩ := r
          simp only [h1, h2, h3, frS_eq] at h
          simp only [stepT_spec h3]
          exact goG_ok h
end
/-- the machine, by the twins -/
abbrev mq (p : Program) (w : World) : SharedT → Thread → Option (SharedT × Thread) := stepQ (denQ tabQ) p w
/-- a state by the list of its objects -/
def stL (w : World) (l : List Obj) (k : Nat) (os : OsState) : SharedT := match putAll l .nil 0 with
  | some (t, n) => ⟨t, n, (boot_heap w.params).life, #[], boot_drawn, k, os⟩
  | none => ⟨.nil, 0, (boot_heap w.params).life, #[], boot_drawn, k, os⟩
abbrev thS (l : List Stmt) (env : Env) (c : Code) (a : Pos) (q : Pos) : Thread := ⟨(execsQ l env).wrap doneF deadEnd id id, c, a, [topFrame q]⟩
abbrev thB (l : List Stmt) (env : Env) (c : Code) (a : Pos) (q : Pos) : Thread := ⟨(blockQ l env).wrap (fun _ => doneF .next) deadEnd id id, c, a, [topFrame q]⟩
section
variable {p : Program} {w : World} {lo : Nat} {an : Option Value} {env : Env} {q a a' : Pos} {c : Code} {m N : Nat} {S S' : SharedT} {l rest : List Stmt} {r : Shared}
theorem mq_eq : mq p w = stepT (denote treeTable) p w := by
  show stepQ (denQ tabQ) p w = _
  rw [← stepQ_eq, ← denQ_eq, ← tabQ_eq]
theorem run_seg (h : goS (mq p w) lo an m S (thS l env c a q) = some (.next, S', c, a')) (k : topRun treeTable p w lo an N S'.abs (restOf rest env c a' [topFrame q]) = some r) :
    topRun treeTable p w lo an (m + N) S.abs (restOf (l ++ rest) env c a [topFrame q]) = some r := by
  rw [mq_eq] at h
  unfold thS at h
  rw [← execsQ_eq] at h
  exact piece_app (goS_ok h) k
theorem run_end (h : goF (mq p w) lo an m S ⟨doneF .next, c, a, [topFrame q]⟩ = some S') : topRun treeTable p w lo an m S.abs (restOf [] env c a [topFrame q]) = some S'.abs := by
  rw [mq_eq] at h
  exact piece_nil (goF_ok h)
theorem run_top {m2 : Nat} {Sa Sb : SharedT} {ab : Pos} {b : List Stmt} (h0 : goG (mq p w) lo an m S (topStub p) = some (Sa, ⟨denQ tabQ (.body b env), .body b env, a, [topFrame q]⟩)) (h1 : goS (mq p w) lo an m2 Sa (thB b env (.body b env) a q) = some (.next, Sb, .body b env, ab))
    (k : topRun treeTable p w lo an N Sb.abs (restOf b env (.body b env) ab [topFrame q]) = some r) : topRun treeTable p w lo an (m + (m2 + N)) S.abs (topStub p) = some r := by
  rw [mq_eq] at h0 h1
  rw [← denQ_eq, ← tabQ_eq] at h0
  unfold thB at h1
  rw [← blockQ_eq] at h1
  exact go_top (goG_ok h0) (piece_block (goS_ok h1) k)
end
theorem boot_abs (w : World) (os : OsState) {t : PySem.W.BT} {n : Nat} (e : putAll (boot_heap w.params).objs.toList .nil 0 = some (t, n)) : (stL w (boot_heap w.params).objs.toList boot_toks os).abs = ⟨boot_heap w.params, #[], boot_drawn, boot_toks, os⟩ := by
  unfold stL
  rw [e]
  show (⟨absHeap t n (boot_heap w.params).life, #[], boot_drawn, boot_toks, os⟩ : Shared) = _
  rw [putAll_heap e]
end HC
namespace HC
open PySem PySem.W PySem.Calls PyProof.Rows HeadRun
def hpL (P : Params) (l : List Obj) : Heap := match putAll l .nil 0 with
  | some (t, n) => absHeap t n (boot_heap P).life
  | none => absHeap .nil 0 (boot_heap P).life
theorem stL_abs (w : World) (l : List Obj) (k : Nat) (os : OsState) : (stL w l k os).abs = ⟨hpL w.params l, #[], boot_drawn, k, os⟩ := by
  unfold stL hpL
  cases putAll l .nil 0 <;> rfl
/-- the row's equation from the runs -/
theorem left_cut {p q : Program} {loose : List PySem.Str} {Xt : Shared → Bool} {H : Hook} {ob : SharedT → H.α} {N M lo kF : Nat} {an : Option Value} {F : Params → List Obj} (ho : ∀ S : SharedT, ob S = H.obs S.abs)
    (e : opening p = plainProg p.main.scope.names) (hN : Nat.ble 600 N = true) (f : ∀ s, fenceModules? p s = some s) (le : Nat.ble M N = true)
    (size : ∀ w : World, ((boot_heap w.params).isNs mainGlobals && (#[] : Array GenState).size == 0, (boot_heap w.params).objs.size, (boot_heap w.params).nsMap mainGlobals "__annotations__") = (true, lo, an))
    (tre : ∀ w : World, (putAll (boot_heap w.params).objs.toList .nil 0).isSome = true)
    (run : ∀ (w : World) (os : OsState), topRun treeTable p w lo an M (stL w (boot_heap w.params).objs.toList boot_toks os).abs (topStub p) = some (stL w (F w.params) kF os).abs)
    (looks : ∀ (w : World) (os : OsState), (fun S : SharedT => (looksF p (boot_heap w.params) S.abs, seenQ q loose (importedModules p.main.body) Xt S.abs, ob S)) (stL w (F w.params) kF os) = (true, openGood q loose, H.val w)) :
    LeftO p q loose Xt H.obs H.val N true := by
  refine LeftO.of_pieces (H₀ := boot_heap) (H₁ := fun P => hpL P (F P)) (gs₀ := #[]) (gs₁ := #[]) (d₀ := boot_drawn) (d₁ := boot_drawn) (k₀ := boot_toks) (k₁ := kF) (boot_open e hN f) size (fun w os => ?_) le (fun w => ?_)
  · obtain ⟨⟨t, n⟩, ht⟩ := Option.isSome_iff_exists.mp (tre w)
    have z := run w os
    rw [boot_abs w os ht, stL_abs] at z
    exact z
  · funext os
    have z := looks w os
    obtain ⟨z1, z2, z3⟩ : _ ∧ _ ∧ _ := by simpa only [Prod.mk.injEq] using z
    have ab := stL_abs w (F w.params) kF os
    rw [← seenQ_eq, ab] at z2
    rw [ab] at z1
    rw [ho, ab] at z3
    exact Prod.ext z1 (Prod.ext z2 z3)
theorem obK {as : List Addr} (S : SharedT) : as.map (getT S) = as.map S.abs.heap.get? := List.map_congr_left fun a _ => getT_eq S a
end HC
end
set_option maxHeartbeats 0
noncomputable section
namespace HX
open PySem PySem.W PySem.Calls PyProof.Rows HeadRun HC L2
abbrev S := PySem.Str.ofString
abbrev V (l : List Value) : Array Value := l.toArray
abbrev W (l : List (Option Value)) : Array (Option Value) := l.toArray
abbrev D (l : List DictEntry) : Array DictEntry := l.toArray
abbrev E (P : Params) (x : PySem.Str) (k : Tok) (v : Value) : DictEntry := ⟨PyData.keyHash P x, .str x k, v⟩
abbrev pw : Program := PySem.Challenge.pw_nearcall_k27_rows_written_and_read
abbrev rw_ : OpenLaw := PySem.Challenge.rw_nearcall_k27_rows_written_and_read
abbrev ST (i : Nat) : Stmt := pw.main.body.getD i (.Pass ⟨0, 0, 0, 0⟩)
def lv : List (PySem.Str × WData) := []
def o0 (P : Params) : Obj := ⟨(.type "tuple"), none, (.seq (V []) 0), (W [])⟩
def o1 (P : Params) : Obj := ⟨.none, none, (.fields (V [])), (W [])⟩
def o2 (P : Params) : Obj := ⟨(.type "code"), none, (.fields (V [(.str (S "<module>") 182), (.str (S "<module>") 183), (.str (S "/claim/cut.py") 184), (.int 1 0), (.int 0 0), (.int 0 0), (.int 0 0), (.int 0 0), (.ref 11), (.bool false), (.int 181 0), (.ref 12), .none, .none, .none, .none, (.int 185 0), (.int 1 0), (.str (S "/claim/cut.py") 186)])), (W [])⟩
def o3 (P : Params) : Obj := ⟨(.type "frame"), none, .plain, (W [(some (.ref 13)), (some (.ref 3)), (some (.ref 3)), none, (some (.str (S "__main__") 164)), none, (some (.ref 0))])⟩
def objs_a (P : Params) : List Obj :=
  [boot_o_0 P, boot_o_1 P, boot_o_2 P, boot_o_3 P, boot_o_4 P, boot_o_5 P, boot_o_6 P, boot_o_7 P, boot_o_8 P, boot_o_9 P, boot_o_10 P, o0 P, o1 P, o2 P, o3 P]
def objs_b (P : Params) : List Obj :=
  [boot_o_0 P, boot_o_1 P, boot_o_2 P, boot_o_3 P, boot_o_4 P, boot_o_5 P, boot_o_6 P, boot_o_7 P, boot_o_8 P, boot_o_9 P, boot_o_10 P, o0 P, o1 P, o2 P, o3 P]
def o4 (P : Params) : Obj := ⟨(.type "dict"), none, (.dict (D [E P (S "__name__") 165 (.str (S "nearcall.rows") 264), E P (S "__doc__") 166 .none, E P (S "__package__") 167 .none, E P (S "__loader__") 168 (.builtin "__main__.__loader__#opaque"), E P (S "__spec__") 169 .none, E P (S "__annotations__") 170 (.ref 6), E P (S "__builtins__") 171 (.ref 4), E P (S "__file__") 173 (.str (S "/claim/cut.py") 172), E P (S "__cached__") 174 .none, E P (S "HallError") 215 (.ref 31), E P (S "BadText") 240 (.ref 51), E P (S "BadTree") 263 (.ref 70), E P (S "MOST_STEPS") 267 (.int 60 266), E P (S "MOST_DEEP") 269 (.int 12 268), E P (S "MOST_TIMES") 273 (.int 1000000000000000000000000000000 272), E P (S "MOST_SIDES") 275 (.int 12 274), E P (S "LONGEST_NAME") 277 (.int 8 276), E P (S "SMALL") 279 (.str (S "abcdefghijklmnopqrstuvwxyz") 278), E P (S "LETTERS") 281 (.str (S "abcdefghijklmnopqrstuvwxyzABCDEFGHIJKLMNOPQRSTUVWXYZ") 280), E P (S "FIGURES") 283 (.str (S "0123456789") 282), E P (S "is_word") 289 (.ref 77), E P (S "is_name") 296 (.ref 84), E P (S "is_number") 304 (.ref 91), E P (S "is_tuple_of") 312 (.ref 98), E P (S "is_plain_step") 319 (.ref 105), E P (S "is_group_head") 326 (.ref 112), E P (S "left_behind_step") 335 (.ref 119), E P (S "left_behind") 345 (.ref 126), E P (S "is_row") 352 (.ref 133), E P (S "check_row") 359 (.ref 140)]) 30), (W [])⟩
def o5 (P : Params) : Obj := ⟨.none, none, (.fields (V [(.int 2 0), (.int 0 0), (.ref 20), (.int 7 0), (.int 0 0), (.ref 40), (.int 12 0), (.int 0 0), (.ref 59), (.int 25 0), (.int 0 0), (.ref 76), (.int 29 0), (.int 0 0), (.ref 83), (.int 31 0), (.int 0 0), (.ref 90), (.int 35 0), (.int 0 0), (.ref 97), (.int 37 0), (.int 0 0), (.ref 104), (.int 45 0), (.int 0 0), (.ref 111), (.int 47 0), (.int 0 0), (.ref 118), (.int 53 0), (.int 0 0), (.ref 125), (.int 61 0), (.int 0 0), (.ref 132), (.int 63 0), (.int 0 0), (.ref 139)])), (W [])⟩
def o6 (P : Params) : Obj := ⟨(.type "tuple"), none, (.seq (V [(.type "ValueError")]) 0), (W [])⟩
def o7 (P : Params) : Obj := ⟨(.type "builtin_function_or_method"), none, (.fields (V [(.builtin "type.__prepare__"), (.type "type")])), (W [])⟩
def o8 (P : Params) : Obj := ⟨(.type "dict"), none, (.dict (D [E P (S "__module__") 196 (.str (S "nearcall.errors") 187), E P (S "__qualname__") 198 (.str (S "HallError") 197), E P (S "__firstlineno__") 200 (.int 2 199), E P (S "__init__") 208 (.ref 28), E P (S "__static_attributes__") 210 (.ref 29)]) 5), (W [])⟩
def o9 (P : Params) : Obj := ⟨(.type "tuple"), none, (.seq (V []) 0), (W [])⟩
def o10 (P : Params) : Obj := ⟨.none, none, (.fields (V [(.int 4 0), (.int 4 0), (.ref 27)])), (W [])⟩
def o11 (P : Params) : Obj := ⟨(.type "code"), none, (.fields (V [(.str (S "HallError") 191), (.str (S "HallError") 192), (.str (S "/claim/cut.py") 193), (.int 2 0), (.int 0 0), (.int 0 0), (.int 0 0), (.int 0 0), (.ref 18), (.bool false), (.int 181 0), (.ref 19), .none, .none, .none, .none, (.int 194 0), (.int 2 0), (.str (S "/claim/cut.py") 195)])), (W [])⟩
def o12 (P : Params) : Obj := ⟨(.type "frame"), none, .plain, (W [(some (.ref 20)), (some (.ref 3)), (some (.ref 17)), none, (some (.str (S "nearcall.errors") 187)), none, (some (.ref 0))])⟩
def o13 (P : Params) : Obj := ⟨(.type "tuple"), none, (.seq (V []) 0), (W [])⟩
def o14 (P : Params) : Obj := ⟨.none, none, (.fields (V [])), (W [])⟩
def o15 (P : Params) : Obj := ⟨(.type "tuple"), none, (.seq (V [(.str (S "self") 204), (.str (S "word") 205)]) 0), (W [])⟩
def o16 (P : Params) : Obj := ⟨(.type "tuple"), none, (.seq (V []) 0), (W [])⟩
def o17 (P : Params) : Obj := ⟨.none, none, (.func ⟨(S "__init__"), (S "HallError.__init__"), (defArgs (inClass (ST 1) 0)), (.stmts (defBody (inClass (ST 1) 0))), (defScope (inClass (ST 1) 0)), 0, [], .none, .none, .none, .none, none, .none, .none, 0⟩), (W [])⟩
def o18 (P : Params) : Obj := ⟨(.type "code"), none, (.fields (V [(.str (S "__init__") 201), (.str (S "HallError.__init__") 202), (.str (S "/claim/cut.py") 203), (.int 4 0), (.int 2 0), (.int 0 0), (.int 0 0), (.int 3 0), (.ref 22), (.bool true), (.int 181 0), (.ref 23), .none, (.ref 24), (.ref 25), (.ref 26), (.int 206 0), (.int 4 0), (.str (S "/claim/cut.py") 207)])), (W [])⟩
def o19 (P : Params) : Obj := ⟨(.type "function"), none, (.func ⟨(S "__init__"), (S "HallError.__init__"), (defArgs (inClass (ST 1) 0)), (.stmts (defBody (inClass (ST 1) 0))), (defScope (inClass (ST 1) 0)), 3, [], .none, .none, .none, (.str (S "nearcall.errors") 187), none, (.ref 27), .none, 0⟩), (W [])⟩
def o20 (P : Params) : Obj := ⟨(.type "tuple"), none, (.seq (V [(.str (S "word") 209)]) 0), (W [])⟩
def o21 (P : Params) : Obj := ⟨(.type "dict"), none, (.dict (D [E P (S "__module__") 196 (.str (S "nearcall.errors") 187), E P (S "__firstlineno__") 200 (.int 2 199), E P (S "__init__") 208 (.ref 28), E P (S "__static_attributes__") 210 (.ref 29), E P (S "__weakref__") 212 (.ref 32), E P (S "__doc__") 213 .none]) 3), (W [])⟩
def o22 (P : Params) : Obj := ⟨(.type "type"), none, (.cls ⟨(S "HallError"), [(.type "ValueError")], [(.ref 31), (.type "ValueError"), (.type "Exception"), (.type "BaseException"), (.type "object")], 30, (S "HallError"), true, [], [(.ref 51), (.ref 70)], false, none, false⟩), (W [(some (.ref 15)), none, (some (.str (S "HallError") 189)), (some (.str (S "HallError") 197)), (some (.builtin "ValueError.__new__")), (some (.bool true))])⟩
def o23 (P : Params) : Obj := ⟨(.type "getset_descriptor"), none, (.fields (V [(.str (S "__weakref__") 211), (.ref 31), (.builtin "ExceptionGroup.__weakref__"), .none])), (W [])⟩
def o24 (P : Params) : Obj := ⟨(.type "super"), none, (.fields (V [(.ref 31), (.ref 31), (.ref 31)])), (W [])⟩
def o25 (P : Params) : Obj := ⟨(.type "builtin_function_or_method"), none, (.fields (V [(.builtin "object.__init_subclass__"), (.ref 31)])), (W [])⟩
def o26 (P : Params) : Obj := ⟨(.type "tuple"), none, (.seq (V [(.ref 31)]) 0), (W [])⟩
def o27 (P : Params) : Obj := ⟨(.type "builtin_function_or_method"), none, (.fields (V [(.builtin "type.__prepare__"), (.type "type")])), (W [])⟩
def o28 (P : Params) : Obj := ⟨(.type "dict"), none, (.dict (D [E P (S "__module__") 223 (.str (S "nearcall.errors") 187), E P (S "__qualname__") 225 (.str (S "BadText") 224), E P (S "__firstlineno__") 227 (.int 7 226), E P (S "__init__") 235 (.ref 48), E P (S "__static_attributes__") 237 (.ref 49)]) 5), (W [])⟩
def o29 (P : Params) : Obj := ⟨(.type "tuple"), none, (.seq (V []) 0), (W [])⟩
def o30 (P : Params) : Obj := ⟨.none, none, (.fields (V [(.int 9 0), (.int 4 0), (.ref 47)])), (W [])⟩
def o31 (P : Params) : Obj := ⟨(.type "code"), none, (.fields (V [(.str (S "BadText") 218), (.str (S "BadText") 219), (.str (S "/claim/cut.py") 220), (.int 7 0), (.int 0 0), (.int 0 0), (.int 0 0), (.int 0 0), (.ref 38), (.bool false), (.int 181 0), (.ref 39), .none, .none, .none, .none, (.int 221 0), (.int 7 0), (.str (S "/claim/cut.py") 222)])), (W [])⟩
def o32 (P : Params) : Obj := ⟨(.type "frame"), none, .plain, (W [(some (.ref 40)), (some (.ref 3)), (some (.ref 37)), none, (some (.str (S "nearcall.errors") 187)), none, (some (.ref 0))])⟩
def o33 (P : Params) : Obj := ⟨(.type "tuple"), none, (.seq (V []) 0), (W [])⟩
def o34 (P : Params) : Obj := ⟨.none, none, (.fields (V [])), (W [])⟩
def o35 (P : Params) : Obj := ⟨(.type "tuple"), none, (.seq (V [(.str (S "self") 231), (.str (S "at") 232)]) 0), (W [])⟩
def o36 (P : Params) : Obj := ⟨(.type "tuple"), none, (.seq (V []) 0), (W [])⟩
def o37 (P : Params) : Obj := ⟨.none, none, (.func ⟨(S "__init__"), (S "BadText.__init__"), (defArgs (inClass (ST 2) 0)), (.stmts (defBody (inClass (ST 2) 0))), (defScope (inClass (ST 2) 0)), 0, [], .none, .none, .none, .none, none, .none, .none, 0⟩), (W [])⟩
def o38 (P : Params) : Obj := ⟨(.type "code"), none, (.fields (V [(.str (S "__init__") 228), (.str (S "BadText.__init__") 229), (.str (S "/claim/cut.py") 230), (.int 9 0), (.int 2 0), (.int 0 0), (.int 0 0), (.int 3 0), (.ref 42), (.bool true), (.int 181 0), (.ref 43), .none, (.ref 44), (.ref 45), (.ref 46), (.int 233 0), (.int 9 0), (.str (S "/claim/cut.py") 234)])), (W [])⟩
def o39 (P : Params) : Obj := ⟨(.type "function"), none, (.func ⟨(S "__init__"), (S "BadText.__init__"), (defArgs (inClass (ST 2) 0)), (.stmts (defBody (inClass (ST 2) 0))), (defScope (inClass (ST 2) 0)), 3, [], .none, .none, .none, (.str (S "nearcall.errors") 187), none, (.ref 47), .none, 0⟩), (W [])⟩
def o40 (P : Params) : Obj := ⟨(.type "tuple"), none, (.seq (V [(.str (S "at") 236)]) 0), (W [])⟩
def o41 (P : Params) : Obj := ⟨(.type "dict"), none, (.dict (D [E P (S "__module__") 223 (.str (S "nearcall.errors") 187), E P (S "__firstlineno__") 227 (.int 7 226), E P (S "__init__") 235 (.ref 48), E P (S "__static_attributes__") 237 (.ref 49), E P (S "__doc__") 238 .none]) 2), (W [])⟩
def o42 (P : Params) : Obj := ⟨(.type "type"), none, (.cls ⟨(S "BadText"), [(.ref 31)], [(.ref 51), (.ref 31), (.type "ValueError"), (.type "Exception"), (.type "BaseException"), (.type "object")], 50, (S "BadText"), true, [], [], false, none, false⟩), (W [(some (.ref 35)), none, (some (.str (S "BadText") 216)), (some (.str (S "BadText") 224)), (some (.builtin "ValueError.__new__")), (some (.bool true))])⟩
def o43 (P : Params) : Obj := ⟨(.type "super"), none, (.fields (V [(.ref 51), (.ref 51), (.ref 51)])), (W [])⟩
def o44 (P : Params) : Obj := ⟨(.type "builtin_function_or_method"), none, (.fields (V [(.builtin "object.__init_subclass__"), (.ref 51)])), (W [])⟩
def o45 (P : Params) : Obj := ⟨(.type "tuple"), none, (.seq (V [(.ref 31)]) 0), (W [])⟩
def o46 (P : Params) : Obj := ⟨(.type "builtin_function_or_method"), none, (.fields (V [(.builtin "type.__prepare__"), (.type "type")])), (W [])⟩
def o47 (P : Params) : Obj := ⟨(.type "dict"), none, (.dict (D [E P (S "__module__") 248 (.str (S "nearcall.errors") 187), E P (S "__qualname__") 250 (.str (S "BadTree") 249), E P (S "__firstlineno__") 252 (.int 12 251), E P (S "__init__") 259 (.ref 67), E P (S "__static_attributes__") 260 (.ref 68)]) 5), (W [])⟩
def o48 (P : Params) : Obj := ⟨(.type "tuple"), none, (.seq (V []) 0), (W [])⟩
def o49 (P : Params) : Obj := ⟨.none, none, (.fields (V [(.int 14 0), (.int 4 0), (.ref 66)])), (W [])⟩
def o50 (P : Params) : Obj := ⟨(.type "code"), none, (.fields (V [(.str (S "BadTree") 243), (.str (S "BadTree") 244), (.str (S "/claim/cut.py") 245), (.int 12 0), (.int 0 0), (.int 0 0), (.int 0 0), (.int 0 0), (.ref 57), (.bool false), (.int 181 0), (.ref 58), .none, .none, .none, .none, (.int 246 0), (.int 12 0), (.str (S "/claim/cut.py") 247)])), (W [])⟩
def o51 (P : Params) : Obj := ⟨(.type "frame"), none, .plain, (W [(some (.ref 59)), (some (.ref 3)), (some (.ref 56)), none, (some (.str (S "nearcall.errors") 187)), none, (some (.ref 0))])⟩
def o52 (P : Params) : Obj := ⟨(.type "tuple"), none, (.seq (V []) 0), (W [])⟩
def o53 (P : Params) : Obj := ⟨.none, none, (.fields (V [])), (W [])⟩
def o54 (P : Params) : Obj := ⟨(.type "tuple"), none, (.seq (V [(.str (S "self") 256)]) 0), (W [])⟩
def o55 (P : Params) : Obj := ⟨(.type "tuple"), none, (.seq (V []) 0), (W [])⟩
def o56 (P : Params) : Obj := ⟨.none, none, (.func ⟨(S "__init__"), (S "BadTree.__init__"), (defArgs (inClass (ST 3) 0)), (.stmts (defBody (inClass (ST 3) 0))), (defScope (inClass (ST 3) 0)), 0, [], .none, .none, .none, .none, none, .none, .none, 0⟩), (W [])⟩
def o57 (P : Params) : Obj := ⟨(.type "code"), none, (.fields (V [(.str (S "__init__") 253), (.str (S "BadTree.__init__") 254), (.str (S "/claim/cut.py") 255), (.int 14 0), (.int 1 0), (.int 0 0), (.int 0 0), (.int 3 0), (.ref 61), (.bool true), (.int 181 0), (.ref 62), .none, (.ref 63), (.ref 64), (.ref 65), (.int 257 0), (.int 14 0), (.str (S "/claim/cut.py") 258)])), (W [])⟩
def o58 (P : Params) : Obj := ⟨(.type "function"), none, (.func ⟨(S "__init__"), (S "BadTree.__init__"), (defArgs (inClass (ST 3) 0)), (.stmts (defBody (inClass (ST 3) 0))), (defScope (inClass (ST 3) 0)), 3, [], .none, .none, .none, (.str (S "nearcall.errors") 187), none, (.ref 66), .none, 0⟩), (W [])⟩
def o59 (P : Params) : Obj := ⟨(.type "tuple"), none, (.seq (V []) 0), (W [])⟩
def o60 (P : Params) : Obj := ⟨(.type "dict"), none, (.dict (D [E P (S "__module__") 248 (.str (S "nearcall.errors") 187), E P (S "__firstlineno__") 252 (.int 12 251), E P (S "__init__") 259 (.ref 67), E P (S "__static_attributes__") 260 (.ref 68), E P (S "__doc__") 261 .none]) 2), (W [])⟩
def o61 (P : Params) : Obj := ⟨(.type "type"), none, (.cls ⟨(S "BadTree"), [(.ref 31)], [(.ref 70), (.ref 31), (.type "ValueError"), (.type "Exception"), (.type "BaseException"), (.type "object")], 69, (S "BadTree"), true, [], [], false, none, false⟩), (W [(some (.ref 54)), none, (some (.str (S "BadTree") 241)), (some (.str (S "BadTree") 249)), (some (.builtin "ValueError.__new__")), (some (.bool true))])⟩
def o62 (P : Params) : Obj := ⟨(.type "super"), none, (.fields (V [(.ref 70), (.ref 70), (.ref 70)])), (W [])⟩
def o63 (P : Params) : Obj := ⟨(.type "builtin_function_or_method"), none, (.fields (V [(.builtin "object.__init_subclass__"), (.ref 70)])), (W [])⟩
def o64 (P : Params) : Obj := ⟨(.type "tuple"), none, (.seq (V []) 0), (W [])⟩
def o65 (P : Params) : Obj := ⟨.none, none, (.fields (V [])), (W [])⟩
def o66 (P : Params) : Obj := ⟨.none, none, (.func ⟨(S "is_word"), (S "is_word"), (defArgs (ST 13)), (.stmts (defBody (ST 13))), (defScope (ST 13)), 0, [], .none, .none, .none, .none, none, .none, .none, 0⟩), (W [])⟩
def o67 (P : Params) : Obj := ⟨(.type "code"), none, (.fields (V [(.str (S "is_word") 284), (.str (S "is_word") 285), (.str (S "/claim/cut.py") 286), (.int 25 0), (.int 4 0), (.int 0 0), (.int 0 0), (.int 3 0), (.ref 73), (.bool true), (.int 181 0), (.ref 74), .none, .none, .none, (.ref 75), (.int 287 0), (.int 25 0), (.str (S "/claim/cut.py") 288)])), (W [])⟩
def o68 (P : Params) : Obj := ⟨(.type "function"), none, (.func ⟨(S "is_word"), (S "is_word"), (defArgs (ST 13)), (.stmts (defBody (ST 13))), (defScope (ST 13)), 3, [], .none, .none, .none, (.str (S "nearcall.rows") 264), none, (.ref 76), .none, 0⟩), (W [])⟩
def o69 (P : Params) : Obj := ⟨(.type "tuple"), none, (.seq (V []) 0), (W [])⟩
def o70 (P : Params) : Obj := ⟨.none, none, (.fields (V [])), (W [])⟩
def o71 (P : Params) : Obj := ⟨(.type "tuple"), none, (.seq (V [(.str (S "thing") 293)]) 0), (W [])⟩
def o72 (P : Params) : Obj := ⟨(.type "tuple"), none, (.seq (V []) 0), (W [])⟩
def o73 (P : Params) : Obj := ⟨.none, none, (.func ⟨(S "is_name"), (S "is_name"), (defArgs (ST 14)), (.stmts (defBody (ST 14))), (defScope (ST 14)), 0, [], .none, .none, .none, .none, none, .none, .none, 0⟩), (W [])⟩
def o74 (P : Params) : Obj := ⟨(.type "code"), none, (.fields (V [(.str (S "is_name") 290), (.str (S "is_name") 291), (.str (S "/claim/cut.py") 292), (.int 29 0), (.int 1 0), (.int 0 0), (.int 0 0), (.int 3 0), (.ref 78), (.bool true), (.int 181 0), (.ref 79), .none, (.ref 80), (.ref 81), (.ref 82), (.int 294 0), (.int 29 0), (.str (S "/claim/cut.py") 295)])), (W [])⟩
def o75 (P : Params) : Obj := ⟨(.type "function"), none, (.func ⟨(S "is_name"), (S "is_name"), (defArgs (ST 14)), (.stmts (defBody (ST 14))), (defScope (ST 14)), 3, [], .none, .none, .none, (.str (S "nearcall.rows") 264), none, (.ref 83), .none, 0⟩), (W [])⟩
def o76 (P : Params) : Obj := ⟨(.type "tuple"), none, (.seq (V []) 0), (W [])⟩
def o77 (P : Params) : Obj := ⟨.none, none, (.fields (V [])), (W [])⟩
def o78 (P : Params) : Obj := ⟨(.type "tuple"), none, (.seq (V [(.str (S "thing") 300), (.str (S "most") 301)]) 0), (W [])⟩
def o79 (P : Params) : Obj := ⟨(.type "tuple"), none, (.seq (V []) 0), (W [])⟩
def o80 (P : Params) : Obj := ⟨.none, none, (.func ⟨(S "is_number"), (S "is_number"), (defArgs (ST 15)), (.stmts (defBody (ST 15))), (defScope (ST 15)), 0, [], .none, .none, .none, .none, none, .none, .none, 0⟩), (W [])⟩
def o81 (P : Params) : Obj := ⟨(.type "code"), none, (.fields (V [(.str (S "is_number") 297), (.str (S "is_number") 298), (.str (S "/claim/cut.py") 299), (.int 31 0), (.int 2 0), (.int 0 0), (.int 0 0), (.int 3 0), (.ref 85), (.bool true), (.int 181 0), (.ref 86), .none, (.ref 87), (.ref 88), (.ref 89), (.int 302 0), (.int 31 0), (.str (S "/claim/cut.py") 303)])), (W [])⟩
def o82 (P : Params) : Obj := ⟨(.type "function"), none, (.func ⟨(S "is_number"), (S "is_number"), (defArgs (ST 15)), (.stmts (defBody (ST 15))), (defScope (ST 15)), 3, [], .none, .none, .none, (.str (S "nearcall.rows") 264), none, (.ref 90), .none, 0⟩), (W [])⟩
def o83 (P : Params) : Obj := ⟨(.type "tuple"), none, (.seq (V []) 0), (W [])⟩
def o84 (P : Params) : Obj := ⟨.none, none, (.fields (V [])), (W [])⟩
def o85 (P : Params) : Obj := ⟨(.type "tuple"), none, (.seq (V [(.str (S "thing") 308), (.str (S "many") 309)]) 0), (W [])⟩
def o86 (P : Params) : Obj := ⟨(.type "tuple"), none, (.seq (V []) 0), (W [])⟩
def o87 (P : Params) : Obj := ⟨.none, none, (.func ⟨(S "is_tuple_of"), (S "is_tuple_of"), (defArgs (ST 16)), (.stmts (defBody (ST 16))), (defScope (ST 16)), 0, [], .none, .none, .none, .none, none, .none, .none, 0⟩), (W [])⟩
def o88 (P : Params) : Obj := ⟨(.type "code"), none, (.fields (V [(.str (S "is_tuple_of") 305), (.str (S "is_tuple_of") 306), (.str (S "/claim/cut.py") 307), (.int 35 0), (.int 2 0), (.int 0 0), (.int 0 0), (.int 3 0), (.ref 92), (.bool true), (.int 181 0), (.ref 93), .none, (.ref 94), (.ref 95), (.ref 96), (.int 310 0), (.int 35 0), (.str (S "/claim/cut.py") 311)])), (W [])⟩
def o89 (P : Params) : Obj := ⟨(.type "function"), none, (.func ⟨(S "is_tuple_of"), (S "is_tuple_of"), (defArgs (ST 16)), (.stmts (defBody (ST 16))), (defScope (ST 16)), 3, [], .none, .none, .none, (.str (S "nearcall.rows") 264), none, (.ref 97), .none, 0⟩), (W [])⟩
def o90 (P : Params) : Obj := ⟨(.type "tuple"), none, (.seq (V []) 0), (W [])⟩
def o91 (P : Params) : Obj := ⟨.none, none, (.fields (V [])), (W [])⟩
def o92 (P : Params) : Obj := ⟨(.type "tuple"), none, (.seq (V [(.str (S "step") 316)]) 0), (W [])⟩
def o93 (P : Params) : Obj := ⟨(.type "tuple"), none, (.seq (V []) 0), (W [])⟩
def o94 (P : Params) : Obj := ⟨.none, none, (.func ⟨(S "is_plain_step"), (S "is_plain_step"), (defArgs (ST 17)), (.stmts (defBody (ST 17))), (defScope (ST 17)), 0, [], .none, .none, .none, .none, none, .none, .none, 0⟩), (W [])⟩
def o95 (P : Params) : Obj := ⟨(.type "code"), none, (.fields (V [(.str (S "is_plain_step") 313), (.str (S "is_plain_step") 314), (.str (S "/claim/cut.py") 315), (.int 37 0), (.int 1 0), (.int 0 0), (.int 0 0), (.int 3 0), (.ref 99), (.bool true), (.int 181 0), (.ref 100), .none, (.ref 101), (.ref 102), (.ref 103), (.int 317 0), (.int 37 0), (.str (S "/claim/cut.py") 318)])), (W [])⟩
def o96 (P : Params) : Obj := ⟨(.type "function"), none, (.func ⟨(S "is_plain_step"), (S "is_plain_step"), (defArgs (ST 17)), (.stmts (defBody (ST 17))), (defScope (ST 17)), 3, [], .none, .none, .none, (.str (S "nearcall.rows") 264), none, (.ref 104), .none, 0⟩), (W [])⟩
def o97 (P : Params) : Obj := ⟨(.type "tuple"), none, (.seq (V []) 0), (W [])⟩
def o98 (P : Params) : Obj := ⟨.none, none, (.fields (V [])), (W [])⟩
def o99 (P : Params) : Obj := ⟨(.type "tuple"), none, (.seq (V [(.str (S "step") 323)]) 0), (W [])⟩
def o100 (P : Params) : Obj := ⟨(.type "tuple"), none, (.seq (V []) 0), (W [])⟩
def o101 (P : Params) : Obj := ⟨.none, none, (.func ⟨(S "is_group_head"), (S "is_group_head"), (defArgs (ST 18)), (.stmts (defBody (ST 18))), (defScope (ST 18)), 0, [], .none, .none, .none, .none, none, .none, .none, 0⟩), (W [])⟩
def o102 (P : Params) : Obj := ⟨(.type "code"), none, (.fields (V [(.str (S "is_group_head") 320), (.str (S "is_group_head") 321), (.str (S "/claim/cut.py") 322), (.int 45 0), (.int 1 0), (.int 0 0), (.int 0 0), (.int 3 0), (.ref 106), (.bool true), (.int 181 0), (.ref 107), .none, (.ref 108), (.ref 109), (.ref 110), (.int 324 0), (.int 45 0), (.str (S "/claim/cut.py") 325)])), (W [])⟩
def o103 (P : Params) : Obj := ⟨(.type "function"), none, (.func ⟨(S "is_group_head"), (S "is_group_head"), (defArgs (ST 18)), (.stmts (defBody (ST 18))), (defScope (ST 18)), 3, [], .none, .none, .none, (.str (S "nearcall.rows") 264), none, (.ref 111), .none, 0⟩), (W [])⟩
def o104 (P : Params) : Obj := ⟨(.type "tuple"), none, (.seq (V []) 0), (W [])⟩
def o105 (P : Params) : Obj := ⟨.none, none, (.fields (V [])), (W [])⟩
def o106 (P : Params) : Obj := ⟨(.type "tuple"), none, (.seq (V [(.str (S "step") 330), (.str (S "deep") 331), (.str (S "left") 332)]) 0), (W [])⟩
def o107 (P : Params) : Obj := ⟨(.type "tuple"), none, (.seq (V []) 0), (W [])⟩
def o108 (P : Params) : Obj := ⟨.none, none, (.func ⟨(S "left_behind_step"), (S "left_behind_step"), (defArgs (ST 19)), (.stmts (defBody (ST 19))), (defScope (ST 19)), 0, [], .none, .none, .none, .none, none, .none, .none, 0⟩), (W [])⟩
def o109 (P : Params) : Obj := ⟨(.type "code"), none, (.fields (V [(.str (S "left_behind_step") 327), (.str (S "left_behind_step") 328), (.str (S "/claim/cut.py") 329), (.int 47 0), (.int 3 0), (.int 0 0), (.int 0 0), (.int 3 0), (.ref 113), (.bool true), (.int 181 0), (.ref 114), .none, (.ref 115), (.ref 116), (.ref 117), (.int 333 0), (.int 47 0), (.str (S "/claim/cut.py") 334)])), (W [])⟩
def o110 (P : Params) : Obj := ⟨(.type "function"), none, (.func ⟨(S "left_behind_step"), (S "left_behind_step"), (defArgs (ST 19)), (.stmts (defBody (ST 19))), (defScope (ST 19)), 3, [], .none, .none, .none, (.str (S "nearcall.rows") 264), none, (.ref 118), .none, 0⟩), (W [])⟩
def o111 (P : Params) : Obj := ⟨(.type "tuple"), none, (.seq (V []) 0), (W [])⟩
def o112 (P : Params) : Obj := ⟨.none, none, (.fields (V [])), (W [])⟩
def o113 (P : Params) : Obj := ⟨(.type "tuple"), none, (.seq (V [(.str (S "row") 339), (.str (S "deep") 340), (.str (S "left") 341), (.str (S "step") 342)]) 0), (W [])⟩
def o114 (P : Params) : Obj := ⟨(.type "tuple"), none, (.seq (V []) 0), (W [])⟩
def o115 (P : Params) : Obj := ⟨.none, none, (.func ⟨(S "left_behind"), (S "left_behind"), (defArgs (ST 20)), (.stmts (defBody (ST 20))), (defScope (ST 20)), 0, [], .none, .none, .none, .none, none, .none, .none, 0⟩), (W [])⟩
def o116 (P : Params) : Obj := ⟨(.type "code"), none, (.fields (V [(.str (S "left_behind") 336), (.str (S "left_behind") 337), (.str (S "/claim/cut.py") 338), (.int 53 0), (.int 3 0), (.int 0 0), (.int 0 0), (.int 3 0), (.ref 120), (.bool true), (.int 181 0), (.ref 121), .none, (.ref 122), (.ref 123), (.ref 124), (.int 343 0), (.int 53 0), (.str (S "/claim/cut.py") 344)])), (W [])⟩
def o117 (P : Params) : Obj := ⟨(.type "function"), none, (.func ⟨(S "left_behind"), (S "left_behind"), (defArgs (ST 20)), (.stmts (defBody (ST 20))), (defScope (ST 20)), 3, [], .none, .none, .none, (.str (S "nearcall.rows") 264), none, (.ref 125), .none, 0⟩), (W [])⟩
def o118 (P : Params) : Obj := ⟨(.type "tuple"), none, (.seq (V []) 0), (W [])⟩
def o119 (P : Params) : Obj := ⟨.none, none, (.fields (V [])), (W [])⟩
def o120 (P : Params) : Obj := ⟨(.type "tuple"), none, (.seq (V [(.str (S "tree") 349)]) 0), (W [])⟩
def o121 (P : Params) : Obj := ⟨(.type "tuple"), none, (.seq (V []) 0), (W [])⟩
def o122 (P : Params) : Obj := ⟨.none, none, (.func ⟨(S "is_row"), (S "is_row"), (defArgs (ST 21)), (.stmts (defBody (ST 21))), (defScope (ST 21)), 0, [], .none, .none, .none, .none, none, .none, .none, 0⟩), (W [])⟩
def o123 (P : Params) : Obj := ⟨(.type "code"), none, (.fields (V [(.str (S "is_row") 346), (.str (S "is_row") 347), (.str (S "/claim/cut.py") 348), (.int 61 0), (.int 1 0), (.int 0 0), (.int 0 0), (.int 3 0), (.ref 127), (.bool true), (.int 181 0), (.ref 128), .none, (.ref 129), (.ref 130), (.ref 131), (.int 350 0), (.int 61 0), (.str (S "/claim/cut.py") 351)])), (W [])⟩
def o124 (P : Params) : Obj := ⟨(.type "function"), none, (.func ⟨(S "is_row"), (S "is_row"), (defArgs (ST 21)), (.stmts (defBody (ST 21))), (defScope (ST 21)), 3, [], .none, .none, .none, (.str (S "nearcall.rows") 264), none, (.ref 132), .none, 0⟩), (W [])⟩
def o125 (P : Params) : Obj := ⟨(.type "tuple"), none, (.seq (V []) 0), (W [])⟩
def o126 (P : Params) : Obj := ⟨.none, none, (.fields (V [])), (W [])⟩
def o127 (P : Params) : Obj := ⟨(.type "tuple"), none, (.seq (V [(.str (S "tree") 356)]) 0), (W [])⟩
def o128 (P : Params) : Obj := ⟨(.type "tuple"), none, (.seq (V []) 0), (W [])⟩
def o129 (P : Params) : Obj := ⟨.none, none, (.func ⟨(S "check_row"), (S "check_row"), (defArgs (ST 22)), (.stmts (defBody (ST 22))), (defScope (ST 22)), 0, [], .none, .none, .none, .none, none, .none, .none, 0⟩), (W [])⟩
def o130 (P : Params) : Obj := ⟨(.type "code"), none, (.fields (V [(.str (S "check_row") 353), (.str (S "check_row") 354), (.str (S "/claim/cut.py") 355), (.int 63 0), (.int 1 0), (.int 0 0), (.int 0 0), (.int 3 0), (.ref 134), (.bool true), (.int 181 0), (.ref 135), .none, (.ref 136), (.ref 137), (.ref 138), (.int 357 0), (.int 63 0), (.str (S "/claim/cut.py") 358)])), (W [])⟩
def o131 (P : Params) : Obj := ⟨(.type "function"), none, (.func ⟨(S "check_row"), (S "check_row"), (defArgs (ST 22)), (.stmts (defBody (ST 22))), (defScope (ST 22)), 3, [], .none, .none, .none, (.str (S "nearcall.rows") 264), none, (.ref 139), .none, 0⟩), (W [])⟩
def objs_0 (P : Params) : List Obj :=
  [boot_o_0 P, boot_o_1 P, boot_o_2 P, o4 P, boot_o_4 P, boot_o_5 P, boot_o_6 P, boot_o_7 P, boot_o_8 P, boot_o_9 P, boot_o_10 P, o0 P, o5 P, o2 P, o3 P, o6 P, o7 P, o8 P, o9 P, o10 P, o11 P, o12 P, o13 P, o14 P, o15 P, o16 P, o17 P, o18 P, o19 P, o20 P, o21 P, o22 P, o23 P, o24 P, o25 P, o26 P, o27 P, o28 P, o29 P, o30 P] ++ (
  [o31 P, o32 P, o33 P, o34 P, o35 P, o36 P, o37 P, o38 P, o39 P, o40 P, o41 P, o42 P, o43 P, o44 P, o45 P, o46 P, o47 P, o48 P, o49 P, o50 P, o51 P, o52 P, o53 P, o54 P, o55 P, o56 P, o57 P, o58 P, o59 P, o60 P, o61 P, o62 P, o63 P, o64 P, o65 P, o66 P, o67 P, o68 P, o69 P, o70 P] ++ (
  [o71 P, o72 P, o73 P, o74 P, o75 P, o76 P, o77 P, o78 P, o79 P, o80 P, o81 P, o82 P, o83 P, o84 P, o85 P, o86 P, o87 P, o88 P, o89 P, o90 P, o91 P, o92 P, o93 P, o94 P, o95 P, o96 P, o97 P, o98 P, o99 P, o100 P, o101 P, o102 P, o103 P, o104 P, o105 P, o106 P, o107 P, o108 P, o109 P, o110 P] ++ (
  [o111 P, o112 P, o113 P, o114 P, o115 P, o116 P, o117 P, o118 P, o119 P, o120 P, o121 P, o122 P, o123 P, o124 P, o125 P, o126 P, o127 P, o128 P, o129 P, o130 P, o131 P])))
def o132 (P : Params) : Obj := ⟨(.type "dict"), none, (.dict (D [E P (S "__name__") 165 (.str (S "law_nearcall_k27_rows_written_and_read") 491), E P (S "__doc__") 166 .none, E P (S "__package__") 167 .none, E P (S "__loader__") 168 (.builtin "__main__.__loader__#opaque"), E P (S "__spec__") 169 .none, E P (S "__annotations__") 170 (.ref 6), E P (S "__builtins__") 171 (.ref 4), E P (S "__file__") 173 (.str (S "/claim/cut.py") 172), E P (S "__cached__") 174 .none, E P (S "HallError") 215 (.ref 31), E P (S "BadText") 240 (.ref 51), E P (S "BadTree") 263 (.ref 70), E P (S "MOST_STEPS") 267 (.int 60 266), E P (S "MOST_DEEP") 269 (.int 12 268), E P (S "MOST_TIMES") 273 (.int 1000000000000000000000000000000 272), E P (S "MOST_SIDES") 275 (.int 12 274), E P (S "LONGEST_NAME") 277 (.int 8 276), E P (S "SMALL") 279 (.str (S "abcdefghijklmnopqrstuvwxyz") 278), E P (S "LETTERS") 281 (.str (S "abcdefghijklmnopqrstuvwxyzABCDEFGHIJKLMNOPQRSTUVWXYZ") 280), E P (S "FIGURES") 283 (.str (S "0123456789") 282), E P (S "is_word") 289 (.ref 77), E P (S "is_name") 296 (.ref 84), E P (S "is_number") 304 (.ref 91), E P (S "is_tuple_of") 312 (.ref 98), E P (S "is_plain_step") 319 (.ref 105), E P (S "is_group_head") 326 (.ref 112), E P (S "left_behind_step") 335 (.ref 119), E P (S "left_behind") 345 (.ref 126), E P (S "is_row") 352 (.ref 133), E P (S "check_row") 359 (.ref 140), E P (S "step_text") 366 (.ref 147), E P (S "text_of") 372 (.ref 152), E P (S "row_text") 379 (.ref 159), E P (S "Reader") 481 (.ref 232), E P (S "read_row") 490 (.ref 243), E P (S "_law_same") 498 (.ref 248), E P (S "_law_start") 507 (.ref 255), E P (S "_law_draw") 518 (.ref 262), E P (S "_law_of") 526 (.ref 269), E P (S "_law_mixed") 532 (.ref 274), E P (S "_law_letters") 538 (.ref 281), E P (S "_law_sides") 550 (.ref 288), E P (S "_law_number") 557 (.ref 295), E P (S "_law_name") 566 (.ref 302), E P (S "_law_tree") 579 (.ref 309), E P (S "_law_text") 588 (.ref 316), E P (S "law") 600 (.ref 323)]) 47), (W [])⟩
def o133 (P : Params) : Obj := ⟨.none, none, (.fields (V [(.int 2 0), (.int 0 0), (.ref 20), (.int 7 0), (.int 0 0), (.ref 40), (.int 12 0), (.int 0 0), (.ref 59), (.int 25 0), (.int 0 0), (.ref 76), (.int 29 0), (.int 0 0), (.ref 83), (.int 31 0), (.int 0 0), (.ref 90), (.int 35 0), (.int 0 0), (.ref 97), (.int 37 0), (.int 0 0), (.ref 104), (.int 45 0), (.int 0 0), (.ref 111), (.int 47 0), (.int 0 0), (.ref 118), (.int 53 0), (.int 0 0), (.ref 125), (.int 61 0), (.int 0 0), (.ref 132), (.int 63 0), (.int 0 0), (.ref 139), (.int 66 0), (.int 0 0), (.ref 146), (.int 74 0), (.int 0 0), (.ref 151), (.int 78 0), (.int 0 0), (.ref 158), (.int 81 0), (.int 0 0), (.ref 165), (.int 146 0), (.int 0 0), (.ref 242), (.int 153 0), (.int 0 0), (.ref 247), (.int 161 0), (.int 0 0), (.ref 254), (.int 166 0), (.int 0 0), (.ref 261), (.int 181 0), (.int 0 0), (.ref 268), (.int 183 0), (.int 0 0), (.ref 273), (.int 186 0), (.int 0 0), (.ref 280), (.int 188 0), (.int 0 0), (.ref 287), (.int 196 0), (.int 0 0), (.ref 294), (.int 198 0), (.int 0 0), (.ref 301), (.int 202 0), (.int 0 0), (.ref 308), (.int 215 0), (.int 0 0), (.ref 315), (.int 225 0), (.int 0 0), (.ref 322)])), (W [])⟩
def o134 (P : Params) : Obj := ⟨(.type "tuple"), none, (.seq (V []) 0), (W [])⟩
def o135 (P : Params) : Obj := ⟨.none, none, (.fields (V [])), (W [])⟩
def o136 (P : Params) : Obj := ⟨(.type "tuple"), none, (.seq (V [(.str (S "step") 363)]) 0), (W [])⟩
def o137 (P : Params) : Obj := ⟨(.type "tuple"), none, (.seq (V []) 0), (W [])⟩
def o138 (P : Params) : Obj := ⟨.none, none, (.func ⟨(S "step_text"), (S "step_text"), (defArgs (ST 23)), (.stmts (defBody (ST 23))), (defScope (ST 23)), 0, [], .none, .none, .none, .none, none, .none, .none, 0⟩), (W [])⟩
def o139 (P : Params) : Obj := ⟨(.type "code"), none, (.fields (V [(.str (S "step_text") 360), (.str (S "step_text") 361), (.str (S "/claim/cut.py") 362), (.int 66 0), (.int 1 0), (.int 0 0), (.int 0 0), (.int 3 0), (.ref 141), (.bool true), (.int 181 0), (.ref 142), .none, (.ref 143), (.ref 144), (.ref 145), (.int 364 0), (.int 66 0), (.str (S "/claim/cut.py") 365)])), (W [])⟩
def o140 (P : Params) : Obj := ⟨(.type "function"), none, (.func ⟨(S "step_text"), (S "step_text"), (defArgs (ST 23)), (.stmts (defBody (ST 23))), (defScope (ST 23)), 3, [], .none, .none, .none, (.str (S "nearcall.rows") 264), none, (.ref 146), .none, 0⟩), (W [])⟩
def o141 (P : Params) : Obj := ⟨(.type "tuple"), none, (.seq (V []) 0), (W [])⟩
def o142 (P : Params) : Obj := ⟨.none, none, (.fields (V [])), (W [])⟩
def o143 (P : Params) : Obj := ⟨.none, none, (.func ⟨(S "text_of"), (S "text_of"), (defArgs (ST 24)), (.stmts (defBody (ST 24))), (defScope (ST 24)), 0, [], .none, .none, .none, .none, none, .none, .none, 0⟩), (W [])⟩
def o144 (P : Params) : Obj := ⟨(.type "code"), none, (.fields (V [(.str (S "text_of") 367), (.str (S "text_of") 368), (.str (S "/claim/cut.py") 369), (.int 74 0), (.int 1 0), (.int 0 0), (.int 0 0), (.int 3 0), (.ref 148), (.bool true), (.int 181 0), (.ref 149), .none, .none, .none, (.ref 150), (.int 370 0), (.int 74 0), (.str (S "/claim/cut.py") 371)])), (W [])⟩
def o145 (P : Params) : Obj := ⟨(.type "function"), none, (.func ⟨(S "text_of"), (S "text_of"), (defArgs (ST 24)), (.stmts (defBody (ST 24))), (defScope (ST 24)), 3, [], .none, .none, .none, (.str (S "nearcall.rows") 264), none, (.ref 151), .none, 0⟩), (W [])⟩
def o146 (P : Params) : Obj := ⟨(.type "tuple"), none, (.seq (V []) 0), (W [])⟩
def o147 (P : Params) : Obj := ⟨.none, none, (.fields (V [])), (W [])⟩
def o148 (P : Params) : Obj := ⟨(.type "tuple"), none, (.seq (V [(.str (S "tree") 376)]) 0), (W [])⟩
def o149 (P : Params) : Obj := ⟨(.type "tuple"), none, (.seq (V []) 0), (W [])⟩
def o150 (P : Params) : Obj := ⟨.none, none, (.func ⟨(S "row_text"), (S "row_text"), (defArgs (ST 25)), (.stmts (defBody (ST 25))), (defScope (ST 25)), 0, [], .none, .none, .none, .none, none, .none, .none, 0⟩), (W [])⟩
def o151 (P : Params) : Obj := ⟨(.type "code"), none, (.fields (V [(.str (S "row_text") 373), (.str (S "row_text") 374), (.str (S "/claim/cut.py") 375), (.int 78 0), (.int 1 0), (.int 0 0), (.int 0 0), (.int 3 0), (.ref 153), (.bool true), (.int 181 0), (.ref 154), .none, (.ref 155), (.ref 156), (.ref 157), (.int 377 0), (.int 78 0), (.str (S "/claim/cut.py") 378)])), (W [])⟩
def o152 (P : Params) : Obj := ⟨(.type "function"), none, (.func ⟨(S "row_text"), (S "row_text"), (defArgs (ST 25)), (.stmts (defBody (ST 25))), (defScope (ST 25)), 3, [], .none, .none, .none, (.str (S "nearcall.rows") 264), none, (.ref 158), .none, 0⟩), (W [])⟩
def o153 (P : Params) : Obj := ⟨(.type "tuple"), none, (.seq (V []) 0), (W [])⟩
def o154 (P : Params) : Obj := ⟨(.type "builtin_function_or_method"), none, (.fields (V [(.builtin "type.__prepare__"), (.type "type")])), (W [])⟩
def o155 (P : Params) : Obj := ⟨(.type "dict"), none, (.dict (D [E P (S "__module__") 387 (.str (S "nearcall.rows") 264), E P (S "__qualname__") 389 (.str (S "Reader") 388), E P (S "__firstlineno__") 391 (.int 81 390), E P (S "__init__") 399 (.ref 173), E P (S "sign") 406 (.ref 180), E P (S "stands") 414 (.ref 187), E P (S "take") 423 (.ref 194), E P (S "letters_taken") 434 (.ref 201), E P (S "number") 442 (.ref 208), E P (S "group") 451 (.ref 215), E P (S "step") 461 (.ref 222), E P (S "row") 470 (.ref 229), E P (S "__static_attributes__") 474 (.ref 230)]) 13), (W [])⟩
def o156 (P : Params) : Obj := ⟨(.type "tuple"), none, (.seq (V []) 0), (W [])⟩
def o157 (P : Params) : Obj := ⟨.none, none, (.fields (V [(.int 83 0), (.int 4 0), (.ref 172), (.int 88 0), (.int 4 0), (.ref 179), (.int 91 0), (.int 4 0), (.ref 186), (.int 94 0), (.int 4 0), (.ref 193), (.int 101 0), (.int 4 0), (.ref 200), (.int 107 0), (.int 4 0), (.ref 207), (.int 116 0), (.int 4 0), (.ref 214), (.int 122 0), (.int 4 0), (.ref 221), (.int 137 0), (.int 4 0), (.ref 228)])), (W [])⟩
def o158 (P : Params) : Obj := ⟨(.type "code"), none, (.fields (V [(.str (S "Reader") 382), (.str (S "Reader") 383), (.str (S "/claim/cut.py") 384), (.int 81 0), (.int 0 0), (.int 0 0), (.int 0 0), (.int 0 0), (.ref 163), (.bool false), (.int 181 0), (.ref 164), .none, .none, .none, .none, (.int 385 0), (.int 81 0), (.str (S "/claim/cut.py") 386)])), (W [])⟩
def o159 (P : Params) : Obj := ⟨(.type "frame"), none, .plain, (W [(some (.ref 165)), (some (.ref 3)), (some (.ref 162)), none, (some (.str (S "nearcall.rows") 264)), none, (some (.ref 0))])⟩
def o160 (P : Params) : Obj := ⟨(.type "tuple"), none, (.seq (V []) 0), (W [])⟩
def o161 (P : Params) : Obj := ⟨.none, none, (.fields (V [])), (W [])⟩
def o162 (P : Params) : Obj := ⟨(.type "tuple"), none, (.seq (V [(.str (S "self") 395), (.str (S "text") 396)]) 0), (W [])⟩
def o163 (P : Params) : Obj := ⟨(.type "tuple"), none, (.seq (V []) 0), (W [])⟩
def o164 (P : Params) : Obj := ⟨.none, none, (.func ⟨(S "__init__"), (S "Reader.__init__"), (defArgs (inClass (ST 26) 0)), (.stmts (defBody (inClass (ST 26) 0))), (defScope (inClass (ST 26) 0)), 0, [], .none, .none, .none, .none, none, .none, .none, 0⟩), (W [])⟩
def o165 (P : Params) : Obj := ⟨(.type "code"), none, (.fields (V [(.str (S "__init__") 392), (.str (S "Reader.__init__") 393), (.str (S "/claim/cut.py") 394), (.int 83 0), (.int 2 0), (.int 0 0), (.int 0 0), (.int 3 0), (.ref 167), (.bool true), (.int 181 0), (.ref 168), .none, (.ref 169), (.ref 170), (.ref 171), (.int 397 0), (.int 83 0), (.str (S "/claim/cut.py") 398)])), (W [])⟩
def o166 (P : Params) : Obj := ⟨(.type "function"), none, (.func ⟨(S "__init__"), (S "Reader.__init__"), (defArgs (inClass (ST 26) 0)), (.stmts (defBody (inClass (ST 26) 0))), (defScope (inClass (ST 26) 0)), 3, [], .none, .none, .none, (.str (S "nearcall.rows") 264), none, (.ref 172), .none, 0⟩), (W [])⟩
def o167 (P : Params) : Obj := ⟨(.type "tuple"), none, (.seq (V []) 0), (W [])⟩
def o168 (P : Params) : Obj := ⟨.none, none, (.fields (V [])), (W [])⟩
def o169 (P : Params) : Obj := ⟨(.type "tuple"), none, (.seq (V [(.str (S "self") 403)]) 0), (W [])⟩
def o170 (P : Params) : Obj := ⟨(.type "tuple"), none, (.seq (V []) 0), (W [])⟩
def o171 (P : Params) : Obj := ⟨.none, none, (.func ⟨(S "sign"), (S "Reader.sign"), (defArgs (inClass (ST 26) 1)), (.stmts (defBody (inClass (ST 26) 1))), (defScope (inClass (ST 26) 1)), 0, [], .none, .none, .none, .none, none, .none, .none, 0⟩), (W [])⟩
def o172 (P : Params) : Obj := ⟨(.type "code"), none, (.fields (V [(.str (S "sign") 400), (.str (S "Reader.sign") 401), (.str (S "/claim/cut.py") 402), (.int 88 0), (.int 1 0), (.int 0 0), (.int 0 0), (.int 3 0), (.ref 174), (.bool true), (.int 181 0), (.ref 175), .none, (.ref 176), (.ref 177), (.ref 178), (.int 404 0), (.int 88 0), (.str (S "/claim/cut.py") 405)])), (W [])⟩
def o173 (P : Params) : Obj := ⟨(.type "function"), none, (.func ⟨(S "sign"), (S "Reader.sign"), (defArgs (inClass (ST 26) 1)), (.stmts (defBody (inClass (ST 26) 1))), (defScope (inClass (ST 26) 1)), 3, [], .none, .none, .none, (.str (S "nearcall.rows") 264), none, (.ref 179), .none, 0⟩), (W [])⟩
def o174 (P : Params) : Obj := ⟨(.type "tuple"), none, (.seq (V []) 0), (W [])⟩
def o175 (P : Params) : Obj := ⟨.none, none, (.fields (V [])), (W [])⟩
def o176 (P : Params) : Obj := ⟨(.type "tuple"), none, (.seq (V [(.str (S "self") 410), (.str (S "signs") 411)]) 0), (W [])⟩
def o177 (P : Params) : Obj := ⟨(.type "tuple"), none, (.seq (V []) 0), (W [])⟩
def o178 (P : Params) : Obj := ⟨.none, none, (.func ⟨(S "stands"), (S "Reader.stands"), (defArgs (inClass (ST 26) 2)), (.stmts (defBody (inClass (ST 26) 2))), (defScope (inClass (ST 26) 2)), 0, [], .none, .none, .none, .none, none, .none, .none, 0⟩), (W [])⟩
def o179 (P : Params) : Obj := ⟨(.type "code"), none, (.fields (V [(.str (S "stands") 407), (.str (S "Reader.stands") 408), (.str (S "/claim/cut.py") 409), (.int 91 0), (.int 2 0), (.int 0 0), (.int 0 0), (.int 3 0), (.ref 181), (.bool true), (.int 181 0), (.ref 182), .none, (.ref 183), (.ref 184), (.ref 185), (.int 412 0), (.int 91 0), (.str (S "/claim/cut.py") 413)])), (W [])⟩
def o180 (P : Params) : Obj := ⟨(.type "function"), none, (.func ⟨(S "stands"), (S "Reader.stands"), (defArgs (inClass (ST 26) 2)), (.stmts (defBody (inClass (ST 26) 2))), (defScope (inClass (ST 26) 2)), 3, [], .none, .none, .none, (.str (S "nearcall.rows") 264), none, (.ref 186), .none, 0⟩), (W [])⟩
def o181 (P : Params) : Obj := ⟨(.type "tuple"), none, (.seq (V []) 0), (W [])⟩
def o182 (P : Params) : Obj := ⟨.none, none, (.fields (V [])), (W [])⟩
def o183 (P : Params) : Obj := ⟨(.type "tuple"), none, (.seq (V [(.str (S "self") 418), (.str (S "signs") 419), (.str (S "taken") 420)]) 0), (W [])⟩
def o184 (P : Params) : Obj := ⟨(.type "tuple"), none, (.seq (V []) 0), (W [])⟩
def o185 (P : Params) : Obj := ⟨.none, none, (.func ⟨(S "take"), (S "Reader.take"), (defArgs (inClass (ST 26) 3)), (.stmts (defBody (inClass (ST 26) 3))), (defScope (inClass (ST 26) 3)), 0, [], .none, .none, .none, .none, none, .none, .none, 0⟩), (W [])⟩
def o186 (P : Params) : Obj := ⟨(.type "code"), none, (.fields (V [(.str (S "take") 415), (.str (S "Reader.take") 416), (.str (S "/claim/cut.py") 417), (.int 94 0), (.int 2 0), (.int 0 0), (.int 0 0), (.int 3 0), (.ref 188), (.bool true), (.int 181 0), (.ref 189), .none, (.ref 190), (.ref 191), (.ref 192), (.int 421 0), (.int 94 0), (.str (S "/claim/cut.py") 422)])), (W [])⟩
def o187 (P : Params) : Obj := ⟨(.type "function"), none, (.func ⟨(S "take"), (S "Reader.take"), (defArgs (inClass (ST 26) 3)), (.stmts (defBody (inClass (ST 26) 3))), (defScope (inClass (ST 26) 3)), 3, [], .none, .none, .none, (.str (S "nearcall.rows") 264), none, (.ref 193), .none, 0⟩), (W [])⟩
def o188 (P : Params) : Obj := ⟨(.type "tuple"), none, (.seq (V []) 0), (W [])⟩
def o189 (P : Params) : Obj := ⟨.none, none, (.fields (V [])), (W [])⟩
def o190 (P : Params) : Obj := ⟨(.type "tuple"), none, (.seq (V [(.str (S "self") 427), (.str (S "letters") 428), (.str (S "fewest") 429), (.str (S "most") 430), (.str (S "taken") 431)]) 0), (W [])⟩
def o191 (P : Params) : Obj := ⟨(.type "tuple"), none, (.seq (V []) 0), (W [])⟩
def o192 (P : Params) : Obj := ⟨.none, none, (.func ⟨(S "letters_taken"), (S "Reader.letters_taken"), (defArgs (inClass (ST 26) 4)), (.stmts (defBody (inClass (ST 26) 4))), (defScope (inClass (ST 26) 4)), 0, [], .none, .none, .none, .none, none, .none, .none, 0⟩), (W [])⟩
def o193 (P : Params) : Obj := ⟨(.type "code"), none, (.fields (V [(.str (S "letters_taken") 424), (.str (S "Reader.letters_taken") 425), (.str (S "/claim/cut.py") 426), (.int 101 0), (.int 4 0), (.int 0 0), (.int 0 0), (.int 3 0), (.ref 195), (.bool true), (.int 181 0), (.ref 196), .none, (.ref 197), (.ref 198), (.ref 199), (.int 432 0), (.int 101 0), (.str (S "/claim/cut.py") 433)])), (W [])⟩
def o194 (P : Params) : Obj := ⟨(.type "function"), none, (.func ⟨(S "letters_taken"), (S "Reader.letters_taken"), (defArgs (inClass (ST 26) 4)), (.stmts (defBody (inClass (ST 26) 4))), (defScope (inClass (ST 26) 4)), 3, [], .none, .none, .none, (.str (S "nearcall.rows") 264), none, (.ref 200), .none, 0⟩), (W [])⟩
def o195 (P : Params) : Obj := ⟨(.type "tuple"), none, (.seq (V []) 0), (W [])⟩
def o196 (P : Params) : Obj := ⟨.none, none, (.fields (V [])), (W [])⟩
def o197 (P : Params) : Obj := ⟨(.type "tuple"), none, (.seq (V [(.str (S "self") 438), (.str (S "many") 439)]) 0), (W [])⟩
def o198 (P : Params) : Obj := ⟨(.type "tuple"), none, (.seq (V []) 0), (W [])⟩
def o199 (P : Params) : Obj := ⟨.none, none, (.func ⟨(S "number"), (S "Reader.number"), (defArgs (inClass (ST 26) 5)), (.stmts (defBody (inClass (ST 26) 5))), (defScope (inClass (ST 26) 5)), 0, [], .none, .none, .none, .none, none, .none, .none, 0⟩), (W [])⟩
def o200 (P : Params) : Obj := ⟨(.type "code"), none, (.fields (V [(.str (S "number") 435), (.str (S "Reader.number") 436), (.str (S "/claim/cut.py") 437), (.int 107 0), (.int 1 0), (.int 0 0), (.int 0 0), (.int 3 0), (.ref 202), (.bool true), (.int 181 0), (.ref 203), .none, (.ref 204), (.ref 205), (.ref 206), (.int 440 0), (.int 107 0), (.str (S "/claim/cut.py") 441)])), (W [])⟩
def o201 (P : Params) : Obj := ⟨(.type "function"), none, (.func ⟨(S "number"), (S "Reader.number"), (defArgs (inClass (ST 26) 5)), (.stmts (defBody (inClass (ST 26) 5))), (defScope (inClass (ST 26) 5)), 3, [], .none, .none, .none, (.str (S "nearcall.rows") 264), none, (.ref 207), .none, 0⟩), (W [])⟩
def o202 (P : Params) : Obj := ⟨(.type "tuple"), none, (.seq (V []) 0), (W [])⟩
def o203 (P : Params) : Obj := ⟨.none, none, (.fields (V [])), (W [])⟩
def o204 (P : Params) : Obj := ⟨(.type "tuple"), none, (.seq (V [(.str (S "self") 446), (.str (S "deep") 447), (.str (S "row") 448)]) 0), (W [])⟩
def o205 (P : Params) : Obj := ⟨(.type "tuple"), none, (.seq (V []) 0), (W [])⟩
def o206 (P : Params) : Obj := ⟨.none, none, (.func ⟨(S "group"), (S "Reader.group"), (defArgs (inClass (ST 26) 6)), (.stmts (defBody (inClass (ST 26) 6))), (defScope (inClass (ST 26) 6)), 0, [], .none, .none, .none, .none, none, .none, .none, 0⟩), (W [])⟩
def o207 (P : Params) : Obj := ⟨(.type "code"), none, (.fields (V [(.str (S "group") 443), (.str (S "Reader.group") 444), (.str (S "/claim/cut.py") 445), (.int 116 0), (.int 2 0), (.int 0 0), (.int 0 0), (.int 3 0), (.ref 209), (.bool true), (.int 181 0), (.ref 210), .none, (.ref 211), (.ref 212), (.ref 213), (.int 449 0), (.int 116 0), (.str (S "/claim/cut.py") 450)])), (W [])⟩
def o208 (P : Params) : Obj := ⟨(.type "function"), none, (.func ⟨(S "group"), (S "Reader.group"), (defArgs (inClass (ST 26) 6)), (.stmts (defBody (inClass (ST 26) 6))), (defScope (inClass (ST 26) 6)), 3, [], .none, .none, .none, (.str (S "nearcall.rows") 264), none, (.ref 214), .none, 0⟩), (W [])⟩
def o209 (P : Params) : Obj := ⟨(.type "tuple"), none, (.seq (V []) 0), (W [])⟩
def o210 (P : Params) : Obj := ⟨.none, none, (.fields (V [])), (W [])⟩
def o211 (P : Params) : Obj := ⟨(.type "tuple"), none, (.seq (V [(.str (S "self") 455), (.str (S "deep") 456), (.str (S "first") 457), (.str (S "called") 458)]) 0), (W [])⟩
def o212 (P : Params) : Obj := ⟨(.type "tuple"), none, (.seq (V []) 0), (W [])⟩
def o213 (P : Params) : Obj := ⟨.none, none, (.func ⟨(S "step"), (S "Reader.step"), (defArgs (inClass (ST 26) 7)), (.stmts (defBody (inClass (ST 26) 7))), (defScope (inClass (ST 26) 7)), 0, [], .none, .none, .none, .none, none, .none, .none, 0⟩), (W [])⟩
def o214 (P : Params) : Obj := ⟨(.type "code"), none, (.fields (V [(.str (S "step") 452), (.str (S "Reader.step") 453), (.str (S "/claim/cut.py") 454), (.int 122 0), (.int 2 0), (.int 0 0), (.int 0 0), (.int 3 0), (.ref 216), (.bool true), (.int 181 0), (.ref 217), .none, (.ref 218), (.ref 219), (.ref 220), (.int 459 0), (.int 122 0), (.str (S "/claim/cut.py") 460)])), (W [])⟩
def o215 (P : Params) : Obj := ⟨(.type "function"), none, (.func ⟨(S "step"), (S "Reader.step"), (defArgs (inClass (ST 26) 7)), (.stmts (defBody (inClass (ST 26) 7))), (defScope (inClass (ST 26) 7)), 3, [], .none, .none, .none, (.str (S "nearcall.rows") 264), none, (.ref 221), .none, 0⟩), (W [])⟩
def o216 (P : Params) : Obj := ⟨(.type "tuple"), none, (.seq (V []) 0), (W [])⟩
def o217 (P : Params) : Obj := ⟨.none, none, (.fields (V [])), (W [])⟩
def o218 (P : Params) : Obj := ⟨(.type "tuple"), none, (.seq (V [(.str (S "self") 465), (.str (S "deep") 466), (.str (S "found") 467)]) 0), (W [])⟩
def o219 (P : Params) : Obj := ⟨(.type "tuple"), none, (.seq (V []) 0), (W [])⟩
def o220 (P : Params) : Obj := ⟨.none, none, (.func ⟨(S "row"), (S "Reader.row"), (defArgs (inClass (ST 26) 8)), (.stmts (defBody (inClass (ST 26) 8))), (defScope (inClass (ST 26) 8)), 0, [], .none, .none, .none, .none, none, .none, .none, 0⟩), (W [])⟩
def o221 (P : Params) : Obj := ⟨(.type "code"), none, (.fields (V [(.str (S "row") 462), (.str (S "Reader.row") 463), (.str (S "/claim/cut.py") 464), (.int 137 0), (.int 2 0), (.int 0 0), (.int 0 0), (.int 3 0), (.ref 223), (.bool true), (.int 181 0), (.ref 224), .none, (.ref 225), (.ref 226), (.ref 227), (.int 468 0), (.int 137 0), (.str (S "/claim/cut.py") 469)])), (W [])⟩
def o222 (P : Params) : Obj := ⟨(.type "function"), none, (.func ⟨(S "row"), (S "Reader.row"), (defArgs (inClass (ST 26) 8)), (.stmts (defBody (inClass (ST 26) 8))), (defScope (inClass (ST 26) 8)), 3, [], .none, .none, .none, (.str (S "nearcall.rows") 264), none, (.ref 228), .none, 0⟩), (W [])⟩
def o223 (P : Params) : Obj := ⟨(.type "tuple"), none, (.seq (V [(.str (S "at") 471), (.str (S "begun") 472), (.str (S "text") 473)]) 0), (W [])⟩
def o224 (P : Params) : Obj := ⟨(.type "dict"), none, (.dict (D [E P (S "__module__") 387 (.str (S "nearcall.rows") 264), E P (S "__firstlineno__") 391 (.int 81 390), E P (S "__init__") 399 (.ref 173), E P (S "sign") 406 (.ref 180), E P (S "stands") 414 (.ref 187), E P (S "take") 423 (.ref 194), E P (S "letters_taken") 434 (.ref 201), E P (S "number") 442 (.ref 208), E P (S "group") 451 (.ref 215), E P (S "step") 461 (.ref 222), E P (S "row") 470 (.ref 229), E P (S "__static_attributes__") 474 (.ref 230), E P (S "__dict__") 476 (.ref 233), E P (S "__weakref__") 478 (.ref 234), E P (S "__doc__") 479 .none]) 4), (W [])⟩
def o225 (P : Params) : Obj := ⟨(.type "type"), none, (.cls ⟨(S "Reader"), [(.type "object")], [(.ref 232), (.type "object")], 231, (S "Reader"), true, [], [], false, none, false⟩), (W [none, none, (some (.str (S "Reader") 380)), (some (.str (S "Reader") 388)), (some (.builtin "object.__new__")), (some (.bool true))])⟩
def o226 (P : Params) : Obj := ⟨(.type "getset_descriptor"), none, (.fields (V [(.str (S "__dict__") 475), (.ref 232), (.builtin "function.__dict__"), (.builtin "function.__dict__#set")])), (W [])⟩
def o227 (P : Params) : Obj := ⟨(.type "getset_descriptor"), none, (.fields (V [(.str (S "__weakref__") 477), (.ref 232), (.builtin "ExceptionGroup.__weakref__"), .none])), (W [])⟩
def o228 (P : Params) : Obj := ⟨(.type "super"), none, (.fields (V [(.ref 232), (.ref 232), (.ref 232)])), (W [])⟩
def o229 (P : Params) : Obj := ⟨(.type "builtin_function_or_method"), none, (.fields (V [(.builtin "object.__init_subclass__"), (.ref 232)])), (W [])⟩
def o230 (P : Params) : Obj := ⟨(.type "tuple"), none, (.seq (V []) 0), (W [])⟩
def o231 (P : Params) : Obj := ⟨.none, none, (.fields (V [])), (W [])⟩
def o232 (P : Params) : Obj := ⟨(.type "tuple"), none, (.seq (V [(.str (S "text") 485), (.str (S "reader") 486), (.str (S "row") 487)]) 0), (W [])⟩
def o233 (P : Params) : Obj := ⟨(.type "tuple"), none, (.seq (V []) 0), (W [])⟩
def o234 (P : Params) : Obj := ⟨.none, none, (.func ⟨(S "read_row"), (S "read_row"), (defArgs (ST 27)), (.stmts (defBody (ST 27))), (defScope (ST 27)), 0, [], .none, .none, .none, .none, none, .none, .none, 0⟩), (W [])⟩
def o235 (P : Params) : Obj := ⟨(.type "code"), none, (.fields (V [(.str (S "read_row") 482), (.str (S "read_row") 483), (.str (S "/claim/cut.py") 484), (.int 146 0), (.int 1 0), (.int 0 0), (.int 0 0), (.int 3 0), (.ref 237), (.bool true), (.int 181 0), (.ref 238), .none, (.ref 239), (.ref 240), (.ref 241), (.int 488 0), (.int 146 0), (.str (S "/claim/cut.py") 489)])), (W [])⟩
def o236 (P : Params) : Obj := ⟨(.type "function"), none, (.func ⟨(S "read_row"), (S "read_row"), (defArgs (ST 27)), (.stmts (defBody (ST 27))), (defScope (ST 27)), 3, [], .none, .none, .none, (.str (S "nearcall.rows") 264), none, (.ref 242), .none, 0⟩), (W [])⟩
def o237 (P : Params) : Obj := ⟨(.type "tuple"), none, (.seq (V []) 0), (W [])⟩
def o238 (P : Params) : Obj := ⟨.none, none, (.fields (V [])), (W [])⟩
def o239 (P : Params) : Obj := ⟨.none, none, (.func ⟨(S "_law_same"), (S "_law_same"), (defArgs (ST 29)), (.stmts (defBody (ST 29))), (defScope (ST 29)), 0, [], .none, .none, .none, .none, none, .none, .none, 0⟩), (W [])⟩
def o240 (P : Params) : Obj := ⟨(.type "code"), none, (.fields (V [(.str (S "_law_same") 493), (.str (S "_law_same") 494), (.str (S "/claim/cut.py") 495), (.int 153 0), (.int 2 0), (.int 0 0), (.int 0 0), (.int 3 0), (.ref 244), (.bool true), (.int 181 0), (.ref 245), .none, .none, .none, (.ref 246), (.int 496 0), (.int 153 0), (.str (S "/claim/cut.py") 497)])), (W [])⟩
def o241 (P : Params) : Obj := ⟨(.type "function"), none, (.func ⟨(S "_law_same"), (S "_law_same"), (defArgs (ST 29)), (.stmts (defBody (ST 29))), (defScope (ST 29)), 3, [], .none, .none, .none, (.str (S "law_nearcall_k27_rows_written_and_read") 491), none, (.ref 247), .none, 0⟩), (W [])⟩
def o242 (P : Params) : Obj := ⟨(.type "tuple"), none, (.seq (V []) 0), (W [])⟩
def o243 (P : Params) : Obj := ⟨.none, none, (.fields (V [])), (W [])⟩
def o244 (P : Params) : Obj := ⟨(.type "tuple"), none, (.seq (V [(.str (S "_law_script") 502), (.str (S "_law_seed") 503), (.str (S "_law_cell") 504)]) 0), (W [])⟩
def o245 (P : Params) : Obj := ⟨(.type "tuple"), none, (.seq (V []) 0), (W [])⟩
def o246 (P : Params) : Obj := ⟨.none, none, (.func ⟨(S "_law_start"), (S "_law_start"), (defArgs (ST 30)), (.stmts (defBody (ST 30))), (defScope (ST 30)), 0, [], .none, .none, .none, .none, none, .none, .none, 0⟩), (W [])⟩
def o247 (P : Params) : Obj := ⟨(.type "code"), none, (.fields (V [(.str (S "_law_start") 499), (.str (S "_law_start") 500), (.str (S "/claim/cut.py") 501), (.int 161 0), (.int 1 0), (.int 0 0), (.int 0 0), (.int 3 0), (.ref 249), (.bool true), (.int 181 0), (.ref 250), .none, (.ref 251), (.ref 252), (.ref 253), (.int 505 0), (.int 161 0), (.str (S "/claim/cut.py") 506)])), (W [])⟩
def o248 (P : Params) : Obj := ⟨(.type "function"), none, (.func ⟨(S "_law_start"), (S "_law_start"), (defArgs (ST 30)), (.stmts (defBody (ST 30))), (defScope (ST 30)), 3, [], .none, .none, .none, (.str (S "law_nearcall_k27_rows_written_and_read") 491), none, (.ref 254), .none, 0⟩), (W [])⟩
def o249 (P : Params) : Obj := ⟨(.type "tuple"), none, (.seq (V []) 0), (W [])⟩
def o250 (P : Params) : Obj := ⟨.none, none, (.fields (V [])), (W [])⟩
def o251 (P : Params) : Obj := ⟨(.type "tuple"), none, (.seq (V [(.str (S "_law_d") 511), (.str (S "_law_many") 512), (.str (S "_law_cell") 513), (.str (S "_law_digit") 514), (.str (S "_law_mix") 515)]) 0), (W [])⟩
def o252 (P : Params) : Obj := ⟨(.type "tuple"), none, (.seq (V []) 0), (W [])⟩
def o253 (P : Params) : Obj := ⟨.none, none, (.func ⟨(S "_law_draw"), (S "_law_draw"), (defArgs (ST 31)), (.stmts (defBody (ST 31))), (defScope (ST 31)), 0, [], .none, .none, .none, .none, none, .none, .none, 0⟩), (W [])⟩
def o254 (P : Params) : Obj := ⟨(.type "code"), none, (.fields (V [(.str (S "_law_draw") 508), (.str (S "_law_draw") 509), (.str (S "/claim/cut.py") 510), (.int 166 0), (.int 2 0), (.int 0 0), (.int 0 0), (.int 3 0), (.ref 256), (.bool true), (.int 181 0), (.ref 257), .none, (.ref 258), (.ref 259), (.ref 260), (.int 516 0), (.int 166 0), (.str (S "/claim/cut.py") 517)])), (W [])⟩
def o255 (P : Params) : Obj := ⟨(.type "function"), none, (.func ⟨(S "_law_draw"), (S "_law_draw"), (defArgs (ST 31)), (.stmts (defBody (ST 31))), (defScope (ST 31)), 3, [], .none, .none, .none, (.str (S "law_nearcall_k27_rows_written_and_read") 491), none, (.ref 261), .none, 0⟩), (W [])⟩
def o256 (P : Params) : Obj := ⟨(.type "tuple"), none, (.seq (V []) 0), (W [])⟩
def o257 (P : Params) : Obj := ⟨.none, none, (.fields (V [])), (W [])⟩
def o258 (P : Params) : Obj := ⟨(.type "tuple"), none, (.seq (V [(.str (S "_law_d") 522), (.str (S "_law_some") 523)]) 0), (W [])⟩
def o259 (P : Params) : Obj := ⟨(.type "tuple"), none, (.seq (V []) 0), (W [])⟩
def o260 (P : Params) : Obj := ⟨.none, none, (.func ⟨(S "_law_of"), (S "_law_of"), (defArgs (ST 32)), (.stmts (defBody (ST 32))), (defScope (ST 32)), 0, [], .none, .none, .none, .none, none, .none, .none, 0⟩), (W [])⟩
def o261 (P : Params) : Obj := ⟨(.type "code"), none, (.fields (V [(.str (S "_law_of") 519), (.str (S "_law_of") 520), (.str (S "/claim/cut.py") 521), (.int 181 0), (.int 2 0), (.int 0 0), (.int 0 0), (.int 3 0), (.ref 263), (.bool true), (.int 181 0), (.ref 264), .none, (.ref 265), (.ref 266), (.ref 267), (.int 524 0), (.int 181 0), (.str (S "/claim/cut.py") 525)])), (W [])⟩
def o262 (P : Params) : Obj := ⟨(.type "function"), none, (.func ⟨(S "_law_of"), (S "_law_of"), (defArgs (ST 32)), (.stmts (defBody (ST 32))), (defScope (ST 32)), 3, [], .none, .none, .none, (.str (S "law_nearcall_k27_rows_written_and_read") 491), none, (.ref 268), .none, 0⟩), (W [])⟩
def o263 (P : Params) : Obj := ⟨(.type "tuple"), none, (.seq (V []) 0), (W [])⟩
def o264 (P : Params) : Obj := ⟨.none, none, (.fields (V [])), (W [])⟩
def o265 (P : Params) : Obj := ⟨.none, none, (.func ⟨(S "_law_mixed"), (S "_law_mixed"), (defArgs (ST 33)), (.stmts (defBody (ST 33))), (defScope (ST 33)), 0, [], .none, .none, .none, .none, none, .none, .none, 0⟩), (W [])⟩
def o266 (P : Params) : Obj := ⟨(.type "code"), none, (.fields (V [(.str (S "_law_mixed") 527), (.str (S "_law_mixed") 528), (.str (S "/claim/cut.py") 529), (.int 183 0), (.int 2 0), (.int 0 0), (.int 0 0), (.int 3 0), (.ref 270), (.bool true), (.int 181 0), (.ref 271), .none, .none, .none, (.ref 272), (.int 530 0), (.int 183 0), (.str (S "/claim/cut.py") 531)])), (W [])⟩
def o267 (P : Params) : Obj := ⟨(.type "function"), none, (.func ⟨(S "_law_mixed"), (S "_law_mixed"), (defArgs (ST 33)), (.stmts (defBody (ST 33))), (defScope (ST 33)), 3, [], .none, .none, .none, (.str (S "law_nearcall_k27_rows_written_and_read") 491), none, (.ref 273), .none, 0⟩), (W [])⟩
def o268 (P : Params) : Obj := ⟨(.type "tuple"), none, (.seq (V []) 0), (W [])⟩
def o269 (P : Params) : Obj := ⟨.none, none, (.fields (V [])), (W [])⟩
def o270 (P : Params) : Obj := ⟨(.type "tuple"), none, (.seq (V []) 0), (W [])⟩
def o271 (P : Params) : Obj := ⟨(.type "tuple"), none, (.seq (V []) 0), (W [])⟩
def o272 (P : Params) : Obj := ⟨.none, none, (.func ⟨(S "_law_letters"), (S "_law_letters"), (defArgs (ST 34)), (.stmts (defBody (ST 34))), (defScope (ST 34)), 0, [], .none, .none, .none, .none, none, .none, .none, 0⟩), (W [])⟩
def o273 (P : Params) : Obj := ⟨(.type "code"), none, (.fields (V [(.str (S "_law_letters") 533), (.str (S "_law_letters") 534), (.str (S "/claim/cut.py") 535), (.int 186 0), (.int 0 0), (.int 0 0), (.int 0 0), (.int 3 0), (.ref 275), (.bool true), (.int 181 0), (.ref 276), .none, (.ref 277), (.ref 278), (.ref 279), (.int 536 0), (.int 186 0), (.str (S "/claim/cut.py") 537)])), (W [])⟩
def o274 (P : Params) : Obj := ⟨(.type "function"), none, (.func ⟨(S "_law_letters"), (S "_law_letters"), (defArgs (ST 34)), (.stmts (defBody (ST 34))), (defScope (ST 34)), 3, [], .none, .none, .none, (.str (S "law_nearcall_k27_rows_written_and_read") 491), none, (.ref 280), .none, 0⟩), (W [])⟩
def o275 (P : Params) : Obj := ⟨(.type "tuple"), none, (.seq (V []) 0), (W [])⟩
def o276 (P : Params) : Obj := ⟨.none, none, (.fields (V [])), (W [])⟩
def o277 (P : Params) : Obj := ⟨(.type "tuple"), none, (.seq (V [(.str (S "_law_d") 542), (.str (S "_law_shuts") 543), (.str (S "_law_odds") 544), (.str (S "_law_found") 545), (.str (S "_law_shut") 546), (.str (S "_law_how") 547)]) 0), (W [])⟩
def o278 (P : Params) : Obj := ⟨(.type "tuple"), none, (.seq (V []) 0), (W [])⟩
def o279 (P : Params) : Obj := ⟨.none, none, (.func ⟨(S "_law_sides"), (S "_law_sides"), (defArgs (ST 35)), (.stmts (defBody (ST 35))), (defScope (ST 35)), 0, [], .none, .none, .none, .none, none, .none, .none, 0⟩), (W [])⟩
def o280 (P : Params) : Obj := ⟨(.type "code"), none, (.fields (V [(.str (S "_law_sides") 539), (.str (S "_law_sides") 540), (.str (S "/claim/cut.py") 541), (.int 188 0), (.int 2 0), (.int 0 0), (.int 0 0), (.int 3 0), (.ref 282), (.bool true), (.int 181 0), (.ref 283), .none, (.ref 284), (.ref 285), (.ref 286), (.int 548 0), (.int 188 0), (.str (S "/claim/cut.py") 549)])), (W [])⟩
def o281 (P : Params) : Obj := ⟨(.type "function"), none, (.func ⟨(S "_law_sides"), (S "_law_sides"), (defArgs (ST 35)), (.stmts (defBody (ST 35))), (defScope (ST 35)), 3, [], .none, .none, .none, (.str (S "law_nearcall_k27_rows_written_and_read") 491), none, (.ref 287), .none, 0⟩), (W [])⟩
def o282 (P : Params) : Obj := ⟨(.type "tuple"), none, (.seq (V []) 0), (W [])⟩
def o283 (P : Params) : Obj := ⟨.none, none, (.fields (V [])), (W [])⟩
def o284 (P : Params) : Obj := ⟨(.type "tuple"), none, (.seq (V [(.str (S "_law_d") 554)]) 0), (W [])⟩
def o285 (P : Params) : Obj := ⟨(.type "tuple"), none, (.seq (V []) 0), (W [])⟩
def o286 (P : Params) : Obj := ⟨.none, none, (.func ⟨(S "_law_number"), (S "_law_number"), (defArgs (ST 36)), (.stmts (defBody (ST 36))), (defScope (ST 36)), 0, [], .none, .none, .none, .none, none, .none, .none, 0⟩), (W [])⟩
def o287 (P : Params) : Obj := ⟨(.type "code"), none, (.fields (V [(.str (S "_law_number") 551), (.str (S "_law_number") 552), (.str (S "/claim/cut.py") 553), (.int 196 0), (.int 1 0), (.int 0 0), (.int 0 0), (.int 3 0), (.ref 289), (.bool true), (.int 181 0), (.ref 290), .none, (.ref 291), (.ref 292), (.ref 293), (.int 555 0), (.int 196 0), (.str (S "/claim/cut.py") 556)])), (W [])⟩
def o288 (P : Params) : Obj := ⟨(.type "function"), none, (.func ⟨(S "_law_number"), (S "_law_number"), (defArgs (ST 36)), (.stmts (defBody (ST 36))), (defScope (ST 36)), 3, [], .none, .none, .none, (.str (S "law_nearcall_k27_rows_written_and_read") 491), none, (.ref 294), .none, 0⟩), (W [])⟩
def o289 (P : Params) : Obj := ⟨(.type "tuple"), none, (.seq (V []) 0), (W [])⟩
def o290 (P : Params) : Obj := ⟨.none, none, (.fields (V [])), (W [])⟩
def o291 (P : Params) : Obj := ⟨(.type "tuple"), none, (.seq (V [(.str (S "_law_d") 561), (.str (S "_law_stem") 562), (.str (S "_law_spot") 563)]) 0), (W [])⟩
def o292 (P : Params) : Obj := ⟨(.type "tuple"), none, (.seq (V []) 0), (W [])⟩
def o293 (P : Params) : Obj := ⟨.none, none, (.func ⟨(S "_law_name"), (S "_law_name"), (defArgs (ST 37)), (.stmts (defBody (ST 37))), (defScope (ST 37)), 0, [], .none, .none, .none, .none, none, .none, .none, 0⟩), (W [])⟩
def o294 (P : Params) : Obj := ⟨(.type "code"), none, (.fields (V [(.str (S "_law_name") 558), (.str (S "_law_name") 559), (.str (S "/claim/cut.py") 560), (.int 198 0), (.int 1 0), (.int 0 0), (.int 0 0), (.int 3 0), (.ref 296), (.bool true), (.int 181 0), (.ref 297), .none, (.ref 298), (.ref 299), (.ref 300), (.int 564 0), (.int 198 0), (.str (S "/claim/cut.py") 565)])), (W [])⟩
def o295 (P : Params) : Obj := ⟨(.type "function"), none, (.func ⟨(S "_law_name"), (S "_law_name"), (defArgs (ST 37)), (.stmts (defBody (ST 37))), (defScope (ST 37)), 3, [], .none, .none, .none, (.str (S "law_nearcall_k27_rows_written_and_read") 491), none, (.ref 301), .none, 0⟩), (W [])⟩
def o296 (P : Params) : Obj := ⟨(.type "tuple"), none, (.seq (V []) 0), (W [])⟩
def o297 (P : Params) : Obj := ⟨.none, none, (.fields (V [])), (W [])⟩
def o298 (P : Params) : Obj := ⟨(.type "tuple"), none, (.seq (V [(.str (S "_law_d") 570), (.str (S "_law_left") 571), (.str (S "_law_deep") 572), (.str (S "_law_steps") 573), (.str (S "_law_k") 574), (.str (S "_law_how") 575), (.str (S "_law_text_here") 576)]) 0), (W [])⟩
def o299 (P : Params) : Obj := ⟨(.type "tuple"), none, (.seq (V []) 0), (W [])⟩
def o300 (P : Params) : Obj := ⟨.none, none, (.func ⟨(S "_law_tree"), (S "_law_tree"), (defArgs (ST 38)), (.stmts (defBody (ST 38))), (defScope (ST 38)), 0, [], .none, .none, .none, .none, none, .none, .none, 0⟩), (W [])⟩
def o301 (P : Params) : Obj := ⟨(.type "code"), none, (.fields (V [(.str (S "_law_tree") 567), (.str (S "_law_tree") 568), (.str (S "/claim/cut.py") 569), (.int 202 0), (.int 3 0), (.int 0 0), (.int 0 0), (.int 3 0), (.ref 303), (.bool true), (.int 181 0), (.ref 304), .none, (.ref 305), (.ref 306), (.ref 307), (.int 577 0), (.int 202 0), (.str (S "/claim/cut.py") 578)])), (W [])⟩
def o302 (P : Params) : Obj := ⟨(.type "function"), none, (.func ⟨(S "_law_tree"), (S "_law_tree"), (defArgs (ST 38)), (.stmts (defBody (ST 38))), (defScope (ST 38)), 3, [], .none, .none, .none, (.str (S "law_nearcall_k27_rows_written_and_read") 491), none, (.ref 308), .none, 0⟩), (W [])⟩
def o303 (P : Params) : Obj := ⟨(.type "tuple"), none, (.seq (V []) 0), (W [])⟩
def o304 (P : Params) : Obj := ⟨.none, none, (.fields (V [])), (W [])⟩
def o305 (P : Params) : Obj := ⟨(.type "tuple"), none, (.seq (V [(.str (S "_law_tree_here") 583), (.str (S "_law_words") 584), (.str (S "_law_step") 585)]) 0), (W [])⟩
def o306 (P : Params) : Obj := ⟨(.type "tuple"), none, (.seq (V []) 0), (W [])⟩
def o307 (P : Params) : Obj := ⟨.none, none, (.func ⟨(S "_law_text"), (S "_law_text"), (defArgs (ST 39)), (.stmts (defBody (ST 39))), (defScope (ST 39)), 0, [], .none, .none, .none, .none, none, .none, .none, 0⟩), (W [])⟩
def o308 (P : Params) : Obj := ⟨(.type "code"), none, (.fields (V [(.str (S "_law_text") 580), (.str (S "_law_text") 581), (.str (S "/claim/cut.py") 582), (.int 215 0), (.int 1 0), (.int 0 0), (.int 0 0), (.int 3 0), (.ref 310), (.bool true), (.int 181 0), (.ref 311), .none, (.ref 312), (.ref 313), (.ref 314), (.int 586 0), (.int 215 0), (.str (S "/claim/cut.py") 587)])), (W [])⟩
def o309 (P : Params) : Obj := ⟨(.type "function"), none, (.func ⟨(S "_law_text"), (S "_law_text"), (defArgs (ST 39)), (.stmts (defBody (ST 39))), (defScope (ST 39)), 3, [], .none, .none, .none, (.str (S "law_nearcall_k27_rows_written_and_read") 491), none, (.ref 315), .none, 0⟩), (W [])⟩
def o310 (P : Params) : Obj := ⟨(.type "tuple"), none, (.seq (V []) 0), (W [])⟩
def o311 (P : Params) : Obj := ⟨.none, none, (.fields (V [])), (W [])⟩
def o312 (P : Params) : Obj := ⟨(.type "tuple"), none, (.seq (V [(.str (S "_law_script") 592), (.str (S "_law_d") 593), (.str (S "_law_turn") 594), (.str (S "_law_tree_here") 595), (.str (S "_law_k") 596), (.str (S "_law_text_here") 597)]) 0), (W [])⟩
def o313 (P : Params) : Obj := ⟨(.type "tuple"), none, (.seq (V []) 0), (W [])⟩
def o314 (P : Params) : Obj := ⟨.none, none, (.func ⟨(S "law"), (S "law"), (defArgs (ST 40)), (.stmts (defBody (ST 40))), (defScope (ST 40)), 0, [], .none, .none, .none, .none, none, .none, .none, 0⟩), (W [])⟩
def o315 (P : Params) : Obj := ⟨(.type "code"), none, (.fields (V [(.str (S "law") 589), (.str (S "law") 590), (.str (S "/claim/cut.py") 591), (.int 225 0), (.int 1 0), (.int 0 0), (.int 0 0), (.int 3 0), (.ref 317), (.bool true), (.int 181 0), (.ref 318), .none, (.ref 319), (.ref 320), (.ref 321), (.int 598 0), (.int 225 0), (.str (S "/claim/cut.py") 599)])), (W [])⟩
def o316 (P : Params) : Obj := ⟨(.type "function"), none, (.func ⟨(S "law"), (S "law"), (defArgs (ST 40)), (.stmts (defBody (ST 40))), (defScope (ST 40)), 3, [], .none, .none, .none, (.str (S "law_nearcall_k27_rows_written_and_read") 491), none, (.ref 322), .none, 0⟩), (W [])⟩
def objs_1 (P : Params) : List Obj :=
  [boot_o_0 P, boot_o_1 P, boot_o_2 P, o132 P, boot_o_4 P, boot_o_5 P, boot_o_6 P, boot_o_7 P, boot_o_8 P, boot_o_9 P, boot_o_10 P, o0 P, o133 P, o2 P, o3 P, o6 P, o7 P, o8 P, o9 P, o10 P, o11 P, o12 P, o13 P, o14 P, o15 P, o16 P, o17 P, o18 P, o19 P, o20 P, o21 P, o22 P, o23 P, o24 P, o25 P, o26 P, o27 P, o28 P, o29 P, o30 P] ++ (
  [o31 P, o32 P, o33 P, o34 P, o35 P, o36 P, o37 P, o38 P, o39 P, o40 P, o41 P, o42 P, o43 P, o44 P, o45 P, o46 P, o47 P, o48 P, o49 P, o50 P, o51 P, o52 P, o53 P, o54 P, o55 P, o56 P, o57 P, o58 P, o59 P, o60 P, o61 P, o62 P, o63 P, o64 P, o65 P, o66 P, o67 P, o68 P, o69 P, o70 P] ++ (
  [o71 P, o72 P, o73 P, o74 P, o75 P, o76 P, o77 P, o78 P, o79 P, o80 P, o81 P, o82 P, o83 P, o84 P, o85 P, o86 P, o87 P, o88 P, o89 P, o90 P, o91 P, o92 P, o93 P, o94 P, o95 P, o96 P, o97 P, o98 P, o99 P, o100 P, o101 P, o102 P, o103 P, o104 P, o105 P, o106 P, o107 P, o108 P, o109 P, o110 P] ++ (
  [o111 P, o112 P, o113 P, o114 P, o115 P, o116 P, o117 P, o118 P, o119 P, o120 P, o121 P, o122 P, o123 P, o124 P, o125 P, o126 P, o127 P, o128 P, o129 P, o130 P, o131 P, o134 P, o135 P, o136 P, o137 P, o138 P, o139 P, o140 P, o141 P, o142 P, o143 P, o144 P, o145 P, o146 P, o147 P, o148 P, o149 P, o150 P, o151 P, o152 P] ++ (
  [o153 P, o154 P, o155 P, o156 P, o157 P, o158 P, o159 P, o160 P, o161 P, o162 P, o163 P, o164 P, o165 P, o166 P, o167 P, o168 P, o169 P, o170 P, o171 P, o172 P, o173 P, o174 P, o175 P, o176 P, o177 P, o178 P, o179 P, o180 P, o181 P, o182 P, o183 P, o184 P, o185 P, o186 P, o187 P, o188 P, o189 P, o190 P, o191 P, o192 P] ++ (
  [o193 P, o194 P, o195 P, o196 P, o197 P, o198 P, o199 P, o200 P, o201 P, o202 P, o203 P, o204 P, o205 P, o206 P, o207 P, o208 P, o209 P, o210 P, o211 P, o212 P, o213 P, o214 P, o215 P, o216 P, o217 P, o218 P, o219 P, o220 P, o221 P, o222 P, o223 P, o224 P, o225 P, o226 P, o227 P, o228 P, o229 P, o230 P, o231 P, o232 P] ++ (
  [o233 P, o234 P, o235 P, o236 P, o237 P, o238 P, o239 P, o240 P, o241 P, o242 P, o243 P, o244 P, o245 P, o246 P, o247 P, o248 P, o249 P, o250 P, o251 P, o252 P, o253 P, o254 P, o255 P, o256 P, o257 P, o258 P, o259 P, o260 P, o261 P, o262 P, o263 P, o264 P, o265 P, o266 P, o267 P, o268 P, o269 P, o270 P, o271 P, o272 P] ++ (
  [o273 P, o274 P, o275 P, o276 P, o277 P, o278 P, o279 P, o280 P, o281 P, o282 P, o283 P, o284 P, o285 P, o286 P, o287 P, o288 P, o289 P, o290 P, o291 P, o292 P, o293 P, o294 P, o295 P, o296 P, o297 P, o298 P, o299 P, o300 P, o301 P, o302 P, o303 P, o304 P, o305 P, o306 P, o307 P, o308 P, o309 P, o310 P, o311 P, o312 P] ++ (
  [o313 P, o314 P, o315 P, o316 P]))))))))
def objs_f (P : Params) : List Obj :=
  [boot_o_0 P, boot_o_1 P, boot_o_2 P, o132 P, boot_o_4 P, boot_o_5 P, boot_o_6 P, boot_o_7 P, boot_o_8 P, boot_o_9 P, boot_o_10 P, o0 P, o133 P, o2 P, o3 P, o6 P, o7 P, o8 P, o9 P, o10 P, o11 P, o12 P, o13 P, o14 P, o15 P, o16 P, o17 P, o18 P, o19 P, o20 P, o21 P, o22 P, o23 P, o24 P, o25 P, o26 P, o27 P, o28 P, o29 P, o30 P] ++ (
  [o31 P, o32 P, o33 P, o34 P, o35 P, o36 P, o37 P, o38 P, o39 P, o40 P, o41 P, o42 P, o43 P, o44 P, o45 P, o46 P, o47 P, o48 P, o49 P, o50 P, o51 P, o52 P, o53 P, o54 P, o55 P, o56 P, o57 P, o58 P, o59 P, o60 P, o61 P, o62 P, o63 P, o64 P, o65 P, o66 P, o67 P, o68 P, o69 P, o70 P] ++ (
  [o71 P, o72 P, o73 P, o74 P, o75 P, o76 P, o77 P, o78 P, o79 P, o80 P, o81 P, o82 P, o83 P, o84 P, o85 P, o86 P, o87 P, o88 P, o89 P, o90 P, o91 P, o92 P, o93 P, o94 P, o95 P, o96 P, o97 P, o98 P, o99 P, o100 P, o101 P, o102 P, o103 P, o104 P, o105 P, o106 P, o107 P, o108 P, o109 P, o110 P] ++ (
  [o111 P, o112 P, o113 P, o114 P, o115 P, o116 P, o117 P, o118 P, o119 P, o120 P, o121 P, o122 P, o123 P, o124 P, o125 P, o126 P, o127 P, o128 P, o129 P, o130 P, o131 P, o134 P, o135 P, o136 P, o137 P, o138 P, o139 P, o140 P, o141 P, o142 P, o143 P, o144 P, o145 P, o146 P, o147 P, o148 P, o149 P, o150 P, o151 P, o152 P] ++ (
  [o153 P, o154 P, o155 P, o156 P, o157 P, o158 P, o159 P, o160 P, o161 P, o162 P, o163 P, o164 P, o165 P, o166 P, o167 P, o168 P, o169 P, o170 P, o171 P, o172 P, o173 P, o174 P, o175 P, o176 P, o177 P, o178 P, o179 P, o180 P, o181 P, o182 P, o183 P, o184 P, o185 P, o186 P, o187 P, o188 P, o189 P, o190 P, o191 P, o192 P] ++ (
  [o193 P, o194 P, o195 P, o196 P, o197 P, o198 P, o199 P, o200 P, o201 P, o202 P, o203 P, o204 P, o205 P, o206 P, o207 P, o208 P, o209 P, o210 P, o211 P, o212 P, o213 P, o214 P, o215 P, o216 P, o217 P, o218 P, o219 P, o220 P, o221 P, o222 P, o223 P, o224 P, o225 P, o226 P, o227 P, o228 P, o229 P, o230 P, o231 P, o232 P] ++ (
  [o233 P, o234 P, o235 P, o236 P, o237 P, o238 P, o239 P, o240 P, o241 P, o242 P, o243 P, o244 P, o245 P, o246 P, o247 P, o248 P, o249 P, o250 P, o251 P, o252 P, o253 P, o254 P, o255 P, o256 P, o257 P, o258 P, o259 P, o260 P, o261 P, o262 P, o263 P, o264 P, o265 P, o266 P, o267 P, o268 P, o269 P, o270 P, o271 P, o272 P] ++ (
  [o273 P, o274 P, o275 P, o276 P, o277 P, o278 P, o279 P, o280 P, o281 P, o282 P, o283 P, o284 P, o285 P, o286 P, o287 P, o288 P, o289 P, o290 P, o291 P, o292 P, o293 P, o294 P, o295 P, o296 P, o297 P, o298 P, o299 P, o300 P, o301 P, o302 P, o303 P, o304 P, o305 P, o306 P, o307 P, o308 P, o309 P, o310 P, o311 P, o312 P] ++ (
  [o313 P, o314 P, o315 P, o316 P]))))))))
def KF (P : Params) : Frag := List.cons (nat_lit 2, boot_o_2 P) (
  List.cons (nat_lit 3, o132 P) (
  List.cons (nat_lit 15, o6 P) (
  List.cons (nat_lit 22, o13 P) (
  List.cons (nat_lit 24, o15 P) (
  List.cons (nat_lit 25, o16 P) (
  List.cons (nat_lit 27, o18 P) (
  List.cons (nat_lit 28, o19 P) (
  List.cons (nat_lit 29, o20 P) (
  List.cons (nat_lit 30, o21 P) (
  List.cons (nat_lit 31, o22 P) (
  List.cons (nat_lit 32, o23 P) (
  List.cons (nat_lit 35, o26 P) (
  List.cons (nat_lit 42, o33 P) (
  List.cons (nat_lit 44, o35 P) (
  List.cons (nat_lit 45, o36 P) (
  List.cons (nat_lit 47, o38 P) (
  List.cons (nat_lit 48, o39 P) (
  List.cons (nat_lit 49, o40 P) (
  List.cons (nat_lit 50, o41 P) (
  List.cons (nat_lit 51, o42 P) (
  List.cons (nat_lit 54, o45 P) (
  List.cons (nat_lit 61, o52 P) (
  List.cons (nat_lit 63, o54 P) (
  List.cons (nat_lit 64, o55 P) (
  List.cons (nat_lit 66, o57 P) (
  List.cons (nat_lit 67, o58 P) (
  List.cons (nat_lit 68, o59 P) (
  List.cons (nat_lit 69, o60 P) (
  List.cons (nat_lit 70, o61 P) (
  List.cons (nat_lit 73, o64 P) (
  List.cons (nat_lit 76, o67 P) (
  List.cons (nat_lit 77, o68 P) (
  List.cons (nat_lit 78, o69 P) (
  List.cons (nat_lit 80, o71 P) (
  List.cons (nat_lit 81, o72 P) (
  List.cons (nat_lit 83, o74 P) (
  List.cons (nat_lit 84, o75 P) (
  List.cons (nat_lit 85, o76 P) (
  List.cons (nat_lit 87, o78 P) (
  List.cons (nat_lit 88, o79 P) (
  List.cons (nat_lit 90, o81 P) (
  List.cons (nat_lit 91, o82 P) (
  List.cons (nat_lit 92, o83 P) (
  List.cons (nat_lit 94, o85 P) (
  List.cons (nat_lit 95, o86 P) (
  List.cons (nat_lit 97, o88 P) (
  List.cons (nat_lit 98, o89 P) (
  List.cons (nat_lit 99, o90 P) (
  List.cons (nat_lit 101, o92 P) (
  List.cons (nat_lit 102, o93 P) (
  List.cons (nat_lit 104, o95 P) (
  List.cons (nat_lit 105, o96 P) (
  List.cons (nat_lit 106, o97 P) (
  List.cons (nat_lit 108, o99 P) (
  List.cons (nat_lit 109, o100 P) (
  List.cons (nat_lit 111, o102 P) (
  List.cons (nat_lit 112, o103 P) (
  List.cons (nat_lit 113, o104 P) (
  List.cons (nat_lit 115, o106 P) (
  List.cons (nat_lit 116, o107 P) (
  List.cons (nat_lit 118, o109 P) (
  List.cons (nat_lit 119, o110 P) (
  List.cons (nat_lit 120, o111 P) (
  List.cons (nat_lit 122, o113 P) (
  List.cons (nat_lit 123, o114 P) (
  List.cons (nat_lit 125, o116 P) (
  List.cons (nat_lit 126, o117 P) (
  List.cons (nat_lit 127, o118 P) (
  List.cons (nat_lit 129, o120 P) (
  List.cons (nat_lit 130, o121 P) (
  List.cons (nat_lit 132, o123 P) (
  List.cons (nat_lit 133, o124 P) (
  List.cons (nat_lit 134, o125 P) (
  List.cons (nat_lit 136, o127 P) (
  List.cons (nat_lit 137, o128 P) (
  List.cons (nat_lit 139, o130 P) (
  List.cons (nat_lit 140, o131 P) (
  List.cons (nat_lit 141, o134 P) (
  List.cons (nat_lit 143, o136 P) (
  List.cons (nat_lit 144, o137 P) (
  List.cons (nat_lit 146, o139 P) (
  List.cons (nat_lit 147, o140 P) (
  List.cons (nat_lit 148, o141 P) (
  List.cons (nat_lit 151, o144 P) (
  List.cons (nat_lit 152, o145 P) (
  List.cons (nat_lit 153, o146 P) (
  List.cons (nat_lit 155, o148 P) (
  List.cons (nat_lit 156, o149 P) (
  List.cons (nat_lit 158, o151 P) (
  List.cons (nat_lit 159, o152 P) (
  List.cons (nat_lit 167, o160 P) (
  List.cons (nat_lit 169, o162 P) (
  List.cons (nat_lit 170, o163 P) (
  List.cons (nat_lit 172, o165 P) (
  List.cons (nat_lit 173, o166 P) (
  List.cons (nat_lit 174, o167 P) (
  List.cons (nat_lit 176, o169 P) (
  List.cons (nat_lit 177, o170 P) (
  List.cons (nat_lit 179, o172 P) (
  List.cons (nat_lit 180, o173 P) (
  List.cons (nat_lit 181, o174 P) (
  List.cons (nat_lit 183, o176 P) (
  List.cons (nat_lit 184, o177 P) (
  List.cons (nat_lit 186, o179 P) (
  List.cons (nat_lit 187, o180 P) (
  List.cons (nat_lit 188, o181 P) (
  List.cons (nat_lit 190, o183 P) (
  List.cons (nat_lit 191, o184 P) (
  List.cons (nat_lit 193, o186 P) (
  List.cons (nat_lit 194, o187 P) (
  List.cons (nat_lit 195, o188 P) (
  List.cons (nat_lit 197, o190 P) (
  List.cons (nat_lit 198, o191 P) (
  List.cons (nat_lit 200, o193 P) (
  List.cons (nat_lit 201, o194 P) (
  List.cons (nat_lit 202, o195 P) (
  List.cons (nat_lit 204, o197 P) (
  List.cons (nat_lit 205, o198 P) (
  List.cons (nat_lit 207, o200 P) (
  List.cons (nat_lit 208, o201 P) (
  List.cons (nat_lit 209, o202 P) (
  List.cons (nat_lit 211, o204 P) (
  List.cons (nat_lit 212, o205 P) (
  List.cons (nat_lit 214, o207 P) (
  List.cons (nat_lit 215, o208 P) (
  List.cons (nat_lit 216, o209 P) (
  List.cons (nat_lit 218, o211 P) (
  List.cons (nat_lit 219, o212 P) (
  List.cons (nat_lit 221, o214 P) (
  List.cons (nat_lit 222, o215 P) (
  List.cons (nat_lit 223, o216 P) (
  List.cons (nat_lit 225, o218 P) (
  List.cons (nat_lit 226, o219 P) (
  List.cons (nat_lit 228, o221 P) (
  List.cons (nat_lit 229, o222 P) (
  List.cons (nat_lit 230, o223 P) (
  List.cons (nat_lit 231, o224 P) (
  List.cons (nat_lit 232, o225 P) (
  List.cons (nat_lit 233, o226 P) (
  List.cons (nat_lit 234, o227 P) (
  List.cons (nat_lit 237, o230 P) (
  List.cons (nat_lit 239, o232 P) (
  List.cons (nat_lit 240, o233 P) (
  List.cons (nat_lit 242, o235 P) (
  List.cons (nat_lit 243, o236 P) (
  List.cons (nat_lit 244, o237 P) (
  List.cons (nat_lit 247, o240 P) (
  List.cons (nat_lit 248, o241 P) (
  List.cons (nat_lit 249, o242 P) (
  List.cons (nat_lit 251, o244 P) (
  List.cons (nat_lit 252, o245 P) (
  List.cons (nat_lit 254, o247 P) (
  List.cons (nat_lit 255, o248 P) (
  List.cons (nat_lit 256, o249 P) (
  List.cons (nat_lit 258, o251 P) (
  List.cons (nat_lit 259, o252 P) (
  List.cons (nat_lit 261, o254 P) (
  List.cons (nat_lit 262, o255 P) (
  List.cons (nat_lit 263, o256 P) (
  List.cons (nat_lit 265, o258 P) (
  List.cons (nat_lit 266, o259 P) (
  List.cons (nat_lit 268, o261 P) (
  List.cons (nat_lit 269, o262 P) (
  List.cons (nat_lit 270, o263 P) (
  List.cons (nat_lit 273, o266 P) (
  List.cons (nat_lit 274, o267 P) (
  List.cons (nat_lit 275, o268 P) (
  List.cons (nat_lit 277, o270 P) (
  List.cons (nat_lit 278, o271 P) (
  List.cons (nat_lit 280, o273 P) (
  List.cons (nat_lit 281, o274 P) (
  List.cons (nat_lit 282, o275 P) (
  List.cons (nat_lit 284, o277 P) (
  List.cons (nat_lit 285, o278 P) (
  List.cons (nat_lit 287, o280 P) (
  List.cons (nat_lit 288, o281 P) (
  List.cons (nat_lit 289, o282 P) (
  List.cons (nat_lit 291, o284 P) (
  List.cons (nat_lit 292, o285 P) (
  List.cons (nat_lit 294, o287 P) (
  List.cons (nat_lit 295, o288 P) (
  List.cons (nat_lit 296, o289 P) (
  List.cons (nat_lit 298, o291 P) (
  List.cons (nat_lit 299, o292 P) (
  List.cons (nat_lit 301, o294 P) (
  List.cons (nat_lit 302, o295 P) (
  List.cons (nat_lit 303, o296 P) (
  List.cons (nat_lit 305, o298 P) (
  List.cons (nat_lit 306, o299 P) (
  List.cons (nat_lit 308, o301 P) (
  List.cons (nat_lit 309, o302 P) (
  List.cons (nat_lit 310, o303 P) (
  List.cons (nat_lit 312, o305 P) (
  List.cons (nat_lit 313, o306 P) (
  List.cons (nat_lit 315, o308 P) (
  List.cons (nat_lit 316, o309 P) (
  List.cons (nat_lit 317, o310 P) (
  List.cons (nat_lit 319, o312 P) (
  List.cons (nat_lit 320, o313 P) (
  List.cons (nat_lit 322, o315 P) (
  List.cons (nat_lit 323, o316 P) (
  List.nil))))))))))))))))))))))))))))))))))))))))))))))))))))))))))))))))))))))))))))))))))))))))))))))))))))))))))))))))))))))))))))))))))))))))))))))))))))))))))))))))))))))))))))))))))))))))))))))))))))))))))
def KA : List Addr := [2, 3, 15, 22, 24, 25, 27, 28, 29, 30, 31, 32, 35, 42, 44, 45, 47, 48, 49, 50, 51, 54, 61, 63, 64, 66, 67, 68, 69, 70, 73, 76, 77, 78, 80, 81, 83, 84, 85, 87, 88, 90, 91, 92, 94, 95, 97, 98, 99, 101, 102, 104, 105, 106, 108, 109, 111, 112, 113, 115, 116, 118, 119, 120, 122, 123, 125, 126, 127, 129, 130, 132, 133, 134, 136, 137, 139, 140, 141, 143, 144, 146, 147, 148, 151, 152, 153, 155, 156, 158, 159, 167, 169, 170, 172, 173, 174, 176, 177, 179, 180, 181, 183, 184, 186, 187, 188, 190, 191, 193, 194, 195, 197, 198, 200, 201, 202, 204, 205, 207, 208, 209, 211, 212, 214, 215, 216, 218, 219, 221, 222, 223, 225, 226, 228, 229, 230, 231, 232, 233, 234, 237, 239, 240, 242, 243, 244, 247, 248, 249, 251, 252, 254, 255, 256, 258, 259, 261, 262, 263, 265, 266, 268, 269, 270, 273, 274, 275, 277, 278, 280, 281, 282, 284, 285, 287, 288, 289, 291, 292, 294, 295, 296, 298, 299, 301, 302, 303, 305, 306, 308, 309, 310, 312, 313, 315, 316, 317, 319, 320, 322, 323]
abbrev qv : Program := view pw [1, 2, 3, 5, 6, 7, 8, 9, 10, 11, 12, 13, 14, 15, 16, 17, 18, 19, 20, 21, 22, 23, 24, 25, 26, 27, 29, 30, 31, 32, 33, 34, 35, 36, 37, 38, 39, 40]
def names : List PySem.Str := [(S "MOST_TIMES")]
def env : Env := ⟨pw.main.scope, mainNs, mainNs, [], PySem.Str.empty, none, (.ref 13), some 14, 0⟩
def bod : List Stmt := behindTheImports pw
abbrev cE : Code := .body bod env
theorem r_a (w : World) (os : OsState) : goG (mq pw w) 11 (some (.ref 6)) 12 (stL w (boot_heap w.params).objs.toList boot_toks os) (topStub pw) = some ((stL w (objs_a w.params) 187 os), ⟨denQ tabQ cE, cE, ⟨0, 0, 0, 0⟩, [topFrame ⟨0, 0, 0, 0⟩]⟩) := by kernel_rfl
theorem r_b (w : World) (os : OsState) : goS (mq pw w) 11 (some (.ref 6)) 1 (stL w (objs_a w.params) 187 os) (thB bod env cE ⟨0, 0, 0, 0⟩ ⟨0, 0, 0, 0⟩) = some (.next, (stL w (objs_b w.params) 187 os), cE, ⟨0, 0, 0, 0⟩) := by kernel_rfl
def l_0 : List Stmt := (pw.main.body.drop 0).take 23
theorem r_0 (w : World) (os : OsState) : goS (mq pw w) 11 (some (.ref 6)) 1097 (stL w (objs_b w.params) 187 os) (thS l_0 env cE ⟨0, 0, 0, 0⟩ ⟨0, 0, 0, 0⟩) = some (.next, (stL w (objs_0 w.params) 360 os), cE, ⟨63, 0, 65, 23⟩) := by kernel_rfl
def l_1 : List Stmt := (pw.main.body.drop 23).take 18
theorem r_1 (w : World) (os : OsState) : goS (mq pw w) 11 (some (.ref 6)) 980 (stL w (objs_0 w.params) 360 os) (thS l_1 env cE ⟨63, 0, 65, 23⟩ ⟨0, 0, 0, 0⟩) = some (.next, (stL w (objs_1 w.params) 601 os), cE, ⟨225, 0, 236, 84⟩) := by kernel_rfl
theorem r_f (w : World) (os : OsState) : goF (mq pw w) 11 (some (.ref 6)) 2 (stL w (objs_1 w.params) 601 os) ⟨doneF .next, cE, ⟨225, 0, 236, 84⟩, [topFrame ⟨0, 0, 0, 0⟩]⟩ = some (stL w (objs_f w.params) 601 os) := by kernel_rfl
theorem bod_is : bod = l_0 ++ (l_1 ++ ([])) := by kernel_rfl
theorem run_all (w : World) (os : OsState) : topRun treeTable pw w 11 (some (.ref 6)) (12 + (1 + (1097 + (980 + 2)))) (stL w (boot_heap w.params).objs.toList boot_toks os).abs (topStub pw) = some (stL w (objs_f w.params) 601 os).abs := by
  refine run_top (b := bod) (env := env) (r_a w os) (r_b w os) ?_
  have z := run_seg (r_0 w os) (run_seg (r_1 w os) (run_end (r_f w os)))
  have e : restOf bod env cE ⟨0, 0, 0, 0⟩ [topFrame ⟨0, 0, 0, 0⟩] = restOf (l_0 ++ (l_1 ++ ([]))) env cE ⟨0, 0, 0, 0⟩ [topFrame ⟨0, 0, 0, 0⟩] := congrArg (fun b => restOf b env cE ⟨0, 0, 0, 0⟩ [topFrame ⟨0, 0, 0, 0⟩]) bod_is
  rw [e]
  exact z
theorem ka_is (P : Params) : KA = (KF P).map (·.1) := by kernel_rfl
abbrev hk : Hook := kHook KF KA ka_is
def ob (S : SharedT) : hk.α := KA.map (getT S)
theorem ob_is (S : SharedT) : ob S = hk.obs S.abs := obK S
theorem k_1 (w : World) (os : OsState) : looksF pw (boot_heap w.params) (stL w (objs_f w.params) 601 os).abs = true := by kernel_rfl
theorem s_0 (w : World) (os : OsState) : (seenQ qv names (importedModules pw.main.body) (fun s => xlAt qv lv s && recOk (OpenLaw.row rw_).toRowW.records s) (stL w (objs_f w.params) 601 os).abs).1 = expectedOf qv := by kernel_rfl
theorem s_1 (w : World) (os : OsState) : (seenQ qv names (importedModules pw.main.body) (fun s => xlAt qv lv s && recOk (OpenLaw.row rw_).toRowW.records s) (stL w (objs_f w.params) 601 os).abs).2.1 = bltViewBooted := by kernel_rfl
theorem s_2 (w : World) (os : OsState) : (seenQ qv names (importedModules pw.main.body) (fun s => xlAt qv lv s && recOk (OpenLaw.row rw_).toRowW.records s) (stL w (objs_f w.params) 601 os).abs).2.2.1 = true := by kernel_rfl
theorem s_3 (w : World) (os : OsState) : (seenQ qv names (importedModules pw.main.body) (fun s => xlAt qv lv s && recOk (OpenLaw.row rw_).toRowW.records s) (stL w (objs_f w.params) 601 os).abs).2.2.2.1 = true := by kernel_rfl
theorem s_4 (w : World) (os : OsState) : (seenQ qv names (importedModules pw.main.body) (fun s => xlAt qv lv s && recOk (OpenLaw.row rw_).toRowW.records s) (stL w (objs_f w.params) 601 os).abs).2.2.2.2.1 = pinGoodD (drecsOf qv) := by kernel_rfl
theorem s_5 (w : World) (os : OsState) : (seenQ qv names (importedModules pw.main.body) (fun s => xlAt qv lv s && recOk (OpenLaw.row rw_).toRowW.records s) (stL w (objs_f w.params) 601 os).abs).2.2.2.2.2.1 = plainGoodE qv (looseW qv names) := by kernel_rfl
theorem s_6 (w : World) (os : OsState) : (seenQ qv names (importedModules pw.main.body) (fun s => xlAt qv lv s && recOk (OpenLaw.row rw_).toRowW.records s) (stL w (objs_f w.params) 601 os).abs).2.2.2.2.2.2.1 = plainGoodD qv names := by kernel_rfl
theorem s_7 (w : World) (os : OsState) : (seenQ qv names (importedModules pw.main.body) (fun s => xlAt qv lv s && recOk (OpenLaw.row rw_).toRowW.records s) (stL w (objs_f w.params) 601 os).abs).2.2.2.2.2.2.2.1 = wideGood qv := by kernel_rfl
theorem s_8 (w : World) (os : OsState) : (seenQ qv names (importedModules pw.main.body) (fun s => xlAt qv lv s && recOk (OpenLaw.row rw_).toRowW.records s) (stL w (objs_f w.params) 601 os).abs).2.2.2.2.2.2.2.2 = clsGoodW qv names := by kernel_rfl
theorem k_3 (w : World) (os : OsState) : ob (stL w (objs_f w.params) 601 os) = hk.val w := by kernel_rfl
theorem looks (w : World) (os : OsState) : (fun S : SharedT => (looksF pw (boot_heap w.params) S.abs, seenQ qv names (importedModules pw.main.body) (fun s => xlAt qv lv s && recOk (OpenLaw.row rw_).toRowW.records s) S.abs, ob S)) (stL w (objs_f w.params) 601 os) = (true, openGood qv names, hk.val w) :=
  Prod.ext (k_1 w os) (Prod.ext (Prod.ext (s_0 w os) (Prod.ext (s_1 w os) (Prod.ext (s_2 w os) (Prod.ext (s_3 w os) (Prod.ext (s_4 w os) (Prod.ext (s_5 w os) (Prod.ext (s_6 w os) (Prod.ext (s_7 w os) (s_8 w os))))))))) (k_3 w os))
theorem left : LeftO pw qv names (fun s => xlAt qv lv s && recOk (OpenLaw.row rw_).toRowW.records s) hk.obs hk.val 2792 true :=
  left_cut (F := objs_f) (kF := 601) (lo := 11) (an := (some (.ref 6))) (M := (12 + (1 + (1097 + (980 + 2))))) ob_is (by kernel_rfl) (by rfl) (fun s => by kernel_rfl) (by kernel_rfl) (fun w => by kernel_rfl) (fun w => by kernel_rfl) run_all (fun w os => looks w os)
end HX
end
open PySem PySem.W PyProof.Rows
set_option maxHeartbeats 0 in
theorem PySem.Challenge.cw_nearcall_k27_rows_written_and_read_holds : PySem.Challenge.rw_nearcall_k27_rows_written_and_read.Holds := by
  w_on; o_law
  refine holds_open (r := OpenLaw.row PySem.Challenge.rw_nearcall_k27_rows_written_and_read) (q := HX.qv) (loose := HX.names)
    (Xt := fun s => xlAt HX.qv HX.lv s && recOk (OpenLaw.row PySem.Challenge.rw_nearcall_k27_rows_written_and_read).toRowW.records s)
    (XP := XL HX.qv HX.lv) (Yf := (kHook HX.KF HX.KA HX.ka_is).obs) (Ya := (kHook HX.KF HX.KA HX.ka_is).val) (YP := (kHook HX.KF HX.KA HX.ka_is).says)
    (kwd := []) HX.left (kHook HX.KF HX.KA HX.ka_is).of (kHook HX.KF HX.KA HX.ka_is).keeps
    (fun s z => xl_of s (Bool.and_eq_true_iff.mp z).1) XL.keeps
    (by rfl) (by rfl) (by rfl)
    (fun s z => recFacts_of (Bool.and_eq_true_iff.mp z).2)
    (by rfl) (by first | assumption | decide +kernel) (by decide +kernel)
    ⟨rfl, rfl, rfl, rfl, rfl, by decide +kernel⟩ ?hw ?hc
  case hw => w_witness2
  k_fill
  refine LamX.walk_ofTs (l := PySem.Challenge.rw_nearcall_k27_rows_written_and_read) (n := 63) (k := 45) (x := "_law_script") (CX := fun w => L2.CX0) rfl (by decide) rfl ⟨rfl, by decide, by decide⟩ (fun w h Y => PySem.W.kIn_of Y) ?F (fun _ _ _ _ _ h => h)
  case F =>
    intro w mg fa h Y KX G hmg
    refine' NC.all_mk KX G hmg ?a_w ?l_w ?c_w ?k_w ?a_n ?l_n ?c_n ?k_n ?a_nu ?l_nu ?c_nu ?k_nu ?a_tu ?l_tu ?c_tu ?k_tu ?a_pl ?l_pl ?c_pl ?k_pl ?a_gh ?l_gh ?c_gh ?k_gh ?a_ls ?l_ls ?c_ls ?k_ls ?a_lb ?l_lb ?c_lb ?k_lb ?a_ir ?l_ir ?c_ir ?k_ir ?a_cr ?l_cr ?c_cr ?k_cr ?a_st ?l_st ?c_st ?k_st ?a_tx ?l_tx ?c_tx ?k_tx ?a_rt ?l_rt ?c_rt ?k_rt ?a_of ?l_of ?c_of ?k_of ?a_draw ?l_draw ?c_draw ?k_draw ?a_letters ?l_letters ?c_letters ?k_letters ?a_mixed ?l_mixed ?c_mixed ?k_mixed ?a_sides ?l_sides ?c_sides ?k_sides ?a_number ?l_number ?c_number ?k_number ?a_name ?l_name ?c_name ?k_name ?a_tree ?l_tree ?c_tree ?k_tree ?a_text ?l_text ?c_text ?k_text ?a_same ?l_same ?c_same ?k_same ?a_start ?l_start ?c_start ?k_start ?a_rr ?l_rr ?c_rr ?k_rr ?a_CH ?a_CB ?i_H ?r_H ?g_H ?v_V ?x_CB ?rv_CB ?sa_CB ?ga_CB ?gg_CB ?hd_CB ?ex_CB ?ty_CB ?kc_CB ?i_CB ?t_CB ?n_CB_word ?n_CB_at ?l_iH ?c_iH ?k_iH ?l_iB ?c_iB ?k_iB ?a_RC ?i_RC ?j_RC ?pg_RC ?hd_RC ?po_RC ?sa_RC ?mk_RC ?kp_RC ?n1_RC ?n2_RC ?n3_RC ?b_qsg ?m_qsg ?l_qsg ?c_qsg ?k_qsg ?b_qsd ?m_qsd ?l_qsd ?c_qsd ?k_qsd ?b_qtk ?m_qtk ?l_qtk ?c_qtk ?k_qtk ?b_qlt ?m_qlt ?l_qlt ?c_qlt ?k_qlt ?b_qnm ?m_qnm ?l_qnm ?c_qnm ?k_qnm ?b_qgr ?m_qgr ?l_qgr ?c_qgr ?k_qgr ?b_qsp ?m_qsp ?l_qsp ?c_qsp ?k_qsp ?b_qrw ?m_qrw ?l_qrw ?c_qrw ?k_qrw ?l_qini ?c_qini ?k_qini ?z_list ?z_sorted ?z_set ?z_all ?z_len ?z_enumerate ?z_range ?z_isinstance ?z_tuple ?z_ValueError ?z_bool ?z_str ?z_int ?e_wSMALL ?e_wLETTERS ?e_wFIGURES ?e_wMOST_STEPS ?e_wMOST_DEEP ?e_wMOST_TIMES ?e_wMOST_SIDES ?e_wLONGEST_NAME ?a_L ?l_L ?c_L ?k_L
    (case a_w => k_is)
    (case l_w => k_is)
    (case c_w => k_is)
    (case k_w => k_is)
    (case a_n => k_is)
    (case l_n => k_is)
    (case c_n => k_is)
    (case k_n => k_is)
    (case a_nu => k_is)
    (case l_nu => k_is)
    (case c_nu => k_is)
    (case k_nu => k_is)
    (case a_tu => k_is)
    (case l_tu => k_is)
    (case c_tu => k_is)
    (case k_tu => k_is)
    (case a_pl => k_is)
    (case l_pl => k_is)
    (case c_pl => k_is)
    (case k_pl => k_is)
    (case a_gh => k_is)
    (case l_gh => k_is)
    (case c_gh => k_is)
    (case k_gh => k_is)
    (case a_ls => k_is)
    (case l_ls => k_is)
    (case c_ls => k_is)
    (case k_ls => k_is)
    (case a_lb => k_is)
    (case l_lb => k_is)
    (case c_lb => k_is)
    (case k_lb => k_is)
    (case a_ir => k_is)
    (case l_ir => k_is)
    (case c_ir => k_is)
    (case k_ir => k_is)
    (case a_cr => k_is)
    (case l_cr => k_is)
    (case c_cr => k_is)
    (case k_cr => k_is)
    (case a_st => k_is)
    (case l_st => k_is)
    (case c_st => k_is)
    (case k_st => k_is)
    (case a_tx => k_is)
    (case l_tx => k_is)
    (case c_tx => k_is)
    (case k_tx => k_is)
    (case a_rt => k_is)
    (case l_rt => k_is)
    (case c_rt => k_is)
    (case k_rt => k_is)
    (case a_of => k_is)
    (case l_of => k_is)
    (case c_of => k_is)
    (case k_of => k_is)
    (case a_draw => k_is)
    (case l_draw => k_is)
    (case c_draw => k_is)
    (case k_draw => k_is)
    (case a_letters => k_is)
    (case l_letters => k_is)
    (case c_letters => k_is)
    (case k_letters => k_is)
    (case a_mixed => k_is)
    (case l_mixed => k_is)
    (case c_mixed => k_is)
    (case k_mixed => k_is)
    (case a_sides => k_is)
    (case l_sides => k_is)
    (case c_sides => k_is)
    (case k_sides => k_is)
    (case a_number => k_is)
    (case l_number => k_is)
    (case c_number => k_is)
    (case k_number => k_is)
    (case a_name => k_is)
    (case l_name => k_is)
    (case c_name => k_is)
    (case k_name => k_is)
    (case a_tree => k_is)
    (case l_tree => k_is)
    (case c_tree => k_is)
    (case k_tree => k_is)
    (case a_text => k_is)
    (case l_text => k_is)
    (case c_text => k_is)
    (case k_text => k_is)
    (case a_same => k_is)
    (case l_same => k_is)
    (case c_same => k_is)
    (case k_same => k_is)
    (case a_start => k_is)
    (case l_start => k_is)
    (case c_start => k_is)
    (case k_start => k_is)
    (case a_rr => k_is)
    (case l_rr => k_is)
    (case c_rr => k_is)
    (case k_rr => k_is)
    (case a_CH => k_is)
    (case a_CB => k_is)
    (case i_H => k_is)
    (case r_H => k_is)
    (case g_H => k_is)
    (case v_V => k_is)
    (case x_CB => k_is)
    (case rv_CB => decide +kernel)
    (case sa_CB => k_is)
    (case ga_CB => k_is)
    (case gg_CB => k_is)
    (case hd_CB => k_is)
    (case ex_CB => k_is)
    (case ty_CB => k_is)
    (case kc_CB => k_is)
    (case i_CB => k_is)
    (case t_CB => k_is)
    (case n_CB_word => k_is)
    (case n_CB_at => k_is)
    (case l_iH => k_is)
    (case c_iH => k_is)
    (case k_iH => k_is)
    (case l_iB => k_is)
    (case c_iB => k_is)
    (case k_iB => k_is)
    (case a_RC => k_is)
    (case i_RC => k_is)
    (case j_RC => k_is)
    (case pg_RC => k_is)
    (case hd_RC => k_is)
    (case po_RC => k_is)
    (case sa_RC => k_is)
    (case mk_RC => k_is)
    (case kp_RC => k_is)
    (case n1_RC => k_is)
    (case n2_RC => k_is)
    (case n3_RC => k_is)
    (case b_qsg => k_is)
    (case m_qsg => k_is)
    (case l_qsg => k_is)
    (case c_qsg => k_is)
    (case k_qsg => k_is)
    (case b_qsd => k_is)
    (case m_qsd => k_is)
    (case l_qsd => k_is)
    (case c_qsd => k_is)
    (case k_qsd => k_is)
    (case b_qtk => k_is)
    (case m_qtk => k_is)
    (case l_qtk => k_is)
    (case c_qtk => k_is)
    (case k_qtk => k_is)
    (case b_qlt => k_is)
    (case m_qlt => k_is)
    (case l_qlt => k_is)
    (case c_qlt => k_is)
    (case k_qlt => k_is)
    (case b_qnm => k_is)
    (case m_qnm => k_is)
    (case l_qnm => k_is)
    (case c_qnm => k_is)
    (case k_qnm => k_is)
    (case b_qgr => k_is)
    (case m_qgr => k_is)
    (case l_qgr => k_is)
    (case c_qgr => k_is)
    (case k_qgr => k_is)
    (case b_qsp => k_is)
    (case m_qsp => k_is)
    (case l_qsp => k_is)
    (case c_qsp => k_is)
    (case k_qsp => k_is)
    (case b_qrw => k_is)
    (case m_qrw => k_is)
    (case l_qrw => k_is)
    (case c_qrw => k_is)
    (case k_qrw => k_is)
    (case l_qini => k_is)
    (case c_qini => k_is)
    (case k_qini => k_is)
    (case z_list => k_is)
    (case z_sorted => k_is)
    (case z_set => k_is)
    (case z_all => k_is)
    (case z_len => k_is)
    (case z_enumerate => k_is)
    (case z_range => k_is)
    (case z_isinstance => k_is)
    (case z_tuple => k_is)
    (case z_ValueError => k_is)
    (case z_bool => k_is)
    (case z_str => k_is)
    (case z_int => k_is)
    (case e_wSMALL => first | k_is | kernel_rfl)
    (case e_wLETTERS => first | k_is | kernel_rfl)
    (case e_wFIGURES => first | k_is | kernel_rfl)
    (case e_wMOST_STEPS => first | k_is | kernel_rfl)
    (case e_wMOST_DEEP => first | k_is | kernel_rfl)
    (case e_wMOST_TIMES => first | k_is | kernel_rfl)
    (case e_wMOST_SIDES => first | k_is | kernel_rfl)
    (case e_wLONGEST_NAME => first | k_is | kernel_rfl)
    (case a_L => k_is)
    (case l_L => k_is)
    (case c_L => k_is)
    (case k_L => k_is)
