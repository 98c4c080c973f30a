import PyProof.Rows.All
import Wide.All
import OpenK.AllK
import Wide.FinOn
import HandS.ForMost
import HandS.More
import HandS.Set
import HandS.ClsMeth
import HandS.ExcInit
import HandS.Lambda
import HandS.TryMany
import HandS.ExcField
import HandS.SetTxt0
import HandS.SetFor
import KE.GoesMore
import HandS.Walk
import HandS.DictComp
import HandS.WordsExc
import HandS.Defaults
import PySem.Challenge.RW_nearcall_k28_texts_that_are_no_row
import HandS.List
import HandS.IsInst
import HandS.Text
import KE.KIntText
import KE.GoesZip
import KE.GoesEnum
import HandS.Wide
import HandS.Conv
import HandS.Steps
import HandS.Codes
import PyProof.Rows.RegStrCode
import HandS.EndTab
import KE.HD2
import HandS.Words
set_option Elab.async false
set_option linter.all false
set_option maxRecDepth 100000
namespace NC
open PySem PySem.Spec PyProof.Rows L2
def sg (c : Nat) : Str := ⟨#[c]⟩
end NC
namespace NC
open PySem PySem.Spec PyProof.Rows L2
section
variable {X : Cx} {CX : CXT} {k : Nat} {C f : Addr} {mc : Value} {sp : Sp} {E : XK} {e : Expr} {es : List Expr} {x m : Str} {pos p1 p2 : Pos} {t : TA} {pl : Sem Bool}
  {fd : FuncData} {ps : List Str} {dvs : List V} {ds : List Value}
/-- C.m(e, ..), C an own class by its name, m a plain def of it -/
theorem pe_clsfn (hg : Gl X x) (hm : X.mg x = some (.ref C)) (rd : ClX.CRead X.K C mc) (kv : PySem.W.findCls X.K (.ref C) mc m = some (.val (.ref f)))
    (F : FnOk X.prog X.w X.K X.mg X.base CX k f fd ps sp) (hr : Room k X.A) (hk : PySem.W.keepIn X.K (.ref f) = true) (hb : Binds X.K fd ps ds) (hd : Vals dvs ds) (hx : Passes CX X E) (ha : PA X (e :: es) t)
    (hdb : (x == ("__debug__" : Str)) = false := by decide)
    (hst : starEach (e :: es) X.env = (false, eval e X.env) :: starEach es X.env := by rfl) (hpl : (backTo pos (starEach es X.env)).any (·.1) = false := by rfl)
    (ht : eval (.Call (.Attribute (.Name x p1) m p2) (e :: es) [] pos) X.env = (do
      let ov ← eval (.Name x p1) X.env
      standAt p2.atName
      let (g, first) ← holding [ov] (getMethod ov m pl)
      callWith pos g first (backTo pos (starEach (e :: es) X.env)) (backToKw pos (keywordEach [] X.env))) := by rfl) :
    PE X (.Call (.Attribute (.Name x p1) m p2) (e :: es) [] pos) (tCall sp dvs E t) := by
  refine ⟨fun pins s0 σ H Q I0 h0 => ?_⟩
  refine PySem.W.methodCall_KW (pl := pl) (ld_glob I0 hg hm ?_ hdb) ht
  refine PySem.W.method_cls I0.kIn rd.ga (ClX.getcval_ok (v := .ref f) I0 rd ⟨kv, rfl⟩ fun s1 I1 => ?_)
  refine PySem.W.callWith_K (first := []) (h₀ := X.base) I1.ok.mod.kin hk (thn (ha.run pos pins s1 σ H _ I1 h0) fun us s2 ⟨vs, H2, I2, r2, q2⟩ => ⟨I2.kIn, ?_⟩) hst hpl
  exact run_fn (us := us) (vs := vs) F hr hb hd hx I2 r2 q2
end
end NC
namespace NC
open PySem PySem.Spec PyProof.Rows L2
def tx (l : List Nat) : Str := ⟨l.toArray⟩
theorem sg_tx (c : Nat) : sg c = tx [c] := rfl
theorem tx_list (l : List Nat) : (tx l).cps.toList = l := by simp [tx]
theorem tx_len (l : List Nat) : (tx l).length = l.length := by show (tx l).cps.size = l.length; simp [tx]
theorem tx_inj {a b : List Nat} (h : tx a = tx b) : a = b := by rw [← tx_list a, h, tx_list]
theorem tx_app (a b : List Nat) : tx a ++ tx b = tx (a ++ b) := by
  show Str.mk (a.toArray ++ b.toArray) = Str.mk (a ++ b).toArray
  simp
structure GoodW (l : List Nat) : Prop where
  lo : 1 ≤ l.length
  hi : l.length ≤ 12
  sm : ∀ c ∈ l, 97 ≤ c ∧ c ≤ 122
  rise : l.Pairwise (· < ·)
theorem GoodW.nd {l : List Nat} (g : GoodW l) : l.Nodup := g.rise.imp fun h => Nat.ne_of_lt h
theorem same_upd {H : Hp} {p : Addr} {o : HO} (h : H p = none) : Same H (upd H p o) := fun b x e => by
  rw [upd_ne (ne_of_none e h)]
  exact e
theorem sm_t {K : PySem.W.Frag} {H H' : Hp} {a : Addr} {xs : List V} (e : Same H H') (h : SqT K H a xs) : SqT K H' a xs := by
  rcases h with (h | ⟨o, h⟩) | h
  · exact .inl (.inl (e _ _ h))
  · exact .inl (.inr ⟨o, e _ _ h⟩)
  · exact .inr h
theorem yes_i {σ : L2.St} {H : Hp} {A B : Hp → Prop} (h : A H) : tYes σ H (fun b H3 => if b = true then A H3 else B H3) := show (if true = true then A H else B H) from iteT h
theorem sm_trans {H H1 H2 : Hp} (a : Same H H1) (b : Same H1 H2) : Same H H2 := fun c o h => b c o (a c o h)
theorem sm_upd {H H1 : Hp} {p : Addr} {o : HO} (e : Same H H1) (h : H1 p = none) : Same H (upd H1 p o) := sm_trans e (same_upd h)
/-- a store at what was new -/
theorem sm_over {H H1 : Hp} {p : Addr} {o : HO} (e : Same H H1) (h : H p = none) : Same H (upd H1 p o) := fun b x hb => by
  rw [upd_ne (ne_of_none hb h)]
  exact e b x hb
theorem sm_l {K : PySem.W.Frag} {H H' : Hp} {a : Addr} {xs : List V} (e : Same H H') (h : SqL K H a xs) : SqL K H' a xs := L2.Same.seq e h
theorem inV_str (x : Str) (ys : List Str) : inV (.str x) (ys.map V.str) = decide (x ∈ ys) := by
  unfold inV
  rw [List.any_map]
  induction ys with
  | nil => rfl
  | cons y r ih =>
    rw [List.any_cons, ih]
    by_cases e : y = x
    · subst e
      simp [eqV]
    · have e2 : ¬ x = y := fun z => e z.symm
      have q : eqV (.str y) (.str x) = false := by
        show (y == x) = false
        simpa using e
      show (eqV (.str y) (.str x) || _) = _
      rw [q]
      simp [e2]
end NC
namespace NC
open PySem PySem.Spec PyProof.Rows L2
def SmX (x : Addr) (H H' : Hp) : Prop := ∀ b o, b ≠ x → H b = some o → H' b = some o
end NC
namespace NC
open PySem PySem.Spec PyProof.Rows L2
def topS (i : Nat) : Stmt := PySem.Challenge.pw_nearcall_k28_texts_that_are_no_row.main.body.getD i (.Pass ⟨0, 0, 0, 0⟩)
/-- the built-ins are the built-ins -/
structure BM (mg : Str → Option Value) : Prop where
  list : mg "list" = none
  sorted : mg "sorted" = none
  set : mg "set" = none
  all : mg "all" = none
  len : mg "len" = none
  enumerate : mg "enumerate" = none
  range : mg "range" = none
  isinstance : mg "isinstance" = none
  tuple : mg "tuple" = none
/-- a def of the top, by its name -/
structure DF (K : PySem.W.Frag) (mg : Str → Option Value) (x : Str) (st : Stmt) (ps : List Str) (f : Addr) (fd : FuncData) : Prop where
  F : Fun K x x st f fd
  g : mg x = some (.ref f)
  b : Binds K fd ps []
end NC
namespace NC
open PySem PySem.Spec PyProof.Rows L2
abbrev sStart : Stmt := topS 16
abbrev sDraw : Stmt := topS 17
abbrev sOf : Stmt := topS 18
abbrev sLetters : Stmt := topS 19
theorem scStart : FnScope ["_law_script", "_law_seed", "_law_cell"] ["_law_script"] (defScope sStart) := ⟨rfl, rfl, rfl, by decide +kernel, rfl, by decide +kernel, by decide +kernel⟩
theorem scDraw : FnScope ["_law_d", "_law_many", "_law_cell", "_law_digit", "_law_mix"] ["_law_d", "_law_many"] (defScope sDraw) := ⟨rfl, rfl, rfl, by decide +kernel, rfl, by decide +kernel, by decide +kernel⟩
theorem scOf : FnScope ["_law_d", "_law_some"] ["_law_d", "_law_some"] (defScope sOf) := ⟨rfl, rfl, rfl, by decide +kernel, rfl, by decide +kernel, by decide +kernel⟩
theorem scLetters : FnScope [] [] (defScope sLetters) := ⟨rfl, rfl, rfl, by decide +kernel, rfl, by decide +kernel, by decide +kernel⟩
def Dr (H : Hp) (d : Addr) : Prop := ∃ (c : Addr) (ns : List Int) (i a b e : Int), H d = some (.lst [.ref c, .int i, .int a, .int b, .int e]) ∧ H c = some (.lst (ns.map V.int)) ∧ 0 ≤ i
theorem SmX.refl (x : Addr) (H : Hp) : SmX x H H := fun _ _ _ h => h
theorem SmX.trans {x : Addr} {H H1 H2 : Hp} (a : SmX x H H1) (b : SmX x H1 H2) : SmX x H H2 := fun c o n h => b c o n (a c o n h)
theorem SmX.of {x : Addr} {H H1 : Hp} (a : Same H H1) : SmX x H H1 := fun c o _ h => a c o h
theorem SmX.upd {x : Addr} {H : Hp} {o : HO} : SmX x H (L2.upd H x o) := fun c z n h => by rw [upd_ne n]; exact h
/-- all but d's list stays, and the first of d's list too -/
def HeadC (H : Hp) (d c : Addr) : Prop := ∃ r, H d = some (.lst (.ref c :: r))
def SmD (d : Addr) (H H' : Hp) : Prop := SmX d H H' ∧ ∀ c, HeadC H d c → HeadC H' d c
theorem SmD.refl (x : Addr) (H : Hp) : SmD x H H := ⟨SmX.refl x H, fun _ h => h⟩
theorem SmD.trans {x : Addr} {H H1 H2 : Hp} (a : SmD x H H1) (b : SmD x H1 H2) : SmD x H H2 := ⟨a.1.trans b.1, fun c h => b.2 c (a.2 c h)⟩
theorem SmD.of {x : Addr} {H H1 : Hp} (a : Same H H1) : SmD x H H1 := ⟨SmX.of a, fun _ ⟨r, h⟩ => ⟨r, a _ _ h⟩⟩
theorem SmD.upd {x c : Addr} {H : Hp} {r r' : List V} (h : H x = some (.lst (.ref c :: r))) : SmD x H (L2.upd H x (.lst (.ref c :: r'))) := ⟨SmX.upd, fun c2 ⟨r2, h2⟩ => by
  rw [h] at h2
  have e : c = c2 := by
    injection h2 with h3
    injection h3 with h3
    injection h3 with h3 _
    injection h3
  exact ⟨r', by rw [← e]; exact upd_same⟩⟩
theorem dr_ne {H : Hp} {c d : Addr} {ns : List Int} {x : Addr} {i a b e : Int} (h1 : H d = some (.lst [.ref x, .int i, .int a, .int b, .int e])) (h2 : H c = some (.lst (ns.map V.int))) : c ≠ d := ne_of h2 h1 fun z => by
  have z2 : ns.map V.int = [.ref x, .int i, .int a, .int b, .int e] := by injection z
  cases ns with
  | nil => cases z2
  | cons n r =>
    rw [List.map_cons] at z2
    injection z2 with z3 _
    cases z3
theorem Dr.same {H H' : Hp} {d : Addr} (h : Dr H d) (e : Same H H') : Dr H' d := by
  obtain ⟨c, ns, i, a, b, f, h1, h2, h3⟩ := h
  exact ⟨c, ns, i, a, b, f, e _ _ h1, e _ _ h2, h3⟩
section
variable {P : Program} {w : World} {K : PySem.W.Frag} {mg : Str → Option Value} {base : Heap}
def spDraw : Sp := fun vs H Q _ => ∃ d n, vs = [.ref d, .int n] ∧ Dr H d ∧ 1 ≤ n ∧ n ≤ 1000000000 ∧ ∀ H' v, SmD d H H' → Dr H' d → 0 ≤ v → v < n → Q (.int v) H'
set_option maxHeartbeats 1000000 in
theorem ok_draw {f : Addr} {fd : FuncData} {k : Nat} (B : BM mg) (F : Fun K "_law_draw" "_law_draw" sDraw f fd) : FnOk P w K mg base CX0 (k + 1) f fd ["_law_d", "_law_many"] spDraw := by
  refine F.ok scDraw (fun vs H Q E h => ?_) (fun cdv A outer s H vs Q E hr h => ?_)
  · obtain ⟨d, n, rfl, _⟩ := h
    rfl
  · obtain ⟨d, n, rfl, D, hn1, hn2, q⟩ := h
    refine ⟨_, C8.pss_cut (ps_if (PW.pt (pw_and (pt_cmpR op_lt (pe_ix ix_list (pv 0) pe_int (fun _ _ => rfl)) (pv 1) (nomark _))
        (pw_and1 (pt_cmpR op_lt (pe_ix ix_list (pv 0) pe_int (fun _ _ => rfl)) (pe_callB call_len_seq (by rfl) B.len PySem.boot_len (pa_cons (pe_ix ix_list (pv 0) pe_int (fun _ _ => rfl)) pa_nil)) (nomark _)))))
      (pss_cons (ps_set (i := 2) scDraw.nd rfl (.inl rfl) (pe_ix ix_list (pe_ix ix_list (pv 0) pe_int (fun _ _ => rfl)) (pe_ix ix_list (pv 0) pe_int (fun _ _ => rfl)) (fun _ _ => rfl)))
      (pss_cons (ps_asg (pe_op op_add (pe_ix ix_list (pv 0) pe_int (fun _ _ => rfl)) pe_int) (pg_sub (pv 0) pe_int set_list))
      (pss_cons (ps_asg (pe_ifExp (pt_cmpR op_ge (pv 2) (pe_op op_pow pe_int pe_int) (nomark _)) (pv 2) pe_int) (pg_sub (pv 0) pe_int set_list))
      (pss_one (ps_asg (pe_op op_mod (pe_op op_add (pe_op op_add (pe_op op_mul (pe_ix ix_list (pv 0) pe_int (fun _ _ => rfl)) pe_int) (pe_op op_mod (pv 2) pe_int)) pe_int) pe_int) (pg_sub (pv 0) pe_int set_list)))))) pss_nil)
      (pss_cons (ps_if (pt_cmpR op_ge (pe_ix ix_list (pv 0) pe_int (fun _ _ => rfl)) (pv 1) (nomark _))
        (pss_cons (ps_set (i := 3) scDraw.nd rfl (.inl rfl) (pe_op op_mod (pe_ix ix_list (pv 0) pe_int (fun _ _ => rfl)) (pv 1)))
        (pss_cons (ps_asg (pe_op op_fdiv (pe_ix ix_list (pv 0) pe_int (fun _ _ => rfl)) (pv 1)) (pg_sub (pv 0) pe_int set_list))
        (pss_one (ps_ret (pv 3))))) pss_nil)
      (pss_cons (ps_asg (pe_op op_add (pe_ix ix_list (pv 0) pe_int (fun _ _ => rfl)) pe_int) (pg_sub (pv 0) pe_int set_list))
      (pss_cons (ps_set (i := 4) scDraw.nd rfl (.inl rfl) (pe_op op_add (pe_op op_add (pe_op op_mul (pe_ix ix_list (pv 0) pe_int (fun _ _ => rfl)) pe_int) (pe_op op_mul (pe_ix ix_list (pv 0) pe_int (fun _ _ => rfl)) pe_int)) pe_int))
      (pss_cons (ps_set (i := 4) scDraw.nd rfl (.inl rfl) (pe_op op_add (pe_op op_mul (pv 4) (pe_op op_add (pe_op op_mod (pv 4) pe_int) pe_int)) (pe_op op_mul (pe_ix ix_list (pv 0) pe_int (fun _ _ => rfl)) pe_int)))
      (pss_cons (ps_asg (pe_op op_mod (pv 4) pe_int) (pg_sub (pv 0) pe_int set_list))
      (pss_one (ps_ret (pe_op op_mod (pe_op op_add (pe_op op_fdiv (pe_ix ix_list (pv 0) pe_int (fun _ _ => rfl)) pe_int) (pe_op op_mul (pe_op op_mod (pe_ix ix_list (pv 0) pe_int (fun _ _ => rfl)) pe_int) pe_int)) (pv 1))))))))), ?_⟩
    obtain ⟨c, ns, i, a, b, e, hd, hc, hi⟩ := D
    have nc := dr_ne hd hc
    refine ⟨fun σ H' => ∃ y2 y3 y4, σ = [some (.ref d), some (.int n), y2, y3, y4] ∧ SmD d H H' ∧ Dr H' d, ?_, ?_⟩
    · refine ⟨_, rfl, d, _, 2, .int a, rfl, rfl, SqL.of hd, rfl, _, rfl, _, _, rfl, rfl, _, rfl, ite2 (fun t1 => ?_) (fun t1 => ?_)⟩
      · refine ⟨_, rfl, d, _, 1, .int i, rfl, rfl, SqL.of hd, rfl, _, rfl, d, _, 0, .ref c, rfl, rfl, SqL.of hd, rfl, c, _, rfl, .inl (SqL.of hc), _, _, rfl, rfl, _, rfl, ite2 (fun t2 => ?_) (fun t2 => ?_)⟩
        · have hil : i < (ns.length : Int) := by
            have := of_decide_eq_true t2
            rw [List.length_map] at this
            exact this
          obtain ⟨j, rfl⟩ := Int.eq_ofNat_of_zero_le hi
          have hjl : j < ns.length := by omega
          have hat : (ns.map V.int)[j]? = some (.int ns[j]) := by rw [List.getElem?_map, List.getElem?_eq_getElem hjl]; rfl
          refine ⟨_, rfl, d, _, 0, .ref c, rfl, rfl, SqL.of hd, rfl, _, rfl, d, _, 1, .int j, rfl, rfl, SqL.of hd, rfl, c, _, j, .int ns[j], rfl, rfl, SqL.of hc, atI_nat hat, ?_⟩
          generalize ns[j] = z
          refine ⟨_, rfl, d, _, 1, .int j, rfl, rfl, SqL.of hd, rfl, _, _, rfl, rfl, _, rfl, d, _, 1, 1, rfl, rfl, hd, rfl, ?_⟩
          have fin : ∀ (H2 : Hp) (z2 : Int), SmD d H H2 → H2 d = some (.lst [.ref c, .int ((j : Int) + 1), .int z2, .int b, .int e]) →
              ∃ H3, SmD d H H3 ∧ Dr H3 d ∧ H3 = upd H2 d (.lst ([.ref c, .int ((j : Int) + 1), .int z2, .int b, .int e].set 3 (.int ((b * 69621 + z % 998244353 + 1) % 2147483647)))) := fun H2 z2 s2 e2 =>
            ⟨_, s2.trans (SmD.upd e2), ⟨c, ns, _, _, _, _, upd_same, by rw [upd_ne nc]; exact s2.1 _ _ nc hc, by omega⟩, rfl⟩
          refine ⟨_, rfl, _, _, rfl, rfl, ⟨by decide, by decide, by decide⟩, _, _, rfl, rfl, _, rfl, ite2 (fun t3 => ?_) (fun t3 => ?_)⟩
          · refine ⟨_, rfl, _, rfl, d, _, 2, 2, rfl, rfl, upd_same, rfl, ?_⟩
            rw [L2.upd_upd]
            obtain ⟨H3, a1, a2, a3⟩ := fin (upd H d (.lst [.ref c, .int ((j : Int) + 1), .int z, .int b, .int e])) z (SmD.upd hd) upd_same
            refine ⟨_, rfl, d, _, 3, .int b, rfl, rfl, SqL.of upd_same, rfl, _, _, rfl, rfl, .inr ⟨by decide, by decide⟩, _, rfl, _, _, rfl, rfl, (by show (0 : Int) < 998244353; decide), _, _, rfl, rfl, _, _, rfl, rfl, _, _, rfl, rfl, (by show (0 : Int) < 2147483647; decide), _, rfl, d, _, 3, 3, rfl, rfl, upd_same, rfl, ?_⟩
            exact ⟨_, _, _, rfl, by rw [a3] at a1; exact a1, by rw [a3] at a2; exact a2⟩
          · refine ⟨_, rfl, d, _, 2, 2, rfl, rfl, upd_same, rfl, ?_⟩
            rw [L2.upd_upd]
            obtain ⟨H3, a1, a2, a3⟩ := fin (upd H d (.lst [.ref c, .int ((j : Int) + 1), .int 0, .int b, .int e])) 0 (SmD.upd hd) upd_same
            refine ⟨_, rfl, d, _, 3, .int b, rfl, rfl, SqL.of upd_same, rfl, _, _, rfl, rfl, .inr ⟨by decide, by decide⟩, _, rfl, _, _, rfl, rfl, (by show (0 : Int) < 998244353; decide), _, _, rfl, rfl, _, _, rfl, rfl, _, _, rfl, rfl, (by show (0 : Int) < 2147483647; decide), _, rfl, d, _, 3, 3, rfl, rfl, upd_same, rfl, ?_⟩
            exact ⟨_, _, _, rfl, by rw [a3] at a1; exact a1, by rw [a3] at a2; exact a2⟩
        · exact ⟨_, _, _, rfl, SmD.refl _ _, c, ns, i, a, b, e, hd, hc, hi⟩
      · exact iteF ⟨_, _, _, rfl, SmD.refl _ _, c, ns, i, a, b, e, hd, hc, hi⟩
    · rintro σ H1 ⟨y2, y3, y4, rfl, s1, c1, ns1, i1, a1, b1, e1, hd1, hc1, hi1⟩
      have nc1 := dr_ne hd1 hc1
      refine ⟨_, rfl, d, _, 2, .int a1, rfl, rfl, SqL.of hd1, rfl, _, rfl, _, _, rfl, rfl, _, rfl, ite2 (fun t1 => ?_) (fun t1 => ?_)⟩
      · refine ⟨_, rfl, d, _, 2, .int a1, rfl, rfl, SqL.of hd1, rfl, _, rfl, _, _, rfl, rfl, (by show 0 < n; omega), ?_⟩
        refine ⟨_, rfl, d, _, 2, .int a1, rfl, rfl, SqL.of hd1, rfl, _, rfl, _, _, rfl, rfl, ⟨by omega, by omega⟩, _, rfl, d, _, 2, 2, rfl, rfl, hd1, rfl, ?_⟩
        refine ⟨_, rfl, q _ _ (s1.trans (SmD.upd hd1)) ⟨c1, ns1, _, _, _, _, upd_same, by rw [upd_ne nc1]; exact hc1, hi1⟩ (Int.emod_nonneg _ (by omega)) (Int.emod_lt_of_pos _ (by omega))⟩
      · refine ⟨_, rfl, d, _, 4, .int e1, rfl, rfl, SqL.of hd1, rfl, _, _, rfl, rfl, _, rfl, d, _, 4, 4, rfl, rfl, hd1, rfl, ?_⟩
        have hd2 : (upd H1 d (.lst ([.ref c1, .int i1, .int a1, .int b1, .int e1].set 4 (.int (e1 + 1))))) d = some (.lst [.ref c1, .int i1, .int a1, .int b1, .int (e1 + 1)]) := upd_same
        refine ⟨_, rfl, d, _, 3, .int b1, rfl, rfl, SqL.of hd2, rfl, _, _, rfl, rfl, .inr ⟨by decide, by decide⟩, _, rfl, d, _, 4, .int (e1 + 1), rfl, rfl, SqL.of hd2, rfl, _, _, rfl, rfl, .inr ⟨by decide, by decide⟩, _, _, rfl, rfl, _, _, rfl, rfl, ?_⟩
        have m1 : 0 ≤ (b1 * 16807 + (e1 + 1) * 40692 + 7) % 65521 := Int.emod_nonneg _ (by decide)
        have m2 : (b1 * 16807 + (e1 + 1) * 40692 + 7) % 65521 < 65521 := Int.emod_lt_of_pos _ (by decide)
        refine ⟨_, rfl, _, rfl, _, _, rfl, rfl, (by show (0 : Int) < 65521; decide), _, _, rfl, rfl, _, _, rfl, rfl, .inr ⟨by show -(2 ^ 64) < (b1 * 16807 + (e1 + 1) * 40692 + 7) % 65521 + 3; omega, by show (b1 * 16807 + (e1 + 1) * 40692 + 7) % 65521 + 3 < 2 ^ 64; omega⟩, _, rfl, d, _, 4, .int (e1 + 1), rfl, rfl, SqL.of hd2, rfl, _, _, rfl, rfl, .inr ⟨by decide, by decide⟩, _, _, rfl, rfl, ?_⟩
        refine ⟨_, rfl, _, _, rfl, rfl, (by show (0 : Int) < 2147483629; decide), _, rfl, d, _, 3, 3, rfl, rfl, hd2, rfl, ?_⟩
        have hd3 : (upd (upd H1 d (.lst ([.ref c1, .int i1, .int a1, .int b1, .int e1].set 4 (.int (e1 + 1))))) d (.lst ([.ref c1, .int i1, .int a1, .int b1, .int (e1 + 1)].set 3 (.int (((b1 * 16807 + (e1 + 1) * 40692 + 7) * ((b1 * 16807 + (e1 + 1) * 40692 + 7) % 65521 + 3) + (e1 + 1) * 9176) % 2147483629))))) d = some (.lst [.ref c1, .int i1, .int a1, .int (((b1 * 16807 + (e1 + 1) * 40692 + 7) * ((b1 * 16807 + (e1 + 1) * 40692 + 7) % 65521 + 3) + (e1 + 1) * 9176) % 2147483629), .int (e1 + 1)]) := upd_same
        refine ⟨_, rfl, d, _, 3, .int (((b1 * 16807 + (e1 + 1) * 40692 + 7) * ((b1 * 16807 + (e1 + 1) * 40692 + 7) % 65521 + 3) + (e1 + 1) * 9176) % 2147483629), rfl, rfl, SqL.of hd3, rfl, _, _, rfl, rfl, ⟨by decide, by decide⟩, _, rfl, d, _, 3, .int (((b1 * 16807 + (e1 + 1) * 40692 + 7) * ((b1 * 16807 + (e1 + 1) * 40692 + 7) % 65521 + 3) + (e1 + 1) * 9176) % 2147483629), rfl, rfl, SqL.of hd3, rfl, _, _, rfl, rfl, (by show (0 : Int) < 8191; decide), _, _, rfl, rfl, .inr ⟨by decide, by decide⟩, _, _, rfl, rfl, _, rfl, _, _, rfl, rfl, (by show 0 < n; omega), ?_⟩
        refine q _ _ ((s1.trans (SmD.upd hd1)).trans (SmD.upd hd2)) ⟨c1, ns1, _, _, _, _, hd3, by rw [upd_ne nc1, upd_ne nc1]; exact hc1, hi1⟩ (Int.emod_nonneg _ (by omega)) (Int.emod_lt_of_pos _ (by omega))
end
end NC
namespace NC
open PySem PySem.Spec PyProof.Rows L2
def ltrs : List Nat := (List.range 26).map (· + 97)
theorem ltrs_eq : Str.ofString "abcdefghijklmnopqrstuvwxyz" = tx ltrs := by decide +kernel
theorem smx_l {K : PySem.W.Frag} {d : Addr} {H H' : Hp} {a : Addr} {xs : List V} (e : SmX d H H') (n : a ≠ d) (h : SqL K H a xs) : SqL K H' a xs := by
  rcases h with (h | ⟨o, h⟩) | h
  · exact .inl (.inl (e _ _ n h))
  · exact .inl (.inr ⟨o, e _ _ n h⟩)
  · exact .inr h
section
variable {P : Program} {w : World} {K : PySem.W.Frag} {mg : Str → Option Value} {base : Heap}
def spStart (K : PySem.W.Frag) : Sp := fun vs H Q _ => ∃ (a : Addr) (ns : List Int), vs = [.ref a] ∧ SqL K H a (ns.map V.int) ∧ ∀ H' d, Same H H' → H d = none → Dr H' d → Q (.ref d) H'
theorem ok_start {f : Addr} {fd : FuncData} {k : Nat} (B : BM mg) (F : Fun K "_law_start" "_law_start" sStart f fd) : FnOk P w K mg base CX0 (k + 1) f fd ["_law_script"] (spStart K) := by
  refine F.ok scStart (fun vs H Q E h => ?_) (fun cdv A outer s H vs Q E hr h => ?_)
  · obtain ⟨a, ns, rfl, _⟩ := h
    rfl
  · obtain ⟨a, ns, rfl, hS, q⟩ := h
    refine ⟨_, pss_cons (ps_set (i := 1) scStart.nd rfl (.inl rfl) pe_int)
      (pss_cons (ps_for PassesOwn.never rfl (pi_list (pe_slice sl_list (pv 0) po_none (po_some pe_int))) (pg_name (i := 2) scStart.nd rfl (.inl rfl))
        (pss_one (ps_set (i := 1) scStart.nd rfl (.inl rfl) (pe_op op_mod (pe_op op_add (pe_op op_add (pe_op op_mul (pv 1) pe_int) (pe_op op_mod (pv 2) pe_int)) pe_int) pe_int))))
      (pss_one (ps_ret (pe_lst (pa_cons (pe_callTy call_list_of (by rfl) B.list (by decide +kernel) (pa_cons (pe_slice sl_list (pv 0) po_none (po_some pe_int)) pa_nil)) (pa_cons pe_int (pa_cons pe_int (pa_cons (pv 1) (pa_cons pe_int pa_nil))))))))), ?_⟩
    refine ⟨_, rfl, 63, rfl, a, _, rfl, hS, fun p np => ⟨p, rfl, ⟨_, SqL.of upd_same⟩, ?_⟩⟩
    have ec : cutV (ns.map V.int) none (some 63) = (ns.take 63).map V.int := by
      unfold cutV
      rw [HT.sIx_none, show HT.sIx (ns.map V.int).length (ns.map V.int).length (some 63) = min 63 (ns.map V.int).length from HT.sIx_nat _ _ 63, List.drop_zero, Nat.sub_zero, List.map_take, List.length_map]
      rcases Nat.le_total 63 ns.length with h | h
      · rw [Nat.min_eq_left h]
      · rw [Nat.min_eq_right h, List.take_of_length_le (by rw [List.length_map]; exact Nat.le_refl _), List.take_of_length_le (by rw [List.length_map]; exact h)]
    rw [ec]
    have wk := walk_list (K := K) (a := p) (xs := (ns.take 63).map V.int)
    refine for_it wk (fun i σ H' => ∃ (z : Int) (y2 : Option V), σ = [some (.ref a), some (.int z), y2] ∧ Same H H' ∧ H' p = some (.lst ((ns.take 63).map V.int))) ⟨_, _, rfl, same_upd np, upd_same⟩
      (fun i σ H' _ h => by obtain ⟨_, _, _, _, h⟩ := h; exact SqL.of h) ?_ ?_
    · rintro i x σ H1 H2 hi ⟨z, y2, rfl, sm, ep⟩ ⟨rfl, hx⟩
      rw [List.getElem?_map] at hx
      obtain ⟨c, hc, rfl⟩ := Option.map_eq_some_iff.mp hx
      exact ⟨_, rfl, _, _, rfl, rfl, .inr ⟨by decide, by decide⟩, _, rfl, _, _, rfl, rfl, (by show (0 : Int) < 1000003; decide), _, _, rfl, rfl, _, _, rfl, rfl, _, _, rfl, rfl, (by show (0 : Int) < 2147483647; decide), _, _, rfl, sm, ep⟩
    · rintro σ H1 ⟨z, y2, rfl, sm, ep⟩
      refine ⟨_, rfl, 63, rfl, a, _, rfl, sm_l sm hS, fun p2 np2 => ⟨p2, _, rfl, .inl (SqL.of upd_same), fun p3 np3 => ?_⟩⟩
      rw [ec] at np3 ⊢
      have s3 := sm_upd (o := .lst ((ns.take 63).map V.int)) (sm_upd (o := .lst ((ns.take 63).map V.int)) sm np2) np3
      refine ⟨_, rfl, by show 5 ≤ sizeLine; decide, fun d nd => ?_⟩
      have n3 : p3 ≠ d := ne_of_none upd_same nd
      exact q _ d (sm_upd s3 nd) (L2.Same.free s3 nd) ⟨p3, ns.take 63, 0, 0, _, 0, upd_same, by rw [upd_ne n3, upd_same], Int.le_refl _⟩
def spOf (K : PySem.W.Frag) : Sp := fun vs H Q _ => ∃ d x, vs = [.ref d, x] ∧ Dr H d ∧
  ((∃ a xs, x = .ref a ∧ a ≠ d ∧ SqL K H a xs ∧ 1 ≤ xs.length ∧ xs.length ≤ 1000 ∧ ∀ H' v (i : Nat), SmD d H H' → Dr H' d → xs[i]? = some v → Q v H') ∨
    ∃ l : List Nat, x = .str (tx l) ∧ 1 ≤ l.length ∧ l.length ≤ 1000 ∧ ∀ H' c, SmD d H H' → Dr H' d → c ∈ l → Q (.str (sg c)) H')
theorem ok_of {f fD : Addr} {fd fdD : FuncData} {k : Nat} (B : BM mg) (F : Fun K "_law_of" "_law_of" sOf f fd) (D : DF K mg "_law_draw" sDraw ["_law_d", "_law_many"] fD fdD) : FnOk P w K mg base CX0 (k + 2) f fd ["_law_d", "_law_some"] (spOf K) := by
  have GD : FnOk P w K mg base CX0 (k + 1) fD fdD ["_law_d", "_law_many"] spDraw := ok_draw B D.F
  refine F.ok scOf (fun vs H Q E h => ?_) (fun cdv A outer s H vs Q E hr h => ?_)
  · obtain ⟨d, x, rfl, _⟩ := h
    rfl
  · obtain ⟨d, x, rfl, hD, h⟩ := h
    refine ⟨_, pss_one (ps_ret (pe_ix (IxR.or ix_list ix_str) (pv 1) (pe_call GD hr rfl D.g D.F.kp D.b .nil pass0 (pa_cons (pv 0) (pa_cons (pe_callB (CallR.or call_len_seq call_len_str) (by rfl) B.len PySem.boot_len (pa_cons (pv 1) pa_nil)) pa_nil))) (fun _ _ => rfl))), ?_⟩
    rcases h with ⟨a, xs, rfl, nd, hS, h1, h2, q⟩ | ⟨l, rfl, h1, h2, q⟩
    · refine ⟨_, rfl, _, rfl, _, rfl, .inl ⟨a, xs, rfl, .inl hS, d, _, rfl, hD, by omega, by omega, fun H1 v s1 D1 v0 v1 => ?_⟩⟩
      obtain ⟨j, rfl⟩ := Int.eq_ofNat_of_zero_le v0
      have hj : j < xs.length := by omega
      exact .inl ⟨a, xs, j, xs[j], rfl, rfl, smx_l s1.1 nd hS, atI_nat (List.getElem?_eq_getElem hj), q H1 _ j s1 D1 (List.getElem?_eq_getElem hj)⟩
    · have hz : (tx l).length ≤ sizeLine := by rw [tx_len, sizeLine_eq]; omega
      refine ⟨_, rfl, _, rfl, _, rfl, .inr ⟨tx l, rfl, hz, d, _, rfl, hD, by rw [tx_len]; omega, by rw [tx_len]; omega, fun H1 v s1 D1 v0 v1 => ?_⟩⟩
      obtain ⟨j, rfl⟩ := Int.eq_ofNat_of_zero_le v0
      have hj : j < l.length := by rw [tx_len] at v1; omega
      exact .inr ⟨tx l, j, l[j], rfl, rfl, hz, by rw [tx_list]; exact atI_nat (List.getElem?_eq_getElem hj), q H1 _ s1 D1 (List.getElem_mem hj)⟩
theorem ok_letters {f : Addr} {fd : FuncData} {k : Nat} (F : Fun K "_law_letters" "_law_letters" sLetters f fd) : FnOk P w K mg base CX0 (k + 1) f fd [] (fun vs H Q _ => vs = [] ∧ Q (.str (tx ltrs)) H) := by
  refine F.ok scLetters (fun vs H Q E h => ?_) (fun cdv A outer s H vs Q E hr h => ?_)
  · obtain ⟨rfl, _⟩ := h
    rfl
  · obtain ⟨rfl, q⟩ := h
    refine ⟨_, pss_one (ps_ret pe_str), ?_⟩
    show Q (.str (Str.ofString "abcdefghijklmnopqrstuvwxyz")) H
    rw [ltrs_eq]
    exact q
end
end NC
namespace NC
open PySem PySem.Spec PyProof.Rows L2
theorem Dr.cell {H : Hp} {d c : Addr} (h : Dr H d) (hc : HeadC H d c) : ∃ ns : List Int, H c = some (.lst (ns.map V.int)) := by
  obtain ⟨c0, ns, i, a, b, f, h1, h2, h3⟩ := h
  obtain ⟨r, e⟩ := hc
  rw [h1] at e
  have e2 : c0 = c := by
    injection e with e
    injection e with e
    injection e with e _
    injection e
  exact ⟨ns, by rw [← e2]; exact h2⟩
theorem Dr.upd {H : Hp} {d c b : Addr} {o : HO} (h : Dr H d) (hc : HeadC H d c) (n1 : b ≠ d) (n2 : b ≠ c) : Dr (L2.upd H b o) d := by
  obtain ⟨c0, ns, i, a, b2, f, h1, h2, h3⟩ := h
  obtain ⟨r, e⟩ := hc
  rw [h1] at e
  have e2 : c0 = c := by
    injection e with e
    injection e with e
    injection e with e _
    injection e
  exact ⟨c0, ns, i, a, b2, f, by rw [upd_ne (Ne.symm n1)]; exact h1, by rw [e2, upd_ne (Ne.symm n2), ← e2]; exact h2, h3⟩
theorem Dr.head {H : Hp} {d : Addr} (h : Dr H d) : ∃ c, HeadC H d c := by
  obtain ⟨c0, ns, i, a, b2, f, h1, h2, h3⟩ := h
  exact ⟨c0, _, h1⟩
theorem HeadC.upd {H : Hp} {d c b : Addr} {o : HO} (h : HeadC H d c) (n1 : b ≠ d) : HeadC (L2.upd H b o) d c := by
  obtain ⟨r, h⟩ := h
  exact ⟨r, by rw [upd_ne (Ne.symm n1)]; exact h⟩
theorem Dr.ne {H : Hp} {d p : Addr} (D : Dr H d) (n : H p = none) : p ≠ d := by
  obtain ⟨c0, r0, hd⟩ := D.head
  exact Ne.symm (ne_of_none hd n)
theorem ds_over {d p : Addr} {H H' : Hp} {o : HO} (D : Dr H d) (u : SmD d H H') (D' : Dr H' d) (np : H p = none) : SmD d H (upd H' p o) ∧ Dr (upd H' p o) d := by
  have nd := D.ne np
  obtain ⟨c0, hc0⟩ := D.head
  obtain ⟨ns, hcell⟩ := D.cell hc0
  have nc : p ≠ c0 := Ne.symm (ne_of_none hcell np)
  refine ⟨⟨fun b o' nb hb => ?_, fun c hc => (u.2 c hc).upd nd⟩, D'.upd (u.2 _ hc0) nd nc⟩
  rw [upd_ne (ne_of_none hb np)]
  exact u.1 b o' nb hb
theorem Dr.o {H : Hp} {d : Addr} (h : Dr H d) : ∃ xs, H d = some (.lst xs) := by
  obtain ⟨c0, ns, i, a, b, f, h1, h2, h3⟩ := h
  exact ⟨_, h1⟩
end NC
namespace NC
open PySem PySem.Spec PyProof.Rows L2
inductive Stp where
  | call (s : List Nat)
  | turn (s : List Nat)
  | row (n : List Nat)
  | times (m : Nat) (r : List Stp)
def smN : List Nat := (Str.ofString "abcdefghijklmnopqrstuvwxyz").cps.toList
def ltN : List Nat := (Str.ofString "abcdefghijklmnopqrstuvwxyzABCDEFGHIJKLMNOPQRSTUVWXYZ").cps.toList
def dgN : List Nat := (Str.ofString "0123456789").cps.toList
theorem dgN_eq : dgN = List.range' 48 10 := by decide +kernel
theorem dgN_iff (c : Nat) : c ∈ dgN ↔ 48 ≤ c ∧ c ≤ 57 := by
  rw [dgN_eq, List.mem_range'_1]; omega
mutual
def szS : Stp → Nat
  | .times _ r => szR r + 1
  | _ => 1
def szR : List Stp → Nat
  | [] => 0
  | s :: r => szS s + szR r
end
mutual
def dpS : Stp → Nat
  | .times _ r => dpR r + 1
  | _ => 0
def dpR : List Stp → Nat
  | [] => 0
  | s :: r => max (dpS s) (dpR r)
end
mutual
def encS : Stp → PyData
  | .call s => .tuple [.str "call", .str (tx s)]
  | .turn s => .tuple [.str "turn", .str (tx s)]
  | .row n => .tuple [.str "row", .str (tx n)]
  | .times m r => .tuple [.str "times", .int (m : Nat), .tuple [.str "steps", .tuple (encL r)]]
def encL : List Stp → List PyData
  | [] => []
  | s :: r => encS s :: encL r
end
def encR (r : List Stp) : PyData := .tuple [.str "steps", .tuple (encL r)]
theorem encL_map : ∀ r : List Stp, encL r = r.map encS
  | [] => rfl
  | s :: r => by rw [encL, encL_map r]; rfl
theorem encL_len (r : List Stp) : (encL r).length = r.length := by rw [encL_map, List.length_map]
theorem dpR_mem : ∀ {r : List Stp} {s : Stp}, s ∈ r → dpS s ≤ dpR r
  | x :: r, s, h => by
    rw [dpR]
    rcases List.mem_cons.mp h with rfl | h
    · omega
    · have := dpR_mem h
      omega
theorem dpR_le : ∀ {r : List Stp} {n : Nat}, (∀ s ∈ r, dpS s ≤ n) → dpR r ≤ n
  | [], n, _ => by rw [dpR]; omega
  | s :: r, n, h => by
    rw [dpR]
    have := h s (List.mem_cons_self ..)
    have := dpR_le fun x hx => h x (List.mem_cons_of_mem _ hx)
    omega
theorem szR_app : ∀ (a b : List Stp), szR (a ++ b) = szR a + szR b
  | [], b => by rw [szR]; simp
  | s :: a, b => by
    rw [List.cons_append, szR, szR, szR_app a b]
    omega
theorem szS_pos : ∀ s : Stp, 1 ≤ szS s
  | .call _ => by rw [szS] <;> simp
  | .turn _ => by rw [szS] <;> simp
  | .row _ => by rw [szS] <;> simp
  | .times _ r => by rw [szS]; omega
theorem szR_len : ∀ r : List Stp, r.length ≤ szR r
  | [] => Nat.zero_le _
  | s :: r => by
    rw [szR, List.length_cons]
    have := szS_pos s
    have := szR_len r
    omega
def SM : Str := "abcdefghijklmnopqrstuvwxyz"
def LT : Str := "abcdefghijklmnopqrstuvwxyzABCDEFGHIJKLMNOPQRSTUVWXYZ"
theorem str_tx {s : Str} : tx s.cps.toList = s := by
  cases s with
  | mk a => show (⟨a.toList.toArray⟩ : Str) = _; simp
theorem LT_cps : LT.cps.toList = ltN := rfl
theorem SM_cps : SM.cps.toList = smN := rfl
end NC
namespace NC
open PySem PySem.Spec PyProof.Rows L2
theorem boot_isi : bootBuiltins "isinstance" = some (.builtin "isinstance") := PyProof.Rows.boot_isinstance
mutual
theorem dp_same {K : PySem.W.Frag} {H H' : Hp} (s : Same H H') : ∀ {v : V} {d : PyData}, Dp K H v d → Dp K H' v d
  | _, _, .non => .non
  | _, _, .bl b => .bl b
  | _, _, .int i => .int i
  | _, _, .str x => .str x
  | _, _, .lst h a => .lst (sm_l s h) (dpa_same s a)
  | _, _, .tup h a => .tup (sm_t s h) (dpa_same s a)
theorem dpa_same {K : PySem.W.Frag} {H H' : Hp} (s : Same H H') : ∀ {vs : List V} {ds : List PyData}, DpAll K H vs ds → DpAll K H' vs ds
  | _, _, .nil => .nil
  | _, _, .cons a b => .cons (dp_same s a) (dpa_same s b)
end
theorem dpa_len {K : PySem.W.Frag} {H : Hp} : ∀ {vs : List V} {ds : List PyData}, DpAll K H vs ds → vs.length = ds.length
  | _, _, .nil => rfl
  | _, _, .cons a b => by rw [List.length_cons, List.length_cons, dpa_len b]
mutual
def lnD : PyData → Bool
  | .str s => decide (s.length ≤ 5000)
  | .list xs => lnA xs
  | .tuple xs => decide (xs.length ≤ 5000) && lnA xs
  | _ => true
def lnA : List PyData → Bool
  | [] => true
  | x :: xs => lnD x && lnA xs
end
theorem lnA_mem : ∀ {xs : List PyData}, lnA xs = true → ∀ x ∈ xs, lnD x = true
  | y :: ys, h, x, hx => by
    rw [lnA, Bool.and_eq_true] at h
    rcases List.mem_cons.mp hx with rfl | hx
    · exact h.1
    · exact lnA_mem h.2 x hx
structure TrOk (d : PyData) : Prop where
  sh : SeqAt.shaped d = true
  ln : lnD d = true
theorem TrOk.str {d : PyData} (h : TrOk d) : ∀ s, d = .str s → s.length ≤ sizeLine := fun s e => by
  have := h.ln
  rw [e, lnD, decide_eq_true_eq] at this
  rw [sizeLine_eq]
  omega
theorem depth_mem : ∀ {xs : List PyData} {x : PyData}, x ∈ xs → x.depth ≤ PyData.depthAll xs
  | y :: ys, x, h => by
    rw [PyData.depthAll]
    rcases List.mem_cons.mp h with rfl | h
    · omega
    · have := depth_mem h
      omega
theorem TrOk.mem {xs : List PyData} (h : TrOk (.tuple xs)) : ∀ x ∈ xs, TrOk x := fun x hx => by
  have a := SeqAt.canLay_of_shaped h.sh
  have b := SeqAt.depth_of_shaped h.sh
  rw [PyData.canLay0] at a
  rw [PyData.depth] at b
  have := depth_mem hx
  have l := h.ln
  rw [lnD, Bool.and_eq_true] at l
  refine ⟨?_, lnA_mem l.2 x hx⟩
  unfold SeqAt.shaped
  rw [PyData.canLay0_of_mem xs x a hx, decide_eq_true (by omega)]
  rfl
end NC
namespace NC
open PySem PySem.Spec PyProof.Rows L2
abbrev sSame : Stmt := topS 15
theorem scSame : FnScope ["_law_x", "_law_due_here", "_law_k"] ["_law_x", "_law_due_here"] (defScope sSame) := ⟨rfl, rfl, rfl, by decide +kernel, rfl, by decide +kernel, by decide +kernel⟩
theorem ty_sql {K : PySem.W.Frag} {H : Hp} {a : Addr} {xs : List V} (h : SqL K H a xs) : TyX K H (.ref a) (.type "list") := by
  rcases h with (h | ⟨o, h⟩) | ⟨o, its, n, h1, h2, _⟩
  · exact .base (.lst h)
  · exact .base (.frz h)
  · exact .kList h1 h2
theorem ty_sqt {K : PySem.W.Frag} {H : Hp} {a : Addr} {xs : List V} (h : SqT K H a xs) : TyX K H (.ref a) (.type "tuple") := by
  rcases h with (h | ⟨o, h⟩) | ⟨o, its, n, h1, h2, _⟩
  · exact .base (.tup h)
  · exact .fTuple h
  · exact .kTuple h1 h2
/-- two things that are the same all through, at most n lists or tuples within one another -/
inductive Alk (K : PySem.W.Frag) (H : Hp) : Nat → V → V → Prop where
  | str {n : Nat} (a : Str) : Alk K H n (.str a) (.str a)
  | bl {n : Nat} (a : Bool) : Alk K H n (.bl a) (.bl a)
  | int {n : Nat} (a : Int) : Alk K H n (.int a) (.int a)
  | non {n : Nat} : Alk K H n .non .non
  | lst {n : Nat} {p r : Addr} {xs ys : List V} (ep : SqL K H p xs) (er : SqL K H r ys) (hl : xs.length = ys.length) (h5 : ys.length ≤ 5000) (h : ∀ (i : Nat) a b, xs[i]? = some a → ys[i]? = some b → Alk K H n a b) : Alk K H (n + 1) (.ref p) (.ref r)
  | tup {n : Nat} {p r : Addr} {xs ys : List V} (ep : SqT K H p xs) (er : SqT K H r ys) (hl : xs.length = ys.length) (h5 : ys.length ≤ 5000) (h : ∀ (i : Nat) a b, xs[i]? = some a → ys[i]? = some b → Alk K H n a b) : Alk K H (n + 1) (.ref p) (.ref r)
theorem Alk.same {K : PySem.W.Frag} {H H' : Hp} (s : Same H H') : ∀ {n : Nat} {x y : V}, Alk K H n x y → Alk K H' n x y
  | _, _, _, .str a => .str a
  | _, _, _, .bl a => .bl a
  | _, _, _, .int a => .int a
  | _, _, _, .non => .non
  | _, _, _, .lst ep er hl h5 h => .lst (sm_l s ep) (sm_l s er) hl h5 fun i a b ha hb => (h i a b ha hb).same s
  | _, _, _, .tup ep er hl h5 h => .tup (sm_t s ep) (sm_t s er) hl h5 fun i a b ha hb => (h i a b ha hb).same s
mutual
def lnL : PyData → Bool
  | .list xs => decide (xs.length ≤ 5000) && lnLA xs
  | .tuple xs => decide (xs.length ≤ 5000) && lnLA xs
  | _ => true
def lnLA : List PyData → Bool
  | [] => true
  | x :: xs => lnL x && lnLA xs
end
mutual
/-- two things that tell the same tree are the same all through -/
theorem alk_dp {K : PySem.W.Frag} {H : Hp} : ∀ {v v' : V} {d : PyData} {n : Nat}, Dp K H v d → Dp K H v' d → d.depth ≤ n → lnL d = true → Alk K H n v v'
  | _, _, _, _, .non, .non, _, _ => .non
  | _, _, _, _, .bl b, .bl _, _, _ => .bl b
  | _, _, _, _, .int i, .int _, _, _ => .int i
  | _, _, _, _, .str x, .str _, _, _ => .str x
  | _, _, .list ds, n, .lst h a, .lst h' a', hd, hl => by
    rw [PyData.depth] at hd
    rw [lnL, Bool.and_eq_true, decide_eq_true_eq] at hl
    obtain ⟨m, rfl⟩ : ∃ m, n = m + 1 := ⟨n - 1, by omega⟩
    exact .lst h h' (by rw [dpa_len a, dpa_len a']) (by rw [dpa_len a']; exact hl.1) (alk_dpa a a' (by omega) hl.2)
  | _, _, .tuple ds, n, .tup h a, .tup h' a', hd, hl => by
    rw [PyData.depth] at hd
    rw [lnL, Bool.and_eq_true, decide_eq_true_eq] at hl
    obtain ⟨m, rfl⟩ : ∃ m, n = m + 1 := ⟨n - 1, by omega⟩
    exact .tup h h' (by rw [dpa_len a, dpa_len a']) (by rw [dpa_len a']; exact hl.1) (alk_dpa a a' (by omega) hl.2)
theorem alk_dpa {K : PySem.W.Frag} {H : Hp} : ∀ {vs vs' : List V} {ds : List PyData} {n : Nat}, DpAll K H vs ds → DpAll K H vs' ds → PyData.depthAll ds ≤ n → lnLA ds = true → ∀ (i : Nat) a b, vs[i]? = some a → vs'[i]? = some b → Alk K H n a b
  | _, _, _, _, .nil, .nil, _, _, i, a, b, ha, hb => by simp at ha
  | _, _, _, _, .cons x xs, .cons y ys, hd, hl, i, a, b, ha, hb => by
    rw [PyData.depthAll] at hd
    rw [lnLA, Bool.and_eq_true] at hl
    cases i with
    | zero => cases ha; cases hb; exact alk_dp x y (by omega) hl.1
    | succ i => exact alk_dpa xs ys (by omega) hl.2 i a b ha hb
end
section
variable {P : Program} {w : World} {K : PySem.W.Frag} {mg : Str → Option Value} {base : Heap}
/-- yes alone: only of what is the same -/
def spYes (K : PySem.W.Frag) : Nat → Sp := fun n vs H Q _ => ∃ x y, vs = [x, y] ∧ Alk K H n x y ∧ ∀ H', Same H H' → Q (.bl true) H'
def spNo : Sp := fun _ _ _ _ => False
theorem range_true (n : Nat) : ((List.range n).map fun _ => true).all id = true := by
  rw [List.all_eq_true]
  intro x hx
  obtain ⟨_, _, e⟩ := List.mem_map.mp hx
  rw [← e]
  rfl
theorem dec_self (x : V) : decide (x = x) = true := decide_eq_true rfl
set_option maxHeartbeats 2000000 in
theorem ok_yes1 {f : Addr} {fd : FuncData} {k : Nat} {spR : Sp} {n : Nat} (B : BM mg) (hb : mg "bool" = none) (hst : mg "str" = none) (D : DF K mg "_law_same" sSame ["_law_x", "_law_due_here"] f fd) (GS : FnOk P w K mg base CX0 k f fd ["_law_x", "_law_due_here"] spR)
    (hR : ∀ m, n = m + 1 → ∀ a b H (Q : VK) E, Alk K H m a b → (∀ H', Same H H' → Q (.bl true) H') → spR [a, b] H Q E) :
    FnOk P w K mg base CX0 (k + 1) f fd ["_law_x", "_law_due_here"] (spYes K n) := by
  refine D.F.ok scSame (fun vs H Q E h => ?_) (fun cdv A outer s H vs Q E hr h => ?_)
  · obtain ⟨x, y, rfl, _⟩ := h
    rfl
  · obtain ⟨x, y, rfl, al, q⟩ := h
    refine ⟨_, pss_cons (ps_if (pt_val (pe_callB call_isiT (by rfl) B.isinstance boot_isi (pa_cons (pv 1) (pa_cons (pe_tup (pa_cons (pe_bltn (v := .ty "list") (by rfl) B.list (by decide +kernel) rfl) (pa_cons (pe_bltn (v := .ty "tuple") (by rfl) B.tuple (by decide +kernel) rfl) pa_nil))) pa_nil))))
        (pss_cons (ps_if (PW.pt (pw_or
            (pt_cmpR op_ne (pe_callB call_isi (by rfl) B.isinstance boot_isi (pa_cons (pv 1) (pa_cons (pe_bltn (v := .ty "list") (by rfl) B.list (by decide +kernel) rfl) pa_nil))) (pe_callB call_isi (by rfl) B.isinstance boot_isi (pa_cons (pv 0) (pa_cons (pe_bltn (v := .ty "list") (by rfl) B.list (by decide +kernel) rfl) pa_nil))) (nomark _))
            (pw_or1 (pt_cmpR op_ne (pe_callB call_isi (by rfl) B.isinstance boot_isi (pa_cons (pv 1) (pa_cons (pe_bltn (v := .ty "tuple") (by rfl) B.tuple (by decide +kernel) rfl) pa_nil))) (pe_callB call_isi (by rfl) B.isinstance boot_isi (pa_cons (pv 0) (pa_cons (pe_bltn (v := .ty "tuple") (by rfl) B.tuple (by decide +kernel) rfl) pa_nil))) (nomark _)))))
          (pss_one (ps_ret pe_bl)) pss_nil)
        (pss_one (ps_ret (pe_and (pe_cmpR op_eq (pe_callB call_len_seq (by rfl) B.len PySem.boot_len (pa_cons (pv 0) pa_nil)) (pe_callB call_len_seq (by rfl) B.len PySem.boot_len (pa_cons (pv 1) pa_nil)) (nomark _))
          (pe_one (pe_callB (cr_all rfl) (by rfl) B.all (by decide +kernel) (pa_cons (pe_lc (own := [("_law_k", 2)]) (g := gName 2) (tt := tYes) (te := tCall spR [] E0 (tCons (tOp (fun x y H Q => rIxL K x y H Q ∨ rIxT K x y H Q) (tVar 0) (tVar 2)) (tCons (tOp (fun x y H Q => rIxL K x y H Q ∨ rIxT K x y H Q) (tVar 1) (tVar 2)) tNil))) rfl scSame.nd (pi_range1 (by rfl) B.range (pa_cons (pe_callB call_len_seq (by rfl) B.len PySem.boot_len (pa_cons (pv 1) pa_nil)) pa_nil))
            (blkOk_by (N := ["_law_x", "_law_due_here", "_law_k"]) (sc := defScope sSame) (by decide +kernel)) (fun _ _ _ _ _ => pg_name (i := 2) scSame.nd rfl (Or.inl rfl)) (fun _ _ _ _ _ => pts_nil)
            (fun _ _ _ _ _ => pe_call GS hr rfl D.g D.F.kp D.b .nil pass0 (pa_cons (pe_ix (IxR.or ix_list ix_tup) (pv 0) (pv 2) (fun _ _ => rfl)) (pa_cons (pe_ix (IxR.or ix_list ix_tup) (pv 1) (pv 2) (fun _ _ => rfl)) pa_nil)))) pa_nil)))))))
        pss_nil)
      (pss_cons (ps_if (PW.pt (pw_or
            (pt_cmpR op_ne (pe_callB call_isi (by rfl) B.isinstance boot_isi (pa_cons (pv 0) (pa_cons (pe_bltn (v := .ty "bool") (by rfl) hb (by decide +kernel) rfl) pa_nil))) (pe_callB call_isi (by rfl) B.isinstance boot_isi (pa_cons (pv 1) (pa_cons (pe_bltn (v := .ty "bool") (by rfl) hb (by decide +kernel) rfl) pa_nil))) (nomark _))
            (pw_or1 (pt_cmpR op_ne (pe_callB call_isi (by rfl) B.isinstance boot_isi (pa_cons (pv 0) (pa_cons (pe_bltn (v := .ty "str") (by rfl) hst (by decide +kernel) rfl) pa_nil))) (pe_callB call_isi (by rfl) B.isinstance boot_isi (pa_cons (pv 1) (pa_cons (pe_bltn (v := .ty "str") (by rfl) hst (by decide +kernel) rfl) pa_nil))) (nomark _)))))
          (pss_one (ps_ret pe_bl)) pss_nil)
      (pss_one (ps_ret (pe_and (pe_cmpR op_eq (pe_cmp (pc_isN (pv 0))) (pe_cmp (pc_isN (pv 1))) (nomark _)) (pe_one (pe_cmpR op_eq (pv 0) (pv 1) (nomark _))))))), ?_⟩
    cases al with
    | str a =>
      refine ⟨_, rfl, by show 2 ≤ sizeLine; decide, fun T nT => ⟨_, T, _, .type "str", [.type "list", .type "tuple"], false, rfl, upd_same, .cons (.ty _) (.cons (.ty _) .nil), .base (.str _), kitAny_cons (kit_ty (b := "list") (r := false) (by decide +kernel)) (fun _ => kitAny_cons (kit_ty (b := "tuple") (r := false) (by decide +kernel)) (fun _ => rfl) (fun z => by cases z)) (fun z => by cases z), _, rfl, iteF ?_⟩⟩
      refine ⟨_, rfl, _, _, .type "str", .type "bool", false, rfl, .ty _, .base (.str _), kit_ty (by decide +kernel), _, rfl, _, _, .type "str", .type "bool", false, rfl, .ty _, .base (.str _), kit_ty (by decide +kernel), rfl, _, rfl, ite2 (fun z => absurd z (by decide)) (fun _ => ?_)⟩
      refine ⟨_, rfl, _, _, .type "str", .type "str", true, rfl, .ty _, .base (.str _), kit_ty (by decide +kernel), _, rfl, _, _, .type "str", .type "str", true, rfl, .ty _, .base (.str _), kit_ty (by decide +kernel), rfl, _, rfl, ite2 (fun z => absurd z (by decide)) (fun _ => ?_)⟩
      refine ⟨_, rfl, _, rfl, rfl, _, rfl, ?_⟩
      rw [dec_self]
      refine iteT ⟨_, rfl, _, rfl, rfl, ?_⟩
      rw [dec_self]
      exact q _ (same_upd nT)
    | bl a =>
      refine ⟨_, rfl, by show 2 ≤ sizeLine; decide, fun T nT => ⟨_, T, _, .type "bool", [.type "list", .type "tuple"], false, rfl, upd_same, .cons (.ty _) (.cons (.ty _) .nil), .base (.bl _), kitAny_cons (kit_ty (b := "list") (r := false) (by decide +kernel)) (fun _ => kitAny_cons (kit_ty (b := "tuple") (r := false) (by decide +kernel)) (fun _ => rfl) (fun z => by cases z)) (fun z => by cases z), _, rfl, iteF ?_⟩⟩
      refine ⟨_, rfl, _, _, .type "bool", .type "bool", true, rfl, .ty _, .base (.bl _), kit_ty (by decide +kernel), _, rfl, _, _, .type "bool", .type "bool", true, rfl, .ty _, .base (.bl _), kit_ty (by decide +kernel), rfl, _, rfl, ite2 (fun z => absurd z (by decide)) (fun _ => ?_)⟩
      refine ⟨_, rfl, _, _, .type "bool", .type "str", false, rfl, .ty _, .base (.bl _), kit_ty (by decide +kernel), _, rfl, _, _, .type "bool", .type "str", false, rfl, .ty _, .base (.bl _), kit_ty (by decide +kernel), rfl, _, rfl, ite2 (fun z => absurd z (by decide)) (fun _ => ?_)⟩
      refine ⟨_, rfl, _, rfl, rfl, _, rfl, ?_⟩
      rw [dec_self]
      refine iteT ⟨_, rfl, _, rfl, rfl, ?_⟩
      rw [dec_self]
      exact q _ (same_upd nT)
    | int a =>
      refine ⟨_, rfl, by show 2 ≤ sizeLine; decide, fun T nT => ⟨_, T, _, .type "int", [.type "list", .type "tuple"], false, rfl, upd_same, .cons (.ty _) (.cons (.ty _) .nil), .base (.int _), kitAny_cons (kit_ty (b := "list") (r := false) (by decide +kernel)) (fun _ => kitAny_cons (kit_ty (b := "tuple") (r := false) (by decide +kernel)) (fun _ => rfl) (fun z => by cases z)) (fun z => by cases z), _, rfl, iteF ?_⟩⟩
      refine ⟨_, rfl, _, _, .type "int", .type "bool", false, rfl, .ty _, .base (.int _), kit_ty (by decide +kernel), _, rfl, _, _, .type "int", .type "bool", false, rfl, .ty _, .base (.int _), kit_ty (by decide +kernel), rfl, _, rfl, ite2 (fun z => absurd z (by decide)) (fun _ => ?_)⟩
      refine ⟨_, rfl, _, _, .type "int", .type "str", false, rfl, .ty _, .base (.int _), kit_ty (by decide +kernel), _, rfl, _, _, .type "int", .type "str", false, rfl, .ty _, .base (.int _), kit_ty (by decide +kernel), rfl, _, rfl, ite2 (fun z => absurd z (by decide)) (fun _ => ?_)⟩
      refine ⟨_, rfl, _, rfl, rfl, _, rfl, ?_⟩
      rw [dec_self]
      refine iteT ⟨_, rfl, _, rfl, rfl, ?_⟩
      rw [dec_self]
      exact q _ (same_upd nT)
    | non =>
      refine ⟨_, rfl, by show 2 ≤ sizeLine; decide, fun T nT => ⟨_, T, _, .type "NoneType", [.type "list", .type "tuple"], false, rfl, upd_same, .cons (.ty _) (.cons (.ty _) .nil), .base .non, kitAny_cons (kit_ty (b := "list") (r := false) (by decide +kernel)) (fun _ => kitAny_cons (kit_ty (b := "tuple") (r := false) (by decide +kernel)) (fun _ => rfl) (fun z => by cases z)) (fun z => by cases z), _, rfl, iteF ?_⟩⟩
      refine ⟨_, rfl, _, _, .type "NoneType", .type "bool", false, rfl, .ty _, .base .non, kit_ty (by decide +kernel), _, rfl, _, _, .type "NoneType", .type "bool", false, rfl, .ty _, .base .non, kit_ty (by decide +kernel), rfl, _, rfl, ite2 (fun z => absurd z (by decide)) (fun _ => ?_)⟩
      refine ⟨_, rfl, _, _, .type "NoneType", .type "str", false, rfl, .ty _, .base .non, kit_ty (by decide +kernel), _, rfl, _, _, .type "NoneType", .type "str", false, rfl, .ty _, .base .non, kit_ty (by decide +kernel), rfl, _, rfl, ite2 (fun z => absurd z (by decide)) (fun _ => ?_)⟩
      refine ⟨_, rfl, _, rfl, rfl, _, rfl, ?_⟩
      rw [dec_self]
      refine iteT ⟨_, rfl, _, rfl, rfl, ?_⟩
      rw [dec_self]
      exact q _ (same_upd nT)
    | @lst m p r xs ys ep er hl h5 hal =>
      have s1 : ∀ {T : Addr}, H T = none → ∀ {o : HO}, SqL K (upd H T o) p xs ∧ SqL K (upd H T o) r ys := fun {T} nT {o} => ⟨sm_l (same_upd nT) ep, sm_l (same_upd nT) er⟩
      refine ⟨_, rfl, by show 2 ≤ sizeLine; decide, fun T nT => ⟨_, T, _, .type "list", [.type "list", .type "tuple"], true, rfl, upd_same, .cons (.ty _) (.cons (.ty _) .nil), (ty_sql (s1 nT).2), kitAny_cons (kit_ty (b := "list") (r := true) (by decide +kernel)) (fun z => by cases z) (fun _ => rfl), _, rfl, iteT ?_⟩⟩
      have sT : Same H (upd H T (.tup [V.ty "list", V.ty "tuple"])) := same_upd nT
      generalize (upd H T (.tup [V.ty "list", V.ty "tuple"])) = H1 at sT ⊢
      have ep1 := sm_l sT ep
      have er1 := sm_l sT er
      refine ⟨_, rfl, _, _, .type "list", .type "list", true, rfl, .ty _, (ty_sql er1), kit_ty (by decide +kernel), _, rfl, _, _, .type "list", .type "list", true, rfl, .ty _, (ty_sql ep1), kit_ty (by decide +kernel), rfl, _, rfl, ite2 (fun z => absurd z (by decide)) (fun _ => ?_)⟩
      refine ⟨_, rfl, _, _, .type "list", .type "tuple", false, rfl, .ty _, (ty_sql er1), kit_ty (by decide +kernel), _, rfl, _, _, .type "list", .type "tuple", false, rfl, .ty _, (ty_sql ep1), kit_ty (by decide +kernel), rfl, _, rfl, ite2 (fun z => absurd z (by decide)) (fun _ => ?_)⟩
      refine ⟨_, rfl, p, _, rfl, .inl (ep1), _, rfl, r, _, rfl, .inl (er1), rfl, _, rfl, ?_⟩
      rw [hl, dec_self]
      refine iteT ⟨_, rfl, r, _, rfl, .inl (er1), _, rfl, by omega, by omega, ?_⟩
      rw [show ((ys.length : Nat) : Int).toNat = ys.length by exact Int.toNat_natCast _]
      intro Da nD
      refine lc_it walk_range (fun i H' => Same H1 H' ∧ H' Da = some (.lst (((List.range i).map fun _ => true).map V.bl))) ⟨same_upd nD, upd_same⟩ (fun _ _ _ _ => trivial) ?_ ?_
      · rintro i v H2 H3 hi ⟨s2, e2⟩ ⟨rfl, rfl⟩
        have hx : i < xs.length := by omega
        have ax : atI xs (0 + (i : Int)) = some xs[i] := by
          rw [show (0 + (i : Int)) = ((i : Nat) : Int) by omega]
          exact atI_nat (List.getElem?_eq_getElem hx)
        have ay : atI ys (0 + (i : Int)) = some ys[i] := by
          rw [show (0 + (i : Int)) = ((i : Nat) : Int) by omega]
          exact atI_nat (List.getElem?_eq_getElem hi)
        refine ⟨rfl, yes_i ⟨_, rfl, _, rfl, .inl ⟨p, _, _, _, rfl, rfl, (sm_l s2 ep1), ax, _, rfl, _, rfl, .inl ⟨r, _, _, _, rfl, rfl, (sm_l s2 er1), ay, hR m rfl _ _ _ _ _ ((hal i _ _ (List.getElem?_eq_getElem hx) (List.getElem?_eq_getElem hi)).same (sm_trans sT s2)) fun H4 s4 => ⟨_, s4 _ _ e2, ?_, sm_over (sm_trans s2 s4) nD, ?_⟩⟩⟩⟩⟩
        · rw [List.length_map, List.length_map, List.length_range, sizeLine_eq]
          omega
        · rw [upd_same, List.range_succ, List.map_append, List.map_append]
          rfl
      · rintro H2 ⟨s2, e2⟩
        refine ⟨_, _, rfl, SqL.of e2, ?_⟩
        rw [range_true]
        exact q _ (sm_trans sT s2)
    | @tup m p r xs ys ep er hl h5 hal =>
      have s1 : ∀ {T : Addr}, H T = none → ∀ {o : HO}, SqT K (upd H T o) p xs ∧ SqT K (upd H T o) r ys := fun {T} nT {o} => ⟨sm_t (same_upd nT) ep, sm_t (same_upd nT) er⟩
      refine ⟨_, rfl, by show 2 ≤ sizeLine; decide, fun T nT => ⟨_, T, _, .type "tuple", [.type "list", .type "tuple"], true, rfl, upd_same, .cons (.ty _) (.cons (.ty _) .nil), (ty_sqt (s1 nT).2), kitAny_cons (kit_ty (b := "list") (r := false) (by decide +kernel)) (fun _ => kitAny_cons (kit_ty (b := "tuple") (r := true) (by decide +kernel)) (fun z => by cases z) (fun _ => rfl)) (fun z => by cases z), _, rfl, iteT ?_⟩⟩
      have sT : Same H (upd H T (.tup [V.ty "list", V.ty "tuple"])) := same_upd nT
      generalize (upd H T (.tup [V.ty "list", V.ty "tuple"])) = H1 at sT ⊢
      have ep1 := sm_t sT ep
      have er1 := sm_t sT er
      refine ⟨_, rfl, _, _, .type "tuple", .type "list", false, rfl, .ty _, (ty_sqt er1), kit_ty (by decide +kernel), _, rfl, _, _, .type "tuple", .type "list", false, rfl, .ty _, (ty_sqt ep1), kit_ty (by decide +kernel), rfl, _, rfl, ite2 (fun z => absurd z (by decide)) (fun _ => ?_)⟩
      refine ⟨_, rfl, _, _, .type "tuple", .type "tuple", true, rfl, .ty _, (ty_sqt er1), kit_ty (by decide +kernel), _, rfl, _, _, .type "tuple", .type "tuple", true, rfl, .ty _, (ty_sqt ep1), kit_ty (by decide +kernel), rfl, _, rfl, ite2 (fun z => absurd z (by decide)) (fun _ => ?_)⟩
      refine ⟨_, rfl, p, _, rfl, .inr (ep1), _, rfl, r, _, rfl, .inr (er1), rfl, _, rfl, ?_⟩
      rw [hl, dec_self]
      refine iteT ⟨_, rfl, r, _, rfl, .inr (er1), _, rfl, by omega, by omega, ?_⟩
      rw [show ((ys.length : Nat) : Int).toNat = ys.length by exact Int.toNat_natCast _]
      intro Da nD
      refine lc_it walk_range (fun i H' => Same H1 H' ∧ H' Da = some (.lst (((List.range i).map fun _ => true).map V.bl))) ⟨same_upd nD, upd_same⟩ (fun _ _ _ _ => trivial) ?_ ?_
      · rintro i v H2 H3 hi ⟨s2, e2⟩ ⟨rfl, rfl⟩
        have hx : i < xs.length := by omega
        have ax : atI xs (0 + (i : Int)) = some xs[i] := by
          rw [show (0 + (i : Int)) = ((i : Nat) : Int) by omega]
          exact atI_nat (List.getElem?_eq_getElem hx)
        have ay : atI ys (0 + (i : Int)) = some ys[i] := by
          rw [show (0 + (i : Int)) = ((i : Nat) : Int) by omega]
          exact atI_nat (List.getElem?_eq_getElem hi)
        refine ⟨rfl, yes_i ⟨_, rfl, _, rfl, .inr ⟨p, _, _, _, rfl, rfl, (sm_t s2 ep1), ax, _, rfl, _, rfl, .inr ⟨r, _, _, _, rfl, rfl, (sm_t s2 er1), ay, hR m rfl _ _ _ _ _ ((hal i _ _ (List.getElem?_eq_getElem hx) (List.getElem?_eq_getElem hi)).same (sm_trans sT s2)) fun H4 s4 => ⟨_, s4 _ _ e2, ?_, sm_over (sm_trans s2 s4) nD, ?_⟩⟩⟩⟩⟩
        · rw [List.length_map, List.length_map, List.length_range, sizeLine_eq]
          omega
        · rw [upd_same, List.range_succ, List.map_append, List.map_append]
          rfl
      · rintro H2 ⟨s2, e2⟩
        refine ⟨_, _, rfl, SqL.of e2, ?_⟩
        rw [range_true]
        exact q _ (sm_trans sT s2)
theorem ok_yes {f : Addr} {fd : FuncData} {k : Nat} (B : BM mg) (hb : mg "bool" = none) (hst : mg "str" = none) (D : DF K mg "_law_same" sSame ["_law_x", "_law_due_here"] f fd) : ∀ n, FnOk P w K mg base CX0 (k + n + 2) f fd ["_law_x", "_law_due_here"] (spYes K n)
  | 0 => ok_yes1 (spR := spNo) B hb hst D (D.F.ok scSame (fun vs H Q E h => h.elim) (fun cdv A outer s H vs Q E hr h => h.elim)) fun m e => by cases e
  | n + 1 => ok_yes1 B hb hst D (ok_yes B hb hst D n) fun m e a b H Q E al q => by
    cases e
    exact ⟨a, b, rfl, al, q⟩
end
end NC
namespace NC
open PySem PySem.Spec PyProof.Rows L2
/-- words with blanks between -/
def sepB : List (List Nat) → List Nat
  | [] => []
  | [a] => a
  | a :: b :: r => a ++ 32 :: sepB (b :: r)
theorem blank_tx : Str.ofString " " = tx [32] := by decide +kernel
theorem sep_join : ∀ L : List (List Nat), Txt.join (Str.ofString " ") (L.map tx) = tx (sepB L)
  | [] => rfl
  | [a] => rfl
  | a :: b :: r => by
    rw [TL.join_eq]
    show tx a ++ Str.ofString " " ++ Str.join (Str.ofString " ") ((b :: r).map tx) = tx (a ++ 32 :: sepB (b :: r))
    rw [← TL.join_eq, sep_join (b :: r), blank_tx, tx_app, tx_app, List.append_assoc]
    rfl
theorem sep_len : ∀ (L : List (List Nat)) (n : Nat), (L.map fun x => x.length + 1).sum ≤ n → (sepB L).length ≤ n
  | [], n, _ => Nat.zero_le _
  | [a], n, h => by
    rw [List.map_cons, List.sum_cons] at h
    show a.length ≤ n
    omega
  | a :: b :: r, n, h => by
    rw [List.map_cons, List.sum_cons] at h
    have := sep_len (b :: r) (n - (a.length + 1)) (by omega)
    show (a ++ 32 :: sepB (b :: r)).length ≤ n
    rw [List.length_append, List.length_cons]
    omega
theorem sum_le_map {α : Type} {f g : α → Nat} (h : ∀ x, f x ≤ g x) : ∀ {xs : List α}, (xs.map f).sum ≤ (xs.map g).sum
  | [] => Nat.le_refl _
  | x :: xs => by
    rw [List.map_cons, List.map_cons, List.sum_cons, List.sum_cons]
    have := h x
    have := sum_le_map h (xs := xs)
    omega
end NC
namespace NC
open PySem PySem.Spec PyProof.Rows L2
/-- one of these signs stands there -/
def atS (s : List Nat) (i : Nat) (z : List Nat) : Bool := match s[i]? with
  | some c => decide (c ∈ z)
  | none => false
def ltP (s z : List Nat) (lo : Nat) : Nat → List Nat → Nat → Except Nat (List Nat × Nat)
  | 0, t, i => .ok (t, i)
  | f + 1, t, i => if atS s i z = true then ltP s z lo f (t ++ [s.getD i 0]) (i + 1) else if t.length < lo then .error i else .ok (t, i)
def nmP (s : List Nat) : Nat → Nat → Nat → Except Nat (Nat × Nat)
  | 0, m, i => .ok (m, i)
  | f + 1, m, i => if 0 < m ∧ atS s i dgN = true then (if 10 ^ 30 < 10 * m + (s.getD i 0 - 48) then .error i else nmP s f (10 * m + (s.getD i 0 - 48)) (i + 1)) else .ok (m, i)
def numP (s : List Nat) (i : Nat) : Except Nat (Nat × Nat) := if atS s i dgN = true then nmP s (s.length - (i + 1)) (s.getD i 0 - 48) (i + 1) else .error i
abbrev RdP (α : Type) : Type := Except Nat (α × Nat × Nat)
def rsP (s : List Nat) (S : Nat → Nat → RdP Stp) : Nat → List Stp → Nat → Nat → RdP (List Stp)
  | 0, acc, i, b => .ok (acc, i, b)
  | f + 1, acc, i, b => if atS s i [32] = true then (match S (i + 1) b with
      | .ok (x, j, c) => rsP s S f (acc ++ [x]) j c
      | .error e => .error e)
    else .ok (acc, i, b)
def rwP (s : List Nat) (S : Nat → Nat → RdP Stp) (i b : Nat) : RdP (List Stp) := if atS s i [45] = true then .ok ([], i + 1, b) else match S i b with
  | .ok (x, j, c) => rsP s S (s.length - j) [x] j c
  | .error e => .error e
def grP (s : List Nat) (R : Nat → Nat → RdP (List Stp)) (i b : Nat) : RdP Stp := match R i b with
  | .ok (r, j, c) => if atS s j [41] = true then (if atS s (j + 1) [42] = true then (match numP s (j + 2) with
      | .ok (m, k) => .ok (.times m r, k, c)
      | .error e => .error e) else .error (j + 1)) else .error j
  | .error e => .error e
def fsN (can : Bool) : List Nat := if can = true then [46, 126, 60, 40] else [46, 126, 60]
def spP (s : List Nat) (G : Nat → Nat → RdP Stp) (can : Bool) (i b : Nat) : RdP Stp :=
  if b = 60 then .error i else
  if atS s i (fsN can) = true then
    (if s.getD i 0 = 46 then (match ltP s ltN 0 12 [] (i + 1) with
      | .ok (t, j) => .ok (.call t, j, b + 1)
      | .error e => .error e)
    else if s.getD i 0 = 126 then (match ltP s ltN 1 12 [] (i + 1) with
      | .ok (t, j) => .ok (.turn t, j, b + 1)
      | .error e => .error e)
    else if s.getD i 0 = 40 then G (i + 1) (b + 1)
    else match ltP s smN 1 8 [] (i + 1) with
      | .ok (t, j) => if atS s j [62] = true then .ok (.row t, j + 1, b + 1) else .error j
      | .error e => .error e)
  else .error i
def stP (s : List Nat) : Nat → Nat → Nat → RdP Stp
  | 0 => spP s (fun _ _ => .error 0) false
  | n + 1 => spP s (grP s (rwP s (stP s n))) true
/-- the whole text -/
def rdP (s : List Nat) : Except Nat (List Stp) := match rwP s (stP s 12) 0 0 with
  | .ok (r, j, _) => if j < s.length then .error j else .ok r
  | .error e => .error e
theorem atS_iff {s : List Nat} {i : Nat} {z : List Nat} : atS s i z = true ↔ ∃ c, s[i]? = some c ∧ c ∈ z := by
  unfold atS
  cases s[i]? with
  | none => simp
  | some c => simp
theorem atS_lt {s : List Nat} {i : Nat} {z : List Nat} (h : atS s i z = true) : i < s.length := by
  obtain ⟨c, h, _⟩ := atS_iff.mp h
  exact (List.getElem?_eq_some_iff.mp h).1
theorem atS_get {s : List Nat} {i : Nat} {z : List Nat} (h : atS s i z = true) : s[i]? = some (s.getD i 0) ∧ s.getD i 0 ∈ z := by
  obtain ⟨c, h, hc⟩ := atS_iff.mp h
  have e : s.getD i 0 = c := by rw [List.getD_eq_getElem?_getD, h]; rfl
  rw [e]
  exact ⟨h, hc⟩
theorem atS_far {s : List Nat} {i : Nat} {z : List Nat} (h : s.length ≤ i) : atS s i z = false := by
  unfold atS
  rw [List.getElem?_eq_none h]
theorem ltP_pos {s z : List Nat} {lo : Nat} : ∀ (f : Nat) (t : List Nat) (i : Nat) (u : List Nat) (j : Nat), ltP s z lo f t i = .ok (u, j) → i ≤ s.length → i ≤ j ∧ j ≤ s.length ∧ u.length + i = t.length + j
  | 0, t, i, u, j, h, hi => by
    rw [ltP] at h
    cases h
    exact ⟨Nat.le_refl _, hi, rfl⟩
  | f + 1, t, i, u, j, h, hi => by
    rw [ltP] at h
    split at h
    · rename_i a
      have := atS_lt a
      obtain ⟨h1, h2, h3⟩ := ltP_pos f _ _ u j h (by omega)
      rw [List.length_append] at h3
      have h3 : u.length + (i + 1) = t.length + 1 + j := h3
      exact ⟨by omega, h2, by omega⟩
    · split at h
      · cases h
      · cases h
        exact ⟨Nat.le_refl _, hi, rfl⟩
theorem nmP_pos {s : List Nat} : ∀ (f m i n j : Nat), nmP s f m i = .ok (n, j) → i ≤ s.length → i ≤ j ∧ j ≤ s.length
  | 0, m, i, n, j, h, hi => by
    rw [nmP] at h
    cases h
    exact ⟨Nat.le_refl _, hi⟩
  | f + 1, m, i, n, j, h, hi => by
    rw [nmP] at h
    split at h
    · rename_i a
      have := atS_lt a.2
      split at h
      · cases h
      · obtain ⟨h1, h2⟩ := nmP_pos f _ _ n j h (by omega)
        exact ⟨by omega, h2⟩
    · cases h
      exact ⟨Nat.le_refl _, hi⟩
theorem numP_pos {s : List Nat} {i n j : Nat} (h : numP s i = .ok (n, j)) : i < j ∧ j ≤ s.length := by
  unfold numP at h
  split at h
  · rename_i a
    have := atS_lt a
    obtain ⟨h1, h2⟩ := nmP_pos _ _ _ n j h (by omega)
    exact ⟨by omega, h2⟩
  · cases h
/-- a step reader that goes on, and counts what it begins -/
def StpOk (s : List Nat) (S : Nat → Nat → RdP Stp) : Prop := ∀ i b x j c, S i b = .ok (x, j, c) → i < j ∧ j ≤ s.length ∧ (b ≤ 60 → c ≤ 60)
def RowOk (s : List Nat) (R : Nat → Nat → RdP (List Stp)) : Prop := ∀ i b x j c, R i b = .ok (x, j, c) → i < j ∧ j ≤ s.length ∧ (b ≤ 60 → c ≤ 60)
theorem rsP_pos {s : List Nat} {S : Nat → Nat → RdP Stp} (hS : StpOk s S) : ∀ (f : Nat) (acc : List Stp) (i b : Nat) (r : List Stp) (j c : Nat), rsP s S f acc i b = .ok (r, j, c) → i ≤ s.length → i ≤ j ∧ j ≤ s.length ∧ (b ≤ 60 → c ≤ 60)
  | 0, acc, i, b, r, j, c, h, hi => by
    rw [rsP] at h
    cases h
    exact ⟨Nat.le_refl _, hi, id⟩
  | f + 1, acc, i, b, r, j, c, h, hi => by
    rw [rsP] at h
    split at h
    · split at h
      · rename_i x j1 c1 e
        obtain ⟨h1, h2, h4⟩ := hS _ _ _ _ _ e
        obtain ⟨h3, h5, h6⟩ := rsP_pos hS f _ _ _ r j c h h2
        exact ⟨by omega, h5, fun z => h6 (h4 z)⟩
      · cases h
    · cases h
      exact ⟨Nat.le_refl _, hi, id⟩
theorem rwP_ok {s : List Nat} {S : Nat → Nat → RdP Stp} (hS : StpOk s S) : RowOk s (rwP s S) := by
  intro i b r j c h
  unfold rwP at h
  split at h
  · rename_i a
    cases h
    have := atS_lt a
    exact ⟨by omega, by omega, id⟩
  · split at h
    · rename_i x j1 c1 e
      obtain ⟨h1, h2, h4⟩ := hS _ _ _ _ _ e
      obtain ⟨h3, h5, h6⟩ := rsP_pos hS _ _ _ _ r j c h h2
      exact ⟨by omega, h5, fun z => h6 (h4 z)⟩
    · cases h
theorem grP_ok {s : List Nat} {R : Nat → Nat → RdP (List Stp)} (hR : RowOk s R) : StpOk s (grP s R) := by
  intro i b r j c h
  unfold grP at h
  split at h
  · rename_i x j1 c1 e
    obtain ⟨h1, h2, h4⟩ := hR _ _ _ _ _ e
    split at h
    · split at h
      · split at h
        · rename_i m k e2
          cases h
          obtain ⟨h3, h5⟩ := numP_pos e2
          exact ⟨by omega, h5, h4⟩
        · cases h
      · cases h
    · cases h
  · cases h
theorem spP_ok {s : List Nat} {G : Nat → Nat → RdP Stp} (hG : StpOk s G) (can : Bool) : StpOk s (spP s G can) := by
  intro i b r j c h
  unfold spP at h
  split at h
  · cases h
  · split at h
    · rename_i n6 a
      have := atS_lt a
      split at h
      · split at h
        · rename_i e
          cases h
          obtain ⟨h1, h2, _⟩ := ltP_pos _ _ _ _ _ e (by omega)
          exact ⟨by omega, h2, fun z => by omega⟩
        · cases h
      · split at h
        · split at h
          · rename_i e
            cases h
            obtain ⟨h1, h2, _⟩ := ltP_pos _ _ _ _ _ e (by omega)
            exact ⟨by omega, h2, fun z => by omega⟩
          · cases h
        · split at h
          · obtain ⟨h1, h2, h3⟩ := hG _ _ _ _ _ h
            exact ⟨by omega, h2, fun z => h3 (by omega)⟩
          · split at h
            · rename_i e
              obtain ⟨h1, h2, _⟩ := ltP_pos _ _ _ _ _ e (by omega)
              split at h
              · rename_i a2
                have := atS_lt a2
                cases h
                exact ⟨by omega, by omega, fun z => by omega⟩
              · cases h
            · cases h
    · cases h
theorem stP_ok (s : List Nat) : ∀ n, StpOk s (stP s n)
  | 0 => spP_ok (fun _ _ _ _ _ h => by cases h) false
  | n + 1 => spP_ok (grP_ok (rwP_ok (stP_ok s n))) true
end NC
namespace NC
open PySem PySem.Spec PyProof.Rows L2
abbrev sHEinit : Stmt := inClass (topS 1) 0
abbrev sBTinit : Stmt := inClass (topS 2) 0
abbrev sReadRow : Stmt := topS 13
theorem scHE : FnScope ["self", "word"] ["self", "word"] (defScope sHEinit) := ⟨rfl, rfl, rfl, by decide +kernel, rfl, by decide +kernel, by decide +kernel⟩
theorem scBT : FnScope ["self", "at"] ["self", "at"] (defScope sBTinit) := ⟨rfl, rfl, rfl, by decide +kernel, rfl, by decide +kernel, by decide +kernel⟩
theorem scReadRow : FnScope ["text", "reader", "row"] ["text"] (defScope sReadRow) := ⟨rfl, rfl, rfl, by decide +kernel, rfl, by decide +kernel, by decide +kernel⟩
abbrev sRd_ini : Stmt := inClass (topS 12) 0
theorem scRd_ini : FnScope ["self", "text"] ["self", "text"] (defScope sRd_ini) := ⟨rfl, rfl, rfl, by decide +kernel, rfl, by decide +kernel, by decide +kernel⟩
abbrev sRd_sg : Stmt := inClass (topS 12) 1
theorem scRd_sg : FnScope ["self"] ["self"] (defScope sRd_sg) := ⟨rfl, rfl, rfl, by decide +kernel, rfl, by decide +kernel, by decide +kernel⟩
abbrev sRd_sd : Stmt := inClass (topS 12) 2
theorem scRd_sd : FnScope ["self", "signs"] ["self", "signs"] (defScope sRd_sd) := ⟨rfl, rfl, rfl, by decide +kernel, rfl, by decide +kernel, by decide +kernel⟩
abbrev sRd_tk : Stmt := inClass (topS 12) 3
theorem scRd_tk : FnScope ["self", "signs", "taken"] ["self", "signs"] (defScope sRd_tk) := ⟨rfl, rfl, rfl, by decide +kernel, rfl, by decide +kernel, by decide +kernel⟩
abbrev sRd_lt : Stmt := inClass (topS 12) 4
theorem scRd_lt : FnScope ["self", "letters", "fewest", "most", "taken"] ["self", "letters", "fewest", "most"] (defScope sRd_lt) := ⟨rfl, rfl, rfl, by decide +kernel, rfl, by decide +kernel, by decide +kernel⟩
abbrev sRd_nm : Stmt := inClass (topS 12) 5
theorem scRd_nm : FnScope ["self", "many"] ["self"] (defScope sRd_nm) := ⟨rfl, rfl, rfl, by decide +kernel, rfl, by decide +kernel, by decide +kernel⟩
abbrev sRd_gr : Stmt := inClass (topS 12) 6
theorem scRd_gr : FnScope ["self", "deep", "row"] ["self", "deep"] (defScope sRd_gr) := ⟨rfl, rfl, rfl, by decide +kernel, rfl, by decide +kernel, by decide +kernel⟩
abbrev sRd_sp : Stmt := inClass (topS 12) 7
theorem scRd_sp : FnScope ["self", "deep", "first", "called"] ["self", "deep"] (defScope sRd_sp) := ⟨rfl, rfl, rfl, by decide +kernel, rfl, by decide +kernel, by decide +kernel⟩
abbrev sRd_rw : Stmt := inClass (topS 12) 8
theorem scRd_rw : FnScope ["self", "deep", "found"] ["self", "deep"] (defScope sRd_rw) := ⟨rfl, rfl, rfl, by decide +kernel, rfl, by decide +kernel, by decide +kernel⟩
/-- HallError, at C, and its __init__ -/
structure HE (K : PySem.W.Frag) (mg : Str → Option Value) (C f : Addr) (fd : FuncData) : Prop where
  gC : mg "HallError" = some (.ref C)
  rd : ∃ mc, ClX.CRead K C mc ∧ PySem.W.findCls K (.ref C) mc "__init__" = some (.val (.ref f))
  F : Fun K "__init__" "HallError.__init__" sHEinit f fd
  b : Binds K fd ["self", "word"] []
  mV : mg "ValueError" = none
  vV : PySem.W.findCls K (.type "ValueError") (.type "type") "__init__" = some (.val (.builtin "ValueError.__init__"))
section
variable {P : Program} {w : World} {K : PySem.W.Frag} {mg : Str → Option Value} {base : Heap}
def spHE (K : PySem.W.Frag) : Sp := fun vs H Q _ => ∃ a C v, vs = [.ref a, v] ∧ OexC K C ∧ PySem.W.findIn K (.ref C) "word" = some none ∧ H a = some (exo a C none) ∧
  ∀ dx, H dx = none → dx ≠ a → Q .non (upd (upd H dx (exd dx [("word", v)])) a (exo a C (some dx)))
theorem ok_HE {C f : Addr} {fd : FuncData} {k : Nat} (T : HE K mg C f fd) : FnOk P w K mg base CX0 (k + 1) f fd ["self", "word"] (spHE K) := by
  refine T.F.ok scHE (fun vs H Q E h => ?_) (fun cdv A outer s H vs Q E hr h => ?_)
  · obtain ⟨a, C, v, rfl, _⟩ := h
    rfl
  · obtain ⟨a, C, v, rfl, hO, hw, ha, q⟩ := h
    refine ⟨_, pss_cons (ps_expr (pe_veinit (by rfl) T.mV T.vV (pa_cons (pv 0) (pa_cons (pv 1) pa_nil)))) (pss_one (ps_ost (pv 0) (pv 1))), ?_⟩
    refine ⟨_, rfl, _, rfl, a, C, [v], rfl, by show 1 ≤ 1000; decide, hO, ha, ?_⟩
    exact ⟨_, rfl, _, rfl, a, C, rfl, hO, hw, .inl ⟨ha, fun dx n ne => q dx n ne⟩⟩
/-- a refusal of one field beside its word -/
def sp1 (K : PySem.W.Frag) (fld : Str) (word : Str) : Sp := fun vs H Q _ => ∃ a C v, vs = [.ref a, v] ∧ OexC K C ∧ PySem.W.findIn K (.ref C) "word" = some none ∧ PySem.W.findIn K (.ref C) fld = some none ∧ H a = some (exo a C none) ∧
  ∀ dx H', H dx = none → dx ≠ a → (∀ b, b ≠ dx → b ≠ a → H' b = H b) → H' a = some (exo a C (some dx)) → H' dx = some (exd dx [(fld, v), ("word", .str word)]) → Q .non H'
theorem ok_BT {CH fH f : Addr} {fd fdH : FuncData} {k : Nat} (T : HE K mg CH fH fdH) (F : Fun K "__init__" "BadText.__init__" sBTinit f fd) : FnOk P w K mg base CX0 (k + 2) f fd ["self", "at"] (sp1 K "at" "badtext") := by
  have GH : FnOk P w K mg base CX0 (k + 1) fH fdH ["self", "word"] (spHE K) := ok_HE T
  obtain ⟨mc, rd, fc⟩ := T.rd
  refine F.ok scBT (fun vs H Q E h => ?_) (fun cdv A outer s H vs Q E hr h => ?_)
  · obtain ⟨a, C, v, rfl, _⟩ := h
    rfl
  · obtain ⟨a, C, v, rfl, hO, hw, hf, ha, q⟩ := h
    refine ⟨_, pss_cons (ps_expr (pe_clsfn (by rfl) T.gC rd fc GH hr T.F.kp T.b .nil pass0 (pa_cons (pv 0) (pa_cons pe_str pa_nil)))) (pss_one (ps_ost (pv 0) (pv 1))), ?_⟩
    refine ⟨_, rfl, a, C, _, rfl, hO, hw, ha, fun dx n ne => ?_⟩
    refine ⟨_, rfl, _, rfl, a, C, rfl, hO, hf, .inr ⟨dx, _, upd_same, by rw [upd_ne ne, upd_same], by show 1 ≤ 900; decide, q dx _ n ne (fun b h1 h2 => ?_) ?_ ?_⟩⟩
    · rw [upd_ne h1, upd_ne h2, upd_ne h1]
    · rw [upd_ne (Ne.symm ne), upd_same]
    · rw [upd_same]
end
/-- an own refusal's class, at C, its __init__ at fI -/
structure XC (K : PySem.W.Frag) (mg : Str → Option Value) (x q : Str) (st : Stmt) (fld : Str) (C fI : Addr) (fd : FuncData) : Prop where
  gC : mg x = some (.ref C)
  O : OexC K C
  hw : PySem.W.findIn K (.ref C) "word" = some none
  hf : PySem.W.findIn K (.ref C) fld = some none
  iC : PySem.W.findIn K (.ref C) "__init__" = some (some (.ref fI))
  tI : PySem.W.typeIn K (.ref fI) = some (.type "function")
  F : Fun K "__init__" q st fI fd
  b : Binds K fd ["self", fld] []
theorem mk1 {K : PySem.W.Frag} {C : Addr} {fld word : Str} (hO : OexC K C) (hw : PySem.W.findIn K (.ref C) "word" = some none) (hf : PySem.W.findIn K (.ref C) fld = some none) {H1 : Hp} {v : V} {Q : XK}
    (q : ∀ d H', Same H1 H' → H1 d = none → H' d = some (.xd [(fld, v), ("word", .str word)]) → Q (.ref C) (some d) H') :
    ∀ a, H1 a = none → sp1 K fld word (.ref a :: ([v] ++ [])) (upd H1 a (exo a C none))
      (fun u H2 => u = .non ∧ ∃ (d : Addr) (fs : List (Str × V)), H2 a = some (exo a C (some d)) ∧ H2 d = some (exd d fs) ∧ H1 d = none ∧ Q (.ref C) (some d) (upd (del H2 a) d (.xd fs))) (fun _ _ _ => False) := by
  intro a na
  refine ⟨a, C, v, rfl, hO, hw, hf, upd_same, fun dx H' n1 n2 k e1 e2 => ⟨rfl, dx, _, e1, e2, ?_, q dx _ (fun b o hb => ?_) ?_ upd_same⟩⟩
  · rw [upd_ne n2] at n1
    exact n1
  · have hd : H1 dx = none := by
      rw [upd_ne n2] at n1
      exact n1
    have b1 : b ≠ dx := ne_of_none hb hd
    have b2 : b ≠ a := ne_of_none hb na
    rw [upd_ne b1, del_ne b2, k b b1 b2, upd_ne b2]
    exact hb
  · rw [upd_ne n2] at n1
    exact n1
def DG : Str := "0123456789"
/-- a reader -/
def RdF (s : List Nat) (i b : Nat) : List (Str × V) := [("text", .str (tx s)), ("at", .int (i : Nat)), ("begun", .int (b : Nat))]
def RdAt (RC : Addr) (H : Hp) (g : Addr) (s : List Nat) (i b : Nat) : Prop := ∃ dx, H g = some (.ins RC dx (RdF s i b))
/-- a refusal at a place -/
def PBd (CB g : Addr) (H : Hp) (E : XK) (j : Nat) : Prop := ∀ H' d, SmX g H H' → H d = none → H' d = some (.xd [("at", .int (j : Nat)), ("word", .str "badtext")]) → E (.ref CB) (some d) H'
theorem smx_none {g d : Addr} {H H' : Hp} {o : HO} (s : SmX g H H') (e : H' g = some o) (h : H' d = none) : H d = none := by
  cases h2 : H d with
  | none => rfl
  | some x =>
    have n : d ≠ g := fun z => by rw [z, e] at h; cases h
    rw [s d x n h2] at h
    cases h
theorem PBd.later {CB g : Addr} {H H1 : Hp} {E : XK} {j : Nat} {o : HO} (p : PBd CB g H E j) (s : SmX g H H1) (e : H1 g = some o) : PBd CB g H1 E j := fun H' d s1 n d' => p H' d (s.trans s1) (smx_none s e n) d'
theorem cut_one (s : List Nat) (i : Nat) (h : i < s.length) : cutS (tx s) (some ((i : Nat) : Int)) (some ((i : Nat) + 1 : Int)) = tx [s.getD i 0] := by
  unfold cutS
  rw [show ((i : Nat) + 1 : Int) = ((i + 1 : Nat) : Int) by omega, HT.sIx_nat, HT.sIx_nat, tx_list, tx_len, Nat.min_eq_left (by omega), Nat.min_eq_left (by omega), show i + 1 - i = 1 by omega, List.drop_eq_getElem_cons h, List.getD_eq_getElem?_getD, List.getElem?_eq_getElem h]
  rfl
theorem put_at (s : List Nat) (i b : Nat) : putF "at" (.int ((i : Nat) + 1 : Int)) (RdF s i b) = RdF s (i + 1) b := by
  unfold RdF
  rw [putF, if_neg (by decide +kernel), putF, if_pos rfl]
  rfl
theorem put_begun (s : List Nat) (i b : Nat) : putF "begun" (.int ((b : Nat) + 1 : Int)) (RdF s i b) = RdF s i (b + 1) := by
  unfold RdF
  rw [putF, if_neg (by decide +kernel), putF, if_neg (by decide +kernel), putF, if_pos rfl]
  rfl
theorem int_dig : ∀ c, c ∈ dgN → PySem.intText? (tx [c]) = some ((c - 48 : Nat) : Int) := by
  rw [dgN_eq]
  decide +kernel
/-- things that may change -/
def Mut (o : HO) : Prop := (∃ xs, o = .lst xs) ∨ ∃ C dx fs, o = .ins C dx fs
theorem smx_t {K : PySem.W.Frag} {p a : Addr} {H H' : Hp} {o : HO} {xs : List V} (s : SmX p H H') (e : H p = some o) (m : Mut o) (h : SqT K H a xs) : SqT K H' a xs := by
  rcases h with (h | ⟨o', h⟩) | h
  · refine .inl (.inl (s _ _ (fun z => ?_) h))
    rw [z, e] at h
    rcases m with ⟨_, rfl⟩ | ⟨_, _, _, rfl⟩ <;> cases h
  · refine .inl (.inr ⟨o', s _ _ (fun z => ?_) h⟩)
    rw [z, e] at h
    rcases m with ⟨_, rfl⟩ | ⟨_, _, _, rfl⟩ <;> cases h
  · exact .inr h
mutual
/-- no lists in it -/
def noL : PyData → Bool
  | .list _ => false
  | .tuple xs => noLA xs
  | _ => true
def noLA : List PyData → Bool
  | [] => true
  | x :: xs => noL x && noLA xs
end
mutual
theorem dp_smx {K : PySem.W.Frag} {p : Addr} {H H' : Hp} {o : HO} (s : SmX p H H') (e : H p = some o) (m : Mut o) : ∀ {v : V} {d : PyData}, noL d = true → Dp K H v d → Dp K H' v d
  | _, _, _, .non => .non
  | _, _, _, .bl b => .bl b
  | _, _, _, .int i => .int i
  | _, _, _, .str x => .str x
  | _, _, n, .lst h a => by rw [noL] at n; cases n
  | _, _, n, .tup h a => .tup (smx_t s e m h) (dpa_smx s e m (by rw [noL] at n; exact n) a)
theorem dpa_smx {K : PySem.W.Frag} {p : Addr} {H H' : Hp} {o : HO} (s : SmX p H H') (e : H p = some o) (m : Mut o) : ∀ {vs : List V} {ds : List PyData}, noLA ds = true → DpAll K H vs ds → DpAll K H' vs ds
  | _, _, _, .nil => .nil
  | _, _, n, .cons a b => by
    rw [noLA, Bool.and_eq_true] at n
    exact .cons (dp_smx s e m n.1 a) (dpa_smx s e m n.2 b)
end
mutual
theorem noL_encS : ∀ s : Stp, noL (encS s) = true
  | .call s => by rw [encS]; rfl
  | .turn s => by rw [encS]; rfl
  | .row s => by rw [encS]; rfl
  | .times m r => by
    rw [encS]
    simp only [noL, noLA, noL_encL r, Bool.true_and, Bool.and_true]
theorem noL_encL : ∀ r : List Stp, noLA (encL r) = true
  | [] => by rw [encL, noLA]
  | s :: r => by rw [encL, noLA, noL_encS s, noL_encL r]; rfl
end
theorem noL_encR (r : List Stp) : noL (encR r) = true := by
  unfold encR
  simp only [noL, noLA, noL_encL r, Bool.true_and, Bool.and_true]
theorem dpa_snoc {K : PySem.W.Frag} {H : Hp} : ∀ {vs : List V} {ds : List PyData} {v : V} {d : PyData}, DpAll K H vs ds → Dp K H v d → DpAll K H (vs ++ [v]) (ds ++ [d])
  | _, _, _, _, .nil, h => .cons h .nil
  | _, _, _, _, .cons a b, h => .cons a (dpa_snoc b h)
theorem one_eq (c a : Nat) : decide (V.str (tx [c]) = V.str (tx [a])) = decide (c = a) := by
  by_cases h : c = a
  · rw [h, decide_eq_true rfl, decide_eq_true rfl]
  · rw [decide_eq_false h, decide_eq_false fun z => by
      injection z with z
      have := tx_inj z
      injection this with this
      exact h this]
theorem encL_snoc (r : List Stp) (x : Stp) : encL (r ++ [x]) = encL r ++ [encS x] := by
  rw [encL_map, encL_map, List.map_append]
  rfl
/-- the class of readers -/
structure RdC (K : PySem.W.Frag) (mg : Str → Option Value) (RC : Addr) (g_ini g_sg g_sd g_tk g_lt g_nm g_gr g_sp g_rw : Addr) (e_ini e_sg e_sd e_tk e_lt e_nm e_gr e_sp e_rw : FuncData) : Prop where
  gC : mg "Reader" = some (.ref RC)
  cl : Cls K RC
  mks : Mk K RC g_ini
  n1 : NoAttr K RC "text"
  n2 : NoAttr K RC "at"
  n3 : NoAttr K RC "begun"
  Fini : Fun K "__init__" "Reader.__init__" sRd_ini g_ini e_ini
  bini : Binds K e_ini ["self", "text"] []
  Fsg : Fun K "sign" "Reader.sign" sRd_sg g_sg e_sg
  bsg : Binds K e_sg ["self"] []
  msg : Meth K RC "sign" g_sg
  Fsd : Fun K "stands" "Reader.stands" sRd_sd g_sd e_sd
  bsd : Binds K e_sd ["self", "signs"] []
  msd : Meth K RC "stands" g_sd
  Ftk : Fun K "take" "Reader.take" sRd_tk g_tk e_tk
  btk : Binds K e_tk ["self", "signs"] []
  mtk : Meth K RC "take" g_tk
  Flt : Fun K "letters_taken" "Reader.letters_taken" sRd_lt g_lt e_lt
  blt : Binds K e_lt ["self", "letters", "fewest", "most"] []
  mlt : Meth K RC "letters_taken" g_lt
  Fnm : Fun K "number" "Reader.number" sRd_nm g_nm e_nm
  bnm : Binds K e_nm ["self"] []
  mnm : Meth K RC "number" g_nm
  Fgr : Fun K "group" "Reader.group" sRd_gr g_gr e_gr
  bgr : Binds K e_gr ["self", "deep"] []
  mgr : Meth K RC "group" g_gr
  Fsp : Fun K "step" "Reader.step" sRd_sp g_sp e_sp
  bsp : Binds K e_sp ["self", "deep"] []
  msp : Meth K RC "step" g_sp
  Frw : Fun K "row" "Reader.row" sRd_rw g_rw e_rw
  brw : Binds K e_rw ["self", "deep"] []
  mrw : Meth K RC "row" g_rw
  cSMALL : ∃ t, mg "SMALL" = some (.str SM t)
  cLETTERS : ∃ t, mg "LETTERS" = some (.str LT t)
  cFIGURES : ∃ t, mg "FIGURES" = some (.str DG t)
  cMOST_STEPS : ∃ t, mg "MOST_STEPS" = some (.int 60 t)
  cMOST_DEEP : ∃ t, mg "MOST_DEEP" = some (.int 12 t)
  cMOST_TIMES : ∃ t, mg "MOST_TIMES" = some (.int (10 ^ 30) t)
  cMOST_SIDES : ∃ t, mg "MOST_SIDES" = some (.int 12 t)
  cLONGEST_NAME : ∃ t, mg "LONGEST_NAME" = some (.int 8 t)
  zlen : mg "len" = none
  zint : mg "int" = none
  ztuple : mg "tuple" = none
section
variable {P : Program} {w : World} {K : PySem.W.Frag} {mg : Str → Option Value} {base : Heap} {RC CB CH fH fB : Addr} {fdH fdB : FuncData} {g_ini g_sg g_sd g_tk g_lt g_nm g_gr g_sp g_rw : Addr} {e_ini e_sg e_sd e_tk e_lt e_nm e_gr e_sp e_rw : FuncData}
def spSg (RC : Addr) : Sp := fun vs H Q _ => ∃ g s i b, vs = [.ref g] ∧ RdAt RC H g s i b ∧ i < s.length ∧ s.length ≤ 100000 ∧ Q (.str (tx [s.getD i 0])) H
theorem ok_sg {k : Nat} (R : RdC K mg RC g_ini g_sg g_sd g_tk g_lt g_nm g_gr g_sp g_rw e_ini e_sg e_sd e_tk e_lt e_nm e_gr e_sp e_rw) : FnOk P w K mg base CX0 (k + 1) g_sg e_sg ["self"] (spSg RC) := by
  refine R.Fsg.ok scRd_sg (fun vs H Q E h => ?_) (fun cdv A outer st H vs Q E hr h => ?_)
  · obtain ⟨g, s, i, b, rfl, _⟩ := h
    rfl
  · obtain ⟨g, s, i, b, rfl, ⟨dx, hg⟩, hi, hl, q⟩ := h
    refine ⟨_, (pss_one (ps_ret (pe_slice sl_str (pe_fld (pv 0) rfl) (po_some (pe_fld (pv 0) rfl)) (po_some (pe_op op_add (pe_fld (pv 0) rfl) pe_int))))), ?_⟩
    refine ⟨_, rfl, g, RC, dx, _, _, rfl, hg, R.cl, R.n1, rfl, _, rfl, g, RC, dx, _, _, rfl, hg, R.cl, R.n2, rfl, (i : Nat), rfl, _, rfl, g, RC, dx, _, _, rfl, hg, R.cl, R.n2, rfl, _, _, rfl, rfl, _, rfl, tx s, rfl, by rw [tx_len, sizeLine_eq]; omega, ?_⟩
    rw [cut_one s i hi]
    exact q
def spSd (RC : Addr) : Sp := fun vs H Q _ => ∃ g z s i b, vs = [.ref g, .str z] ∧ RdAt RC H g s i b ∧ s.length ≤ 100000 ∧ Q (.bl (atS s i z.cps.toList)) H
theorem ok_sd {k : Nat} (R : RdC K mg RC g_ini g_sg g_sd g_tk g_lt g_nm g_gr g_sp g_rw e_ini e_sg e_sd e_tk e_lt e_nm e_gr e_sp e_rw) : FnOk P w K mg base CX0 (k + 1) g_sd e_sd ["self", "signs"] (spSd RC) := by
  refine R.Fsd.ok scRd_sd (fun vs H Q E h => ?_) (fun cdv A outer st H vs Q E hr h => ?_)
  · obtain ⟨g, z, s, i, b, rfl, _⟩ := h
    rfl
  · obtain ⟨g, z, s, i, b, rfl, ⟨dx, hg⟩, hl, q⟩ := h
    refine ⟨_, (pss_one (ps_ret (pe_and (pe_cmpR op_lt (pe_fld (pv 0) rfl) (pe_callB call_len_str (by rfl) R.zlen PySem.boot_len (pa_cons (pe_fld (pv 0) rfl) pa_nil)) (nomark _)) (pe_one (pe_cmpR op_in_sign (pe_ix ix_str (pe_fld (pv 0) rfl) (pe_fld (pv 0) rfl) (fun _ _ => rfl)) (pv 1) (by rfl)))))), ?_⟩
    refine ⟨_, rfl, g, RC, dx, _, _, rfl, hg, R.cl, R.n2, rfl, _, rfl, g, RC, dx, _, _, rfl, hg, R.cl, R.n1, rfl, _, rfl, by rw [tx_len, sizeLine_eq]; omega, _, _, rfl, rfl, ?_⟩
    rw [tx_len]
    refine ⟨_, rfl, ?_⟩
    by_cases hi : i < s.length
    · rw [decide_eq_true (by omega)]
      refine iteT ⟨_, rfl, g, RC, dx, _, _, rfl, hg, R.cl, R.n1, rfl, _, rfl, g, RC, dx, _, _, rfl, hg, R.cl, R.n2, rfl, tx s, (i : Nat), s.getD i 0, rfl, rfl, by rw [tx_len, sizeLine_eq]; omega, ?_, _, rfl, s.getD i 0, z, rfl, rfl, ?_⟩
      · refine atI_nat ?_
        rw [tx_list, List.getD_eq_getElem?_getD, List.getElem?_eq_getElem hi]
        rfl
      · have e : decide (s.getD i 0 ∈ z.cps.toList) = atS s i z.cps.toList := by
          unfold atS
          rw [List.getD_eq_getElem?_getD, List.getElem?_eq_getElem hi]
          rfl
        rw [e]
        exact q
    · rw [atS_far (by omega)] at q
      rw [decide_eq_false (by omega)]
      exact iteF q
def spTk (RC CB : Addr) : Sp := fun vs H Q E => ∃ g z s i b, vs = [.ref g, .str z] ∧ RdAt RC H g s i b ∧ s.length ≤ 100000 ∧ (atS s i z.cps.toList = true → ∀ H', SmX g H H' → RdAt RC H' g s (i + 1) b → Q (.str (tx [s.getD i 0])) H') ∧ (atS s i z.cps.toList = false → PBd CB g H E i)
theorem ok_tk {k : Nat} (R : RdC K mg RC g_ini g_sg g_sd g_tk g_lt g_nm g_gr g_sp g_rw e_ini e_sg e_sd e_tk e_lt e_nm e_gr e_sp e_rw) (T : HE K mg CH fH fdH) (X : XC K mg "BadText" "BadText.__init__" sBTinit "at" CB fB fdB) : FnOk P w K mg base (L2.CX P w) (k + 4) g_tk e_tk ["self", "signs"] (spTk RC CB) := by
  have GSd : FnOk P w K mg base CX0 (k + 1) g_sd e_sd ["self", "signs"] (spSd RC) := ok_sd R
  have GSg : FnOk P w K mg base CX0 (k + 1) g_sg e_sg ["self"] (spSg RC) := ok_sg R
  have GB : FnOk P w K mg base CX0 (k + 2) fB fdB ["self", "at"] (sp1 K "at" "badtext") := ok_BT T X.F
  refine R.Ftk.okX scRd_tk (fun vs H Q E h => ?_) (fun cdv A outer st H vs Q E hr h => ?_)
  · obtain ⟨g, z, s, i, b, rfl, _⟩ := h
    rfl
  · obtain ⟨g, z, s, i, b, rfl, ⟨dx, hg⟩, hl, q, qe⟩ := h
    have nd := scRd_tk.nd
    have r1 : Room (k + 1) _ := hr.mono (by omega)
    have r3 : Room (k + 3) _ := hr
    refine ⟨_, (pss_cons (ps_if (pt_not (pt_val (pe_meth (pv 0) R.cl R.msd GSd r1 R.bsd .nil pass0 (pa_cons (pv 1) pa_nil))))
        (pss_one (ps_raise rfl (takes_of rfl rfl rfl rfl) (pmk_oex X.O X.iC X.tI GB r3 X.b .nil pass0 (by rfl) X.gC (pa_cons (pe_fld (pv 0) rfl) pa_nil))))
        pss_nil)
      (pss_cons (ps_set (i := 2) nd rfl (.inl rfl) (pe_meth0 (pv 0) R.cl R.msg GSg r1 R.bsg .nil pass0))
      (pss_cons (ps_fldaug (pv 0) pe_int in_add)
      (pss_one (ps_ret (pv 2)))))), ?_⟩
    refine ⟨_, rfl, g, dx, _, rfl, hg, rfl, _, rfl, g, z, s, i, b, rfl, ⟨dx, hg⟩, hl, _, rfl, ?_⟩
    by_cases a : atS s i z.cps.toList = true
    · rw [a]
      refine iteF ⟨_, rfl, g, dx, _, rfl, hg, rfl, g, s, i, b, rfl, ⟨dx, hg⟩, atS_lt a, hl, ?_⟩
      refine ⟨_, rfl, g, RC, dx, _, _, rfl, hg, R.cl, R.n2, rfl, _, _, rfl, rfl, dx, _, hg, by show 3 < 1000; decide, ?_⟩
      refine ⟨_, rfl, q a _ SmX.upd ⟨dx, ?_⟩⟩
      rw [upd_same, put_at]
    · rw [Bool.not_eq_true] at a
      rw [a]
      refine iteT ⟨_, rfl, g, RC, dx, _, _, rfl, hg, R.cl, R.n2, rfl, by show 1 ≤ 1000; decide, mk1 X.O X.hw X.hf fun d H4 s4 n4 e4 => qe a H4 d (SmX.of s4) n4 e4⟩
def spLt (RC CB : Addr) : Sp := fun vs H Q E => ∃ g z s i b, ∃ (lo hi : Nat), vs = [.ref g, .str z, .int (lo : Nat), .int (hi : Nat)] ∧ RdAt RC H g s i b ∧ s.length ≤ 100000 ∧ lo ≤ hi ∧ hi ≤ 100 ∧
  match ltP s z.cps.toList lo hi [] i with
  | .ok (t, j) => ∀ H', SmX g H H' → RdAt RC H' g s j b → Q (.str (tx t)) H'
  | .error j => PBd CB g H E j
theorem ok_lt {k : Nat} (R : RdC K mg RC g_ini g_sg g_sd g_tk g_lt g_nm g_gr g_sp g_rw e_ini e_sg e_sd e_tk e_lt e_nm e_gr e_sp e_rw) (T : HE K mg CH fH fdH) (X : XC K mg "BadText" "BadText.__init__" sBTinit "at" CB fB fdB) : FnOk P w K mg base (L2.CX P w) (k + 5) g_lt e_lt ["self", "letters", "fewest", "most"] (spLt RC CB) := by
  have GSd : FnOk P w K mg base CX0 (k + 1) g_sd e_sd ["self", "signs"] (spSd RC) := ok_sd R
  have GTk : FnOk P w K mg base (L2.CX P w) (k + 4) g_tk e_tk ["self", "signs"] (spTk RC CB) := ok_tk R T X
  refine R.Flt.okX scRd_lt (fun vs H Q E h => ?_) (fun cdv A outer st H vs Q E hr h => ?_)
  · obtain ⟨g, z, s, i, b, lo, hi, rfl, _⟩ := h
    rfl
  · obtain ⟨g, z, s, i, b, lo, hi, rfl, hg, hl, hlo, hhi, q⟩ := h
    have nd := scRd_lt.nd
    have r1 : Room (k + 1) _ := hr.mono (by omega)
    have r4 : Room (k + 4) _ := hr
    refine ⟨_, (pss_cons (ps_set (i := 4) nd rfl (.inl rfl) pe_str)
      (pss_cons (ps_while (passes_of rfl) (PW.pt (pw_or (pt_cmpR op_lt (pe_callB call_len_str (by rfl) R.zlen PySem.boot_len (pa_cons (pv 4) pa_nil)) (pv 2) (nomark _)) (pw_or1 (PW.pt (pw_and (pt_cmpR op_lt (pe_callB call_len_str (by rfl) R.zlen PySem.boot_len (pa_cons (pv 4) pa_nil)) (pv 3) (nomark _)) (pw_and1 (pt_val (pe_meth (pv 0) R.cl R.msd GSd r1 R.bsd .nil pass0 (pa_cons (pv 1) pa_nil)))))))))
        (pss_one (ps_aug (i := 4) nd rfl (.inl rfl) (pe_meth (E := E) (pv 0) R.cl R.mtk GTk r4 R.btk .nil (passes_call (takes_of rfl rfl rfl rfl) (fun _ _ _ _ h => h)) (pa_cons (pv 1) pa_nil)) iop_add_str)))
      (pss_one (ps_ret (pv 4))))), ?_⟩
    refine ⟨fun m σ H' => ∃ (t : List Nat) (j : Nat), σ = [some (.ref g), some (.str z), some (.int (lo : Nat)), some (.int (hi : Nat)), some (.str (tx t))] ∧ SmX g H H' ∧ RdAt RC H' g s j b ∧ t.length + m = hi ∧ ltP s z.cps.toList lo hi [] i = ltP s z.cps.toList lo m t j, ⟨hi, [], i, ?_, SmX.refl _ _, hg, ?_, rfl⟩, ?_⟩
    · rfl
    · show 0 + hi = hi
      omega
    · rintro m σ H1 ⟨t, j, rfl, s1, hg1, hm, e⟩
      obtain ⟨dx, hg1'⟩ := hg1
      have bd : (tx t).length ≤ sizeLine := by rw [tx_len, sizeLine_eq]; omega
      refine ⟨_, rfl, _, rfl, bd, _, rfl, _, _, rfl, rfl, _, rfl, ?_⟩
      have e1 : V.int ((tx t).length : Nat) = V.int (t.length : Nat) := by rw [tx_len]
      have ok : 0 < m → atS s j z.cps.toList = true → ltP s z.cps.toList lo hi [] i = ltP s z.cps.toList lo (m - 1) (t ++ [s.getD j 0]) (j + 1) := fun h0 a => by
        obtain ⟨n, rfl⟩ : ∃ n, m = n + 1 := ⟨m - 1, by omega⟩
        rw [e, ltP, if_pos a]
        rfl
      have stop : atS s j z.cps.toList = false ∨ m = 0 → ¬ t.length < lo → ltP s z.cps.toList lo hi [] i = .ok (t, j) := fun a h0 => by
        rw [e]
        cases m with
        | zero => rw [ltP]
        | succ m =>
          rcases a with a | a
          · rw [ltP, a, if_neg (by simp), if_neg h0]
          · cases a
      have bad : atS s j z.cps.toList = false → t.length < lo → ltP s z.cps.toList lo hi [] i = .error j := fun a h0 => by
        rw [e]
        obtain ⟨n, rfl⟩ : ∃ n, m = n + 1 := ⟨m - 1, by omega⟩
        rw [ltP, a, if_neg (by simp), if_pos h0]
      rw [tx_len]
      by_cases h1 : t.length < lo
      · rw [decide_eq_true (by omega)]
        refine iteT (iteT ⟨_, fun _ _ h => h, ?_⟩)
        refine ⟨_, rfl, _, rfl, g, dx, _, rfl, hg1', rfl, _, rfl, g, z, s, j, b, rfl, ⟨dx, hg1'⟩, hl, fun a H2 s2 hg2 => ?_, fun a => ?_⟩
        · refine ⟨_, _, rfl, rfl, by rw [tx_len, tx_len, sizeLine_eq]; show _ + 1 ≤ _; omega, m - 1, by omega, t ++ [s.getD j 0], j + 1, ?_, s1.trans s2, hg2, by rw [List.length_append]; show t.length + 1 + _ = _; omega, ok (by omega) a⟩
          rw [tx_app]
          rfl
        · rw [bad a h1] at q
          exact q.later s1 hg1'
      · rw [decide_eq_false (by omega)]
        refine iteF ?_
        refine ⟨_, rfl, _, rfl, bd, _, rfl, _, _, rfl, rfl, _, rfl, ?_⟩
        rw [tx_len]
        by_cases h2 : t.length < hi
        · rw [decide_eq_true (by omega)]
          refine iteT ⟨_, rfl, g, dx, _, rfl, hg1', rfl, _, rfl, g, z, s, j, b, rfl, ⟨dx, hg1'⟩, hl, _, rfl, ?_⟩
          by_cases a : atS s j z.cps.toList = true
          · rw [a]
            refine iteT ⟨_, fun _ _ h => h, ?_⟩
            refine ⟨_, rfl, _, rfl, g, dx, _, rfl, hg1', rfl, _, rfl, g, z, s, j, b, rfl, ⟨dx, hg1'⟩, hl, fun a H2 s2 hg2 => ?_, fun a' => by rw [a] at a'; cases a'⟩
            refine ⟨_, _, rfl, rfl, by rw [tx_len, tx_len, sizeLine_eq]; show _ + 1 ≤ _; omega, m - 1, by omega, t ++ [s.getD j 0], j + 1, ?_, s1.trans s2, hg2, by rw [List.length_append]; show t.length + 1 + _ = _; omega, ok (by omega) a⟩
            rw [tx_app]
            rfl
          · rw [Bool.not_eq_true] at a
            rw [a]
            rw [stop (.inl a) h1] at q
            exact iteF ⟨_, rfl, q _ s1 ⟨dx, hg1'⟩⟩
        · rw [decide_eq_false (by omega)]
          rw [stop (.inr (by omega)) h1] at q
          exact iteF (iteF ⟨_, rfl, q _ s1 ⟨dx, hg1'⟩⟩)
def spNm (RC CB : Addr) : Sp := fun vs H Q E => ∃ g s i b, vs = [.ref g] ∧ RdAt RC H g s i b ∧ s.length ≤ 100000 ∧
  match numP s i with
  | .ok (m, j) => ∀ H', SmX g H H' → RdAt RC H' g s j b → Q (.int (m : Nat)) H'
  | .error j => PBd CB g H E j
set_option maxHeartbeats 1000000 in
theorem ok_nm {k : Nat} (R : RdC K mg RC g_ini g_sg g_sd g_tk g_lt g_nm g_gr g_sp g_rw e_ini e_sg e_sd e_tk e_lt e_nm e_gr e_sp e_rw) (T : HE K mg CH fH fdH) (X : XC K mg "BadText" "BadText.__init__" sBTinit "at" CB fB fdB) : FnOk P w K mg base (L2.CX P w) (k + 5) g_nm e_nm ["self"] (spNm RC CB) := by
  obtain ⟨_, hFg⟩ := R.cFIGURES
  obtain ⟨_, hTi⟩ := R.cMOST_TIMES
  have GSd : FnOk P w K mg base CX0 (k + 1) g_sd e_sd ["self", "signs"] (spSd RC) := ok_sd R
  have GSg : FnOk P w K mg base CX0 (k + 1) g_sg e_sg ["self"] (spSg RC) := ok_sg R
  have GTk : FnOk P w K mg base (L2.CX P w) (k + 4) g_tk e_tk ["self", "signs"] (spTk RC CB) := ok_tk R T X
  have GB : FnOk P w K mg base CX0 (k + 2) fB fdB ["self", "at"] (sp1 K "at" "badtext") := ok_BT T X.F
  refine R.Fnm.okX scRd_nm (fun vs H Q E h => ?_) (fun cdv A outer st H vs Q E hr h => ?_)
  · obtain ⟨g, s, i, b, rfl, _⟩ := h
    rfl
  · obtain ⟨g, s, i, b, rfl, ⟨dx, hg⟩, hl, q⟩ := h
    have nd := scRd_nm.nd
    have r1 : Room (k + 1) _ := hr.mono (by omega)
    have r3 : Room (k + 3) _ := hr.mono (by omega)
    have r4 : Room (k + 4) _ := hr
    refine ⟨_, (pss_cons (ps_set (i := 1) nd rfl (.inl rfl) (pe_callTy call_int_str (by rfl) R.zint (by decide +kernel) (pa_cons (pe_meth (E := E) (pv 0) R.cl R.mtk GTk r4 R.btk .nil (passes_call (takes_of rfl rfl rfl rfl) (fun _ _ _ _ h => h)) (pa_cons (pe_glob (v := .str DG) rfl hFg ⟨_, rfl⟩) pa_nil)) pa_nil)))
      (pss_cons (ps_while (passes_of rfl) (PW.pt (pw_and (pt_cmpR op_gt (pv 1) pe_int (nomark _)) (pw_and1 (pt_val (pe_meth (pv 0) R.cl R.msd GSd r1 R.bsd .nil pass0 (pa_cons (pe_glob (v := .str DG) rfl hFg ⟨_, rfl⟩) pa_nil))))))
        (pss_cons (ps_set (i := 1) nd rfl (.inl rfl) (pe_op op_add (pe_op op_mulW pe_int (pv 1)) (pe_callTy call_int_str (by rfl) R.zint (by decide +kernel) (pa_cons (pe_meth0 (pv 0) R.cl R.msg GSg r1 R.bsg .nil pass0) pa_nil))))
      (pss_cons (ps_if (pt_cmpR op_gt (pv 1) (pe_glob (v := .int (10 ^ 30)) rfl hTi ⟨_, rfl⟩) (nomark _))
        (pss_one (ps_raise rfl (takes_of rfl rfl rfl rfl) (pmk_oex X.O X.iC X.tI GB r3 X.b .nil pass0 (by rfl) X.gC (pa_cons (pe_fld (pv 0) rfl) pa_nil))))
        pss_nil)
      (pss_one (ps_fldaug (pv 0) pe_int in_add)))))
      (pss_one (ps_ret (pv 1))))), ?_⟩
    refine ⟨_, rfl, g, dx, _, rfl, hg, rfl, g, DG, s, i, b, rfl, ⟨dx, hg⟩, hl, fun a H1 s1 hg1 => ?_, fun a => ?_⟩
    · have a : atS s i dgN = true := a
      have ⟨ag, ad⟩ := atS_get a
      have ad2 := (dgN_iff _).mp ad
      refine ⟨_, _, rfl, int_dig _ ad, by rw [tx_len]; show 1 ≤ 640; decide, ?_⟩
      have e0 : numP s i = nmP s (s.length - (i + 1)) (s.getD i 0 - 48) (i + 1) := by
        unfold numP
        rw [if_pos a]
      rw [e0] at q
      refine ⟨fun f σ H' => ∃ (m j : Nat), σ = [some (.ref g), some (.int (m : Nat))] ∧ SmX g H H' ∧ RdAt RC H' g s j b ∧ m ≤ 10 ^ 30 ∧ s.length ≤ f + j ∧ nmP s (s.length - (i + 1)) (s.getD i 0 - 48) (i + 1) = nmP s f m j, ⟨_, _, _, rfl, s1, hg1, by omega, by omega, rfl⟩, ?_⟩
      rintro f σ H2 ⟨m, j, rfl, s2, ⟨dx2, hg2⟩, hm, hf, e⟩
      rw [e] at q
      refine ⟨_, rfl, _, _, rfl, rfl, _, rfl, ?_⟩
      by_cases m0 : 0 < m
      · rw [decide_eq_true (by omega)]
        refine iteT ⟨_, rfl, g, dx2, _, rfl, hg2, rfl, g, DG, s, j, b, rfl, ⟨dx2, hg2⟩, hl, _, rfl, ?_⟩
        by_cases a2 : atS s j dgN = true
        · have jl := atS_lt a2
          have ⟨ag2, ad2⟩ := atS_get a2
          have ad3 := (dgN_iff _).mp ad2
          rw [show atS s j DG.cps.toList = true from a2]
          obtain ⟨f, rfl⟩ : ∃ n, f = n + 1 := ⟨f - 1, by omega⟩
          rw [nmP, if_pos ⟨m0, a2⟩] at q e
          refine iteT ⟨_, fun _ _ h => h, ?_⟩
          refine ⟨_, rfl, _, _, rfl, rfl, wide_mul (a := 4) (b := 110) (by decide) (by rw [Int.natAbs_natCast]; exact Nat.lt_of_le_of_lt hm (by decide)) (by decide) (by decide) (by decide), ?_⟩
          refine ⟨_, rfl, g, dx2, _, rfl, hg2, rfl, g, s, j, b, rfl, ⟨dx2, hg2⟩, jl, hl, _, _, rfl, int_dig _ ad2, by rw [tx_len]; show 1 ≤ 640; decide, _, _, rfl, rfl, ?_⟩
          have ev : V.int (10 * ((m : Nat) : Int) + ((s.getD j 0 - 48 : Nat) : Int)) = V.int ((10 * m + (s.getD j 0 - 48) : Nat) : Int) := by
            congr 1
          refine ⟨_, rfl, _, _, rfl, rfl, _, rfl, ?_⟩
          by_cases big : 10 ^ 30 < 10 * m + (s.getD j 0 - 48)
          · rw [if_pos big] at q
            rw [decide_eq_true (by omega)]
            refine iteT ⟨_, rfl, g, RC, dx2, _, _, rfl, hg2, R.cl, R.n2, rfl, by show 1 ≤ 1000; decide, mk1 X.O X.hw X.hf fun d H4 s4 n4 e4 => q H4 d (s2.trans (SmX.of s4)) (smx_none s2 hg2 n4) e4⟩
          · rw [if_neg big] at q e
            rw [decide_eq_false (by omega)]
            refine iteF ⟨_, rfl, g, RC, dx2, _, _, rfl, hg2, R.cl, R.n2, rfl, _, _, rfl, rfl, dx2, _, hg2, by show 3 < 1000; decide, ?_⟩
            refine ⟨f, by omega, 10 * m + (s.getD j 0 - 48), j + 1, ?_, s2.trans SmX.upd, ⟨dx2, by rw [upd_same, put_at]⟩, by omega, by omega, e⟩
            rw [← ev]
            rfl
        · rw [Bool.not_eq_true] at a2
          rw [show atS s j DG.cps.toList = false from a2]
          refine iteF ⟨_, rfl, ?_⟩
          cases f with
          | zero => rw [nmP] at q; exact q _ s2 ⟨dx2, hg2⟩
          | succ f => rw [nmP, if_neg (fun z => by rw [z.2] at a2; cases a2)] at q; exact q _ s2 ⟨dx2, hg2⟩
      · rw [decide_eq_false (by omega)]
        refine iteF ⟨_, rfl, ?_⟩
        cases f with
        | zero => rw [nmP] at q; exact q _ s2 ⟨dx2, hg2⟩
        | succ f => rw [nmP, if_neg (fun z => m0 z.1)] at q; exact q _ s2 ⟨dx2, hg2⟩
    · have a : atS s i dgN = false := a
      unfold numP at q
      rw [a, if_neg (by simp)] at q
      exact q
def spSp (K : PySem.W.Frag) (RC CB : Addr) (n : Nat) : Sp := fun vs H Q E => ∃ g s i b, vs = [.ref g, .int ((12 - n : Nat))] ∧ n ≤ 12 ∧ RdAt RC H g s i b ∧ s.length ≤ 100000 ∧ b ≤ 60 ∧
  match stP s n i b with
  | .ok (x, j, c) => ∀ H' v, SmX g H H' → RdAt RC H' g s j c → Dp K H' v (encS x) → Q v H'
  | .error j => PBd CB g H E j
def spRw (K : PySem.W.Frag) (RC CB : Addr) (n : Nat) : Sp := fun vs H Q E => ∃ g s i b, vs = [.ref g, .int ((12 - n : Nat))] ∧ n ≤ 12 ∧ RdAt RC H g s i b ∧ s.length ≤ 100000 ∧ b ≤ 60 ∧
  match rwP s (stP s n) i b with
  | .ok (r, j, c) => ∀ H' v, SmX g H H' → RdAt RC H' g s j c → Dp K H' v (encR r) → Q v H'
  | .error j => PBd CB g H E j
def spGr (K : PySem.W.Frag) (RC CB : Addr) (n : Nat) : Sp := fun vs H Q E => ∃ g s i b, vs = [.ref g, .int ((12 - (n + 1) : Nat))] ∧ n + 1 ≤ 12 ∧ RdAt RC H g s i b ∧ s.length ≤ 100000 ∧ b ≤ 60 ∧
  match grP s (rwP s (stP s n)) i b with
  | .ok (x, j, c) => ∀ H' v, SmX g H H' → RdAt RC H' g s j c → Dp K H' v (encS x) → Q v H'
  | .error j => PBd CB g H E j
theorem ok_gr {k n : Nat} (hk : 5 ≤ k) (R : RdC K mg RC g_ini g_sg g_sd g_tk g_lt g_nm g_gr g_sp g_rw e_ini e_sg e_sd e_tk e_lt e_nm e_gr e_sp e_rw) (T : HE K mg CH fH fdH) (X : XC K mg "BadText" "BadText.__init__" sBTinit "at" CB fB fdB) (GRw : FnOk P w K mg base (L2.CX P w) k g_rw e_rw ["self", "deep"] (spRw K RC CB n)) : FnOk P w K mg base (L2.CX P w) (k + 1) g_gr e_gr ["self", "deep"] (spGr K RC CB n) := by
  have GTk : FnOk P w K mg base (L2.CX P w) (0 + 4) g_tk e_tk ["self", "signs"] (spTk RC CB) := ok_tk R T X
  have GNm : FnOk P w K mg base (L2.CX P w) (0 + 5) g_nm e_nm ["self"] (spNm RC CB) := ok_nm R T X
  refine R.Fgr.okX scRd_gr (fun vs H Q E h => ?_) (fun cdv A outer st H vs Q E hr h => ?_)
  · obtain ⟨g, s, i, b, rfl, _⟩ := h
    rfl
  · obtain ⟨g, s, i, b, rfl, hn, hg, hl, hb, q⟩ := h
    have nd := scRd_gr.nd
    have r4 : Room (0 + 4) _ := hr.mono (by omega)
    have r5 : Room (0 + 5) _ := hr.mono (by omega)
    have rR : Room k _ := hr
    obtain ⟨dx, hg⟩ := hg
    refine ⟨_, (pss_cons (ps_set (i := 2) nd rfl (.inl rfl) (pe_meth (E := E) (pv 0) R.cl R.mrw GRw rR R.brw .nil (passes_call (takes_of rfl rfl rfl rfl) (fun _ _ _ _ h => h)) (pa_cons (pe_op op_add (pv 1) pe_int) pa_nil)))
      (pss_cons (ps_expr (pe_meth (E := E) (pv 0) R.cl R.mtk GTk r4 R.btk .nil (passes_call (takes_of rfl rfl rfl rfl) (fun _ _ _ _ h => h)) (pa_cons pe_str pa_nil)))
      (pss_cons (ps_expr (pe_meth (E := E) (pv 0) R.cl R.mtk GTk r4 R.btk .nil (passes_call (takes_of rfl rfl rfl rfl) (fun _ _ _ _ h => h)) (pa_cons pe_str pa_nil)))
      (pss_one (ps_ret (pe_tup (pa_cons pe_str (pa_cons (pe_meth0 (E := E) (pv 0) R.cl R.mnm GNm r5 R.bnm .nil (passes_call (takes_of rfl rfl rfl rfl) (fun _ _ _ _ h => h))) (pa_cons (pv 2) pa_nil))))))))), ?_⟩
    refine ⟨_, rfl, g, dx, _, rfl, hg, rfl, _, rfl, _, _, rfl, rfl, g, s, i, b, ?_, by omega, ⟨dx, hg⟩, hl, hb, ?_⟩
    · show [V.ref g, V.int (((12 - (n + 1) : Nat) : Int) + 1)] = _
      rw [show ((12 - (n + 1) : Nat) : Int) + 1 = ((12 - n : Nat) : Int) by omega]
    unfold grP at q
    cases e : rwP s (stP s n) i b with
    | error j => rw [e] at q; exact q
    | ok x =>
      obtain ⟨r, j, c⟩ := x
      rw [e] at q
      have hc := (rwP_ok (stP_ok s n) _ _ _ _ _ e).2.2 hb
      rintro H1 v s1 hg1 hv
      obtain ⟨dx1, hg1'⟩ := hg1
      refine ⟨_, rfl, g, dx1, _, rfl, hg1', rfl, g, _, s, j, c, rfl, ⟨dx1, hg1'⟩, hl, fun a H2 s2 hg2 => ?_, fun a => ?_⟩
      · have a : atS s j [41] = true := a
        obtain ⟨dx2, hg2'⟩ := hg2
        refine ⟨_, rfl, g, dx2, _, rfl, hg2', rfl, g, _, s, j + 1, c, rfl, ⟨dx2, hg2'⟩, hl, fun a2 H3 s3 hg3 => ?_, fun a2 => ?_⟩
        · have a2 : atS s (j + 1) [42] = true := a2
          simp only [a, a2, if_true] at q
          obtain ⟨dx3, hg3'⟩ := hg3
          refine ⟨_, rfl, g, dx3, _, rfl, hg3', rfl, g, s, j + 2, c, rfl, ⟨dx3, hg3'⟩, hl, ?_⟩
          cases e2 : numP s (j + 2) with
          | error j2 =>
            rw [e2] at q
            exact q.later ((s1.trans s2).trans s3) hg3'
          | ok y =>
            obtain ⟨m, j2⟩ := y
            rw [e2] at q
            rintro H4 s4 hg4
            refine ⟨_, rfl, by show 3 ≤ sizeLine; decide, fun p np => ?_⟩
            refine q _ _ ((((s1.trans s2).trans s3).trans s4).trans (SmX.of (same_upd np))) ?_ ?_
            · obtain ⟨dx4, hg4⟩ := hg4
              exact ⟨dx4, same_upd np _ _ hg4⟩
            · rw [encS]
              have d1 := dp_smx (s2.trans (s3.trans s4)) hg1' (.inr ⟨_, _, _, rfl⟩) (noL_encR r) hv
              exact .tup (SqT.of upd_same) (.cons (.str _) (.cons (.int _) (.cons (dp_same (same_upd np) d1) .nil)))
        · have a2 : atS s (j + 1) [42] = false := a2
          simp only [a, a2, if_true] at q
          exact q.later (s1.trans s2) hg2'
      · have a : atS s j [41] = false := a
        simp only [a] at q
        exact q.later s1 hg1'
set_option maxHeartbeats 1000000 in
theorem ok_sp_of {k n : Nat} {spG : Sp} (hk : 5 ≤ k) (R : RdC K mg RC g_ini g_sg g_sd g_tk g_lt g_nm g_gr g_sp g_rw e_ini e_sg e_sd e_tk e_lt e_nm e_gr e_sp e_rw) (T : HE K mg CH fH fdH) (X : XC K mg "BadText" "BadText.__init__" sBTinit "at" CB fB fdB) (GGr : FnOk P w K mg base (L2.CX P w) k g_gr e_gr ["self", "deep"] spG) (hG : ∀ m, n = m + 1 → spG = spGr K RC CB m) : FnOk P w K mg base (L2.CX P w) (k + 1) g_sp e_sp ["self", "deep"] (spSp K RC CB n) := by
  obtain ⟨_, hSt⟩ := R.cMOST_STEPS
  obtain ⟨_, hD⟩ := R.cMOST_DEEP
  obtain ⟨_, hSd⟩ := R.cMOST_SIDES
  obtain ⟨_, hN⟩ := R.cLONGEST_NAME
  obtain ⟨_, hL⟩ := R.cLETTERS
  obtain ⟨_, hS⟩ := R.cSMALL
  have GTk : FnOk P w K mg base (L2.CX P w) (0 + 4) g_tk e_tk ["self", "signs"] (spTk RC CB) := ok_tk R T X
  have GLt : FnOk P w K mg base (L2.CX P w) (0 + 5) g_lt e_lt ["self", "letters", "fewest", "most"] (spLt RC CB) := ok_lt R T X
  have GB : FnOk P w K mg base CX0 (0 + 2) fB fdB ["self", "at"] (sp1 K "at" "badtext") := ok_BT T X.F
  refine R.Fsp.okX scRd_sp (fun vs H Q E h => ?_) (fun cdv A outer st H vs Q E hr h => ?_)
  · obtain ⟨g, s, i, b, rfl, _⟩ := h
    rfl
  · obtain ⟨g, s, i, b, rfl, hn, ⟨dx, hg⟩, hl, hb, q⟩ := h
    have nd := scRd_sp.nd
    have r3 : Room (0 + 3) _ := hr.mono (by omega)
    have r4 : Room (0 + 4) _ := hr.mono (by omega)
    have r5 : Room (0 + 5) _ := hr.mono (by omega)
    have rR : Room k _ := hr
    refine ⟨_, (pss_cons (ps_if (pt_cmpR op_eq (pe_fld (pv 0) rfl) (pe_glob (v := .int 60) rfl hSt ⟨_, rfl⟩) (nomark _))
        (pss_one (ps_raise rfl (takes_of rfl rfl rfl rfl) (pmk_oex X.O X.iC X.tI GB r3 X.b .nil pass0 (by rfl) X.gC (pa_cons (pe_fld (pv 0) rfl) pa_nil))))
        pss_nil)
      (pss_cons (ps_fldaug (pv 0) pe_int in_add)
      (pss_cons (ps_set (i := 2) nd rfl (.inl rfl) (pe_meth (E := E) (pv 0) R.cl R.mtk GTk r4 R.btk .nil (passes_call (takes_of rfl rfl rfl rfl) (fun _ _ _ _ h => h)) (pa_cons (pe_ifExp (pt_cmpR op_lt (pv 1) (pe_glob (v := .int 12) rfl hD ⟨_, rfl⟩) (nomark _)) pe_str pe_str) pa_nil)))
      (pss_cons (ps_if (pt_cmpR op_eq (pv 2) pe_str (nomark _))
        (pss_one (ps_ret (pe_tup (pa_cons pe_str (pa_cons (pe_meth (E := E) (pv 0) R.cl R.mlt GLt r5 R.blt .nil (passes_call (takes_of rfl rfl rfl rfl) (fun _ _ _ _ h => h)) (pa_cons (pe_glob (v := .str LT) rfl hL ⟨_, rfl⟩) (pa_cons pe_int (pa_cons (pe_glob (v := .int 12) rfl hSd ⟨_, rfl⟩) pa_nil)))) pa_nil)))))
        pss_nil)
      (pss_cons (ps_if (pt_cmpR op_eq (pv 2) pe_str (nomark _))
        (pss_one (ps_ret (pe_tup (pa_cons pe_str (pa_cons (pe_meth (E := E) (pv 0) R.cl R.mlt GLt r5 R.blt .nil (passes_call (takes_of rfl rfl rfl rfl) (fun _ _ _ _ h => h)) (pa_cons (pe_glob (v := .str LT) rfl hL ⟨_, rfl⟩) (pa_cons pe_int (pa_cons (pe_glob (v := .int 12) rfl hSd ⟨_, rfl⟩) pa_nil)))) pa_nil)))))
        pss_nil)
      (pss_cons (ps_if (pt_cmpR op_eq (pv 2) pe_str (nomark _))
        (pss_one (ps_ret (pe_meth (E := E) (pv 0) R.cl R.mgr GGr rR R.bgr .nil (passes_call (takes_of rfl rfl rfl rfl) (fun _ _ _ _ h => h)) (pa_cons (pv 1) pa_nil))))
        pss_nil)
      (pss_cons (ps_set (i := 3) nd rfl (.inl rfl) (pe_meth (E := E) (pv 0) R.cl R.mlt GLt r5 R.blt .nil (passes_call (takes_of rfl rfl rfl rfl) (fun _ _ _ _ h => h)) (pa_cons (pe_glob (v := .str SM) rfl hS ⟨_, rfl⟩) (pa_cons pe_int (pa_cons (pe_glob (v := .int 8) rfl hN ⟨_, rfl⟩) pa_nil)))))
      (pss_cons (ps_expr (pe_meth (E := E) (pv 0) R.cl R.mtk GTk r4 R.btk .nil (passes_call (takes_of rfl rfl rfl rfl) (fun _ _ _ _ h => h)) (pa_cons pe_str pa_nil)))
      (pss_one (ps_ret (pe_tup (pa_cons pe_str (pa_cons (pv 3) pa_nil))))))))))))), ?_⟩
    refine ⟨_, rfl, g, RC, dx, _, _, rfl, hg, R.cl, R.n3, rfl, rfl, _, rfl, ?_⟩
    have eP : stP s n i b = spP s (match n with | 0 => fun _ _ => .error 0 | m + 1 => grP s (rwP s (stP s m))) (decide (0 < n)) i b := by
      cases n <;> rfl
    rw [eP] at q
    unfold spP at q
    by_cases b6 : b = 60
    · rw [if_pos b6] at q
      rw [decide_eq_true (by rw [b6]; rfl)]
      refine iteT ⟨_, rfl, g, RC, dx, _, _, rfl, hg, R.cl, R.n2, rfl, by show 1 ≤ 1000; decide, mk1 X.O X.hw X.hf fun d H4 s4 n4 e4 => q H4 d (SmX.of s4) n4 e4⟩
    · rw [if_neg b6] at q
      rw [decide_eq_false (by intro z; injection z with z; omega)]
      refine iteF ⟨_, rfl, g, RC, dx, _, _, rfl, hg, R.cl, R.n3, rfl, _, _, rfl, rfl, dx, _, hg, by show 3 < 1000; decide, ?_⟩
      rw [put_begun]
      generalize hH1 : upd H g (.ins RC dx (RdF s i (b + 1))) = H1
      have hg1 : H1 g = some (.ins RC dx (RdF s i (b + 1))) := by rw [← hH1, upd_same]
      have s1 : SmX g H H1 := by rw [← hH1]; exact SmX.upd
      refine ⟨_, rfl, g, dx, _, rfl, hg1, rfl, _, rfl, _, _, rfl, rfl, _, rfl, ?_⟩
      have zF : (Str.ofString ".~<").cps.toList = fsN false := by decide +kernel
      have zT : (Str.ofString ".~<(").cps.toList = fsN true := by decide +kernel
      by_cases a0 : atS s i (fsN (decide (0 < n))) = true
      rotate_left
      · rw [Bool.not_eq_true] at a0
        have bad : PBd CB g H E i := by
          simp only [a0] at q
          exact q
        rcases Nat.eq_zero_or_pos n with h0 | h0
        · rw [decide_eq_false (by omega)] at a0
          rw [decide_eq_false (by omega)]
          refine iteF ⟨g, _, s, i, b + 1, rfl, ⟨dx, hg1⟩, hl, fun a => ?_, fun _ => bad.later s1 hg1⟩
          rw [zF, a0] at a
          cases a
        · rw [decide_eq_true h0] at a0
          rw [decide_eq_true (by omega)]
          refine iteT ⟨g, _, s, i, b + 1, rfl, ⟨dx, hg1⟩, hl, fun a => ?_, fun _ => bad.later s1 hg1⟩
          rw [zT, a0] at a
          cases a
      rw [if_pos a0] at q
      have a1 := atS_lt a0
      have fc : s.getD i 0 ∈ fsN (decide (0 < n)) := (atS_get a0).2
      rcases Nat.eq_zero_or_pos n with h0 | h0
      rw [decide_eq_false (by omega)] at a0
      rw [decide_eq_false (by omega)]
      refine iteF ⟨g, _, s, i, b + 1, rfl, ⟨dx, hg1⟩, hl, fun a H2 s2 hg2 => ?_, fun a => by rw [zF, a0] at a; cases a⟩
      rotate_left
      rw [decide_eq_true h0] at a0
      rw [decide_eq_true (by omega)]
      refine iteT ⟨g, _, s, i, b + 1, rfl, ⟨dx, hg1⟩, hl, fun a H2 s2 hg2 => ?_, fun a => by rw [zT, a0] at a; cases a⟩
      all_goals clear a0
      all_goals obtain ⟨dx2, hg2⟩ := hg2
      all_goals refine ⟨_, rfl, rfl, _, rfl, ?_⟩
      all_goals
        have ed : Str.ofString "." = tx [46] := by decide +kernel
        have et : Str.ofString "~" = tx [126] := by decide +kernel
        have eo : Str.ofString "(" = tx [40] := by decide +kernel
        rw [ed, one_eq]
        by_cases c46 : s.getD i 0 = 46
        · rw [if_pos c46] at q
          rw [decide_eq_true c46]
          refine iteT ⟨_, rfl, g, dx2, _, rfl, hg2, rfl, g, LT, s, i + 1, b + 1, 0, 12, rfl, ⟨dx2, hg2⟩, hl, by decide, by decide, ?_⟩
          rw [LT_cps]
          cases e : ltP s ltN 0 12 [] (i + 1) with
          | error j =>
            rw [e] at q
            exact PBd.later q (s1.trans s2) hg2
          | ok y =>
            obtain ⟨t, j⟩ := y
            rw [e] at q
            rintro H3 s3 hg3
            refine ⟨by show 2 ≤ sizeLine; decide, fun p np => ?_⟩
            obtain ⟨dx3, hg3⟩ := hg3
            refine q _ _ (((s1.trans s2).trans s3).trans (SmX.of (same_upd np))) ⟨dx3, same_upd np _ _ hg3⟩ ?_
            rw [encS]
            exact .tup (SqT.of upd_same) (.cons (.str _) (.cons (.str _) .nil))
        rw [if_neg c46] at q
        rw [decide_eq_false c46]
        refine iteF ⟨_, rfl, rfl, _, rfl, ?_⟩
        rw [et, one_eq]
        by_cases c126 : s.getD i 0 = 126
        · rw [if_pos c126] at q
          rw [decide_eq_true c126]
          refine iteT ⟨_, rfl, g, dx2, _, rfl, hg2, rfl, g, LT, s, i + 1, b + 1, 1, 12, rfl, ⟨dx2, hg2⟩, hl, by decide, by decide, ?_⟩
          rw [LT_cps]
          cases e : ltP s ltN 1 12 [] (i + 1) with
          | error j =>
            rw [e] at q
            exact PBd.later q (s1.trans s2) hg2
          | ok y =>
            obtain ⟨t, j⟩ := y
            rw [e] at q
            rintro H3 s3 hg3
            refine ⟨by show 2 ≤ sizeLine; decide, fun p np => ?_⟩
            obtain ⟨dx3, hg3⟩ := hg3
            refine q _ _ (((s1.trans s2).trans s3).trans (SmX.of (same_upd np))) ⟨dx3, same_upd np _ _ hg3⟩ ?_
            rw [encS]
            exact .tup (SqT.of upd_same) (.cons (.str _) (.cons (.str _) .nil))
        rw [if_neg c126] at q
        rw [decide_eq_false c126]
        refine iteF ⟨_, rfl, rfl, _, rfl, ?_⟩
        rw [eo, one_eq]
        by_cases c40 : s.getD i 0 = 40
        · rw [if_pos c40] at q
          rw [decide_eq_true c40]
          obtain ⟨m, rfl⟩ : ∃ m, n = m + 1 := by
            cases n with
            | zero =>
              rw [c40] at fc
              exact absurd fc (by decide)
            | succ m => exact ⟨m, rfl⟩
          have eG := hG m rfl
          subst eG
          refine iteT ⟨_, rfl, g, dx2, _, rfl, hg2, rfl, _, rfl, g, s, i + 1, b + 1, rfl, hn, ⟨dx2, hg2⟩, hl, by omega, ?_⟩
          have q : (match grP s (rwP s (stP s m)) (i + 1) (b + 1) with
            | .ok (x, j, c) => ∀ H' v, SmX g H H' → RdAt RC H' g s j c → Dp K H' v (encS x) → Q v H'
            | .error j => PBd CB g H E j) := q
          cases e : grP s (rwP s (stP s m)) (i + 1) (b + 1) with
          | error j =>
            rw [e] at q
            exact PBd.later q (s1.trans s2) hg2
          | ok y =>
            obtain ⟨x, j, c⟩ := y
            rw [e] at q
            exact fun H3 v s3 hg3 hv => q H3 v ((s1.trans s2).trans s3) hg3 hv
        rw [if_neg c40] at q
        rw [decide_eq_false c40]
        refine iteF ⟨_, rfl, g, dx2, _, rfl, hg2, rfl, g, SM, s, i + 1, b + 1, 1, 8, rfl, ⟨dx2, hg2⟩, hl, by decide, by decide, ?_⟩
        rw [SM_cps]
        cases e : ltP s smN 1 8 [] (i + 1) with
        | error j =>
          rw [e] at q
          exact PBd.later q (s1.trans s2) hg2
        | ok y =>
          obtain ⟨t, j⟩ := y
          rw [e] at q
          rintro H3 s3 hg3
          obtain ⟨dx3, hg3⟩ := hg3
          refine ⟨_, rfl, g, dx3, _, rfl, hg3, rfl, g, _, s, j, b + 1, rfl, ⟨dx3, hg3⟩, hl, fun a H4 s4 hg4 => ?_, fun a => ?_⟩
          · have a : atS s j [62] = true := a
            simp only [a, if_true] at q
            obtain ⟨dx4, hg4⟩ := hg4
            refine ⟨_, rfl, by show 2 ≤ sizeLine; decide, fun p np => ?_⟩
            refine q _ _ ((((s1.trans s2).trans s3).trans s4).trans (SmX.of (same_upd np))) ⟨dx4, same_upd np _ _ hg4⟩ ?_
            rw [encS]
            exact .tup (SqT.of upd_same) (.cons (.str _) (.cons (.str _) .nil))
          · have a : atS s j [62] = false := a
            simp only [a] at q
            exact PBd.later q ((s1.trans s2).trans s3) hg3
set_option maxHeartbeats 1000000 in
theorem ok_rw_of {k n : Nat} (hk : 4 ≤ k) (R : RdC K mg RC g_ini g_sg g_sd g_tk g_lt g_nm g_gr g_sp g_rw e_ini e_sg e_sd e_tk e_lt e_nm e_gr e_sp e_rw) (T : HE K mg CH fH fdH) (X : XC K mg "BadText" "BadText.__init__" sBTinit "at" CB fB fdB) (GSp : FnOk P w K mg base (L2.CX P w) k g_sp e_sp ["self", "deep"] (spSp K RC CB n)) : FnOk P w K mg base (L2.CX P w) (k + 1) g_rw e_rw ["self", "deep"] (spRw K RC CB n) := by
  have GSd : FnOk P w K mg base CX0 (0 + 1) g_sd e_sd ["self", "signs"] (spSd RC) := ok_sd R
  have GTk : FnOk P w K mg base (L2.CX P w) (0 + 4) g_tk e_tk ["self", "signs"] (spTk RC CB) := ok_tk R T X
  refine R.Frw.okX scRd_rw (fun vs H Q E h => ?_) (fun cdv A outer st H vs Q E hr h => ?_)
  · obtain ⟨g, s, i, b, rfl, _⟩ := h
    rfl
  · obtain ⟨g, s, i, b, rfl, hn, ⟨dx, hg⟩, hl, hb, q⟩ := h
    have nd := scRd_rw.nd
    have r1 : Room (0 + 1) _ := hr.mono (by omega)
    have r4 : Room (0 + 4) _ := hr.mono (by omega)
    refine ⟨_, (pss_cons (ps_if (pt_val (pe_meth (pv 0) R.cl R.msd GSd r1 R.bsd .nil pass0 (pa_cons pe_str pa_nil)))
        (pss_cons (ps_expr (pe_meth (E := E) (pv 0) R.cl R.mtk GTk r4 R.btk .nil (passes_call (takes_of rfl rfl rfl rfl) (fun _ _ _ _ h => h)) (pa_cons pe_str pa_nil)))
      (pss_one (ps_ret (pe_tup (pa_cons pe_str (pa_cons (pe_tup pa_nil) pa_nil))))))
        pss_nil)
      (pss_cons (ps_set (i := 2) nd rfl (.inl rfl) (pe_lst (pa_cons (pe_meth (E := E) (pv 0) R.cl R.msp GSp hr R.bsp .nil (passes_call (takes_of rfl rfl rfl rfl) (fun _ _ _ _ h => h)) (pa_cons (pv 1) pa_nil)) pa_nil)))
      (pss_cons (ps_while (passes_of rfl) (pt_val (pe_meth (pv 0) R.cl R.msd GSd r1 R.bsd .nil pass0 (pa_cons pe_str pa_nil)))
        (pss_cons (ps_expr (pe_meth (E := E) (pv 0) R.cl R.mtk GTk r4 R.btk .nil (passes_call (takes_of rfl rfl rfl rfl) (fun _ _ _ _ h => h)) (pa_cons pe_str pa_nil)))
      (pss_one (ps_expr (pe_bm PySem.F.plainAttrs_list PySem.F.slot_list_append PySem.F.type_list_append mt_append (pv 2) (pa_cons (pe_meth (E := E) (pv 0) R.cl R.msp GSp hr R.bsp .nil (passes_call (takes_of rfl rfl rfl rfl) (fun _ _ _ _ h => h)) (pa_cons (pv 1) pa_nil)) pa_nil))))))
      (pss_one (ps_ret (pe_tup (pa_cons pe_str (pa_cons (pe_tupleOf (by rfl) R.ztuple (pv 2)) pa_nil)))))))), ?_⟩
    have zm : (Str.ofString "-").cps.toList = [45] := by decide +kernel
    have zb : (Str.ofString " ").cps.toList = [32] := by decide +kernel
    unfold rwP at q
    refine ⟨_, rfl, g, dx, _, rfl, hg, rfl, g, _, s, i, b, rfl, ⟨dx, hg⟩, hl, _, rfl, ?_⟩
    rw [zm]
    by_cases a : atS s i [45] = true
    · rw [if_pos a] at q
      rw [a]
      refine iteT ⟨_, rfl, g, dx, _, rfl, hg, rfl, g, _, s, i, b, rfl, ⟨dx, hg⟩, hl, fun _ H1 s1 hg1 => ?_, fun a' => by rw [zm, a] at a'; cases a'⟩
      refine ⟨by show 0 ≤ sizeLine; decide, fun p1 np1 => ⟨by show 2 ≤ sizeLine; decide, fun p np => ?_⟩⟩
      obtain ⟨dx1, hg1⟩ := hg1
      have s2 : Same H1 (upd (upd H1 p1 (.tup [])) p (.tup [.str "steps", .ref p1])) := sm_trans (same_upd np1) (same_upd np)
      refine q _ _ (s1.trans (SmX.of s2)) ⟨dx1, s2 _ _ hg1⟩ ?_
      have np1' : p1 ≠ p := ne_of_none upd_same np
      exact .tup (SqT.of upd_same) (.cons (.str _) (.cons (.tup (SqT.of (by rw [upd_ne np1', upd_same])) .nil) .nil))
    · rw [if_neg a] at q
      rw [Bool.not_eq_true] at a
      rw [a]
      refine iteF ⟨_, rfl, g, dx, _, rfl, hg, rfl, _, rfl, g, s, i, b, rfl, hn, ⟨dx, hg⟩, hl, hb, ?_⟩
      cases e : stP s n i b with
      | error j =>
        rw [e] at q
        exact q
      | ok y =>
        obtain ⟨x1, j1, c1⟩ := y
        rw [e] at q
        have ⟨_, j1l, c1l⟩ := stP_ok s n _ _ _ _ _ e
        rintro H1 v1 s1 hg1 hv1
        refine ⟨by show 1 ≤ sizeLine; decide, fun D nD => ?_⟩
        have nD' : H D = none := smx_none s1 hg1.choose_spec nD
        obtain ⟨dx1, hg1⟩ := hg1
        have q : (match rsP s (stP s n) (s.length - j1) [x1] j1 c1 with
            | .ok (r, j, c) => ∀ H' v, SmX g H H' → RdAt RC H' g s j c → Dp K H' v (encR r) → Q v H'
            | .error j => PBd CB g H E j) := q
        refine ⟨fun f σ H' => ∃ (acc : List Stp) (vs : List V) (j c : Nat), σ = [some (.ref g), some (.int ((12 - n : Nat))), some (.ref D)] ∧ SmX g H H' ∧ RdAt RC H' g s j c ∧ H' D = some (.lst vs) ∧ DpAll K H' vs (encL acc) ∧ c ≤ 60 ∧ s.length ≤ f + j ∧ vs.length ≤ j ∧ j ≤ s.length ∧ rsP s (stP s n) (s.length - j1) [x1] j1 c1 = rsP s (stP s n) f acc j c, ⟨s.length - j1, [x1], [v1], j1, c1, rfl, s1.trans (SmX.of (same_upd nD)), ⟨dx1, same_upd nD _ _ hg1⟩, upd_same, ?_, c1l hb, by omega, by show 1 ≤ j1; omega, j1l, rfl⟩, ?_⟩
        · rw [encL, encL]
          exact .cons (dp_same (same_upd nD) hv1) .nil
        · rintro f σ H2 ⟨acc, vs, j, c, rfl, s2, ⟨dx2, hg2⟩, hD, hv, hc, hf, hj, hjl, e2⟩
          rw [e2] at q
          have gD : g ≠ D := ne_of hg2 hD fun z => by cases z
          refine ⟨_, rfl, g, dx2, _, rfl, hg2, rfl, g, _, s, j, c, rfl, ⟨dx2, hg2⟩, hl, _, rfl, ?_⟩
          rw [zb]
          by_cases a2 : atS s j [32] = true
          · have := atS_lt a2
            obtain ⟨f, rfl⟩ : ∃ n, f = n + 1 := ⟨f - 1, by omega⟩
            rw [rsP, if_pos a2] at q e2
            rw [a2]
            refine iteT ⟨_, fun _ _ h => h, ?_⟩
            refine ⟨_, rfl, g, dx2, _, rfl, hg2, rfl, g, _, s, j, c, rfl, ⟨dx2, hg2⟩, hl, fun _ H3 s3 hg3 => ?_, fun a' => by rw [zb, a2] at a'; cases a'⟩
            obtain ⟨dx3, hg3⟩ := hg3
            have hD3 := s3 _ _ (Ne.symm gD) hD
            refine ⟨_, rfl, .inl ⟨rfl, _, SqL.of hD3⟩, _, rfl, g, dx3, _, rfl, hg3, rfl, _, rfl, g, s, j + 1, c, rfl, hn, ⟨dx3, hg3⟩, hl, hc, ?_⟩
            cases e3 : stP s n (j + 1) c with
            | error j3 =>
              rw [e3] at q
              exact PBd.later q (s2.trans s3) hg3
            | ok y =>
              obtain ⟨x3, j3, c3⟩ := y
              rw [e3] at q e2
              have ⟨lt3, j3l, c3l⟩ := stP_ok s n _ _ _ _ _ e3
              rintro H4 v4 s4 hg4 hv4
              obtain ⟨dx4, hg4⟩ := hg4
              have hD4 := s4 _ _ (Ne.symm gD) hD3
              refine ⟨D, vs, v4, rfl, rfl, hD4, by rw [sizeLine_eq]; omega, ?_⟩
              have s5 : SmX D H4 (upd H4 D (.lst (vs ++ [v4]))) := SmX.upd
              refine ⟨f, by omega, acc ++ [x3], vs ++ [v4], j3, c3, rfl, fun p o np h => ?_, ⟨dx4, s5 _ _ gD hg4⟩, upd_same, ?_, c3l hc, by omega, ?_, j3l, e2⟩
              · have h4 := ((s2.trans s3).trans s4) p o np h
                refine s5 _ _ (fun z => ?_) h4
                rw [z, nD' ] at h
                cases h
              · rw [encL_snoc]
                have e5 : noLA (encL acc ++ [encS x3]) = true := by
                  rw [← encL_snoc]
                  exact noL_encL _
                have v5 := dpa_smx (s3.trans s4) hg2 (.inr ⟨_, _, _, rfl⟩) (noL_encL acc) hv
                exact dpa_smx s5 hD4 (.inl ⟨_, rfl⟩) e5 (dpa_snoc v5 hv4)
              · rw [List.length_append]
                show vs.length + 1 ≤ j3
                omega
          · rw [Bool.not_eq_true] at a2
            rw [a2]
            have e4 : rsP s (stP s n) f acc j c = .ok (acc, j, c) := by
              cases f with
              | zero => rw [rsP]
              | succ f => rw [rsP, a2, if_neg (by simp)]
            rw [e4] at q
            refine iteF ⟨_, rfl, .inl ⟨D, vs, rfl, SqL.of hD, fun p1 np1 => ⟨by show 2 ≤ sizeLine; decide, fun p np => ?_⟩⟩⟩
            have s5 : Same H2 (upd (upd H2 p1 (.tup vs)) p (.tup [.str "steps", .ref p1])) := sm_trans (same_upd np1) (same_upd np)
            have np1' : p1 ≠ p := ne_of_none upd_same np
            refine q _ _ (s2.trans (SmX.of s5)) ⟨dx2, s5 _ _ hg2⟩ ?_
            exact .tup (SqT.of upd_same) (.cons (.str _) (.cons (.tup (SqT.of (by rw [upd_ne np1', upd_same])) (dpa_same s5 hv)) .nil))
theorem ok_sps {k : Nat} (R : RdC K mg RC g_ini g_sg g_sd g_tk g_lt g_nm g_gr g_sp g_rw e_ini e_sg e_sd e_tk e_lt e_nm e_gr e_sp e_rw) (T : HE K mg CH fH fdH) (X : XC K mg "BadText" "BadText.__init__" sBTinit "at" CB fB fdB) : ∀ n, FnOk P w K mg base (L2.CX P w) (k + 6 + 3 * n) g_sp e_sp ["self", "deep"] (spSp K RC CB n)
  | 0 => ok_sp_of (k := k + 5) (spG := fun _ _ _ _ => False) (by omega) R T X (R.Fgr.okX (k := k + 4) scRd_gr (fun vs H Q E h => False.elim h) (fun cdv A outer s H vs Q E hr h => False.elim h)) fun m e => by cases e
  | n + 1 => ok_sp_of (k := k + 6 + 3 * n + 2) (by omega) R T X (ok_gr (k := k + 6 + 3 * n + 1) (by omega) R T X (ok_rw_of (k := k + 6 + 3 * n) (by omega) R T X (ok_sps R T X n))) fun m e => by cases e; rfl
def spIni (RC : Addr) : Sp := fun vs H Q _ => ∃ g dg s, vs = [.ref g, .str (tx s)] ∧ H g = some (.ins RC dg []) ∧ ∀ H', SmX g H H' → RdAt RC H' g s 0 0 → Q .non H'
theorem ok_ini {k : Nat} (R : RdC K mg RC g_ini g_sg g_sd g_tk g_lt g_nm g_gr g_sp g_rw e_ini e_sg e_sd e_tk e_lt e_nm e_gr e_sp e_rw) : FnOk P w K mg base CX0 (k + 1) g_ini e_ini ["self", "text"] (spIni RC) := by
  refine R.Fini.ok scRd_ini (fun vs H Q E h => ?_) (fun cdv A outer st H vs Q E hr h => ?_)
  · obtain ⟨g, dg, s, rfl, _⟩ := h
    rfl
  · obtain ⟨g, dg, s, rfl, hg, q⟩ := h
    refine ⟨_, (pss_cons (ps_fld (pv 0) (pv 1) rfl)
      (pss_cons (ps_fld (pv 0) pe_int rfl)
      (pss_one (ps_fld (pv 0) pe_int rfl)))), ?_⟩
    refine ⟨_, rfl, _, rfl, g, RC, dg, _, rfl, hg, R.cl, R.n1, by decide, ?_⟩
    refine ⟨_, rfl, g, RC, dg, _, rfl, upd_same, R.cl, R.n2, by show 1 < 1000; decide, ?_⟩
    refine ⟨_, rfl, g, RC, dg, _, rfl, upd_same, R.cl, R.n3, by show 2 < 1000; decide, ?_⟩
    refine q _ (SmX.upd.trans (SmX.upd.trans SmX.upd)) ⟨dg, ?_⟩
    rw [upd_same]
    rfl
def spRR (K : PySem.W.Frag) (CB : Addr) : Sp := fun vs H Q E => ∃ s, vs = [.str (tx s)] ∧ s.length ≤ 100000 ∧
  match rdP s with
  | .ok r => ∀ H' v, Same H H' → Dp K H' v (encR r) → Q v H'
  | .error j => ∀ H' d, Same H H' → H d = none → H' d = some (.xd [("at", .int (j : Nat)), ("word", .str "badtext")]) → E (.ref CB) (some d) H'
set_option maxHeartbeats 1000000 in
theorem ok_rr {k : Nat} {f : Addr} {fd : FuncData} (R : RdC K mg RC g_ini g_sg g_sd g_tk g_lt g_nm g_gr g_sp g_rw e_ini e_sg e_sd e_tk e_lt e_nm e_gr e_sp e_rw) (T : HE K mg CH fH fdH) (X : XC K mg "BadText" "BadText.__init__" sBTinit "at" CB fB fdB) (F : Fun K "read_row" "read_row" sReadRow f fd) : FnOk P w K mg base (L2.CX P w) (k + 44) f fd ["text"] (spRR K CB) := by
  have GR : FnOk P w K mg base (L2.CX P w) (k + 43) g_rw e_rw ["self", "deep"] (spRw K RC CB 12) := ok_rw_of (k := k + 42) (by omega) R T X (ok_sps R T X 12)
  have GI : FnOk P w K mg base CX0 (0 + 1) g_ini e_ini ["self", "text"] (spIni RC) := ok_ini R
  have GB : FnOk P w K mg base CX0 (0 + 2) fB fdB ["self", "at"] (sp1 K "at" "badtext") := ok_BT T X.F
  refine F.okX scReadRow (fun vs H Q E h => ?_) (fun cdv A outer st H vs Q E hr h => ?_)
  · obtain ⟨s, rfl, _⟩ := h
    rfl
  · obtain ⟨s, rfl, hl, q⟩ := h
    have nd := scReadRow.nd
    have r2 : Room (0 + 1 + 1) _ := hr.mono (by omega)
    have r3 : Room (0 + 3) _ := hr.mono (by omega)
    refine ⟨_, (pss_cons (ps_set (i := 1) nd rfl (.inl rfl) (pe_make R.mks GI r2 (by rfl) R.gC R.bini .nil pass0 (pa_cons (pv 0) pa_nil)))
      (pss_cons (ps_set (i := 2) nd rfl (.inl rfl) (pe_meth (E := E) (pv 1) R.cl R.mrw GR hr R.brw .nil (passes_call (takes_of rfl rfl rfl rfl) (fun _ _ _ _ h => h)) (pa_cons pe_int pa_nil)))
      (pss_cons (ps_if (pt_cmpR op_lt (pe_fld (pv 1) rfl) (pe_callB call_len_str (by rfl) R.zlen PySem.boot_len (pa_cons (pv 0) pa_nil)) (nomark _))
        (pss_one (ps_raise rfl (takes_of rfl rfl rfl rfl) (pmk_oex X.O X.iC X.tI GB r3 X.b .nil pass0 (by rfl) X.gC (pa_cons (pe_fld (pv 1) rfl) pa_nil))))
        pss_nil)
      (pss_one (ps_ret (pv 2)))))), ?_⟩
    refine ⟨_, rfl, fun g dg ng ndg ne => ?_⟩
    have sg : Same H (upd (upd H dg (.own g)) g (.ins RC dg [])) := sm_trans (same_upd ndg) (same_upd (by rw [upd_ne (Ne.symm ne)]; exact ng))
    refine ⟨g, dg, s, rfl, upd_same, fun H1 s1 hg1 => ⟨rfl, ?_⟩⟩
    obtain ⟨dx, hg1⟩ := hg1
    have all : ∀ H', SmX g H1 H' → Same H H' := fun H' s2 b o hb => (s1.trans s2) b o (ne_of_none hb ng) (sg b o hb)
    have none' : ∀ d, H1 d = none → H d = none := fun d n => by
      cases h : H d with
      | none => rfl
      | some o =>
        rw [all H1 (SmX.refl _ _) d o h] at n
        cases n
    refine ⟨_, rfl, g, dx, _, rfl, hg1, rfl, g, s, 0, 0, rfl, by omega, ⟨dx, hg1⟩, hl, by omega, ?_⟩
    unfold rdP at q
    cases e : rwP s (stP s 12) 0 0 with
    | error j =>
      rw [e] at q
      exact fun H' d s2 n d' => q H' d (all H' s2) (none' d n) d'
    | ok y =>
      obtain ⟨r, j, c⟩ := y
      rw [e] at q
      rintro H2 v s2 hg2 hv
      obtain ⟨dx2, hg2⟩ := hg2
      refine ⟨_, rfl, g, RC, dx2, _, _, rfl, hg2, R.cl, R.n2, rfl, _, rfl, _, rfl, by rw [tx_len, sizeLine_eq]; omega, _, _, rfl, rfl, _, rfl, ?_⟩
      rw [tx_len]
      by_cases lt : j < s.length
      · simp only [lt, if_true] at q
        rw [decide_eq_true (by omega)]
        refine iteT ⟨_, rfl, g, RC, dx2, _, _, rfl, hg2, R.cl, R.n2, rfl, by show 1 ≤ 1000; decide, mk1 X.O X.hw X.hf fun d H4 s4 n4 e4 => q H4 d (sm_trans (all H2 s2) s4) (none' d (smx_none s2 hg2 n4)) e4⟩
      · simp only [lt, if_false] at q
        rw [decide_eq_false (by omega)]
        exact iteF ⟨_, rfl, q H2 v (all H2 s2) hv⟩
end
end NC
namespace NC
open PySem PySem.Spec PyProof.Rows L2
/-- what is behind begins with none of these -/
def NoHd (z rest : List Nat) : Prop := ∀ c r, rest = c :: r → c ∉ z
theorem NoHd.mono {z z' rest : List Nat} (h : NoHd z rest) (m : ∀ c ∈ z', c ∈ z) : NoHd z' rest := fun c r e hc => h c r e (m c hc)
def fv (v : Nat) (ds : List Nat) : Nat := ds.foldl (fun v d => 10 * v + (d - 48)) v
theorem fv_ge : ∀ (ds : List Nat) (v : Nat), v ≤ fv v ds
  | [], v => Nat.le_refl _
  | d :: ds, v => by
    show v ≤ fv (10 * v + (d - 48)) ds
    have := fv_ge ds (10 * v + (d - 48))
    omega
end NC
namespace NC
open PySem PySem.Spec PyProof.Rows L2
open PySem.NumText
/-- how far these signs go, at most f of them -/
def rnE (s z : List Nat) : Nat → Nat → Nat
  | 0, i => i
  | f + 1, i => if atS s i z = true then rnE s z f (i + 1) else i
theorem rnE_ge {s z : List Nat} : ∀ (f i : Nat), i ≤ rnE s z f i ∧ rnE s z f i ≤ i + f
  | 0, i => ⟨Nat.le_refl _, Nat.le_refl _⟩
  | f + 1, i => by
    rw [rnE]
    split
    · have := rnE_ge (s := s) (z := z) f (i + 1)
      omega
    · omega
theorem rnE_le {s z : List Nat} : ∀ (f i : Nat), i ≤ s.length → rnE s z f i ≤ s.length
  | 0, i, h => h
  | f + 1, i, h => by
    rw [rnE]
    split
    · rename_i a
      exact rnE_le f (i + 1) (atS_lt a)
    · exact h
theorem rnE_in {s z : List Nat} : ∀ (f i k : Nat), i ≤ k → k < rnE s z f i → atS s k z = true
  | 0, i, k, h1, h2 => by
    rw [rnE] at h2
    omega
  | f + 1, i, k, h1, h2 => by
    rw [rnE] at h2
    split at h2
    · rename_i a
      rcases Nat.eq_or_lt_of_le h1 with rfl | h
      · exact a
      · exact rnE_in f (i + 1) k h h2
    · omega
/-- it stops where no such sign stands, or at the most -/
theorem rnE_stop {s z : List Nat} : ∀ (f i : Nat), rnE s z f i = i + f ∨ atS s (rnE s z f i) z = false
  | 0, i => .inl rfl
  | f + 1, i => by
    rw [rnE]
    split
    · rcases rnE_stop (s := s) (z := z) f (i + 1) with h | h
      · exact .inl (by omega)
      · exact .inr h
    · rename_i a
      exact .inr (by simpa using a)
def sub (s : List Nat) (i j : Nat) : List Nat := (s.drop i).take (j - i)
theorem sub_cons {s : List Nat} {i j : Nat} (h : i < j) (hi : i < s.length) : sub s i j = s.getD i 0 :: sub s (i + 1) j := by
  unfold sub
  rw [List.drop_eq_getElem_cons hi, show j - i = (j - (i + 1)) + 1 by omega, List.take_succ_cons, List.getD_eq_getElem?_getD, List.getElem?_eq_getElem hi]
  rfl
theorem sub_nil (s : List Nat) (i : Nat) : sub s i i = [] := by
  unfold sub
  rw [Nat.sub_self, List.take_zero]
theorem ltP_rn {s z : List Nat} {lo : Nat} : ∀ (f : Nat) (t : List Nat) (i : Nat), lo ≤ t.length + f → ltP s z lo f t i = if t.length + (rnE s z f i - i) < lo then .error (rnE s z f i) else .ok (t ++ sub s i (rnE s z f i), rnE s z f i)
  | 0, t, i, h => by
    rw [ltP, rnE, Nat.sub_self, if_neg (by omega), sub_nil, List.append_nil]
  | f + 1, t, i, h => by
    rw [ltP, rnE]
    split
    · rename_i a
      have l := atS_lt a
      have g := rnE_ge (s := s) (z := z) f (i + 1)
      rw [ltP_rn f (t ++ [s.getD i 0]) (i + 1) (by rw [List.length_append]; show lo ≤ t.length + 1 + f; omega), sub_cons (show i < rnE s z f (i + 1) by omega) l]
      rw [List.length_append, List.append_assoc]
      show (if t.length + 1 + (rnE s z f (i + 1) - (i + 1)) < lo then _ else _) = _
      rw [show t.length + 1 + (rnE s z f (i + 1) - (i + 1)) = t.length + (rnE s z f (i + 1) - i) by omega]
      rfl
    · rw [Nat.sub_self, Nat.add_zero, sub_nil, List.append_nil]
theorem fv_lt : ∀ (ds : List Nat) (v : Nat), (∀ d ∈ ds, d ∈ dgN) → fv v ds < (v + 1) * 10 ^ ds.length
  | [], v, _ => by show v < (v + 1) * 1; omega
  | d :: ds, v, h => by
    have hd := (dgN_iff d).mp (h d (List.mem_cons_self ..))
    have := fv_lt ds (10 * v + (d - 48)) (fun x hx => h x (List.mem_cons_of_mem _ hx))
    show fv (10 * v + (d - 48)) ds < _
    refine Nat.lt_of_lt_of_le this ?_
    rw [List.length_cons, Nat.pow_succ, Nat.mul_comm (10 ^ ds.length) 10, ← Nat.mul_assoc]
    exact Nat.mul_le_mul_right _ (by omega)
theorem fv_le : ∀ (ds : List Nat) (v : Nat), v * 10 ^ ds.length ≤ fv v ds
  | [], v => by show v * 1 ≤ v; omega
  | d :: ds, v => by
    have := fv_le ds (10 * v + (d - 48))
    show _ ≤ fv (10 * v + (d - 48)) ds
    refine Nat.le_trans ?_ this
    rw [List.length_cons, Nat.pow_succ, Nat.mul_comm (10 ^ ds.length) 10, ← Nat.mul_assoc]
    exact Nat.mul_le_mul_right _ (by omega)
theorem fv_app (v : Nat) (a b : List Nat) : fv v (a ++ b) = fv (fv v a) b := by
  unfold fv
  rw [List.foldl_append]
/-- a run of figures that stays let by -/
theorem nmP_go {s : List Nat} : ∀ (k i v f : Nat), 0 < v → (∀ j, i ≤ j → j < i + k → atS s j dgN = true) → fv v (sub s i (i + k)) ≤ 10 ^ 30 → nmP s (k + f) v i = nmP s f (fv v (sub s i (i + k))) (i + k)
  | 0, i, v, f, _, _, _ => by
    rw [Nat.zero_add, Nat.add_zero, sub_nil]
    rfl
  | k + 1, i, v, f, hv, h, hm => by
    have a := h i (Nat.le_refl _) (by omega)
    have l := atS_lt a
    rw [sub_cons (by omega) l] at hm ⊢
    have hm : fv (10 * v + (s.getD i 0 - 48)) (sub s (i + 1) (i + (k + 1))) ≤ 10 ^ 30 := hm
    have g := fv_ge (sub s (i + 1) (i + (k + 1))) (10 * v + (s.getD i 0 - 48))
    rw [show k + 1 + f = (k + f) + 1 by omega, nmP, if_pos ⟨hv, a⟩, if_neg (by omega)]
    rw [show i + (k + 1) = i + 1 + k by omega] at hm ⊢
    rw [nmP_go k (i + 1) (10 * v + (s.getD i 0 - 48)) f (by omega) (fun j h1 h2 => h j (by omega) (by omega)) hm]
    rfl
theorem sub_len {s : List Nat} {i j : Nat} (h : j ≤ s.length) : (sub s i j).length = j - i := by
  unfold sub
  rw [List.length_take, List.length_drop]
  omega
theorem sub_app {s : List Nat} {i j k : Nat} (h1 : i ≤ j) (h2 : j ≤ k) : sub s i j ++ sub s j k = sub s i k := by
  unfold sub
  rw [show s.drop j = (s.drop i).drop (j - i) by rw [List.drop_drop]; congr 1; omega, show k - i = (j - i) + (k - j) by omega, List.take_add]
theorem sub_mem {s z : List Nat} {i j : Nat} (hj : j ≤ s.length) (h : ∀ k, i ≤ k → k < j → atS s k z = true) : ∀ c ∈ sub s i j, c ∈ z := by
  intro c hc
  obtain ⟨k, hk, e⟩ := List.getElem_of_mem hc
  rw [sub_len hj] at hk
  have a := atS_iff.mp (h (i + k) (by omega) (by omega))
  obtain ⟨c', h1, h2⟩ := a
  have : sub s i j = (s.drop i).take (j - i) := rfl
  have e2 : (sub s i j)[k]? = s[i + k]? := by
    rw [this, List.getElem?_take_of_lt (by omega), List.getElem?_drop]
  rw [List.getElem?_eq_getElem (by rw [sub_len hj]; omega), h1] at e2
  injection e2 with e2
  rw [← e, e2]
  exact h2
/-- the law's number: 0 alone; else up to thirty-one figures, and no more than the most -/
def tmL (s : List Nat) (i : Nat) : Except Nat (Nat × Nat) :=
  if atS s i [48] = true then .ok (0, i + 1) else
  if rnE s dgN 31 i = i then .error i else
  if 10 ^ 30 < fv 0 (sub s i (rnE s dgN 31 i)) then .error (rnE s dgN 31 i - 1) else .ok (fv 0 (sub s i (rnE s dgN 31 i)), rnE s dgN 31 i)
theorem tm_num (s : List Nat) (i : Nat) (hi : i ≤ s.length) : tmL s i = numP s i ∨ ∃ m j, tmL s i = .ok (m, j) ∧ numP s i = .error j ∧ atS s j dgN = true := by
  unfold tmL numP
  by_cases z : atS s i [48] = true
  · have ⟨_, hz⟩ := atS_get z
    rw [List.mem_singleton] at hz
    have a : atS s i dgN = true := by
      obtain ⟨c, h1, h2⟩ := atS_iff.mp z
      rw [List.mem_singleton.mp h2] at h1
      exact atS_iff.mpr ⟨48, h1, (dgN_iff 48).mpr (by omega)⟩
    rw [if_pos z, if_pos a, hz]
    left
    cases s.length - (i + 1) with
    | zero => rw [nmP]
    | succ f => rw [nmP, if_neg (by omega)]
  · rw [if_neg z]
    by_cases a : atS s i dgN = true
    · have l := atS_lt a
      have ⟨hg, hd⟩ := atS_get a
      have hd2 := (dgN_iff _).mp hd
      have nz : s.getD i 0 ≠ 48 := fun e => z (atS_iff.mpr ⟨_, hg, by rw [e]; exact List.mem_singleton.mpr rfl⟩)
      have e1 : rnE s dgN 31 i = rnE s dgN 30 (i + 1) := by rw [show 31 = 30 + 1 from rfl, rnE, if_pos a]
      have g := rnE_ge (s := s) (z := dgN) 30 (i + 1)
      have le := rnE_le (s := s) (z := dgN) 30 (i + 1) (by omega)
      have ins := rnE_in (s := s) (z := dgN) 31 i
      have st := rnE_stop (s := s) (z := dgN) 30 (i + 1)
      rw [if_pos a, e1]
      rw [e1] at ins
      generalize rnE s dgN 30 (i + 1) = e at *
      rw [if_neg (by omega)]
      have ds := sub_mem (s := s) (z := dgN) (i := i) (j := e) le ins
      have hsub : sub s i e = s.getD i 0 :: sub s (i + 1) e := sub_cons (by omega) l
      have fve : fv 0 (sub s i e) = fv (s.getD i 0 - 48) (sub s (i + 1) e) := by
        rw [hsub]
        show fv (10 * 0 + (s.getD i 0 - 48)) _ = _
        rw [Nat.mul_zero, Nat.zero_add]
      have len1 : (sub s (i + 1) e).length = e - (i + 1) := sub_len le
      by_cases big : 10 ^ 30 < fv 0 (sub s i e)
      · rw [if_pos big]
        left
        -- thirty-one figures, and the last is too many
        have e31 : e = i + 31 := by
          rcases st with h | h
          · omega
          · have := fv_lt (sub s i e) 0 ds
            rw [sub_len le] at this
            rcases Nat.lt_or_ge (e - i) 31 with h2 | h2
            · have p : 10 ^ (e - i) ≤ 10 ^ 30 := Nat.pow_le_pow_right (by decide) (by omega)
              omega
            · omega
        subst e31
        have a30 := ins (i + 30) (by omega) (by omega)
        have small : fv (s.getD i 0 - 48) (sub s (i + 1) (i + 1 + 29)) ≤ 10 ^ 30 := by
          have := fv_lt (sub s (i + 1) (i + 1 + 29)) (s.getD i 0 - 48) (fun c hc => sub_mem (s := s) (z := dgN) (i := i + 1) (j := i + 1 + 29) (by omega) (fun k h1 h2 => ins k (by omega) (by omega)) c hc)
          rw [sub_len (by omega)] at this
          have p : (s.getD i 0 - 48 + 1) * 10 ^ (i + 1 + 29 - (i + 1)) ≤ 10 * 10 ^ 29 := by
            rw [show i + 1 + 29 - (i + 1) = 29 by omega]
            exact Nat.mul_le_mul_right _ (by omega)
          have p2 : 10 * 10 ^ 29 = 10 ^ 30 := by decide
          omega
        obtain ⟨f, hf⟩ : ∃ f, s.length - (i + 1) = 29 + (f + 1) := ⟨s.length - (i + 1) - 30, by omega⟩
        have sp : sub s (i + 1) (i + 31) = sub s (i + 1) (i + 1 + 29) ++ [s.getD (i + 30) 0] := by
          rw [← sub_app (i := i + 1) (j := i + 1 + 29) (k := i + 31) (by omega) (by omega), show i + 1 + 29 = i + 30 by omega, sub_cons (i := i + 30) (j := i + 31) (by omega) (by omega), show i + 30 + 1 = i + 31 by omega, sub_nil]
        rw [fve, sp, fv_app] at big
        have big : 10 ^ 30 < 10 * fv (s.getD i 0 - 48) (sub s (i + 1) (i + 1 + 29)) + (s.getD (i + 30) 0 - 48) := big
        rw [hf, nmP_go 29 (i + 1) _ (f + 1) (by omega) (fun j h1 h2 => ins j (by omega) (by omega)) small, nmP, show i + 1 + 29 = i + 30 by omega]
        rw [show i + 1 + 29 = i + 30 by omega] at big
        have pos := fv_ge (sub s (i + 1) (i + 30)) (s.getD i 0 - 48)
        rw [if_pos ⟨by omega, a30⟩, if_pos big]
        rfl
      · rw [if_neg big]
        have k0 : fv (s.getD i 0 - 48) (sub s (i + 1) (i + 1 + (e - (i + 1)))) ≤ 10 ^ 30 := by
          rw [show i + 1 + (e - (i + 1)) = e by omega, ← fve]
          omega
        obtain ⟨f, hf⟩ : ∃ f, s.length - (i + 1) = (e - (i + 1)) + f := ⟨s.length - e, by omega⟩
        have run := nmP_go (s := s) (e - (i + 1)) (i + 1) (s.getD i 0 - 48) f (by omega) (fun j h1 h2 => ins j (by omega) (by omega)) k0
        rw [show i + 1 + (e - (i + 1)) = e by omega, ← fve] at run
        rw [hf, run]
        by_cases ae : atS s e dgN = true
        · right
          have e31 : e = i + 31 := by
            rcases st with h | h
            · omega
            · rw [ae] at h; cases h
          have lge := fv_le (sub s (i + 1) e) (s.getD i 0 - 48)
          rw [len1, ← fve, show e - (i + 1) = 30 by omega] at lge
          have l1 : 1 * 10 ^ 30 ≤ (s.getD i 0 - 48) * 10 ^ 30 := Nat.mul_le_mul_right _ (by omega)
          have := atS_lt ae
          obtain ⟨f, rfl⟩ : ∃ f', f = f' + 1 := ⟨f - 1, by omega⟩
          refine ⟨_, _, rfl, ?_, ae⟩
          rw [nmP, if_pos ⟨by omega, ae⟩, if_pos (by omega)]
        · left
          rw [Bool.not_eq_true] at ae
          cases f with
          | zero => rw [nmP]
          | succ f => rw [nmP, if_neg (fun h => by rw [ae] at h; exact absurd h.2 (by simp))]
    · rw [if_neg a, show (31 : Nat) = 30 + 1 from rfl, rnE, if_neg a, if_pos rfl]
      exact .inl rfl
theorem int_fv {ds : List Nat} (h : ∀ c ∈ ds, c ∈ dgN) (h0 : ds ≠ []) (hl : ds.length ≤ 600) : PySem.intText? (tx ds) = some ((fv 0 ds : Nat) : Int) := by
  have e : digitsVal (tx ds).cps.toList = fv 0 ds := by
    rw [tx_list]
    unfold digitsVal fv
    congr 1
    funext a c
    rw [Nat.mul_comm]
  have := intText_digits (x := tx ds) (by rw [tx_list]; exact fun c hc => (dgN_iff c).mp (h c hc)) (by rw [tx_list]; exact h0) (by rw [tx_len]; omega)
  rw [e] at this
  exact this
/-- the same, or the law goes on to a figure where the program stops -/
def Same3 {α : Type} (s : List Nat) (a b : RdP α) : Prop := a = b ∨ ∃ x j c, a = .ok (x, j, c) ∧ b = .error j ∧ atS s j dgN = true
def StpSz (S : Nat → Nat → RdP Stp) (n : Nat) : Prop := ∀ i b x j c, S i b = .ok (x, j, c) → dpS x ≤ n ∧ c = b + szS x
theorem rsP_sz {s : List Nat} {S : Nat → Nat → RdP Stp} {n : Nat} (hS : StpSz S n) : ∀ (f : Nat) (acc : List Stp) (i b : Nat) (r : List Stp) (j c : Nat), rsP s S f acc i b = .ok (r, j, c) → dpR acc ≤ n → dpR r ≤ n ∧ c + szR acc = b + szR r
  | 0, acc, i, b, r, j, c, h, hd => by
    rw [rsP] at h
    cases h
    exact ⟨hd, rfl⟩
  | f + 1, acc, i, b, r, j, c, h, hd => by
    rw [rsP] at h
    split at h
    · split at h
      · rename_i x j1 c1 e
        obtain ⟨h1, h2⟩ := hS _ _ _ _ _ e
        obtain ⟨h3, h4⟩ := rsP_sz hS f _ _ _ r j c h (dpR_le fun y hy => by
          rcases List.mem_append.mp hy with hy | hy
          · exact Nat.le_trans (dpR_mem hy) hd
          · rw [List.mem_singleton.mp hy]; exact h1)
        rw [szR_app, szR, szR] at h4
        exact ⟨h3, by omega⟩
      · cases h
    · cases h
      exact ⟨hd, rfl⟩
theorem rwP_sz {s : List Nat} {S : Nat → Nat → RdP Stp} {n : Nat} (hS : StpSz S n) {i b : Nat} {r : List Stp} {j c : Nat} (h : rwP s S i b = .ok (r, j, c)) : dpR r ≤ n ∧ c = b + szR r := by
  unfold rwP at h
  split at h
  · cases h
    exact ⟨by rw [dpR]; omega, by rw [szR]; rfl⟩
  · split at h
    · rename_i x j1 c1 e
      obtain ⟨h1, h2⟩ := hS _ _ _ _ _ e
      obtain ⟨h3, h4⟩ := rsP_sz hS _ _ _ _ r j c h (by rw [dpR, dpR]; omega)
      rw [szR, szR] at h4
      exact ⟨h3, by omega⟩
    · cases h
theorem stP_sz (s : List Nat) : ∀ n, StpSz (stP s n) n := by
  have plain : ∀ (n : Nat) (G : Nat → Nat → RdP Stp) (can : Bool), (∀ i b x j c, G i b = .ok (x, j, c) → dpS x ≤ n ∧ c + 1 = b + szS x) → StpSz (spP s G can) n := by
    intro n G can hG i b x j c h
    unfold spP at h
    split at h
    · cases h
    · split at h
      · split at h
        · split at h
          · cases h
            exact ⟨by rw [dpS] <;> simp, by rw [szS] <;> simp⟩
          · cases h
        · split at h
          · split at h
            · cases h
              exact ⟨by rw [dpS] <;> simp, by rw [szS] <;> simp⟩
            · cases h
          · split at h
            · obtain ⟨h1, h2⟩ := hG _ _ _ _ _ h
              exact ⟨h1, by omega⟩
            · split at h
              · split at h
                · cases h
                  exact ⟨by rw [dpS] <;> simp, by rw [szS] <;> simp⟩
                · cases h
              · cases h
      · cases h
  intro n
  induction n with
  | zero => exact plain 0 _ _ fun i b x j c h => by cases h
  | succ n ih =>
    refine plain (n + 1) _ _ fun i b x j c h => ?_
    unfold grP at h
    split at h
    · rename_i r j1 c1 e
      obtain ⟨h1, h2⟩ := rwP_sz ih e
      split at h
      · split at h
        · split at h
          · cases h
            exact ⟨by rw [dpS]; omega, by rw [szS]; omega⟩
          · cases h
        · cases h
      · cases h
    · cases h
theorem rdP_sz {s : List Nat} {r : List Stp} (h : rdP s = .ok r) : dpR r ≤ 12 ∧ szR r ≤ 60 := by
  unfold rdP at h
  split at h
  · rename_i r' j c e
    split at h
    · cases h
    · cases h
      obtain ⟨h1, h2⟩ := rwP_sz (stP_sz s 12) e
      have := (rwP_ok (stP_ok s 12) _ _ _ _ _ e).2.2 (by omega)
      exact ⟨h1, by omega⟩
  · cases h
mutual
theorem depS : ∀ (x : Stp) (n : Nat), dpS x ≤ n → (encS x).depth ≤ 1 + 3 * n
  | .call s, n, h => by rw [encS]; simp only [PyData.depth, PyData.depthAll]; omega
  | .turn s, n, h => by rw [encS]; simp only [PyData.depth, PyData.depthAll]; omega
  | .row s, n, h => by rw [encS]; simp only [PyData.depth, PyData.depthAll]; omega
  | .times m r, n, h => by
    rw [dpS] at h
    have := depL r (n - 1) (by omega)
    rw [encS]
    simp only [PyData.depth, PyData.depthAll]
    omega
theorem depL : ∀ (r : List Stp) (n : Nat), dpR r ≤ n → PyData.depthAll (encL r) ≤ 1 + 3 * n
  | [], n, h => by rw [encL]; exact Nat.zero_le _
  | x :: r, n, h => by
    rw [dpR] at h
    have := depS x n (by omega)
    have := depL r n (by omega)
    rw [encL, PyData.depthAll]
    omega
end
theorem rsP_fuel {s : List Nat} {S : Nat → Nat → RdP Stp} (hS : StpOk s S) : ∀ (f f' : Nat) (acc : List Stp) (i b : Nat), s.length ≤ f + i → s.length ≤ f' + i → rsP s S f acc i b = rsP s S f' acc i b
  | 0, 0, acc, i, b, _, _ => rfl
  | 0, f' + 1, acc, i, b, h, _ => by rw [rsP, rsP, atS_far (by omega), if_neg (by simp)]
  | f + 1, 0, acc, i, b, _, h => by rw [rsP, rsP, atS_far (by omega), if_neg (by simp)]
  | f + 1, f' + 1, acc, i, b, h, h' => by
    rw [rsP, rsP]
    by_cases a : atS s i [32] = true
    · rw [if_pos a, if_pos a]
      cases e : S (i + 1) b with
      | error j => rfl
      | ok y =>
        obtain ⟨x, j, c⟩ := y
        have := (hS _ _ _ _ _ e).1
        exact rsP_fuel hS f f' _ j c (by omega) (by omega)
    · rw [if_neg a, if_neg a]
/-- a step, and what follows -/
def coP (s : List Nat) (S : Nat → Nat → RdP Stp) (f : Nat) (acc : List Stp) (i b : Nat) : RdP (List Stp) := match S i b with
  | .ok (x, j, c) => rsP s S f (acc ++ [x]) j c
  | .error e => .error e
theorem rwP_co {s : List Nat} {S : Nat → Nat → RdP Stp} (hS : StpOk s S) {i b f : Nat} (hf : s.length ≤ f) (a : atS s i [45] = false) : rwP s S i b = coP s S f [] i b := by
  unfold rwP coP
  rw [a, if_neg (by simp)]
  cases e : S i b with
  | error j => rfl
  | ok y =>
    obtain ⟨x, j, c⟩ := y
    exact rsP_fuel hS _ _ _ j c (by omega) (by omega)
end NC
namespace NC
open PySem PySem.Spec PyProof.Rows L2
abbrev sRun : Stmt := topS 20
abbrev nRun : List Str := ["_law_text_here", "_law_at", "_law_signs", "_law_most", "_law_end"]
theorem scRun : FnScope nRun ["_law_text_here", "_law_at", "_law_signs", "_law_most"] (defScope sRun) := ⟨rfl, rfl, rfl, by decide +kernel, rfl, by decide +kernel, by decide +kernel⟩
abbrev sTimesAt : Stmt := topS 21
abbrev nTimesAt : List Str := ["_law_text_here", "_law_at", "_law_end"]
theorem scTimesAt : FnScope nTimesAt ["_law_text_here", "_law_at"] (defScope sTimesAt) := ⟨rfl, rfl, rfl, by decide +kernel, rfl, by decide +kernel, by decide +kernel⟩
abbrev sStepAt : Stmt := topS 22
abbrev nStepAt : List Str := ["_law_text_here", "_law_at", "_law_many", "_law_deep", "_law_letters_here", "_law_sign", "_law_end", "_law_inner", "_law_need", "_law_number", "_law_good"]
theorem scStepAt : FnScope nStepAt ["_law_text_here", "_law_at", "_law_many", "_law_deep"] (defScope sStepAt) := ⟨rfl, rfl, rfl, by decide +kernel, rfl, by decide +kernel, by decide +kernel⟩
abbrev sRowAt : Stmt := topS 23
abbrev nRowAt : List Str := ["_law_text_here", "_law_at", "_law_many", "_law_deep", "_law_steps", "_law_turn", "_law_step"]
theorem scRowAt : FnScope nRowAt ["_law_text_here", "_law_at", "_law_many", "_law_deep"] (defScope sRowAt) := ⟨rfl, rfl, rfl, by decide +kernel, rfl, by decide +kernel, by decide +kernel⟩
abbrev sDue : Stmt := topS 24
abbrev nDue : List Str := ["_law_text_here", "_law_at", "_law_tree", "_law_many"]
theorem scDue : FnScope nDue ["_law_text_here"] (defScope sDue) := ⟨rfl, rfl, rfl, by decide +kernel, rfl, by decide +kernel, by decide +kernel⟩
theorem cut_sub (s : List Nat) (i j : Nat) (h : i ≤ j) : cutS (tx s) (some ((i : Nat) : Int)) (some ((j : Nat) : Int)) = tx (sub s i j) := by
  unfold cutS sub
  rw [HT.sIx_nat, HT.sIx_nat, tx_list, tx_len]
  show Str.mk _ = Str.mk _
  congr 2
  rcases Nat.le_total i s.length with h1 | h1
  · rw [Nat.min_eq_left h1]
    rcases Nat.le_total j s.length with h2 | h2
    · rw [Nat.min_eq_left h2]
    · rw [Nat.min_eq_right h2, List.take_of_length_le (by rw [List.length_drop]; exact Nat.le_refl _), List.take_of_length_le (by rw [List.length_drop]; omega)]
  · rw [Nat.min_eq_right h1, List.drop_of_length_le (Nat.le_refl _), List.drop_of_length_le h1, List.take_nil, List.take_nil]
theorem cut_1 (s : List Nat) (i : Nat) : cutS (tx s) (some ((i : Nat) : Int)) (some ((i : Nat) + 1 : Int)) = tx (sub s i (i + 1)) := cut_sub s i (i + 1) (by omega)
/-- the sign there, if one stands there -/
theorem sub_one (s : List Nat) (i : Nat) : (∃ c, s[i]? = some c ∧ sub s i (i + 1) = [c]) ∨ (s[i]? = none ∧ sub s i (i + 1) = []) := by
  rcases Nat.lt_or_ge i s.length with h | h
  · refine .inl ⟨s[i], List.getElem?_eq_getElem h, ?_⟩
    rw [sub_cons (by omega) h, sub_nil, List.getD_eq_getElem?_getD, List.getElem?_eq_getElem h]
    rfl
  · refine .inr ⟨List.getElem?_eq_none h, ?_⟩
    unfold sub
    rw [List.drop_of_length_le h, List.take_nil]
theorem one_at (s : List Nat) (i a : Nat) : decide (V.str (tx (sub s i (i + 1))) = V.str (tx [a])) = atS s i [a] := by
  rw [Bool.eq_iff_iff, decide_eq_true_eq, atS_iff]
  rcases sub_one s i with ⟨c, h1, h2⟩ | ⟨h1, h2⟩
  · rw [h2]
    constructor
    · intro h
      injection h with h
      have := tx_inj h
      injection this with this
      exact ⟨c, h1, by rw [this]; exact List.mem_singleton.mpr rfl⟩
    · rintro ⟨c', h3, h4⟩
      rw [h1] at h3
      injection h3 with h3
      rw [h3, List.mem_singleton.mp h4]
  · rw [h2]
    constructor
    · intro h
      injection h with h
      have := tx_inj h
      cases this
    · rintro ⟨c', h3, h4⟩
      rw [h1] at h3
      cases h3
theorem ch_zero : Str.ofString "0" = tx [48] := by decide +kernel
theorem ch_figs : (Str.ofString "0123456789").cps.toList = dgN := rfl
theorem ltrs_len : ltrs.length = 26 := by decide +kernel
theorem in4 (s : List Nat) (i : Nat) : (!inV (.str (tx (sub s i (i + 1)))) [V.str (Str.ofString "."), V.str (Str.ofString "~"), V.str (Str.ofString "<"), V.str (Str.ofString "(")]) = !(atS s i [46, 126, 60, 40]) := by
  congr 1
  rw [show ([V.str (Str.ofString "."), V.str (Str.ofString "~"), V.str (Str.ofString "<"), V.str (Str.ofString "(")] : List V) = (([[46], [126], [60], [40]] : List (List Nat)).map tx).map V.str by decide +kernel, inV_str]
  rw [Bool.eq_iff_iff, decide_eq_true_eq, atS_iff]
  rcases sub_one s i with ⟨c, h1, h2⟩ | ⟨h1, h2⟩
  · rw [h2]
    constructor
    · intro h
      obtain ⟨z, hz, e⟩ := List.mem_map.mp h
      have := tx_inj e
      subst this
      simp only [List.mem_cons, List.cons.injEq, and_true, List.not_mem_nil, or_false] at hz
      exact ⟨c, h1, by simpa using hz⟩
    · rintro ⟨c', h3, h4⟩
      rw [h1] at h3
      injection h3 with h3
      subst h3
      exact List.mem_map.mpr ⟨[c], by simpa using h4, rfl⟩
  · rw [h2]
    constructor
    · intro h
      obtain ⟨z, hz, e⟩ := List.mem_map.mp h
      have := tx_inj e
      subst this
      simp at hz
    · rintro ⟨c', h3, h4⟩
      rw [h1] at h3
      cases h3
theorem lettersN : (tx ltrs ++ Txt.upper (tx ltrs)).cps.toList = ltN := by decide +kernel
theorem smallN : (tx ltrs).cps.toList = smN := by decide +kernel
theorem one_ne (s : List Nat) (i a : Nat) : (!decide (V.str (tx (sub s i (i + 1))) = V.str (tx [a]))) = !(atS s i [a]) := by rw [one_at]
/-- the law's own reader -/
structure RL (K : PySem.W.Frag) (mg : Str → Option Value) (f_letters f_run f_tm f_stp f_row f_due : Addr) (d_letters d_run d_tm d_stp d_row d_due : FuncData) : Prop where
  letters : DF K mg "_law_letters" sLetters [] f_letters d_letters
  run : DF K mg "_law_run" sRun ["_law_text_here", "_law_at", "_law_signs", "_law_most"] f_run d_run
  tm : DF K mg "_law_times_at" sTimesAt ["_law_text_here", "_law_at"] f_tm d_tm
  stp : DF K mg "_law_step_at" sStepAt ["_law_text_here", "_law_at", "_law_many", "_law_deep"] f_stp d_stp
  row : DF K mg "_law_row_at" sRowAt ["_law_text_here", "_law_at", "_law_many", "_law_deep"] f_row d_row
  due : DF K mg "_law_due" sDue ["_law_text_here"] f_due d_due
  mi : mg "int" = none
section
variable {P : Program} {w : World} {K : PySem.W.Frag} {mg : Str → Option Value} {base : Heap} {f_letters f_run f_tm f_stp f_row f_due : Addr} {d_letters d_run d_tm d_stp d_row d_due : FuncData}
def spRun : Sp := fun vs H Q _ => ∃ (s : List Nat) (i : Nat) (z : Str) (f : Nat), vs = [.str (tx s), .int (i : Nat), .str z, .int (f : Nat)] ∧ s.length ≤ 2000 ∧ Q (.int (rnE s z.cps.toList f i : Nat)) H
theorem ok_run {k : Nat} (B : BM mg) (L : RL K mg f_letters f_run f_tm f_stp f_row f_due d_letters d_run d_tm d_stp d_row d_due) : FnOk P w K mg base CX0 (k + 1) f_run d_run ["_law_text_here", "_law_at", "_law_signs", "_law_most"] spRun := by
  refine L.run.F.ok scRun (fun vs H Q E h => ?_) (fun cdv A outer st H vs Q E hr h => ?_)
  · obtain ⟨s, i, z, f, rfl, _⟩ := h
    rfl
  · obtain ⟨s, i, z, f, rfl, hl, q⟩ := h
    have nd := scRun.nd
    refine ⟨_, (pss_cons (ps_set (i := 4) nd rfl (.inl rfl) (pv 1))
      (pss_cons (ps_while PassesOwn.never (PW.pt (pw_and (pt_cmpR op_lt (pv 4) (pe_callB call_len_str (by rfl) B.len PySem.boot_len (pa_cons (pv 0) pa_nil)) (nomark _)) (pw_and (pt_cmpR op_lt (pe_op op_sub (pv 4) (pv 1)) (pv 3) (nomark _)) (pw_and1 (pt_cmpR op_in_sign (pe_ix ix_str (pv 0) (pv 4) (fun _ _ => rfl)) (pv 2) (by rfl))))))
        (pss_one (ps_set (i := 4) nd rfl (.inl rfl) (pe_op op_add (pv 4) pe_int))))
      (pss_one (ps_ret (pv 4))))), ?_⟩
    refine ⟨_, rfl, ?_⟩
    refine ⟨fun m σ H' => ∃ j : Nat, σ = [some (.str (tx s)), some (.int (i : Nat)), some (.str z), some (.int (f : Nat)), some (.int (j : Nat))] ∧ H' = H ∧ i ≤ j ∧ j + m = i + f ∧ rnE s z.cps.toList f i = rnE s z.cps.toList m j, ⟨f, i, rfl, rfl, Nat.le_refl _, rfl, rfl⟩, ?_⟩
    rintro m σ H' ⟨j, rfl, rfl, hij, hm, e⟩
    rw [e] at q
    refine ⟨_, rfl, _, rfl, _, rfl, by rw [tx_len, sizeLine_eq]; omega, _, _, rfl, rfl, _, rfl, ?_⟩
    rw [tx_len]
    by_cases h1 : j < s.length
    · rw [decide_eq_true (by omega)]
      refine iteT ⟨_, rfl, _, rfl, _, _, rfl, rfl, _, rfl, _, _, rfl, rfl, _, rfl, ?_⟩
      by_cases h2 : 0 < m
      · rw [decide_eq_true (by omega)]
        refine iteT ⟨_, rfl, _, rfl, tx s, (j : Nat), s.getD j 0, rfl, rfl, by rw [tx_len, sizeLine_eq]; omega, ?_, _, rfl, s.getD j 0, z, rfl, rfl, _, rfl, ?_⟩
        · refine atI_nat ?_
          rw [tx_list, List.getD_eq_getElem?_getD, List.getElem?_eq_getElem h1]
          rfl
        have ea : decide (s.getD j 0 ∈ z.cps.toList) = atS s j z.cps.toList := by
          unfold atS
          rw [List.getD_eq_getElem?_getD, List.getElem?_eq_getElem h1]
          rfl
        rw [ea]
        obtain ⟨m, rfl⟩ : ∃ m', m = m' + 1 := ⟨m - 1, by omega⟩
        rw [rnE] at e q
        by_cases a : atS s j z.cps.toList = true
        · rw [if_pos a] at e q
          rw [a]
          refine iteT ⟨_, fun _ _ h => h, ?_⟩
          exact ⟨_, rfl, _, _, rfl, rfl, m, by omega, j + 1, rfl, rfl, by omega, by omega, e⟩
        · rw [if_neg a] at q
          rw [Bool.not_eq_true] at a
          rw [a]
          exact iteF ⟨_, rfl, q⟩
      · rw [decide_eq_false (by omega)]
        have : m = 0 := by omega
        subst this
        rw [rnE] at q
        exact iteF (iteF ⟨_, rfl, q⟩)
    · rw [decide_eq_false (by omega)]
      have : rnE s z.cps.toList m j = j := by
        cases m with
        | zero => rw [rnE]
        | succ m => rw [rnE, atS_far (by omega), if_neg (by simp)]
      rw [this] at q
      exact iteF (iteF ⟨_, rfl, q⟩)
def spTm : Sp := fun vs H Q _ => ∃ (s : List Nat) (i : Nat), vs = [.str (tx s), .int (i : Nat)] ∧ s.length ≤ 600 ∧ i ≤ s.length ∧ ∀ H' p (m j : Nat) (g : Bool), Same H H' → H' p = some (.tup [.int (j : Nat), .int (m : Nat), .bl g]) → (g = true → tmL s i = .ok (m, j)) → (g = false → tmL s i = .error j) → Q (.ref p) H'
theorem ok_tm {k : Nat} (B : BM mg) (L : RL K mg f_letters f_run f_tm f_stp f_row f_due d_letters d_run d_tm d_stp d_row d_due) : FnOk P w K mg base CX0 (k + 2) f_tm d_tm ["_law_text_here", "_law_at"] spTm := by
  have GRn : FnOk P w K mg base CX0 (k + 1) f_run d_run ["_law_text_here", "_law_at", "_law_signs", "_law_most"] spRun := ok_run B L
  refine L.tm.F.ok scTimesAt (fun vs H Q E h => ?_) (fun cdv A outer st H vs Q E hr h => ?_)
  · obtain ⟨s, i, rfl, _⟩ := h
    rfl
  · obtain ⟨s, i, rfl, hl, hi, q⟩ := h
    have nd := scTimesAt.nd
    refine ⟨_, (pss_cons (ps_if (pt_cmpR op_eq (pe_slice sl_str (pv 0) (po_some (pv 1)) (po_some (pe_op op_add (pv 1) pe_int))) pe_str (nomark _))
        (pss_one (ps_ret (pe_tup (pa_cons (pe_op op_add (pv 1) pe_int) (pa_cons pe_int (pa_cons pe_bl pa_nil))))))
        pss_nil)
      (pss_cons (ps_set (i := 2) nd rfl (.inl rfl) (pe_call GRn hr rfl L.run.g L.run.F.kp L.run.b .nil pass0 (pa_cons (pv 0) (pa_cons (pv 1) (pa_cons pe_str (pa_cons pe_int pa_nil))))))
      (pss_cons (ps_if (pt_cmpR op_eq (pv 2) (pv 1) (nomark _))
        (pss_one (ps_ret (pe_tup (pa_cons (pv 1) (pa_cons pe_int (pa_cons pe_bl pa_nil))))))
        pss_nil)
      (pss_cons (ps_if (pt_cmpR op_gt (pe_callTy call_int_str (by rfl) L.mi (by decide +kernel) (pa_cons (pe_slice sl_str (pv 0) (po_some (pv 1)) (po_some (pv 2))) pa_nil)) (pe_op op_pow pe_int pe_int) (nomark _))
        (pss_one (ps_ret (pe_tup (pa_cons (pe_op op_sub (pv 2) pe_int) (pa_cons pe_int (pa_cons pe_bl pa_nil))))))
        pss_nil)
      (pss_one (ps_ret (pe_tup (pa_cons (pv 2) (pa_cons (pe_callTy call_int_str (by rfl) L.mi (by decide +kernel) (pa_cons (pe_slice sl_str (pv 0) (po_some (pv 1)) (po_some (pv 2))) pa_nil)) (pa_cons pe_bl pa_nil)))))))))), ?_⟩
    refine ⟨_, rfl, _, rfl, _, rfl, _, rfl, _, _, rfl, rfl, _, rfl, tx s, rfl, by rw [tx_len, sizeLine_eq]; omega, rfl, _, rfl, ?_⟩
    rw [cut_1, ch_zero, one_at]
    by_cases z : atS s i [48] = true
    · rw [z]
      refine iteT ⟨_, rfl, _, _, rfl, rfl, by show 3 ≤ sizeLine; decide, fun p np => ?_⟩
      refine q _ p 0 (i + 1) true (same_upd np) upd_same (fun _ => ?_) (fun h => by cases h)
      unfold tmL
      rw [if_pos z]
    · rw [Bool.not_eq_true] at z
      rw [z]
      have zn : ¬ atS s i [48] = true := by rw [z]; simp
      refine iteF ⟨_, rfl, _, rfl, s, i, _, 31, rfl, by omega, ?_⟩
      rw [ch_figs]
      have ge := rnE_ge (s := s) (z := dgN) 31 i
      have le := rnE_le (s := s) (z := dgN) 31 i hi
      have ins := rnE_in (s := s) (z := dgN) 31 i
      generalize hR : rnE s dgN 31 i = e at *
      refine ⟨_, rfl, _, rfl, rfl, _, rfl, ?_⟩
      by_cases h0 : e = i
      · rw [show decide (V.int ((e : Nat) : Int) = V.int ((i : Nat) : Int)) = true from decide_eq_true (by rw [h0])]
        refine iteT ⟨_, rfl, by show 3 ≤ sizeLine; decide, fun p np => ?_⟩
        refine q _ p 0 i false (same_upd np) upd_same (fun h => by cases h) (fun _ => ?_)
        unfold tmL
        rw [if_neg zn, hR, if_pos h0]
      · rw [show decide (V.int ((e : Nat) : Int) = V.int ((i : Nat) : Int)) = false from decide_eq_false fun h => by injection h with h; omega]
        have ds := sub_mem (s := s) (z := dgN) (i := i) (j := e) le ins
        have nn : sub s i e ≠ [] := fun h => by
          have := congrArg List.length h
          rw [sub_len le] at this
          have this : e - i = 0 := this
          omega
        have iv := int_fv ds nn (by rw [sub_len le]; omega)
        have sl600 : (tx (sub s i e)).length ≤ 640 := by rw [tx_len, sub_len le]; omega
        refine iteF ⟨_, rfl, _, rfl, _, rfl, _, rfl, _, rfl, tx s, rfl, by rw [tx_len, sizeLine_eq]; omega, ?_⟩
        rw [cut_sub s i e (by omega)]
        refine ⟨_, _, rfl, iv, sl600, _, _, rfl, rfl, ⟨by decide, by decide, by decide⟩, _, _, rfl, rfl, _, rfl, ?_⟩
        rw [show (10 : Int) ^ (30 : Int).toNat = ((10 ^ 30 : Nat) : Int) by decide]
        by_cases big : 10 ^ 30 < fv 0 (sub s i e)
        · rw [decide_eq_true (by omega)]
          refine iteT ⟨_, rfl, _, _, rfl, rfl, by show 3 ≤ sizeLine; decide, fun p np => ?_⟩
          refine q _ p 0 (e - 1) false (same_upd np) ?_ (fun h => by cases h) (fun _ => ?_)
          · rw [upd_same]
            show some (HO.tup [V.int (((e : Nat) : Int) - 1), V.int 0, V.bl false]) = _
            rw [show ((e : Nat) : Int) - 1 = ((e - 1 : Nat) : Int) by omega]
            rfl
          · unfold tmL
            rw [if_neg zn, hR, if_neg h0, if_pos big]
        · rw [decide_eq_false (by omega)]
          refine iteF ⟨_, rfl, _, rfl, _, rfl, _, rfl, _, rfl, _, rfl, tx s, rfl, by rw [tx_len, sizeLine_eq]; omega, ?_⟩
          rw [cut_sub s i e (by omega)]
          refine ⟨_, _, rfl, iv, sl600, by show 3 ≤ sizeLine; decide, fun p np => ?_⟩
          refine q _ p (fv 0 (sub s i e)) e true (same_upd np) upd_same (fun _ => ?_) (fun h => by cases h)
          unfold tmL
          rw [if_neg zn, hR, if_neg h0, if_neg big]
/-- how a reading is told -/
def ResAt {α : Type} (K : PySem.W.Frag) (H : Hp) (p : Addr) (a : RdP α) (enc : α → PyData) : Prop := match a with
  | .ok (x, j, c) => ∃ v, H p = some (.tup [.int (j : Nat), v, .int (c : Nat)]) ∧ Dp K H v (enc x)
  | .error j => ∃ m : Int, H p = some (.tup [.int (j : Nat), .non, .int m])
def spStp (K : PySem.W.Frag) (n : Nat) : Sp := fun vs H Q _ => ∃ (s : List Nat) (i b : Nat), vs = [.str (tx s), .int (i : Nat), .int (b : Nat), .int ((12 - n : Nat))] ∧ n ≤ 12 ∧ s.length ≤ 600 ∧ i ≤ s.length ∧ b ≤ 60 ∧ ∀ H' p a, Same H H' → Same3 s a (stP s n i b) → ResAt K H' p a encS → Q (.ref p) H'
def spRow (K : PySem.W.Frag) (n : Nat) : Sp := fun vs H Q _ => ∃ (s : List Nat) (i b : Nat), vs = [.str (tx s), .int (i : Nat), .int (b : Nat), .int ((12 - n : Nat))] ∧ n ≤ 12 ∧ s.length ≤ 600 ∧ i ≤ s.length ∧ b ≤ 60 ∧ ∀ H' p a, Same H H' → Same3 s a (rwP s (stP s n) i b) → ResAt K H' p a encR → Q (.ref p) H'
set_option maxHeartbeats 2000000 in
theorem ok_stp_of {k n : Nat} {spR : Sp} (hk : 2 ≤ k) (B : BM mg) (L : RL K mg f_letters f_run f_tm f_stp f_row f_due d_letters d_run d_tm d_stp d_row d_due) (GRo : FnOk P w K mg base CX0 k f_row d_row ["_law_text_here", "_law_at", "_law_many", "_law_deep"] spR) (hR : ∀ m, n = m + 1 → spR = spRow K m) : FnOk P w K mg base CX0 (k + 1) f_stp d_stp ["_law_text_here", "_law_at", "_law_many", "_law_deep"] (spStp K n) := by
  have GRn : FnOk P w K mg base CX0 (0 + 1) f_run d_run ["_law_text_here", "_law_at", "_law_signs", "_law_most"] spRun := ok_run B L
  have GTm : FnOk P w K mg base CX0 (0 + 2) f_tm d_tm ["_law_text_here", "_law_at"] spTm := ok_tm B L
  have GLe : FnOk P w K mg base CX0 (0 + 1) f_letters d_letters [] (fun vs H Q _ => vs = [] ∧ Q (.str (tx ltrs)) H) := ok_letters L.letters.F
  refine L.stp.F.ok scStepAt (fun vs H Q E h => ?_) (fun cdv A outer st H vs Q E hr h => ?_)
  · obtain ⟨s, i, b, rfl, _⟩ := h
    rfl
  · obtain ⟨s, i, b, rfl, hn, hl, hi, hb, q⟩ := h
    have nd := scStepAt.nd
    have r1 : Room (0 + 1) _ := hr.mono (by omega)
    have r2 : Room (0 + 2) _ := hr.mono (by omega)
    refine ⟨_, (pss_cons (ps_set (i := 4) nd rfl (.inl rfl) (pe_op op_add_str (pe_call0 GLe r1 rfl L.letters.g L.letters.F.kp L.letters.b .nil pass0) (pe_upper (pe_call0 GLe r1 rfl L.letters.g L.letters.F.kp L.letters.b .nil pass0))))
      (pss_cons (ps_set (i := 5) nd rfl (.inl rfl) (pe_slice sl_str (pv 0) (po_some (pv 1)) (po_some (pe_op op_add (pv 1) pe_int))))
      (pss_cons (ps_if (PW.pt (pw_or (pt_cmpR op_notIn_seq (pv 5) (pe_tup (pa_cons pe_str (pa_cons pe_str (pa_cons pe_str (pa_cons pe_str pa_nil))))) (by rfl)) (pw_or (pt_cmpR op_ge (pv 2) pe_int (nomark _)) (pw_or1 (PW.pt (pw_and (pt_cmpR op_eq (pv 5) pe_str (nomark _)) (pw_and1 (pt_cmpR op_ge (pv 3) pe_int (nomark _)))))))))
        (pss_one (ps_ret (pe_tup (pa_cons (pv 1) (pa_cons pe_non (pa_cons (pv 2) pa_nil))))))
        pss_nil)
      (pss_cons (ps_if (PW.pt (pw_or (pt_cmpR op_eq (pv 5) pe_str (nomark _)) (pw_or1 (pt_cmpR op_eq (pv 5) pe_str (nomark _)))))
        (pss_cons (ps_set (i := 6) nd rfl (.inl rfl) (pe_call GRn r1 rfl L.run.g L.run.F.kp L.run.b .nil pass0 (pa_cons (pv 0) (pa_cons (pe_op op_add (pv 1) pe_int) (pa_cons (pv 4) (pa_cons pe_int pa_nil))))))
      (pss_cons (ps_if (PW.pt (pw_and (pt_cmpR op_eq (pv 5) pe_str (nomark _)) (pw_and1 (pt_cmpR op_eq (pv 6) (pe_op op_add (pv 1) pe_int) (nomark _)))))
        (pss_one (ps_ret (pe_tup (pa_cons (pv 6) (pa_cons pe_non (pa_cons (pv 2) pa_nil))))))
        pss_nil)
      (pss_one (ps_ret (pe_tup (pa_cons (pv 6) (pa_cons (pe_tup (pa_cons (pe_ix ix_list (pe_lst (pa_cons pe_str (pa_cons pe_str pa_nil))) (pe_callTy call_int1 (by rfl) L.mi (by decide +kernel) (pa_cons (pe_cmpR op_eq (pv 5) pe_str (nomark _)) pa_nil)) (fun _ _ => rfl)) (pa_cons (pe_slice sl_str (pv 0) (po_some (pe_op op_add (pv 1) pe_int)) (po_some (pv 6))) pa_nil))) (pa_cons (pe_op op_add (pv 2) pe_int) pa_nil))))))))
        pss_nil)
      (pss_cons (ps_if (pt_cmpR op_eq (pv 5) pe_str (nomark _))
        (pss_cons (ps_set (i := 6) nd rfl (.inl rfl) (pe_call GRn r1 rfl L.run.g L.run.F.kp L.run.b .nil pass0 (pa_cons (pv 0) (pa_cons (pe_op op_add (pv 1) pe_int) (pa_cons (pe_call0 GLe r1 rfl L.letters.g L.letters.F.kp L.letters.b .nil pass0) (pa_cons pe_int pa_nil))))))
      (pss_cons (ps_if (PW.pt (pw_or (pt_cmpR op_eq (pv 6) (pe_op op_add (pv 1) pe_int) (nomark _)) (pw_or1 (pt_cmpR op_ne (pe_slice sl_str (pv 0) (po_some (pv 6)) (po_some (pe_op op_add (pv 6) pe_int))) pe_str (nomark _)))))
        (pss_one (ps_ret (pe_tup (pa_cons (pv 6) (pa_cons pe_non (pa_cons (pv 2) pa_nil))))))
        pss_nil)
      (pss_one (ps_ret (pe_tup (pa_cons (pe_op op_add (pv 6) pe_int) (pa_cons (pe_tup (pa_cons pe_str (pa_cons (pe_slice sl_str (pv 0) (po_some (pe_op op_add (pv 1) pe_int)) (po_some (pv 6))) pa_nil))) (pa_cons (pe_op op_add (pv 2) pe_int) pa_nil))))))))
        pss_nil)
      (pss_cons (ps_asg (pe_call GRo hr rfl L.row.g L.row.F.kp L.row.b .nil pass0 (pa_cons (pv 0) (pa_cons (pe_op op_add (pv 1) pe_int) (pa_cons (pe_op op_add (pv 2) pe_int) (pa_cons (pe_op op_add (pv 3) pe_int) pa_nil))))) (pg_tup rfl (pgs_cons (pg_name (i := 6) nd rfl (.inl rfl)) (pgs_cons (pg_name (i := 7) nd rfl (.inl rfl)) (pgs_cons (pg_name (i := 2) nd rfl (.inl rfl)) pgs_nil)))))
      (pss_cons (ps_for PassesOwn.never rfl (pi_str pe_str) (pg_name (i := 8) nd rfl (.inl rfl))
        (pss_one (ps_if (PW.pt (pw_and (pt_cmpR op_notN (pv 7) pe_non (nomark _)) (pw_and1 (pt_cmpR op_eq (pe_slice sl_str (pv 0) (po_some (pv 6)) (po_some (pe_op op_add (pv 6) pe_int))) (pv 8) (nomark _)))))
        (pss_one (ps_set (i := 6) nd rfl (.inl rfl) (pe_op op_add (pv 6) pe_int)))
        (pss_one (ps_ret (pe_tup (pa_cons (pv 6) (pa_cons pe_non (pa_cons (pv 2) pa_nil)))))))))
      (pss_cons (ps_asg (pe_call GTm r2 rfl L.tm.g L.tm.F.kp L.tm.b .nil pass0 (pa_cons (pv 0) (pa_cons (pv 6) pa_nil))) (pg_tup rfl (pgs_cons (pg_name (i := 6) nd rfl (.inl rfl)) (pgs_cons (pg_name (i := 9) nd rfl (.inl rfl)) (pgs_cons (pg_name (i := 10) nd rfl (.inl rfl)) pgs_nil)))))
      (pss_one (ps_ret (pe_tup (pa_cons (pv 6) (pa_cons (pe_ifExp (pt_val (pv 10)) (pe_tup (pa_cons pe_str (pa_cons (pv 9) (pa_cons (pv 7) pa_nil)))) pe_non) (pa_cons (pv 2) pa_nil)))))))))))))), ?_⟩
    refine ⟨rfl, rfl, ⟨_, rfl⟩, tx ltrs, rfl, rfl, by rw [tx_len, ltrs_len]; decide, _, _, rfl, rfl, by decide +kernel, ?_⟩
    refine ⟨_, rfl, _, rfl, _, rfl, _, rfl, _, _, rfl, rfl, _, rfl, tx s, rfl, by rw [tx_len, sizeLine_eq]; omega, ?_⟩
    rw [cut_1]
    refine ⟨_, rfl, by show 4 ≤ sizeLine; decide, fun p4 np4 => ⟨p4, _, rfl, .inr (SqT.of upd_same), rfl, rfl, _, rfl, ?_⟩⟩
    rw [in4]
    have s4 := same_upd np4 (o := .tup [.str (Str.ofString "."), .str (Str.ofString "~"), .str (Str.ofString "<"), .str (Str.ofString "(")])
    generalize hH4 : upd H p4 (.tup [.str (Str.ofString "."), .str (Str.ofString "~"), .str (Str.ofString "<"), .str (Str.ofString "(")]) = H4 at s4 ⊢
    have eP : stP s n i b = spP s (match n with | 0 => fun _ _ => .error 0 | m + 1 => grP s (rwP s (stP s m))) (decide (0 < n)) i b := by
      cases n <;> rfl
    -- a refusal at the sign
    have no : stP s n i b = .error i → ∀ H5 p5 m, Same H H5 → H5 p5 = some (.tup [.int (i : Nat), .non, .int m]) → Q (.ref p5) H5 := fun e H5 p5 m s5 e5 => q H5 p5 (.error i) s5 (.inl e.symm) ⟨m, e5⟩
    have okR : ∀ (x : Stp) (j : Nat), stP s n i b = .ok (x, j, b + 1) → ∀ H5 p5 v, Same H H5 → Dp K H5 v (encS x) → H5 p5 = some (.tup [.int (j : Nat), v, .int (b + 1 : Nat)]) → Q (.ref p5) H5 := fun x j e H5 p5 v s5 hv e5 => q H5 p5 (.ok (x, j, b + 1)) s5 (.inl e.symm) ⟨v, e5, hv⟩
    have badR : ∀ (j : Nat), stP s n i b = .error j → ∀ H5 p5 (m : Int), Same H H5 → H5 p5 = some (.tup [.int (j : Nat), .non, .int m]) → Q (.ref p5) H5 := fun j e H5 p5 m s5 e5 => q H5 p5 (.error j) s5 (.inl e.symm) ⟨m, e5⟩
    by_cases a0 : atS s i [46, 126, 60, 40] = true
    · rw [a0]
      obtain ⟨c, hc, hm⟩ := atS_iff.mp a0
      have gd : s.getD i 0 = c := by rw [List.getD_eq_getElem?_getD, hc]; rfl
      have at1 : ∀ x, atS s i [x] = decide (c = x) := fun x => by
        unfold atS
        rw [hc]
        show decide (c ∈ [x]) = decide (c = x)
        rw [Bool.eq_iff_iff, decide_eq_true_eq, decide_eq_true_eq, List.mem_singleton]
      refine iteF ⟨_, rfl, _, _, rfl, rfl, _, rfl, ?_⟩
      by_cases b6 : b = 60
      · rw [decide_eq_true (by omega)]
        refine iteT (iteT ⟨_, rfl, _, rfl, by show 3 ≤ sizeLine; decide, fun p np => ?_⟩)
        exact no (by rw [eP]; unfold spP; rw [if_pos b6]) _ p b (sm_upd s4 np) upd_same
      · rw [decide_eq_false (by omega)]
        refine iteF ⟨_, rfl, rfl, _, rfl, ?_⟩
        have eo : Str.ofString "(" = tx [40] := by decide +kernel
        have ed : Str.ofString "." = tx [46] := by decide +kernel
        have et : Str.ofString "~" = tx [126] := by decide +kernel
        have el : Str.ofString "<" = tx [60] := by decide +kernel
        have eg : Str.ofString ">" = tx [62] := by decide +kernel
        have il := atS_lt a0
        have hf : (c ≠ 40 ∨ 0 < n) → atS s i (fsN (decide (0 < n))) = true := fun h => atS_iff.mpr ⟨c, hc, by
          unfold fsN
          split
          · exact hm
          · rename_i hz
            have : ¬ 0 < n := fun z => hz (decide_eq_true z)
            have h : c ≠ 40 := by
              rcases h with h | h
              · exact h
              · omega
            simp only [List.mem_cons, List.not_mem_nil, or_false] at hm ⊢
            rcases hm with h1 | h1 | h1 | h1
            · exact .inl h1
            · exact .inr (.inl h1)
            · exact .inr (.inr h1)
            · exact absurd h1 h⟩
        rw [eo, one_at, at1]
        by_cases c40 : c = 40
        · rw [decide_eq_true c40]
          refine iteT ⟨_, rfl, _, _, rfl, rfl, _, rfl, ?_⟩
          by_cases n0 : n = 0
          · rw [decide_eq_true (by omega)]
            refine iteT ⟨_, rfl, _, rfl, by show 3 ≤ sizeLine; decide, fun p np => ?_⟩
            refine no ?_ _ p b (sm_upd s4 np) upd_same
            rw [eP]
            unfold spP
            rw [if_neg b6, if_neg]
            intro h
            have := (atS_get h).2
            rw [gd, n0, c40] at this
            exact absurd this (by decide)
          · rw [decide_eq_false (by omega)]
            refine iteF ⟨_, rfl, rfl, _, rfl, ?_⟩
            rw [ed, one_at, at1, decide_eq_false (by omega)]
            refine iteF ⟨_, rfl, rfl, _, rfl, ?_⟩
            rw [et, one_at, at1, decide_eq_false (by omega)]
            refine iteF ⟨_, rfl, rfl, _, rfl, ?_⟩
            rw [el, one_at, at1, decide_eq_false (by omega)]
            refine iteF ?_
            obtain ⟨m, rfl⟩ : ∃ m, n = m + 1 := ⟨n - 1, by omega⟩
            have eR := hR m rfl
            subst eR
            have hf := hf (.inr (by omega))
            have eS : stP s (m + 1) i b = grP s (rwP s (stP s m)) (i + 1) (b + 1) := by
              rw [eP]
              unfold spP
              rw [if_neg b6, if_pos hf, gd, if_neg (by omega), if_neg (by omega), if_pos c40]
            have el3 : Str.ofString ")*" = tx [41, 42] := by decide +kernel
            refine ⟨_, rfl, _, rfl, _, _, rfl, rfl, _, rfl, _, _, rfl, rfl, _, rfl, _, _, rfl, rfl, s, i + 1, b + 1, ?_, by omega, hl, by omega, by omega, fun H5 p5 a5 s5 h5 r5 => ?_⟩
            · show [V.str (tx s), V.int (((i : Nat) : Int) + 1), V.int (((b : Nat) : Int) + 1), V.int (((12 - (m + 1) : Nat) : Int) + 1)] = _
              rw [show ((12 - (m + 1) : Nat) : Int) + 1 = ((12 - m : Nat) : Int) by omega]
              rfl
            unfold grP at eS
            cases a5 with
            | error j =>
              obtain ⟨m5, e5⟩ := r5
              have h5 : rwP s (stP s m) (i + 1) (b + 1) = .error j := by
                rcases h5 with h | ⟨_, _, _, h, _⟩
                · exact h.symm
                · cases h
              rw [h5] at eS
              have eS : stP s (m + 1) i b = .error j := eS
              refine ⟨p5, _, rfl, SqT.of e5, rfl, _, _, rfl, _, _, rfl, _, _, rfl, rfl, ?_⟩
              refine ⟨_, rfl, ?_⟩
              have wk := walk_str (z := Str.ofString ")*")
              refine for_it wk (fun k σ H' => ∃ y8 y9 y10 : Option V, k = 0 ∧ σ = [some (.str (tx s)), some (.int (i : Nat)), some (.int m5), some (.int ((12 - (m + 1) : Nat))), some (.str (tx ltrs ++ Txt.upper (tx ltrs))), some (.str (tx (sub s i (i + 1)))), some (.int (j : Nat)), some .non, y8, y9, y10] ∧ H' = H5) ⟨_, _, _, rfl, rfl, rfl⟩ (fun _ _ _ _ _ => trivial) ?_ ?_
              · rintro k v σ H6 H7 hk ⟨y8, y9, y10, rfl, rfl, rfl⟩ ⟨rfl, c', hc', rfl⟩
                refine ⟨_, rfl, rfl, _, rfl, ?_⟩
                refine iteF (iteF ⟨_, rfl, _, rfl, by show 3 ≤ sizeLine; decide, fun p np => ?_⟩)
                exact badR _ eS _ p m5 (sm_upd (sm_trans s4 s5) np) upd_same
              · rintro σ H6 ⟨y8, y9, y10, h, _⟩
                exact absurd h (by decide +kernel)
            | ok x =>
              obtain ⟨r, j, c5⟩ := x
              obtain ⟨v5, e5, d5⟩ := r5
              have v5n : decide (v5 = .non) = false := by
                unfold encR at d5
                cases d5
                rfl
              have jl : j ≤ s.length := by
                rcases h5 with h | ⟨_, _, _, h, _, hd⟩
                · exact (rwP_ok (stP_ok s m) _ _ _ _ _ h.symm).2.1
                · cases h
                  exact Nat.le_of_lt (atS_lt hd)
              refine ⟨p5, _, rfl, SqT.of e5, rfl, _, _, rfl, _, _, rfl, _, _, rfl, rfl, ?_⟩
              refine ⟨_, rfl, ?_⟩
              have wk := walk_str (z := Str.ofString ")*")
              -- both signs, one after the other
              have stop : ∀ k, k < 2 → atS s (j + k) [[41, 42].getD k 0] = false → (0 < k → atS s j [41] = true) → stP s (m + 1) i b = .error (j + k) := fun k hk hn h0 => by
                rw [eS]
                rcases h5 with h | ⟨x', j', c', h, h2, hd⟩
                · rw [← h]
                  show (if atS s j [41] = true then _ else _) = _
                  match k, hk, hn, h0 with
                  | 0, _, hn, _ =>
                    have hn : atS s j [41] = false := hn
                    rw [hn, if_neg (by simp)]
                    rfl
                  | 1, _, hn, h0 =>
                    have hn : atS s (j + 1) [42] = false := hn
                    rw [if_pos (h0 (by omega)), hn, if_neg (by simp)]
                · cases h
                  rw [h2]
                  match k, hk, h0 with
                  | 0, _, _ => rfl
                  | 1, _, h0 =>
                    have h1 := (atS_get (h0 (by omega))).2
                    have h3 := (dgN_iff _).mp (atS_get hd).2
                    rw [List.mem_singleton.mp h1] at h3
                    omega
              refine for_it wk (fun k σ H' => ∃ y8 y9 y10 : Option V, σ = [some (.str (tx s)), some (.int (i : Nat)), some (.int (c5 : Nat)), some (.int ((12 - (m + 1) : Nat))), some (.str (tx ltrs ++ Txt.upper (tx ltrs))), some (.str (tx (sub s i (i + 1)))), some (.int (j + k : Nat)), some v5, y8, y9, y10] ∧ H' = H5 ∧ (0 < k → atS s j [41] = true) ∧ (1 < k → atS s (j + 1) [42] = true)) ⟨_, _, _, rfl, rfl, fun h => by omega, fun h => by omega⟩ (fun _ _ _ _ _ => trivial) ?_ ?_
              · rintro k v σ H6 H7 hk ⟨y8, y9, y10, rfl, rfl, k0, k1⟩ ⟨rfl, c', hc', rfl⟩
                have hk : k < 2 := hk
                have ec : c' = [41, 42].getD k 0 := by
                  rw [el3, ← Array.getElem?_toList, tx_list] at hc'
                  rw [List.getD_eq_getElem?_getD, hc']
                  rfl
                refine ⟨_, rfl, rfl, _, rfl, ?_⟩
                rw [v5n]
                refine iteT ⟨_, rfl, _, rfl, _, rfl, _, rfl, _, _, rfl, rfl, _, rfl, tx s, rfl, by rw [tx_len, sizeLine_eq]; omega, _, rfl, rfl, _, rfl, ?_⟩
                rw [cut_1, show (⟨#[c']⟩ : Str) = tx [c'] from rfl, one_at, ec]
                by_cases a41 : atS s (j + k) [[41, 42].getD k 0] = true
                · rw [a41]
                  refine iteT ⟨_, rfl, _, _, rfl, rfl, _, _, _, rfl, rfl, fun _ => ?_, fun h => ?_⟩
                  · match k, a41, k0 with
                    | 0, a41, _ => exact a41
                    | k + 1, _, k0 => exact k0 (by omega)
                  · match k, hk, h, a41 with
                    | 1, _, _, a41 => exact a41
                    | 0, _, h, _ => omega
                · rw [Bool.not_eq_true] at a41
                  rw [a41]
                  refine iteF ⟨_, rfl, _, rfl, by show 3 ≤ sizeLine; decide, fun p np => ?_⟩
                  exact badR _ (stop k hk a41 k0) _ p (c5 : Nat) (sm_upd (sm_trans s4 s5) np) upd_same
              · rintro σ H6 ⟨y8, y9, y10, rfl, rfl, k0, k1⟩
                have k0 := k0 (by decide)
                have k1 := k1 (by decide)
                have jl2 := atS_lt k1
                have h5 : rwP s (stP s m) (i + 1) (b + 1) = .ok (r, j, c5) := by
                  rcases h5 with h | ⟨x', j', c', h, h2, hd⟩
                  · exact h.symm
                  · cases h
                    have h1 := (atS_get k0).2
                    have h3 := (dgN_iff _).mp (atS_get hd).2
                    rw [List.mem_singleton.mp h1] at h3
                    omega
                rw [h5] at eS
                have eS : stP s (m + 1) i b = match numP s (j + 2) with
                  | .ok (m', k) => .ok (.times m' r, k, c5)
                  | .error e => .error e := by
                  rw [eS]
                  show (if atS s j [41] = true then _ else _) = _
                  rw [if_pos k0, if_pos k1] <;> rfl
                refine ⟨_, rfl, _, rfl, s, j + 2, rfl, hl, by omega, fun H7 p7 m7 j7 g7 s7 e7 hg hb7 => ?_⟩
                refine ⟨p7, _, rfl, SqT.of e7, rfl, _, _, rfl, _, _, rfl, _, _, rfl, rfl, ?_⟩
                refine ⟨_, rfl, _, rfl, _, rfl, ?_⟩
                have tn := tm_num s (j + 2) (by omega)
                cases g7 with
                | true =>
                  rw [hg rfl] at tn
                  refine iteT ⟨_, rfl, _, rfl, by show 3 ≤ sizeLine; decide, fun p1 np1 => ⟨_, rfl, by show 3 ≤ sizeLine; decide, fun p np => ?_⟩⟩
                  refine q _ p (.ok (.times m7 r, j7, c5)) (sm_upd (sm_upd (sm_trans (sm_trans s4 s5) s7) np1) np) ?_ ⟨.ref p1, upd_same, ?_⟩
                  · rcases tn with h | ⟨m', j', h, h2, hd⟩
                    · left
                      rw [eS, ← h]
                    · cases h
                      right
                      refine ⟨_, _, _, rfl, ?_, hd⟩
                      rw [eS, h2]
                  · rw [encS]
                    refine dp_same (same_upd np) (.tup (SqT.of upd_same) (.cons (.str _) (.cons (.int _) (.cons ?_ .nil))))
                    exact dp_same (same_upd np1) (dp_same s7 d5)
                | false =>
                  rw [hb7 rfl] at tn
                  have en : numP s (j + 2) = .error j7 := by
                    rcases tn with h | ⟨m', j', h, _⟩
                    · exact h.symm
                    · cases h
                  rw [en] at eS
                  refine iteF ⟨_, rfl, by show 3 ≤ sizeLine; decide, fun p np => ?_⟩
                  exact badR _ eS _ p (c5 : Nat) (sm_upd (sm_trans (sm_trans s4 s5) s7) np) upd_same
        · rw [decide_eq_false c40]
          have hf := hf (.inl c40)
          refine iteF (iteF ?_)
          have ge := fun z f => rnE_ge (s := s) (z := z) f (i + 1)
          have le := fun z f => rnE_le (s := s) (z := z) f (i + 1) (by omega)
          refine ⟨_, rfl, rfl, _, rfl, ?_⟩
          rw [ed, one_at, at1]
          by_cases c46 : c = 46
          · rw [decide_eq_true c46]
            refine iteT (iteT ?_)
            refine ⟨_, rfl, _, rfl, _, _, rfl, rfl, _, rfl, s, i + 1, _, 12, rfl, by omega, ?_⟩
            rw [lettersN]
            have ge := ge ltN 12
            have le := le ltN 12
            have eS : stP s n i b = .ok (.call (sub s (i + 1) (rnE s ltN 12 (i + 1))), rnE s ltN 12 (i + 1), b + 1) := by
              rw [eP]
              unfold spP
              rw [if_neg b6, if_pos hf, gd, if_pos c46, ltP_rn 12 [] (i + 1) (by omega), if_neg (by omega)]
              rfl
            generalize rnE s ltN 12 (i + 1) = e at *
            refine ⟨_, rfl, rfl, _, rfl, ?_⟩
            rw [et, one_at, at1, decide_eq_false (by omega)]
            refine iteF (iteF ?_)
            refine ⟨_, rfl, by show 2 ≤ sizeLine; decide, fun T nT => ⟨_, rfl, rfl, .inr ⟨_, rfl, ?_⟩⟩⟩
            rw [one_at, at1, decide_eq_false (by omega)]
            have sT := sm_trans s4 (same_upd nT (o := .lst [.str (Str.ofString "call"), .str (Str.ofString "turn")]))
            refine ⟨T, _, 0, .str "call", rfl, rfl, SqL.of upd_same, rfl, _, rfl, _, rfl, _, _, rfl, rfl, ((i + 1 : Nat) : Int), rfl, _, rfl, _, rfl, tx s, rfl, by rw [tx_len, sizeLine_eq]; omega, ?_⟩
            rw [cut_sub s (i + 1) e (by omega)]
            refine ⟨by show 2 ≤ sizeLine; decide, fun p1 np1 => ⟨_, rfl, _, _, rfl, rfl, by show 3 ≤ sizeLine; decide, fun p np => ?_⟩⟩
            refine okR _ _ eS _ p (.ref p1) (sm_upd (sm_upd sT np1) np) ?_ upd_same
            rw [encS]
            exact dp_same (same_upd np) (.tup (SqT.of upd_same) (.cons (.str _) (.cons (.str _) .nil)))
          · rw [decide_eq_false c46]
            refine iteF ⟨_, rfl, rfl, _, rfl, ?_⟩
            rw [et, one_at, at1]
            by_cases c126 : c = 126
            · rw [decide_eq_true c126]
              refine iteT ?_
              refine ⟨_, rfl, _, rfl, _, _, rfl, rfl, _, rfl, s, i + 1, _, 12, rfl, by omega, ?_⟩
              rw [lettersN]
              have ge := ge ltN 12
              have le := le ltN 12
              have eS : stP s n i b = if rnE s ltN 12 (i + 1) = i + 1 then .error (rnE s ltN 12 (i + 1)) else .ok (.turn (sub s (i + 1) (rnE s ltN 12 (i + 1))), rnE s ltN 12 (i + 1), b + 1) := by
                rw [eP]
                unfold spP
                rw [if_neg b6, if_pos hf, gd, if_neg c46, if_pos c126, ltP_rn 12 [] (i + 1) (by show 1 ≤ 0 + 12; omega)]
                by_cases z : rnE s ltN 12 (i + 1) = i + 1
                · rw [if_pos (by rw [z]; show 0 + _ < 1; omega), if_pos z]
                · rw [if_neg (by show ¬ (0 + _ < 1); omega), if_neg z]
                  rfl
              generalize rnE s ltN 12 (i + 1) = e at *
              refine ⟨_, rfl, rfl, _, rfl, ?_⟩
              rw [one_at, at1, decide_eq_true c126]
              refine iteT ⟨_, rfl, _, rfl, _, _, rfl, rfl, rfl, _, rfl, ?_⟩
              by_cases z : e = i + 1
              · rw [if_pos z] at eS
                rw [show decide (V.int ((e : Nat) : Int) = V.int (((i : Nat) : Int) + 1)) = true from decide_eq_true (by rw [z]; rfl)]
                refine iteT ⟨_, rfl, _, rfl, by show 3 ≤ sizeLine; decide, fun p np => ?_⟩
                exact badR _ eS _ p b (sm_upd s4 np) upd_same
              · rw [if_neg z] at eS
                rw [show decide (V.int ((e : Nat) : Int) = V.int (((i : Nat) : Int) + 1)) = false from decide_eq_false fun h => by injection h with h; omega]
                refine iteF ⟨_, rfl, by show 2 ≤ sizeLine; decide, fun T nT => ⟨_, rfl, rfl, .inr ⟨_, rfl, ?_⟩⟩⟩
                rw [one_at, at1, decide_eq_true c126]
                have sT := sm_trans s4 (same_upd nT (o := .lst [.str (Str.ofString "call"), .str (Str.ofString "turn")]))
                refine ⟨T, _, 1, .str "turn", rfl, rfl, SqL.of upd_same, rfl, _, rfl, _, rfl, _, _, rfl, rfl, ((i + 1 : Nat) : Int), rfl, _, rfl, _, rfl, tx s, rfl, by rw [tx_len, sizeLine_eq]; omega, ?_⟩
                rw [cut_sub s (i + 1) e (by omega)]
                refine ⟨by show 2 ≤ sizeLine; decide, fun p1 np1 => ⟨_, rfl, _, _, rfl, rfl, by show 3 ≤ sizeLine; decide, fun p np => ?_⟩⟩
                refine okR _ _ eS _ p (.ref p1) (sm_upd (sm_upd sT np1) np) ?_ upd_same
                rw [encS]
                exact dp_same (same_upd np) (.tup (SqT.of upd_same) (.cons (.str _) (.cons (.str _) .nil)))
            · rw [decide_eq_false c126]
              have c60 : c = 60 := by
                simp only [List.mem_cons, List.not_mem_nil, or_false] at hm
                omega
              refine iteF ⟨_, rfl, rfl, _, rfl, ?_⟩
              rw [el, one_at, at1, decide_eq_true c60]
              refine iteT ?_
              refine ⟨_, rfl, _, rfl, _, _, rfl, rfl, rfl, s, i + 1, _, 8, rfl, by omega, ?_⟩
              rw [smallN]
              have ge := ge smN 8
              have le := le smN 8
              have eS : stP s n i b = if rnE s smN 8 (i + 1) = i + 1 then .error (rnE s smN 8 (i + 1)) else if atS s (rnE s smN 8 (i + 1)) [62] = true then .ok (.row (sub s (i + 1) (rnE s smN 8 (i + 1))), rnE s smN 8 (i + 1) + 1, b + 1) else .error (rnE s smN 8 (i + 1)) := by
                rw [eP]
                unfold spP
                rw [if_neg b6, if_pos hf, gd, if_neg c46, if_neg c126, if_neg c40, ltP_rn 8 [] (i + 1) (by show 1 ≤ 0 + 8; omega)]
                by_cases z : rnE s smN 8 (i + 1) = i + 1
                · rw [if_pos (by rw [z]; show 0 + _ < 1; omega), if_pos z]
                · rw [if_neg (by show ¬ (0 + _ < 1); omega), if_neg z]
                  rfl
              generalize rnE s smN 8 (i + 1) = e at *
              refine ⟨_, rfl, _, rfl, _, _, rfl, rfl, rfl, _, rfl, ?_⟩
              by_cases z : e = i + 1
              · rw [if_pos z] at eS
                rw [show decide (V.int ((e : Nat) : Int) = V.int (((i : Nat) : Int) + 1)) = true from decide_eq_true (by rw [z]; rfl)]
                refine iteT (iteT ⟨_, rfl, _, rfl, by show 3 ≤ sizeLine; decide, fun p np => ?_⟩)
                exact badR _ eS _ p b (sm_upd s4 np) upd_same
              · rw [if_neg z] at eS
                rw [show decide (V.int ((e : Nat) : Int) = V.int (((i : Nat) : Int) + 1)) = false from decide_eq_false fun h => by injection h with h; omega]
                refine iteF ?_
                refine ⟨_, rfl, _, rfl, _, rfl, _, rfl, _, _, rfl, rfl, _, rfl, tx s, rfl, by rw [tx_len, sizeLine_eq]; omega, rfl, _, rfl, ?_⟩
                rw [cut_1, eg, one_ne]
                by_cases a62 : atS s e [62] = true
                · rw [if_pos a62] at eS
                  rw [a62]
                  refine iteF ⟨_, rfl, _, _, rfl, rfl, _, rfl, _, rfl, _, _, rfl, rfl, ((i + 1 : Nat) : Int), rfl, _, rfl, _, rfl, tx s, rfl, by rw [tx_len, sizeLine_eq]; omega, ?_⟩
                  rw [cut_sub s (i + 1) e (by omega)]
                  refine ⟨by show 2 ≤ sizeLine; decide, fun p1 np1 => ⟨_, rfl, _, _, rfl, rfl, by show 3 ≤ sizeLine; decide, fun p np => ?_⟩⟩
                  refine okR _ _ eS _ p (.ref p1) (sm_upd (sm_upd s4 np1) np) ?_ upd_same
                  rw [encS]
                  exact dp_same (same_upd np) (.tup (SqT.of upd_same) (.cons (.str _) (.cons (.str _) .nil)))
                · rw [if_neg a62] at eS
                  rw [Bool.not_eq_true] at a62
                  rw [a62]
                  refine iteT ⟨_, rfl, _, rfl, by show 3 ≤ sizeLine; decide, fun p np => ?_⟩
                  exact badR _ eS _ p b (sm_upd s4 np) upd_same
    · rw [Bool.not_eq_true] at a0
      rw [a0]
      refine iteT (iteT ⟨_, rfl, _, rfl, by show 3 ≤ sizeLine; decide, fun p np => ?_⟩)
      refine no ?_ _ p b (sm_upd s4 np) upd_same
      rw [eP]
      unfold spP
      split
      · rfl
      · rw [if_neg]
        intro h
        obtain ⟨c, h1, h2⟩ := atS_iff.mp h
        have : atS s i [46, 126, 60, 40] = true := atS_iff.mpr ⟨c, h1, by
          unfold fsN at h2
          split at h2
          · exact h2
          · simp only [List.mem_cons, List.not_mem_nil, or_false] at h2 ⊢
            rcases h2 with h2 | h2 | h2 <;> simp [h2]⟩
        rw [a0] at this
        cases this
set_option maxHeartbeats 2000000 in
theorem ok_row_of {k n : Nat} (B : BM mg) (L : RL K mg f_letters f_run f_tm f_stp f_row f_due d_letters d_run d_tm d_stp d_row d_due) (GSp : FnOk P w K mg base CX0 k f_stp d_stp ["_law_text_here", "_law_at", "_law_many", "_law_deep"] (spStp K n)) : FnOk P w K mg base CX0 (k + 1) f_row d_row ["_law_text_here", "_law_at", "_law_many", "_law_deep"] (spRow K n) := by
  refine L.row.F.ok scRowAt (fun vs H Q E h => ?_) (fun cdv A outer st H vs Q E hr h => ?_)
  · obtain ⟨s, i, b, rfl, _⟩ := h
    rfl
  · obtain ⟨s, i, b, rfl, hn, hl, hi, hb, q⟩ := h
    have nd := scRowAt.nd
    refine ⟨_, (pss_cons (ps_if (pt_cmpR op_eq (pe_slice sl_str (pv 0) (po_some (pv 1)) (po_some (pe_op op_add (pv 1) pe_int))) pe_str (nomark _))
        (pss_one (ps_ret (pe_tup (pa_cons (pe_op op_add (pv 1) pe_int) (pa_cons (pe_tup (pa_cons pe_str (pa_cons (pe_tup pa_nil) pa_nil))) (pa_cons (pv 2) pa_nil))))))
        pss_nil)
      (pss_cons (ps_set (i := 4) nd rfl (.inl rfl) (pe_lst pa_nil))
      (pss_cons (ps_for PassesOwn.never rfl (pi_range1 (by rfl) B.range (pa_cons pe_int pa_nil)) (pg_name (i := 5) nd rfl (.inl rfl))
        (pss_cons (ps_asg (pe_call GSp hr rfl L.stp.g L.stp.F.kp L.stp.b .nil pass0 (pa_cons (pv 0) (pa_cons (pv 1) (pa_cons (pv 2) (pa_cons (pv 3) pa_nil))))) (pg_tup rfl (pgs_cons (pg_name (i := 1) nd rfl (.inl rfl)) (pgs_cons (pg_name (i := 6) nd rfl (.inl rfl)) (pgs_cons (pg_name (i := 2) nd rfl (.inl rfl)) pgs_nil)))))
      (pss_cons (ps_if (pt_cmpR op_isN (pv 6) pe_non (nomark _))
        (pss_one (ps_ret (pe_tup (pa_cons (pv 1) (pa_cons pe_non (pa_cons (pv 2) pa_nil))))))
        pss_nil)
      (pss_cons (ps_expr (pe_bm PySem.F.plainAttrs_list PySem.F.slot_list_append PySem.F.type_list_append mt_append (pv 4) (pa_cons (pv 6) pa_nil)))
      (pss_cons (ps_if (pt_cmpR op_ne (pe_slice sl_str (pv 0) (po_some (pv 1)) (po_some (pe_op op_add (pv 1) pe_int))) pe_str (nomark _))
        (pss_one (ps_ret (pe_tup (pa_cons (pv 1) (pa_cons (pe_tup (pa_cons pe_str (pa_cons (pe_tupleOf (by rfl) B.tuple (pv 4)) pa_nil))) (pa_cons (pv 2) pa_nil))))))
        pss_nil)
      (pss_one (ps_set (i := 1) nd rfl (.inl rfl) (pe_op op_add (pv 1) pe_int))))))))
      (pss_one (ps_ret (pe_tup (pa_cons (pv 1) (pa_cons pe_non (pa_cons (pv 2) pa_nil))))))))), ?_⟩
    have em : Str.ofString "-" = tx [45] := by decide +kernel
    have eb : Str.ofString " " = tx [32] := by decide +kernel
    refine ⟨_, rfl, _, rfl, _, rfl, _, rfl, _, _, rfl, rfl, _, rfl, tx s, rfl, by rw [tx_len, sizeLine_eq]; omega, rfl, _, rfl, ?_⟩
    rw [cut_1, em, one_at]
    by_cases a : atS s i [45] = true
    · rw [a]
      refine iteT ⟨_, rfl, _, _, rfl, rfl, by show 0 ≤ sizeLine; decide, fun p1 np1 => ⟨by show 2 ≤ sizeLine; decide, fun p2 np2 => ⟨_, rfl, by show 3 ≤ sizeLine; decide, fun p np => ?_⟩⟩⟩
      refine q _ p (.ok ([], i + 1, b)) (sm_upd (sm_upd (same_upd np1) np2) np) (.inl ?_) ⟨.ref p2, upd_same, ?_⟩
      · unfold rwP
        rw [if_pos a]
      · have np1' : p1 ≠ p2 := ne_of_none upd_same np2
        exact dp_same (same_upd np) (.tup (SqT.of upd_same) (.cons (.str _) (.cons (.tup (SqT.of (by rw [upd_ne np1', upd_same])) .nil) .nil)))
    · rw [Bool.not_eq_true] at a
      rw [a]
      refine iteF ⟨Nat.zero_le _, fun p np => ?_⟩
      have hS := stP_ok s n
      refine ⟨62, rfl, by decide, by decide, ?_⟩
      refine for_it walk_range (fun t σ H' => ∃ (acc : List Stp) (vs : List V) (i' b' : Nat) (y5 y6 : Option V), σ = [some (.str (tx s)), some (.int (i' : Nat)), some (.int (b' : Nat)), some (.int ((12 - n : Nat))), some (.ref p), y5, y6] ∧ Same H H' ∧ H' p = some (.lst vs) ∧ DpAll K H' vs (encL acc) ∧ vs.length = t ∧ i' ≤ s.length ∧ b' ≤ 60 ∧ t ≤ b' ∧ ∀ f, s.length ≤ f → ∃ f', s.length ≤ f' + i' ∧ rwP s (stP s n) i b = coP s (stP s n) f' acc i' b')
        ⟨[], [], i, b, _, _, rfl, same_upd np, upd_same, by rw [encL]; exact .nil, rfl, hi, hb, Nat.zero_le _, fun f hf => ⟨f, by omega, rwP_co hS hf a⟩⟩ (fun _ _ _ _ _ => trivial) ?_ ?_
      · rintro t v σ H2 H3 ht ⟨acc, vs, i', b', y5, y6, rfl, s2, e2, d2, l2, hi', hb', tb, hF⟩ ⟨rfl, rfl⟩
        have ht : t < 62 := ht
        obtain ⟨f', hf', hF⟩ := hF s.length (Nat.le_refl _)
        refine ⟨_, rfl, _, rfl, _, rfl, _, rfl, s, i', b', rfl, hn, hl, hi', hb', fun H4 p4 a4 s4 h4 r4 => ?_⟩
        cases a4 with
        | error j =>
          obtain ⟨m4, e4⟩ := r4
          have h4 : stP s n i' b' = .error j := by
            rcases h4 with h | ⟨_, _, _, h, _⟩
            · exact h.symm
            · cases h
          refine ⟨p4, _, rfl, SqT.of e4, rfl, _, _, rfl, _, _, rfl, _, _, rfl, rfl, ?_⟩
          refine ⟨_, rfl, rfl, _, rfl, ?_⟩
          refine iteT ⟨_, rfl, _, rfl, by show 3 ≤ sizeLine; decide, fun p5 np5 => ?_⟩
          refine q _ p5 (.error j) (sm_upd (sm_trans s2 s4) np5) (.inl ?_) ⟨m4, upd_same⟩
          rw [hF]
          unfold coP
          rw [h4]
        | ok x =>
          obtain ⟨x, j, c⟩ := x
          obtain ⟨v4, e4, d4⟩ := r4
          have v4n : decide (v4 = .non) = false := by
            have : v4 ≠ .non := fun z => by
              subst z
              cases x with
              | call s => rw [encS] at d4; cases d4
              | turn s => rw [encS] at d4; cases d4
              | row s => rw [encS] at d4; cases d4
              | times m s => rw [encS] at d4; cases d4
            exact decide_eq_false this
          refine ⟨p4, _, rfl, SqT.of e4, rfl, _, _, rfl, _, _, rfl, _, _, rfl, rfl, ?_⟩
          refine ⟨_, rfl, rfl, _, rfl, ?_⟩
          rw [v4n]
          have e2' := s4 _ _ e2
          refine iteF ⟨_, rfl, .inl ⟨rfl, _, SqL.of e2'⟩, _, rfl, p, vs, v4, rfl, rfl, e2', by rw [sizeLine_eq]; omega, ?_⟩
          have s5 : SmX p H4 (upd H4 p (.lst (vs ++ [v4]))) := SmX.upd
          have sH : Same H (upd H4 p (.lst (vs ++ [v4]))) := sm_over (sm_trans s2 s4) np
          have d5 : DpAll K (upd H4 p (.lst (vs ++ [v4]))) (vs ++ [v4]) (encL (acc ++ [x])) := by
            rw [encL_snoc]
            have nl : noLA (encL acc ++ [encS x]) = true := by
              rw [← encL_snoc]
              exact noL_encL _
            exact dpa_smx s5 e2' (.inl ⟨_, rfl⟩) nl (dpa_snoc (dpa_same s4 d2) d4)
          have e5 : (upd H4 p (.lst (vs ++ [v4]))) p = some (.lst (vs ++ [v4])) := upd_same
          generalize upd H4 p (.lst (vs ++ [v4])) = H5 at s5 sH d5 e5 ⊢
          refine ⟨_, rfl, _, rfl, _, rfl, _, rfl, _, _, rfl, rfl, _, rfl, tx s, rfl, by rw [tx_len, sizeLine_eq]; omega, rfl, _, rfl, ?_⟩
          rw [cut_1, eb, one_ne]
          -- the row ends here
          have done : Same3 s (.ok (acc ++ [x], j, c)) (rwP s (stP s n) i b) → (∀ p1 p2 p5, H5 p1 = none → (upd H5 p1 (.tup (vs ++ [v4]))) p2 = none → (upd (upd H5 p1 (.tup (vs ++ [v4]))) p2 (.tup [.str "steps", .ref p1])) p5 = none → Q (.ref p5) (upd (upd (upd H5 p1 (.tup (vs ++ [v4]))) p2 (.tup [.str "steps", .ref p1])) p5 (.tup [.int (j : Nat), .ref p2, .int (c : Nat)]))) := fun hs p1 p2 p5 n1 n2 n5 => by
            refine q _ p5 (.ok (acc ++ [x], j, c)) (sm_upd (sm_upd (sm_upd sH n1) n2) n5) hs ⟨.ref p2, upd_same, ?_⟩
            have n12 : p1 ≠ p2 := ne_of_none upd_same n2
            exact dp_same (same_upd n5) (.tup (SqT.of upd_same) (.cons (.str _) (.cons (.tup (SqT.of (by rw [upd_ne n12, upd_same])) (dpa_same (same_upd n2) (dpa_same (same_upd n1) d5))) .nil)))
          by_cases ab : atS s j [32] = true
          · rw [ab]
            have h4 : stP s n i' b' = .ok (x, j, c) := by
              rcases h4 with h | ⟨x', j', c', h, h2, hd⟩
              · exact h.symm
              · cases h
                have h1 := (atS_get ab).2
                have h3 := (dgN_iff _).mp (atS_get hd).2
                rw [List.mem_singleton.mp h1] at h3
                omega
            obtain ⟨lt4, jl, c60⟩ := hS _ _ _ _ _ h4
            have cs := (stP_sz s n _ _ _ _ _ h4).2
            have xp := szS_pos x
            have jl2 := atS_lt ab
            refine iteF ⟨_, rfl, _, _, rfl, rfl, acc ++ [x], vs ++ [v4], j + 1, c, _, _, rfl, sH, e5, d5, by rw [List.length_append, l2]; rfl, by omega, c60 hb', by omega, fun f hf => ?_⟩
            obtain ⟨g, rfl⟩ : ∃ g, f' = g + 1 := ⟨f' - 1, by omega⟩
            refine ⟨g, by omega, ?_⟩
            rw [hF]
            unfold coP
            rw [h4]
            show rsP s (stP s n) (g + 1) (acc ++ [x]) j c = _
            rw [rsP, if_pos ab] <;> rfl
          · rw [Bool.not_eq_true] at ab
            rw [ab]
            refine iteT ⟨_, rfl, _, rfl, .inl ⟨p, _, rfl, SqL.of e5, fun p1 n1 => ⟨by show 2 ≤ sizeLine; decide, fun p2 n2 => ⟨_, rfl, by show 3 ≤ sizeLine; decide, fun p5 n5 => done ?_ p1 p2 p5 n1 n2 n5⟩⟩⟩⟩
            rcases h4 with h | ⟨x', j', c', h, h2, hd⟩
            · left
              rw [hF]
              unfold coP
              rw [← h]
              show _ = rsP s (stP s n) f' (acc ++ [x]) j c
              cases f' with
              | zero => rw [rsP]
              | succ f' => rw [rsP, ab, if_neg (by simp)]
            · cases h
              right
              refine ⟨_, _, _, rfl, ?_, hd⟩
              rw [hF]
              unfold coP
              rw [h2]
      · rintro σ H2 ⟨acc, vs, i', b', y5, y6, rfl, s2, e2, d2, l2, hi', hb', tb, hF⟩
        have tb : 62 ≤ b' := tb
        omega
theorem ok_stps {k : Nat} (B : BM mg) (L : RL K mg f_letters f_run f_tm f_stp f_row f_due d_letters d_run d_tm d_stp d_row d_due) : ∀ n, FnOk P w K mg base CX0 (k + 3 + 2 * n) f_stp d_stp ["_law_text_here", "_law_at", "_law_many", "_law_deep"] (spStp K n)
  | 0 => ok_stp_of (k := k + 2) (spR := fun _ _ _ _ => False) (by omega) B L (L.row.F.ok scRowAt (fun vs H Q E h => False.elim h) (fun cdv A outer s H vs Q E hr h => False.elim h)) fun m e => by cases e
  | n + 1 => ok_stp_of (k := k + 3 + 2 * n + 1) (by omega) B L (ok_row_of (k := k + 3 + 2 * n) B L (ok_stps B L n)) fun m e => by cases e; rfl
/-- the row that is due, or the place -/
def DueV (K : PySem.W.Frag) (H : Hp) (s : List Nat) (v : V) : Prop := match rdP s with
  | .ok r => Dp K H v (encR r)
  | .error j => v = .int (j : Nat)
def spDue (K : PySem.W.Frag) : Sp := fun vs H Q _ => ∃ (s : List Nat), vs = [.str (tx s)] ∧ s.length ≤ 600 ∧ ∀ H' v, Same H H' → DueV K H' s v → Q v H'
theorem ok_due {k : Nat} (B : BM mg) (L : RL K mg f_letters f_run f_tm f_stp f_row f_due d_letters d_run d_tm d_stp d_row d_due) : FnOk P w K mg base CX0 (k + 29) f_due d_due ["_law_text_here"] (spDue K) := by
  have GRo : FnOk P w K mg base CX0 (k + 28) f_row d_row ["_law_text_here", "_law_at", "_law_many", "_law_deep"] (spRow K 12) := ok_row_of (k := k + 27) B L (ok_stps B L 12)
  refine L.due.F.ok scDue (fun vs H Q E h => ?_) (fun cdv A outer st H vs Q E hr h => ?_)
  · obtain ⟨s, rfl, _⟩ := h
    rfl
  · obtain ⟨s, rfl, hl, q⟩ := h
    have nd := scDue.nd
    refine ⟨_, (pss_cons (ps_asg (pe_call GRo hr rfl L.row.g L.row.F.kp L.row.b .nil pass0 (pa_cons (pv 0) (pa_cons pe_int (pa_cons pe_int (pa_cons pe_int pa_nil))))) (pg_tup rfl (pgs_cons (pg_name (i := 1) nd rfl (.inl rfl)) (pgs_cons (pg_name (i := 2) nd rfl (.inl rfl)) (pgs_cons (pg_name (i := 3) nd rfl (.inl rfl)) pgs_nil)))))
      (pss_one (ps_ret (pe_ifExp (PW.pt (pw_and (pt_cmpR op_notN (pv 2) pe_non (nomark _)) (pw_and1 (pt_cmpR op_eq (pv 1) (pe_callB call_len_str (by rfl) B.len PySem.boot_len (pa_cons (pv 0) pa_nil)) (nomark _))))) (pv 2) (pv 1))))), ?_⟩
    refine ⟨_, rfl, s, 0, 0, rfl, by omega, hl, by omega, by omega, fun H4 p4 a4 s4 h4 r4 => ?_⟩
    unfold DueV rdP at q
    cases a4 with
    | error j =>
      obtain ⟨m4, e4⟩ := r4
      have h4 : rwP s (stP s 12) 0 0 = .error j := by
        rcases h4 with h | ⟨_, _, _, h, _⟩
        · exact h.symm
        · cases h
      rw [h4] at q
      refine ⟨p4, _, rfl, SqT.of e4, rfl, _, _, rfl, _, _, rfl, _, _, rfl, rfl, ?_⟩
      refine ⟨_, rfl, rfl, _, rfl, ?_⟩
      refine iteF (iteF ⟨_, rfl, q _ _ s4 rfl⟩)
    | ok x =>
      obtain ⟨r, j, c⟩ := x
      obtain ⟨v4, e4, d4⟩ := r4
      have v4n : decide (v4 = .non) = false := by
        unfold encR at d4
        cases d4
        rfl
      refine ⟨p4, _, rfl, SqT.of e4, rfl, _, _, rfl, _, _, rfl, _, _, rfl, rfl, ?_⟩
      refine ⟨_, rfl, rfl, _, rfl, ?_⟩
      rw [v4n]
      refine iteT ⟨_, rfl, _, rfl, _, rfl, by rw [tx_len, sizeLine_eq]; omega, rfl, _, rfl, ?_⟩
      rw [tx_len]
      rcases h4 with h | ⟨x', j', c', h, h2, hd⟩
      · rw [← h] at q
        have jl := (rwP_ok (stP_ok s 12) _ _ _ _ _ h.symm).2.1
        by_cases e : j = s.length
        · rw [show decide (V.int ((j : Nat) : Int) = V.int ((s.length : Nat) : Int)) = true from decide_eq_true (by rw [e])]
          have lt : ¬ j < s.length := by omega
          simp only [lt, if_false] at q
          exact iteT ⟨_, rfl, q _ _ s4 d4⟩
        · rw [show decide (V.int ((j : Nat) : Int) = V.int ((s.length : Nat) : Int)) = false from decide_eq_false fun h => by injection h with h; omega]
          have lt : j < s.length := by omega
          simp only [lt, if_true] at q
          exact iteF ⟨_, rfl, q _ _ s4 rfl⟩
      · cases h
        rw [h2] at q
        have lt := atS_lt hd
        rw [show decide (V.int ((j : Nat) : Int) = V.int ((s.length : Nat) : Int)) = false from decide_eq_false fun h => by injection h with h; omega]
        exact iteF ⟨_, rfl, q _ _ s4 rfl⟩
end
end NC
namespace NC
open PySem PySem.Spec PyProof.Rows L2
/-- the ends of a suite whose clause names slot i -/
def endsAs (i : Nat) (D : Ends) : Ends := { nx := fun σ => D.nx (σ.set i none), rt := D.rt, bk := fun σ => D.bk (σ.set i none), ct := fun σ => D.ct (σ.set i none) }
abbrev Clause := Value × Nat × (Addr → Value → Option Addr → TS)
def wManyA (K : PySem.W.Frag) (Wout : WX) (D : Ends) : List Clause → WX
  | [] => Wout
  | c :: r => fun cls d σ H => ∃ b, PySem.W.exmOne K cls c.1 = some b ∧ (b = true → ∀ a, H a = none → c.2.2 a cls d (endsAs c.2.1 D) (σ.set c.2.1 (some (.ref a))) H) ∧ (b = false → wManyA K Wout D r cls d σ H)
/-- the clause 'except x as n' reads c -/
structure AsOk (X : Cx) (x n : Str) (suite : List Stmt) (c : Clause) : Prop where
  slot : X.N[c.2.1]? = some n
  kind : X.env.kindOf n = some .local
  cls : Names X x c.1
  run : ∀ (a : Addr) (oe : Obj) (cls : Value) (d : Option Addr) (pn : List (Addr × Obj)), Zc cls d oe → (∃ vs, oe.data = .fields vs) → PSs (X.suite a ((a, oe) :: pn)) suite (c.2.2 a cls d)
inductive HdsA (X : Cx) : List ExceptHandler → List Clause → Prop
  | nil : HdsA X [] []
  | cons {x n : Str} {c : Clause} {b₀ : Stmt} {suite : List Stmt} {p q : Pos} {hds : List ExceptHandler} {l : List Clause} (ok : AsOk X x n (b₀ :: suite) c) (r : HdsA X hds l) : HdsA X (.ExceptHandler (some (.Name x p)) (some n) (b₀ :: suite) q :: hds) (c :: l)
/-- the exception at a, caught in X's own frame, with the state t -/
structure Gnd (X : Cx) (pins : List (Addr × Obj)) (a : Addr) (cls : Value) (d : Option Addr) (σ : L2.St) (H : Hp) (B : Heap) (t0 t : Shared) : Prop where
  own : X.stack = X.env :: X.outer
  frm : X.env.frame = some X.env.locals
  was : Inv X pins σ H t0
  low : ∀ b o, t0.heap.get? b = some o → b ∉ frs X.stack → B.get? b = some o
  up : t0.heap.UpToSlots t.heap
  new : H a = none
  io : t.os = t0.os
  gen : AllBare t.gens
  fly : HandSPX.FlyingZ B (X.env :: X.outer) a (Zc cls d) t.heap
section
variable {X : Cx} {pins : List (Addr × Obj)} {a : Addr} {cls : Value} {d : Option Addr} {σ : L2.St} {H : Hp} {B : Heap} {t0 t : Shared} {D : Ends}
theorem Gnd.to (G : Gnd X pins a cls d σ H B t0 t) {h : Heap} (f : HandSPX.FlyingZ B (X.env :: X.outer) a (Zc cls d) h) (u : t.heap.UpToSlots h) : Gnd X pins a cls d σ H B t0 { t with heap := h } := { G with up := G.up.trans u, fly := f }
theorem Gnd.now (G : Gnd X pins a cls d σ H B t0 t) : Inv X pins σ H t := G.was.landed G.low G.fly.1 G.up G.io G.gen
/-- the exception is no frame -/
theorem Gnd.off (G : Gnd X pins a cls d σ H B t0 t) : a ∉ frs (X.env :: X.outer) := fun z => by
  obtain ⟨o, vs, g1, _, g2⟩ := G.fly.there
  obtain ⟨_, o2, g3, g4⟩ := G.fly.2.2.1.mem z
  exact g4 _ ((Option.some.inj (g3.symm.trans g1)) ▸ g2)
/-- the state in the clause's suite -/
theorem Gnd.inS (G : Gnd X pins a cls d σ H B t0 t) : ∃ oe, Zc cls d oe ∧ (∃ vs, oe.data = .fields vs) ∧ t.heap.get? a = some oe ∧ Inv (X.suite a ((a, oe) :: (X.pn ++ pins))) [] σ H t := by
  obtain ⟨o, vs, g1, g2, g3⟩ := G.fly.there
  refine ⟨o, g2, ⟨vs, g3⟩, g1, G.now.suite g1 g3 G.new (fun z => G.off ?_) fun z => G.off ?_⟩
  · exact List.mem_filterMap.mpr ⟨_, .head _, G.frm.trans (congrArg some z.symm)⟩
  · exact let ⟨e, m, q⟩ := List.mem_filterMap.mp z; List.mem_filterMap.mpr ⟨e, .tail _ m, q⟩
/-- no clause is left: it flies on -/
theorem gnd_out {Wout : WX} (tk : Takes X Wout) (G : Gnd X pins a cls d σ H B t0 t) (w : Wout cls d σ H) : wpAny (model X.prog X.w) X.A (handleBy (.ref a) X.env []) (SP X pins D) X.xe t := by
  have away : wpAny (model X.prog X.w) X.A (setFlight (.ref a) (some X.env.locals)) (fun _ v => wpAny (model X.prog X.w) X.A (throw (.ref a) : Sem Flow) (SP X pins D) X.xe v) X.xe t :=
    HandSPX.setFlight_upZ G.fly fun g held u => wpAny_throw (tk _ _ ⟨a, B, t0, pins, σ, H, cls, d, rfl, G.was, G.low, G.up.trans u, .inr (.inr (G.own ▸ held)), G.new, G.io, G.gen, w⟩)
  rw [← G.frm] at away
  obtain ⟨_, _, _, o, vs, tb, _, _, g1, _, g2, g3, _⟩ := G.fly
  refine wpAny_handleBy_nil ?_
  unfold PySem.passOn
  refine wpAny_bind (wpAny_field g1 g2 g3 ?_)
  have nn : ¬ (Value.ref tb == Value.none) = true := by simp
  rw [if_neg nn]
  first | exact wpAny_bind (wpAny_pure (wpAny_bind away)) | exact wpAny_bind away
/-- one clause: its suite, or what follows it -/
theorem gnd_as {x n : Str} {c : Clause} {b₀ : Stmt} {suite : List Stmt} {p q : Pos} {hds : List ExceptHandler} (hN : X.N.Nodup) (C : AsOk X x n (b₀ :: suite) c) (G : Gnd X pins a cls d σ H B t0 t) {b : Bool} (m : PySem.W.exmOne X.K cls c.1 = some b)
    (yes : b = true → c.2.2 a cls d (endsAs c.2.1 D) (σ.set c.2.1 (some (.ref a))) H) (no : b = false → wpAny (model X.prog X.w) X.A (handleBy (.ref a) X.env hds) (SP X pins D) X.xe t) :
    wpAny (model X.prog X.w) X.A (handleBy (.ref a) X.env (.ExceptHandler (some (.Name x p)) (some n) (b₀ :: suite) q :: hds)) (SP X pins D) X.xe t := by
  obtain ⟨oe, z1, z2, z3, I⟩ := G.inS
  have lk : PySem.W.Looks (model X.prog X.w) t.heap (typeOf (.ref a)) cls := fun _ _ _ _ k r => wpAny_typeOf_ref (k _ _ z3) (z1.1.symm ▸ r)
  have nm : ∀ {Q E : Value → Shared → Prop}, Q c.1 t → wpAny (model X.prog X.w) (X.A.mark (some (.ref a))) (eval (.Name x p) X.env) Q E t := fun {Q E} r => C.cls.2.2.elim
    (fun g => ld_glob (X := X.suite a ((a, oe) :: (X.pn ++ pins))) I C.cls.1 g r C.cls.2.1) (fun g => ld_blt (X := X.suite a ((a, oe) :: (X.pn ++ pins))) I C.cls.1 g.1 g.2.1 r g.2.2 C.cls.2.1)
  refine wpAny_handleBy_cons (codeAny_handlers_test (nm ((PySem.W.exm_one (M := model X.prog X.w) G.now.kIn lk m).here ?_))) nofun
  cases b with
  | false => exact no rfl
  | true =>
    refine codeAny_handlers_suite_as (HandSPX.lands_againZ G.fly fun g f u => ?_)
    obtain ⟨o2, y1, y2, _, I2⟩ := (G.to f u).inS
    refine store_ok (X := X.suite a ((a, o2) :: (X.pn ++ pins))) (v := .ref a) I2 hN C.slot (.inl C.kind) rfl (fun v I3 => ?_) (.inr C.kind)
    have gone : ∀ {τ : L2.St} {G' : Hp} {v' : Shared} {R : Shared → Prop}, Inv (X.suite a ((a, o2) :: (X.pn ++ pins))) [] τ G' v' → (∀ v2, Inv X pins (τ.set c.2.1 none) G' v2 → R v2) → wpAny (model X.prog X.w) X.A (do bindName X.env n .none; unbindBehindTheSuite X.env n q) (fun _ v2 => R v2) X.xe v' :=
      fun k r => gone_ok (k.unsuite G.was.ok) hN C.slot C.kind r
    refine wpAny_mono ((C.run a o2 cls d (X.pn ++ pins) y1 y2).run [] v _ H _ I3 (yes rfl)) (fun fl v' r => ?_) fun _ _ e => e.elim
    match fl, r with
    | .next, ⟨τ, G', k, r⟩ => exact gone k fun v2 k2 => ⟨_, G', k2, r⟩
    | .brk, ⟨τ, G', k, r⟩ => exact gone k fun v2 k2 => ⟨_, G', k2, r⟩
    | .cont, ⟨τ, G', k, r⟩ => exact gone k fun v2 k2 => ⟨_, G', k2, r⟩
    | .ret _, ⟨y, τ, G', k, rl, r⟩ => exact gone k fun v2 k2 => ⟨y, _, G', k2, rl, r⟩
theorem gnd_all {Wout : WX} (hN : X.N.Nodup) (tk : Takes X Wout) (G : Gnd X pins a cls d σ H B t0 t) : ∀ {hds : List ExceptHandler} {l : List Clause}, HdsA X hds l → wManyA X.K Wout D l cls d σ H → wpAny (model X.prog X.w) X.A (handleBy (.ref a) X.env hds) (SP X pins D) X.xe t
  | _, _, .nil, w => gnd_out tk G w
  | _, _, .cons ok r, ⟨_, m, yes, no⟩ => gnd_as hN ok G m (fun e => yes e a G.new) fun e => gnd_all hN tk G r (no e)
theorem ps_try_manyA {body : List Stmt} {h₀ : ExceptHandler} {hds : List ExceptHandler} {l : List Clause} {pos : Pos} {tb : WX → TS} {Wout : WX} (own : X.stack = X.env :: X.outer) (frm : X.env.frame = some X.env.locals) (hN : X.N.Nodup) (tk : Takes X Wout)
    (bd : ∀ (W : WX) (pn : List (Addr × Obj)) (xe : Value → Shared → Prop), Takes (X.tr pn xe) W → PSs (X.tr pn xe) body (tb W)) (cl : HdsA X (h₀ :: hds) l) : PS X (.Try body (h₀ :: hds) [] [] pos) (fun D σ H => tb (wManyA X.K Wout D l) D σ H) := by
  refine ⟨fun ps s σ0 H0 D I h => wpAny_Try_except (wpAny_mono ((bd _ (X.pn ++ ps) _ ?_).run [] s σ0 H0 D (I.toTry _) h) (fun fl v r => ?_) fun _ _ e => e)⟩
  · rintro u v ⟨a, B, t0, _, σ, H, cls, d, rfl, J, low, up, sky, new, io, gen, w⟩
    have fr : X.A.frames = some (X.env :: X.outer) := I.ok.frames.trans (congrArg some own)
    refine Sky.land (Z := Zc cls d) Zc.steady fr frm (B := B) (own ▸ sky) fun g f u => ?_
    exact gnd_all hN tk (show Gnd X ps a cls d σ H B t0 { v with heap := g } from ⟨own, frm, J.ofTry I.ok, low, up.trans u, new, io, gen, f⟩) cl w
  · match fl, r with
    | .next, ⟨τ, G', k, r⟩ => exact wpAny_execs_nil ⟨τ, G', k.ofTry I.ok, r⟩
    | .brk, ⟨τ, G', k, r⟩ => exact ⟨τ, G', k.ofTry I.ok, r⟩
    | .cont, ⟨τ, G', k, r⟩ => exact ⟨τ, G', k.ofTry I.ok, r⟩
    | .ret _, ⟨y, τ, G', k, rl, r⟩ => exact ⟨y, τ, G', k.ofTry I.ok, rl, r⟩
end
end NC
namespace NC
open PySem PySem.Spec PyProof.Rows L2
theorem un_join {fs gs : List Addr} {H0 H1 H2 : Hp} {h0 h1 h2 : Heap} (a : Un fs [] H0 H1 h0 h1) (b : Un gs [] H1 H2 h1 h2) (y : ∀ c ∈ gs, c ∈ fs ∨ h0.get? c = none) : Un fs [] H0 H2 h0 h2 where
  keep := fun c o g n nf nx => b.keep c o (a.keep c o g n nf nx) (a.free c o g n nx) (fun m => (y c m).elim nf fun z => by rw [g] at z; cases z) nx
  slot := fun c o g n mf nx => by
    obtain ⟨_, g1⟩ := a.slot c o g n mf nx
    obtain ⟨sl, g2⟩ := b.any g1 (a.free c o g n nx) nx
    exact ⟨sl, g2⟩
  free := fun c o g n nx => let ⟨o1, g1⟩ := a.there c o g nx; b.free c o1 g1 (a.free c o g n nx) nx
  there := fun c o g nx => let ⟨o1, g1⟩ := a.there c o g nx; b.there c o1 g1 nx
  tups := fun c xs g => b.tups c xs (a.tups c xs g)
  frzs := fun c o u g => b.frzs c o u (a.frzs c o u g)
  tbls := fun c ps g => by
    obtain ⟨m, g1⟩ := a.tbls c ps g
    obtain ⟨m', g2⟩ := b.tbls c _ g1
    exact ⟨m ++ m', g2.trans (by rw [Array.append_assoc])⟩
/-- f, called with nothing, does tl as long as J; fs H0 h0: the frames and the heaps that this was said of -/
structure Acts (P : Program) (w : World) (K : PySem.W.Frag) (mg : Str → Option Value) (B : Heap) (k : Nat) (f : Addr) (J : Hp → Prop) (fs : List Addr) (H0 : Hp) (h0 : Heap) (tl : XK → Hp → VK → Prop) : Prop where
  obj : ∀ (G : Hp) (s : Shared), Un fs [] H0 G h0 s.heap → HOk P w G s.heap → J G → PySem.W.FnAt f s.heap
  run : ∀ (A : Around) (out : List Env) (s : Shared) (G : Hp) (Q : VK) (E : XK), Room (k + 1) A → Env0 P w K mg B A out s G → Un fs [] H0 G h0 s.heap → J G → tl E G Q →
    codeAny (model P w) A (.call (.ref f) ⟨[], []⟩) (CR (L2.CX P w) out P w G s Q E) s
section
variable {P : Program} {w : World} {K : PySem.W.Frag} {mg : Str → Option Value} {B : Heap} {k j : Nat} {f g : Addr} {J : Hp → Prop} {fs gs : List Addr} {H0 H1 : Hp} {h0 h1 : Heap} {tl : XK → Hp → VK → Prop}
theorem Acts.move (a : Acts P w K mg B k f J fs H0 h0 tl) (u : Un fs [] H0 H1 h0 h1) (y : ∀ c ∈ gs, c ∈ fs ∨ h0.get? c = none) : Acts P w K mg B k f J gs H1 h1 tl :=
  ⟨fun G s v => a.obj G s (un_join u v y), fun A out s G Q E r e v => a.run A out s G Q E r e (un_join u v y)⟩
theorem Acts.mono {i : Nat} (a : Acts P w K mg B k f J fs H0 h0 tl) (l : k ≤ i) : Acts P w K mg B i f J fs H0 h0 tl := ⟨a.obj, fun A out s G Q E r => a.run A out s G Q E (r.mono (by omega))⟩
/-- from a def's beginning to where it stands -/
theorem Acts.here {Z : Cx} {pins : List (Addr × Obj)} {σ : L2.St} {H : Hp} {s : Shared} (I : Inv Z pins σ H s) (ex : Z.ex = []) (a : Acts Z.prog Z.w Z.K Z.mg Z.base k f J Z.fs Z.H_0 Z.s_0.heap tl) : Acts Z.prog Z.w Z.K Z.mg Z.base k f J (frs Z.stack) H s.heap tl :=
  a.move (ex ▸ I.base) fun c m => (List.mem_cons.mp (I.stkSub c m)).elim (fun e => .inr (by rw [e]; exact Heap.get?_none_of_le I.ok.above)) .inl
variable {fd : FuncData} {ps : List Str} {sp : Addr → (XK → Hp → VK → Prop) → List V → Hp → VK → Prop}
end
end NC
namespace NC
open PySem PySem.Spec PyProof.Rows L2
theorem op_mul_str {X : Cx} : OpR X (binaryOp .Mult) (fun x y H Q => ∃ i n, x = .str i ∧ y = .int n ∧ MulOk i n ∧ Q (.str (Txt.mul i n)) H) := by
  intro pins s σ H x y v u Q I rx ry h
  obtain ⟨i, n, rfl, rfl, ok, q⟩ := h
  obtain ⟨t, rfl⟩ := rx
  obtain ⟨t', rfl⟩ := ry
  exact PySem.SB.mul ok (fun t' k => ⟨.str _, H, I.tok _, ⟨_, rfl⟩, q⟩)
end NC
namespace NC
open PySem PySem.Spec PyProof.Rows L2
abbrev sTold : Stmt := topS 25
abbrev nTold : List Str := ["_law_text_here", "_law_found", "e"]
theorem scTold : FnScope nTold ["_law_text_here"] (defScope sTold) := ⟨rfl, rfl, rfl, by decide +kernel, rfl, by decide +kernel, by decide +kernel⟩
abbrev sPiece : Stmt := topS 26
abbrev nPiece : List Str := ["_law_d", "_law_name", "_law_some", "_law_number"]
theorem scPiece : FnScope nPiece ["_law_d"] (defScope sPiece) := ⟨rfl, rfl, rfl, by decide +kernel, rfl, by decide +kernel, by decide +kernel⟩
abbrev sText : Stmt := topS 27
abbrev nText : List Str := ["_law_d", "_law_how", "_law_many", "_law_k"]
theorem scText : FnScope nText ["_law_d"] (defScope sText) := ⟨rfl, rfl, rfl, by decide +kernel, rfl, by decide +kernel, by decide +kernel⟩
abbrev sSpoilt : Stmt := topS 28
abbrev nSpoilt : List Str := ["_law_d", "_law_text_here", "_law_signs", "_law_at", "_law_sign"]
theorem scSpoilt : FnScope nSpoilt ["_law_d", "_law_text_here"] (defScope sSpoilt) := ⟨rfl, rfl, rfl, by decide +kernel, rfl, by decide +kernel, by decide +kernel⟩
def tXfG (K : PySem.W.Frag) (a : Addr) (cls : Value) (d : Option Addr) (f : Str) (te : TE) : TE := fun σ H Q => te σ H fun x H1 => x = .ref a ∧ ∃ (C dd : Addr) (fs : List (Str × V)) (v : V), cls = .ref C ∧ XfC K C ∧ PySem.W.findIn K (.ref C) f = some none ∧ d = some dd ∧ H1 dd = some (.xd fs) ∧ fs.lookup f = some v ∧ Q v H1
theorem pe_xfG {X : Cx} {a : Addr} {oe : Obj} {cls : Value} {d : Option Addr} {pn : List (Addr × Obj)} {e : Expr} {i : Nat} {pos : Pos} {n : Str} (hz : Zc cls d oe) (hf : ∃ vs, oe.data = .fields vs) (at_ : PE (X.suite a ((a, oe) :: pn)) e (tVar i))
    (hb : attributeBase e n X.env (eval e X.env) = eval e X.env := by rfl) : PE (X.suite a ((a, oe) :: pn)) (.Attribute e n pos) (tXfG X.K a cls d n (tVar i)) :=
  ⟨fun ps s σ H Q I ⟨v, sv, ev, C, dd, fs, u, ec, T, no, ed, ea, lu, q⟩ => (pe_xf (C := C) T no hz hf at_ hb).run ps s σ H Q I ⟨v, sv, ev, ec, dd, fs, u, ed, ea, lu, q⟩⟩
theorem takes_len {X : Cx} {W : WX} (t : Takes X W) : Takes X (fun c d σ H => σ.length = X.N.length → W c d σ H) := fun u s' ⟨a, B, sI, pins, σ, H, cls, d, e, I, nb, up, sky, na, os, ag, w⟩ =>
  t u s' ⟨a, B, sI, pins, σ, H, cls, d, e, I, nb, up, sky, na, os, ag, w I.len⟩
/-- the refusal, as _law_told knows it -/
structure EX (K : PySem.W.Frag) (CE : Addr) : Prop where
  f : XfC K CE
  ff : PySem.W.exmOne K (.ref CE) (.ref CE) = some true
/-- what the clause is told -/
def EchR (CE : Addr) (Q : VK) : XK := fun cls d H' => cls = .ref CE ∧ ∃ dd, ∃ j : Nat, d = some dd ∧ H' dd = some (.xd [("at", .int (j : Nat)), ("word", .str "badtext")]) ∧ Q (.int (j : Nat)) H'
/-- a text of at most so many signs -/
def StB (n : Nat) (v : V) : Prop := ∃ z : List Nat, v = .str (tx z) ∧ z.length ≤ n
theorem stB {n : Nat} {x : Str} (h : x.length ≤ n) : StB n (.str x) := ⟨x.cps.toList, by rw [str_tx], by simpa [Str.length] using h⟩
theorem StB.mono {n m : Nat} {v : V} (h : StB n v) (l : n ≤ m) : StB m v := by
  obtain ⟨z, e, hz⟩ := h
  exact ⟨z, e, by omega⟩
theorem get_all {p : V → Prop} : ∀ {xs : List V}, (∀ x ∈ xs, p x) → ∀ {i : Nat} {v : V}, xs[i]? = some v → p v := fun h _ _ hv => h _ (List.mem_of_getElem? hv)
theorem mulokS (x : Str) (n : Nat) (hx : x.length ≤ 4) (hn : n ≤ 40) : MulOk x ((n : Nat) : Int) := by
  unfold MulOk
  refine ⟨?_, fun h1 _ h3 => ?_, fun _ _ => ?_⟩
  · rw [decide_eq_false (by omega), decide_eq_false (by omega)]
    rfl
  · have h1 : (0 : Int) < ((n : Nat) : Int) := by omega
    have : (5 : Int) ≤ (2 ^ 63 - 1) / ((n : Nat) : Int) := (Int.le_ediv_iff_mul_le h1).mpr (by omega)
    omega
  · rw [Int.toNat_natCast]
    have : x.length * n ≤ 4 * 40 := Nat.mul_le_mul hx hn
    have := sizeLine_eq
    unfold Builtin.Str.tooLong
    exact decide_eq_false (by omega)
theorem fold_size (a : Array Nat) : ∀ (n : Nat) (b : Array Nat), ((List.replicate n a).foldl (· ++ ·) b).size = b.size + n * a.size
  | 0, b => by simp
  | n + 1, b => by
    rw [List.replicate_succ, List.foldl_cons, fold_size a n, Array.size_append, Nat.add_mul]
    omega
theorem mul_size (x : Str) (n : Nat) : (Txt.mul x ((n : Nat) : Int)).length ≤ n * x.length := by
  unfold Txt.mul
  split
  · show 0 ≤ _
    omega
  · split
    · rename_i h1 h2
      have : 1 ≤ n := by omega
      calc x.length = 1 * x.length := by omega
        _ ≤ n * x.length := Nat.mul_le_mul_right _ this
    · show ((List.replicate ((n : Nat) : Int).toNat x.cps).foldl (· ++ ·) #[]).size ≤ _
      rw [fold_size, Int.toNat_natCast]
      show 0 + n * x.cps.size ≤ n * x.cps.size
      omega
theorem cut_from (l : List Nat) (j : Nat) : cutS (tx l) (some ((j : Nat) : Int)) none = tx (l.drop j) := by
  unfold cutS
  rw [HT.sIx_none, HT.sIx_nat, tx_list, tx_len]
  rcases Nat.le_total j l.length with h | h
  · rw [Nat.min_eq_left h, List.take_of_length_le (by rw [List.length_drop]; exact Nat.le_refl _)]
    rfl
  · rw [Nat.min_eq_right h, List.drop_of_length_le h, List.drop_of_length_le (Nat.le_refl _), List.take_nil]
    rfl
theorem cutS_to (l : List Nat) (j : Nat) : cutS (tx l) none (some ((j : Nat) : Int)) = tx (l.take j) := by
  unfold cutS
  rw [HT.sIx_none, HT.sIx_nat, tx_list, tx_len, List.drop_zero, Nat.sub_zero]
  rcases Nat.le_total j l.length with h | h
  · rw [Nat.min_eq_left h]
    rfl
  · rw [Nat.min_eq_right h, List.take_of_length_le (Nat.le_refl _), List.take_of_length_le h]
    rfl
theorem stB_app {a b : Nat} {x : Str} {z : List Nat} (hx : x.length ≤ a) (hz : z.length ≤ b) : StB (a + b) (.str (x ++ tx z)) := by
  have e : x = tx x.cps.toList := str_tx.symm
  refine ⟨x.cps.toList ++ z, by rw [← tx_app, ← e], ?_⟩
  rw [List.length_append]
  have : x.cps.toList.length = x.length := by simp [Str.length]
  omega
/-- the law's own texts -/
structure RX (K : PySem.W.Frag) (mg : Str → Option Value) (f_of f_draw f_told f_piece f_text f_spoilt : Addr) (d_of d_draw d_told d_piece d_text d_spoilt : FuncData) : Prop where
  of : DF K mg "_law_of" sOf ["_law_d", "_law_some"] f_of d_of
  draw : DF K mg "_law_draw" sDraw ["_law_d", "_law_many"] f_draw d_draw
  told : DF K mg "_law_told" sTold ["_law_text_here"] f_told d_told
  piece : DF K mg "_law_piece" sPiece ["_law_d"] f_piece d_piece
  text : DF K mg "_law_text" sText ["_law_d"] f_text d_text
  spoilt : DF K mg "_law_spoilt" sSpoilt ["_law_d", "_law_text_here"] f_spoilt d_spoilt
  ms : mg "str" = none
section
variable {P : Program} {w : World} {K : PySem.W.Frag} {mg : Str → Option Value} {base : Heap} {f_of f_draw f_told f_piece f_text f_spoilt : Addr} {d_of d_draw d_told d_piece d_text d_spoilt : FuncData}
section
variable {RC CB CH fH fB f_rr : Addr} {fdH fdB d_rr : FuncData} {g_ini g_sg g_sd g_tk g_lt g_nm g_gr g_sp g_rw : Addr} {e_ini e_sg e_sd e_tk e_lt e_nm e_gr e_sp e_rw : FuncData}
def spTold (K : PySem.W.Frag) : Sp := fun vs H Q _ => ∃ s : List Nat, vs = [.str (tx s)] ∧ s.length ≤ 600 ∧ ∀ H' v, Same H H' → DueV K H' s v → Q v H'
set_option maxHeartbeats 1000000 in
theorem ok_told {k : Nat} (B : BM mg) (L : RX K mg f_of f_draw f_told f_piece f_text f_spoilt d_of d_draw d_told d_piece d_text d_spoilt) (R : RdC K mg RC g_ini g_sg g_sd g_tk g_lt g_nm g_gr g_sp g_rw e_ini e_sg e_sd e_tk e_lt e_nm e_gr e_sp e_rw) (T : HE K mg CH fH fdH) (X : XC K mg "BadText" "BadText.__init__" sBTinit "at" CB fB fdB) (Rr : DF K mg "read_row" sReadRow ["text"] f_rr d_rr) (Ex : EX K CB) : FnOk P w K mg base CX0 (k + 45) f_told d_told ["_law_text_here"] (spTold K) := by
  have GS : FnOk P w K mg base (L2.CX P w) (k + 44) f_rr d_rr ["text"] (spRR K CB) := ok_rr R T X Rr.F
  refine L.told.F.ok scTold (fun vs H Q E h => ?_) (fun cdv A outer st H vs Q E hr h => ?_)
  · obtain ⟨s, rfl, _⟩ := h
    rfl
  · obtain ⟨s, rfl, hl, q⟩ := h
    refine ⟨_, pss_cons (ps_try_manyA (X := (cxOf CX0 P w K mg base nTold "_law_told" (defScope sTold) f_told cdv A outer st H E).nox)
      (tb := fun W D σ G => ∃ Ech : XK, (∀ cls d σ' H', Ech cls d H' → σ'.length = 3 → W cls d σ' H') ∧ tAsg (tCall (spRR K CB) [] Ech (tCons (tVar 0) tNil)) (gName 1) D σ G)
      rfl rfl scTold.nd LamX.takes0 (fun W pn xe tk => ?_)
      (HdsA.cons (c := (.ref CB, 2, fun a cls d => tAsg (tXfG K a cls d "at" (tVar 2)) (gName 1))) ⟨rfl, rfl, ⟨rfl, by decide, .inl X.gC⟩, fun a oe cls d pn hz hf => pss_one (ps_set (i := 1) scTold.nd rfl (.inl rfl) (pe_xfG hz hf (pv 2)))⟩
      .nil))
    (pss_one (ps_ret (pv 1))), ?_⟩
    · refine ⟨fun pins s' σ G D I h' => ?_⟩
      obtain ⟨Ech, hW, h3⟩ := h'
      refine PSs.run (X := (cxOf CX0 P w K mg base nTold "_law_told" (defScope sTold) f_told cdv A outer st H E).nox.tr pn xe) (t := tAsg (tCall (spRR K CB) [] Ech (tCons (tVar 0) tNil)) (gName 1)) ?_ pins s' σ G D I h3
      exact pss_one (ps_set (i := 1) scTold.nd rfl (.inl rfl) (pe_call (E := Ech) GS hr rfl Rr.g Rr.F.kp Rr.b .nil (passes_call (takes_len tk) hW) (pa_cons (pv 0) pa_nil)))
    · refine ⟨EchR CB Q, fun cls d σ' H' he hl => ?_, ?_⟩
      · obtain ⟨y0, y1, y2, rfl⟩ : ∃ y0 y1 y2, σ' = [y0, y1, y2] := by
          match σ', hl with
          | [a, b, c], _ => exact ⟨a, b, c, rfl⟩
        obtain ⟨rfl, dd, j, rfl, e, qj⟩ := he
        refine ⟨true, Ex.ff, fun _ a na => ?_, fun z => by cases z⟩
        exact ⟨_, rfl, rfl, CB, dd, _, _, rfl, Ex.f, X.hf, rfl, e, rfl, _, rfl, qj⟩
      · refine ⟨_, rfl, s, rfl, by omega, ?_⟩
        unfold DueV at q
        cases e : rdP s with
        | ok r =>
          rw [e] at q
          exact fun H' v s' hv => ⟨_, rfl, q H' v s' hv⟩
        | error j =>
          rw [e] at q
          exact fun H' d s' nd e' => ⟨rfl, d, j, rfl, e', q H' _ s' rfl⟩
end
def spPiece : Sp := fun vs H Q _ => ∃ d, vs = [.ref d] ∧ Dr H d ∧ ∀ H' v, SmD d H H' → Dr H' d → StB 60 v → Q v H'
set_option maxHeartbeats 2000000 in
theorem ok_piece {k : Nat} (B : BM mg) (L : RX K mg f_of f_draw f_told f_piece f_text f_spoilt d_of d_draw d_told d_piece d_text d_spoilt) : FnOk P w K mg base CX0 (k + 3) f_piece d_piece ["_law_d"] spPiece := by
  have GO : FnOk P w K mg base CX0 (k + 2) f_of d_of ["_law_d", "_law_some"] (spOf K) := ok_of B L.of.F L.draw
  refine L.piece.F.ok scPiece (fun vs H Q E h => ?_) (fun cdv A outer st H vs Q E hr h => ?_)
  · obtain ⟨d, rfl, _⟩ := h
    rfl
  · obtain ⟨d, rfl, hD, q⟩ := h
    have nd := scPiece.nd
    refine ⟨_, (pss_cons (ps_set (i := 1) nd rfl (.inl rfl) (pe_call GO hr rfl L.of.g L.of.F.kp L.of.b .nil pass0 (pa_cons (pv 0) (pa_cons (pe_lst (pa_cons pe_str (pa_cons pe_str (pa_cons pe_str (pa_cons pe_str (pa_cons pe_str pa_nil)))))) pa_nil))))
      (pss_cons (ps_set (i := 2) nd rfl (.inl rfl) (pe_lst (pa_cons pe_str (pa_cons pe_str (pa_cons pe_str (pa_cons pe_str (pa_cons pe_str (pa_cons pe_str (pa_cons (pe_op op_add_str (pe_op op_add_str pe_str (pv 1)) pe_str) (pa_cons pe_str (pa_cons pe_str pa_nil)))))))))))
      (pss_cons (ps_set (i := 3) nd rfl (.inl rfl) (pe_call GO hr rfl L.of.g L.of.F.kp L.of.b .nil pass0 (pa_cons (pv 0) (pa_cons (pe_lst (pa_cons pe_str (pa_cons pe_str (pa_cons pe_str (pa_cons pe_str (pa_cons (pe_callTy call_str_int (by rfl) L.ms (by decide +kernel) (pa_cons (pe_op op_pow pe_int pe_int) pa_nil)) (pa_cons (pe_callTy call_str_int (by rfl) L.ms (by decide +kernel) (pa_cons (pe_op op_add (pe_op op_pow pe_int pe_int) pe_int) pa_nil)) (pa_cons (pe_op op_add_str (pe_callTy call_str_int (by rfl) L.ms (by decide +kernel) (pa_cons (pe_op op_pow pe_int pe_int) pa_nil)) pe_str) (pa_cons (pe_op op_mul_str pe_str pe_int) (pa_cons pe_str pa_nil)))))))))) pa_nil))))
      (pss_one (ps_ret (pe_call GO hr rfl L.of.g L.of.F.kp L.of.b .nil pass0 (pa_cons (pv 0) (pa_cons (pe_op op_cat (pv 2) (pe_lst (pa_cons (pe_op op_add_str pe_str (pv 3)) (pa_cons (pe_op op_add_str pe_str (pv 3)) (pa_cons (pe_op op_add_str pe_str (pv 3)) pa_nil))))) pa_nil)))))))), ?_⟩
    refine ⟨_, rfl, by show 5 ≤ sizeLine; decide, fun p1 np1 => ?_⟩
    refine ⟨d, _, rfl, hD.same (same_upd np1), .inl ⟨p1, _, rfl, hD.ne np1, SqL.of upd_same, by show 1 ≤ 5; decide, by show 5 ≤ 1000; decide, fun H1 v1 j1 s1 D1 hv1 => ?_⟩⟩
    obtain ⟨z1, rfl, l1⟩ : StB 9 v1 := get_all (p := StB 9) (fun x hx => by
      simp only [List.mem_cons, List.not_mem_nil, or_false] at hx
      rcases hx with rfl | rfl | rfl | rfl | rfl <;> exact stB (by decide +kernel)) hv1
    have s01 : SmD d H H1 := (SmD.of (same_upd np1)).trans s1
    have e1 : Str.ofString "<" ++ tx z1 ++ Str.ofString ">" = tx (60 :: (z1 ++ [62])) := by
      rw [show Str.ofString "<" = tx [60] by decide +kernel, show Str.ofString ">" = tx [62] by decide +kernel, tx_app, tx_app]
      rfl
    refine ⟨_, rfl, _, _, rfl, rfl, ?_, _, _, rfl, rfl, ?_, ?_⟩
    · rw [show Str.ofString "<" = tx [60] by decide +kernel, tx_len, tx_len, sizeLine_eq]; show 1 + _ ≤ _; omega
    · rw [show Str.ofString "<" = tx [60] by decide +kernel, show Str.ofString ">" = tx [62] by decide +kernel, tx_app, tx_len, tx_len, sizeLine_eq, List.length_append]; show 1 + _ + 1 ≤ _; omega
    rw [e1]
    refine ⟨by show 9 ≤ sizeLine; decide, fun p2 np2 => ?_⟩
    have D2 := D1.same (same_upd np2 (o := .lst [V.str (Str.ofString "."), .str (Str.ofString ".aB"), .str (Str.ofString ".abcdefghijkl"), .str (Str.ofString ".abcdefghijklm"), .str (Str.ofString "~a"), .str (Str.ofString "~"), .str (tx (60 :: (z1 ++ [62]))), .str (Str.ofString "-"), .str (Str.ofString "()*3")]))
    have np2d := D1.ne np2
    have ep2 : (upd H1 p2 (.lst [V.str (Str.ofString "."), .str (Str.ofString ".aB"), .str (Str.ofString ".abcdefghijkl"), .str (Str.ofString ".abcdefghijklm"), .str (Str.ofString "~a"), .str (Str.ofString "~"), .str (tx (60 :: (z1 ++ [62]))), .str (Str.ofString "-"), .str (Str.ofString "()*3")])) p2 = some (.lst [V.str (Str.ofString "."), .str (Str.ofString ".aB"), .str (Str.ofString ".abcdefghijkl"), .str (Str.ofString ".abcdefghijklm"), .str (Str.ofString "~a"), .str (Str.ofString "~"), .str (tx (60 :: (z1 ++ [62]))), .str (Str.ofString "-"), .str (Str.ofString "()*3")]) := upd_same
    have s12 := s01.trans (SmD.of (same_upd np2 (o := .lst [V.str (Str.ofString "."), .str (Str.ofString ".aB"), .str (Str.ofString ".abcdefghijkl"), .str (Str.ofString ".abcdefghijklm"), .str (Str.ofString "~a"), .str (Str.ofString "~"), .str (tx (60 :: (z1 ++ [62]))), .str (Str.ofString "-"), .str (Str.ofString "()*3")])))
    have b2 : ∀ x ∈ [V.str (Str.ofString "."), .str (Str.ofString ".aB"), .str (Str.ofString ".abcdefghijkl"), .str (Str.ofString ".abcdefghijklm"), .str (Str.ofString "~a"), .str (Str.ofString "~"), .str (tx (60 :: (z1 ++ [62]))), .str (Str.ofString "-"), .str (Str.ofString "()*3")], StB 60 x := fun x hx => by
      simp only [List.mem_cons, List.not_mem_nil, or_false] at hx
      rcases hx with rfl | rfl | rfl | rfl | rfl | rfl | rfl | rfl | rfl
      all_goals first
        | exact stB (by decide +kernel)
        | exact ⟨_, rfl, by simp; omega⟩
    have l2 : [V.str (Str.ofString "."), .str (Str.ofString ".aB"), .str (Str.ofString ".abcdefghijkl"), .str (Str.ofString ".abcdefghijklm"), .str (Str.ofString "~a"), .str (Str.ofString "~"), .str (tx (60 :: (z1 ++ [62]))), .str (Str.ofString "-"), .str (Str.ofString "()*3")].length = 9 := rfl
    generalize [V.str (Str.ofString "."), .str (Str.ofString ".aB"), .str (Str.ofString ".abcdefghijkl"), .str (Str.ofString ".abcdefghijklm"), .str (Str.ofString "~a"), .str (Str.ofString "~"), .str (tx (60 :: (z1 ++ [62]))), .str (Str.ofString "-"), .str (Str.ofString "()*3")] = ws at *
    generalize upd H1 p2 (.lst ws) = H2 at *
    refine ⟨_, rfl, _, _, rfl, rfl, ⟨by decide, by decide, by decide⟩, _, rfl, by decide +kernel, _, _, rfl, rfl, ⟨by decide, by decide, by decide⟩, _, _, rfl, rfl, _, rfl, by decide +kernel, _, _, rfl, rfl, ⟨by decide, by decide, by decide⟩, _, rfl, by decide +kernel, _, _, rfl, rfl, by decide +kernel, _, _, rfl, rfl, mulokS (Str.ofString "9") 31 (by decide +kernel) (by decide), ?_⟩
    refine ⟨by show 9 ≤ sizeLine; decide, fun p3 np3 => ?_⟩
    refine ⟨d, _, rfl, D2.same (same_upd np3), .inl ⟨p3, _, rfl, D2.ne np3, SqL.of upd_same, by show 1 ≤ 9; decide, by show 9 ≤ 1000; decide, fun H4 v4 j4 s4 D4 hv4 => ?_⟩⟩
    obtain ⟨z4, rfl, l4⟩ : StB 40 v4 := get_all (p := StB 40) (fun x hx => by
      simp only [List.mem_cons, List.not_mem_nil, or_false] at hx
      rcases hx with rfl | rfl | rfl | rfl | rfl | rfl | rfl | rfl | rfl
      all_goals first
        | exact stB (by decide +kernel)
        | exact stB (Nat.le_trans (mul_size _ 31) (by decide +kernel))) hv4
    have s34 := s12.trans ((SmD.of (same_upd np3)).trans s4)
    have ep4 := s4.1 _ _ np2d (same_upd np3 _ _ ep2)
    have ca : ∀ x : Str, x.length ≤ 20 → x.length + (tx z4).length ≤ sizeLine := fun x hx => by rw [tx_len, sizeLine_eq]; omega
    refine ⟨_, rfl, _, rfl, _, rfl, _, _, rfl, rfl, ca _ (by decide +kernel), _, rfl, _, _, rfl, rfl, ca _ (by decide +kernel), _, rfl, _, _, rfl, rfl, ca _ (by decide +kernel), by show 3 ≤ sizeLine; decide, fun p5 np5 => ?_⟩
    refine ⟨p2, p5, ws, _, rfl, rfl, same_upd np5 _ _ ep4, upd_same, by rw [l2, sizeLine_eq]; show 9 + 3 ≤ _; omega, fun p6 np6 => ?_⟩
    have D5 := D4.same (same_upd np5 (o := .lst [.str (Str.ofString "(.a <b>)*" ++ tx z4), .str (Str.ofString "(-)*" ++ tx z4), .str (Str.ofString "((.a)*2 ~b)*" ++ tx z4)]))
    refine ⟨d, _, rfl, D5.same (same_upd np6), .inl ⟨p6, _, rfl, D5.ne np6, SqL.of upd_same, by rw [List.length_append, l2]; show 1 ≤ 9 + 3; decide, by rw [List.length_append, l2]; show 9 + 3 ≤ 1000; decide, fun H7 v7 j7 s7 D7 hv7 => ?_⟩⟩
    refine q H7 v7 (s34.trans ((SmD.of (sm_trans (same_upd np5) (same_upd np6))).trans s7)) D7 ?_
    refine get_all (p := StB 60) (fun x hx => ?_) hv7
    rcases List.mem_append.mp hx with hx | hx
    · exact b2 x hx
    · simp only [List.mem_cons, List.not_mem_nil, or_false] at hx
      rcases hx with rfl | rfl | rfl <;> exact (stB_app (a := 20) (by decide +kernel) l4)
theorem sepB_len : ∀ L : List (List Nat), (sepB L).length ≤ (L.map fun x => x.length + 1).sum := fun L => sep_len L _ (Nat.le_refl _)
theorem sum_le_n {n : Nat} : ∀ L : List (List Nat), (∀ z ∈ L, z.length ≤ n) → (L.map fun x => x.length + 1).sum ≤ (n + 1) * L.length
  | [], _ => Nat.zero_le _
  | a :: L, h => by
    have := h a (List.mem_cons_self ..)
    have := sum_le_n L fun z hz => h z (List.mem_cons_of_mem _ hz)
    rw [List.map_cons, List.sum_cons, List.length_cons, Nat.mul_succ]
    omega
theorem sum_tx (L : List (List Nat)) : ((L.map tx).map fun x : Str => x.length).sum ≤ (L.map fun x => x.length + 1).sum := by
  rw [List.map_map]
  exact sum_le_map fun x => by show (tx x).length ≤ _; rw [tx_len]; omega
def spTextR : Sp := fun vs H Q _ => ∃ d, vs = [.ref d] ∧ Dr H d ∧ ∀ H' (z : List Nat), SmD d H H' → Dr H' d → z.length ≤ 400 → Q (.str (tx z)) H'
set_option maxHeartbeats 2000000 in
theorem ok_textR {k : Nat} (B : BM mg) (L : RX K mg f_of f_draw f_told f_piece f_text f_spoilt d_of d_draw d_told d_piece d_text d_spoilt) : FnOk P w K mg base CX0 (k + 4) f_text d_text ["_law_d"] spTextR := by
  have GD : FnOk P w K mg base CX0 (k + 1) f_draw d_draw ["_law_d", "_law_many"] spDraw := ok_draw B L.draw.F
  have GP : FnOk P w K mg base CX0 (k + 3) f_piece d_piece ["_law_d"] spPiece := ok_piece B L
  refine L.text.F.ok scText (fun vs H Q E h => ?_) (fun cdv A outer st H vs Q E hr h => ?_)
  · obtain ⟨d, rfl, _⟩ := h
    rfl
  · obtain ⟨d, rfl, hD, q⟩ := h
    have nd := scText.nd
    have r1 : Room (k + 1) _ := hr.mono (by omega)
    refine ⟨_, (pss_cons (ps_set (i := 1) nd rfl (.inl rfl) (pe_call GD r1 rfl L.draw.g L.draw.F.kp L.draw.b .nil pass0 (pa_cons (pv 0) (pa_cons pe_int pa_nil))))
      (pss_cons (ps_if (pt_cmpR op_eq (pv 1) pe_int (nomark _))
        (pss_cons (ps_set (i := 2) nd rfl (.inl rfl) (pe_op op_add pe_int (pe_call GD r1 rfl L.draw.g L.draw.F.kp L.draw.b .nil pass0 (pa_cons (pv 0) (pa_cons pe_int pa_nil)))))
      (pss_one (ps_ret (pe_op op_add_str (pe_op op_add_str (pe_op op_mul_str pe_str (pv 2)) pe_str) (pe_op op_mul_str pe_str (pv 2))))))
        pss_nil)
      (pss_cons (ps_if (pt_cmpR op_eq (pv 1) pe_int (nomark _))
        (pss_one (ps_ret (pe_join pe_str (pe_op op_rep (pe_lst (pa_cons pe_str pa_nil)) (pe_op op_add pe_int (pe_call GD r1 rfl L.draw.g L.draw.F.kp L.draw.b .nil pass0 (pa_cons (pv 0) (pa_cons pe_int pa_nil))))))))
        pss_nil)
      (pss_one (ps_ret (pe_join pe_str (pe_lc (own := [("_law_k", 3)]) (g := gName 3) (tt := tYes) (te := tCall spPiece [] E0 (tCons (tVar 0) tNil)) rfl nd (pi_range1 (by rfl) B.range (pa_cons (pe_op op_add pe_int (pe_call GD r1 rfl L.draw.g L.draw.F.kp L.draw.b .nil pass0 (pa_cons (pv 0) (pa_cons pe_int pa_nil)))) pa_nil)) (blkOk_by (N := nText) (sc := defScope sText) (by decide +kernel)) (fun _ _ _ _ _ => pg_name (i := 3) nd rfl (Or.inl rfl)) (fun _ _ _ _ _ => pts_nil) (fun _ _ _ _ _ => (pe_call GP hr rfl L.piece.g L.piece.F.kp L.piece.b .nil pass0 (pa_cons (pv 0) pa_nil)))))))))), ?_⟩
    refine ⟨_, rfl, d, 8, rfl, hD, by decide, by decide, fun H1 how s1 D1 h0 h8 => ?_⟩
    refine ⟨_, rfl, rfl, _, rfl, ?_⟩
    by_cases c0 : how = 0
    · rw [show decide (V.int how = V.int 0) = true from decide_eq_true (by rw [c0])]
      refine iteT ⟨_, rfl, d, 3, rfl, D1, by decide, by decide, fun H2 m s2 D2 m0 m3 => ?_⟩
      obtain ⟨m, rfl⟩ := Int.eq_ofNat_of_zero_le m0
      have m3 : m < 3 := by have m3 : ((m : Nat) : Int) < 3 := m3; omega
      refine ⟨_, _, rfl, rfl, ?_⟩
      have em : (11 : Int) + ((m : Nat) : Int) = ((11 + m : Nat) : Int) := by omega
      refine ⟨_, rfl, _, ((11 + m : Nat) : Int), rfl, ?_, mulokS _ (11 + m) (by decide +kernel) (by omega), ?_⟩
      · show V.int ((11 : Int) + ((m : Nat) : Int)) = _
        rw [em]
      have z1 := mul_size (Str.ofString "(") (11 + m)
      have z2 := mul_size (Str.ofString ")*2") (11 + m)
      rw [show (Str.ofString "(").length = 1 by decide +kernel] at z1
      rw [show (Str.ofString ")*2").length = 3 by decide +kernel] at z2
      obtain ⟨w1, e1, l1⟩ := stB (n := 13) (x := Txt.mul (Str.ofString "(") ((11 + m : Nat) : Int)) (by omega)
      obtain ⟨w2, e2, l2⟩ := stB (n := 39) (x := Txt.mul (Str.ofString ")*2") ((11 + m : Nat) : Int)) (by omega)
      injection e1 with e1
      injection e2 with e2
      have ea : Str.ofString ".a" = tx [46, 97] := by decide +kernel
      rw [e1, ea]
      refine ⟨_, _, rfl, rfl, by rw [tx_len, tx_len, sizeLine_eq]; show _ + 2 ≤ _; omega, _, rfl, _, ((11 + m : Nat) : Int), rfl, ?_, mulokS _ (11 + m) (by decide +kernel) (by omega), ?_⟩
      · show V.int ((11 : Int) + ((m : Nat) : Int)) = _
        rw [em]
      rw [e2, tx_app]
      refine ⟨_, _, rfl, rfl, by rw [tx_len, tx_len, sizeLine_eq, List.length_append]; show _ + 2 + _ ≤ _; omega, ?_⟩
      rw [tx_app]
      exact q H2 _ (s1.trans s2) D2 (by rw [List.length_append, List.length_append]; show _ + 2 + _ ≤ 400; omega)
    · rw [show decide (V.int how = V.int 0) = false from decide_eq_false fun h => by injection h with h; exact c0 h]
      refine iteF ⟨_, rfl, rfl, _, rfl, ?_⟩
      by_cases c1 : how = 1
      · rw [show decide (V.int how = V.int 1) = true from decide_eq_true (by rw [c1])]
        refine iteT ⟨⟨_, rfl⟩, by show 1 ≤ sizeLine; decide, fun p np => ?_⟩
        have s12 := s1.trans (SmD.of (same_upd np (o := .lst [.str (Str.ofString ".a")])))
        refine ⟨_, rfl, d, 3, rfl, D1.same (same_upd np), by decide, by decide, fun H2 m s2 D2 m0 m3 => ⟨_, _, rfl, rfl, ?_⟩⟩
        obtain ⟨m, rfl⟩ := Int.eq_ofNat_of_zero_le m0
        have m3 : m < 3 := by have m3 : ((m : Nat) : Int) < 3 := m3; omega
        have em : (59 : Int) + ((m : Nat) : Int) = ((59 + m : Nat) : Int) := by omega
        have npd := D1.ne np
        refine ⟨p, ((59 + m : Nat) : Int), _, rfl, ?_, s2.1 _ _ npd upd_same, by omega, by omega, by rw [Int.toNat_natCast, sizeLine_eq]; show 1 * _ ≤ _; omega, fun p6 np6 => ?_⟩
        · show V.int ((59 : Int) + ((m : Nat) : Int)) = _
          rw [em]
        have ef : (List.replicate (((59 + m : Nat) : Int)).toNat [V.str (Str.ofString ".a")]).flatten = (((List.replicate (59 + m) [46, 97]).map tx).map V.str) := by
          rw [Int.toNat_natCast, show Str.ofString ".a" = tx [46, 97] by decide +kernel]
          induction 59 + m with
          | zero => rfl
          | succ n ih => rw [List.replicate_succ, List.flatten_cons, ih, List.replicate_succ, List.map_cons, List.map_cons]; rfl
        rw [ef]
        have hl : ∀ z ∈ List.replicate (59 + m) [46, 97], z.length ≤ 2 := fun z hz => by rw [(List.mem_replicate.mp hz).2]; exact Nat.le_refl _
        have hs := sum_le_n (n := 2) (List.replicate (59 + m) [46, 97]) hl
        rw [List.length_replicate] at hs
        refine ⟨_, p6, _, rfl, rfl, .inl (SqL.of upd_same), ?_, ?_⟩
        · rw [show (Str.ofString " ").length = 1 by decide +kernel, List.length_map, List.length_replicate]
          have := sum_tx (List.replicate (59 + m) [46, 97])
          omega
        · rw [sep_join]
          have := sepB_len (List.replicate (59 + m) [46, 97])
          exact q _ _ (s12.trans (s2.trans (SmD.of (same_upd np6)))) (D2.same (same_upd np6)) (by omega)
      · rw [show decide (V.int how = V.int 1) = false from decide_eq_false fun h => by injection h with h; exact c1 h]
        refine iteF ⟨⟨_, rfl⟩, ?_⟩
        refine ⟨_, rfl, d, 5, rfl, D1, by decide, by decide, fun H2 m s2 D2 m0 m5 => ⟨_, _, rfl, rfl, ?_⟩⟩
        obtain ⟨m, rfl⟩ := Int.eq_ofNat_of_zero_le m0
        have m5 : m < 5 := by have m5 : ((m : Nat) : Int) < 5 := m5; omega
        have em : (1 : Int) + ((m : Nat) : Int) = ((1 + m : Nat) : Int) := by omega
        refine ⟨((1 + m : Nat) : Int), ?_, by omega, by omega, ?_⟩
        · show [V.int ((1 : Int) + ((m : Nat) : Int))] = _
          rw [em]
        rw [show ((1 + m : Nat) : Int).toNat = 1 + m from Int.toNat_natCast _]
        intro Da nD
        have s12 := s1.trans s2
        have nDd := D2.ne nD
        refine lc_it walk_range (fun i H' => SmD d H H' ∧ Dr H' d ∧ ∃ Ls : List (List Nat), H' Da = some (.lst ((Ls.map tx).map V.str)) ∧ Ls.length = i ∧ ∀ z ∈ Ls, z.length ≤ 60) ⟨s12.trans (SmD.of (same_upd nD)), D2.same (same_upd nD), [], upd_same, rfl, by simp⟩ (fun _ _ _ _ => trivial) ?_ ?_
        · rintro i v G1 G2 hi ⟨u1, D1', Ls, e1, l1, b1⟩ ⟨rfl, rfl⟩
          have hi : i < 1 + m := hi
          refine ⟨rfl, yes_i ⟨_, rfl, d, rfl, D1', fun G3 v3 u3 D3 hv3 => ?_⟩⟩
          obtain ⟨z3, rfl, l3⟩ := hv3
          have e3 := u3.1 _ _ nDd e1
          refine ⟨_, e3, by rw [List.length_map, List.length_map, sizeLine_eq]; omega, ?_⟩
          have nD0 : H Da = none := by
            cases hz : H Da with
            | none => rfl
            | some o =>
              have := s12.1 _ _ nDd hz
              rw [nD] at this
              cases this
          obtain ⟨u5, D5⟩ := ds_over (o := .lst ((Ls.map tx).map V.str ++ [.str (tx z3)])) hD (u1.trans u3) D3 nD0
          refine ⟨u5, D5, Ls ++ [z3], by rw [upd_same, List.map_append, List.map_append]; rfl, by rw [List.length_append, l1]; rfl, fun z hz => ?_⟩
          rcases List.mem_append.mp hz with hz | hz
          · exact b1 z hz
          · rw [List.mem_singleton.mp hz]; exact l3
        · rintro G1 ⟨u1, D1', Ls, e1, l1, b1⟩
          have hs := sum_le_n (n := 60) Ls b1
          have l6 : Ls.length ≤ 5 := by omega
          have h61 : (60 + 1) * Ls.length ≤ 61 * 5 := Nat.mul_le_mul_left _ l6
          refine ⟨_, Da, _, rfl, rfl, .inl (SqL.of e1), ?_, ?_⟩
          · rw [show (Str.ofString " ").length = 1 by decide +kernel, List.length_map]
            have := sum_tx Ls
            omega
          · rw [sep_join]
            have := sepB_len Ls
            exact q G1 _ u1 D1' (by omega)
def spSpoil : Sp := fun vs H Q _ => ∃ (d : Addr) (z : List Nat), vs = [.ref d, .str (tx z)] ∧ Dr H d ∧ z.length ≤ 500 ∧ ∀ H' (u : List Nat), SmD d H H' → Dr H' d → u.length ≤ z.length + 1 → Q (.str (tx u)) H'
set_option maxHeartbeats 2000000 in
theorem ok_spoil {k : Nat} (B : BM mg) (L : RX K mg f_of f_draw f_told f_piece f_text f_spoilt d_of d_draw d_told d_piece d_text d_spoilt) : FnOk P w K mg base CX0 (k + 3) f_spoilt d_spoilt ["_law_d", "_law_text_here"] spSpoil := by
  have GD : FnOk P w K mg base CX0 (k + 1) f_draw d_draw ["_law_d", "_law_many"] spDraw := ok_draw B L.draw.F
  have GO : FnOk P w K mg base CX0 (k + 2) f_of d_of ["_law_d", "_law_some"] (spOf K) := ok_of B L.of.F L.draw
  refine L.spoilt.F.ok scSpoilt (fun vs H Q E h => ?_) (fun cdv A outer st H vs Q E hr h => ?_)
  · obtain ⟨d, z, rfl, _⟩ := h
    rfl
  · obtain ⟨d, z, rfl, hD, hl, q⟩ := h
    have nd := scSpoilt.nd
    have r1 : Room (k + 1) _ := hr.mono (by omega)
    refine ⟨_, (pss_cons (ps_set (i := 2) nd rfl (.inl rfl) (pe_op op_add_str pe_str pe_str))
      (pss_cons (ps_set (i := 3) nd rfl (.inl rfl) (pe_call GD r1 rfl L.draw.g L.draw.F.kp L.draw.b .nil pass0 (pa_cons (pv 0) (pa_cons (pe_op op_add (pe_callB call_len_str (by rfl) B.len PySem.boot_len (pa_cons (pv 1) pa_nil)) pe_int) pa_nil))))
      (pss_cons (ps_set (i := 4) nd rfl (.inl rfl) (pe_call GO hr rfl L.of.g L.of.F.kp L.of.b .nil pass0 (pa_cons (pv 0) (pa_cons (pv 2) pa_nil))))
      (pss_one (ps_ret (pe_call GO hr rfl L.of.g L.of.F.kp L.of.b .nil pass0 (pa_cons (pv 0) (pa_cons (pe_lst (pa_cons (pe_op op_add_str (pe_op op_add_str (pe_slice sl_str (pv 1) po_none (po_some (pv 3))) (pv 4)) (pe_slice sl_str (pv 1) (po_some (pv 3)) po_none)) (pa_cons (pe_op op_add_str (pe_slice sl_str (pv 1) po_none (po_some (pv 3))) (pe_slice sl_str (pv 1) (po_some (pe_op op_add (pv 3) pe_int)) po_none)) (pa_cons (pe_op op_add_str (pe_op op_add_str (pe_slice sl_str (pv 1) po_none (po_some (pv 3))) (pv 4)) (pe_slice sl_str (pv 1) (po_some (pe_op op_add (pv 3) pe_int)) po_none)) (pa_cons (pe_slice sl_str (pv 1) po_none (po_some (pv 3))) (pa_cons (pe_op op_add_str (pv 1) pe_str) (pa_cons (pv 1) pa_nil))))))) pa_nil)))))))), ?_⟩
    refine ⟨_, _, rfl, rfl, by decide +kernel, ?_⟩
    refine ⟨_, rfl, _, rfl, _, rfl, by rw [tx_len, sizeLine_eq]; omega, _, _, rfl, rfl, d, _, rfl, hD, by rw [tx_len]; omega, by rw [tx_len]; omega, fun H1 at_ s1 D1 a0 a1 => ?_⟩
    rw [tx_len] at a1
    obtain ⟨j, rfl⟩ := Int.eq_ofNat_of_zero_le a0
    have jl : j ≤ z.length := by omega
    refine ⟨_, rfl, _, rfl, d, _, rfl, D1, .inr ⟨_, congrArg V.str str_tx.symm, by decide +kernel, by decide +kernel, fun H2 c s2 D2 hc => ?_⟩⟩
    have lz : (tx z).length ≤ sizeLine := by rw [tx_len, sizeLine_eq]; omega
    have cT := cutS_to z j
    have cF := cut_from z j
    have cF1 : cutS (tx z) (some (((j : Nat) : Int) + 1)) none = tx (z.drop (j + 1)) := cut_from z (j + 1)
    have lT : (z.take j).length = j := by rw [List.length_take]; omega
    have lF : (z.drop j).length = z.length - j := List.length_drop
    have lF1 : (z.drop (j + 1)).length = z.length - (j + 1) := List.length_drop
    have eb : Str.ofString " " = tx [32] := by decide +kernel
    refine ⟨_, rfl, _, rfl, _, rfl, _, rfl, tx z, rfl, lz, _, rfl, _, _, rfl, rfl, ?_, _, rfl, _, rfl, _, rfl, tx z, rfl, lz, _, _, rfl, rfl, ?_, _, rfl, _, rfl, _, rfl, tx z, rfl, lz, _, rfl, _, rfl, _, _, rfl, rfl, _, rfl, tx z, rfl, lz, _, _, rfl, rfl, ?_, _, rfl, _, rfl, _, rfl, tx z, rfl, lz, _, rfl, _, _, rfl, rfl, ?_, _, rfl, _, rfl, _, _, rfl, rfl, _, rfl, tx z, rfl, lz, _, _, rfl, rfl, ?_, _, rfl, _, rfl, _, rfl, tx z, rfl, lz, _, rfl, _, _, rfl, rfl, ?_, _, rfl, by show 6 ≤ sizeLine; decide, fun p np => ?_⟩
    · rw [cT, sg_tx, tx_len, tx_len, lT, sizeLine_eq]; show _ + 1 ≤ _; omega
    · rw [cT, cF, sg_tx, tx_app, tx_len, tx_len, List.length_append, lT, lF, sizeLine_eq]; show _ + 1 + _ ≤ _; omega
    · rw [cT, cF1, tx_len, tx_len, lT, lF1, sizeLine_eq]; omega
    · rw [cT, sg_tx, tx_len, tx_len, lT, sizeLine_eq]; show _ + 1 ≤ _; omega
    · rw [cT, cF1, sg_tx, tx_app, tx_len, tx_len, List.length_append, lT, lF1, sizeLine_eq]; show _ + 1 + _ ≤ _; omega
    · rw [eb, tx_len, tx_len, sizeLine_eq]; show _ + 1 ≤ _; omega
    refine ⟨d, _, rfl, D2.same (same_upd np), .inl ⟨p, _, rfl, D2.ne np, SqL.of upd_same, by show 1 ≤ 6; decide, by show 6 ≤ 1000; decide, fun H3 v i s3 D3 hv => ?_⟩⟩
    obtain ⟨u, rfl, lu⟩ : StB (z.length + 1) v := get_all (p := StB (z.length + 1)) (fun x hx => by
      simp only [List.mem_cons, List.not_mem_nil, or_false] at hx
      rcases hx with rfl | rfl | rfl | rfl | rfl | rfl
      · rw [cT, cF, sg_tx, tx_app, tx_app]; exact ⟨_, rfl, by rw [List.length_append, List.length_append, lT, lF]; show _ + 1 + _ ≤ _; omega⟩
      · rw [cT, cF1, tx_app]; exact ⟨_, rfl, by rw [List.length_append, lT, lF1]; omega⟩
      · rw [cT, cF1, sg_tx, tx_app, tx_app]; exact ⟨_, rfl, by rw [List.length_append, List.length_append, lT, lF1]; show _ + 1 + _ ≤ _; omega⟩
      · rw [cT]; exact ⟨_, rfl, by omega⟩
      · rw [eb, tx_app]; exact ⟨_, rfl, by rw [List.length_append]; exact Nat.le_refl _⟩
      · exact ⟨_, rfl, by omega⟩) hv
    exact q H3 u (((s1.trans s2).trans (SmD.of (same_upd np))).trans s3) D3 lu
end
end NC
namespace NC
open PySem PySem.Spec PyProof.Rows L2
abbrev sLaw : Stmt := topS 29
abbrev nLaw : List Str := ["_law_script", "_law_d", "_law_turn", "_law_text_here", "_law_k"]
theorem scLaw : FnScope nLaw ["_law_script"] (defScope sLaw) := ⟨rfl, rfl, rfl, by decide +kernel, rfl, by decide +kernel, by decide +kernel⟩
mutual
theorem lnL_S : ∀ s : Stp, szS s ≤ 5000 → lnL (encS s) = true
  | .call s, _ => by rw [encS]; simp [lnL, lnLA]
  | .turn s, _ => by rw [encS]; simp [lnL, lnLA]
  | .row s, _ => by rw [encS]; simp [lnL, lnLA]
  | .times m r, h => by
    rw [szS] at h
    have := lnL_L r (by omega)
    have l := szR_len r
    rw [encS]
    simp only [lnL, lnLA, this, Bool.and_true, Bool.true_and, Bool.and_eq_true, decide_eq_true_eq, encL_len]
    exact ⟨by show 3 ≤ 5000; decide, by show 2 ≤ 5000; decide, by omega⟩
theorem lnL_L : ∀ r : List Stp, szR r ≤ 5000 → lnLA (encL r) = true
  | [], _ => by rw [encL, lnLA]
  | s :: r, h => by
    rw [szR] at h
    rw [encL, lnLA, lnL_S s (by omega), lnL_L r (by omega)]
    rfl
end
theorem Alk.succ {K : PySem.W.Frag} {H : Hp} : ∀ {n : Nat} {x y : V}, Alk K H n x y → Alk K H (n + 1) x y
  | _, _, _, .str a => .str a
  | _, _, _, .bl a => .bl a
  | _, _, _, .int a => .int a
  | _, _, _, .non => .non
  | _, _, _, .lst ep er hl h5 h => .lst ep er hl h5 fun i a b ha hb => (h i a b ha hb).succ
  | _, _, _, .tup ep er hl h5 h => .tup ep er hl h5 fun i a b ha hb => (h i a b ha hb).succ
theorem alk_due {K : PySem.W.Frag} {H : Hp} {v v' : V} {s : List Nat} (h : DueV K H s v) (h' : DueV K H s v') : Alk K H 39 v v' := by
  unfold DueV at h h'
  cases e : rdP s with
  | error j =>
    rw [e] at h h'
    have h : v = .int (j : Nat) := h
    have h' : v' = .int (j : Nat) := h'
    rw [h, h']
    exact .int _
  | ok r =>
    rw [e] at h h'
    obtain ⟨dp, sz⟩ := rdP_sz e
    have l := szR_len r
    have b := depL r 12 dp
    refine alk_dp h h' ?_ ?_
    · unfold encR
      simp only [PyData.depth, PyData.depthAll]
      omega
    · have := lnL_L r (by omega)
      unfold encR
      simp only [lnL, lnLA, this, Bool.and_true, Bool.true_and, Bool.and_eq_true, decide_eq_true_eq, encL_len]
      exact ⟨by show 2 ≤ 5000; decide, by omega⟩
theorem DueV.same {K : PySem.W.Frag} {H H' : Hp} {v : V} {s : List Nat} (h : DueV K H s v) (e : Same H H') : DueV K H' s v := by
  unfold DueV at h ⊢
  cases r : rdP s with
  | error j => rw [r] at h; exact h
  | ok x => rw [r] at h; exact dp_same e h
theorem due0 : rdP [] = .error 0 := rfl
theorem due1 : rdP [32] = .error 0 := rfl
theorem due2 : rdP [45, 45] = .error 1 := rfl
section
variable {P : Program} {w : World} {K : PySem.W.Frag} {mg : Str → Option Value} {base : Heap} {f_letters f_run f_tm f_stp f_row f_due f_of f_draw f_told f_piece f_text f_spoilt : Addr} {d_letters d_run d_tm d_stp d_row d_due d_of d_draw d_told d_piece d_text d_spoilt : FuncData} {RC CB CH fH fB : Addr} {fdH fdB : FuncData} {g_ini g_sg g_sd g_tk g_lt g_nm g_gr g_sp g_rw : Addr} {e_ini e_sg e_sd e_tk e_lt e_nm e_gr e_sp e_rw : FuncData} {f_same f_start f_rr : Addr} {d_same d_start d_rr : FuncData}
def spLaw (K : PySem.W.Frag) : Sp := fun vs H Q _ => ∃ (a : Addr) (ns : List Int), vs = [.ref a] ∧ SqL K H a (ns.map V.int) ∧ ∀ H', Q (.bl true) H'
set_option maxHeartbeats 4000000 in
theorem ok_law {f : Addr} {fd : FuncData} {k : Nat} (F : Fun K "law" "law" sLaw f fd) (B : BM mg) (mb : mg "bool" = none) (R : RdC K mg RC g_ini g_sg g_sd g_tk g_lt g_nm g_gr g_sp g_rw e_ini e_sg e_sd e_tk e_lt e_nm e_gr e_sp e_rw) (T : HE K mg CH fH fdH) (X : XC K mg "BadText" "BadText.__init__" sBTinit "at" CB fB fdB) (Ex : EX K CB) (Rr : DF K mg "read_row" sReadRow ["text"] f_rr d_rr) (Sm : DF K mg "_law_same" sSame ["_law_x", "_law_due_here"] f_same d_same) (St : DF K mg "_law_start" sStart ["_law_script"] f_start d_start) (LR : RL K mg f_letters f_run f_tm f_stp f_row f_due d_letters d_run d_tm d_stp d_row d_due) (L : RX K mg f_of f_draw f_told f_piece f_text f_spoilt d_of d_draw d_told d_piece d_text d_spoilt) :
    FnOk P w K mg base CX0 (k + 46) f fd ["_law_script"] (spLaw K) := by
  have GSt : FnOk P w K mg base CX0 (k + 1) f_start d_start ["_law_script"] (spStart K) := ok_start B St.F
  have GD : FnOk P w K mg base CX0 (k + 1) f_draw d_draw ["_law_d", "_law_many"] spDraw := ok_draw B L.draw.F
  have GX : FnOk P w K mg base CX0 (k + 4) f_text d_text ["_law_d"] spTextR := ok_textR B L
  have GSp : FnOk P w K mg base CX0 (k + 3) f_spoilt d_spoilt ["_law_d", "_law_text_here"] spSpoil := ok_spoil B L
  have GSm : FnOk P w K mg base CX0 (k + 42) f_same d_same ["_law_x", "_law_due_here"] (spYes K 40) := ok_yes (k := k) B mb L.ms Sm 40
  have GTo : FnOk P w K mg base CX0 (k + 45) f_told d_told ["_law_text_here"] (spTold K) := ok_told B L R T X Rr Ex
  have GDu : FnOk P w K mg base CX0 (k + 29) f_due d_due ["_law_text_here"] (spDue K) := ok_due (k := k) B LR
  refine F.ok scLaw (fun vs H Q E h => ?_) (fun cdv A outer st H vs Q E hr h => ?_)
  · obtain ⟨a, ns, rfl, _⟩ := h
    rfl
  · obtain ⟨a, ns, rfl, hS, q⟩ := h
    have r1 : Room (k + 1) _ := hr.mono (by omega)
    have r2 : Room (k + 2) _ := hr.mono (by omega)
    have r3 : Room (k + 3) _ := hr.mono (by omega)
    have r4 : Room (k + 4) _ := hr.mono (by omega)
    have r29 : Room (k + 29) _ := hr.mono (by omega)
    have r42 : Room (k + 42) _ := hr.mono (by omega)
    have nd := scLaw.nd
    refine ⟨_, (pss_cons (ps_set (i := 1) nd rfl (.inl rfl) (pe_call GSt r1 rfl St.g St.F.kp St.b .nil pass0 (pa_cons (pv 0) pa_nil)))
      (pss_cons (ps_for PassesOwn.never rfl (pi_range1 (by rfl) B.range (pa_cons pe_int pa_nil)) (pg_name (i := 2) nd rfl (.inl rfl))
        (pss_cons (ps_set (i := 3) nd rfl (.inl rfl) (pe_call GX r4 rfl L.text.g L.text.F.kp L.text.b .nil pass0 (pa_cons (pv 1) pa_nil)))
      (pss_cons (ps_for PassesOwn.never rfl (pi_range1 (by rfl) B.range (pa_cons (pe_call GD r1 rfl L.draw.g L.draw.F.kp L.draw.b .nil pass0 (pa_cons (pv 1) (pa_cons pe_int pa_nil))) pa_nil)) (pg_name (i := 4) nd rfl (.inl rfl))
        (pss_one (ps_set (i := 3) nd rfl (.inl rfl) (pe_call GSp r3 rfl L.spoilt.g L.spoilt.F.kp L.spoilt.b .nil pass0 (pa_cons (pv 1) (pa_cons (pv 3) pa_nil))))))
      (pss_one (ps_if (pt_not (pt_val (pe_call GSm r42 rfl Sm.g Sm.F.kp Sm.b .nil pass0 (pa_cons (pe_call GTo hr rfl L.told.g L.told.F.kp L.told.b .nil pass0 (pa_cons (pv 3) pa_nil)) (pa_cons (pe_call GDu r29 rfl LR.due.g LR.due.F.kp LR.due.b .nil pass0 (pa_cons (pv 3) pa_nil)) pa_nil))))) (pss_one (ps_ret pe_bl)) pss_nil)))))
      (pss_one (ps_ret (pe_call GSm r42 rfl Sm.g Sm.F.kp Sm.b .nil pass0 (pa_cons (pe_lst (pa_cons (pe_call GTo hr rfl L.told.g L.told.F.kp L.told.b .nil pass0 (pa_cons pe_str pa_nil)) (pa_cons (pe_call GTo hr rfl L.told.g L.told.F.kp L.told.b .nil pass0 (pa_cons pe_str pa_nil)) (pa_cons (pe_call GTo hr rfl L.told.g L.told.F.kp L.told.b .nil pass0 (pa_cons pe_str pa_nil)) pa_nil)))) (pa_cons (pe_lst (pa_cons pe_int (pa_cons pe_int (pa_cons pe_int pa_nil)))) pa_nil))))))), ?_⟩
    refine ⟨_, rfl, a, ns, rfl, hS, fun H1 d s1 nd1 D1 => ?_⟩
    refine ⟨6, rfl, by decide, by decide, ?_⟩
    refine for_it walk_range (fun i σ H' => ∃ y2 y3 y4 : Option V, σ = [some (.ref a), some (.ref d), y2, y3, y4] ∧ Dr H' d) ⟨_, _, _, rfl, D1⟩ (fun _ _ _ _ _ => trivial) ?_ ?_
    · rintro i v σ H2 H3 hi ⟨y2, y3, y4, rfl, D2⟩ ⟨rfl, rfl⟩
      refine ⟨_, rfl, d, rfl, D2, fun H4 z4 s4 D4 l4 => ?_⟩
      refine ⟨_, rfl, d, 3, rfl, D4, by decide, by decide, fun H5 m s5 D5 m0 m3 => ?_⟩
      obtain ⟨m, rfl⟩ := Int.eq_ofNat_of_zero_le m0
      have m3 : m < 3 := by have m3 : ((m : Nat) : Int) < 3 := m3; omega
      refine ⟨_, rfl, by omega, by omega, ?_⟩
      rw [show ((m : Nat) : Int).toNat = m from Int.toNat_natCast _]
      refine for_it walk_range (fun j σ H' => ∃ (y4 : Option V) (z : List Nat), σ = [some (.ref a), some (.ref d), some (.int (0 + ((i : Nat) : Int))), some (.str (tx z)), y4] ∧ Dr H' d ∧ z.length ≤ 400 + j) ⟨_, z4, rfl, D5, by omega⟩ (fun _ _ _ _ _ => trivial) ?_ ?_
      · rintro j v σ H6 H7 hj ⟨y4, z, rfl, D6, lz⟩ ⟨rfl, rfl⟩
        exact ⟨_, rfl, _, rfl, d, z, rfl, D6, by omega, fun H8 u s8 D8 lu => ⟨_, u, rfl, D8, by omega⟩⟩
      · rintro σ H6 ⟨y4, z, rfl, D6, lz⟩
        refine ⟨_, rfl, z, rfl, by omega, fun H7 v7 s7 hv7 => ⟨_, rfl, z, rfl, by omega, fun H8 v8 s8 hv8 => ?_⟩⟩
        refine ⟨_, _, rfl, (alk_due (hv7.same s8) hv8).succ, fun H9 s9 => ⟨_, rfl, iteF ?_⟩⟩
        exact ⟨_, _, _, rfl, ((D6.same s7).same s8).same s9⟩
    · rintro σ H2 ⟨y2, y3, y4, rfl, D2⟩
      refine ⟨[], by rfl, by decide, fun H3 v3 s3 hv3 => ?_⟩
      have e3 : v3 = .int (0 : Nat) := by unfold DueV at hv3; rw [due0] at hv3; exact hv3
      subst e3
      refine ⟨[32], by rw [show Str.ofString " " = tx [32] by decide +kernel]; rfl, by decide, fun H4 v4 s4 hv4 => ?_⟩
      have e4 : v4 = .int (0 : Nat) := by unfold DueV at hv4; rw [due1] at hv4; exact hv4
      subst e4
      refine ⟨[45, 45], by rw [show Str.ofString "--" = tx [45, 45] by decide +kernel]; rfl, by decide, fun H5 v5 s5 hv5 => ?_⟩
      have e5 : v5 = .int (1 : Nat) := by unfold DueV at hv5; rw [due2] at hv5; exact hv5
      subst e5
      refine ⟨by show 3 ≤ sizeLine; decide, fun p6 np6 => ⟨by show 3 ≤ sizeLine; decide, fun p7 np7 => ?_⟩⟩
      refine ⟨_, _, rfl, .lst (SqL.of (same_upd np7 _ _ upd_same)) (SqL.of upd_same) rfl (by show 3 ≤ 5000; decide) (fun i x y hx hy => ?_), fun H8 s8 => q H8⟩
      match i, hx, hy with
      | 0, hx, hy => cases hx; cases hy; exact .int _
      | 1, hx, hy => cases hx; cases hy; exact .int _
      | 2, hx, hy => cases hx; cases hy; exact .int _
end
end NC
namespace NC
open PySem PySem.Spec PyProof.Rows L2
theorem exm_of {K : PySem.W.Frag} {R S : Addr} {b : Bool} (h1 : PySem.W.subIn K (.ref S) (.type "BaseException") = some true) (h2 : PySem.W.isClsIn K S = true) (h3 : PySem.W.typeIn K (.ref S) = some (.type "type")) (h4 : PySem.W.subIn K (.ref R) (.ref S) = some b) :
    PySem.W.exmOne K (.ref R) (.ref S) = some b := by
  have e1 : (PySem.W.subIn K (.ref S) (.type "BaseException") == some true) = true := by rw [h1] <;> rfl
  have e2 : ((PySem.W.clsIn K S).isSome && PySem.W.typeIn K (.ref S) == some (.type "type")) = true := by
    have h2' : (PySem.W.clsIn K S).isSome = true := h2
    rw [h2', h3] <;> rfl
  show (if (PySem.W.subIn K (.ref S) (.type "BaseException") == some true) = true then (if ((PySem.W.clsIn K S).isSome && PySem.W.typeIn K (.ref S) == some (.type "type")) = true then PySem.W.subIn K (.ref R) (.ref S) else none) else none) = some b
  rw [if_pos e1, if_pos e2]
  exact h4
set_option maxHeartbeats 4000000 in
theorem all_mk {l : PySem.W.OpenLaw} {w : World} {K : PySem.W.Frag} {h : Heap} {mg : Str → Option Value} {fa : Addr}  (X : K.In h) (G : h.Ns mainGlobals mg) (hfa : mg "law" = some (.ref fa))
    {f_letters : Addr} {oc_letters kV_letters dc_letters pm_letters cd_letters ct_letters : Value} {od_letters an_letters : Option Addr} {sl_letters : Array (Option Value)}
    {f_run : Addr} {oc_run kV_run dc_run pm_run cd_run ct_run : Value} {od_run an_run : Option Addr} {sl_run : Array (Option Value)}
    {f_tm : Addr} {oc_tm kV_tm dc_tm pm_tm cd_tm ct_tm : Value} {od_tm an_tm : Option Addr} {sl_tm : Array (Option Value)}
    {f_stp : Addr} {oc_stp kV_stp dc_stp pm_stp cd_stp ct_stp : Value} {od_stp an_stp : Option Addr} {sl_stp : Array (Option Value)}
    {f_row : Addr} {oc_row kV_row dc_row pm_row cd_row ct_row : Value} {od_row an_row : Option Addr} {sl_row : Array (Option Value)}
    {f_due : Addr} {oc_due kV_due dc_due pm_due cd_due ct_due : Value} {od_due an_due : Option Addr} {sl_due : Array (Option Value)}
    {f_of : Addr} {oc_of kV_of dc_of pm_of cd_of ct_of : Value} {od_of an_of : Option Addr} {sl_of : Array (Option Value)}
    {f_draw : Addr} {oc_draw kV_draw dc_draw pm_draw cd_draw ct_draw : Value} {od_draw an_draw : Option Addr} {sl_draw : Array (Option Value)}
    {f_told : Addr} {oc_told kV_told dc_told pm_told cd_told ct_told : Value} {od_told an_told : Option Addr} {sl_told : Array (Option Value)}
    {f_piece : Addr} {oc_piece kV_piece dc_piece pm_piece cd_piece ct_piece : Value} {od_piece an_piece : Option Addr} {sl_piece : Array (Option Value)}
    {f_text : Addr} {oc_text kV_text dc_text pm_text cd_text ct_text : Value} {od_text an_text : Option Addr} {sl_text : Array (Option Value)}
    {f_spoilt : Addr} {oc_spoilt kV_spoilt dc_spoilt pm_spoilt cd_spoilt ct_spoilt : Value} {od_spoilt an_spoilt : Option Addr} {sl_spoilt : Array (Option Value)}
    {f_same : Addr} {oc_same kV_same dc_same pm_same cd_same ct_same : Value} {od_same an_same : Option Addr} {sl_same : Array (Option Value)}
    {f_start : Addr} {oc_start kV_start dc_start pm_start cd_start ct_start : Value} {od_start an_start : Option Addr} {sl_start : Array (Option Value)}
    {f_rr : Addr} {oc_rr kV_rr dc_rr pm_rr cd_rr ct_rr : Value} {od_rr an_rr : Option Addr} {sl_rr : Array (Option Value)}
    {CH : Addr}
    {CB : Addr}
    {nm_CB q_CB : Str} {N_CB : Addr} {bs_CB bm_CB sub_CB : List Value} {sn_CB : List Str} {ab_CB : Bool} {col_CB : Option Bool} {dd_CB : Option Addr} {m0_CB m1_CB m2_CB m3_CB m5_CB : Option Value}
    {f_iH : Addr} {oc_iH kV_iH dc_iH pm_iH cd_iH ct_iH : Value} {od_iH an_iH : Option Addr} {sl_iH : Array (Option Value)}
    {f_iB : Addr} {oc_iB kV_iB dc_iB pm_iB cd_iB ct_iB : Value} {od_iB an_iB : Option Addr} {sl_iB : Array (Option Value)}
    {RC : Addr}
    {f_qsg : Addr} {oc_qsg kV_qsg dc_qsg pm_qsg cd_qsg ct_qsg : Value} {od_qsg an_qsg : Option Addr} {sl_qsg : Array (Option Value)}
    {f_qsd : Addr} {oc_qsd kV_qsd dc_qsd pm_qsd cd_qsd ct_qsd : Value} {od_qsd an_qsd : Option Addr} {sl_qsd : Array (Option Value)}
    {f_qtk : Addr} {oc_qtk kV_qtk dc_qtk pm_qtk cd_qtk ct_qtk : Value} {od_qtk an_qtk : Option Addr} {sl_qtk : Array (Option Value)}
    {f_qlt : Addr} {oc_qlt kV_qlt dc_qlt pm_qlt cd_qlt ct_qlt : Value} {od_qlt an_qlt : Option Addr} {sl_qlt : Array (Option Value)}
    {f_qnm : Addr} {oc_qnm kV_qnm dc_qnm pm_qnm cd_qnm ct_qnm : Value} {od_qnm an_qnm : Option Addr} {sl_qnm : Array (Option Value)}
    {f_qgr : Addr} {oc_qgr kV_qgr dc_qgr pm_qgr cd_qgr ct_qgr : Value} {od_qgr an_qgr : Option Addr} {sl_qgr : Array (Option Value)}
    {f_qsp : Addr} {oc_qsp kV_qsp dc_qsp pm_qsp cd_qsp ct_qsp : Value} {od_qsp an_qsp : Option Addr} {sl_qsp : Array (Option Value)}
    {f_qrw : Addr} {oc_qrw kV_qrw dc_qrw pm_qrw cd_qrw ct_qrw : Value} {od_qrw an_qrw : Option Addr} {sl_qrw : Array (Option Value)}
    {f_qini : Addr} {oc_qini kV_qini dc_qini pm_qini cd_qini ct_qini : Value} {od_qini an_qini : Option Addr} {sl_qini : Array (Option Value)}
    {t1 : Tok}
    {t2 : Tok}
    {t3 : Tok}
    {t4 : Tok}
    {t5 : Tok}
    {t6 : Tok}
    {t7 : Tok}
    {t8 : Tok}
    {c : Addr} {fL : Addr} {ocL kVL dcL pmL ctL : Value} {odL anL : Option Addr} {slL : Array (Option Value)}
    (a_letters : PySem.W.nsIn K mainGlobals "_law_letters" = some (some (.ref f_letters)))
    (l_letters : K.lookup f_letters = some ⟨oc_letters, od_letters, .func (PySem.W.fnOf "_law_letters" "_law_letters" (defArgs sLetters) (defBody sLetters) (defScope sLetters) .none kV_letters dc_letters pm_letters an_letters cd_letters ct_letters), sl_letters⟩)
    (c_letters : PySem.W.codeIn K cd_letters "_law_letters" = true)
    (k_letters : PySem.W.keepIn K (.ref f_letters) = true)
    (a_run : PySem.W.nsIn K mainGlobals "_law_run" = some (some (.ref f_run)))
    (l_run : K.lookup f_run = some ⟨oc_run, od_run, .func (PySem.W.fnOf "_law_run" "_law_run" (defArgs sRun) (defBody sRun) (defScope sRun) .none kV_run dc_run pm_run an_run cd_run ct_run), sl_run⟩)
    (c_run : PySem.W.codeIn K cd_run "_law_run" = true)
    (k_run : PySem.W.keepIn K (.ref f_run) = true)
    (a_tm : PySem.W.nsIn K mainGlobals "_law_times_at" = some (some (.ref f_tm)))
    (l_tm : K.lookup f_tm = some ⟨oc_tm, od_tm, .func (PySem.W.fnOf "_law_times_at" "_law_times_at" (defArgs sTimesAt) (defBody sTimesAt) (defScope sTimesAt) .none kV_tm dc_tm pm_tm an_tm cd_tm ct_tm), sl_tm⟩)
    (c_tm : PySem.W.codeIn K cd_tm "_law_times_at" = true)
    (k_tm : PySem.W.keepIn K (.ref f_tm) = true)
    (a_stp : PySem.W.nsIn K mainGlobals "_law_step_at" = some (some (.ref f_stp)))
    (l_stp : K.lookup f_stp = some ⟨oc_stp, od_stp, .func (PySem.W.fnOf "_law_step_at" "_law_step_at" (defArgs sStepAt) (defBody sStepAt) (defScope sStepAt) .none kV_stp dc_stp pm_stp an_stp cd_stp ct_stp), sl_stp⟩)
    (c_stp : PySem.W.codeIn K cd_stp "_law_step_at" = true)
    (k_stp : PySem.W.keepIn K (.ref f_stp) = true)
    (a_row : PySem.W.nsIn K mainGlobals "_law_row_at" = some (some (.ref f_row)))
    (l_row : K.lookup f_row = some ⟨oc_row, od_row, .func (PySem.W.fnOf "_law_row_at" "_law_row_at" (defArgs sRowAt) (defBody sRowAt) (defScope sRowAt) .none kV_row dc_row pm_row an_row cd_row ct_row), sl_row⟩)
    (c_row : PySem.W.codeIn K cd_row "_law_row_at" = true)
    (k_row : PySem.W.keepIn K (.ref f_row) = true)
    (a_due : PySem.W.nsIn K mainGlobals "_law_due" = some (some (.ref f_due)))
    (l_due : K.lookup f_due = some ⟨oc_due, od_due, .func (PySem.W.fnOf "_law_due" "_law_due" (defArgs sDue) (defBody sDue) (defScope sDue) .none kV_due dc_due pm_due an_due cd_due ct_due), sl_due⟩)
    (c_due : PySem.W.codeIn K cd_due "_law_due" = true)
    (k_due : PySem.W.keepIn K (.ref f_due) = true)
    (a_of : PySem.W.nsIn K mainGlobals "_law_of" = some (some (.ref f_of)))
    (l_of : K.lookup f_of = some ⟨oc_of, od_of, .func (PySem.W.fnOf "_law_of" "_law_of" (defArgs sOf) (defBody sOf) (defScope sOf) .none kV_of dc_of pm_of an_of cd_of ct_of), sl_of⟩)
    (c_of : PySem.W.codeIn K cd_of "_law_of" = true)
    (k_of : PySem.W.keepIn K (.ref f_of) = true)
    (a_draw : PySem.W.nsIn K mainGlobals "_law_draw" = some (some (.ref f_draw)))
    (l_draw : K.lookup f_draw = some ⟨oc_draw, od_draw, .func (PySem.W.fnOf "_law_draw" "_law_draw" (defArgs sDraw) (defBody sDraw) (defScope sDraw) .none kV_draw dc_draw pm_draw an_draw cd_draw ct_draw), sl_draw⟩)
    (c_draw : PySem.W.codeIn K cd_draw "_law_draw" = true)
    (k_draw : PySem.W.keepIn K (.ref f_draw) = true)
    (a_told : PySem.W.nsIn K mainGlobals "_law_told" = some (some (.ref f_told)))
    (l_told : K.lookup f_told = some ⟨oc_told, od_told, .func (PySem.W.fnOf "_law_told" "_law_told" (defArgs sTold) (defBody sTold) (defScope sTold) .none kV_told dc_told pm_told an_told cd_told ct_told), sl_told⟩)
    (c_told : PySem.W.codeIn K cd_told "_law_told" = true)
    (k_told : PySem.W.keepIn K (.ref f_told) = true)
    (a_piece : PySem.W.nsIn K mainGlobals "_law_piece" = some (some (.ref f_piece)))
    (l_piece : K.lookup f_piece = some ⟨oc_piece, od_piece, .func (PySem.W.fnOf "_law_piece" "_law_piece" (defArgs sPiece) (defBody sPiece) (defScope sPiece) .none kV_piece dc_piece pm_piece an_piece cd_piece ct_piece), sl_piece⟩)
    (c_piece : PySem.W.codeIn K cd_piece "_law_piece" = true)
    (k_piece : PySem.W.keepIn K (.ref f_piece) = true)
    (a_text : PySem.W.nsIn K mainGlobals "_law_text" = some (some (.ref f_text)))
    (l_text : K.lookup f_text = some ⟨oc_text, od_text, .func (PySem.W.fnOf "_law_text" "_law_text" (defArgs sText) (defBody sText) (defScope sText) .none kV_text dc_text pm_text an_text cd_text ct_text), sl_text⟩)
    (c_text : PySem.W.codeIn K cd_text "_law_text" = true)
    (k_text : PySem.W.keepIn K (.ref f_text) = true)
    (a_spoilt : PySem.W.nsIn K mainGlobals "_law_spoilt" = some (some (.ref f_spoilt)))
    (l_spoilt : K.lookup f_spoilt = some ⟨oc_spoilt, od_spoilt, .func (PySem.W.fnOf "_law_spoilt" "_law_spoilt" (defArgs sSpoilt) (defBody sSpoilt) (defScope sSpoilt) .none kV_spoilt dc_spoilt pm_spoilt an_spoilt cd_spoilt ct_spoilt), sl_spoilt⟩)
    (c_spoilt : PySem.W.codeIn K cd_spoilt "_law_spoilt" = true)
    (k_spoilt : PySem.W.keepIn K (.ref f_spoilt) = true)
    (a_same : PySem.W.nsIn K mainGlobals "_law_same" = some (some (.ref f_same)))
    (l_same : K.lookup f_same = some ⟨oc_same, od_same, .func (PySem.W.fnOf "_law_same" "_law_same" (defArgs sSame) (defBody sSame) (defScope sSame) .none kV_same dc_same pm_same an_same cd_same ct_same), sl_same⟩)
    (c_same : PySem.W.codeIn K cd_same "_law_same" = true)
    (k_same : PySem.W.keepIn K (.ref f_same) = true)
    (a_start : PySem.W.nsIn K mainGlobals "_law_start" = some (some (.ref f_start)))
    (l_start : K.lookup f_start = some ⟨oc_start, od_start, .func (PySem.W.fnOf "_law_start" "_law_start" (defArgs sStart) (defBody sStart) (defScope sStart) .none kV_start dc_start pm_start an_start cd_start ct_start), sl_start⟩)
    (c_start : PySem.W.codeIn K cd_start "_law_start" = true)
    (k_start : PySem.W.keepIn K (.ref f_start) = true)
    (a_rr : PySem.W.nsIn K mainGlobals "read_row" = some (some (.ref f_rr)))
    (l_rr : K.lookup f_rr = some ⟨oc_rr, od_rr, .func (PySem.W.fnOf "read_row" "read_row" (defArgs sReadRow) (defBody sReadRow) (defScope sReadRow) .none kV_rr dc_rr pm_rr an_rr cd_rr ct_rr), sl_rr⟩)
    (c_rr : PySem.W.codeIn K cd_rr "read_row" = true)
    (k_rr : PySem.W.keepIn K (.ref f_rr) = true)
    (a_CH : PySem.W.nsIn K mainGlobals "HallError" = some (some (.ref CH)))
    (a_CB : PySem.W.nsIn K mainGlobals "BadText" = some (some (.ref CB)))
    (i_H : PySem.W.findCls K (.ref CH) (.type "type") "__init__" = some (.val (.ref f_iH)))
    (r_H : PySem.W.readsIn K CH (.type "type") = true)
    (g_H : PySem.W.specialIn K (.ref CH) "__getattribute__" = some (some (.builtin "type.__getattribute__")))
    (v_V : PySem.W.findCls K (.type "ValueError") (.type "type") "__init__" = some (.val (.builtin "ValueError.__init__")))
    (x_CB : K.lookup CB = some (excClassObj nm_CB q_CB CB N_CB bs_CB bm_CB true sn_CB sub_CB ab_CB col_CB dd_CB m0_CB m1_CB m2_CB m3_CB m5_CB "ValueError.__new__"))
    (rv_CB : PySem.HandSPX.refsVE bm_CB = true)
    (sa_CB : PySem.W.findIn K (.ref CB) "__setattr__" = some (some (.builtin "object.__setattr__")))
    (ga_CB : PySem.W.findIn K (.ref CB) "__getattribute__" = some (some (.builtin "BaseException.__getattribute__")))
    (gg_CB : PySem.W.findIn K (.ref CB) "__getattr__" = some none)
    (hd_CB : PySem.W.hasDictIn K CB = true)
    (ex_CB : PySem.W.subIn K (.ref CB) (.type "BaseException") = some true)
    (ty_CB : PySem.W.typeIn K (.ref CB) = some (.type "type"))
    (kc_CB : PySem.W.keepIn K (.ref CB) = true)
    (i_CB : PySem.W.findIn K (.ref CB) "__init__" = some (some (.ref f_iB)))
    (t_CB : PySem.W.typeIn K (.ref f_iB) = some (.type "function"))
    (n_CB_word : PySem.W.findIn K (.ref CB) "word" = some none)
    (n_CB_at : PySem.W.findIn K (.ref CB) "at" = some none)
    (l_iH : K.lookup f_iH = some ⟨oc_iH, od_iH, .func (PySem.W.fnOf "__init__" "HallError.__init__" (defArgs sHEinit) (defBody sHEinit) (defScope sHEinit) .none kV_iH dc_iH pm_iH an_iH cd_iH ct_iH), sl_iH⟩)
    (c_iH : PySem.W.codeIn K cd_iH "HallError.__init__" = true)
    (k_iH : PySem.W.keepIn K (.ref f_iH) = true)
    (l_iB : K.lookup f_iB = some ⟨oc_iB, od_iB, .func (PySem.W.fnOf "__init__" "BadText.__init__" (defArgs sBTinit) (defBody sBTinit) (defScope sBTinit) .none kV_iB dc_iB pm_iB an_iB cd_iB ct_iB), sl_iB⟩)
    (c_iB : PySem.W.codeIn K cd_iB "BadText.__init__" = true)
    (k_iB : PySem.W.keepIn K (.ref f_iB) = true)
    (e_CB_CB : PySem.W.subIn K (.ref CB) (.ref CB) = some true)
    (ic_CB : PySem.W.isClsIn K CB = true)
    (a_RC : PySem.W.nsIn K mainGlobals "Reader" = some (some (.ref RC)))
    (i_RC : PySem.W.findIn K (.ref RC) "__init__" = some (some (.ref f_qini)))
    (j_RC : PySem.W.isFn K (.ref f_qini) = true)
    (pg_RC : PySem.W.plainGet K RC Str.empty = true)
    (hd_RC : PySem.W.hasDictIn K RC = true)
    (po_RC : PySem.W.plainOver K RC = true)
    (sa_RC : PySem.W.findIn K (.ref RC) "__setattr__" = some (some (.builtin "object.__setattr__")))
    (mk_RC : PySem.W.makesIn K RC = true)
    (kp_RC : PySem.W.keepIn K (.ref RC) = true)
    (n1_RC : PySem.W.findIn K (.ref RC) "text" = some none)
    (n2_RC : PySem.W.findIn K (.ref RC) "at" = some none)
    (n3_RC : PySem.W.findIn K (.ref RC) "begun" = some none)
    (b_qsg : PySem.W.findIn K (.ref RC) "sign" = some (some (.ref f_qsg)))
    (m_qsg : PySem.W.isFn K (.ref f_qsg) = true)
    (l_qsg : K.lookup f_qsg = some ⟨oc_qsg, od_qsg, .func (PySem.W.fnOf "sign" "Reader.sign" (defArgs sRd_sg) (defBody sRd_sg) (defScope sRd_sg) .none kV_qsg dc_qsg pm_qsg an_qsg cd_qsg ct_qsg), sl_qsg⟩)
    (c_qsg : PySem.W.codeIn K cd_qsg "Reader.sign" = true)
    (k_qsg : PySem.W.keepIn K (.ref f_qsg) = true)
    (b_qsd : PySem.W.findIn K (.ref RC) "stands" = some (some (.ref f_qsd)))
    (m_qsd : PySem.W.isFn K (.ref f_qsd) = true)
    (l_qsd : K.lookup f_qsd = some ⟨oc_qsd, od_qsd, .func (PySem.W.fnOf "stands" "Reader.stands" (defArgs sRd_sd) (defBody sRd_sd) (defScope sRd_sd) .none kV_qsd dc_qsd pm_qsd an_qsd cd_qsd ct_qsd), sl_qsd⟩)
    (c_qsd : PySem.W.codeIn K cd_qsd "Reader.stands" = true)
    (k_qsd : PySem.W.keepIn K (.ref f_qsd) = true)
    (b_qtk : PySem.W.findIn K (.ref RC) "take" = some (some (.ref f_qtk)))
    (m_qtk : PySem.W.isFn K (.ref f_qtk) = true)
    (l_qtk : K.lookup f_qtk = some ⟨oc_qtk, od_qtk, .func (PySem.W.fnOf "take" "Reader.take" (defArgs sRd_tk) (defBody sRd_tk) (defScope sRd_tk) .none kV_qtk dc_qtk pm_qtk an_qtk cd_qtk ct_qtk), sl_qtk⟩)
    (c_qtk : PySem.W.codeIn K cd_qtk "Reader.take" = true)
    (k_qtk : PySem.W.keepIn K (.ref f_qtk) = true)
    (b_qlt : PySem.W.findIn K (.ref RC) "letters_taken" = some (some (.ref f_qlt)))
    (m_qlt : PySem.W.isFn K (.ref f_qlt) = true)
    (l_qlt : K.lookup f_qlt = some ⟨oc_qlt, od_qlt, .func (PySem.W.fnOf "letters_taken" "Reader.letters_taken" (defArgs sRd_lt) (defBody sRd_lt) (defScope sRd_lt) .none kV_qlt dc_qlt pm_qlt an_qlt cd_qlt ct_qlt), sl_qlt⟩)
    (c_qlt : PySem.W.codeIn K cd_qlt "Reader.letters_taken" = true)
    (k_qlt : PySem.W.keepIn K (.ref f_qlt) = true)
    (b_qnm : PySem.W.findIn K (.ref RC) "number" = some (some (.ref f_qnm)))
    (m_qnm : PySem.W.isFn K (.ref f_qnm) = true)
    (l_qnm : K.lookup f_qnm = some ⟨oc_qnm, od_qnm, .func (PySem.W.fnOf "number" "Reader.number" (defArgs sRd_nm) (defBody sRd_nm) (defScope sRd_nm) .none kV_qnm dc_qnm pm_qnm an_qnm cd_qnm ct_qnm), sl_qnm⟩)
    (c_qnm : PySem.W.codeIn K cd_qnm "Reader.number" = true)
    (k_qnm : PySem.W.keepIn K (.ref f_qnm) = true)
    (b_qgr : PySem.W.findIn K (.ref RC) "group" = some (some (.ref f_qgr)))
    (m_qgr : PySem.W.isFn K (.ref f_qgr) = true)
    (l_qgr : K.lookup f_qgr = some ⟨oc_qgr, od_qgr, .func (PySem.W.fnOf "group" "Reader.group" (defArgs sRd_gr) (defBody sRd_gr) (defScope sRd_gr) .none kV_qgr dc_qgr pm_qgr an_qgr cd_qgr ct_qgr), sl_qgr⟩)
    (c_qgr : PySem.W.codeIn K cd_qgr "Reader.group" = true)
    (k_qgr : PySem.W.keepIn K (.ref f_qgr) = true)
    (b_qsp : PySem.W.findIn K (.ref RC) "step" = some (some (.ref f_qsp)))
    (m_qsp : PySem.W.isFn K (.ref f_qsp) = true)
    (l_qsp : K.lookup f_qsp = some ⟨oc_qsp, od_qsp, .func (PySem.W.fnOf "step" "Reader.step" (defArgs sRd_sp) (defBody sRd_sp) (defScope sRd_sp) .none kV_qsp dc_qsp pm_qsp an_qsp cd_qsp ct_qsp), sl_qsp⟩)
    (c_qsp : PySem.W.codeIn K cd_qsp "Reader.step" = true)
    (k_qsp : PySem.W.keepIn K (.ref f_qsp) = true)
    (b_qrw : PySem.W.findIn K (.ref RC) "row" = some (some (.ref f_qrw)))
    (m_qrw : PySem.W.isFn K (.ref f_qrw) = true)
    (l_qrw : K.lookup f_qrw = some ⟨oc_qrw, od_qrw, .func (PySem.W.fnOf "row" "Reader.row" (defArgs sRd_rw) (defBody sRd_rw) (defScope sRd_rw) .none kV_qrw dc_qrw pm_qrw an_qrw cd_qrw ct_qrw), sl_qrw⟩)
    (c_qrw : PySem.W.codeIn K cd_qrw "Reader.row" = true)
    (k_qrw : PySem.W.keepIn K (.ref f_qrw) = true)
    (l_qini : K.lookup f_qini = some ⟨oc_qini, od_qini, .func (PySem.W.fnOf "__init__" "Reader.__init__" (defArgs sRd_ini) (defBody sRd_ini) (defScope sRd_ini) .none kV_qini dc_qini pm_qini an_qini cd_qini ct_qini), sl_qini⟩)
    (c_qini : PySem.W.codeIn K cd_qini "Reader.__init__" = true)
    (k_qini : PySem.W.keepIn K (.ref f_qini) = true)
    (z_list : PySem.W.nsIn K mainGlobals "list" = some none)
    (z_sorted : PySem.W.nsIn K mainGlobals "sorted" = some none)
    (z_set : PySem.W.nsIn K mainGlobals "set" = some none)
    (z_all : PySem.W.nsIn K mainGlobals "all" = some none)
    (z_len : PySem.W.nsIn K mainGlobals "len" = some none)
    (z_enumerate : PySem.W.nsIn K mainGlobals "enumerate" = some none)
    (z_range : PySem.W.nsIn K mainGlobals "range" = some none)
    (z_isinstance : PySem.W.nsIn K mainGlobals "isinstance" = some none)
    (z_tuple : PySem.W.nsIn K mainGlobals "tuple" = some none)
    (z_ValueError : PySem.W.nsIn K mainGlobals "ValueError" = some none)
    (z_bool : PySem.W.nsIn K mainGlobals "bool" = some none)
    (z_str : PySem.W.nsIn K mainGlobals "str" = some none)
    (z_int : PySem.W.nsIn K mainGlobals "int" = some none)
    (e_wSMALL : PySem.W.nsIn K mainGlobals "SMALL" = some (some (.str SM t1)))
    (e_wLETTERS : PySem.W.nsIn K mainGlobals "LETTERS" = some (some (.str LT t2)))
    (e_wFIGURES : PySem.W.nsIn K mainGlobals "FIGURES" = some (some (.str DG t3)))
    (e_wMOST_STEPS : PySem.W.nsIn K mainGlobals "MOST_STEPS" = some (some (.int 60 t4)))
    (e_wMOST_DEEP : PySem.W.nsIn K mainGlobals "MOST_DEEP" = some (some (.int 12 t5)))
    (e_wMOST_TIMES : PySem.W.nsIn K mainGlobals "MOST_TIMES" = some (some (.int (10 ^ 30) t6)))
    (e_wMOST_SIDES : PySem.W.nsIn K mainGlobals "MOST_SIDES" = some (some (.int 12 t7)))
    (e_wLONGEST_NAME : PySem.W.nsIn K mainGlobals "LONGEST_NAME" = some (some (.int 8 t8)))
    (a_L : PySem.W.nsIn K mainGlobals "law" = some (some (.ref fL)))
    (l_L : K.lookup fL = some ⟨ocL, odL, .func (PySem.W.fnOf "law" "law" (defArgs sLaw) (defBody sLaw) (defScope sLaw) .none kVL dcL pmL anL (.ref c) ctL), slL⟩)
    (c_L : PySem.W.codeIn K (.ref c) "law" = true)
    (k_L : PySem.W.keepIn K (.ref fL) = true)
    : LamX.LawAtS l w K CX0 46 63 "_law_script" mg fa h := by
  have F_letters := fun_mk (st := sLetters) l_letters c_letters k_letters
  have D_letters : DF K mg "_law_letters" sLetters [] f_letters _ := ⟨F_letters, PySem.W.mg_of X G a_letters, F_letters.binds (ps := []) fun _ _ _ _ _ _ us hl => match us, hl with | [], _ => rfl⟩
  have F_run := fun_mk (st := sRun) l_run c_run k_run
  have D_run : DF K mg "_law_run" sRun ["_law_text_here", "_law_at", "_law_signs", "_law_most"] f_run _ := ⟨F_run, PySem.W.mg_of X G a_run, F_run.binds (ps := ["_law_text_here", "_law_at", "_law_signs", "_law_most"]) fun _ _ _ _ _ _ us hl => match us, hl with | [_, _, _, _], _ => rfl⟩
  have F_tm := fun_mk (st := sTimesAt) l_tm c_tm k_tm
  have D_tm : DF K mg "_law_times_at" sTimesAt ["_law_text_here", "_law_at"] f_tm _ := ⟨F_tm, PySem.W.mg_of X G a_tm, F_tm.binds (ps := ["_law_text_here", "_law_at"]) fun _ _ _ _ _ _ us hl => match us, hl with | [_, _], _ => rfl⟩
  have F_stp := fun_mk (st := sStepAt) l_stp c_stp k_stp
  have D_stp : DF K mg "_law_step_at" sStepAt ["_law_text_here", "_law_at", "_law_many", "_law_deep"] f_stp _ := ⟨F_stp, PySem.W.mg_of X G a_stp, F_stp.binds (ps := ["_law_text_here", "_law_at", "_law_many", "_law_deep"]) fun _ _ _ _ _ _ us hl => match us, hl with | [_, _, _, _], _ => rfl⟩
  have F_row := fun_mk (st := sRowAt) l_row c_row k_row
  have D_row : DF K mg "_law_row_at" sRowAt ["_law_text_here", "_law_at", "_law_many", "_law_deep"] f_row _ := ⟨F_row, PySem.W.mg_of X G a_row, F_row.binds (ps := ["_law_text_here", "_law_at", "_law_many", "_law_deep"]) fun _ _ _ _ _ _ us hl => match us, hl with | [_, _, _, _], _ => rfl⟩
  have F_due := fun_mk (st := sDue) l_due c_due k_due
  have D_due : DF K mg "_law_due" sDue ["_law_text_here"] f_due _ := ⟨F_due, PySem.W.mg_of X G a_due, F_due.binds (ps := ["_law_text_here"]) fun _ _ _ _ _ _ us hl => match us, hl with | [_], _ => rfl⟩
  have F_of := fun_mk (st := sOf) l_of c_of k_of
  have D_of : DF K mg "_law_of" sOf ["_law_d", "_law_some"] f_of _ := ⟨F_of, PySem.W.mg_of X G a_of, F_of.binds (ps := ["_law_d", "_law_some"]) fun _ _ _ _ _ _ us hl => match us, hl with | [_, _], _ => rfl⟩
  have F_draw := fun_mk (st := sDraw) l_draw c_draw k_draw
  have D_draw : DF K mg "_law_draw" sDraw ["_law_d", "_law_many"] f_draw _ := ⟨F_draw, PySem.W.mg_of X G a_draw, F_draw.binds (ps := ["_law_d", "_law_many"]) fun _ _ _ _ _ _ us hl => match us, hl with | [_, _], _ => rfl⟩
  have F_told := fun_mk (st := sTold) l_told c_told k_told
  have D_told : DF K mg "_law_told" sTold ["_law_text_here"] f_told _ := ⟨F_told, PySem.W.mg_of X G a_told, F_told.binds (ps := ["_law_text_here"]) fun _ _ _ _ _ _ us hl => match us, hl with | [_], _ => rfl⟩
  have F_piece := fun_mk (st := sPiece) l_piece c_piece k_piece
  have D_piece : DF K mg "_law_piece" sPiece ["_law_d"] f_piece _ := ⟨F_piece, PySem.W.mg_of X G a_piece, F_piece.binds (ps := ["_law_d"]) fun _ _ _ _ _ _ us hl => match us, hl with | [_], _ => rfl⟩
  have F_text := fun_mk (st := sText) l_text c_text k_text
  have D_text : DF K mg "_law_text" sText ["_law_d"] f_text _ := ⟨F_text, PySem.W.mg_of X G a_text, F_text.binds (ps := ["_law_d"]) fun _ _ _ _ _ _ us hl => match us, hl with | [_], _ => rfl⟩
  have F_spoilt := fun_mk (st := sSpoilt) l_spoilt c_spoilt k_spoilt
  have D_spoilt : DF K mg "_law_spoilt" sSpoilt ["_law_d", "_law_text_here"] f_spoilt _ := ⟨F_spoilt, PySem.W.mg_of X G a_spoilt, F_spoilt.binds (ps := ["_law_d", "_law_text_here"]) fun _ _ _ _ _ _ us hl => match us, hl with | [_, _], _ => rfl⟩
  have F_same := fun_mk (st := sSame) l_same c_same k_same
  have D_same : DF K mg "_law_same" sSame ["_law_x", "_law_due_here"] f_same _ := ⟨F_same, PySem.W.mg_of X G a_same, F_same.binds (ps := ["_law_x", "_law_due_here"]) fun _ _ _ _ _ _ us hl => match us, hl with | [_, _], _ => rfl⟩
  have F_start := fun_mk (st := sStart) l_start c_start k_start
  have D_start : DF K mg "_law_start" sStart ["_law_script"] f_start _ := ⟨F_start, PySem.W.mg_of X G a_start, F_start.binds (ps := ["_law_script"]) fun _ _ _ _ _ _ us hl => match us, hl with | [_], _ => rfl⟩
  have F_rr := fun_mk (st := sReadRow) l_rr c_rr k_rr
  have D_rr : DF K mg "read_row" sReadRow ["text"] f_rr _ := ⟨F_rr, PySem.W.mg_of X G a_rr, F_rr.binds (ps := ["text"]) fun _ _ _ _ _ _ us hl => match us, hl with | [_], _ => rfl⟩
  have F_iH := fun_mk (st := sHEinit) l_iH c_iH k_iH
  have b_iH := F_iH.binds (ps := ["self", "word"]) fun _ _ _ _ _ _ us hl => match us, hl with | [_, _], _ => rfl
  have F_iB := fun_mk (st := sBTinit) l_iB c_iB k_iB
  have b_iB := F_iB.binds (ps := ["self", "at"]) fun _ _ _ _ _ _ us hl => match us, hl with | [_, _], _ => rfl
  have e := hfa.symm.trans (PySem.W.mg_of X G a_L)
  cases e
  have B : BM mg := ⟨PySem.W.mg_none_of X G z_list, PySem.W.mg_none_of X G z_sorted, PySem.W.mg_none_of X G z_set, PySem.W.mg_none_of X G z_all, PySem.W.mg_none_of X G z_len, PySem.W.mg_none_of X G z_enumerate, PySem.W.mg_none_of X G z_range, PySem.W.mg_none_of X G z_isinstance, PySem.W.mg_none_of X G z_tuple⟩
  have he : HE K mg CH f_iH _ := ⟨PySem.W.mg_of X G a_CH, ⟨_, ⟨r_H, g_H⟩, i_H⟩, F_iH, b_iH, PySem.W.mg_none_of X G z_ValueError, v_V⟩
  have xCB : XC K mg "BadText" "BadText.__init__" sBTinit "at" CB f_iB _ := ⟨PySem.W.mg_of X G a_CB, ⟨⟨_, _, _, _, _, _, _, _, _, _, _, _, _, _, _, x_CB, rv_CB⟩, sa_CB, ex_CB, ty_CB, kc_CB⟩, n_CB_word, n_CB_at, i_CB, t_CB, F_iB, b_iB⟩
  have F_qsg := fun_mk (st := sRd_sg) l_qsg c_qsg k_qsg
  have b1_qsg := F_qsg.binds (ps := ["self"]) fun _ _ _ _ _ _ us hl => match us, hl with | [_], _ => rfl
  have F_qsd := fun_mk (st := sRd_sd) l_qsd c_qsd k_qsd
  have b1_qsd := F_qsd.binds (ps := ["self", "signs"]) fun _ _ _ _ _ _ us hl => match us, hl with | [_, _], _ => rfl
  have F_qtk := fun_mk (st := sRd_tk) l_qtk c_qtk k_qtk
  have b1_qtk := F_qtk.binds (ps := ["self", "signs"]) fun _ _ _ _ _ _ us hl => match us, hl with | [_, _], _ => rfl
  have F_qlt := fun_mk (st := sRd_lt) l_qlt c_qlt k_qlt
  have b1_qlt := F_qlt.binds (ps := ["self", "letters", "fewest", "most"]) fun _ _ _ _ _ _ us hl => match us, hl with | [_, _, _, _], _ => rfl
  have F_qnm := fun_mk (st := sRd_nm) l_qnm c_qnm k_qnm
  have b1_qnm := F_qnm.binds (ps := ["self"]) fun _ _ _ _ _ _ us hl => match us, hl with | [_], _ => rfl
  have F_qgr := fun_mk (st := sRd_gr) l_qgr c_qgr k_qgr
  have b1_qgr := F_qgr.binds (ps := ["self", "deep"]) fun _ _ _ _ _ _ us hl => match us, hl with | [_, _], _ => rfl
  have F_qsp := fun_mk (st := sRd_sp) l_qsp c_qsp k_qsp
  have b1_qsp := F_qsp.binds (ps := ["self", "deep"]) fun _ _ _ _ _ _ us hl => match us, hl with | [_, _], _ => rfl
  have F_qrw := fun_mk (st := sRd_rw) l_qrw c_qrw k_qrw
  have b1_qrw := F_qrw.binds (ps := ["self", "deep"]) fun _ _ _ _ _ _ us hl => match us, hl with | [_, _], _ => rfl
  have F_qini := fun_mk (st := sRd_ini) l_qini c_qini k_qini
  have b1_qini := F_qini.binds (ps := ["self", "text"]) fun _ _ _ _ _ _ us hl => match us, hl with | [_, _], _ => rfl
  have rc : RdC K mg RC f_qini f_qsg f_qsd f_qtk f_qlt f_qnm f_qgr f_qsp f_qrw _ _ _ _ _ _ _ _ _ := ⟨PySem.W.mg_of X G a_RC, ⟨pg_RC, hd_RC, po_RC, sa_RC⟩, ⟨mk_RC, i_RC, j_RC, kp_RC⟩, n1_RC, n2_RC, n3_RC, F_qini, b1_qini, F_qsg, b1_qsg, ⟨b_qsg, m_qsg, k_qsg⟩, F_qsd, b1_qsd, ⟨b_qsd, m_qsd, k_qsd⟩, F_qtk, b1_qtk, ⟨b_qtk, m_qtk, k_qtk⟩, F_qlt, b1_qlt, ⟨b_qlt, m_qlt, k_qlt⟩, F_qnm, b1_qnm, ⟨b_qnm, m_qnm, k_qnm⟩, F_qgr, b1_qgr, ⟨b_qgr, m_qgr, k_qgr⟩, F_qsp, b1_qsp, ⟨b_qsp, m_qsp, k_qsp⟩, F_qrw, b1_qrw, ⟨b_qrw, m_qrw, k_qrw⟩, ⟨_, PySem.W.mg_of X G e_wSMALL⟩, ⟨_, PySem.W.mg_of X G e_wLETTERS⟩, ⟨_, PySem.W.mg_of X G e_wFIGURES⟩, ⟨_, PySem.W.mg_of X G e_wMOST_STEPS⟩, ⟨_, PySem.W.mg_of X G e_wMOST_DEEP⟩, ⟨_, PySem.W.mg_of X G e_wMOST_TIMES⟩, ⟨_, PySem.W.mg_of X G e_wMOST_SIDES⟩, ⟨_, PySem.W.mg_of X G e_wLONGEST_NAME⟩, (PySem.W.mg_none_of X G z_len), (PySem.W.mg_none_of X G z_int), (PySem.W.mg_none_of X G z_tuple)⟩
  have ex : EX K CB := ⟨⟨ga_CB, gg_CB, ex_CB, hd_CB⟩, exm_of ex_CB ic_CB ty_CB e_CB_CB⟩
  have rl : RL K mg f_letters f_run f_tm f_stp f_row f_due _ _ _ _ _ _ := ⟨D_letters, D_run, D_tm, D_stp, D_row, D_due, (PySem.W.mg_none_of X G z_int)⟩
  have rx : RX K mg f_of f_draw f_told f_piece f_text f_spoilt _ _ _ _ _ _ := ⟨D_of, D_draw, D_told, D_piece, D_text, D_spoilt, (PySem.W.mg_none_of X G z_str)⟩
  exact ⟨_, [], spLaw K, nofun, nofun, nofun, fun s u => .of_eq rfl, fun H a ns hl hb hH hS => ⟨a, ns, rfl, hS, fun _ => rfl⟩, fun base KB GB TB => ok_law (k := 0) (fun_mk (st := sLaw) l_L c_L k_L) B (PySem.W.mg_none_of X G z_bool) rc he xCB ex D_rr D_same D_start rl rx⟩
end NC
noncomputable section
namespace HC
open PySem PySem.W PySem.Calls PyProof.Rows HeadRun
def execsQ := PySem.W.Fast.tw12563942051412417395
theorem execsQ_eq : @PySem.execs = execsQ := PySem.W.Fast.te12563942051412417395
def blockQ := PySem.W.Fast.tw1066825118222455980
theorem blockQ_eq : @PySem.blockStart = blockQ := PySem.W.Fast.te1066825118222455980
section
variable (go : SharedT → Thread → Option (SharedT × Thread)) (lo : Nat) (an : Option Value)
/-- some statements, to their end -/
def goS : Nat → SharedT → Thread → Option (Flow × SharedT × Code × Pos)
  | 0, _, _ => none
  | m + 1, S, T => match endAt 1 T with
    | some x => some (x, S, T.code, T.pos)
    | none => match stepOk lo an T with
      | false => none
      | true => match go S T with
        | none => none
        | some (S', T') => frS S' fun S2 => goS m S2 T'
/-- so many steps of the top -/
def goG : Nat → SharedT → Thread → Option (SharedT × Thread)
  | 0, S, T => some (S, T)
  | m + 1, S, T => match through T with
    | true => none
    | false => match stepOk lo an T with
      | false => none
      | true => match go S T with
        | none => none
        | some (S', T') => frS S' fun S2 => goG m S2 T'
end
section
variable {tb : String → Option Builtin} {p : Program} {w : World} {lo : Nat} {an : Option Value}
theorem goS_ok : ∀ {m : Nat} {S S' : SharedT} {T : Thread} {x : Flow} {c : Code} {q : Pos}, goS (stepT (denote tb) p w) lo an m S T = some (x, S', c, q) → segRun tb p w lo an 1 m S.abs T = some (x, S'.abs, c, q)
  | 0, _, _, _, _, _, _, h => nomatch h
  | m + 1, S, S', T, x, c, q, h => by
    unfold goS at h
    unfold segRun
    cases h1 : endAt 1 T with
    | some y =>
      simp only [h1, Option.some.injEq, Prod.mk.injEq] at h ⊢
      obtain ⟨a, b, d, e⟩ := h
      exact ⟨a, by rw [b], d, e⟩
    | none =>
      cases h2 : stepOk lo an T with
      | false => simp [h1, h2] at h
      | true =>
        cases h3 : stepT (denote tb) p w S T with
        | none => simp [h1, h2, h3] at h
        | some r =>
          obtain ⟨S2, T2⟩ := r
          simp only [h1, h2, h3, frS_eq] at h
          simp only [stepT_spec h3]
          exact goS_ok h
theorem goG_ok : ∀ {m : Nat} {S S' : SharedT} {T T' : Thread}, goG (stepT (denote tb) p w) lo an m S T = some (S', T') → topGo tb p w lo an m S.abs T = some (S'.abs, T')
  | 0, S, S', T, T', h => by
    unfold goG at h
    simp only [Option.some.injEq, Prod.mk.injEq] at h
    obtain ⟨a, b⟩ := h
    rw [← a, ← b]
    rfl
  | m + 1, S, S', T, T', h => by
    unfold goG at h
    unfold topGo
    cases h1 : through T with
    | true => simp [h1] at h
    | false =>
      cases h2 : stepOk lo an T with
      | false => simp [h1, h2] at h
      | true =>
        cases h3 : stepT (denote tb) p w S T with
        | none => simp [h1, h2, h3] at h
        | some r =>
          obtain ⟨S2, T2⟩ := r
          simp only [h1, h2, h3, frS_eq] at h
          simp only [stepT_spec h3]
          exact goG_ok h
end
/-- the machine, by the twins -/
abbrev mq (p : Program) (w : World) : SharedT → Thread → Option (SharedT × Thread) := stepQ (denQ tabQ) p w
/-- a state by the list of its objects -/
def stL (w : World) (l : List Obj) (k : Nat) (os : OsState) : SharedT := match putAll l .nil 0 with
  | some (t, n) => ⟨t, n, (boot_heap w.params).life, #[], boot_drawn, k, os⟩
  | none => ⟨.nil, 0, (boot_heap w.params).life, #[], boot_drawn, k, os⟩
abbrev thS (l : List Stmt) (env : Env) (c : Code) (a : Pos) (q : Pos) : Thread := ⟨(execsQ l env).wrap doneF deadEnd id id, c, a, [topFrame q]⟩
abbrev thB (l : List Stmt) (env : Env) (c : Code) (a : Pos) (q : Pos) : Thread := ⟨(blockQ l env).wrap (fun _ => doneF .next) deadEnd id id, c, a, [topFrame q]⟩
section
variable {p : Program} {w : World} {lo : Nat} {an : Option Value} {env : Env} {q a a' : Pos} {c : Code} {m N : Nat} {S S' : SharedT} {l rest : List Stmt} {r : Shared}
theorem mq_eq : mq p w = stepT (denote treeTable) p w := by
  show stepQ (denQ tabQ) p w = _
  rw [← stepQ_eq, ← denQ_eq, ← tabQ_eq]
theorem run_seg (h : goS (mq p w) lo an m S (thS l env c a q) = some (.next, S', c, a')) (k : topRun treeTable p w lo an N S'.abs (restOf rest env c a' [topFrame q]) = some r) :
    topRun treeTable p w lo an (m + N) S.abs (restOf (l ++ rest) env c a [topFrame q]) = some r := by
  rw [mq_eq] at h
  unfold thS at h
  rw [← execsQ_eq] at h
  exact piece_app (goS_ok h) k
theorem run_end (h : goF (mq p w) lo an m S ⟨doneF .next, c, a, [topFrame q]⟩ = some S') : topRun treeTable p w lo an m S.abs (restOf [] env c a [topFrame q]) = some S'.abs := by
  rw [mq_eq] at h
  exact piece_nil (goF_ok h)
theorem run_top {m2 : Nat} {Sa Sb : SharedT} {ab : Pos} {b : List Stmt} (h0 : goG (mq p w) lo an m S (topStub p) = some (Sa, ⟨denQ tabQ (.body b env), .body b env, a, [topFrame q]⟩)) (h1 : goS (mq p w) lo an m2 Sa (thB b env (.body b env) a q) = some (.next, Sb, .body b env, ab))
    (k : topRun treeTable p w lo an N Sb.abs (restOf b env (.body b env) ab [topFrame q]) = some r) : topRun treeTable p w lo an (m + (m2 + N)) S.abs (topStub p) = some r := by
  rw [mq_eq] at h0 h1
  rw [← denQ_eq, ← tabQ_eq] at h0
  unfold thB at h1
  rw [← blockQ_eq] at h1
  exact go_top (goG_ok h0) (piece_block (goS_ok h1) k)
end
theorem boot_abs (w : World) (os : OsState) {t : PySem.W.BT} {n : Nat} (e : putAll (boot_heap w.params).objs.toList .nil 0 = some (t, n)) : (stL w (boot_heap w.params).objs.toList boot_toks os).abs = ⟨boot_heap w.params, #[], boot_drawn, boot_toks, os⟩ := by
  unfold stL
  rw [e]
  show (⟨absHeap t n (boot_heap w.params).life, #[], boot_drawn, boot_toks, os⟩ : Shared) = _
  rw [putAll_heap e]
end HC
namespace HC
open PySem PySem.W PySem.Calls PyProof.Rows HeadRun
def hpL (P : Params) (l : List Obj) : Heap := match putAll l .nil 0 with
  | some (t, n) => absHeap t n (boot_heap P).life
  | none => absHeap .nil 0 (boot_heap P).life
theorem stL_abs (w : World) (l : List Obj) (k : Nat) (os : OsState) : (stL w l k os).abs = ⟨hpL w.params l, #[], boot_drawn, k, os⟩ := by
  unfold stL hpL
  cases putAll l .nil 0 <;> rfl
/-- the row's equation from the runs -/
theorem left_cut {p q : Program} {loose : List PySem.Str} {Xt : Shared → Bool} {H : Hook} {ob : SharedT → H.α} {N M lo kF : Nat} {an : Option Value} {F : Params → List Obj} (ho : ∀ S : SharedT, ob S = H.obs S.abs)
    (e : opening p = plainProg p.main.scope.names) (hN : Nat.ble 600 N = true) (f : ∀ s, fenceModules? p s = some s) (le : Nat.ble M N = true)
    (size : ∀ w : World, ((boot_heap w.params).isNs mainGlobals && (#[] : Array GenState).size == 0, (boot_heap w.params).objs.size, (boot_heap w.params).nsMap mainGlobals "__annotations__") = (true, lo, an))
    (tre : ∀ w : World, (putAll (boot_heap w.params).objs.toList .nil 0).isSome = true)
    (run : ∀ (w : World) (os : OsState), topRun treeTable p w lo an M (stL w (boot_heap w.params).objs.toList boot_toks os).abs (topStub p) = some (stL w (F w.params) kF os).abs)
    (looks : ∀ (w : World) (os : OsState), (fun S : SharedT => (looksF p (boot_heap w.params) S.abs, seenQ q loose (importedModules p.main.body) Xt S.abs, ob S)) (stL w (F w.params) kF os) = (true, openGood q loose, H.val w)) :
    LeftO p q loose Xt H.obs H.val N true := by
  refine LeftO.of_pieces (H₀ := boot_heap) (H₁ := fun P => hpL P (F P)) (gs₀ := #[]) (gs₁ := #[]) (d₀ := boot_drawn) (d₁ := boot_drawn) (k₀ := boot_toks) (k₁ := kF) (boot_open e hN f) size (fun w os => ?_) le (fun w => ?_)
  · obtain ⟨⟨t, n⟩, ht⟩ := Option.isSome_iff_exists.mp (tre w)
    have z := run w os
    rw [boot_abs w os ht, stL_abs] at z
    exact z
  · funext os
    have z := looks w os
    obtain ⟨z1, z2, z3⟩ : _ ∧ _ ∧ _ := by simpa only [Prod.mk.injEq] using z
    have ab := stL_abs w (F w.params) kF os
    rw [← seenQ_eq, ab] at z2
    rw [ab] at z1
    rw [ho, ab] at z3
    exact Prod.ext z1 (Prod.ext z2 z3)
theorem obK {as : List Addr} (S : SharedT) : as.map (getT S) = as.map S.abs.heap.get? := List.map_congr_left fun a _ => getT_eq S a
end HC
end
set_option maxHeartbeats 0
noncomputable section
namespace HX
open PySem PySem.W PySem.Calls PyProof.Rows HeadRun HC L2
abbrev S := PySem.Str.ofString
abbrev V (l : List Value) : Array Value := l.toArray
abbrev W (l : List (Option Value)) : Array (Option Value) := l.toArray
abbrev D (l : List DictEntry) : Array DictEntry := l.toArray
abbrev E (P : Params) (x : PySem.Str) (k : Tok) (v : Value) : DictEntry := ⟨PyData.keyHash P x, .str x k, v⟩
abbrev pw : Program := PySem.Challenge.pw_nearcall_k28_texts_that_are_no_row
abbrev rw_ : OpenLaw := PySem.Challenge.rw_nearcall_k28_texts_that_are_no_row
abbrev ST (i : Nat) : Stmt := pw.main.body.getD i (.Pass ⟨0, 0, 0, 0⟩)
def lv : List (PySem.Str × WData) := []
def o0 (P : Params) : Obj := ⟨(.type "tuple"), none, (.seq (V []) 0), (W [])⟩
def o1 (P : Params) : Obj := ⟨.none, none, (.fields (V [])), (W [])⟩
def o2 (P : Params) : Obj := ⟨(.type "code"), none, (.fields (V [(.str (S "<module>") 182), (.str (S "<module>") 183), (.str (S "/claim/cut.py") 184), (.int 1 0), (.int 0 0), (.int 0 0), (.int 0 0), (.int 0 0), (.ref 11), (.bool false), (.int 181 0), (.ref 12), .none, .none, .none, .none, (.int 185 0), (.int 1 0), (.str (S "/claim/cut.py") 186)])), (W [])⟩
def o3 (P : Params) : Obj := ⟨(.type "frame"), none, .plain, (W [(some (.ref 13)), (some (.ref 3)), (some (.ref 3)), none, (some (.str (S "__main__") 164)), none, (some (.ref 0))])⟩
def objs_a (P : Params) : List Obj :=
  [boot_o_0 P, boot_o_1 P, boot_o_2 P, boot_o_3 P, boot_o_4 P, boot_o_5 P, boot_o_6 P, boot_o_7 P, boot_o_8 P, boot_o_9 P, boot_o_10 P, o0 P, o1 P, o2 P, o3 P]
def objs_b (P : Params) : List Obj :=
  [boot_o_0 P, boot_o_1 P, boot_o_2 P, boot_o_3 P, boot_o_4 P, boot_o_5 P, boot_o_6 P, boot_o_7 P, boot_o_8 P, boot_o_9 P, boot_o_10 P, o0 P, o1 P, o2 P, o3 P]
def o4 (P : Params) : Obj := ⟨(.type "dict"), none, (.dict (D [E P (S "__name__") 165 (.str (S "law_nearcall_k28_texts_that_are_no_row") 372), E P (S "__doc__") 166 .none, E P (S "__package__") 167 .none, E P (S "__loader__") 168 (.builtin "__main__.__loader__#opaque"), E P (S "__spec__") 169 .none, E P (S "__annotations__") 170 (.ref 6), E P (S "__builtins__") 171 (.ref 4), E P (S "__file__") 173 (.str (S "/claim/cut.py") 172), E P (S "__cached__") 174 .none, E P (S "HallError") 215 (.ref 31), E P (S "BadText") 240 (.ref 51), E P (S "MOST_STEPS") 244 (.int 60 243), E P (S "MOST_DEEP") 246 (.int 12 245), E P (S "MOST_TIMES") 250 (.int 1000000000000000000000000000000 249), E P (S "MOST_SIDES") 252 (.int 12 251), E P (S "LONGEST_NAME") 254 (.int 8 253), E P (S "SMALL") 256 (.str (S "abcdefghijklmnopqrstuvwxyz") 255), E P (S "LETTERS") 258 (.str (S "abcdefghijklmnopqrstuvwxyzABCDEFGHIJKLMNOPQRSTUVWXYZ") 257), E P (S "FIGURES") 260 (.str (S "0123456789") 259), E P (S "Reader") 362 (.ref 126), E P (S "read_row") 371 (.ref 137)]) 21), (W [])⟩
def o5 (P : Params) : Obj := ⟨.none, none, (.fields (V [(.int 2 0), (.int 0 0), (.ref 20), (.int 7 0), (.int 0 0), (.ref 40), (.int 21 0), (.int 0 0), (.ref 59), (.int 86 0), (.int 0 0), (.ref 136)])), (W [])⟩
def o6 (P : Params) : Obj := ⟨(.type "tuple"), none, (.seq (V [(.type "ValueError")]) 0), (W [])⟩
def o7 (P : Params) : Obj := ⟨(.type "builtin_function_or_method"), none, (.fields (V [(.builtin "type.__prepare__"), (.type "type")])), (W [])⟩
def o8 (P : Params) : Obj := ⟨(.type "dict"), none, (.dict (D [E P (S "__module__") 196 (.str (S "nearcall.errors") 187), E P (S "__qualname__") 198 (.str (S "HallError") 197), E P (S "__firstlineno__") 200 (.int 2 199), E P (S "__init__") 208 (.ref 28), E P (S "__static_attributes__") 210 (.ref 29)]) 5), (W [])⟩
def o9 (P : Params) : Obj := ⟨(.type "tuple"), none, (.seq (V []) 0), (W [])⟩
def o10 (P : Params) : Obj := ⟨.none, none, (.fields (V [(.int 4 0), (.int 4 0), (.ref 27)])), (W [])⟩
def o11 (P : Params) : Obj := ⟨(.type "code"), none, (.fields (V [(.str (S "HallError") 191), (.str (S "HallError") 192), (.str (S "/claim/cut.py") 193), (.int 2 0), (.int 0 0), (.int 0 0), (.int 0 0), (.int 0 0), (.ref 18), (.bool false), (.int 181 0), (.ref 19), .none, .none, .none, .none, (.int 194 0), (.int 2 0), (.str (S "/claim/cut.py") 195)])), (W [])⟩
def o12 (P : Params) : Obj := ⟨(.type "frame"), none, .plain, (W [(some (.ref 20)), (some (.ref 3)), (some (.ref 17)), none, (some (.str (S "nearcall.errors") 187)), none, (some (.ref 0))])⟩
def o13 (P : Params) : Obj := ⟨(.type "tuple"), none, (.seq (V []) 0), (W [])⟩
def o14 (P : Params) : Obj := ⟨.none, none, (.fields (V [])), (W [])⟩
def o15 (P : Params) : Obj := ⟨(.type "tuple"), none, (.seq (V [(.str (S "self") 204), (.str (S "word") 205)]) 0), (W [])⟩
def o16 (P : Params) : Obj := ⟨(.type "tuple"), none, (.seq (V []) 0), (W [])⟩
def o17 (P : Params) : Obj := ⟨.none, none, (.func ⟨(S "__init__"), (S "HallError.__init__"), (defArgs (inClass (ST 1) 0)), (.stmts (defBody (inClass (ST 1) 0))), (defScope (inClass (ST 1) 0)), 0, [], .none, .none, .none, .none, none, .none, .none, 0⟩), (W [])⟩
def o18 (P : Params) : Obj := ⟨(.type "code"), none, (.fields (V [(.str (S "__init__") 201), (.str (S "HallError.__init__") 202), (.str (S "/claim/cut.py") 203), (.int 4 0), (.int 2 0), (.int 0 0), (.int 0 0), (.int 3 0), (.ref 22), (.bool true), (.int 181 0), (.ref 23), .none, (.ref 24), (.ref 25), (.ref 26), (.int 206 0), (.int 4 0), (.str (S "/claim/cut.py") 207)])), (W [])⟩
def o19 (P : Params) : Obj := ⟨(.type "function"), none, (.func ⟨(S "__init__"), (S "HallError.__init__"), (defArgs (inClass (ST 1) 0)), (.stmts (defBody (inClass (ST 1) 0))), (defScope (inClass (ST 1) 0)), 3, [], .none, .none, .none, (.str (S "nearcall.errors") 187), none, (.ref 27), .none, 0⟩), (W [])⟩
def o20 (P : Params) : Obj := ⟨(.type "tuple"), none, (.seq (V [(.str (S "word") 209)]) 0), (W [])⟩
def o21 (P : Params) : Obj := ⟨(.type "dict"), none, (.dict (D [E P (S "__module__") 196 (.str (S "nearcall.errors") 187), E P (S "__firstlineno__") 200 (.int 2 199), E P (S "__init__") 208 (.ref 28), E P (S "__static_attributes__") 210 (.ref 29), E P (S "__weakref__") 212 (.ref 32), E P (S "__doc__") 213 .none]) 3), (W [])⟩
def o22 (P : Params) : Obj := ⟨(.type "type"), none, (.cls ⟨(S "HallError"), [(.type "ValueError")], [(.ref 31), (.type "ValueError"), (.type "Exception"), (.type "BaseException"), (.type "object")], 30, (S "HallError"), true, [], [(.ref 51)], false, none, false⟩), (W [(some (.ref 15)), none, (some (.str (S "HallError") 189)), (some (.str (S "HallError") 197)), (some (.builtin "ValueError.__new__")), (some (.bool true))])⟩
def o23 (P : Params) : Obj := ⟨(.type "getset_descriptor"), none, (.fields (V [(.str (S "__weakref__") 211), (.ref 31), (.builtin "ExceptionGroup.__weakref__"), .none])), (W [])⟩
def o24 (P : Params) : Obj := ⟨(.type "super"), none, (.fields (V [(.ref 31), (.ref 31), (.ref 31)])), (W [])⟩
def o25 (P : Params) : Obj := ⟨(.type "builtin_function_or_method"), none, (.fields (V [(.builtin "object.__init_subclass__"), (.ref 31)])), (W [])⟩
def o26 (P : Params) : Obj := ⟨(.type "tuple"), none, (.seq (V [(.ref 31)]) 0), (W [])⟩
def o27 (P : Params) : Obj := ⟨(.type "builtin_function_or_method"), none, (.fields (V [(.builtin "type.__prepare__"), (.type "type")])), (W [])⟩
def o28 (P : Params) : Obj := ⟨(.type "dict"), none, (.dict (D [E P (S "__module__") 223 (.str (S "nearcall.errors") 187), E P (S "__qualname__") 225 (.str (S "BadText") 224), E P (S "__firstlineno__") 227 (.int 7 226), E P (S "__init__") 235 (.ref 48), E P (S "__static_attributes__") 237 (.ref 49)]) 5), (W [])⟩
def o29 (P : Params) : Obj := ⟨(.type "tuple"), none, (.seq (V []) 0), (W [])⟩
def o30 (P : Params) : Obj := ⟨.none, none, (.fields (V [(.int 9 0), (.int 4 0), (.ref 47)])), (W [])⟩
def o31 (P : Params) : Obj := ⟨(.type "code"), none, (.fields (V [(.str (S "BadText") 218), (.str (S "BadText") 219), (.str (S "/claim/cut.py") 220), (.int 7 0), (.int 0 0), (.int 0 0), (.int 0 0), (.int 0 0), (.ref 38), (.bool false), (.int 181 0), (.ref 39), .none, .none, .none, .none, (.int 221 0), (.int 7 0), (.str (S "/claim/cut.py") 222)])), (W [])⟩
def o32 (P : Params) : Obj := ⟨(.type "frame"), none, .plain, (W [(some (.ref 40)), (some (.ref 3)), (some (.ref 37)), none, (some (.str (S "nearcall.errors") 187)), none, (some (.ref 0))])⟩
def o33 (P : Params) : Obj := ⟨(.type "tuple"), none, (.seq (V []) 0), (W [])⟩
def o34 (P : Params) : Obj := ⟨.none, none, (.fields (V [])), (W [])⟩
def o35 (P : Params) : Obj := ⟨(.type "tuple"), none, (.seq (V [(.str (S "self") 231), (.str (S "at") 232)]) 0), (W [])⟩
def o36 (P : Params) : Obj := ⟨(.type "tuple"), none, (.seq (V []) 0), (W [])⟩
def o37 (P : Params) : Obj := ⟨.none, none, (.func ⟨(S "__init__"), (S "BadText.__init__"), (defArgs (inClass (ST 2) 0)), (.stmts (defBody (inClass (ST 2) 0))), (defScope (inClass (ST 2) 0)), 0, [], .none, .none, .none, .none, none, .none, .none, 0⟩), (W [])⟩
def o38 (P : Params) : Obj := ⟨(.type "code"), none, (.fields (V [(.str (S "__init__") 228), (.str (S "BadText.__init__") 229), (.str (S "/claim/cut.py") 230), (.int 9 0), (.int 2 0), (.int 0 0), (.int 0 0), (.int 3 0), (.ref 42), (.bool true), (.int 181 0), (.ref 43), .none, (.ref 44), (.ref 45), (.ref 46), (.int 233 0), (.int 9 0), (.str (S "/claim/cut.py") 234)])), (W [])⟩
def o39 (P : Params) : Obj := ⟨(.type "function"), none, (.func ⟨(S "__init__"), (S "BadText.__init__"), (defArgs (inClass (ST 2) 0)), (.stmts (defBody (inClass (ST 2) 0))), (defScope (inClass (ST 2) 0)), 3, [], .none, .none, .none, (.str (S "nearcall.errors") 187), none, (.ref 47), .none, 0⟩), (W [])⟩
def o40 (P : Params) : Obj := ⟨(.type "tuple"), none, (.seq (V [(.str (S "at") 236)]) 0), (W [])⟩
def o41 (P : Params) : Obj := ⟨(.type "dict"), none, (.dict (D [E P (S "__module__") 223 (.str (S "nearcall.errors") 187), E P (S "__firstlineno__") 227 (.int 7 226), E P (S "__init__") 235 (.ref 48), E P (S "__static_attributes__") 237 (.ref 49), E P (S "__doc__") 238 .none]) 2), (W [])⟩
def o42 (P : Params) : Obj := ⟨(.type "type"), none, (.cls ⟨(S "BadText"), [(.ref 31)], [(.ref 51), (.ref 31), (.type "ValueError"), (.type "Exception"), (.type "BaseException"), (.type "object")], 50, (S "BadText"), true, [], [], false, none, false⟩), (W [(some (.ref 35)), none, (some (.str (S "BadText") 216)), (some (.str (S "BadText") 224)), (some (.builtin "ValueError.__new__")), (some (.bool true))])⟩
def o43 (P : Params) : Obj := ⟨(.type "super"), none, (.fields (V [(.ref 51), (.ref 51), (.ref 51)])), (W [])⟩
def o44 (P : Params) : Obj := ⟨(.type "builtin_function_or_method"), none, (.fields (V [(.builtin "object.__init_subclass__"), (.ref 51)])), (W [])⟩
def o45 (P : Params) : Obj := ⟨(.type "tuple"), none, (.seq (V []) 0), (W [])⟩
def o46 (P : Params) : Obj := ⟨(.type "builtin_function_or_method"), none, (.fields (V [(.builtin "type.__prepare__"), (.type "type")])), (W [])⟩
def o47 (P : Params) : Obj := ⟨(.type "dict"), none, (.dict (D [E P (S "__module__") 268 (.str (S "nearcall.rows") 241), E P (S "__qualname__") 270 (.str (S "Reader") 269), E P (S "__firstlineno__") 272 (.int 21 271), E P (S "__init__") 280 (.ref 67), E P (S "sign") 287 (.ref 74), E P (S "stands") 295 (.ref 81), E P (S "take") 304 (.ref 88), E P (S "letters_taken") 315 (.ref 95), E P (S "number") 323 (.ref 102), E P (S "group") 332 (.ref 109), E P (S "step") 342 (.ref 116), E P (S "row") 351 (.ref 123), E P (S "__static_attributes__") 355 (.ref 124)]) 13), (W [])⟩
def o48 (P : Params) : Obj := ⟨(.type "tuple"), none, (.seq (V []) 0), (W [])⟩
def o49 (P : Params) : Obj := ⟨.none, none, (.fields (V [(.int 23 0), (.int 4 0), (.ref 66), (.int 28 0), (.int 4 0), (.ref 73), (.int 31 0), (.int 4 0), (.ref 80), (.int 34 0), (.int 4 0), (.ref 87), (.int 41 0), (.int 4 0), (.ref 94), (.int 47 0), (.int 4 0), (.ref 101), (.int 56 0), (.int 4 0), (.ref 108), (.int 62 0), (.int 4 0), (.ref 115), (.int 77 0), (.int 4 0), (.ref 122)])), (W [])⟩
def o50 (P : Params) : Obj := ⟨(.type "code"), none, (.fields (V [(.str (S "Reader") 263), (.str (S "Reader") 264), (.str (S "/claim/cut.py") 265), (.int 21 0), (.int 0 0), (.int 0 0), (.int 0 0), (.int 0 0), (.ref 57), (.bool false), (.int 181 0), (.ref 58), .none, .none, .none, .none, (.int 266 0), (.int 21 0), (.str (S "/claim/cut.py") 267)])), (W [])⟩
def o51 (P : Params) : Obj := ⟨(.type "frame"), none, .plain, (W [(some (.ref 59)), (some (.ref 3)), (some (.ref 56)), none, (some (.str (S "nearcall.rows") 241)), none, (some (.ref 0))])⟩
def o52 (P : Params) : Obj := ⟨(.type "tuple"), none, (.seq (V []) 0), (W [])⟩
def o53 (P : Params) : Obj := ⟨.none, none, (.fields (V [])), (W [])⟩
def o54 (P : Params) : Obj := ⟨(.type "tuple"), none, (.seq (V [(.str (S "self") 276), (.str (S "text") 277)]) 0), (W [])⟩
def o55 (P : Params) : Obj := ⟨(.type "tuple"), none, (.seq (V []) 0), (W [])⟩
def o56 (P : Params) : Obj := ⟨.none, none, (.func ⟨(S "__init__"), (S "Reader.__init__"), (defArgs (inClass (ST 12) 0)), (.stmts (defBody (inClass (ST 12) 0))), (defScope (inClass (ST 12) 0)), 0, [], .none, .none, .none, .none, none, .none, .none, 0⟩), (W [])⟩
def o57 (P : Params) : Obj := ⟨(.type "code"), none, (.fields (V [(.str (S "__init__") 273), (.str (S "Reader.__init__") 274), (.str (S "/claim/cut.py") 275), (.int 23 0), (.int 2 0), (.int 0 0), (.int 0 0), (.int 3 0), (.ref 61), (.bool true), (.int 181 0), (.ref 62), .none, (.ref 63), (.ref 64), (.ref 65), (.int 278 0), (.int 23 0), (.str (S "/claim/cut.py") 279)])), (W [])⟩
def o58 (P : Params) : Obj := ⟨(.type "function"), none, (.func ⟨(S "__init__"), (S "Reader.__init__"), (defArgs (inClass (ST 12) 0)), (.stmts (defBody (inClass (ST 12) 0))), (defScope (inClass (ST 12) 0)), 3, [], .none, .none, .none, (.str (S "nearcall.rows") 241), none, (.ref 66), .none, 0⟩), (W [])⟩
def o59 (P : Params) : Obj := ⟨(.type "tuple"), none, (.seq (V []) 0), (W [])⟩
def o60 (P : Params) : Obj := ⟨.none, none, (.fields (V [])), (W [])⟩
def o61 (P : Params) : Obj := ⟨(.type "tuple"), none, (.seq (V [(.str (S "self") 284)]) 0), (W [])⟩
def o62 (P : Params) : Obj := ⟨(.type "tuple"), none, (.seq (V []) 0), (W [])⟩
def o63 (P : Params) : Obj := ⟨.none, none, (.func ⟨(S "sign"), (S "Reader.sign"), (defArgs (inClass (ST 12) 1)), (.stmts (defBody (inClass (ST 12) 1))), (defScope (inClass (ST 12) 1)), 0, [], .none, .none, .none, .none, none, .none, .none, 0⟩), (W [])⟩
def o64 (P : Params) : Obj := ⟨(.type "code"), none, (.fields (V [(.str (S "sign") 281), (.str (S "Reader.sign") 282), (.str (S "/claim/cut.py") 283), (.int 28 0), (.int 1 0), (.int 0 0), (.int 0 0), (.int 3 0), (.ref 68), (.bool true), (.int 181 0), (.ref 69), .none, (.ref 70), (.ref 71), (.ref 72), (.int 285 0), (.int 28 0), (.str (S "/claim/cut.py") 286)])), (W [])⟩
def o65 (P : Params) : Obj := ⟨(.type "function"), none, (.func ⟨(S "sign"), (S "Reader.sign"), (defArgs (inClass (ST 12) 1)), (.stmts (defBody (inClass (ST 12) 1))), (defScope (inClass (ST 12) 1)), 3, [], .none, .none, .none, (.str (S "nearcall.rows") 241), none, (.ref 73), .none, 0⟩), (W [])⟩
def o66 (P : Params) : Obj := ⟨(.type "tuple"), none, (.seq (V []) 0), (W [])⟩
def o67 (P : Params) : Obj := ⟨.none, none, (.fields (V [])), (W [])⟩
def o68 (P : Params) : Obj := ⟨(.type "tuple"), none, (.seq (V [(.str (S "self") 291), (.str (S "signs") 292)]) 0), (W [])⟩
def o69 (P : Params) : Obj := ⟨(.type "tuple"), none, (.seq (V []) 0), (W [])⟩
def o70 (P : Params) : Obj := ⟨.none, none, (.func ⟨(S "stands"), (S "Reader.stands"), (defArgs (inClass (ST 12) 2)), (.stmts (defBody (inClass (ST 12) 2))), (defScope (inClass (ST 12) 2)), 0, [], .none, .none, .none, .none, none, .none, .none, 0⟩), (W [])⟩
def o71 (P : Params) : Obj := ⟨(.type "code"), none, (.fields (V [(.str (S "stands") 288), (.str (S "Reader.stands") 289), (.str (S "/claim/cut.py") 290), (.int 31 0), (.int 2 0), (.int 0 0), (.int 0 0), (.int 3 0), (.ref 75), (.bool true), (.int 181 0), (.ref 76), .none, (.ref 77), (.ref 78), (.ref 79), (.int 293 0), (.int 31 0), (.str (S "/claim/cut.py") 294)])), (W [])⟩
def o72 (P : Params) : Obj := ⟨(.type "function"), none, (.func ⟨(S "stands"), (S "Reader.stands"), (defArgs (inClass (ST 12) 2)), (.stmts (defBody (inClass (ST 12) 2))), (defScope (inClass (ST 12) 2)), 3, [], .none, .none, .none, (.str (S "nearcall.rows") 241), none, (.ref 80), .none, 0⟩), (W [])⟩
def o73 (P : Params) : Obj := ⟨(.type "tuple"), none, (.seq (V []) 0), (W [])⟩
def o74 (P : Params) : Obj := ⟨.none, none, (.fields (V [])), (W [])⟩
def o75 (P : Params) : Obj := ⟨(.type "tuple"), none, (.seq (V [(.str (S "self") 299), (.str (S "signs") 300), (.str (S "taken") 301)]) 0), (W [])⟩
def o76 (P : Params) : Obj := ⟨(.type "tuple"), none, (.seq (V []) 0), (W [])⟩
def o77 (P : Params) : Obj := ⟨.none, none, (.func ⟨(S "take"), (S "Reader.take"), (defArgs (inClass (ST 12) 3)), (.stmts (defBody (inClass (ST 12) 3))), (defScope (inClass (ST 12) 3)), 0, [], .none, .none, .none, .none, none, .none, .none, 0⟩), (W [])⟩
def o78 (P : Params) : Obj := ⟨(.type "code"), none, (.fields (V [(.str (S "take") 296), (.str (S "Reader.take") 297), (.str (S "/claim/cut.py") 298), (.int 34 0), (.int 2 0), (.int 0 0), (.int 0 0), (.int 3 0), (.ref 82), (.bool true), (.int 181 0), (.ref 83), .none, (.ref 84), (.ref 85), (.ref 86), (.int 302 0), (.int 34 0), (.str (S "/claim/cut.py") 303)])), (W [])⟩
def o79 (P : Params) : Obj := ⟨(.type "function"), none, (.func ⟨(S "take"), (S "Reader.take"), (defArgs (inClass (ST 12) 3)), (.stmts (defBody (inClass (ST 12) 3))), (defScope (inClass (ST 12) 3)), 3, [], .none, .none, .none, (.str (S "nearcall.rows") 241), none, (.ref 87), .none, 0⟩), (W [])⟩
def o80 (P : Params) : Obj := ⟨(.type "tuple"), none, (.seq (V []) 0), (W [])⟩
def o81 (P : Params) : Obj := ⟨.none, none, (.fields (V [])), (W [])⟩
def o82 (P : Params) : Obj := ⟨(.type "tuple"), none, (.seq (V [(.str (S "self") 308), (.str (S "letters") 309), (.str (S "fewest") 310), (.str (S "most") 311), (.str (S "taken") 312)]) 0), (W [])⟩
def o83 (P : Params) : Obj := ⟨(.type "tuple"), none, (.seq (V []) 0), (W [])⟩
def o84 (P : Params) : Obj := ⟨.none, none, (.func ⟨(S "letters_taken"), (S "Reader.letters_taken"), (defArgs (inClass (ST 12) 4)), (.stmts (defBody (inClass (ST 12) 4))), (defScope (inClass (ST 12) 4)), 0, [], .none, .none, .none, .none, none, .none, .none, 0⟩), (W [])⟩
def o85 (P : Params) : Obj := ⟨(.type "code"), none, (.fields (V [(.str (S "letters_taken") 305), (.str (S "Reader.letters_taken") 306), (.str (S "/claim/cut.py") 307), (.int 41 0), (.int 4 0), (.int 0 0), (.int 0 0), (.int 3 0), (.ref 89), (.bool true), (.int 181 0), (.ref 90), .none, (.ref 91), (.ref 92), (.ref 93), (.int 313 0), (.int 41 0), (.str (S "/claim/cut.py") 314)])), (W [])⟩
def o86 (P : Params) : Obj := ⟨(.type "function"), none, (.func ⟨(S "letters_taken"), (S "Reader.letters_taken"), (defArgs (inClass (ST 12) 4)), (.stmts (defBody (inClass (ST 12) 4))), (defScope (inClass (ST 12) 4)), 3, [], .none, .none, .none, (.str (S "nearcall.rows") 241), none, (.ref 94), .none, 0⟩), (W [])⟩
def o87 (P : Params) : Obj := ⟨(.type "tuple"), none, (.seq (V []) 0), (W [])⟩
def o88 (P : Params) : Obj := ⟨.none, none, (.fields (V [])), (W [])⟩
def o89 (P : Params) : Obj := ⟨(.type "tuple"), none, (.seq (V [(.str (S "self") 319), (.str (S "many") 320)]) 0), (W [])⟩
def o90 (P : Params) : Obj := ⟨(.type "tuple"), none, (.seq (V []) 0), (W [])⟩
def o91 (P : Params) : Obj := ⟨.none, none, (.func ⟨(S "number"), (S "Reader.number"), (defArgs (inClass (ST 12) 5)), (.stmts (defBody (inClass (ST 12) 5))), (defScope (inClass (ST 12) 5)), 0, [], .none, .none, .none, .none, none, .none, .none, 0⟩), (W [])⟩
def o92 (P : Params) : Obj := ⟨(.type "code"), none, (.fields (V [(.str (S "number") 316), (.str (S "Reader.number") 317), (.str (S "/claim/cut.py") 318), (.int 47 0), (.int 1 0), (.int 0 0), (.int 0 0), (.int 3 0), (.ref 96), (.bool true), (.int 181 0), (.ref 97), .none, (.ref 98), (.ref 99), (.ref 100), (.int 321 0), (.int 47 0), (.str (S "/claim/cut.py") 322)])), (W [])⟩
def o93 (P : Params) : Obj := ⟨(.type "function"), none, (.func ⟨(S "number"), (S "Reader.number"), (defArgs (inClass (ST 12) 5)), (.stmts (defBody (inClass (ST 12) 5))), (defScope (inClass (ST 12) 5)), 3, [], .none, .none, .none, (.str (S "nearcall.rows") 241), none, (.ref 101), .none, 0⟩), (W [])⟩
def o94 (P : Params) : Obj := ⟨(.type "tuple"), none, (.seq (V []) 0), (W [])⟩
def o95 (P : Params) : Obj := ⟨.none, none, (.fields (V [])), (W [])⟩
def o96 (P : Params) : Obj := ⟨(.type "tuple"), none, (.seq (V [(.str (S "self") 327), (.str (S "deep") 328), (.str (S "row") 329)]) 0), (W [])⟩
def o97 (P : Params) : Obj := ⟨(.type "tuple"), none, (.seq (V []) 0), (W [])⟩
def o98 (P : Params) : Obj := ⟨.none, none, (.func ⟨(S "group"), (S "Reader.group"), (defArgs (inClass (ST 12) 6)), (.stmts (defBody (inClass (ST 12) 6))), (defScope (inClass (ST 12) 6)), 0, [], .none, .none, .none, .none, none, .none, .none, 0⟩), (W [])⟩
def o99 (P : Params) : Obj := ⟨(.type "code"), none, (.fields (V [(.str (S "group") 324), (.str (S "Reader.group") 325), (.str (S "/claim/cut.py") 326), (.int 56 0), (.int 2 0), (.int 0 0), (.int 0 0), (.int 3 0), (.ref 103), (.bool true), (.int 181 0), (.ref 104), .none, (.ref 105), (.ref 106), (.ref 107), (.int 330 0), (.int 56 0), (.str (S "/claim/cut.py") 331)])), (W [])⟩
def o100 (P : Params) : Obj := ⟨(.type "function"), none, (.func ⟨(S "group"), (S "Reader.group"), (defArgs (inClass (ST 12) 6)), (.stmts (defBody (inClass (ST 12) 6))), (defScope (inClass (ST 12) 6)), 3, [], .none, .none, .none, (.str (S "nearcall.rows") 241), none, (.ref 108), .none, 0⟩), (W [])⟩
def o101 (P : Params) : Obj := ⟨(.type "tuple"), none, (.seq (V []) 0), (W [])⟩
def o102 (P : Params) : Obj := ⟨.none, none, (.fields (V [])), (W [])⟩
def o103 (P : Params) : Obj := ⟨(.type "tuple"), none, (.seq (V [(.str (S "self") 336), (.str (S "deep") 337), (.str (S "first") 338), (.str (S "called") 339)]) 0), (W [])⟩
def o104 (P : Params) : Obj := ⟨(.type "tuple"), none, (.seq (V []) 0), (W [])⟩
def o105 (P : Params) : Obj := ⟨.none, none, (.func ⟨(S "step"), (S "Reader.step"), (defArgs (inClass (ST 12) 7)), (.stmts (defBody (inClass (ST 12) 7))), (defScope (inClass (ST 12) 7)), 0, [], .none, .none, .none, .none, none, .none, .none, 0⟩), (W [])⟩
def o106 (P : Params) : Obj := ⟨(.type "code"), none, (.fields (V [(.str (S "step") 333), (.str (S "Reader.step") 334), (.str (S "/claim/cut.py") 335), (.int 62 0), (.int 2 0), (.int 0 0), (.int 0 0), (.int 3 0), (.ref 110), (.bool true), (.int 181 0), (.ref 111), .none, (.ref 112), (.ref 113), (.ref 114), (.int 340 0), (.int 62 0), (.str (S "/claim/cut.py") 341)])), (W [])⟩
def o107 (P : Params) : Obj := ⟨(.type "function"), none, (.func ⟨(S "step"), (S "Reader.step"), (defArgs (inClass (ST 12) 7)), (.stmts (defBody (inClass (ST 12) 7))), (defScope (inClass (ST 12) 7)), 3, [], .none, .none, .none, (.str (S "nearcall.rows") 241), none, (.ref 115), .none, 0⟩), (W [])⟩
def o108 (P : Params) : Obj := ⟨(.type "tuple"), none, (.seq (V []) 0), (W [])⟩
def o109 (P : Params) : Obj := ⟨.none, none, (.fields (V [])), (W [])⟩
def o110 (P : Params) : Obj := ⟨(.type "tuple"), none, (.seq (V [(.str (S "self") 346), (.str (S "deep") 347), (.str (S "found") 348)]) 0), (W [])⟩
def o111 (P : Params) : Obj := ⟨(.type "tuple"), none, (.seq (V []) 0), (W [])⟩
def o112 (P : Params) : Obj := ⟨.none, none, (.func ⟨(S "row"), (S "Reader.row"), (defArgs (inClass (ST 12) 8)), (.stmts (defBody (inClass (ST 12) 8))), (defScope (inClass (ST 12) 8)), 0, [], .none, .none, .none, .none, none, .none, .none, 0⟩), (W [])⟩
def o113 (P : Params) : Obj := ⟨(.type "code"), none, (.fields (V [(.str (S "row") 343), (.str (S "Reader.row") 344), (.str (S "/claim/cut.py") 345), (.int 77 0), (.int 2 0), (.int 0 0), (.int 0 0), (.int 3 0), (.ref 117), (.bool true), (.int 181 0), (.ref 118), .none, (.ref 119), (.ref 120), (.ref 121), (.int 349 0), (.int 77 0), (.str (S "/claim/cut.py") 350)])), (W [])⟩
def o114 (P : Params) : Obj := ⟨(.type "function"), none, (.func ⟨(S "row"), (S "Reader.row"), (defArgs (inClass (ST 12) 8)), (.stmts (defBody (inClass (ST 12) 8))), (defScope (inClass (ST 12) 8)), 3, [], .none, .none, .none, (.str (S "nearcall.rows") 241), none, (.ref 122), .none, 0⟩), (W [])⟩
def o115 (P : Params) : Obj := ⟨(.type "tuple"), none, (.seq (V [(.str (S "at") 352), (.str (S "begun") 353), (.str (S "text") 354)]) 0), (W [])⟩
def o116 (P : Params) : Obj := ⟨(.type "dict"), none, (.dict (D [E P (S "__module__") 268 (.str (S "nearcall.rows") 241), E P (S "__firstlineno__") 272 (.int 21 271), E P (S "__init__") 280 (.ref 67), E P (S "sign") 287 (.ref 74), E P (S "stands") 295 (.ref 81), E P (S "take") 304 (.ref 88), E P (S "letters_taken") 315 (.ref 95), E P (S "number") 323 (.ref 102), E P (S "group") 332 (.ref 109), E P (S "step") 342 (.ref 116), E P (S "row") 351 (.ref 123), E P (S "__static_attributes__") 355 (.ref 124), E P (S "__dict__") 357 (.ref 127), E P (S "__weakref__") 359 (.ref 128), E P (S "__doc__") 360 .none]) 4), (W [])⟩
def o117 (P : Params) : Obj := ⟨(.type "type"), none, (.cls ⟨(S "Reader"), [(.type "object")], [(.ref 126), (.type "object")], 125, (S "Reader"), true, [], [], false, none, false⟩), (W [none, none, (some (.str (S "Reader") 261)), (some (.str (S "Reader") 269)), (some (.builtin "object.__new__")), (some (.bool true))])⟩
def o118 (P : Params) : Obj := ⟨(.type "getset_descriptor"), none, (.fields (V [(.str (S "__dict__") 356), (.ref 126), (.builtin "function.__dict__"), (.builtin "function.__dict__#set")])), (W [])⟩
def o119 (P : Params) : Obj := ⟨(.type "getset_descriptor"), none, (.fields (V [(.str (S "__weakref__") 358), (.ref 126), (.builtin "ExceptionGroup.__weakref__"), .none])), (W [])⟩
def o120 (P : Params) : Obj := ⟨(.type "super"), none, (.fields (V [(.ref 126), (.ref 126), (.ref 126)])), (W [])⟩
def o121 (P : Params) : Obj := ⟨(.type "builtin_function_or_method"), none, (.fields (V [(.builtin "object.__init_subclass__"), (.ref 126)])), (W [])⟩
def o122 (P : Params) : Obj := ⟨(.type "tuple"), none, (.seq (V []) 0), (W [])⟩
def o123 (P : Params) : Obj := ⟨.none, none, (.fields (V [])), (W [])⟩
def o124 (P : Params) : Obj := ⟨(.type "tuple"), none, (.seq (V [(.str (S "text") 366), (.str (S "reader") 367), (.str (S "row") 368)]) 0), (W [])⟩
def o125 (P : Params) : Obj := ⟨(.type "tuple"), none, (.seq (V []) 0), (W [])⟩
def o126 (P : Params) : Obj := ⟨.none, none, (.func ⟨(S "read_row"), (S "read_row"), (defArgs (ST 13)), (.stmts (defBody (ST 13))), (defScope (ST 13)), 0, [], .none, .none, .none, .none, none, .none, .none, 0⟩), (W [])⟩
def o127 (P : Params) : Obj := ⟨(.type "code"), none, (.fields (V [(.str (S "read_row") 363), (.str (S "read_row") 364), (.str (S "/claim/cut.py") 365), (.int 86 0), (.int 1 0), (.int 0 0), (.int 0 0), (.int 3 0), (.ref 131), (.bool true), (.int 181 0), (.ref 132), .none, (.ref 133), (.ref 134), (.ref 135), (.int 369 0), (.int 86 0), (.str (S "/claim/cut.py") 370)])), (W [])⟩
def o128 (P : Params) : Obj := ⟨(.type "function"), none, (.func ⟨(S "read_row"), (S "read_row"), (defArgs (ST 13)), (.stmts (defBody (ST 13))), (defScope (ST 13)), 3, [], .none, .none, .none, (.str (S "nearcall.rows") 241), none, (.ref 136), .none, 0⟩), (W [])⟩
def objs_0 (P : Params) : List Obj :=
  [boot_o_0 P, boot_o_1 P, boot_o_2 P, o4 P, boot_o_4 P, boot_o_5 P, boot_o_6 P, boot_o_7 P, boot_o_8 P, boot_o_9 P, boot_o_10 P, o0 P, o5 P, o2 P, o3 P, o6 P, o7 P, o8 P, o9 P, o10 P, o11 P, o12 P, o13 P, o14 P, o15 P, o16 P, o17 P, o18 P, o19 P, o20 P, o21 P, o22 P, o23 P, o24 P, o25 P, o26 P, o27 P, o28 P, o29 P, o30 P] ++ (
  [o31 P, o32 P, o33 P, o34 P, o35 P, o36 P, o37 P, o38 P, o39 P, o40 P, o41 P, o42 P, o43 P, o44 P, o45 P, o46 P, o47 P, o48 P, o49 P, o50 P, o51 P, o52 P, o53 P, o54 P, o55 P, o56 P, o57 P, o58 P, o59 P, o60 P, o61 P, o62 P, o63 P, o64 P, o65 P, o66 P, o67 P, o68 P, o69 P, o70 P] ++ (
  [o71 P, o72 P, o73 P, o74 P, o75 P, o76 P, o77 P, o78 P, o79 P, o80 P, o81 P, o82 P, o83 P, o84 P, o85 P, o86 P, o87 P, o88 P, o89 P, o90 P, o91 P, o92 P, o93 P, o94 P, o95 P, o96 P, o97 P, o98 P, o99 P, o100 P, o101 P, o102 P, o103 P, o104 P, o105 P, o106 P, o107 P, o108 P, o109 P, o110 P] ++ (
  [o111 P, o112 P, o113 P, o114 P, o115 P, o116 P, o117 P, o118 P, o119 P, o120 P, o121 P, o122 P, o123 P, o124 P, o125 P, o126 P, o127 P, o128 P])))
def o129 (P : Params) : Obj := ⟨(.type "dict"), none, (.dict (D [E P (S "__name__") 165 (.str (S "law_nearcall_k28_texts_that_are_no_row") 372), E P (S "__doc__") 166 .none, E P (S "__package__") 167 .none, E P (S "__loader__") 168 (.builtin "__main__.__loader__#opaque"), E P (S "__spec__") 169 .none, E P (S "__annotations__") 170 (.ref 6), E P (S "__builtins__") 171 (.ref 4), E P (S "__file__") 173 (.str (S "/claim/cut.py") 172), E P (S "__cached__") 174 .none, E P (S "HallError") 215 (.ref 31), E P (S "BadText") 240 (.ref 51), E P (S "MOST_STEPS") 244 (.int 60 243), E P (S "MOST_DEEP") 246 (.int 12 245), E P (S "MOST_TIMES") 250 (.int 1000000000000000000000000000000 249), E P (S "MOST_SIDES") 252 (.int 12 251), E P (S "LONGEST_NAME") 254 (.int 8 253), E P (S "SMALL") 256 (.str (S "abcdefghijklmnopqrstuvwxyz") 255), E P (S "LETTERS") 258 (.str (S "abcdefghijklmnopqrstuvwxyzABCDEFGHIJKLMNOPQRSTUVWXYZ") 257), E P (S "FIGURES") 260 (.str (S "0123456789") 259), E P (S "Reader") 362 (.ref 126), E P (S "read_row") 371 (.ref 137), E P (S "_law_same") 379 (.ref 142), E P (S "_law_start") 388 (.ref 149), E P (S "_law_draw") 399 (.ref 156), E P (S "_law_of") 407 (.ref 163), E P (S "_law_letters") 413 (.ref 170), E P (S "_law_run") 424 (.ref 177), E P (S "_law_times_at") 433 (.ref 184), E P (S "_law_step_at") 450 (.ref 191), E P (S "_law_row_at") 463 (.ref 198), E P (S "_law_due") 473 (.ref 205), E P (S "_law_told") 482 (.ref 212), E P (S "_law_piece") 492 (.ref 219), E P (S "_law_text") 498 (.ref 224), E P (S "_law_spoilt") 509 (.ref 231), E P (S "law") 520 (.ref 238)]) 36), (W [])⟩
def o130 (P : Params) : Obj := ⟨.none, none, (.fields (V [(.int 2 0), (.int 0 0), (.ref 20), (.int 7 0), (.int 0 0), (.ref 40), (.int 21 0), (.int 0 0), (.ref 59), (.int 86 0), (.int 0 0), (.ref 136), (.int 93 0), (.int 0 0), (.ref 141), (.int 101 0), (.int 0 0), (.ref 148), (.int 106 0), (.int 0 0), (.ref 155), (.int 121 0), (.int 0 0), (.ref 162), (.int 123 0), (.int 0 0), (.ref 169), (.int 125 0), (.int 0 0), (.ref 176), (.int 130 0), (.int 0 0), (.ref 183), (.int 139 0), (.int 0 0), (.ref 190), (.int 162 0), (.int 0 0), (.ref 197), (.int 175 0), (.int 0 0), (.ref 204), (.int 178 0), (.int 0 0), (.ref 211), (.int 184 0), (.int 0 0), (.ref 218), (.int 189 0), (.int 0 0), (.ref 223), (.int 197 0), (.int 0 0), (.ref 230), (.int 202 0), (.int 0 0), (.ref 237)])), (W [])⟩
def o131 (P : Params) : Obj := ⟨(.type "tuple"), none, (.seq (V []) 0), (W [])⟩
def o132 (P : Params) : Obj := ⟨.none, none, (.fields (V [])), (W [])⟩
def o133 (P : Params) : Obj := ⟨.none, none, (.func ⟨(S "_law_same"), (S "_law_same"), (defArgs (ST 15)), (.stmts (defBody (ST 15))), (defScope (ST 15)), 0, [], .none, .none, .none, .none, none, .none, .none, 0⟩), (W [])⟩
def o134 (P : Params) : Obj := ⟨(.type "code"), none, (.fields (V [(.str (S "_law_same") 374), (.str (S "_law_same") 375), (.str (S "/claim/cut.py") 376), (.int 93 0), (.int 2 0), (.int 0 0), (.int 0 0), (.int 3 0), (.ref 138), (.bool true), (.int 181 0), (.ref 139), .none, .none, .none, (.ref 140), (.int 377 0), (.int 93 0), (.str (S "/claim/cut.py") 378)])), (W [])⟩
def o135 (P : Params) : Obj := ⟨(.type "function"), none, (.func ⟨(S "_law_same"), (S "_law_same"), (defArgs (ST 15)), (.stmts (defBody (ST 15))), (defScope (ST 15)), 3, [], .none, .none, .none, (.str (S "law_nearcall_k28_texts_that_are_no_row") 372), none, (.ref 141), .none, 0⟩), (W [])⟩
def o136 (P : Params) : Obj := ⟨(.type "tuple"), none, (.seq (V []) 0), (W [])⟩
def o137 (P : Params) : Obj := ⟨.none, none, (.fields (V [])), (W [])⟩
def o138 (P : Params) : Obj := ⟨(.type "tuple"), none, (.seq (V [(.str (S "_law_script") 383), (.str (S "_law_seed") 384), (.str (S "_law_cell") 385)]) 0), (W [])⟩
def o139 (P : Params) : Obj := ⟨(.type "tuple"), none, (.seq (V []) 0), (W [])⟩
def o140 (P : Params) : Obj := ⟨.none, none, (.func ⟨(S "_law_start"), (S "_law_start"), (defArgs (ST 16)), (.stmts (defBody (ST 16))), (defScope (ST 16)), 0, [], .none, .none, .none, .none, none, .none, .none, 0⟩), (W [])⟩
def o141 (P : Params) : Obj := ⟨(.type "code"), none, (.fields (V [(.str (S "_law_start") 380), (.str (S "_law_start") 381), (.str (S "/claim/cut.py") 382), (.int 101 0), (.int 1 0), (.int 0 0), (.int 0 0), (.int 3 0), (.ref 143), (.bool true), (.int 181 0), (.ref 144), .none, (.ref 145), (.ref 146), (.ref 147), (.int 386 0), (.int 101 0), (.str (S "/claim/cut.py") 387)])), (W [])⟩
def o142 (P : Params) : Obj := ⟨(.type "function"), none, (.func ⟨(S "_law_start"), (S "_law_start"), (defArgs (ST 16)), (.stmts (defBody (ST 16))), (defScope (ST 16)), 3, [], .none, .none, .none, (.str (S "law_nearcall_k28_texts_that_are_no_row") 372), none, (.ref 148), .none, 0⟩), (W [])⟩
def o143 (P : Params) : Obj := ⟨(.type "tuple"), none, (.seq (V []) 0), (W [])⟩
def o144 (P : Params) : Obj := ⟨.none, none, (.fields (V [])), (W [])⟩
def o145 (P : Params) : Obj := ⟨(.type "tuple"), none, (.seq (V [(.str (S "_law_d") 392), (.str (S "_law_many") 393), (.str (S "_law_cell") 394), (.str (S "_law_digit") 395), (.str (S "_law_mix") 396)]) 0), (W [])⟩
def o146 (P : Params) : Obj := ⟨(.type "tuple"), none, (.seq (V []) 0), (W [])⟩
def o147 (P : Params) : Obj := ⟨.none, none, (.func ⟨(S "_law_draw"), (S "_law_draw"), (defArgs (ST 17)), (.stmts (defBody (ST 17))), (defScope (ST 17)), 0, [], .none, .none, .none, .none, none, .none, .none, 0⟩), (W [])⟩
def o148 (P : Params) : Obj := ⟨(.type "code"), none, (.fields (V [(.str (S "_law_draw") 389), (.str (S "_law_draw") 390), (.str (S "/claim/cut.py") 391), (.int 106 0), (.int 2 0), (.int 0 0), (.int 0 0), (.int 3 0), (.ref 150), (.bool true), (.int 181 0), (.ref 151), .none, (.ref 152), (.ref 153), (.ref 154), (.int 397 0), (.int 106 0), (.str (S "/claim/cut.py") 398)])), (W [])⟩
def o149 (P : Params) : Obj := ⟨(.type "function"), none, (.func ⟨(S "_law_draw"), (S "_law_draw"), (defArgs (ST 17)), (.stmts (defBody (ST 17))), (defScope (ST 17)), 3, [], .none, .none, .none, (.str (S "law_nearcall_k28_texts_that_are_no_row") 372), none, (.ref 155), .none, 0⟩), (W [])⟩
def o150 (P : Params) : Obj := ⟨(.type "tuple"), none, (.seq (V []) 0), (W [])⟩
def o151 (P : Params) : Obj := ⟨.none, none, (.fields (V [])), (W [])⟩
def o152 (P : Params) : Obj := ⟨(.type "tuple"), none, (.seq (V [(.str (S "_law_d") 403), (.str (S "_law_some") 404)]) 0), (W [])⟩
def o153 (P : Params) : Obj := ⟨(.type "tuple"), none, (.seq (V []) 0), (W [])⟩
def o154 (P : Params) : Obj := ⟨.none, none, (.func ⟨(S "_law_of"), (S "_law_of"), (defArgs (ST 18)), (.stmts (defBody (ST 18))), (defScope (ST 18)), 0, [], .none, .none, .none, .none, none, .none, .none, 0⟩), (W [])⟩
def o155 (P : Params) : Obj := ⟨(.type "code"), none, (.fields (V [(.str (S "_law_of") 400), (.str (S "_law_of") 401), (.str (S "/claim/cut.py") 402), (.int 121 0), (.int 2 0), (.int 0 0), (.int 0 0), (.int 3 0), (.ref 157), (.bool true), (.int 181 0), (.ref 158), .none, (.ref 159), (.ref 160), (.ref 161), (.int 405 0), (.int 121 0), (.str (S "/claim/cut.py") 406)])), (W [])⟩
def o156 (P : Params) : Obj := ⟨(.type "function"), none, (.func ⟨(S "_law_of"), (S "_law_of"), (defArgs (ST 18)), (.stmts (defBody (ST 18))), (defScope (ST 18)), 3, [], .none, .none, .none, (.str (S "law_nearcall_k28_texts_that_are_no_row") 372), none, (.ref 162), .none, 0⟩), (W [])⟩
def o157 (P : Params) : Obj := ⟨(.type "tuple"), none, (.seq (V []) 0), (W [])⟩
def o158 (P : Params) : Obj := ⟨.none, none, (.fields (V [])), (W [])⟩
def o159 (P : Params) : Obj := ⟨(.type "tuple"), none, (.seq (V []) 0), (W [])⟩
def o160 (P : Params) : Obj := ⟨(.type "tuple"), none, (.seq (V []) 0), (W [])⟩
def o161 (P : Params) : Obj := ⟨.none, none, (.func ⟨(S "_law_letters"), (S "_law_letters"), (defArgs (ST 19)), (.stmts (defBody (ST 19))), (defScope (ST 19)), 0, [], .none, .none, .none, .none, none, .none, .none, 0⟩), (W [])⟩
def o162 (P : Params) : Obj := ⟨(.type "code"), none, (.fields (V [(.str (S "_law_letters") 408), (.str (S "_law_letters") 409), (.str (S "/claim/cut.py") 410), (.int 123 0), (.int 0 0), (.int 0 0), (.int 0 0), (.int 3 0), (.ref 164), (.bool true), (.int 181 0), (.ref 165), .none, (.ref 166), (.ref 167), (.ref 168), (.int 411 0), (.int 123 0), (.str (S "/claim/cut.py") 412)])), (W [])⟩
def o163 (P : Params) : Obj := ⟨(.type "function"), none, (.func ⟨(S "_law_letters"), (S "_law_letters"), (defArgs (ST 19)), (.stmts (defBody (ST 19))), (defScope (ST 19)), 3, [], .none, .none, .none, (.str (S "law_nearcall_k28_texts_that_are_no_row") 372), none, (.ref 169), .none, 0⟩), (W [])⟩
def o164 (P : Params) : Obj := ⟨(.type "tuple"), none, (.seq (V []) 0), (W [])⟩
def o165 (P : Params) : Obj := ⟨.none, none, (.fields (V [])), (W [])⟩
def o166 (P : Params) : Obj := ⟨(.type "tuple"), none, (.seq (V [(.str (S "_law_text_here") 417), (.str (S "_law_at") 418), (.str (S "_law_signs") 419), (.str (S "_law_most") 420), (.str (S "_law_end") 421)]) 0), (W [])⟩
def o167 (P : Params) : Obj := ⟨(.type "tuple"), none, (.seq (V []) 0), (W [])⟩
def o168 (P : Params) : Obj := ⟨.none, none, (.func ⟨(S "_law_run"), (S "_law_run"), (defArgs (ST 20)), (.stmts (defBody (ST 20))), (defScope (ST 20)), 0, [], .none, .none, .none, .none, none, .none, .none, 0⟩), (W [])⟩
def o169 (P : Params) : Obj := ⟨(.type "code"), none, (.fields (V [(.str (S "_law_run") 414), (.str (S "_law_run") 415), (.str (S "/claim/cut.py") 416), (.int 125 0), (.int 4 0), (.int 0 0), (.int 0 0), (.int 3 0), (.ref 171), (.bool true), (.int 181 0), (.ref 172), .none, (.ref 173), (.ref 174), (.ref 175), (.int 422 0), (.int 125 0), (.str (S "/claim/cut.py") 423)])), (W [])⟩
def o170 (P : Params) : Obj := ⟨(.type "function"), none, (.func ⟨(S "_law_run"), (S "_law_run"), (defArgs (ST 20)), (.stmts (defBody (ST 20))), (defScope (ST 20)), 3, [], .none, .none, .none, (.str (S "law_nearcall_k28_texts_that_are_no_row") 372), none, (.ref 176), .none, 0⟩), (W [])⟩
def o171 (P : Params) : Obj := ⟨(.type "tuple"), none, (.seq (V []) 0), (W [])⟩
def o172 (P : Params) : Obj := ⟨.none, none, (.fields (V [])), (W [])⟩
def o173 (P : Params) : Obj := ⟨(.type "tuple"), none, (.seq (V [(.str (S "_law_text_here") 428), (.str (S "_law_at") 429), (.str (S "_law_end") 430)]) 0), (W [])⟩
def o174 (P : Params) : Obj := ⟨(.type "tuple"), none, (.seq (V []) 0), (W [])⟩
def o175 (P : Params) : Obj := ⟨.none, none, (.func ⟨(S "_law_times_at"), (S "_law_times_at"), (defArgs (ST 21)), (.stmts (defBody (ST 21))), (defScope (ST 21)), 0, [], .none, .none, .none, .none, none, .none, .none, 0⟩), (W [])⟩
def o176 (P : Params) : Obj := ⟨(.type "code"), none, (.fields (V [(.str (S "_law_times_at") 425), (.str (S "_law_times_at") 426), (.str (S "/claim/cut.py") 427), (.int 130 0), (.int 2 0), (.int 0 0), (.int 0 0), (.int 3 0), (.ref 178), (.bool true), (.int 181 0), (.ref 179), .none, (.ref 180), (.ref 181), (.ref 182), (.int 431 0), (.int 130 0), (.str (S "/claim/cut.py") 432)])), (W [])⟩
def o177 (P : Params) : Obj := ⟨(.type "function"), none, (.func ⟨(S "_law_times_at"), (S "_law_times_at"), (defArgs (ST 21)), (.stmts (defBody (ST 21))), (defScope (ST 21)), 3, [], .none, .none, .none, (.str (S "law_nearcall_k28_texts_that_are_no_row") 372), none, (.ref 183), .none, 0⟩), (W [])⟩
def o178 (P : Params) : Obj := ⟨(.type "tuple"), none, (.seq (V []) 0), (W [])⟩
def o179 (P : Params) : Obj := ⟨.none, none, (.fields (V [])), (W [])⟩
def o180 (P : Params) : Obj := ⟨(.type "tuple"), none, (.seq (V [(.str (S "_law_text_here") 437), (.str (S "_law_at") 438), (.str (S "_law_many") 439), (.str (S "_law_deep") 440), (.str (S "_law_letters_here") 441), (.str (S "_law_sign") 442), (.str (S "_law_end") 443), (.str (S "_law_inner") 444), (.str (S "_law_need") 445), (.str (S "_law_number") 446), (.str (S "_law_good") 447)]) 0), (W [])⟩
def o181 (P : Params) : Obj := ⟨(.type "tuple"), none, (.seq (V []) 0), (W [])⟩
def o182 (P : Params) : Obj := ⟨.none, none, (.func ⟨(S "_law_step_at"), (S "_law_step_at"), (defArgs (ST 22)), (.stmts (defBody (ST 22))), (defScope (ST 22)), 0, [], .none, .none, .none, .none, none, .none, .none, 0⟩), (W [])⟩
def o183 (P : Params) : Obj := ⟨(.type "code"), none, (.fields (V [(.str (S "_law_step_at") 434), (.str (S "_law_step_at") 435), (.str (S "/claim/cut.py") 436), (.int 139 0), (.int 4 0), (.int 0 0), (.int 0 0), (.int 3 0), (.ref 185), (.bool true), (.int 181 0), (.ref 186), .none, (.ref 187), (.ref 188), (.ref 189), (.int 448 0), (.int 139 0), (.str (S "/claim/cut.py") 449)])), (W [])⟩
def o184 (P : Params) : Obj := ⟨(.type "function"), none, (.func ⟨(S "_law_step_at"), (S "_law_step_at"), (defArgs (ST 22)), (.stmts (defBody (ST 22))), (defScope (ST 22)), 3, [], .none, .none, .none, (.str (S "law_nearcall_k28_texts_that_are_no_row") 372), none, (.ref 190), .none, 0⟩), (W [])⟩
def o185 (P : Params) : Obj := ⟨(.type "tuple"), none, (.seq (V []) 0), (W [])⟩
def o186 (P : Params) : Obj := ⟨.none, none, (.fields (V [])), (W [])⟩
def o187 (P : Params) : Obj := ⟨(.type "tuple"), none, (.seq (V [(.str (S "_law_text_here") 454), (.str (S "_law_at") 455), (.str (S "_law_many") 456), (.str (S "_law_deep") 457), (.str (S "_law_steps") 458), (.str (S "_law_turn") 459), (.str (S "_law_step") 460)]) 0), (W [])⟩
def o188 (P : Params) : Obj := ⟨(.type "tuple"), none, (.seq (V []) 0), (W [])⟩
def o189 (P : Params) : Obj := ⟨.none, none, (.func ⟨(S "_law_row_at"), (S "_law_row_at"), (defArgs (ST 23)), (.stmts (defBody (ST 23))), (defScope (ST 23)), 0, [], .none, .none, .none, .none, none, .none, .none, 0⟩), (W [])⟩
def o190 (P : Params) : Obj := ⟨(.type "code"), none, (.fields (V [(.str (S "_law_row_at") 451), (.str (S "_law_row_at") 452), (.str (S "/claim/cut.py") 453), (.int 162 0), (.int 4 0), (.int 0 0), (.int 0 0), (.int 3 0), (.ref 192), (.bool true), (.int 181 0), (.ref 193), .none, (.ref 194), (.ref 195), (.ref 196), (.int 461 0), (.int 162 0), (.str (S "/claim/cut.py") 462)])), (W [])⟩
def o191 (P : Params) : Obj := ⟨(.type "function"), none, (.func ⟨(S "_law_row_at"), (S "_law_row_at"), (defArgs (ST 23)), (.stmts (defBody (ST 23))), (defScope (ST 23)), 3, [], .none, .none, .none, (.str (S "law_nearcall_k28_texts_that_are_no_row") 372), none, (.ref 197), .none, 0⟩), (W [])⟩
def o192 (P : Params) : Obj := ⟨(.type "tuple"), none, (.seq (V []) 0), (W [])⟩
def o193 (P : Params) : Obj := ⟨.none, none, (.fields (V [])), (W [])⟩
def o194 (P : Params) : Obj := ⟨(.type "tuple"), none, (.seq (V [(.str (S "_law_text_here") 467), (.str (S "_law_at") 468), (.str (S "_law_tree") 469), (.str (S "_law_many") 470)]) 0), (W [])⟩
def o195 (P : Params) : Obj := ⟨(.type "tuple"), none, (.seq (V []) 0), (W [])⟩
def o196 (P : Params) : Obj := ⟨.none, none, (.func ⟨(S "_law_due"), (S "_law_due"), (defArgs (ST 24)), (.stmts (defBody (ST 24))), (defScope (ST 24)), 0, [], .none, .none, .none, .none, none, .none, .none, 0⟩), (W [])⟩
def o197 (P : Params) : Obj := ⟨(.type "code"), none, (.fields (V [(.str (S "_law_due") 464), (.str (S "_law_due") 465), (.str (S "/claim/cut.py") 466), (.int 175 0), (.int 1 0), (.int 0 0), (.int 0 0), (.int 3 0), (.ref 199), (.bool true), (.int 181 0), (.ref 200), .none, (.ref 201), (.ref 202), (.ref 203), (.int 471 0), (.int 175 0), (.str (S "/claim/cut.py") 472)])), (W [])⟩
def o198 (P : Params) : Obj := ⟨(.type "function"), none, (.func ⟨(S "_law_due"), (S "_law_due"), (defArgs (ST 24)), (.stmts (defBody (ST 24))), (defScope (ST 24)), 3, [], .none, .none, .none, (.str (S "law_nearcall_k28_texts_that_are_no_row") 372), none, (.ref 204), .none, 0⟩), (W [])⟩
def o199 (P : Params) : Obj := ⟨(.type "tuple"), none, (.seq (V []) 0), (W [])⟩
def o200 (P : Params) : Obj := ⟨.none, none, (.fields (V [])), (W [])⟩
def o201 (P : Params) : Obj := ⟨(.type "tuple"), none, (.seq (V [(.str (S "_law_text_here") 477), (.str (S "_law_found") 478), (.str (S "e") 479)]) 0), (W [])⟩
def o202 (P : Params) : Obj := ⟨(.type "tuple"), none, (.seq (V []) 0), (W [])⟩
def o203 (P : Params) : Obj := ⟨.none, none, (.func ⟨(S "_law_told"), (S "_law_told"), (defArgs (ST 25)), (.stmts (defBody (ST 25))), (defScope (ST 25)), 0, [], .none, .none, .none, .none, none, .none, .none, 0⟩), (W [])⟩
def o204 (P : Params) : Obj := ⟨(.type "code"), none, (.fields (V [(.str (S "_law_told") 474), (.str (S "_law_told") 475), (.str (S "/claim/cut.py") 476), (.int 178 0), (.int 1 0), (.int 0 0), (.int 0 0), (.int 3 0), (.ref 206), (.bool true), (.int 181 0), (.ref 207), .none, (.ref 208), (.ref 209), (.ref 210), (.int 480 0), (.int 178 0), (.str (S "/claim/cut.py") 481)])), (W [])⟩
def o205 (P : Params) : Obj := ⟨(.type "function"), none, (.func ⟨(S "_law_told"), (S "_law_told"), (defArgs (ST 25)), (.stmts (defBody (ST 25))), (defScope (ST 25)), 3, [], .none, .none, .none, (.str (S "law_nearcall_k28_texts_that_are_no_row") 372), none, (.ref 211), .none, 0⟩), (W [])⟩
def o206 (P : Params) : Obj := ⟨(.type "tuple"), none, (.seq (V []) 0), (W [])⟩
def o207 (P : Params) : Obj := ⟨.none, none, (.fields (V [])), (W [])⟩
def o208 (P : Params) : Obj := ⟨(.type "tuple"), none, (.seq (V [(.str (S "_law_d") 486), (.str (S "_law_name") 487), (.str (S "_law_some") 488), (.str (S "_law_number") 489)]) 0), (W [])⟩
def o209 (P : Params) : Obj := ⟨(.type "tuple"), none, (.seq (V []) 0), (W [])⟩
def o210 (P : Params) : Obj := ⟨.none, none, (.func ⟨(S "_law_piece"), (S "_law_piece"), (defArgs (ST 26)), (.stmts (defBody (ST 26))), (defScope (ST 26)), 0, [], .none, .none, .none, .none, none, .none, .none, 0⟩), (W [])⟩
def o211 (P : Params) : Obj := ⟨(.type "code"), none, (.fields (V [(.str (S "_law_piece") 483), (.str (S "_law_piece") 484), (.str (S "/claim/cut.py") 485), (.int 184 0), (.int 1 0), (.int 0 0), (.int 0 0), (.int 3 0), (.ref 213), (.bool true), (.int 181 0), (.ref 214), .none, (.ref 215), (.ref 216), (.ref 217), (.int 490 0), (.int 184 0), (.str (S "/claim/cut.py") 491)])), (W [])⟩
def o212 (P : Params) : Obj := ⟨(.type "function"), none, (.func ⟨(S "_law_piece"), (S "_law_piece"), (defArgs (ST 26)), (.stmts (defBody (ST 26))), (defScope (ST 26)), 3, [], .none, .none, .none, (.str (S "law_nearcall_k28_texts_that_are_no_row") 372), none, (.ref 218), .none, 0⟩), (W [])⟩
def o213 (P : Params) : Obj := ⟨(.type "tuple"), none, (.seq (V []) 0), (W [])⟩
def o214 (P : Params) : Obj := ⟨.none, none, (.fields (V [])), (W [])⟩
def o215 (P : Params) : Obj := ⟨.none, none, (.func ⟨(S "_law_text"), (S "_law_text"), (defArgs (ST 27)), (.stmts (defBody (ST 27))), (defScope (ST 27)), 0, [], .none, .none, .none, .none, none, .none, .none, 0⟩), (W [])⟩
def o216 (P : Params) : Obj := ⟨(.type "code"), none, (.fields (V [(.str (S "_law_text") 493), (.str (S "_law_text") 494), (.str (S "/claim/cut.py") 495), (.int 189 0), (.int 1 0), (.int 0 0), (.int 0 0), (.int 3 0), (.ref 220), (.bool true), (.int 181 0), (.ref 221), .none, .none, .none, (.ref 222), (.int 496 0), (.int 189 0), (.str (S "/claim/cut.py") 497)])), (W [])⟩
def o217 (P : Params) : Obj := ⟨(.type "function"), none, (.func ⟨(S "_law_text"), (S "_law_text"), (defArgs (ST 27)), (.stmts (defBody (ST 27))), (defScope (ST 27)), 3, [], .none, .none, .none, (.str (S "law_nearcall_k28_texts_that_are_no_row") 372), none, (.ref 223), .none, 0⟩), (W [])⟩
def o218 (P : Params) : Obj := ⟨(.type "tuple"), none, (.seq (V []) 0), (W [])⟩
def o219 (P : Params) : Obj := ⟨.none, none, (.fields (V [])), (W [])⟩
def o220 (P : Params) : Obj := ⟨(.type "tuple"), none, (.seq (V [(.str (S "_law_d") 502), (.str (S "_law_text_here") 503), (.str (S "_law_signs") 504), (.str (S "_law_at") 505), (.str (S "_law_sign") 506)]) 0), (W [])⟩
def o221 (P : Params) : Obj := ⟨(.type "tuple"), none, (.seq (V []) 0), (W [])⟩
def o222 (P : Params) : Obj := ⟨.none, none, (.func ⟨(S "_law_spoilt"), (S "_law_spoilt"), (defArgs (ST 28)), (.stmts (defBody (ST 28))), (defScope (ST 28)), 0, [], .none, .none, .none, .none, none, .none, .none, 0⟩), (W [])⟩
def o223 (P : Params) : Obj := ⟨(.type "code"), none, (.fields (V [(.str (S "_law_spoilt") 499), (.str (S "_law_spoilt") 500), (.str (S "/claim/cut.py") 501), (.int 197 0), (.int 2 0), (.int 0 0), (.int 0 0), (.int 3 0), (.ref 225), (.bool true), (.int 181 0), (.ref 226), .none, (.ref 227), (.ref 228), (.ref 229), (.int 507 0), (.int 197 0), (.str (S "/claim/cut.py") 508)])), (W [])⟩
def o224 (P : Params) : Obj := ⟨(.type "function"), none, (.func ⟨(S "_law_spoilt"), (S "_law_spoilt"), (defArgs (ST 28)), (.stmts (defBody (ST 28))), (defScope (ST 28)), 3, [], .none, .none, .none, (.str (S "law_nearcall_k28_texts_that_are_no_row") 372), none, (.ref 230), .none, 0⟩), (W [])⟩
def o225 (P : Params) : Obj := ⟨(.type "tuple"), none, (.seq (V []) 0), (W [])⟩
def o226 (P : Params) : Obj := ⟨.none, none, (.fields (V [])), (W [])⟩
def o227 (P : Params) : Obj := ⟨(.type "tuple"), none, (.seq (V [(.str (S "_law_script") 513), (.str (S "_law_d") 514), (.str (S "_law_turn") 515), (.str (S "_law_text_here") 516), (.str (S "_law_k") 517)]) 0), (W [])⟩
def o228 (P : Params) : Obj := ⟨(.type "tuple"), none, (.seq (V []) 0), (W [])⟩
def o229 (P : Params) : Obj := ⟨.none, none, (.func ⟨(S "law"), (S "law"), (defArgs (ST 29)), (.stmts (defBody (ST 29))), (defScope (ST 29)), 0, [], .none, .none, .none, .none, none, .none, .none, 0⟩), (W [])⟩
def o230 (P : Params) : Obj := ⟨(.type "code"), none, (.fields (V [(.str (S "law") 510), (.str (S "law") 511), (.str (S "/claim/cut.py") 512), (.int 202 0), (.int 1 0), (.int 0 0), (.int 0 0), (.int 3 0), (.ref 232), (.bool true), (.int 181 0), (.ref 233), .none, (.ref 234), (.ref 235), (.ref 236), (.int 518 0), (.int 202 0), (.str (S "/claim/cut.py") 519)])), (W [])⟩
def o231 (P : Params) : Obj := ⟨(.type "function"), none, (.func ⟨(S "law"), (S "law"), (defArgs (ST 29)), (.stmts (defBody (ST 29))), (defScope (ST 29)), 3, [], .none, .none, .none, (.str (S "law_nearcall_k28_texts_that_are_no_row") 372), none, (.ref 237), .none, 0⟩), (W [])⟩
def objs_1 (P : Params) : List Obj :=
  [boot_o_0 P, boot_o_1 P, boot_o_2 P, o129 P, boot_o_4 P, boot_o_5 P, boot_o_6 P, boot_o_7 P, boot_o_8 P, boot_o_9 P, boot_o_10 P, o0 P, o130 P, o2 P, o3 P, o6 P, o7 P, o8 P, o9 P, o10 P, o11 P, o12 P, o13 P, o14 P, o15 P, o16 P, o17 P, o18 P, o19 P, o20 P, o21 P, o22 P, o23 P, o24 P, o25 P, o26 P, o27 P, o28 P, o29 P, o30 P] ++ (
  [o31 P, o32 P, o33 P, o34 P, o35 P, o36 P, o37 P, o38 P, o39 P, o40 P, o41 P, o42 P, o43 P, o44 P, o45 P, o46 P, o47 P, o48 P, o49 P, o50 P, o51 P, o52 P, o53 P, o54 P, o55 P, o56 P, o57 P, o58 P, o59 P, o60 P, o61 P, o62 P, o63 P, o64 P, o65 P, o66 P, o67 P, o68 P, o69 P, o70 P] ++ (
  [o71 P, o72 P, o73 P, o74 P, o75 P, o76 P, o77 P, o78 P, o79 P, o80 P, o81 P, o82 P, o83 P, o84 P, o85 P, o86 P, o87 P, o88 P, o89 P, o90 P, o91 P, o92 P, o93 P, o94 P, o95 P, o96 P, o97 P, o98 P, o99 P, o100 P, o101 P, o102 P, o103 P, o104 P, o105 P, o106 P, o107 P, o108 P, o109 P, o110 P] ++ (
  [o111 P, o112 P, o113 P, o114 P, o115 P, o116 P, o117 P, o118 P, o119 P, o120 P, o121 P, o122 P, o123 P, o124 P, o125 P, o126 P, o127 P, o128 P, o131 P, o132 P, o133 P, o134 P, o135 P, o136 P, o137 P, o138 P, o139 P, o140 P, o141 P, o142 P, o143 P, o144 P, o145 P, o146 P, o147 P, o148 P, o149 P, o150 P, o151 P, o152 P] ++ (
  [o153 P, o154 P, o155 P, o156 P, o157 P, o158 P, o159 P, o160 P, o161 P, o162 P, o163 P, o164 P, o165 P, o166 P, o167 P, o168 P, o169 P, o170 P, o171 P, o172 P, o173 P, o174 P, o175 P, o176 P, o177 P, o178 P, o179 P, o180 P, o181 P, o182 P, o183 P, o184 P, o185 P, o186 P, o187 P, o188 P, o189 P, o190 P, o191 P, o192 P] ++ (
  [o193 P, o194 P, o195 P, o196 P, o197 P, o198 P, o199 P, o200 P, o201 P, o202 P, o203 P, o204 P, o205 P, o206 P, o207 P, o208 P, o209 P, o210 P, o211 P, o212 P, o213 P, o214 P, o215 P, o216 P, o217 P, o218 P, o219 P, o220 P, o221 P, o222 P, o223 P, o224 P, o225 P, o226 P, o227 P, o228 P, o229 P, o230 P, o231 P])))))
def objs_f (P : Params) : List Obj :=
  [boot_o_0 P, boot_o_1 P, boot_o_2 P, o129 P, boot_o_4 P, boot_o_5 P, boot_o_6 P, boot_o_7 P, boot_o_8 P, boot_o_9 P, boot_o_10 P, o0 P, o130 P, o2 P, o3 P, o6 P, o7 P, o8 P, o9 P, o10 P, o11 P, o12 P, o13 P, o14 P, o15 P, o16 P, o17 P, o18 P, o19 P, o20 P, o21 P, o22 P, o23 P, o24 P, o25 P, o26 P, o27 P, o28 P, o29 P, o30 P] ++ (
  [o31 P, o32 P, o33 P, o34 P, o35 P, o36 P, o37 P, o38 P, o39 P, o40 P, o41 P, o42 P, o43 P, o44 P, o45 P, o46 P, o47 P, o48 P, o49 P, o50 P, o51 P, o52 P, o53 P, o54 P, o55 P, o56 P, o57 P, o58 P, o59 P, o60 P, o61 P, o62 P, o63 P, o64 P, o65 P, o66 P, o67 P, o68 P, o69 P, o70 P] ++ (
  [o71 P, o72 P, o73 P, o74 P, o75 P, o76 P, o77 P, o78 P, o79 P, o80 P, o81 P, o82 P, o83 P, o84 P, o85 P, o86 P, o87 P, o88 P, o89 P, o90 P, o91 P, o92 P, o93 P, o94 P, o95 P, o96 P, o97 P, o98 P, o99 P, o100 P, o101 P, o102 P, o103 P, o104 P, o105 P, o106 P, o107 P, o108 P, o109 P, o110 P] ++ (
  [o111 P, o112 P, o113 P, o114 P, o115 P, o116 P, o117 P, o118 P, o119 P, o120 P, o121 P, o122 P, o123 P, o124 P, o125 P, o126 P, o127 P, o128 P, o131 P, o132 P, o133 P, o134 P, o135 P, o136 P, o137 P, o138 P, o139 P, o140 P, o141 P, o142 P, o143 P, o144 P, o145 P, o146 P, o147 P, o148 P, o149 P, o150 P, o151 P, o152 P] ++ (
  [o153 P, o154 P, o155 P, o156 P, o157 P, o158 P, o159 P, o160 P, o161 P, o162 P, o163 P, o164 P, o165 P, o166 P, o167 P, o168 P, o169 P, o170 P, o171 P, o172 P, o173 P, o174 P, o175 P, o176 P, o177 P, o178 P, o179 P, o180 P, o181 P, o182 P, o183 P, o184 P, o185 P, o186 P, o187 P, o188 P, o189 P, o190 P, o191 P, o192 P] ++ (
  [o193 P, o194 P, o195 P, o196 P, o197 P, o198 P, o199 P, o200 P, o201 P, o202 P, o203 P, o204 P, o205 P, o206 P, o207 P, o208 P, o209 P, o210 P, o211 P, o212 P, o213 P, o214 P, o215 P, o216 P, o217 P, o218 P, o219 P, o220 P, o221 P, o222 P, o223 P, o224 P, o225 P, o226 P, o227 P, o228 P, o229 P, o230 P, o231 P])))))
def KF (P : Params) : Frag := List.cons (nat_lit 2, boot_o_2 P) (
  List.cons (nat_lit 3, o129 P) (
  List.cons (nat_lit 15, o6 P) (
  List.cons (nat_lit 22, o13 P) (
  List.cons (nat_lit 24, o15 P) (
  List.cons (nat_lit 25, o16 P) (
  List.cons (nat_lit 27, o18 P) (
  List.cons (nat_lit 28, o19 P) (
  List.cons (nat_lit 29, o20 P) (
  List.cons (nat_lit 30, o21 P) (
  List.cons (nat_lit 31, o22 P) (
  List.cons (nat_lit 32, o23 P) (
  List.cons (nat_lit 35, o26 P) (
  List.cons (nat_lit 42, o33 P) (
  List.cons (nat_lit 44, o35 P) (
  List.cons (nat_lit 45, o36 P) (
  List.cons (nat_lit 47, o38 P) (
  List.cons (nat_lit 48, o39 P) (
  List.cons (nat_lit 49, o40 P) (
  List.cons (nat_lit 50, o41 P) (
  List.cons (nat_lit 51, o42 P) (
  List.cons (nat_lit 61, o52 P) (
  List.cons (nat_lit 63, o54 P) (
  List.cons (nat_lit 64, o55 P) (
  List.cons (nat_lit 66, o57 P) (
  List.cons (nat_lit 67, o58 P) (
  List.cons (nat_lit 68, o59 P) (
  List.cons (nat_lit 70, o61 P) (
  List.cons (nat_lit 71, o62 P) (
  List.cons (nat_lit 73, o64 P) (
  List.cons (nat_lit 74, o65 P) (
  List.cons (nat_lit 75, o66 P) (
  List.cons (nat_lit 77, o68 P) (
  List.cons (nat_lit 78, o69 P) (
  List.cons (nat_lit 80, o71 P) (
  List.cons (nat_lit 81, o72 P) (
  List.cons (nat_lit 82, o73 P) (
  List.cons (nat_lit 84, o75 P) (
  List.cons (nat_lit 85, o76 P) (
  List.cons (nat_lit 87, o78 P) (
  List.cons (nat_lit 88, o79 P) (
  List.cons (nat_lit 89, o80 P) (
  List.cons (nat_lit 91, o82 P) (
  List.cons (nat_lit 92, o83 P) (
  List.cons (nat_lit 94, o85 P) (
  List.cons (nat_lit 95, o86 P) (
  List.cons (nat_lit 96, o87 P) (
  List.cons (nat_lit 98, o89 P) (
  List.cons (nat_lit 99, o90 P) (
  List.cons (nat_lit 101, o92 P) (
  List.cons (nat_lit 102, o93 P) (
  List.cons (nat_lit 103, o94 P) (
  List.cons (nat_lit 105, o96 P) (
  List.cons (nat_lit 106, o97 P) (
  List.cons (nat_lit 108, o99 P) (
  List.cons (nat_lit 109, o100 P) (
  List.cons (nat_lit 110, o101 P) (
  List.cons (nat_lit 112, o103 P) (
  List.cons (nat_lit 113, o104 P) (
  List.cons (nat_lit 115, o106 P) (
  List.cons (nat_lit 116, o107 P) (
  List.cons (nat_lit 117, o108 P) (
  List.cons (nat_lit 119, o110 P) (
  List.cons (nat_lit 120, o111 P) (
  List.cons (nat_lit 122, o113 P) (
  List.cons (nat_lit 123, o114 P) (
  List.cons (nat_lit 124, o115 P) (
  List.cons (nat_lit 125, o116 P) (
  List.cons (nat_lit 126, o117 P) (
  List.cons (nat_lit 127, o118 P) (
  List.cons (nat_lit 128, o119 P) (
  List.cons (nat_lit 131, o122 P) (
  List.cons (nat_lit 133, o124 P) (
  List.cons (nat_lit 134, o125 P) (
  List.cons (nat_lit 136, o127 P) (
  List.cons (nat_lit 137, o128 P) (
  List.cons (nat_lit 138, o131 P) (
  List.cons (nat_lit 141, o134 P) (
  List.cons (nat_lit 142, o135 P) (
  List.cons (nat_lit 143, o136 P) (
  List.cons (nat_lit 145, o138 P) (
  List.cons (nat_lit 146, o139 P) (
  List.cons (nat_lit 148, o141 P) (
  List.cons (nat_lit 149, o142 P) (
  List.cons (nat_lit 150, o143 P) (
  List.cons (nat_lit 152, o145 P) (
  List.cons (nat_lit 153, o146 P) (
  List.cons (nat_lit 155, o148 P) (
  List.cons (nat_lit 156, o149 P) (
  List.cons (nat_lit 157, o150 P) (
  List.cons (nat_lit 159, o152 P) (
  List.cons (nat_lit 160, o153 P) (
  List.cons (nat_lit 162, o155 P) (
  List.cons (nat_lit 163, o156 P) (
  List.cons (nat_lit 164, o157 P) (
  List.cons (nat_lit 166, o159 P) (
  List.cons (nat_lit 167, o160 P) (
  List.cons (nat_lit 169, o162 P) (
  List.cons (nat_lit 170, o163 P) (
  List.cons (nat_lit 171, o164 P) (
  List.cons (nat_lit 173, o166 P) (
  List.cons (nat_lit 174, o167 P) (
  List.cons (nat_lit 176, o169 P) (
  List.cons (nat_lit 177, o170 P) (
  List.cons (nat_lit 178, o171 P) (
  List.cons (nat_lit 180, o173 P) (
  List.cons (nat_lit 181, o174 P) (
  List.cons (nat_lit 183, o176 P) (
  List.cons (nat_lit 184, o177 P) (
  List.cons (nat_lit 185, o178 P) (
  List.cons (nat_lit 187, o180 P) (
  List.cons (nat_lit 188, o181 P) (
  List.cons (nat_lit 190, o183 P) (
  List.cons (nat_lit 191, o184 P) (
  List.cons (nat_lit 192, o185 P) (
  List.cons (nat_lit 194, o187 P) (
  List.cons (nat_lit 195, o188 P) (
  List.cons (nat_lit 197, o190 P) (
  List.cons (nat_lit 198, o191 P) (
  List.cons (nat_lit 199, o192 P) (
  List.cons (nat_lit 201, o194 P) (
  List.cons (nat_lit 202, o195 P) (
  List.cons (nat_lit 204, o197 P) (
  List.cons (nat_lit 205, o198 P) (
  List.cons (nat_lit 206, o199 P) (
  List.cons (nat_lit 208, o201 P) (
  List.cons (nat_lit 209, o202 P) (
  List.cons (nat_lit 211, o204 P) (
  List.cons (nat_lit 212, o205 P) (
  List.cons (nat_lit 213, o206 P) (
  List.cons (nat_lit 215, o208 P) (
  List.cons (nat_lit 216, o209 P) (
  List.cons (nat_lit 218, o211 P) (
  List.cons (nat_lit 219, o212 P) (
  List.cons (nat_lit 220, o213 P) (
  List.cons (nat_lit 223, o216 P) (
  List.cons (nat_lit 224, o217 P) (
  List.cons (nat_lit 225, o218 P) (
  List.cons (nat_lit 227, o220 P) (
  List.cons (nat_lit 228, o221 P) (
  List.cons (nat_lit 230, o223 P) (
  List.cons (nat_lit 231, o224 P) (
  List.cons (nat_lit 232, o225 P) (
  List.cons (nat_lit 234, o227 P) (
  List.cons (nat_lit 235, o228 P) (
  List.cons (nat_lit 237, o230 P) (
  List.cons (nat_lit 238, o231 P) (
  List.nil)))))))))))))))))))))))))))))))))))))))))))))))))))))))))))))))))))))))))))))))))))))))))))))))))))))))))))))))))))))))))))))))))))))))))))))))))))
def KA : List Addr := [2, 3, 15, 22, 24, 25, 27, 28, 29, 30, 31, 32, 35, 42, 44, 45, 47, 48, 49, 50, 51, 61, 63, 64, 66, 67, 68, 70, 71, 73, 74, 75, 77, 78, 80, 81, 82, 84, 85, 87, 88, 89, 91, 92, 94, 95, 96, 98, 99, 101, 102, 103, 105, 106, 108, 109, 110, 112, 113, 115, 116, 117, 119, 120, 122, 123, 124, 125, 126, 127, 128, 131, 133, 134, 136, 137, 138, 141, 142, 143, 145, 146, 148, 149, 150, 152, 153, 155, 156, 157, 159, 160, 162, 163, 164, 166, 167, 169, 170, 171, 173, 174, 176, 177, 178, 180, 181, 183, 184, 185, 187, 188, 190, 191, 192, 194, 195, 197, 198, 199, 201, 202, 204, 205, 206, 208, 209, 211, 212, 213, 215, 216, 218, 219, 220, 223, 224, 225, 227, 228, 230, 231, 232, 234, 235, 237, 238]
abbrev qv : Program := view pw [1, 2, 4, 5, 6, 7, 8, 9, 10, 11, 12, 13, 15, 16, 17, 18, 19, 20, 21, 22, 23, 24, 25, 26, 27, 28, 29]
def names : List PySem.Str := [(S "MOST_TIMES")]
def env : Env := ⟨pw.main.scope, mainNs, mainNs, [], PySem.Str.empty, none, (.ref 13), some 14, 0⟩
def bod : List Stmt := behindTheImports pw
abbrev cE : Code := .body bod env
theorem r_a (w : World) (os : OsState) : goG (mq pw w) 11 (some (.ref 6)) 12 (stL w (boot_heap w.params).objs.toList boot_toks os) (topStub pw) = some ((stL w (objs_a w.params) 187 os), ⟨denQ tabQ cE, cE, ⟨0, 0, 0, 0⟩, [topFrame ⟨0, 0, 0, 0⟩]⟩) := by kernel_rfl
theorem r_b (w : World) (os : OsState) : goS (mq pw w) 11 (some (.ref 6)) 1 (stL w (objs_a w.params) 187 os) (thB bod env cE ⟨0, 0, 0, 0⟩ ⟨0, 0, 0, 0⟩) = some (.next, (stL w (objs_b w.params) 187 os), cE, ⟨0, 0, 0, 0⟩) := by kernel_rfl
def l_0 : List Stmt := (pw.main.body.drop 0).take 15
theorem r_0 (w : World) (os : OsState) : goS (mq pw w) 11 (some (.ref 6)) 1087 (stL w (objs_b w.params) 187 os) (thS l_0 env cE ⟨0, 0, 0, 0⟩ ⟨0, 0, 0, 0⟩) = some (.next, (stL w (objs_0 w.params) 374 os), cE, ⟨92, 0, 92, 8⟩) := by kernel_rfl
def l_1 : List Stmt := (pw.main.body.drop 15).take 15
theorem r_1 (w : World) (os : OsState) : goS (mq pw w) 11 (some (.ref 6)) 474 (stL w (objs_0 w.params) 374 os) (thS l_1 env cE ⟨92, 0, 92, 8⟩ ⟨0, 0, 0, 0⟩) = some (.next, (stL w (objs_1 w.params) 521 os), cE, ⟨202, 0, 210, 81⟩) := by kernel_rfl
theorem r_f (w : World) (os : OsState) : goF (mq pw w) 11 (some (.ref 6)) 2 (stL w (objs_1 w.params) 521 os) ⟨doneF .next, cE, ⟨202, 0, 210, 81⟩, [topFrame ⟨0, 0, 0, 0⟩]⟩ = some (stL w (objs_f w.params) 521 os) := by kernel_rfl
theorem bod_is : bod = l_0 ++ (l_1 ++ ([])) := by kernel_rfl
theorem run_all (w : World) (os : OsState) : topRun treeTable pw w 11 (some (.ref 6)) (12 + (1 + (1087 + (474 + 2)))) (stL w (boot_heap w.params).objs.toList boot_toks os).abs (topStub pw) = some (stL w (objs_f w.params) 521 os).abs := by
  refine run_top (b := bod) (env := env) (r_a w os) (r_b w os) ?_
  have z := run_seg (r_0 w os) (run_seg (r_1 w os) (run_end (r_f w os)))
  have e : restOf bod env cE ⟨0, 0, 0, 0⟩ [topFrame ⟨0, 0, 0, 0⟩] = restOf (l_0 ++ (l_1 ++ ([]))) env cE ⟨0, 0, 0, 0⟩ [topFrame ⟨0, 0, 0, 0⟩] := congrArg (fun b => restOf b env cE ⟨0, 0, 0, 0⟩ [topFrame ⟨0, 0, 0, 0⟩]) bod_is
  rw [e]
  exact z
theorem ka_is (P : Params) : KA = (KF P).map (·.1) := by kernel_rfl
abbrev hk : Hook := kHook KF KA ka_is
def ob (S : SharedT) : hk.α := KA.map (getT S)
theorem ob_is (S : SharedT) : ob S = hk.obs S.abs := obK S
theorem k_1 (w : World) (os : OsState) : looksF pw (boot_heap w.params) (stL w (objs_f w.params) 521 os).abs = true := by kernel_rfl
theorem s_0 (w : World) (os : OsState) : (seenQ qv names (importedModules pw.main.body) (fun s => xlAt qv lv s && recOk (OpenLaw.row rw_).toRowW.records s) (stL w (objs_f w.params) 521 os).abs).1 = expectedOf qv := by kernel_rfl
theorem s_1 (w : World) (os : OsState) : (seenQ qv names (importedModules pw.main.body) (fun s => xlAt qv lv s && recOk (OpenLaw.row rw_).toRowW.records s) (stL w (objs_f w.params) 521 os).abs).2.1 = bltViewBooted := by kernel_rfl
theorem s_2 (w : World) (os : OsState) : (seenQ qv names (importedModules pw.main.body) (fun s => xlAt qv lv s && recOk (OpenLaw.row rw_).toRowW.records s) (stL w (objs_f w.params) 521 os).abs).2.2.1 = true := by kernel_rfl
theorem s_3 (w : World) (os : OsState) : (seenQ qv names (importedModules pw.main.body) (fun s => xlAt qv lv s && recOk (OpenLaw.row rw_).toRowW.records s) (stL w (objs_f w.params) 521 os).abs).2.2.2.1 = true := by kernel_rfl
theorem s_4 (w : World) (os : OsState) : (seenQ qv names (importedModules pw.main.body) (fun s => xlAt qv lv s && recOk (OpenLaw.row rw_).toRowW.records s) (stL w (objs_f w.params) 521 os).abs).2.2.2.2.1 = pinGoodD (drecsOf qv) := by kernel_rfl
theorem s_5 (w : World) (os : OsState) : (seenQ qv names (importedModules pw.main.body) (fun s => xlAt qv lv s && recOk (OpenLaw.row rw_).toRowW.records s) (stL w (objs_f w.params) 521 os).abs).2.2.2.2.2.1 = plainGoodE qv (looseW qv names) := by kernel_rfl
theorem s_6 (w : World) (os : OsState) : (seenQ qv names (importedModules pw.main.body) (fun s => xlAt qv lv s && recOk (OpenLaw.row rw_).toRowW.records s) (stL w (objs_f w.params) 521 os).abs).2.2.2.2.2.2.1 = plainGoodD qv names := by kernel_rfl
theorem s_7 (w : World) (os : OsState) : (seenQ qv names (importedModules pw.main.body) (fun s => xlAt qv lv s && recOk (OpenLaw.row rw_).toRowW.records s) (stL w (objs_f w.params) 521 os).abs).2.2.2.2.2.2.2.1 = wideGood qv := by kernel_rfl
theorem s_8 (w : World) (os : OsState) : (seenQ qv names (importedModules pw.main.body) (fun s => xlAt qv lv s && recOk (OpenLaw.row rw_).toRowW.records s) (stL w (objs_f w.params) 521 os).abs).2.2.2.2.2.2.2.2 = clsGoodW qv names := by kernel_rfl
theorem k_3 (w : World) (os : OsState) : ob (stL w (objs_f w.params) 521 os) = hk.val w := by kernel_rfl
theorem looks (w : World) (os : OsState) : (fun S : SharedT => (looksF pw (boot_heap w.params) S.abs, seenQ qv names (importedModules pw.main.body) (fun s => xlAt qv lv s && recOk (OpenLaw.row rw_).toRowW.records s) S.abs, ob S)) (stL w (objs_f w.params) 521 os) = (true, openGood qv names, hk.val w) :=
  Prod.ext (k_1 w os) (Prod.ext (Prod.ext (s_0 w os) (Prod.ext (s_1 w os) (Prod.ext (s_2 w os) (Prod.ext (s_3 w os) (Prod.ext (s_4 w os) (Prod.ext (s_5 w os) (Prod.ext (s_6 w os) (Prod.ext (s_7 w os) (s_8 w os))))))))) (k_3 w os))
theorem left : LeftO pw qv names (fun s => xlAt qv lv s && recOk (OpenLaw.row rw_).toRowW.records s) hk.obs hk.val 2276 true :=
  left_cut (F := objs_f) (kF := 521) (lo := 11) (an := (some (.ref 6))) (M := (12 + (1 + (1087 + (474 + 2))))) ob_is (by kernel_rfl) (by rfl) (fun s => by kernel_rfl) (by kernel_rfl) (fun w => by kernel_rfl) (fun w => by kernel_rfl) run_all (fun w os => looks w os)
end HX
end
open PySem PySem.W PyProof.Rows
set_option maxHeartbeats 0 in
theorem PySem.Challenge.cw_nearcall_k28_texts_that_are_no_row_holds : PySem.Challenge.rw_nearcall_k28_texts_that_are_no_row.Holds := by
  w_on; o_law
  refine holds_open (r := OpenLaw.row PySem.Challenge.rw_nearcall_k28_texts_that_are_no_row) (q := HX.qv) (loose := HX.names)
    (Xt := fun s => xlAt HX.qv HX.lv s && recOk (OpenLaw.row PySem.Challenge.rw_nearcall_k28_texts_that_are_no_row).toRowW.records s)
    (XP := XL HX.qv HX.lv) (Yf := (kHook HX.KF HX.KA HX.ka_is).obs) (Ya := (kHook HX.KF HX.KA HX.ka_is).val) (YP := (kHook HX.KF HX.KA HX.ka_is).says)
    (kwd := []) HX.left (kHook HX.KF HX.KA HX.ka_is).of (kHook HX.KF HX.KA HX.ka_is).keeps
    (fun s z => xl_of s (Bool.and_eq_true_iff.mp z).1) XL.keeps
    (by rfl) (by rfl) (by rfl)
    (fun s z => recFacts_of (Bool.and_eq_true_iff.mp z).2)
    (by rfl) (by first | assumption | decide +kernel) (by decide +kernel)
    ⟨rfl, rfl, rfl, rfl, rfl, by decide +kernel⟩ ?hw ?hc
  case hw => w_witness2
  k_fill
  refine LamX.walk_ofTs (l := PySem.Challenge.rw_nearcall_k28_texts_that_are_no_row) (n := 63) (k := 46) (x := "_law_script") (CX := fun w => L2.CX0) rfl (by decide) rfl ⟨rfl, by decide, by decide⟩ (fun w h Y => PySem.W.kIn_of Y) ?F (fun _ _ _ _ _ h => h)
  case F =>
    intro w mg fa h Y KX G hmg
    refine' NC.all_mk KX G hmg ?a_letters ?l_letters ?c_letters ?k_letters ?a_run ?l_run ?c_run ?k_run ?a_tm ?l_tm ?c_tm ?k_tm ?a_stp ?l_stp ?c_stp ?k_stp ?a_row ?l_row ?c_row ?k_row ?a_due ?l_due ?c_due ?k_due ?a_of ?l_of ?c_of ?k_of ?a_draw ?l_draw ?c_draw ?k_draw ?a_told ?l_told ?c_told ?k_told ?a_piece ?l_piece ?c_piece ?k_piece ?a_text ?l_text ?c_text ?k_text ?a_spoilt ?l_spoilt ?c_spoilt ?k_spoilt ?a_same ?l_same ?c_same ?k_same ?a_start ?l_start ?c_start ?k_start ?a_rr ?l_rr ?c_rr ?k_rr ?a_CH ?a_CB ?i_H ?r_H ?g_H ?v_V ?x_CB ?rv_CB ?sa_CB ?ga_CB ?gg_CB ?hd_CB ?ex_CB ?ty_CB ?kc_CB ?i_CB ?t_CB ?n_CB_word ?n_CB_at ?l_iH ?c_iH ?k_iH ?l_iB ?c_iB ?k_iB ?e_CB_CB ?ic_CB ?a_RC ?i_RC ?j_RC ?pg_RC ?hd_RC ?po_RC ?sa_RC ?mk_RC ?kp_RC ?n1_RC ?n2_RC ?n3_RC ?b_qsg ?m_qsg ?l_qsg ?c_qsg ?k_qsg ?b_qsd ?m_qsd ?l_qsd ?c_qsd ?k_qsd ?b_qtk ?m_qtk ?l_qtk ?c_qtk ?k_qtk ?b_qlt ?m_qlt ?l_qlt ?c_qlt ?k_qlt ?b_qnm ?m_qnm ?l_qnm ?c_qnm ?k_qnm ?b_qgr ?m_qgr ?l_qgr ?c_qgr ?k_qgr ?b_qsp ?m_qsp ?l_qsp ?c_qsp ?k_qsp ?b_qrw ?m_qrw ?l_qrw ?c_qrw ?k_qrw ?l_qini ?c_qini ?k_qini ?z_list ?z_sorted ?z_set ?z_all ?z_len ?z_enumerate ?z_range ?z_isinstance ?z_tuple ?z_ValueError ?z_bool ?z_str ?z_int ?e_wSMALL ?e_wLETTERS ?e_wFIGURES ?e_wMOST_STEPS ?e_wMOST_DEEP ?e_wMOST_TIMES ?e_wMOST_SIDES ?e_wLONGEST_NAME ?a_L ?l_L ?c_L ?k_L
    (case a_letters => k_is)
    (case l_letters => k_is)
    (case c_letters => k_is)
    (case k_letters => k_is)
    (case a_run => k_is)
    (case l_run => k_is)
    (case c_run => k_is)
    (case k_run => k_is)
    (case a_tm => k_is)
    (case l_tm => k_is)
    (case c_tm => k_is)
    (case k_tm => k_is)
    (case a_stp => k_is)
    (case l_stp => k_is)
    (case c_stp => k_is)
    (case k_stp => k_is)
    (case a_row => k_is)
    (case l_row => k_is)
    (case c_row => k_is)
    (case k_row => k_is)
    (case a_due => k_is)
    (case l_due => k_is)
    (case c_due => k_is)
    (case k_due => k_is)
    (case a_of => k_is)
    (case l_of => k_is)
    (case c_of => k_is)
    (case k_of => k_is)
    (case a_draw => k_is)
    (case l_draw => k_is)
    (case c_draw => k_is)
    (case k_draw => k_is)
    (case a_told => k_is)
    (case l_told => k_is)
    (case c_told => k_is)
    (case k_told => k_is)
    (case a_piece => k_is)
    (case l_piece => k_is)
    (case c_piece => k_is)
    (case k_piece => k_is)
    (case a_text => k_is)
    (case l_text => k_is)
    (case c_text => k_is)
    (case k_text => k_is)
    (case a_spoilt => k_is)
    (case l_spoilt => k_is)
    (case c_spoilt => k_is)
    (case k_spoilt => k_is)
    (case a_same => k_is)
    (case l_same => k_is)
    (case c_same => k_is)
    (case k_same => k_is)
    (case a_start => k_is)
    (case l_start => k_is)
    (case c_start => k_is)
    (case k_start => k_is)
    (case a_rr => k_is)
    (case l_rr => k_is)
    (case c_rr => k_is)
    (case k_rr => k_is)
    (case a_CH => k_is)
    (case a_CB => k_is)
    (case i_H => k_is)
    (case r_H => k_is)
    (case g_H => k_is)
    (case v_V => k_is)
    (case x_CB => k_is)
    (case rv_CB => decide +kernel)
    (case sa_CB => k_is)
    (case ga_CB => k_is)
    (case gg_CB => k_is)
    (case hd_CB => k_is)
    (case ex_CB => k_is)
    (case ty_CB => k_is)
    (case kc_CB => k_is)
    (case i_CB => k_is)
    (case t_CB => k_is)
    (case n_CB_word => k_is)
    (case n_CB_at => k_is)
    (case l_iH => k_is)
    (case c_iH => k_is)
    (case k_iH => k_is)
    (case l_iB => k_is)
    (case c_iB => k_is)
    (case k_iB => k_is)
    (case e_CB_CB => first | k_is | kernel_rfl)
    (case ic_CB => k_is)
    (case a_RC => k_is)
    (case i_RC => k_is)
    (case j_RC => k_is)
    (case pg_RC => k_is)
    (case hd_RC => k_is)
    (case po_RC => k_is)
    (case sa_RC => k_is)
    (case mk_RC => k_is)
    (case kp_RC => k_is)
    (case n1_RC => k_is)
    (case n2_RC => k_is)
    (case n3_RC => k_is)
    (case b_qsg => k_is)
    (case m_qsg => k_is)
    (case l_qsg => k_is)
    (case c_qsg => k_is)
    (case k_qsg => k_is)
    (case b_qsd => k_is)
    (case m_qsd => k_is)
    (case l_qsd => k_is)
    (case c_qsd => k_is)
    (case k_qsd => k_is)
    (case b_qtk => k_is)
    (case m_qtk => k_is)
    (case l_qtk => k_is)
    (case c_qtk => k_is)
    (case k_qtk => k_is)
    (case b_qlt => k_is)
    (case m_qlt => k_is)
    (case l_qlt => k_is)
    (case c_qlt => k_is)
    (case k_qlt => k_is)
    (case b_qnm => k_is)
    (case m_qnm => k_is)
    (case l_qnm => k_is)
    (case c_qnm => k_is)
    (case k_qnm => k_is)
    (case b_qgr => k_is)
    (case m_qgr => k_is)
    (case l_qgr => k_is)
    (case c_qgr => k_is)
    (case k_qgr => k_is)
    (case b_qsp => k_is)
    (case m_qsp => k_is)
    (case l_qsp => k_is)
    (case c_qsp => k_is)
    (case k_qsp => k_is)
    (case b_qrw => k_is)
    (case m_qrw => k_is)
    (case l_qrw => k_is)
    (case c_qrw => k_is)
    (case k_qrw => k_is)
    (case l_qini => k_is)
    (case c_qini => k_is)
    (case k_qini => k_is)
    (case z_list => k_is)
    (case z_sorted => k_is)
    (case z_set => k_is)
    (case z_all => k_is)
    (case z_len => k_is)
    (case z_enumerate => k_is)
    (case z_range => k_is)
    (case z_isinstance => k_is)
    (case z_tuple => k_is)
    (case z_ValueError => k_is)
    (case z_bool => k_is)
    (case z_str => k_is)
    (case z_int => k_is)
    (case e_wSMALL => first | k_is | kernel_rfl)
    (case e_wLETTERS => first | k_is | kernel_rfl)
    (case e_wFIGURES => first | k_is | kernel_rfl)
    (case e_wMOST_STEPS => first | k_is | kernel_rfl)
    (case e_wMOST_DEEP => first | k_is | kernel_rfl)
    (case e_wMOST_TIMES => first | k_is | kernel_rfl)
    (case e_wMOST_SIDES => first | k_is | kernel_rfl)
    (case e_wLONGEST_NAME => first | k_is | kernel_rfl)
    (case a_L => k_is)
    (case l_L => k_is)
    (case c_L => k_is)
    (case k_L => k_is)
