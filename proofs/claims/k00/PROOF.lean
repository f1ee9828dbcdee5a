import PyProof.Rows.All
import Wide.All
import OpenK.AllK
import Wide.FinOn
import HandS.Base
import HandS.Call
import HandS.List
import HandS.Comp
import HandS.Ends
import HandS.Iter
import HandS.Words
import HandS.WordsList
import HandS.Head0
import HandS.Head1
import HandS.Head2
import HandS.HeadEnd
import HandS.HeadHook1
import HandS.HeadHook2
import HandS.HeadHook3
import HandS.HeadHook4
import KE.KExcIs
import HandS.Dict
import HandS.Exc
import HandS.ExcInit
import HandS.IsInst
import HandS.Defaults
import HandS.NoneIn
import HandS.Style
import HandS.Flow
import HandS.ExcValue
import HandS.Lambda
import PyProof.ReprReads
import PyProof.ReprRoads
import PyProof.ReprLen
import PyProof.StrHeap
import HandS.Walk
import HandS.TryOnly
import HandS.EndBits
import HandS.EndTab
import HandS.ExcOwn
import HandS.HeadWalk
import PySem.Challenge.RW_lamplight_k00_errors_made
set_option Elab.async false
set_option linter.all false
set_option maxRecDepth 100000
set_option maxHeartbeats 0
namespace Lamp
open PySem L2
/-! ### the text by places -/
def top (i : Nat) : Stmt := PySem.Challenge.pw_lamplight_k00_errors_made.main.body.getD i (.Pass ⟨0, 0, 0, 0⟩)
abbrev sStart : Stmt := top 73
abbrev sDraw : Stmt := top 74
abbrev sMixed : Stmt := top 75
/-! ### the spring of draws -/
/-- the spring at a, its cells' list at l, n draws so far -/
structure Spr (H : Hp) (a l : Addr) (n : Nat) : Prop where
  ne : a ≠ l
  ob : ∃ (cs : List Int) (cur mix : Int), H a = some (.lst [.ref l, .int cur, .int (n : Int), .int mix]) ∧ H l = some (.lst (cs.map V.int)) ∧ 0 ≤ mix ∧ mix < 2147483647
/-- all that was tracked is as it was, but for the spring -/
def Sb (a l : Addr) (H H' : Hp) : Prop := ∀ b o, H b = some o → b ≠ a → b ≠ l → H' b = some o
theorem Sb.refl {a l : Addr} (H : Hp) : Sb a l H H := fun _ _ h _ _ => h
theorem Sb.trans {a l : Addr} {H H1 H2 : Hp} (p : Sb a l H H1) (q : Sb a l H1 H2) : Sb a l H H2 := fun b o h x y => q b o (p b o h x y) x y
theorem Same.sb {a l : Addr} {H H' : Hp} (p : Same H H') : Sb a l H H' := fun b o h _ _ => p b o h
theorem Spr.ra {H : Hp} {a l : Addr} {n : Nat} (s : Spr H a l n) : ∃ o, H a = some o := by
  obtain ⟨_, _, _, h, _⟩ := s.ob
  exact ⟨_, h⟩
theorem Spr.rl {H : Hp} {a l : Addr} {n : Nat} (s : Spr H a l n) : ∃ o, H l = some o := by
  obtain ⟨_, _, _, _, h, _⟩ := s.ob
  exact ⟨_, h⟩
theorem Spr.na {H : Hp} {a l p : Addr} {n : Nat} (s : Spr H a l n) (h : H p = none) : p ≠ a := by
  obtain ⟨o, e⟩ := s.ra
  intro z
  rw [z, e] at h
  cases h
theorem Spr.nl {H : Hp} {a l p : Addr} {n : Nat} (s : Spr H a l n) (h : H p = none) : p ≠ l := by
  obtain ⟨o, e⟩ := s.rl
  intro z
  rw [z, e] at h
  cases h
/-- the spring stands while nothing is stored into it -/
theorem Spr.stay {H H' : Hp} {a l : Addr} {n : Nat} (s : Spr H a l n) (h : Same H H') : Spr H' a l n := by
  obtain ⟨ne, cs, cur, mix, h1, h2, h3, h4⟩ := s
  exact ⟨ne, cs, cur, mix, h _ _ h1, h _ _ h2, h3, h4⟩
theorem Spr.updN {H : Hp} {a l p : Addr} {n : Nat} {o : HO} (s : Spr H a l n) (pa : p ≠ a) (pl : p ≠ l) : Spr (upd H p o) a l n := by
  obtain ⟨ne, cs, cur, mix, h1, h2, h3, h4⟩ := s
  exact ⟨ne, cs, cur, mix, by rw [upd_ne pa.symm]; exact h1, by rw [upd_ne pl.symm]; exact h2, h3, h4⟩
theorem Sb.upd {H : Hp} {a l p : Addr} {o : HO} (h : H p = none) : Sb a l H (upd H p o) := fun b u e _ _ => by
  rw [upd_ne (ne_of_none e h)]
  exact e

def spStart (K : PySem.W.Frag) : Sp := fun vs H Q _ => ∃ (p : Addr) (ns : List Int), vs = [.ref p] ∧ SqL K H p (ns.map V.int) ∧ ∀ H' a l, Same H H' → H a = none → H l = none → Spr H' a l 0 → Q (.ref a) H'
def spDraw : Sp := fun vs H Q _ => ∃ (a l : Addr) (n : Nat) (m : Int), vs = [.ref a, .int m] ∧ Spr H a l n ∧ n ≤ 1000000 ∧ 1 ≤ m ∧ m < 1000000 ∧
  ∀ H' d, Sb a l H H' → Spr H' a l (n + 1) → 0 ≤ d → d < m → Q (.int d) H'
/-- what the top has written -/
structure TxtS (mg : Str → Option Value) : Prop where
  int : mg "int" = none
  list : mg "list" = none
  len : mg "len" = none
  range : mg "range" = none
theorem while_ex {c : TT} {tb : TS} {D : Ends} {σ : St} {H : Hp} (Ex : St → Hp → Prop) (hd : ∀ σ H, Ex σ H → D.nx σ H) (k : (∀ σ H, Ex σ H → D.nx σ H) → tWhile c tb D σ H) : tWhile c tb D σ H := k hd
theorem dpAll_ints {K : PySem.W.Frag} {H : Hp} : ∀ cs : List Int, DpAll K H (cs.map V.int) (cs.map PyData.int)
  | [] => .nil
  | c :: cs => .cons (.int c) (dpAll_ints cs)
theorem lay_ints : ∀ cs : List Int, PyData.canLayAll0 (cs.map PyData.int) = true
  | [] => rfl
  | c :: cs => by
    show (PyData.canLay0 (.int c) && PyData.canLayAll0 (cs.map PyData.int)) = true
    rw [lay_ints cs]
    rfl
theorem depth_ints (cs : List Int) : PyData.depth (.list (cs.map PyData.int)) ≤ 64 := by
  have e : PyData.depthAll (cs.map PyData.int) = 0 := by
    induction cs with
    | nil => rfl
    | cons c cs ih =>
      show max (PyData.depth (.int c)) (PyData.depthAll (cs.map PyData.int)) = 0
      rw [ih]
      rfl
  show PyData.depthAll (cs.map PyData.int) + 1 ≤ 64
  rw [e]
  decide
theorem shaped_ints (cs : List Int) : SeqAt.shaped (.list (cs.map PyData.int)) = true := by
  show (PyData.canLayAll0 (cs.map PyData.int) && decide (PyData.depth (.list (cs.map PyData.int)) ≤ 64)) = true
  rw [lay_ints, decide_eq_true (depth_ints cs)]
  rfl
section
variable {P : Program} {w : World} {K : PySem.W.Frag} {mg : Str → Option Value} {base : Heap}
theorem scS : FnScope ["script"] ["script"] (defScope sStart) := ⟨rfl, rfl, rfl, by decide +kernel, rfl, by decide +kernel, by decide +kernel⟩
theorem ok_start {f : Addr} {fd : FuncData} (F : Fun K "_law_start" "_law_start" sStart f fd) (T : TxtS mg) : FnOk P w K mg base CX0 1 f fd ["script"] (spStart K) := by
  refine F.ok scS (fun vs H Q E h => ?_) (fun cdv A outer s H vs Q E hr h => ?_)
  · obtain ⟨p, ns, rfl, _⟩ := h
    rfl
  · obtain ⟨p, ns, rfl, hS, k⟩ := h
    refine ⟨_, pss_one (ps_ret (pe_lst (pa_cons (pe_callTy call_list_of (by rfl) T.list (by decide +kernel) (pa_cons (pv 0) pa_nil)) (pa_cons pe_int (pa_cons pe_int (pa_cons pe_int pa_nil)))))), ?_⟩
    refine ⟨_, rfl, p, _, rfl, .inl hS, fun l hl => ?_⟩
    refine ⟨(by show 4 ≤ sizeLine; decide), fun a ha => ?_⟩
    have nla : l ≠ a := fun z => by
      rw [← z, upd_same] at ha
      cases ha
    have ha0 : H a = none := by
      rw [upd_ne nla.symm] at ha
      exact ha
    refine k _ a l (fun b o e => ?_) ha0 hl ⟨nla.symm, ns, 0, 11, upd_same, ?_, by decide, by decide⟩
    · rw [upd_ne (ne_of_none e ha0), upd_ne (ne_of_none e hl)]
      exact e
    · rw [upd_ne nla, upd_same]

theorem scD : FnScope ["stream", "many", "cell", "digit", "mixed"] ["stream", "many"] (defScope sDraw) := ⟨rfl, rfl, rfl, by decide +kernel, rfl, by decide +kernel, by decide +kernel⟩
theorem ok_draw {f : Addr} {fd : FuncData} (F : Fun K "_law_draw" "_law_draw" sDraw f fd) (T : TxtS mg) : FnOk P w K mg base CX0 1 f fd ["stream", "many"] spDraw := by
  refine F.ok scD (fun vs H Q E h => ?_) (fun cdv A outer s H vs Q E hr h => ?_)
  · obtain ⟨a, l, n, m, rfl, _⟩ := h
    rfl
  · obtain ⟨a, l, n, m, rfl, hS, hn, hm, hm2, k⟩ := h
    refine ⟨_, pss_cons (ps_asg (pe_op op_add (pe_ix ix_list (pv 0) pe_int (fun _ _ => rfl)) pe_int) (pg_sub (pv 0) pe_int set_list))
      (pss_cons (ps_while PassesOwn.never (PW.pt (pw_and (pt_cmpR op_eq (pe_ix ix_list (pv 0) pe_int (fun _ _ => rfl)) pe_int (nomark _)) (pw_and1 (pt_cmpR (op_neD hr.units) (pe_ix ix_list (pv 0) pe_int (fun _ _ => rfl)) (pe_lst pa_nil) (nomark _)))))
        (pss_cons (ps_set (i := 2) scD.nd rfl (Or.inl rfl) (pe_bm PySem.F.plainAttrs_list PySem.F.slot_list_pop PySem.F.type_list_pop mt_popAt (pe_ix ix_list (pv 0) pe_int (fun _ _ => rfl)) (pa_cons pe_int pa_nil)))
        (pss_cons (ps_asg (pe_op op_modN (pe_callTy call_int1 (by rfl) T.int (by decide +kernel) (pa_cons (pe_op op_add (pe_op op_add (pe_op op_mul (pe_ix ix_list (pv 0) pe_int (fun _ _ => rfl)) pe_int) (pv 2)) pe_int) pa_nil)) pe_int) (pg_sub (pv 0) pe_int set_list))
        (pss_one (ps_asg (pe_ifExp (pt_cmpR op_ge (pv 2) (pe_op op_pow pe_int pe_int) (nomark _)) (pv 2) pe_int) (pg_sub (pv 0) pe_int set_list))))))
      (pss_cons (ps_if (pt_cmpR op_gt (pe_ix ix_list (pv 0) pe_int (fun _ _ => rfl)) pe_int (nomark _))
        (pss_cons (ps_set (i := 3) scD.nd rfl (Or.inl rfl) (pe_op op_modN (pe_callTy call_int1 (by rfl) T.int (by decide +kernel) (pa_cons (pe_ix ix_list (pv 0) pe_int (fun _ _ => rfl)) pa_nil)) (pv 1)))
        (pss_cons (ps_asg (pe_op op_fdivN (pe_ix ix_list (pv 0) pe_int (fun _ _ => rfl)) (pv 1)) (pg_sub (pv 0) pe_int set_list))
        (pss_one (ps_ret (pv 3))))) pss_nil)
      (pss_cons (ps_set (i := 4) scD.nd rfl (Or.inl rfl) (pe_op op_modN (pe_callTy call_int1 (by rfl) T.int (by decide +kernel) (pa_cons (pe_op op_pow (pe_op op_add (pe_op op_add (pe_ix ix_list (pv 0) pe_int (fun _ _ => rfl)) (pe_op op_mul pe_int (pe_ix ix_list (pv 0) pe_int (fun _ _ => rfl)))) pe_int) pe_int) pa_nil)) pe_int))
      (pss_one (ps_ret (pe_op op_modN (pe_op op_modN (pe_callTy call_int1 (by rfl) T.int (by decide +kernel) (pa_cons (pe_op op_pow (pe_op op_add (pe_op op_add (pe_op op_mul (pv 4) pe_int) (pe_op op_mul pe_int (pe_ix ix_list (pv 0) pe_int (fun _ _ => rfl)))) pe_int) pe_int) pa_nil)) pe_int) (pv 1))))))), ?_⟩
    obtain ⟨ne, cs, cur, mix, h1, h2, h3, h4⟩ := hS
    refine ⟨_, rfl, a, _, 2, .int (n : Int), rfl, rfl, SqL.of h1, rfl, _, _, rfl, rfl, ?_⟩
    refine ⟨_, rfl, a, _, 2, 2, rfl, rfl, h1, rfl, ?_⟩
    refine while_ex (fun σ' H' => ∃ (cs' : List Int) (cur' mix' : Int) (v2 : Option V), σ' = [some (.ref a), some (.int m), v2, none, none] ∧ H' a = some (.lst [.ref l, .int cur', .int ((n : Int) + 1), .int mix']) ∧ H' l = some (.lst (cs'.map V.int)) ∧ 0 ≤ mix' ∧ mix' < 2147483647 ∧ Sb a l H H') ?_ (fun fin => ?_)
    · rintro σ' H' ⟨cs', cur', mix', v2, rfl, g1, g2, g3, g4, gS⟩
      have q0 : ∀ {i : Int}, 0 < i → i ≠ 0 := fun h z => by omega
      refine ⟨_, rfl, a, _, 1, .int cur', rfl, rfl, SqL.of g1, rfl, _, _, rfl, rfl, _, rfl, ?_⟩
      refine ite2 (fun _ => ?_) (fun _ => ?_)
      · refine ⟨_, rfl, a, _, 1, .int cur', rfl, rfl, SqL.of g1, rfl, .inl ⟨_, rfl, _, rfl, _, _, rfl, rfl, q0 (by omega), ?_⟩⟩
        refine ⟨_, rfl, a, _, 1, .int cur', rfl, rfl, SqL.of g1, rfl, _, rfl, _, _, rfl, rfl, ⟨q0 (by omega), by omega⟩, ?_⟩
        refine ⟨_, rfl, a, _, 1, 1, rfl, rfl, g1, rfl, _, rfl, ?_⟩
        exact k _ _ (fun b o e x y => by rw [upd_ne x]; exact gS b o e x y) ⟨ne, cs', _, mix', upd_same, by rw [upd_ne ne.symm]; exact g2, g3, g4⟩ (Int.fmod_nonneg_of_pos _ (by omega)) (Int.fmod_lt_of_pos _ (by omega))
      · have b1 : (0 : Int) ≤ mix' + 7919 * ((n : Int) + 1) + 104729 := by omega
        have b2 : mix' + 7919 * ((n : Int) + 1) + 104729 < 2 ^ 40 := by omega
        refine ⟨_, rfl, a, _, 3, .int mix', rfl, rfl, SqL.of g1, rfl, _, rfl, a, _, 2, .int ((n : Int) + 1), rfl, rfl, SqL.of g1, rfl, _, _, rfl, rfl, .inl ⟨by decide, by decide⟩, _, _, rfl, rfl, _, _, rfl, rfl, _, _, rfl, rfl, ⟨by decide, by decide, (by omega)⟩,
          .inl ⟨_, rfl, _, _, rfl, rfl, q0 (by decide), ?_⟩⟩
        have c1 := Int.fmod_nonneg_of_pos ((mix' + 7919 * ((n : Int) + 1) + 104729) ^ (5 : Int).toNat) (show (0 : Int) < 2147483629 by decide)
        have c2 := Int.fmod_lt_of_pos ((mix' + 7919 * ((n : Int) + 1) + 104729) ^ (5 : Int).toNat) (show (0 : Int) < 2147483629 by decide)
        refine ⟨_, rfl, _, _, rfl, rfl, .inr ⟨by decide, by decide⟩, _, rfl, a, _, 2, .int ((n : Int) + 1), rfl, rfl, SqL.of g1, rfl, _, _, rfl, rfl, .inl ⟨by decide, by decide⟩, _, _, rfl, rfl, _, _, rfl, rfl, _, _, rfl, rfl, ⟨by decide, by decide, (by omega)⟩,
          .inl ⟨_, rfl, _, _, rfl, rfl, q0 (by decide), _, rfl, _, _, rfl, rfl, q0 (by omega), ?_⟩⟩
        exact k _ _ gS ⟨ne, cs', cur', mix', g1, g2, g3, g4⟩ (Int.fmod_nonneg_of_pos _ (by omega)) (Int.fmod_lt_of_pos _ (by omega))
    refine ⟨fun m' σ' H' => ∃ (cs' : List Int) (cur' mix' : Int) (v2 : Option V), σ' = [some (.ref a), some (.int m), v2, none, none] ∧ m' = cs'.length ∧ H' a = some (.lst [.ref l, .int cur', .int ((n : Int) + 1), .int mix']) ∧ H' l = some (.lst (cs'.map V.int)) ∧ 0 ≤ mix' ∧ mix' < 2147483647 ∧ Sb a l H H',
      ⟨_, cs, cur, mix, none, rfl, rfl, upd_same, by rw [upd_ne ne.symm]; exact h2, h3, h4, fun b o e x y => by rw [upd_ne x]; exact e⟩, ?_⟩
    rintro m' σ' H' ⟨cs', cur', mix', v2, rfl, rfl, g1, g2, g3, g4, gS⟩
    refine ⟨_, rfl, a, _, 1, .int cur', rfl, rfl, SqL.of g1, rfl, rfl, _, rfl, ?_⟩
    refine ite2 (fun _ => ?_) (fun _ => iteF (fin _ _ ⟨cs', cur', mix', v2, rfl, g1, g2, g3, g4, gS⟩))
    refine ⟨_, rfl, a, _, 0, .ref l, rfl, rfl, SqL.of g1, rfl, Nat.zero_le _, fun p hp => ?_⟩
    have pa : p ≠ a := fun z => by
      rw [z, g1] at hp
      cases hp
    have pl : p ≠ l := fun z => by
      rw [z, g2] at hp
      cases hp
    have g1' : upd H' p (.lst []) a = some (.lst [.ref l, .int cur', .int ((n : Int) + 1), .int mix']) := by
      rw [upd_ne pa.symm]
      exact g1
    have g2' : upd H' p (.lst []) l = some (.lst (cs'.map V.int)) := by
      rw [upd_ne pl.symm]
      exact g2
    have gS' : Sb a l H (upd H' p (.lst [])) := gS.trans (Sb.upd hp)
    refine ⟨.list (cs'.map PyData.int), .list [], .lst (SqL.of g2') (dpAll_ints cs'), .lst (SqL.of upd_same) .nil, shaped_ints cs', by decide, _, rfl, ?_⟩
    cases cs' with
    | nil => exact iteF (fin _ _ ⟨[], cur', mix', v2, rfl, g1', g2', g3, g4, gS'⟩)
    | cons c cs' =>
      refine iteT ⟨fun σ'' H'' => ∃ (cur' mix' : Int) (v2 : Option V), σ'' = [some (.ref a), some (.int m), v2, none, none] ∧ H'' a = some (.lst [.ref l, .int cur', .int ((n : Int) + 1), .int mix']) ∧ H'' l = some (.lst (cs'.map V.int)) ∧ 0 ≤ mix' ∧ mix' < 2147483647 ∧ Sb a l H H'', ?_, ?_⟩
      · rintro σ'' H'' ⟨cur'', mix'', v2', rfl, q1, q2, q3, q4, qS⟩
        exact ⟨cs'.length, Nat.lt_succ_self _, cs', cur'', mix'', v2', rfl, rfl, q1, q2, q3, q4, qS⟩
      · refine ⟨_, rfl, a, _, 0, .ref l, rfl, rfl, SqL.of g1', rfl, .inl ⟨rfl, _, SqL.of g2'⟩, l, _, 0, 0, .int c, rfl, rfl, g2', by decide, by decide, ?_, rfl, ?_⟩
        · show (if (0 : Int) ≤ 0 && decide ((0 : Int) < ((c :: cs').map V.int).length) then some (0 : Int).toNat else none) = some 0
          exact if_pos (by simp)
        have e1 : upd (upd H' p (.lst [])) l (.lst (cs'.map V.int)) a = some (.lst [.ref l, .int cur', .int ((n : Int) + 1), .int mix']) := by
          rw [upd_ne ne]
          exact g1'
        refine ⟨_, rfl, a, _, 3, .int mix', rfl, rfl, SqL.of e1, rfl, _, _, rfl, rfl, .inr ⟨by decide, by decide⟩, _, rfl, _, _, rfl, rfl, _, _, rfl, rfl, .inl ⟨_, rfl, _, _, rfl, rfl, (by show (2147483647 : Int) ≠ 0; decide), ?_⟩⟩
        refine ⟨_, rfl, a, _, 3, 3, rfl, rfl, e1, rfl, ?_⟩
        refine ⟨_, rfl, _, _, rfl, rfl, ⟨by decide, by decide, by decide⟩, _, _, rfl, rfl, _, rfl, ?_⟩
        have e2 : ∀ z u : Int, upd (upd (upd (upd H' p (.lst [])) l (.lst (cs'.map V.int))) a (.lst [.ref l, .int cur', .int ((n : Int) + 1), .int z])) a (.lst [.ref l, .int u, .int ((n : Int) + 1), .int z]) l = some (.lst (cs'.map V.int)) := fun z u => by
          rw [upd_ne ne.symm, upd_ne ne.symm, upd_same]
        have e3 : ∀ o1 o2 o3 : HO, Sb a l H (upd (upd (upd (upd H' p (.lst [])) l o1) a o2) a o3) := fun o1 o2 o3 b o e x y => by
          rw [upd_ne x, upd_ne x, upd_ne y]
          exact gS' b o e x y
        have m0 : (0 : Int) < 2147483647 := by decide
        refine ite2 (fun _ => ?_) (fun _ => ?_)
        · refine ⟨_, rfl, _, rfl, a, _, 1, 1, rfl, rfl, upd_same, rfl, ?_⟩
          exact ⟨_, _, _, rfl, upd_same, e2 _ _, Int.fmod_nonneg_of_pos _ m0, Int.fmod_lt_of_pos _ m0, e3 _ _ _⟩
        · refine ⟨_, rfl, a, _, 1, 1, rfl, rfl, upd_same, rfl, ?_⟩
          exact ⟨_, _, _, rfl, upd_same, e2 _ _, Int.fmod_nonneg_of_pos _ m0, Int.fmod_lt_of_pos _ m0, e3 _ _ _⟩
end
end Lamp
namespace Lamp
open PySem PySem.Spec PyProof.Rows L2
/-! ### what is looked at behind the top -/
def frL {α : Type} : List Addr → (List Addr → α) → α
  | [], k => k []
  | a :: r, k => HandSHeadRun.frNat a fun a => frL r fun r => k (a :: r)
theorem frL_eq {α : Type} : ∀ (l : List Addr) (k : List Addr → α), frL l k = k l
  | [], _ => rfl
  | a :: r, k => by
    show HandSHeadRun.frNat a (fun a => frL r fun r => k (a :: r)) = _
    rw [HandSHeadRun.frNat_eq, frL_eq r]
def frF {α : Type} : PySem.W.Frag → (PySem.W.Frag → α) → α
  | [], k => k []
  | (a, ⟨c, d, dt, sl⟩) :: r, k => HandSHeadRun.frNat a fun a => frF r fun r => k ((a, ⟨c, d, dt, sl⟩) :: r)
theorem frF_eq {α : Type} : ∀ (l : PySem.W.Frag) (k : PySem.W.Frag → α), frF l k = k l
  | [], _ => rfl
  | (a, ⟨c, d, dt, sl⟩) :: r, k => by
    show HandSHeadRun.frNat a (fun a => frF r fun r => k ((a, ⟨c, d, dt, sl⟩) :: r)) = _
    rw [HandSHeadRun.frNat_eq, frF_eq r]
def nextOf (o : Obj) : List Addr := match o.data with
  | .dict es _ => es.toList.flatMap fun e => He.refV e.val
  | .func fd => He.refV fd.code
  | .cls cd => [cd.ns]
  | _ => []
def next (g : Addr → Option Obj) (l : List Addr) : List Addr := l.flatMap fun a => match g a with
  | some o => nextOf o
  | none => []
def lvls {α : Type} (g : Addr → Option Obj) (k : List Addr → α) : α := frL (next g [mainGlobals]) fun l1 => frL (next g l1) fun l2 => frL (next g l2) fun l3 => frL (next g l3) fun l4 => k (mainGlobals :: (l1 ++ (l2 ++ (l3 ++ l4))))
def asY (g : Addr → Option Obj) : List Addr := lvls g id
theorem lvls_eq {α : Type} (g : Addr → Option Obj) (k : List Addr → α) : lvls g k = k (asY g) := by
  unfold asY lvls
  simp only [frL_eq, id]
/-! ### what is asked of the classes -/
def ctn : List Str := ["__setattr__", "__getattribute__", "__getattr__", "__class__"]
/-- a class over a tail of others, none of these names in its own dict -/
def clsB (K : PySem.W.Frag) (tl : List Value) (fs : List Str) (C : Addr) : Bool := match K.lookup C with
  | some ⟨.type t, _, .cls cd, sl⟩ => decide (t = "type") && ((match sl.toList with
    | [_, _, _, _, some (.builtin n), _] => decide (n = "ValueError.__new__")
    | _ => false) && (cd.hasDict && (!cd.hasDel && (decide (cd.mro = .ref C :: tl) && fs.all fun f => He.eqO (PySem.W.nsIn K cd.ns f) (some none)))))
  | _ => false
/-- what a tail of others gives -/
def tailB (K : PySem.W.Frag) (tl : List Value) (fs : List Str) : Bool := He.eqO (PySem.W.alongIn K "__setattr__" tl) (some (some (.builtin "object.__setattr__"))) && (He.eqO (PySem.W.alongIn K "__getattribute__" tl) (some (some (.builtin "BaseException.__getattribute__"))) &&
  (He.eqO (PySem.W.alongIn K "__getattr__" tl) (some none) && (He.eqO (PySem.W.alongIn K "__class__" tl) (some (some (.builtin "object.__class__"))) && fs.all fun f => He.eqO (PySem.W.alongIn K f tl) (some none))))
def gloB (K : PySem.W.Frag) (x : Str) (C : Addr) : Bool := He.eqO (PySem.W.nsIn K mainGlobals x) (some (some (.ref C)))
def oneB (K : PySem.W.Frag) (CL : Addr) (q : Str × List Str) : Bool := HandSHeadRun.frNat (He.ga K q.1) fun C => gloB K q.1 C && (clsB K (.ref CL :: He.veBase) (q.2 ++ ctn) C && (match q.2 with
  | [] => PySem.W.excIn K C He.veBase "ValueError.__new__"
  | _ => He.eqO (PySem.W.findIn K (.ref C) "__init__") (some (some (.ref (He.ma K C "__init__")))) && PySem.W.isFn K (.ref (He.ma K C "__init__"))))
def ascB : Addr → List Addr → Bool
  | _, [] => true
  | a, b :: r => HandSHeadRun.frNat b fun b => Nat.blt a b && ascB b r
def flds : List Str := ["thing", "index", "line", "name", "question", "paper", "one", "other", "records", "room", "hours"]
def errs0 : List (Str × List Str) := [("BadAsker", ["thing"]), ("BadBegun", ["index"]), ("BadBooks", ["thing"]), ("BadBox", ["thing"]), ("BadBoxed", ["thing"]), ("BadBranch", ["thing"]), ("BadBranches", ["index"]), ("BadCarrying", ["index"]), ("BadCounted", ["thing"]), ("BadDeed", ["thing"]), ("BadDoor", ["thing"]), ("BadDoors", ["index"]), ("BadEnds", ["index"]), ("BadHour", ["thing"])]
def errs1 : List (Str × List Str) := [("BadHours", ["thing"]), ("BadIndex", ["thing"]), ("BadJudge", ["thing"]), ("BadKeeper", ["thing"]), ("BadKnown", ["thing"]), ("BadLeavings", ["thing"]), ("BadLedger", ["thing"]), ("BadLighter", ["thing"]), ("BadLots", ["index"]), ("BadMarks", ["thing"]), ("BadName", ["thing"]), ("BadNames", ["thing"]), ("BadNumber", ["thing"]), ("BadOrder", ["index"])]
def errs2 : List (Str × List Str) := [("BadPasses", ["thing"]), ("BadPrices", ["thing"]), ("BadQuestion", ["thing"]), ("BadRecords", ["index"]), ("BadRim", ["thing"]), ("BadRooms", ["index"]), ("BadSeen", ["thing"]), ("BadSome", ["index"]), ("BadSums", ["index"]), ("BadText", ["line"]), ("BadVector", ["thing"]), ("BadWhen", ["thing"]), ("BadWords", ["index"]), ("CanBeTold", [])]
def errs3 : List (Str × List Str) := [("CommonRoom", ["name"]), ("InUse", ["question"]), ("IsWatched", ["thing"]), ("LampStands", ["name"]), ("NeverSo", []), ("NoCarrying", ["paper"]), ("NoCount", ["thing"]), ("NoDoor", ["one", "other"]), ("NoHouse", ["records"]), ("NoLamp", []), ("NoQuestion", ["thing"]), ("NoRoom", ["thing"]), ("NoSuch", ["thing"]), ("NoTruth", ["thing"])]
def errs4 : List (Str × List Str) := [("NotDark", ["name"]), ("NotFull", ["thing"]), ("NotJoined", ["room"]), ("NotLeaf", ["name"]), ("NotOneDoor", ["thing"]), ("NotPossible", []), ("NotWatched", ["thing"]), ("NothingFits", []), ("SameRoom", ["thing"]), ("TakenRoom", ["name"]), ("TooMany", ["hours"]), ("UnlikeDoors", []), ("UnlikeRooms", ["room"]), ("WouldChange", ["question"])]
def errsA : List (Str × List Str) := errs0 ++ (errs1 ++ errs2)
def errsB : List (Str × List Str) := errs3 ++ errs4
def errs : List (Str × List Str) := errsA ++ errsB
def madeD (x : Str) : He.Defn := (x, none)
def tf : List He.Defn := [madeD "_law_made_a", madeD "_law_made_b", madeD "_law_made_c", madeD "_law_made_d"]
def tabY (K : PySem.W.Frag) (x : Str) : Addr := (He.cT K (madeD x)).2
def exB (K : PySem.W.Frag) : Bool := HandSHeadRun.frNat (He.ga K "LampError") fun CL => gloB K "LampError" CL && (clsB K He.veBase ctn CL && (PySem.W.excIn K CL He.veBase "ValueError.__new__" && (tailB K (.ref CL :: He.veBase) flds && (tailB K He.veBase [] && (errs.all (oneB K CL) &&
  (ascB CL (errs.map fun q => He.ga K q.1) && ascB 0 [tabY K "_law_made_a", tabY K "_law_made_b", tabY K "_law_made_c", tabY K "_law_made_d"]))))))
/-! ### the defs -/
def lawD (x : Str) (i : Nat) : He.DefD := ⟨(x, none), x, x, defArgs (top i), defBody (top i), defScope (top i), [], []⟩
def iniD (x q : Str) (i : Nat) : He.DefD := ⟨(x, some "__init__"), "__init__", q, defArgs (inClass (top i) 0), defBody (inClass (top i) 0), defScope (inClass (top i) 0), [], []⟩
def fnL : List He.DefD := [lawD "_law_start" 73, lawD "_law_draw" 74, lawD "_law_mixed" 75, lawD "_law_made_a" 76, lawD "_law_made_b" 77, lawD "_law_made_c" 78, lawD "_law_made_d" 79, lawD "_law_kinds_a" 80, lawD "_law_kinds_b" 81, lawD "_law_kinds_c" 82, lawD "_law_kinds_d" 83, lawD "_law_kinds" 84, lawD "_law_is_own" 85, lawD "_law_are_these" 86, lawD "law" 87]
def fnI0 : List He.DefD := [iniD "BadAsker" "BadAsker.__init__" 2, iniD "BadBegun" "BadBegun.__init__" 3, iniD "BadBooks" "BadBooks.__init__" 4, iniD "BadBox" "BadBox.__init__" 5, iniD "BadBoxed" "BadBoxed.__init__" 6, iniD "BadBranch" "BadBranch.__init__" 7, iniD "BadBranches" "BadBranches.__init__" 8, iniD "BadCarrying" "BadCarrying.__init__" 9, iniD "BadCounted" "BadCounted.__init__" 10, iniD "BadDeed" "BadDeed.__init__" 11, iniD "BadDoor" "BadDoor.__init__" 12, iniD "BadDoors" "BadDoors.__init__" 13, iniD "BadEnds" "BadEnds.__init__" 14, iniD "BadHour" "BadHour.__init__" 15, iniD "BadHours" "BadHours.__init__" 16, iniD "BadIndex" "BadIndex.__init__" 17]
def fnI1 : List He.DefD := [iniD "BadJudge" "BadJudge.__init__" 18, iniD "BadKeeper" "BadKeeper.__init__" 19, iniD "BadKnown" "BadKnown.__init__" 20, iniD "BadLeavings" "BadLeavings.__init__" 21, iniD "BadLedger" "BadLedger.__init__" 22, iniD "BadLighter" "BadLighter.__init__" 23, iniD "BadLots" "BadLots.__init__" 24, iniD "BadMarks" "BadMarks.__init__" 25, iniD "BadName" "BadName.__init__" 26, iniD "BadNames" "BadNames.__init__" 27, iniD "BadNumber" "BadNumber.__init__" 28, iniD "BadOrder" "BadOrder.__init__" 29, iniD "BadPasses" "BadPasses.__init__" 30, iniD "BadPrices" "BadPrices.__init__" 31, iniD "BadQuestion" "BadQuestion.__init__" 32, iniD "BadRecords" "BadRecords.__init__" 33]
def fnI2 : List He.DefD := [iniD "BadRim" "BadRim.__init__" 34, iniD "BadRooms" "BadRooms.__init__" 35, iniD "BadSeen" "BadSeen.__init__" 36, iniD "BadSome" "BadSome.__init__" 37, iniD "BadSums" "BadSums.__init__" 38, iniD "BadText" "BadText.__init__" 39, iniD "BadVector" "BadVector.__init__" 40, iniD "BadWhen" "BadWhen.__init__" 41, iniD "BadWords" "BadWords.__init__" 42, iniD "CommonRoom" "CommonRoom.__init__" 44, iniD "InUse" "InUse.__init__" 45, iniD "IsWatched" "IsWatched.__init__" 46, iniD "LampStands" "LampStands.__init__" 47, iniD "NoCarrying" "NoCarrying.__init__" 49, iniD "NoCount" "NoCount.__init__" 50, iniD "NoDoor" "NoDoor.__init__" 51]
def fnI3 : List He.DefD := [iniD "NoHouse" "NoHouse.__init__" 52, iniD "NoQuestion" "NoQuestion.__init__" 54, iniD "NoRoom" "NoRoom.__init__" 55, iniD "NoSuch" "NoSuch.__init__" 56, iniD "NoTruth" "NoTruth.__init__" 57, iniD "NotDark" "NotDark.__init__" 58, iniD "NotFull" "NotFull.__init__" 59, iniD "NotJoined" "NotJoined.__init__" 60, iniD "NotLeaf" "NotLeaf.__init__" 61, iniD "NotOneDoor" "NotOneDoor.__init__" 62, iniD "NotWatched" "NotWatched.__init__" 64, iniD "SameRoom" "SameRoom.__init__" 66, iniD "TakenRoom" "TakenRoom.__init__" 67, iniD "TooMany" "TooMany.__init__" 68, iniD "UnlikeRooms" "UnlikeRooms.__init__" 70, iniD "WouldChange" "WouldChange.__init__" 71]
def fnA : List He.DefD := fnL ++ (fnI0 ++ fnI1)
def fnB : List He.DefD := fnI2 ++ fnI3
def fn : List He.DefD := fnA ++ fnB
def faG : List He.Fa := [.glo "_law_start", .glo "_law_draw", .glo "_law_mixed", .glo "_law_made_a", .glo "_law_made_b", .glo "_law_made_c", .glo "_law_made_d", .glo "_law_kinds_a", .glo "_law_kinds_b", .glo "_law_kinds_c", .glo "_law_kinds_d", .glo "_law_kinds", .glo "_law_is_own", .glo "_law_are_these", .glo "law"]
def faF : List He.Fa := [.free "int", .free "list", .free "len", .free "range", .free "isinstance", .free "repr", .free "LookupError", .free "ValueError", .free "enumerate"]
def fa : List He.Fa := faG ++ faF
def nms0 : List Str := ["LampError", "BadAsker", "BadBegun", "BadBooks", "BadBox", "BadBoxed", "BadBranch", "BadBranches", "BadCarrying", "BadCounted", "BadDeed", "BadDoor", "BadDoors", "BadEnds", "BadHour", "BadHours"]
def nms1 : List Str := ["BadIndex", "BadJudge", "BadKeeper", "BadKnown", "BadLeavings", "BadLedger", "BadLighter", "BadLots", "BadMarks", "BadName", "BadNames", "BadNumber", "BadOrder", "BadPasses", "BadPrices", "BadQuestion"]
def nms2 : List Str := ["BadRecords", "BadRim", "BadRooms", "BadSeen", "BadSome", "BadSums", "BadText", "BadVector", "BadWhen", "BadWords", "CanBeTold", "CommonRoom", "InUse", "IsWatched", "LampStands", "NeverSo"]
def nms3 : List Str := ["NoCarrying", "NoCount", "NoDoor", "NoHouse", "NoLamp", "NoQuestion", "NoRoom", "NoSuch", "NoTruth", "NotDark", "NotFull", "NotJoined", "NotLeaf", "NotOneDoor", "NotPossible", "NotWatched"]
def nms4 : List Str := ["NothingFits", "SameRoom", "TakenRoom", "TooMany", "UnlikeDoors", "UnlikeRooms", "WouldChange", "_law_start", "_law_draw", "_law_mixed", "_law_made_a", "_law_made_b", "_law_made_c", "_law_made_d", "_law_kinds_a", "_law_kinds_b"]
def nms5 : List Str := ["_law_kinds_c", "_law_kinds_d", "_law_kinds", "_law_is_own", "_law_are_these"]
def nms : List Str := (((((nms0 ++ nms1) ++ nms2) ++ nms3) ++ nms4) ++ nms5)
/-! ### the hook -/
def obY (fa : List He.Fa) (fn : List He.DefD) (tf : List He.Defn) (ex : PySem.W.Frag → Bool) (g : Addr → Option Obj) : He.AlX := lvls g fun l => frF (He.frT g l) fun K => (He.obsT fa fn [] K, ex K && He.tabsB g tf K)
theorem saysY {fa : List He.Fa} {fn : List He.DefD} {tf : List He.Defn} {ex : PySem.W.Frag → Bool} {w : World} {h : Heap} (e : obY fa fn tf ex h.get? = He.valX fn [] w) : He.SaysX fa fn [] tf ex w h (He.frT h.get? (asY h.get?)) := by
  unfold obY at e
  rw [lvls_eq, frF_eq] at e
  obtain ⟨e1, e2⟩ := Prod.mk.inj e
  obtain ⟨h1, h2⟩ := He.ba e2
  have z : ∀ p ∈ tf, PySem.W.codeHdIn (He.frT h.get? (asY h.get?)) (He.cT (He.frT h.get? (asY h.get?)) p).1 (He.cT (He.frT h.get? (asY h.get?)) p).2 = true ∧ (∃ o, h.get? (He.cT (He.frT h.get? (asY h.get?)) p).2 = some o ∧ He.emptyTab o = true) := by
    intro p hp
    have h3 := List.all_eq_true.mp h2 p hp
    obtain ⟨a, b⟩ := He.ba h3
    refine ⟨a, ?_⟩
    split at b
    · rename_i o q
      exact ⟨o, q, b⟩
    · cases b
  constructor
  · exact e1
  · exact h1
  · intro p hp
    exact (z p hp).1
  · intro p hp
    obtain ⟨o, q, t⟩ := (z p hp).2
    exact He.frT_none q t
  · intro p hp
    obtain ⟨o, q, t⟩ := (z p hp).2
    rw [q, He.emptyTab_eq t]
def hookY (fa : List He.Fa) (fn : List He.DefD) (tf : List He.Defn) (ex : PySem.W.Frag → Bool) : PySem.W.Hook where
  α := He.AlX
  obs := fun s => obY fa fn tf ex s.heap.get?
  val := fun w => He.valX fn [] w
  says := fun w h => ∃ K : PySem.W.Frag, K.In h ∧ He.SaysX fa fn [] tf ex w h K
  of := fun _ _ e => ⟨_, He.frT_in, saysY e⟩
  keeps := by
    rintro _ _ _ ⟨K, hK, c⟩ k
    exact ⟨K, hK.keeps k, c.t, c.more, c.hd, c.out, fun p hp => k _ _ (c.empty p hp)⟩
abbrev R : PySem.W.OpenRow := PySem.W.OpenLaw.row PySem.Challenge.rw_lamplight_k00_errors_made
abbrev hk : PySem.W.Hook := hookY fa fn tf exB
def ob (s : PySem.W.SharedT) : He.AlX := obY fa fn tf exB (HandSHeadRun.getT s)
theorem ob_eq (s : PySem.W.SharedT) : ob s = hk.obs s.abs := by
  have e : HandSHeadRun.getT s = s.abs.heap.get? := funext (HandSHeadRun.getT_eq s)
  unfold ob
  rw [e]
  rfl

/-! ### the looks, one by one -/
def lookK {α : Type} (g : Addr → Option Obj) (f : PySem.W.Frag → α) : α := lvls g fun l => frF (He.frT g l) f
theorem lookK_eq {α : Type} (g : Addr → Option Obj) (f : PySem.W.Frag → α) : lookK g f = f (He.frT g (asY g)) := by
  unfold lookK
  rw [lvls_eq, frF_eq]
def exP (K : PySem.W.Frag) : Bool := HandSHeadRun.frNat (He.ga K "LampError") fun CL => gloB K "LampError" CL && (clsB K He.veBase ctn CL && (PySem.W.excIn K CL He.veBase "ValueError.__new__" && (tailB K (.ref CL :: He.veBase) flds && (tailB K He.veBase [] && errsA.all (oneB K CL)))))
def exQ (K : PySem.W.Frag) : Bool := HandSHeadRun.frNat (He.ga K "LampError") fun CL => errsB.all (oneB K CL) && (ascB CL (errs.map fun q => He.ga K q.1) && ascB 0 [tabY K "_law_made_a", tabY K "_law_made_b", tabY K "_law_made_c", tabY K "_law_made_d"])
theorem exB_of {K : PySem.W.Frag} (h1 : exP K = true) (h2 : exQ K = true) : exB K = true := by
  unfold exP at h1
  unfold exQ at h2
  rw [HandSHeadRun.frNat_eq] at h1 h2
  obtain ⟨a1, h1⟩ := He.ba h1
  obtain ⟨a2, h1⟩ := He.ba h1
  obtain ⟨a3, h1⟩ := He.ba h1
  obtain ⟨a4, h1⟩ := He.ba h1
  obtain ⟨a5, a6⟩ := He.ba h1
  obtain ⟨b1, h2⟩ := He.ba h2
  obtain ⟨b2, b3⟩ := He.ba h2
  unfold exB errs
  rw [HandSHeadRun.frNat_eq, List.all_append, a1, a2, a3, a4, a5, a6, b1]
  unfold errs at b2
  rw [b2, b3]
  rfl
abbrev qV : Program := PySem.W.view R.prog [87]
noncomputable def endW (w : World) (os : OsState) : Option PySem.W.SharedT := HandSHeadRun.endF (HandSHeadRun.stepQ (HandSHeadRun.denQ HandSHeadRun.tabQ) R.prog w) 40000 R.prog w os
end Lamp
namespace Lamp
open PySem PySem.W PySem.Spec PySem.Calls PyProof.Rows L2
theorem run5a (w : World) (os : OsState) : (endW w os).map (fun s => lookK (HandSHeadRun.getT s) fun K => ((fa.all fun f => f.ok K) && fnL.all fun d => d.ok K, fnL.map fun d => He.fnW K d.at_)) = some (true, fnL.map He.DefD.val) := by
  kernel_rfl
end Lamp
namespace Lamp
open PySem PySem.W PySem.Spec PySem.Calls PyProof.Rows L2
theorem run5b (w : World) (os : OsState) : (endW w os).map (fun s => lookK (HandSHeadRun.getT s) fun K => ((fnI0 ++ fnI1).all fun d => d.ok K, (fnI0 ++ fnI1).map fun d => He.fnW K d.at_)) = some (true, (fnI0 ++ fnI1).map He.DefD.val) := by
  kernel_rfl
end Lamp
namespace Lamp
open PySem PySem.W PySem.Spec PySem.Calls PyProof.Rows L2
theorem run3 (w : World) (os : OsState) : (endW w os).map (fun s => lookK (HandSHeadRun.getT s) exP) = some true := by
  kernel_rfl
end Lamp
namespace Lamp
open PySem PySem.W PySem.Spec PySem.Calls PyProof.Rows L2
theorem run4 (w : World) (os : OsState) : (endW w os).map (fun s => lookK (HandSHeadRun.getT s) fun K => exQ K && He.tabsB (HandSHeadRun.getT s) tf K) = some true := by
  kernel_rfl
end Lamp
namespace Lamp
open PySem PySem.W PySem.Spec PySem.Calls PyProof.Rows L2
theorem run6a (w : World) (os : OsState) : (endW w os).map (fun s => lookK (HandSHeadRun.getT s) fun K => (fnI2.all fun d => d.ok K, fnI2.map fun d => He.fnW K d.at_)) = some (true, fnI2.map He.DefD.val) := by
  kernel_rfl
end Lamp
namespace Lamp
open PySem PySem.W PySem.Spec PySem.Calls PyProof.Rows L2
theorem run6b (w : World) (os : OsState) : (endW w os).map (fun s => lookK (HandSHeadRun.getT s) fun K => (fnI3.all fun d => d.ok K, fnI3.map fun d => He.fnW K d.at_)) = some (true, fnI3.map He.DefD.val) := by
  kernel_rfl
end Lamp
namespace Lamp
open PySem PySem.W PySem.Spec PySem.Calls PyProof.Rows L2
theorem run2 (w : World) (os : OsState) : (endW w os).map (fun s => HandSHeadRun.seenQ qV nms (importedModules R.prog.main.body) (fun s => PySem.W.xlAt qV [] s && PySem.W.recOk R.toRowW.records s) s.abs) = some (PySem.W.openGood qV nms) := by
  kernel_rfl
end Lamp
namespace Lamp
open PySem PySem.W PySem.Spec PySem.Calls PyProof.Rows L2
theorem run1 (w : World) (os : OsState) : (endW w os).map (fun s => HandSHeadRun.looksF R.prog (PySem.W.boot_heap w.params) s.abs) = some true := by
  kernel_rfl
end Lamp
namespace Lamp
open PySem PySem.W PySem.Spec PySem.Calls PyProof.Rows L2
theorem run (w : World) : HandSHeadRun.RunEq R qV hk ob 40000 nms w := by
  intro os
  obtain ⟨s, hs, h1⟩ := Option.map_eq_some_iff.mp (run1 w os)
  have got : ∀ {α : Type} {f : PySem.W.SharedT → α} {v : α}, (endW w os).map f = some v → f s = v := fun {α f v} z => by
    rw [hs] at z
    exact Option.some.inj z
  have h2 : HandSHeadRun.seenQ qV nms (importedModules R.prog.main.body) (fun s => PySem.W.xlAt qV [] s && PySem.W.recOk R.toRowW.records s) s.abs = PySem.W.openGood qV nms := got (run2 w os)
  have h3 : lookK (HandSHeadRun.getT s) exP = true := got (run3 w os)
  have h4 : lookK (HandSHeadRun.getT s) (fun K => exQ K && He.tabsB (HandSHeadRun.getT s) tf K) = true := got (run4 w os)
  have h5a : lookK (HandSHeadRun.getT s) (fun K => ((fa.all fun f => f.ok K) && fnL.all fun d => d.ok K, fnL.map fun d => He.fnW K d.at_)) = (true, fnL.map He.DefD.val) := got (run5a w os)
  have h5b : lookK (HandSHeadRun.getT s) (fun K => ((fnI0 ++ fnI1).all fun d => d.ok K, (fnI0 ++ fnI1).map fun d => He.fnW K d.at_)) = (true, (fnI0 ++ fnI1).map He.DefD.val) := got (run5b w os)
  have h6a : lookK (HandSHeadRun.getT s) (fun K => (fnI2.all fun d => d.ok K, fnI2.map fun d => He.fnW K d.at_)) = (true, fnI2.map He.DefD.val) := got (run6a w os)
  have h6b : lookK (HandSHeadRun.getT s) (fun K => (fnI3.all fun d => d.ok K, fnI3.map fun d => He.fnW K d.at_)) = (true, fnI3.map He.DefD.val) := got (run6b w os)
  rw [lookK_eq] at h3 h4 h5a h5b h6a h6b
  obtain ⟨h7, h8⟩ := He.ba h4
  obtain ⟨h9a, h10a⟩ := Prod.mk.inj h5a
  obtain ⟨h9b, h10b⟩ := Prod.mk.inj h5b
  obtain ⟨h13a, h14a⟩ := He.ba h9a
  have h9 : ((fa.all fun f => f.ok (He.frT (HandSHeadRun.getT s) (asY (HandSHeadRun.getT s)))) && fnA.all fun d => d.ok (He.frT (HandSHeadRun.getT s) (asY (HandSHeadRun.getT s)))) = true := by
    unfold fnA
    rw [List.all_append, h13a, h14a, h9b]
    rfl
  have h10 : (fnA.map fun d => He.fnW (He.frT (HandSHeadRun.getT s) (asY (HandSHeadRun.getT s))) d.at_) = fnA.map He.DefD.val := by
    unfold fnA
    rw [List.map_append, h10a, h10b]
    exact List.map_append.symm
  obtain ⟨h11a, h12a⟩ := Prod.mk.inj h6a
  obtain ⟨h11b, h12b⟩ := Prod.mk.inj h6b
  have h11 : (fnB.all fun d => d.ok (He.frT (HandSHeadRun.getT s) (asY (HandSHeadRun.getT s)))) = true := by
    unfold fnB
    rw [List.all_append, h11a, h11b]
    rfl
  have h12 : (fnB.map fun d => He.fnW (He.frT (HandSHeadRun.getT s) (asY (HandSHeadRun.getT s))) d.at_) = fnB.map He.DefD.val := by
    unfold fnB
    rw [List.map_append, h12a, h12b]
    exact List.map_append.symm
  obtain ⟨h13, h14⟩ := He.ba h9
  have eo : ob s = hk.val w := by
    show obY fa fn tf exB (HandSHeadRun.getT s) = He.valX fn [] w
    unfold obY
    rw [lvls_eq, frF_eq, exB_of h3 h7, h8]
    have ed : He.obsD fa fn (He.frT (HandSHeadRun.getT s) (asY (HandSHeadRun.getT s))) = He.valD fn := by
      unfold He.obsD He.valD fn
      rw [List.all_append, List.map_append, List.map_append, h13, h14, h11, h10, h12]
      rfl
    unfold He.obsT He.valX He.valT
    rw [ed]
    rfl
  show (endW w os).map _ = _
  rw [hs]
  show some (HandSHeadRun.looksF R.prog (PySem.W.boot_heap w.params) s.abs, HandSHeadRun.seenQ qV nms (importedModules R.prog.main.body) (fun s => PySem.W.xlAt qV [] s && PySem.W.recOk R.toRowW.records s) s.abs, ob s) = _
  rw [h1, h2, eo]
  rfl
end Lamp
namespace Lamp
open PySem L2
def spMixed (K : PySem.W.Frag) : Sp := fun vs H Q _ => ∃ (a l p : Addr) (n : Nat) (xs : List V), vs = [.ref a, .ref p] ∧ Spr H a l n ∧ (SqL K H p xs ∨ SqT K H p xs) ∧ n + xs.length ≤ 1000000 ∧ xs.length < 100000 ∧
  ∀ H' q ys, Sb a l H H' → Spr H' a l (n + xs.length) → H q = none → H' q = some (.lst ys) → ys.Perm xs → Q (.ref q) H'
theorem perm_eraseIdx {α : Type} : ∀ {l : List α} {i : Nat} {x : α}, l[i]? = some x → (x :: l.eraseIdx i).Perm l
  | [], i, x, h => by simp at h
  | a :: l, 0, x, h => by
    have e : a = x := Option.some.inj h
    subst e
    exact .refl _
  | a :: l, i + 1, x, h => by
    have ih := perm_eraseIdx (l := l) (i := i) (x := x) h
    show (x :: a :: l.eraseIdx i).Perm (a :: l)
    exact (List.Perm.swap a x _).trans (ih.cons a)
/-- len(x), x a list or a tuple -/
def rLenS (K : PySem.W.Frag) : List V → Hp → VK → Prop := fun xs H Q => ∃ p ys, xs = [.ref p] ∧ (SqL K H p ys ∨ SqT K H p ys) ∧ Q (.int ys.length) H
/-- left.pop(_law_draw(stream, len(left))) -/
def tMixE (K : PySem.W.Frag) : TE := tBM K "list" rPopAt (tVar 2) (tCons (tCall spDraw [] E0 (tCons (tVar 0) (tCons (tCB (rLenS K) (tCons (tVar 2) tNil)) tNil))) tNil)
section
variable {P : Program} {w : World} {K : PySem.W.Frag} {mg : Str → Option Value} {base : Heap}
theorem scM : FnScope ["stream", "some", "left", "k"] ["stream", "some"] (defScope sMixed) := ⟨rfl, rfl, rfl, by decide +kernel, rfl, by decide +kernel, by decide +kernel⟩
theorem ok_mixed {f fD : Addr} {fd fdD : FuncData} (F : Fun K "_law_mixed" "_law_mixed" sMixed f fd) (T : TxtS mg) (GD : FnOk P w K mg base CX0 1 fD fdD ["stream", "many"] spDraw) (mD : mg "_law_draw" = some (.ref fD)) (kD : PySem.W.keepIn K (.ref fD) = true) (bD : Binds K fdD ["stream", "many"] []) :
    FnOk P w K mg base CX0 2 f fd ["stream", "some"] (spMixed K) := by
  refine F.ok scM (fun vs H Q E h => ?_) (fun cdv A outer s H vs Q E hr h => ?_)
  · obtain ⟨a, l, p, n, xs, rfl, _⟩ := h
    rfl
  · obtain ⟨a, l, p, n, xs, rfl, hS, hp, hn, hx, k⟩ := h
    refine ⟨_, pss_cons (ps_set (i := 2) scM.nd rfl (Or.inr rfl) (pe_callTy call_list_of (by rfl) T.list (by decide +kernel) (pa_cons (pv 1) pa_nil)))
      (pss_one (ps_ret (pe_lc (te := tMixE K) (own := [("k", 3)]) (g := gName 3) (tt := tYes) rfl scM.nd (pi_range1 rfl T.range (pa_cons (pe_callB call_len_seq (by rfl) T.len PySem.boot_len (pa_cons (pv 2) pa_nil)) pa_nil)) (blkOk_by (N := ["stream", "some", "left", "k"]) (sc := defScope sMixed) (by decide +kernel)) (fun _ _ _ _ _ => pg_name (i := 3) scM.nd rfl (Or.inl rfl)) (fun _ _ _ _ _ => pts_nil)
        (fun _ _ _ _ _ => by exact (pe_bm PySem.F.plainAttrs_list PySem.F.slot_list_pop PySem.F.type_list_pop mt_popAt (pv 2) (pa_cons (pe_call GD (hr.mono (by decide)) (by rfl) mD kD bD .nil pass0 (pa_cons (pv 0) (pa_cons (pe_callB call_len_seq (by rfl) T.len PySem.boot_len (pa_cons (pv 2) pa_nil)) pa_nil))) pa_nil)))))), ?_⟩
    refine ⟨_, rfl, p, _, rfl, hp, fun q hq => ?_⟩
    have qa := hS.na hq
    have ql := hS.nl hq
    refine ⟨_, rfl, q, _, rfl, .inl (SqL.of upd_same), (xs.length : Int), rfl, by omega, by omega, fun D hD => ?_⟩
    have nqD : q ≠ D := fun z => by
      rw [← z, upd_same] at hD
      cases hD
    have hD0 : H D = none := by
      rw [upd_ne nqD.symm] at hD
      exact hD
    have Da := hS.na hD0
    have Dl := hS.nl hD0
    refine lc_range (lo := 0) (n := xs.length) (fun i H' => ∃ (ys rest : List V), H' D = some (.lst ys) ∧ H' q = some (.lst rest) ∧ (ys ++ rest).Perm xs ∧ ys.length = i ∧ Spr H' a l (n + i) ∧ Sb a l H H') ?_ ?_ ?_
    · refine ⟨[], xs, upd_same, by rw [upd_ne nqD, upd_same], List.Perm.refl _, rfl, (hS.updN qa ql).updN Da Dl, fun b o e x y => ?_⟩
      rw [upd_ne (ne_of_none e hD0), upd_ne (ne_of_none e hq)]
      exact e
    · rintro i H' hi ⟨ys, rest, g1, g2, g3, g4, g5, g6⟩
      have hlen : ys.length + rest.length = xs.length := by
        rw [← List.length_append]
        exact g3.length_eq
      refine ⟨rfl, ⟨_, rfl, .inl ⟨rfl, _, SqL.of g2⟩, _, rfl, _, rfl, q, _, rfl, .inl (SqL.of g2), a, l, n + i, (rest.length : Int), rfl, g5, by omega, by omega, by omega, fun H2 d sb s2 d0 d1 => ?_⟩⟩
      have h2 := sb q _ g2 qa ql
      have h1 := sb D _ g1 Da Dl
      have hd : d.toNat < rest.length := by omega
      obtain ⟨y, hy⟩ : ∃ y, rest[d.toNat]? = some y := ⟨rest[d.toNat], List.getElem?_eq_getElem hd⟩
      refine ⟨q, rest, d, d.toNat, y, rfl, rfl, h2, by omega, by omega, ?_, hy, ?_⟩
      · have e1 : (if d < 0 then d + (rest.length : Int) else d) = d := if_neg (by omega)
        unfold seqIndex?
        simp only [e1]
        rw [if_pos (by simp [d0]; omega)]
      refine ⟨ys, by rw [upd_ne nqD.symm]; exact h1, ?_, ys ++ [y], rest.eraseIdx d.toNat, upd_same, ?_, ?_, ?_, ?_, ?_⟩
      · exact Nat.lt_of_lt_of_le (show ys.length < 100000 by omega) (by decide)
      · rw [upd_ne nqD, upd_same]
      · refine List.Perm.trans ?_ g3
        rw [List.append_assoc]
        refine List.Perm.append_left ys ?_
        have e := perm_eraseIdx hy
        exact e
      · rw [List.length_append, g4]
        rfl
      · exact (s2.updN qa ql).updN Da Dl
      · intro b o e x v
        rw [upd_ne (ne_of_none e hD0), upd_ne (ne_of_none e hq)]
        exact sb b o (g6 b o e x v) x v
    · rintro H' ⟨ys, rest, g1, g2, g3, g4, g5, g6⟩
      have hlen : ys.length + rest.length = xs.length := by
        rw [← List.length_append]
        exact g3.length_eq
      have e0 : rest = [] := List.eq_nil_of_length_eq_zero (by omega)
      rw [e0, List.append_nil] at g3
      exact k H' D ys g6 g5 hD0 g1 g3
end
end Lamp
namespace Lamp
open PySem PySem.Spec PyProof.Rows L2
/-! ### exceptions as values -/
/-- what is asked of an error class of the text, at C -/
structure ErrC (K : PySem.W.Frag) (C : Addr) : Prop where
  ox : OexC K C
  ga : PySem.W.findIn K (.ref C) "__getattribute__" = some (some (.builtin "BaseException.__getattribute__"))
  gg : PySem.W.findIn K (.ref C) "__getattr__" = some none
  hd : PySem.W.hasDictIn K C = true
  cc : PySem.W.findIn K (.ref C) "__class__" = some (some (.builtin "object.__class__"))
  mr : PySem.W.mroIn K C (.type "object") = some true
/-- what is asked of the built-in descriptor -/
structure DesC (K : PySem.W.Frag) : Prop where
  hn : PySem.W.specialIn K (.builtin "object.__class__") "__get__" = some (some (.builtin "getset_descriptor.__get__"))
  ht : PySem.W.takesIn K (.builtin "object.__class__") = some true
/-- an error of the class at C stands at e, its own dict (none, or with these fields) -/
def ErrAt (H : Hp) (e C : Addr) : Option (List (Str × V)) → Prop
  | none => H e = some (exo e C none)
  | some fs => ∃ d, d ≠ e ∧ H e = some (exo e C (some d)) ∧ H d = some (exd d fs)
theorem ErrAt.keep {H H' : Hp} {e C : Addr} {fs : Option (List (Str × V))} (h : ErrAt H e C fs) (k : ∀ b o, H b = some o → (∀ xs, o ≠ .lst xs) → H' b = some o) : ErrAt H' e C fs := by
  have x1 : ∀ (d : Option Addr) (xs : List V), exo e C d ≠ .lst xs := fun d xs z => by
    unfold exo at z
    cases z
  cases fs with
  | none => exact k _ _ h (x1 _)
  | some fs =>
    obtain ⟨d, h0, h1, h2⟩ := h
    exact ⟨d, h0, k _ _ h1 (x1 _), k _ _ h2 fun xs z => by
      unfold exd at z
      cases z⟩
section
variable {X : Cx} {pins : List (Addr × Obj)} {σ : L2.St} {H : Hp} {s : Shared}
theorem err_inst {e C : Addr} {fs : Option (List (Str × V))} (I : Inv X pins σ H s) (h : ErrAt H e C fs) : ∃ ox od, PySem.W.InstAt s.heap e ox C od := by
  cases fs with
  | none =>
    obtain ⟨t, q⟩ := exo_at I.hok h
    exact ⟨_, none, q, rfl, rfl, True.intro⟩
  | some fs =>
    obtain ⟨d, _, h1, h2⟩ := h
    obtain ⟨t, q⟩ := exo_at I.hok h1
    obtain ⟨mA, hn, _⟩ := exd_at I.hok h2
    obtain ⟨o, _, _, ho, _⟩ := hn
    exact ⟨_, some o, q, rfl, rfl, ho⟩
/-- isinstance(e, c), e an error of the text -/
def rIsErr (K : PySem.W.Frag) : List V → Hp → VK → Prop := fun xs H Q => ∃ (e C : Addr) (fs : Option (List (Str × V))) (c : V) (cv : Value) (b : Bool), xs = [.ref e, c] ∧ ErrC K C ∧ ErrAt H e C fs ∧ ClsV c cv ∧ PySem.W.kitOne K (.ref C) cv = some b ∧ Q (.bl b) H
theorem call_isErr (D : DesC X.K) : CallR X (.builtin "isinstance") (rIsErr X.K) := by
  intro pins s σ H xs us Q I r h
  obtain ⟨e, C, fs, c, cv, b, rfl, T, he, k, hb, q⟩ := h
  obtain ⟨u1, u2, rfl, r1, r2⟩ := vals2 r
  have e2 := k.eq r2
  subst e2
  obtain rfl : u1 = Value.ref e := r1
  obtain ⟨ox, od, J⟩ := err_inst I he
  obtain ⟨cd, hc, _⟩ := PySem.W.any_some T.hd
  have Z := PySem.W.kitx_exc (K := X.K) (x := e) (C := C) (ox := ox) (od := od) (gt := none) (by rw [hc]; rfl) T.ga T.gg T.ox.exC T.cc D.hn D.ht T.mr
  exact PySem.W.kia_one Z I.kIn J hb (fun z => nomatch z) fun tk => ⟨.bl b, H, I.tok tk, rfl, q⟩

/-- C(e, ..) of an error class with an __init__ of its own that keeps sp -/
def tErr (C : Addr) (sp : Sp) (ta : TA) : TE := fun σ H Q => ta σ H fun vs H1 =>
  ∀ a, H1 a = none → sp (.ref a :: vs) (upd H1 a (exo a C none)) (fun v H2 => v = .non ∧ Q (.ref a) H2) fun _ _ _ => False
/-- the own __init__, run on a new error -/
theorem run_err {C fI : Addr} {k : Nat} {fd : FuncData} {ps : List Str} {sp : Sp} {us : List Value} {vs : List V} {Q : VK} (T : OexC X.K C)
    (iC : PySem.W.findIn X.K (.ref C) "__init__" = some (some (.ref fI))) (tI : PySem.W.typeIn X.K (.ref fI) = some (.type "function"))
    (G : FnOk X.prog X.w X.K X.mg X.base CX0 k fI fd ps sp) (hr : Room (k + 1) X.A) (hb : L2.Binds X.K fd ps []) (I : Inv X pins σ H s) (r : Vals vs us) (hz : vs.length ≤ 1000)
    (h : ∀ a, H a = none → sp (.ref a :: vs) (upd H a (exo a C none)) (fun v H2 => v = .non ∧ Q (.ref a) H2) fun _ _ _ => False) :
    wpAny (model X.prog X.w) X.A (call (.ref C) us) (EP X pins σ Q) X.xe s := by
  obtain ⟨_, _, _, _, bm, _, _, _, _, _, _, _, _, _, _, cls, hbm⟩ := T.cls
  obtain ⟨hp, g, dr, tk, os⟩ := s
  have up : hp.objs.size ≤ hp.objs.size + 1 := Nat.le_succ _
  have new := I.hok.fresh up
  have got := h _ new
  have kk : ∀ b o, hp.get? b = some o → ((hp.push (PySem.W.kdv_tup us)).push (PySem.HandSPX.excO C hp.objs.size)).get? b = some o :=
    fun _ _ e => Heap.get?_push_of_some _ (Heap.get?_push_of_some _ e)
  have self : ((hp.push (PySem.W.kdv_tup us)).push (PySem.HandSPX.excO C hp.objs.size)).get? (hp.objs.size + 1) = some (PySem.HandSPX.excO C hp.objs.size) := by
    heap_get
  have J := I.laid (t' := tk) kk up (exo_ok (P := X.prog) (w := X.w) (H := upd H (hp.objs.size + 1) (exo (hp.objs.size + 1) C none)) self)
  have r2 : Vals (V.ref (hp.objs.size + 1) :: vs) (Value.ref (hp.objs.size + 1) :: us) := .cons rfl r
  have len : (Value.ref (hp.objs.size + 1) :: us).length = ps.length := r2.length.symm.trans (G.len _ _ _ _ got)
  have short : us.length ≤ sizeLine := by
    rw [← r.length, sizeLine_eq]
    omega
  have bind := hb _ (Value.ref (hp.objs.size + 1) :: us) J.kIn (by rw [List.append_nil]; exact len)
  rw [List.append_nil] at bind
  have run := G.run _ X.stack _ _ ⟨Value.ref (hp.objs.size + 1) :: us, []⟩ (Value.ref (hp.objs.size + 1) :: us) _ _ (fun _ _ _ => False) (hr.make C us []) (J.env0.make C us []) bind r2 got
  refine wpAny_call (PySem.HandSPX.call_own F.excBase_ValueError (fun Y => PySem.HandSPX.refsVE_contains Y bm hbm) (I.kIn _ _ cls)
    (PySem.W.looks_findIn I.kIn iC) (fun z => PySem.W.bind_fn I.kIn z tI) short (codeAny_mono run fun q s' hq => ?_))
  rcases q with e | fl
  · exact (show False from hq).elim
  · cases fl with
    | ret u =>
      obtain ⟨v, H2, I3, rv, ev, q3⟩ := J.after hq
      subst ev
      exact ⟨rv, V.ref (hp.objs.size + 1), H2, I3, rfl, q3⟩
    | _ => exact False.elim hq
theorem pe_err {C fI : Addr} {k : Nat} {fd : FuncData} {ps : List Str} {sp : Sp} {x : Str} {e : Expr} {es : List Expr} {ta : TA} {p pos : Pos} (T : OexC X.K C)
    (iC : PySem.W.findIn X.K (.ref C) "__init__" = some (some (.ref fI))) (tI : PySem.W.typeIn X.K (.ref fI) = some (.type "function"))
    (G : FnOk X.prog X.w X.K X.mg X.base CX0 k fI fd ps sp) (hr : Room (k + 1) X.A) (hb : L2.Binds X.K fd ps []) (hg : Gl X x) (hm : X.mg x = some (.ref C)) (ha : PA X (e :: es) ta) (hps : ps.length ≤ 1000)
    (hdb : (x == ("__debug__" : Str)) = false := by decide) (he : starEach (e :: es) X.env = (false, eval e X.env) :: starEach es X.env := by rfl)
    (hpl : (backTo pos (starEach es X.env)).any (·.1) = false := by rfl) : PE X (.Call (.Name x p) (e :: es) [] pos) (tErr C sp ta) := by
  refine ⟨fun pins s σ H Q I h => wpAny_Call_Name_kw (ld_glob I hg hm ?_ hdb)⟩
  refine PySem.W.callWith_K (h₀ := X.base) I.ok.mod.kin T.kC (thn (ha.run pos pins s σ H _ I h) fun us s1 ⟨vs, H1, I1, r1, q1⟩ => ⟨I1.kIn, ?_⟩) he hpl
  refine run_err T iC tI G hr hb I1 r1 ?_ q1
  have z := G.len _ _ _ _ (q1 _ (I1.hok.fresh (Nat.le_refl _)))
  rw [List.length_cons] at z
  omega
end
end Lamp
namespace PySem
namespace LampKw
open PySem.W PySem.Calls PyProof.Rows PySem.HandSPX Builtin Builtin.ObjectAttr
section
variable {M : Model} {A : Around} {E : Value → Shared → Prop} {h : Heap} {g : Array GenState} {d : Drawn} {t : Nat} {os : OsState} {kw : List (Str × Value)}
variable {nm q : Str} {C N : Addr} {bs bm bmB : List Value} {hdct : Bool} {sn : List Str} {sub : List Value} {ab : Bool} {col : Option Bool} {dd : Option Addr} {k0 k1 k2 k3 k5 : Option Value} {B newId initId : String}
theorem check_new (F : ExcBaseFacts B newId initId bmB) (hT : ∀ X : String, bm.contains (.type X) = bmB.contains (.type X)) {Q : Unit → Shared → Prop}
    (hC : h.get? C = some (excClassObj nm q C N bs bm hdct sn sub ab col dd k0 k1 k2 k3 k5 newId)) (hq : Q () ⟨h, g, d, t, os⟩) :
    wpAny M A (checkBuiltinCall newId ⟨[.ref C], kw⟩) Q E ⟨h, g, d, t, os⟩ := by
  have isB : (Value.ref C :: bm).contains (.type B) = true := by
    rw [List.contains_cons, hT, F.hasB, Bool.or_true]
  have ns := F.noStar
  simp only [checkBuiltinCall, F.newKind, F.newSplit, F.newRow]
  repeat (first | refine wpAny_loadPart_at hC ?_ | (refine wpAny_isSubtype_exc hC ?_; rw [isB]) | refine wpAny_staticBase_exc hC ?_ | refine wpAny_madeBy_exc hC ?_
                | simp only [bne_self_eq_false, Bool.false_eq_true, if_false] | wp_step)
  exact hq
end
section
variable {prog : Program} {w : World} {A : Around} {E : Value → Shared → Prop} {R : Result → Shared → Prop} {h : Heap} {g : Array GenState} {d : Drawn} {t : Nat} {os : OsState} {kw : List (Str × Value)}
variable {nm q : Str} {C N : Addr} {bs bm bmB : List Value} {hdct : Bool} {sn : List Str} {sub : List Value} {ab : Bool} {col : Option Bool} {dd : Option Addr} {k0 k1 k2 k3 k5 : Option Value} {B newId initId : String}
theorem new_kw (F : ExcBaseFacts B newId initId bmB) (hT : ∀ X : String, bm.contains (.type X) = bmB.contains (.type X))
    (hC : h.get? C = some (excClassObj nm q C N bs bm hdct sn sub ab col dd k0 k1 k2 k3 k5 newId))
    (hq : R (.ok (.ret (.ref (h.objs.size + 1)))) ⟨(h.push (kdv_tup [])).push (excO C h.objs.size), g, d, t, os⟩) :
    codeAny (model prog w) A (.builtin newId ⟨[.ref C], kw⟩) R ⟨h, g, d, t, os⟩ := by
  have ends := F.ends
  have isB : (Value.ref C :: bm).contains (.type B) = true := by
    rw [List.contains_cons, hT, F.hasB, Bool.or_true]
  have isA : (Value.ref C :: bm).contains (.type "AttributeError") = false := by
    rw [List.contains_cons, hT, F.noAttr]
    rfl
  have isN : (Value.ref C :: bm).contains (.type "NameError") = false := by
    rw [List.contains_cons, hT, F.noName]
    rfl
  refine codeAny_builtinAt F.entry ?_
  unfold Builtin.«BaseException.__new__»
  refine wpAt_bind ?_
  show wpAt _ _ _ (stack >>= _) _ _ _
  refine wpAt_bind (wpAt_stack fun p below => wpAt_of_wpAny ?_)
  wp_walk
  refine wpAt_of_wpAny ?_
  rw [F.owner]
  repeat (first | with_reducible refine wpAny_madeHere_exc F.canon hC ?_ | with_reducible refine wpAny_loadPart_at hC ?_ | (with_reducible refine wpAny_isSubtype_exc hC ?_; first | rw [isB] | rw [isA] | rw [isN])
                | wp_step)
  show R _ _
  rw [Heap.size_push]
  exact hq
end
section
variable {prog : Program} {w : World} {A : Around} {E : Value → Shared → Prop} {R : Result → Shared → Prop} {h : Heap} {g : Array GenState} {d : Drawn} {t : Nat} {os : OsState} {kw : List (Str × Value)}
variable {nm q : Str} {C N : Addr} {bs bm bmB : List Value} {hdct : Bool} {sn : List Str} {sub : List Value} {ab : Bool} {col : Option Bool} {dd : Option Addr} {k0 k1 k2 k3 k5 : Option Value} {B newId initId : String}
theorem typeCall_kw (F : ExcBaseFacts B newId initId bmB) (hT : ∀ X : String, bm.contains (.type X) = bmB.contains (.type X)) {fI : Addr} {Q : Fin → Shared → Prop}
    (hC : h.get? C = some (excClassObj nm q C N bs bm hdct sn sub ab col dd k0 k1 k2 k3 k5 newId))
    (hi : Looks (model prog w) h (typeLookup (.ref C) "__init__") (some (.ref fI))) (hb : ∀ self, Looks (model prog w) h (bindSpecial (.ref fI) self) (.ref fI, [self]))
    (hq : codeAny (model prog w) A (.call (.ref fI) ⟨[.ref (h.objs.size + 1)], kw⟩)
      (fun r s' => match r with | .ok (.ret v) => v = .none ∧ Q (.done (.ret (.ref (h.objs.size + 1)))) s' | .ok _ => False | .error e => E e s')
      ⟨(h.push (kdv_tup [])).push (excO C h.objs.size), g, d, t, os⟩) :
    wpAny (model prog w) A (Builtin.«type.__call__» ⟨[.ref C], kw⟩) Q E ⟨h, g, d, t, os⟩ := by
  repeat (first | with_reducible refine wpAny_loadPart_at hC ?_ | with_reducible refine wpAny_madeBy_exc hC ?_ | wp_step)
  refine codeAny_call_builtin_code (Code.quiet_builtin _ F.quiet) (check_new F hT hC ?_)
  refine new_kw F hT hC ?_
  show wpAny _ _ _ _ _ _
  have old : ∀ b o, h.get? b = some o → ((h.push (kdv_tup [])).push (excO C h.objs.size)).get? b = some o :=
    fun _ _ e => Heap.get?_push_of_some _ (Heap.get?_push_of_some _ e)
  have atC := old _ _ hC
  have self : ((h.push (kdv_tup [])).push (excO C h.objs.size)).get? (h.objs.size + 1) = some (excO C h.objs.size) := by
    heap_get
  have own : (Value.ref C :: bm).contains (.ref C) = true := by
    simp
  have li := hi.keeps old
  have lb := (hb (.ref (h.objs.size + 1))).keeps old
  unfold isInstance
  repeat (first | with_reducible refine wpAny_loadPart_at self ?_ | (with_reducible refine wpAny_isSubtype_exc atC ?_; rw [own]) | wp_step)
  show wpAny _ _ (typeLookup (.ref C) _) _ _ _
  refine li.at ?_
  refine wpAny_holding (wpAny_bind (lb.at ?_))
  refine wpAny_bind (wpAny_call (codeAny_mono hq fun r s' z => ?_))
  rcases r with e | (v | _ | _ | _) <;> first | exact z | exact z.elim | skip
  obtain ⟨rfl, z⟩ := z
  first
    | exact wpAny_pure (wpAny_pure z)
    | (wp_walk; exact z)
theorem checkCall_kw {M : Model} {Q : Unit → Shared → Prop} (hC : h.get? C = some (excClassObj nm q C N bs bm hdct sn sub ab col dd k0 k1 k2 k3 k5 newId))
    (hq : Q () ⟨h, g, d, t, os⟩) : wpAny M A (checkBuiltinCall "type.__call__" ⟨[.ref C], kw⟩) Q E ⟨h, g, d, t, os⟩ := by
  have sub' := tc_sub
  have isT : (⟨h, g, d, t, os⟩ : Shared).TypeIs (.ref C) "type" := ⟨_, hC, rfl⟩
  simp only [checkBuiltinCall, tc_kind, tc_split]
  repeat (any_goals (first | assumption | with_reducible refine wpAny_map ?_ | with_reducible refine wpAny_onRaise ?_ | with_reducible refine wpAny_loadPart_at hC ?_ | wp_step))
theorem call_kw (F : ExcBaseFacts B newId initId bmB) (hT : ∀ X : String, bm.contains (.type X) = bmB.contains (.type X)) {fI : Addr}
    (hC : h.get? C = some (excClassObj nm q C N bs bm hdct sn sub ab col dd k0 k1 k2 k3 k5 newId))
    (hi : Looks (model prog w) h (typeLookup (.ref C) "__init__") (some (.ref fI))) (hb : ∀ self, Looks (model prog w) h (bindSpecial (.ref fI) self) (.ref fI, [self]))
    (hq : codeAny (model prog w) (A.under (.builtin "type.__call__" ⟨[.ref C], kw⟩)) (.call (.ref fI) ⟨[.ref (h.objs.size + 1)], kw⟩) (InitBack (h.objs.size + 1) R)
      ⟨(h.push (kdv_tup [])).push (excO C h.objs.size), g, d, t, os⟩) :
    codeAny (model prog w) A (.call (.ref C) ⟨[], kw⟩) R ⟨h, g, d, t, os⟩ := by
  have f1 := tc_lookup
  have f2 := tc_bind (.ref C)
  have isT : (⟨h, g, d, t, os⟩ : Shared).TypeIs (.ref C) "type" := ⟨_, hC, rfl⟩
  refine codeAny_of_tree ?_
  show wpAny _ _ (callAny (.ref C) _) _ _ _
  repeat (any_goals (first | assumption | with_reducible refine wpAny_loadPart_at hC ?_ | wp_step))
  refine ⟨rfl, ?_⟩
  refine codeAny_call_builtin_at (Code.quiet_builtin _ (by decide +kernel)) entry_typeCall ?_
  refine checkCall_kw hC (typeCall_kw F hT hC hi hb ?_)
  refine codeAny_mono hq fun r s' z => ?_
  rcases r with e | (v | _ | _ | _) <;> exact z
end
end LampKw
end PySem
namespace Lamp
open PySem PySem.Spec PyProof.Rows L2
section
variable {X : Cx} {pins : List (Addr × Obj)} {σ : L2.St} {H : Hp} {s : Shared}
/-- C(f = e, ..): keywords alone -/
def tErrK (C : Addr) (m : Nat) (sp : Sp) (gV : List V → List V → List V) (ta : TA) : TE := fun σ H Q => ta σ H fun zs H1 => zs.length = m ∧
  ∀ a, H1 a = none → sp (gV [.ref a] zs) (upd H1 a (exo a C none)) (fun v H2 => v = .non ∧ Q (.ref a) H2) fun _ _ _ => False
theorem pe_errK {C fI : Addr} {k : Nat} {fd : FuncData} {ps ks : List Str} {sp : Sp} {x : Str} {kws : List Keyword} {ta : TA} {g : List Value → List Value → List Value} {gV : List V → List V → List V} {p pos : Pos} (T : OexC X.K C)
    (iC : PySem.W.findIn X.K (.ref C) "__init__" = some (some (.ref fI))) (tI : PySem.W.typeIn X.K (.ref fI) = some (.type "function"))
    (G : FnOk X.prog X.w X.K X.mg X.base CX0 k fI fd ps sp) (hr : Room (k + 1) X.A) (hb : KBn X.K fd ps 1 ks g gV) (hg : Gl X x) (hm : X.mg x = some (.ref C)) (ha : PK X kws ta)
    (hall : (backToKw pos (keywordEach kws X.env)).all (·.1.isSome) = true := by rfl) (hks : (backToKw pos (keywordEach kws X.env)).filterMap (·.1) = ks := by rfl)
    (hdb : (x == ("__debug__" : Str)) = false := by decide)
    (hpl : ((backTo pos (starEach [] X.env)).any (·.1) || (backToKw pos (keywordEach kws X.env)).any (·.1.isNone)) = false := by rfl) :
    PE X (.Call (.Name x p) [] kws pos) (tErrK C ks.length sp gV ta) := by
  refine ⟨fun pins s σ H Q I h => wpAny_Call_Name_kw (ld_glob I hg hm ?_ hdb)⟩
  refine PySem.W.callWith_KW0 (h₀ := X.base) I.ok.mod.kin T.kC hall (thn (ha.run pos pins s σ H _ I h) fun ws s1 ⟨zs, H1, I1, rz, lz, got⟩ => ⟨I1.kIn, ?_⟩) hpl
  rw [hks]
  obtain ⟨_, _, _, _, bm, _, _, _, _, _, _, _, _, _, _, cls, hbm⟩ := T.cls
  obtain ⟨hp, gg, dr, tk, os⟩ := s1
  have up : hp.objs.size ≤ hp.objs.size + 1 := Nat.le_succ _
  have got := got _ (I1.hok.fresh up)
  have kk : ∀ b o, hp.get? b = some o → ((hp.push (PySem.W.kdv_tup [])).push (PySem.HandSPX.excO C hp.objs.size)).get? b = some o :=
    fun _ _ e => Heap.get?_push_of_some _ (Heap.get?_push_of_some _ e)
  have self : ((hp.push (PySem.W.kdv_tup [])).push (PySem.HandSPX.excO C hp.objs.size)).get? (hp.objs.size + 1) = some (PySem.HandSPX.excO C hp.objs.size) := by
    heap_get
  have J := I1.laid (t' := tk) kk up (exo_ok (P := X.prog) (w := X.w) (H := upd H1 (hp.objs.size + 1) (exo (hp.objs.size + 1) C none)) self)
  have r1 : Vals [V.ref (hp.objs.size + 1)] [Value.ref (hp.objs.size + 1)] := .cons rfl .nil
  have r2 := hb.rel r1 rz
  have bind := hb.to _ [Value.ref (hp.objs.size + 1)] ws J.kIn rfl (rz.length.symm.trans lz)
  have run := G.run _ X.stack _ _ ⟨[Value.ref (hp.objs.size + 1)], ks.zip ws⟩ _ _ _ (fun _ _ _ => False) (hr.make C [] (ks.zip ws)) (J.env0.make C [] (ks.zip ws)) bind r2 got
  refine wpAny_call (PySem.LampKw.call_kw F.excBase_ValueError (fun Y => PySem.HandSPX.refsVE_contains Y bm hbm) (I1.kIn _ _ cls)
    (PySem.W.looks_findIn I1.kIn iC) (fun z => PySem.W.bind_fn I1.kIn z tI) (codeAny_mono run fun q s' hq => ?_))
  rcases q with e | fl
  · exact (show False from hq).elim
  · cases fl with
    | ret u =>
      obtain ⟨v, H2, I3, rv, ev, q3⟩ := J.after hq
      subst ev
      exact ⟨rv, V.ref (hp.objs.size + 1), H2, I3, rfl, q3⟩
    | _ => exact False.elim hq
/-- C(), C an error class without an __init__ of its own -/
theorem pe_err0 {C : Addr} {bmB : List Value} {B newId initId : String} {x : Str} {p pos : Pos} (F : ExcBaseFacts B newId initId bmB) (q : PySem.W.excIn X.K C bmB newId = true)
    (gC : X.mg x = some (.ref C)) (kC : PySem.W.keepIn X.K (.ref C) = true) (hg : Gl X x) (hdb : (x == ("__debug__" : Str)) = false := by decide) :
    PE X (.Call (.Name x p) [] [] pos) (fun _ H Q => ∀ a, H a = none → Q (.ref a) (upd H a (exo a C none))) := by
  refine ⟨fun pins s σ H Q I h => wpAny_Call_Name_kw (ld_glob I hg gC (PySem.W.callWith_K0 I.kIn kC ?_) hdb)⟩
  obtain ⟨bm, N, nm, qn, bs, hdct, sn, sub, ab, col, dd, k0, k1, k2, k3, k5, mN, hC, hN, hni, T⟩ := exc_obj I.kIn q
  refine wpAny_call_exc_subT F T hC hN hni (fun h' a hm => ?_) (by show 0 ≤ sizeLine; exact Nat.zero_le _)
  have hn : H a = none := I.hok.gone hm.new
  obtain ⟨t, ht, _, _⟩ := hm.there
  exact ⟨.ref a, upd H a (exo a C none), I.laidN hm.keeps hm.new hn (exo_ok ht), rfl, h a hn⟩
end
end Lamp
namespace Lamp
open PySem PySem.Spec PyProof.Rows L2
/-! ### lambdas as values -/
/-- the function of a lambda that captures nothing stands at f -/
def LamO (f c : Addr) (q : Str) (params : Arguments) (body : Expr) (scope : Scope) : HO :=
  .ext fun h => ∃ pm ctv : Value, h.get? f = some (PySem.W.kla_obj "<lambda>" q params body scope [] pm c ctv)
def LamAt (H : Hp) (f : Addr) (q : Str) (params : Arguments) (body : Expr) (scope : Scope) : Prop :=
  ∃ c, H f = some (LamO f c q params body scope) ∧ H c = some (LamX.CodeO c q)
theorem lamO_ok {P : Program} {w : World} {H : Hp} {h : Heap} {f c : Addr} {q : Str} {params : Arguments} {body : Expr} {scope : Scope} {pm ctv : Value}
    (e : h.get? f = some (PySem.W.kla_obj "<lambda>" q params body scope [] pm c ctv)) : ObjOk P w H h f (LamO f c q params body scope) :=
  ⟨⟨pm, ctv, e⟩, ⟨_, e⟩, fun _ _ ⟨a, b, z⟩ k => ⟨a, b, k _ z⟩⟩
theorem LamAt.keep {H H' : Hp} {f : Addr} {q : Str} {params : Arguments} {body : Expr} {scope : Scope} (h : LamAt H f q params body scope)
    (k : ∀ b o, H b = some o → (∀ xs, o ≠ .lst xs) → H' b = some o) : LamAt H' f q params body scope := by
  obtain ⟨c, h1, h2⟩ := h
  refine ⟨c, k _ _ h1 fun xs z => ?_, k _ _ h2 fun xs z => ?_⟩
  · unfold LamO at z
    cases z
  · unfold LamX.CodeO at z
    cases z
theorem none_upd {H : Hp} {a b : Addr} {o : HO} (h : upd H a o b = none) : b ≠ a ∧ H b = none := by
  have n : b ≠ a := fun z => by
    rw [z, upd_same] at h
    cases h
  rw [upd_ne n] at h
  exact ⟨n, h⟩
/-- a lambda's value: the tables of code objects stay tables -/
def tLamV (T : List (Addr × Str)) (q : Str) (params : Arguments) (body : Expr) (scope : Scope) : TE := fun _ H Q => LamX.Tabs T H ∧
  ∀ f H1, LamX.ExtN H H1 → (∀ b, H1 b = none → H b = none) → LamX.Tabs T H1 → H f = none → LamAt H1 f q params body scope → Q (.ref f) H1
section
variable {X : Cx} {pins : List (Addr × Obj)} {σ : L2.St} {H : Hp} {s : Shared}
theorem pe_lam {T : List (Addr × Str)} {c P : Addr} {params : Arguments} {body : Expr} {scope : Scope} {pos : Pos} (TB : LamX.TabB X.base X.mg c P) (hcode : X.env.code = .ref c)
    (hm : (P, X.env.qual ++ "<lambda>") ∈ T) (hu : ∀ p ∈ T, p.1 = P → p.2 = X.env.qual ++ "<lambda>") (hdef : defaultsOf params X.env = ([], [])) (hcl : closureFor scope X.env = pure []) :
    PE X (.Lambda params body scope pos) (tLamV T (X.env.qual ++ "<lambda>") params body scope) := by
  refine ⟨fun pins s σ H Q I ⟨hT, h⟩ => ?_⟩
  obtain ⟨ps, hP, tr, ha⟩ := hT _ hm
  have bk := TB.bm.keeps I.bk
  have atP : s.heap.get? P = some { cls := .none, data := .fields ps } := I.hok P _ hP
  refine PySem.W.kla_eval hdef ?_
  cases hc : codeAmong pos ps.toList with
  | none =>
    refine PySem.W.kla_makeFunction (mg := X.mg) (c := c) (P := P) (ps := ps) hcl I.ok.glob (I.mod.glob.keeps I.bk) hcode (TB.code.keeps I.bk) atP tr hc TB.gP bk fun c' ctv h' tk hx hge hlt hrec htb => ?_
    obtain ⟨c2, oc, vs, t, e2, hoc, hd, hv⟩ := hrec
    cases e2
    have nC : H c' = none := I.hok.fresh hge
    have I1 := LamX.inv_table (t' := tk) (more := #[rawInt pos.line, rawInt pos.col, .ref c']) (q := X.env.qual ++ "<lambda>") I hP hx htb hge ⟨oc, vs, t, hoc, hd, hv⟩
    have eN : LamX.ExtN H (upd (upd H P (.tbl (ps ++ #[rawInt pos.line, rawInt pos.col, .ref c']))) c' (LamX.CodeO c' (X.env.qual ++ "<lambda>"))) := fun b o e n => by
      have ne : b ≠ P := fun z => by
        rw [z, hP] at e
        exact n ps (Option.some.inj e).symm
      rw [upd_ne (ne_of_none e nC), upd_ne ne]
      exact e
    have tl : (ps ++ #[rawInt pos.line, rawInt pos.col, .ref c']).toList = ps.toList ++ [rawInt pos.line, rawInt pos.col, .ref c'] := by
      simp
    have T1 : LamX.Tabs T (upd (upd H P (.tbl (ps ++ #[rawInt pos.line, rawInt pos.col, .ref c']))) c' (LamX.CodeO c' (X.env.qual ++ "<lambda>"))) := fun p hp => by
      by_cases hb : p.1 = P
      · rw [hu p hp hb, hb]
        refine ⟨_, by rw [upd_ne (ne_of_none hP nC), upd_same], by rw [tl]; exact PySem.TriplesOk_snoc _ _ _ _ tr, fun p' cv hcv => ?_⟩
        rw [tl] at hcv
        rcases LamX.among_app _ tr hcv with z | z
        · obtain ⟨c0, e1, e2⟩ := ha p' cv z
          exact ⟨c0, e1, eN _ _ e2 LamX.codeO_ne⟩
        · exact ⟨c', z, upd_same⟩
      · obtain ⟨qs, a1, a2, a3⟩ := hT p hp
        refine ⟨qs, by rw [upd_ne (ne_of_none a1 nC), upd_ne hb]; exact a1, a2, fun p' cv hcv => ?_⟩
        obtain ⟨c0, e1, e2⟩ := a3 p' cv hcv
        exact ⟨c0, e1, eN _ _ e2 LamX.codeO_ne⟩
    have nF := I1.hok.fresh (Nat.le_refl h'.objs.size)
    have old : s.heap.objs.size ≤ h'.objs.size := Nat.le_trans hge (Nat.le_of_lt hlt)
    have J := I1.laid (t' := tk) (a := h'.objs.size) (fun b o e => Heap.get?_push_of_some _ e) (Nat.le_refl _)
      (lamO_ok (P := X.prog) (w := X.w) (H := upd _ h'.objs.size (LamO h'.objs.size c' (X.env.qual ++ "<lambda>") params body scope)) (Heap.get?_push_size h' (o := PySem.W.kla_obj "<lambda>" (X.env.qual ++ "<lambda>") params body scope [] ((X.mg "__name__").getD .none) c' ctv) rfl))
    refine ⟨.ref h'.objs.size, _, J, rfl, h _ _ (eN.trans (.of fun b o e => ?_)) (fun b z => ?_) (T1.ext fun b o e => ?_) (I.hok.fresh old) ⟨c', upd_same, ?_⟩⟩
    · rw [upd_ne (ne_of_none e nF)]
      exact e
    · have n1 := none_upd z
      have n2 := none_upd n1.2
      exact (none_upd n2.2).2
    · rw [upd_ne (ne_of_none e nF)]
      exact e
    · rw [upd_ne (Nat.ne_of_lt hlt), upd_same]
  | some cv =>
    obtain ⟨c', e, hco⟩ := ha pos cv hc
    subst e
    refine PySem.W.kla_makeFunctionHit (mg := X.mg) (c := c) (P := P) (ps := ps) hcl I.ok.glob (I.mod.glob.keeps I.bk) hcode (TB.code.keeps I.bk) atP tr hc bk fun ctv h' tk hx hsz => ?_
    have I1 := I.kept (t' := tk) hx
    have nF := I1.hok.fresh (Nat.le_refl h'.objs.size)
    have J := I1.laid (t' := tk) (a := h'.objs.size) (fun b o e => Heap.get?_push_of_some _ e) (Nat.le_refl _)
      (lamO_ok (P := X.prog) (w := X.w) (H := upd H h'.objs.size (LamO h'.objs.size c' (X.env.qual ++ "<lambda>") params body scope)) (Heap.get?_push_size h' (o := PySem.W.kla_obj "<lambda>" (X.env.qual ++ "<lambda>") params body scope [] ((X.mg "__name__").getD .none) c' ctv) rfl))
    refine ⟨.ref h'.objs.size, _, J, rfl, h _ _ (.of fun b o e => ?_) (fun b z => ?_) (hT.ext fun b o e => ?_) nF ⟨c', upd_same, ?_⟩⟩
    · rw [upd_ne (ne_of_none e nF)]
      exact e
    · exact (none_upd z).2
    · rw [upd_ne (ne_of_none e nF)]
      exact e
    · rw [upd_ne (ne_of_none hco nF)]
      exact hco
/-- the fields of e, read from the left -/
def readsOf (fs : List (Str × Pos × Pos)) : List Expr := fs.map fun z => .Attribute (.Name "e" z.2.1) z.1 z.2.2
def lamScope : Scope := { kind := .function, names := [(PySem.Str.ofString "e", .local)], isGenerator := false, isCoroutine := false, more := [] }
def lamArgs (p : Pos) : Arguments := { posonlyargs := [], args := [{ arg := "e", annotation := none, pos := p }], vararg := none, kwonlyargs := [], kw_defaults := [], kwarg := none, defaults := [] }
/-- the names of fields, and what they hold -/
def Fields (K : PySem.W.Frag) (C : Addr) (fs : List (Str × V)) : List (Str × Pos × Pos) → List V → Prop
  | [], [] => True
  | z :: r, v :: vs => fs.lookup z.1 = some v ∧ PySem.W.findIn K (.ref C) z.1 = some none ∧ Fields K C fs r vs
  | _, _ => False
theorem Fields.len {K : PySem.W.Frag} {C : Addr} {fs : List (Str × V)} : ∀ {zs : List (Str × Pos × Pos)} {vs : List V}, Fields K C fs zs vs → vs.length = zs.length
  | [], [], _ => rfl
  | _ :: _, _ :: _, h => congrArg Nat.succ (Fields.len h.2.2)
  | [], _ :: _, h => h.elim
  | _ :: _, [], h => h.elim
/-- the fields are read in the lambda's own frame: the heap grows alone -/
theorem read_fields {env : Env} {A : Around} {E : Value → Shared → Prop} {m : Str → Option Value} {e C : Addr} {ox : Obj} {od : Option Obj} {fs : List (Str × V)} {vals : Str → Option Value} (hk : env.scope.kind = .function) (hl : env.kindOf "e" = some .local)
    (T : ErrC X.K C) (hod : ∀ f u, vals f = some u → PySem.W.findIn X.K (.ref C) f = some none → PySem.W.findObj X.K C od f = some (.value u)) (hr : ∀ f, RelO (fs.lookup f) (vals f)) (pos : Pos) :
    ∀ (zs : List (Str × Pos × Pos)) (vs : List V) (s1 : Shared) (Q : List Value → Shared → Prop), Fields X.K C fs zs vs → X.K.In s1.heap → s1.heap.Ns env.locals m → m "e" = some (.ref e) → PySem.W.InstAt s1.heap e ox C od →
      (∀ us tk, Vals vs us → Q us { s1 with toks := tk }) → wpAny (model X.prog X.w) A (spliced (backTo pos (starEach (readsOf zs) env))) Q E s1
  | [], [], s1, Q, _, _, _, _, _, h => Calls.spliced_nil (h [] s1.toks .nil)
  | z :: zs, v :: vs, s1, Q, hf, KX, hns, hm, J, h => by
    obtain ⟨f1, f2, f3⟩ := hf
    obtain ⟨u, hu, ru⟩ := RelO.some_of (v := v) (o := vals z.1) (by rw [← f1]; exact hr z.1)
    have e1 : backTo pos (starEach (readsOf (z :: zs)) env) = (false, eval (.Attribute (.Name "e" z.2.1) z.1 z.2.2) env) :: backTo pos (starEach (readsOf zs) env) := by rfl
    rw [e1]
    refine Calls.spliced_cons (attr_of (by rfl) (wpAny_Name (wpAny_loadName_local hk hl hns hm ?_) (by decide)))
    refine HandSPX.exc_get KX J T.ga T.gg T.ox.exC (hod _ _ hu f2) (handed_of ru) ?_
    exact read_fields hk hl T hod hr pos zs vs _ _ f3 KX hns hm J fun us tk r => h (u :: us) tk (.cons ru r)
  | [], _ :: _, _, _, h, _, _, _, _, _ => h.elim
  | _ :: _, [], _, _, h, _, _, _, _, _ => h.elim
/-- x(a), x a name that holds a lambda which reads an error's fields -/
def tReads (K : PySem.W.Frag) (i : Nat) (ta : TA) : TE := fun σ H Q => ∃ (f : Addr) (q : Str) (pA pB : Pos) (zs : List (Str × Pos × Pos)), σ[i]? = some (some (.ref f)) ∧ LamAt H f q (lamArgs pA) (.List (readsOf zs) pB) lamScope ∧
  ta σ H fun vs H1 => ∃ (e C : Addr) (fs : Option (List (Str × V))) (ws : List V), vs = [.ref e] ∧ LamAt H1 f q (lamArgs pA) (.List (readsOf zs) pB) lamScope ∧ ErrC K C ∧ ErrAt H1 e C fs ∧ Fields K C (fs.getD []) zs ws ∧ zs.length ≤ 1000 ∧
    ∀ p, H1 p = none → Q (.ref p) (upd H1 p (.lst ws))
theorem err_reads {e C : Addr} {fs : Option (List (Str × V))} (I : Inv X pins σ H s) (T : ErrC X.K C) (h : ErrAt H e C fs) : ∃ (ox : Obj) (od : Option Obj) (vals : Str → Option Value), PySem.W.InstAt s.heap e ox C od ∧
    (∀ f u, vals f = some u → PySem.W.findIn X.K (.ref C) f = some none → PySem.W.findObj X.K C od f = some (.value u)) ∧ ∀ f, RelO ((fs.getD []).lookup f) (vals f) := by
  cases fs with
  | none =>
    obtain ⟨t, q⟩ := exo_at I.hok h
    exact ⟨_, none, fun _ => none, ⟨q, rfl, rfl, True.intro⟩, (fun f u z => by cases z), fun f => True.intro⟩
  | some fs =>
    obtain ⟨d, _, h1, h2⟩ := h
    obtain ⟨t, q⟩ := exo_at I.hok h1
    obtain ⟨mA, hn, r⟩ := exd_at I.hok h2
    obtain ⟨o, ho, hl⟩ := lookIn_ns hn
    exact ⟨_, some o, mA, ⟨q, rfl, rfl, ho⟩, fun f u z n => PySem.W.findObj_own T.hd n rfl (by rw [hl, z]), r⟩
theorem pe_reads {i k : Nat} {x : Str} {a : Expr} {ta : TA} {p pos : Pos} (hr : Room (k + 1) X.A) (hN : X.N[i]? = some x) (hv : Vis X.env.scope x) (ha : PA X [a] ta) (hdb : (x == ("__debug__" : Str)) = false := by decide) (hcd : (x == ("__classdict__" : Str)) = false := by decide)
    (he : starEach [a] X.env = (false, eval a X.env) :: starEach [] X.env := by rfl) : PE X (.Call (.Name x p) [a] [] pos) (tReads X.K i ta) := by
  refine ⟨fun pins s σ H Q I h => ?_⟩
  obtain ⟨f, q, pA, pB, zs, hs, hL, ht⟩ := h
  refine wpAny_Call_Name_kw (thn ((pe_var (pos := p) (i := i) hN hv hdb hcd).run pins s σ H (fun v H1 => v = .ref f ∧ H1 = H) I ⟨.ref f, hs, rfl, rfl⟩) fun u s1 ⟨v, H1, I1, r1, ev, eH⟩ => ?_)
  subst ev eH
  obtain rfl : u = Value.ref f := r1
  have fnAt : ∀ {H : Hp} {σ : L2.St} {s : Shared}, Inv X pins σ H s → LamAt H f q (lamArgs pA) (.List (readsOf zs) pB) lamScope → ∃ pm ctv c, s.heap.get? f = some (PySem.W.kla_obj "<lambda>" q (lamArgs pA) (.List (readsOf zs) pB) lamScope [] pm c ctv) ∧ s.heap.CodeRec (.ref c) q := by
    rintro H σ s I ⟨c, h1, h2⟩
    obtain ⟨⟨pm, ctv, z⟩, _, _⟩ := I.hok f _ h1
    obtain ⟨⟨oc, vs, t, y1, y2, y3⟩, _, _⟩ := I.hok c _ h2
    exact ⟨pm, ctv, c, z, c, oc, vs, t, rfl, y1, y2, y3⟩
  obtain ⟨pm, ctv, c, of1, _⟩ := fnAt I1 hL
  refine PySem.W.callWith_F ⟨_, _, _, _, of1⟩ (thn (ha.run pos pins s1 σ H1 _ I1 ht) fun us s2 ⟨vs, H2, I2, r2, e, C, fs, ws, ev, hL2, T, hE, hF, hz, hq⟩ => ?_) he
  subst ev
  obtain ⟨pm2, ctv2, c2, of2, rec2⟩ := fnAt I2 hL2
  refine ⟨⟨_, _, _, _, of2⟩, ?_⟩
  obtain ⟨u, rfl, ru⟩ := vals1 r2
  obtain rfl : u = Value.ref e := ru
  obtain ⟨ox, od, vals, J, hod, hrel⟩ := err_reads I2 T hE
  refine wpAny_call (PySem.W.kla_callFunE hr.depth of2 rfl rfl rfl rfl rec2 ?_)
  have hb : bindArgs (PySem.W.kla_fn "<lambda>" q (lamArgs pA) (.List (readsOf zs) pB) lamScope [] pm2 (.ref c2) ctv2) ⟨[] ++ [Value.ref e], []⟩ = pure [(("e" : Str), Value.ref e)] := by rfl
  rw [hb]
  refine wpAny_pure (wpAny_newFunctionEnv (show ∀ y ∈ lamScope.names, y.2 ≠ .cell by decide +kernel) (by intro y hy; rcases List.mem_singleton.mp hy with rfl; rfl) (fun h₁ hns hsb => ⟨I2.nolimit.fresh _ hsb, ?_⟩) rfl)
  have kp : ∀ b o, s2.heap.get? b = some o → h₁.get? b = some o := fun b o z => hsb.extBut b o (Nat.ne_of_lt (Heap.lt_size z)) (Heap.get?_push_of_some _ z)
  have J1 : PySem.W.InstAt h₁ e ox C od := ⟨kp _ _ J.at_, J.cls, J.no, by
    have z := J.dict
    revert z
    cases ox.dict <;> cases od <;> intro z
    · exact True.intro
    · exact z
    · exact z
    · exact kp _ _ z⟩
  refine PySem.W.kla_codeExpr (wpAny_List_spliced ?_)
  refine read_fields (m := fun x => [(("e" : Str), Value.ref e)].reverse.lookup x) rfl rfl T hod hrel _ zs ws _ _ hF (I2.kIn.keeps kp) hns (by rfl) J1 fun us tk r => ⟨?_, ?_⟩
  · have l := hF.len
    rw [← r.length, l, sizeLine_eq]
    omega
  have I3 := I2.kept (t' := tk) kp
  have nP := I3.hok.fresh (Nat.le_refl h₁.objs.size)
  have K3 := I3.laid (t' := tk) (a := h₁.objs.size) (o := .lst ws) (h' := h₁.push { cls := .type "list", data := .seq us.toArray }) (fun b u z => Heap.get?_push_of_some _ z) (Nat.le_refl _)
    ⟨by have l := hF.len; rw [l, sizeLine_eq]; omega, us, 0, r, Heap.get?_push_size _ rfl⟩
  exact ⟨.ref h₁.objs.size, _, K3, rfl, hq _ nP⟩
end
end Lamp
namespace Lamp
open PySem PySem.Spec PyProof.Rows L2
theorem fun_of {K : PySem.W.Frag} {x qual : Str} {st : Stmt} {f : Addr} {fd : FuncData} (F : FunD K x qual (defArgs st) (defBody st) (defScope st) [] [] f fd) : Fun K x qual st f fd := by
  obtain ⟨oc, od, dV, kV, doc, pm, an, cdv, ct, osl, e, lk, hcd, hD, hK⟩ := F.ex
  rcases hD with ⟨_, rfl⟩ | ⟨z, _⟩
  · exact ⟨⟨oc, od, kV, doc, pm, an, cdv, ct, osl, e, lk, hcd⟩, F.kp⟩
  · exact absurd rfl z
/-! ### __init__ of one field, of two -/
def spInit1 (K : PySem.W.Frag) (f : Str) : Sp := fun vs H Q _ => ∃ (a C : Addr) (y : V), vs = [.ref a, y] ∧ OexC K C ∧ PySem.W.findIn K (.ref C) f = some none ∧ H a = some (exo a C none) ∧
  ∀ d, H d = none → d ≠ a → Q .non (upd (upd H d (exd d [(f, y)])) a (exo a C (some d)))
def spInit2 (K : PySem.W.Frag) (f g : Str) : Sp := fun vs H Q _ => ∃ (a C : Addr) (y z : V), vs = [.ref a, y, z] ∧ OexC K C ∧ PySem.W.findIn K (.ref C) f = some none ∧ PySem.W.findIn K (.ref C) g = some none ∧ H a = some (exo a C none) ∧
  ∀ d, H d = none → d ≠ a → Q .non (upd (upd (upd H d (exd d [(f, y)])) a (exo a C (some d))) d (exd d [(g, z), (f, y)]))
section
variable {P : Program} {w : World} {K : PySem.W.Frag} {mg : Str → Option Value} {base : Heap}
theorem ok_init1 {qual f : Str} {st : Stmt} {fI : Addr} {fd : FuncData} {q1 q2 q3 q4 : Pos} (F : Fun K "__init__" qual st fI fd) (hb : defBody st = [.Assign [.Attribute (.Name "self" q1) f q2] (.Name f q3) q4])
    (S : FnScope ["self", f] ["self", f] (defScope st)) (l0 : (defScope st).names.lookup ("self" : Str) = some .local) (l1 : (defScope st).names.lookup f = some .local) (d1 : (f == ("__debug__" : Str)) = false) (d2 : (f == ("__classdict__" : Str)) = false) :
    FnOk P w K mg base CX0 1 fI fd ["self", f] (spInit1 K f) := by
  refine F.ok S (fun vs H Q E h => ?_) (fun cdv A outer s H vs Q E hr h => ?_)
  · obtain ⟨a, C, y, rfl, _⟩ := h
    rfl
  · obtain ⟨a, C, y, rfl, T, nF, ha, k⟩ := h
    rw [hb]
    refine ⟨_, pss_one (ps_ost (pe_var (i := 0) rfl (.inl l0)) (pe_var (i := 1) rfl (.inl l1) d1 d2)), ?_⟩
    exact ⟨_, rfl, _, rfl, a, C, rfl, T, nF, .inl ⟨ha, fun d hd ne => k d hd ne⟩⟩
theorem ok_init2 {qual f g : Str} {st : Stmt} {fI : Addr} {fd : FuncData} {q1 q2 q3 q4 r1 r2 r3 r4 : Pos} (F : Fun K "__init__" qual st fI fd)
    (hb : defBody st = [.Assign [.Attribute (.Name "self" q1) f q2] (.Name f q3) q4, .Assign [.Attribute (.Name "self" r1) g r2] (.Name g r3) r4])
    (S : FnScope ["self", f, g] ["self", f, g] (defScope st)) (l0 : (defScope st).names.lookup ("self" : Str) = some .local) (l1 : (defScope st).names.lookup f = some .local) (l2 : (defScope st).names.lookup g = some .local)
    (d1 : (f == ("__debug__" : Str)) = false) (d2 : (f == ("__classdict__" : Str)) = false) (d3 : (g == ("__debug__" : Str)) = false) (d4 : (g == ("__classdict__" : Str)) = false):
    FnOk P w K mg base CX0 1 fI fd ["self", f, g] (spInit2 K f g) := by
  refine F.ok S (fun vs H Q E h => ?_) (fun cdv A outer s H vs Q E hr h => ?_)
  · obtain ⟨a, C, y, z, rfl, _⟩ := h
    rfl
  · obtain ⟨a, C, y, z, rfl, T, nF, nG, ha, k⟩ := h
    rw [hb]
    refine ⟨_, pss_cons (ps_ost (pe_var (i := 0) rfl (.inl l0)) (pe_var (i := 1) rfl (.inl l1) d1 d2)) (pss_one (ps_ost (pe_var (i := 0) rfl (.inl l0)) (pe_var (i := 2) rfl (.inl l2) d3 d4))), ?_⟩
    refine ⟨_, rfl, _, rfl, a, C, rfl, T, nF, .inl ⟨ha, fun d hd ne => ?_⟩⟩
    exact ⟨_, rfl, _, rfl, a, C, rfl, T, nG, .inr ⟨d, [(f, y)], upd_same, by rw [upd_ne ne, upd_same], by show 1 ≤ 900; decide, k d hd ne⟩⟩
/-! ### an error class of the text, ready for use -/
structure Err1 (P : Program) (w : World) (K : PySem.W.Frag) (mg : Str → Option Value) (base : Heap) (x f : Str) (C : Addr) : Prop where
  er : ErrC K C
  gC : mg x = some (.ref C)
  nF : PySem.W.findIn K (.ref C) f = some none
  ini : ∃ (fI : Addr) (fd : FuncData), PySem.W.findIn K (.ref C) "__init__" = some (some (.ref fI)) ∧ PySem.W.typeIn K (.ref fI) = some (.type "function") ∧ FnOk P w K mg base CX0 1 fI fd ["self", f] (spInit1 K f) ∧
    L2.Binds K fd ["self", f] [] ∧ KBn K fd ["self", f] 1 [f] (fun us ws => us ++ ws) (fun vs zs => vs ++ zs)
structure Err2 (P : Program) (w : World) (K : PySem.W.Frag) (mg : Str → Option Value) (base : Heap) (x f g : Str) (C : Addr) : Prop where
  er : ErrC K C
  gC : mg x = some (.ref C)
  nF : PySem.W.findIn K (.ref C) f = some none
  nG : PySem.W.findIn K (.ref C) g = some none
  ini : ∃ (fI : Addr) (fd : FuncData), PySem.W.findIn K (.ref C) "__init__" = some (some (.ref fI)) ∧ PySem.W.typeIn K (.ref fI) = some (.type "function") ∧ FnOk P w K mg base CX0 1 fI fd ["self", f, g] (spInit2 K f g) ∧
    L2.Binds K fd ["self", f, g] [] ∧ KBn K fd ["self", f, g] 1 [g, f] (fun us ws => us ++ ws.reverse) (fun vs zs => vs ++ zs.reverse)
structure Err0 (K : PySem.W.Frag) (mg : Str → Option Value) (x : Str) (C : Addr) : Prop where
  er : ErrC K C
  gC : mg x = some (.ref C)
  ex : PySem.W.excIn K C He.veBase "ValueError.__new__" = true
end
end Lamp
namespace Lamp
open PySem PySem.Spec PyProof.Rows L2
/-! ### a row of what was made -/
/-- at t: two errors of one class with these fields, a lambda that reads them, what they are; Hb the heap ahead -/
def Row (K : PySem.W.Frag) (Hb H : Hp) (q : Str) (C : Addr) (fs : Option (List (Str × V))) (ws : List V) (t : Addr) : Prop :=
  ∃ (m v f d : Addr) (pA pB : Pos) (zs : List (Str × Pos × Pos)), H t = some (.tup [.ref m, .ref v, .ref f, .ref d]) ∧ ErrAt H m C fs ∧ ErrAt H v C fs ∧
    LamAt H f q (lamArgs pA) (.List (readsOf zs) pB) lamScope ∧ Fields K C (fs.getD []) zs ws ∧ zs.length ≤ 1000 ∧ H d = some (.lst ws) ∧ Hb d = none
/-- all but the lists and the tables -/
def Kept (H H' : Hp) : Prop := ∀ b o, H b = some o → (∀ xs, o ≠ .lst xs) → (∀ ps, o ≠ .tbl ps) → H' b = some o
theorem Row.keep {K : PySem.W.Frag} {Hb H H' : Hp} {q : Str} {C : Addr} {fs : Option (List (Str × V))} {ws : List V} {t : Addr} (r : Row K Hb H q C fs ws t)
    (k : ∀ b o, H b = some o → (∀ ps, o ≠ .tbl ps) → (Hb b = none ∨ ∀ xs, o ≠ .lst xs) → H' b = some o) : Row K Hb H' q C fs ws t := by
  obtain ⟨m, v, f, d, pA, pB, zs, h1, h2, h3, h4, h5, h6, h7, h8⟩ := r
  have e : ∀ {a : Addr}, ErrAt H a C fs → ErrAt H' a C fs := fun {a} h => by
    cases fs with
    | none =>
      exact k _ _ h (fun ps z => exo_tbl z) (.inr fun xs z => by unfold exo at z; cases z)
    | some fs =>
      obtain ⟨d, h0, h1, h2⟩ := h
      exact ⟨d, h0, k _ _ h1 (fun ps z => exo_tbl z) (.inr fun xs z => by unfold exo at z; cases z), k _ _ h2 (fun ps z => by unfold exd at z; cases z) (.inr fun xs z => by unfold exd at z; cases z)⟩
  obtain ⟨c, l1, l2⟩ := h4
  refine ⟨m, v, f, d, pA, pB, zs, k _ _ h1 (fun ps z => by cases z) (.inr fun xs z => by cases z), e h2, e h3, ⟨c, ?_, ?_⟩, h5, h6, k _ _ h7 (fun ps z => by cases z) (.inl h8), h8⟩
  · exact k _ _ l1 (fun ps z => by unfold LamO at z; cases z) (.inr fun xs z => by unfold LamO at z; cases z)
  · exact k _ _ l2 LamX.codeO_ne (.inr fun xs z => by unfold LamX.CodeO at z; cases z)
theorem tabs_upd {T : List (Addr × Str)} {H : Hp} {a : Addr} {o : HO} (t : LamX.Tabs T H) (h : H a = none) : LamX.Tabs T (upd H a o) := t.ext fun b u e => by
  rw [upd_ne (ne_of_none e h)]
  exact e
/-- a store at an address where neither a table nor a code object stands -/
theorem tabs_upd_lst {T : List (Addr × Str)} {H : Hp} {a : Addr} {o : HO} (t : LamX.Tabs T H) (h : ∃ xs, H a = some (.lst xs)) : LamX.Tabs T (upd H a o) := fun p hp => by
  obtain ⟨ps, h1, h2, h3⟩ := t p hp
  obtain ⟨xs, hx⟩ := h
  have n1 : p.1 ≠ a := fun z => by
    rw [z, hx] at h1
    cases h1
  refine ⟨ps, by rw [upd_ne n1]; exact h1, h2, fun pos cv hc => ?_⟩
  obtain ⟨c, e1, e2⟩ := h3 pos cv hc
  refine ⟨c, e1, ?_⟩
  have n2 : c ≠ a := fun z => by
    rw [z, hx] at e2
    unfold LamX.CodeO at e2
    cases e2
  rw [upd_ne n2]
  exact e2
/-- one step of the makers -/
def tRow (T : List (Addr × Str)) (K : PySem.W.Frag) (q : Str) (C : Addr) (fs : V → V → Option (List (Str × V))) (ws : V → V → List V) : TS := fun D σ H => ∃ (x y : V) (p : Addr) (items : List V),
  σ[0]? = some (some x) ∧ σ[1]? = some (some y) ∧ σ[3]? = some (some (.ref p)) ∧ H p = some (.lst items) ∧ items.length < 1000 ∧ LamX.Tabs T H ∧
  ∀ H' t, (∀ b o, b ≠ p → H b = some o → (∀ ps, o ≠ .tbl ps) → H' b = some o) → LamX.Tabs T H' → H t = none → H' p = some (.lst (items ++ [.ref t])) → Row K H H' q C (fs x y) (ws x y) t → (∀ b, H' b = none → H b = none) → D.nx σ H'
theorem PS.imp {X : Cx} {st : Stmt} {t u : TS} (h : PS X st t) (i : ∀ D σ H, u D σ H → t D σ H) : PS X st u := ⟨fun pins s σ H D I q => h.run pins s σ H D I (i D σ H q)⟩
theorem new_err1 {H : Hp} {m d C : Addr} {fs : List (Str × V)} (hm : H m = none) (ne : d ≠ m) (hd : upd H m (exo m C none) d = none) :
    Same H (upd (upd (upd H m (exo m C none)) d (exd d fs)) m (exo m C (some d))) ∧ ErrAt (upd (upd (upd H m (exo m C none)) d (exd d fs)) m (exo m C (some d))) m C (some fs) := by
  have hd0 : H d = none := by
    rw [upd_ne ne] at hd
    exact hd
  refine ⟨fun b o e => ?_, d, ne, upd_same, by rw [upd_ne ne, upd_same]⟩
  rw [upd_ne (ne_of_none e hm), upd_ne (ne_of_none e hd0), upd_ne (ne_of_none e hm)]
  exact e
theorem new_err2 {H : Hp} {m d C : Addr} {fs gs : List (Str × V)} (hm : H m = none) (ne : d ≠ m) (hd : upd H m (exo m C none) d = none) :
    Same H (upd (upd (upd (upd H m (exo m C none)) d (exd d fs)) m (exo m C (some d))) d (exd d gs)) ∧ ErrAt (upd (upd (upd (upd H m (exo m C none)) d (exd d fs)) m (exo m C (some d))) d (exd d gs)) m C (some gs) := by
  have hd0 : H d = none := by
    rw [upd_ne ne] at hd
    exact hd
  refine ⟨fun b o e => ?_, d, ne, by rw [upd_ne (Ne.symm ne), upd_same], upd_same⟩
  rw [upd_ne (ne_of_none e hd0), upd_ne (ne_of_none e hm), upd_ne (ne_of_none e hd0), upd_ne (ne_of_none e hm)]
  exact e
theorem new_err0 {H : Hp} {m C : Addr} (hm : H m = none) : Same H (upd H m (exo m C none)) ∧ ErrAt (upd H m (exo m C none)) m C none :=
  ⟨fun b o e => by rw [upd_ne (ne_of_none e hm)]; exact e, upd_same⟩
theorem ErrAt.same {H H' : Hp} {e C : Addr} {fs : Option (List (Str × V))} (h : ErrAt H e C fs) (k : Same H H') : ErrAt H' e C fs := h.keep fun b o e _ => k b o e
theorem ErrAt.ext {H H' : Hp} {e C : Addr} {fs : Option (List (Str × V))} (h : ErrAt H e C fs) (k : LamX.ExtN H H') : ErrAt H' e C fs := by
  cases fs with
  | none => exact k _ _ h fun ps z => exo_tbl z
  | some fs =>
    obtain ⟨d, h0, h1, h2⟩ := h
    exact ⟨d, h0, k _ _ h1 fun ps z => exo_tbl z, k _ _ h2 fun ps z => by unfold exd at z; cases z⟩
/-- the end of a row: two errors stand (H2), the lambda, the list, the tuple, the append -/
theorem row_end {K : PySem.W.Frag} {T : List (Addr × Str)} {q : Str} {C : Addr} {fs : Option (List (Str × V))} {ws items : List V} {H H2 H3 : Hp} {p m v f d t : Addr} {pA pB : Pos} {zs : List (Str × Pos × Pos)} (hp : H p = some (.lst items)) (s2 : Same H H2)
    (e1 : ErrAt H2 m C fs) (e2 : ErrAt H2 v C fs) (x3 : LamX.ExtN H2 H3) (t3 : LamX.Tabs T H3) (lam : LamAt H3 f q (lamArgs pA) (.List (readsOf zs) pB) lamScope) (F : Fields K C (fs.getD []) zs ws) (hz : zs.length ≤ 1000) (h2n : ∀ b, H3 b = none → H b = none)
    (hd : H3 d = none) (ht : upd H3 d (.lst ws) t = none) :
    upd (upd H3 d (.lst ws)) t (.tup [.ref m, .ref v, .ref f, .ref d]) p = some (.lst items) ∧
    ∀ H', H' = upd (upd (upd H3 d (.lst ws)) t (.tup [.ref m, .ref v, .ref f, .ref d])) p (.lst (items ++ [.ref t])) →
      (∀ b o, b ≠ p → H b = some o → (∀ ps, o ≠ .tbl ps) → H' b = some o) ∧ LamX.Tabs T H' ∧ H t = none ∧ H' p = some (.lst (items ++ [.ref t])) ∧ Row K H H' q C fs ws t ∧ ∀ b, H' b = none → H b = none := by
  have hp3 : H3 p = some (.lst items) := x3 _ _ (s2 _ _ hp) fun ps z => by cases z
  have pd : p ≠ d := ne_of_none hp3 hd
  have td : t ≠ d := fun z => by
    rw [z, upd_same] at ht
    cases ht
  have ht3 : H3 t = none := by
    rw [upd_ne td] at ht
    exact ht
  have pt : p ≠ t := ne_of_none hp3 ht3
  refine ⟨by rw [upd_ne pt, upd_ne pd]; exact hp3, ?_⟩
  rintro H' rfl
  have k3 : ∀ b o, b ≠ p → H3 b = some o → upd (upd (upd H3 d (.lst ws)) t (.tup [.ref m, .ref v, .ref f, .ref d])) p (.lst (items ++ [.ref t])) b = some o := fun b o n e => by
    rw [upd_ne n, upd_ne (ne_of_none e ht3), upd_ne (ne_of_none e hd)]
    exact e
  have np : ∀ b o, H3 b = some o → (∀ xs, o ≠ .lst xs) → b ≠ p := fun b o e n z => by
    rw [z, hp3] at e
    exact n _ (Option.some.inj e).symm
  refine ⟨fun b o n e nt => k3 b o n (x3 _ _ (s2 _ _ e) nt), ?_, h2n _ ht3, upd_same, ?_⟩
  · refine tabs_upd_lst (tabs_upd (tabs_upd t3 hd) (by rw [upd_ne td]; exact ht3)) ⟨items, ?_⟩
    rw [upd_ne pt, upd_ne pd]
    exact hp3
  · refine ⟨⟨m, v, f, d, pA, pB, zs, ?_, ?_, ?_, ?_, F, hz, ?_, h2n _ hd⟩, fun b z => h2n _ (none_upd (none_upd (none_upd z).2).2).2⟩
    · rw [upd_ne pt.symm, upd_same]
    · exact (e1.ext x3).keep fun b o e n => k3 b o (np b o e n) e
    · exact (e2.ext x3).keep fun b o e n => k3 b o (np b o e n) e
    · exact lam.keep fun b o e n => k3 b o (np b o e n) e
    · rw [upd_ne pd.symm, upd_ne td.symm, upd_same]
/-! ### the rows, as statements -/
section
variable {X : Cx}
theorem row1 {x f : Str} {C c P : Addr} {T : List (Addr × Str)} {p1 p2 p3 p4 p5 p6 p7 p8 p9 p10 p11 p12 p13 p14 p15 p16 p17 p18 p19 : Pos} (E : Err1 X.prog X.w X.K X.mg X.base x f C) (hr : Room 2 X.A) (hx : Gl X x)
    (v0 : X.N[0]? = some ("x" : Str)) (v3 : X.N[3]? = some ("found" : Str)) (l0 : X.env.scope.names.lookup ("x" : Str) = some .local) (l3 : X.env.scope.names.lookup ("found" : Str) = some .local)
    (TB : LamX.TabB X.base X.mg c P) (hcode : X.env.code = .ref c) (hm : (P, X.env.qual ++ "<lambda>") ∈ T) (hu : ∀ p ∈ T, p.1 = P → p.2 = X.env.qual ++ "<lambda>") (hdb : (x == ("__debug__" : Str)) = false)
    (hL : (p2.endLine == p17.line) = true) :
    PS X (.Expr (.Call (.Attribute (.Name "found" p1) "append" p2) [.Tuple [.Call (.Name x p3) [.Name "x" p4] [] p5, .Call (.Name x p6) [] [⟨some f, .Name "x" p7, p8⟩] p9,
        .Lambda (lamArgs p10) (.List [.Attribute (.Name "e" p11) f p12] p13) lamScope p14, .List [.Name "x" p15] p16] 0 p18] [] p17) p19)
      (tRow T X.K (X.env.qual ++ "<lambda>") C (fun x _ => some [(f, x)]) (fun x _ => [x])) := by
  obtain ⟨fI, fd, iC, tI, G, bI, kI⟩ := E.ini
  have px : ∀ p, PE X (.Name "x" p) (tVar 0) := fun p => pe_var v0 (.inl l0)
  have pf : PE X (.Name "found" p1) (tVar 3) := pe_var v3 (.inl l3)
  have e1 := pe_err (p := p3) (pos := p5) E.er.ox iC tI G hr bI hx E.gC (pa_cons (px p4) pa_nil) (by show 2 ≤ 1000; decide) hdb
  have e2 := pe_errK (p := p6) (pos := p9) (kws := [⟨some f, .Name "x" p7, p8⟩]) E.er.ox iC tI G hr kI hx E.gC (pk_cons (px p7) pk_nil) (by rfl) (by rfl) hdb (by rfl)
  have e3 := pe_lam (pos := p14) (params := lamArgs p10) (body := .List [.Attribute (.Name "e" p11) f p12] p13) (scope := lamScope) TB hcode hm hu (by rfl) (by rfl)
  have e4 : PE X (.List [.Name "x" p15] p16) _ := pe_lst (pa_cons (px p15) pa_nil)
  refine PS.imp (ps_expr (pe_bm PySem.F.plainAttrs_list PySem.F.slot_list_append PySem.F.type_list_append mt_append pf (pa_cons (pe_tup (pa_cons e1 (pa_cons e2 (pa_cons e3 (pa_cons e4 pa_nil))))) pa_nil) (by rfl) (by rfl) hL)) ?_
  rintro D σ H ⟨y, _, p, items, s0, _, s3, hp, hlen, tb, k⟩
  refine ⟨_, s3, .inl ⟨rfl, _, SqL.of hp⟩, y, s0, fun m hm => ⟨m, C, y, rfl, E.er.ox, E.nF, upd_same, fun d1 hd1 ne1 => ⟨rfl, ?_⟩⟩⟩
  obtain ⟨k1, a1⟩ := new_err1 (fs := [(f, y)]) hm ne1 hd1
  refine ⟨y, s0, rfl, fun v hv => ⟨v, C, y, rfl, E.er.ox, E.nF, upd_same, fun d2 hd2 ne2 => ⟨rfl, ?_⟩⟩⟩
  obtain ⟨k2, a2⟩ := new_err1 (fs := [(f, y)]) hv ne2 hd2
  refine ⟨tb.ext (k1.trans k2), fun g H3 x3 n3 t3 hg lam => ?_⟩
  refine ⟨y, s0, (by show 1 ≤ sizeLine; decide), fun d hd => ⟨(by show 4 ≤ sizeLine; decide), fun t ht => ?_⟩⟩
  obtain ⟨r1, r2⟩ := row_end (K := X.K) (q := X.env.qual ++ "<lambda>") (fs := some [(f, y)]) (ws := [y]) (zs := [(f, p11, p12)]) hp (k1.trans k2) (a1.same k2) a2 x3 t3 lam ⟨by show List.lookup f [(f, y)] = some y; simp [List.lookup], E.nF, True.intro⟩ (by show 1 ≤ 1000; decide)
    (fun b z => (k1.trans k2).free (n3 b z)) hd ht
  refine ⟨p, items, .ref t, rfl, rfl, r1, Nat.lt_of_lt_of_le hlen (by decide), ?_⟩
  obtain ⟨q1, q2, q3, q4, q5, q6⟩ := r2 _ rfl
  exact k _ t q1 q2 q3 q4 q5 q6
theorem row0 {x : Str} {C c P : Addr} {T : List (Addr × Str)} {p1 p2 p3 p5 p6 p9 p10 p13 p14 p16 p17 p18 p19 : Pos} (E : Err0 X.K X.mg x C) (hx : Gl X x)
    (v0 : X.N[0]? = some ("x" : Str)) (v3 : X.N[3]? = some ("found" : Str)) (l3 : X.env.scope.names.lookup ("found" : Str) = some .local)
    (TB : LamX.TabB X.base X.mg c P) (hcode : X.env.code = .ref c) (hm : (P, X.env.qual ++ "<lambda>") ∈ T) (hu : ∀ p ∈ T, p.1 = P → p.2 = X.env.qual ++ "<lambda>") (hdb : (x == ("__debug__" : Str)) = false)
    (hL : (p2.endLine == p17.line) = true) :
    PS X (.Expr (.Call (.Attribute (.Name "found" p1) "append" p2) [.Tuple [.Call (.Name x p3) [] [] p5, .Call (.Name x p6) [] [] p9,
        .Lambda (lamArgs p10) (.List [] p13) lamScope p14, .List [] p16] 0 p18] [] p17) p19)
      (tRow T X.K (X.env.qual ++ "<lambda>") C (fun _ _ => none) (fun _ _ => [])) := by
  have pf : PE X (.Name "found" p1) (tVar 3) := pe_var v3 (.inl l3)
  have e1 := pe_err0 (p := p3) (pos := p5) F.excBase_ValueError E.ex E.gC E.er.ox.kC hx hdb
  have e2 := pe_err0 (p := p6) (pos := p9) F.excBase_ValueError E.ex E.gC E.er.ox.kC hx hdb
  have e3 := pe_lam (pos := p14) (params := lamArgs p10) (body := .List [] p13) (scope := lamScope) TB hcode hm hu (by rfl) (by rfl)
  have e4 : PE X (.List [] p16) _ := pe_lst pa_nil
  refine PS.imp (ps_expr (pe_bm PySem.F.plainAttrs_list PySem.F.slot_list_append PySem.F.type_list_append mt_append pf (pa_cons (pe_tup (pa_cons e1 (pa_cons e2 (pa_cons e3 (pa_cons e4 pa_nil))))) pa_nil) (by rfl) (by rfl) hL)) ?_
  rintro D σ H ⟨_, _, p, items, _, _, s3, hp, hlen, tb, k⟩
  refine ⟨_, s3, .inl ⟨rfl, _, SqL.of hp⟩, fun m hm => ?_⟩
  obtain ⟨k1, a1⟩ := new_err0 (C := C) hm
  intro v hv
  obtain ⟨k2, a2⟩ := new_err0 (C := C) hv
  refine ⟨tb.ext (k1.trans k2), fun g H3 x3 n3 t3 hg lam => ?_⟩
  refine ⟨Nat.zero_le _, fun d hd => ⟨(by show 4 ≤ sizeLine; decide), fun t ht => ?_⟩⟩
  obtain ⟨r1, r2⟩ := row_end (K := X.K) (q := X.env.qual ++ "<lambda>") (fs := none) (ws := []) (zs := []) hp (k1.trans k2) (a1.same k2) a2 x3 t3 lam True.intro (Nat.zero_le _)
    (fun b z => (k1.trans k2).free (n3 b z)) hd ht
  refine ⟨p, items, .ref t, rfl, rfl, r1, Nat.lt_of_lt_of_le hlen (by decide), ?_⟩
  obtain ⟨q1, q2, q3, q4, q5, q6⟩ := r2 _ rfl
  exact k _ t q1 q2 q3 q4 q5 q6
theorem row2 {x f g : Str} {C c P : Addr} {T : List (Addr × Str)} {p1 p2 p3 p4 p4b p5 p6 p7 p7b p8 p8b p9 p10 p11 p11b p12 p12b p13 p14 p15 p15b p16 p17 p18 p19 : Pos} (E : Err2 X.prog X.w X.K X.mg X.base x f g C) (hr : Room 2 X.A) (hx : Gl X x) (hfg : f ≠ g)
    (v0 : X.N[0]? = some ("x" : Str)) (v1 : X.N[1]? = some ("y" : Str)) (v3 : X.N[3]? = some ("found" : Str)) (l0 : X.env.scope.names.lookup ("x" : Str) = some .local) (l1 : X.env.scope.names.lookup ("y" : Str) = some .local) (l3 : X.env.scope.names.lookup ("found" : Str) = some .local)
    (TB : LamX.TabB X.base X.mg c P) (hcode : X.env.code = .ref c) (hm : (P, X.env.qual ++ "<lambda>") ∈ T) (hu : ∀ p ∈ T, p.1 = P → p.2 = X.env.qual ++ "<lambda>") (hdb : (x == ("__debug__" : Str)) = false)
    (hL : (p2.endLine == p17.line) = true) :
    PS X (.Expr (.Call (.Attribute (.Name "found" p1) "append" p2) [.Tuple [.Call (.Name x p3) [.Name "x" p4, .Name "y" p4b] [] p5, .Call (.Name x p6) [] [⟨some g, .Name "y" p7, p8⟩, ⟨some f, .Name "x" p7b, p8b⟩] p9,
        .Lambda (lamArgs p10) (.List [.Attribute (.Name "e" p11) f p12, .Attribute (.Name "e" p11b) g p12b] p13) lamScope p14, .List [.Name "x" p15, .Name "y" p15b] p16] 0 p18] [] p17) p19)
      (tRow T X.K (X.env.qual ++ "<lambda>") C (fun x y => some [(g, y), (f, x)]) (fun x y => [x, y])) := by
  obtain ⟨fI, fd, iC, tI, G, bI, kI⟩ := E.ini
  have px : ∀ p, PE X (.Name "x" p) (tVar 0) := fun p => pe_var v0 (.inl l0)
  have py : ∀ p, PE X (.Name "y" p) (tVar 1) := fun p => pe_var v1 (.inl l1)
  have pf : PE X (.Name "found" p1) (tVar 3) := pe_var v3 (.inl l3)
  have e1 := pe_err (p := p3) (pos := p5) E.er.ox iC tI G hr bI hx E.gC (pa_cons (px p4) (pa_cons (py p4b) pa_nil)) (by show 3 ≤ 1000; decide) hdb
  have e2 := pe_errK (p := p6) (pos := p9) (kws := [⟨some g, .Name "y" p7, p8⟩, ⟨some f, .Name "x" p7b, p8b⟩]) E.er.ox iC tI G hr kI hx E.gC (pk_cons (py p7) (pk_cons (px p7b) pk_nil)) (by rfl) (by rfl) hdb (by rfl)
  have e3 := pe_lam (pos := p14) (params := lamArgs p10) (body := .List [.Attribute (.Name "e" p11) f p12, .Attribute (.Name "e" p11b) g p12b] p13) (scope := lamScope) TB hcode hm hu (by rfl) (by rfl)
  have e4 : PE X (.List [.Name "x" p15, .Name "y" p15b] p16) _ := pe_lst (pa_cons (px p15) (pa_cons (py p15b) pa_nil))
  refine PS.imp (ps_expr (pe_bm PySem.F.plainAttrs_list PySem.F.slot_list_append PySem.F.type_list_append mt_append pf (pa_cons (pe_tup (pa_cons e1 (pa_cons e2 (pa_cons e3 (pa_cons e4 pa_nil))))) pa_nil) (by rfl) (by rfl) hL)) ?_
  rintro D σ H ⟨y, z, p, items, s0, s1, s3, hp, hlen, tb, k⟩
  refine ⟨_, s3, .inl ⟨rfl, _, SqL.of hp⟩, y, s0, z, s1, fun m hm => ⟨m, C, y, z, rfl, E.er.ox, E.nF, E.nG, upd_same, fun d1 hd1 ne1 => ⟨rfl, ?_⟩⟩⟩
  obtain ⟨k1, a1⟩ := new_err2 (fs := [(f, y)]) (gs := [(g, z), (f, y)]) hm ne1 hd1
  refine ⟨z, s1, y, s0, rfl, fun v hv => ⟨v, C, y, z, rfl, E.er.ox, E.nF, E.nG, upd_same, fun d2 hd2 ne2 => ⟨rfl, ?_⟩⟩⟩
  obtain ⟨k2, a2⟩ := new_err2 (fs := [(f, y)]) (gs := [(g, z), (f, y)]) hv ne2 hd2
  refine ⟨tb.ext (k1.trans k2), fun h H3 x3 n3 t3 hg lam => ?_⟩
  refine ⟨y, s0, z, s1, (by show 2 ≤ sizeLine; decide), fun d hd => ⟨(by show 4 ≤ sizeLine; decide), fun t ht => ?_⟩⟩
  have lf : List.lookup f [(g, z), (f, y)] = some y := by
    have e : (f == g) = false := by simpa using hfg
    simp [List.lookup, e]
  obtain ⟨r1, r2⟩ := row_end (K := X.K) (q := X.env.qual ++ "<lambda>") (fs := some [(g, z), (f, y)]) (ws := [y, z]) (zs := [(f, p11, p12), (g, p11b, p12b)]) hp (k1.trans k2) (a1.same k2) a2 x3 t3 lam ⟨lf, E.nF, by show List.lookup g [(g, z), (f, y)] = some z; simp [List.lookup], E.nG, True.intro⟩ (by show 2 ≤ 1000; decide)
    (fun b z => (k1.trans k2).free (n3 b z)) hd ht
  refine ⟨p, items, .ref t, rfl, rfl, r1, Nat.lt_of_lt_of_le hlen (by decide), ?_⟩
  obtain ⟨q1, q2, q3, q4, q5, q6⟩ := r2 _ rfl
  exact k _ t q1 q2 q3 q4 q5 q6
end
end Lamp
namespace Lamp
open PySem PySem.Spec PyProof.Rows L2
/-! ### the makers -/
structure Info where
  C : Addr
  fs : V → V → Option (List (Str × V))
  ws : V → V → List V
abbrev Info.one (f : Str) (C : Addr) : Info := ⟨C, fun x _ => some [(f, x)], fun x _ => [x]⟩
abbrev Info.non (C : Addr) : Info := ⟨C, fun _ _ => none, fun _ _ => []⟩
abbrev Info.two (f g : Str) (C : Addr) : Info := ⟨C, fun x y => some [(g, y), (f, x)], fun x y => [x, y]⟩
def RowsAt (K : PySem.W.Frag) (Hb H : Hp) (x y : V) : List Info → List V → Prop
  | [], [] => True
  | i :: r, v :: vs => (∃ (t : Addr) (q : Str), v = .ref t ∧ Row K Hb H q i.C (i.fs x y) (i.ws x y) t) ∧ RowsAt K Hb H x y r vs
  | _, _ => False
theorem RowsAt.keep {K : PySem.W.Frag} {Hb H H' : Hp} {x y : V} (k : ∀ b o, H b = some o → (∀ ps, o ≠ .tbl ps) → (Hb b = none ∨ ∀ xs, o ≠ .lst xs) → H' b = some o) :
    ∀ {L : List Info} {vs : List V}, RowsAt K Hb H x y L vs → RowsAt K Hb H' x y L vs
  | [], [], _ => True.intro
  | _ :: _, _ :: _, ⟨⟨t, q, e, r⟩, h⟩ => ⟨⟨t, q, e, r.keep k⟩, RowsAt.keep k h⟩
  | [], _ :: _, h => h.elim
  | _ :: _, [], h => h.elim
theorem RowsAt.back {K : PySem.W.Frag} {Hb Hc H : Hp} {x y : V} (k : ∀ b, Hb b = none → Hc b = none) : ∀ {L : List Info} {vs : List V}, RowsAt K Hb H x y L vs → RowsAt K Hc H x y L vs
  | [], [], _ => True.intro
  | _ :: _, _ :: _, ⟨⟨t, q, e, m, v, f, d, pA, pB, zs, h1, h2, h3, h4, h5, h6, h7, h8⟩, h⟩ => ⟨⟨t, q, e, m, v, f, d, pA, pB, zs, h1, h2, h3, h4, h5, h6, h7, k _ h8⟩, RowsAt.back k h⟩
  | [], _ :: _, h => h.elim
  | _ :: _, [], h => h.elim
theorem RowsAt.app {K : PySem.W.Frag} {Hb H : Hp} {x y : V} : ∀ {L M : List Info} {vs us : List V}, RowsAt K Hb H x y L vs → RowsAt K Hb H x y M us → RowsAt K Hb H x y (L ++ M) (vs ++ us)
  | [], _, [], _, _, h => h
  | _ :: _, _, _ :: _, _, ⟨a, h⟩, g => ⟨a, RowsAt.app h g⟩
  | [], _, _ :: _, _, h, _ => h.elim
  | _ :: _, _, [], _, h, _ => h.elim
theorem RowsAt.len {K : PySem.W.Frag} {Hb H : Hp} {x y : V} : ∀ {L : List Info} {vs : List V}, RowsAt K Hb H x y L vs → vs.length = L.length
  | [], [], _ => rfl
  | _ :: _, _ :: _, ⟨_, h⟩ => congrArg Nat.succ (RowsAt.len h)
  | [], _ :: _, h => h.elim
  | _ :: _, [], h => h.elim
theorem RowsAt.at {K : PySem.W.Frag} {Hb H : Hp} {x y : V} : ∀ {L : List Info} {vs : List V} (j : Nat) {v : V}, RowsAt K Hb H x y L vs → vs[j]? = some v → ∃ i t q, L[j]? = some i ∧ v = .ref t ∧ Row K Hb H q i.C (i.fs x y) (i.ws x y) t
  | i :: _, _ :: _, 0, v, ⟨⟨t, q, e, r⟩, _⟩, hj => ⟨i, t, q, rfl, (Option.some.inj hj).symm.trans e, r⟩
  | _ :: L, _ :: vs, j + 1, v, ⟨_, h⟩, hj => RowsAt.at (L := L) (vs := vs) j h hj
  | [], [], j, v, _, hj => by simp at hj
  | [], _ :: _, _, _, h, _ => h.elim
  | _ :: _, [], _, _, h, _ => h.elim
def tRows (T : List (Addr × Str)) (K : PySem.W.Frag) (q : Str) : List Info → TS → TS
  | [], t => t
  | i :: r, t => tSeq (tRow T K q i.C i.fs i.ws) (tRows T K q r t)
theorem rows_chain {T : List (Addr × Str)} {K : PySem.W.Frag} {q : Str} {t : TS} {D : Ends} {σ : L2.St} {x y : V} {p : Addr} {H0 : Hp} (s0 : σ[0]? = some (some x)) (s1 : σ[1]? = some (some y)) (s3 : σ[3]? = some (some (.ref p))) (p0 : ∃ o, H0 p = some o) :
    ∀ (L : List Info) (M : List Info) (items : List V) (H : Hp), H p = some (.lst items) → items.length + L.length < 1000 → LamX.Tabs T H → (∀ b o, b ≠ p → H0 b = some o → (∀ ps, o ≠ .tbl ps) → H b = some o) → (∀ b, H b = none → H0 b = none) →
      RowsAt K H0 H x y M items →
      (∀ H' vs, H' p = some (.lst vs) → LamX.Tabs T H' → (∀ b o, b ≠ p → H0 b = some o → (∀ ps, o ≠ .tbl ps) → H' b = some o) → (∀ b, H' b = none → H0 b = none) → RowsAt K H0 H' x y (M ++ L) vs → t D σ H') →
      tRows T K q L t D σ H
  | [], M, items, H, hp, hl, tb, k, n, r, h => h H items hp tb k n (by rw [List.append_nil]; exact r)
  | i :: L, M, items, H, hp, hl, tb, k, n, r, h => by
    rw [List.length_cons] at hl
    refine ⟨x, y, p, items, s0, s1, s3, hp, by omega, tb, fun H' u k1 tb1 hu hp1 row n1 => ?_⟩
    refine rows_chain s0 s1 s3 p0 L (M ++ [i]) (items ++ [.ref u]) H' hp1 (by rw [List.length_append]; simp; omega) tb1 (fun b o nb e nt => k1 b o nb (k b o nb e nt) nt) (fun b z => n b (n1 b z)) ?_ ?_
    · refine RowsAt.app (r.keep fun b o e nt hb => ?_) ⟨⟨u, q, rfl, ?_⟩, True.intro⟩
      · have nb : b ≠ p := fun z => by
          rcases hb with hb | hb
          · obtain ⟨o0, e0⟩ := p0
            rw [z, e0] at hb
            cases hb
          · rw [z, hp] at e
            exact hb _ (Option.some.inj e).symm
        exact k1 b o nb e nt
      · obtain ⟨m, v, f, d, pA, pB, zs, h1, h2, h3, h4, h5, h6, h7, h8⟩ := row
        exact ⟨m, v, f, d, pA, pB, zs, h1, h2, h3, h4, h5, h6, h7, n _ h8⟩
    · intro H2 vs hp2 tb2 k2 n2 r2
      refine h H2 vs hp2 tb2 k2 n2 ?_
      rw [List.append_assoc] at r2
      exact r2
/-- what a maker promises -/
def spMade (K : PySem.W.Frag) (T : List (Addr × Str)) (L : List Info) : Sp := fun vs H Q _ => ∃ x y z : V, vs = [x, y, z] ∧ LamX.Tabs T H ∧
  ∀ H' p items, LamX.ExtN H H' → (∀ b, H' b = none → H b = none) → LamX.Tabs T H' → H p = none → H' p = some (.lst items) → RowsAt K H H' x y L items → Q (.ref p) H'
theorem made_reads {K : PySem.W.Frag} {T : List (Addr × Str)} {q : Str} {L : List Info} {vs : List V} {H : Hp} {Q : VK} {E : XK} {N : List Str} (hN : ∀ x y z : V, L2.start N [x, y, z] = [some x, some y, some z, none]) (hL : L.length < 1000) (h : spMade K T L vs H Q E) :
    tSeq (tAsg (tLst tNil) (gName 3)) (tRows T K q L (tRet (tVar 3))) { nx := fun _ H' => Q .non H', rt := Q } (L2.start N vs) H := by
  obtain ⟨x, y, z, rfl, tb, k⟩ := h
  rw [hN]
  refine ⟨Nat.zero_le _, fun p hp => ?_⟩
  refine rows_chain (H0 := upd H p (.lst [])) (x := x) (y := y) (p := p) rfl rfl rfl ⟨_, upd_same⟩ L [] [] _ upd_same (by simpa using hL) (tabs_upd tb hp) (fun b o _ e _ => e) (fun b z => z) True.intro ?_
  intro H' vs hp' tb' k' n' r
  refine ⟨_, rfl, k H' p vs (fun b o e nt => ?_) (fun b z => (none_upd (n' b z)).2) tb' hp hp' ?_⟩
  · exact k' b o (ne_of_none e hp) (by rw [upd_ne (ne_of_none e hp)]; exact e) nt
  · exact RowsAt.back (fun b z => (none_upd z).2) r
end Lamp
namespace Lamp
open PySem PySem.Spec PyProof.Rows L2
/-! ### the error classes, in their order -/
structure Cs (P : Program) (w : World) (K : PySem.W.Frag) (mg : Str → Option Value) (base : Heap) (ad : Nat → Addr) : Prop where
  e0 : Err1 P w K mg base "BadAsker" "thing" (ad 0)
  e1 : Err1 P w K mg base "BadBegun" "index" (ad 1)
  e2 : Err1 P w K mg base "BadBooks" "thing" (ad 2)
  e3 : Err1 P w K mg base "BadBox" "thing" (ad 3)
  e4 : Err1 P w K mg base "BadBoxed" "thing" (ad 4)
  e5 : Err1 P w K mg base "BadBranch" "thing" (ad 5)
  e6 : Err1 P w K mg base "BadBranches" "index" (ad 6)
  e7 : Err1 P w K mg base "BadCarrying" "index" (ad 7)
  e8 : Err1 P w K mg base "BadCounted" "thing" (ad 8)
  e9 : Err1 P w K mg base "BadDeed" "thing" (ad 9)
  e10 : Err1 P w K mg base "BadDoor" "thing" (ad 10)
  e11 : Err1 P w K mg base "BadDoors" "index" (ad 11)
  e12 : Err1 P w K mg base "BadEnds" "index" (ad 12)
  e13 : Err1 P w K mg base "BadHour" "thing" (ad 13)
  e14 : Err1 P w K mg base "BadHours" "thing" (ad 14)
  e15 : Err1 P w K mg base "BadIndex" "thing" (ad 15)
  e16 : Err1 P w K mg base "BadJudge" "thing" (ad 16)
  e17 : Err1 P w K mg base "BadKeeper" "thing" (ad 17)
  e18 : Err1 P w K mg base "BadKnown" "thing" (ad 18)
  e19 : Err1 P w K mg base "BadLeavings" "thing" (ad 19)
  e20 : Err1 P w K mg base "BadLedger" "thing" (ad 20)
  e21 : Err1 P w K mg base "BadLighter" "thing" (ad 21)
  e22 : Err1 P w K mg base "BadLots" "index" (ad 22)
  e23 : Err1 P w K mg base "BadMarks" "thing" (ad 23)
  e24 : Err1 P w K mg base "BadName" "thing" (ad 24)
  e25 : Err1 P w K mg base "BadNames" "thing" (ad 25)
  e26 : Err1 P w K mg base "BadNumber" "thing" (ad 26)
  e27 : Err1 P w K mg base "BadOrder" "index" (ad 27)
  e28 : Err1 P w K mg base "BadPasses" "thing" (ad 28)
  e29 : Err1 P w K mg base "BadPrices" "thing" (ad 29)
  e30 : Err1 P w K mg base "BadQuestion" "thing" (ad 30)
  e31 : Err1 P w K mg base "BadRecords" "index" (ad 31)
  e32 : Err1 P w K mg base "BadRim" "thing" (ad 32)
  e33 : Err1 P w K mg base "BadRooms" "index" (ad 33)
  e34 : Err1 P w K mg base "BadSeen" "thing" (ad 34)
  e35 : Err1 P w K mg base "BadSome" "index" (ad 35)
  e36 : Err1 P w K mg base "BadSums" "index" (ad 36)
  e37 : Err1 P w K mg base "BadText" "line" (ad 37)
  e38 : Err1 P w K mg base "BadVector" "thing" (ad 38)
  e39 : Err1 P w K mg base "BadWhen" "thing" (ad 39)
  e40 : Err1 P w K mg base "BadWords" "index" (ad 40)
  e41 : Err0 K mg "CanBeTold" (ad 41)
  e42 : Err1 P w K mg base "CommonRoom" "name" (ad 42)
  e43 : Err1 P w K mg base "InUse" "question" (ad 43)
  e44 : Err1 P w K mg base "IsWatched" "thing" (ad 44)
  e45 : Err1 P w K mg base "LampStands" "name" (ad 45)
  e46 : Err0 K mg "NeverSo" (ad 46)
  e47 : Err1 P w K mg base "NoCarrying" "paper" (ad 47)
  e48 : Err1 P w K mg base "NoCount" "thing" (ad 48)
  e49 : Err2 P w K mg base "NoDoor" "one" "other" (ad 49)
  e50 : Err1 P w K mg base "NoHouse" "records" (ad 50)
  e51 : Err0 K mg "NoLamp" (ad 51)
  e52 : Err1 P w K mg base "NoQuestion" "thing" (ad 52)
  e53 : Err1 P w K mg base "NoRoom" "thing" (ad 53)
  e54 : Err1 P w K mg base "NoSuch" "thing" (ad 54)
  e55 : Err1 P w K mg base "NoTruth" "thing" (ad 55)
  e56 : Err1 P w K mg base "NotDark" "name" (ad 56)
  e57 : Err1 P w K mg base "NotFull" "thing" (ad 57)
  e58 : Err1 P w K mg base "NotJoined" "room" (ad 58)
  e59 : Err1 P w K mg base "NotLeaf" "name" (ad 59)
  e60 : Err1 P w K mg base "NotOneDoor" "thing" (ad 60)
  e61 : Err0 K mg "NotPossible" (ad 61)
  e62 : Err1 P w K mg base "NotWatched" "thing" (ad 62)
  e63 : Err0 K mg "NothingFits" (ad 63)
  e64 : Err1 P w K mg base "SameRoom" "thing" (ad 64)
  e65 : Err1 P w K mg base "TakenRoom" "name" (ad 65)
  e66 : Err1 P w K mg base "TooMany" "hours" (ad 66)
  e67 : Err0 K mg "UnlikeDoors" (ad 67)
  e68 : Err1 P w K mg base "UnlikeRooms" "room" (ad 68)
  e69 : Err1 P w K mg base "WouldChange" "question" (ad 69)
def La (ad : Nat → Addr) : List Info := [Info.one "thing" (ad 0), Info.one "index" (ad 1), Info.one "thing" (ad 2), Info.one "thing" (ad 3), Info.one "thing" (ad 4), Info.one "thing" (ad 5), Info.one "index" (ad 6), Info.one "index" (ad 7), Info.one "thing" (ad 8), Info.one "thing" (ad 9), Info.one "thing" (ad 10), Info.one "index" (ad 11), Info.one "index" (ad 12), Info.one "thing" (ad 13), Info.one "thing" (ad 14), Info.one "thing" (ad 15), Info.one "thing" (ad 16), Info.one "thing" (ad 17)]
abbrev sMadea : Stmt := top 76
def Lb (ad : Nat → Addr) : List Info := [Info.one "thing" (ad 18), Info.one "thing" (ad 19), Info.one "thing" (ad 20), Info.one "thing" (ad 21), Info.one "index" (ad 22), Info.one "thing" (ad 23), Info.one "thing" (ad 24), Info.one "thing" (ad 25), Info.one "thing" (ad 26), Info.one "index" (ad 27), Info.one "thing" (ad 28), Info.one "thing" (ad 29), Info.one "thing" (ad 30), Info.one "index" (ad 31), Info.one "thing" (ad 32), Info.one "index" (ad 33), Info.one "thing" (ad 34), Info.one "index" (ad 35)]
abbrev sMadeb : Stmt := top 77
def Lc (ad : Nat → Addr) : List Info := [Info.one "index" (ad 36), Info.one "line" (ad 37), Info.one "thing" (ad 38), Info.one "thing" (ad 39), Info.one "index" (ad 40), Info.non (ad 41), Info.one "name" (ad 42), Info.one "question" (ad 43), Info.one "thing" (ad 44), Info.one "name" (ad 45), Info.non (ad 46), Info.one "paper" (ad 47), Info.one "thing" (ad 48), Info.two "one" "other" (ad 49), Info.one "records" (ad 50), Info.non (ad 51), Info.one "thing" (ad 52), Info.one "thing" (ad 53)]
abbrev sMadec : Stmt := top 78
def Ld (ad : Nat → Addr) : List Info := [Info.one "thing" (ad 54), Info.one "thing" (ad 55), Info.one "name" (ad 56), Info.one "thing" (ad 57), Info.one "room" (ad 58), Info.one "name" (ad 59), Info.one "thing" (ad 60), Info.non (ad 61), Info.one "thing" (ad 62), Info.non (ad 63), Info.one "thing" (ad 64), Info.one "name" (ad 65), Info.one "hours" (ad 66), Info.non (ad 67), Info.one "room" (ad 68), Info.one "question" (ad 69)]
abbrev sMaded : Stmt := top 79
/-- a def whose code object stands at c -/
def FunC (K : PySem.W.Frag) (x : Str) (st : Stmt) (f c : Addr) (fd : FuncData) : Prop := ∃ (oc : Value) (od : Option Addr) (kV doc pm : Value) (an : Option Addr) (ct : Value) (osl : Array (Option Value)),
  fd = PySem.W.fnOf x x (defArgs st) (defBody st) (defScope st) .none kV doc pm an (.ref c) ct ∧ K.lookup f = some ⟨oc, od, .func fd, osl⟩ ∧ PySem.W.codeIn K (.ref c) x = true
theorem funC_ok {P : Program} {w : World} {K : PySem.W.Frag} {mg : Str → Option Value} {base : Heap} {x : Str} {st : Stmt} {f c : Addr} {fd : FuncData} {N ps : List Str} {k : Nat} {sp : Sp} (F : FunC K x st f c fd) (S : FnScope N ps (defScope st)) (len : ∀ vs H Q E, sp vs H Q E → vs.length = ps.length)
    (hbody : ∀ (A : Around) (outer : List Env) (s : Shared) (H : Hp) (vs : List V) (Q : VK) (E : XK), Room k (A.deeper (envOfC x (defScope st) s.heap.objs.size f (.ref c))) → sp vs H Q E →
      ∃ t, PSs (cxOf CX0 P w K mg base N x (defScope st) f (.ref c) A outer s H E).nox (defBody st) t ∧ t { nx := fun _ H' => Q .non H', rt := Q } (L2.start N vs) H) : FnOk P w K mg base CX0 (k + 1) f fd ps sp := by
  obtain ⟨oc, od, kV, doc, pm, an, ct, osl, rfl, lk, hcd⟩ := F
  refine fn_of lk hcd S len fun A outer s H vs Q E hr hsp => ?_
  obtain ⟨t, h, q⟩ := hbody A outer s H vs Q E hr hsp
  exact ⟨t, h.nox, q⟩
section
variable {P : Program} {w : World} {K : PySem.W.Frag} {mg : Str → Option Value} {base : Heap} {ad : Nat → Addr} {T : List (Addr × Str)}
theorem sc_a : FnScope ["x", "y", "z", "found"] ["x", "y", "z"] (defScope sMadea) := ⟨rfl, rfl, rfl, by decide +kernel, rfl, by decide +kernel, by decide +kernel⟩
theorem ok_madea {f c P0 : Addr} {fd : FuncData} (F : FunC K "_law_made_a" sMadea f c fd) (c0 : Cs P w K mg base ad) (TB : LamX.TabB base mg c P0) (hm : (P0, ("_law_made_a.<locals>.<lambda>" : Str)) ∈ T) (hu : ∀ p ∈ T, p.1 = P0 → p.2 = ("_law_made_a.<locals>.<lambda>" : Str)) :
    FnOk P w K mg base CX0 3 f fd ["x", "y", "z"] (spMade K T (La ad)) := by
  refine funC_ok F sc_a (fun vs H Q E h => ?_) (fun A outer s H vs Q E hr h => ?_)
  · obtain ⟨x, y, z, rfl, _⟩ := h
    rfl
  · refine ⟨tSeq (tAsg (tLst tNil) (gName 3)) (tRows T K ("_law_made_a.<locals>.<lambda>" : Str) (La ad) (tRet (tVar 3))), ?_, made_reads (fun _ _ _ => rfl) (by show 18 < 1000; decide) h⟩
    exact pss_cons (ps_set (i := 3) sc_a.nd rfl (Or.inl rfl) (pe_lst pa_nil)) (
      pss_cons (row1 c0.e0 hr (by rfl) rfl rfl rfl rfl TB rfl hm hu (by decide +kernel) (by rfl)) (
      pss_cons (row1 c0.e1 hr (by rfl) rfl rfl rfl rfl TB rfl hm hu (by decide +kernel) (by rfl)) (
      pss_cons (row1 c0.e2 hr (by rfl) rfl rfl rfl rfl TB rfl hm hu (by decide +kernel) (by rfl)) (
      pss_cons (row1 c0.e3 hr (by rfl) rfl rfl rfl rfl TB rfl hm hu (by decide +kernel) (by rfl)) (
      pss_cons (row1 c0.e4 hr (by rfl) rfl rfl rfl rfl TB rfl hm hu (by decide +kernel) (by rfl)) (
      pss_cons (row1 c0.e5 hr (by rfl) rfl rfl rfl rfl TB rfl hm hu (by decide +kernel) (by rfl)) (
      pss_cons (row1 c0.e6 hr (by rfl) rfl rfl rfl rfl TB rfl hm hu (by decide +kernel) (by rfl)) (
      pss_cons (row1 c0.e7 hr (by rfl) rfl rfl rfl rfl TB rfl hm hu (by decide +kernel) (by rfl)) (
      pss_cons (row1 c0.e8 hr (by rfl) rfl rfl rfl rfl TB rfl hm hu (by decide +kernel) (by rfl)) (
      pss_cons (row1 c0.e9 hr (by rfl) rfl rfl rfl rfl TB rfl hm hu (by decide +kernel) (by rfl)) (
      pss_cons (row1 c0.e10 hr (by rfl) rfl rfl rfl rfl TB rfl hm hu (by decide +kernel) (by rfl)) (
      pss_cons (row1 c0.e11 hr (by rfl) rfl rfl rfl rfl TB rfl hm hu (by decide +kernel) (by rfl)) (
      pss_cons (row1 c0.e12 hr (by rfl) rfl rfl rfl rfl TB rfl hm hu (by decide +kernel) (by rfl)) (
      pss_cons (row1 c0.e13 hr (by rfl) rfl rfl rfl rfl TB rfl hm hu (by decide +kernel) (by rfl)) (
      pss_cons (row1 c0.e14 hr (by rfl) rfl rfl rfl rfl TB rfl hm hu (by decide +kernel) (by rfl)) (
      pss_cons (row1 c0.e15 hr (by rfl) rfl rfl rfl rfl TB rfl hm hu (by decide +kernel) (by rfl)) (
      pss_cons (row1 c0.e16 hr (by rfl) rfl rfl rfl rfl TB rfl hm hu (by decide +kernel) (by rfl)) (
      pss_cons (row1 c0.e17 hr (by rfl) rfl rfl rfl rfl TB rfl hm hu (by decide +kernel) (by rfl)) (pss_one (ps_ret (pv 3)))))))))))))))))))))
theorem sc_b : FnScope ["x", "y", "z", "found"] ["x", "y", "z"] (defScope sMadeb) := ⟨rfl, rfl, rfl, by decide +kernel, rfl, by decide +kernel, by decide +kernel⟩
theorem ok_madeb {f c P0 : Addr} {fd : FuncData} (F : FunC K "_law_made_b" sMadeb f c fd) (c0 : Cs P w K mg base ad) (TB : LamX.TabB base mg c P0) (hm : (P0, ("_law_made_b.<locals>.<lambda>" : Str)) ∈ T) (hu : ∀ p ∈ T, p.1 = P0 → p.2 = ("_law_made_b.<locals>.<lambda>" : Str)) :
    FnOk P w K mg base CX0 3 f fd ["x", "y", "z"] (spMade K T (Lb ad)) := by
  refine funC_ok F sc_b (fun vs H Q E h => ?_) (fun A outer s H vs Q E hr h => ?_)
  · obtain ⟨x, y, z, rfl, _⟩ := h
    rfl
  · refine ⟨tSeq (tAsg (tLst tNil) (gName 3)) (tRows T K ("_law_made_b.<locals>.<lambda>" : Str) (Lb ad) (tRet (tVar 3))), ?_, made_reads (fun _ _ _ => rfl) (by show 18 < 1000; decide) h⟩
    exact pss_cons (ps_set (i := 3) sc_b.nd rfl (Or.inl rfl) (pe_lst pa_nil)) (
      pss_cons (row1 c0.e18 hr (by rfl) rfl rfl rfl rfl TB rfl hm hu (by decide +kernel) (by rfl)) (
      pss_cons (row1 c0.e19 hr (by rfl) rfl rfl rfl rfl TB rfl hm hu (by decide +kernel) (by rfl)) (
      pss_cons (row1 c0.e20 hr (by rfl) rfl rfl rfl rfl TB rfl hm hu (by decide +kernel) (by rfl)) (
      pss_cons (row1 c0.e21 hr (by rfl) rfl rfl rfl rfl TB rfl hm hu (by decide +kernel) (by rfl)) (
      pss_cons (row1 c0.e22 hr (by rfl) rfl rfl rfl rfl TB rfl hm hu (by decide +kernel) (by rfl)) (
      pss_cons (row1 c0.e23 hr (by rfl) rfl rfl rfl rfl TB rfl hm hu (by decide +kernel) (by rfl)) (
      pss_cons (row1 c0.e24 hr (by rfl) rfl rfl rfl rfl TB rfl hm hu (by decide +kernel) (by rfl)) (
      pss_cons (row1 c0.e25 hr (by rfl) rfl rfl rfl rfl TB rfl hm hu (by decide +kernel) (by rfl)) (
      pss_cons (row1 c0.e26 hr (by rfl) rfl rfl rfl rfl TB rfl hm hu (by decide +kernel) (by rfl)) (
      pss_cons (row1 c0.e27 hr (by rfl) rfl rfl rfl rfl TB rfl hm hu (by decide +kernel) (by rfl)) (
      pss_cons (row1 c0.e28 hr (by rfl) rfl rfl rfl rfl TB rfl hm hu (by decide +kernel) (by rfl)) (
      pss_cons (row1 c0.e29 hr (by rfl) rfl rfl rfl rfl TB rfl hm hu (by decide +kernel) (by rfl)) (
      pss_cons (row1 c0.e30 hr (by rfl) rfl rfl rfl rfl TB rfl hm hu (by decide +kernel) (by rfl)) (
      pss_cons (row1 c0.e31 hr (by rfl) rfl rfl rfl rfl TB rfl hm hu (by decide +kernel) (by rfl)) (
      pss_cons (row1 c0.e32 hr (by rfl) rfl rfl rfl rfl TB rfl hm hu (by decide +kernel) (by rfl)) (
      pss_cons (row1 c0.e33 hr (by rfl) rfl rfl rfl rfl TB rfl hm hu (by decide +kernel) (by rfl)) (
      pss_cons (row1 c0.e34 hr (by rfl) rfl rfl rfl rfl TB rfl hm hu (by decide +kernel) (by rfl)) (
      pss_cons (row1 c0.e35 hr (by rfl) rfl rfl rfl rfl TB rfl hm hu (by decide +kernel) (by rfl)) (pss_one (ps_ret (pv 3)))))))))))))))))))))
theorem sc_c : FnScope ["x", "y", "z", "found"] ["x", "y", "z"] (defScope sMadec) := ⟨rfl, rfl, rfl, by decide +kernel, rfl, by decide +kernel, by decide +kernel⟩
theorem ok_madec {f c P0 : Addr} {fd : FuncData} (F : FunC K "_law_made_c" sMadec f c fd) (c0 : Cs P w K mg base ad) (TB : LamX.TabB base mg c P0) (hm : (P0, ("_law_made_c.<locals>.<lambda>" : Str)) ∈ T) (hu : ∀ p ∈ T, p.1 = P0 → p.2 = ("_law_made_c.<locals>.<lambda>" : Str)) :
    FnOk P w K mg base CX0 3 f fd ["x", "y", "z"] (spMade K T (Lc ad)) := by
  refine funC_ok F sc_c (fun vs H Q E h => ?_) (fun A outer s H vs Q E hr h => ?_)
  · obtain ⟨x, y, z, rfl, _⟩ := h
    rfl
  · refine ⟨tSeq (tAsg (tLst tNil) (gName 3)) (tRows T K ("_law_made_c.<locals>.<lambda>" : Str) (Lc ad) (tRet (tVar 3))), ?_, made_reads (fun _ _ _ => rfl) (by show 18 < 1000; decide) h⟩
    exact pss_cons (ps_set (i := 3) sc_c.nd rfl (Or.inl rfl) (pe_lst pa_nil)) (
      pss_cons (row1 c0.e36 hr (by rfl) rfl rfl rfl rfl TB rfl hm hu (by decide +kernel) (by rfl)) (
      pss_cons (row1 c0.e37 hr (by rfl) rfl rfl rfl rfl TB rfl hm hu (by decide +kernel) (by rfl)) (
      pss_cons (row1 c0.e38 hr (by rfl) rfl rfl rfl rfl TB rfl hm hu (by decide +kernel) (by rfl)) (
      pss_cons (row1 c0.e39 hr (by rfl) rfl rfl rfl rfl TB rfl hm hu (by decide +kernel) (by rfl)) (
      pss_cons (row1 c0.e40 hr (by rfl) rfl rfl rfl rfl TB rfl hm hu (by decide +kernel) (by rfl)) (
      pss_cons (row0 c0.e41 (by rfl) rfl rfl rfl TB rfl hm hu (by decide +kernel) (by rfl)) (
      pss_cons (row1 c0.e42 hr (by rfl) rfl rfl rfl rfl TB rfl hm hu (by decide +kernel) (by rfl)) (
      pss_cons (row1 c0.e43 hr (by rfl) rfl rfl rfl rfl TB rfl hm hu (by decide +kernel) (by rfl)) (
      pss_cons (row1 c0.e44 hr (by rfl) rfl rfl rfl rfl TB rfl hm hu (by decide +kernel) (by rfl)) (
      pss_cons (row1 c0.e45 hr (by rfl) rfl rfl rfl rfl TB rfl hm hu (by decide +kernel) (by rfl)) (
      pss_cons (row0 c0.e46 (by rfl) rfl rfl rfl TB rfl hm hu (by decide +kernel) (by rfl)) (
      pss_cons (row1 c0.e47 hr (by rfl) rfl rfl rfl rfl TB rfl hm hu (by decide +kernel) (by rfl)) (
      pss_cons (row1 c0.e48 hr (by rfl) rfl rfl rfl rfl TB rfl hm hu (by decide +kernel) (by rfl)) (
      pss_cons (row2 c0.e49 hr (by rfl) (by decide +kernel) rfl rfl rfl rfl rfl rfl TB rfl hm hu (by decide +kernel) (by rfl)) (
      pss_cons (row1 c0.e50 hr (by rfl) rfl rfl rfl rfl TB rfl hm hu (by decide +kernel) (by rfl)) (
      pss_cons (row0 c0.e51 (by rfl) rfl rfl rfl TB rfl hm hu (by decide +kernel) (by rfl)) (
      pss_cons (row1 c0.e52 hr (by rfl) rfl rfl rfl rfl TB rfl hm hu (by decide +kernel) (by rfl)) (
      pss_cons (row1 c0.e53 hr (by rfl) rfl rfl rfl rfl TB rfl hm hu (by decide +kernel) (by rfl)) (pss_one (ps_ret (pv 3)))))))))))))))))))))
theorem sc_d : FnScope ["x", "y", "z", "found"] ["x", "y", "z"] (defScope sMaded) := ⟨rfl, rfl, rfl, by decide +kernel, rfl, by decide +kernel, by decide +kernel⟩
theorem ok_maded {f c P0 : Addr} {fd : FuncData} (F : FunC K "_law_made_d" sMaded f c fd) (c0 : Cs P w K mg base ad) (TB : LamX.TabB base mg c P0) (hm : (P0, ("_law_made_d.<locals>.<lambda>" : Str)) ∈ T) (hu : ∀ p ∈ T, p.1 = P0 → p.2 = ("_law_made_d.<locals>.<lambda>" : Str)) :
    FnOk P w K mg base CX0 3 f fd ["x", "y", "z"] (spMade K T (Ld ad)) := by
  refine funC_ok F sc_d (fun vs H Q E h => ?_) (fun A outer s H vs Q E hr h => ?_)
  · obtain ⟨x, y, z, rfl, _⟩ := h
    rfl
  · refine ⟨tSeq (tAsg (tLst tNil) (gName 3)) (tRows T K ("_law_made_d.<locals>.<lambda>" : Str) (Ld ad) (tRet (tVar 3))), ?_, made_reads (fun _ _ _ => rfl) (by show 16 < 1000; decide) h⟩
    exact pss_cons (ps_set (i := 3) sc_d.nd rfl (Or.inl rfl) (pe_lst pa_nil)) (
      pss_cons (row1 c0.e54 hr (by rfl) rfl rfl rfl rfl TB rfl hm hu (by decide +kernel) (by rfl)) (
      pss_cons (row1 c0.e55 hr (by rfl) rfl rfl rfl rfl TB rfl hm hu (by decide +kernel) (by rfl)) (
      pss_cons (row1 c0.e56 hr (by rfl) rfl rfl rfl rfl TB rfl hm hu (by decide +kernel) (by rfl)) (
      pss_cons (row1 c0.e57 hr (by rfl) rfl rfl rfl rfl TB rfl hm hu (by decide +kernel) (by rfl)) (
      pss_cons (row1 c0.e58 hr (by rfl) rfl rfl rfl rfl TB rfl hm hu (by decide +kernel) (by rfl)) (
      pss_cons (row1 c0.e59 hr (by rfl) rfl rfl rfl rfl TB rfl hm hu (by decide +kernel) (by rfl)) (
      pss_cons (row1 c0.e60 hr (by rfl) rfl rfl rfl rfl TB rfl hm hu (by decide +kernel) (by rfl)) (
      pss_cons (row0 c0.e61 (by rfl) rfl rfl rfl TB rfl hm hu (by decide +kernel) (by rfl)) (
      pss_cons (row1 c0.e62 hr (by rfl) rfl rfl rfl rfl TB rfl hm hu (by decide +kernel) (by rfl)) (
      pss_cons (row0 c0.e63 (by rfl) rfl rfl rfl TB rfl hm hu (by decide +kernel) (by rfl)) (
      pss_cons (row1 c0.e64 hr (by rfl) rfl rfl rfl rfl TB rfl hm hu (by decide +kernel) (by rfl)) (
      pss_cons (row1 c0.e65 hr (by rfl) rfl rfl rfl rfl TB rfl hm hu (by decide +kernel) (by rfl)) (
      pss_cons (row1 c0.e66 hr (by rfl) rfl rfl rfl rfl TB rfl hm hu (by decide +kernel) (by rfl)) (
      pss_cons (row0 c0.e67 (by rfl) rfl rfl rfl TB rfl hm hu (by decide +kernel) (by rfl)) (
      pss_cons (row1 c0.e68 hr (by rfl) rfl rfl rfl rfl TB rfl hm hu (by decide +kernel) (by rfl)) (
      pss_cons (row1 c0.e69 hr (by rfl) rfl rfl rfl rfl TB rfl hm hu (by decide +kernel) (by rfl)) (pss_one (ps_ret (pv 3)))))))))))))))))))
end
end Lamp
namespace Lamp
open PySem PySem.Spec PyProof.Rows L2
/-! ### of which classes an error is -/
theorem PE.imp {X : Cx} {e : Expr} {t u : TE} (h : PE X e t) (i : ∀ σ H Q, u σ H Q → t σ H Q) : PE X e u := ⟨fun pins s σ H Q I q => h.run pins s σ H Q I (i σ H Q q)⟩
/-- isinstance of the classes, one by one -/
def KitAll (K : PySem.W.Frag) (ad : Nat → Addr) : Prop := ∀ i j, i < 71 → j < 70 → PySem.W.kitOne K (.ref (ad i)) (.ref (ad j)) = some (decide (j = i))
def isRow (i a n : Nat) : List V := (List.range' a n).map fun j => .bl (decide (j = i))
/-- found.extend([isinstance(e, A), isinstance(e, B)]) -/
def tExt (K : PySem.W.Frag) (ad : Nat → Addr) (j k : Nat) : TS := fun D σ H => ∃ (e p : Addr) (i : Nat) (fs : Option (List (Str × V))) (items : List V), σ[0]? = some (some (.ref e)) ∧ σ[1]? = some (some (.ref p)) ∧ i < 71 ∧ ErrC K (ad i) ∧ ErrAt H e (ad i) fs ∧
  H p = some (.lst items) ∧ items.length < 1000 ∧ ∀ H', (∀ b o, b ≠ p → H b = some o → H' b = some o) → H' p = some (.lst (items ++ [.bl (decide (j = i)), .bl (decide (k = i))])) → D.nx σ H'
section
variable {X : Cx}
theorem ext_row {x y : Str} {j k : Nat} {ad : Nat → Addr} {p1 p2 p3 p4 p5 p6 p7 p8 p9 p10 p11 p12 p13 : Pos} (D : DesC X.K) (KA : KitAll X.K ad) (hj : j < 70) (hk : k < 70) (mx : X.mg x = some (.ref (ad j))) (my : X.mg y = some (.ref (ad k))) (gx : Gl X x) (gy : Gl X y)
    (v0 : X.N[0]? = some ("e" : Str)) (v1 : X.N[1]? = some ("found" : Str)) (l0 : X.env.scope.names.lookup ("e" : Str) = some .local) (l1 : X.env.scope.names.lookup ("found" : Str) = some .local) (gi : Gl X "isinstance") (mi : X.mg "isinstance" = none)
    (dx : (x == ("__debug__" : Str)) = false) (dy : (y == ("__debug__" : Str)) = false) (hL : (p2.endLine == p13.line) = true) :
    PS X (.Expr (.Call (.Attribute (.Name "found" p1) "extend" p2) [.List [.Call (.Name "isinstance" p3) [.Name "e" p4, .Name x p5] [] p6, .Call (.Name "isinstance" p7) [.Name "e" p8, .Name y p9] [] p10] p11] [] p13) p12) (tExt X.K ad j k) := by
  have pe : ∀ p, PE X (.Name "e" p) (tVar 0) := fun p => pe_var v0 (.inl l0)
  have pf : PE X (.Name "found" p1) (tVar 1) := pe_var v1 (.inl l1)
  have pX : PE X (.Name x p5) (tC (.ref (ad j))) := pe_glob gx mx rfl dx
  have pY : PE X (.Name y p9) (tC (.ref (ad k))) := pe_glob gy my rfl dy
  have i1 := pe_callB (p := p3) (pos := p6) (call_isErr D) gi mi PyProof.Rows.Boot.isinstance (pa_cons (pe p4) (pa_cons pX pa_nil))
  have i2 := pe_callB (p := p7) (pos := p10) (call_isErr D) gi mi PyProof.Rows.Boot.isinstance (pa_cons (pe p8) (pa_cons pY pa_nil))
  have l : PE X (.List [.Call (.Name "isinstance" p3) [.Name "e" p4, .Name x p5] [] p6, .Call (.Name "isinstance" p7) [.Name "e" p8, .Name y p9] [] p10] p11) _ := pe_lst (pa_cons i1 (pa_cons i2 pa_nil))
  refine PS.imp (ps_expr (pe_bm PySem.F.plainAttrs_list PySem.F.slot_list_extend PySem.F.type_list_extend mt_extend pf (pa_cons l pa_nil) (by rfl) (by rfl) hL)) ?_
  rintro D σ H ⟨e, p, i, fs, items, s0, s1, hi, T, he, hp, hl, h⟩
  refine ⟨_, s1, .inl ⟨rfl, _, SqL.of hp⟩, _, s0, e, ad i, fs, _, _, _, rfl, T, he, .own _, KA i j hi hj, _, s0, e, ad i, fs, _, _, _, rfl, T, he, .own _, KA i k hi hk, (by show 2 ≤ sizeLine; decide), fun d hd => ?_⟩
  have pd : p ≠ d := ne_of_none hp hd
  refine ⟨p, d, items, _, rfl, rfl, by rw [upd_ne pd]; exact hp, upd_same, by show items.length + 2 ≤ sizeLine; rw [sizeLine_eq]; omega, ?_⟩
  refine h _ (fun b o n z => ?_) upd_same
  rw [upd_ne n, upd_ne (ne_of_none z hd)]
  exact z
end
def tExts (K : PySem.W.Frag) (ad : Nat → Addr) : Nat → Nat → TS → TS
  | _, 0, t => t
  | a, n + 1, t => tSeq (tExt K ad a (a + 1)) (tExts K ad (a + 2) n t)
theorem isRow_two (i a n : Nat) : isRow i a (n + 2) = .bl (decide (a = i)) :: .bl (decide (a + 1 = i)) :: isRow i (a + 2) n := rfl
theorem exts_chain {K : PySem.W.Frag} {ad : Nat → Addr} {t : TS} {D : Ends} {σ : L2.St} {e p : Addr} {i : Nat} {fs : Option (List (Str × V))} {H0 : Hp} (s0 : σ[0]? = some (some (.ref e))) (s1 : σ[1]? = some (some (.ref p))) (hi : i < 71) (T : ErrC K (ad i)) (he : ErrAt H0 e (ad i) fs) (hp0 : ∃ xs, H0 p = some (.lst xs)) :
    ∀ (n a : Nat) (items : List V) (H : Hp), H p = some (.lst items) → items.length + 2 * n < 1000 → (∀ b o, b ≠ p → H0 b = some o → H b = some o) →
      (∀ H', (∀ b o, b ≠ p → H0 b = some o → H' b = some o) → H' p = some (.lst (items ++ isRow i a (2 * n))) → t D σ H') → tExts K ad a n t D σ H
  | 0, a, items, H, hp, hl, k, h => h H k (by rw [show isRow i a (2 * 0) = [] from rfl, List.append_nil]; exact hp)
  | n + 1, a, items, H, hp, hl, k, h => by
    have heH : ErrAt H e (ad i) fs := he.keep fun b o z nl => k b o (fun q => by
      obtain ⟨xs, hx⟩ := hp0
      rw [q, hx] at z
      exact nl _ (Option.some.inj z).symm) z
    refine ⟨e, p, i, fs, items, s0, s1, hi, T, heH, hp, by omega, fun H' k1 hp1 => ?_⟩
    refine exts_chain s0 s1 hi T he hp0 n (a + 2) _ H' hp1 (by rw [List.length_append]; simp; omega) (fun b o nb z => k1 b o nb (k b o nb z)) fun H2 k2 hp2 => h H2 k2 ?_
    rw [show 2 * (n + 1) = 2 * n + 2 from rfl, isRow_two]
    rw [List.append_assoc] at hp2
    exact hp2
def spKinds (K : PySem.W.Frag) (ad : Nat → Addr) (a n : Nat) : Sp := fun vs H Q _ => ∃ (e : Addr) (i : Nat) (fs : Option (List (Str × V))), vs = [.ref e] ∧ i < 71 ∧ ErrC K (ad i) ∧ ErrAt H e (ad i) fs ∧ ∀ H' p, Same H H' → H p = none → H' p = some (.lst (isRow i a n)) → Q (.ref p) H'
theorem kinds_reads {K : PySem.W.Frag} {ad : Nat → Addr} {a n : Nat} {vs : List V} {H : Hp} {Q : VK} {E : XK} (hn : n < 400) (h : spKinds K ad a (2 * n) vs H Q E) :
    tSeq (tAsg (tLst tNil) (gName 1)) (tExts K ad a n (tRet (tVar 1))) { nx := fun _ H' => Q .non H', rt := Q } (L2.start ["e", "found"] vs) H := by
  obtain ⟨e, i, fs, rfl, hi, T, he, k⟩ := h
  refine ⟨Nat.zero_le _, fun p hp => ?_⟩
  have s : Same H (upd H p (.lst [])) := fun b o z => by
    rw [upd_ne (ne_of_none z hp)]
    exact z
  refine exts_chain (H0 := upd H p (.lst [])) (e := e) (p := p) rfl rfl hi T (he.same s) ⟨_, upd_same⟩ n a [] _ upd_same (by show 0 + 2 * n < 1000; omega) (fun b o _ z => z) fun H' k' hp' => ⟨_, rfl, k H' p (fun b o z => ?_) hp hp'⟩
  exact k' b o (ne_of_none z hp) (s b o z)
structure TxtK (mg : Str → Option Value) : Prop where
  isi : mg "isinstance" = none
section
variable {P : Program} {w : World} {K : PySem.W.Frag} {mg : Str → Option Value} {base : Heap} {ad : Nat → Addr}
abbrev sKindsa : Stmt := top 80
theorem sck_a : FnScope ["e", "found"] ["e"] (defScope sKindsa) := ⟨rfl, rfl, rfl, by decide +kernel, rfl, by decide +kernel, by decide +kernel⟩
theorem ok_kindsa {f : Addr} {fd : FuncData} (F : Fun K "_law_kinds_a" "_law_kinds_a" sKindsa f fd) (c0 : Cs P w K mg base ad) (D : DesC K) (KA : KitAll K ad) (T : TxtK mg) :
    FnOk P w K mg base CX0 1 f fd ["e"] (spKinds K ad 0 18) := by
  refine F.ok sck_a (fun vs H Q E h => ?_) (fun cdv A outer s H vs Q E hr h => ?_)
  · obtain ⟨e, i, fs, rfl, _⟩ := h
    rfl
  · refine ⟨tSeq (tAsg (tLst tNil) (gName 1)) (tExts K ad 0 9 (tRet (tVar 1))), ?_, kinds_reads (n := 9) (by decide) h⟩
    exact pss_cons (ps_set (i := 1) sck_a.nd rfl (Or.inl rfl) (pe_lst pa_nil)) (
      pss_cons (ext_row D KA (j := 0) (k := 1) (by decide) (by decide) c0.e0.gC c0.e1.gC (by rfl) (by rfl) rfl rfl rfl rfl (by rfl) T.isi (by decide +kernel) (by decide +kernel) (by rfl)) (
      pss_cons (ext_row D KA (j := 2) (k := 3) (by decide) (by decide) c0.e2.gC c0.e3.gC (by rfl) (by rfl) rfl rfl rfl rfl (by rfl) T.isi (by decide +kernel) (by decide +kernel) (by rfl)) (
      pss_cons (ext_row D KA (j := 4) (k := 5) (by decide) (by decide) c0.e4.gC c0.e5.gC (by rfl) (by rfl) rfl rfl rfl rfl (by rfl) T.isi (by decide +kernel) (by decide +kernel) (by rfl)) (
      pss_cons (ext_row D KA (j := 6) (k := 7) (by decide) (by decide) c0.e6.gC c0.e7.gC (by rfl) (by rfl) rfl rfl rfl rfl (by rfl) T.isi (by decide +kernel) (by decide +kernel) (by rfl)) (
      pss_cons (ext_row D KA (j := 8) (k := 9) (by decide) (by decide) c0.e8.gC c0.e9.gC (by rfl) (by rfl) rfl rfl rfl rfl (by rfl) T.isi (by decide +kernel) (by decide +kernel) (by rfl)) (
      pss_cons (ext_row D KA (j := 10) (k := 11) (by decide) (by decide) c0.e10.gC c0.e11.gC (by rfl) (by rfl) rfl rfl rfl rfl (by rfl) T.isi (by decide +kernel) (by decide +kernel) (by rfl)) (
      pss_cons (ext_row D KA (j := 12) (k := 13) (by decide) (by decide) c0.e12.gC c0.e13.gC (by rfl) (by rfl) rfl rfl rfl rfl (by rfl) T.isi (by decide +kernel) (by decide +kernel) (by rfl)) (
      pss_cons (ext_row D KA (j := 14) (k := 15) (by decide) (by decide) c0.e14.gC c0.e15.gC (by rfl) (by rfl) rfl rfl rfl rfl (by rfl) T.isi (by decide +kernel) (by decide +kernel) (by rfl)) (
      pss_cons (ext_row D KA (j := 16) (k := 17) (by decide) (by decide) c0.e16.gC c0.e17.gC (by rfl) (by rfl) rfl rfl rfl rfl (by rfl) T.isi (by decide +kernel) (by decide +kernel) (by rfl)) (pss_one (ps_ret (pv 1))))))))))))
abbrev sKindsb : Stmt := top 81
theorem sck_b : FnScope ["e", "found"] ["e"] (defScope sKindsb) := ⟨rfl, rfl, rfl, by decide +kernel, rfl, by decide +kernel, by decide +kernel⟩
theorem ok_kindsb {f : Addr} {fd : FuncData} (F : Fun K "_law_kinds_b" "_law_kinds_b" sKindsb f fd) (c0 : Cs P w K mg base ad) (D : DesC K) (KA : KitAll K ad) (T : TxtK mg) :
    FnOk P w K mg base CX0 1 f fd ["e"] (spKinds K ad 18 18) := by
  refine F.ok sck_b (fun vs H Q E h => ?_) (fun cdv A outer s H vs Q E hr h => ?_)
  · obtain ⟨e, i, fs, rfl, _⟩ := h
    rfl
  · refine ⟨tSeq (tAsg (tLst tNil) (gName 1)) (tExts K ad 18 9 (tRet (tVar 1))), ?_, kinds_reads (n := 9) (by decide) h⟩
    exact pss_cons (ps_set (i := 1) sck_b.nd rfl (Or.inl rfl) (pe_lst pa_nil)) (
      pss_cons (ext_row D KA (j := 18) (k := 19) (by decide) (by decide) c0.e18.gC c0.e19.gC (by rfl) (by rfl) rfl rfl rfl rfl (by rfl) T.isi (by decide +kernel) (by decide +kernel) (by rfl)) (
      pss_cons (ext_row D KA (j := 20) (k := 21) (by decide) (by decide) c0.e20.gC c0.e21.gC (by rfl) (by rfl) rfl rfl rfl rfl (by rfl) T.isi (by decide +kernel) (by decide +kernel) (by rfl)) (
      pss_cons (ext_row D KA (j := 22) (k := 23) (by decide) (by decide) c0.e22.gC c0.e23.gC (by rfl) (by rfl) rfl rfl rfl rfl (by rfl) T.isi (by decide +kernel) (by decide +kernel) (by rfl)) (
      pss_cons (ext_row D KA (j := 24) (k := 25) (by decide) (by decide) c0.e24.gC c0.e25.gC (by rfl) (by rfl) rfl rfl rfl rfl (by rfl) T.isi (by decide +kernel) (by decide +kernel) (by rfl)) (
      pss_cons (ext_row D KA (j := 26) (k := 27) (by decide) (by decide) c0.e26.gC c0.e27.gC (by rfl) (by rfl) rfl rfl rfl rfl (by rfl) T.isi (by decide +kernel) (by decide +kernel) (by rfl)) (
      pss_cons (ext_row D KA (j := 28) (k := 29) (by decide) (by decide) c0.e28.gC c0.e29.gC (by rfl) (by rfl) rfl rfl rfl rfl (by rfl) T.isi (by decide +kernel) (by decide +kernel) (by rfl)) (
      pss_cons (ext_row D KA (j := 30) (k := 31) (by decide) (by decide) c0.e30.gC c0.e31.gC (by rfl) (by rfl) rfl rfl rfl rfl (by rfl) T.isi (by decide +kernel) (by decide +kernel) (by rfl)) (
      pss_cons (ext_row D KA (j := 32) (k := 33) (by decide) (by decide) c0.e32.gC c0.e33.gC (by rfl) (by rfl) rfl rfl rfl rfl (by rfl) T.isi (by decide +kernel) (by decide +kernel) (by rfl)) (
      pss_cons (ext_row D KA (j := 34) (k := 35) (by decide) (by decide) c0.e34.gC c0.e35.gC (by rfl) (by rfl) rfl rfl rfl rfl (by rfl) T.isi (by decide +kernel) (by decide +kernel) (by rfl)) (pss_one (ps_ret (pv 1))))))))))))
abbrev sKindsc : Stmt := top 82
theorem sck_c : FnScope ["e", "found"] ["e"] (defScope sKindsc) := ⟨rfl, rfl, rfl, by decide +kernel, rfl, by decide +kernel, by decide +kernel⟩
theorem ok_kindsc {f : Addr} {fd : FuncData} (F : Fun K "_law_kinds_c" "_law_kinds_c" sKindsc f fd) (c0 : Cs P w K mg base ad) (D : DesC K) (KA : KitAll K ad) (T : TxtK mg) :
    FnOk P w K mg base CX0 1 f fd ["e"] (spKinds K ad 36 18) := by
  refine F.ok sck_c (fun vs H Q E h => ?_) (fun cdv A outer s H vs Q E hr h => ?_)
  · obtain ⟨e, i, fs, rfl, _⟩ := h
    rfl
  · refine ⟨tSeq (tAsg (tLst tNil) (gName 1)) (tExts K ad 36 9 (tRet (tVar 1))), ?_, kinds_reads (n := 9) (by decide) h⟩
    exact pss_cons (ps_set (i := 1) sck_c.nd rfl (Or.inl rfl) (pe_lst pa_nil)) (
      pss_cons (ext_row D KA (j := 36) (k := 37) (by decide) (by decide) c0.e36.gC c0.e37.gC (by rfl) (by rfl) rfl rfl rfl rfl (by rfl) T.isi (by decide +kernel) (by decide +kernel) (by rfl)) (
      pss_cons (ext_row D KA (j := 38) (k := 39) (by decide) (by decide) c0.e38.gC c0.e39.gC (by rfl) (by rfl) rfl rfl rfl rfl (by rfl) T.isi (by decide +kernel) (by decide +kernel) (by rfl)) (
      pss_cons (ext_row D KA (j := 40) (k := 41) (by decide) (by decide) c0.e40.gC c0.e41.gC (by rfl) (by rfl) rfl rfl rfl rfl (by rfl) T.isi (by decide +kernel) (by decide +kernel) (by rfl)) (
      pss_cons (ext_row D KA (j := 42) (k := 43) (by decide) (by decide) c0.e42.gC c0.e43.gC (by rfl) (by rfl) rfl rfl rfl rfl (by rfl) T.isi (by decide +kernel) (by decide +kernel) (by rfl)) (
      pss_cons (ext_row D KA (j := 44) (k := 45) (by decide) (by decide) c0.e44.gC c0.e45.gC (by rfl) (by rfl) rfl rfl rfl rfl (by rfl) T.isi (by decide +kernel) (by decide +kernel) (by rfl)) (
      pss_cons (ext_row D KA (j := 46) (k := 47) (by decide) (by decide) c0.e46.gC c0.e47.gC (by rfl) (by rfl) rfl rfl rfl rfl (by rfl) T.isi (by decide +kernel) (by decide +kernel) (by rfl)) (
      pss_cons (ext_row D KA (j := 48) (k := 49) (by decide) (by decide) c0.e48.gC c0.e49.gC (by rfl) (by rfl) rfl rfl rfl rfl (by rfl) T.isi (by decide +kernel) (by decide +kernel) (by rfl)) (
      pss_cons (ext_row D KA (j := 50) (k := 51) (by decide) (by decide) c0.e50.gC c0.e51.gC (by rfl) (by rfl) rfl rfl rfl rfl (by rfl) T.isi (by decide +kernel) (by decide +kernel) (by rfl)) (
      pss_cons (ext_row D KA (j := 52) (k := 53) (by decide) (by decide) c0.e52.gC c0.e53.gC (by rfl) (by rfl) rfl rfl rfl rfl (by rfl) T.isi (by decide +kernel) (by decide +kernel) (by rfl)) (pss_one (ps_ret (pv 1))))))))))))
abbrev sKindsd : Stmt := top 83
theorem sck_d : FnScope ["e", "found"] ["e"] (defScope sKindsd) := ⟨rfl, rfl, rfl, by decide +kernel, rfl, by decide +kernel, by decide +kernel⟩
theorem ok_kindsd {f : Addr} {fd : FuncData} (F : Fun K "_law_kinds_d" "_law_kinds_d" sKindsd f fd) (c0 : Cs P w K mg base ad) (D : DesC K) (KA : KitAll K ad) (T : TxtK mg) :
    FnOk P w K mg base CX0 1 f fd ["e"] (spKinds K ad 54 16) := by
  refine F.ok sck_d (fun vs H Q E h => ?_) (fun cdv A outer s H vs Q E hr h => ?_)
  · obtain ⟨e, i, fs, rfl, _⟩ := h
    rfl
  · refine ⟨tSeq (tAsg (tLst tNil) (gName 1)) (tExts K ad 54 8 (tRet (tVar 1))), ?_, kinds_reads (n := 8) (by decide) h⟩
    exact pss_cons (ps_set (i := 1) sck_d.nd rfl (Or.inl rfl) (pe_lst pa_nil)) (
      pss_cons (ext_row D KA (j := 54) (k := 55) (by decide) (by decide) c0.e54.gC c0.e55.gC (by rfl) (by rfl) rfl rfl rfl rfl (by rfl) T.isi (by decide +kernel) (by decide +kernel) (by rfl)) (
      pss_cons (ext_row D KA (j := 56) (k := 57) (by decide) (by decide) c0.e56.gC c0.e57.gC (by rfl) (by rfl) rfl rfl rfl rfl (by rfl) T.isi (by decide +kernel) (by decide +kernel) (by rfl)) (
      pss_cons (ext_row D KA (j := 58) (k := 59) (by decide) (by decide) c0.e58.gC c0.e59.gC (by rfl) (by rfl) rfl rfl rfl rfl (by rfl) T.isi (by decide +kernel) (by decide +kernel) (by rfl)) (
      pss_cons (ext_row D KA (j := 60) (k := 61) (by decide) (by decide) c0.e60.gC c0.e61.gC (by rfl) (by rfl) rfl rfl rfl rfl (by rfl) T.isi (by decide +kernel) (by decide +kernel) (by rfl)) (
      pss_cons (ext_row D KA (j := 62) (k := 63) (by decide) (by decide) c0.e62.gC c0.e63.gC (by rfl) (by rfl) rfl rfl rfl rfl (by rfl) T.isi (by decide +kernel) (by decide +kernel) (by rfl)) (
      pss_cons (ext_row D KA (j := 64) (k := 65) (by decide) (by decide) c0.e64.gC c0.e65.gC (by rfl) (by rfl) rfl rfl rfl rfl (by rfl) T.isi (by decide +kernel) (by decide +kernel) (by rfl)) (
      pss_cons (ext_row D KA (j := 66) (k := 67) (by decide) (by decide) c0.e66.gC c0.e67.gC (by rfl) (by rfl) rfl rfl rfl rfl (by rfl) T.isi (by decide +kernel) (by decide +kernel) (by rfl)) (
      pss_cons (ext_row D KA (j := 68) (k := 69) (by decide) (by decide) c0.e68.gC c0.e69.gC (by rfl) (by rfl) rfl rfl rfl rfl (by rfl) T.isi (by decide +kernel) (by decide +kernel) (by rfl)) (pss_one (ps_ret (pv 1)))))))))))
end
end Lamp
namespace Lamp
open PySem PySem.Spec PyProof.Rows L2
abbrev sKinds : Stmt := top 84
abbrev sOwn : Stmt := top 85
theorem row_cat (i a n m : Nat) : isRow i a n ++ isRow i (a + n) m = isRow i a (n + m) := by
  unfold isRow
  rw [← List.map_append, List.range'_append_1]
/-- lists that are new, one behind another -/
theorem same_upd {H : Hp} {p : Addr} {o : HO} (h : H p = none) : Same H (upd H p o) := fun b u e => by
  rw [upd_ne (ne_of_none e h)]
  exact e
section
variable {P : Program} {w : World} {K : PySem.W.Frag} {mg : Str → Option Value} {base : Heap} {ad : Nat → Addr}
theorem sck : FnScope ["e"] ["e"] (defScope sKinds) := ⟨rfl, rfl, rfl, by decide +kernel, rfl, by decide +kernel, by decide +kernel⟩
theorem ok_kinds {f fa fb fc fd' : Addr} {fd da db dc dd : FuncData} (F : Fun K "_law_kinds" "_law_kinds" sKinds f fd)
    (Ga : FnOk P w K mg base CX0 1 fa da ["e"] (spKinds K ad 0 18)) (ma : mg "_law_kinds_a" = some (.ref fa)) (ka : PySem.W.keepIn K (.ref fa) = true) (ba : Binds K da ["e"] [])
    (Gb : FnOk P w K mg base CX0 1 fb db ["e"] (spKinds K ad 18 18)) (mb : mg "_law_kinds_b" = some (.ref fb)) (kb : PySem.W.keepIn K (.ref fb) = true) (bb : Binds K db ["e"] [])
    (Gc : FnOk P w K mg base CX0 1 fc dc ["e"] (spKinds K ad 36 18)) (mc : mg "_law_kinds_c" = some (.ref fc)) (kc : PySem.W.keepIn K (.ref fc) = true) (bc : Binds K dc ["e"] [])
    (Gd : FnOk P w K mg base CX0 1 fd' dd ["e"] (spKinds K ad 54 16)) (md : mg "_law_kinds_d" = some (.ref fd')) (kd : PySem.W.keepIn K (.ref fd') = true) (bd : Binds K dd ["e"] []) :
    FnOk P w K mg base CX0 2 f fd ["e"] (spKinds K ad 0 70) := by
  refine F.ok sck (fun vs H Q E h => ?_) (fun cdv A outer s H vs Q E hr h => ?_)
  · obtain ⟨e, i, fs, rfl, _⟩ := h
    rfl
  · obtain ⟨e, i, fs, rfl, hi, T, he, k⟩ := h
    refine ⟨_, pss_one (ps_ret (pe_op op_cat (pe_op op_cat (pe_op op_cat (pe_call Ga hr (by rfl) ma ka ba .nil pass0 (pa_cons (pv 0) pa_nil)) (pe_call Gb hr (by rfl) mb kb bb .nil pass0 (pa_cons (pv 0) pa_nil)))
      (pe_call Gc hr (by rfl) mc kc bc .nil pass0 (pa_cons (pv 0) pa_nil))) (pe_call Gd hr (by rfl) md kd bd .nil pass0 (pa_cons (pv 0) pa_nil)))), ?_⟩
    refine ⟨_, rfl, e, i, fs, rfl, hi, T, he, fun H1 a1 s1 n1 g1 => ?_⟩
    refine ⟨_, rfl, e, i, fs, rfl, hi, T, he.same s1, fun H2 a2 s2 n2 g2 => ?_⟩
    refine ⟨a1, a2, _, _, rfl, rfl, s2 _ _ g1, g2, (by show 36 ≤ sizeLine; decide), fun b1 m1 => ?_⟩
    have t1 := (s1.trans s2).trans (same_upd (o := .lst (isRow i 0 18 ++ isRow i 18 18)) m1)
    refine ⟨_, rfl, e, i, fs, rfl, hi, T, he.same t1, fun H3 a3 s3 n3 g3 => ?_⟩
    refine ⟨b1, a3, _, _, rfl, rfl, s3 _ _ upd_same, g3, (by show 54 ≤ sizeLine; decide), fun b2 m2 => ?_⟩
    have t2 := (t1.trans s3).trans (same_upd (o := .lst ((isRow i 0 18 ++ isRow i 18 18) ++ isRow i 36 18)) m2)
    refine ⟨_, rfl, e, i, fs, rfl, hi, T, he.same t2, fun H4 a4 s4 n4 g4 => ?_⟩
    refine ⟨b2, a4, _, _, rfl, rfl, s4 _ _ upd_same, g4, (by show 70 ≤ sizeLine; decide), fun b3 m3 => ?_⟩
    refine k _ b3 ((t2.trans s4).trans (same_upd m3)) ((t2.trans s4).free m3) ?_
    rw [upd_same, row_cat i 0 18 18, row_cat i 0 36 18, row_cat i 0 54 16]
/-- what _law_is_own asks of the classes besides -/
structure KitB (K : PySem.W.Frag) (mg : Str → Option Value) (ad : Nat → Addr) (CL : Addr) : Prop where
  gL : mg "LampError" = some (.ref CL)
  lamp : ∀ i, i < 70 → PySem.W.kitOne K (.ref (ad i)) (.ref CL) = some true
  ve : ∀ i, i < 70 → PySem.W.kitOne K (.ref (ad i)) (.type "ValueError") = some true
  le : ∀ i, i < 70 → PySem.W.kitOne K (.ref (ad i)) (.type "LookupError") = some false
  gV : mg "ValueError" = none
  gE : mg "LookupError" = none
  rng : mg "range" = none
def spOwn (K : PySem.W.Frag) (ad : Nat → Addr) : Sp := fun vs H Q _ => ∃ (e : Addr) (i : Nat) (fs : Option (List (Str × V))), vs = [.ref e, .int (i : Int)] ∧ i < 70 ∧ ErrC K (ad i) ∧ ErrAt H e (ad i) fs ∧ ∀ H', Same H H' → Q (.bl true) H'
theorem dpAll_row {H : Hp} (i : Nat) : ∀ (n a : Nat), DpAll K H (isRow i a n) ((List.range' a n).map fun j => .bool (decide (j = i)))
  | 0, _ => .nil
  | n + 1, a => .cons (.bl _) (dpAll_row i n (a + 1))
theorem lay_bools (f : Nat → Bool) : ∀ l : List Nat, PyData.canLayAll0 (l.map fun j => .bool (f j)) = true ∧ PyData.depthAll (l.map fun j => .bool (f j)) = 0
  | [] => ⟨rfl, rfl⟩
  | j :: l => by
    obtain ⟨h1, h2⟩ := lay_bools f l
    refine ⟨?_, ?_⟩
    · show (PyData.canLay0 (.bool (f j)) && PyData.canLayAll0 (l.map fun j => .bool (f j))) = true
      rw [h1]
      rfl
    · show max (PyData.depth (.bool (f j))) (PyData.depthAll (l.map fun j => .bool (f j))) = 0
      rw [h2]
      rfl
theorem shaped_bools (f : Nat → Bool) (l : List Nat) : SeqAt.shaped (.list (l.map fun j => .bool (f j))) = true := by
  obtain ⟨h1, h2⟩ := lay_bools f l
  show (PyData.canLayAll0 (l.map fun j => .bool (f j)) && decide (PyData.depthAll (l.map fun j => .bool (f j)) + 1 ≤ 64)) = true
  rw [h1, h2]
  rfl
theorem sco : FnScope ["e", "at", "k"] ["e", "at"] (defScope sOwn) := ⟨rfl, rfl, rfl, by decide +kernel, rfl, by decide +kernel, by decide +kernel⟩
theorem ok_own {f fK CL : Addr} {fd dK : FuncData} (F : Fun K "_law_is_own" "_law_is_own" sOwn f fd) (D : DesC K) (T : TxtK mg) (B : KitB K mg ad CL) (GK : FnOk P w K mg base CX0 2 fK dK ["e"] (spKinds K ad 0 70)) (mK : mg "_law_kinds" = some (.ref fK)) (kK : PySem.W.keepIn K (.ref fK) = true) (bK : Binds K dK ["e"] []) :
    FnOk P w K mg base CX0 3 f fd ["e", "at"] (spOwn K ad) := by
  refine F.ok sco (fun vs H Q E h => ?_) (fun cdv A outer s H vs Q E hr h => ?_)
  · obtain ⟨e, i, fs, rfl, _⟩ := h
    rfl
  · obtain ⟨e, i, fs, rfl, hi, TC, he, k⟩ := h
    refine ⟨_, pss_cons (ps_if (PW.pt (pw_or (pt_not (pt_val (pe_callB (call_isErr D) (by rfl) T.isi PyProof.Rows.Boot.isinstance (pa_cons (pv 0) (pa_cons (pe_glob (v := .ref CL) (by rfl) B.gL rfl) pa_nil)))))
        (pw_or (pt_not (pt_val (pe_callB (call_isErr D) (by rfl) T.isi PyProof.Rows.Boot.isinstance (pa_cons (pv 0) (pa_cons (pe_bltn (v := .ty "ValueError") (by rfl) B.gV PyProof.Rows.Boot.ValueError rfl) pa_nil)))))
          (pw_or1 (pt_val (pe_callB (call_isErr D) (by rfl) T.isi PyProof.Rows.Boot.isinstance (pa_cons (pv 0) (pa_cons (pe_bltn (v := .ty "LookupError") (by rfl) B.gE PyProof.Rows.Boot.LookupError rfl) pa_nil))))))))
        (pss_one (ps_ret pe_bl)) pss_nil)
      (pss_one (ps_ret (pe_cmpR (op_eqD hr.units) (pe_call GK hr (by rfl) mK kK bK .nil pass0 (pa_cons (pv 0) pa_nil))
        (pe_lc (te := tOp rEq (tVar 2) (tVar 1)) (own := [("k", 2)]) (g := gName 2) (tt := tYes) rfl sco.nd (pi_range1 rfl B.rng (pa_cons pe_int pa_nil)) (blkOk_by (N := ["e", "at", "k"]) (sc := defScope sOwn) (by decide +kernel)) (fun _ _ _ _ _ => pg_name (i := 2) sco.nd rfl (Or.inl rfl)) (fun _ _ _ _ _ => pts_nil)
          (fun _ _ _ _ _ => by exact (pe_cmpR op_eq (pv 2) (pv 1) (nomark _)))) (nomark _)))), ?_⟩
    refine ⟨_, rfl, e, ad i, fs, _, _, true, rfl, TC, he, .own _, B.lamp i hi, _, rfl, iteF ⟨_, rfl, e, ad i, fs, _, _, true, rfl, TC, he, .ty _, B.ve i hi, _, rfl, iteF ⟨_, rfl, e, ad i, fs, _, _, false, rfl, TC, he, .ty _, B.le i hi, _, rfl, iteF ?_⟩⟩⟩
    refine ⟨_, rfl, e, i, fs, rfl, Nat.lt_succ_of_lt hi, TC, he, fun H1 a1 s1 n1 g1 => ⟨70, rfl, by decide, by decide, fun D0 hD => ?_⟩⟩
    refine lc_range (lo := 0) (n := 70) (fun j H' => H' D0 = some (.lst (isRow i 0 j)) ∧ Same H1 H') ⟨upd_same, same_upd hD⟩ ?_ ?_
    · rintro j H' hj ⟨g2, s2⟩
      refine ⟨rfl, ⟨_, rfl, _, rfl, rfl, _, g2, Nat.lt_of_le_of_lt (m := 70) ?_ (by decide), ?_, fun b o z => ?_⟩⟩
      · unfold isRow
        simp
        omega
      · rw [upd_same]
        have ev : decide (V.int (0 + (j : Int)) = V.int (i : Int)) = decide (j = i) := by
          by_cases c : j = i
          · subst c
            rw [decide_eq_true rfl]
            exact decide_eq_true (by simp)
          · rw [decide_eq_false c]
            refine decide_eq_false fun z => c ?_
            have z2 := V.int.inj z
            omega
        have er : isRow i 0 (j + 1) = isRow i 0 j ++ [.bl (decide (j = i))] := by
          rw [← row_cat i 0 j 1, Nat.zero_add]
          rfl
        rw [er, ← ev]
      · rw [upd_ne (ne_of_none z hD)]
        exact s2 _ _ z
    · rintro H' ⟨g2, s2⟩
      have ev : (PyData.list ((List.range' 0 70).map fun j => .bool (decide (j = i)))).eqv (.list ((List.range' 0 70).map fun j => .bool (decide (j = i)))) = true := SeqAt.eqv_refl _ (SeqAt.canLay_of_shaped (shaped_bools (fun j => decide (j = i)) (List.range' 0 70)))
      refine ⟨.list ((List.range' 0 70).map fun j => .bool (decide (j = i))), .list ((List.range' 0 70).map fun j => .bool (decide (j = i))), .lst (SqL.of (s2 _ _ g1)) (dpAll_row i 70 0), .lst (SqL.of g2) (dpAll_row i 70 0), shaped_bools _ _, shaped_bools _ _, ?_⟩
      rw [ev]
      exact k H' (s1.trans s2)
end
end Lamp
namespace Lamp
open PySem PySem.Spec PyProof.Rows L2
/-! ### what repr shows of the drawn things -/
/-- data that repr shows: as == reads it, or the one dict with the key "a" -/
structure ShV (K : PySem.W.Frag) (H : Hp) (v : V) (d : PyData) : Prop where
  rd : (Dp K H v d ∧ d.hasDict = false) ∨ ∃ a : Addr, v = .ref a ∧ d = .dict [(.str "a", .int 1)] ∧ H a = some (.dK [(Sum.inr "a", .int 1)])
  sh : d.showable = true
  ln : d.shown.length ≤ 1000
  dp : d.depth ≤ 10
theorem reads_dic {X : Cx} {pins : List (Addr × Obj)} {σ : L2.St} {H : Hp} {s : Shared} {a : Addr} (I : Inv X pins σ H s) (h : H a = some (.dK [(Sum.inr "a", .int 1)])) :
    ∃ as, Reads s.heap (.ref a) (.dict [(.str "a", .int 1)]) as ∧ sysModules ∉ as := by
  obtain ⟨_, ne, vs, kv, o, es, ep, ho, hx, hd, hk, hp, hn⟩ := (show ObjOk X.prog X.w H s.heap a (.dK [(Sum.inr "a", .int 1)]) from I.hok a _ h)
  cases kv with
  | cons q r =>
    cases r
    rename_i kv
    obtain ⟨k, v⟩ := kv
    obtain ⟨rfl, t, rfl⟩ := q
    obtain ⟨l⟩ := es
    cases hp with
    | cons h1 h2 h3 =>
      cases h3
      rename_i e
      obtain ⟨e1, e2, e3⟩ := e
      have h1' : keyIs (Sum.inr ("a" : Str)) e2 = true := h1
      have h2' : e3 = Value.int 1 t := h2
      rcases keyIs_shape h1' with ⟨i, t', z, _⟩ | ⟨x, t', z, y⟩
      · cases z
      · injection z with z
        subst z y h2'
        have r : Reads s.heap (.ref a) (.dict [(.str "a", .int 1)]) (a :: ([] ++ []) ++ ([] ++ [])) :=
          .dict ho hx.1 hd (.cons (.str _ _) .nil) (.cons (.int _ _) .nil)
        refine ⟨_, r, fun m => ?_⟩
        have m2 : sysModules = a := by simpa using m
        rw [m2] at ne
        simp at ne
/-- items that repr shows, read together -/
theorem shows {X : Cx} {pins : List (Addr × Obj)} {σ : L2.St} {H : Hp} {s : Shared} (I : Inv X pins σ H s) : ∀ (vs : List V) (ds : List PyData) (us : List Value), Paired (ShV X.K H) vs ds → Vals vs us →
    (∃ as, ReadsAll s.heap us ds as) ∧ ∃ bs, ReadAtMost s.heap (PyData.depthAll ds) bs ∧ ReprAllK X.prog X.w bs s.heap (PyData.depthAll ds) us (PyData.shownAll ds)
  | [], _, _, h, r => by
    cases h
    cases r
    exact ⟨⟨_, .nil⟩, [], (fun _ m => by cases m), .nil⟩
  | v :: vs, _, _, h, r => by
    cases h with
    | cons h1 h2 =>
      cases r with
      | cons r1 r2 =>
        rename_i d ds u us
        obtain ⟨⟨as, q⟩, bs, hb, hk⟩ := shows I vs ds us h2 r2
        have one : ∃ as, Reads s.heap u d as ∧ (d.hasDict = true → sysModules ∉ as) := by
          rcases h1.rd with ⟨z, nd⟩ | ⟨a, rfl, rfl, ha⟩
          · obtain ⟨as, z2⟩ := Dp.reads I d v u z r1
            exact ⟨as, z2, fun c => by
              rw [nd] at c
              cases c⟩
          · obtain rfl : u = Value.ref a := r1
            obtain ⟨as, z2, z3⟩ := reads_dic I ha
            exact ⟨as, z2, fun _ => z3⟩
        obtain ⟨as1, q1, n1⟩ := one
        obtain ⟨b1, hb1, hk1⟩ := ReprK.of_reads (prog := X.prog) (w := X.w) q1 h1.sh n1 (Nat.le_trans h1.ln (by decide))
        refine ⟨⟨_, .cons q1 q⟩, b1 ++ bs, ?_, .cons ((hk1.more fun b m => List.mem_append_left _ m).level_le ?_) (hk.more_le (fun b m => List.mem_append_right _ m) ?_)⟩
        · exact (hb1.mono (Nat.le_max_left _ _)).append (hb.mono (Nat.le_max_right _ _))
        · exact Nat.le_max_left _ _
        · exact Nat.le_max_right _ _
/-- repr of a list of such -/
def rReprL (K : PySem.W.Frag) : List V → Hp → VK → Prop := fun xs H Q => ∃ (a : Addr) (vs : List V) (ds : List PyData), xs = [.ref a] ∧ H a = some (.lst vs) ∧ Paired (ShV K H) vs ds ∧ vs.length ≤ 10 ∧ Q (.str (listText (PyData.shownAll ds))) H
theorem shown_short : ∀ {K : PySem.W.Frag} {H : Hp} {vs : List V} {ds : List PyData}, Paired (ShV K H) vs ds → ((PyData.shownAll ds).map (·.length)).sum ≤ 1000 * vs.length ∧ (PyData.shownAll ds).length = vs.length ∧ PyData.depthAll ds ≤ 10
  | _, _, [], [], _ => ⟨Nat.le_refl _, rfl, Nat.zero_le _⟩
  | _, _, _ :: vs, d :: ds, .cons h1 h2 => by
    obtain ⟨a, b, c⟩ := shown_short h2
    refine ⟨?_, ?_, ?_⟩
    · have l := h1.ln
      show (PyData.shown d).length + ((PyData.shownAll ds).map (·.length)).sum ≤ 1000 * (vs.length + 1)
      omega
    · show (PyData.shownAll ds).length + 1 = vs.length + 1
      rw [b]
    · exact Nat.max_le.mpr ⟨h1.dp, c⟩
theorem call_reprL {X : Cx} (hg : X.A.guards = some []) (hu : X.A.units + 64 < cLine) : CallR X (.builtin "repr") (rReprL X.K) := by
  intro pins s σ H xs us Q I r h
  obtain ⟨a, vs, ds, rfl, ha, sv, hl, q⟩ := h
  obtain ⟨u, rfl, ru⟩ := vals1 r
  obtain rfl : u = Value.ref a := ru
  obtain ⟨hz, its, n, rv, ho⟩ := (show ObjOk X.prog X.w H s.heap a (.lst vs) from I.hok a _ ha)
  obtain ⟨⟨as, rd⟩, bs, hb, hk⟩ := shows I vs ds its sv rv
  obtain ⟨sz, ln, dp⟩ := shown_short sv
  have txt : (listText (PyData.shownAll ds)).length ≤ sizeLine := by
    have e := listText_len_le (PyData.shownAll ds)
    rw [sizeLine_eq]
    omega
  have ty : s.TypeIs (.ref a) "list" := ⟨_, ho, rfl⟩
  refine call_repr_slot (by omega) ty F.slot_list_repr.toG ?_
  cases its with
  | nil =>
    cases rv
    cases sv
    exact call_list_repr_empty ty ho rfl ⟨_, _, rfl, .str "[]", H, I.tok _, ⟨_, rfl⟩, by rw [show listText (PyData.shownAll []) = ("[]" : Str) from listText_nil] at q; exact q⟩
  | cons x l =>
    have out : a ∉ bs := not_mem_of_deeper (Reads.list ho rfl rfl rd) (by show PyData.depthAll ds < PyData.depthAll ds + 1; omega) hb
    refine call_list_reprK ho rfl rfl out ?_ (fun i y e => hk.item i y (by simpa using e)) (g := []) hg (fun b _ => Clear.nil b) (by show X.A.in1.units + _ < _; have e : X.A.in1.units = X.A.units + 1 := rfl; omega) (fun _ _ e => e) (fun h' u tk k => ?_) txt
    · rw [hk.length_eq]
      simp
    · exact ⟨_, _, rfl, .str _, H, I.kept (t' := tk) k, ⟨_, rfl⟩, q⟩
end Lamp
namespace Lamp
open PySem PySem.Spec PyProof.Rows L2
abbrev sThese : Stmt := top 86
/-! ### a def that is called where nothing is being shown -/
structure FnG (P : Program) (w : World) (K : PySem.W.Frag) (mg : Str → Option Value) (base : Heap) (k : Nat) (f : Addr) (ps : List Str) (sp : Sp) : Prop where
  len : ∀ vs H Q E, sp vs H Q E → vs.length = ps.length
  run : ∀ (A : Around) (outer : List Env) (s : Shared) (H : Hp) (us : List Value) (vs : List V) (Q : VK), A.guards = some [] → Room k A → Env0 P w K mg base A outer s H → Vals vs us → sp vs H Q E0 →
    codeAny (model P w) A (.call (.ref f) ⟨us, []⟩) (CR CX0 outer P w H s Q E0) s
theorem fnG_of {P : Program} {w : World} {K : PySem.W.Frag} {mg : Str → Option Value} {base : Heap} {x : Str} {st : Stmt} {f : Addr} {fd : FuncData} {N ps : List Str} {k : Nat} {sp : Sp} (F : Fun K x x st f fd) (S : FnScope N ps (defScope st)) (len : ∀ vs H Q E, sp vs H Q E → vs.length = ps.length)
    (hb : ∀ (s : Shared) (us : List Value), us.length = ps.length → BindsTo s fd ⟨us, []⟩ (ps.zip us))
    (hbody : ∀ (cdv : Value) (A : Around) (outer : List Env) (s : Shared) (H : Hp) (vs : List V) (Q : VK), A.guards = some [] → Room k (A.deeper (envOfC x (defScope st) s.heap.objs.size f cdv)) → sp vs H Q E0 →
      ∃ t, PSs (cxOf CX0 P w K mg base N x (defScope st) f cdv A outer s H E0).nox (defBody st) t ∧ t { nx := fun _ H' => Q .non H', rt := Q } (L2.start N vs) H) : FnG P w K mg base (k + 1) f ps sp := by
  obtain ⟨oc, od, kV, doc, pm, an, cdv, ct, osl, e, lk, hcd⟩ := F.ex
  refine ⟨len, fun A outer s H us vs Q hg hr e0 r hsp => ?_⟩
  have l : vs.length = ps.length := len _ _ _ _ hsp
  have bind := hb s us (r.length.symm.trans l)
  subst e
  refine LamX.run_ofS lk hcd S hr e0 bind r l fun hr' => ?_
  obtain ⟨t, h, q⟩ := hbody cdv A outer s H vs Q hg hr' hsp
  exact ⟨t, h.nox, q⟩
section
variable {X : Cx}
theorem pe_callG {k : Nat} {f : Addr} {ps : List Str} {sp : Sp} {x : Str} {e : Expr} {es : List Expr} {t : TA} {p pos : Pos} (G : FnG X.prog X.w X.K X.mg X.base k f ps sp) (hA : X.A.guards = some []) (hr : Room k X.A) (hg : Gl X x) (hm : X.mg x = some (.ref f)) (hk : PySem.W.keepIn X.K (.ref f) = true) (ha : PA X (e :: es) t)
    (hdb : (x == ("__debug__" : Str)) = false := by decide) (he : starEach (e :: es) X.env = (false, eval e X.env) :: starEach es X.env := by rfl) (hpl : (backTo pos (starEach es X.env)).any (·.1) = false := by rfl) :
    PE X (.Call (.Name x p) (e :: es) [] pos) (tCall sp [] E0 t) := by
  refine ⟨fun pins s σ H Q I h => wpAny_Call_Name_kw (ld_glob I hg hm ?_ hdb)⟩
  refine PySem.W.callWith_K (h₀ := X.base) I.ok.mod.kin hk (thn (ha.run pos pins s σ H _ I h) fun us s1 ⟨vs, H1, I1, r, q⟩ => ⟨I1.kIn, ?_⟩) he hpl
  have q' : sp vs H1 Q E0 := by
    have z : sp (vs ++ []) H1 Q E0 := q
    rw [List.append_nil] at z
    exact z
  refine wpAny_call (codeAny_mono (G.run X.A X.stack s1 H1 us vs Q hA hr I1.env0 r q') fun fl s' hq => ?_)
  rcases fl with e | fl
  · exact (show False from hq).elim
  · cases fl with
    | ret u => exact I1.after hq
    | _ => exact False.elim hq
end
/-! ### _law_are_these -/
def spThese (K : PySem.W.Frag) : Sp := fun vs H Q _ => ∃ (a b : Addr) (ws : List V) (ds : List PyData), vs = [.ref a, .ref b] ∧ H a = some (.lst ws) ∧ H b = some (.lst ws) ∧ Paired (ShV K H) ws ds ∧ ws.length ≤ 10 ∧ Q (.bl true) H
structure TxtT (mg : Str → Option Value) : Prop where
  rpr : mg "repr" = none
  len : mg "len" = none
section
variable {P : Program} {w : World} {K : PySem.W.Frag} {mg : Str → Option Value} {base : Heap}
theorem sct : FnScope ["found", "due"] ["found", "due"] (defScope sThese) := ⟨rfl, rfl, rfl, by decide +kernel, rfl, by decide +kernel, by decide +kernel⟩
theorem ok_these {f : Addr} {fd : FuncData} (F : Fun K "_law_are_these" "_law_are_these" sThese f fd) (T : TxtT mg) (hb : ∀ (s : Shared) (us : List Value), us.length = (["found", "due"] : List Str).length → BindsTo s fd ⟨us, []⟩ ((["found", "due"] : List Str).zip us)) :
    FnG P w K mg base 1 f ["found", "due"] (spThese K) := by
  refine fnG_of F sct (fun vs H Q E h => ?_) hb (fun cdv A outer s H vs Q hg hr h => ?_)
  · obtain ⟨a, b, ws, ds, rfl, _⟩ := h
    rfl
  · obtain ⟨a, b, ws, ds, rfl, ha, hb2, sv, hl, k⟩ := h
    refine ⟨_, pss_one (ps_ret (pe_and (pe_cmpR op_eq (pe_callB (call_reprL hg hr.units) (by rfl) T.rpr PyProof.Rows.Boot.repr (pa_cons (pv 0) pa_nil)) (pe_callB (call_reprL hg hr.units) (by rfl) T.rpr PyProof.Rows.Boot.repr (pa_cons (pv 1) pa_nil)) (nomark _))
      (pe_one (pe_cmpR op_eq (pe_callB call_len_seq (by rfl) T.len PySem.boot_len (pa_cons (pv 0) pa_nil)) (pe_callB call_len_seq (by rfl) T.len PySem.boot_len (pa_cons (pv 1) pa_nil)) (nomark _))))), ?_⟩
    refine ⟨_, rfl, a, ws, ds, rfl, ha, sv, hl, _, rfl, b, ws, ds, rfl, hb2, sv, hl, rfl, _, rfl, ?_⟩
    rw [decide_eq_true rfl]
    refine iteT ⟨_, rfl, a, ws, rfl, .inl (SqL.of ha), _, rfl, b, ws, rfl, .inl (SqL.of hb2), rfl, ?_⟩
    rw [decide_eq_true rfl]
    exact k
end
end Lamp
namespace Lamp
open PySem PySem.Spec PyProof.Rows L2
/-! ### e.f, e an error that stands as a value -/
def tFldE (K : PySem.W.Frag) (f : Str) (te : TE) : TE := fun σ H Q => te σ H fun x H1 => ∃ (e C : Addr) (fs : List (Str × V)) (v : V), x = .ref e ∧ ErrC K C ∧ ErrAt H1 e C (some fs) ∧ PySem.W.findIn K (.ref C) f = some none ∧ fs.lookup f = some v ∧ Q v H1
theorem pe_fldE {X : Cx} {e : Expr} {te : TE} {f : Str} {pos : Pos} (he : PE X e te) (hb : attributeBase e f X.env (eval e X.env) = eval e X.env := by rfl) : PE X (.Attribute e f pos) (tFldE X.K f te) := by
  refine ⟨fun pins s σ H Q I h => attr_of hb (thn (he.run pins s σ H _ I h) fun u s1 ⟨x, H1, I1, r1, a, C, fs, v, ex, T, hE, nF, hv, q⟩ => ?_)⟩
  subst ex
  obtain rfl : u = Value.ref a := r1
  obtain ⟨ox, od, vals, J, hod, hrel⟩ := err_reads I1 T hE
  have z := hrel f
  rw [show (some fs).getD [] = fs from rfl, hv] at z
  obtain ⟨u, hu, ru⟩ := RelO.some_of (v := v) z
  exact HandSPX.exc_get I1.kIn J T.ga T.gg T.ox.exC (hod _ _ hu nF) (handed_of ru) ⟨v, H1, I1.tok _, ru, q⟩
/-! ### the drawn things -/
/-- the six that stand in memory -/
structure Six (H : Hp) (a6 a7 a8 a9 b9 a11 : Addr) : Prop where
  h6 : H a6 = some (.lst [.int 1, .str "b"])
  h7 : H a7 = some (.tup [.int 2, .non])
  h8 : H a8 = some (.dK [(Sum.inr "a", .int 1)])
  h9 : H a9 = some (.lst [.ref b9])
  hb : H b9 = some (.lst [.str "x"])
  h11 : H a11 = some (.tup [.str "s", .int 3])
def things (a6 a7 a8 a9 a11 : Addr) : List V := [.non, .int 5, .int (-1), .bl true, .str "a", .str "", .ref a6, .ref a7, .ref a8, .ref a9, .int (10 ^ 30), .ref a11, .bl false, .int 0, .int 1]
theorem Six.keep {H H' : Hp} {a6 a7 a8 a9 b9 a11 : Addr} (s : Six H a6 a7 a8 a9 b9 a11) (k6 : H' a6 = H a6) (k9 : H' a9 = H a9) (kb : H' b9 = H b9) (k : ∀ b o, H b = some o → (∀ xs, o ≠ .lst xs) → (∀ ps, o ≠ .tbl ps) → H' b = some o) : Six H' a6 a7 a8 a9 b9 a11 :=
  ⟨k6.trans s.h6, k _ _ s.h7 (fun _ z => by cases z) (fun _ z => by cases z), k _ _ s.h8 (fun _ z => by cases z) (fun _ z => by cases z), k9.trans s.h9, kb.trans s.hb, k _ _ s.h11 (fun _ z => by cases z) (fun _ z => by cases z)⟩
theorem Six.ext {H H' : Hp} {a6 a7 a8 a9 b9 a11 : Addr} (s : Six H a6 a7 a8 a9 b9 a11) (k : LamX.ExtN H H') : Six H' a6 a7 a8 a9 b9 a11 :=
  ⟨k _ _ s.h6 (fun _ z => by cases z), k _ _ s.h7 (fun _ z => by cases z), k _ _ s.h8 (fun _ z => by cases z), k _ _ s.h9 (fun _ z => by cases z), k _ _ s.hb (fun _ z => by cases z), k _ _ s.h11 (fun _ z => by cases z)⟩
theorem things_sh {K : PySem.W.Frag} {H : Hp} {a6 a7 a8 a9 b9 a11 : Addr} (s : Six H a6 a7 a8 a9 b9 a11) {v : V} (h : v ∈ things a6 a7 a8 a9 a11) : ∃ d, ShV K H v d := by
  unfold things at h
  simp only [List.mem_cons, List.not_mem_nil, or_false] at h
  rcases h with rfl | rfl | rfl | rfl | rfl | rfl | rfl | rfl | rfl | rfl | rfl | rfl | rfl | rfl | rfl
  · exact ⟨.none, .inl ⟨.non, rfl⟩, rfl, by decide +kernel, by decide +kernel⟩
  · exact ⟨.int 5, .inl ⟨.int _, rfl⟩, by decide +kernel, by decide +kernel, by decide +kernel⟩
  · exact ⟨.int (-1), .inl ⟨.int _, rfl⟩, by decide +kernel, by decide +kernel, by decide +kernel⟩
  · exact ⟨.bool true, .inl ⟨.bl _, rfl⟩, rfl, by decide +kernel, by decide +kernel⟩
  · exact ⟨.str "a", .inl ⟨.str _, rfl⟩, rfl, by decide +kernel, by decide +kernel⟩
  · exact ⟨.str "", .inl ⟨.str _, rfl⟩, rfl, by decide +kernel, by decide +kernel⟩
  · exact ⟨.list [.int 1, .str "b"], .inl ⟨.lst (SqL.of s.h6) (.cons (.int _) (.cons (.str _) .nil)), rfl⟩, by decide +kernel, by decide +kernel, by decide +kernel⟩
  · exact ⟨.tuple [.int 2, .none], .inl ⟨.tup (SqT.of s.h7) (.cons (.int _) (.cons .non .nil)), rfl⟩, by decide +kernel, by decide +kernel, by decide +kernel⟩
  · exact ⟨.dict [(.str "a", .int 1)], .inr ⟨a8, rfl, rfl, s.h8⟩, by decide +kernel, by decide +kernel, by decide +kernel⟩
  · exact ⟨.list [.list [.str "x"]], .inl ⟨.lst (SqL.of s.h9) (.cons (.lst (SqL.of s.hb) (.cons (.str _) .nil)) .nil), rfl⟩, by decide +kernel, by decide +kernel, by decide +kernel⟩
  · exact ⟨.int (10 ^ 30), .inl ⟨.int _, rfl⟩, by decide +kernel, by decide +kernel, by decide +kernel⟩
  · exact ⟨.tuple [.str "s", .int 3], .inl ⟨.tup (SqT.of s.h11) (.cons (.str _) (.cons (.int _) .nil)), rfl⟩, by decide +kernel, by decide +kernel, by decide +kernel⟩
  · exact ⟨.bool false, .inl ⟨.bl _, rfl⟩, rfl, by decide +kernel, by decide +kernel⟩
  · exact ⟨.int 0, .inl ⟨.int _, rfl⟩, by decide +kernel, by decide +kernel, by decide +kernel⟩
  · exact ⟨.int 1, .inl ⟨.int _, rfl⟩, by decide +kernel, by decide +kernel, by decide +kernel⟩
theorem ShV.keep {K : PySem.W.Frag} {H H' : Hp} {v : V} {d : PyData} (h : ShV K H v d) (k : ∀ {v d}, Dp K H v d → Dp K H' v d) (kd : ∀ a kvs, H a = some (.dK kvs) → H' a = some (.dK kvs)) : ShV K H' v d :=
  ⟨h.rd.elim (fun z => .inl ⟨k z.1, z.2⟩) fun ⟨a, e1, e2, e3⟩ => .inr ⟨a, e1, e2, kd _ _ e3⟩, h.sh, h.ln, h.dp⟩
/-- the tables stand while the spring is drawn from -/
theorem tabs_sb {T : List (Addr × Str)} {H H' : Hp} {a l : Addr} {n : Nat} (t : LamX.Tabs T H) (s : Spr H a l n) (k : Sb a l H H') : LamX.Tabs T H' := fun p hp => by
  obtain ⟨ps, h1, h2, h3⟩ := t p hp
  obtain ⟨_, cs, cur, mix, ha, hl, _⟩ := s
  have nl : ∀ {b : Addr} {o : HO}, H b = some o → (∀ xs, o ≠ .lst xs) → b ≠ a ∧ b ≠ l := fun {b o} e z => by
    refine ⟨fun q => ?_, fun q => ?_⟩
    · rw [q, ha] at e
      exact z _ (Option.some.inj e).symm
    · rw [q, hl] at e
      exact z _ (Option.some.inj e).symm
  have n1 := nl h1 fun xs z => by cases z
  refine ⟨ps, k _ _ h1 n1.1 n1.2, h2, fun pos cv hc => ?_⟩
  obtain ⟨c, e1, e2⟩ := h3 pos cv hc
  have n2 := nl e2 fun xs z => by
    unfold LamX.CodeO at z
    cases z
  exact ⟨c, e1, k _ _ e2 n2.1 n2.2⟩
end Lamp
namespace Lamp
open PySem PySem.Spec PyProof.Rows L2
abbrev sLaw : Stmt := top 87
/-! ### the law -/
/-- a def that stands at its name -/
def Stands (P : Program) (w : World) (K : PySem.W.Frag) (mg : Str → Option Value) (base : Heap) (k : Nat) (x : Str) (ps : List Str) (sp : Sp) : Prop :=
  ∃ (f : Addr) (fd : FuncData), FnOk P w K mg base CX0 k f fd ps sp ∧ mg x = some (.ref f) ∧ PySem.W.keepIn K (.ref f) = true ∧ L2.Binds K fd ps []
structure LawT (P : Program) (w : World) (K : PySem.W.Frag) (mg : Str → Option Value) (base : Heap) (ad : Nat → Addr) (T : List (Addr × Str)) : Prop where
  c0 : Cs P w K mg base ad
  D : DesC K
  er : ∀ j, j < 71 → ErrC K (ad j)
  KA : KitAll K ad
  KB : KitB K mg ad (ad 70)
  eL : Err0 K mg "LampError" (ad 70)
  veL : PySem.W.kitOne K (.ref (ad 70)) (.type "ValueError") = some true
  tS : TxtS mg
  tK : TxtK mg
  tT : TxtT mg
  en : mg "enumerate" = none
  start : Stands P w K mg base 1 "_law_start" ["script"] (spStart K)
  mixed : Stands P w K mg base 2 "_law_mixed" ["stream", "some"] (spMixed K)
  ma : Stands P w K mg base 3 "_law_made_a" ["x", "y", "z"] (spMade K T (La ad))
  mb : Stands P w K mg base 3 "_law_made_b" ["x", "y", "z"] (spMade K T (Lb ad))
  mc : Stands P w K mg base 3 "_law_made_c" ["x", "y", "z"] (spMade K T (Lc ad))
  md : Stands P w K mg base 3 "_law_made_d" ["x", "y", "z"] (spMade K T (Ld ad))
  own : Stands P w K mg base 3 "_law_is_own" ["e", "at"] (spOwn K ad)
  kinds : Stands P w K mg base 2 "_law_kinds" ["e"] (spKinds K ad 0 70)
  these : ∃ f : Addr, FnG P w K mg base 1 f ["found", "due"] (spThese K) ∧ mg "_law_are_these" = some (.ref f) ∧ PySem.W.keepIn K (.ref f) = true
def spLaw (K : PySem.W.Frag) (T : List (Addr × Str)) : Sp := fun vs H Q _ => ∃ (a : Addr) (ns : List Int), vs = [.ref a] ∧ SqL K H a (ns.map V.int) ∧ LamX.Tabs T H ∧ ∀ H', Q (.bl true) H'
abbrev NL : List Str := ["script", "stream", "some", "turn", "x", "y", "z", "made", "at", "mine", "twin", "field", "due", "held", "kept", "base"]
theorem scl : FnScope NL ["script"] (defScope sLaw) := ⟨rfl, rfl, rfl, by decide +kernel, rfl, by decide +kernel, by decide +kernel⟩
/-- the fifteen things stand, new, behind the spring -/
theorem six_new {H1 : Hp} {st cl a6 a7 a8 a9 b9 a11 so : Addr} {n : Nat} (sp : Spr H1 st cl n) (h6 : H1 a6 = none) (h7 : upd H1 a6 (.lst [.int 1, .str "b"]) a7 = none) (h8 : upd (upd H1 a6 (.lst [.int 1, .str "b"])) a7 (.tup [.int 2, .non]) a8 = none)
    (h9b : upd (upd (upd (upd H1 a6 (.lst [.int 1, .str "b"])) a7 (.tup [.int 2, .non])) a8 (.dK [])) a8 (.dK [(Sum.inr "a", .int 1)]) b9 = none)
    (h9 : upd (upd (upd (upd (upd H1 a6 (.lst [.int 1, .str "b"])) a7 (.tup [.int 2, .non])) a8 (.dK [])) a8 (.dK [(Sum.inr "a", .int 1)])) b9 (.lst [.str "x"]) a9 = none)
    (h11 : upd (upd (upd (upd (upd (upd H1 a6 (.lst [.int 1, .str "b"])) a7 (.tup [.int 2, .non])) a8 (.dK [])) a8 (.dK [(Sum.inr "a", .int 1)])) b9 (.lst [.str "x"])) a9 (.lst [.ref b9]) a11 = none)
    (hso : upd (upd (upd (upd (upd (upd (upd H1 a6 (.lst [.int 1, .str "b"])) a7 (.tup [.int 2, .non])) a8 (.dK [])) a8 (.dK [(Sum.inr "a", .int 1)])) b9 (.lst [.str "x"])) a9 (.lst [.ref b9])) a11 (.tup [.str "s", .int 3]) so = none) :
    ∀ H7, H7 = upd (upd (upd (upd (upd (upd (upd (upd H1 a6 (.lst [.int 1, .str "b"])) a7 (.tup [.int 2, .non])) a8 (.dK [])) a8 (.dK [(Sum.inr "a", .int 1)])) b9 (.lst [.str "x"])) a9 (.lst [.ref b9])) a11 (.tup [.str "s", .int 3])) so (.lst (things a6 a7 a8 a9 a11)) →
      Same H1 H7 ∧ Six H7 a6 a7 a8 a9 b9 a11 ∧ H7 so = some (.lst (things a6 a7 a8 a9 a11)) ∧ H1 a6 = none ∧ H1 a9 = none ∧ H1 b9 = none ∧ H1 so = none := by
  rintro H7 rfl
  obtain ⟨n7, f7⟩ := none_upd h7
  obtain ⟨n8, f8⟩ := none_upd h8
  obtain ⟨m8, g8⟩ := none_upd f8
  obtain ⟨n9, f9⟩ := none_upd h9b
  obtain ⟨_, e9⟩ := none_upd f9
  obtain ⟨m9, d9⟩ := none_upd e9
  obtain ⟨l9, c9⟩ := none_upd d9
  obtain ⟨p9, q9⟩ := none_upd h9
  obtain ⟨p8, q8⟩ := none_upd q9
  obtain ⟨_, q7⟩ := none_upd q8
  obtain ⟨p7, q6⟩ := none_upd q7
  obtain ⟨p6, q5⟩ := none_upd q6
  obtain ⟨r9, u9⟩ := none_upd h11
  obtain ⟨rb, ub⟩ := none_upd u9
  obtain ⟨r8, u8⟩ := none_upd ub
  obtain ⟨_, u7⟩ := none_upd u8
  obtain ⟨r7, u6⟩ := none_upd u7
  obtain ⟨r6, u5⟩ := none_upd u6
  obtain ⟨s11, v11⟩ := none_upd hso
  obtain ⟨s9, v9⟩ := none_upd v11
  obtain ⟨sb, vb⟩ := none_upd v9
  obtain ⟨s8, v8⟩ := none_upd vb
  obtain ⟨_, v7⟩ := none_upd v8
  obtain ⟨s7, v6⟩ := none_upd v7
  obtain ⟨s6, v5⟩ := none_upd v6
  refine ⟨fun b o e => ?_, ⟨?_, ?_, ?_, ?_, ?_, ?_⟩, upd_same, h6, q5, c9, v5⟩
  · rw [upd_ne (ne_of_none e v5), upd_ne (ne_of_none e u5), upd_ne (ne_of_none e q5), upd_ne (ne_of_none e c9), upd_ne (ne_of_none e g8), upd_ne (ne_of_none e g8), upd_ne (ne_of_none e f7), upd_ne (ne_of_none e h6)]
    exact e
  · rw [upd_ne s6.symm, upd_ne r6.symm, upd_ne p6.symm, upd_ne l9.symm, upd_ne m8.symm, upd_ne m8.symm, upd_ne n7.symm, upd_same]
  · rw [upd_ne s7.symm, upd_ne r7.symm, upd_ne p7.symm, upd_ne m9.symm, upd_ne n8.symm, upd_ne n8.symm, upd_same]
  · rw [upd_ne s8.symm, upd_ne r8.symm, upd_ne p8.symm, upd_ne n9.symm, upd_same]
  · rw [upd_ne s9.symm, upd_ne r9.symm, upd_same]
  · rw [upd_ne sb.symm, upd_ne rb.symm, upd_ne p9.symm, upd_same]
  · rw [upd_ne s11.symm, upd_same]
theorem three_of {ys : List V} (h : ys.length = 15) : ∃ x y z : V, cutV ys none (some 3) = [x, y, z] ∧ x ∈ ys ∧ y ∈ ys ∧ z ∈ ys := by
  match ys, h with
  | [y0, y1, y2, y3, y4, y5, y6, y7, y8, y9, y10, y11, y12, y13, y14], _ => exact ⟨y0, y1, y2, rfl, by simp, by simp, by simp⟩
def LL (ad : Nat → Addr) : List Info := ((La ad ++ Lb ad) ++ Lc ad) ++ Ld ad
theorem ll_C (ad : Nat → Addr) : (LL ad).map Info.C = (List.range 70).map ad := rfl
theorem ll_at {ad : Nat → Addr} {j : Nat} {i : Info} (h : (LL ad)[j]? = some i) : j < 70 ∧ i.C = ad j := by
  have e : ((LL ad).map Info.C)[j]? = some i.C := by
    rw [List.getElem?_map, h]
    rfl
  rw [ll_C, List.getElem?_map] at e
  have hj : j < 70 := by
    have z := (List.getElem?_eq_some_iff.mp h).1
    exact z
  rw [List.getElem?_range hj] at e
  exact ⟨hj, (Option.some.inj e).symm⟩
def Good (i : Info) : Prop := ∀ x y : V, (∀ v ∈ i.ws x y, v = x ∨ v = y) ∧ (i.ws x y).length ≤ 2
theorem good_one (f : Str) (C : Addr) : Good (Info.one f C) := fun x y => ⟨fun v h => .inl (List.mem_singleton.mp h), by show 1 ≤ 2; decide⟩
theorem good_non (C : Addr) : Good (Info.non C) := fun x y => ⟨fun v h => (by cases h), Nat.zero_le _⟩
theorem good_two (f g : Str) (C : Addr) : Good (Info.two f g C) := fun x y => ⟨fun v h => by
  have h' : v ∈ [x, y] := h
  simpa using h', by show 2 ≤ 2; decide⟩
theorem good_a (ad : Nat → Addr) : ∀ i ∈ La ad, Good i := by
  unfold La
  repeat (first | exact List.forall_mem_nil _ | refine List.forall_mem_cons.2 ⟨(by first | exact good_one _ _ | exact good_non _ | exact good_two _ _ _), ?_⟩)
theorem good_b (ad : Nat → Addr) : ∀ i ∈ Lb ad, Good i := by
  unfold Lb
  repeat (first | exact List.forall_mem_nil _ | refine List.forall_mem_cons.2 ⟨(by first | exact good_one _ _ | exact good_non _ | exact good_two _ _ _), ?_⟩)
theorem good_c (ad : Nat → Addr) : ∀ i ∈ Lc ad, Good i := by
  unfold Lc
  repeat (first | exact List.forall_mem_nil _ | refine List.forall_mem_cons.2 ⟨(by first | exact good_one _ _ | exact good_non _ | exact good_two _ _ _), ?_⟩)
theorem good_d (ad : Nat → Addr) : ∀ i ∈ Ld ad, Good i := by
  unfold Ld
  repeat (first | exact List.forall_mem_nil _ | refine List.forall_mem_cons.2 ⟨(by first | exact good_one _ _ | exact good_non _ | exact good_two _ _ _), ?_⟩)
theorem good_all (ad : Nat → Addr) {i : Info} (h : i ∈ LL ad) : Good i := by
  rcases List.mem_append.mp h with h | h
  · rcases List.mem_append.mp h with h | h
    · rcases List.mem_append.mp h with h | h
      · exact good_a ad i h
      · exact good_b ad i h
    · exact good_c ad i h
  · exact good_d ad i h
theorem paired_sh {K : PySem.W.Frag} {H : Hp} : ∀ {ws : List V}, (∀ v ∈ ws, ∃ d, ShV K H v d) → ∃ ds, Paired (ShV K H) ws ds
  | [], _ => ⟨[], .nil⟩
  | v :: ws, h => by
    obtain ⟨d, hd⟩ := h v List.mem_cons_self
    obtain ⟨ds, hds⟩ := paired_sh (ws := ws) fun u hu => h u (List.mem_cons_of_mem _ hu)
    exact ⟨d :: ds, .cons hd hds⟩
theorem law_end {G : Hp → Prop} {Hx : Hp} {hl kept m33 m53 m20 m58 c33 c53 c20 c58 : Addr} {f33 f53 f20 f58 : List (Str × V)} {o1 o2 : HO}
    (k : ∀ H9 : Hp, H9 hl = some o1 → H9 kept = some o2 → ErrAt H9 m33 c33 (some f33) → ErrAt H9 m53 c53 (some f53) → ErrAt H9 m20 c20 (some f20) → ErrAt H9 m58 c58 (some f58) → G H9)
    (h1 : Hx hl = some o1) (h2 : Hx kept = some o2) (e1 : ErrAt Hx m33 c33 (some f33)) (e2 : ErrAt Hx m53 c53 (some f53)) (e3 : ErrAt Hx m20 c20 (some f20)) (e4 : ErrAt Hx m58 c58 (some f58)) : G Hx := k Hx h1 h2 e1 e2 e3 e4
section
variable {P : Program} {w : World} {K : PySem.W.Frag} {mg : Str → Option Value} {base : Heap} {ad : Nat → Addr} {T : List (Addr × Str)}
theorem ok_law {f : Addr} {fd : FuncData} (F : Fun K "law" "law" sLaw f fd) (L : LawT P w K mg base ad T) (hb : ∀ (s : Shared) (us : List Value), us.length = (["script"] : List Str).length → BindsTo s fd ⟨us, []⟩ ((["script"] : List Str).zip us)) :
    FnG P w K mg base 6 f ["script"] (spLaw K T) := by
  obtain ⟨fs, ds, Gs, ms, ks, bs⟩ := L.start
  obtain ⟨fm, dm, Gm, mm, km, bm⟩ := L.mixed
  obtain ⟨fa, da, Ga, ma, ka, ba⟩ := L.ma
  obtain ⟨fb, db, Gb, mb, kb, bb⟩ := L.mb
  obtain ⟨fc, dc, Gc, mc, kc, bc⟩ := L.mc
  obtain ⟨fd', dd, Gd, md, kd, bd⟩ := L.md
  obtain ⟨fo, do_, Go, mo, ko, bo⟩ := L.own
  obtain ⟨fk, dk, Gk, mk, kk, bk⟩ := L.kinds
  obtain ⟨ft, Gt, mt, kt⟩ := L.these
  refine fnG_of F scl (fun vs H Q E h => ?_) hb (fun cdv A outer s H vs Q hg hr h => ?_)
  · obtain ⟨a, ns, rfl, _⟩ := h
    rfl
  · obtain ⟨a, ns, rfl, hS, tb, k⟩ := h
    have E33 := L.c0.e33
    obtain ⟨f33, d33, i33, t33, g33, b33, _⟩ := E33.ini
    have E53 := L.c0.e53
    obtain ⟨f53, d53, i53, t53, g53, b53, _⟩ := E53.ini
    have E20 := L.c0.e20
    obtain ⟨f20, d20, i20, t20, g20, b20, _⟩ := E20.ini
    have E58 := L.c0.e58
    obtain ⟨f58, d58, i58, t58, g58, b58, _⟩ := E58.ini
    have r3 : Room 3 _ := hr.mono (by decide)
    have r2 : Room 2 _ := hr.mono (by decide)
    have r1 : Room 1 _ := hr.mono (by decide)
    refine ⟨_, pss_cons (ps_set (i := 1) scl.nd rfl (Or.inl rfl) (pe_call Gs r1 (by rfl) ms ks bs .nil pass0 (pa_cons (pv 0) pa_nil)))
      (pss_cons (ps_set (i := 2) scl.nd rfl (Or.inl rfl) (pe_lst (pa_cons pe_non (pa_cons pe_int (pa_cons (pe_un un_neg pe_int) (pa_cons pe_bl (pa_cons pe_str (pa_cons pe_str
        (pa_cons (pe_lst (pa_cons pe_int (pa_cons pe_str pa_nil))) (pa_cons (pe_tup (pa_cons pe_int (pa_cons pe_non pa_nil))) (pa_cons (pe_disp (pps_cons pe_str pe_int pps_nil) (by rfl) (by rfl) (fun z => by cases z) (by decide))
        (pa_cons (pe_lst (pa_cons (pe_lst (pa_cons pe_str pa_nil)) pa_nil)) (pa_cons (pe_op op_pow pe_int pe_int) (pa_cons (pe_tup (pa_cons pe_str (pa_cons pe_int pa_nil))) (pa_cons pe_bl (pa_cons pe_int (pa_cons pe_int pa_nil)))))))))))))))))
      (pss_cons (ps_for PassesOwn.never rfl (pi_range1 rfl L.tS.range (pa_cons pe_int pa_nil)) (pg_name (i := 3) scl.nd rfl (Or.inl rfl))
        (pss_cons (ps_asg (pe_slice sl_list (pe_call Gm r2 (by rfl) mm km bm .nil pass0 (pa_cons (pv 1) (pa_cons (pv 2) pa_nil))) po_none (po_some pe_int)) (pg_lst rfl (pgs_cons (pg_name (i := 4) scl.nd rfl (Or.inl rfl)) (pgs_cons (pg_name (i := 5) scl.nd rfl (Or.inl rfl)) (pgs_cons (pg_name (i := 6) scl.nd rfl (Or.inl rfl)) pgs_nil)))))
        (pss_cons (ps_set (i := 7) scl.nd rfl (Or.inl rfl) (pe_op op_cat (pe_op op_cat (pe_call Ga r3 (by rfl) ma ka ba .nil pass0 (pa_cons (pv 4) (pa_cons (pv 5) (pa_cons (pv 6) pa_nil)))) (pe_call Gb r3 (by rfl) mb kb bb .nil pass0 (pa_cons (pv 4) (pa_cons (pv 5) (pa_cons (pv 6) pa_nil)))))
          (pe_call Gc r3 (by rfl) mc kc bc .nil pass0 (pa_cons (pv 4) (pa_cons (pv 5) (pa_cons (pv 6) pa_nil))))))
        (pss_cons (ps_expr (pe_bm PySem.F.plainAttrs_list PySem.F.slot_list_extend PySem.F.type_list_extend mt_extend (pv 7) (pa_cons (pe_call Gd r3 (by rfl) md kd bd .nil pass0 (pa_cons (pv 4) (pa_cons (pv 5) (pa_cons (pv 6) pa_nil)))) pa_nil)))
        (pss_one (ps_for PassesOwn.never rfl (pi_enum (by rfl) L.en (pa_cons (pv 7) pa_nil))
          (pg_tup rfl (pgs_cons (pg_name (i := 8) scl.nd rfl (Or.inl rfl)) (pgs_cons (pg_tup rfl (pgs_cons (pg_name (i := 9) scl.nd rfl (Or.inl rfl)) (pgs_cons (pg_name (i := 10) scl.nd rfl (Or.inl rfl)) (pgs_cons (pg_name (i := 11) scl.nd rfl (Or.inl rfl)) (pgs_cons (pg_name (i := 12) scl.nd rfl (Or.inl rfl)) pgs_nil))))) pgs_nil)))
          (pss_cons (ps_if (PW.pt (pw_or (pt_not (pt_val (pe_call Go r3 (by rfl) mo ko bo .nil pass0 (pa_cons (pv 9) (pa_cons (pv 8) pa_nil))))) (pw_or1 (pt_not (pt_val (pe_call Go r3 (by rfl) mo ko bo .nil pass0 (pa_cons (pv 10) (pa_cons (pv 8) pa_nil)))))))) (pss_one (ps_ret pe_bl)) pss_nil)
          (pss_one (ps_if (PW.pt (pw_or (pt_not (pt_val (pe_callG Gt hg r1 (by rfl) mt kt (pa_cons (pe_reads (i := 11) r1 rfl (Or.inl rfl) (pa_cons (pv 9) pa_nil)) (pa_cons (pv 12) pa_nil)))))
            (pw_or1 (pt_not (pt_val (pe_callG Gt hg r1 (by rfl) mt kt (pa_cons (pe_reads (i := 11) r1 rfl (Or.inl rfl) (pa_cons (pv 10) pa_nil)) (pa_cons (pv 12) pa_nil)))))))) (pss_one (ps_ret pe_bl)) pss_nil)))))))))
      (pss_cons (ps_set (i := 13) scl.nd rfl (Or.inl rfl) (pe_lst (pa_cons pe_str pa_nil)))
      (pss_cons (ps_set (i := 14) scl.nd rfl (Or.inl rfl) (pe_lst (pa_cons (pe_err E33.er.ox i33 t33 g33 r2 b33 (by rfl) E33.gC (pa_cons (pv 13) pa_nil) (by show 2 ≤ 1000; decide)) (pa_cons (pe_err E53.er.ox i53 t53 g53 r2 b53 (by rfl) E53.gC (pa_cons (pv 13) pa_nil) (by show 2 ≤ 1000; decide))
        (pa_cons (pe_err E20.er.ox i20 t20 g20 r2 b20 (by rfl) E20.gC (pa_cons (pv 13) pa_nil) (by show 2 ≤ 1000; decide)) (pa_cons (pe_err E58.er.ox i58 t58 g58 r2 b58 (by rfl) E58.gC (pa_cons (pv 13) pa_nil) (by show 2 ≤ 1000; decide)) pa_nil))))))
      (pss_cons (ps_expr (pe_bm PySem.F.plainAttrs_list PySem.F.slot_list_append PySem.F.type_list_append mt_append (pv 13) (pa_cons pe_str pa_nil)))
      (pss_cons (ps_if (pt_cmpR (op_neD hr.units) (pe_lst (pa_cons (pe_fldE (pe_ix ix_list (pv 14) pe_int (fun _ _ => rfl))) (pa_cons (pe_fldE (pe_ix ix_list (pv 14) pe_int (fun _ _ => rfl))) (pa_cons (pe_fldE (pe_ix ix_list (pv 14) pe_int (fun _ _ => rfl))) (pa_cons (pe_fldE (pe_ix ix_list (pv 14) pe_int (fun _ _ => rfl))) pa_nil)))))
        (pe_op op_rep (pe_lst (pa_cons (pe_lst (pa_cons pe_str (pa_cons pe_str pa_nil))) pa_nil)) pe_int) (nomark _)) (pss_one (ps_ret pe_bl)) pss_nil)
      (pss_cons (ps_set (i := 15) scl.nd rfl (Or.inl rfl) (pe_err0 PySem.F.excBase_ValueError L.eL.ex L.eL.gC L.eL.er.ox.kC (by rfl)))
      (pss_one (ps_ret (pe_and (pe_callB (call_isErr L.D) (by rfl) L.tK.isi PyProof.Rows.Boot.isinstance (pa_cons (pv 15) (pa_cons (pe_bltn (v := .ty "ValueError") (by rfl) L.KB.gV PyProof.Rows.Boot.ValueError rfl) pa_nil)))
        (pe_one (pe_cmpR op_notIn_seq pe_bl (pe_call Gk r2 (by rfl) mk kk bk .nil pass0 (pa_cons (pv 15) pa_nil)) (by rfl))))))))))))), ?_⟩
    refine ⟨_, rfl, a, ns, rfl, hS, fun H1 st cl s1 na nl sp1 => ?_⟩
    refine ⟨_, rfl, (by show 2 ≤ sizeLine; decide), fun a6 h6 => ⟨(by show 2 ≤ sizeLine; decide), fun a7 h7 => ?_⟩⟩
    intro a8 h8
    refine ⟨upd_same, [(Sum.inr "a", .int 1)], rfl, by decide, ?_⟩
    refine ⟨(by show 1 ≤ sizeLine; decide), fun b9 h9b => ⟨(by show 1 ≤ sizeLine; decide), fun a9 h9 => ?_⟩⟩
    refine ⟨_, _, rfl, rfl, ⟨by decide, by decide, by decide⟩, (by show 2 ≤ sizeLine; decide), fun a11 h11 => ⟨(by show 15 ≤ sizeLine; decide), fun so hso => ?_⟩⟩
    obtain ⟨s7, six, hthings, n6, n9, nb9, nso⟩ := six_new sp1 h6 h7 h8 h9b h9 h11 hso _ rfl
    have sp7 := sp1.stay s7
    have tb7 : LamX.Tabs T _ := tb.ext fun b o e => s7 b o (s1 b o e)
    have k6 := And.intro (sp1.na n6) (sp1.nl n6)
    have k9 := And.intro (sp1.na n9) (sp1.nl n9)
    have kb9 := And.intro (sp1.na nb9) (sp1.nl nb9)
    have kso := And.intro (sp1.na nso) (sp1.nl nso)
    refine ⟨2, rfl, by decide, by decide, ?_⟩
    refine for_range (lo := 0) (n := 2) (fun i σ' H' => (∃ v3 v4 v5 v6 v7 v8 v9 v10 v11 v12 : Option V, σ' = [some (.ref a), some (.ref st), some (.ref so), v3, v4, v5, v6, v7, v8, v9, v10, v11, v12, none, none, none]) ∧ Spr H' st cl (15 * i) ∧ Six H' a6 a7 a8 a9 b9 a11 ∧ H' so = some (.lst (things a6 a7 a8 a9 a11)) ∧ LamX.Tabs T H')
      ⟨⟨none, none, none, none, none, none, none, none, none, none, rfl⟩, sp7, six, hthings, tb7⟩ ?_ ?_
    · rintro i σ' H2 hi ⟨⟨v3, v4, v5, v6, v7, v8, v9, v10, v11, v12, rfl⟩, sp2, six2, ht2, tb2⟩
      refine ⟨_, rfl, _, rfl, st, cl, so, 15 * i, _, rfl, sp2, .inl (SqL.of ht2), (by show 15 * i + 15 ≤ 1000000; omega), (by show 15 < 100000; decide), fun H3 q ys sb3 sp3 hq hys perm => ?_⟩
      obtain ⟨x, y, z, hcut, mx, my, mz⟩ := three_of (perm.length_eq.trans rfl)
      refine ⟨3, rfl, q, ys, rfl, SqL.of hys, fun c hc => ⟨c, [x, y, z], rfl, SqL.of (by rw [← hcut]; exact upd_same), rfl, ?_⟩⟩
      have c3 := same_upd (o := .lst (cutV ys none (some 3))) hc
      have sp4 := sp3.stay c3
      have six4 : Six (upd H3 c (.lst (cutV ys none (some 3)))) a6 a7 a8 a9 b9 a11 := by
        have six3 : Six H3 a6 a7 a8 a9 b9 a11 := six2.keep ((sb3 _ _ six2.h6 k6.1 k6.2).trans six2.h6.symm) ((sb3 _ _ six2.h9 k9.1 k9.2).trans six2.h9.symm) ((sb3 _ _ six2.hb kb9.1 kb9.2).trans six2.hb.symm) fun b o e n1 _ => by
          obtain ⟨_, cs, cur, mix, e1, e2, _⟩ := sp2
          exact sb3 b o e (fun z => by rw [z, e1] at e; exact n1 _ (Option.some.inj e).symm) (fun z => by rw [z, e2] at e; exact n1 _ (Option.some.inj e).symm)
        exact six3.ext (.of c3)
      have ht4 : upd H3 c (.lst (cutV ys none (some 3))) so = some (.lst (things a6 a7 a8 a9 a11)) := c3 _ _ (sb3 _ _ ht2 kso.1 kso.2)
      have tb4 : LamX.Tabs T (upd H3 c (.lst (cutV ys none (some 3)))) := (tabs_sb tb2 sp2 sb3).ext c3
      have mx' := perm.subset mx
      have my' := perm.subset my
      revert sp4 six4 ht4 tb4
      generalize upd H3 c (.lst (cutV ys none (some 3))) = H4
      intro sp4 six4 ht4 tb4
      refine ⟨x, [y, z], rfl, y, [z], rfl, z, [], rfl, rfl, ?_⟩
      refine ⟨_, rfl, _, rfl, _, rfl, x, y, z, rfl, tb4, fun Ha pa ia xa ba' ta hpa ga ra => ?_⟩
      refine ⟨_, rfl, _, rfl, _, rfl, x, y, z, rfl, ta, fun Hb pb ib xb bb' tb' hpb gb rb => ?_⟩
      have hpa' := xb _ _ ga fun ps z => by cases z
      refine ⟨pa, pb, _, _, rfl, rfl, hpa', gb, (by rw [ra.len, rb.len]; show 18 + 18 ≤ sizeLine; decide), fun m1 hm1 => ?_⟩
      have s5 := same_upd (o := .lst (ia ++ ib)) hm1
      refine ⟨_, rfl, _, rfl, _, rfl, x, y, z, rfl, tb'.ext s5, fun Hc pc ic xc bc' tc hpc gc rc => ?_⟩
      refine ⟨m1, pc, _, _, rfl, rfl, xc _ _ upd_same (fun ps z => by cases z), gc, (by rw [List.length_append, ra.len, rb.len, rc.len]; show 18 + 18 + 18 ≤ sizeLine; decide), fun made hmade => ?_⟩
      have s6 := same_upd (o := .lst ((ia ++ ib) ++ ic)) hmade
      refine ⟨_, rfl, .inl ⟨rfl, _, SqL.of upd_same⟩, _, rfl, _, rfl, _, rfl, x, y, z, rfl, tc.ext s6, fun Hd pd id' xd bd' td hpd gd rd => ?_⟩
      have fc : ∀ b o, Hc b = some o → (∀ ps, o ≠ .tbl ps) → upd Hd made (.lst (((ia ++ ib) ++ ic) ++ id')) b = some o := fun b o e nt => by
        rw [upd_ne (ne_of_none e hmade)]
        exact xd _ _ (s6 b o e) nt
      have fb2 : ∀ b o, Hb b = some o → (∀ ps, o ≠ .tbl ps) → upd Hd made (.lst (((ia ++ ib) ++ ic) ++ id')) b = some o := fun b o e nt => fc b o (xc _ _ (s5 b o e) nt) nt
      have fa2 : ∀ b o, Ha b = some o → (∀ ps, o ≠ .tbl ps) → upd Hd made (.lst (((ia ++ ib) ++ ic) ++ id')) b = some o := fun b o e nt => fb2 b o (xb _ _ e nt) nt
      have f4 : LamX.ExtN H4 (upd Hd made (.lst (((ia ++ ib) ++ ic) ++ id'))) := fun b o e nt => fa2 b o (xa _ _ e nt) nt
      have hmd : Hd made = some (.lst ((ia ++ ib) ++ ic)) := xd _ _ upd_same fun ps z => by cases z
      have back1 : ∀ b, upd Hb m1 (.lst (ia ++ ib)) b = none → H4 b = none := fun b z => ba' b (bb' b (none_upd z).2)
      have back2 : ∀ b, upd Hc made (.lst ((ia ++ ib) ++ ic)) b = none → H4 b = none := fun b z => back1 b (bc' b (none_upd z).2)
      have rows : RowsAt K H4 (upd Hd made (.lst (((ia ++ ib) ++ ic) ++ id'))) x y (LL ad) (((ia ++ ib) ++ ic) ++ id') := by
        refine (((ra.keep fun b o e nt _ => fa2 b o e nt).app ((rb.keep fun b o e nt _ => fb2 b o e nt).back ba')).app ((rc.keep fun b o e nt _ => fc b o e nt).back back1)).app ((rd.keep fun b o e nt hb => ?_).back back2)
        have nb : b ≠ made := fun z => by
          rcases hb with hb | hb
          · rw [z, upd_same] at hb
            cases hb
          · rw [z, hmd] at e
            exact hb _ (Option.some.inj e).symm
        rw [upd_ne nb]
        exact e
      refine ⟨made, pd, _, _, rfl, rfl, hmd, gd, (by rw [List.length_append, List.length_append, ra.len, rb.len, rc.len, rd.len]; show 18 + 18 + 18 + 16 ≤ sizeLine; decide), ?_⟩
      have tE : LamX.Tabs T (upd Hd made (.lst (((ia ++ ib) ++ ic) ++ id'))) := tabs_upd_lst td ⟨_, hmd⟩
      have hM : upd Hd made (.lst (((ia ++ ib) ++ ic) ++ id')) made = some (.lst (((ia ++ ib) ++ ic) ++ id')) := upd_same
      have len70 : (((ia ++ ib) ++ ic) ++ id').length = 70 := rows.len
      revert f4 rows tE hM len70
      generalize upd Hd made (.lst (((ia ++ ib) ++ ic) ++ id')) = He
      generalize ((ia ++ ib) ++ ic) ++ id' = all
      intro f4 rows tE hM len70
      have six5 := six4.ext f4
      have ht5 := f4 _ _ ht4 fun ps z => by cases z
      have sp5 : Spr He st cl (15 * i + 15) := by
        obtain ⟨ne, cs, cur, mix, e1, e2, e3, e4⟩ := sp4
        exact ⟨ne, cs, cur, mix, f4 _ _ e1 (fun ps z => by cases z), f4 _ _ e2 (fun ps z => by cases z), e3, e4⟩
      refine ⟨_, rfl, made, _, rfl, SqL.of hM, for_it walk_enum (fun j σ' H' => (∃ v8 v9 v10 v11 v12 : Option V, σ' = [some (.ref a), some (.ref st), some (.ref so), some (.int (0 + (i : Int))), some x, some y, some z, some (.ref made), v8, v9, v10, v11, v12, none, none, none]) ∧ Same He H') ⟨⟨v8, v9, v10, v11, v12, rfl⟩, Same.refl _⟩ (fun j σ' H' _ ⟨_, s⟩ => s.seq (SqL.of hM)) ?_ ?_⟩
      · rintro j X0 σ' H' H'' hj ⟨⟨v8, v9, v10, v11, v12, rfl⟩, sH⟩ ⟨tt, xx, yy, rfl, htt, rfl, hx, hy⟩
        obtain rfl : V.int (j : Int) = xx := Option.some.inj hx
        have sI := sH.trans (same_upd (o := .tup [V.int (j : Int), yy]) htt)
        obtain ⟨info, t, q, hL, rfl, row⟩ := rows.at j hy
        obtain ⟨hj70, eC⟩ := ll_at hL
        obtain ⟨m, v, f, d, pA, pB, zs, h1, h2, h3, h4, h5, hz, h7, h8⟩ := row.keep (H' := upd H' tt (.tup [V.int (j : Int), .ref t])) fun b o e _ _ => sI b o e
        obtain ⟨gw, gl⟩ := good_all ad (List.mem_of_getElem? hL) x y
        have er := L.er j (by omega)
        rw [eC] at h2 h3 h5
        refine ⟨tt, [.int (j : Int), .ref t], rfl, SqT.of upd_same, rfl, .int (j : Int), [.ref t], rfl, .ref t, [], rfl, t, [.ref m, .ref v, .ref f, .ref d], rfl, SqT.of h1, rfl, .ref m, _, rfl, .ref v, _, rfl, .ref f, _, rfl, .ref d, [], rfl, rfl, rfl, ?_⟩
        revert sI h1 h2 h3 h4 h7
        generalize upd H' tt (.tup [V.int (j : Int), .ref t]) = HI
        intro sI h1 h2 h3 h4 h7
        refine ⟨_, rfl, _, rfl, m, j, info.fs x y, rfl, hj70, er, h2, fun H6 s6' => ⟨_, rfl, iteF ⟨_, rfl, _, rfl, v, j, info.fs x y, rfl, hj70, er, h3.same s6', fun H7 s7' => ⟨_, rfl, iteF ?_⟩⟩⟩⟩
        have t7 := s6'.trans s7'
        have u7 := sI.trans t7
        have six7 := six5.ext (.of u7)
        have shS : ∀ {Hx : Hp}, Same H7 Hx → ∃ ds, Paired (ShV K Hx) (info.ws x y) ds := fun {Hx} sx => paired_sh fun w hw => (gw w hw).elim (fun e => things_sh (six7.ext (.of sx)) (e ▸ mx')) fun e => things_sh (six7.ext (.of sx)) (e ▸ my')
        refine ⟨f, q, pA, pB, zs, rfl, h4.keep (fun b o e _ => t7 b o e), _, rfl, m, ad j, info.fs x y, info.ws x y, rfl, h4.keep (fun b o e _ => t7 b o e), er, h2.same t7, h5, hz, fun p1 hp1 => ?_⟩
        have w1 := same_upd (o := .lst (info.ws x y)) hp1
        obtain ⟨ds1, hd1⟩ := shS w1
        refine ⟨_, rfl, p1, d, info.ws x y, ds1, rfl, upd_same, w1 _ _ (t7 _ _ h7), hd1, by omega, ⟨_, rfl, iteF ?_⟩⟩
        have t8 := t7.trans w1
        refine ⟨f, q, pA, pB, zs, rfl, h4.keep (fun b o e _ => t8 b o e), _, rfl, v, ad j, info.fs x y, info.ws x y, rfl, h4.keep (fun b o e _ => t8 b o e), er, h3.same t8, h5, hz, fun p2 hp2 => ?_⟩
        have w2 := same_upd (o := .lst (info.ws x y)) hp2
        obtain ⟨ds2, hd2⟩ := shS (w1.trans w2)
        refine ⟨_, rfl, p2, d, info.ws x y, ds2, rfl, upd_same, w2 _ _ (t8 _ _ h7), hd2, by omega, ⟨_, rfl, iteF ?_⟩⟩
        exact ⟨⟨_, _, _, _, _, rfl⟩, (u7.trans w1).trans w2⟩
      · rintro σ' H' ⟨⟨v8, v9, v10, v11, v12, rfl⟩, sH⟩
        exact ⟨⟨_, _, _, _, _, _, _, _, _, _, rfl⟩, by rw [show 15 * (i + 1) = 15 * i + 15 by omega]; exact sp5.stay sH, six5.ext (.of sH), sH _ _ ht5, tE.ext fun b o e => sH b o e⟩
    · rintro σ' H2 ⟨⟨v3, v4, v5, v6, v7, v8, v9, v10, v11, v12, rfl⟩, sp2, six2, ht2, tb2⟩
      refine ⟨(by show 1 ≤ sizeLine; decide), fun hl hhl => ?_⟩
      refine ⟨_, rfl, fun m33 hm33 => ⟨m33, ad 33, .ref hl, rfl, E33.er.ox, E33.nF, upd_same, fun d33' hd33 ne33 => ⟨rfl, ?_⟩⟩⟩
      obtain ⟨k33, a33⟩ := new_err1 (fs := [("index", V.ref hl)]) hm33 ne33 hd33
      refine ⟨_, rfl, fun m53 hm53 => ⟨m53, ad 53, .ref hl, rfl, E53.er.ox, E53.nF, upd_same, fun d53' hd53 ne53 => ⟨rfl, ?_⟩⟩⟩
      obtain ⟨k53, a53⟩ := new_err1 (fs := [("thing", V.ref hl)]) hm53 ne53 hd53
      refine ⟨_, rfl, fun m20 hm20 => ⟨m20, ad 20, .ref hl, rfl, E20.er.ox, E20.nF, upd_same, fun d20' hd20 ne20 => ⟨rfl, ?_⟩⟩⟩
      obtain ⟨k20, a20⟩ := new_err1 (fs := [("thing", V.ref hl)]) hm20 ne20 hd20
      refine ⟨_, rfl, fun m58 hm58 => ⟨m58, ad 58, .ref hl, rfl, E58.er.ox, E58.nF, upd_same, fun d58' hd58 ne58 => ⟨rfl, ?_⟩⟩⟩
      obtain ⟨k58, a58⟩ := new_err1 (fs := [("room", V.ref hl)]) hm58 ne58 hd58
      refine ⟨(by show 4 ≤ sizeLine; decide), fun kept hkept => ?_⟩
      have kA := ((k33.trans k53).trans k20).trans k58
      have kB := kA.trans (same_upd (o := .lst [V.ref m33, .ref m53, .ref m20, .ref m58]) hkept)
      have eA := (((a33.same k53).same k20).same k58).same (same_upd (o := .lst [V.ref m33, .ref m53, .ref m20, .ref m58]) hkept)
      have eB := ((a53.same k20).same k58).same (same_upd (o := .lst [V.ref m33, .ref m53, .ref m20, .ref m58]) hkept)
      have eC := (a20.same k58).same (same_upd (o := .lst [V.ref m33, .ref m53, .ref m20, .ref m58]) hkept)
      have eD := a58.same (same_upd (o := .lst [V.ref m33, .ref m53, .ref m20, .ref m58]) hkept)
      have hh := kB _ _ (show upd H2 hl (.lst [V.str "v"]) hl = some (.lst [V.str "v"]) from upd_same)
      have hkk : hl ≠ kept := ne_of_none (kA _ _ (show upd H2 hl (.lst [V.str "v"]) hl = some (.lst [V.str "v"]) from upd_same)) hkept
      refine ⟨_, rfl, .inl ⟨rfl, _, SqL.of hh⟩, hl, _, _, rfl, rfl, hh, (by show 1 < sizeLine; decide), ?_⟩
      have np : ∀ {Hx : Hp} {o : HO}, Hx hl = some (.lst [V.str "v"]) → ∀ b u, Hx b = some u → (∀ xs, u ≠ .lst xs) → upd Hx hl o b = some u := fun hx b u e n => by
        have nb : b ≠ hl := fun z => by
          rw [z, hx] at e
          exact n _ (Option.some.inj e).symm
        rw [upd_ne nb]
        exact e
      have eA' := eA.keep (np (o := .lst [V.str "v", .str "w"]) hh)
      have eB' := eB.keep (np (o := .lst [V.str "v", .str "w"]) hh)
      have eC' := eC.keep (np (o := .lst [V.str "v", .str "w"]) hh)
      have eD' := eD.keep (np (o := .lst [V.str "v", .str "w"]) hh)
      refine law_end ?_ (show upd _ hl (.lst [V.str "v", .str "w"]) hl = some (.lst [V.str "v", .str "w"]) from upd_same) (show upd _ hl (.lst [V.str "v", .str "w"]) kept = some (.lst [V.ref m33, .ref m53, .ref m20, .ref m58]) by rw [upd_ne hkk.symm]; exact upd_same) eA' eB' eC' eD'
      intro H9 hh9 hk9 e33 e53 e20 e58
      have l1 : List.lookup ("index" : Str) [(("index" : Str), V.ref hl)] = some (V.ref hl) := by simp [List.lookup]
      have l2 : List.lookup ("thing" : Str) [(("thing" : Str), V.ref hl)] = some (V.ref hl) := by simp [List.lookup]
      have l3 : List.lookup ("room" : Str) [(("room" : Str), V.ref hl)] = some (V.ref hl) := by simp [List.lookup]
      refine ⟨_, rfl, kept, _, 0, .ref m33, rfl, rfl, SqL.of hk9, rfl, m33, ad 33, _, .ref hl, rfl, E33.er, e33, E33.nF, l1, _, rfl, kept, _, 1, .ref m53, rfl, rfl, SqL.of hk9, rfl, m53, ad 53, _, .ref hl, rfl, E53.er, e53, E53.nF, l2,
        _, rfl, kept, _, 2, .ref m20, rfl, rfl, SqL.of hk9, rfl, m20, ad 20, _, .ref hl, rfl, E20.er, e20, E20.nF, l2, _, rfl, kept, _, 3, .ref m58, rfl, rfl, SqL.of hk9, rfl, m58, ad 58, _, .ref hl, rfl, E58.er, e58, E58.nF, l3, (by show 4 ≤ sizeLine; decide), fun lf hlf => ?_⟩
      refine ⟨(by show 2 ≤ sizeLine; decide), fun r1 hr1 => ⟨(by show 1 ≤ sizeLine; decide), fun r2 hr2 => ⟨r2, 4, _, rfl, rfl, upd_same, by decide, by decide, (by show 1 * 4 ≤ sizeLine; decide), fun rr hrr => ?_⟩⟩⟩
      have q1 := same_upd (o := .lst [V.ref hl, .ref hl, .ref hl, .ref hl]) hlf
      have q2 := same_upd (o := .lst [V.str "v", .str "w"]) hr1
      have q3 := same_upd (o := .lst [V.ref r1]) hr2
      have q4 := same_upd (o := .lst (List.replicate (4 : Int).toNat [V.ref r1]).flatten) hrr
      have hl' := q4 _ _ (q3 _ _ (q2 _ _ (q1 _ _ hh9)))
      have lf' := q4 _ _ (q3 _ _ (q2 _ _ (show upd H9 lf (.lst [V.ref hl, .ref hl, .ref hl, .ref hl]) lf = some (.lst [V.ref hl, .ref hl, .ref hl, .ref hl]) from upd_same)))
      have r1' := q4 _ _ (q3 _ _ (show upd _ r1 (.lst [V.str "v", .str "w"]) r1 = some (.lst [V.str "v", .str "w"]) from upd_same))
      have vw : ∀ {Hx : Hp} {p : Addr}, Hx p = some (.lst [V.str "v", .str "w"]) → Dp K Hx (.ref p) (.list [.str "v", .str "w"]) := fun e => .lst (SqL.of e) (.cons (.str _) (.cons (.str _) .nil))
      have four : ∀ {Hx : Hp} {p b : Addr}, Hx p = some (.lst [V.str "v", .str "w"]) → Hx b = some (.lst [V.ref p, .ref p, .ref p, .ref p]) → Dp K Hx (.ref b) (.list [.list [.str "v", .str "w"], .list [.str "v", .str "w"], .list [.str "v", .str "w"], .list [.str "v", .str "w"]]) :=
        fun e1 e2 => .lst (SqL.of e2) (.cons (vw e1) (.cons (vw e1) (.cons (vw e1) (.cons (vw e1) .nil))))
      refine ⟨_, _, four hl' lf', four r1' upd_same, by decide +kernel, by decide +kernel, _, rfl, ?_⟩
      have ev : PyData.eqv (.list [.list [.str "v", .str "w"], .list [.str "v", .str "w"], .list [.str "v", .str "w"], .list [.str "v", .str "w"]]) (.list [.list [.str "v", .str "w"], .list [.str "v", .str "w"], .list [.str "v", .str "w"], .list [.str "v", .str "w"]]) = true := SeqAt.eqv_refl _ (by decide +kernel)
      rw [ev]
      refine iteF ?_
      intro bs' hbs
      refine ⟨_, rfl, bs', ad 70, none, .ty "ValueError", .type "ValueError", true, rfl, L.er 70 (by decide), upd_same, .ty _, L.veL, _, rfl, iteT ?_⟩
      refine ⟨_, rfl, bs', 70, none, rfl, by decide, L.er 70 (by decide), upd_same, fun Hz pz sz nz gz => ?_⟩
      refine ⟨pz, _, rfl, .inl (SqL.of gz), rfl, by decide +kernel, ?_⟩
      have ei : inV (.bl true) (isRow 70 0 70) = false := by decide +kernel
      show Q (.bl (if true = true then !inV (.bl true) (isRow 70 0 70) else inV (.bl true) (isRow 70 0 70))) Hz
      rw [ei]
      exact k Hz
end
end Lamp
namespace Lamp
open PySem PySem.Spec PyProof.Rows L2
/-! ### the entry: the law is called where nothing is being shown -/
/-- what is tracked at the entry: the tables of code objects, the script (if it is no part of what the top wrote) -/
noncomputable def entH (K : PySem.W.Frag) (ts : List Addr) (a : Addr) (o : Obj) (xs : List V) : Hp := fun b => by
  classical exact if b ∈ ts then some (.tbl #[]) else if b = a ∧ K.lookup a = none then some (.frz o (.lst xs)) else none
section
variable {K : PySem.W.Frag} {ts : List Addr} {a : Addr} {o : Obj} {xs : List V}
theorem entH_tab {b : Addr} (h : b ∈ ts) : entH K ts a o xs b = some (.tbl #[]) := if_pos h
theorem entH_scr (h : a ∉ ts) (k : K.lookup a = none) : entH K ts a o xs a = some (.frz o (.lst xs)) := (if_neg h).trans (if_pos ⟨rfl, k⟩)
theorem entH_cases (b : Addr) : (b ∈ ts ∧ entH K ts a o xs b = some (.tbl #[])) ∨ (b ∉ ts ∧ b = a ∧ K.lookup a = none ∧ entH K ts a o xs b = some (.frz o (.lst xs))) ∨ (b ∉ ts ∧ entH K ts a o xs b = none) := by
  by_cases h : b ∈ ts
  · exact .inl ⟨h, if_pos h⟩
  · by_cases g : b = a ∧ K.lookup a = none
    · exact .inr (.inl ⟨h, g.1, g.2, (if_neg h).trans (if_pos g)⟩)
    · exact .inr (.inr ⟨h, (if_neg h).trans (if_neg g)⟩)
end
/-- a def that keeps its promise at the caller's place, called with the script -/
theorem entry_runs {P : Program} {w : World} {K : PySem.W.Frag} {mg mb : Str → Option Value} {k : Nat} {fa a : Addr} {cs : List (Addr × Addr)} {x : Str} {sp : Sp} {s₁ : Shared} {us : List Value} {ns : List Int}
    (KX : K.In s₁.heap) (gl : s₁.heap.Ns mainGlobals mg) (bl : s₁.heap.Ns builtinsNs mb) (bt : ∀ x : Str, x ≠ "__name__" → mb x = bootBuiltins x) (nl : s₁.heap.NoLimit) (ge : s₁.gens = #[])
    (tabs : ∀ p ∈ cs, s₁.heap.get? p.2 = some { cls := .none, data := .fields #[] } ∧ K.lookup p.2 = none ∧ PySem.W.CodeHd s₁.heap p.1 p.2)
    (mo : ∃ (bm : Addr) (ob : Obj), mg "__builtins__" = some (.ref bm) ∧ bm ≠ builtinsNs ∧ s₁.heap.get? bm = some ob ∧ ob.cls = .type "module" ∧ ob.dict = some builtinsNs ∧ ob.data = .plain)
    (sc : s₁.heap.get? a = some { cls := .type "list", data := .seq us.toArray }) (it : IntsAre us ns) (short : ns.length ≤ sizeLine) (hr : Room k callerA)
    (G : ∀ base : Heap, K.In base → base.Ns mainGlobals mg → (∀ p ∈ cs, LamX.TabB base mg p.1 p.2) → FnG P w K mg base k fa [x] sp)
    (hsp : ∀ H : Hp, (∀ p ∈ cs, H p.2 = some (.tbl #[])) → SqL K H a (ns.map V.int) → sp [.ref a] H (fun v _ => v = .bl true) E0) :
    codeAny (model P w) callerA (.call (.ref fa) ⟨[.ref a], []⟩) (fun r s' => r = .ok (.ret (.bool true)) ∧ OldK s₁.heap s'.heap ∧ s'.os = s₁.os ∧ AllBare s'.gens) s₁ := by
  have many := it.length
  have rel := vals_ints it
  let T := cs.map (·.2)
  let S : Obj := { cls := .type "list", data := .seq us.toArray }
  have isTab : ∀ {b}, b ∈ T → s₁.heap.get? b = some { cls := .none, data := .fields #[] } ∧ K.lookup b = none := fun {b} m => by
    obtain ⟨p, hp, rfl⟩ := List.mem_map.mp m
    exact ⟨(tabs p hp).1, (tabs p hp).2.1⟩
  have inT : ∀ p ∈ cs, p.2 ∈ T := fun p hp => List.mem_map.mpr ⟨p, hp, rfl⟩
  have aT : a ∉ T := fun m => by
    have z := (isTab m).1.symm.trans sc
    cases z
  generalize eH : entH K T a S (ns.map V.int) = H
  have cases_ : ∀ b, (b ∈ T ∧ H b = some (.tbl #[])) ∨ (b ∉ T ∧ b = a ∧ K.lookup a = none ∧ H b = some (.frz S (.lst (ns.map V.int)))) ∨ (b ∉ T ∧ H b = none) := fun b => by
    rw [← eH]
    exact entH_cases b
  have frz : ObjOk P w H s₁.heap a (.frz S (.lst (ns.map V.int))) := ⟨sc, by show (ns.map V.int).length ≤ sizeLine; rw [List.length_map]; exact short, us, _, rel, sc⟩
  have ok : HOk P w H s₁.heap := fun b u e => by
    rcases cases_ b with ⟨m, h⟩ | ⟨_, rfl, _, h⟩ | ⟨_, h⟩
    · rw [h] at e
      cases e
      exact (isTab m).1
    · rw [h] at e
      cases e
      exact frz
    · rw [h] at e
      cases e
  -- what is no list and no empty table isn't tracked
  have off : ∀ {b u}, s₁.heap.get? b = some u → (∀ vs n, u.data ≠ .seq vs n) → u.data ≠ .fields #[] → H b = none := fun {b u} e n1 n2 => by
    rcases cases_ b with ⟨m, _⟩ | ⟨_, rfl, _, _⟩ | ⟨_, h⟩
    · have z := (isTab m).1.symm.trans e
      cases z
      exact absurd rfl n2
    · have z := sc.symm.trans e
      cases z
      exact absurd rfl (n1 _ _)
    · exact h
  have offK : ∀ {b u}, K.lookup b = some u → H b = none := fun {b u} e => by
    rcases cases_ b with ⟨m, _⟩ | ⟨_, rfl, n, _⟩ | ⟨_, h⟩
    · rw [(isTab m).2] at e
      cases e
    · rw [n] at e
      cases e
    · exact h
  have script : SqL K H a (ns.map V.int) := by
    rcases cases_ a with ⟨m, _⟩ | ⟨_, _, _, h⟩ | ⟨_, h⟩
    · exact absurd m aT
    · exact .inl (.inr ⟨S, h⟩)
    · cases q : K.lookup a with
      | some u =>
        have z := (KX a u q).symm.trans sc
        cases z
        exact .inr ⟨_, us.toArray, _, q, rfl, rfl, rfl, by rw [List.size_toArray, many]; exact short, by simpa using rel⟩
      | none =>
        rw [← eH, entH_scr aT q] at h
        cases h
  -- the base: all that isn't tracked
  have keepNs : ∀ {b m}, s₁.heap.Ns b m → (hidT s₁.heap H).Ns b m := fun {b m} ⟨u, es, ep, e, d, r⟩ => ⟨u, es, ep, hidT_get e (off e (fun vs n z => by rw [d] at z; cases z) fun z => by rw [d] at z; cases z), d, r⟩
  have baseK : K.In (hidT s₁.heap H) := fun b u e => hidT_get (KX b u e) (offK e)
  have mod : L2.Mod K mg (hidT s₁.heap H) := by
    obtain ⟨m, l1, l2⟩ := nl
    exact ⟨baseK, keepNs gl, ⟨mb, keepNs bl, bt⟩, m, keepNs l1, l2⟩
  have tb : ∀ p ∈ cs, LamX.TabB (hidT s₁.heap H) mg p.1 p.2 := fun p hp => by
    obtain ⟨t1, _, cu, cvs, file, tf, fl, tg, inF, tx, tt, c1, c2, c3, c4, crest⟩ := tabs p hp
    obtain ⟨bm, ob, b1, b2, b3, b4, b5, b6⟩ := mo
    refine ⟨⟨cu, cvs, file, tf, fl, tg, inF, tx, tt, hidT_get c1 (off c1 (fun vs n z => by rw [c3] at z; cases z) fun z => ?_), c2, c3, c4, crest⟩, ⟨bm, ob, b1, b2, fun z => ?_, fun z => ?_, hidT_get b3 (off b3 (fun vs n z => by rw [b6] at z; cases z) fun z => by rw [b6] at z; cases z), b4, b5, b6⟩, fun z => ?_⟩
    · rw [c3] at z
      cases z
      simp at c4
    · obtain ⟨u, es, ep, e, d, _⟩ := gl
      rw [← z, b3] at e
      cases e
      rw [b6] at d
      cases d
    · rw [z, t1] at b3
      cases b3
      cases b6
    · obtain ⟨u, es, ep, e, d, _⟩ := gl
      rw [z, t1] at e
      cases e
      cases d
  have env : Env0 P w K mg (hidT s₁.heap H) callerA [] s₁ H := ⟨rfl, mod, fun b u e => of_hidT e, Nat.le_of_eq (hidT_size _ _), True.intro, (fun b m => absurd m List.not_mem_nil), ok, AllBare.of_eq ge⟩
  refine codeAny_mono ((G _ baseK (keepNs gl) tb).run callerA [] s₁ H [.ref a] [.ref a] _ rfl hr env (.cons rfl .nil) (hsp H (fun p hp => ?_) script)) fun r s' h => ?_
  · rcases cases_ p.2 with ⟨_, h⟩ | ⟨n, _⟩ | ⟨n, _⟩
    · exact h
    · exact absurd (inT p hp) n
    · exact absurd (inT p hp) n
  · rcases r with e | fl
    · exact (show False from h).elim
    · cases fl with
      | ret u =>
        obtain ⟨v, H', os, bare, un, ok', ru, q⟩ := h
        obtain rfl : v = .bl true := q
        obtain rfl : u = Value.bool true := ru
        have stands : ∀ b u, b ∉ T → s₁.heap.get? b = some u → s'.heap.get? b = some u := fun b u m e => by
          rcases cases_ b with ⟨m', _⟩ | ⟨_, rfl, _, h⟩ | ⟨_, h⟩
          · exact absurd m' m
          · obtain ⟨e2, _⟩ := ok' _ _ (un.frzs _ _ _ h)
            have z := sc.symm.trans e
            cases z
            exact e2
          · exact un.keep b u e h (by intro z; cases z) (by intro z; cases z)
        have grown : ∀ p ∈ cs, ∃ more : Array Value, s'.heap.get? p.2 = some { cls := .none, data := .fields more } := fun p hp => by
          rcases cases_ p.2 with ⟨_, h⟩ | ⟨n, _⟩ | ⟨n, _⟩
          · obtain ⟨more, z⟩ := un.tbls p.2 #[] h
            exact ⟨_, ok' p.2 _ z⟩
          · exact absurd (inT p hp) n
          · exact absurd (inT p hp) n
        refine ⟨rfl, ⟨fun b u e => ?_, fun b u e => ?_⟩, os, bare⟩
        · by_cases m : b ∈ T
          · obtain ⟨p, hp, rfl⟩ := List.mem_map.mp m
            obtain ⟨t1, _, hd⟩ := tabs p hp
            obtain ⟨more, g⟩ := grown p hp
            have z := t1.symm.trans e
            cases z
            exact .inr (.inl ⟨(hd.tab t1).isCodeTable, rfl, #[], more, rfl, by rw [Array.empty_append]; exact g⟩)
          · exact .inl (stands b u m e)
        · by_cases m : b ∈ T
          · obtain ⟨p, hp, rfl⟩ := List.mem_map.mp m
            obtain ⟨more, g⟩ := grown p hp
            exact ⟨_, g⟩
          · exact ⟨u, stands b u m e⟩
      | _ => exact False.elim h
end Lamp
namespace Lamp
open PySem PySem.Spec PyProof.Rows L2
/-! ### what the Bools say -/
section
variable {K : PySem.W.Frag}
theorem clsB_ok {tl : List Value} {fs : List Str} {C : Addr} (h : clsB K tl fs C = true) :
    ∃ nm q N bs sn sub ab col dd k0 k1 k2 k3 k5, K.lookup C = some (excClassObj nm q C N bs tl true sn sub ab col dd k0 k1 k2 k3 k5 "ValueError.__new__") ∧ ∀ f ∈ fs, PySem.W.nsIn K N f = some none := by
  unfold clsB at h
  split at h
  · rename_i t dd cd sl lk
    obtain ⟨h1, h⟩ := He.ba h
    obtain ⟨h2, h⟩ := He.ba h
    obtain ⟨h3, h⟩ := He.ba h
    obtain ⟨h4, h⟩ := He.ba h
    obtain ⟨h5, h6⟩ := He.ba h
    split at h2
    · rename_i k0 k1 k2 k3 n k5 hs
      have e1 : t = "type" := of_decide_eq_true h1
      have e2 : n = "ValueError.__new__" := of_decide_eq_true h2
      have e5 := of_decide_eq_true h5
      obtain ⟨nm, bs, mro, ns, qn, hd, sn, sub, ab, col, del⟩ := cd
      dsimp only at h3 h4 e5 h6
      have e4 : del = false := by
        cases del with
        | false => rfl
        | true => cases h4
      subst e1 e2 h3 e4 e5
      have es : sl = #[k0, k1, k2, k3, some (.builtin "ValueError.__new__"), k5] := by
        obtain ⟨l⟩ := sl
        simp only at hs
        rw [hs]
      subst es
      exact ⟨nm, qn, ns, bs, sn, sub, ab, col, dd, k0, k1, k2, k3, k5, lk, fun f hf => He.eqO_ok (List.all_eq_true.mp h6 f hf)⟩
    · cases h2
  · cases h
theorem cls_find {tl : List Value} {fs : List Str} {C : Addr} (h : clsB K tl fs C = true) {f : Str} (hf : f ∈ fs) : PySem.W.findIn K (.ref C) f = PySem.W.alongIn K f tl := by
  obtain ⟨nm, q, N, bs, sn, sub, ab, col, dd, k0, k1, k2, k3, k5, lk, hn⟩ := clsB_ok h
  have e : PySem.W.ownIn K f (.ref C) = some none := by
    show (match K.lookup C with
      | some ⟨_, _, .cls cd, _⟩ => PySem.W.nsIn K cd.ns f
      | _ => none) = some none
    rw [lk]
    exact hn f hf
  show (match K.lookup C with
      | some ⟨_, _, .cls cd, _⟩ => PySem.W.alongIn K f cd.mro
      | _ => none) = _
  rw [lk]
  show (match PySem.W.ownIn K f (.ref C) with
      | some (some v) => some (some v)
      | some none => PySem.W.alongIn K f tl
      | none => none) = _
  rw [e]
theorem cls_mro {tl : List Value} {fs : List Str} {C : Addr} (h : clsB K tl fs C = true) (b : Value) : PySem.W.subIn K (.ref C) b = some ((Value.ref C :: tl).contains b) := by
  obtain ⟨nm, q, N, bs, sn, sub, ab, col, dd, k0, k1, k2, k3, k5, lk, hn⟩ := clsB_ok h
  show PySem.W.mroIn K C b = _
  unfold PySem.W.mroIn PySem.W.clsIn
  rw [lk]
  rfl
theorem cls_type {tl : List Value} {fs : List Str} {C : Addr} (h : clsB K tl fs C = true) : PySem.W.typeIn K (.ref C) = some (.type "type") ∧ (PySem.W.clsIn K C).isSome = true := by
  obtain ⟨nm, q, N, bs, sn, sub, ab, col, dd, k0, k1, k2, k3, k5, lk, hn⟩ := clsB_ok h
  constructor
  · show (K.lookup C).map (·.cls) = _
    rw [lk]
    rfl
  · unfold PySem.W.clsIn
    rw [lk]
    rfl
theorem type_call : PySem.W.findIn K (.type "type") "__call__" = some (some (.builtin "type.__call__")) := by
  kernel_rfl
theorem cls_keep {tl : List Value} {fs : List Str} {C : Addr} (h : clsB K tl fs C = true) : PySem.W.keepIn K (.ref C) = true := by
  obtain ⟨t, _⟩ := cls_type h
  obtain ⟨nm, q, N, bs, sn, sub, ab, col, dd, k0, k1, k2, k3, k5, lk, hn⟩ := clsB_ok h
  unfold PySem.W.keepIn
  dsimp only
  rw [lk]
  show (PySem.W.specialIn K (.ref C) "__call__" == some (some (.builtin "type.__call__"))) = true
  unfold PySem.W.specialIn
  rw [t]
  show (PySem.W.findIn K (.type "type") "__call__" == some (some (.builtin "type.__call__"))) = true
  rw [type_call]
  exact beq_self_eq_true _
theorem desC : DesC K := ⟨by kernel_rfl, by kernel_rfl⟩
theorem errC_of {tl : List Value} {fs : List Str} {C : Addr} (h : clsB K tl fs C = true) (hc : ∀ f ∈ ctn, f ∈ fs) (ht : PySem.HandSPX.refsVE tl = true) (hb : tl.contains (.type "BaseException") = true) (ho : tl.contains (.type "object") = true) {gs : List Str} (t : tailB K tl gs = true) : ErrC K C := by
  obtain ⟨t1, t⟩ := He.ba t
  obtain ⟨t2, t⟩ := He.ba t
  obtain ⟨t3, t⟩ := He.ba t
  obtain ⟨t4, _⟩ := He.ba t
  have hm : ∀ b, tl.contains b = true → (Value.ref C :: tl).contains b = true := fun b z => by
    rw [List.contains_cons, z, Bool.or_true]
  have f1 : ("__setattr__" : Str) ∈ ctn := by decide
  have f2 : ("__getattribute__" : Str) ∈ ctn := by decide
  have f3 : ("__getattr__" : Str) ∈ ctn := by decide
  have f4 : ("__class__" : Str) ∈ ctn := by decide
  refine ⟨⟨?_, ?_, ?_, (cls_type h).1, cls_keep h⟩, ?_, ?_, ?_, ?_, ?_⟩
  · obtain ⟨nm, q, N, bs, sn, sub, ab, col, dd, k0, k1, k2, k3, k5, lk, hn⟩ := clsB_ok h
    exact ⟨nm, q, N, bs, tl, sn, sub, ab, col, dd, k0, k1, k2, k3, k5, lk, ht⟩
  · rw [cls_find h (hc _ f1)]
    exact He.eqO_ok t1
  · rw [cls_mro h, hm _ hb]
  · rw [cls_find h (hc _ f2)]
    exact He.eqO_ok t2
  · rw [cls_find h (hc _ f3)]
    exact He.eqO_ok t3
  · obtain ⟨nm, q, N, bs, sn, sub, ab, col, dd, k0, k1, k2, k3, k5, lk, hn⟩ := clsB_ok h
    unfold PySem.W.hasDictIn PySem.W.clsIn
    rw [lk]
    rfl
  · rw [cls_find h (hc _ f4)]
    exact He.eqO_ok t4
  · have z := cls_mro h (.type "object")
    rw [hm _ ho] at z
    exact z
theorem asc_lt {a : Addr} : ∀ {l : List Addr} {b : Addr}, ascB b l = true → a ≤ b → ∀ x ∈ l, a < x
  | [], _, _, _, x, hx => by cases hx
  | c :: r, b, h, le, x, hx => by
    have h1 : (HandSHeadRun.frNat c fun c => Nat.blt b c && ascB c r) = true := h
    rw [HandSHeadRun.frNat_eq] at h1
    obtain ⟨h2, h3⟩ := He.ba h1
    have lt : b < c := Nat.le_of_ble_eq_true h2
    rcases List.mem_cons.mp hx with rfl | hx
    · exact Nat.lt_of_le_of_lt le lt
    · exact asc_lt h3 (Nat.le_of_lt (Nat.lt_of_le_of_lt le lt)) x hx
theorem asc_get : ∀ {l : List Addr} {b : Addr}, ascB b l = true → ∀ {i j : Nat} {x y : Addr}, i < j → l[i]? = some x → l[j]? = some y → x < y
  | [], _, _, i, j, x, y, _, hx, _ => by cases hx
  | c :: r, b, h, i, j, x, y, lt, hx, hy => by
    have h1 : (HandSHeadRun.frNat c fun c => Nat.blt b c && ascB c r) = true := h
    rw [HandSHeadRun.frNat_eq] at h1
    obtain ⟨_, h3⟩ := He.ba h1
    cases j with
    | zero => exact absurd lt (Nat.not_lt_zero _)
    | succ j =>
      rw [List.getElem?_cons_succ] at hy
      cases i with
      | zero =>
        rw [List.getElem?_cons_zero] at hx
        cases hx
        exact asc_lt h3 (Nat.le_refl _) y (List.mem_of_getElem? hy)
      | succ i =>
        rw [List.getElem?_cons_succ] at hx
        exact asc_get h3 (Nat.lt_of_succ_lt_succ lt) hx hy
end
end Lamp
namespace Lamp
open PySem PySem.Spec PyProof.Rows L2
/-! ### the seventy errors and the one above them -/
/-- where they stand -/
def adY (K : PySem.W.Frag) (j : Nat) : Addr := match errs[j]? with
  | some q => He.ga K q.1
  | none => He.ga K "LampError"
abbrev tl1 (K : PySem.W.Frag) : List Value := .ref (He.ga K "LampError") :: He.veBase
structure ExY (K : PySem.W.Frag) : Prop where
  glo : gloB K "LampError" (He.ga K "LampError") = true
  cls : clsB K He.veBase ctn (He.ga K "LampError") = true
  exc : PySem.W.excIn K (He.ga K "LampError") He.veBase "ValueError.__new__" = true
  t1 : tailB K (tl1 K) flds = true
  t2 : tailB K He.veBase [] = true
  one : ∀ q ∈ errs, oneB K (He.ga K "LampError") q = true
  asc : ascB (He.ga K "LampError") (errs.map fun q => He.ga K q.1) = true
  tab : ascB 0 [tabY K "_law_made_a", tabY K "_law_made_b", tabY K "_law_made_c", tabY K "_law_made_d"] = true
theorem exY_of {K : PySem.W.Frag} (h : exB K = true) : ExY K := by
  unfold exB at h
  rw [HandSHeadRun.frNat_eq] at h
  obtain ⟨h1, h⟩ := He.ba h
  obtain ⟨h2, h⟩ := He.ba h
  obtain ⟨h3, h⟩ := He.ba h
  obtain ⟨h4, h⟩ := He.ba h
  obtain ⟨h5, h⟩ := He.ba h
  obtain ⟨h6, h⟩ := He.ba h
  obtain ⟨h7, h8⟩ := He.ba h
  exact ⟨h1, h2, h3, h4, h5, fun q hq => List.all_eq_true.mp h6 q hq, h7, h8⟩
theorem errs_len : errs.length = 70 := by rfl
theorem errs_at {j : Nat} (h : j < 70) : ∃ q, errs[j]? = some q ∧ q ∈ errs := by
  have h' : j < errs.length := by
    rw [errs_len]
    exact h
  exact ⟨errs[j], List.getElem?_eq_getElem h', List.getElem_mem h'⟩
section
variable {K : PySem.W.Frag} {h : Heap} {mg : Str → Option Value}
theorem adY_at {j : Nat} {q : Str × List Str} (e : errs[j]? = some q) : adY K j = He.ga K q.1 := by
  unfold adY
  rw [e]
theorem adY_70 : adY K 70 = He.ga K "LampError" := rfl
theorem one_cls {q : Str × List Str} {CL : Addr} (o : oneB K CL q = true) : gloB K q.1 (He.ga K q.1) = true ∧ clsB K (.ref CL :: He.veBase) (q.2 ++ ctn) (He.ga K q.1) = true ∧ (match q.2 with
  | [] => PySem.W.excIn K (He.ga K q.1) He.veBase "ValueError.__new__"
  | _ => He.eqO (PySem.W.findIn K (.ref (He.ga K q.1)) "__init__") (some (some (.ref (He.ma K (He.ga K q.1) "__init__")))) && PySem.W.isFn K (.ref (He.ma K (He.ga K q.1) "__init__"))) = true := by
  unfold oneB at o
  rw [HandSHeadRun.frNat_eq] at o
  obtain ⟨a, o⟩ := He.ba o
  obtain ⟨b, c⟩ := He.ba o
  exact ⟨a, b, c⟩
theorem lamp_errC (E : ExY K) : ErrC K (He.ga K "LampError") := errC_of E.cls (fun f hf => hf) (by rfl) (by decide) (by decide) E.t2
theorem one_errC (E : ExY K) {q : Str × List Str} (hq : q ∈ errs) : ErrC K (He.ga K q.1) := by
  obtain ⟨_, c, _⟩ := one_cls (E.one q hq)
  refine errC_of c (fun f hf => List.mem_append.mpr (.inr hf)) ?_ ?_ ?_ E.t1
  · show PySem.HandSPX.refsVE He.veBase = true
    rfl
  · rw [List.contains_cons, show He.veBase.contains (.type "BaseException") = true by decide, Bool.or_true]
  · rw [List.contains_cons, show He.veBase.contains (.type "object") = true by decide, Bool.or_true]
theorem all_errC (E : ExY K) : ∀ j, j < 71 → ErrC K (adY K j) := fun j hj => by
  rcases Nat.lt_or_ge j 70 with lt | ge
  · obtain ⟨q, e, m⟩ := errs_at lt
    rw [adY_at e]
    exact one_errC E m
  · obtain rfl : j = 70 := Nat.le_antisymm (Nat.le_of_lt_succ hj) ge
    exact lamp_errC E
theorem ad_gt (E : ExY K) {j : Nat} (hj : j < 70) : adY K 70 < adY K j := by
  obtain ⟨q, e, m⟩ := errs_at hj
  rw [adY_at e]
  exact asc_lt E.asc (Nat.le_refl _) _ (List.mem_map.mpr ⟨q, m, rfl⟩)
theorem ad_lt (E : ExY K) {i j : Nat} (hj : j < 70) (lt : i < j) : adY K i < adY K j := by
  obtain ⟨q, e, m⟩ := errs_at (Nat.lt_trans lt hj)
  obtain ⟨r, e2, m2⟩ := errs_at hj
  rw [adY_at e, adY_at e2]
  exact asc_get E.asc lt (by rw [List.getElem?_map, e]; rfl) (by rw [List.getElem?_map, e2]; rfl)
theorem ad_inj (E : ExY K) {i j : Nat} (hi : i < 71) (hj : j < 70) : adY K i = adY K j ↔ j = i := by
  constructor
  · intro z
    rcases Nat.lt_trichotomy i j with lt | eq | gt
    · exact absurd z (Nat.ne_of_lt (ad_lt E hj lt))
    · exact eq.symm
    · rcases Nat.lt_or_ge i 70 with l70 | g70
      · exact absurd z.symm (Nat.ne_of_lt (ad_lt E l70 gt))
      · obtain rfl : i = 70 := Nat.le_antisymm (Nat.le_of_lt_succ hi) g70
        exact absurd z (Nat.ne_of_lt (ad_gt E hj))
  · rintro rfl
    rfl
/-- the classes ahead of a class's own kind, at an index -/
theorem sub_at (E : ExY K) {i : Nat} (hi : i < 71) (b : Value) : PySem.W.subIn K (.ref (adY K i)) b = some (decide (b = .ref (adY K i)) || (decide (b = .ref (adY K 70)) || He.veBase.contains b)) := by
  have c1 : ∀ (v : Value) (l : List Value), (v :: l).contains b = (decide (b = v) || l.contains b) := fun v l => by
    rw [List.contains_cons]
    congr 1
  rcases Nat.lt_or_ge i 70 with lt | ge
  · obtain ⟨q, e, m⟩ := errs_at lt
    obtain ⟨_, c, _⟩ := one_cls (E.one q m)
    rw [adY_at e, cls_mro c, c1, c1, adY_70]
  · obtain rfl : i = 70 := Nat.le_antisymm (Nat.le_of_lt_succ hi) ge
    rw [adY_70, cls_mro E.cls, c1]
    cases decide (b = Value.ref (He.ga K "LampError")) <;> rfl
theorem type_at (E : ExY K) {i : Nat} (hi : i < 71) : PySem.W.typeIn K (.ref (adY K i)) = some (.type "type") ∧ (PySem.W.clsIn K (adY K i)).isSome = true := by
  rcases Nat.lt_or_ge i 70 with lt | ge
  · obtain ⟨q, e, m⟩ := errs_at lt
    obtain ⟨_, c, _⟩ := one_cls (E.one q m)
    rw [adY_at e]
    exact cls_type c
  · obtain rfl : i = 70 := Nat.le_antisymm (Nat.le_of_lt_succ hi) ge
    exact cls_type E.cls
theorem kit_ref (E : ExY K) {i j : Nat} (hi : i < 71) (hj : j < 71) : PySem.W.kitOne K (.ref (adY K i)) (.ref (adY K j)) = some (decide (adY K j = adY K i) || decide (adY K j = adY K 70)) := by
  unfold PySem.W.kitOne
  obtain ⟨t1, t2⟩ := type_at E hj
  by_cases z : adY K j = adY K i
  · have e : (Value.ref (adY K i) == Value.ref (adY K j)) = true := beq_iff_eq.mpr (by rw [z])
    rw [if_pos e, decide_eq_true z, Bool.true_or]
  · have e : ¬ (Value.ref (adY K i) == Value.ref (adY K j)) = true := fun y => z (Value.ref.inj (beq_iff_eq.mp y)).symm
    rw [if_neg e]
    unfold PySem.W.kitCls
    dsimp only
    rw [t1, t2, if_pos (by rfl), sub_at E hi]
    have v : He.veBase.contains (.ref (adY K j)) = false := by
      unfold He.veBase
      simp [List.contains_cons]
    rw [v, Bool.or_false]
    have d : ∀ a b : Addr, decide (Value.ref a = Value.ref b) = decide (a = b) := fun a b => decide_eq_decide.mpr ⟨fun y => Value.ref.inj y, fun y => by rw [y]⟩
    rw [d, d]
theorem kit_ty (E : ExY K) {i : Nat} (hi : i < 71) (T : String) (hT : PySem.W.kitMeta T = true) : PySem.W.kitOne K (.ref (adY K i)) (.type T) = some (He.veBase.contains (.type T)) := by
  unfold PySem.W.kitOne
  have e : ¬ (Value.ref (adY K i) == Value.type T) = true := fun y => by
    have z := beq_iff_eq.mp y
    cases z
  rw [if_neg e]
  unfold PySem.W.kitCls
  dsimp only
  rw [if_pos hT, sub_at E hi]
  have d : ∀ a : Addr, decide (Value.type T = Value.ref a) = false := fun a => decide_eq_false (fun z => by cases z)
  rw [d, d, Bool.false_or, Bool.false_or]
theorem kitAll_of (E : ExY K) : KitAll K (adY K) := fun i j hi hj => by
  rw [kit_ref E hi (Nat.lt_succ_of_lt hj)]
  have n : decide (adY K j = adY K 70) = false := decide_eq_false (Nat.ne_of_gt (ad_gt E hj))
  rw [n, Bool.or_false]
  exact congrArg some (decide_eq_decide.mpr ⟨fun z => (ad_inj E hi hj).mp z.symm, fun z => by rw [z]⟩)
theorem glo_of (X : K.In h) (G : h.Ns mainGlobals mg) {x : Str} {C : Addr} (e : gloB K x C = true) : mg x = some (.ref C) := PySem.W.mg_of X G (He.eqO_ok e)
theorem kitB_of (E : ExY K) (X : K.In h) (G : h.Ns mainGlobals mg) (gV : mg "ValueError" = none) (gE : mg "LookupError" = none) (rng : mg "range" = none) : KitB K mg (adY K) (adY K 70) := by
  refine ⟨glo_of X G E.glo, fun i hi => ?_, fun i hi => ?_, fun i hi => ?_, gV, gE, rng⟩
  · rw [kit_ref E (Nat.lt_succ_of_lt hi) (by decide), decide_eq_true (rfl : adY K 70 = adY K 70), Bool.or_true]
  · rw [kit_ty E (Nat.lt_succ_of_lt hi) _ (by kernel_rfl)]
    exact congrArg some (by decide)
  · rw [kit_ty E (Nat.lt_succ_of_lt hi) _ (by kernel_rfl)]
    exact congrArg some (by decide)
theorem err0_of (E : ExY K) (X : K.In h) (G : h.Ns mainGlobals mg) {j : Nat} {x : Str} (e : errs[j]? = some (x, [])) : Err0 K mg x (adY K j) := by
  have m := List.mem_of_getElem? e
  obtain ⟨g, c, i⟩ := one_cls (E.one _ m)
  rw [adY_at e]
  exact ⟨one_errC E m, glo_of X G g, i⟩
theorem lamp_err0 (E : ExY K) (X : K.In h) (G : h.Ns mainGlobals mg) : Err0 K mg "LampError" (adY K 70) := ⟨lamp_errC E, glo_of X G E.glo, E.exc⟩
theorem fld_none (E : ExY K) {q : Str × List Str} (m : q ∈ errs) {f : Str} (hf : f ∈ q.2) (hg : f ∈ flds) : PySem.W.findIn K (.ref (He.ga K q.1)) f = some none := by
  obtain ⟨_, c, _⟩ := one_cls (E.one q m)
  rw [cls_find c (List.mem_append.mpr (.inl hf))]
  obtain ⟨_, t⟩ := He.ba E.t1
  obtain ⟨_, t⟩ := He.ba t
  obtain ⟨_, t⟩ := He.ba t
  obtain ⟨_, t⟩ := He.ba t
  exact He.eqO_ok (List.all_eq_true.mp t f hg)
theorem ini_find (E : ExY K) {q : Str × List Str} (m : q ∈ errs) (n : q.2 ≠ []) : PySem.W.findIn K (.ref (He.ga K q.1)) "__init__" = some (some (.ref (He.ma K (He.ga K q.1) "__init__"))) ∧ PySem.W.typeIn K (.ref (He.ma K (He.ga K q.1) "__init__")) = some (.type "function") := by
  obtain ⟨_, _, i⟩ := one_cls (E.one q m)
  split at i
  · rename_i z
    exact absurd z n
  · obtain ⟨a, b⟩ := He.ba i
    exact ⟨He.eqO_ok a, beq_iff_eq.mp b⟩
end
end Lamp
namespace Lamp
open PySem PySem.Spec PyProof.Rows L2
/-! ### the errors' own __init__ -/
abbrev ini (i : Nat) : Stmt := inClass (top i) 0
/-- a def that takes what is handed to it, by place or by names -/
def Takes1 (st : Stmt) (qual f : Str) : Prop := ∀ (kV doc pm : Value) (an : Option Addr) (cdv ct u v : Value),
  bindArgs (PySem.W.fnOf "__init__" qual (defArgs st) (defBody st) (defScope st) .none kV doc pm an cdv ct) ⟨[u, v], []⟩ = pure [(("self" : Str), u), (f, v)] ∧
  bindArgs (PySem.W.fnOf "__init__" qual (defArgs st) (defBody st) (defScope st) .none kV doc pm an cdv ct) ⟨[u], [(f, v)]⟩ = pure [(("self" : Str), u), (f, v)]
def Takes2 (st : Stmt) (qual f g : Str) : Prop := ∀ (kV doc pm : Value) (an : Option Addr) (cdv ct u v z : Value),
  bindArgs (PySem.W.fnOf "__init__" qual (defArgs st) (defBody st) (defScope st) .none kV doc pm an cdv ct) ⟨[u, v, z], []⟩ = pure [(("self" : Str), u), (f, v), (g, z)] ∧
  bindArgs (PySem.W.fnOf "__init__" qual (defArgs st) (defBody st) (defScope st) .none kV doc pm an cdv ct) ⟨[u], [(g, z), (f, v)]⟩ = pure [(("self" : Str), u), (f, v), (g, z)]
section
variable {P : Program} {w : World} {K : PySem.W.Frag} {mg : Str → Option Value} {base h : Heap}
theorem vals_app : ∀ {vs : List V} {us : List Value} {zs : List V} {ws : List Value}, Vals vs us → Vals zs ws → Vals (vs ++ zs) (us ++ ws)
  | [], [], _, _, .nil, r => r
  | _ :: _, _ :: _, _, _, .cons a b, r => .cons a (vals_app b r)
theorem vals_rev : ∀ {zs : List V} {ws : List Value}, Vals zs ws → Vals zs.reverse ws.reverse
  | [], [], .nil => .nil
  | _ :: _, _ :: _, .cons a b => by
    rw [List.reverse_cons, List.reverse_cons]
    exact vals_app (vals_rev b) (.cons a .nil)
theorem err1_of (E : ExY K) (X : K.In h) (G : h.Ns mainGlobals mg) {j i : Nat} {x f qual : Str} {fd : FuncData} {q1 q2 q3 q4 : Pos} (e : errs[j]? = some (x, [f])) (hf : f ∈ flds)
    (F : FunD K "__init__" qual (defArgs (ini i)) (defBody (ini i)) (defScope (ini i)) [] [] (He.ma K (He.ga K x) "__init__") fd)
    (hb : defBody (ini i) = [.Assign [.Attribute (.Name "self" q1) f q2] (.Name f q3) q4]) (S : FnScope ["self", f] ["self", f] (defScope (ini i))) (l0 : (defScope (ini i)).names.lookup ("self" : Str) = some .local) (l1 : (defScope (ini i)).names.lookup f = some .local)
    (d1 : (f == ("__debug__" : Str)) = false) (d2 : (f == ("__classdict__" : Str)) = false) (t : Takes1 (ini i) qual f) : Err1 P w K mg base x f (adY K j) := by
  have m := List.mem_of_getElem? e
  obtain ⟨g, c, _⟩ := one_cls (E.one _ m)
  obtain ⟨i1, i2⟩ := ini_find E m (by simp)
  have ok := ok_init1 (P := P) (w := w) (mg := mg) (base := base) (fun_of F) hb S l0 l1 d1 d2
  rw [adY_at e]
  refine ⟨one_errC E m, glo_of X G g, fld_none E m List.mem_cons_self hf, _, fd, i1, i2, ok, ?_, ?_, fun r1 r2 => vals_app r1 r2⟩
  · refine F.bindsN fun kV doc pm an cdv ct us hl => ?_
    match us, hl with
    | [u, v], _ => exact (t kV doc pm an cdv ct u v).1
  · intro s us ws _ h1 h2
    obtain ⟨oc, od, dV, kV, doc, pm, an, cdv, ct, osl, rfl, lk, hcd, hD, hK⟩ := F.ex
    rcases hD with ⟨_, rfl⟩ | ⟨z, _⟩
    · match us, h1, ws, h2 with
      | [u], _, [v], _ => exact BindsTo.of_looks fun M => PySem.W.Looks.of_pure (t kV doc pm an cdv ct u v).2
    · exact absurd rfl z
theorem err2_of (E : ExY K) (X : K.In h) (G : h.Ns mainGlobals mg) {j i : Nat} {x f g qual : Str} {fd : FuncData} {q1 q2 q3 q4 r1 r2 r3 r4 : Pos} (e : errs[j]? = some (x, [f, g])) (hf : f ∈ flds) (hg : g ∈ flds)
    (F : FunD K "__init__" qual (defArgs (ini i)) (defBody (ini i)) (defScope (ini i)) [] [] (He.ma K (He.ga K x) "__init__") fd)
    (hb : defBody (ini i) = [.Assign [.Attribute (.Name "self" q1) f q2] (.Name f q3) q4, .Assign [.Attribute (.Name "self" r1) g r2] (.Name g r3) r4]) (S : FnScope ["self", f, g] ["self", f, g] (defScope (ini i)))
    (l0 : (defScope (ini i)).names.lookup ("self" : Str) = some .local) (l1 : (defScope (ini i)).names.lookup f = some .local) (l2 : (defScope (ini i)).names.lookup g = some .local)
    (d1 : (f == ("__debug__" : Str)) = false) (d2 : (f == ("__classdict__" : Str)) = false) (d3 : (g == ("__debug__" : Str)) = false) (d4 : (g == ("__classdict__" : Str)) = false) (t : Takes2 (ini i) qual f g) : Err2 P w K mg base x f g (adY K j) := by
  have m := List.mem_of_getElem? e
  obtain ⟨gl, c, _⟩ := one_cls (E.one _ m)
  obtain ⟨i1, i2⟩ := ini_find E m (by simp)
  have ok := ok_init2 (P := P) (w := w) (mg := mg) (base := base) (fun_of F) hb S l0 l1 l2 d1 d2 d3 d4
  rw [adY_at e]
  refine ⟨one_errC E m, glo_of X G gl, fld_none E m List.mem_cons_self hf, fld_none E m (List.mem_cons_of_mem _ List.mem_cons_self) hg, _, fd, i1, i2, ok, ?_, ?_, fun r1 r2 => vals_app r1 (vals_rev r2)⟩
  · refine F.bindsN fun kV doc pm an cdv ct us hl => ?_
    match us, hl with
    | [u, v, z], _ => exact (t kV doc pm an cdv ct u v z).1
  · intro s us ws _ h1 h2
    obtain ⟨oc, od, dV, kV, doc, pm, an, cdv, ct, osl, rfl, lk, hcd, hD, hK⟩ := F.ex
    rcases hD with ⟨_, rfl⟩ | ⟨z, _⟩
    · match us, h1, ws, h2 with
      | [u], _, [z, v], _ => exact BindsTo.of_looks fun M => PySem.W.Looks.of_pure (t kV doc pm an cdv ct u v z).2
    · exact absurd rfl z
theorem fn_at {n : Nat} {d : He.DefD} (c : He.SaysD fa fn K) (e : fn[n]? = some d) : ∃ fd, FunD K d.name d.qual d.params d.body d.scope (d.dvs K) (d.kws K) (He.fAd K d.at_) fd := c.def_ n e
theorem y0 (E : ExY K) (c : He.SaysD fa fn K) (X : K.In h) (G : h.Ns mainGlobals mg) : Err1 P w K mg base "BadAsker" "thing" (adY K 0) := by
  obtain ⟨fd, F⟩ := fn_at c (n := 15) (d := iniD "BadAsker" "BadAsker.__init__" 2) (by rfl)
  exact err1_of (i := 2) E X G (by rfl) (by decide) F (by rfl) ⟨rfl, rfl, rfl, by decide +kernel, rfl, by decide +kernel, by decide +kernel⟩ (by rfl) (by rfl) (by decide) (by decide) fun _ _ _ _ _ _ _ _ => ⟨rfl, rfl⟩
theorem y1 (E : ExY K) (c : He.SaysD fa fn K) (X : K.In h) (G : h.Ns mainGlobals mg) : Err1 P w K mg base "BadBegun" "index" (adY K 1) := by
  obtain ⟨fd, F⟩ := fn_at c (n := 16) (d := iniD "BadBegun" "BadBegun.__init__" 3) (by rfl)
  exact err1_of (i := 3) E X G (by rfl) (by decide) F (by rfl) ⟨rfl, rfl, rfl, by decide +kernel, rfl, by decide +kernel, by decide +kernel⟩ (by rfl) (by rfl) (by decide) (by decide) fun _ _ _ _ _ _ _ _ => ⟨rfl, rfl⟩
theorem y2 (E : ExY K) (c : He.SaysD fa fn K) (X : K.In h) (G : h.Ns mainGlobals mg) : Err1 P w K mg base "BadBooks" "thing" (adY K 2) := by
  obtain ⟨fd, F⟩ := fn_at c (n := 17) (d := iniD "BadBooks" "BadBooks.__init__" 4) (by rfl)
  exact err1_of (i := 4) E X G (by rfl) (by decide) F (by rfl) ⟨rfl, rfl, rfl, by decide +kernel, rfl, by decide +kernel, by decide +kernel⟩ (by rfl) (by rfl) (by decide) (by decide) fun _ _ _ _ _ _ _ _ => ⟨rfl, rfl⟩
theorem y3 (E : ExY K) (c : He.SaysD fa fn K) (X : K.In h) (G : h.Ns mainGlobals mg) : Err1 P w K mg base "BadBox" "thing" (adY K 3) := by
  obtain ⟨fd, F⟩ := fn_at c (n := 18) (d := iniD "BadBox" "BadBox.__init__" 5) (by rfl)
  exact err1_of (i := 5) E X G (by rfl) (by decide) F (by rfl) ⟨rfl, rfl, rfl, by decide +kernel, rfl, by decide +kernel, by decide +kernel⟩ (by rfl) (by rfl) (by decide) (by decide) fun _ _ _ _ _ _ _ _ => ⟨rfl, rfl⟩
theorem y4 (E : ExY K) (c : He.SaysD fa fn K) (X : K.In h) (G : h.Ns mainGlobals mg) : Err1 P w K mg base "BadBoxed" "thing" (adY K 4) := by
  obtain ⟨fd, F⟩ := fn_at c (n := 19) (d := iniD "BadBoxed" "BadBoxed.__init__" 6) (by rfl)
  exact err1_of (i := 6) E X G (by rfl) (by decide) F (by rfl) ⟨rfl, rfl, rfl, by decide +kernel, rfl, by decide +kernel, by decide +kernel⟩ (by rfl) (by rfl) (by decide) (by decide) fun _ _ _ _ _ _ _ _ => ⟨rfl, rfl⟩
theorem y5 (E : ExY K) (c : He.SaysD fa fn K) (X : K.In h) (G : h.Ns mainGlobals mg) : Err1 P w K mg base "BadBranch" "thing" (adY K 5) := by
  obtain ⟨fd, F⟩ := fn_at c (n := 20) (d := iniD "BadBranch" "BadBranch.__init__" 7) (by rfl)
  exact err1_of (i := 7) E X G (by rfl) (by decide) F (by rfl) ⟨rfl, rfl, rfl, by decide +kernel, rfl, by decide +kernel, by decide +kernel⟩ (by rfl) (by rfl) (by decide) (by decide) fun _ _ _ _ _ _ _ _ => ⟨rfl, rfl⟩
theorem y6 (E : ExY K) (c : He.SaysD fa fn K) (X : K.In h) (G : h.Ns mainGlobals mg) : Err1 P w K mg base "BadBranches" "index" (adY K 6) := by
  obtain ⟨fd, F⟩ := fn_at c (n := 21) (d := iniD "BadBranches" "BadBranches.__init__" 8) (by rfl)
  exact err1_of (i := 8) E X G (by rfl) (by decide) F (by rfl) ⟨rfl, rfl, rfl, by decide +kernel, rfl, by decide +kernel, by decide +kernel⟩ (by rfl) (by rfl) (by decide) (by decide) fun _ _ _ _ _ _ _ _ => ⟨rfl, rfl⟩
theorem y7 (E : ExY K) (c : He.SaysD fa fn K) (X : K.In h) (G : h.Ns mainGlobals mg) : Err1 P w K mg base "BadCarrying" "index" (adY K 7) := by
  obtain ⟨fd, F⟩ := fn_at c (n := 22) (d := iniD "BadCarrying" "BadCarrying.__init__" 9) (by rfl)
  exact err1_of (i := 9) E X G (by rfl) (by decide) F (by rfl) ⟨rfl, rfl, rfl, by decide +kernel, rfl, by decide +kernel, by decide +kernel⟩ (by rfl) (by rfl) (by decide) (by decide) fun _ _ _ _ _ _ _ _ => ⟨rfl, rfl⟩
theorem y8 (E : ExY K) (c : He.SaysD fa fn K) (X : K.In h) (G : h.Ns mainGlobals mg) : Err1 P w K mg base "BadCounted" "thing" (adY K 8) := by
  obtain ⟨fd, F⟩ := fn_at c (n := 23) (d := iniD "BadCounted" "BadCounted.__init__" 10) (by rfl)
  exact err1_of (i := 10) E X G (by rfl) (by decide) F (by rfl) ⟨rfl, rfl, rfl, by decide +kernel, rfl, by decide +kernel, by decide +kernel⟩ (by rfl) (by rfl) (by decide) (by decide) fun _ _ _ _ _ _ _ _ => ⟨rfl, rfl⟩
theorem y9 (E : ExY K) (c : He.SaysD fa fn K) (X : K.In h) (G : h.Ns mainGlobals mg) : Err1 P w K mg base "BadDeed" "thing" (adY K 9) := by
  obtain ⟨fd, F⟩ := fn_at c (n := 24) (d := iniD "BadDeed" "BadDeed.__init__" 11) (by rfl)
  exact err1_of (i := 11) E X G (by rfl) (by decide) F (by rfl) ⟨rfl, rfl, rfl, by decide +kernel, rfl, by decide +kernel, by decide +kernel⟩ (by rfl) (by rfl) (by decide) (by decide) fun _ _ _ _ _ _ _ _ => ⟨rfl, rfl⟩
theorem y10 (E : ExY K) (c : He.SaysD fa fn K) (X : K.In h) (G : h.Ns mainGlobals mg) : Err1 P w K mg base "BadDoor" "thing" (adY K 10) := by
  obtain ⟨fd, F⟩ := fn_at c (n := 25) (d := iniD "BadDoor" "BadDoor.__init__" 12) (by rfl)
  exact err1_of (i := 12) E X G (by rfl) (by decide) F (by rfl) ⟨rfl, rfl, rfl, by decide +kernel, rfl, by decide +kernel, by decide +kernel⟩ (by rfl) (by rfl) (by decide) (by decide) fun _ _ _ _ _ _ _ _ => ⟨rfl, rfl⟩
theorem y11 (E : ExY K) (c : He.SaysD fa fn K) (X : K.In h) (G : h.Ns mainGlobals mg) : Err1 P w K mg base "BadDoors" "index" (adY K 11) := by
  obtain ⟨fd, F⟩ := fn_at c (n := 26) (d := iniD "BadDoors" "BadDoors.__init__" 13) (by rfl)
  exact err1_of (i := 13) E X G (by rfl) (by decide) F (by rfl) ⟨rfl, rfl, rfl, by decide +kernel, rfl, by decide +kernel, by decide +kernel⟩ (by rfl) (by rfl) (by decide) (by decide) fun _ _ _ _ _ _ _ _ => ⟨rfl, rfl⟩
theorem y12 (E : ExY K) (c : He.SaysD fa fn K) (X : K.In h) (G : h.Ns mainGlobals mg) : Err1 P w K mg base "BadEnds" "index" (adY K 12) := by
  obtain ⟨fd, F⟩ := fn_at c (n := 27) (d := iniD "BadEnds" "BadEnds.__init__" 14) (by rfl)
  exact err1_of (i := 14) E X G (by rfl) (by decide) F (by rfl) ⟨rfl, rfl, rfl, by decide +kernel, rfl, by decide +kernel, by decide +kernel⟩ (by rfl) (by rfl) (by decide) (by decide) fun _ _ _ _ _ _ _ _ => ⟨rfl, rfl⟩
theorem y13 (E : ExY K) (c : He.SaysD fa fn K) (X : K.In h) (G : h.Ns mainGlobals mg) : Err1 P w K mg base "BadHour" "thing" (adY K 13) := by
  obtain ⟨fd, F⟩ := fn_at c (n := 28) (d := iniD "BadHour" "BadHour.__init__" 15) (by rfl)
  exact err1_of (i := 15) E X G (by rfl) (by decide) F (by rfl) ⟨rfl, rfl, rfl, by decide +kernel, rfl, by decide +kernel, by decide +kernel⟩ (by rfl) (by rfl) (by decide) (by decide) fun _ _ _ _ _ _ _ _ => ⟨rfl, rfl⟩
theorem y14 (E : ExY K) (c : He.SaysD fa fn K) (X : K.In h) (G : h.Ns mainGlobals mg) : Err1 P w K mg base "BadHours" "thing" (adY K 14) := by
  obtain ⟨fd, F⟩ := fn_at c (n := 29) (d := iniD "BadHours" "BadHours.__init__" 16) (by rfl)
  exact err1_of (i := 16) E X G (by rfl) (by decide) F (by rfl) ⟨rfl, rfl, rfl, by decide +kernel, rfl, by decide +kernel, by decide +kernel⟩ (by rfl) (by rfl) (by decide) (by decide) fun _ _ _ _ _ _ _ _ => ⟨rfl, rfl⟩
theorem y15 (E : ExY K) (c : He.SaysD fa fn K) (X : K.In h) (G : h.Ns mainGlobals mg) : Err1 P w K mg base "BadIndex" "thing" (adY K 15) := by
  obtain ⟨fd, F⟩ := fn_at c (n := 30) (d := iniD "BadIndex" "BadIndex.__init__" 17) (by rfl)
  exact err1_of (i := 17) E X G (by rfl) (by decide) F (by rfl) ⟨rfl, rfl, rfl, by decide +kernel, rfl, by decide +kernel, by decide +kernel⟩ (by rfl) (by rfl) (by decide) (by decide) fun _ _ _ _ _ _ _ _ => ⟨rfl, rfl⟩
theorem y16 (E : ExY K) (c : He.SaysD fa fn K) (X : K.In h) (G : h.Ns mainGlobals mg) : Err1 P w K mg base "BadJudge" "thing" (adY K 16) := by
  obtain ⟨fd, F⟩ := fn_at c (n := 31) (d := iniD "BadJudge" "BadJudge.__init__" 18) (by rfl)
  exact err1_of (i := 18) E X G (by rfl) (by decide) F (by rfl) ⟨rfl, rfl, rfl, by decide +kernel, rfl, by decide +kernel, by decide +kernel⟩ (by rfl) (by rfl) (by decide) (by decide) fun _ _ _ _ _ _ _ _ => ⟨rfl, rfl⟩
theorem y17 (E : ExY K) (c : He.SaysD fa fn K) (X : K.In h) (G : h.Ns mainGlobals mg) : Err1 P w K mg base "BadKeeper" "thing" (adY K 17) := by
  obtain ⟨fd, F⟩ := fn_at c (n := 32) (d := iniD "BadKeeper" "BadKeeper.__init__" 19) (by rfl)
  exact err1_of (i := 19) E X G (by rfl) (by decide) F (by rfl) ⟨rfl, rfl, rfl, by decide +kernel, rfl, by decide +kernel, by decide +kernel⟩ (by rfl) (by rfl) (by decide) (by decide) fun _ _ _ _ _ _ _ _ => ⟨rfl, rfl⟩
theorem y18 (E : ExY K) (c : He.SaysD fa fn K) (X : K.In h) (G : h.Ns mainGlobals mg) : Err1 P w K mg base "BadKnown" "thing" (adY K 18) := by
  obtain ⟨fd, F⟩ := fn_at c (n := 33) (d := iniD "BadKnown" "BadKnown.__init__" 20) (by rfl)
  exact err1_of (i := 20) E X G (by rfl) (by decide) F (by rfl) ⟨rfl, rfl, rfl, by decide +kernel, rfl, by decide +kernel, by decide +kernel⟩ (by rfl) (by rfl) (by decide) (by decide) fun _ _ _ _ _ _ _ _ => ⟨rfl, rfl⟩
theorem y19 (E : ExY K) (c : He.SaysD fa fn K) (X : K.In h) (G : h.Ns mainGlobals mg) : Err1 P w K mg base "BadLeavings" "thing" (adY K 19) := by
  obtain ⟨fd, F⟩ := fn_at c (n := 34) (d := iniD "BadLeavings" "BadLeavings.__init__" 21) (by rfl)
  exact err1_of (i := 21) E X G (by rfl) (by decide) F (by rfl) ⟨rfl, rfl, rfl, by decide +kernel, rfl, by decide +kernel, by decide +kernel⟩ (by rfl) (by rfl) (by decide) (by decide) fun _ _ _ _ _ _ _ _ => ⟨rfl, rfl⟩
theorem y20 (E : ExY K) (c : He.SaysD fa fn K) (X : K.In h) (G : h.Ns mainGlobals mg) : Err1 P w K mg base "BadLedger" "thing" (adY K 20) := by
  obtain ⟨fd, F⟩ := fn_at c (n := 35) (d := iniD "BadLedger" "BadLedger.__init__" 22) (by rfl)
  exact err1_of (i := 22) E X G (by rfl) (by decide) F (by rfl) ⟨rfl, rfl, rfl, by decide +kernel, rfl, by decide +kernel, by decide +kernel⟩ (by rfl) (by rfl) (by decide) (by decide) fun _ _ _ _ _ _ _ _ => ⟨rfl, rfl⟩
theorem y21 (E : ExY K) (c : He.SaysD fa fn K) (X : K.In h) (G : h.Ns mainGlobals mg) : Err1 P w K mg base "BadLighter" "thing" (adY K 21) := by
  obtain ⟨fd, F⟩ := fn_at c (n := 36) (d := iniD "BadLighter" "BadLighter.__init__" 23) (by rfl)
  exact err1_of (i := 23) E X G (by rfl) (by decide) F (by rfl) ⟨rfl, rfl, rfl, by decide +kernel, rfl, by decide +kernel, by decide +kernel⟩ (by rfl) (by rfl) (by decide) (by decide) fun _ _ _ _ _ _ _ _ => ⟨rfl, rfl⟩
theorem y22 (E : ExY K) (c : He.SaysD fa fn K) (X : K.In h) (G : h.Ns mainGlobals mg) : Err1 P w K mg base "BadLots" "index" (adY K 22) := by
  obtain ⟨fd, F⟩ := fn_at c (n := 37) (d := iniD "BadLots" "BadLots.__init__" 24) (by rfl)
  exact err1_of (i := 24) E X G (by rfl) (by decide) F (by rfl) ⟨rfl, rfl, rfl, by decide +kernel, rfl, by decide +kernel, by decide +kernel⟩ (by rfl) (by rfl) (by decide) (by decide) fun _ _ _ _ _ _ _ _ => ⟨rfl, rfl⟩
theorem y23 (E : ExY K) (c : He.SaysD fa fn K) (X : K.In h) (G : h.Ns mainGlobals mg) : Err1 P w K mg base "BadMarks" "thing" (adY K 23) := by
  obtain ⟨fd, F⟩ := fn_at c (n := 38) (d := iniD "BadMarks" "BadMarks.__init__" 25) (by rfl)
  exact err1_of (i := 25) E X G (by rfl) (by decide) F (by rfl) ⟨rfl, rfl, rfl, by decide +kernel, rfl, by decide +kernel, by decide +kernel⟩ (by rfl) (by rfl) (by decide) (by decide) fun _ _ _ _ _ _ _ _ => ⟨rfl, rfl⟩
theorem y24 (E : ExY K) (c : He.SaysD fa fn K) (X : K.In h) (G : h.Ns mainGlobals mg) : Err1 P w K mg base "BadName" "thing" (adY K 24) := by
  obtain ⟨fd, F⟩ := fn_at c (n := 39) (d := iniD "BadName" "BadName.__init__" 26) (by rfl)
  exact err1_of (i := 26) E X G (by rfl) (by decide) F (by rfl) ⟨rfl, rfl, rfl, by decide +kernel, rfl, by decide +kernel, by decide +kernel⟩ (by rfl) (by rfl) (by decide) (by decide) fun _ _ _ _ _ _ _ _ => ⟨rfl, rfl⟩
theorem y25 (E : ExY K) (c : He.SaysD fa fn K) (X : K.In h) (G : h.Ns mainGlobals mg) : Err1 P w K mg base "BadNames" "thing" (adY K 25) := by
  obtain ⟨fd, F⟩ := fn_at c (n := 40) (d := iniD "BadNames" "BadNames.__init__" 27) (by rfl)
  exact err1_of (i := 27) E X G (by rfl) (by decide) F (by rfl) ⟨rfl, rfl, rfl, by decide +kernel, rfl, by decide +kernel, by decide +kernel⟩ (by rfl) (by rfl) (by decide) (by decide) fun _ _ _ _ _ _ _ _ => ⟨rfl, rfl⟩
theorem y26 (E : ExY K) (c : He.SaysD fa fn K) (X : K.In h) (G : h.Ns mainGlobals mg) : Err1 P w K mg base "BadNumber" "thing" (adY K 26) := by
  obtain ⟨fd, F⟩ := fn_at c (n := 41) (d := iniD "BadNumber" "BadNumber.__init__" 28) (by rfl)
  exact err1_of (i := 28) E X G (by rfl) (by decide) F (by rfl) ⟨rfl, rfl, rfl, by decide +kernel, rfl, by decide +kernel, by decide +kernel⟩ (by rfl) (by rfl) (by decide) (by decide) fun _ _ _ _ _ _ _ _ => ⟨rfl, rfl⟩
theorem y27 (E : ExY K) (c : He.SaysD fa fn K) (X : K.In h) (G : h.Ns mainGlobals mg) : Err1 P w K mg base "BadOrder" "index" (adY K 27) := by
  obtain ⟨fd, F⟩ := fn_at c (n := 42) (d := iniD "BadOrder" "BadOrder.__init__" 29) (by rfl)
  exact err1_of (i := 29) E X G (by rfl) (by decide) F (by rfl) ⟨rfl, rfl, rfl, by decide +kernel, rfl, by decide +kernel, by decide +kernel⟩ (by rfl) (by rfl) (by decide) (by decide) fun _ _ _ _ _ _ _ _ => ⟨rfl, rfl⟩
theorem y28 (E : ExY K) (c : He.SaysD fa fn K) (X : K.In h) (G : h.Ns mainGlobals mg) : Err1 P w K mg base "BadPasses" "thing" (adY K 28) := by
  obtain ⟨fd, F⟩ := fn_at c (n := 43) (d := iniD "BadPasses" "BadPasses.__init__" 30) (by rfl)
  exact err1_of (i := 30) E X G (by rfl) (by decide) F (by rfl) ⟨rfl, rfl, rfl, by decide +kernel, rfl, by decide +kernel, by decide +kernel⟩ (by rfl) (by rfl) (by decide) (by decide) fun _ _ _ _ _ _ _ _ => ⟨rfl, rfl⟩
theorem y29 (E : ExY K) (c : He.SaysD fa fn K) (X : K.In h) (G : h.Ns mainGlobals mg) : Err1 P w K mg base "BadPrices" "thing" (adY K 29) := by
  obtain ⟨fd, F⟩ := fn_at c (n := 44) (d := iniD "BadPrices" "BadPrices.__init__" 31) (by rfl)
  exact err1_of (i := 31) E X G (by rfl) (by decide) F (by rfl) ⟨rfl, rfl, rfl, by decide +kernel, rfl, by decide +kernel, by decide +kernel⟩ (by rfl) (by rfl) (by decide) (by decide) fun _ _ _ _ _ _ _ _ => ⟨rfl, rfl⟩
theorem y30 (E : ExY K) (c : He.SaysD fa fn K) (X : K.In h) (G : h.Ns mainGlobals mg) : Err1 P w K mg base "BadQuestion" "thing" (adY K 30) := by
  obtain ⟨fd, F⟩ := fn_at c (n := 45) (d := iniD "BadQuestion" "BadQuestion.__init__" 32) (by rfl)
  exact err1_of (i := 32) E X G (by rfl) (by decide) F (by rfl) ⟨rfl, rfl, rfl, by decide +kernel, rfl, by decide +kernel, by decide +kernel⟩ (by rfl) (by rfl) (by decide) (by decide) fun _ _ _ _ _ _ _ _ => ⟨rfl, rfl⟩
theorem y31 (E : ExY K) (c : He.SaysD fa fn K) (X : K.In h) (G : h.Ns mainGlobals mg) : Err1 P w K mg base "BadRecords" "index" (adY K 31) := by
  obtain ⟨fd, F⟩ := fn_at c (n := 46) (d := iniD "BadRecords" "BadRecords.__init__" 33) (by rfl)
  exact err1_of (i := 33) E X G (by rfl) (by decide) F (by rfl) ⟨rfl, rfl, rfl, by decide +kernel, rfl, by decide +kernel, by decide +kernel⟩ (by rfl) (by rfl) (by decide) (by decide) fun _ _ _ _ _ _ _ _ => ⟨rfl, rfl⟩
theorem y32 (E : ExY K) (c : He.SaysD fa fn K) (X : K.In h) (G : h.Ns mainGlobals mg) : Err1 P w K mg base "BadRim" "thing" (adY K 32) := by
  obtain ⟨fd, F⟩ := fn_at c (n := 47) (d := iniD "BadRim" "BadRim.__init__" 34) (by rfl)
  exact err1_of (i := 34) E X G (by rfl) (by decide) F (by rfl) ⟨rfl, rfl, rfl, by decide +kernel, rfl, by decide +kernel, by decide +kernel⟩ (by rfl) (by rfl) (by decide) (by decide) fun _ _ _ _ _ _ _ _ => ⟨rfl, rfl⟩
theorem y33 (E : ExY K) (c : He.SaysD fa fn K) (X : K.In h) (G : h.Ns mainGlobals mg) : Err1 P w K mg base "BadRooms" "index" (adY K 33) := by
  obtain ⟨fd, F⟩ := fn_at c (n := 48) (d := iniD "BadRooms" "BadRooms.__init__" 35) (by rfl)
  exact err1_of (i := 35) E X G (by rfl) (by decide) F (by rfl) ⟨rfl, rfl, rfl, by decide +kernel, rfl, by decide +kernel, by decide +kernel⟩ (by rfl) (by rfl) (by decide) (by decide) fun _ _ _ _ _ _ _ _ => ⟨rfl, rfl⟩
theorem y34 (E : ExY K) (c : He.SaysD fa fn K) (X : K.In h) (G : h.Ns mainGlobals mg) : Err1 P w K mg base "BadSeen" "thing" (adY K 34) := by
  obtain ⟨fd, F⟩ := fn_at c (n := 49) (d := iniD "BadSeen" "BadSeen.__init__" 36) (by rfl)
  exact err1_of (i := 36) E X G (by rfl) (by decide) F (by rfl) ⟨rfl, rfl, rfl, by decide +kernel, rfl, by decide +kernel, by decide +kernel⟩ (by rfl) (by rfl) (by decide) (by decide) fun _ _ _ _ _ _ _ _ => ⟨rfl, rfl⟩
theorem y35 (E : ExY K) (c : He.SaysD fa fn K) (X : K.In h) (G : h.Ns mainGlobals mg) : Err1 P w K mg base "BadSome" "index" (adY K 35) := by
  obtain ⟨fd, F⟩ := fn_at c (n := 50) (d := iniD "BadSome" "BadSome.__init__" 37) (by rfl)
  exact err1_of (i := 37) E X G (by rfl) (by decide) F (by rfl) ⟨rfl, rfl, rfl, by decide +kernel, rfl, by decide +kernel, by decide +kernel⟩ (by rfl) (by rfl) (by decide) (by decide) fun _ _ _ _ _ _ _ _ => ⟨rfl, rfl⟩
theorem y36 (E : ExY K) (c : He.SaysD fa fn K) (X : K.In h) (G : h.Ns mainGlobals mg) : Err1 P w K mg base "BadSums" "index" (adY K 36) := by
  obtain ⟨fd, F⟩ := fn_at c (n := 51) (d := iniD "BadSums" "BadSums.__init__" 38) (by rfl)
  exact err1_of (i := 38) E X G (by rfl) (by decide) F (by rfl) ⟨rfl, rfl, rfl, by decide +kernel, rfl, by decide +kernel, by decide +kernel⟩ (by rfl) (by rfl) (by decide) (by decide) fun _ _ _ _ _ _ _ _ => ⟨rfl, rfl⟩
theorem y37 (E : ExY K) (c : He.SaysD fa fn K) (X : K.In h) (G : h.Ns mainGlobals mg) : Err1 P w K mg base "BadText" "line" (adY K 37) := by
  obtain ⟨fd, F⟩ := fn_at c (n := 52) (d := iniD "BadText" "BadText.__init__" 39) (by rfl)
  exact err1_of (i := 39) E X G (by rfl) (by decide) F (by rfl) ⟨rfl, rfl, rfl, by decide +kernel, rfl, by decide +kernel, by decide +kernel⟩ (by rfl) (by rfl) (by decide) (by decide) fun _ _ _ _ _ _ _ _ => ⟨rfl, rfl⟩
theorem y38 (E : ExY K) (c : He.SaysD fa fn K) (X : K.In h) (G : h.Ns mainGlobals mg) : Err1 P w K mg base "BadVector" "thing" (adY K 38) := by
  obtain ⟨fd, F⟩ := fn_at c (n := 53) (d := iniD "BadVector" "BadVector.__init__" 40) (by rfl)
  exact err1_of (i := 40) E X G (by rfl) (by decide) F (by rfl) ⟨rfl, rfl, rfl, by decide +kernel, rfl, by decide +kernel, by decide +kernel⟩ (by rfl) (by rfl) (by decide) (by decide) fun _ _ _ _ _ _ _ _ => ⟨rfl, rfl⟩
theorem y39 (E : ExY K) (c : He.SaysD fa fn K) (X : K.In h) (G : h.Ns mainGlobals mg) : Err1 P w K mg base "BadWhen" "thing" (adY K 39) := by
  obtain ⟨fd, F⟩ := fn_at c (n := 54) (d := iniD "BadWhen" "BadWhen.__init__" 41) (by rfl)
  exact err1_of (i := 41) E X G (by rfl) (by decide) F (by rfl) ⟨rfl, rfl, rfl, by decide +kernel, rfl, by decide +kernel, by decide +kernel⟩ (by rfl) (by rfl) (by decide) (by decide) fun _ _ _ _ _ _ _ _ => ⟨rfl, rfl⟩
theorem y40 (E : ExY K) (c : He.SaysD fa fn K) (X : K.In h) (G : h.Ns mainGlobals mg) : Err1 P w K mg base "BadWords" "index" (adY K 40) := by
  obtain ⟨fd, F⟩ := fn_at c (n := 55) (d := iniD "BadWords" "BadWords.__init__" 42) (by rfl)
  exact err1_of (i := 42) E X G (by rfl) (by decide) F (by rfl) ⟨rfl, rfl, rfl, by decide +kernel, rfl, by decide +kernel, by decide +kernel⟩ (by rfl) (by rfl) (by decide) (by decide) fun _ _ _ _ _ _ _ _ => ⟨rfl, rfl⟩
theorem y42 (E : ExY K) (c : He.SaysD fa fn K) (X : K.In h) (G : h.Ns mainGlobals mg) : Err1 P w K mg base "CommonRoom" "name" (adY K 42) := by
  obtain ⟨fd, F⟩ := fn_at c (n := 56) (d := iniD "CommonRoom" "CommonRoom.__init__" 44) (by rfl)
  exact err1_of (i := 44) E X G (by rfl) (by decide) F (by rfl) ⟨rfl, rfl, rfl, by decide +kernel, rfl, by decide +kernel, by decide +kernel⟩ (by rfl) (by rfl) (by decide) (by decide) fun _ _ _ _ _ _ _ _ => ⟨rfl, rfl⟩
theorem y43 (E : ExY K) (c : He.SaysD fa fn K) (X : K.In h) (G : h.Ns mainGlobals mg) : Err1 P w K mg base "InUse" "question" (adY K 43) := by
  obtain ⟨fd, F⟩ := fn_at c (n := 57) (d := iniD "InUse" "InUse.__init__" 45) (by rfl)
  exact err1_of (i := 45) E X G (by rfl) (by decide) F (by rfl) ⟨rfl, rfl, rfl, by decide +kernel, rfl, by decide +kernel, by decide +kernel⟩ (by rfl) (by rfl) (by decide) (by decide) fun _ _ _ _ _ _ _ _ => ⟨rfl, rfl⟩
theorem y44 (E : ExY K) (c : He.SaysD fa fn K) (X : K.In h) (G : h.Ns mainGlobals mg) : Err1 P w K mg base "IsWatched" "thing" (adY K 44) := by
  obtain ⟨fd, F⟩ := fn_at c (n := 58) (d := iniD "IsWatched" "IsWatched.__init__" 46) (by rfl)
  exact err1_of (i := 46) E X G (by rfl) (by decide) F (by rfl) ⟨rfl, rfl, rfl, by decide +kernel, rfl, by decide +kernel, by decide +kernel⟩ (by rfl) (by rfl) (by decide) (by decide) fun _ _ _ _ _ _ _ _ => ⟨rfl, rfl⟩
theorem y45 (E : ExY K) (c : He.SaysD fa fn K) (X : K.In h) (G : h.Ns mainGlobals mg) : Err1 P w K mg base "LampStands" "name" (adY K 45) := by
  obtain ⟨fd, F⟩ := fn_at c (n := 59) (d := iniD "LampStands" "LampStands.__init__" 47) (by rfl)
  exact err1_of (i := 47) E X G (by rfl) (by decide) F (by rfl) ⟨rfl, rfl, rfl, by decide +kernel, rfl, by decide +kernel, by decide +kernel⟩ (by rfl) (by rfl) (by decide) (by decide) fun _ _ _ _ _ _ _ _ => ⟨rfl, rfl⟩
theorem y47 (E : ExY K) (c : He.SaysD fa fn K) (X : K.In h) (G : h.Ns mainGlobals mg) : Err1 P w K mg base "NoCarrying" "paper" (adY K 47) := by
  obtain ⟨fd, F⟩ := fn_at c (n := 60) (d := iniD "NoCarrying" "NoCarrying.__init__" 49) (by rfl)
  exact err1_of (i := 49) E X G (by rfl) (by decide) F (by rfl) ⟨rfl, rfl, rfl, by decide +kernel, rfl, by decide +kernel, by decide +kernel⟩ (by rfl) (by rfl) (by decide) (by decide) fun _ _ _ _ _ _ _ _ => ⟨rfl, rfl⟩
theorem y48 (E : ExY K) (c : He.SaysD fa fn K) (X : K.In h) (G : h.Ns mainGlobals mg) : Err1 P w K mg base "NoCount" "thing" (adY K 48) := by
  obtain ⟨fd, F⟩ := fn_at c (n := 61) (d := iniD "NoCount" "NoCount.__init__" 50) (by rfl)
  exact err1_of (i := 50) E X G (by rfl) (by decide) F (by rfl) ⟨rfl, rfl, rfl, by decide +kernel, rfl, by decide +kernel, by decide +kernel⟩ (by rfl) (by rfl) (by decide) (by decide) fun _ _ _ _ _ _ _ _ => ⟨rfl, rfl⟩
theorem y49 (E : ExY K) (c : He.SaysD fa fn K) (X : K.In h) (G : h.Ns mainGlobals mg) : Err2 P w K mg base "NoDoor" "one" "other" (adY K 49) := by
  obtain ⟨fd, F⟩ := fn_at c (n := 62) (d := iniD "NoDoor" "NoDoor.__init__" 51) (by rfl)
  exact err2_of (i := 51) E X G (by rfl) (by decide) (by decide) F (by rfl) ⟨rfl, rfl, rfl, by decide +kernel, rfl, by decide +kernel, by decide +kernel⟩ (by rfl) (by rfl) (by rfl) (by decide) (by decide) (by decide) (by decide) fun _ _ _ _ _ _ _ _ _ => ⟨rfl, rfl⟩
theorem y50 (E : ExY K) (c : He.SaysD fa fn K) (X : K.In h) (G : h.Ns mainGlobals mg) : Err1 P w K mg base "NoHouse" "records" (adY K 50) := by
  obtain ⟨fd, F⟩ := fn_at c (n := 63) (d := iniD "NoHouse" "NoHouse.__init__" 52) (by rfl)
  exact err1_of (i := 52) E X G (by rfl) (by decide) F (by rfl) ⟨rfl, rfl, rfl, by decide +kernel, rfl, by decide +kernel, by decide +kernel⟩ (by rfl) (by rfl) (by decide) (by decide) fun _ _ _ _ _ _ _ _ => ⟨rfl, rfl⟩
theorem y52 (E : ExY K) (c : He.SaysD fa fn K) (X : K.In h) (G : h.Ns mainGlobals mg) : Err1 P w K mg base "NoQuestion" "thing" (adY K 52) := by
  obtain ⟨fd, F⟩ := fn_at c (n := 64) (d := iniD "NoQuestion" "NoQuestion.__init__" 54) (by rfl)
  exact err1_of (i := 54) E X G (by rfl) (by decide) F (by rfl) ⟨rfl, rfl, rfl, by decide +kernel, rfl, by decide +kernel, by decide +kernel⟩ (by rfl) (by rfl) (by decide) (by decide) fun _ _ _ _ _ _ _ _ => ⟨rfl, rfl⟩
theorem y53 (E : ExY K) (c : He.SaysD fa fn K) (X : K.In h) (G : h.Ns mainGlobals mg) : Err1 P w K mg base "NoRoom" "thing" (adY K 53) := by
  obtain ⟨fd, F⟩ := fn_at c (n := 65) (d := iniD "NoRoom" "NoRoom.__init__" 55) (by rfl)
  exact err1_of (i := 55) E X G (by rfl) (by decide) F (by rfl) ⟨rfl, rfl, rfl, by decide +kernel, rfl, by decide +kernel, by decide +kernel⟩ (by rfl) (by rfl) (by decide) (by decide) fun _ _ _ _ _ _ _ _ => ⟨rfl, rfl⟩
theorem y54 (E : ExY K) (c : He.SaysD fa fn K) (X : K.In h) (G : h.Ns mainGlobals mg) : Err1 P w K mg base "NoSuch" "thing" (adY K 54) := by
  obtain ⟨fd, F⟩ := fn_at c (n := 66) (d := iniD "NoSuch" "NoSuch.__init__" 56) (by rfl)
  exact err1_of (i := 56) E X G (by rfl) (by decide) F (by rfl) ⟨rfl, rfl, rfl, by decide +kernel, rfl, by decide +kernel, by decide +kernel⟩ (by rfl) (by rfl) (by decide) (by decide) fun _ _ _ _ _ _ _ _ => ⟨rfl, rfl⟩
theorem y55 (E : ExY K) (c : He.SaysD fa fn K) (X : K.In h) (G : h.Ns mainGlobals mg) : Err1 P w K mg base "NoTruth" "thing" (adY K 55) := by
  obtain ⟨fd, F⟩ := fn_at c (n := 67) (d := iniD "NoTruth" "NoTruth.__init__" 57) (by rfl)
  exact err1_of (i := 57) E X G (by rfl) (by decide) F (by rfl) ⟨rfl, rfl, rfl, by decide +kernel, rfl, by decide +kernel, by decide +kernel⟩ (by rfl) (by rfl) (by decide) (by decide) fun _ _ _ _ _ _ _ _ => ⟨rfl, rfl⟩
theorem y56 (E : ExY K) (c : He.SaysD fa fn K) (X : K.In h) (G : h.Ns mainGlobals mg) : Err1 P w K mg base "NotDark" "name" (adY K 56) := by
  obtain ⟨fd, F⟩ := fn_at c (n := 68) (d := iniD "NotDark" "NotDark.__init__" 58) (by rfl)
  exact err1_of (i := 58) E X G (by rfl) (by decide) F (by rfl) ⟨rfl, rfl, rfl, by decide +kernel, rfl, by decide +kernel, by decide +kernel⟩ (by rfl) (by rfl) (by decide) (by decide) fun _ _ _ _ _ _ _ _ => ⟨rfl, rfl⟩
theorem y57 (E : ExY K) (c : He.SaysD fa fn K) (X : K.In h) (G : h.Ns mainGlobals mg) : Err1 P w K mg base "NotFull" "thing" (adY K 57) := by
  obtain ⟨fd, F⟩ := fn_at c (n := 69) (d := iniD "NotFull" "NotFull.__init__" 59) (by rfl)
  exact err1_of (i := 59) E X G (by rfl) (by decide) F (by rfl) ⟨rfl, rfl, rfl, by decide +kernel, rfl, by decide +kernel, by decide +kernel⟩ (by rfl) (by rfl) (by decide) (by decide) fun _ _ _ _ _ _ _ _ => ⟨rfl, rfl⟩
theorem y58 (E : ExY K) (c : He.SaysD fa fn K) (X : K.In h) (G : h.Ns mainGlobals mg) : Err1 P w K mg base "NotJoined" "room" (adY K 58) := by
  obtain ⟨fd, F⟩ := fn_at c (n := 70) (d := iniD "NotJoined" "NotJoined.__init__" 60) (by rfl)
  exact err1_of (i := 60) E X G (by rfl) (by decide) F (by rfl) ⟨rfl, rfl, rfl, by decide +kernel, rfl, by decide +kernel, by decide +kernel⟩ (by rfl) (by rfl) (by decide) (by decide) fun _ _ _ _ _ _ _ _ => ⟨rfl, rfl⟩
theorem y59 (E : ExY K) (c : He.SaysD fa fn K) (X : K.In h) (G : h.Ns mainGlobals mg) : Err1 P w K mg base "NotLeaf" "name" (adY K 59) := by
  obtain ⟨fd, F⟩ := fn_at c (n := 71) (d := iniD "NotLeaf" "NotLeaf.__init__" 61) (by rfl)
  exact err1_of (i := 61) E X G (by rfl) (by decide) F (by rfl) ⟨rfl, rfl, rfl, by decide +kernel, rfl, by decide +kernel, by decide +kernel⟩ (by rfl) (by rfl) (by decide) (by decide) fun _ _ _ _ _ _ _ _ => ⟨rfl, rfl⟩
theorem y60 (E : ExY K) (c : He.SaysD fa fn K) (X : K.In h) (G : h.Ns mainGlobals mg) : Err1 P w K mg base "NotOneDoor" "thing" (adY K 60) := by
  obtain ⟨fd, F⟩ := fn_at c (n := 72) (d := iniD "NotOneDoor" "NotOneDoor.__init__" 62) (by rfl)
  exact err1_of (i := 62) E X G (by rfl) (by decide) F (by rfl) ⟨rfl, rfl, rfl, by decide +kernel, rfl, by decide +kernel, by decide +kernel⟩ (by rfl) (by rfl) (by decide) (by decide) fun _ _ _ _ _ _ _ _ => ⟨rfl, rfl⟩
theorem y62 (E : ExY K) (c : He.SaysD fa fn K) (X : K.In h) (G : h.Ns mainGlobals mg) : Err1 P w K mg base "NotWatched" "thing" (adY K 62) := by
  obtain ⟨fd, F⟩ := fn_at c (n := 73) (d := iniD "NotWatched" "NotWatched.__init__" 64) (by rfl)
  exact err1_of (i := 64) E X G (by rfl) (by decide) F (by rfl) ⟨rfl, rfl, rfl, by decide +kernel, rfl, by decide +kernel, by decide +kernel⟩ (by rfl) (by rfl) (by decide) (by decide) fun _ _ _ _ _ _ _ _ => ⟨rfl, rfl⟩
theorem y64 (E : ExY K) (c : He.SaysD fa fn K) (X : K.In h) (G : h.Ns mainGlobals mg) : Err1 P w K mg base "SameRoom" "thing" (adY K 64) := by
  obtain ⟨fd, F⟩ := fn_at c (n := 74) (d := iniD "SameRoom" "SameRoom.__init__" 66) (by rfl)
  exact err1_of (i := 66) E X G (by rfl) (by decide) F (by rfl) ⟨rfl, rfl, rfl, by decide +kernel, rfl, by decide +kernel, by decide +kernel⟩ (by rfl) (by rfl) (by decide) (by decide) fun _ _ _ _ _ _ _ _ => ⟨rfl, rfl⟩
theorem y65 (E : ExY K) (c : He.SaysD fa fn K) (X : K.In h) (G : h.Ns mainGlobals mg) : Err1 P w K mg base "TakenRoom" "name" (adY K 65) := by
  obtain ⟨fd, F⟩ := fn_at c (n := 75) (d := iniD "TakenRoom" "TakenRoom.__init__" 67) (by rfl)
  exact err1_of (i := 67) E X G (by rfl) (by decide) F (by rfl) ⟨rfl, rfl, rfl, by decide +kernel, rfl, by decide +kernel, by decide +kernel⟩ (by rfl) (by rfl) (by decide) (by decide) fun _ _ _ _ _ _ _ _ => ⟨rfl, rfl⟩
theorem y66 (E : ExY K) (c : He.SaysD fa fn K) (X : K.In h) (G : h.Ns mainGlobals mg) : Err1 P w K mg base "TooMany" "hours" (adY K 66) := by
  obtain ⟨fd, F⟩ := fn_at c (n := 76) (d := iniD "TooMany" "TooMany.__init__" 68) (by rfl)
  exact err1_of (i := 68) E X G (by rfl) (by decide) F (by rfl) ⟨rfl, rfl, rfl, by decide +kernel, rfl, by decide +kernel, by decide +kernel⟩ (by rfl) (by rfl) (by decide) (by decide) fun _ _ _ _ _ _ _ _ => ⟨rfl, rfl⟩
theorem y68 (E : ExY K) (c : He.SaysD fa fn K) (X : K.In h) (G : h.Ns mainGlobals mg) : Err1 P w K mg base "UnlikeRooms" "room" (adY K 68) := by
  obtain ⟨fd, F⟩ := fn_at c (n := 77) (d := iniD "UnlikeRooms" "UnlikeRooms.__init__" 70) (by rfl)
  exact err1_of (i := 70) E X G (by rfl) (by decide) F (by rfl) ⟨rfl, rfl, rfl, by decide +kernel, rfl, by decide +kernel, by decide +kernel⟩ (by rfl) (by rfl) (by decide) (by decide) fun _ _ _ _ _ _ _ _ => ⟨rfl, rfl⟩
theorem y69 (E : ExY K) (c : He.SaysD fa fn K) (X : K.In h) (G : h.Ns mainGlobals mg) : Err1 P w K mg base "WouldChange" "question" (adY K 69) := by
  obtain ⟨fd, F⟩ := fn_at c (n := 78) (d := iniD "WouldChange" "WouldChange.__init__" 71) (by rfl)
  exact err1_of (i := 71) E X G (by rfl) (by decide) F (by rfl) ⟨rfl, rfl, rfl, by decide +kernel, rfl, by decide +kernel, by decide +kernel⟩ (by rfl) (by rfl) (by decide) (by decide) fun _ _ _ _ _ _ _ _ => ⟨rfl, rfl⟩
theorem cs_of (E : ExY K) (c : He.SaysD fa fn K) (X : K.In h) (G : h.Ns mainGlobals mg) : Cs P w K mg base (adY K) := ⟨y0 E c X G, y1 E c X G, y2 E c X G, y3 E c X G, y4 E c X G, y5 E c X G, y6 E c X G, y7 E c X G, y8 E c X G, y9 E c X G, y10 E c X G, y11 E c X G, y12 E c X G, y13 E c X G, y14 E c X G, y15 E c X G, y16 E c X G, y17 E c X G, y18 E c X G, y19 E c X G, y20 E c X G, y21 E c X G, y22 E c X G, y23 E c X G, y24 E c X G, y25 E c X G, y26 E c X G, y27 E c X G, y28 E c X G, y29 E c X G, y30 E c X G, y31 E c X G, y32 E c X G, y33 E c X G, y34 E c X G, y35 E c X G, y36 E c X G, y37 E c X G, y38 E c X G, y39 E c X G, y40 E c X G, err0_of E X G (by rfl), y42 E c X G, y43 E c X G, y44 E c X G, y45 E c X G, err0_of E X G (by rfl), y47 E c X G, y48 E c X G, y49 E c X G, y50 E c X G, err0_of E X G (by rfl), y52 E c X G, y53 E c X G, y54 E c X G, y55 E c X G, y56 E c X G, y57 E c X G, y58 E c X G, y59 E c X G, y60 E c X G, err0_of E X G (by rfl), y62 E c X G, err0_of E X G (by rfl), y64 E c X G, y65 E c X G, y66 E c X G, err0_of E X G (by rfl), y68 E c X G, y69 E c X G⟩
end
end Lamp
namespace Lamp
open PySem PySem.Spec PyProof.Rows L2
/-! ### the law's own defs -/
section
variable {P : Program} {w : World} {K : PySem.W.Frag} {mg : Str → Option Value} {base h : Heap}
theorem law_at {n i : Nat} {x : Str} (c : He.SaysD fa fn K) (e : fn[n]? = some (lawD x i)) : ∃ fd, FunD K x x (defArgs (top i)) (defBody (top i)) (defScope (top i)) [] [] (He.ga K x) fd := c.def_ n e
theorem glo_at (X : K.In h) (G : h.Ns mainGlobals mg) (c : He.SaysD fa fn K) {x : Str} (m : He.Fa.glo x ∈ fa) : mg x = some (.ref (He.ga K x)) := He.glo_ok X G (c.facts m)
theorem free_at (X : K.In h) (G : h.Ns mainGlobals mg) (c : He.SaysD fa fn K) {x : Str} (m : He.Fa.free x ∈ fa) : mg x = none := He.free_ok X G (c.facts m)
/-- a def whose code object is told -/
theorem funC_of {x : Str} {i : Nat} {fd : FuncData} (F : FunD K x x (defArgs (top i)) (defBody (top i)) (defScope (top i)) [] [] (He.ga K x) fd) : FunC K x (top i) (He.ga K x) (He.cT K (madeD x)).1 fd := by
  obtain ⟨oc, od, dV, kV, doc, pm, an, cdv, ct, osl, e, lk, hcd, hD, hK⟩ := F.ex
  rcases hD with ⟨_, rfl⟩ | ⟨z, _⟩
  · obtain ⟨c, rfl⟩ := He.codeIn_ref hcd
    have ec : (He.cT K (madeD x)).1 = c := He.codeOf_eq (p := madeD x) lk (by rw [e])
    rw [ec]
    exact ⟨oc, od, kV, doc, pm, an, ct, osl, e, lk, hcd⟩
  · exact absurd rfl z
/-- the makers' tables, their lambdas' names -/
def tabsY (K : PySem.W.Frag) : List (Addr × Str) := [(tabY K "_law_made_a", "_law_made_a.<locals>.<lambda>"), (tabY K "_law_made_b", "_law_made_b.<locals>.<lambda>"), (tabY K "_law_made_c", "_law_made_c.<locals>.<lambda>"), (tabY K "_law_made_d", "_law_made_d.<locals>.<lambda>")]
theorem tabs_inj (E : ExY K) {i j : Nat} {p q : Addr × Str} (hi : (tabsY K)[i]? = some p) (hj : (tabsY K)[j]? = some q) (e : p.1 = q.1) : i = j := by
  have m : (tabsY K).map (·.1) = [tabY K "_law_made_a", tabY K "_law_made_b", tabY K "_law_made_c", tabY K "_law_made_d"] := rfl
  have g : ∀ {n : Nat} {r : Addr × Str}, (tabsY K)[n]? = some r → [tabY K "_law_made_a", tabY K "_law_made_b", tabY K "_law_made_c", tabY K "_law_made_d"][n]? = some r.1 := fun {n r} z => by
    rw [← m, List.getElem?_map, z]
    rfl
  rcases Nat.lt_trichotomy i j with lt | eq | gt
  · exact absurd e (Nat.ne_of_lt (asc_get E.tab lt (g hi) (g hj)))
  · exact eq
  · exact absurd e.symm (Nat.ne_of_lt (asc_get E.tab gt (g hj) (g hi)))
theorem tabs_name (E : ExY K) {i : Nat} {q : Addr × Str} (hi : (tabsY K)[i]? = some q) : ∀ p ∈ tabsY K, p.1 = q.1 → p.2 = q.2 := fun p hp e => by
  obtain ⟨n, hn, z⟩ := List.mem_iff_getElem.mp hp
  have hp2 : (tabsY K)[n]? = some p := by rw [List.getElem?_eq_getElem hn, z]
  have en := tabs_inj E hp2 hi e
  rw [en, hi] at hp2
  rw [Option.some.inj hp2]
theorem law_of (E : ExY K) (c : He.SaysD fa fn K) (X : K.In h) (G : h.Ns mainGlobals mg) (TB : ∀ p ∈ tf.map (He.cT K), LamX.TabB base mg p.1 p.2) :
    FnG P w K mg base 6 (He.ga K "law") ["script"] (spLaw K (tabsY K)) := by
  have C0 : Cs P w K mg base (adY K) := cs_of E c X G
  have tS : TxtS mg := ⟨free_at X G c (by simp [fa, faF]), free_at X G c (by simp [fa, faF]), free_at X G c (by simp [fa, faF]), free_at X G c (by simp [fa, faF])⟩
  have tK : TxtK mg := ⟨free_at X G c (by simp [fa, faF])⟩
  have tT : TxtT mg := ⟨free_at X G c (by simp [fa, faF]), free_at X G c (by simp [fa, faF])⟩
  obtain ⟨d73, F73⟩ := law_at c (n := 0) (i := 73) (x := "_law_start") (by rfl)
  obtain ⟨d74, F74⟩ := law_at c (n := 1) (i := 74) (x := "_law_draw") (by rfl)
  obtain ⟨d75, F75⟩ := law_at c (n := 2) (i := 75) (x := "_law_mixed") (by rfl)
  obtain ⟨d76, F76⟩ := law_at c (n := 3) (i := 76) (x := "_law_made_a") (by rfl)
  obtain ⟨d77, F77⟩ := law_at c (n := 4) (i := 77) (x := "_law_made_b") (by rfl)
  obtain ⟨d78, F78⟩ := law_at c (n := 5) (i := 78) (x := "_law_made_c") (by rfl)
  obtain ⟨d79, F79⟩ := law_at c (n := 6) (i := 79) (x := "_law_made_d") (by rfl)
  obtain ⟨d80, F80⟩ := law_at c (n := 7) (i := 80) (x := "_law_kinds_a") (by rfl)
  obtain ⟨d81, F81⟩ := law_at c (n := 8) (i := 81) (x := "_law_kinds_b") (by rfl)
  obtain ⟨d82, F82⟩ := law_at c (n := 9) (i := 82) (x := "_law_kinds_c") (by rfl)
  obtain ⟨d83, F83⟩ := law_at c (n := 10) (i := 83) (x := "_law_kinds_d") (by rfl)
  obtain ⟨d84, F84⟩ := law_at c (n := 11) (i := 84) (x := "_law_kinds") (by rfl)
  obtain ⟨d85, F85⟩ := law_at c (n := 12) (i := 85) (x := "_law_is_own") (by rfl)
  obtain ⟨d86, F86⟩ := law_at c (n := 13) (i := 86) (x := "_law_are_these") (by rfl)
  obtain ⟨d87, F87⟩ := law_at c (n := 14) (i := 87) (x := "law") (by rfl)
  have b1 : ∀ {fd : FuncData} {x a : Str} {i : Nat}, FunD K x x (defArgs (top i)) (defBody (top i)) (defScope (top i)) [] [] (He.ga K x) fd →
      (∀ (kV doc pm : Value) (an : Option Addr) (cdv ct u : Value), bindArgs (PySem.W.fnOf x x (defArgs (top i)) (defBody (top i)) (defScope (top i)) .none kV doc pm an cdv ct) ⟨[u], []⟩ = pure [(a, u)]) → Binds K fd [a] [] := fun F z => F.bindsN fun kV doc pm an cdv ct us hl => match us, hl with
    | [u], _ => z kV doc pm an cdv ct u
  have b2 : ∀ {fd : FuncData} {x a b : Str} {i : Nat}, FunD K x x (defArgs (top i)) (defBody (top i)) (defScope (top i)) [] [] (He.ga K x) fd →
      (∀ (kV doc pm : Value) (an : Option Addr) (cdv ct u v : Value), bindArgs (PySem.W.fnOf x x (defArgs (top i)) (defBody (top i)) (defScope (top i)) .none kV doc pm an cdv ct) ⟨[u, v], []⟩ = pure [(a, u), (b, v)]) → Binds K fd [a, b] [] := fun F z => F.bindsN fun kV doc pm an cdv ct us hl => match us, hl with
    | [u, v], _ => z kV doc pm an cdv ct u v
  have b3 : ∀ {fd : FuncData} {x a b e : Str} {i : Nat}, FunD K x x (defArgs (top i)) (defBody (top i)) (defScope (top i)) [] [] (He.ga K x) fd →
      (∀ (kV doc pm : Value) (an : Option Addr) (cdv ct u v z : Value), bindArgs (PySem.W.fnOf x x (defArgs (top i)) (defBody (top i)) (defScope (top i)) .none kV doc pm an cdv ct) ⟨[u, v, z], []⟩ = pure [(a, u), (b, v), (e, z)]) → Binds K fd [a, b, e] [] := fun F z => F.bindsN fun kV doc pm an cdv ct us hl => match us, hl with
    | [u, v, y], _ => z kV doc pm an cdv ct u v y
  have g73 := glo_at X G c (x := "_law_start") (by simp [fa, faG])
  have g74 := glo_at X G c (x := "_law_draw") (by simp [fa, faG])
  have g75 := glo_at X G c (x := "_law_mixed") (by simp [fa, faG])
  have g76 := glo_at X G c (x := "_law_made_a") (by simp [fa, faG])
  have g77 := glo_at X G c (x := "_law_made_b") (by simp [fa, faG])
  have g78 := glo_at X G c (x := "_law_made_c") (by simp [fa, faG])
  have g79 := glo_at X G c (x := "_law_made_d") (by simp [fa, faG])
  have g80 := glo_at X G c (x := "_law_kinds_a") (by simp [fa, faG])
  have g81 := glo_at X G c (x := "_law_kinds_b") (by simp [fa, faG])
  have g82 := glo_at X G c (x := "_law_kinds_c") (by simp [fa, faG])
  have g83 := glo_at X G c (x := "_law_kinds_d") (by simp [fa, faG])
  have g84 := glo_at X G c (x := "_law_kinds") (by simp [fa, faG])
  have g85 := glo_at X G c (x := "_law_is_own") (by simp [fa, faG])
  have g86 := glo_at X G c (x := "_law_are_these") (by simp [fa, faG])
  have KA := kitAll_of E
  have KB := kitB_of E X G (free_at X G c (by simp [fa, faF])) (free_at X G c (by simp [fa, faF])) tS.range
  have B74 : Binds K d74 ["stream", "many"] [] := b2 F74 fun _ _ _ _ _ _ _ _ => rfl
  have G74 := ok_draw (P := P) (w := w) (mg := mg) (base := base) (fun_of F74) tS
  have m : ∀ x, madeD x ∈ tf → He.cT K (madeD x) ∈ tf.map (He.cT K) := fun x hx => List.mem_map.mpr ⟨_, hx, rfl⟩
  have Gka := ok_kindsa (P := P) (w := w) (base := base) (fun_of F80) C0 desC KA tK
  have Gkb := ok_kindsb (P := P) (w := w) (base := base) (fun_of F81) C0 desC KA tK
  have Gkc := ok_kindsc (P := P) (w := w) (base := base) (fun_of F82) C0 desC KA tK
  have Gkd := ok_kindsd (P := P) (w := w) (base := base) (fun_of F83) C0 desC KA tK
  have Gk := ok_kinds (fun_of F84) Gka g80 F80.kp (b1 F80 fun _ _ _ _ _ _ _ => rfl) Gkb g81 F81.kp (b1 F81 fun _ _ _ _ _ _ _ => rfl) Gkc g82 F82.kp (b1 F82 fun _ _ _ _ _ _ _ => rfl) Gkd g83 F83.kp (b1 F83 fun _ _ _ _ _ _ _ => rfl)
  have Bk : Binds K d84 ["e"] [] := b1 F84 fun _ _ _ _ _ _ _ => rfl
  refine ok_law (ad := adY K) (fun_of F87) ⟨C0, desC, all_errC E, KA, KB, lamp_err0 E X G, ?_, tS, tK, tT, free_at X G c (by simp [fa, faF]), ?_, ?_, ?_, ?_, ?_, ?_, ?_, ?_, ?_⟩ ?_
  · rw [kit_ty E (by decide) _ (by kernel_rfl)]
    exact congrArg some (by decide)
  · exact ⟨_, _, ok_start (fun_of F73) tS, g73, F73.kp, b1 F73 fun _ _ _ _ _ _ _ => rfl⟩
  · exact ⟨_, _, ok_mixed (fun_of F75) tS G74 g74 F74.kp B74, g75, F75.kp, b2 F75 fun _ _ _ _ _ _ _ _ => rfl⟩
  · exact ⟨_, _, ok_madea (funC_of F76) C0 (TB _ (m _ (by simp [tf]))) (List.mem_of_getElem? (i := 0) rfl) (tabs_name E (i := 0) rfl), g76, F76.kp, b3 F76 fun _ _ _ _ _ _ _ _ _ => rfl⟩
  · exact ⟨_, _, ok_madeb (funC_of F77) C0 (TB _ (m _ (by simp [tf]))) (List.mem_of_getElem? (i := 1) rfl) (tabs_name E (i := 1) rfl), g77, F77.kp, b3 F77 fun _ _ _ _ _ _ _ _ _ => rfl⟩
  · exact ⟨_, _, ok_madec (funC_of F78) C0 (TB _ (m _ (by simp [tf]))) (List.mem_of_getElem? (i := 2) rfl) (tabs_name E (i := 2) rfl), g78, F78.kp, b3 F78 fun _ _ _ _ _ _ _ _ _ => rfl⟩
  · exact ⟨_, _, ok_maded (funC_of F79) C0 (TB _ (m _ (by simp [tf]))) (List.mem_of_getElem? (i := 3) rfl) (tabs_name E (i := 3) rfl), g79, F79.kp, b3 F79 fun _ _ _ _ _ _ _ _ _ => rfl⟩
  · exact ⟨_, _, ok_own (fun_of F85) desC tK KB Gk g84 F84.kp Bk, g85, F85.kp, b2 F85 fun _ _ _ _ _ _ _ _ => rfl⟩
  · exact ⟨_, _, Gk, g84, F84.kp, Bk⟩
  · exact ⟨_, ok_these (fun_of F86) tT (F86.bindsA fun kV doc pm an cdv ct us hl => match us, hl with
      | [u, v], _ => rfl), g86, F86.kp⟩
  · exact F87.bindsA fun kV doc pm an cdv ct us hl => match us, hl with
      | [u], _ => rfl
end
end Lamp
namespace Lamp
open PySem PySem.Spec PyProof.Rows L2
theorem tabs_new {K : PySem.W.Frag} {H : Hp} (hH : ∀ p ∈ tf.map (He.cT K), H p.2 = some (.tbl #[])) : LamX.Tabs (tabsY K) H := fun p hp => by
  obtain ⟨x, hx, e⟩ : ∃ x, madeD x ∈ tf ∧ p.1 = tabY K x := by
    rcases List.mem_cons.mp hp with rfl | hp
    · exact ⟨"_law_made_a", by simp [tf], rfl⟩
    rcases List.mem_cons.mp hp with rfl | hp
    · exact ⟨"_law_made_b", by simp [tf], rfl⟩
    rcases List.mem_cons.mp hp with rfl | hp
    · exact ⟨"_law_made_c", by simp [tf], rfl⟩
    rcases List.mem_cons.mp hp with rfl | hp
    · exact ⟨"_law_made_d", by simp [tf], rfl⟩
    · cases hp
  refine LamX.TabS.nil ?_
  rw [e]
  exact hH _ (List.mem_map.mpr ⟨_, hx, rfl⟩)
abbrev RL : PySem.W.OpenLaw := PySem.Challenge.rw_lamplight_k00_errors_made
abbrev dLaw : DefRec := HandSHeadRun.topDef R.prog 87
theorem walk {q : Program} {loose : List Str} {XP : (Str → Option Value) → Heap → Prop} : PySem.W.WalkO q loose XP hk.says R.toRowW dLaw [] fun f vs => PySem.call f vs := by
  refine Att.attach_callB (l := RL) (n := 63) rfl (by kernel_rfl) fun w s₀ s₁ mg mb fA o pm cd doc a vs ns G Y ho hd hcd hmg hobj hints hlen hbits hg => ?_
  obtain ⟨K, KX, c⟩ := Y
  have E := exY_of c.more
  have nm : dLaw.name = ("law" : Str) := by kernel_rfl
  have hm : mg ("law" : Str) = some (.ref fA) := by
    rw [← nm]
    exact hmg
  have e := hm.symm.trans (glo_at KX G.T.g c.t.d (x := "law") (by simp [fa, faG]))
  cases e
  refine entry_runs (K := K) (k := 6) (cs := tf.map (He.cT K)) (x := "script") (sp := spLaw K (tabsY K)) KX G.T.g G.T.b G.T.builtins G.T.nolimit hg (fun p hp => ?_) G.T.bmain hobj hints (Nat.le_trans hlen (by decide)) ⟨rfl, by decide, by decide⟩
    (fun base hK hns TB => law_of E c.t.d hK hns TB) fun H hH hS => ⟨a, ns, rfl, hS, tabs_new hH, fun _ => rfl⟩
  obtain ⟨z, hz, rfl⟩ := List.mem_map.mp hp
  exact ⟨c.empty z hz, c.out z hz, PySem.W.codeHd_of_K KX (c.hd z hz)⟩
end Lamp
open PySem PySem.W PySem.Calls PyProof.Rows
theorem PySem.Challenge.cw_lamplight_k00_errors_made_holds : PySem.Challenge.rw_lamplight_k00_errors_made.Holds := by
  w_on; o_law
  refine HandSHeadRun.head_any (r := Lamp.R) (q := view Lamp.R.prog [87]) (H := Lamp.hk) (ob := Lamp.ob) (M := 40000) (loose := Lamp.nms) (d := Lamp.dLaw) (kwd := []) Lamp.ob_eq
    (by kernel_rfl) (fun s => by kernel_rfl) Lamp.run (by kernel_rfl) (by kernel_rfl) (by kernel_rfl) (by rfl) (by first | assumption | decide +kernel) (by decide +kernel) ⟨rfl, rfl, rfl, rfl, rfl, by decide +kernel⟩ ?hw ?hc
  case hw => w_witness2
  case hc => exact Lamp.walk
