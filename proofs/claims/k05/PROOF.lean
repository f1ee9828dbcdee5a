import PyProof.Rows.All
import Wide.All
import OpenK.AllK
import Wide.FinOn
import HandS.Base
import HandS.Call
import HandS.List
import HandS.Comp
import HandS.Ends
import HandS.Iter
import HandS.Words
import HandS.WordsList
import HandS.Dict
import HandS.IsInst
import HandS.More
import HandS.Exc
import HandS.WordsExc
import HandS.DictComp
import HandS.Walk
import HandS.Text
import KE.DataMinMax
import HandS.SortKw
import HandS.Sort
import HandS.SortOrd
import HandS.TupLen
import HandS.SetFor
import HandS.Style
import KE.KDictZip
import HandS.DictTup
import HandS.ListItems
import KE.KDictPairs
import HandS.Zip
import HandS.Deep
import HandS.Finally
import HandS.EndBits
import HandS.EndTab
import HandS.Head0
import HandS.Head1
import HandS.Head2
import HandS.HeadEnd
import HandS.HeadHook1
import HandS.HeadHook2
import HandS.HeadHook3
import HandS.HeadHook4
import HandS.HeadWalk
import PySem.Challenge.RW_lamplight_k05_whole_what_holds_of_all
set_option Elab.async false
set_option linter.all false
set_option maxRecDepth 100000
namespace Lamp
open PySem L2
/-! ### the text by names -/
abbrev PR : Program := PySem.Challenge.pw_lamplight_k05_whole_what_holds_of_all
def top (i : Nat) : Stmt := PR.main.body.getD i (.Pass ⟨0, 0, 0, 0⟩)
abbrev c_LampError : Stmt := top 1
abbrev c_BadCarrying : Stmt := top 2
abbrev m_BadCarrying_init : Stmt := inClass (top 2) 0
abbrev c_BadDoors : Stmt := top 3
abbrev m_BadDoors_init : Stmt := inClass (top 3) 0
abbrev c_BadPasses : Stmt := top 4
abbrev m_BadPasses_init : Stmt := inClass (top 4) 0
abbrev c_BadRooms : Stmt := top 5
abbrev m_BadRooms_init : Stmt := inClass (top 5) 0
abbrev c_NoRoom : Stmt := top 6
abbrev m_NoRoom_init : Stmt := inClass (top 6) 0
abbrev c_NotJoined : Stmt := top 7
abbrev m_NotJoined_init : Stmt := inClass (top 7) 0
abbrev c_PackageObject : Stmt := top 12
abbrev s_is_row : Stmt := top 13
abbrev s_is_name : Stmt := top 14
abbrev s_is_number : Stmt := top 15
abbrev c_House : Stmt := top 17
abbrev m_House_init : Stmt := inClass (top 17) 0
abbrev m_House_rooms : Stmt := inClass (top 17) 1
abbrev m_House_doors : Stmt := inClass (top 17) 2
abbrev m_House_len : Stmt := inClass (top 17) 3
abbrev m_House_eq : Stmt := inClass (top 17) 4
abbrev m_House_has : Stmt := inClass (top 17) 5
abbrev m_House_near : Stmt := inClass (top 17) 6
abbrev s_need_room : Stmt := top 18
abbrev s_rooms_fault : Stmt := top 19
abbrev s_doors_fault : Stmt := top 20
abbrev s_is_pair_of : Stmt := top 21
abbrev s_leader_of : Stmt := top 22
abbrev s_rooms_by_doors : Stmt := top 23
abbrev s_reach : Stmt := top 24
abbrev s_first_parted : Stmt := top 25
abbrev s_way : Stmt := top 27
abbrev s_towards : Stmt := top 28
abbrev s_climb : Stmt := top 29
abbrev s_way_between : Stmt := top 30
abbrev s_stays : Stmt := top 32
abbrev s_passes : Stmt := top 33
abbrev s_stays_by : Stmt := top 34
abbrev s_carrying_fault : Stmt := top 35
abbrev s_may_follow : Stmt := top 36
abbrev s_need_carrying : Stmt := top 37
abbrev s_pairs_beside : Stmt := top 38
abbrev s_is_passes : Stmt := top 39
abbrev s_leads_on : Stmt := top 40
abbrev s_hangs_at : Stmt := top 41
abbrev s_ledger_of : Stmt := top 43
abbrev s_hours_of : Stmt := top 44
abbrev s_law_start : Stmt := top 46
abbrev s_law_draw : Stmt := top 47
abbrev s_law_pick : Stmt := top 48
abbrev s_law_mixed : Stmt := top 49
abbrev s_law_same : Stmt := top 50
abbrev s_law_h_names : Stmt := top 51
abbrev s_law_h_doors : Stmt := top 52
abbrev s_law_h_house : Stmt := top 53
abbrev s_law_h_beside : Stmt := top 54
abbrev s_law_h_carrying : Stmt := top 55
abbrev s_law_many_stays : Stmt := top 56
abbrev s_law_one_right : Stmt := top 57
abbrev s_law : Stmt := top 58
end Lamp
set_option maxHeartbeats 4000000
namespace Lamp
open PySem L2
abbrev sStart : Stmt := s_law_start
abbrev sDraw : Stmt := s_law_draw
abbrev sMixed : Stmt := s_law_mixed
/-! ### the spring of draws -/
/-- the spring at a, its cells' list at l, n draws so far -/
structure Spr (H : Hp) (a l : Addr) (n : Nat) : Prop where
  ne : a ≠ l
  ob : ∃ (cs : List Int) (cur mix : Int), H a = some (.lst [.ref l, .int cur, .int (n : Int), .int mix]) ∧ H l = some (.lst (cs.map V.int)) ∧ 0 ≤ mix ∧ mix < 2147483647
/-- all that was tracked is as it was, but for the spring (a list of cells that is empty stays) -/
def Sb (a l : Addr) (H H' : Hp) : Prop := ∀ b o, H b = some o → b ≠ a → (b = l → o = .lst []) → H' b = some o
theorem Sb.refl {a l : Addr} (H : Hp) : Sb a l H H := fun _ _ h _ _ => h
theorem Sb.trans {a l : Addr} {H H1 H2 : Hp} (p : Sb a l H H1) (q : Sb a l H1 H2) : Sb a l H H2 := fun b o h x y => q b o (p b o h x y) x y
theorem Same.sb {a l : Addr} {H H' : Hp} (p : Same H H') : Sb a l H H' := fun b o h _ _ => p b o h
theorem Spr.ra {H : Hp} {a l : Addr} {n : Nat} (s : Spr H a l n) : ∃ o, H a = some o := by
  obtain ⟨_, _, _, h, _⟩ := s.ob
  exact ⟨_, h⟩
theorem Spr.rl {H : Hp} {a l : Addr} {n : Nat} (s : Spr H a l n) : ∃ o, H l = some o := by
  obtain ⟨_, _, _, _, h, _⟩ := s.ob
  exact ⟨_, h⟩
theorem Spr.na {H : Hp} {a l p : Addr} {n : Nat} (s : Spr H a l n) (h : H p = none) : p ≠ a := by
  obtain ⟨o, e⟩ := s.ra
  intro z
  rw [z, e] at h
  cases h
theorem Spr.nl {H : Hp} {a l p : Addr} {n : Nat} (s : Spr H a l n) (h : H p = none) : p ≠ l := by
  obtain ⟨o, e⟩ := s.rl
  intro z
  rw [z, e] at h
  cases h
/-- the spring stands while nothing is stored into it -/
theorem Spr.stay {H H' : Hp} {a l : Addr} {n : Nat} (s : Spr H a l n) (h : Same H H') : Spr H' a l n := by
  obtain ⟨ne, cs, cur, mix, h1, h2, h3, h4⟩ := s
  exact ⟨ne, cs, cur, mix, h _ _ h1, h _ _ h2, h3, h4⟩
theorem Spr.updN {H : Hp} {a l p : Addr} {n : Nat} {o : HO} (s : Spr H a l n) (pa : p ≠ a) (pl : p ≠ l) : Spr (upd H p o) a l n := by
  obtain ⟨ne, cs, cur, mix, h1, h2, h3, h4⟩ := s
  exact ⟨ne, cs, cur, mix, by rw [upd_ne pa.symm]; exact h1, by rw [upd_ne pl.symm]; exact h2, h3, h4⟩
theorem Sb.upd {H : Hp} {a l p : Addr} {o : HO} (h : H p = none) : Sb a l H (upd H p o) := fun b u e _ _ => by
  rw [upd_ne (ne_of_none e h)]
  exact e

def spStart (K : PySem.W.Frag) : Sp := fun vs H Q _ => ∃ (p : Addr) (ns : List Int), vs = [.ref p] ∧ SqL K H p (ns.map V.int) ∧ ∀ H' a l, Same H H' → H a = none → H l = none → Spr H' a l 0 → Q (.ref a) H'
def spDraw : Sp := fun vs H Q _ => ∃ (a l : Addr) (n : Nat) (m : Int), vs = [.ref a, .int m] ∧ Spr H a l n ∧ n ≤ 1000000 ∧ 1 ≤ m ∧ m < 1000000 ∧
  ∀ H' d, Sb a l H H' → Spr H' a l (n + 1) → 0 ≤ d → d < m → Q (.int d) H'
/-- what the top has written -/
structure TxtS (mg : Str → Option Value) : Prop where
  int : mg "int" = none
  list : mg "list" = none
  len : mg "len" = none
  range : mg "range" = none
theorem while_ex {c : TT} {tb : TS} {D : Ends} {σ : St} {H : Hp} (Ex : St → Hp → Prop) (hd : ∀ σ H, Ex σ H → D.nx σ H) (k : (∀ σ H, Ex σ H → D.nx σ H) → tWhile c tb D σ H) : tWhile c tb D σ H := k hd
theorem dpAll_ints {K : PySem.W.Frag} {H : Hp} : ∀ cs : List Int, DpAll K H (cs.map V.int) (cs.map PyData.int)
  | [] => .nil
  | c :: cs => .cons (.int c) (dpAll_ints cs)
theorem lay_ints : ∀ cs : List Int, PyData.canLayAll0 (cs.map PyData.int) = true
  | [] => rfl
  | c :: cs => by
    show (PyData.canLay0 (.int c) && PyData.canLayAll0 (cs.map PyData.int)) = true
    rw [lay_ints cs]
    rfl
theorem depth_ints (cs : List Int) : PyData.depth (.list (cs.map PyData.int)) ≤ 64 := by
  have e : PyData.depthAll (cs.map PyData.int) = 0 := by
    induction cs with
    | nil => rfl
    | cons c cs ih =>
      show max (PyData.depth (.int c)) (PyData.depthAll (cs.map PyData.int)) = 0
      rw [ih]
      rfl
  show PyData.depthAll (cs.map PyData.int) + 1 ≤ 64
  rw [e]
  decide
theorem shaped_ints (cs : List Int) : SeqAt.shaped (.list (cs.map PyData.int)) = true := by
  show (PyData.canLayAll0 (cs.map PyData.int) && decide (PyData.depth (.list (cs.map PyData.int)) ≤ 64)) = true
  rw [lay_ints, decide_eq_true (depth_ints cs)]
  rfl
section
variable {P : Program} {w : World} {K : PySem.W.Frag} {mg : Str → Option Value} {base : Heap}
theorem scS : FnScope ["script"] ["script"] (defScope sStart) := ⟨rfl, rfl, rfl, by decide +kernel, rfl, by decide +kernel, by decide +kernel⟩
theorem ok_start {f : Addr} {fd : FuncData} (F : Fun K "_law_start" "_law_start" sStart f fd) (T : TxtS mg) : FnOk P w K mg base CX0 1 f fd ["script"] (spStart K) := by
  refine F.ok scS (fun vs H Q E h => ?_) (fun cdv A outer s H vs Q E hr h => ?_)
  · obtain ⟨p, ns, rfl, _⟩ := h
    rfl
  · obtain ⟨p, ns, rfl, hS, k⟩ := h
    refine ⟨_, pss_one (ps_ret (pe_lst (pa_cons (pe_callTy call_list_of (by rfl) T.list (by decide +kernel) (pa_cons (pv 0) pa_nil)) (pa_cons pe_int (pa_cons pe_int (pa_cons pe_int pa_nil)))))), ?_⟩
    refine ⟨_, rfl, p, _, rfl, .inl hS, fun l hl => ?_⟩
    refine ⟨(by show 4 ≤ sizeLine; decide), fun a ha => ?_⟩
    have nla : l ≠ a := fun z => by
      rw [← z, upd_same] at ha
      cases ha
    have ha0 : H a = none := by
      rw [upd_ne nla.symm] at ha
      exact ha
    refine k _ a l (fun b o e => ?_) ha0 hl ⟨nla.symm, ns, 0, 11, upd_same, ?_, by decide, by decide⟩
    · rw [upd_ne (ne_of_none e ha0), upd_ne (ne_of_none e hl)]
      exact e
    · rw [upd_ne nla, upd_same]

theorem scD : FnScope ["stream", "many", "cell", "digit", "mixed"] ["stream", "many"] (defScope sDraw) := ⟨rfl, rfl, rfl, by decide +kernel, rfl, by decide +kernel, by decide +kernel⟩
theorem ok_draw {f : Addr} {fd : FuncData} (F : Fun K "_law_draw" "_law_draw" sDraw f fd) (T : TxtS mg) : FnOk P w K mg base CX0 1 f fd ["stream", "many"] spDraw := by
  refine F.ok scD (fun vs H Q E h => ?_) (fun cdv A outer s H vs Q E hr h => ?_)
  · obtain ⟨a, l, n, m, rfl, _⟩ := h
    rfl
  · obtain ⟨a, l, n, m, rfl, hS, hn, hm, hm2, k⟩ := h
    refine ⟨_, pss_cons (ps_asg (pe_op op_add (pe_ix ix_list (pv 0) pe_int (fun _ _ => rfl)) pe_int) (pg_sub (pv 0) pe_int set_list))
      (pss_cons (ps_while PassesOwn.never (PW.pt (pw_and (pt_cmpR op_eq (pe_ix ix_list (pv 0) pe_int (fun _ _ => rfl)) pe_int (nomark _)) (pw_and1 (pt_cmpR (op_neD hr.units) (pe_ix ix_list (pv 0) pe_int (fun _ _ => rfl)) (pe_lst pa_nil) (nomark _)))))
        (pss_cons (ps_set (i := 2) scD.nd rfl (Or.inl rfl) (pe_bm PySem.F.plainAttrs_list PySem.F.slot_list_pop PySem.F.type_list_pop mt_popAt (pe_ix ix_list (pv 0) pe_int (fun _ _ => rfl)) (pa_cons pe_int pa_nil)))
        (pss_cons (ps_asg (pe_op op_modN (pe_callTy call_int1 (by rfl) T.int (by decide +kernel) (pa_cons (pe_op op_add (pe_op op_add (pe_op op_mul (pe_ix ix_list (pv 0) pe_int (fun _ _ => rfl)) pe_int) (pv 2)) pe_int) pa_nil)) pe_int) (pg_sub (pv 0) pe_int set_list))
        (pss_one (ps_asg (pe_ifExp (pt_cmpR op_ge (pv 2) (pe_op op_pow pe_int pe_int) (nomark _)) (pv 2) pe_int) (pg_sub (pv 0) pe_int set_list))))))
      (pss_cons (ps_if (pt_cmpR op_gt (pe_ix ix_list (pv 0) pe_int (fun _ _ => rfl)) pe_int (nomark _))
        (pss_cons (ps_set (i := 3) scD.nd rfl (Or.inl rfl) (pe_op op_modN (pe_callTy call_int1 (by rfl) T.int (by decide +kernel) (pa_cons (pe_ix ix_list (pv 0) pe_int (fun _ _ => rfl)) pa_nil)) (pv 1)))
        (pss_cons (ps_asg (pe_op op_fdivN (pe_ix ix_list (pv 0) pe_int (fun _ _ => rfl)) (pv 1)) (pg_sub (pv 0) pe_int set_list))
        (pss_one (ps_ret (pv 3))))) pss_nil)
      (pss_cons (ps_set (i := 4) scD.nd rfl (Or.inl rfl) (pe_op op_modN (pe_callTy call_int1 (by rfl) T.int (by decide +kernel) (pa_cons (pe_op op_pow (pe_op op_add (pe_op op_add (pe_ix ix_list (pv 0) pe_int (fun _ _ => rfl)) (pe_op op_mul pe_int (pe_ix ix_list (pv 0) pe_int (fun _ _ => rfl)))) pe_int) pe_int) pa_nil)) pe_int))
      (pss_one (ps_ret (pe_op op_modN (pe_op op_modN (pe_callTy call_int1 (by rfl) T.int (by decide +kernel) (pa_cons (pe_op op_pow (pe_op op_add (pe_op op_add (pe_op op_mul (pv 4) pe_int) (pe_op op_mul pe_int (pe_ix ix_list (pv 0) pe_int (fun _ _ => rfl)))) pe_int) pe_int) pa_nil)) pe_int) (pv 1))))))), ?_⟩
    obtain ⟨ne, cs, cur, mix, h1, h2, h3, h4⟩ := hS
    refine ⟨_, rfl, a, _, 2, .int (n : Int), rfl, rfl, SqL.of h1, rfl, _, _, rfl, rfl, ?_⟩
    refine ⟨_, rfl, a, _, 2, 2, rfl, rfl, h1, rfl, ?_⟩
    refine while_ex (fun σ' H' => ∃ (cs' : List Int) (cur' mix' : Int) (v2 : Option V), σ' = [some (.ref a), some (.int m), v2, none, none] ∧ H' a = some (.lst [.ref l, .int cur', .int ((n : Int) + 1), .int mix']) ∧ H' l = some (.lst (cs'.map V.int)) ∧ 0 ≤ mix' ∧ mix' < 2147483647 ∧ Sb a l H H') ?_ (fun fin => ?_)
    · rintro σ' H' ⟨cs', cur', mix', v2, rfl, g1, g2, g3, g4, gS⟩
      have q0 : ∀ {i : Int}, 0 < i → i ≠ 0 := fun h z => by omega
      refine ⟨_, rfl, a, _, 1, .int cur', rfl, rfl, SqL.of g1, rfl, _, _, rfl, rfl, _, rfl, ?_⟩
      refine ite2 (fun _ => ?_) (fun _ => ?_)
      · refine ⟨_, rfl, a, _, 1, .int cur', rfl, rfl, SqL.of g1, rfl, .inl ⟨_, rfl, _, rfl, _, _, rfl, rfl, q0 (by omega), ?_⟩⟩
        refine ⟨_, rfl, a, _, 1, .int cur', rfl, rfl, SqL.of g1, rfl, _, rfl, _, _, rfl, rfl, ⟨q0 (by omega), by omega⟩, ?_⟩
        refine ⟨_, rfl, a, _, 1, 1, rfl, rfl, g1, rfl, _, rfl, ?_⟩
        exact k _ _ (fun b o e x y => by rw [upd_ne x]; exact gS b o e x y) ⟨ne, cs', _, mix', upd_same, by rw [upd_ne ne.symm]; exact g2, g3, g4⟩ (Int.fmod_nonneg_of_pos _ (by omega)) (Int.fmod_lt_of_pos _ (by omega))
      · have b1 : (0 : Int) ≤ mix' + 7919 * ((n : Int) + 1) + 104729 := by omega
        have b2 : mix' + 7919 * ((n : Int) + 1) + 104729 < 2 ^ 40 := by omega
        refine ⟨_, rfl, a, _, 3, .int mix', rfl, rfl, SqL.of g1, rfl, _, rfl, a, _, 2, .int ((n : Int) + 1), rfl, rfl, SqL.of g1, rfl, _, _, rfl, rfl, .inl ⟨by decide, by decide⟩, _, _, rfl, rfl, _, _, rfl, rfl, _, _, rfl, rfl, ⟨by decide, by decide, (by omega)⟩,
          .inl ⟨_, rfl, _, _, rfl, rfl, q0 (by decide), ?_⟩⟩
        have c1 := Int.fmod_nonneg_of_pos ((mix' + 7919 * ((n : Int) + 1) + 104729) ^ (5 : Int).toNat) (show (0 : Int) < 2147483629 by decide)
        have c2 := Int.fmod_lt_of_pos ((mix' + 7919 * ((n : Int) + 1) + 104729) ^ (5 : Int).toNat) (show (0 : Int) < 2147483629 by decide)
        refine ⟨_, rfl, _, _, rfl, rfl, .inr ⟨by decide, by decide⟩, _, rfl, a, _, 2, .int ((n : Int) + 1), rfl, rfl, SqL.of g1, rfl, _, _, rfl, rfl, .inl ⟨by decide, by decide⟩, _, _, rfl, rfl, _, _, rfl, rfl, _, _, rfl, rfl, ⟨by decide, by decide, (by omega)⟩,
          .inl ⟨_, rfl, _, _, rfl, rfl, q0 (by decide), _, rfl, _, _, rfl, rfl, q0 (by omega), ?_⟩⟩
        exact k _ _ gS ⟨ne, cs', cur', mix', g1, g2, g3, g4⟩ (Int.fmod_nonneg_of_pos _ (by omega)) (Int.fmod_lt_of_pos _ (by omega))
    refine ⟨fun m' σ' H' => ∃ (cs' : List Int) (cur' mix' : Int) (v2 : Option V), σ' = [some (.ref a), some (.int m), v2, none, none] ∧ m' = cs'.length ∧ H' a = some (.lst [.ref l, .int cur', .int ((n : Int) + 1), .int mix']) ∧ H' l = some (.lst (cs'.map V.int)) ∧ 0 ≤ mix' ∧ mix' < 2147483647 ∧ Sb a l H H',
      ⟨_, cs, cur, mix, none, rfl, rfl, upd_same, by rw [upd_ne ne.symm]; exact h2, h3, h4, fun b o e x y => by rw [upd_ne x]; exact e⟩, ?_⟩
    rintro m' σ' H' ⟨cs', cur', mix', v2, rfl, rfl, g1, g2, g3, g4, gS⟩
    refine ⟨_, rfl, a, _, 1, .int cur', rfl, rfl, SqL.of g1, rfl, rfl, _, rfl, ?_⟩
    refine ite2 (fun _ => ?_) (fun _ => iteF (fin _ _ ⟨cs', cur', mix', v2, rfl, g1, g2, g3, g4, gS⟩))
    refine ⟨_, rfl, a, _, 0, .ref l, rfl, rfl, SqL.of g1, rfl, Nat.zero_le _, fun p hp => ?_⟩
    have pa : p ≠ a := fun z => by
      rw [z, g1] at hp
      cases hp
    have pl : p ≠ l := fun z => by
      rw [z, g2] at hp
      cases hp
    have g1' : upd H' p (.lst []) a = some (.lst [.ref l, .int cur', .int ((n : Int) + 1), .int mix']) := by
      rw [upd_ne pa.symm]
      exact g1
    have g2' : upd H' p (.lst []) l = some (.lst (cs'.map V.int)) := by
      rw [upd_ne pl.symm]
      exact g2
    have gS' : Sb a l H (upd H' p (.lst [])) := gS.trans (Sb.upd hp)
    refine ⟨.list (cs'.map PyData.int), .list [], .lst (SqL.of g2') (dpAll_ints cs'), .lst (SqL.of upd_same) .nil, shaped_ints cs', by decide, _, rfl, ?_⟩
    cases cs' with
    | nil => exact iteF (fin _ _ ⟨[], cur', mix', v2, rfl, g1', g2', g3, g4, gS'⟩)
    | cons c cs' =>
      refine iteT ⟨fun σ'' H'' => ∃ (cur' mix' : Int) (v2 : Option V), σ'' = [some (.ref a), some (.int m), v2, none, none] ∧ H'' a = some (.lst [.ref l, .int cur', .int ((n : Int) + 1), .int mix']) ∧ H'' l = some (.lst (cs'.map V.int)) ∧ 0 ≤ mix' ∧ mix' < 2147483647 ∧ Sb a l H H'', ?_, ?_⟩
      · rintro σ'' H'' ⟨cur'', mix'', v2', rfl, q1, q2, q3, q4, qS⟩
        exact ⟨cs'.length, Nat.lt_succ_self _, cs', cur'', mix'', v2', rfl, rfl, q1, q2, q3, q4, qS⟩
      · refine ⟨_, rfl, a, _, 0, .ref l, rfl, rfl, SqL.of g1', rfl, .inl ⟨rfl, _, SqL.of g2'⟩, l, _, 0, 0, .int c, rfl, rfl, g2', by decide, by decide, ?_, rfl, ?_⟩
        · show (if (0 : Int) ≤ 0 && decide ((0 : Int) < ((c :: cs').map V.int).length) then some (0 : Int).toNat else none) = some 0
          exact if_pos (by simp)
        have e1 : upd (upd H' p (.lst [])) l (.lst (cs'.map V.int)) a = some (.lst [.ref l, .int cur', .int ((n : Int) + 1), .int mix']) := by
          rw [upd_ne ne]
          exact g1'
        refine ⟨_, rfl, a, _, 3, .int mix', rfl, rfl, SqL.of e1, rfl, _, _, rfl, rfl, .inr ⟨by decide, by decide⟩, _, rfl, _, _, rfl, rfl, _, _, rfl, rfl, .inl ⟨_, rfl, _, _, rfl, rfl, (by show (2147483647 : Int) ≠ 0; decide), ?_⟩⟩
        refine ⟨_, rfl, a, _, 3, 3, rfl, rfl, e1, rfl, ?_⟩
        refine ⟨_, rfl, _, _, rfl, rfl, ⟨by decide, by decide, by decide⟩, _, _, rfl, rfl, _, rfl, ?_⟩
        have e2 : ∀ z u : Int, upd (upd (upd (upd H' p (.lst [])) l (.lst (cs'.map V.int))) a (.lst [.ref l, .int cur', .int ((n : Int) + 1), .int z])) a (.lst [.ref l, .int u, .int ((n : Int) + 1), .int z]) l = some (.lst (cs'.map V.int)) := fun z u => by
          rw [upd_ne ne.symm, upd_ne ne.symm, upd_same]
        have e3 : ∀ o1 o2 o3 : HO, Sb a l H (upd (upd (upd (upd H' p (.lst [])) l o1) a o2) a o3) := fun o1 o2 o3 b o e x y => by
          have bl : b ≠ l := fun z => by
            have q := gS' b o e x y
            rw [z, g2', y z] at q
            cases q
          rw [upd_ne x, upd_ne x, upd_ne bl]
          exact gS' b o e x y
        have m0 : (0 : Int) < 2147483647 := by decide
        refine ite2 (fun _ => ?_) (fun _ => ?_)
        · refine ⟨_, rfl, _, rfl, a, _, 1, 1, rfl, rfl, upd_same, rfl, ?_⟩
          exact ⟨_, _, _, rfl, upd_same, e2 _ _, Int.fmod_nonneg_of_pos _ m0, Int.fmod_lt_of_pos _ m0, e3 _ _ _⟩
        · refine ⟨_, rfl, a, _, 1, 1, rfl, rfl, upd_same, rfl, ?_⟩
          exact ⟨_, _, _, rfl, upd_same, e2 _ _, Int.fmod_nonneg_of_pos _ m0, Int.fmod_lt_of_pos _ m0, e3 _ _ _⟩
end
end Lamp
set_option maxHeartbeats 4000000
namespace Lamp
open PySem L2
def spMixed (K : PySem.W.Frag) : Sp := fun vs H Q _ => ∃ (a l p : Addr) (n : Nat) (xs : List V), vs = [.ref a, .ref p] ∧ Spr H a l n ∧ (SqL K H p xs ∨ SqT K H p xs) ∧ n + xs.length ≤ 1000000 ∧ xs.length < 100000 ∧
  ∀ H' q ys, Sb a l H H' → Spr H' a l (n + xs.length) → H q = none → H' q = some (.lst ys) → ys.Perm xs → Q (.ref q) H'
theorem perm_eraseIdx {α : Type} : ∀ {l : List α} {i : Nat} {x : α}, l[i]? = some x → (x :: l.eraseIdx i).Perm l
  | [], i, x, h => by simp at h
  | a :: l, 0, x, h => by
    have e : a = x := Option.some.inj h
    subst e
    exact .refl _
  | a :: l, i + 1, x, h => by
    have ih := perm_eraseIdx (l := l) (i := i) (x := x) h
    show (x :: a :: l.eraseIdx i).Perm (a :: l)
    exact (List.Perm.swap a x _).trans (ih.cons a)
/-- len(x), x a list or a tuple -/
def rLenS (K : PySem.W.Frag) : List V → Hp → VK → Prop := fun xs H Q => ∃ p ys, xs = [.ref p] ∧ (SqL K H p ys ∨ SqT K H p ys) ∧ Q (.int ys.length) H
/-- left.pop(_law_draw(stream, len(left))) -/
def tMixE (K : PySem.W.Frag) : TE := tBM K "list" rPopAt (tVar 2) (tCons (tCall spDraw [] E0 (tCons (tVar 0) (tCons (tCB (rLenS K) (tCons (tVar 2) tNil)) tNil))) tNil)
section
variable {P : Program} {w : World} {K : PySem.W.Frag} {mg : Str → Option Value} {base : Heap}
theorem scM : FnScope ["stream", "some", "left", "k"] ["stream", "some"] (defScope sMixed) := ⟨rfl, rfl, rfl, by decide +kernel, rfl, by decide +kernel, by decide +kernel⟩
theorem ok_mixed {f fD : Addr} {fd fdD : FuncData} (F : Fun K "_law_mixed" "_law_mixed" sMixed f fd) (T : TxtS mg) (GD : FnOk P w K mg base CX0 1 fD fdD ["stream", "many"] spDraw) (mD : mg "_law_draw" = some (.ref fD)) (kD : PySem.W.keepIn K (.ref fD) = true) (bD : Binds K fdD ["stream", "many"] []) :
    FnOk P w K mg base CX0 2 f fd ["stream", "some"] (spMixed K) := by
  refine F.ok scM (fun vs H Q E h => ?_) (fun cdv A outer s H vs Q E hr h => ?_)
  · obtain ⟨a, l, p, n, xs, rfl, _⟩ := h
    rfl
  · obtain ⟨a, l, p, n, xs, rfl, hS, hp, hn, hx, k⟩ := h
    refine ⟨_, pss_cons (ps_set (i := 2) scM.nd rfl (Or.inr rfl) (pe_callTy call_list_of (by rfl) T.list (by decide +kernel) (pa_cons (pv 1) pa_nil)))
      (pss_one (ps_ret (pe_lc (te := tMixE K) (own := [("k", 3)]) (g := gName 3) (tt := tYes) rfl scM.nd (pi_range1 rfl T.range (pa_cons (pe_callB call_len_seq (by rfl) T.len PySem.boot_len (pa_cons (pv 2) pa_nil)) pa_nil)) (blkOk_by (N := ["stream", "some", "left", "k"]) (sc := defScope sMixed) (by decide +kernel)) (fun _ _ _ _ _ => pg_name (i := 3) scM.nd rfl (Or.inl rfl)) (fun _ _ _ _ _ => pts_nil)
        (fun _ _ _ _ _ => by exact (pe_bm PySem.F.plainAttrs_list PySem.F.slot_list_pop PySem.F.type_list_pop mt_popAt (pv 2) (pa_cons (pe_call GD (hr.mono (by decide)) (by rfl) mD kD bD .nil pass0 (pa_cons (pv 0) (pa_cons (pe_callB call_len_seq (by rfl) T.len PySem.boot_len (pa_cons (pv 2) pa_nil)) pa_nil))) pa_nil)))))), ?_⟩
    refine ⟨_, rfl, p, _, rfl, hp, fun q hq => ?_⟩
    have qa := hS.na hq
    have ql := hS.nl hq
    refine ⟨_, rfl, q, _, rfl, .inl (SqL.of upd_same), (xs.length : Int), rfl, by omega, by omega, fun D hD => ?_⟩
    have nqD : q ≠ D := fun z => by
      rw [← z, upd_same] at hD
      cases hD
    have hD0 : H D = none := by
      rw [upd_ne nqD.symm] at hD
      exact hD
    have Da := hS.na hD0
    have Dl := hS.nl hD0
    refine lc_range (lo := 0) (n := xs.length) (fun i H' => ∃ (ys rest : List V), H' D = some (.lst ys) ∧ H' q = some (.lst rest) ∧ (ys ++ rest).Perm xs ∧ ys.length = i ∧ Spr H' a l (n + i) ∧ Sb a l H H') ?_ ?_ ?_
    · refine ⟨[], xs, upd_same, by rw [upd_ne nqD, upd_same], List.Perm.refl _, rfl, (hS.updN qa ql).updN Da Dl, fun b o e x y => ?_⟩
      rw [upd_ne (ne_of_none e hD0), upd_ne (ne_of_none e hq)]
      exact e
    · rintro i H' hi ⟨ys, rest, g1, g2, g3, g4, g5, g6⟩
      have hlen : ys.length + rest.length = xs.length := by
        rw [← List.length_append]
        exact g3.length_eq
      refine ⟨rfl, ⟨_, rfl, .inl ⟨rfl, _, SqL.of g2⟩, _, rfl, _, rfl, q, _, rfl, .inl (SqL.of g2), a, l, n + i, (rest.length : Int), rfl, g5, by omega, by omega, by omega, fun H2 d sb s2 d0 d1 => ?_⟩⟩
      have h2 := sb q _ g2 qa (fun z => absurd z ql)
      have h1 := sb D _ g1 Da (fun z => absurd z Dl)
      have hd : d.toNat < rest.length := by omega
      obtain ⟨y, hy⟩ : ∃ y, rest[d.toNat]? = some y := ⟨rest[d.toNat], List.getElem?_eq_getElem hd⟩
      refine ⟨q, rest, d, d.toNat, y, rfl, rfl, h2, by omega, by omega, ?_, hy, ?_⟩
      · have e1 : (if d < 0 then d + (rest.length : Int) else d) = d := if_neg (by omega)
        unfold seqIndex?
        simp only [e1]
        rw [if_pos (by simp [d0]; omega)]
      refine ⟨ys, by rw [upd_ne nqD.symm]; exact h1, ?_, ys ++ [y], rest.eraseIdx d.toNat, upd_same, ?_, ?_, ?_, ?_, ?_⟩
      · exact Nat.lt_of_lt_of_le (show ys.length < 100000 by omega) (by decide)
      · rw [upd_ne nqD, upd_same]
      · refine List.Perm.trans ?_ g3
        rw [List.append_assoc]
        refine List.Perm.append_left ys ?_
        have e := perm_eraseIdx hy
        exact e
      · rw [List.length_append, g4]
        rfl
      · exact (s2.updN qa ql).updN Da Dl
      · intro b o e x v
        rw [upd_ne (ne_of_none e hD0), upd_ne (ne_of_none e hq)]
        exact sb b o (g6 b o e x v) x v
    · rintro H' ⟨ys, rest, g1, g2, g3, g4, g5, g6⟩
      have hlen : ys.length + rest.length = xs.length := by
        rw [← List.length_append]
        exact g3.length_eq
      have e0 : rest = [] := List.eq_nil_of_length_eq_zero (by omega)
      rw [e0, List.append_nil] at g3
      exact k H' D ys g6 g5 hD0 g1 g3
end
end Lamp
set_option maxHeartbeats 4000000
namespace Lamp
open PySem PySem.Spec PyProof.Rows L2
/-! ### a house as it stands in the heap -/
/-- the rooms beside one, by the doors as they are told -/
def nearOf (ds : List (Str × Str)) (r : Str) : List Str := ds.filterMap fun d => if d.1 = r then some d.2 else if d.2 = r then some d.1 else none
/-- a dict from rooms to objects -/
def NM (rs : List Str) (nf : Str → Addr) : List (Key × V) := rs.map fun r => ((Sum.inr r : Key), V.ref (nf r))
theorem nm_get {nf : Str → Addr} {r : Str} : ∀ {rs : List Str}, r ∈ rs → valV (NM rs nf) (Sum.inr r) = some (.ref (nf r))
  | [], m => by cases m
  | x :: rs, m => by
    by_cases e : x = r
    · subst e
      simp [NM, valV]
    · have ih := nm_get (nf := nf) (r := r) (rs := rs) (by
        rcases List.mem_cons.mp m with z | z
        · exact absurd z.symm e
        · exact z)
      rw [← ih]
      simp [NM, valV, e]
theorem nm_none {nf : Str → Addr} {r : Str} : ∀ {rs : List Str}, r ∉ rs → valV (NM rs nf) (Sum.inr r) = none
  | [], _ => rfl
  | x :: rs, h => by
    have e : x ≠ r := fun z => h (z ▸ List.mem_cons_self)
    have ih := nm_none (nf := nf) (rs := rs) (r := r) fun m => h (List.mem_cons_of_mem _ m)
    rw [← ih]
    simp [NM, valV, e]
theorem nm_dec {nf : Str → Addr} {r : Str} {rs : List Str} : (valV (NM rs nf) (Sum.inr r)).isSome = decide (r ∈ rs) := by
  by_cases m : r ∈ rs
  · rw [nm_get m, decide_eq_true m]
    rfl
  · rw [nm_none m, decide_eq_false m]
    rfl
def TupsAt (H : Hp) (ts : List Addr) (es : List (Str × Str)) : Prop := Paired (fun t e => H t = some (.tup [.str e.1, .str e.2])) ts es
theorem Paired.imp {α β : Type} {R S : α → β → Prop} (h : ∀ a b, R a b → S a b) : ∀ {xs : List α} {ys : List β}, Paired R xs ys → Paired S xs ys
  | [], [], .nil => .nil
  | _ :: _, _ :: _, .cons a r => .cons (h _ _ a) (Paired.imp h r)
/-- the dict of what is beside each room -/
def NearAt (H : Hp) (na : Addr) (rs : List Str) (ds : List (Str × Str)) : Prop := ∃ nf : Str → Addr, H na = some (.dK (NM rs nf)) ∧ ∀ r ∈ rs, H (nf r) = some (.lst ((nearOf ds r).map V.str))
/-- a house with these rooms and doors at h, the class at C -/
structure HouseAt (H : Hp) (C h : Addr) (rs : List Str) (ds : List (Str × Str)) : Prop where
  at_ : ∃ (dx ra da na : Addr) (ts : List Addr), H h = some (.ins C dx [("_rooms", .ref ra), ("_doors", .ref da), ("_near", .ref na)]) ∧ H ra = some (.lst (rs.map V.str)) ∧ H da = some (.lst (ts.map V.ref)) ∧ TupsAt H ts ds ∧ NearAt H na rs ds
theorem HouseAt.same {H H' : Hp} {C h : Addr} {rs : List Str} {ds : List (Str × Str)} (a : HouseAt H C h rs ds) (s : Same H H') : HouseAt H' C h rs ds := by
  obtain ⟨dx, ra, da, na, ts, h1, h2, h3, h4, nf, h5, h6⟩ := a.at_
  exact ⟨dx, ra, da, na, ts, s _ _ h1, s _ _ h2, s _ _ h3, Paired.imp (fun _ _ e => s _ _ e) h4, nf, s _ _ h5, fun r hr => s _ _ (h6 r hr)⟩
/-- what the class House gives -/
structure ClsH (K : PySem.W.Frag) (C : Addr) : Prop where
  cls : Cls K C
  nR : NoAttr K C "_rooms"
  nD : NoAttr K C "_doors"
  nN : NoAttr K C "_near"
structure TxtH (mg : Str → Option Value) : Prop where
  list : mg "list" = none
  isi : mg "isinstance" = none
theorem none_upd {H : Hp} {a b : Addr} {o : HO} (h : upd H a o b = none) : b ≠ a ∧ H b = none := by
  by_cases e : b = a
  · subst e
    rw [upd_same] at h
    cases h
  · rw [upd_ne e] at h
    exact ⟨e, h⟩
theorem same_upd {H : Hp} {a : Addr} {o : HO} (h : H a = none) : Same H (upd H a o) := fun b u e => by
  rw [upd_ne (ne_of_none e h)]
  exact e
section
variable {P : Program} {w : World} {K : PySem.W.Frag} {mg : Str → Option Value} {base : Heap} {C : Addr}
/-! ### House.rooms, House.near, House.has -/
def spRooms (C : Addr) : Sp := fun vs H Q _ => ∃ (h : Addr) (rs : List Str) (ds : List (Str × Str)), vs = [.ref h] ∧ HouseAt H C h rs ds ∧ ∀ H' p, Same H H' → (∀ x, H' x = none → H x = none) → H p = none → H' p = some (.lst (rs.map V.str)) → Q (.ref p) H'
theorem scHr : FnScope ["self"] ["self"] (defScope m_House_rooms) := ⟨rfl, rfl, rfl, by decide +kernel, rfl, by decide +kernel, by decide +kernel⟩
theorem ok_rooms {f : Addr} {fd : FuncData} (F : Fun K "rooms" "House.rooms" m_House_rooms f fd) (T : TxtH mg) (c : ClsH K C) : FnOk P w K mg base CX0 1 f fd ["self"] (spRooms C) := by
  refine F.ok scHr (fun vs H Q E h => ?_) (fun cdv A outer s H vs Q E hr h => ?_)
  · obtain ⟨h, rs, ds, rfl, _⟩ := h
    rfl
  · obtain ⟨h, rs, ds, rfl, a, k⟩ := h
    obtain ⟨dx, ra, da, na, ts, h1, h2, h3, h4, nf, h5, h6⟩ := a.at_
    refine ⟨_, pss_one (ps_ret (pe_callTy call_list_of (by rfl) T.list (by decide +kernel) (pa_cons (pe_fld (f := "_rooms") (pv 0) (by rfl)) pa_nil))), ?_⟩
    refine ⟨_, rfl, h, C, dx, _, _, rfl, h1, c.cls, c.nR, by rfl, _, _, rfl, .inl (SqL.of h2), fun p np => ?_⟩
    exact k _ p (same_upd np) (fun x z => (none_upd z).2) np upd_same
def spNear (C : Addr) : Sp := fun vs H Q _ => ∃ (h : Addr) (r : Str) (rs : List Str) (ds : List (Str × Str)), vs = [.ref h, .str r] ∧ HouseAt H C h rs ds ∧ r ∈ rs ∧ ∀ H' p, Same H H' → (∀ x, H' x = none → H x = none) → H p = none → H' p = some (.lst ((nearOf ds r).map V.str)) → Q (.ref p) H'
theorem scHn : FnScope ["self", "room"] ["self", "room"] (defScope m_House_near) := ⟨rfl, rfl, rfl, by decide +kernel, rfl, by decide +kernel, by decide +kernel⟩
theorem ok_near {f : Addr} {fd : FuncData} (F : Fun K "near" "House.near" m_House_near f fd) (T : TxtH mg) (c : ClsH K C) : FnOk P w K mg base CX0 1 f fd ["self", "room"] (spNear C) := by
  refine F.ok scHn (fun vs H Q E h => ?_) (fun cdv A outer s H vs Q E hr h => ?_)
  · obtain ⟨h, r, rs, ds, rfl, _⟩ := h
    rfl
  · obtain ⟨h, r, rs, ds, rfl, a, m, k⟩ := h
    obtain ⟨dx, ra, da, na, ts, h1, h2, h3, h4, nf, h5, h6⟩ := a.at_
    have hn := h6 r m
    have hv := nm_get (nf := nf) m
    refine ⟨_, pss_one (ps_ret (pe_callTy call_list_of (by rfl) T.list (by decide +kernel) (pa_cons (pe_dget (Nat.lt_of_le_of_lt (Nat.add_le_add_left (by decide) _) hr.units) (pe_fld (f := "_near") (pv 0) (by rfl)) (pv 1) (fun _ _ => rfl)) pa_nil))), ?_⟩
    have g := DGet.k (k := Sum.inr r) h5
    rw [hv] at g
    refine ⟨_, rfl, h, C, dx, _, _, rfl, h1, c.cls, c.nN, by rfl, _, rfl, na, _, rfl, g, _, _, rfl, .inl (SqL.of hn), fun p np => ?_⟩
    exact k _ p (same_upd np) (fun x z => (none_upd z).2) np upd_same
end
end Lamp
set_option maxHeartbeats 4000000
namespace Lamp
open PySem PySem.Spec PyProof.Rows L2
/-- statements that are never reached -/
theorem pss_dead {X : Cx} {st : List Stmt} : PSs X st (fun _ _ _ => False) := ⟨fun _ _ _ _ _ _ h => h.elim⟩
structure TxtI (mg : Str → Option Value) : Prop where
  isi : mg "isinstance" = none
  str : mg "str" = none
section
variable {P : Program} {w : World} {K : PySem.W.Frag} {mg : Str → Option Value} {base : Heap} {C : Addr}
/-! ### House.has of a text, need_room of a room -/
def spHas (C : Addr) : Sp := fun vs H Q _ => ∃ (h : Addr) (z : Str) (rs : List Str) (ds : List (Str × Str)), vs = [.ref h, .str z] ∧ HouseAt H C h rs ds ∧ Q (.bl (decide (z ∈ rs))) H
theorem scHh : FnScope ["self", "thing"] ["self", "thing"] (defScope m_House_has) := ⟨rfl, rfl, rfl, by decide +kernel, rfl, by decide +kernel, by decide +kernel⟩
theorem ok_has {f : Addr} {fd : FuncData} (F : Fun K "has" "House.has" m_House_has f fd) (T : TxtI mg) (c : ClsH K C) : FnOk P w K mg base CX0 1 f fd ["self", "thing"] (spHas C) := by
  refine F.ok scHh (fun vs H Q E h => ?_) (fun cdv A outer s H vs Q E hr h => ?_)
  · obtain ⟨h, z, rs, ds, rfl, _⟩ := h
    rfl
  · obtain ⟨h, z, rs, ds, rfl, a, k⟩ := h
    obtain ⟨dx, ra, da, na, ts, h1, h2, h3, h4, nf, h5, h6⟩ := a.at_
    refine ⟨_, pss_one (ps_ret (pe_and (pe_callB call_isi (by rfl) T.isi PyProof.Rows.Boot.isinstance (pa_cons (pv 1) (pa_cons (pe_bltn (v := .ty "str") (by rfl) T.str PyProof.Rows.Boot.str rfl) pa_nil)))
      (pe_one (pe_cmp (pc_din (Nat.lt_of_le_of_lt (Nat.add_le_add_left (by decide) _) hr.units) (pv 1) (pe_fld (f := "_near") (pv 0) (by rfl))))))), ?_⟩
    have g := DGet.k (k := Sum.inr z) h5
    refine ⟨_, rfl, .str z, .ty "str", _, _, true, rfl, .ty _, .base (.str z), kit_ty (by decide +kernel), true, rfl, ?_⟩
    rw [if_pos rfl]
    refine ⟨_, rfl, _, rfl, h, C, dx, _, _, rfl, h1, c.cls, c.nN, by rfl, na, _, rfl, g, ?_⟩
    rw [nm_dec]
    exact k
/-- the house's method has, ready to be called -/
structure HasH (P : Program) (w : World) (K : PySem.W.Frag) (mg : Str → Option Value) (base : Heap) (C : Addr) : Prop where
  cls : ClsH K C
  has : ∃ (f : Addr) (fd : FuncData), Meth K C "has" f ∧ FnOk P w K mg base CX0 1 f fd ["self", "thing"] (spHas C) ∧ L2.Binds K fd ["self", "thing"] []
  near : ∃ (f : Addr) (fd : FuncData), Meth K C "near" f ∧ FnOk P w K mg base CX0 1 f fd ["self", "room"] (spNear C) ∧ L2.Binds K fd ["self", "room"] []
  rooms : ∃ (f : Addr) (fd : FuncData), Meth K C "rooms" f ∧ FnOk P w K mg base CX0 1 f fd ["self"] (spRooms C) ∧ L2.Binds K fd ["self"] []
def spNeed (C : Addr) : Sp := fun vs H Q _ => ∃ (h : Addr) (z : Str) (rs : List Str) (ds : List (Str × Str)), vs = [.ref h, .str z] ∧ HouseAt H C h rs ds ∧ z ∈ rs ∧ Q .non H
theorem scNr : FnScope ["house", "thing"] ["house", "thing"] (defScope s_need_room) := ⟨rfl, rfl, rfl, by decide +kernel, rfl, by decide +kernel, by decide +kernel⟩
theorem ok_need {f : Addr} {fd : FuncData} (F : Fun K "need_room" "need_room" s_need_room f fd) (M : HasH P w K mg base C) : FnOk P w K mg base CX0 2 f fd ["house", "thing"] (spNeed C) := by
  obtain ⟨fh, fdh, mh, Gh, bh⟩ := M.has
  refine F.ok scNr (fun vs H Q E h => ?_) (fun cdv A outer s H vs Q E hr h => ?_)
  · obtain ⟨h, z, rs, ds, rfl, _⟩ := h
    rfl
  · obtain ⟨h, z, rs, ds, rfl, a, m, k⟩ := h
    refine ⟨_, pss_one (ps_if (pt_not (pt_val (pe_meth (pv 0) M.cls.cls mh Gh hr bh .nil pass0 (pa_cons (pv 1) pa_nil)))) pss_dead pss_nil), ?_⟩
    have a' := a
    obtain ⟨dx, ra, da, na, ts, h1, h2, h3, h4, nf, h5, h6⟩ := a'.at_
    refine ⟨_, rfl, h, dx, _, rfl, h1, by rfl, _, rfl, h, z, rs, ds, rfl, a, _, rfl, ?_⟩
    rw [decide_eq_true m]
    exact k
end
end Lamp
namespace Lamp
open PySem
/-! ### houses without rings -/
abbrev Ed := Str × Str
/-- doors lead from one to the other -/
inductive Conn (ds : List Ed) : Str → Str → Prop
  | refl (a : Str) : Conn ds a a
  | fwd {a b c : Str} : Conn ds a b → (b, c) ∈ ds → Conn ds a c
  | bwd {a b c : Str} : Conn ds a b → (c, b) ∈ ds → Conn ds a c
theorem Conn.trans {ds : List Ed} {a b c : Str} (h : Conn ds a b) (g : Conn ds b c) : Conn ds a c := by
  induction g with
  | refl => exact h
  | fwd _ m ih => exact .fwd ih m
  | bwd _ m ih => exact .bwd ih m
theorem Conn.symm {ds : List Ed} {a b : Str} (h : Conn ds a b) : Conn ds b a := by
  induction h with
  | refl => exact .refl _
  | fwd _ m ih => exact Conn.trans (.bwd (.refl _) m) ih
  | bwd _ m ih => exact Conn.trans (.fwd (.refl _) m) ih
theorem Conn.mono {ds es : List Ed} {a b : Str} (h : Conn ds a b) (s : ∀ e ∈ ds, e ∈ es) : Conn es a b := by
  induction h with
  | refl => exact .refl _
  | fwd _ m ih => exact .fwd ih (s _ m)
  | bwd _ m ih => exact .bwd ih (s _ m)
/-- rooms and doors, each room but the first joined by one door to one ahead of it -/
inductive Tree : List Str → List Ed → Prop
  | one (r : Str) : Tree [r] []
  | grow {rs : List Str} {ds : List Ed} {a r : Str} {e : Ed} : Tree rs ds → a ∈ rs → r ∉ rs → (e = (a, r) ∨ e = (r, a)) → Tree (rs ++ [r]) (ds ++ [e])
theorem Tree.ends {rs : List Str} {ds : List Ed} (t : Tree rs ds) : ∀ e ∈ ds, e.1 ∈ rs ∧ e.2 ∈ rs ∧ e.1 ≠ e.2 := by
  induction t with
  | one r => exact fun e h => by cases h
  | @grow rs ds a r e t ha hr he ih =>
    intro d hd
    rcases List.mem_append.mp hd with hd | hd
    · obtain ⟨h1, h2, h3⟩ := ih d hd
      exact ⟨List.mem_append_left _ h1, List.mem_append_left _ h2, h3⟩
    · rw [List.mem_singleton.mp hd]
      have ne : a ≠ r := fun z => hr (z ▸ ha)
      rcases he with rfl | rfl
      · exact ⟨List.mem_append_left _ ha, List.mem_append_right _ (List.mem_singleton.mpr rfl), ne⟩
      · exact ⟨List.mem_append_right _ (List.mem_singleton.mpr rfl), List.mem_append_left _ ha, ne.symm⟩
theorem Tree.nodup {rs : List Str} {ds : List Ed} (t : Tree rs ds) : rs.Nodup := by
  induction t with
  | one r => exact List.nodup_cons.mpr ⟨by simp, List.nodup_nil⟩
  | grow t ha hr he ih => exact List.nodup_append.mpr ⟨ih, List.nodup_cons.mpr ⟨by simp, List.nodup_nil⟩, fun x hx y hy z => hr (by
      rw [List.mem_singleton.mp hy] at z
      exact z ▸ hx)⟩
theorem Tree.joined {rs : List Str} {ds : List Ed} (t : Tree rs ds) : ∀ a ∈ rs, ∀ b ∈ rs, Conn ds a b := by
  induction t with
  | one r =>
    intro a ha b hb
    rw [List.mem_singleton.mp ha, List.mem_singleton.mp hb]
    exact .refl _
  | @grow rs ds a r e t ha hr he ih =>
    have old : ∀ {x y}, x ∈ rs → y ∈ rs → Conn (ds ++ [e]) x y := fun hx hy => (ih _ hx _ hy).mono fun d hd => List.mem_append_left _ hd
    have new : Conn (ds ++ [e]) a r := by
      have m : e ∈ ds ++ [e] := List.mem_append_right _ (List.mem_singleton.mpr rfl)
      rcases he with rfl | rfl
      · exact .fwd (.refl _) m
      · exact .bwd (.refl _) m
    have toA : ∀ x ∈ rs ++ [r], Conn (ds ++ [e]) x a := fun x hx => by
      rcases List.mem_append.mp hx with hx | hx
      · exact old hx ha
      · rw [List.mem_singleton.mp hx]
        exact new.symm
    exact fun x hx y hy => (toA x hx).trans (toA y hy).symm
theorem conn_end {ds : List Ed} {rs : List Str} (hd : ∀ e ∈ ds, e.1 ∈ rs ∧ e.2 ∈ rs) {a b : Str} (h : Conn ds a b) (ha : a ∈ rs) : b ∈ rs := by
  induction h with
  | refl => exact ha
  | fwd _ m _ => exact (hd _ m).2
  | bwd _ m _ => exact (hd _ m).1
/-- no door closes a ring with the others -/
theorem Tree.noring {rs : List Str} {ds : List Ed} (t : Tree rs ds) : ∀ (e : Ed) (l : List Ed), ds.Perm (e :: l) → ¬ Conn l e.1 e.2 := by
  induction t with
  | one r =>
    intro e l p
    exact absurd p.length_eq (by simp)
  | @grow rs ds a r e0 t ha hr he ih =>
    intro e l p c
    have ends := t.ends
    by_cases q : e = e0
    · subst q
      have p2 : ds.Perm l := by
        have z : (e :: ds).Perm (e :: l) := (List.perm_append_comm (l₁ := [e]) (l₂ := ds)).trans p
        exact z.cons_inv
      have c2 : Conn ds e.1 e.2 := c.mono fun d hd => p2.mem_iff.mpr hd
      have hd : ∀ d ∈ ds, d.1 ∈ rs ∧ d.2 ∈ rs := fun d h => ⟨(ends d h).1, (ends d h).2.1⟩
      rcases he with rfl | rfl
      · exact hr (conn_end hd c2 ha)
      · exact hr (conn_end hd c2.symm ha)
    · have m0 : e0 ∈ l := by
        have z : e0 ∈ e :: l := p.mem_iff.mp (List.mem_append_right _ (List.mem_singleton.mpr rfl))
        rcases List.mem_cons.mp z with z | z
        · exact absurd z.symm q
        · exact z
      obtain ⟨l', pl⟩ : ∃ l', l.Perm (e0 :: l') := ⟨l.erase e0, List.perm_cons_erase m0⟩
      have p2 : ds.Perm (e :: l') := by
        have z : (e0 :: ds).Perm (e0 :: e :: l') := (List.perm_append_comm (l₁ := [e0]) (l₂ := ds)).trans (p.trans ((pl.cons e).trans (List.Perm.swap _ _ _)))
        exact z.cons_inv
      have em : e ∈ ds := p2.mem_iff.mpr List.mem_cons_self
      have hl : ∀ d ∈ l', d.1 ∈ rs ∧ d.2 ∈ rs := fun d h => by
        have z := ends d (p2.mem_iff.mpr (List.mem_cons_of_mem _ h))
        exact ⟨z.1, z.2.1⟩
      let φ : Str → Str := fun z => if z = r then a else z
      have old : ∀ x ∈ rs, φ x = x := fun x hx => if_neg (fun z : x = r => hr (z ▸ hx))
      have step : ∀ x y, (x, y) ∈ l → Conn l' (φ x) (φ y) := fun x y hm => by
        rcases List.mem_cons.mp (pl.mem_iff.mp hm) with z | z
        · have s1 : φ r = a := if_pos rfl
          have s2 : φ a = a := old a ha
          rcases he with rfl | rfl
          · obtain ⟨rfl, rfl⟩ := Prod.mk.inj z
            rw [s1, s2]
            exact .refl _
          · obtain ⟨rfl, rfl⟩ := Prod.mk.inj z
            rw [s1, s2]
            exact .refl _
        · obtain ⟨h1, h2⟩ := hl _ z
          rw [old _ h1, old _ h2]
          exact .fwd (.refl _) z
      have all : ∀ {x y}, Conn l x y → Conn l' (φ x) (φ y) := fun {x y} h => by
        induction h with
        | refl => exact .refl _
        | fwd _ m ih => exact ih.trans (step _ _ m)
        | bwd _ m ih => exact ih.trans (step _ _ m).symm
      have z := all c
      rw [old _ (ends e em).1, old _ (ends e em).2.1] at z
      exact ih e l' p2 z
end Lamp
namespace Lamp
open PySem L2
/-! ### leaders -/
/-- the room that stands for r: from leader to leader -/
inductive Root (p : Str → Str) : Str → Str → Prop
  | stop {r : Str} : p r = r → Root p r r
  | step {r t : Str} : p r ≠ r → Root p (p r) t → Root p r t
theorem Root.uniq {p : Str → Str} {r t u : Str} (h : Root p r t) (g : Root p r u) : t = u := by
  induction h with
  | stop e =>
    cases g with
    | stop _ => rfl
    | step n _ => exact absurd e n
  | step n _ ih =>
    cases g with
    | stop e => exact absurd e n
    | step _ g => exact ih g
theorem Root.top {p : Str → Str} {r t : Str} (h : Root p r t) : p t = t := by
  induction h with
  | stop e => exact e
  | step _ _ ih => exact ih
/-- leaders lead down by d -/
structure Forest (rs : List Str) (p : Str → Str) (d : Str → Nat) : Prop where
  mem : ∀ r ∈ rs, p r ∈ rs
  down : ∀ r ∈ rs, p r ≠ r → d (p r) < d r
theorem Forest.root {rs : List Str} {p : Str → Str} {d : Str → Nat} (F : Forest rs p d) : ∀ (n : Nat) (r : Str), d r ≤ n → r ∈ rs → ∃ t ∈ rs, Root p r t
  | 0, r, h, m => by
    by_cases e : p r = r
    · exact ⟨r, m, .stop e⟩
    · exact absurd (F.down r m e) (by omega)
  | n + 1, r, h, m => by
    by_cases e : p r = r
    · exact ⟨r, m, .stop e⟩
    · obtain ⟨t, ht, g⟩ := F.root n (p r) (by have := F.down r m e; omega) (F.mem r m)
      exact ⟨t, ht, .step e g⟩
def putP (p : Str → Str) (r v : Str) : Str → Str := fun x => if x = r then v else p x
theorem putP_same {p : Str → Str} {r v : Str} : putP p r v r = v := if_pos rfl
theorem putP_ne {p : Str → Str} {r v x : Str} (h : x ≠ r) : putP p r v x = p x := if_neg h
/-- a leader led past the next room -/
theorem Forest.half {rs : List Str} {p : Str → Str} {d : Str → Nat} (F : Forest rs p d) {r : Str} (m : r ∈ rs) (n : p r ≠ r) : Forest rs (putP p r (p (p r))) d := by
  have m2 := F.mem r m
  refine ⟨fun x hx => ?_, fun x hx hn => ?_⟩
  · by_cases e : x = r
    · rw [e, putP_same]
      exact F.mem _ m2
    · rw [putP_ne e]
      exact F.mem x hx
  · by_cases e : x = r
    · subst e
      rw [putP_same] at hn ⊢
      by_cases q : p (p x) = p x
      · rw [q]
        exact F.down x m n
      · exact Nat.lt_trans (F.down _ m2 q) (F.down x m n)
    · rw [putP_ne e] at hn ⊢
      exact F.down x hx hn
theorem Forest.halfRoot {rs : List Str} {p : Str → Str} {d : Str → Nat} (F : Forest rs p d) {r : Str} (m : r ∈ rs) (n : p r ≠ r) : ∀ (k : Nat) (x t : Str), d x ≤ k → x ∈ rs → Root p x t → Root (putP p r (p (p r))) x t := by
  have m2 := F.mem r m
  have F' := F.half m n
  intro k
  induction k with
  | zero =>
    intro x t hk hx h
    cases h with
    | stop e =>
      have ne : x ≠ r := fun z => n (z ▸ e)
      exact .stop (by rw [putP_ne ne]; exact e)
    | step ne _ => exact absurd (F.down x hx ne) (by omega)
  | succ k ih =>
    intro x t hk hx h
    cases h with
    | stop e =>
      have ne : x ≠ r := fun z => n (z ▸ e)
      exact .stop (by rw [putP_ne ne]; exact e)
    | step ne g =>
      have dx := F.down x hx ne
      by_cases e : x = r
      · subst e
        cases g with
        | stop e2 =>
          refine .step (by rw [putP_same, e2]; exact ne) ?_
          rw [putP_same, e2]
          exact .stop (by rw [putP_ne ne]; exact e2)
        | step n2 g2 =>
          have d2 := F.down _ m2 n2
          refine .step (fun z => ?_) ?_
          · rw [putP_same] at z
            rw [z] at d2
            omega
          · rw [putP_same]
            exact ih _ _ (by omega) (F.mem _ m2) g2
      · refine .step (by rw [putP_ne e]; exact ne) ?_
        rw [putP_ne e]
        exact ih _ _ (by omega) (F.mem _ hx) g
/-- the one that stands for others led by another -/
theorem Forest.join {rs : List Str} {p : Str → Str} {d : Str → Nat} (F : Forest rs p d) {a b : Str} (ha : a ∈ rs) (hb : b ∈ rs) (ea : p a = a) (eb : p b = b) (n : a ≠ b) :
    ∃ d', Forest rs (putP p a b) d' := by
  classical
  refine ⟨fun x => if Root p x a then d x + d b + 1 else d x, fun x hx => ?_, fun x hx hn => ?_⟩
  · by_cases e : x = a
    · rw [e, putP_same]
      exact hb
    · rw [putP_ne e]
      exact F.mem x hx
  · have nb : ¬ Root p b a := fun h => n (h.uniq (.stop eb))
    by_cases e : x = a
    · subst e
      rw [putP_same, if_neg nb, if_pos (.stop ea)]
      omega
    · rw [putP_ne e] at hn ⊢
      have down := F.down x hx hn
      by_cases q : Root p x a
      · have q2 : Root p (p x) a := by
          cases q with
          | stop _ => exact absurd rfl e
          | step _ g => exact g
        rw [if_pos q, if_pos q2]
        omega
      · have q2 : ¬ Root p (p x) a := fun g => q (.step hn g)
        rw [if_neg q, if_neg q2]
        exact down
theorem join_root {p : Str → Str} {a b : Str} (ea : p a = a) (eb : p b = b) (n : a ≠ b) {x t : Str} (h : Root (putP p a b) x t) : (Root p x t ∧ t ≠ a) ∨ (Root p x a ∧ t = b) := by
  induction h with
  | @stop x e =>
    by_cases q : x = a
    · subst q
      rw [putP_same] at e
      exact absurd e.symm n
    · rw [putP_ne q] at e
      exact .inl ⟨.stop e, q⟩
  | @step x t ne g ih =>
    by_cases q : x = a
    · subst q
      rw [putP_same] at g ih
      have hb : putP p x b b = b := by rw [putP_ne n.symm]; exact eb
      exact .inr ⟨.stop ea, g.uniq (.stop hb)⟩
    · rw [putP_ne q] at ne ih
      rcases ih with ⟨h1, h2⟩ | ⟨h1, h2⟩
      · exact .inl ⟨.step ne h1, h2⟩
      · exact .inr ⟨.step ne h1, h2⟩
end Lamp
set_option maxHeartbeats 4000000
namespace Lamp
open PySem PySem.Spec PyProof.Rows L2
/-! ### a dict from rooms to rooms -/
def PM (rs : List Str) (p : Str → Str) : List (Key × V) := rs.map fun r => ((Sum.inr r : Key), V.str (p r))
theorem pm_get {p : Str → Str} {r : Str} : ∀ {rs : List Str}, r ∈ rs → valV (PM rs p) (Sum.inr r) = some (.str (p r))
  | [], m => by cases m
  | x :: rs, m => by
    by_cases e : x = r
    · subst e
      simp [PM, valV]
    · have ih := pm_get (p := p) (r := r) (rs := rs) (by
        rcases List.mem_cons.mp m with z | z
        · exact absurd z.symm e
        · exact z)
      rw [← ih]
      simp [PM, valV, e]
theorem pm_put {p : Str → Str} {r v : Str} {rs : List Str} (m : r ∈ rs) : putK (PM rs p) (Sum.inr r) (.str v) = PM rs (putP p r v) := by
  unfold putK
  have a : ((PM rs p).any fun kv => decide (kv.1 = (Sum.inr r : Key))) = true := List.any_eq_true.mpr ⟨(Sum.inr r, .str (p r)), List.mem_map.mpr ⟨r, m, rfl⟩, by simp⟩
  rw [if_pos a]
  unfold PM
  rw [List.map_map]
  refine List.map_congr_left fun x _ => ?_
  show (if (Sum.inr x : Key) = Sum.inr r then ((Sum.inr x : Key), V.str v) else ((Sum.inr x : Key), V.str (p x))) = (Sum.inr x, V.str (putP p r v x))
  by_cases e : x = r
  · subst e
    rw [if_pos rfl, putP_same]
  · rw [if_neg (fun z => e (Sum.inr.inj z)), putP_ne e]
theorem pm_len {p : Str → Str} {rs : List Str} : (PM rs p).length = rs.length := List.length_map _
theorem iteF2 {c : Bool} {A B : Prop} (h : c = false) (g : B) : if c = true then A else B := by
  rw [if_neg (by rw [h]; decide)]
  exact g
theorem iteT2 {c : Bool} {A B : Prop} (h : c = true) (g : A) : if c = true then A else B := by
  rw [if_pos h]
  exact g
section
variable {P : Program} {w : World} {K : PySem.W.Frag} {mg : Str → Option Value} {base : Heap}
/-! ### leader_of -/
def spLeader : Sp := fun vs H Q _ => ∃ (D : Addr) (r : Str) (rs : List Str) (p : Str → Str) (d : Str → Nat), vs = [.ref D, .str r] ∧ H D = some (.dK (PM rs p)) ∧ Forest rs p d ∧ r ∈ rs ∧ rs.length < 1000 ∧
  ∀ H' p' t, H' D = some (.dK (PM rs p')) → Forest rs p' d → (∀ x ∈ rs, ∀ u, Root p x u → Root p' x u) → t ∈ rs → Root p r t → (∀ b o, b ≠ D → H b = some o → H' b = some o) → (∀ b, H' b = none → H b = none) → Q (.str t) H'
theorem scLd : FnScope ["leaders", "room"] ["leaders", "room"] (defScope s_leader_of) := ⟨rfl, rfl, rfl, by decide +kernel, rfl, by decide +kernel, by decide +kernel⟩
theorem ok_leader {f : Addr} {fd : FuncData} (F : Fun K "leader_of" "leader_of" s_leader_of f fd) : FnOk P w K mg base CX0 1 f fd ["leaders", "room"] spLeader := by
  refine F.ok scLd (fun vs H Q E h => ?_) (fun cdv A outer s H vs Q E hr h => ?_)
  · obtain ⟨D, r, rs, p, d, rfl, _⟩ := h
    rfl
  · obtain ⟨D, r, rs, p, d, rfl, hD, hF, hm, hl, k⟩ := h
    have hu := Nat.lt_of_le_of_lt (Nat.add_le_add_left (show 1 ≤ 64 by decide) _) hr.units
    refine ⟨_, pss_cons (ps_while PassesOwn.never (pt_cmpR op_ne (pe_dget hu (pv 0) (pv 1) (fun _ _ => rfl)) (pv 1) (nomark _))
      (pss_cons (ps_dput hu (pv 0) (pv 1) (pe_dget hu (pv 0) (pe_dget hu (pv 0) (pv 1) (fun _ _ => rfl)) (fun _ _ => rfl)) (by rfl))
      (pss_one (ps_set (i := 1) scLd.nd rfl (Or.inl rfl) (pe_dget hu (pv 0) (pv 1) (fun _ _ => rfl))))))
      (pss_one (ps_ret (pv 1))), ?_⟩
    refine while_ex (fun σ' H' => ∃ (x t : Str) (q : Str → Str), σ' = [some (.ref D), some (.str x)] ∧ H' D = some (.dK (PM rs q)) ∧ Forest rs q d ∧ (∀ x ∈ rs, ∀ u, Root p x u → Root q x u) ∧ x ∈ rs ∧ q x = x ∧ Root p r x ∧ (∀ b o, b ≠ D → H b = some o → H' b = some o) ∧ (∀ b, H' b = none → H b = none)) ?_ (fun fin => ?_)
    · rintro σ' H' ⟨x, t, q, rfl, g1, g2, g3, g4, g5, g6, g7, g8⟩
      exact ⟨_, rfl, k H' q x g1 g2 g3 g4 g6 g7 g8⟩
    obtain ⟨t, ht, hR⟩ := hF.root (d r) r (Nat.le_refl _) hm
    refine while_by (fun σ' H' => ∃ (x : Str) (q : Str → Str), σ' = [some (.ref D), some (.str x)] ∧ H' D = some (.dK (PM rs q)) ∧ Forest rs q d ∧ (∀ x ∈ rs, ∀ u, Root p x u → Root q x u) ∧ x ∈ rs ∧ Root q x t ∧ (∀ b o, b ≠ D → H b = some o → H' b = some o) ∧ (∀ b, H' b = none → H b = none))
      (fun σ' _ => match σ' with
        | [_, some (.str x)] => d x
        | _ => 0) ⟨r, p, rfl, hD, hF, fun x _ u h => h, hm, hR, fun b o _ e => e, fun b e => e⟩ ?_ ?_
    · rintro σ' H' ⟨x, q, rfl, g1, g2, g3, g4, g5, g6, g7⟩
      have gx := DGet.k (k := Sum.inr x) g1
      rw [pm_get g4] at gx
      refine ⟨_, rfl, _, rfl, D, _, rfl, gx, _, rfl, rfl, _, rfl, ?_⟩
      by_cases e : q x = x
      · have e2 : (!decide (V.str (q x) = V.str x)) = false := by rw [e, decide_eq_true rfl]; rfl
        refine iteF2 e2 ?_
        have tx : t = x := g5.uniq (.stop e)
        subst tx
        exact fin _ _ ⟨t, t, q, rfl, g1, g2, g3, g4, e, hR, g6, g7⟩
      · have e2 : (!decide (V.str (q x) = V.str x)) = true := by
          rw [decide_eq_false fun z => e (V.str.inj z)]
          rfl
        refine iteT2 e2 ?_
        have m2 := g2.mem x g4
        have gy := DGet.k (k := Sum.inr (q x)) g1
        rw [pm_get m2] at gy
        refine ⟨_, rfl, _, rfl, _, rfl, D, _, rfl, gx, D, _, rfl, gy, _, rfl, _, rfl, D, _, rfl, DPut.k (k := Sum.inr x) g1 (by rw [pm_len]; exact Nat.lt_trans hl (by decide)), ?_⟩
        rw [pm_put g4]
        have gz := DGet.k (k := Sum.inr x) (upd_same (H := H') (a := D) (o := .dK (PM rs (putP q x (q (q x))))))
        rw [pm_get g4, putP_same] at gz
        refine ⟨_, rfl, _, rfl, D, _, rfl, gz, ?_⟩
        refine ⟨⟨q (q x), putP q x (q (q x)), rfl, upd_same, g2.half g4 e, fun y hy u h => g2.halfRoot g4 e _ y u (Nat.le_refl _) hy (g3 y hy u h), g2.mem _ m2, ?_, fun b o n e' => by rw [upd_ne n]; exact g6 b o n e', fun b z => g7 b (none_upd z).2⟩, ?_⟩
        · have h5 := g2.halfRoot g4 e _ x t (Nat.le_refl _) g4 g5
          cases h5 with
          | stop z =>
            rw [putP_same] at z
            have d2 := g2.down t g4 e
            by_cases y : q (q t) = q t
            · rw [z] at y
              exact absurd y.symm e
            · have d3 := g2.down _ m2 y
              rw [z] at d3
              omega
          | step _ h5 =>
            rw [putP_same] at h5
            exact h5
        · show d (q (q x)) < d x
          have d2 := g2.down x g4 e
          by_cases y : q (q x) = q x
          · rw [y]
            exact d2
          · exact Nat.lt_trans (g2.down _ m2 y) d2
    · rintro σ' H' Q1 Q2 h ⟨y, e1, y2, e2, a1, v, e3, g, y3, e4, s1, k1, e5, q⟩
      exact ⟨y, e1, y2, e2, a1, v, e3, g, y3, e4, s1, k1, e5, h _ _ q⟩
end
end Lamp
set_option maxHeartbeats 4000000
namespace Lamp
open PySem PySem.Spec PyProof.Rows L2
structure TxtR (mg : Str → Option Value) : Prop where
  isi : mg "isinstance" = none
  list : mg "list" = none
  tuple : mg "tuple" = none
section
variable {P : Program} {w : World} {K : PySem.W.Frag} {mg : Str → Option Value} {base : Heap}
/-! ### is_row -/
def spIsRow (K : PySem.W.Frag) : Sp := fun vs H Q _ => ∃ (v : V) (t : Value) (b : Bool), vs = [v] ∧ (∀ H', Same H H' → TyX K H' v t) ∧ PySem.W.kitAny K t [.type "list", .type "tuple"] = some b ∧ ∀ H', Same H H' → (∀ a, H' a = none → H a = none) → Q (.bl b) H'
theorem scIr : FnScope ["thing"] ["thing"] (defScope s_is_row) := ⟨rfl, rfl, rfl, by decide +kernel, rfl, by decide +kernel, by decide +kernel⟩
theorem ok_isrow {f : Addr} {fd : FuncData} (F : Fun K "is_row" "is_row" s_is_row f fd) (T : TxtR mg) : FnOk P w K mg base CX0 1 f fd ["thing"] (spIsRow K) := by
  refine F.ok scIr (fun vs H Q E h => ?_) (fun cdv A outer s H vs Q E hr h => ?_)
  · obtain ⟨v, t, b, rfl, _⟩ := h
    rfl
  · obtain ⟨v, t, b, rfl, ty, kt, k⟩ := h
    refine ⟨_, pss_one (ps_ret (pe_callB call_isiT (by rfl) T.isi PyProof.Rows.Boot.isinstance (pa_cons (pv 0) (pa_cons (pe_tup (pa_cons (pe_bltn (v := .ty "list") (by rfl) T.list PyProof.Rows.Boot.list rfl) (pa_cons (pe_bltn (v := .ty "tuple") (by rfl) T.tuple PyProof.Rows.Boot.tuple rfl) pa_nil))) pa_nil)))), ?_⟩
    refine ⟨_, rfl, by show 2 ≤ sizeLine; decide, fun q nq => ?_⟩
    refine ⟨v, q, _, t, _, b, rfl, upd_same, .cons (.ty _) (.cons (.ty _) .nil), ty _ (same_upd nq), kt, ?_⟩
    exact k _ (same_upd nq) fun a z => (none_upd z).2
end
end Lamp
set_option maxHeartbeats 4000000
namespace Lamp
open PySem PySem.Spec PyProof.Rows L2
structure TxtP (mg : Str → Option Value) : Prop where
  isi : mg "isinstance" = none
  str : mg "str" = none
  len : mg "len" = none
  all : mg "all" = none
section
variable {P : Program} {w : World} {K : PySem.W.Frag} {mg : Str → Option Value} {base : Heap}
/-- a def that stands at its name -/
def Stands (P : Program) (w : World) (K : PySem.W.Frag) (mg : Str → Option Value) (base : Heap) (k : Nat) (x : Str) (ps : List Str) (sp : Sp) : Prop :=
  ∃ (f : Addr) (fd : FuncData), FnOk P w K mg base CX0 k f fd ps sp ∧ mg x = some (.ref f) ∧ PySem.W.keepIn K (.ref f) = true ∧ L2.Binds K fd ps []
/-! ### is_pair_of, of a door of rooms -/
def spPair : Sp := fun vs H Q _ => ∃ (D t : Addr) (x y : Str) (rs : List Str) (p : Str → Str), vs = [.ref D, .ref t] ∧ H D = some (.dK (PM rs p)) ∧ H t = some (.tup [.str x, .str y]) ∧ x ∈ rs ∧ y ∈ rs ∧ x ≠ y ∧ ∀ H', Same H H' → (∀ a, H' a = none → H a = none) → Q (.bl true) H'
theorem scPr : FnScope ["rooms", "thing", "room"] ["rooms", "thing"] (defScope s_is_pair_of) := ⟨rfl, rfl, rfl, by decide +kernel, rfl, by decide +kernel, by decide +kernel⟩
theorem ok_pair {f : Addr} {fd : FuncData} (F : Fun K "is_pair_of" "is_pair_of" s_is_pair_of f fd) (T : TxtP mg) (R : Stands P w K mg base 1 "is_row" ["thing"] (spIsRow K)) : FnOk P w K mg base CX0 2 f fd ["rooms", "thing"] spPair := by
  obtain ⟨fr, dr, Gr, mr, kr, br⟩ := R
  refine F.ok scPr (fun vs H Q E h => ?_) (fun cdv A outer s H vs Q E hr h => ?_)
  · obtain ⟨D, t, x, y, rs, p, rfl, _⟩ := h
    rfl
  · obtain ⟨D, t, x, y, rs, p, rfl, hD, ht, mx, my, ne, k⟩ := h
    have hu := Nat.lt_of_le_of_lt (Nat.add_le_add_left (show 1 ≤ 64 by decide) _) hr.units
    refine ⟨_, pss_cons (ps_if (PW.pt (pw_or (pt_not (pt_val (pe_call Gr hr (by rfl) mr kr br .nil pass0 (pa_cons (pv 1) pa_nil)))) (pw_or1 (pt_cmpR op_ne (pe_callB call_len_seq (by rfl) T.len PySem.boot_len (pa_cons (pv 1) pa_nil)) pe_int (nomark _)))))
        pss_dead pss_nil)
      (pss_one (ps_ret (pe_and (pe_callB (cr_all rfl) (by rfl) T.all PyProof.Rows.Boot.all (pa_cons
          (pe_lc (te := tAndV (tCB (rIsi K) (tCons (tVar 2) (tCons (tC (.ty "str")) tNil))) (tDIn (tVar 2) (tVar 0))) (own := [("room", 2)]) (g := gName 2) (tt := tYes) rfl scPr.nd (pi_tup (pv 1)) (blkOk_by (N := ["rooms", "thing", "room"]) (sc := defScope s_is_pair_of) (by decide +kernel))
            (fun _ _ _ _ _ => pg_name (i := 2) scPr.nd rfl (Or.inl rfl)) (fun _ _ _ _ _ => pts_nil)
            (fun _ _ _ _ _ => by exact (pe_and (pe_callB call_isi (by rfl) T.isi PyProof.Rows.Boot.isinstance (pa_cons (pv 2) (pa_cons (pe_bltn (v := .ty "str") (by rfl) T.str PyProof.Rows.Boot.str rfl) pa_nil))) (pe_one (pe_cmp (pc_din hu (pv 2) (pv 0))))))) pa_nil))
        (pe_one (pe_cmpR op_ne (pe_ix ix_tup (pv 1) pe_int (fun _ _ => rfl)) (pe_ix ix_tup (pv 1) pe_int (fun _ _ => rfl)) (nomark _)))))), ?_⟩
    refine ⟨_, rfl, .ref t, .type "tuple", true, rfl, fun H' s1 => .base (.tup (s1 _ _ ht)), kitAny_cons (b := false) (kit_ty (by decide +kernel)) (fun _ => kitAny_cons (b := true) (kit_ty (by decide +kernel)) (fun z => by cases z) fun _ => rfl) (fun z => by cases z), fun H1 s1 n1 => ⟨_, rfl, iteF ?_⟩⟩
    refine ⟨_, rfl, t, _, rfl, .inr (SqT.of (s1 _ _ ht)), rfl, _, rfl, iteF2 (by rfl) ?_⟩
    have s1n : ∀ {a}, H1 a = none → H a = none := fun {a} z => n1 a z
    refine ⟨_, rfl, t, rfl, ⟨_, SqT.of (s1 _ _ ht)⟩, fun B hB => ?_⟩
    have tB : t ≠ B := ne_of_none (s1 _ _ ht) hB
    refine lc_tup (xs := [.str x, .str y]) (fun j H' => H' B = some (.lst ((List.replicate j true).map V.bl)) ∧ Same H1 H' ∧ ∀ a, H' a = none → H1 a = none) ⟨upd_same, same_upd hB, fun a z => (none_upd z).2⟩ (fun j H' _ g => SqT.of (g.2.1 _ _ (s1 _ _ ht))) ?_ ?_
    · rintro j v H' hv ⟨g1, g2, g3⟩
      have hj : j < 2 := (List.getElem?_eq_some_iff.mp hv).1
      obtain ⟨z, hz, mz⟩ : ∃ z : Str, v = .str z ∧ z ∈ rs := by
        match j, hv with
        | 0, hv => exact ⟨x, (Option.some.inj hv).symm, mx⟩
        | 1, hv => exact ⟨y, (Option.some.inj hv).symm, my⟩
      subst hz
      have gz := DGet.k (k := Sum.inr z) (g2 _ _ (s1 _ _ hD))
      rw [pm_get mz] at gz
      refine ⟨rfl, ⟨_, rfl, .str z, .ty "str", _, _, true, rfl, .ty _, .base (.str z), kit_ty (by decide +kernel), true, rfl, iteT ⟨_, rfl, _, rfl, D, _, rfl, gz, _, g1, ?_, ?_, ?_, ?_⟩⟩⟩
      · rw [List.length_map, List.length_replicate]
        exact Nat.lt_of_lt_of_le hj (by decide)
      · rw [upd_same]
        show some (HO.lst (List.map V.bl (List.replicate j true) ++ [V.bl true])) = some (HO.lst (List.map V.bl (List.replicate (j + 1) true)))
        rw [List.replicate_succ', List.map_append]
        rfl
      · intro b o e
        have nb : b ≠ B := ne_of_none e hB
        rw [upd_ne nb]
        exact g2 b o e
      · exact fun a z => g3 a (none_upd z).2
    · rintro H' ⟨g1, g2, g3⟩
      refine ⟨B, List.replicate 2 true, rfl, .inl (.inl g1), true, by rfl, iteT ?_⟩
      have ht' := g2 _ _ (s1 _ _ ht)
      refine ⟨_, rfl, t, _, 0, .str x, rfl, rfl, SqT.of ht', rfl, _, rfl, t, _, 1, .str y, rfl, rfl, SqT.of ht', rfl, rfl, ?_⟩
      have e2 : (!decide (V.str x = V.str y)) = true := by
        rw [decide_eq_false fun z => ne (V.str.inj z)]
        rfl
      rw [e2]
      exact k H' (s1.trans g2) fun a z => s1n (g3 a z)
end
end Lamp
set_option maxHeartbeats 4000000
namespace Lamp
open PySem PySem.Spec PyProof.Rows L2
section
variable {J : It} {n : Nat} {G : Hp → Prop} {Y : Nat → Hp → V → Hp → Prop} {g : TG} {tt : TT} {tk tv : TE} {ss : List Nat} {τ : L2.St} {Ha : Hp} {D : Addr}
/-- one turn of a dict comprehension: a key and a value go into the dict at D, then N holds -/
abbrev DcTurn (g : TG) (tt : TT) (tk tv : TE) (ss : List Nat) (τ : L2.St) (D : Addr) (N : Hp → Prop) (z : V) (Hb : Hp) : Prop :=
  g z (wipe τ ss) Hb fun τ2 Hc => wipe τ2 ss = wipe τ ss ∧ tt τ2 Hc fun yes Hd => if yes = true then tk τ2 Hd fun kx He => tv τ2 He fun vx Hf => ∃ es ke, kx = kV ke ∧ Hf D = some (.dK es) ∧ es.length < sizeLine ∧ N (upd Hf D (.dK (putK es ke vx))) else N Hd
/-- a dict comprehension over what is walked -/
theorem dc_it (w : Walk J n G Y) {Qd : Hp → Prop} (Pv : Nat → Hp → Prop) (h0 : Pv 0 (upd Ha D (.dK []))) (hG : ∀ i H, i ≤ n → Pv i H → G H) (turn : ∀ i z H Hb, i < n → Pv i H → Y i H z Hb → DcTurn g tt tk tv ss τ D (Pv (i + 1)) z Hb) (fin : ∀ H, Pv n H → Qd H) :
    ∃ R : Nat → Nat → Hp → Prop, (∃ k, R 0 k (upd Ha D (.dK []))) ∧ ∀ i k H, R i k H → (J.stop i H ∧ Qd H) ∨ (J.go i H ∧ ∃ N : Hp → Prop, (∀ Hb, N Hb → ∃ k', k' < k ∧ R (i + 1) k' Hb) ∧ ∀ z Hb, J.yld i H z Hb → DcTurn g tt tk tv ss τ D N z Hb) := by
  refine ⟨fun i k H => i ≤ n ∧ k = n - i ∧ Pv i H, ⟨n, Nat.zero_le _, rfl, h0⟩, ?_⟩
  rintro i k H ⟨hi, rfl, p⟩
  have q := hG i H hi p
  rcases Nat.lt_or_ge i n with lt | ge
  · exact .inr ⟨w.goes i H lt q, Pv (i + 1), fun Hb p' => ⟨n - (i + 1), by omega, lt, rfl, p'⟩, fun z Hb y => turn i z H Hb lt p (w.yields i H z Hb lt q y)⟩
  · obtain rfl : i = n := Nat.le_antisymm hi ge
    exact .inl ⟨w.stops H q, fin H p⟩
end
end Lamp
set_option maxHeartbeats 4000000
namespace Lamp
open PySem PySem.Spec PyProof.Rows
/-- what a comprehension's block asks of its parts -/
abbrev InBlk (X : L2.Cx) (sc : Scope) (R : L2.Cx → Prop) : Prop := ∀ (s₁ : Shared) (H₁ : L2.Hp) (B : Addr) (ls : List (Str × Addr)) (ad : List Addr), R (X.blk s₁ H₁ sc (compEnvC sc ls B X.env) ad)
section
variable {X : L2.Cx}
open L2
/-- y = {k: v for ..}, y a local name -/
theorem ps_setDc {i : Nat} {y : Str} {yp dpos spos : Pos} {ke ve tg iter : Expr} {ifs : List Expr} {sc : Scope} {own : List (Str × Nat)} {wi : TI} {g : TG} {tt : TT} {tk tv : TE}
    (calm : X.calm = true) (nd : X.N.Nodup) (at_ : X.N[i]? = some y) (loc : X.env.scope.names.lookup y = some .local)
    (sw : swapsWith (.DictComp ke ve [⟨tg, iter, ifs, 0⟩] sc dpos) (some (.Name y yp)) spos.line X.env = pure true) (pit : PI X tg iter wi) (blk : BlkOk X.N X.env.scope sc own)
    (pg : InBlk X sc fun Y => PG Y tg g) (pt : InBlk X sc fun Y => PTs Y ifs tt) (pk : InBlk X sc fun Y => PE Y ke tk) (pv : InBlk X sc fun Y => PE Y ve tv) (fold : ∀ z, foldedSetIterable iter X.env z = pure z := by intro _; rfl) :
    PS X (.Assign [.Name y yp] (.DictComp ke ve [⟨tg, iter, ifs, 0⟩] sc dpos) spos) (tAsg (tDc wi g tt tk tv (own.map (·.2))) (gName i)) := by
  constructor
  intro pins s σ H D I h
  rw [exec_Assign_Name_used (hs := sw)]
  apply wpAny_bind; apply wpAny_standAt; apply wpAny_bind
  show wpAny _ X.A (do let _ ← comprehension (.DictComp ke ve [⟨tg, iter, ifs, 0⟩] sc dpos) sc X.env (firstIterPos [⟨tg, iter, ifs, 0⟩] dpos) newDict false (eval iter X.env) (some (assign (.Name y yp) X.env))) _ _ s
  have q0 : tDc wi g tt tk tv (own.map (·.2)) σ H (fun x H1 => gName i x σ H1 D.nx) := h
  have core := dc_core (Qf := fun _ s' => SP X pins D .next s') (use := some (assign (.Name y yp) X.env)) (pos := dpos) (pos' := firstIterPos [⟨tg, iter, ifs, 0⟩] dpos) calm nd I pit blk pg pt pk pv fold q0 (fun L B s' m H' I' q hn f => by
    show wpAny _ _ (assign (.Name y yp) X.env (.ref L)) _ _ _
    obtain ⟨f0, f1, _, f3, f4, f5⟩ := f
    refine wpAny_assign_Name (store_ok2 (v := V.ref L) I' nd at_ (.inl loc) rfl (fun s2 I2 z => ?_) (.inr loc))
    obtain ⟨a, sb, ha⟩ := z
    have ne : B ≠ a := by
      rcases ha with e | e
      · exact e ▸ f1
      · exact fun c => f4 y a e c.symm
    exact ⟨m, hn.sameBut sb ne, fun h3 sb3 => ⟨_, H', I2.turned (t' := s2.toks) (fun b o hb e => (sb3.2 b hb).trans e) f0 f1 f3 f4 f5, q⟩⟩)
  exact wpAny_bind (thn core fun _ s' hq => wpAny_pure (wpAny_pure hq))
theorem sw_dict {ke ve : Expr} {gs : List Comprehension} {sc : Scope} {dpos yp : Pos} {y : Str} {l : Nat} {env : Env} (fn : env.scope.kind = .function) (loc : env.scope.names.lookup y = some .local) (ln : (yp.line == dpos.line) = true)
    (nin : (sc.names.any fun (n, k) => n == y && (k == .local || k == .cell)) = false) : swapsWith (.DictComp ke ve gs sc dpos) (some (.Name y yp)) l env = pure true := by
  have k1 : env.kindOf y = some .local := loc
  have k2 : env.blockKind = .function := by
    unfold Env.blockKind
    rw [fn]
    rfl
  unfold swapsWith
  simp only [k2, k1, nin, Expr.pos, ln]
  rfl
end
end Lamp
set_option maxHeartbeats 8000000
namespace Lamp
open PySem PySem.Spec PyProof.Rows L2
theorem pm_new {p : Str → Str} {r v : Str} {rs : List Str} (m : r ∉ rs) (hv : p r = v) : putK (PM rs p) (Sum.inr r) (.str v) = PM (rs ++ [r]) p := by
  unfold putK
  have a : ¬ ((PM rs p).any fun kv => decide (kv.1 = (Sum.inr r : Key))) = true := fun z => by
    obtain ⟨kv, h1, h2⟩ := List.any_eq_true.mp z
    obtain ⟨x, hx, rfl⟩ := List.mem_map.mp h1
    exact m (Sum.inr.inj (of_decide_eq_true h2) ▸ hx)
  rw [if_neg a]
  unfold PM
  rw [List.map_append, ← hv]
  rfl
structure TxtD (mg : Str → Option Value) : Prop where
  enu : mg "enumerate" = none
theorem paired_at {α β : Type} {R : α → β → Prop} : ∀ {xs : List α} {ys : List β} {i : Nat} {x : α}, Paired R xs ys → xs[i]? = some x → ∃ y, ys[i]? = some y ∧ R x y
  | [], [], _, _, .nil, h => by cases h
  | a :: xs, b :: ys, 0, x, .cons r _, h => by
    have e : a = x := Option.some.inj h
    subst e
    exact ⟨b, rfl, r⟩
  | a :: xs, b :: ys, i + 1, x, .cons _ q, h => paired_at (i := i) q h
theorem split_at {α : Type} {l : List α} {i : Nat} {x : α} (h : l[i]? = some x) : l = l.take i ++ x :: l.drop (i + 1) := by
  obtain ⟨hi, e⟩ := List.getElem?_eq_some_iff.mp h
  rw [← e, List.getElem_cons_drop, List.take_append_drop]
theorem root_back {rs : List Str} {p q : Str → Str} {d : Str → Nat} (F : Forest rs p d) (h : ∀ x ∈ rs, ∀ u, Root p x u → Root q x u) {x t : Str} (hx : x ∈ rs) (g : Root q x t) : Root p x t := by
  obtain ⟨u, _, hu⟩ := F.root _ x (Nat.le_refl _) hx
  rw [g.uniq (h x hx u hu)]
  exact hu
section
variable {P : Program} {w : World} {K : PySem.W.Frag} {mg : Str → Option Value} {base : Heap}
/-! ### doors_fault of doors that close no ring -/
def GoodDoors (rs : List Str) (es : List Ed) : Prop := ∀ l1 e l2, es = l1 ++ e :: l2 → e.1 ∈ rs ∧ e.2 ∈ rs ∧ e.1 ≠ e.2 ∧ ¬ Conn l1 e.1 e.2
def spDoors (K : PySem.W.Frag) : Sp := fun vs H Q _ => ∃ (a b : Addr) (rs : List Str) (ts : List Addr) (es : List Ed), vs = [.ref a, .ref b] ∧ SqL K H a (rs.map V.str) ∧ SqL K H b (ts.map V.ref) ∧ (∀ H', Same H H' → TyX K H' (.ref b) (.type "list")) ∧ TupsAt H ts es ∧ rs.Nodup ∧ rs.length < 1000 ∧ GoodDoors rs es ∧
  ∀ H', Same H H' → (∀ a, H' a = none → H a = none) → Q .non H'
abbrev NDr : List Str := ["rooms", "doors", "leaders", "index", "door", "one", "other", "room"]
theorem scDr : FnScope NDr ["rooms", "doors"] (defScope s_doors_fault) := ⟨rfl, rfl, rfl, by decide +kernel, rfl, by decide +kernel, by decide +kernel⟩
theorem ok_doors {f : Addr} {fd : FuncData} (F : Fun K "doors_fault" "doors_fault" s_doors_fault f fd) (T : TxtD mg) (R : Stands P w K mg base 1 "is_row" ["thing"] (spIsRow K)) (PO : Stands P w K mg base 2 "is_pair_of" ["rooms", "thing"] spPair) (LO : Stands P w K mg base 1 "leader_of" ["leaders", "room"] spLeader) :
    FnOk P w K mg base CX0 3 f fd ["rooms", "doors"] (spDoors K) := by
  obtain ⟨fr, dr, Gr, mr, kr, br⟩ := R
  obtain ⟨fp, dp, Gp, mp, kp, bp⟩ := PO
  obtain ⟨fl, dl, Gl, ml, kl, bl⟩ := LO
  refine F.ok scDr (fun vs H Q E h => ?_) (fun cdv A outer s H vs Q E hr h => ?_)
  · obtain ⟨a, b, rs, ts, es, rfl, _⟩ := h
    rfl
  · obtain ⟨a, b, rs, ts, es, rfl, ha, hb, tyb, ht, nd, hl, good, k⟩ := h
    have hu := Nat.lt_of_le_of_lt (Nat.add_le_add_left (show 1 ≤ 64 by decide) _) hr.units
    refine ⟨_, pss_cons (ps_if (pt_not (pt_val (pe_call Gr (hr.mono (by decide)) (by rfl) mr kr br .nil pass0 (pa_cons (pv 1) pa_nil)))) pss_dead pss_nil)
      (pss_cons (ps_setDc (i := 2) (tk := tVar 7) (tv := tVar 7) (own := [("room", 7)]) (g := gName 7) (tt := tYes) rfl scDr.nd rfl rfl (sw_dict rfl rfl rfl (by decide +kernel)) (pi_list (pv 0)) (blkOk_by (N := NDr) (sc := defScope s_doors_fault) (by decide +kernel))
        (fun _ _ _ _ _ => pg_name (i := 7) scDr.nd rfl (Or.inl rfl)) (fun _ _ _ _ _ => pts_nil) (fun _ _ _ _ _ => pv 7) (fun _ _ _ _ _ => pv 7))
      (pss_cons (ps_for PassesOwn.never rfl (pi_enum (by rfl) T.enu (pa_cons (pv 1) pa_nil)) (pg_tup rfl (pgs_cons (pg_name (i := 3) scDr.nd rfl (Or.inl rfl)) (pgs_cons (pg_name (i := 4) scDr.nd rfl (Or.inl rfl)) pgs_nil)))
        (pss_cons (ps_if (pt_not (pt_val (pe_call Gp hr (by rfl) mp kp bp .nil pass0 (pa_cons (pv 2) (pa_cons (pv 4) pa_nil))))) pss_dead pss_nil)
        (pss_cons (ps_set (i := 5) scDr.nd rfl (Or.inl rfl) (pe_call Gl (hr.mono (by decide)) (by rfl) ml kl bl .nil pass0 (pa_cons (pv 2) (pa_cons (pe_ix ix_tup (pv 4) pe_int (fun _ _ => rfl)) pa_nil))))
        (pss_cons (ps_set (i := 6) scDr.nd rfl (Or.inl rfl) (pe_call Gl (hr.mono (by decide)) (by rfl) ml kl bl .nil pass0 (pa_cons (pv 2) (pa_cons (pe_ix ix_tup (pv 4) pe_int (fun _ _ => rfl)) pa_nil))))
        (pss_cons (ps_if (pt_cmpR op_eq (pv 5) (pv 6) (nomark _)) pss_dead pss_nil)
        (pss_one (ps_dput hu (pv 2) (pv 5) (pv 6) (by rfl))))))))
      (pss_one (ps_ret pe_non)))), ?_⟩
    refine ⟨_, rfl, .ref b, .type "list", true, rfl, tyb, kitAny_cons (b := true) (kit_ty (by decide +kernel)) (fun z => by cases z) fun _ => rfl, fun H1 s1 n1 => ⟨_, rfl, iteF ?_⟩⟩
    refine ⟨_, rfl, a, rfl, ⟨_, s1.seq ha⟩, fun D hD => ?_⟩
    refine dc_it (walk_list (xs := rs.map V.str)) (fun j H' => H' D = some (.dK (PM (rs.take j) id)) ∧ Same H1 H' ∧ ∀ x, H' x = none → H1 x = none) ⟨upd_same, same_upd hD, fun x z => (none_upd z).2⟩ (fun j H' _ g => (s1.trans g.2.1).seq ha) ?_ ?_
    · rintro j v H' H'' hj ⟨g1, g2, g3⟩ ⟨rfl, hv⟩
      have hj2 : j < rs.length := by simpa using hj
      have ev : v = .str rs[j] := by
        rw [List.getElem?_map, List.getElem?_eq_getElem hj2] at hv
        exact (Option.some.inj hv).symm
      subst ev
      refine ⟨rfl, _, rfl, _, rfl, _, Sum.inr rs[j], rfl, g1, ?_, ?_, ?_, ?_⟩
      · rw [pm_len, List.length_take]
        exact Nat.lt_of_le_of_lt (Nat.min_le_left _ _) (Nat.lt_trans (Nat.lt_trans hj2 hl) (by decide))
      · rw [upd_same]
        have nm : rs[j] ∉ rs.take j := fun z => by
          have z2 : (rs.take j ++ rs.drop j).Nodup := by
            rw [List.take_append_drop]
            exact nd
          exact (List.nodup_append.mp z2).2.2 _ z _ (by
            rw [← List.getElem_cons_drop hj2]
            exact List.mem_cons_self) rfl
        rw [pm_new (p := id) (v := rs[j]) nm rfl, List.take_append_getElem hj2]
      · intro x o e
        have nx : x ≠ D := ne_of_none e hD
        rw [upd_ne nx]
        exact g2 x o e
      · exact fun x z => g3 x (none_upd z).2
    · rintro H2 ⟨g1, g2, g3⟩
      rw [List.length_map, List.take_length] at g1
      have hb2 : SqL K H2 b (ts.map V.ref) := (s1.trans g2).seq hb
      have s2 : Same H H2 := s1.trans g2
      have nD : ∀ {x : Addr} {o : HO}, H x = some o → x ≠ D := fun e => ne_of_none (s1 _ _ e) hD
      refine ⟨_, rfl, b, _, rfl, hb2, ?_⟩
      refine for_it (walk_enum (xs := ts.map V.ref)) (fun i σ' H' => ∃ (p : Str → Str) (d : Str → Nat) (v3 v4 v5 v6 v7 : Option V), σ' = [some (.ref a), some (.ref b), some (.ref D), v3, v4, v5, v6, v7] ∧ H' D = some (.dK (PM rs p)) ∧ Forest rs p d ∧ (∀ x ∈ rs, ∀ t, Root p x t → Conn (es.take i) x t) ∧ Same H H' ∧ ∀ x, H' x = none → H x = none) ?_ ?_ ?_ ?_
      · refine ⟨id, fun _ => 0, _, _, _, _, _, rfl, g1, ⟨fun r h => h, fun r _ n => absurd rfl n⟩, fun x _ t h => ?_, s2, fun x z => n1 x (g3 x z)⟩
        cases h with
        | stop _ => exact .refl _
        | step n _ => exact absurd rfl n
      · rintro i σ' H' _ ⟨p, d, v3, v4, v5, v6, v7, rfl, q1, q2, q3, q4, q5⟩
        exact q4.seq hb
      · rintro i v σ' H' H'' hi ⟨p, d, v3, v4, v5, v6, v7, rfl, q1, q2, q3, q4, q5⟩ ⟨T0, x0, y0, rfl, nT, rfl, e1, e2⟩
        obtain rfl := Option.some.inj e1
        replace e2 : (ts.map V.ref)[i]? = some y0 := e2
        rw [List.getElem?_map] at e2
        obtain ⟨t, et, rfl⟩ := Option.map_eq_some_iff.mp e2
        obtain ⟨e, ee, te⟩ := paired_at ht et
        have sp := split_at ee
        obtain ⟨m1, m2, ne, nc⟩ := good _ _ _ sp
        have nTD : D ≠ T0 := ne_of_none q1 nT
        have t1 : H' t = some (.tup [.str e.1, .str e.2]) := q4 _ _ te
        have t2 := same_upd (o := .tup [.int (i : Nat), .ref t]) nT
        refine ⟨T0, _, rfl, SqT.of upd_same, rfl, _, _, rfl, _, _, rfl, rfl, ?_⟩
        refine ⟨_, rfl, _, rfl, D, t, e.1, e.2, rs, p, rfl, t2 _ _ q1, t2 _ _ t1, m1, m2, ne, fun H3 s3 n3 => ⟨_, rfl, iteF ?_⟩⟩
        have u1 : H3 t = some (.tup [.str e.1, .str e.2]) := s3 _ _ (t2 _ _ t1)
        refine ⟨_, rfl, _, rfl, t, _, 0, .str e.1, rfl, rfl, SqT.of u1, rfl, D, e.1, rs, p, d, rfl, s3 _ _ (t2 _ _ q1), q2, m1, hl, fun H4 p4 r4 w1 w2 w3 w4 w5 w6 w7 => ?_⟩
        have ntD : t ≠ D := nD te
        have u2 := w6 _ _ ntD u1
        refine ⟨_, rfl, _, rfl, t, _, 1, .str e.2, rfl, rfl, SqT.of u2, rfl, D, e.2, rs, p4, d, rfl, w1, w2, m2, hl, fun H5 p5 r5 x1 x2 x3 x4 x5 x6 x7 => ?_⟩
        have b4 : ∀ x ∈ rs, ∀ u, Root p4 x u → Root p x u := fun x hx u h => root_back q2 w3 hx h
        have b5 : ∀ x ∈ rs, ∀ u, Root p5 x u → Root p x u := fun x hx u h => b4 x hx u (root_back w2 x3 hx h)
        have c4 : Conn (es.take i) e.1 r4 := q3 _ m1 _ w5
        have c5 : Conn (es.take i) e.2 r5 := q3 _ m2 _ (b4 _ m2 _ x5)
        have n45 : r4 ≠ r5 := fun z => nc (c4.trans (z ▸ c5.symm))
        have f4 : p5 r4 = r4 := (x3 _ w4 _ (w3 _ w4 _ (.stop w5.top))).top
        have f5 : p5 r5 = r5 := (x3 _ x4 _ (.stop x5.top)).top
        refine ⟨_, rfl, _, rfl, rfl, _, rfl, iteF2 (decide_eq_false fun z => n45 (V.str.inj z)) ?_⟩
        refine ⟨_, rfl, _, rfl, _, rfl, D, _, rfl, DPut.k (k := Sum.inr r4) x1 (by rw [pm_len]; exact Nat.lt_trans hl (by decide)), ?_⟩
        rw [pm_put w4]
        obtain ⟨d', F'⟩ := x2.join w4 x4 f4 f5 n45
        have tk : es.take (i + 1) = es.take i ++ [e] := by
          rw [List.take_add_one, ee]
          rfl
        have old : ∀ z ∈ es.take i, z ∈ es.take (i + 1) := fun z hz => by
          rw [tk]
          exact List.mem_append_left _ hz
        have new : (e.1, e.2) ∈ es.take (i + 1) := by
          rw [tk]
          exact List.mem_append_right _ (List.mem_singleton.mpr rfl)
        refine ⟨_, d', _, _, _, _, _, rfl, upd_same, F', fun x hx u h => ?_, fun x o h => ?_, fun x z => ?_⟩
        · rcases join_root f4 f5 n45 h with ⟨h1, _⟩ | ⟨h1, rfl⟩
          · exact (q3 _ hx _ (b5 _ hx _ h1)).mono old
          · have c1 : Conn (es.take (i + 1)) x r4 := (q3 _ hx _ (b5 _ hx _ h1)).mono old
            exact ((c1.trans (c4.symm.mono old)).trans (.fwd (.refl _) new)).trans (c5.mono old)
        · have nx := nD h
          rw [upd_ne nx]
          exact x6 _ _ nx (w6 _ _ nx (s3 _ _ (t2 _ _ (q4 _ _ h))))
        · exact q5 x (none_upd (n3 x (w7 x (x7 x (none_upd z).2)))).2
      · rintro σ' H' ⟨p, d, v3, v4, v5, v6, v7, rfl, q1, q2, q3, q4, q5⟩
        exact k H' q4 q5
end
end Lamp
set_option maxHeartbeats 8000000
namespace Lamp
open PySem PySem.Spec PyProof.Rows L2
/-! ### names -/
abbrev lets : Str := "abcdefghijklmnopqrstuvwxyz"
abbrev figs : Str := "0123456789"
def nameOk (z : Str) : Bool := decide (1 ≤ z.length) && (decide (z.length ≤ 12) && ((match z.cps.toList with
  | c :: _ => decide (c ∈ lets.cps.toList)
  | [] => false) && z.cps.toList.all fun c => decide (c ∈ lets.cps.toList) || decide (c ∈ figs.cps.toList)))
structure TxtN (mg : Str → Option Value) : Prop where
  isi : mg "isinstance" = none
  str : mg "str" = none
  len : mg "len" = none
  all : mg "all" = none
  lets : ∃ t, mg "LETTERS" = some (.str lets t)
  figs : ∃ t, mg "FIGURES" = some (.str figs t)
  long : ∃ t, mg "LONGEST_NAME" = some (.int 12 t)
section
variable {P : Program} {w : World} {K : PySem.W.Frag} {mg : Str → Option Value} {base : Heap}
def spName : Sp := fun vs H Q _ => ∃ z : Str, vs = [.str z] ∧ nameOk z = true ∧ ∀ H', Same H H' → (∀ a, H' a = none → H a = none) → Q (.bl true) H'
abbrev NNm : List Str := ["thing", "sign"]
theorem scNm : FnScope NNm ["thing"] (defScope s_is_name) := ⟨rfl, rfl, rfl, by decide +kernel, rfl, by decide +kernel, by decide +kernel⟩
theorem ok_name {f : Addr} {fd : FuncData} (F : Fun K "is_name" "is_name" s_is_name f fd) (T : TxtN mg) : FnOk P w K mg base CX0 1 f fd ["thing"] spName := by
  obtain ⟨tl, gl⟩ := T.lets
  obtain ⟨tf, gf⟩ := T.figs
  obtain ⟨tn, gn⟩ := T.long
  refine F.ok scNm (fun vs H Q E h => ?_) (fun cdv A outer s H vs Q E hr h => ?_)
  · obtain ⟨z, rfl, _⟩ := h
    rfl
  · obtain ⟨z, rfl, ok, k⟩ := h
    obtain ⟨o1, ok⟩ := Bool.and_eq_true_iff.mp ok
    obtain ⟨o2, ok⟩ := Bool.and_eq_true_iff.mp ok
    obtain ⟨o3, o4⟩ := Bool.and_eq_true_iff.mp ok
    have l1 : 1 ≤ z.length := of_decide_eq_true o1
    have l2 : z.length ≤ 12 := of_decide_eq_true o2
    have ls : z.length ≤ sizeLine := Nat.le_trans l2 (by decide)
    refine ⟨_, pss_cons (ps_if (PW.pt (pw_or (pt_not (pt_val (pe_callB call_isi (by rfl) T.isi PyProof.Rows.Boot.isinstance (pa_cons (pv 0) (pa_cons (pe_bltn (v := .ty "str") (by rfl) T.str PyProof.Rows.Boot.str rfl) pa_nil)))))
          (pw_or1 (pt_not (pt_chain op_le op_le pe_int (pe_callB call_len_str (by rfl) T.len PySem.boot_len (pa_cons (pv 0) pa_nil)) (pe_glob (v := .int 12) (by rfl) gn ⟨tn, rfl⟩))))))
        pss_dead pss_nil)
      (pss_one (ps_ret (pe_and (pe_cmpR op_in_sign (pe_ix ix_str (pv 0) pe_int (fun _ _ => rfl)) (pe_glob (v := .str lets) (by rfl) gl ⟨tl, rfl⟩) (by rfl))
        (pe_one (pe_callB (cr_all rfl) (by rfl) T.all PyProof.Rows.Boot.all (pa_cons
          (pe_lc (te := tOrV (tOp (fun x y H Q => ∃ (c : Nat) (z : Str), x = .str ⟨#[c]⟩ ∧ y = .str z ∧ Q (.bl (decide (c ∈ z.cps.toList))) H) (tVar 1) (tC (.str lets))) (tOp (fun x y H Q => ∃ (c : Nat) (z : Str), x = .str ⟨#[c]⟩ ∧ y = .str z ∧ Q (.bl (decide (c ∈ z.cps.toList))) H) (tVar 1) (tC (.str figs)))) (own := [("sign", 1)]) (g := gName 1) (tt := tYes) rfl scNm.nd (pi_str (pv 0)) (blkOk_by (N := NNm) (sc := defScope s_is_name) (by decide +kernel))
            (fun _ _ _ _ _ => pg_name (i := 1) scNm.nd rfl (Or.inl rfl)) (fun _ _ _ _ _ => pts_nil)
            (fun _ _ _ _ _ => by exact (pe_or (pe_cmpR op_in_sign (pv 1) (pe_glob (v := .str lets) (by rfl) gl ⟨tl, rfl⟩) (by rfl)) (pe_one (pe_cmpR op_in_sign (pv 1) (pe_glob (v := .str figs) (by rfl) gf ⟨tf, rfl⟩) (by rfl)))))) pa_nil)))))), ?_⟩
    refine ⟨_, rfl, .str z, .ty "str", _, _, true, rfl, .ty _, .base (.str z), kit_ty (by decide +kernel), _, rfl, iteF ?_⟩
    refine ⟨_, rfl, _, rfl, ls, ?_⟩
    refine ⟨_, _, rfl, rfl, _, rfl, iteT2 (decide_eq_true (by omega)) ⟨_, _, rfl, rfl, _, rfl, iteF2 (by rw [decide_eq_true (by omega)]; rfl) ?_⟩⟩
    obtain ⟨c, cs, ec⟩ : ∃ c cs, z.cps.toList = c :: cs := by
      cases e : z.cps.toList with
      | nil =>
        rw [e] at o3
        cases o3
      | cons c cs => exact ⟨c, cs, rfl⟩
    rw [ec] at o3
    refine ⟨_, rfl, z, 0, c, rfl, rfl, ls, ?_, c, lets, rfl, rfl, _, rfl, iteT2 o3 ?_⟩
    · rw [ec]
      exact atI_nat (j := 0) rfl
    refine ⟨_, rfl, z, rfl, fun B hB => ?_⟩
    refine lc_it walk_str (fun j H' => H' B = some (.lst ((List.replicate j true).map V.bl)) ∧ Same H H' ∧ ∀ a, H' a = none → H a = none) ⟨upd_same, same_upd hB, fun a y => (none_upd y).2⟩ (fun _ _ _ _ => trivial) ?_ ?_
    · rintro j v H' H'' hj ⟨g1, g2, g3⟩ ⟨rfl, c', hc, rfl⟩
      have mem : c' ∈ z.cps.toList := List.mem_of_getElem? (by rw [Array.getElem?_toList]; exact hc)
      have hq := List.all_eq_true.mp o4 c' mem
      have fin : ∀ b : Bool, b = true → ∃ acc, H'' B = some (.lst acc) ∧ acc.length < sizeLine ∧ upd H'' B (.lst (acc ++ [V.bl b])) B = some (.lst ((List.replicate (j + 1) true).map V.bl)) ∧ Same H (upd H'' B (.lst (acc ++ [V.bl b]))) ∧ ∀ a, upd H'' B (.lst (acc ++ [V.bl b])) a = none → H a = none := fun b hb => by
        subst hb
        refine ⟨_, g1, ?_, ?_, fun x o e => ?_, fun a y => g3 a (none_upd y).2⟩
        · rw [List.length_map, List.length_replicate]
          exact Nat.lt_of_lt_of_le hj (Nat.le_trans (show z.cps.size ≤ 12 from l2) (by decide))
        · rw [upd_same, List.replicate_succ', List.map_append]
          rfl
        · have nx : x ≠ B := ne_of_none e hB
          rw [upd_ne nx]
          exact g2 x o e
      refine ⟨rfl, _, rfl, c', lets, rfl, rfl, _, rfl, ?_⟩
      by_cases m : c' ∈ lets.cps.toList
      · exact iteT2 (decide_eq_true m) (fin true rfl)
      · refine iteF2 (decide_eq_false m) ⟨_, rfl, c', figs, rfl, rfl, fin _ ?_⟩
        rw [decide_eq_false m, Bool.false_or] at hq
        exact hq
    · rintro H' ⟨g1, g2, g3⟩
      exact ⟨B, _, rfl, .inl (.inl g1), by
        have e : (List.replicate z.cps.size true).all id = true := List.all_eq_true.mpr fun b hb => (List.eq_of_mem_replicate hb)
        rw [e]
        exact k H' g2 g3⟩
end
end Lamp
set_option maxHeartbeats 8000000
namespace Lamp
open PySem PySem.Spec PyProof.Rows L2
/-! ### rooms_fault of unlike names -/
/-- a dict from rooms to True -/
def SM (rs : List Str) : List (Key × V) := rs.map fun r => ((Sum.inr r : Key), V.bl true)
theorem sm_len {rs : List Str} : (SM rs).length = rs.length := List.length_map _
theorem sm_get {r : Str} : ∀ {rs : List Str}, (valV (SM rs) (Sum.inr r)).isSome = decide (r ∈ rs)
  | [] => rfl
  | x :: rs => by
    by_cases e : x = r
    · subst e
      simp [SM, valV]
    · have ih := sm_get (r := r) (rs := rs)
      have : valV (SM (x :: rs)) (Sum.inr r) = valV (SM rs) (Sum.inr r) := by simp [SM, valV, e]
      rw [this, ih]
      exact decide_eq_decide.mpr ⟨fun m => List.mem_cons_of_mem _ m, fun m => by
        rcases List.mem_cons.mp m with z | z
        · exact absurd z.symm e
        · exact z⟩
theorem sm_new {r : Str} {rs : List Str} (m : r ∉ rs) : putK (SM rs) (Sum.inr r) (.bl true) = SM (rs ++ [r]) := by
  unfold putK
  have a : ¬ ((SM rs).any fun kv => decide (kv.1 = (Sum.inr r : Key))) = true := fun z => by
    obtain ⟨kv, h1, h2⟩ := List.any_eq_true.mp z
    obtain ⟨x, hx, rfl⟩ := List.mem_map.mp h1
    exact m (Sum.inr.inj (of_decide_eq_true h2) ▸ hx)
  rw [if_neg a]
  unfold SM
  rw [List.map_append]
  rfl
theorem take_not {α : Type} {l : List α} {i : Nat} (nd : l.Nodup) (hi : i < l.length) : l[i] ∉ l.take i := fun z => by
  have z2 : (l.take i ++ l.drop i).Nodup := by
    rw [List.take_append_drop]
    exact nd
  exact (List.nodup_append.mp z2).2.2 _ z _ (by
    rw [← List.getElem_cons_drop hi]
    exact List.mem_cons_self) rfl
structure TxtM (mg : Str → Option Value) : Prop where
  len : mg "len" = none
  enu : mg "enumerate" = none
section
variable {P : Program} {w : World} {K : PySem.W.Frag} {mg : Str → Option Value} {base : Heap}
def spRoomsF (K : PySem.W.Frag) : Sp := fun vs H Q _ => ∃ (a : Addr) (rs : List Str), vs = [.ref a] ∧ SqL K H a (rs.map V.str) ∧ (∀ H', Same H H' → TyX K H' (.ref a) (.type "list")) ∧ rs.Nodup ∧ rs ≠ [] ∧ rs.length < 1000 ∧ (∀ r ∈ rs, nameOk r = true) ∧
  ∀ H', Same H H' → (∀ x, H' x = none → H x = none) → Q .non H'
abbrev NRf : List Str := ["rooms", "seen", "index", "room"]
theorem scRf : FnScope NRf ["rooms"] (defScope s_rooms_fault) := ⟨rfl, rfl, rfl, by decide +kernel, rfl, by decide +kernel, by decide +kernel⟩
theorem ok_roomsf {f : Addr} {fd : FuncData} (F : Fun K "rooms_fault" "rooms_fault" s_rooms_fault f fd) (T : TxtM mg) (R : Stands P w K mg base 1 "is_row" ["thing"] (spIsRow K)) (NO : Stands P w K mg base 1 "is_name" ["thing"] spName) :
    FnOk P w K mg base CX0 2 f fd ["rooms"] (spRoomsF K) := by
  obtain ⟨fr, dr, Gr, mr, kr, br⟩ := R
  obtain ⟨fn, dn, Gn, mn, kn, bn⟩ := NO
  refine F.ok scRf (fun vs H Q E h => ?_) (fun cdv A outer s H vs Q E hr h => ?_)
  · obtain ⟨a, rs, rfl, _⟩ := h
    rfl
  · obtain ⟨a, rs, rfl, ha, tya, nd, ne, hl, ok, k⟩ := h
    have hu := Nat.lt_of_le_of_lt (Nat.add_le_add_left (show 1 ≤ 64 by decide) _) hr.units
    refine ⟨_, pss_cons (ps_if (PW.pt (pw_or (pt_not (pt_val (pe_call Gr hr (by rfl) mr kr br .nil pass0 (pa_cons (pv 0) pa_nil)))) (pw_or1 (pt_cmpR op_eq (pe_callB call_len_seq (by rfl) T.len PySem.boot_len (pa_cons (pv 0) pa_nil)) pe_int (nomark _))))) pss_dead pss_nil)
      (pss_cons (ps_set (i := 1) scRf.nd rfl (Or.inl rfl) pe_dnewK)
      (pss_cons (ps_for PassesOwn.never rfl (pi_enum (by rfl) T.enu (pa_cons (pv 0) pa_nil)) (pg_tup rfl (pgs_cons (pg_name (i := 2) scRf.nd rfl (Or.inl rfl)) (pgs_cons (pg_name (i := 3) scRf.nd rfl (Or.inl rfl)) pgs_nil)))
        (pss_cons (ps_if (PW.pt (pw_or (pt_not (pt_val (pe_call Gn hr (by rfl) mn kn bn .nil pass0 (pa_cons (pv 3) pa_nil)))) (pw_or1 (pt_cmp (pc_din hu (pv 3) (pv 1)) (by rfl))))) pss_dead pss_nil)
        (pss_one (ps_dput hu (pv 1) (pv 3) pe_bl (by rfl)))))
      (pss_one (ps_ret pe_non)))), ?_⟩
    refine ⟨_, rfl, .ref a, .type "list", true, rfl, tya, kitAny_cons (b := true) (kit_ty (by decide +kernel)) (fun z => by cases z) fun _ => rfl, fun H1 s1 n1 => ⟨_, rfl, iteF ?_⟩⟩
    have l0 : (rs.map V.str).length ≠ 0 := fun z => ne (List.length_eq_zero_iff.mp (by rw [List.length_map] at z; exact z))
    refine ⟨_, rfl, a, _, rfl, .inl (s1.seq ha), rfl, _, rfl, iteF2 (decide_eq_false fun z => l0 (by have := V.int.inj z; omega)) ?_⟩
    refine fun D hD => ?_
    have s2 : Same H (upd H1 D (.dK [])) := s1.trans (same_upd hD)
    have nD : ∀ {x : Addr} {o : HO}, H x = some o → x ≠ D := fun e => ne_of_none (s1 _ _ e) hD
    refine ⟨_, rfl, a, _, rfl, s2.seq ha, ?_⟩
    refine for_it (walk_enum (xs := rs.map V.str)) (fun i σ' H' => ∃ v2 v3 : Option V, σ' = [some (.ref a), some (.ref D), v2, v3] ∧ H' D = some (.dK (SM (rs.take i))) ∧ Same H H' ∧ ∀ x, H' x = none → H x = none) ?_ ?_ ?_ ?_
    · exact ⟨_, _, rfl, upd_same, s2, fun x z => n1 x (none_upd z).2⟩
    · rintro i σ' H' _ ⟨v2, v3, rfl, q1, q2, q3⟩
      exact q2.seq ha
    · rintro i v σ' H' H'' hi ⟨v2, v3, rfl, q1, q2, q3⟩ ⟨T0, x0, y0, rfl, nT, rfl, e1, e2⟩
      obtain rfl := Option.some.inj e1
      have hi2 : i < rs.length := by simpa using hi
      obtain rfl : V.str rs[i] = y0 := by
        replace e2 : (rs.map V.str)[i]? = some y0 := e2
        rw [List.getElem?_map, List.getElem?_eq_getElem hi2] at e2
        exact Option.some.inj e2
      have nTD : D ≠ T0 := ne_of_none q1 nT
      have t2 := same_upd (o := .tup [.int (i : Nat), .str rs[i]]) nT
      refine ⟨T0, _, rfl, SqT.of upd_same, rfl, _, _, rfl, _, _, rfl, rfl, ?_⟩
      refine ⟨_, rfl, rs[i], rfl, ok _ (List.getElem_mem hi2), fun H3 s3 n3 => ⟨_, rfl, iteF ?_⟩⟩
      have u1 := s3 _ _ (t2 _ _ q1)
      have g := DGet.k (k := Sum.inr rs[i]) u1
      have nm := take_not nd hi2
      refine ⟨_, rfl, _, rfl, D, _, rfl, g, _, rfl, iteF2 (by rw [sm_get]; exact decide_eq_false nm) ?_⟩
      refine ⟨_, rfl, _, rfl, D, _, rfl, DPut.k (k := Sum.inr rs[i]) u1 (by rw [sm_len, List.length_take]; exact Nat.lt_of_le_of_lt (Nat.min_le_left _ _) (Nat.lt_trans (Nat.lt_trans hi2 hl) (by decide))), ?_⟩
      rw [sm_new nm, List.take_append_getElem hi2]
      refine ⟨_, _, rfl, upd_same, fun x o e => ?_, fun x z => q3 x (none_upd (n3 x (none_upd z).2)).2⟩
      rw [upd_ne (nD e)]
      exact s3 _ _ (t2 _ _ (q2 _ _ e))
    · rintro σ' H' ⟨v2, v3, rfl, q1, q2, q3⟩
      exact k H' q2 q3
end
end Lamp
set_option maxHeartbeats 8000000
namespace Lamp
open PySem PySem.Spec PyProof.Rows L2
/-! ### rooms_by_doors -/
def putA (nf : Str → Addr) (r : Str) (v : Addr) : Str → Addr := fun x => if x = r then v else nf x
theorem putA_same {nf : Str → Addr} {r : Str} {v : Addr} : putA nf r v r = v := if_pos rfl
theorem putA_ne {nf : Str → Addr} {r x : Str} {v : Addr} (h : x ≠ r) : putA nf r v x = nf x := if_neg h
theorem nm_len {nf : Str → Addr} {rs : List Str} : (NM rs nf).length = rs.length := List.length_map _
theorem nm_new {nf : Str → Addr} {r : Str} {v : Addr} {rs : List Str} (m : r ∉ rs) : putK (NM rs nf) (Sum.inr r) (.ref v) = NM (rs ++ [r]) (putA nf r v) := by
  unfold putK
  have a : ¬ ((NM rs nf).any fun kv => decide (kv.1 = (Sum.inr r : Key))) = true := fun z => by
    obtain ⟨kv, h1, h2⟩ := List.any_eq_true.mp z
    obtain ⟨x, hx, rfl⟩ := List.mem_map.mp h1
    exact m (Sum.inr.inj (of_decide_eq_true h2) ▸ hx)
  rw [if_neg a]
  unfold NM
  rw [List.map_append]
  congr 1
  · refine List.map_congr_left fun x hx => ?_
    rw [putA_ne (fun z : x = r => m (z ▸ hx))]
  · show [(Sum.inr r, V.ref v)] = [(Sum.inr r, V.ref (putA nf r v r))]
    rw [putA_same]
theorem near_snoc {ds : List Ed} {d : Ed} {r : Str} : nearOf (ds ++ [d]) r = nearOf ds r ++ (if d.1 = r then [d.2] else if d.2 = r then [d.1] else []) := by
  unfold nearOf
  rw [List.filterMap_append]
  congr 1
  by_cases h1 : d.1 = r
  · simp [h1]
  · by_cases h2 : d.2 = r
    · simp [h1, h2]
    · simp [h1, h2]
theorem near_len {ds : List Ed} {r : Str} : (nearOf ds r).length ≤ ds.length := List.length_filterMap_le _ _
section
variable {P : Program} {w : World} {K : PySem.W.Frag} {mg : Str → Option Value} {base : Heap}
def spNearBy (K : PySem.W.Frag) : Sp := fun vs H Q _ => ∃ (a b : Addr) (rs : List Str) (ts : List Addr) (ds : List Ed), vs = [.ref a, .ref b] ∧ SqL K H a (rs.map V.str) ∧ SqL K H b (ts.map V.ref) ∧ TupsAt H ts ds ∧ rs.Nodup ∧ rs.length < 1000 ∧ ds.length < 1000 ∧ (∀ d ∈ ds, d.1 ∈ rs ∧ d.2 ∈ rs ∧ d.1 ≠ d.2) ∧
  ∀ H' na, NearAt H' na rs ds → Same H H' → (∀ x, H' x = none → H x = none) → H na = none → Q (.ref na) H'
abbrev NNb : List Str := ["rooms", "doors", "near", "one", "other", "room"]
theorem scNb : FnScope NNb ["rooms", "doors"] (defScope s_rooms_by_doors) := ⟨rfl, rfl, rfl, by decide +kernel, rfl, by decide +kernel, by decide +kernel⟩
/-- the dict while it is filled: new lists, unlike ones -/
structure Fill (H0 H : Hp) (D : Addr) (rs : List Str) (nf : Str → Addr) (c : Str → List Str) : Prop where
  dict : H D = some (.dK (NM rs nf))
  lists : ∀ r ∈ rs, H (nf r) = some (.lst ((c r).map V.str))
  new : ∀ r ∈ rs, H0 (nf r) = none
  inj : ∀ r ∈ rs, ∀ q ∈ rs, nf r = nf q → r = q
  newD : H0 D = none
  same : Same H0 H
  gone : ∀ x, H x = none → H0 x = none
theorem Fill.put {H0 H : Hp} {D : Addr} {rs : List Str} {nf : Str → Addr} {c : Str → List Str} (F : Fill H0 H D rs nf c) {r : Str} (m : r ∈ rs) (xs : List Str) : Fill H0 (upd H (nf r) (.lst (xs.map V.str))) D rs nf (fun q => if q = r then xs else c q) := by
  have nD : D ≠ nf r := fun z => by
    have e := F.lists r m
    rw [← z, F.dict] at e
    cases e
  refine ⟨by rw [upd_ne nD]; exact F.dict, fun q hq => ?_, F.new, F.inj, F.newD, fun x o e => ?_, fun x z => F.gone x (none_upd z).2⟩
  · by_cases e : q = r
    · subst e
      rw [upd_same, if_pos rfl]
    · rw [upd_ne fun z => e (F.inj _ hq _ m z), if_neg e]
      exact F.lists q hq
  · rw [upd_ne (ne_of_none e (F.new r m))]
    exact F.same x o e
theorem ok_nearby {f : Addr} {fd : FuncData} (F : Fun K "rooms_by_doors" "rooms_by_doors" s_rooms_by_doors f fd) : FnOk P w K mg base CX0 1 f fd ["rooms", "doors"] (spNearBy K) := by
  refine F.ok scNb (fun vs H Q E h => ?_) (fun cdv A outer s H vs Q E hr h => ?_)
  · obtain ⟨a, b, rs, ts, ds, rfl, _⟩ := h
    rfl
  · obtain ⟨a, b, rs, ts, ds, rfl, ha, hb, ht, nd, hl, hld, ends, k⟩ := h
    have hu := Nat.lt_of_le_of_lt (Nat.add_le_add_left (show 1 ≤ 64 by decide) _) hr.units
    refine ⟨_, pss_cons (ps_setDc (i := 2) (tk := tVar 5) (own := [("room", 5)]) (g := gName 5) (tt := tYes) rfl scNb.nd rfl rfl (sw_dict rfl rfl rfl (by decide +kernel)) (pi_list (pv 0)) (blkOk_by (N := NNb) (sc := defScope s_rooms_by_doors) (by decide +kernel))
        (fun _ _ _ _ _ => pg_name (i := 5) scNb.nd rfl (Or.inl rfl)) (fun _ _ _ _ _ => pts_nil) (fun _ _ _ _ _ => pv 5) (fun _ _ _ _ _ => pe_lst pa_nil))
      (pss_cons (ps_for PassesOwn.never rfl (pi_list (pv 1)) (pg_tup rfl (pgs_cons (pg_name (i := 3) scNb.nd rfl (Or.inl rfl)) (pgs_cons (pg_name (i := 4) scNb.nd rfl (Or.inl rfl)) pgs_nil)))
        (pss_cons (ps_expr (pe_bm PySem.F.plainAttrs_list PySem.F.slot_list_append PySem.F.type_list_append mt_append (pe_dget hu (pv 2) (pv 3) (fun _ _ => rfl)) (pa_cons (pv 4) pa_nil) (by rfl) (by rfl)))
        (pss_one (ps_expr (pe_bm PySem.F.plainAttrs_list PySem.F.slot_list_append PySem.F.type_list_append mt_append (pe_dget hu (pv 2) (pv 4) (fun _ _ => rfl)) (pa_cons (pv 3) pa_nil) (by rfl) (by rfl))))))
      (pss_one (ps_ret (pv 2)))), ?_⟩
    refine ⟨_, rfl, a, rfl, ⟨_, ha⟩, fun D hD => ?_⟩
    refine dc_it (walk_list (xs := rs.map V.str)) (fun j H' => ∃ nf, Fill H H' D (rs.take j) nf fun _ => []) ?_ (fun j H' _ ⟨nf, g⟩ => g.same.seq ha) ?_ ?_
    · exact ⟨fun _ => 0, upd_same, fun r h => (by cases h), fun r h => (by cases h), fun r h => (by cases h), hD, same_upd hD, fun x z => (none_upd z).2⟩
    · rintro j v H' H'' hj ⟨nf, g⟩ ⟨rfl, hv⟩
      have hj2 : j < rs.length := by simpa using hj
      obtain rfl : V.str rs[j] = v := by
        rw [List.getElem?_map, List.getElem?_eq_getElem hj2] at hv
        exact Option.some.inj hv
      have nm := take_not nd hj2
      refine ⟨rfl, _, rfl, by show 0 ≤ sizeLine; decide, fun p hp => ?_⟩
      have nDp : D ≠ p := ne_of_none g.dict hp
      refine ⟨_, Sum.inr rs[j], rfl, by rw [upd_ne nDp]; exact g.dict, ?_, putA nf rs[j] p, ?_⟩
      · rw [nm_len, List.length_take]
        exact Nat.lt_of_le_of_lt (Nat.min_le_left _ _) (Nat.lt_trans (Nat.lt_trans hj2 hl) (by decide))
      · have tk : rs.take (j + 1) = rs.take j ++ [rs[j]] := (List.take_append_getElem hj2).symm
        have oldp : ∀ r ∈ rs.take j, nf r ≠ p := fun r hr z => by
          have e := g.lists r hr
          rw [z, hp] at e
          cases e
        have ne : ∀ r ∈ rs.take j, r ≠ rs[j] := fun r hr z => nm (z ▸ hr)
        have split : ∀ r ∈ rs.take (j + 1), r ∈ rs.take j ∨ r = rs[j] := fun r hr => by
          rw [tk] at hr
          rcases List.mem_append.mp hr with h | h
          · exact .inl h
          · exact .inr (List.mem_singleton.mp h)
        refine ⟨?_, fun r hr => ?_, fun r hr => ?_, fun r hr q hq z => ?_, hD, fun x o e => ?_, fun x z => g.gone x (none_upd (none_upd z).2).2⟩
        · rw [upd_same, nm_new nm, tk]
        · rcases split r hr with h | rfl
          · have nd2 : nf r ≠ D := fun z => by
              have e := g.lists r h
              rw [z, g.dict] at e
              cases e
            rw [putA_ne (ne r h), upd_ne nd2, upd_ne (oldp r h)]
            exact g.lists r h
          · rw [putA_same, upd_ne nDp.symm, upd_same]
            rfl
        · rcases split r hr with h | rfl
          · rw [putA_ne (ne r h)]
            exact g.new r h
          · rw [putA_same]
            exact g.gone p hp
        · rcases split r hr with h | rfl
          · rcases split q hq with h2 | rfl
            · rw [putA_ne (ne r h), putA_ne (ne q h2)] at z
              exact g.inj r h q h2 z
            · rw [putA_ne (ne r h), putA_same] at z
              exact absurd z (oldp r h)
          · rcases split q hq with h2 | rfl
            · rw [putA_same, putA_ne (ne q h2)] at z
              exact absurd z.symm (oldp q h2)
            · rfl
        · rw [upd_ne (ne_of_none e hD), upd_ne (ne_of_none (g.same x o e) hp)]
          exact g.same x o e
    · rintro H2 ⟨nf, g⟩
      rw [List.length_map, List.take_length] at g
      refine ⟨_, rfl, b, rfl, ⟨_, g.same.seq hb⟩, ?_⟩
      refine for_it (walk_list (xs := ts.map V.ref)) (fun i σ' H' => ∃ (v3 v4 v5 : Option V), σ' = [some (.ref a), some (.ref b), some (.ref D), v3, v4, v5] ∧ Fill H H' D rs nf fun r => nearOf (ds.take i) r) ?_ ?_ ?_ ?_
      · exact ⟨_, _, _, rfl, g⟩
      · rintro i σ' H' _ ⟨v3, v4, v5, rfl, g⟩
        exact g.same.seq hb
      · rintro i v σ' H' H'' hi ⟨v3, v4, v5, rfl, g⟩ ⟨rfl, hv⟩
        rw [List.getElem?_map] at hv
        obtain ⟨t, et, rfl⟩ := Option.map_eq_some_iff.mp hv
        obtain ⟨e, ee, te⟩ := paired_at ht et
        obtain ⟨m1, m2, ne⟩ := ends e (List.mem_of_getElem? ee)
        have tk : ds.take (i + 1) = ds.take i ++ [e] := by
          rw [List.take_add_one, ee]
          rfl
        have ln : ∀ r, ((nearOf (ds.take i) r).map V.str).length < 1000 := fun r => by
          rw [List.length_map]
          have z := near_len (ds := ds.take i) (r := r)
          rw [List.length_take] at z
          omega
        have t1 := g.same _ _ te
        have g1 := DGet.k (k := Sum.inr e.1) g.dict
        rw [nm_get m1] at g1
        have l1 := g.lists _ m1
        have F1 := g.put m1 (nearOf (ds.take i) e.1 ++ [e.2])
        rw [List.map_append] at F1
        have g2 := DGet.k (k := Sum.inr e.2) F1.dict
        rw [nm_get m2] at g2
        have l2 := F1.lists _ m2
        rw [if_neg ne.symm] at l2
        have F2 := F1.put m2 (nearOf (ds.take i) e.2 ++ [e.1])
        rw [List.map_append] at F2
        have ec : (fun q => if q = e.2 then nearOf (ds.take i) e.2 ++ [e.1] else if q = e.1 then nearOf (ds.take i) e.1 ++ [e.2] else nearOf (ds.take i) q) = fun r => nearOf (ds.take (i + 1)) r := by
          funext q
          rw [tk, near_snoc]
          by_cases q2 : q = e.2
          · subst q2
            rw [if_pos rfl, if_neg ne, if_pos rfl]
          · rw [if_neg q2]
            by_cases q1 : q = e.1
            · subst q1
              rw [if_pos rfl, if_pos rfl]
            · rw [if_neg q1, if_neg fun z => q1 z.symm, if_neg fun z => q2 z.symm, List.append_nil]
        rw [ec] at F2
        refine ⟨t, _, rfl, SqT.of t1, rfl, _, _, rfl, _, _, rfl, rfl, ?_⟩
        refine ⟨_, rfl, _, rfl, D, _, rfl, g1, .inl ⟨rfl, _, SqL.of l1⟩, _, rfl, nf e.1, _, .str e.2, rfl, rfl, l1, Nat.lt_trans (ln _) (by decide), ?_⟩
        refine ⟨_, rfl, _, rfl, D, _, rfl, g2, .inl ⟨rfl, _, SqL.of l2⟩, _, rfl, nf e.2, _, .str e.1, rfl, rfl, l2, Nat.lt_trans (ln _) (by decide), ?_⟩
        exact ⟨_, _, _, rfl, F2⟩
      · rintro σ' H' ⟨v3, v4, v5, rfl, g⟩
        have el : ds.take (ts.map V.ref).length = ds := by
          rw [List.length_map, Paired.length ht]
          exact List.take_length
        rw [el] at g
        exact ⟨_, rfl, k H' D ⟨nf, g.dict, g.lists⟩ g.same g.gone g.newD⟩
end
end Lamp
set_option maxHeartbeats 8000000
namespace Lamp
open PySem PySem.Spec PyProof.Rows L2
/-! ### reach -/
theorem near_mem {ds : List Ed} {r o : Str} : o ∈ nearOf ds r ↔ ∃ d ∈ ds, (d.1 = r ∧ o = d.2) ∨ (d.1 ≠ r ∧ d.2 = r ∧ o = d.1) := by
  unfold nearOf
  rw [List.mem_filterMap]
  constructor
  · rintro ⟨d, hd, h⟩
    refine ⟨d, hd, ?_⟩
    by_cases h1 : d.1 = r
    · rw [if_pos h1] at h
      exact .inl ⟨h1, (Option.some.inj h).symm⟩
    · rw [if_neg h1] at h
      by_cases h2 : d.2 = r
      · rw [if_pos h2] at h
        exact .inr ⟨h1, h2, (Option.some.inj h).symm⟩
      · rw [if_neg h2] at h
        cases h
  · rintro ⟨d, hd, ⟨h1, h2⟩ | ⟨h1, h2, h3⟩⟩
    · exact ⟨d, hd, by rw [if_pos h1, h2]⟩
    · exact ⟨d, hd, by rw [if_neg h1, if_pos h2, h3]⟩
theorem closed_conn {ds : List Ed} {fs : List Str} (c : ∀ r ∈ fs, ∀ o ∈ nearOf ds r, o ∈ fs) {a b : Str} (h : Conn ds a b) (ha : a ∈ fs) : b ∈ fs := by
  induction h with
  | refl => exact ha
  | @fwd b c' _ m ih => exact c _ ih _ (near_mem.mpr ⟨(b, c'), m, .inl ⟨rfl, rfl⟩⟩)
  | @bwd b c' _ m ih =>
    by_cases e : c' = b
    · rw [e]
      exact ih
    · exact c _ ih _ (near_mem.mpr ⟨(c', b), m, .inr ⟨e, rfl, rfl⟩⟩)
theorem nodup_le : ∀ {l m : List Str}, l.Nodup → (∀ x ∈ l, x ∈ m) → l.length ≤ m.length
  | [], _, _, _ => Nat.zero_le _
  | x :: l, m, nd, h => by
    obtain ⟨h1, h2⟩ := List.nodup_cons.mp nd
    have hx := h x List.mem_cons_self
    have p := List.perm_cons_erase hx
    have ih := nodup_le (l := l) (m := m.erase x) h2 fun y hy => by
      have z := p.mem_iff.mp (h y (List.mem_cons_of_mem _ hy))
      rcases List.mem_cons.mp z with e | z
      · exact absurd (e ▸ hy) h1
      · exact z
    rw [p.length_eq]
    exact Nat.succ_le_succ ih
/-- the rooms of a part, those found, those waiting, as they stand -/
structure RInv (H0 H : Hp) (al fo wa : Addr) (rs fs ws : List Str) : Prop where
  a : H al = some (.dK (SM rs))
  f : H fo = some (.dK (SM fs))
  w : H wa = some (.lst (ws.map V.str))
  newA : H0 al = none
  newF : H0 fo = none
  newW : H0 wa = none
  af : fo ≠ al
  same : Same H0 H
  gone : ∀ x, H x = none → H0 x = none
theorem RInv.wa {H0 H : Hp} {al fo wa : Addr} {rs fs ws : List Str} (R : RInv H0 H al fo wa rs fs ws) : wa ≠ al ∧ wa ≠ fo := by
  constructor
  · intro z
    have e := R.a
    rw [← z, R.w] at e
    cases e
  · intro z
    have e := R.f
    rw [← z, R.w] at e
    cases e
theorem RInv.setW {H0 H : Hp} {al fo wa : Addr} {rs fs ws vs : List Str} (R : RInv H0 H al fo wa rs fs ws) : RInv H0 (upd H wa (.lst (vs.map V.str))) al fo wa rs fs vs := by
  obtain ⟨n1, n2⟩ := R.wa
  refine ⟨by rw [upd_ne n1.symm]; exact R.a, by rw [upd_ne n2.symm]; exact R.f, upd_same, R.newA, R.newF, R.newW, R.af, fun x o e => ?_, fun x z => R.gone x (none_upd z).2⟩
  rw [upd_ne (ne_of_none e R.newW)]
  exact R.same x o e
theorem RInv.setF {H0 H : Hp} {al fo wa : Addr} {rs fs ws gs : List Str} (R : RInv H0 H al fo wa rs fs ws) : RInv H0 (upd H fo (.dK (SM gs))) al fo wa rs gs ws := by
  obtain ⟨n1, n2⟩ := R.wa
  refine ⟨by rw [upd_ne R.af.symm]; exact R.a, upd_same, by rw [upd_ne n2]; exact R.w, R.newA, R.newF, R.newW, R.af, fun x o e => ?_, fun x z => R.gone x (none_upd z).2⟩
  rw [upd_ne (ne_of_none e R.newF)]
  exact R.same x o e
theorem RInv.ext {H0 H H' : Hp} {al fo wa : Addr} {rs fs ws : List Str} (R : RInv H0 H al fo wa rs fs ws) (s : Same H H') (g : ∀ x, H' x = none → H x = none) : RInv H0 H' al fo wa rs fs ws :=
  ⟨s _ _ R.a, s _ _ R.f, s _ _ R.w, R.newA, R.newF, R.newW, R.af, R.same.trans s, fun x z => R.gone x (g x z)⟩
structure TxtQ (mg : Str → Option Value) : Prop where
  srt : mg "sorted" = none
section
variable {P : Program} {w : World} {K : PySem.W.Frag} {mg : Str → Option Value} {base : Heap} {C : Addr}
def spReach (K : PySem.W.Frag) (C : Addr) : Sp := fun vs H Q _ => ∃ (h ia : Addr) (s0 : Str) (rs : List Str) (ds : List Ed), vs = [.ref h, .str s0, .ref ia] ∧ HouseAt H C h rs ds ∧ SqL K H ia (rs.map V.str) ∧ rs.Nodup ∧ rs.length < 60 ∧ s0 ∈ rs ∧ (∀ d ∈ ds, d.1 ∈ rs ∧ d.2 ∈ rs ∧ d.1 ≠ d.2) ∧ ds.length < 1000 ∧
  ∀ H' p fs ys, fs.Nodup → (∀ r ∈ fs, r ∈ rs) → (∀ r, Conn ds s0 r → r ∈ fs) → ys.Perm fs → sortedS ys = true → H' p = some (.lst (ys.map V.str)) → Same H H' → (∀ x, H' x = none → H x = none) → H p = none → Q (.ref p) H'
abbrev NRe : List Str := ["house", "start", "inside", "allowed", "found", "waiting", "other", "room"]
theorem scRe : FnScope NRe ["house", "start", "inside"] (defScope s_reach) := ⟨rfl, rfl, rfl, by decide +kernel, rfl, by decide +kernel, by decide +kernel⟩
theorem ok_reach {f : Addr} {fd : FuncData} (F : Fun K "reach" "reach" s_reach f fd) (T : TxtQ mg) (M : HasH P w K mg base C) : FnOk P w K mg base CX0 2 f fd ["house", "start", "inside"] (spReach K C) := by
  obtain ⟨fn, dn, mn, Gn, bn⟩ := M.near
  refine F.ok scRe (fun vs H Q E h => ?_) (fun cdv A outer s H vs Q E hr h => ?_)
  · obtain ⟨h, ia, s0, rs, ds, rfl, _⟩ := h
    rfl
  · obtain ⟨h, ia, s0, rs, ds, rfl, hh, hia, nd, hl, m0, ends, hld, k⟩ := h
    have hu := Nat.lt_of_le_of_lt (Nat.add_le_add_left (show 1 ≤ 64 by decide) _) hr.units
    refine ⟨_, pss_cons (ps_setDc (i := 3) (tk := tVar 7) (tv := tC (.bl true)) (own := [("room", 7)]) (g := gName 7) (tt := tYes) rfl scRe.nd rfl rfl (sw_dict rfl rfl rfl (by decide +kernel)) (pi_list (pv 2)) (blkOk_by (N := NRe) (sc := defScope s_reach) (by decide +kernel))
        (fun _ _ _ _ _ => pg_name (i := 7) scRe.nd rfl (Or.inl rfl)) (fun _ _ _ _ _ => pts_nil) (fun _ _ _ _ _ => pv 7) (fun _ _ _ _ _ => pe_bl))
      (pss_cons (ps_set (i := 4) scRe.nd rfl (Or.inl rfl) (pe_disp (pps_cons (pv 1) pe_bl pps_nil) (by rfl) (by rfl) (by simp) (by decide)))
      (pss_cons (ps_set (i := 5) scRe.nd rfl (Or.inl rfl) (pe_lst (pa_cons (pv 1) pa_nil)))
      (pss_cons (ps_while PassesOwn.never (pt_truth (pv 5) (fun _ => rfl))
        (pss_one (ps_for PassesOwn.never rfl (pi_list (pe_meth (pv 0) M.cls.cls mn Gn hr bn .nil pass0 (pa_cons (pe_bm0 PySem.F.plainAttrs_list PySem.F.slot_list_pop PySem.F.type_list_pop mt_pop (pv 5)) pa_nil))) (pg_name (i := 6) scRe.nd rfl (Or.inl rfl))
          (pss_one (ps_if (PW.pt (pw_and (pt_cmp (pc_din hu (pv 6) (pv 3)) (by rfl)) (pw_and1 (pt_cmp (pc_dnotin hu (pv 6) (pv 4)) (by rfl)))))
            (pss_cons (ps_dput hu (pv 4) (pv 6) pe_bl (by rfl)) (pss_one (ps_expr (pe_bm PySem.F.plainAttrs_list PySem.F.slot_list_append PySem.F.type_list_append mt_append (pv 5) (pa_cons (pv 6) pa_nil) (by rfl) (by rfl)))))
            pss_nil)))))
      (pss_one (ps_ret (pe_callB (call_sortedD rfl) (by rfl) T.srt PyProof.Rows.Boot.sorted (pa_cons (pv 4) pa_nil))))))), ?_⟩
    refine ⟨_, rfl, ia, rfl, ⟨_, hia⟩, fun A1 hA1 => ?_⟩
    refine dc_it (walk_list (xs := rs.map V.str)) (fun j H' => H' A1 = some (.dK (SM (rs.take j))) ∧ Same H H' ∧ ∀ x, H' x = none → H x = none) ⟨upd_same, same_upd hA1, fun x z => (none_upd z).2⟩ (fun j H' _ g => g.2.1.seq hia) ?_ ?_
    · rintro j v H' H'' hj ⟨g1, g2, g3⟩ ⟨rfl, hv⟩
      have hj2 : j < rs.length := by simpa using hj
      obtain rfl : V.str rs[j] = v := by
        rw [List.getElem?_map, List.getElem?_eq_getElem hj2] at hv
        exact Option.some.inj hv
      refine ⟨rfl, _, rfl, _, Sum.inr rs[j], rfl, g1, ?_, ?_, ?_, fun x z => g3 x (none_upd z).2⟩
      · rw [sm_len, List.length_take]
        exact Nat.lt_of_le_of_lt (Nat.min_le_left _ _) (Nat.lt_trans (Nat.lt_trans hj2 hl) (by decide))
      · rw [upd_same, sm_new (take_not nd hj2), List.take_append_getElem hj2]
      · intro x o e
        rw [upd_ne (ne_of_none e hA1)]
        exact g2 x o e
    · rintro H2 ⟨g1, g2, g3⟩
      rw [List.length_map, List.take_length] at g1
      refine fun F1 hF1 => ⟨_, rfl, upd_same, [(Sum.inr s0, .bl true)], rfl, (by show 1 ≤ 15; decide), ?_⟩
      rw [show mergeK ([] : List (Key × V)) [(Sum.inr s0, V.bl true)] = SM [s0] from rfl]
      refine ⟨_, rfl, by show 1 ≤ sizeLine; decide, fun W1 hW1 => ?_⟩
      have fa : F1 ≠ A1 := (ne_of_none g1 hF1).symm
      have nW2 := (none_upd (none_upd hW1).2).2
      have R0 : RInv H (upd (upd (upd H2 F1 (.dK [])) F1 (.dK (SM [s0]))) W1 (.lst ([s0].map V.str))) A1 F1 W1 rs [s0] [s0] := by
        have wf : F1 ≠ W1 := fun z => (none_upd hW1).1 z.symm
        have wa : A1 ≠ W1 := ne_of_none g1 nW2
        refine ⟨by rw [upd_ne wa, upd_ne fa.symm, upd_ne fa.symm]; exact g1, by rw [upd_ne wf, upd_same], upd_same, hA1, g3 _ hF1, g3 _ nW2, fa, fun x o e => ?_, fun x z => g3 x (none_upd (none_upd (none_upd z).2).2).2⟩
        have e2 := g2 x o e
        rw [upd_ne (ne_of_none e2 nW2), upd_ne (ne_of_none e2 hF1), upd_ne (ne_of_none e2 hF1)]
        exact e2
      have eσ : ((List.set (L2.start NRe [V.ref h, V.str s0, V.ref ia]) 3 (some (V.ref A1))).set 4 (some (V.ref F1))).set 5 (some (V.ref W1)) = [some (.ref h), some (.str s0), some (.ref ia), some (.ref A1), some (.ref F1), some (.ref W1), none, none] := rfl
      dsimp only [gName]
      rw [eσ]
      refine while_ex (fun _ _ => False) (fun _ _ z => z.elim) (fun _ => ?_)
      refine while_by (fun σ' H' => ∃ (fs ws : List Str) (v6 v7 : Option V), σ' = [some (.ref h), some (.str s0), some (.ref ia), some (.ref A1), some (.ref F1), some (.ref W1), v6, v7] ∧ RInv H H' A1 F1 W1 rs fs ws ∧ fs.Nodup ∧ (∀ r ∈ fs, r ∈ rs) ∧ (∀ r ∈ ws, r ∈ fs) ∧ s0 ∈ fs ∧ ws.length ≤ fs.length ∧ (∀ r ∈ fs, r ∉ ws → ∀ o ∈ nearOf ds r, o ∈ fs))
        (fun _ H' => (match H' F1 with
          | some (.dK kvs) => 2 * (rs.length - kvs.length)
          | _ => 0) + (match H' W1 with
          | some (.lst xs) => xs.length
          | _ => 0)) ⟨[s0], [s0], _, _, rfl, R0, List.nodup_cons.mpr ⟨by simp, List.nodup_nil⟩, fun r hr => by rw [List.mem_singleton.mp hr]; exact m0, fun r hr => hr, List.mem_singleton.mpr rfl, Nat.le_refl _, fun r hr hn => absurd hr hn⟩ ?_ ?_
      · rintro σ' H' ⟨fs, ws, v6, v7, rfl, R, fnd, fsub, wsub, fs0, wle, cl⟩
        refine ⟨_, rfl, _, .inl ⟨_, SqL.of R.w, rfl⟩, ?_⟩
        cases we : ws.reverse with
        | nil =>
          obtain rfl : ws = [] := List.reverse_eq_nil_iff.mp we
          refine iteF ?_
          refine ⟨_, rfl, F1, _, fs, rfl, .inl R.f, ?_, ?_, fun ys p hp hs hn => ?_⟩
          · unfold SM
            rw [List.map_map]
            rfl
          · exact Nat.lt_of_le_of_lt (nodup_le fnd fsub) (by omega)
          · refine k _ p fs ys fnd fsub (fun r c => closed_conn (fun q hq o ho => cl q hq (by simp) o ho) c fs0) hp hs upd_same (R.same.trans (same_upd hn)) (fun x z => R.gone x (none_upd z).2) (R.gone p hn)
        | cons x wr =>
          obtain ⟨w0, rfl⟩ : ∃ w0, ws = w0 ++ [x] := ⟨wr.reverse, by rw [← List.reverse_reverse ws, we, List.reverse_cons]⟩
          refine iteT2 (by simp) ?_
          have hh' := hh.same R.same
          have hat := hh'
          obtain ⟨dx, ra, da, na, tsd, i1, i2, i3, i4, nf, i5, i6⟩ := hat.at_
          have mx : x ∈ rs := fsub x (wsub x (List.mem_append_right _ (List.mem_singleton.mpr rfl)))
          have R1 : RInv H (upd H' W1 (.lst (w0.map V.str))) A1 F1 W1 rs fs w0 := R.setW
          have ew : ((w0 ++ [x]).map V.str).dropLast = w0.map V.str := by
            rw [List.map_append]
            exact List.dropLast_concat
          have lw : ((w0 ++ [x]).map V.str)[((w0 ++ [x]).map V.str).length - 1]? = some (.str x) := by
            simp
          refine ⟨_, rfl, h, dx, _, rfl, i1, by rfl, _, rfl, .inl ⟨rfl, _, SqL.of R.w⟩, W1, _, .str x, rfl, rfl, R.w, lw, ?_⟩
          rw [ew]
          refine ⟨h, x, rs, ds, rfl, hh.same R1.same, mx, fun H4 p s4 o4 n4 e4 => ?_⟩
          have R4 := R1.ext s4 o4
          have pF : p ≠ F1 := (ne_of_none R1.f n4).symm
          have pW : p ≠ W1 := (ne_of_none R1.w n4).symm
          have nx : x ∉ fs → False := fun z => z (wsub x (List.mem_append_right _ (List.mem_singleton.mpr rfl)))
          refine ⟨p, rfl, ⟨_, SqL.of e4⟩, ?_⟩
          refine for_it (walk_list (xs := (nearOf ds x).map V.str)) (fun j σ'' H'' => ∃ (ad : List Str) (u6 u7 : Option V), σ'' = [some (.ref h), some (.str s0), some (.ref ia), some (.ref A1), some (.ref F1), some (.ref W1), u6, u7] ∧ RInv H H'' A1 F1 W1 rs (fs ++ ad) (w0 ++ ad) ∧ (fs ++ ad).Nodup ∧ (∀ r ∈ fs ++ ad, r ∈ rs) ∧ (∀ o ∈ (nearOf ds x).take j, o ∈ fs ++ ad) ∧ H'' p = some (.lst ((nearOf ds x).map V.str))) ?_ ?_ ?_ ?_
          · exact ⟨[], _, _, rfl, by rw [List.append_nil, List.append_nil]; exact R4, by rw [List.append_nil]; exact fnd, by rw [List.append_nil]; exact fsub, fun o ho => by simp at ho, e4⟩
          · rintro j σ'' H'' _ ⟨ad, u6, u7, rfl, q1, q2, q3, q4, q5⟩
            exact SqL.of q5
          · rintro j v σ'' H'' H5 hj ⟨ad, u6, u7, rfl, q1, q2, q3, q4, q5⟩ ⟨rfl, hv⟩
            have hj2 : j < (nearOf ds x).length := by simpa using hj
            obtain rfl : V.str (nearOf ds x)[j] = v := by
              rw [List.getElem?_map, List.getElem?_eq_getElem hj2] at hv
              exact Option.some.inj hv
            generalize eo : (nearOf ds x)[j] = o
            have tk : (nearOf ds x).take (j + 1) = (nearOf ds x).take j ++ [o] := by
              rw [← eo]
              exact (List.take_append_getElem hj2).symm
            have mo : o ∈ rs := by
              obtain ⟨d, hd, z⟩ := near_mem.mp (eo ▸ List.getElem_mem hj2 : o ∈ nearOf ds x)
              obtain ⟨h1, h2, _⟩ := ends d hd
              rcases z with ⟨_, e⟩ | ⟨_, _, e⟩
              · exact e ▸ h2
              · exact e ▸ h1
            have lf : (fs ++ ad).length ≤ rs.length := nodup_le q2 q3
            refine ⟨_, rfl, _, rfl, A1, _, rfl, DGet.k (k := Sum.inr o) q1.a, _, rfl, iteT2 (sm_get.trans (decide_eq_true mo)) ⟨_, rfl, _, rfl, F1, _, rfl, DGet.k (k := Sum.inr o) q1.f, _, rfl, ?_⟩⟩
            rw [sm_get]
            by_cases m : o ∈ fs ++ ad
            · refine iteF2 (by rw [decide_eq_true m]; rfl) ⟨ad, _, _, rfl, q1, q2, q3, fun z hz => ?_, q5⟩
              rw [tk] at hz
              rcases List.mem_append.mp hz with hz | hz
              · exact q4 z hz
              · rw [List.mem_singleton.mp hz]
                exact m
            · refine iteT2 (by rw [decide_eq_false m]; rfl) ?_
              refine ⟨_, rfl, _, rfl, F1, _, rfl, DPut.k (k := Sum.inr o) q1.f (by rw [sm_len]; exact Nat.lt_of_le_of_lt lf (Nat.lt_trans hl (by decide))), ?_⟩
              rw [sm_new m, List.append_assoc]
              have q6 : RInv H (upd H5 F1 (.dK (SM (fs ++ (ad ++ [o]))))) A1 F1 W1 rs (fs ++ (ad ++ [o])) (w0 ++ ad) := q1.setF
              have q7 : RInv H (upd (upd H5 F1 (.dK (SM (fs ++ (ad ++ [o]))))) W1 (.lst ((w0 ++ (ad ++ [o])).map V.str))) A1 F1 W1 rs (fs ++ (ad ++ [o])) (w0 ++ (ad ++ [o])) := q6.setW
              have em : (w0 ++ (ad ++ [o])).map V.str = (w0 ++ ad).map V.str ++ [V.str o] := by simp
              rw [em] at q7
              refine ⟨_, rfl, .inl ⟨rfl, _, SqL.of q6.w⟩, _, rfl, W1, _, .str o, rfl, rfl, q6.w, ?_, ?_⟩
              · have l1 : ((w0 ++ ad).map V.str).length < 1000 := by
                  rw [List.length_map, List.length_append]
                  rw [List.length_append] at lf wle
                  omega
                exact Nat.lt_trans l1 (by decide)
              · refine ⟨ad ++ [o], _, _, rfl, q7, ?_, fun r hr => ?_, fun z hz => ?_, ?_⟩
                · rw [← List.append_assoc]
                  exact List.nodup_append.mpr ⟨q2, List.nodup_cons.mpr ⟨by simp, List.nodup_nil⟩, fun y hy z hz e => m (by rw [← List.mem_singleton.mp hz, ← e]; exact hy)⟩
                · rw [← List.append_assoc] at hr
                  rcases List.mem_append.mp hr with hr | hr
                  · exact q3 r hr
                  · rw [List.mem_singleton.mp hr]
                    exact mo
                · rw [← List.append_assoc]
                  rw [tk] at hz
                  rcases List.mem_append.mp hz with hz | hz
                  · exact List.mem_append_left _ (q4 z hz)
                  · exact List.mem_append_right _ hz
                · rw [upd_ne pW, upd_ne pF]
                  exact q5
          · rintro σ'' H'' ⟨ad, u6, u7, rfl, q1, q2, q3, q4, q5⟩
            have lf : (fs ++ ad).length ≤ rs.length := nodup_le q2 q3
            rw [List.length_append] at lf wle
            rw [List.length_map, List.take_length] at q4
            refine ⟨⟨fs ++ ad, w0 ++ ad, _, _, rfl, q1, q2, q3, fun r hr => ?_, List.mem_append_left _ fs0, ?_, fun r hr hn o ho => ?_⟩, ?_⟩
            · rcases List.mem_append.mp hr with hr | hr
              · exact List.mem_append_left _ (wsub r (List.mem_append_left _ hr))
              · exact List.mem_append_right _ hr
            · rw [List.length_append, List.length_append]
              simp only [List.length_cons, List.length_nil] at wle
              omega
            · rcases List.mem_append.mp hr with hr | hr
              · by_cases e : r = x
                · exact q4 o (e ▸ ho)
                · refine List.mem_append_left _ (cl r hr (fun z => ?_) o ho)
                  rcases List.mem_append.mp z with z | z
                  · exact hn (List.mem_append_left _ z)
                  · exact e (List.mem_singleton.mp z)
              · exact absurd (List.mem_append_right _ hr) hn
            · show (match H'' F1 with
                | some (.dK kvs) => 2 * (rs.length - kvs.length)
                | _ => 0) + (match H'' W1 with
                | some (.lst xs) => xs.length
                | _ => 0) < (match H' F1 with
                | some (.dK kvs) => 2 * (rs.length - kvs.length)
                | _ => 0) + (match H' W1 with
                | some (.lst xs) => xs.length
                | _ => 0)
              rw [q1.f, q1.w, R.f, R.w]
              show 2 * (rs.length - (SM (fs ++ ad)).length) + ((w0 ++ ad).map V.str).length < 2 * (rs.length - (SM fs).length) + ((w0 ++ [x]).map V.str).length
              rw [sm_len, sm_len, List.length_map, List.length_map, List.length_append, List.length_append, List.length_append]
              simp only [List.length_cons, List.length_nil]
              omega
      · rintro σ' H' Q1 Q2 hq ⟨y, e1, b, e2, q⟩
        exact ⟨y, e1, b, e2, hq _ _ q⟩
end
end Lamp
set_option maxHeartbeats 4000000
namespace Lamp
open PySem PySem.Spec PyProof.Rows L2
theorem vals_strs {xs : List Str} {us : List Value} (r : Vals (xs.map V.str) us) {i : Nat} {v : Value} (h : us[i]? = some v) : ∃ x t, xs[i]? = some x ∧ v = .str x t := by
  have hi := (List.getElem?_eq_some_iff.mp h).1
  have hl : xs.length = us.length := by
    have z := r.length
    rw [List.length_map] at z
    exact z
  obtain ⟨x, hx⟩ : ∃ x, xs[i]? = some x := ⟨xs[i]'(by omega), List.getElem?_eq_getElem _⟩
  obtain ⟨u, hu, ru⟩ := Vals.get (i := i) (x := .str x) r (by rw [List.getElem?_map, hx]; rfl)
  rw [h] at hu
  cases hu
  obtain ⟨t, rfl⟩ := ru
  exact ⟨x, t, hx, rfl⟩
/-- min(x) of a list of texts: one of them -/
def rMinS (K : PySem.W.Frag) : List V → Hp → VK → Prop := fun vs H Q => ∃ (a : Addr) (xs : List Str), vs = [.ref a] ∧ SqL K H a (xs.map V.str) ∧ xs ≠ [] ∧ ∀ m ∈ xs, Q (.str m) H
theorem argBest_le (bt : Nat → Nat → Bool) : ∀ k, argBest bt k ≤ k
  | 0 => Nat.le_refl _
  | k + 1 => by
    show (if bt (k + 1) (argBest bt k) then k + 1 else argBest bt k) ≤ k + 1
    have ih := argBest_le bt k
    split
    · exact Nat.le_refl _
    · omega
theorem cr_minS {X : Cx} (hc : X.calm = true) : CallR X (.builtin "min") (rMinS X.K) := by
  intro pins s σ H vs us Q I r h
  obtain ⟨a, xs, rfl, hs, hne, q⟩ := h
  obtain ⟨its, rv, hl, _⟩ := I.list hs
  rw [Vals.ref1 r]
  have hlen : its.length = xs.length := by
    have z := rv.length
    rw [List.length_map] at z
    exact z.symm
  have hlt : a < s.heap.objs.size := by
    obtain ⟨_, e, _⟩ := hl.isList
    exact Heap.lt_size e
  refine call_min_walk (iter_any hl.isList fun s₂ e2 st hn => ?_)
  subst e2
  have pos : 0 < its.toArray.size := by
    rw [List.size_toArray, hlen]
    exact List.length_pos_iff.mpr hne
  refine ⟨_, _, _, _, _, _, fun i j => decide ((xs.getD i Str.empty).cps.toList < (xs.getD j Str.empty).cps.toList), rfl, Walks.list (A := X.A.in1) (I.ok.hd hc) _ a hn its.toArray, st, fun b hb => ?_, pos, fun i j vi vj s' Q' E' hi hj hq => ?_, fun v h' tk hP hk => ?_⟩
  · have sz : (s.heap.push { cls := .type "list_iterator", data := .fields #[.ref a, .int 0 0] }).objs.size = s.heap.objs.size + 1 := by
      show (s.heap.objs.push _).size = _
      rw [Array.size_push]
    show b < (s.heap.push { cls := .type "list_iterator", data := .fields #[.ref a, .int 0 0] }).objs.size
    rw [sz]
    rcases List.mem_cons.mp hb with e | hb
    · rw [e]
      exact Nat.lt_succ_self _
    · rw [List.mem_singleton.mp hb]
      exact Nat.lt_succ_of_lt hlt
  · obtain ⟨x, t, hx, rfl⟩ := vals_strs rv (i := i) (v := vi) (by simpa using hi)
    obtain ⟨y, u, hy, rfl⟩ := vals_strs rv (i := j) (v := vj) (by simpa using hj)
    replace hq : Q' (.bool (decide ((xs.getD i Str.empty).cps.toList < (xs.getD j Str.empty).cps.toList))) s' := hq
    rw [List.getD_eq_getElem?_getD, List.getD_eq_getElem?_getD, hx, hy] at hq
    exact PyProof.Rows.lt_str hq
  · obtain ⟨x, t, hx, rfl⟩ := vals_strs rv (v := v) (by simpa using hP)
    refine ⟨.str x, H, I.kept fun b o eo => hk b o (fun hmem => ?_) (Heap.get?_push_of_some _ eo), ⟨t, rfl⟩, q x (List.mem_of_getElem? hx)⟩
    rcases List.mem_cons.mp hmem with e1 | hmem
    · exact absurd (e1 ▸ Heap.lt_size eo) (Nat.lt_irrefl _)
    · cases hmem
end Lamp
set_option maxHeartbeats 4000000
namespace Lamp
open PySem PySem.Spec PyProof.Rows L2
/-- min(x, default=d) of a list of nothing -/
def rMin0 (K : PySem.W.Frag) : List V → List V → Hp → VK → Prop := fun vs zs H Q => ∃ (a : Addr) (d : V), vs = [.ref a] ∧ zs = [d] ∧ SqL K H a [] ∧ Q d H
theorem cr_min0 {X : Cx} (hc : X.calm = true) (hu : X.A.units + 1 < cLine) : CallRK X (.builtin "min") ["default"] (rMin0 X.K) := by
  intro pins s σ H vs zs us ws Q I r rz h
  obtain ⟨a, d, rfl, rfl, hs, q⟩ := h
  obtain ⟨its, rv, hl, _⟩ := I.list hs
  have e0 : its = [] := List.eq_nil_of_length_eq_zero (by rw [← rv.length]; rfl)
  subst e0
  obtain ⟨u, rfl, ru⟩ := Vals.one rz
  rw [Vals.ref1 r]
  refine PySem.W.min_list_default (xs := []) (as := []) (I.ok.hd hc) hl.isList .nil ⟨fun x hx => (by cases hx), fun x hx => (by cases hx)⟩ (by show X.A.units + 1 + 0 < cLine; omega) (fun _ h' tk hk => ?_) fun y ys i v h' tk bs e => (by cases e)
  exact ⟨d, H, I.kept hk, ru, q⟩
structure TxtF (mg : Str → Option Value) : Prop where
  min : mg "min" = none
section
variable {P : Program} {w : World} {K : PySem.W.Frag} {mg : Str → Option Value} {base : Heap} {C : Addr}
/-! ### first_parted, where all hangs together -/
def spFirst (K : PySem.W.Frag) (C : Addr) : Sp := fun vs H Q _ => ∃ (h ia : Addr) (rs : List Str) (ds : List Ed), vs = [.ref h, .ref ia] ∧ HouseAt H C h rs ds ∧ SqL K H ia (rs.map V.str) ∧ rs ≠ [] ∧ rs.Nodup ∧ rs.length < 60 ∧ (∀ d ∈ ds, d.1 ∈ rs ∧ d.2 ∈ rs ∧ d.1 ≠ d.2) ∧ ds.length < 1000 ∧ (∀ a ∈ rs, ∀ b ∈ rs, Conn ds a b) ∧
  ∀ H', Same H H' → (∀ x, H' x = none → H x = none) → Q .non H'
abbrev NFp : List Str := ["house", "some", "joined", "room"]
theorem scFp : FnScope NFp ["house", "some"] (defScope s_first_parted) := ⟨rfl, rfl, rfl, by decide +kernel, rfl, by decide +kernel, by decide +kernel⟩
theorem ok_first {f : Addr} {fd : FuncData} (F : Fun K "first_parted" "first_parted" s_first_parted f fd) (T : TxtF mg) (RO : Stands P w K mg base 2 "reach" ["house", "start", "inside"] (spReach K C)) : FnOk P w K mg base CX0 3 f fd ["house", "some"] (spFirst K C) := by
  obtain ⟨fr, dr, Gr, mr, kr, br⟩ := RO
  refine F.ok scFp (fun vs H Q E h => ?_) (fun cdv A outer s H vs Q E hr h => ?_)
  · obtain ⟨h, ia, rs, ds, rfl, _⟩ := h
    rfl
  · obtain ⟨h, ia, rs, ds, rfl, hh, hia, ne, nd, hl, ends, hld, all, k⟩ := h
    have hu := Nat.lt_of_le_of_lt (Nat.add_le_add_left (show 1 ≤ 64 by decide) _) hr.units
    refine ⟨_, pss_cons (ps_set (i := 2) scFp.nd rfl (Or.inr rfl) (pe_call Gr hr (by rfl) mr kr br .nil pass0 (pa_cons (pv 0) (pa_cons (pe_callB (cr_minS rfl) (by rfl) T.min PyProof.Rows.Boot.min (pa_cons (pv 1) pa_nil)) (pa_cons (pv 1) pa_nil)))))
      (pss_one (ps_ret (pe_callBK (cr_min0 rfl hu) (by rfl) T.min PyProof.Rows.Boot.min (pa_cons
        (pe_lc (te := tVar 3) (own := [("room", 3)]) (g := gName 3) (tt := tTest (tOp (rIn K true) (tVar 3) (tVar 2))) rfl scFp.nd (pi_list (pv 1)) (blkOk_by (N := NFp) (sc := defScope s_first_parted) (by decide +kernel))
          (fun _ _ _ _ _ => pg_name (i := 3) scFp.nd rfl (Or.inl rfl)) (fun _ _ _ _ _ => by exact (pts_one (pt_cmpR op_notIn_seq (pv 3) (pv 2) (by rfl)))) (fun _ _ _ _ _ => pv 3)) pa_nil)
        (pk_cons pe_non pk_nil)))), ?_⟩
    refine ⟨_, rfl, _, rfl, ia, rs, rfl, hia, ne, fun m0 hm0 => ⟨_, rfl, h, ia, m0, rs, ds, rfl, hh, hia, nd, hl, hm0, ends, hld, fun H1 p fs ys fnd fsub fall hp hs hpp s1 o1 hn => ?_⟩⟩
    have ally : ∀ r ∈ rs, r ∈ ys := fun r hr => hp.mem_iff.mpr (fall r (all m0 hm0 r hr))
    refine ⟨_, rfl, ia, rfl, ⟨_, s1.seq hia⟩, fun D hD => ?_⟩
    have pD : p ≠ D := ne_of_none hpp hD
    refine lc_list (xs := rs.map V.str) (fun j H' => H' D = some (.lst []) ∧ H' p = some (.lst (ys.map V.str)) ∧ Same H H' ∧ ∀ x, H' x = none → H x = none) ⟨upd_same, by rw [upd_ne pD]; exact hpp, s1.trans (same_upd hD), fun x z => o1 x (none_upd z).2⟩ (fun j H' _ g => g.2.2.1.seq hia) ?_ ?_
    · rintro j v H' hv ⟨g1, g2, g3, g4⟩
      rw [List.getElem?_map] at hv
      obtain ⟨x, hx, rfl⟩ := Option.map_eq_some_iff.mp hv
      have mx := ally x (List.mem_of_getElem? hx)
      refine ⟨rfl, _, rfl, _, rfl, p, _, rfl, .inl (SqL.of g2), rfl, ?_, _, rfl, ?_⟩
      · exact List.all_eq_true.mpr fun y hy => by
          obtain ⟨z, _, rfl⟩ := List.mem_map.mp hy
          rfl
      · refine iteF2 ?_ ⟨g1, g2, g3, g4⟩
        have ei : inV (V.str x) (ys.map V.str) = true := List.any_eq_true.mpr ⟨.str x, List.mem_map.mpr ⟨x, mx, rfl⟩, by show (x == x) = true; exact beq_self_eq_true x⟩
        rw [if_pos rfl, ei]
        rfl
    · rintro H' ⟨g1, g2, g3, g4⟩
      exact ⟨D, _, rfl, rfl, SqL.of g1, k H' g3 g4⟩
end
end Lamp
set_option maxHeartbeats 8000000
namespace Lamp
open PySem PySem.Spec PyProof.Rows L2
/-! ### towards -/
/-- a dict from rooms to values -/
def TM (fs : List Str) (nv : Str → V) : List (Key × V) := fs.map fun r => ((Sum.inr r : Key), nv r)
theorem tm_len {fs : List Str} {nv : Str → V} : (TM fs nv).length = fs.length := List.length_map _
theorem tm_isSome {nv : Str → V} {r : Str} : ∀ {fs : List Str}, (valV (TM fs nv) (Sum.inr r)).isSome = decide (r ∈ fs)
  | [] => rfl
  | x :: fs => by
    by_cases e : x = r
    · subst e
      simp [TM, valV]
    · have ih := tm_isSome (nv := nv) (r := r) (fs := fs)
      have z : valV (TM (x :: fs) nv) (Sum.inr r) = valV (TM fs nv) (Sum.inr r) := by simp [TM, valV, e]
      rw [z, ih]
      exact decide_eq_decide.mpr ⟨fun m => List.mem_cons_of_mem _ m, fun m => by
        rcases List.mem_cons.mp m with y | y
        · exact absurd y.symm e
        · exact y⟩
def putV (nv : Str → V) (r : Str) (v : V) : Str → V := fun x => if x = r then v else nv x
theorem tm_new {nv : Str → V} {r : Str} {v : V} {fs : List Str} (m : r ∉ fs) : putK (TM fs nv) (Sum.inr r) v = TM (fs ++ [r]) (putV nv r v) := by
  unfold putK
  have a : ¬ ((TM fs nv).any fun kv => decide (kv.1 = (Sum.inr r : Key))) = true := fun z => by
    obtain ⟨kv, h1, h2⟩ := List.any_eq_true.mp z
    obtain ⟨x, hx, rfl⟩ := List.mem_map.mp h1
    exact m (Sum.inr.inj (of_decide_eq_true h2) ▸ hx)
  rw [if_neg a]
  unfold TM
  rw [List.map_append]
  congr 1
  · refine List.map_congr_left fun x hx => ?_
    have n : x ≠ r := fun z => m (z ▸ hx)
    show (_, nv x) = (_, putV nv r v x)
    rw [putV, if_neg n]
  · show [(Sum.inr r, v)] = [(Sum.inr r, putV nv r v r)]
    rw [putV, if_pos rfl]
/-- each room found but the root leads to one beside it that was found earlier: d tells when -/
structure Led (ds : List Ed) (root : Str) (fs : List Str) (nv : Str → V) (d : Str → Nat) : Prop where
  top : nv root = .non
  step : ∀ r ∈ fs, r ≠ root → ∃ q ∈ fs, nv r = .str q ∧ r ∈ nearOf ds q ∧ d q < d r
/-- the dict and the list as they stand -/
structure TInv (H0 H : Hp) (fo wa : Addr) (fs ws : List Str) (nv : Str → V) : Prop where
  f : H fo = some (.dK (TM fs nv))
  w : H wa = some (.lst (ws.map V.str))
  newF : H0 fo = none
  newW : H0 wa = none
  same : Same H0 H
  gone : ∀ x, H x = none → H0 x = none
theorem TInv.wf {H0 H : Hp} {fo wa : Addr} {fs ws : List Str} {nv : Str → V} (R : TInv H0 H fo wa fs ws nv) : wa ≠ fo := fun z => by
  have e := R.f
  rw [← z, R.w] at e
  cases e
theorem TInv.setW {H0 H : Hp} {fo wa : Addr} {fs ws vs : List Str} {nv : Str → V} (R : TInv H0 H fo wa fs ws nv) : TInv H0 (upd H wa (.lst (vs.map V.str))) fo wa fs vs nv := by
  refine ⟨by rw [upd_ne R.wf.symm]; exact R.f, upd_same, R.newF, R.newW, fun x o e => ?_, fun x z => R.gone x (none_upd z).2⟩
  rw [upd_ne (ne_of_none e R.newW)]
  exact R.same x o e
theorem TInv.setF {H0 H : Hp} {fo wa : Addr} {fs ws gs : List Str} {nv nu : Str → V} (R : TInv H0 H fo wa fs ws nv) : TInv H0 (upd H fo (.dK (TM gs nu))) fo wa gs ws nu := by
  refine ⟨upd_same, by rw [upd_ne R.wf]; exact R.w, R.newF, R.newW, fun x o e => ?_, fun x z => R.gone x (none_upd z).2⟩
  rw [upd_ne (ne_of_none e R.newF)]
  exact R.same x o e
theorem TInv.ext {H0 H H' : Hp} {fo wa : Addr} {fs ws : List Str} {nv : Str → V} (R : TInv H0 H fo wa fs ws nv) (s : Same H H') (g : ∀ x, H' x = none → H x = none) : TInv H0 H' fo wa fs ws nv :=
  ⟨s _ _ R.f, s _ _ R.w, R.newF, R.newW, R.same.trans s, fun x z => R.gone x (g x z)⟩
section
variable {P : Program} {w : World} {K : PySem.W.Frag} {mg : Str → Option Value} {base : Heap} {C : Addr}
def spTowards (K : PySem.W.Frag) (C : Addr) : Sp := fun vs H Q _ => ∃ (h : Addr) (s0 : Str) (rs : List Str) (ds : List Ed), vs = [.ref h, .str s0] ∧ HouseAt H C h rs ds ∧ rs.length < 60 ∧ s0 ∈ rs ∧ (∀ d ∈ ds, d.1 ∈ rs ∧ d.2 ∈ rs ∧ d.1 ≠ d.2) ∧
  ∀ H' p fs nv d, fs.Nodup → (∀ r ∈ fs, r ∈ rs) → (∀ r, Conn ds s0 r → r ∈ fs) → s0 ∈ fs → Led ds s0 fs nv d → H' p = some (.dK (TM fs nv)) → Same H H' → (∀ x, H' x = none → H x = none) → H p = none → Q (.ref p) H'
abbrev NTo : List Str := ["house", "root", "steps", "waiting", "room", "other"]
theorem scTo : FnScope NTo ["house", "root"] (defScope s_towards) := ⟨rfl, rfl, rfl, by decide +kernel, rfl, by decide +kernel, by decide +kernel⟩
theorem ok_towards {f : Addr} {fd : FuncData} (F : Fun K "towards" "towards" s_towards f fd) (M : HasH P w K mg base C) : FnOk P w K mg base CX0 2 f fd ["house", "root"] (spTowards K C) := by
  obtain ⟨fn, dn, mn, Gn, bn⟩ := M.near
  refine F.ok scTo (fun vs H Q E h => ?_) (fun cdv A outer s H vs Q E hr h => ?_)
  · obtain ⟨h, s0, rs, ds, rfl, _⟩ := h
    rfl
  · obtain ⟨h, s0, rs, ds, rfl, hh, hl, m0, ends, k⟩ := h
    have hu := Nat.lt_of_le_of_lt (Nat.add_le_add_left (show 1 ≤ 64 by decide) _) hr.units
    refine ⟨_, pss_cons (ps_set (i := 2) scTo.nd rfl (Or.inl rfl) (pe_disp (pps_cons (pv 1) pe_non pps_nil) (by rfl) (by rfl) (by simp) (by decide)))
      (pss_cons (ps_set (i := 3) scTo.nd rfl (Or.inl rfl) (pe_lst (pa_cons (pv 1) pa_nil)))
      (pss_cons (ps_while PassesOwn.never (pt_truth (pv 3) (fun _ => rfl))
        (pss_cons (ps_set (i := 4) scTo.nd rfl (Or.inl rfl) (pe_bm0 PySem.F.plainAttrs_list PySem.F.slot_list_pop PySem.F.type_list_pop mt_pop (pv 3)))
        (pss_one (ps_for PassesOwn.never rfl (pi_list (pe_meth (pv 0) M.cls.cls mn Gn hr bn .nil pass0 (pa_cons (pv 4) pa_nil))) (pg_name (i := 5) scTo.nd rfl (Or.inl rfl))
          (pss_one (ps_if (pt_cmp (pc_dnotin hu (pv 5) (pv 2)) (by rfl))
            (pss_cons (ps_dput hu (pv 2) (pv 5) (pv 4) (by rfl)) (pss_one (ps_expr (pe_bm PySem.F.plainAttrs_list PySem.F.slot_list_append PySem.F.type_list_append mt_append (pv 3) (pa_cons (pv 5) pa_nil) (by rfl) (by rfl)))))
            pss_nil))))))
      (pss_one (ps_ret (pv 2))))), ?_⟩
    refine fun F1 hF1 => ⟨_, rfl, upd_same, [(Sum.inr s0, .non)], rfl, (by show 1 ≤ 15; decide), ?_⟩
    rw [show mergeK ([] : List (Key × V)) [(Sum.inr s0, V.non)] = TM [s0] (fun _ => .non) from rfl]
    refine ⟨_, rfl, by show 1 ≤ sizeLine; decide, fun W1 hW1 => ?_⟩
    have nW2 := (none_upd (none_upd hW1).2).2
    have R0 : TInv H (upd (upd (upd H F1 (.dK [])) F1 (.dK (TM [s0] fun _ => .non))) W1 (.lst ([s0].map V.str))) F1 W1 [s0] [s0] (fun _ => .non) := by
      have wf : F1 ≠ W1 := fun z => (none_upd hW1).1 z.symm
      refine ⟨by rw [upd_ne wf, upd_same], upd_same, hF1, nW2, fun x o e => ?_, fun x z => (none_upd (none_upd (none_upd z).2).2).2⟩
      rw [upd_ne (ne_of_none e nW2), upd_ne (ne_of_none e hF1), upd_ne (ne_of_none e hF1)]
      exact e
    have eσ : ((L2.start NTo [V.ref h, V.str s0]).set 2 (some (V.ref F1))).set 3 (some (V.ref W1)) = [some (.ref h), some (.str s0), some (.ref F1), some (.ref W1), none, none] := rfl
    dsimp only [gName]
    rw [eσ]
    refine while_ex (fun _ _ => False) (fun _ _ z => z.elim) (fun _ => ?_)
    refine while_by (fun σ' H' => ∃ (fs ws : List Str) (nv : Str → V) (d : Str → Nat) (v4 v5 : Option V), σ' = [some (.ref h), some (.str s0), some (.ref F1), some (.ref W1), v4, v5] ∧ TInv H H' F1 W1 fs ws nv ∧ fs.Nodup ∧ (∀ r ∈ fs, r ∈ rs) ∧ (∀ r ∈ ws, r ∈ fs) ∧ s0 ∈ fs ∧ ws.length ≤ fs.length ∧ (∀ r ∈ fs, r ∉ ws → ∀ o ∈ nearOf ds r, o ∈ fs) ∧ Led ds s0 fs nv d ∧ (∀ r ∈ fs, d r < fs.length))
      (fun _ H' => (match H' F1 with
        | some (.dK kvs) => 2 * (rs.length - kvs.length)
        | _ => 0) + (match H' W1 with
        | some (.lst xs) => xs.length
        | _ => 0)) ⟨[s0], [s0], _, fun _ => 0, _, _, rfl, R0, List.nodup_cons.mpr ⟨by simp, List.nodup_nil⟩, fun r hr => by rw [List.mem_singleton.mp hr]; exact m0, fun r hr => hr, List.mem_singleton.mpr rfl, Nat.le_refl _, fun r hr hn => absurd hr hn, ⟨rfl, fun r hr n => absurd (List.mem_singleton.mp hr) n⟩, fun r hr => by show 0 < 1; decide⟩ ?_ ?_
    · rintro σ' H' ⟨fs, ws, nv, d, v4, v5, rfl, R, fnd, fsub, wsub, fs0, wle, cl, led, dl⟩
      refine ⟨_, rfl, _, .inl ⟨_, SqL.of R.w, rfl⟩, ?_⟩
      cases we : ws.reverse with
      | nil =>
        obtain rfl : ws = [] := List.reverse_eq_nil_iff.mp we
        refine iteF ?_
        exact ⟨_, rfl, k _ F1 fs nv d fnd fsub (fun r c => closed_conn (fun q hq o ho => cl q hq (by simp) o ho) c fs0) fs0 led R.f R.same R.gone R.newF⟩
      | cons x wr =>
        obtain ⟨w0, rfl⟩ : ∃ w0, ws = w0 ++ [x] := ⟨wr.reverse, by rw [← List.reverse_reverse ws, we, List.reverse_cons]⟩
        refine iteT2 (by simp) ?_
        have xf : x ∈ fs := wsub x (List.mem_append_right _ (List.mem_singleton.mpr rfl))
        have mx : x ∈ rs := fsub x xf
        have R1 : TInv H (upd H' W1 (.lst (w0.map V.str))) F1 W1 fs w0 nv := R.setW
        have ew : ((w0 ++ [x]).map V.str).dropLast = w0.map V.str := by
          rw [List.map_append]
          exact List.dropLast_concat
        have lw : ((w0 ++ [x]).map V.str)[((w0 ++ [x]).map V.str).length - 1]? = some (.str x) := by
          simp
        have hat := hh.same R1.same
        obtain ⟨dx, ra, da, na, tsd, i1, i2, i3, i4, nf, i5, i6⟩ := hat.at_
        refine ⟨_, rfl, .inl ⟨rfl, _, SqL.of R.w⟩, W1, _, .str x, rfl, rfl, R.w, lw, ?_⟩
        rw [ew]
        refine ⟨_, rfl, h, dx, _, rfl, i1, by rfl, _, rfl, h, x, rs, ds, rfl, hh.same R1.same, mx, fun H4 p s4 o4 n4 e4 => ?_⟩
        have R4 := R1.ext s4 o4
        have pF : p ≠ F1 := (ne_of_none R1.f n4).symm
        have pW : p ≠ W1 := (ne_of_none R1.w n4).symm
        refine ⟨p, rfl, ⟨_, SqL.of e4⟩, ?_⟩
        refine for_it (walk_list (xs := (nearOf ds x).map V.str)) (fun j σ'' H'' => ∃ (ad : List Str) (nu : Str → V) (e : Str → Nat) (u5 : Option V), σ'' = [some (.ref h), some (.str s0), some (.ref F1), some (.ref W1), some (.str x), u5] ∧ TInv H H'' F1 W1 (fs ++ ad) (w0 ++ ad) nu ∧ (fs ++ ad).Nodup ∧ (∀ r ∈ fs ++ ad, r ∈ rs) ∧ (∀ o ∈ (nearOf ds x).take j, o ∈ fs ++ ad) ∧ H'' p = some (.lst ((nearOf ds x).map V.str)) ∧ Led ds s0 (fs ++ ad) nu e ∧ ∀ r ∈ fs ++ ad, e r < (fs ++ ad).length) ?_ ?_ ?_ ?_
        · exact ⟨[], nv, d, _, rfl, by rw [List.append_nil, List.append_nil]; exact R4, by rw [List.append_nil]; exact fnd, by rw [List.append_nil]; exact fsub, fun o ho => by simp at ho, e4, by rw [List.append_nil]; exact led, by rw [List.append_nil]; exact dl⟩
        · rintro j σ'' H'' _ ⟨ad, nu, e, u5, rfl, q1, q2, q3, q4, q5, q6, q7⟩
          exact SqL.of q5
        · rintro j v σ'' H'' H5 hj ⟨ad, nu, e, u5, rfl, q1, q2, q3, q4, q5, q6, q7⟩ ⟨rfl, hv⟩
          have hj2 : j < (nearOf ds x).length := by simpa using hj
          obtain rfl : V.str (nearOf ds x)[j] = v := by
            rw [List.getElem?_map, List.getElem?_eq_getElem hj2] at hv
            exact Option.some.inj hv
          have om := List.getElem_mem hj2
          generalize eo : (nearOf ds x)[j] = o at om
          have tk : (nearOf ds x).take (j + 1) = (nearOf ds x).take j ++ [o] := by
            rw [← eo]
            exact (List.take_append_getElem hj2).symm
          have mo : o ∈ rs := by
            obtain ⟨d, hd, z⟩ := near_mem.mp om
            obtain ⟨h1, h2, _⟩ := ends d hd
            rcases z with ⟨_, e⟩ | ⟨_, _, e⟩
            · exact e ▸ h2
            · exact e ▸ h1
          have lf : (fs ++ ad).length ≤ rs.length := nodup_le q2 q3
          refine ⟨_, rfl, _, rfl, F1, _, rfl, DGet.k (k := Sum.inr o) q1.f, _, rfl, ?_⟩
          rw [tm_isSome]
          by_cases m : o ∈ fs ++ ad
          · refine iteF2 (by rw [decide_eq_true m]; rfl) ⟨ad, nu, e, _, rfl, q1, q2, q3, fun z hz => ?_, q5, q6, q7⟩
            rw [tk] at hz
            rcases List.mem_append.mp hz with hz | hz
            · exact q4 z hz
            · rw [List.mem_singleton.mp hz]
              exact m
          · refine iteT2 (by rw [decide_eq_false m]; rfl) ?_
            refine ⟨_, rfl, _, rfl, _, rfl, F1, _, rfl, DPut.k (k := Sum.inr o) q1.f (by rw [tm_len]; exact Nat.lt_of_le_of_lt lf (Nat.lt_trans hl (by decide))), ?_⟩
            rw [tm_new m, List.append_assoc]
            have q8 : TInv H (upd H5 F1 (.dK (TM (fs ++ (ad ++ [o])) (putV nu o (.str x))))) F1 W1 (fs ++ (ad ++ [o])) (w0 ++ ad) (putV nu o (.str x)) := q1.setF
            have q9 : TInv H (upd (upd H5 F1 (.dK (TM (fs ++ (ad ++ [o])) (putV nu o (.str x))))) W1 (.lst ((w0 ++ (ad ++ [o])).map V.str))) F1 W1 (fs ++ (ad ++ [o])) (w0 ++ (ad ++ [o])) (putV nu o (.str x)) := q8.setW
            have em : (w0 ++ (ad ++ [o])).map V.str = (w0 ++ ad).map V.str ++ [V.str o] := by simp
            rw [em] at q9
            refine ⟨_, rfl, .inl ⟨rfl, _, SqL.of q8.w⟩, _, rfl, W1, _, .str o, rfl, rfl, q8.w, ?_, ?_⟩
            · have l1 : ((w0 ++ ad).map V.str).length < 1000 := by
                rw [List.length_map, List.length_append]
                rw [List.length_append] at lf wle
                omega
              exact Nat.lt_trans l1 (by decide)
            · have no : o ≠ s0 := fun z => m (z ▸ List.mem_append_left _ fs0)
              have old : ∀ r ∈ fs ++ ad, r ≠ o := fun r hr z => m (z ▸ hr)
              refine ⟨ad ++ [o], putV nu o (.str x), fun r => if r = o then (fs ++ ad).length else e r, _, rfl, q9, ?_, fun r hr => ?_, fun z hz => ?_, ?_, ⟨?_, fun r hr n => ?_⟩, fun r hr => ?_⟩
              · rw [← List.append_assoc]
                exact List.nodup_append.mpr ⟨q2, List.nodup_cons.mpr ⟨by simp, List.nodup_nil⟩, fun y hy z hz e => m (by rw [← List.mem_singleton.mp hz, ← e]; exact hy)⟩
              · rw [← List.append_assoc] at hr
                rcases List.mem_append.mp hr with hr | hr
                · exact q3 r hr
                · rw [List.mem_singleton.mp hr]
                  exact mo
              · rw [← List.append_assoc]
                rw [tk] at hz
                rcases List.mem_append.mp hz with hz | hz
                · exact List.mem_append_left _ (q4 z hz)
                · exact List.mem_append_right _ hz
              · rw [upd_ne pW, upd_ne pF]
                exact q5
              · rw [putV, if_neg no.symm]
                exact q6.top
              · rw [← List.append_assoc] at hr ⊢
                rcases List.mem_append.mp hr with hr | hr
                · obtain ⟨q, hq, z1, z2, z3⟩ := q6.step r hr n
                  exact ⟨q, List.mem_append_left _ hq, by rw [putV, if_neg (old r hr)]; exact z1, z2, by rw [if_neg (old r hr), if_neg (old q hq)]; exact z3⟩
                · have er := List.mem_singleton.mp hr
                  subst er
                  have hx : x ∈ fs ++ ad := List.mem_append_left _ xf
                  exact ⟨x, List.mem_append_left _ hx, by rw [putV, if_pos rfl], om, by rw [if_pos rfl, if_neg (old x hx)]; exact q7 x hx⟩
              · rw [← List.append_assoc] at hr ⊢
                rw [List.length_append (bs := [o])]
                show (if r = o then (fs ++ ad).length else e r) < (fs ++ ad).length + [o].length
                rcases List.mem_append.mp hr with hr | hr
                · rw [if_neg (old r hr)]
                  exact Nat.lt_of_lt_of_le (q7 r hr) (Nat.le_add_right _ _)
                · rw [List.mem_singleton.mp hr, if_pos rfl]
                  exact Nat.lt_succ_self _
        · rintro σ'' H'' ⟨ad, nu, e, u5, rfl, q1, q2, q3, q4, q5, q6, q7⟩
          have lf : (fs ++ ad).length ≤ rs.length := nodup_le q2 q3
          rw [List.length_append] at lf wle
          rw [List.length_map, List.take_length] at q4
          refine ⟨⟨fs ++ ad, w0 ++ ad, nu, e, _, _, rfl, q1, q2, q3, fun r hr => ?_, List.mem_append_left _ fs0, ?_, fun r hr hn o ho => ?_, q6, q7⟩, ?_⟩
          · rcases List.mem_append.mp hr with hr | hr
            · exact List.mem_append_left _ (wsub r (List.mem_append_left _ hr))
            · exact List.mem_append_right _ hr
          · rw [List.length_append, List.length_append]
            simp only [List.length_cons, List.length_nil] at wle
            omega
          · rcases List.mem_append.mp hr with hr | hr
            · by_cases e : r = x
              · exact q4 o (e ▸ ho)
              · refine List.mem_append_left _ (cl r hr (fun z => ?_) o ho)
                rcases List.mem_append.mp z with z | z
                · exact hn (List.mem_append_left _ z)
                · exact e (List.mem_singleton.mp z)
            · exact absurd (List.mem_append_right _ hr) hn
          · show (match H'' F1 with
              | some (.dK kvs) => 2 * (rs.length - kvs.length)
              | _ => 0) + (match H'' W1 with
              | some (.lst xs) => xs.length
              | _ => 0) < (match H' F1 with
              | some (.dK kvs) => 2 * (rs.length - kvs.length)
              | _ => 0) + (match H' W1 with
              | some (.lst xs) => xs.length
              | _ => 0)
            rw [q1.f, q1.w, R.f, R.w]
            show 2 * (rs.length - (TM (fs ++ ad) nu).length) + ((w0 ++ ad).map V.str).length < 2 * (rs.length - (TM fs nv).length) + ((w0 ++ [x]).map V.str).length
            rw [tm_len, tm_len, List.length_map, List.length_map, List.length_append, List.length_append, List.length_append]
            simp only [List.length_cons, List.length_nil]
            omega
    · rintro σ' H' Q1 Q2 hq ⟨y, e1, b, e2, q⟩
      exact ⟨y, e1, b, e2, hq _ _ q⟩
end
end Lamp
set_option maxHeartbeats 8000000
namespace Lamp
open PySem PySem.Spec PyProof.Rows L2
/-- the heap has grown: what was tracked stands, what is free was free -/
structure Gr (H H' : Hp) : Prop where
  s : Same H H'
  n : ∀ x, H' x = none → H x = none
theorem Gr.refl (H : Hp) : Gr H H := ⟨fun _ _ h => h, fun _ h => h⟩
theorem Gr.trans {H H1 H2 : Hp} (a : Gr H H1) (b : Gr H1 H2) : Gr H H2 := ⟨a.s.trans b.s, fun x z => a.n x (b.n x z)⟩
theorem Gr.upd {H : Hp} {a : Addr} {o : HO} (h : H a = none) : Gr H (upd H a o) := ⟨same_upd h, fun _ z => (none_upd z).2⟩
/-- grown, and what is new in it stored anew -/
theorem Gr.put {H H' : Hp} {a : Addr} {o : HO} (g : Gr H H') (h : H a = none) : Gr H (L2.upd H' a o) := ⟨fun x u e => by
  rw [upd_ne (ne_of_none e h)]
  exact g.s x u e, fun _ z => g.n _ (none_upd z).2⟩
theorem tm_get {nv : Str → V} {r : Str} : ∀ {fs : List Str}, r ∈ fs → valV (TM fs nv) (Sum.inr r) = some (nv r)
  | [], m => by cases m
  | x :: fs, m => by
    by_cases e : x = r
    · subst e
      simp [TM, valV]
    · have ih := tm_get (nv := nv) (r := r) (fs := fs) (by
        rcases List.mem_cons.mp m with z | z
        · exact absurd z.symm e
        · exact z)
      rw [← ih]
      simp [TM, valV, e]
/-- the way that nv leads from r to root -/
structure WayTo (root : Str) (fs : List Str) (nv : Str → V) (r : Str) (w : List Str) : Prop where
  head : w.head? = some r
  last : w.getLast? = some root
  mem : ∀ x ∈ w, x ∈ fs
  nodup : w.Nodup
  step : ∀ i a b, w[i]? = some a → w[i + 1]? = some b → nv a = .str b
section
variable {P : Program} {w : World} {K : PySem.W.Frag} {mg : Str → Option Value} {base : Heap} {C : Addr}
def spClimb (K : PySem.W.Frag) : Sp := fun vs H Q _ => ∃ (p : Addr) (r root : Str) (fs : List Str) (ds : List Ed) (nv : Str → V) (d : Str → Nat), vs = [.ref p, .str r] ∧ H p = some (.dK (TM fs nv)) ∧ r ∈ fs ∧ Led ds root fs nv d ∧ fs.length < 60 ∧
  ∀ H' q u, WayTo root fs nv r u → H' q = some (.lst (u.map V.str)) → Gr H H' → H q = none → Q (.ref q) H'
abbrev NCl : List Str := ["steps", "room", "rooms"]
theorem scCl : FnScope NCl ["steps", "room"] (defScope s_climb) := ⟨rfl, rfl, rfl, by decide +kernel, rfl, by decide +kernel, by decide +kernel⟩
theorem ok_climb {f : Addr} {fd : FuncData} (F : Fun K "climb" "climb" s_climb f fd) : FnOk P w K mg base CX0 1 f fd ["steps", "room"] (spClimb K) := by
  refine F.ok scCl (fun vs H Q E h => ?_) (fun cdv A outer s H vs Q E hr h => ?_)
  · obtain ⟨p, r, root, fs, ds, nv, d, rfl, _⟩ := h
    rfl
  · obtain ⟨p, r, root, fs, ds, nv, d, rfl, hp, mr, led, hl, k⟩ := h
    have hu := Nat.lt_of_le_of_lt (Nat.add_le_add_left (show 1 ≤ 64 by decide) _) hr.units
    refine ⟨_, pss_cons (ps_set (i := 2) scCl.nd rfl (Or.inl rfl) (pe_lst (pa_cons (pv 1) pa_nil)))
      (pss_cons (ps_while PassesOwn.never (pt_cmp (pc_notN (pe_dget hu (pv 0) (pv 1) (fun _ _ => rfl))) (by rfl))
        (pss_cons (ps_set (i := 1) scCl.nd rfl (Or.inl rfl) (pe_dget hu (pv 0) (pv 1) (fun _ _ => rfl)))
        (pss_one (ps_expr (pe_bm PySem.F.plainAttrs_list PySem.F.slot_list_append PySem.F.type_list_append mt_append (pv 2) (pa_cons (pv 1) pa_nil) (by rfl) (by rfl))))))
      (pss_one (ps_ret (pv 2)))), ?_⟩
    refine ⟨_, rfl, by show 1 ≤ sizeLine; decide, fun W hW => ?_⟩
    have pW : p ≠ W := ne_of_none hp hW
    have eσ : ((L2.start NCl [V.ref p, V.str r]).set 2 (some (V.ref W))) = [some (.ref p), some (.str r), some (.ref W)] := rfl
    dsimp only [gName]
    rw [eσ]
    refine while_ex (fun _ _ => False) (fun _ _ z => z.elim) (fun _ => ?_)
    refine while_by (fun σ' H' => ∃ (x : Str) (u : List Str), σ' = [some (.ref p), some (.str x), some (.ref W)] ∧ H' W = some (.lst (u.map V.str)) ∧ Gr H H' ∧ x ∈ fs ∧ u.head? = some r ∧ u.getLast? = some x ∧ (∀ y ∈ u, y ∈ fs ∧ d x ≤ d y) ∧ u.Nodup ∧ (∀ i a b, u[i]? = some a → u[i + 1]? = some b → nv a = .str b))
      (fun σ' _ => match σ' with
        | [_, some (.str x), _] => d x
        | _ => 0) ⟨r, [r], rfl, upd_same, Gr.upd hW, mr, rfl, rfl, fun y hy => by rw [List.mem_singleton.mp hy]; exact ⟨mr, Nat.le_refl _⟩, List.nodup_cons.mpr ⟨by simp, List.nodup_nil⟩, fun i a b h1 h2 => by simp at h2⟩ ?_ ?_
    · rintro σ' H' ⟨x, u, rfl, q1, q2, q3, q4, q5, q6, q7, q8⟩
      have hp' := q2.s _ _ hp
      have g := DGet.k (k := Sum.inr x) hp'
      rw [tm_get q3] at g
      refine ⟨_, rfl, _, rfl, p, _, rfl, g, _, rfl, ?_⟩
      by_cases ex : x = root
      · subst ex
        rw [led.top]
        refine iteF2 rfl ⟨_, rfl, k _ W u ⟨q4, q5, fun y hy => (q6 y hy).1, q7, q8⟩ q1 q2 hW⟩
      · obtain ⟨q, hq, e1, e2, e3⟩ := led.step x q3 ex
        rw [e1]
        refine iteT2 rfl ?_
        rw [e1] at g
        have lu : u.length ≤ fs.length := nodup_le q7 fun y hy => (q6 y hy).1
        refine ⟨_, rfl, _, rfl, p, _, rfl, g, ?_⟩
        refine ⟨_, rfl, .inl ⟨rfl, _, SqL.of q1⟩, _, rfl, W, _, .str q, rfl, rfl, q1, ?_, ?_⟩
        · rw [List.length_map]
          exact Nat.lt_trans (Nat.lt_of_le_of_lt lu hl) (by decide)
        · refine ⟨⟨q, u ++ [q], rfl, ?_, q2.put hW, hq, ?_, by simp, fun y hy => ?_, ?_, fun i a b h1 h2 => ?_⟩, e3⟩
          · rw [upd_same, List.map_append]
            rfl
          · cases u with
            | nil => cases q4
            | cons z u => exact q4
          · rcases List.mem_append.mp hy with hy | hy
            · exact ⟨(q6 y hy).1, Nat.le_trans (Nat.le_of_lt e3) (q6 y hy).2⟩
            · rw [List.mem_singleton.mp hy]
              exact ⟨hq, Nat.le_refl _⟩
          · refine List.nodup_append.mpr ⟨q7, List.nodup_cons.mpr ⟨by simp, List.nodup_nil⟩, fun y hy z hz e => ?_⟩
            rw [List.mem_singleton.mp hz] at e
            have := (q6 y hy).2
            rw [e] at this
            omega
          · rcases Nat.lt_trichotomy (i + 1) u.length with lt | eq | gt
            · rw [List.getElem?_append_left (by omega)] at h1
              rw [List.getElem?_append_left lt] at h2
              exact q8 i a b h1 h2
            · rw [List.getElem?_append_left (by omega)] at h1
              rw [List.getElem?_append_right (by omega), eq, Nat.sub_self] at h2
              have eb : q = b := Option.some.inj h2
              rw [List.getLast?_eq_getElem?, show u.length - 1 = i by omega, h1] at q5
              rw [Option.some.inj q5, e1, eb]
            · rw [List.getElem?_append_right (by omega)] at h2
              rw [List.getElem?_eq_none (by show 1 ≤ i + 1 - u.length; omega)] at h2
              cases h2
    · rintro σ' H' Q1 Q2 hq ⟨v, e1, y, e2, a, o, e3, g, c, ec, q⟩
      exact ⟨v, e1, y, e2, a, o, e3, g, c, ec, hq _ _ q⟩
def spWay (K : PySem.W.Frag) (C : Addr) : Sp := fun vs H Q _ => ∃ (h : Addr) (x y : Str) (rs : List Str) (ds : List Ed), vs = [.ref h, .str x, .str y] ∧ HouseAt H C h rs ds ∧ rs.length < 60 ∧ x ∈ rs ∧ y ∈ rs ∧ (∀ d ∈ ds, d.1 ∈ rs ∧ d.2 ∈ rs ∧ d.1 ≠ d.2) ∧ (∀ a ∈ rs, ∀ b ∈ rs, Conn ds a b) ∧
  ∀ H' q fs nv d u, fs.Nodup → (∀ r, r ∈ fs ↔ r ∈ rs) → Led ds y fs nv d → WayTo y fs nv x u → H' q = some (.lst (u.map V.str)) → Gr H H' → H q = none → Q (.ref q) H'
theorem scWB : FnScope ["house", "one", "other"] ["house", "one", "other"] (defScope s_way_between) := ⟨rfl, rfl, rfl, by decide +kernel, rfl, by decide +kernel, by decide +kernel⟩
theorem ok_wayB {f : Addr} {fd : FuncData} (F : Fun K "way_between" "way_between" s_way_between f fd) (TO : Stands P w K mg base 2 "towards" ["house", "root"] (spTowards K C)) (CO : Stands P w K mg base 1 "climb" ["steps", "room"] (spClimb K)) :
    FnOk P w K mg base CX0 3 f fd ["house", "one", "other"] (spWay K C) := by
  obtain ⟨ft, dt, Gt, mt, kt, bt⟩ := TO
  obtain ⟨fc, dc, Gc, mc, kc, bc⟩ := CO
  refine F.ok scWB (fun vs H Q E h => ?_) (fun cdv A outer s H vs Q E hr h => ?_)
  · obtain ⟨h, x, y, rs, ds, rfl, _⟩ := h
    rfl
  · obtain ⟨h, x, y, rs, ds, rfl, hh, hl, mx, my, en, jn, k⟩ := h
    refine ⟨_, pss_one (ps_ret (pe_call Gc (hr.mono (by decide)) (by rfl) mc kc bc .nil pass0 (pa_cons (pe_call Gt hr (by rfl) mt kt bt .nil pass0 (pa_cons (pv 0) (pa_cons (pv 2) pa_nil))) (pa_cons (pv 1) pa_nil)))), ?_⟩
    refine ⟨_, rfl, _, rfl, h, y, rs, ds, rfl, hh, hl, my, en, fun H1 p fs nv d f1 f2a f2b f3 led e1 s1 o1 n1 => ?_⟩
    have g1 : Gr H H1 := ⟨s1, o1⟩
    have f2 : ∀ r, r ∈ fs ↔ r ∈ rs := fun r => ⟨f2a r, fun hr => f2b r (jn _ my _ hr)⟩
    refine ⟨_, rfl, p, x, y, fs, ds, nv, d, rfl, e1, (f2 x).mpr mx, led, Nat.lt_of_le_of_lt (nodup_le f1 fun r hr => (f2 r).mp hr) hl, fun H2 q u w1 e2 g2 n2 => ?_⟩
    exact k H2 q fs nv d u f1 f2 led w1 e2 (g1.trans g2) (g1.n _ n2)
theorem scWy : FnScope ["house", "one", "other"] ["house", "one", "other"] (defScope s_way) := ⟨rfl, rfl, rfl, by decide +kernel, rfl, by decide +kernel, by decide +kernel⟩
theorem ok_way {f : Addr} {fd : FuncData} (F : Fun K "way" "way" s_way f fd) (NO : Stands P w K mg base 2 "need_room" ["house", "thing"] (spNeed C)) (BO : Stands P w K mg base 3 "way_between" ["house", "one", "other"] (spWay K C)) :
    FnOk P w K mg base CX0 4 f fd ["house", "one", "other"] (spWay K C) := by
  obtain ⟨fn, dn, Gn, mn, kn, bn⟩ := NO
  obtain ⟨fb, db, Gb, mb, kb, bb⟩ := BO
  refine F.ok scWy (fun vs H Q E h => ?_) (fun cdv A outer s H vs Q E hr h => ?_)
  · obtain ⟨h, x, y, rs, ds, rfl, _⟩ := h
    rfl
  · obtain ⟨h, x, y, rs, ds, rfl, hh, hl, mx, my, en, jn, k⟩ := h
    refine ⟨_, pss_cons (ps_expr (pe_call Gn (hr.mono (by decide)) (by rfl) mn kn bn .nil pass0 (pa_cons (pv 0) (pa_cons (pv 1) pa_nil))))
      (pss_cons (ps_expr (pe_call Gn (hr.mono (by decide)) (by rfl) mn kn bn .nil pass0 (pa_cons (pv 0) (pa_cons (pv 2) pa_nil))))
      (pss_one (ps_ret (pe_call Gb hr (by rfl) mb kb bb .nil pass0 (pa_cons (pv 0) (pa_cons (pv 1) (pa_cons (pv 2) pa_nil))))))), ?_⟩
    refine ⟨_, rfl, _, rfl, h, x, rs, ds, rfl, hh, mx, ?_⟩
    refine ⟨_, rfl, _, rfl, h, y, rs, ds, rfl, hh, my, ?_⟩
    exact ⟨_, rfl, _, rfl, _, rfl, h, x, y, rs, ds, rfl, hh, hl, mx, my, en, jn, k⟩
end
end Lamp
set_option maxHeartbeats 8000000
namespace Lamp
open PySem PySem.Spec PyProof.Rows L2
theorem inv_strs {z : Str} : ∀ {xs : List Str}, inV (.str z) (xs.map V.str) = decide (z ∈ xs)
  | [] => rfl
  | x :: xs => by
    show (eqV (.str x) (.str z) || inV (.str z) (xs.map V.str)) = decide (z ∈ x :: xs)
    rw [inv_strs (xs := xs)]
    show ((x == z) || decide (z ∈ xs)) = decide (z ∈ x :: xs)
    by_cases e : x = z
    · subst e
      simp
    · have n : z ≠ x := fun q => e q.symm
      simp [e, n]
theorem flat_strs (xs : List Str) : (xs.map V.str).all flatV = true := List.all_eq_true.mpr fun v hv => by
  obtain ⟨x, _, rfl⟩ := List.mem_map.mp hv
  rfl
/-- the room may come behind the one ahead -/
def Nxt (ds : List Ed) (a z : Str) : Prop := z = a ∨ z ∈ nearOf ds a
/-- a carrying -/
structure Car (rs : List Str) (ds : List Ed) (row : List Str) : Prop where
  ne : row ≠ []
  mem : ∀ r ∈ row, r ∈ rs
  nxt : ∀ i a b, row[i]? = some a → row[i + 1]? = some b → Nxt ds a b
section
variable {P : Program} {w : World} {K : PySem.W.Frag} {mg : Str → Option Value} {base : Heap} {C : Addr}
def spMay (C : Addr) : Sp := fun vs H Q _ => ∃ (h : Addr) (v : V) (z : Str) (rs : List Str) (ds : List Ed), vs = [.ref h, v, .str z] ∧ HouseAt H C h rs ds ∧ z ∈ rs ∧ (v = .non ∨ ∃ a, v = .str a ∧ a ∈ rs ∧ Nxt ds a z) ∧ ∀ H', Gr H H' → Q (.bl true) H'
abbrev NMf : List Str := ["house", "ahead", "thing"]
theorem scMf : FnScope NMf NMf (defScope s_may_follow) := ⟨rfl, rfl, rfl, by decide +kernel, rfl, by decide +kernel, by decide +kernel⟩
theorem ok_may {f : Addr} {fd : FuncData} (F : Fun K "may_follow" "may_follow" s_may_follow f fd) (M : HasH P w K mg base C) : FnOk P w K mg base CX0 2 f fd NMf (spMay C) := by
  obtain ⟨fh, fdh, mh, Gh, bh⟩ := M.has
  obtain ⟨fn, dn, mn, Gn, bn⟩ := M.near
  refine F.ok scMf (fun vs H Q E h => ?_) (fun cdv A outer s H vs Q E hr h => ?_)
  · obtain ⟨h, v, z, rs, ds, rfl, _⟩ := h
    rfl
  · obtain ⟨h, v, z, rs, ds, rfl, hh, mz, hv, k⟩ := h
    refine ⟨_, pss_cons (ps_if (pt_not (pt_val (pe_meth (pv 0) M.cls.cls mh Gh hr bh .nil pass0 (pa_cons (pv 2) pa_nil)))) pss_dead pss_nil)
      (pss_one (ps_ret (pe_or (pe_cmp (pc_isN (pv 1))) (pe_or (pe_cmpR op_eq (pv 2) (pv 1) (nomark _)) (pe_one (pe_cmpR op_in_seq (pv 2) (pe_meth (pv 0) M.cls.cls mn Gn hr bn .nil pass0 (pa_cons (pv 1) pa_nil)) (by rfl))))))), ?_⟩
    have a' := hh
    obtain ⟨dx, ra, da, na, ts, h1, h2, h3, h4, nf, h5, h6⟩ := a'.at_
    refine ⟨_, rfl, h, dx, _, rfl, h1, by rfl, _, rfl, h, z, rs, ds, rfl, hh, _, rfl, ?_⟩
    rw [decide_eq_true mz]
    refine iteF ?_
    refine ⟨_, rfl, _, rfl, ?_⟩
    rcases hv with rfl | ⟨a, rfl, ma, nx⟩
    · exact iteT2 (by decide) (k H (Gr.refl H))
    · refine iteF2 (by simp) ⟨_, rfl, _, rfl, rfl, _, rfl, ?_⟩
      by_cases e : z = a
      · subst e
        exact iteT2 (by simp) (k H (Gr.refl H))
      · refine iteF2 (by simp [e]) ⟨_, rfl, _, rfl, h, dx, _, rfl, h1, by rfl, _, rfl, h, a, rs, ds, rfl, hh, ma, fun H' p s' n' np e' => ⟨p, _, rfl, .inl (SqL.of e'), rfl, flat_strs _, ?_⟩⟩
        have m : z ∈ nearOf ds a := by
          rcases nx with q | q
          · exact absurd q e
          · exact q
        show Q (V.bl (inV (.str z) ((nearOf ds a).map V.str))) H'
        rw [inv_strs, decide_eq_true m]
        exact k H' ⟨s', n'⟩
structure TxtC (mg : Str → Option Value) : Prop where
  len : mg "len" = none
  enu : mg "enumerate" = none
def spFault (K : PySem.W.Frag) (C : Addr) : Sp := fun vs H Q _ => ∃ (h a : Addr) (row rs : List Str) (ds : List Ed), vs = [.ref h, .ref a] ∧ HouseAt H C h rs ds ∧ SqL K H a (row.map V.str) ∧ (∀ H', Same H H' → TyX K H' (.ref a) (.type "list")) ∧ Car rs ds row ∧ ∀ H', Gr H H' → Q .non H'
abbrev NCf : List Str := ["house", "thing", "ahead", "index", "room"]
theorem scCf : FnScope NCf ["house", "thing"] (defScope s_carrying_fault) := ⟨rfl, rfl, rfl, by decide +kernel, rfl, by decide +kernel, by decide +kernel⟩
theorem ok_fault {f : Addr} {fd : FuncData} (F : Fun K "carrying_fault" "carrying_fault" s_carrying_fault f fd) (T : TxtC mg) (R : Stands P w K mg base 1 "is_row" ["thing"] (spIsRow K)) (MO : Stands P w K mg base 2 "may_follow" NMf (spMay C)) :
    FnOk P w K mg base CX0 3 f fd ["house", "thing"] (spFault K C) := by
  obtain ⟨fr, dr, Gr', mr, kr, br⟩ := R
  obtain ⟨fm, dm, Gm, mm, km, bm⟩ := MO
  refine F.ok scCf (fun vs H Q E h => ?_) (fun cdv A outer s H vs Q E hr h => ?_)
  · obtain ⟨h, a, row, rs, ds, rfl, _⟩ := h
    rfl
  · obtain ⟨h, a, row, rs, ds, rfl, hh, ha, tya, car, k⟩ := h
    refine ⟨_, pss_cons (ps_if (PW.pt (pw_or (pt_not (pt_val (pe_call Gr' (hr.mono (by decide)) (by rfl) mr kr br .nil pass0 (pa_cons (pv 1) pa_nil)))) (pw_or1 (pt_cmpR op_eq (pe_callB call_len_seq (by rfl) T.len PySem.boot_len (pa_cons (pv 1) pa_nil)) pe_int (nomark _))))) pss_dead pss_nil)
      (pss_cons (ps_set (i := 2) scCf.nd rfl (Or.inl rfl) pe_non)
      (pss_cons (ps_for PassesOwn.never rfl (pi_enum (by rfl) T.enu (pa_cons (pv 1) pa_nil)) (pg_tup rfl (pgs_cons (pg_name (i := 3) scCf.nd rfl (Or.inl rfl)) (pgs_cons (pg_name (i := 4) scCf.nd rfl (Or.inl rfl)) pgs_nil)))
        (pss_cons (ps_if (pt_not (pt_val (pe_call Gm hr (by rfl) mm km bm .nil pass0 (pa_cons (pv 0) (pa_cons (pv 2) (pa_cons (pv 4) pa_nil)))))) pss_dead pss_nil)
        (pss_one (ps_set (i := 2) scCf.nd rfl (Or.inl rfl) (pv 4)))))
      (pss_one (ps_ret pe_non)))), ?_⟩
    refine ⟨_, rfl, .ref a, .type "list", true, rfl, tya, kitAny_cons (b := true) (kit_ty (by decide +kernel)) (fun z => by cases z) fun _ => rfl, fun H1 s1 n1 => ⟨_, rfl, iteF ?_⟩⟩
    have l0 : (row.map V.str).length ≠ 0 := fun z => car.ne (List.length_eq_zero_iff.mp (by rw [List.length_map] at z; exact z))
    refine ⟨_, rfl, a, _, rfl, .inl (s1.seq ha), rfl, _, rfl, iteF2 (decide_eq_false fun z => l0 (by have := V.int.inj z; omega)) ?_⟩
    refine ⟨_, rfl, a, _, rfl, s1.seq ha, ?_⟩
    refine for_it (walk_enum (xs := row.map V.str)) (fun i σ' H' => ∃ (v v3 v4 : Option V), σ' = [some (.ref h), some (.ref a), v, v3, v4] ∧ Gr H H' ∧ ((i = 0 ∧ v = some .non) ∨ ∃ x, row[i - 1]? = some x ∧ 0 < i ∧ v = some (.str x))) ?_ ?_ ?_ ?_
    · exact ⟨_, _, _, rfl, ⟨s1, n1⟩, .inl ⟨rfl, rfl⟩⟩
    · rintro i σ' H' _ ⟨v, v3, v4, rfl, q1, q2⟩
      exact q1.s.seq ha
    · rintro i v σ' H' H'' hi ⟨u, v3, v4, rfl, q1, q2⟩ ⟨T0, x0, y0, rfl, nT, rfl, e1, e2⟩
      obtain rfl := Option.some.inj e1
      have hi2 : i < row.length := by simpa using hi
      have ri : row[i]? = some row[i] := List.getElem?_eq_getElem hi2
      obtain rfl : V.str row[i] = y0 := by
        replace e2 : (row.map V.str)[i]? = some y0 := e2
        rw [List.getElem?_map, ri] at e2
        exact Option.some.inj e2
      have t2 := Gr.upd (o := .tup [.int (i : Nat), .str row[i]]) nT
      refine ⟨T0, _, rfl, SqT.of upd_same, rfl, _, _, rfl, _, _, rfl, rfl, ?_⟩
      have g2 := q1.trans t2
      have done : ∀ H3, Gr (upd H' T0 (.tup [.int (i : Nat), .str row[i]])) H3 → ∃ (v v3 v4 : Option V), [some (V.ref h), some (.ref a), some (.str row[i]), some (.int (i : Nat)), some (.str row[i])] = [some (V.ref h), some (.ref a), v, v3, v4] ∧ Gr H H3 ∧ ((i + 1 = 0 ∧ v = some .non) ∨ ∃ x, row[i + 1 - 1]? = some x ∧ 0 < i + 1 ∧ v = some (.str x)) := fun H3 g3 => ⟨_, _, _, rfl, g2.trans g3, .inr ⟨_, ri, Nat.succ_pos i, rfl⟩⟩
      rcases q2 with ⟨rfl, rfl⟩ | ⟨x, ex, pos, rfl⟩
      · refine ⟨_, rfl, _, rfl, _, rfl, h, .non, row[0], rs, ds, rfl, hh.same g2.s, car.mem _ (List.getElem_mem hi2), .inl rfl, fun H3 g3 => ⟨_, rfl, iteF ⟨_, rfl, done H3 g3⟩⟩⟩
      · refine ⟨_, rfl, _, rfl, _, rfl, h, .str x, row[i], rs, ds, rfl, hh.same g2.s, car.mem _ (List.getElem_mem hi2), .inr ⟨x, rfl, car.mem _ (List.mem_of_getElem? ex), car.nxt (i - 1) _ _ ex (by rw [Nat.sub_add_cancel pos]; exact ri)⟩, fun H3 g3 => ⟨_, rfl, iteF ⟨_, rfl, done H3 g3⟩⟩⟩
    · rintro σ' H' ⟨v, v3, v4, rfl, q1, q2⟩
      exact k H' q1
def spCarN (K : PySem.W.Frag) (C : Addr) : Sp := spFault K C
abbrev NCn : List Str := ["house", "carrying", "index"]
theorem scCn : FnScope NCn ["house", "carrying"] (defScope s_need_carrying) := ⟨rfl, rfl, rfl, by decide +kernel, rfl, by decide +kernel, by decide +kernel⟩
theorem ok_need_car {f : Addr} {fd : FuncData} (F : Fun K "need_carrying" "need_carrying" s_need_carrying f fd) (FO : Stands P w K mg base 3 "carrying_fault" ["house", "thing"] (spFault K C)) :
    FnOk P w K mg base CX0 4 f fd ["house", "carrying"] (spCarN K C) := by
  obtain ⟨ff, df, Gf, mf, kf, bf⟩ := FO
  refine F.ok scCn (fun vs H Q E h => ?_) (fun cdv A outer s H vs Q E hr h => ?_)
  · obtain ⟨h, a, row, rs, ds, rfl, _⟩ := h
    rfl
  · obtain ⟨h, a, row, rs, ds, rfl, hh, ha, tya, car, k⟩ := h
    refine ⟨_, pss_cons (ps_set (i := 2) scCn.nd rfl (Or.inl rfl) (pe_call Gf hr (by rfl) mf kf bf .nil pass0 (pa_cons (pv 0) (pa_cons (pv 1) pa_nil))))
      (pss_one (ps_if (pt_cmp (pc_notN (pv 2)) (by rfl)) pss_dead pss_nil)), ?_⟩
    refine ⟨_, rfl, _, rfl, h, a, row, rs, ds, rfl, hh, ha, tya, car, fun H' g => ⟨_, rfl, _, rfl, iteF2 (by simp) (k H' g)⟩⟩
end
end Lamp
set_option maxHeartbeats 8000000
namespace Lamp
open PySem PySem.Spec PyProof.Rows L2
theorem tm_put {nv : Str → V} {r : Str} {v : V} {fs : List Str} (m : r ∈ fs) : putK (TM fs nv) (Sum.inr r) v = TM fs (putV nv r v) := by
  unfold putK
  have a : ((TM fs nv).any fun kv => decide (kv.1 = (Sum.inr r : Key))) = true := List.any_eq_true.mpr ⟨(Sum.inr r, nv r), List.mem_map.mpr ⟨r, m, rfl⟩, by simp⟩
  rw [if_pos a]
  unfold TM
  rw [List.map_map]
  refine List.map_congr_left fun x _ => ?_
  show (if (Sum.inr x : Key) = Sum.inr r then ((Sum.inr x : Key), v) else ((Sum.inr x : Key), nv x)) = (Sum.inr x, putV nv r v x)
  by_cases e : x = r
  · subst e
    rw [if_pos rfl, putV, if_pos rfl]
  · rw [if_neg (fun z => e (Sum.inr.inj z)), putV, if_neg e]
theorem tm_ext {nv nu : Str → V} {fs : List Str} (h : ∀ r ∈ fs, nv r = nu r) : TM fs nv = TM fs nu := List.map_congr_left fun r hr => by rw [h r hr]
/-- numbers -/
abbrev NI (c : Str → Nat) : Str → V := fun r => .int (c r : Int)
section
variable {P : Program} {w : World} {K : PySem.W.Frag} {mg : Str → Option Value} {base : Heap} {C : Addr}
def spHours (K : PySem.W.Frag) (C : Addr) : Sp := fun vs H Q _ => ∃ (h a : Addr) (row rs : List Str) (ds : List Ed), vs = [.ref h, .ref a] ∧ HouseAt H C h rs ds ∧ SqL K H a (row.map V.str) ∧ rs.Nodup ∧ rs.length < 1000 ∧ (∀ r ∈ row, r ∈ rs) ∧
  ∀ H' p, H' p = some (.dK (TM rs (NI fun r => row.count r))) → Gr H H' → H p = none → Q (.ref p) H'
abbrev NHo : List Str := ["house", "rooms", "hours", "room"]
theorem scHo : FnScope NHo ["house", "rooms"] (defScope s_hours_of) := ⟨rfl, rfl, rfl, by decide +kernel, rfl, by decide +kernel, by decide +kernel⟩
theorem ok_hours {f : Addr} {fd : FuncData} (F : Fun K "hours_of" "hours_of" s_hours_of f fd) (M : HasH P w K mg base C) : FnOk P w K mg base CX0 2 f fd ["house", "rooms"] (spHours K C) := by
  obtain ⟨fr, dr, mr, Gr', br⟩ := M.rooms
  refine F.ok scHo (fun vs H Q E h => ?_) (fun cdv A outer s H vs Q E hr h => ?_)
  · obtain ⟨h, a, row, rs, ds, rfl, _⟩ := h
    rfl
  · obtain ⟨h, a, row, rs, ds, rfl, hh, ha, nd, hl, sub, k⟩ := h
    have hu := Nat.lt_of_le_of_lt (Nat.add_le_add_left (show 1 ≤ 64 by decide) _) hr.units
    refine ⟨_, pss_cons (ps_setDc (i := 2) (tk := tVar 3) (tv := tC (.int 0)) (own := [("room", 3)]) (g := gName 3) (tt := tYes) rfl scHo.nd rfl rfl (sw_dict rfl rfl rfl (by decide +kernel)) (pi_list (pe_meth0 (pv 0) M.cls.cls mr Gr' hr br .nil pass0)) (blkOk_by (N := NHo) (sc := defScope s_hours_of) (by decide +kernel))
        (fun _ _ _ _ _ => pg_name (i := 3) scHo.nd rfl (Or.inl rfl)) (fun _ _ _ _ _ => pts_nil) (fun _ _ _ _ _ => pv 3) (fun _ _ _ _ _ => pe_int))
      (pss_cons (ps_for PassesOwn.never rfl (pi_list (pv 1)) (pg_name (i := 3) scHo.nd rfl (Or.inl rfl))
        (pss_one (ps_daug hu (pv 2) (pv 3) pe_int iop_add (fun _ _ _ => rfl))))
      (pss_one (ps_ret (pv 2)))), ?_⟩
    have a' := hh
    obtain ⟨dx, ra, da, na, ts, h1, h2, h3, h4, nf, h5, h6⟩ := a'.at_
    refine ⟨_, rfl, h, dx, _, rfl, h1, by rfl, h, rs, ds, rfl, hh, fun H1 p s1 n1 np e1 => ?_⟩
    refine ⟨p, rfl, ⟨_, SqL.of e1⟩, fun D hD => ?_⟩
    have gD : ∀ {H' : Hp}, Gr H1 H' → Gr H H' := fun g => ⟨s1.trans g.s, fun x z => n1 x (g.n x z)⟩
    refine dc_it (walk_list (xs := rs.map V.str)) (fun j H' => H' D = some (.dK (TM (rs.take j) (NI fun _ => 0))) ∧ Gr H1 H') ⟨upd_same, Gr.upd hD⟩ (fun j H' _ g => SqL.of (g.2.s _ _ e1)) ?_ ?_
    · rintro j v H' H'' hj ⟨g1, g2⟩ ⟨rfl, hv⟩
      have hj2 : j < rs.length := by simpa using hj
      obtain rfl : V.str rs[j] = v := by
        rw [List.getElem?_map, List.getElem?_eq_getElem hj2] at hv
        exact Option.some.inj hv
      have nm := take_not nd hj2
      refine ⟨rfl, _, rfl, _, Sum.inr rs[j], rfl, g1, ?_, ?_, g2.put hD⟩
      · rw [tm_len, List.length_take]
        exact Nat.lt_of_le_of_lt (Nat.min_le_left _ _) (Nat.lt_trans (Nat.lt_trans hj2 hl) (by decide))
      · rw [upd_same, tm_new nm, List.take_append_getElem hj2]
        rw [tm_ext (nu := NI fun _ => 0)]
        intro r _
        show putV _ _ _ r = _
        unfold putV
        by_cases e : r = rs[j]
        · rw [if_pos e]
          rfl
        · rw [if_neg e]
    · rintro H2 ⟨g1, g2⟩
      rw [List.length_map, List.take_length] at g1
      have ha2 : SqL K H2 a (row.map V.str) := (gD g2).s.seq ha
      have nD : ∀ {x : Addr} {o : HO}, H x = some o → x ≠ D := fun e => ne_of_none (s1 _ _ e) hD
      have DN : H D = none := n1 _ hD
      refine ⟨_, rfl, a, rfl, ⟨_, ha2⟩, ?_⟩
      refine for_it (walk_list (xs := row.map V.str)) (fun i σ' H' => ∃ (v3 : Option V), σ' = [some (.ref h), some (.ref a), some (.ref D), v3] ∧ H' D = some (.dK (TM rs (NI fun r => (row.take i).count r))) ∧ Gr H H') ?_ ?_ ?_ ?_
      · exact ⟨_, rfl, by rw [g1, List.take_zero]; rfl, gD g2⟩
      · rintro i σ' H' _ ⟨v3, rfl, q1, q2⟩
        exact q2.s.seq ha
      · rintro i v σ' H' H'' hi ⟨v3, rfl, q1, q2⟩ ⟨rfl, hv⟩
        have hi2 : i < row.length := by simpa using hi
        have ri : row[i]? = some row[i] := List.getElem?_eq_getElem hi2
        obtain rfl : V.str row[i] = v := by
          rw [List.getElem?_map, ri] at hv
          exact Option.some.inj hv
        have mr := sub _ (List.getElem_mem hi2)
        have g := DGet.k (k := Sum.inr row[i]) q1
        rw [tm_get mr] at g
        refine ⟨_, rfl, _, rfl, D, _, rfl, g, _, _, rfl, rfl, _, DPut.k (k := Sum.inr row[i]) q1 (by rw [tm_len]; exact Nat.lt_trans hl (by decide)), ?_⟩
        rw [tm_put mr]
        refine ⟨_, rfl, ?_, q2.put DN⟩
        rw [upd_same]
        congr 2
        refine tm_ext fun r _ => ?_
        have tk : row.take (i + 1) = row.take i ++ [row[i]] := (List.take_append_getElem hi2).symm
        show putV _ _ _ r = V.int ((List.count r (row.take (i + 1)) : Nat) : Int)
        rw [tk, List.count_append]
        unfold putV
        by_cases e : r = row[i]
        · rw [if_pos e, e, show List.count row[i] [row[i]] = 1 by simp]
          simp
        · rw [if_neg e, show List.count r [row[i]] = 0 from List.count_eq_zero.mpr (by simp [e])]
          simp
      · rintro σ' H' ⟨v3, rfl, q1, q2⟩
        rw [List.length_map, List.take_length] at q1
        exact ⟨_, rfl, k H' D q1 q2 DN⟩
def spLedger (K : PySem.W.Frag) (C : Addr) : Sp := fun vs H Q _ => ∃ (h a : Addr) (row rs : List Str) (ds : List Ed), vs = [.ref h, .ref a] ∧ HouseAt H C h rs ds ∧ SqL K H a (row.map V.str) ∧ (∀ H', Same H H' → TyX K H' (.ref a) (.type "list")) ∧ rs.Nodup ∧ rs.length < 1000 ∧ Car rs ds row ∧
  ∀ H' p, H' p = some (.dK (TM rs (NI fun r => row.count r))) → Gr H H' → H p = none → Q (.ref p) H'
theorem scLo : FnScope ["house", "carrying"] ["house", "carrying"] (defScope s_ledger_of) := ⟨rfl, rfl, rfl, by decide +kernel, rfl, by decide +kernel, by decide +kernel⟩
theorem ok_ledger {f : Addr} {fd : FuncData} (F : Fun K "ledger_of" "ledger_of" s_ledger_of f fd) (NO : Stands P w K mg base 4 "need_carrying" ["house", "carrying"] (spCarN K C)) (HO : Stands P w K mg base 2 "hours_of" ["house", "rooms"] (spHours K C)) :
    FnOk P w K mg base CX0 5 f fd ["house", "carrying"] (spLedger K C) := by
  obtain ⟨fn, dn, Gn, mn, kn, bn⟩ := NO
  obtain ⟨fo, do_, Go, mo, ko, bo⟩ := HO
  refine F.ok scLo (fun vs H Q E h => ?_) (fun cdv A outer s H vs Q E hr h => ?_)
  · obtain ⟨h, a, row, rs, ds, rfl, _⟩ := h
    rfl
  · obtain ⟨h, a, row, rs, ds, rfl, hh, ha, tya, nd, hl, car, k⟩ := h
    refine ⟨_, pss_cons (ps_expr (pe_call Gn hr (by rfl) mn kn bn .nil pass0 (pa_cons (pv 0) (pa_cons (pv 1) pa_nil))))
      (pss_one (ps_ret (pe_call Go (hr.mono (by decide)) (by rfl) mo ko bo .nil pass0 (pa_cons (pv 0) (pa_cons (pv 1) pa_nil))))), ?_⟩
    refine ⟨_, rfl, _, rfl, h, a, row, rs, ds, rfl, hh, ha, tya, car, fun H1 g1 => ?_⟩
    refine ⟨_, rfl, _, rfl, h, a, row, rs, ds, rfl, hh.same g1.s, g1.s.seq ha, nd, hl, car.mem, fun H2 p e g2 n2 => ?_⟩
    exact k H2 p e (g1.trans g2) (g1.n _ n2)
end
end Lamp
namespace Lamp
open PySem
/-! ### rows of rooms, hour by hour -/
/-- the room of an hour -/
def at_ (row : List Str) (i : Nat) : Str := row.getD i Str.empty
theorem at_some {row : List Str} {i : Nat} {x : Str} (h : row[i]? = some x) : at_ row i = x := by
  unfold at_
  rw [List.getD_eq_getElem?_getD, h]
  rfl
theorem at_lt {row : List Str} {i : Nat} (h : i < row.length) : row[i]? = some (at_ row i) := by
  unfold at_
  rw [List.getD_eq_getElem?_getD, List.getElem?_eq_getElem h]
  rfl
/-- how many hours ahead of i, but the first, are in b, and the one ahead in a -/
def trs (row : List Str) (a b : Str) : Nat → Nat
  | 0 => 0
  | 1 => 0
  | i + 2 => trs row a b (i + 1) + if at_ row i = a ∧ at_ row (i + 1) = b then 1 else 0
/-- how many hours ahead of i begin a stay at r -/
def stn (row : List Str) (r : Str) : Nat → Nat
  | 0 => 0
  | 1 => if at_ row 0 = r then 1 else 0
  | i + 2 => stn row r (i + 1) + if at_ row (i + 1) = r ∧ at_ row i ≠ r then 1 else 0
/-- how many steps ahead of hour i lead to r or from r -/
def gon (row : List Str) (r : Str) : Nat → Nat
  | 0 => 0
  | 1 => 0
  | i + 2 => gon row r (i + 1) + if at_ row i ≠ at_ row (i + 1) ∧ (at_ row i = r ∨ at_ row (i + 1) = r) then 1 else 0
/-- how many of the first i hours are in r -/
def hrs (row : List Str) (r : Str) : Nat → Nat
  | 0 => 0
  | i + 1 => hrs row r i + if at_ row i = r then 1 else 0
theorem hrs_count {row : List Str} {r : Str} : ∀ {i : Nat}, i ≤ row.length → hrs row r i = (row.take i).count r
  | 0, _ => by simp [hrs]
  | i + 1, h => by
    have ri : row[i]? = some (at_ row i) := at_lt (by omega)
    rw [hrs, hrs_count (i := i) (by omega), List.take_add_one, ri, List.count_append]
    congr 1
    show _ = List.count r [at_ row i]
    by_cases e : at_ row i = r
    · rw [if_pos e, e]
      simp
    · rw [if_neg e]
      symm
      exact List.count_eq_zero.mpr (by simpa using fun z => e z.symm)
/-- stays at r by the steps to it and from it -/
theorem gon_stn (row : List Str) (r : Str) : ∀ i, gon row r (i + 1) + (if at_ row 0 = r then 1 else 0) + (if at_ row i = r then 1 else 0) = 2 * stn row r (i + 1)
  | 0 => by
    show 0 + _ + _ = 2 * (if at_ row 0 = r then 1 else 0)
    omega
  | i + 1 => by
    have ih := gon_stn row r i
    show gon row r (i + 1) + (if at_ row i ≠ at_ row (i + 1) ∧ (at_ row i = r ∨ at_ row (i + 1) = r) then 1 else 0) + (if at_ row 0 = r then 1 else 0) + (if at_ row (i + 1) = r then 1 else 0) = 2 * (stn row r (i + 1) + if at_ row (i + 1) = r ∧ at_ row i ≠ r then 1 else 0)
    generalize (if at_ row 0 = r then 1 else 0) = z at ih ⊢
    by_cases p : at_ row i = r
    · rw [if_pos p] at ih
      by_cases q : at_ row (i + 1) = r
      · rw [if_neg (fun z => z.1 (p.trans q.symm)), if_pos q, if_neg (fun z => z.2 p)]
        omega
      · rw [if_pos ⟨fun z => q (z ▸ p), .inl p⟩, if_neg q, if_neg (fun z => q z.1)]
        omega
    · rw [if_neg p] at ih
      by_cases q : at_ row (i + 1) = r
      · rw [if_pos ⟨fun z => p (z.trans q), .inr q⟩, if_pos q, if_pos ⟨q, p⟩]
        omega
      · rw [if_neg (fun z => by rcases z.2 with z | z; exact p z; exact q z), if_neg q, if_neg (fun z => q z.1)]
        omega
/-- hours are stays at least -/
theorem stn_hrs (row : List Str) (r : Str) : ∀ i, stn row r i ≤ hrs row r i
  | 0 => Nat.le_refl _
  | 1 => by
    show (if at_ row 0 = r then 1 else 0) ≤ 0 + if at_ row 0 = r then 1 else 0
    omega
  | i + 2 => by
    have ih := stn_hrs row r (i + 1)
    show stn row r (i + 1) + (if at_ row (i + 1) = r ∧ at_ row i ≠ r then 1 else 0) ≤ hrs row r (i + 1) + if at_ row (i + 1) = r then 1 else 0
    by_cases q : at_ row (i + 1) = r
    · rw [if_pos q]
      split <;> omega
    · rw [if_neg (fun z => q z.1), if_neg q]
      omega
/-- what has been gone through has a room ahead and a room behind -/
theorem trs_pos {row : List Str} {a b : Str} : ∀ {i : Nat}, 0 < trs row a b i → ∃ j, j + 1 < i ∧ at_ row j = a ∧ at_ row (j + 1) = b
  | 0, h => absurd h (Nat.lt_irrefl 0)
  | 1, h => absurd h (Nat.lt_irrefl 0)
  | i + 2, h => by
    by_cases e : at_ row i = a ∧ at_ row (i + 1) = b
    · exact ⟨i, by omega, e.1, e.2⟩
    · have h' : 0 < trs row a b (i + 1) + if at_ row i = a ∧ at_ row (i + 1) = b then 1 else 0 := h
      rw [if_neg e] at h'
      obtain ⟨j, h1, h2⟩ := trs_pos (i := i + 1) h'
      exact ⟨j, by omega, h2⟩
theorem trs_of {row : List Str} {a b : Str} : ∀ {i j : Nat}, j + 1 < i → at_ row j = a → at_ row (j + 1) = b → 0 < trs row a b i
  | 0, j, h, _, _ => by omega
  | 1, j, h, _, _ => by omega
  | i + 2, j, h, h1, h2 => by
    show 0 < trs row a b (i + 1) + if at_ row i = a ∧ at_ row (i + 1) = b then 1 else 0
    by_cases e : j = i
    · subst e
      rw [if_pos ⟨h1, h2⟩]
      omega
    · have := trs_of (i := i + 1) (j := j) (by omega) h1 h2
      omega
/-- who goes along a height f that steps alone from a to b, or back, change by one: passes there, less back, tell the difference -/
theorem trs_diff {row : List Str} {a b : Str} (f : Str → Int) (ne : a ≠ b) (up : f b = f a + 1) : ∀ {i : Nat}, (∀ j, j + 1 < i + 1 → (at_ row j = a ∧ at_ row (j + 1) = b) ∨ (at_ row j = b ∧ at_ row (j + 1) = a) ∨ f (at_ row (j + 1)) = f (at_ row j)) →
    (trs row a b (i + 1) : Int) - trs row b a (i + 1) = f (at_ row i) - f (at_ row 0)
  | 0, _ => by
    show ((0 : Nat) : Int) - (0 : Nat) = _
    omega
  | i + 1, h => by
    have ih := trs_diff (i := i) f ne up fun j hj => h j (by omega)
    have s := h i (by omega)
    show ((trs row a b (i + 1) + (if at_ row i = a ∧ at_ row (i + 1) = b then 1 else 0) : Nat) : Int) - ((trs row b a (i + 1) + (if at_ row i = b ∧ at_ row (i + 1) = a then 1 else 0) : Nat) : Int) = _
    by_cases p : at_ row i = a ∧ at_ row (i + 1) = b
    · have q : ¬ (at_ row i = b ∧ at_ row (i + 1) = a) := fun z => ne (p.1.symm.trans z.1)
      rw [if_pos p, if_neg q, p.2, up]
      rw [p.1] at ih
      omega
    · by_cases q : at_ row i = b ∧ at_ row (i + 1) = a
      · rw [if_neg p, if_pos q, q.2]
        rw [q.1] at ih
        omega
      · rw [if_neg p, if_neg q]
        rcases s with s | s | s
        · exact absurd s p
        · exact absurd s q
        · omega
/-- the passes of all pairs with r, whichever stand in a list once each, are the steps to r and from it -/
theorem sum_ind {α : Type} [DecidableEq α] {x : α} {g : α → Nat} : ∀ {l : List α}, l.Nodup → x ∈ l → (l.map fun y => if x = y then g y else 0).sum = g x
  | [], _, h => by cases h
  | y :: l, nd, h => by
    obtain ⟨h1, h2⟩ := List.nodup_cons.mp nd
    have z : ∀ {m : List α}, x ∉ m → (m.map fun y => if x = y then g y else 0).sum = 0 := fun {m} hm => by
      induction m with
      | nil => rfl
      | cons u m ih =>
        rw [List.map_cons, List.sum_cons, if_neg (fun e : x = u => hm (e ▸ List.mem_cons_self)), ih (fun e => hm (List.mem_cons_of_mem _ e))]
    rw [List.map_cons, List.sum_cons]
    by_cases e : x = y
    · subst e
      rw [if_pos rfl, z h1]
      rfl
    · rw [if_neg e, sum_ind h2 ((List.mem_cons.mp h).resolve_left e)]
      omega
theorem sum_add {α : Type} {f g : α → Nat} : ∀ {l : List α}, (l.map fun y => f y + g y).sum = (l.map f).sum + (l.map g).sum
  | [] => rfl
  | y :: l => by
    rw [List.map_cons, List.sum_cons, List.map_cons, List.sum_cons, List.map_cons, List.sum_cons, sum_add]
    omega
theorem sum_zero {α : Type} {f : α → Nat} : ∀ {l : List α}, (∀ y ∈ l, f y = 0) → (l.map f).sum = 0
  | [], _ => rfl
  | y :: l, h => by rw [List.map_cons, List.sum_cons, h y List.mem_cons_self, sum_zero fun z hz => h z (List.mem_cons_of_mem _ hz)]
/-- passes of a list of pairs in which all steps to r and from r stand -/
theorem trs_sum {row : List Str} {r : Str} {ps : List Ed} (nd : ps.Nodup) (ne : ∀ p ∈ ps, p.1 ≠ p.2) : ∀ {i : Nat}, (∀ j, j + 1 < i → at_ row j ≠ at_ row (j + 1) → (at_ row j = r ∨ at_ row (j + 1) = r) → (at_ row j, at_ row (j + 1)) ∈ ps) →
    (ps.map fun p => if p.1 = r ∨ p.2 = r then trs row p.1 p.2 i else 0).sum = gon row r i
  | 0, _ => sum_zero fun y _ => by
    show (if y.1 = r ∨ y.2 = r then 0 else 0) = 0
    exact ite_self 0
  | 1, _ => sum_zero fun y _ => by
    show (if y.1 = r ∨ y.2 = r then 0 else 0) = 0
    exact ite_self 0
  | i + 2, h => by
    have ih := trs_sum (row := row) (r := r) nd ne (i := i + 1) fun j hj => h j (by omega)
    have e : (fun p : Ed => if p.1 = r ∨ p.2 = r then trs row p.1 p.2 (i + 2) else 0) = fun p : Ed => (if p.1 = r ∨ p.2 = r then trs row p.1 p.2 (i + 1) else 0) + if (at_ row i, at_ row (i + 1)) = p then (if p.1 = r ∨ p.2 = r then 1 else 0) else 0 := by
      funext p
      obtain ⟨x, y⟩ := p
      show (if x = r ∨ y = r then trs row x y (i + 1) + (if at_ row i = x ∧ at_ row (i + 1) = y then 1 else 0) else 0) = _
      by_cases c : x = r ∨ y = r
      · simp only [if_pos c, Prod.mk.injEq]
      · simp only [if_neg c]
        split <;> rfl
    rw [e, sum_add, ih]
    show gon row r (i + 1) + _ = gon row r (i + 1) + _
    congr 1
    by_cases q : at_ row i = at_ row (i + 1)
    · rw [if_neg (fun z => z.1 q)]
      refine sum_zero fun p hp => ?_
      rw [if_neg]
      intro z
      exact ne p hp (by rw [← z]; exact q)
    · by_cases c : at_ row i = r ∨ at_ row (i + 1) = r
      · have m := h i (by omega) q c
        rw [sum_ind (g := fun p : Ed => if p.1 = r ∨ p.2 = r then 1 else 0) nd m, if_pos c, if_pos ⟨q, c⟩]
      · rw [if_neg (fun z => c z.2)]
        refine sum_zero fun p _ => ?_
        by_cases z : (at_ row i, at_ row (i + 1)) = p
        · subst z
          rw [if_pos rfl, if_neg c]
        · rw [if_neg z]
end Lamp
set_option maxHeartbeats 8000000
namespace Lamp
open PySem PySem.Spec PyProof.Rows L2
/-- tuples (room, number) -/
def RnAt (H : Hp) (ts : List Addr) (L : List (Str × Nat)) : Prop := Paired (fun t e => H t = some (.tup [.str e.1, .int (e.2 : Int)])) ts L
theorem RnAt.same {H H' : Hp} {ts : List Addr} {L : List (Str × Nat)} (h : RnAt H ts L) (s : Same H H') : RnAt H' ts L := Paired.imp (fun _ _ e => s _ _ e) h
theorem paired_len {α β : Type} {R : α → β → Prop} : ∀ {xs : List α} {ys : List β}, Paired R xs ys → xs.length = ys.length
  | [], [], .nil => rfl
  | _ :: _, _ :: _, .cons _ r => congrArg (· + 1) (paired_len r)
theorem paired_snoc {α β : Type} {R : α → β → Prop} {a : α} {b : β} (h : R a b) : ∀ {xs : List α} {ys : List β}, Paired R xs ys → Paired R (xs ++ [a]) (ys ++ [b])
  | [], [], .nil => .cons h .nil
  | _ :: _, _ :: _, .cons r q => .cons r (paired_snoc h q)
theorem paired_unsnoc {α β : Type} {R : α → β → Prop} {b : β} : ∀ {xs : List α} {ys : List β}, Paired R xs (ys ++ [b]) → ∃ xs' a, xs = xs' ++ [a] ∧ Paired R xs' ys ∧ R a b
  | [], [], h => by cases h
  | [], _ :: _, h => by cases h
  | x :: xs, [], .cons r q => by
    cases q
    exact ⟨[], x, rfl, .nil, r⟩
  | x :: xs, y :: ys, .cons r q => by
    obtain ⟨xs', a, rfl, q1, q2⟩ := paired_unsnoc (xs := xs) (ys := ys) q
    exact ⟨x :: xs', a, rfl, .cons r q1, q2⟩
/-- the stays of the first i hours, one by one -/
def stl (row : List Str) : Nat → List (Str × Nat)
  | 0 => []
  | i + 1 => match (stl row i).reverse with
    | [] => [(at_ row i, 1)]
    | e :: rest => if e.1 = at_ row i then rest.reverse ++ [(e.1, e.2 + 1)] else stl row i ++ [(at_ row i, 1)]
theorem stl_stay {row : List Str} {i n : Nat} {L0 : List (Str × Nat)} (h : stl row (i + 1) = L0 ++ [(at_ row i, n)]) (e : at_ row i = at_ row (i + 1)) : stl row (i + 2) = L0 ++ [(at_ row (i + 1), n + 1)] := by
  show (match (stl row (i + 1)).reverse with
    | [] => _
    | e :: rest => if e.1 = at_ row (i + 1) then rest.reverse ++ [(e.1, e.2 + 1)] else _) = _
  rw [h, List.reverse_append]
  show (if at_ row i = at_ row (i + 1) then L0.reverse.reverse ++ [(at_ row i, n + 1)] else _) = _
  rw [if_pos e, List.reverse_reverse, e]
theorem stl_come {row : List Str} {i n : Nat} {L0 : List (Str × Nat)} (h : stl row (i + 1) = L0 ++ [(at_ row i, n)]) (e : at_ row i ≠ at_ row (i + 1)) : stl row (i + 2) = stl row (i + 1) ++ [(at_ row (i + 1), 1)] := by
  show (match (stl row (i + 1)).reverse with
    | [] => _
    | e :: rest => if e.1 = at_ row (i + 1) then _ else stl row (i + 1) ++ [(at_ row (i + 1), 1)]) = _
  rw [h, List.reverse_append]
  show (if at_ row i = at_ row (i + 1) then _ else _) = _
  rw [if_neg e]
/-- the stays of the first i hours -/
structure StInv (row : List Str) (i : Nat) (L : List (Str × Nat)) : Prop where
  many : ∀ r, (L.filter fun e => decide (e.1 = r)).length = stn row r i
  sum : (L.map (·.2)).sum = i
  last : 0 < i → ∃ L0 n, L = L0 ++ [(at_ row (i - 1), n)]
  is : L = stl row i
theorem StInv.zero (row : List Str) : StInv row 0 [] := ⟨fun _ => rfl, rfl, fun h => absurd h (Nat.lt_irrefl 0), rfl⟩
theorem StInv.stay {row : List Str} {i n : Nat} {L0 : List (Str × Nat)} (h : StInv row (i + 1) (L0 ++ [(at_ row i, n)])) (e : at_ row i = at_ row (i + 1)) : StInv row (i + 2) (L0 ++ [(at_ row (i + 1), n + 1)]) := by
  refine ⟨fun r => ?_, ?_, fun _ => ⟨L0, n + 1, rfl⟩, (stl_stay h.is.symm e).symm⟩
  · have z := h.many r
    rw [List.filter_append, List.length_append] at z ⊢
    have e2 : ([(at_ row (i + 1), n + 1)].filter fun e => decide (e.1 = r)).length = ([(at_ row i, n)].filter fun e => decide (e.1 = r)).length := by
      rw [e]
      by_cases q : at_ row (i + 1) = r
      · rw [List.filter_cons_of_pos (by simp [q]), List.filter_cons_of_pos (by simp [q])]
        rfl
      · rw [List.filter_cons_of_neg (by simp [q]), List.filter_cons_of_neg (by simp [q])]
    have e3 : stn row r (i + 2) = stn row r (i + 1) := by
      show stn row r (i + 1) + (if at_ row (i + 1) = r ∧ at_ row i ≠ r then 1 else 0) = _
      rw [if_neg (fun q => q.2 (e.trans q.1))]
      rfl
    rw [e2, e3]
    exact z
  · have z := h.sum
    rw [List.map_append, List.sum_append] at z ⊢
    have z' : (L0.map (·.2)).sum + (n + 0) = i + 1 := z
    show (L0.map (·.2)).sum + (n + 1 + 0) = i + 2
    omega
theorem StInv.come {row : List Str} {i : Nat} {L : List (Str × Nat)} (h : StInv row i L) (e : 0 < i → at_ row (i - 1) ≠ at_ row i) : StInv row (i + 1) (L ++ [(at_ row i, 1)]) := by
  refine ⟨fun r => ?_, ?_, fun _ => ⟨L, 1, rfl⟩, ?_⟩
  rotate_left 2
  · cases i with
    | zero =>
      rw [h.is]
      rfl
    | succ i =>
      obtain ⟨L0, n, q⟩ := h.last (Nat.succ_pos i)
      rw [stl_come (h.is.symm.trans q) (e (Nat.succ_pos i)), ← h.is]
  · rw [List.filter_append, List.length_append, h.many r]
    cases i with
    | zero =>
      show 0 + _ = if at_ row 0 = r then 1 else 0
      by_cases q : at_ row 0 = r
      · rw [List.filter_cons_of_pos (by simp [q]), if_pos q]
        rfl
      · rw [List.filter_cons_of_neg (by simp [q]), if_neg q]
        rfl
    | succ i =>
      have e := e (Nat.succ_pos i)
      show _ = stn row r (i + 1) + if at_ row (i + 1) = r ∧ at_ row i ≠ r then 1 else 0
      congr 1
      by_cases q : at_ row (i + 1) = r
      · rw [List.filter_cons_of_pos (by simp [q]), if_pos ⟨q, fun z => e (z.trans q.symm)⟩]
        rfl
      · rw [List.filter_cons_of_neg (by simp [q]), if_neg (fun z => q z.1)]
        rfl
  · rw [List.map_append, List.sum_append, h.sum]
    rfl
section
variable {P : Program} {w : World} {K : PySem.W.Frag} {mg : Str → Option Value} {base : Heap} {C : Addr}
def spStays (K : PySem.W.Frag) (C : Addr) : Sp := fun vs H Q _ => ∃ (h a : Addr) (row rs : List Str) (ds : List Ed), vs = [.ref h, .ref a] ∧ HouseAt H C h rs ds ∧ SqL K H a (row.map V.str) ∧ (∀ H', Same H H' → TyX K H' (.ref a) (.type "list")) ∧ Car rs ds row ∧ row.length < 1000 ∧
  ∀ H' p ts L, H' p = some (.lst (ts.map V.ref)) → RnAt H' ts L → StInv row row.length L → L.length ≤ row.length → Gr H H' → H p = none → Q (.ref p) H'
abbrev NSt : List Str := ["house", "carrying", "told", "index", "room"]
theorem scSt : FnScope NSt ["house", "carrying"] (defScope s_stays) := ⟨rfl, rfl, rfl, by decide +kernel, rfl, by decide +kernel, by decide +kernel⟩
theorem ok_stays {f : Addr} {fd : FuncData} (F : Fun K "stays" "stays" s_stays f fd) (T : TxtC mg) (NO : Stands P w K mg base 4 "need_carrying" ["house", "carrying"] (spCarN K C)) :
    FnOk P w K mg base CX0 5 f fd ["house", "carrying"] (spStays K C) := by
  obtain ⟨fn, dn, Gn, mn, kn, bn⟩ := NO
  refine F.ok scSt (fun vs H Q E h => ?_) (fun cdv A outer s H vs Q E hr h => ?_)
  · obtain ⟨h, a, row, rs, ds, rfl, _⟩ := h
    rfl
  · obtain ⟨h, a, row, rs, ds, rfl, hh, ha, tya, car, hl, k⟩ := h
    refine ⟨_, pss_cons (ps_expr (pe_call Gn hr (by rfl) mn kn bn .nil pass0 (pa_cons (pv 0) (pa_cons (pv 1) pa_nil))))
      (pss_cons (ps_set (i := 2) scSt.nd rfl (Or.inl rfl) (pe_lst pa_nil))
      (pss_cons (ps_for PassesOwn.never rfl (pi_enum (by rfl) T.enu (pa_cons (pv 1) pa_nil)) (pg_tup rfl (pgs_cons (pg_name (i := 3) scSt.nd rfl (Or.inl rfl)) (pgs_cons (pg_name (i := 4) scSt.nd rfl (Or.inl rfl)) pgs_nil)))
        (pss_one (ps_if (PW.pt (pw_and (pt_cmpR op_gt (pv 3) pe_int (nomark _)) (pw_and1 (pt_cmpR op_eq (pe_ix ix_list (pv 1) (pe_op op_sub (pv 3) pe_int) (fun _ _ => rfl)) (pv 4) (nomark _)))))
          (pss_one (ps_asg (pe_tup (pa_cons (pv 4) (pa_cons (pe_op op_add (pe_ix ix_tup (pe_ix ix_list (pv 2) (pe_un un_neg pe_int) (fun _ _ => rfl)) pe_int (fun _ _ => rfl)) pe_int) pa_nil))) (pg_sub (pv 2) (pe_un un_neg pe_int) set_list)))
          (pss_one (ps_expr (pe_bm PySem.F.plainAttrs_list PySem.F.slot_list_append PySem.F.type_list_append mt_append (pv 2) (pa_cons (pe_tup (pa_cons (pv 4) (pa_cons pe_int pa_nil))) pa_nil) (by rfl) (by rfl)))))))
      (pss_one (ps_ret (pv 2))))), ?_⟩
    refine ⟨_, rfl, _, rfl, h, a, row, rs, ds, rfl, hh, ha, tya, car, fun H1 g1 => ?_⟩
    refine ⟨by show 0 ≤ sizeLine; exact Nat.zero_le _, fun W hW => ?_⟩
    have WN : H W = none := g1.n _ hW
    have gw : Gr H (upd H1 W (.lst [])) := g1.trans (Gr.upd hW)
    refine ⟨_, rfl, a, _, rfl, gw.s.seq ha, ?_⟩
    refine for_it (walk_enum (xs := row.map V.str)) (fun i σ' H' => ∃ (v3 v4 : Option V) (ts : List Addr) (L : List (Str × Nat)), σ' = [some (.ref h), some (.ref a), some (.ref W), v3, v4] ∧ Gr H H' ∧ H' W = some (.lst (ts.map V.ref)) ∧ RnAt H' ts L ∧ StInv row i L ∧ L.length ≤ i) ?_ ?_ ?_ ?_
    · exact ⟨_, _, [], [], rfl, gw, upd_same, .nil, StInv.zero row, Nat.le_refl _⟩
    · rintro i σ' H' _ ⟨v3, v4, ts, L, rfl, q1, q2⟩
      exact q1.s.seq ha
    · rintro i v σ' H' H'' hi ⟨v3, v4, ts, L, rfl, q1, q2, q3, q4, q5⟩ ⟨T0, x0, y0, rfl, nT, rfl, e1, e2⟩
      obtain rfl := Option.some.inj e1
      have hi2 : i < row.length := by simpa using hi
      have ri : row[i]? = some (at_ row i) := at_lt hi2
      obtain rfl : V.str (at_ row i) = y0 := by
        replace e2 : (row.map V.str)[i]? = some y0 := e2
        rw [List.getElem?_map, ri] at e2
        exact Option.some.inj e2
      have t2 := Gr.upd (o := .tup [.int (i : Nat), .str (at_ row i)]) nT
      have WT : W ≠ T0 := ne_of_none q2 nT
      refine ⟨T0, _, rfl, SqT.of upd_same, rfl, _, _, rfl, _, _, rfl, rfl, ?_⟩
      have g2 := q1.trans t2
      have u2 := t2.s _ _ q2
      have u3 := q3.same t2.s
      -- a new stay
      have come : (0 < i → at_ row (i - 1) ≠ at_ row i) → ∀ p, (upd H' T0 (.tup [.int (i : Nat), .str (at_ row i)])) p = none → ∃ (v3 v4 : Option V) (ts' : List Addr) (L' : List (Str × Nat)), [some (V.ref h), some (.ref a), some (.ref W), some (.int (i : Nat)), some (.str (at_ row i))] = [some (V.ref h), some (.ref a), some (.ref W), v3, v4] ∧ Gr H (upd (upd (upd H' T0 (.tup [.int (i : Nat), .str (at_ row i)])) p (.tup [.str (at_ row i), .int 1])) W (.lst ((ts.map V.ref) ++ [.ref p]))) ∧ upd (upd (upd H' T0 (.tup [.int (i : Nat), .str (at_ row i)])) p (.tup [.str (at_ row i), .int 1])) W (.lst ((ts.map V.ref) ++ [.ref p])) W = some (.lst (ts'.map V.ref)) ∧ RnAt (upd (upd (upd H' T0 (.tup [.int (i : Nat), .str (at_ row i)])) p (.tup [.str (at_ row i), .int 1])) W (.lst ((ts.map V.ref) ++ [.ref p]))) ts' L' ∧ StInv row (i + 1) L' ∧ L'.length ≤ i + 1 := fun hne p np => by
        have pW : W ≠ p := ne_of_none u2 np
        have g3 := g2.trans (Gr.upd (o := .tup [.str (at_ row i), .int 1]) np)
        have nW : ∀ {x : Addr} {e : Str × Nat}, (upd (upd H' T0 (.tup [.int (i : Nat), .str (at_ row i)])) p (.tup [.str (at_ row i), .int 1])) x = some (.tup [.str e.1, .int (e.2 : Int)]) → x ≠ W := fun h z => by
          rw [z, upd_ne pW, u2] at h
          cases h
        refine ⟨_, _, ts ++ [p], L ++ [(at_ row i, 1)], rfl, g3.put WN, ?_, ?_, q4.come hne, ?_⟩
        · rw [upd_same, List.map_append]
          rfl
        · have r1 := paired_snoc (R := fun (t : Addr) (e : Str × Nat) => (upd (upd H' T0 (.tup [.int (i : Nat), .str (at_ row i)])) p (.tup [.str (at_ row i), .int 1])) t = some (.tup [.str e.1, .int (e.2 : Int)])) (a := p) (b := (at_ row i, 1)) upd_same (u3.same (same_upd np))
          refine Paired.imp (fun t e h => ?_) r1
          rw [upd_ne (nW h)]
          exact h
        · rw [List.length_append]
          exact Nat.succ_le_succ q5
      have lts : ts.length < sizeLine := by
        rw [paired_len q3]
        exact Nat.lt_of_le_of_lt q5 (Nat.lt_trans (Nat.lt_trans hi2 hl) (by decide))
      cases i with
      | zero =>
        refine ⟨_, rfl, _, _, rfl, rfl, _, rfl, iteF2 (by simp) ?_⟩
        refine ⟨_, rfl, .inl ⟨rfl, _, SqL.of u2⟩, _, rfl, (by show 2 ≤ sizeLine; decide), fun p np => ?_⟩
        have pW : W ≠ p := ne_of_none u2 np
        refine ⟨W, ts.map V.ref, _, rfl, rfl, ?_, (by rw [List.length_map]; exact lts), ?_⟩
        · rw [upd_ne pW]
          exact u2
        exact come (fun z => absurd z (Nat.lt_irrefl 0)) p np
      | succ i =>
        obtain ⟨L0, n, rfl⟩ := q4.last (Nat.succ_pos i)
        have rp : row[i]? = some (at_ row i) := at_lt (by omega)
        refine ⟨_, rfl, _, _, rfl, rfl, _, rfl, iteT2 (by simp) ?_⟩
        have ei : ((i + 1 : Nat) : Int) - 1 = (i : Int) := by omega
        refine ⟨_, rfl, _, rfl, _, _, rfl, rfl, a, _, ((i + 1 : Nat) : Int) - 1, .str (at_ row i), rfl, rfl, g2.s.seq ha, (by rw [ei]; exact atI_nat (j := i) (by rw [List.getElem?_map, rp]; rfl)), _, rfl, rfl, _, rfl, ?_⟩
        by_cases es : at_ row i = at_ row (i + 1)
        · refine iteT2 (by rw [es]; simp) ?_
          obtain ⟨ts0, t, rfl, r0, rt⟩ := paired_unsnoc q3
          have et : (ts0 ++ [t]).map V.ref = ts0.map V.ref ++ [V.ref t] := by simp
          rw [et] at u2
          have ut := t2.s _ _ rt
          refine ⟨_, rfl, _, rfl, _, rfl, W, _, -1, .ref t, rfl, rfl, SqL.of u2, atI_last _ _, t, _, 1, .int (n : Int), rfl, rfl, SqT.of ut, rfl, _, _, rfl, rfl, (by show 2 ≤ sizeLine; decide), fun p np => ?_⟩
          have pW : W ≠ p := ne_of_none u2 np
          have l1 : (ts0.map V.ref ++ [V.ref t]).length = ts0.length + 1 := by simp
          refine ⟨_, rfl, _, rfl, W, ts0.map V.ref ++ [V.ref t], -1, ts0.length, rfl, rfl, (by rw [upd_ne pW]; exact u2), ?_, ?_⟩
          · unfold ixN
            rw [l1, if_neg (by decide), if_pos (by omega)]
            congr 1
            omega
          · have es2 : (ts0.map V.ref ++ [V.ref t]).set ts0.length (.ref p) = (ts0 ++ [p]).map V.ref := by
              rw [List.set_append_right _ _ (show (ts0.map V.ref).length ≤ ts0.length by simp), List.length_map, Nat.sub_self, List.map_append]
              rfl
            rw [es2]
            have g3 := g2.trans (Gr.upd (o := .tup [.str (at_ row (i + 1)), .int ((n : Int) + 1)]) np)
            have r2 := paired_snoc (R := fun (t : Addr) (e : Str × Nat) => (upd (upd H' T0 (.tup [.int ((i + 1 : Nat) : Int), .str (at_ row (i + 1))])) p (.tup [.str (at_ row (i + 1)), .int ((n : Int) + 1)])) t = some (.tup [.str e.1, .int (e.2 : Int)])) (a := p) (b := (at_ row (i + 1), n + 1)) upd_same (Paired.imp (fun _ _ e => same_upd np _ _ (t2.s _ _ e)) r0)
            refine ⟨_, _, ts0 ++ [p], L0 ++ [(at_ row (i + 1), n + 1)], rfl, g3.put WN, upd_same, Paired.imp (fun x e h => ?_) r2, q4.stay es, ?_⟩
            · have nx : x ≠ W := fun z => by
                rw [z, upd_ne pW, u2] at h
                cases h
              rw [upd_ne nx]
              exact h
            · rw [List.length_append] at q5 ⊢
              exact Nat.le_succ_of_le q5
        · refine iteF2 (by simp [es]) ?_
          refine ⟨_, rfl, .inl ⟨rfl, _, SqL.of u2⟩, _, rfl, (by show 2 ≤ sizeLine; decide), fun p np => ?_⟩
          have pW : W ≠ p := ne_of_none u2 np
          refine ⟨W, ts.map V.ref, _, rfl, rfl, ?_, (by rw [List.length_map]; exact lts), ?_⟩
          · rw [upd_ne pW]
            exact u2
          exact come (fun _ => es) p np
    · rintro σ' H' ⟨v3, v4, ts, L, rfl, q1, q2, q3, q4, q5⟩
      rw [List.length_map] at q4 q5
      exact ⟨_, rfl, k H' W ts L q2 q3 q4 q5 q1 WN⟩
end
end Lamp
set_option maxHeartbeats 4000000
namespace Lamp
open PySem PySem.Spec PyProof.Rows L2
section
variable {prog : Program} {w : World} {A : Around} {E : Value → Shared → Prop} {s : Shared}
/-- what a tuple is collected to -/
theorem gather_tup {t : Addr} {o : Obj} {vs : List Value} {n : Nat} {Q : List Value → Shared → Prop} (ot : s.heap.get? t = some o) (ct : o.cls = .type "tuple") (dt : o.data = .seq vs.toArray n) (small : vs.length ≤ sizeLine)
    (k : Q vs { s with heap := (s.heap.push (seqObj "list" #[] 0)).update s.heap.objs.size (Obj.mapSeq (· ++ vs.toArray)) }) : wpAny (model prog w) A (PySem.collect (.ref t)) Q E s := by
  unfold PySem.collect
  apply wpAny_bind
  apply wpAny_runValue
  apply codeAny_builtin entry_proto_collect'
  show wpAny _ _ (do again (.builtin "list.__iadd__" ⟨[← newList [], .ref t], []⟩)) _ _ s
  refine wpAny_bind (wpAny_newList ?_ (Nat.zero_le _))
  · refine wpAny_pure ⟨Code.quiet_builtin _ (by decide +kernel), codeAny_builtin entry_list_iadd' ?_⟩
    show wpAny _ _ (Builtin.List.listExtendWith (.ref s.heap.objs.size) (.ref t) (.ref s.heap.objs.size)) _ _ { s with heap := s.heap.push (seqObj "list" #[] 0) }
    unfold Builtin.List.listExtendWith
    have ot2 : (s.heap.push (seqObj "list" #[] 0)).get? t = some o := Heap.get?_push_of_some _ ot
    have oL : (s.heap.push (seqObj "list" #[] 0)).get? s.heap.objs.size = some (seqObj "list" #[] 0) := Heap.get?_push_size _ rfl
    refine wpAny_bind (wpAny_typeOf (T := "tuple") ⟨o, ot2, ct⟩ ?_)
    have isT : (Value.type "tuple" == Value.type "tuple") = true := by rfl
    rw [if_pos (by rw [isT]; simp)]
    refine wpAny_bind (listItems_at ot2 dt ?_)
    refine wpAny_bind (listItems_at (xs := #[]) (n := 0) oL rfl ?_)
    rw [if_neg (by simp)]
    have few : (#[] ++ vs.toArray).size ≤ sizeLine + 1 := by
      simp only [Array.size_append, List.size_toArray, List.length_nil]
      omega
    refine wpAny_bind (listUpdate_at (xs := #[]) (n := 0) oL rfl ?_ (Nat.zero_le _) few)
    apply wpAny_pure
    show wpAny (model prog w) A (do
        let o ← load s.heap.objs.size
        match o.data with
        | .seq xs _ => pure xs.toList
        | _ => unsupported "internal:collect") Q E { s with heap := (s.heap.push (seqObj "list" #[] 0)).update s.heap.objs.size (Obj.mapSeq (· ++ vs.toArray)) }
    apply wpAny_bind
    apply wpAny_load (get?_update_seq oL _)
    show wpAny _ _ (pure ((#[] : Array Value) ++ vs.toArray).toList) Q E _
    have same : ((#[] : Array Value) ++ vs.toArray).toList = vs := by simp
    rw [same]
    exact wpAny_pure k
/-- sorted(t), t a tuple of texts -/
theorem sorted_tupS {t : Addr} {o : Obj} {vs : List Value} {ss : List Str} {n : Nat} {Q : Value → Shared → Prop} (ot : s.heap.get? t = some o) (ct : o.cls = .type "tuple") (dt : o.data = .seq vs.toArray n) (hS : StrsAre vs ss) (h64 : vs.length < 64)
    (k : ∀ (out : Array Value) (ys : List Str), StrsAre out.toList ys → ys.Perm ss → sortedS ys = true → Q (.ref (s.heap.objs.size + 1)) { s with heap := sortedAll s.heap vs out }) : wpAny (model prog w) A (call (.builtin "sorted") [.ref t]) Q E s := by
  have small : vs.length ≤ sizeLine := Nat.le_trans (Nat.le_of_lt h64) (by decide)
  apply Calls.call_function_entry kind_sorted plain_sorted entry_sorted (args_sorted1 _)
  unfold Builtin.«sorted»
  apply wpAny_bind (m := checkCount "sorted" 1 1 _)
  apply wpAny_pure
  apply wpAny_bind
  refine gather_tup ot ct dt small ?_
  apply wpAny_bind
  apply wpAny_newList _ small
  have many : ((s.heap.push (seqObj "list" #[] 0)).update s.heap.objs.size (Obj.mapSeq (· ++ vs.toArray))).objs.size = s.heap.objs.size + 1 := by
    rw [Heap.size_update, size_push']
  have oN : (((s.heap.push (seqObj "list" #[] 0)).update s.heap.objs.size (Obj.mapSeq (· ++ vs.toArray))).push (seqObj "list" vs.toArray 0)).get? (s.heap.objs.size + 1) = some (seqObj "list" vs.toArray 0) := by
    rw [← many]
    exact Heap.get?_push_size _ rfl
  show wpAny _ _ _ _ _ { s with heap := ((s.heap.push (seqObj "list" #[] 0)).update s.heap.objs.size (Obj.mapSeq (· ++ vs.toArray))).push (seqObj "list" vs.toArray 0) }
  rw [many]
  apply wpAny_bind
  apply wpAny_holding
  refine wpAny_call_entry slot_list_sort ⟨_, oN, rfl⟩ entry_list_sort (list_sort_treeK strKind_oneLt (s := { s with heap := ((s.heap.push (seqObj "list" #[] 0)).update s.heap.objs.size (Obj.mapSeq (· ++ vs.toArray))).push (seqObj "list" vs.toArray 0) }) oN hS.keysOf (fun v₁ v₂ rest e => keyKind_strs (by rw [← e]; exact hS)) h64 fun st' hp hs => ⟨_, rfl, ?_⟩) (args_list_sort _)
  obtain ⟨ys, g1, g2, g3⟩ := sorted_out_str hS hp hs
  exact wpAny_pure ⟨_, rfl, k _ ys g1 g2 g3⟩
end
/-- sorted(t), t a tuple of texts: a new list -/
def rSortTup (K : PySem.W.Frag) : List V → Hp → VK → Prop := fun vs H Q => ∃ (a : Addr) (xs : List Str), vs = [.ref a] ∧ SqT K H a (xs.map V.str) ∧ xs.length < 64 ∧ ∀ (ys : List Str) (p : Addr), ys.Perm xs → sortedS ys = true → H p = none → Q (.ref p) (upd H p (.lst (ys.map V.str)))
theorem cr_sortTup {X : Cx} : CallR X (.builtin "sorted") (rSortTup X.K) := by
  intro pins s σ H vs us Q I r h
  obtain ⟨a, xs, rfl, hs, h64, q⟩ := h
  obtain ⟨its, rv, ⟨o, ho, hc, n, hd⟩, _⟩ := I.tuple hs
  rw [Vals.ref1 r]
  have ln := rv.length
  rw [List.length_map] at ln
  refine sorted_tupS ho hc hd rv.strs (by rw [← ln]; exact h64) fun out ys h1 h2 h3 => ?_
  obtain ⟨ep, oe⟩ := sortedAll_at s.heap its out
  have few : (ys.map V.str).length ≤ sizeLine := by
    rw [List.length_map, h2.length_eq]
    exact small64 h64
  exact ⟨.ref _, upd H (s.heap.objs.size + 1) (.lst (ys.map V.str)), I.laid (t' := s.toks) (fun _ _ => sortedAll_old) (Nat.le_succ _) ⟨few, out.toList, ep, vals_of_strs h1, oe⟩, rfl, q ys _ h2 h3 (I.hok.fresh (Nat.le_succ _))⟩
end Lamp
set_option maxHeartbeats 4000000
namespace Lamp
open PySem PySem.Spec PyProof.Rows L2 Srt
section
variable {prog : Program} {w : World} {A : Around} {E : Value → Shared → Prop} {s : Shared}
/-- a tuple of two texts -/
def TwoS (h : Heap) (v : Value) (x y : Str) : Prop := ∃ a o t u n, v = .ref a ∧ h.get? a = some o ∧ o.cls = .type "tuple" ∧ o.data = .seq #[.str x t, .str y u] n
theorem TwoS.stay {h g : Heap} {v : Value} {x y : Str} (p : TwoS h v x y) (k : ∀ b o, h.get? b = some o → o.cls = .type "tuple" → g.get? b = some o) : TwoS g v x y :=
  let ⟨a, o, t, u, n, e, ho, hc, hd⟩ := p
  ⟨a, o, t, u, n, e, k _ _ ho hc, hc, hd⟩
theorem two_tot {vs : List Value} (all : ∀ v ∈ vs, ∃ x y, TwoS s.heap v x y) : Tot prog w A s (tuples' true) (fun p => p.1 ∈ vs) := by
  intro p q mp mq
  obtain ⟨x, y, a, o, t, u, n, e, ho, hc, hd⟩ := all _ mp
  obtain ⟨x', y', a', o', t', u', n', e', ho', hc', hd'⟩ := all _ mq
  rw [e, e']
  let ans : Bool := if x = x' then (if y = y' then false else decide (y.cps.toList < y'.cps.toList)) else decide (x.cps.toList < x'.cps.toList)
  refine ⟨ans, PySem.W.kat_lt ho hd ho' hd' ?_⟩
  show PySem.W.KatLex prog w A true (decide (2 < 2)) _ [(.str x t, .str x' t'), (.str y u, .str y' u')] 0 s
  apply PySem.W.kat_cons
  refine SeqAt.EqAt.str_str x t x' t' prog w _ _ (PySem.W.kat_go (fun e1 => ?_) fun e1 => ?_)
  · have hx : x = x' := by simpa using e1
    apply PySem.W.kat_yes
    apply PySem.W.kat_cons
    refine SeqAt.EqAt.str_str y u y' u' prog w _ _ (PySem.W.kat_go (fun e2 => ?_) fun e2 => ?_)
    · have hy : y = y' := by simpa using e2
      have ea : ans = false := by
        show (if x = x' then (if y = y' then false else _) else _) = false
        rw [if_pos hx, if_pos hy]
      exact PySem.W.kat_yes (PySem.W.kat_nil ⟨rfl, ea.symm⟩)
    · have hy : ¬ y = y' := by simpa using e2
      have ea : ans = decide (y.cps.toList < y'.cps.toList) := by
        show (if x = x' then (if y = y' then false else _) else _) = _
        rw [if_pos hx, if_neg hy]
      apply PySem.W.kat_no
      apply PySem.W.kat_one
      apply PyProof.Rows.lt_str
      exact (show s = s ∧ decide (y.cps.toList < y'.cps.toList) = ans from ⟨rfl, ea.symm⟩)
  · have hx : ¬ x = x' := by simpa using e1
    have ea : ans = decide (x.cps.toList < x'.cps.toList) := by
      show (if x = x' then _ else _) = _
      rw [if_neg hx]
    apply PySem.W.kat_no
    exact oneLt_str ⟨rfl, ea.symm⟩
theorem two_heads {h : Heap} : ∀ {vs : List Value}, (∀ v ∈ vs, ∃ x y, TwoS h v x y) → ∃ fs : List Value, PySem.W.KatTups h vs fs ∧ fs.length = vs.length ∧ ∀ f ∈ fs, ∃ x t, f = Value.str x t
  | [], _ => ⟨[], .nil, rfl, fun _ m => by cases m⟩
  | v :: vs, all => by
    obtain ⟨fs, h1, h2, h3⟩ := two_heads (vs := vs) fun u m => all u (List.mem_cons_of_mem _ m)
    obtain ⟨x, y, a, o, t, u, n, rfl, ho, hc, hd⟩ := all v List.mem_cons_self
    exact ⟨.str x t :: fs, .cons ho hc hd rfl h1, congrArg (· + 1) h2, fun f m => (List.mem_cons.mp m).elim (fun e => ⟨x, t, e⟩) (h3 f)⟩
theorem two_sortable {a : Addr} {vs : List Value} (some_ : 0 < vs.length) (all : ∀ v ∈ vs, ∃ x y, TwoS s.heap v x y) (own : ∀ o, s.heap.get? a = some o → o.cls ≠ .type "tuple") : Sortable prog w A s a vs := by
  intro g keep
  have all' : ∀ v ∈ vs, ∃ x y, TwoS g v x y := fun v m => by
    obtain ⟨x, y, p⟩ := all v m
    exact ⟨x, y, p.stay fun b o e c => keep b o (fun z => own o (z ▸ e) c) e⟩
  obtain ⟨fs, h1, h2, h3⟩ := two_heads all'
  refine ⟨tuples' true, fun Q E q => ?_, two_tot all'⟩
  refine PySem.W.kat_kind (T := .type "str") h1 (by omega) (fun f m => ?_) (by rfl) ?_
  · obtain ⟨x, t, rfl⟩ := h3 f m
    exact PySem.W.Looks.now
  · rw [show (Value.type "str" != Value.type "tuple") = true by decide +kernel]
    exact q
end
/-- sorted(xs), xs a list of pairs of texts: a new list of the same pairs, in some order -/
def rSortTwo (K : PySem.W.Frag) : List V → Hp → VK → Prop := fun vs H Q => ∃ a ts es, vs = [V.ref a] ∧ SqL K H a (List.map V.ref ts) ∧ TupsAt H ts es ∧
  ∀ us p, us.Perm ts → H p = none → Q (.ref p) (upd H p (.lst (List.map V.ref us)))
theorem back_refs (us : List Addr) : (us.map Value.ref).map backV = us.map V.ref := by
  rw [List.map_map]
  rfl
theorem cr_sortTwo {X : Cx} : CallR X (.builtin "sorted") (rSortTwo X.K) := by
  intro pins s σ H vs us Q I r h
  obtain ⟨a, ts, es, rfl, hs, ht, q⟩ := h
  obtain ⟨its, rv, hl, hz⟩ := I.list hs
  obtain ⟨u, rfl, ru⟩ := vals1 r
  obtain rfl : u = Value.ref a := ru
  have ev : its = ts.map Value.ref := by
    clear hs ht hl hz q
    induction ts generalizing its with
    | nil =>
      cases rv
      rfl
    | cons t ts ih =>
      cases rv with
      | cons r1 r2 =>
        cases r1
        rw [ih _ r2]
        rfl
  subst ev
  have two : ∀ t ∈ ts, ∃ x y, TwoS s.heap (.ref t) x y := fun t m => by
    obtain ⟨i, hi, e⟩ := List.getElem_of_mem m
    obtain ⟨ed, _, at2⟩ := paired_at (i := i) ht (by rw [List.getElem?_eq_getElem hi, e])
    obtain ⟨_, its2, r2, o, ho, hc, n, hd⟩ := I.hok _ _ at2
    obtain ⟨u1, u2, rfl, ri, rj⟩ := vals2 r2
    obtain ⟨t1, rfl⟩ := ri
    obtain ⟨t2, rfl⟩ := rj
    exact ⟨_, _, t, o, t1, t2, n, rfl, ho, hc, hd⟩
  refine sorted_any hl.isList (by rw [← rv.length]; exact hz) (fun many h₁ b hb keep => ?_) fun out hp => ?_
  · refine two_sortable (s := { s with heap := h₁ }) (by omega) (fun v m => ?_) fun o e => ?_
    · obtain ⟨t, mt, rfl⟩ := List.mem_map.mp m
      obtain ⟨x, y, p⟩ := two t mt
      exact ⟨x, y, p.stay fun c o e _ => (keep c o e).2⟩
    · cases e.symm.trans hb
      exact fun c => absurd (Value.type.inj c) (by decide)
  · obtain ⟨ws, ew, pw⟩ : ∃ ws : List Addr, out = ws.map Value.ref ∧ ws.Perm ts := by
      have isr : ∀ v ∈ out, ∃ t, v = Value.ref t := fun v m => by
        obtain ⟨t, _, e⟩ := List.mem_map.mp (hp.mem_iff.mp m)
        exact ⟨t, e.symm⟩
      let f : Value → Addr := fun v => match v with
        | .ref t => t
        | _ => 0
      have e1 : ∀ l : List Value, (∀ v ∈ l, ∃ t, v = Value.ref t) → (l.map f).map Value.ref = l := fun l hl => by
        rw [List.map_map]
        conv => rhs; rw [← List.map_id l]
        refine List.map_congr_left fun v m => ?_
        obtain ⟨t, rfl⟩ := hl v m
        rfl
      have e2 : (ts.map Value.ref).map f = ts := by
        rw [List.map_map]
        conv => rhs; rw [← List.map_id ts]
        exact List.map_congr_left fun v m => rfl
      exact ⟨out.map f, (e1 out isr).symm, by
        have z := hp.map f
        rw [e2] at z
        exact z⟩
    subst ew
    obtain ⟨n, on⟩ := sortedAll_at s.heap (ts.map Value.ref) (ws.map Value.ref).toArray
    have few : (ws.map V.ref).length ≤ sizeLine := by
      rw [List.length_map, pw.length_eq]
      rw [List.length_map] at hz
      exact hz
    have vals : Vals (ws.map V.ref) (ws.map Value.ref) := by
      have z := vals_back (us := ws.map Value.ref) fun u m => by
        obtain ⟨t, _, e⟩ := List.mem_map.mp m
        exact ⟨t, e.symm⟩
      rw [back_refs] at z
      exact z
    exact ⟨.ref _, upd H (s.heap.objs.size + 1) (.lst (ws.map V.ref)), I.laid (t' := s.toks) (fun _ _ => sortedAll_old) (Nat.le_succ _) ⟨few, ws.map Value.ref, n, vals, on⟩, rfl, q ws _ pw (I.hok.fresh (Nat.le_succ _))⟩
end Lamp
set_option maxHeartbeats 4000000
namespace Lamp
open PySem PySem.Spec PyProof.Rows L2 Srt
/-! ### sorted of pairs of texts, the order told -/
theorem paired_permL {α β : Type} {R : α → β → Prop} {xs xs' : List α} (p : xs.Perm xs') : ∀ {ys : List β}, Paired R xs ys → ∃ ys', ys.Perm ys' ∧ Paired R xs' ys' := by
  induction p with
  | nil =>
    intro ys h
    cases h
    exact ⟨[], .refl _, .nil⟩
  | cons x _ ih =>
    intro ys h
    cases h with
    | cons r q =>
      obtain ⟨zs, h1, h2⟩ := ih q
      exact ⟨_ :: zs, h1.cons _, .cons r h2⟩
  | swap a b l =>
    intro ys h
    cases h with
    | cons r q =>
      cases q with
      | cons r2 q2 => exact ⟨_, List.Perm.swap _ _ _, .cons r2 (.cons r q2)⟩
  | trans _ _ ih1 ih2 =>
    intro ys h
    obtain ⟨zs, h1, h2⟩ := ih1 h
    obtain ⟨us, h3, h4⟩ := ih2 h2
    exact ⟨us, h1.trans h3, h4⟩
theorem paired_back {α β : Type} {F : α → β → Prop} : ∀ {xs : List α} {ys : List β}, Paired F xs ys → ∀ {i : Nat} {y : β}, ys[i]? = some y → ∃ x, xs[i]? = some x ∧ F x y
  | [], [], .nil, _, _, h => by cases h
  | _ :: _, _ :: _, .cons r _, 0, _, h => by
    obtain rfl := Option.some.inj h
    exact ⟨_, rfl, r⟩
  | _ :: _, _ :: _, .cons _ q, i + 1, _, h => paired_back (i := i) q h
def ltS (x y : Str) : Bool := decide (x.cps.toList < y.cps.toList)
def lexS (p q : Str × Str) : Bool := if p.1 = q.1 then ltS p.2 q.2 else ltS p.1 q.1
theorem str_tot {x y : Str} (h1 : ltS x y = false) (h2 : ltS y x = false) : x = y := by
  have a := of_decide_eq_false h1
  have b := of_decide_eq_false h2
  have e : x.cps.toList = y.cps.toList := List.le_antisymm (List.not_lt.mp b) (List.not_lt.mp a)
  cases x with
  | mk xc =>
    cases y with
    | mk yc =>
      have e2 : xc = yc := Array.toList_inj.mp e
      rw [e2]
theorem ltS_irr (x : Str) : ltS x x = false := decide_eq_false (List.lt_irrefl _)
theorem ltS_asym {x y : Str} (h : ltS x y = true) : ltS y x = false := decide_eq_false fun z => List.lt_irrefl _ (List.lt_trans (of_decide_eq_true h) z)
theorem ltS_tr {x y z : Str} (h : ltS x y = true) (g : ltS y z = true) : ltS x z = true := decide_eq_true (List.lt_trans (of_decide_eq_true h) (of_decide_eq_true g))
theorem ltS_neg {x y z : Str} (h1 : ltS y x = false) (h2 : ltS z y = false) : ltS z x = false := by
  cases e : ltS z x
  · rfl
  · cases e2 : ltS x y
    · have q := str_tot h1 e2
      subst q
      rw [h2] at e
      cases e
    · rw [ltS_tr e e2] at h2
      cases h2
theorem lexS_asym {p q : Str × Str} (h : lexS p q = true) : lexS q p = false := by
  unfold lexS at h ⊢
  by_cases e : p.1 = q.1
  · rw [if_pos e] at h
    rw [if_pos e.symm]
    exact ltS_asym h
  · rw [if_neg e] at h
    rw [if_neg (Ne.symm e)]
    exact ltS_asym h
theorem lexS_neg {x y z : Str × Str} (h1 : lexS y x = false) (h2 : lexS z y = false) : lexS z x = false := by
  unfold lexS at h1 h2 ⊢
  by_cases e1 : y.1 = x.1
  · rw [if_pos e1] at h1
    by_cases e2 : z.1 = y.1
    · rw [if_pos e2] at h2
      rw [if_pos (e2.trans e1)]
      exact ltS_neg h1 h2
    · rw [if_neg e2] at h2
      rw [if_neg (fun w => e2 (w.trans e1.symm)), ← e1]
      exact h2
  · rw [if_neg e1] at h1
    by_cases e2 : z.1 = y.1
    · rw [if_neg (fun w => e1 (e2.symm.trans w)), e2]
      exact h1
    · rw [if_neg e2] at h2
      have n := ltS_neg h1 h2
      by_cases e3 : z.1 = x.1
      · rw [e3] at h2
        exact absurd (str_tot h1 h2) e1
      · rw [if_neg e3]
        exact n
theorem lexS_tot {p q : Str × Str} (h1 : lexS p q = false) (h2 : lexS q p = false) : p = q := by
  unfold lexS at h1 h2
  by_cases e : p.1 = q.1
  · rw [if_pos e] at h1
    rw [if_pos e.symm] at h2
    exact Prod.ext e (str_tot h1 h2)
  · rw [if_neg e] at h1
    rw [if_neg (Ne.symm e)] at h2
    exact absurd (str_tot h1 h2) e
theorem swo_S (k : Value → Str × Str) : SrtO.Swo fun v u => lexS (k v) (k u) := ⟨fun _ _ h => lexS_asym h, fun _ _ _ h1 h2 => lexS_neg h1 h2⟩
/-- sorted ones of the same are the same -/
theorem lex_one : ∀ {xs ys : List Ed}, xs.Perm ys → xs.Pairwise (fun p q => lexS q p = false) → ys.Pairwise (fun p q => lexS q p = false) → xs = ys
  | [], ys, p, _, _ => (List.Perm.nil_eq p)
  | x :: xs, [], p, _, _ => absurd p.length_eq (by simp)
  | x :: xs, y :: ys, p, h1, h2 => by
    obtain ⟨a1, a2⟩ := List.pairwise_cons.mp h1
    obtain ⟨b1, b2⟩ := List.pairwise_cons.mp h2
    have e : x = y := by
      have mx : x ∈ y :: ys := p.mem_iff.mp List.mem_cons_self
      have my : y ∈ x :: xs := p.mem_iff.mpr List.mem_cons_self
      rcases List.mem_cons.mp mx with z | z
      · exact z
      · rcases List.mem_cons.mp my with w | w
        · exact w.symm
        · exact lexS_tot (b1 x z) (a1 y w)
    subst e
    rw [lex_one ((List.perm_cons x).mp p) a2 b2]
section
variable {prog : Program} {w : World} {A : Around} {E : Value → Shared → Prop} {s : Shared}
theorem two_cmp {vs : List Value} {k : Value → Str × Str} (all : ∀ v ∈ vs, TwoS s.heap v (k v).1 (k v).2) : SrtO.Cmp prog w A s (tuples' true) (fun p => p.1 ∈ vs) (SrtO.lt2 fun v u => lexS (k v) (k u)) := by
  intro p q mp mq
  have g1 := all _ mp
  have g2 := all _ mq
  show wpAny (model prog w) A (keyLt' (tuples' true) p.1 q.1) (fun r s' => s' = s ∧ r = lexS (k p.1) (k q.1)) (fun _ _ => False) s
  generalize k p.1 = c at g1 ⊢
  generalize k q.1 = d at g2 ⊢
  obtain ⟨x, y⟩ := c
  obtain ⟨x', y'⟩ := d
  obtain ⟨a, o, t, u, n, e, ho, hc, hd⟩ := g1
  obtain ⟨a', o', t', u', n', e', ho', hc', hd'⟩ := g2
  rw [e, e']
  refine PySem.W.kat_lt ho hd ho' hd' ?_
  show PySem.W.KatLex prog w A true (decide (2 < 2)) _ [(.str x t, .str x' t'), (.str y u, .str y' u')] 0 s
  apply PySem.W.kat_cons
  refine SeqAt.EqAt.str_str x t x' t' prog w _ _ (PySem.W.kat_go (fun e1 => ?_) fun e1 => ?_)
  · have hx : x = x' := by simpa using e1
    apply PySem.W.kat_yes
    apply PySem.W.kat_cons
    refine SeqAt.EqAt.str_str y u y' u' prog w _ _ (PySem.W.kat_go (fun e2 => ?_) fun e2 => ?_)
    · have hy : y = y' := by simpa using e2
      have ea : lexS (x, y) (x', y') = false := by
        rw [hx, hy]
        show (if x' = x' then ltS y' y' else _) = false
        rw [if_pos rfl]
        exact ltS_irr _
      exact PySem.W.kat_yes (PySem.W.kat_nil ⟨rfl, ea.symm⟩)
    · have ea : lexS (x, y) (x', y') = decide (y.cps.toList < y'.cps.toList) := by
        show (if x = x' then ltS y y' else _) = _
        rw [if_pos hx]
        rfl
      apply PySem.W.kat_no
      apply PySem.W.kat_one
      apply PyProof.Rows.lt_str
      exact (show s = s ∧ decide (y.cps.toList < y'.cps.toList) = lexS (x, y) (x', y') from ⟨rfl, ea.symm⟩)
  · have hx : ¬ x = x' := by simpa using e1
    have ea : lexS (x, y) (x', y') = decide (x.cps.toList < x'.cps.toList) := by
      show (if x = x' then _ else ltS x x') = _
      rw [if_neg hx]
      rfl
    apply PySem.W.kat_no
    exact oneLt_str ⟨rfl, ea.symm⟩
theorem two_sortableO {a : Addr} {vs : List Value} {k : Value → Str × Str} (some_ : 0 < vs.length) (all : ∀ v ∈ vs, TwoS s.heap v (k v).1 (k v).2) (own : ∀ o, s.heap.get? a = some o → o.cls ≠ .type "tuple") : SrtO.SortableO prog w A s a vs fun v u => lexS (k v) (k u) := by
  intro g keep
  have all' : ∀ v ∈ vs, TwoS g v (k v).1 (k v).2 := fun v m => (all v m).stay fun b o e c => keep b o (fun z => own o (z ▸ e) c) e
  obtain ⟨fs, h1, h2, h3⟩ := two_heads fun v m => ⟨_, _, all' v m⟩
  refine ⟨tuples' true, fun Q E q => ?_, two_cmp all'⟩
  refine PySem.W.kat_kind (T := .type "str") h1 (by omega) (fun f m => ?_) (by rfl) ?_
  · obtain ⟨x, t, rfl⟩ := h3 f m
    exact PySem.W.Looks.now
  · rw [show (Value.type "str" != Value.type "tuple") = true by decide +kernel]
    exact q
end
/-- the two texts of a tuple -/
def pk (h : Heap) (v : Value) : Str × Str := match v with
  | .ref a => match h.get? a with
    | some o => match o.data with
      | .seq xs _ => match xs.toList with
        | [.str x _, .str y _] => (x, y)
        | _ => (Str.empty, Str.empty)
      | _ => (Str.empty, Str.empty)
    | none => (Str.empty, Str.empty)
  | _ => (Str.empty, Str.empty)
theorem pk_of {h : Heap} {v : Value} {x y : Str} (t : TwoS h v x y) : pk h v = (x, y) := by
  obtain ⟨a, o, t, u, n, rfl, ho, hc, hd⟩ := t
  unfold pk
  simp only [ho, hd]
/-- sorted(xs), xs a list of pairs of texts -/
def rSortTwoO (K : PySem.W.Frag) : List V → Hp → VK → Prop := fun vs H Q => ∃ a ts es, vs = [V.ref a] ∧ SqL K H a (List.map V.ref ts) ∧ TupsAt H ts es ∧
  ∀ us fs p, us.Perm ts → fs.Perm es → TupsAt H us fs → fs.Pairwise (fun p q => lexS q p = false) → H p = none → Q (.ref p) (upd H p (.lst (List.map V.ref us)))
theorem cr_sortTwoO {X : Cx} : CallR X (.builtin "sorted") (rSortTwoO X.K) := by
  intro pins s σ H vs us Q I r h
  obtain ⟨a, ts, es, rfl, hs, ht, q⟩ := h
  obtain ⟨its, rv, hl, hz⟩ := I.list hs
  obtain ⟨u, rfl, ru⟩ := vals1 r
  obtain rfl : u = Value.ref a := ru
  have ev : its = ts.map Value.ref := by
    clear hs ht hl hz q
    induction ts generalizing its with
    | nil =>
      cases rv
      rfl
    | cons t ts ih =>
      cases rv with
      | cons r1 r2 =>
        cases r1
        rw [ih _ r2]
        rfl
  subst ev
  have twoOf : ∀ {t : Addr} {e : Ed}, H t = some (.tup [.str e.1, .str e.2]) → TwoS s.heap (.ref t) e.1 e.2 := fun {t e} at2 => by
    obtain ⟨_, its2, r2, o, ho, hc, n, hd⟩ := I.hok _ _ at2
    obtain ⟨u1, u2, rfl, ri, rj⟩ := vals2 r2
    obtain ⟨t1, rfl⟩ := ri
    obtain ⟨t2, rfl⟩ := rj
    exact ⟨t, o, t1, t2, n, rfl, ho, hc, hd⟩
  have two : ∀ t ∈ ts, ∃ e : Ed, H t = some (.tup [.str e.1, .str e.2]) ∧ TwoS s.heap (.ref t) e.1 e.2 := fun t m => by
    obtain ⟨i, hi, e⟩ := List.getElem_of_mem m
    obtain ⟨ed, _, at2⟩ := paired_at (i := i) ht (by rw [List.getElem?_eq_getElem hi, e])
    exact ⟨ed, at2, twoOf at2⟩
  have keyed : ∀ v ∈ ts.map Value.ref, TwoS s.heap v (pk s.heap v).1 (pk s.heap v).2 := fun v m => by
    obtain ⟨t, mt, rfl⟩ := List.mem_map.mp m
    obtain ⟨e, _, p⟩ := two t mt
    rw [pk_of p]
    exact p
  refine SrtO.sorted_ord (swo_S (pk s.heap)) hl.isList (by rw [← rv.length]; exact hz) (fun many h₁ b hb keep => ?_) fun out hs1 hs2 => ?_
  · refine two_sortableO (s := { s with heap := h₁ }) (by omega) (fun v m => ?_) fun o e => ?_
    · exact (keyed v m).stay fun c o e _ => (keep c o e).2
    · cases e.symm.trans hb
      exact fun c => absurd (Value.type.inj c) (by decide)
  · have hp := hs2.perm
    obtain ⟨ws, rfl, pw⟩ : ∃ ws : List Addr, out = ws.map Value.ref ∧ ws.Perm ts := by
      have isr : ∀ v ∈ out, ∃ t, v = Value.ref t := fun v m => by
        obtain ⟨t, _, e⟩ := List.mem_map.mp (hp.mem_iff.mp m)
        exact ⟨t, e.symm⟩
      let f : Value → Addr := fun v => match v with
        | .ref t => t
        | _ => 0
      have e1 : ∀ l : List Value, (∀ v ∈ l, ∃ t, v = Value.ref t) → (l.map f).map Value.ref = l := fun l hl => by
        rw [List.map_map]
        conv => rhs; rw [← List.map_id l]
        refine List.map_congr_left fun v m => ?_
        obtain ⟨t, rfl⟩ := hl v m
        rfl
      have e2 : (ts.map Value.ref).map f = ts := by
        rw [List.map_map]
        conv => rhs; rw [← List.map_id ts]
        exact List.map_congr_left fun v m => rfl
      exact ⟨out.map f, (e1 out isr).symm, by
        have z := hp.map f
        rw [e2] at z
        exact z⟩
    obtain ⟨fs, pf, tf⟩ := paired_permL pw.symm ht
    obtain ⟨n, on⟩ := sortedAll_at s.heap (ts.map Value.ref) (ws.map Value.ref).toArray
    have few : (ws.map V.ref).length ≤ sizeLine := by
      rw [List.length_map, pw.length_eq]
      rw [List.length_map] at hz
      exact hz
    have vals : Vals (ws.map V.ref) (ws.map Value.ref) := by
      have z := vals_back (us := ws.map Value.ref) fun u m => by
        obtain ⟨t, _, e⟩ := List.mem_map.mp m
        exact ⟨t, e.symm⟩
      rw [back_refs] at z
      exact z
    have order : fs.Pairwise fun p q => lexS q p = false := by
      have z : (ws.map Value.ref).Pairwise fun v u => lexS (pk s.heap u) (pk s.heap v) = false := hs1
      rw [List.pairwise_map] at z
      clear hs2 hp vals few pf on q hs1 pw
      induction tf with
      | nil => exact .nil
      | @cons t e ws fs h1 h2 ih =>
        obtain ⟨z1, z2⟩ := List.pairwise_cons.mp z
        refine List.pairwise_cons.mpr ⟨fun e2 m2 => ?_, ih z2⟩
        obtain ⟨j, hj, ej⟩ := List.getElem_of_mem m2
        obtain ⟨t2, et2, at2⟩ := paired_back (F := fun (t : Addr) (e : Ed) => H t = some (.tup [.str e.1, .str e.2])) h2 (i := j) (y := e2) (by rw [List.getElem?_eq_getElem hj, ej])
        have w := z1 t2 (List.mem_of_getElem? et2)
        rw [pk_of (twoOf h1), pk_of (twoOf at2)] at w
        exact w
    exact ⟨.ref _, upd H (s.heap.objs.size + 1) (.lst (ws.map V.ref)), I.laid (t' := s.toks) (fun _ _ => sortedAll_old) (Nat.le_succ _) ⟨few, ws.map Value.ref, n, vals, on⟩, rfl, q ws fs _ pw pf.symm tf order (I.hok.fresh (Nat.le_succ _))⟩
end Lamp
set_option maxHeartbeats 8000000
namespace Lamp
open PySem PySem.Spec PyProof.Rows L2
/-! ### House.__init__ -/
/-- the same door, perhaps turned about -/
def Nrm (e d : Ed) : Prop := d = e ∨ d = (e.2, e.1)
theorem paired_perm {α β : Type} {R : α → β → Prop} {ys ys' : List β} (p : ys.Perm ys') : ∀ {xs : List α}, Paired R xs ys → ∃ xs', xs.Perm xs' ∧ Paired R xs' ys' := by
  induction p with
  | nil =>
    intro xs h
    cases h
    exact ⟨[], .refl _, .nil⟩
  | cons y _ ih =>
    intro xs h
    cases h with
    | cons r q =>
      obtain ⟨zs, h1, h2⟩ := ih q
      exact ⟨_ :: zs, h1.cons _, .cons r h2⟩
  | swap a b l =>
    intro xs h
    cases h with
    | cons r q =>
      cases q with
      | cons r2 q2 => exact ⟨_, List.Perm.swap _ _ _, .cons r2 (.cons r q2)⟩
  | trans _ _ ih1 ih2 =>
    intro xs h
    obtain ⟨zs, h1, h2⟩ := ih1 h
    obtain ⟨us, h3, h4⟩ := ih2 h2
    exact ⟨us, h1.trans h3, h4⟩
theorem nrm_conn {es ds : List Ed} (h : ∀ d ∈ ds, ∃ e ∈ es, Nrm e d) {a b : Str} (c : Conn ds a b) : Conn es a b := by
  have st : ∀ {x y : Str}, (x, y) ∈ ds → Conn es x y := fun {x y} m => by
    obtain ⟨e, he, n⟩ := h _ m
    rcases n with rfl | n
    · exact .fwd (.refl _) he
    · obtain ⟨rfl, rfl⟩ := Prod.mk.inj n
      exact .bwd (.refl _) he
  induction c with
  | refl => exact .refl _
  | fwd _ m ih => exact ih.trans (st m)
  | bwd _ m ih => exact ih.trans (st m).symm
theorem Nrm.symm {e d : Ed} (h : Nrm e d) : Nrm d e := by
  rcases h with rfl | rfl
  · exact .inl rfl
  · exact .inr rfl
theorem nrm_r {es ds : List Ed} (h : Paired Nrm es ds) : ∀ d ∈ ds, ∃ e ∈ es, Nrm e d := by
  induction h with
  | nil => exact fun d m => by cases m
  | cons r _ ih =>
    intro d m
    rcases List.mem_cons.mp m with rfl | m
    · exact ⟨_, List.mem_cons_self, r⟩
    · obtain ⟨e, he, n⟩ := ih d m
      exact ⟨e, List.mem_cons_of_mem _ he, n⟩
theorem nrm_l {es ds : List Ed} (h : Paired Nrm es ds) : ∀ e ∈ es, ∃ d ∈ ds, Nrm d e := by
  induction h with
  | nil => exact fun d m => by cases m
  | cons r _ ih =>
    intro d m
    rcases List.mem_cons.mp m with rfl | m
    · exact ⟨_, List.mem_cons_self, r.symm⟩
    · obtain ⟨e, he, n⟩ := ih d m
      exact ⟨e, List.mem_cons_of_mem _ he, n⟩
/-- a house without rings -/
structure GoodH (rs : List Str) (ds : List Ed) : Prop where
  nodup : rs.Nodup
  ne : rs ≠ []
  len : rs.length < 60
  dlen : ds.length < 60
  ends : ∀ d ∈ ds, d.1 ∈ rs ∧ d.2 ∈ rs ∧ d.1 ≠ d.2
  join : ∀ a ∈ rs, ∀ b ∈ rs, Conn ds a b
  noring : ∀ (e : Ed) (l : List Ed), ds.Perm (e :: l) → ¬ Conn l e.1 e.2
theorem GoodH.doors {rs : List Str} {ds : List Ed} (g : GoodH rs ds) : GoodDoors rs ds := fun l1 e l2 h => by
  have m : e ∈ ds := by
    rw [h]
    simp
  obtain ⟨h1, h2, h3⟩ := g.ends e m
  refine ⟨h1, h2, h3, fun c => ?_⟩
  have p : ds.Perm (e :: (l1 ++ l2)) := by
    rw [h]
    exact List.perm_middle
  exact g.noring e _ p (c.mono fun x hx => List.mem_append_left _ hx)
/-- the same house, its rooms and doors told in another order -/
theorem GoodH.turn {rs rs' : List Str} {ds ds0 ds' : List Ed} (g : GoodH rs ds) (p : rs'.Perm rs) (q : Paired Nrm ds ds0) (r : ds'.Perm ds0) : GoodH rs' ds' := by
  have m1 : ∀ d ∈ ds', ∃ e ∈ ds, Nrm e d := fun d hd => nrm_r q d (r.mem_iff.mp hd)
  have m2 : ∀ e ∈ ds, ∃ d ∈ ds', Nrm d e := fun e he => by
    obtain ⟨d, hd, n⟩ := nrm_l q e he
    exact ⟨d, r.mem_iff.mpr hd, n⟩
  refine ⟨p.nodup_iff.mpr g.nodup, fun z => g.ne (by rw [z] at p; exact p.symm.eq_nil), by rw [p.length_eq]; exact g.len, by rw [r.length_eq, ← paired_len q]; exact g.dlen, fun d hd => ?_, fun a ha b hb => ?_, fun e l pe c => ?_⟩
  · obtain ⟨e, he, n⟩ := m1 d hd
    obtain ⟨h1, h2, h3⟩ := g.ends e he
    rcases n with rfl | rfl
    · exact ⟨p.mem_iff.mpr h1, p.mem_iff.mpr h2, h3⟩
    · exact ⟨p.mem_iff.mpr h2, p.mem_iff.mpr h1, h3.symm⟩
  · exact nrm_conn m2 (g.join a (p.mem_iff.mp ha) b (p.mem_iff.mp hb))
  · obtain ⟨us, pu, pq⟩ := paired_perm (r.symm.trans pe) q
    cases pq with
    | cons n pl =>
      have c2 := nrm_conn (nrm_r pl) c
      refine g.noring _ _ pu ?_
      rcases n with z | z
      · rw [z] at c2
        exact c2
      · rw [z] at c2
        exact c2.symm
/-- doors ascending, each with its lesser room first -/
structure Asc (ds : List Ed) : Prop where
  sort : ds.Pairwise fun p q => lexS q p = false
  less : ∀ d ∈ ds, ltS d.1 d.2 = true
theorem sorted_two {x y : Str} (h : sortedS [x, y] = true) (ne : x ≠ y) : ltS x y = true := by
  have h2 : (!ltCps y.cps.toList x.cps.toList && true) = true := h
  rw [Bool.and_true, Bool.not_eq_true', ltCps_eq] at h2
  cases e : ltS x y
  · exact absurd (str_tot e h2) ne
  · rfl
structure TxtK (mg : Str → Option Value) : Prop where
  srt : mg "sorted" = none
  tup : mg "tuple" = none
section
variable {P : Program} {w : World} {K : PySem.W.Frag} {mg : Str → Option Value} {base : Heap} {C : Addr}
/-- all but the object at x is as it was -/
structure Gx (x : Addr) (H H' : Hp) : Prop where
  s : ∀ b o, H b = some o → b ≠ x → H' b = some o
  n : ∀ b, H' b = none → H b = none
theorem Gx.of {x : Addr} {H H' : Hp} (g : Gr H H') : Gx x H H' := ⟨fun b o e _ => g.s b o e, g.n⟩
theorem Gx.trans {x : Addr} {H H1 H2 : Hp} (a : Gx x H H1) (b : Gx x H1 H2) : Gx x H H2 := ⟨fun c o e n => b.s c o (a.s c o e n) n, fun c z => a.n c (b.n c z)⟩
theorem Gx.upd {x : Addr} {H : Hp} {o : HO} : Gx x H (L2.upd H x o) := ⟨fun b u e n => by rw [upd_ne n]; exact e, fun b z => (none_upd z).2⟩
def spInit (C : Addr) : Sp := fun vs H Q _ => ∃ (x dx a b : Addr) (rs : List Str) (ts : List Addr) (es : List Ed), vs = [.ref x, .ref a, .ref b] ∧ H x = some (.ins C dx []) ∧ H a = some (.lst (rs.map V.str)) ∧ H b = some (.lst (ts.map V.ref)) ∧ TupsAt H ts es ∧ GoodH rs es ∧ (∀ r ∈ rs, nameOk r = true) ∧
  ∀ H' rs' ds, rs'.Perm rs → sortedS rs' = true → GoodH rs' ds → (∀ e ∈ es, ∃ d ∈ ds, Nrm d e) → Asc ds → (∀ d ∈ ds, ∃ e ∈ es, Nrm e d) → HouseAt H' C x rs' ds → Gx x H H' → Q .non H'
abbrev NIn : List Str := ["self", "rooms", "doors", "index", "parted", "door"]
theorem scIn : FnScope NIn ["self", "rooms", "doors"] (defScope m_House_init) := ⟨rfl, rfl, rfl, by decide +kernel, rfl, by decide +kernel, by decide +kernel⟩
/-- tuple(x), x a list -/
abbrev rTupOf (K : PySem.W.Frag) : List V → Hp → VK → Prop := fun xs H Q => ∃ p ys, xs = [.ref p] ∧ ((SqL K H p ys ∧ ∀ l, H l = none → Q (.ref l) (upd H l (.tup ys))) ∨ (SqT K H p ys ∧ Q (.ref p) H))
theorem perm_two {x y : Str} : ∀ {ys : List Str}, ys.Perm [x, y] → ys = [x, y] ∨ ys = [y, x] := fun {ys} p => by
  have l := p.length_eq
  match ys, l with
  | [a, b], _ =>
    have ma : a ∈ [x, y] := p.mem_iff.mp List.mem_cons_self
    rcases List.mem_cons.mp ma with rfl | ma
    · have q := p.cons_inv
      exact .inl (by rw [List.perm_singleton.mp q])
    · obtain rfl := List.mem_singleton.mp ma
      have q : [a, b].Perm [a, x] := p.trans (List.Perm.swap _ _ _)
      exact .inr (by rw [List.perm_singleton.mp q.cons_inv])
theorem ok_init {f : Addr} {fd : FuncData} (F : Fun K "__init__" "House.__init__" m_House_init f fd) (T : TxtK mg) (c : ClsH K C) (RO : Stands P w K mg base 2 "rooms_fault" ["rooms"] (spRoomsF K)) (DO : Stands P w K mg base 3 "doors_fault" ["rooms", "doors"] (spDoors K)) (NO : Stands P w K mg base 1 "rooms_by_doors" ["rooms", "doors"] (spNearBy K)) (FO : Stands P w K mg base 3 "first_parted" ["house", "some"] (spFirst K C)) :
    FnOk P w K mg base CX0 4 f fd ["self", "rooms", "doors"] (spInit C) := by
  obtain ⟨fr, dr, Gr', mr, kr, br⟩ := RO
  obtain ⟨fo, do_, Go, mo, ko, bo⟩ := DO
  obtain ⟨fn, dn, Gn, mn, kn, bn⟩ := NO
  obtain ⟨ff, df, Gf, mf, kf, bf⟩ := FO
  refine F.ok scIn (fun vs H Q E h => ?_) (fun cdv A outer s H vs Q E hr h => ?_)
  · obtain ⟨x, dx, a, b, rs, ts, es, rfl, _⟩ := h
    rfl
  · obtain ⟨x, dx, a, b, rs, ts, es, rfl, hx, ha, hb, ht, gd, ok, k⟩ := h
    refine ⟨_, pss_cons (ps_set (i := 3) scIn.nd rfl (Or.inl rfl) (pe_call Gr' (hr.mono (by decide)) (by rfl) mr kr br .nil pass0 (pa_cons (pv 1) pa_nil)))
      (pss_cons (ps_if (pt_cmp (pc_notN (pv 3)) (by rfl)) pss_dead pss_nil)
      (pss_cons (ps_set (i := 3) scIn.nd rfl (Or.inl rfl) (pe_call Go hr (by rfl) mo ko bo .nil pass0 (pa_cons (pv 1) (pa_cons (pv 2) pa_nil))))
      (pss_cons (ps_if (pt_cmp (pc_notN (pv 3)) (by rfl)) pss_dead pss_nil)
      (pss_cons (ps_fld (pv 0) (pe_callB cr_sortedS (by rfl) T.srt PyProof.Rows.boot_sorted (pa_cons (pv 1) pa_nil)) (by rfl))
      (pss_cons (ps_fld (pv 0) (pe_callB cr_sortTwoO (by rfl) T.srt PyProof.Rows.boot_sorted (pa_cons
          (pe_lc (te := tCB (rTupOf K) (tCons (tCB (rSortTup K) (tCons (tVar 5) tNil)) tNil)) (own := [("door", 5)]) (g := gName 5) (tt := tYes) rfl scIn.nd (pi_list (pv 2)) (blkOk_by (N := NIn) (sc := defScope m_House_init) (by decide +kernel))
            (fun _ _ _ _ _ => pg_name (i := 5) scIn.nd rfl (Or.inl rfl)) (fun _ _ _ _ _ => pts_nil)
            (fun _ _ _ _ _ => by exact (pe_callTy call_tuple_of (by rfl) T.tup (by decide +kernel) (pa_cons (pe_callB cr_sortTup (by rfl) T.srt PyProof.Rows.boot_sorted (pa_cons (pv 5) pa_nil)) pa_nil)))) pa_nil)) (by rfl))
      (pss_cons (ps_fld (pv 0) (pe_call Gn (hr.mono (by decide)) (by rfl) mn kn bn .nil pass0 (pa_cons (pe_fld (f := "_rooms") (pv 0) (by rfl)) (pa_cons (pe_fld (f := "_doors") (pv 0) (by rfl)) pa_nil))) (by rfl))
      (pss_cons (ps_set (i := 4) scIn.nd rfl (Or.inl rfl) (pe_call Gf hr (by rfl) mf kf bf .nil pass0 (pa_cons (pv 0) (pa_cons (pe_fld (f := "_rooms") (pv 0) (by rfl)) pa_nil))))
      (pss_one (ps_if (pt_cmp (pc_notN (pv 4)) (by rfl)) pss_dead pss_nil))))))))), ?_⟩
    refine ⟨_, rfl, a, rs, rfl, .inl (.inl ha), fun H' s => .base (.lst (s _ _ ha)), gd.nodup, gd.ne, Nat.lt_trans gd.len (by decide), ok, fun H1 s1 n1 => ⟨_, rfl, _, rfl, iteF2 (by simp) ?_⟩⟩
    refine ⟨_, rfl, _, rfl, a, b, rs, ts, es, rfl, .inl (.inl (s1 _ _ ha)), .inl (.inl (s1 _ _ hb)), fun H' s => .base (.lst (s _ _ (s1 _ _ hb))), Paired.imp (fun _ _ e => s1 _ _ e) ht, gd.nodup, Nat.lt_trans gd.len (by decide), gd.doors, fun H2 s2 n2 => ⟨_, rfl, _, rfl, iteF2 (by simp) ?_⟩⟩
    have g2 : Gr H H2 := (Gr.mk s1 n1).trans ⟨s2, n2⟩
    refine ⟨_, rfl, a, rs, rfl, .inl (.inl (g2.s _ _ ha)), Nat.lt_trans gd.len (by decide), fun rs' ra prm srt nra => ?_⟩
    have hx2 := g2.s _ _ hx
    have xra : x ≠ ra := ne_of_none hx2 nra
    have RN : H ra = none := g2.n _ nra
    refine ⟨_, rfl, x, C, dx, [], rfl, (by rw [upd_ne xra]; exact hx2), c.cls, c.nR, (by decide), ?_⟩
    rw [show putF "_rooms" (V.ref ra) [] = ([("_rooms", V.ref ra)] : List (Str × V)) from rfl]
    generalize eH3 : upd (upd H2 ra (.lst (rs'.map V.str))) x (.ins C dx [("_rooms", .ref ra)]) = H3
    have g3 : Gx x H H3 := by
      rw [← eH3]
      exact (Gx.of (g2.trans (Gr.upd nra))).trans Gx.upd
    have hx3 : H3 x = some (.ins C dx [("_rooms", .ref ra)]) := by
      rw [← eH3]
      exact upd_same
    have hr3 : H3 ra = some (.lst (rs'.map V.str)) := by
      rw [← eH3, upd_ne xra.symm, upd_same]
    have bx : b ≠ x := ne_of hb hx (by intro z; cases z)
    have tx : ∀ {t : Addr} {e : Ed}, H t = some (.tup [.str e.1, .str e.2]) → t ≠ x := fun h => ne_of h hx (by intro z; cases z)
    refine ⟨_, rfl, b, rfl, ⟨_, .inl (.inl (g3.s _ _ hb bx))⟩, fun D hD => ?_⟩
    refine lc_it (walk_list (xs := ts.map V.ref)) (fun j H' => ∃ (us : List Addr) (ds : List Ed), H' D = some (.lst (us.map V.ref)) ∧ TupsAt H' us ds ∧ Paired Nrm (es.take j) ds ∧ Gr H3 H' ∧ ∀ d ∈ ds, ltS d.1 d.2 = true) ⟨[], [], upd_same, .nil, .nil, Gr.upd hD, fun d h => by cases h⟩ (fun j H' _ q => ?_) ?_ ?_
    · obtain ⟨us, ds, q1, q2, q3, q4, _⟩ := q
      exact .inl (.inl (q4.s _ _ (g3.s _ _ hb bx)))
    · rintro j v H' H'' hj ⟨us, ds, q1, q2, q3, q4, q5⟩ ⟨rfl, hv⟩
      rw [List.getElem?_map] at hv
      obtain ⟨t, et, rfl⟩ := Option.map_eq_some_iff.mp hv
      obtain ⟨e, ee, te⟩ := paired_at ht et
      have t3 := q4.s _ _ (g3.s _ _ te (tx te))
      refine ⟨rfl, _, rfl, t, [e.1, e.2], rfl, .inl (.inl t3), (by show 2 < 64; decide), fun ys p py sy np => ?_⟩
      refine ⟨p, _, rfl, .inl ⟨.inl (.inl upd_same), fun l nl => ?_⟩⟩
      have g5 : Gr H'' (upd (upd H'' p (.lst (ys.map V.str))) l (.tup (ys.map V.str))) := (Gr.upd np).trans (Gr.upd nl)
      have ne := (gd.ends e (List.mem_of_getElem? ee)).2.2
      obtain ⟨dd, ed, nd, ls⟩ : ∃ d : Ed, ys.map V.str = [.str d.1, .str d.2] ∧ Nrm e d ∧ ltS d.1 d.2 = true := by
        rcases perm_two py with rfl | rfl
        · exact ⟨e, rfl, .inl rfl, sorted_two sy ne⟩
        · exact ⟨(e.2, e.1), rfl, .inr rfl, sorted_two sy ne.symm⟩
      rw [ed] at g5 ⊢
      have DN : H3 D = none := hD
      have q1' := g5.s _ _ q1
      have tk : es.take (j + 1) = es.take j ++ [e] := by
        rw [List.take_add_one, ee]
        rfl
      refine ⟨us.map V.ref, q1', ?_, us ++ [l], ds ++ [dd], ?_, ?_, ?_, ?_, fun d hd => ?_⟩
      · rw [List.length_map, paired_len q2, ← paired_len q3, List.length_take]
        exact Nat.lt_of_le_of_lt (Nat.min_le_right _ _) (Nat.lt_trans gd.dlen (by decide))
      · rw [upd_same, List.map_append]
        rfl
      · have r1 := paired_snoc (R := fun (t : Addr) (e : Ed) => (upd (upd H'' p (.lst [V.str dd.1, V.str dd.2])) l (.tup [V.str dd.1, V.str dd.2])) t = some (.tup [.str e.1, .str e.2])) (a := l) (b := dd) upd_same (Paired.imp (fun _ _ e => g5.s _ _ e) q2)
        refine Paired.imp (fun t e h => ?_) r1
        have nt : t ≠ D := ne_of h q1' (by intro z; cases z)
        rw [upd_ne nt]
        exact h
      · rw [tk]
        exact paired_snoc nd q3
      · exact (q4.trans g5).put DN
      · rcases List.mem_append.mp hd with hd | hd
        · exact q5 d hd
        · rw [List.mem_singleton.mp hd]
          exact ls
    · rintro H4 ⟨us, ds, q1, q2, q3, q4, ql⟩
      rw [List.length_map, paired_len ht, List.take_length] at q3
      refine ⟨D, us, ds, rfl, SqL.of q1, q2, fun us' ds' da pu pd0 q5 ord nda => ?_⟩
      have pd := pd0.symm
      have asc : Asc ds' := ⟨ord, fun d hd => ql d (pd.mem_iff.mpr hd)⟩
      have gd' : GoodH rs' ds' := gd.turn prm q3 pd.symm
      have hx4 := q4.s _ _ hx3
      have xda : x ≠ da := ne_of_none hx4 nda
      refine ⟨_, rfl, x, C, dx, _, rfl, (by rw [upd_ne xda]; exact hx4), c.cls, c.nD, (by show 1 < 1000; decide), ?_⟩
      rw [show putF "_doors" (V.ref da) ([("_rooms", V.ref ra)] : List (Str × V)) = ([("_rooms", V.ref ra), ("_doors", V.ref da)] : List (Str × V)) from rfl]
      generalize eH5 : upd (upd H4 da (.lst (us'.map V.ref))) x (.ins C dx [("_rooms", .ref ra), ("_doors", .ref da)]) = H5
      have g5 : Gx x H4 H5 := by
        rw [← eH5]
        exact (Gx.of (Gr.upd nda)).trans Gx.upd
      have g35 : Gx x H3 H5 := (Gx.of q4).trans g5
      have hx5 : H5 x = some (.ins C dx [("_rooms", .ref ra), ("_doors", .ref da)]) := by
        rw [← eH5]
        exact upd_same
      have hr5 : H5 ra = some (.lst (rs'.map V.str)) := g35.s _ _ hr3 xra.symm
      have hd5 : H5 da = some (.lst (us'.map V.ref)) := by
        rw [← eH5, upd_ne xda.symm, upd_same]
      have ht5 : TupsAt H5 us' ds' := Paired.imp (fun t e h => g5.s _ _ h (ne_of h hx4 (by intro z; cases z))) q5
      refine ⟨_, rfl, x, C, dx, _, _, rfl, hx5, c.cls, c.nR, by rfl, _, rfl, x, C, dx, _, _, rfl, hx5, c.cls, c.nD, by rfl, ra, da, rs', us', ds', rfl, .inl (.inl hr5), .inl (.inl hd5), ht5, gd'.nodup, Nat.lt_trans gd'.len (by decide), Nat.lt_trans gd'.dlen (by decide), gd'.ends, fun H6 na hna s6 n6 nna => ?_⟩
      have hx6 := s6 _ _ hx5
      refine ⟨_, rfl, x, C, dx, _, rfl, hx6, c.cls, c.nN, (by show 2 < 1000; decide), ?_⟩
      rw [show putF "_near" (V.ref na) ([("_rooms", V.ref ra), ("_doors", V.ref da)] : List (Str × V)) = ([("_rooms", V.ref ra), ("_doors", V.ref da), ("_near", V.ref na)] : List (Str × V)) from rfl]
      generalize eH7 : upd H6 x (.ins C dx [("_rooms", .ref ra), ("_doors", .ref da), ("_near", .ref na)]) = H7
      have g7 : Gx x H6 H7 := by
        rw [← eH7]
        exact Gx.upd
      have g57 : Gx x H5 H7 := (Gx.of ⟨s6, n6⟩).trans g7
      have hx7 : H7 x = some (.ins C dx [("_rooms", .ref ra), ("_doors", .ref da), ("_near", .ref na)]) := by
        rw [← eH7]
        exact upd_same
      have hr7 : H7 ra = some (.lst (rs'.map V.str)) := g57.s _ _ hr5 xra.symm
      have hh : HouseAt H7 C x rs' ds' := by
        obtain ⟨nf, n1', n2'⟩ := hna
        have nx : ∀ {y : Addr} {o : HO}, H6 y = some o → (∀ C' dx' fs, o ≠ .ins C' dx' fs) → H7 y = some o := fun {y o} e no => g7.s _ _ e (fun z => by
          rw [z, hx6] at e
          exact no _ _ _ (Option.some.inj e).symm)
        exact ⟨dx, ra, da, na, us', hx7, hr7, g57.s _ _ hd5 xda.symm, Paired.imp (fun t e h => g57.s _ _ h (ne_of h hx5 (by intro z; cases z))) ht5, nf, nx n1' (fun _ _ _ z => by cases z), fun r hr => nx (n2' r hr) (fun _ _ _ z => by cases z)⟩
      refine ⟨_, rfl, _, rfl, x, C, dx, _, _, rfl, hx7, c.cls, c.nR, by rfl, x, ra, rs', ds', rfl, hh, .inl (.inl hr7), gd'.ne, gd'.nodup, gd'.len, gd'.ends, Nat.lt_trans gd'.dlen (by decide), gd'.join, fun H8 s8 n8 => ⟨_, rfl, _, rfl, iteF2 (by simp) ?_⟩⟩
      exact k H8 rs' ds' prm srt gd' (fun e he => let ⟨d, hd, n⟩ := nrm_l q3 e he; ⟨d, pd.mem_iff.mp hd, n⟩) asc (fun d hd => nrm_r q3 d (pd.mem_iff.mpr hd)) (hh.same s8) ((g3.trans g35).trans (g57.trans (Gx.of ⟨s8, n8⟩)))
end
end Lamp
set_option maxHeartbeats 4000000
namespace Lamp
open PySem PySem.Spec PyProof.Rows
section
variable {X : L2.Cx}
open L2
/-- one turn of a comprehension that fills the dict at D, whose keys are tuples -/
abbrev TTurn (g : TG) (tt : TT) (tk tv : TE) (ss : List Nat) (τ : L2.St) (D : Addr) (N : Hp → Prop) (z : V) (Hb : Hp) : Prop :=
  g z (wipe τ ss) Hb fun τ2 Hc => wipe τ2 ss = wipe τ ss ∧ tt τ2 Hc fun yes Hd => if yes = true then tk τ2 Hd fun kx He => tv τ2 He fun vx Hf => ∃ es ke q, kx = .ref q ∧ Hf q = some (.tup (ke.map kV)) ∧ Hf D = some (.dT es) ∧ es.length < sizeLine ∧ N (upd Hf D (.dT (putK es ke vx))) else N Hd
/-- {k: v for ..}, keys tuples -/
def tDcT (wi : TI) (g : TG) (tt : TT) (tk tv : TE) (ss : List Nat) : TE := fun τ Ha Q => wi τ Ha fun J Hb => ∀ D, Hb D = none →
  ∃ R : Nat → Nat → Hp → Prop, (∃ k, R 0 k (upd Hb D (.dT []))) ∧ ∀ i k Hc, R i k Hc → (J.stop i Hc ∧ Q (.ref D) Hc) ∨ (J.go i Hc ∧ ∃ N : Hp → Prop, (∀ Hd, N Hd → ∃ k', k' < k ∧ R (i + 1) k' Hd) ∧ ∀ z Hd, J.yld i Hc z Hd → TTurn g tt tk tv ss τ D N z Hd)
/-- a key goes into a dict of tuple keys, by a comprehension -/
theorem put_tupleKey {pins : List (Addr × Obj)} {τ : L2.St} {Ha : Hp} {sh : Shared} {E : Value → Shared → Prop} {D q : Addr} {es : List (List Key × V)} {ke : List Key} {vx : V} {r : Value} {Q : Unit → Shared → Prop} (hu : X.A.units + 1 < cLine) (I : Inv X pins τ Ha sh)
    (atD : Ha D = some (.dT es)) (atq : Ha q = some (.tup (ke.map kV))) (small : es.length < sizeLine) (rv : RelV vx r) (k : ∀ sh', Inv X pins τ (upd Ha D (.dT (putK es ke vx))) sh' → Q () sh') : wpAny (model X.prog X.w) X.A (dictSet D (.ref q) r) Q E sh := by
  obtain ⟨z1, notSys, xs, rel, dd⟩ := dt_of I.hok atD
  have z2 : xs.length ≤ sizeLine := by
    rw [← Paired.length rel]
    exact z1
  have z3 : (putK es ke vx).length ≤ sizeLine := by
    have := length_putK es ke vx
    omega
  refine wpAny_dictSet_heap (hsz := z2) (show X.A.units < cLine by omega) (key_of I.hok atq) dd fun g dd' sb => k _ ?_
  obtain ⟨od, e1, e2, h1, h2, h3, h4, _, h5⟩ := dd'
  refine d_write I (by rw [atD]; exact True.intro) sb ⟨od, h1⟩ ⟨z3, notSys, _, (rel.put ke atq rv).keeps fun c ys ec => ?_, od, e1, e2, h1, h2, h3, h4, h5⟩
  have ne : c ≠ D := ne_of ec atD (fun z => nomatch z)
  rw [upd_ne ne]
  exact ec
theorem dcT_run {pins : List (Addr × Obj)} {sh : Shared} {τ : L2.St} {Ha : Hp} {Q : VK} {ke ve tg iter : Expr} {ifs : List Expr} {sc : Scope} {own : List (Str × Nat)} {dpos fpos : Pos} {wi : TI} {g : TG} {tt : TT} {tk tv : TE} {use : Option (Value → Sem Unit)} {Qf : Value → Shared → Prop}
    (calm : X.calm = true) (nd : X.N.Nodup) (hu : X.A.units + 1 < cLine) (I : Inv X pins τ Ha sh) (pit : PI X tg iter wi) (blk : BlkOk X.N X.env.scope sc own)
    (pg : InBlk X sc fun Y => PG Y tg g) (pt : InBlk X sc fun Y => PTs Y ifs tt) (pk : InBlk X sc fun Y => PE Y ke tk) (pv : InBlk X sc fun Y => PE Y ve tv) (fold : ∀ z, foldedSetIterable iter X.env z = pure z)
    (h : tDcT wi g tt tk tv (own.map (·.2)) τ Ha Q)
    (fin : ∀ D B sh' m Hb, Inv X pins τ Hb sh' → Q (.ref D) Hb → sh'.heap.Ns B m → FpOk X pins Hb B → compPost (model X.prog X.w) X.A X.xe use Qf (.ref D) B (.ok .next) sh') :
    wpAny (model X.prog X.w) X.A (comprehension (.DictComp ke ve [⟨tg, iter, ifs, 0⟩] sc dpos) sc X.env fpos newDict false (eval iter X.env) use) Qf X.xe sh := by
  have cells : ∀ y ∈ sc.names, y.2 = .free → ∃ c, X.env.cells.lookup y.1 = some c := fun y hy e =>
    (blk.free y hy e).elim (fun k => I.ok.has _ (.inl k)) fun k => I.ok.has _ (.inr k)
  refine wpAny_comprehension_free (use := use) rfl fold (closure_ok cells) blk.kind (fun y hy e => by rw [blk.uniq y hy, e]) ?_
  refine thn (pit.run pins sh τ Ha _ I h) fun _ sh1 w1 => thn w1 fun _ sh2 w2 => ?_
  obtain ⟨it, fp, tn, J, H2, e, I2, TT, started, clear, q⟩ := w2
  subst e
  refine wpAny_newObj_type
    (newEnv_comp ?_)
  generalize eD : sh2.heap.objs.size = D
  have freeD : H2 D = none := I2.hok.fresh (Nat.le_of_eq eD)
  obtain ⟨R, ⟨k0, r0⟩, turn⟩ := q D freeD
  generalize eS : ({ sh2 with heap := sh2.heap.push { cls := .type "dict", data := .dict #[] } } : Shared) = sh3
  have heap3 : sh3.heap = sh2.heap.push { cls := .type "dict", data := .dict #[] } := by rw [← eS]
  have I3 : Inv X pins τ (upd H2 D (.dT [])) sh3 := by
    rw [← eS]
    refine I2.laid (t' := sh2.toks) (fun b o z => Heap.get?_push_of_some _ z) (Nat.le_of_eq eD) ?_
    rw [← eD]
    exact dt_empty sh2.heap I2.big
  have clear3 : ∀ b ∈ fp, FpOk X pins (upd H2 D (.dT [])) b ∧ b < sh3.heap.objs.size := fun b hb => by
    obtain ⟨_, z, _⟩ := TT.obj _ _ started b hb
    have lt := Heap.lt_size z
    have ne : b ≠ D := by
      rw [← eD]
      exact Nat.ne_of_lt lt
    refine ⟨⟨by rw [upd_ne ne]; exact (clear b hb).1, (clear b hb).2⟩, ?_⟩
    rw [heap3, Heap.size_push]
    exact Nat.lt_succ_of_lt lt
  have started3 : tn 0 sh3.heap := TT.keep _ _ _ started fun b _ o z => by
    rw [heap3]
    exact Heap.get?_push_of_some _ z
  have I4 := block_start I3 blk nd clear3
  have PGb := pg sh3 (upd H2 D (.dT [])) sh3.heap.objs.size (cellsFrom (sh3.heap.objs.size + 1) sc.names (cloFrom X.env.cells sc.names [])) fp
  have PTb := pt sh3 (upd H2 D (.dT [])) sh3.heap.objs.size (cellsFrom (sh3.heap.objs.size + 1) sc.names (cloFrom X.env.cells sc.names [])) fp
  have PKb := pk sh3 (upd H2 D (.dT [])) sh3.heap.objs.size (cellsFrom (sh3.heap.objs.size + 1) sc.names (cloFrom X.env.cells sc.names [])) fp
  have PVb := pv sh3 (upd H2 D (.dT [])) sh3.heap.objs.size (cellsFrom (sh3.heap.objs.size + 1) sc.names (cloFrom X.env.cells sc.names [])) fp
  show codeAny _ _ (.compStart (.DictComp ke ve [⟨tg, iter, ifs, 0⟩] sc dpos) 0 (.ref it) (.ref D) (compEnvC sc (cellsFrom (sh3.heap.objs.size + 1) sc.names (cloFrom X.env.cells sc.names [])) sh3.heap.objs.size X.env))
    (compPost (model X.prog X.w) X.A X.xe use Qf (.ref D) sh3.heap.objs.size) { sh3 with heap := pushCells (sh3.heap.push { cls := .type "dict", data := .dict #[] }) sc.names }
  have none3 : ∀ b ∈ fp, (upd H2 D (.dT [])) b = none := fun b hb => (clear3 b hb).1.1
  generalize eE : compEnvC sc (cellsFrom (sh3.heap.objs.size + 1) sc.names (cloFrom X.env.cells sc.names [])) sh3.heap.objs.size X.env = en at I4 PGb PTb PKb PVb ⊢
  have locE : en.locals = sh3.heap.objs.size := by
    subst eE
    rfl
  generalize eH3 : upd H2 D (.dT []) = H3 at I3 I4 PGb PTb PKb PVb r0 none3 clear3
  generalize eS4 : ({ sh3 with heap := pushCells (sh3.heap.push { cls := .type "dict", data := .dict #[] }) sc.names } : Shared) = sh4 at I4 ⊢
  have started4 : tn 0 sh4.heap := TT.keep _ _ _ started3 fun b _ o z => by
    rw [← eS4]
    exact pushCells_keeps _ _ _ _ (Heap.get?_push_of_some _ z)
  have okAll : ∀ {τ' : L2.St} {H' : Hp} {sh' : Shared}, Inv (X.blk sh3 H3 sc en fp) [] τ' H' sh' → (∀ b ∈ fp, H' b = none) → ∀ b ∈ fp, FpOk (X.blk sh3 H3 sc en fp) [] H' b := fun {_ _ _} J' n b hb =>
    ⟨n b hb, (J'.ok.exf b hb).1, J'.ok.exfs b hb, .inl hb, fun x c z => (J'.ok.exf b hb).2 x c z, fun p hp => absurd (show p ∈ ([] : List (Addr × Obj)) ++ [] from hp) (by simp)⟩
  have body : codeAny (model X.prog X.w) X.A (.compLoop (.DictComp ke ve [⟨tg, iter, ifs, 0⟩] sc dpos) 0 (.ref it) (.ref D) en) (compPost (model X.prog X.w) X.A X.xe use Qf (.ref D) sh3.heap.objs.size) sh4 := by
    refine compLoop_anyD (fun n sh' => ∃ i Hc, Inv (X.blk sh3 H3 sc en fp) [] (wipe τ (own.map (·.2))) Hc sh' ∧ tn i sh'.heap ∧ (∀ b ∈ fp, Hc b = none) ∧ R i n Hc) ?_ k0 ⟨0, H3, I4, started4, none3, r0⟩
    rintro n sh5 ⟨i, H5, I5, started5, none5, r5⟩
    rcases turn i n H5 r5 with ⟨stop, qf⟩ | ⟨go, N, lessN, step⟩
    · refine thnF (TT.done (X.blk sh3 H3 sc en fp) rfl rfl rfl calm i [] sh5 _ H5 (fun _ _ => False) I5 (okAll I5 none5) started5 stop) fun got sh6 ⟨e6, I6⟩ => ?_
      subst e6
      have I7 : Inv X pins τ H5 sh6 := I3.call' (ch := fp) I6.os I6.base I6.hok I6.bare fun b hb =>
        let z := (clear3 b hb).1.2
        ⟨z.2.2.1, z.1, z.2.2.2.1, z.2.2.2.2⟩
      have freeB : H5 sh3.heap.objs.size = none := by
        rw [← locE]
        exact I6.free
      obtain ⟨m, hn, _⟩ := I6.loc
      replace hn : sh6.heap.Ns en.locals m := hn
      rw [locE] at hn
      exact fin D sh3.heap.objs.size sh6 m H5 I7 qf hn (I3.fpOk (Nat.le_refl _) freeB)
    · refine thnF (TT.item (X.blk sh3 H3 sc en fp) rfl rfl rfl calm i [] sh5 _ H5 (fun _ _ => False) I5 (okAll I5 none5) started5 go) fun got sh6 ⟨u, e6, w6⟩ => ?_
      subst e6
      refine thnF w6 fun _ sh7 ⟨x, H7, I7, r7, y7, started7, none7⟩ => ?_
      have I7p := I7.pinned (okAll I7 none7) (TT.obj _ _ started7)
      refine thnF (PGb.run _ sh7 _ H7 x u _ I7p r7 (step x H7 y7)) fun _ sh8 ⟨τ8, H8, I8, wiped8, q8⟩ => ?_
      refine thnF (PTb.run _ sh8 τ8 H8 _ I8 q8) fun yes sh9 ⟨H9, I9, q9⟩ => ?_
      have next : ∀ {sh' : Shared} {H' : Hp}, Inv (X.blk sh3 H3 sc en fp) ([] ++ pinsAt fp sh7.heap) τ8 H' sh' → N H' →
          ∃ m, m < n ∧ ∃ i Hc, Inv (X.blk sh3 H3 sc en fp) [] (wipe τ (own.map (·.2))) Hc sh' ∧ tn i sh'.heap ∧ (∀ b ∈ fp, Hc b = none) ∧ R i m Hc := fun {sh' H'} J' nH => by
        obtain ⟨k', lt, r'⟩ := lessN H' nH
        have held : ∀ b ∈ fp, ∀ o, sh7.heap.get? b = some o → sh'.heap.get? b = some o ∧ H' b = none := fun b hb o z =>
          let y := J'.pin (b, o) (List.mem_append_right _ (List.mem_append_right _ (mem_pinsAt hb z)))
          ⟨y.1, y.2.1⟩
        have sameLen : (wipe τ (own.map (·.2))).length = τ8.length := by
          rw [← wiped8, wipe_length]
        refine ⟨k', lt, i + 1, H', (J'.unpinned (pins := [])).weak sameLen (fun j v z => ?_), TT.keep _ _ _ started7 fun b hb o z => (held b hb o z).1, fun b hb => ?_, r'⟩
        · rw [← wiped8] at z
          exact (wipe_some z).1
        · obtain ⟨o, z, _⟩ := TT.obj _ _ started7 b hb
          exact (held b hb o z).2
      cases yes with
      | false =>
        simp only [Bool.false_eq_true, if_false] at q9 ⊢
        exact next I9 q9
      | true =>
        simp only [if_true] at q9 ⊢
        refine thnF (PKb.run _ sh9 τ8 H9 _ I9 q9) fun zk sh10 ⟨yk, H10, I10, r10, q10⟩ => ?_
        refine thnF (PVb.run _ sh10 τ8 H10 _ I10 q10) fun zv sh11 ⟨yv, H11, I11, r11, es, kk, qa, ek, aq, aD, few, nH⟩ => ?_
        subst ek
        obtain rfl : zk = Value.ref qa := r10
        exact put_tupleKey (X := X.blk sh3 H3 sc en fp) hu I11 aD aq few r11 fun sh12 I12 => next I12 nH
  exact codeAny_compStart_dict body (TT.self X.A 0 _ _ _ started4 body)
/-- y = {k: v for ..}, keys tuples, y a local name -/
theorem ps_setDcT {i : Nat} {y : Str} {yp dpos spos : Pos} {ke ve tg iter : Expr} {ifs : List Expr} {sc : Scope} {own : List (Str × Nat)} {wi : TI} {g : TG} {tt : TT} {tk tv : TE}
    (calm : X.calm = true) (nd : X.N.Nodup) (hu : X.A.units + 1 < cLine) (at_ : X.N[i]? = some y) (loc : X.env.scope.names.lookup y = some .local)
    (sw : swapsWith (.DictComp ke ve [⟨tg, iter, ifs, 0⟩] sc dpos) (some (.Name y yp)) spos.line X.env = pure true) (pit : PI X tg iter wi) (blk : BlkOk X.N X.env.scope sc own)
    (pg : InBlk X sc fun Y => PG Y tg g) (pt : InBlk X sc fun Y => PTs Y ifs tt) (pk : InBlk X sc fun Y => PE Y ke tk) (pv : InBlk X sc fun Y => PE Y ve tv) (fold : ∀ z, foldedSetIterable iter X.env z = pure z := by intro _; rfl) :
    PS X (.Assign [.Name y yp] (.DictComp ke ve [⟨tg, iter, ifs, 0⟩] sc dpos) spos) (tAsg (tDcT wi g tt tk tv (own.map (·.2))) (gName i)) := by
  constructor
  intro pins s σ H D I h
  rw [exec_Assign_Name_used (hs := sw)]
  apply wpAny_bind; apply wpAny_standAt; apply wpAny_bind
  show wpAny _ X.A (do let _ ← comprehension (.DictComp ke ve [⟨tg, iter, ifs, 0⟩] sc dpos) sc X.env (firstIterPos [⟨tg, iter, ifs, 0⟩] dpos) newDict false (eval iter X.env) (some (assign (.Name y yp) X.env))) _ _ s
  have q0 : tDcT wi g tt tk tv (own.map (·.2)) σ H (fun x H1 => gName i x σ H1 D.nx) := h
  have core := dcT_run (Qf := fun _ s' => SP X pins D .next s') (use := some (assign (.Name y yp) X.env)) (dpos := dpos) (fpos := firstIterPos [⟨tg, iter, ifs, 0⟩] dpos) calm nd hu I pit blk pg pt pk pv fold q0 (fun L B s' m H' I' q hn f => by
    show wpAny _ _ (assign (.Name y yp) X.env (.ref L)) _ _ _
    obtain ⟨f0, f1, _, f3, f4, f5⟩ := f
    refine wpAny_assign_Name (store_ok2 (v := V.ref L) I' nd at_ (.inl loc) rfl (fun s2 I2 z => ?_) (.inr loc))
    obtain ⟨a, sb, ha⟩ := z
    have ne : B ≠ a := by
      rcases ha with e | e
      · exact e ▸ f1
      · exact fun c => f4 y a e c.symm
    exact ⟨m, hn.sameBut sb ne, fun h3 sb3 => ⟨_, H', I2.turned (t' := s2.toks) (fun b o hb e => (sb3.2 b hb).trans e) f0 f1 f3 f4 f5, q⟩⟩)
  exact wpAny_bind (thn core fun _ s' hq => wpAny_pure (wpAny_pure hq))
/-- a dict comprehension with tuple keys over what is walked -/
theorem dcT_it {J : It} {n : Nat} {G : Hp → Prop} {Y : Nat → Hp → V → Hp → Prop} {g : TG} {tt : TT} {tk tv : TE} {ss : List Nat} {τ : L2.St} {Ha : Hp} {D : Addr} (w : Walk J n G Y) {Qd : Hp → Prop} (Pv : Nat → Hp → Prop) (h0 : Pv 0 (upd Ha D (.dT []))) (hG : ∀ i H, i ≤ n → Pv i H → G H)
    (turn : ∀ i z H Hb, i < n → Pv i H → Y i H z Hb → TTurn g tt tk tv ss τ D (Pv (i + 1)) z Hb) (fin : ∀ H, Pv n H → Qd H) :
    ∃ R : Nat → Nat → Hp → Prop, (∃ k, R 0 k (upd Ha D (.dT []))) ∧ ∀ i k H, R i k H → (J.stop i H ∧ Qd H) ∨ (J.go i H ∧ ∃ N : Hp → Prop, (∀ Hb, N Hb → ∃ k', k' < k ∧ R (i + 1) k' Hb) ∧ ∀ z Hb, J.yld i H z Hb → TTurn g tt tk tv ss τ D N z Hb) := by
  refine ⟨fun i k H => i ≤ n ∧ k = n - i ∧ Pv i H, ⟨n, Nat.zero_le _, rfl, h0⟩, ?_⟩
  rintro i k H ⟨hi, rfl, p⟩
  have q := hG i H hi p
  rcases Nat.lt_or_ge i n with lt | ge
  · exact .inr ⟨w.goes i H lt q, Pv (i + 1), fun Hb p' => ⟨n - (i + 1), by omega, lt, rfl, p'⟩, fun z Hb y => turn i z H Hb lt p (w.yields i H z Hb lt q y)⟩
  · obtain rfl : i = n := Nat.le_antisymm hi ge
    exact .inl ⟨w.stops H q, fin H p⟩
end
end Lamp
set_option maxHeartbeats 8000000
namespace Lamp
open PySem PySem.Spec PyProof.Rows L2
section
variable {J J1 : It} {n : Nat} {G : Hp → Prop} {Y : Nat → Hp → V → Hp → Prop} {g g1 : TG} {tt tt1 : TT} {te : TE} {wi1 : TI} {ss s1 : List Nat} {τ : L2.St} {Ha : Hp} {D : Addr}
/-- one turn of a list comprehension -/
abbrev LTurn (g : TG) (tt : TT) (te : TE) (ss : List Nat) (τ : L2.St) (D : Addr) (N : Hp → Prop) (z : V) (Hb : Hp) : Prop :=
  g z (wipe τ ss) Hb fun τ2 Hc => wipe τ2 ss = wipe τ ss ∧ tt τ2 Hc fun yes Hd => if yes = true then te τ2 Hd fun y He => ∃ acc, He D = some (.lst acc) ∧ acc.length < sizeLine ∧ N (upd He D (.lst (acc ++ [y]))) else N Hd
/-- the second source of a list comprehension, walked from where it stands -/
theorem lc_in (w : Walk J n G Y) {Nx : Hp → Prop} (Pv : Nat → Hp → Prop) (h0 : Pv 0 Ha) (hG : ∀ i H, i ≤ n → Pv i H → G H) (turn : ∀ i z H Hb, i < n → Pv i H → Y i H z Hb → LTurn g tt te ss τ D (Pv (i + 1)) z Hb) (fin : ∀ H, Pv n H → Nx H) :
    ∃ R : Nat → Nat → Hp → Prop, (∃ k, R 0 k Ha) ∧ ∀ i k H, R i k H → (J.stop i H ∧ Nx H) ∨ (J.go i H ∧ ∃ N : Hp → Prop, (∀ Hb, N Hb → ∃ k', k' < k ∧ R (i + 1) k' Hb) ∧ ∀ z Hb, J.yld i H z Hb → LTurn g tt te ss τ D N z Hb) := by
  refine ⟨fun i k H => i ≤ n ∧ k = n - i ∧ Pv i H, ⟨n, Nat.zero_le _, rfl, h0⟩, ?_⟩
  rintro i k H ⟨hi, rfl, p⟩
  have q := hG i H hi p
  rcases Nat.lt_or_ge i n with lt | ge
  · exact .inr ⟨w.goes i H lt q, Pv (i + 1), fun Hb p' => ⟨n - (i + 1), by omega, lt, rfl, p'⟩, fun z Hb y => turn i z H Hb lt p (w.yields i H z Hb lt q y)⟩
  · obtain rfl : i = n := Nat.le_antisymm hi ge
    exact .inl ⟨w.stops H q, fin H p⟩
/-- one turn of the first source -/
abbrev LTurn2 (g : TG) (tt : TT) (wi1 : TI) (g1 : TG) (tt1 : TT) (te : TE) (ss s1 : List Nat) (τ : L2.St) (D : Addr) (N : Hp → Prop) (z : V) (Hb : Hp) : Prop :=
  g z (wipe τ ss) Hb fun τ2 Hc => wipe τ2 ss = wipe τ ss ∧ tt τ2 Hc fun yes Hd => if yes = true then wi1 τ2 Hd fun J1 He => ∃ R1 : Nat → Nat → Hp → Prop, (∃ k, R1 0 k He) ∧ ∀ j k H, R1 j k H →
    (J1.stop j H ∧ N H) ∨ (J1.go j H ∧ ∃ N1 : Hp → Prop, (∀ Hf, N1 Hf → ∃ k', k' < k ∧ R1 (j + 1) k' Hf) ∧ ∀ z Hf, J1.yld j H z Hf → LTurn g1 tt1 te s1 τ2 D N1 z Hf) else N Hd
theorem lc2_it (w : Walk J n G Y) {Qd : Hp → Prop} (Pv : Nat → Hp → Prop) (h0 : Pv 0 (upd Ha D (.lst []))) (hG : ∀ i H, i ≤ n → Pv i H → G H) (turn : ∀ i z H Hb, i < n → Pv i H → Y i H z Hb → LTurn2 g tt wi1 g1 tt1 te ss s1 τ D (Pv (i + 1)) z Hb) (fin : ∀ H, Pv n H → Qd H) :
    ∃ R : Nat → Nat → Hp → Prop, (∃ k, R 0 k (upd Ha D (.lst []))) ∧ ∀ i k H, R i k H → (J.stop i H ∧ Qd H) ∨ (J.go i H ∧ ∃ N : Hp → Prop, (∀ Hb, N Hb → ∃ k', k' < k ∧ R (i + 1) k' Hb) ∧ ∀ z Hb, J.yld i H z Hb → LTurn2 g tt wi1 g1 tt1 te ss s1 τ D N z Hb) := by
  refine ⟨fun i k H => i ≤ n ∧ k = n - i ∧ Pv i H, ⟨n, Nat.zero_le _, rfl, h0⟩, ?_⟩
  rintro i k H ⟨hi, rfl, p⟩
  have q := hG i H hi p
  rcases Nat.lt_or_ge i n with lt | ge
  · exact .inr ⟨w.goes i H lt q, Pv (i + 1), fun Hb p' => ⟨n - (i + 1), by omega, lt, rfl, p'⟩, fun z Hb y => turn i z H Hb lt p (w.yields i H z Hb lt q y)⟩
  · obtain rfl : i = n := Nat.le_antisymm hi ge
    exact .inl ⟨w.stops H q, fin H p⟩
end
/-- all pairs (room, one beside it) -/
def prs (rs : List Str) (ds : List Ed) : List Ed := rs.flatMap fun r => (nearOf ds r).map fun o => (r, o)
theorem prs_mem {rs : List Str} {ds : List Ed} {a b : Str} : (a, b) ∈ prs rs ds ↔ a ∈ rs ∧ b ∈ nearOf ds a := by
  unfold prs
  rw [List.mem_flatMap]
  refine ⟨fun ⟨r, hr, h⟩ => ?_, fun ⟨h1, h2⟩ => ⟨a, h1, List.mem_map.mpr ⟨b, h2, rfl⟩⟩⟩
  obtain ⟨o, ho, e⟩ := List.mem_map.mp h
  obtain ⟨rfl, rfl⟩ := Prod.mk.inj e
  exact ⟨hr, ho⟩
/-- no room stands twice beside another -/
theorem near_nodup {ds : List Ed} (ne : ∀ d ∈ ds, d.1 ≠ d.2) (nr : ∀ (e : Ed) (l : List Ed), ds.Perm (e :: l) → ¬ Conn l e.1 e.2) (a : Str) : (nearOf ds a).Nodup := by
  induction ds with
  | nil => exact List.nodup_nil
  | cons d ds ih =>
    have ih := ih (fun x hx => ne x (List.mem_cons_of_mem _ hx)) fun e l p c => nr e (d :: l) ((p.cons d).trans (List.Perm.swap _ _ _)) (c.mono fun x hx => List.mem_cons_of_mem _ hx)
    have key : ∀ o, o ∈ nearOf ds a → (d.1 = a ∧ d.2 = o) ∨ (d.2 = a ∧ d.1 = o) → False := fun o ho hd => by
      have c : Conn ds a o := by
        obtain ⟨x, hx, z⟩ := near_mem.mp ho
        rcases z with ⟨rfl, rfl⟩ | ⟨_, rfl, rfl⟩
        · exact .fwd (.refl _) hx
        · exact .bwd (.refl _) hx
      refine nr d ds (.refl _) ?_
      rcases hd with ⟨rfl, rfl⟩ | ⟨rfl, rfl⟩
      · exact c
      · exact c.symm
    show (nearOf (d :: ds) a).Nodup
    by_cases h1 : d.1 = a
    · have e : nearOf (d :: ds) a = d.2 :: nearOf ds a := by simp [nearOf, h1]
      rw [e]
      exact List.nodup_cons.mpr ⟨fun m => key _ m (.inl ⟨h1, rfl⟩), ih⟩
    · by_cases h2 : d.2 = a
      · have e : nearOf (d :: ds) a = d.1 :: nearOf ds a := by simp [nearOf, h1, h2]
        rw [e]
        exact List.nodup_cons.mpr ⟨fun m => key _ m (.inr ⟨h2, rfl⟩), ih⟩
      · have e : nearOf (d :: ds) a = nearOf ds a := by simp [nearOf, h1, h2]
        rw [e]
        exact ih
theorem prs_nodup {rs : List Str} {ds : List Ed} (g : GoodH rs ds) : (prs rs ds).Nodup := by
  have nn := near_nodup (fun d hd => (g.ends d hd).2.2) g.noring
  unfold prs
  have go : ∀ l : List Str, l.Nodup → (l.flatMap fun r => (nearOf ds r).map fun o => (r, o)).Nodup := fun l => by
    induction l with
    | nil => exact fun _ => List.nodup_nil
    | cons r l ih =>
      intro nd
      obtain ⟨h1, h2⟩ := List.nodup_cons.mp nd
      rw [List.flatMap_cons]
      refine List.nodup_append.mpr ⟨?_, ih h2, fun x hx y hy e => ?_⟩
      · exact List.Pairwise.map _ (fun p q h e => h (Prod.mk.inj e).2) (nn r)
      · subst e
        obtain ⟨o, _, rfl⟩ := List.mem_map.mp hx
        obtain ⟨q, hq, h⟩ := List.mem_flatMap.mp hy
        obtain ⟨u, _, e⟩ := List.mem_map.mp h
        exact h1 ((Prod.mk.inj e).1 ▸ hq)
  exact go rs g.nodup
theorem prs_len {rs : List Str} {ds : List Ed} : (prs rs ds).length ≤ rs.length * ds.length := by
  unfold prs
  induction rs with
  | nil => simp
  | cons r rs ih =>
    rw [List.flatMap_cons, List.length_append, List.length_map, List.length_cons, Nat.add_mul]
    have := near_len (ds := ds) (r := r)
    omega
theorem near_in {rs : List Str} {ds : List Ed} (en : ∀ d ∈ ds, d.1 ∈ rs ∧ d.2 ∈ rs ∧ d.1 ≠ d.2) {a b : Str} (h : b ∈ nearOf ds a) : b ∈ rs ∧ a ∈ rs ∧ a ≠ b := by
  obtain ⟨d, hd, z⟩ := near_mem.mp h
  obtain ⟨h1, h2, h3⟩ := en d hd
  rcases z with ⟨rfl, rfl⟩ | ⟨_, rfl, rfl⟩
  · exact ⟨h2, h1, h3⟩
  · exact ⟨h1, h2, h3.symm⟩
theorem near_sym {ds : List Ed} (ne : ∀ d ∈ ds, d.1 ≠ d.2) {a b : Str} (h : b ∈ nearOf ds a) : a ∈ nearOf ds b := by
  obtain ⟨d, hd, z⟩ := near_mem.mp h
  rcases z with ⟨rfl, rfl⟩ | ⟨_, rfl, rfl⟩
  · exact near_mem.mpr ⟨d, hd, .inr ⟨ne d hd, rfl, rfl⟩⟩
  · exact near_mem.mpr ⟨d, hd, .inl ⟨rfl, rfl⟩⟩
section
variable {P : Program} {w : World} {K : PySem.W.Frag} {mg : Str → Option Value} {base : Heap} {C : Addr}
def spPairs (C : Addr) : Sp := fun vs H Q _ => ∃ (h : Addr) (rs : List Str) (ds : List Ed), vs = [.ref h] ∧ HouseAt H C h rs ds ∧ GoodH rs ds ∧
  ∀ H' p ts, H' p = some (.lst (ts.map V.ref)) → TupsAt H' ts (prs rs ds) → Gr H H' → H p = none → Q (.ref p) H'
abbrev NPb : List Str := ["house", "room", "other"]
theorem scPb : FnScope NPb ["house"] (defScope s_pairs_beside) := ⟨rfl, rfl, rfl, by decide +kernel, rfl, by decide +kernel, by decide +kernel⟩
theorem ok_pairs {f : Addr} {fd : FuncData} (F : Fun K "pairs_beside" "pairs_beside" s_pairs_beside f fd) (M : HasH P w K mg base C) : FnOk P w K mg base CX0 2 f fd ["house"] (spPairs C) := by
  obtain ⟨fr, dr, mr, Gr', br⟩ := M.rooms
  obtain ⟨fn, dn, mn, Gn, bn⟩ := M.near
  refine F.ok scPb (fun vs H Q E h => ?_) (fun cdv A outer s H vs Q E hr h => ?_)
  · obtain ⟨h, rs, ds, rfl, _⟩ := h
    rfl
  · obtain ⟨h, rs, ds, rfl, hh, gd, k⟩ := h
    refine ⟨_, pss_one (ps_ret (pe_lc2 (te := tTup (tCons (tVar 1) (tCons (tVar 2) tNil))) (own := [("room", 1), ("other", 2)]) (vs1 := [2]) (g := gName 1) (g1 := gName 2) (tt := tYes) (tt1 := tYes) (wi1 := iList K (tMeth C "near" (spNear C) [] E0 (tVar 0) (tCons (tVar 1) tNil))) rfl scPb.nd (pi_list (pe_meth0 (pv 0) M.cls.cls mr Gr' hr br .nil pass0)) (blkOk_by (N := NPb) (sc := defScope s_pairs_beside) (by decide +kernel)) (by decide)
        (fun _ _ _ _ _ => pg_name (i := 1) scPb.nd rfl (Or.inl rfl)) (fun _ _ _ _ _ => pts_nil) (fun _ _ _ _ _ => by exact (pi_list (pe_meth (pv 0) M.cls.cls mn Gn hr bn .nil pass0 (pa_cons (pv 1) pa_nil))))
        (fun _ _ _ _ _ => pg_name (i := 2) scPb.nd rfl (Or.inl rfl)) (fun _ _ _ _ _ => pts_nil) (fun _ _ _ _ _ => by exact (pe_tup (pa_cons (pv 1) (pa_cons (pv 2) pa_nil)))))), ?_⟩
    have a' := hh
    obtain ⟨dx, ra, da, na, tsd, h1, h2, h3, h4, nf, h5, h6⟩ := a'.at_
    refine ⟨_, rfl, h, dx, _, rfl, h1, by rfl, h, rs, ds, rfl, hh, fun H1 p s1 n1 np e1 => ?_⟩
    have g1 : Gr H H1 := ⟨s1, n1⟩
    refine ⟨p, rfl, ⟨_, SqL.of e1⟩, fun D hD => ?_⟩
    have DN : H D = none := n1 _ hD
    refine lc2_it (walk_list (xs := rs.map V.str)) (fun i H' => ∃ ts, H' D = some (.lst (ts.map V.ref)) ∧ TupsAt H' ts (prs (rs.take i) ds) ∧ Gr H1 H') ⟨[], upd_same, .nil, Gr.upd hD⟩ (fun i H' _ q => ?_) ?_ ?_
    · obtain ⟨ts, _, _, q3⟩ := q
      exact SqL.of (q3.s _ _ e1)
    · rintro i v H' H'' hi ⟨ts, q1, q2, q3⟩ ⟨rfl, hv⟩
      have hi2 : i < rs.length := by simpa using hi
      obtain rfl : V.str rs[i] = v := by
        rw [List.getElem?_map, List.getElem?_eq_getElem hi2] at hv
        exact Option.some.inj hv
      have gH := g1.trans q3
      have mr : rs[i] ∈ rs := List.getElem_mem hi2
      refine ⟨rfl, _, rfl, h, dx, _, rfl, gH.s _ _ h1, by rfl, _, rfl, h, rs[i], rs, ds, rfl, hh.same gH.s, mr, fun H3 q s3 n3 nq e3 => ?_⟩
      refine ⟨q, rfl, ⟨_, SqL.of e3⟩, ?_⟩
      have DN3 : D ≠ q := ne_of_none q1 nq
      generalize en : nearOf ds rs[i] = near at e3
      have lp : ∀ j, (prs (rs.take i) ds ++ (near.take j).map fun o => (rs[i], o)).length < 4000 := fun j => by
        rw [List.length_append, List.length_map, List.length_take]
        have z1 := prs_len (rs := rs.take i) (ds := ds)
        have z2 : near.length ≤ ds.length := by rw [← en]; exact near_len
        have z3 : (rs.take i).length ≤ 60 := by
          rw [List.length_take]
          have := gd.len
          omega
        have z4 : (rs.take i).length * ds.length ≤ 60 * 60 := Nat.mul_le_mul z3 (Nat.le_of_lt gd.dlen)
        have := gd.dlen
        omega
      refine lc_in (walk_list (xs := near.map V.str)) (fun j H4 => ∃ us, H4 D = some (.lst (us.map V.ref)) ∧ TupsAt H4 us (prs (rs.take i) ds ++ (near.take j).map fun o => (rs[i], o)) ∧ H4 q = some (.lst (near.map V.str)) ∧ Gr H1 H4) ⟨ts, s3 _ _ q1, by rw [List.take_zero, List.map_nil, List.append_nil]; exact Paired.imp (fun _ _ e => s3 _ _ e) q2, e3, q3.trans ⟨s3, n3⟩⟩ (fun j H4 _ w => ?_) ?_ ?_
      · obtain ⟨us, _, _, w3, _⟩ := w
        exact SqL.of w3
      · rintro j v H4 H5 hj ⟨us, w1, w2, w3, w4⟩ ⟨rfl, hv⟩
        have hj2 : j < near.length := by simpa using hj
        obtain rfl : V.str near[j] = v := by
          rw [List.getElem?_map, List.getElem?_eq_getElem hj2] at hv
          exact Option.some.inj hv
        refine ⟨rfl, _, rfl, _, rfl, (by show 2 ≤ sizeLine; decide), fun t nt => ?_⟩
        have g5 := Gr.upd (o := .tup [.str rs[i], .str near[j]]) nt
        have w1' := g5.s _ _ w1
        have tk : near.take (j + 1) = near.take j ++ [near[j]] := (List.take_append_getElem hj2).symm
        refine ⟨_, w1', ?_, us ++ [t], ?_, ?_, ?_, ?_⟩
        · rw [List.length_map, paired_len w2]
          exact Nat.lt_trans (lp j) (by decide)
        · rw [upd_same, List.map_append]
          rfl
        · rw [tk, List.map_append, ← List.append_assoc]
          have r2 := paired_snoc (R := fun (x : Addr) (e : Ed) => (upd H5 t (.tup [.str rs[i], .str near[j]])) x = some (.tup [.str e.1, .str e.2])) (a := t) (b := (rs[i], near[j])) upd_same (Paired.imp (fun _ _ e => g5.s _ _ e) w2)
          refine Paired.imp (fun x e hx => ?_) r2
          have nx : x ≠ D := ne_of hx w1' (by intro z; cases z)
          rw [upd_ne nx]
          exact hx
        · have qD : q ≠ D := DN3.symm
          rw [upd_ne qD]
          exact g5.s _ _ w3
        · exact (w4.trans g5).put hD
      · rintro H4 ⟨us, w1, w2, w3, w4⟩
        rw [List.length_map, List.take_length] at w2
        refine ⟨us, w1, ?_, w4⟩
        have tk : rs.take (i + 1) = rs.take i ++ [rs[i]] := (List.take_append_getElem hi2).symm
        have e : prs (rs.take (i + 1)) ds = prs (rs.take i) ds ++ near.map fun o => (rs[i], o) := by
          unfold prs
          rw [tk, List.flatMap_append, ← en]
          simp
        rw [e]
        exact w2
    · rintro H' ⟨ts, q1, q2, q3⟩
      rw [List.length_map, List.take_length] at q2
      exact k H' D ts q1 q2 (g1.trans q3) DN
end
end Lamp
set_option maxHeartbeats 8000000
namespace Lamp
open PySem PySem.Spec PyProof.Rows L2
/-- a pair as a key -/
abbrev kE (p : Ed) : List Key := [.inr p.1, .inr p.2]
theorem kE_inj {p q : Ed} (h : kE p = kE q) : p = q := by
  obtain ⟨a, b⟩ := p
  obtain ⟨c, d⟩ := q
  have h1 := (List.cons.inj h).1
  have h2 := (List.cons.inj (List.cons.inj h).2).1
  have e1 : a = c := Sum.inr.inj h1
  have e2 : b = d := Sum.inr.inj h2
  rw [e1, e2]
/-- a dict from pairs to numbers -/
def PT (ps : List Ed) (c : Ed → Nat) : List (List Key × V) := ps.map fun p => (kE p, .int (c p : Int))
theorem pt_len {ps : List Ed} {c : Ed → Nat} : (PT ps c).length = ps.length := List.length_map _
theorem pt_get {c : Ed → Nat} {p : Ed} : ∀ {ps : List Ed}, p ∈ ps → valV (PT ps c) (kE p) = some (.int (c p : Int))
  | [], m => by cases m
  | q :: ps, m => by
    by_cases e : q = p
    · subst e
      simp [PT, valV]
    · have ih := pt_get (c := c) (p := p) (ps := ps) ((List.mem_cons.mp m).resolve_left fun z => e z.symm)
      rw [← ih]
      have ne : kE q ≠ kE p := fun z => e (kE_inj z)
      have no : ¬ decide (kE q = kE p) = true := by rw [decide_eq_false ne]; decide
      unfold valV PT
      rw [List.map_cons, List.find?_cons_of_neg (p := fun kv : List Key × V => decide (kv.1 = kE p)) (a := (kE q, V.int (c q : Int))) no]
theorem pt_none {c : Ed → Nat} {p : Ed} : ∀ {ps : List Ed}, p ∉ ps → valV (PT ps c) (kE p) = none
  | [], _ => rfl
  | q :: ps, m => by
    have e : q ≠ p := fun z => m (z ▸ List.mem_cons_self)
    have ih := pt_none (c := c) (p := p) (ps := ps) fun z => m (List.mem_cons_of_mem _ z)
    rw [← ih]
    have ne : kE q ≠ kE p := fun z => e (kE_inj z)
    have no : ¬ decide (kE q = kE p) = true := by rw [decide_eq_false ne]; decide
    unfold valV PT
    rw [List.map_cons, List.find?_cons_of_neg (p := fun kv : List Key × V => decide (kv.1 = kE p)) (a := (kE q, V.int (c q : Int))) no]
def putC (c : Ed → Nat) (p : Ed) (n : Nat) : Ed → Nat := fun q => if q = p then n else c q
theorem pt_new {c : Ed → Nat} {p : Ed} {n : Nat} {ps : List Ed} (m : p ∉ ps) : putK (PT ps c) (kE p) (.int (n : Int)) = PT (ps ++ [p]) (putC c p n) := by
  unfold putK
  have a : ¬ ((PT ps c).any fun kv => decide (kv.1 = kE p)) = true := fun z => by
    obtain ⟨kv, h1, h2⟩ := List.any_eq_true.mp z
    obtain ⟨x, hx, rfl⟩ := List.mem_map.mp h1
    exact m (kE_inj (of_decide_eq_true h2) ▸ hx)
  rw [if_neg a]
  unfold PT
  rw [List.map_append]
  congr 1
  · refine List.map_congr_left fun x hx => ?_
    rw [putC, if_neg (fun z : x = p => m (z ▸ hx))]
  · show [(kE p, V.int n)] = [(kE p, V.int (putC c p n p))]
    rw [putC, if_pos rfl]
theorem pt_put {c : Ed → Nat} {p : Ed} {n : Nat} {ps : List Ed} (m : p ∈ ps) : putK (PT ps c) (kE p) (.int (n : Int)) = PT ps (putC c p n) := by
  unfold putK
  have a : ((PT ps c).any fun kv => decide (kv.1 = kE p)) = true := List.any_eq_true.mpr ⟨(kE p, .int (c p : Int)), List.mem_map.mpr ⟨p, m, rfl⟩, by simp⟩
  rw [if_pos a]
  unfold PT
  rw [List.map_map]
  refine List.map_congr_left fun x _ => ?_
  show (if kE x = kE p then (kE x, V.int n) else (kE x, V.int (c x))) = (kE x, V.int (putC c p n x))
  by_cases e : x = p
  · subst e
    rw [if_pos rfl, putC, if_pos rfl]
  · rw [if_neg (fun z => e (kE_inj z)), putC, if_neg e]
theorem pt_ext {c c' : Ed → Nat} {ps : List Ed} (h : ∀ p ∈ ps, c p = c' p) : PT ps c = PT ps c' := List.map_congr_left fun p hp => by rw [h p hp]
section
variable {P : Program} {w : World} {K : PySem.W.Frag} {mg : Str → Option Value} {base : Heap} {C : Addr}
def spPasses (K : PySem.W.Frag) (C : Addr) : Sp := fun vs H Q _ => ∃ (h a : Addr) (row rs : List Str) (ds : List Ed), vs = [.ref h, .ref a] ∧ HouseAt H C h rs ds ∧ GoodH rs ds ∧ SqL K H a (row.map V.str) ∧ (∀ H', Same H H' → TyX K H' (.ref a) (.type "list")) ∧ Car rs ds row ∧ row.length < 1000 ∧
  ∀ H' p, H' p = some (.dT (PT (prs rs ds) fun e => trs row e.1 e.2 row.length)) → Gr H H' → H p = none → Q (.ref p) H'
abbrev NPs : List Str := ["house", "carrying", "counted", "index", "room", "pair"]
theorem scPs : FnScope NPs ["house", "carrying"] (defScope s_passes) := ⟨rfl, rfl, rfl, by decide +kernel, rfl, by decide +kernel, by decide +kernel⟩
theorem ok_passes {f : Addr} {fd : FuncData} (F : Fun K "passes" "passes" s_passes f fd) (T : TxtC mg) (NO : Stands P w K mg base 4 "need_carrying" ["house", "carrying"] (spCarN K C)) (PO : Stands P w K mg base 2 "pairs_beside" ["house"] (spPairs C)) :
    FnOk P w K mg base CX0 5 f fd ["house", "carrying"] (spPasses K C) := by
  obtain ⟨fn, dn, Gn, mn, kn, bn⟩ := NO
  obtain ⟨fp, dp, Gp, mp, kp, bp⟩ := PO
  refine F.ok scPs (fun vs H Q E h => ?_) (fun cdv A outer s H vs Q E hr h => ?_)
  · obtain ⟨h, a, row, rs, ds, rfl, _⟩ := h
    rfl
  · obtain ⟨h, a, row, rs, ds, rfl, hh, gd, ha, tya, car, hl, k⟩ := h
    have hu := Nat.lt_of_le_of_lt (Nat.add_le_add_left (show 1 ≤ 64 by decide) _) hr.units
    refine ⟨_, pss_cons (ps_expr (pe_call Gn hr (by rfl) mn kn bn .nil pass0 (pa_cons (pv 0) (pa_cons (pv 1) pa_nil))))
      (pss_cons (ps_setDcT (i := 2) (tk := tVar 5) (tv := tC (.int 0)) (own := [("pair", 5)]) (g := gName 5) (tt := tYes) rfl scPs.nd hu rfl rfl (sw_dict rfl rfl rfl (by decide +kernel)) (pi_list (pe_call Gp (hr.mono (by decide)) (by rfl) mp kp bp .nil pass0 (pa_cons (pv 0) pa_nil))) (blkOk_by (N := NPs) (sc := defScope s_passes) (by decide +kernel))
        (fun _ _ _ _ _ => pg_name (i := 5) scPs.nd rfl (Or.inl rfl)) (fun _ _ _ _ _ => pts_nil) (fun _ _ _ _ _ => pv 5) (fun _ _ _ _ _ => pe_int))
      (pss_cons (ps_for PassesOwn.never rfl (pi_enum (by rfl) T.enu (pa_cons (pv 1) pa_nil)) (pg_tup rfl (pgs_cons (pg_name (i := 3) scPs.nd rfl (Or.inl rfl)) (pgs_cons (pg_name (i := 4) scPs.nd rfl (Or.inl rfl)) pgs_nil)))
        (pss_one (ps_if (PW.pt (pw_and (pt_cmpR op_gt (pv 3) pe_int (nomark _)) (pw_and1 (pt_cmpR op_ne (pe_ix ix_list (pv 1) (pe_op op_sub (pv 3) pe_int) (fun _ _ => rfl)) (pv 4) (nomark _)))))
          (pss_one (ps_daug hu (pv 2) (pe_tup (pa_cons (pe_ix ix_list (pv 1) (pe_op op_sub (pv 3) pe_int) (fun _ _ => rfl)) (pa_cons (pv 4) pa_nil))) pe_int iop_add (fun _ _ _ => rfl)))
          pss_nil)))
      (pss_one (ps_ret (pv 2))))), ?_⟩
    refine ⟨_, rfl, _, rfl, h, a, row, rs, ds, rfl, hh, ha, tya, car, fun H1 g1 => ?_⟩
    refine ⟨_, rfl, h, rs, ds, rfl, hh.same g1.s, gd, fun H2 p ts e2 t2 g2 n2 => ?_⟩
    refine ⟨p, rfl, ⟨_, SqL.of e2⟩, fun D hD => ?_⟩
    have g12 := g1.trans g2
    have DN : H D = none := g12.n _ hD
    have pl := prs_len (rs := rs) (ds := ds)
    have pl2 : rs.length * ds.length ≤ 60 * 60 := Nat.mul_le_mul (Nat.le_of_lt gd.len) (Nat.le_of_lt gd.dlen)
    have pnd := prs_nodup gd
    refine dcT_it (walk_list (xs := ts.map V.ref)) (fun j H' => H' D = some (.dT (PT ((prs rs ds).take j) fun _ => 0)) ∧ Gr H2 H') ⟨upd_same, Gr.upd hD⟩ (fun j H' _ g => SqL.of (g.2.s _ _ e2)) ?_ ?_
    · rintro j v H' H'' hj ⟨q1, q2⟩ ⟨rfl, hv⟩
      rw [List.getElem?_map] at hv
      obtain ⟨t, et, rfl⟩ := Option.map_eq_some_iff.mp hv
      obtain ⟨e, ee, te⟩ := paired_at t2 et
      have hj2 : j < (prs rs ds).length := (List.getElem?_eq_some_iff.mp ee).1
      have ej : (prs rs ds)[j] = e := (List.getElem?_eq_some_iff.mp ee).2
      refine ⟨rfl, _, rfl, _, kE e, t, rfl, q2.s _ _ te, q1, ?_, ?_, q2.put hD⟩
      · rw [pt_len, List.length_take]
        exact Nat.lt_of_le_of_lt (Nat.le_trans (Nat.min_le_right _ _) (Nat.le_trans pl pl2)) (by decide)
      · have nm := take_not pnd hj2
        rw [ej] at nm
        rw [upd_same, show (V.int 0) = V.int ((0 : Nat) : Int) from rfl, pt_new nm]
        have tk : (prs rs ds).take (j + 1) = (prs rs ds).take j ++ [e] := by
          rw [← ej]
          exact (List.take_append_getElem hj2).symm
        rw [tk]
        congr 2
        refine pt_ext fun x _ => ?_
        unfold putC
        split <;> rfl
    · rintro H3 ⟨q1, q2⟩
      rw [List.length_map, paired_len t2, List.take_length] at q1
      have g3 := g12.trans q2
      refine ⟨_, rfl, a, _, rfl, g3.s.seq ha, ?_⟩
      refine for_it (walk_enum (xs := row.map V.str)) (fun i σ' H' => ∃ (v3 v4 v5 : Option V), σ' = [some (.ref h), some (.ref a), some (.ref D), v3, v4, v5] ∧ Gr H H' ∧ H' D = some (.dT (PT (prs rs ds) fun e => trs row e.1 e.2 i))) ?_ ?_ ?_ ?_
      · exact ⟨_, _, _, rfl, g3, q1⟩
      · rintro i σ' H' _ ⟨v3, v4, v5, rfl, w1, w2⟩
        exact w1.s.seq ha
      · rintro i v σ' H' H'' hi ⟨v3, v4, v5, rfl, w1, w2⟩ ⟨T0, x0, y0, rfl, nT, rfl, e1, e2'⟩
        obtain rfl := Option.some.inj e1
        have hi2 : i < row.length := by simpa using hi
        have ri : row[i]? = some (at_ row i) := at_lt hi2
        obtain rfl : V.str (at_ row i) = y0 := by
          replace e2' : (row.map V.str)[i]? = some y0 := e2'
          rw [List.getElem?_map, ri] at e2'
          exact Option.some.inj e2'
        have u0 := Gr.upd (o := .tup [.int (i : Nat), .str (at_ row i)]) nT
        refine ⟨T0, _, rfl, SqT.of upd_same, rfl, _, _, rfl, _, _, rfl, rfl, ?_⟩
        have w3 := w1.trans u0
        have u2 := u0.s _ _ w2
        cases i with
        | zero =>
          refine ⟨_, rfl, _, _, rfl, rfl, _, rfl, iteF2 (by simp) ?_⟩
          exact ⟨_, _, _, rfl, w3, u2⟩
        | succ i =>
          have rp : row[i]? = some (at_ row i) := at_lt (by omega)
          have ei : ((i + 1 : Nat) : Int) - 1 = (i : Int) := by omega
          refine ⟨_, rfl, _, _, rfl, rfl, _, rfl, iteT2 (by simp) ?_⟩
          refine ⟨_, rfl, _, rfl, _, _, rfl, rfl, a, _, ((i + 1 : Nat) : Int) - 1, .str (at_ row i), rfl, rfl, w3.s.seq ha, (by rw [ei]; exact atI_nat (j := i) (by rw [List.getElem?_map, rp]; rfl)), _, rfl, rfl, _, rfl, ?_⟩
          by_cases es : at_ row i = at_ row (i + 1)
          · refine iteF2 (by rw [es]; simp) ⟨_, _, _, rfl, w3, ?_⟩
            rw [u2]
            congr 2
            refine pt_ext fun e he => ?_
            obtain ⟨x, y⟩ := e
            have ne := (near_in gd.ends (prs_mem.mp he).2).2.2
            show trs row x y (i + 1) = trs row x y (i + 1) + if at_ row i = x ∧ at_ row (i + 1) = y then 1 else 0
            rw [if_neg (fun z => ne (z.1.symm.trans (es.trans z.2)))]
            rfl
          · refine iteT2 (by simp [es]) ?_
            have me : (at_ row i, at_ row (i + 1)) ∈ prs rs ds := by
              refine prs_mem.mpr ⟨car.mem _ (List.mem_of_getElem? rp), ?_⟩
              rcases car.nxt i _ _ rp ri with z | z
              · exact absurd z.symm es
              · exact z
            refine ⟨_, rfl, _, rfl, _, rfl, _, _, rfl, rfl, a, _, ((i + 1 : Nat) : Int) - 1, .str (at_ row i), rfl, rfl, w3.s.seq ha, (by rw [ei]; exact atI_nat (j := i) (by rw [List.getElem?_map, rp]; rfl)), _, rfl, (by show 2 ≤ sizeLine; decide), fun q nq => ?_⟩
            have u3 := Gr.upd (o := .tup [.str (at_ row i), .str (at_ row (i + 1))]) nq
            have u4 := u3.s _ _ u2
            have gt := DGet.t (k := kE (at_ row i, at_ row (i + 1))) u4 upd_same
            rw [pt_get me] at gt
            refine ⟨D, _, rfl, gt, _, _, rfl, rfl, _, DPut.t (k := kE (at_ row i, at_ row (i + 1))) u4 upd_same (by rw [pt_len]; exact Nat.lt_of_le_of_lt (Nat.le_trans pl pl2) (by decide)), ?_⟩
            refine ⟨_, _, _, rfl, (w3.trans u3).put DN, ?_⟩
            rw [upd_same]
            show some (HO.dT (putK (PT (prs rs ds) fun e => trs row e.1 e.2 (i + 1)) (kE (at_ row i, at_ row (i + 1))) (V.int ((trs row (at_ row i) (at_ row (i + 1)) (i + 1) + 1 : Nat) : Int)))) = _
            rw [pt_put me]
            congr 2
            refine pt_ext fun e _ => ?_
            obtain ⟨x, y⟩ := e
            show putC _ _ _ (x, y) = trs row x y (i + 1) + if at_ row i = x ∧ at_ row (i + 1) = y then 1 else 0
            unfold putC
            by_cases z : (x, y) = (at_ row i, at_ row (i + 1))
            · obtain ⟨rfl, rfl⟩ := Prod.mk.inj z
              rw [if_pos rfl, if_pos ⟨rfl, rfl⟩]
            · rw [if_neg z, if_neg (fun y => z (by rw [y.1, y.2]))]
              rfl
      · rintro σ' H' ⟨v3, v4, v5, rfl, w1, w2⟩
        rw [List.length_map] at w2
        exact ⟨_, rfl, k H' D w2 w1 DN⟩
end
end Lamp
set_option maxHeartbeats 8000000
namespace Lamp
open PySem PySem.Spec PyProof.Rows L2
/-- a dict that was locked while it was walked -/
theorem Gr.unlock {H H' : Hp} {d : Addr} {od : Obj} {u : HO} (hd : H d = some u) (g : Gr (L2.upd H d (.frz od u)) H') : Gr H (L2.upd H' d u) := by
  refine ⟨fun b o e => ?_, fun x z => ?_⟩
  · by_cases n : b = d
    · subst n
      rw [hd] at e
      rw [upd_same, ← Option.some.inj e]
    · rw [upd_ne n]
      exact g.s b o (by rw [upd_ne n]; exact e)
  · exact (none_upd (g.n x (none_upd z).2)).2
structure TxtB (mg : Str → Option Value) : Prop where
  isi : mg "isinstance" = none
  int : mg "int" = none
  bool : mg "bool" = none
  dict : mg "dict" = none
  len : mg "len" = none
  all : mg "all" = none
section
variable {P : Program} {w : World} {K : PySem.W.Frag} {mg : Str → Option Value} {base : Heap} {C : Addr}
def spNum : Sp := fun vs H Q _ => ∃ n : Int, vs = [.int n] ∧ 0 ≤ n ∧ Q (.bl true) H
theorem scIn2 : FnScope ["thing"] ["thing"] (defScope s_is_number) := ⟨rfl, rfl, rfl, by decide +kernel, rfl, by decide +kernel, by decide +kernel⟩
theorem ok_num {f : Addr} {fd : FuncData} (F : Fun K "is_number" "is_number" s_is_number f fd) (T : TxtB mg) : FnOk P w K mg base CX0 1 f fd ["thing"] spNum := by
  refine F.ok scIn2 (fun vs H Q E h => ?_) (fun cdv A outer s H vs Q E hr h => ?_)
  · obtain ⟨n, rfl, _⟩ := h
    rfl
  · obtain ⟨n, rfl, hn, k⟩ := h
    refine ⟨_, pss_one (ps_ret (pe_and (pe_callB call_isi (by rfl) T.isi PyProof.Rows.Boot.isinstance (pa_cons (pv 0) (pa_cons (pe_bltn (v := .ty "int") (by rfl) T.int PyProof.Rows.Boot.int rfl) pa_nil)))
      (pe_and (pe_not (pe_callB call_isi (by rfl) T.isi PyProof.Rows.Boot.isinstance (pa_cons (pv 0) (pa_cons (pe_bltn (v := .ty "bool") (by rfl) T.bool PyProof.Rows.Boot.bool rfl) pa_nil))))
      (pe_one (pe_cmpR op_ge (pv 0) pe_int (nomark _)))))), ?_⟩
    refine ⟨_, rfl, .int n, .ty "int", _, _, true, rfl, .ty _, .base (.int n), kit_ty (by decide +kernel), true, rfl, ?_⟩
    rw [if_pos rfl]
    refine ⟨_, rfl, .int n, .ty "bool", _, _, false, rfl, .ty _, .base (.int n), kit_ty (by decide +kernel), false, rfl, true, rfl, ?_⟩
    rw [if_pos rfl]
    refine ⟨_, rfl, _, _, rfl, rfl, ?_⟩
    show Q (.bl (decide (n ≥ 0))) H
    rw [decide_eq_true (show n ≥ 0 from hn)]
    exact k
/-! ### is_passes -/
def spIsP (C : Addr) : Sp := fun vs H Q _ => ∃ (h d : Addr) (rs : List Str) (ds ps : List Ed) (c : Ed → Nat), vs = [.ref h, .ref d] ∧ HouseAt H C h rs ds ∧ GoodH rs ds ∧ H d = some (.dT (PT ps c)) ∧ ps.Perm (prs rs ds) ∧ ∀ H', Gr H H' → Q (.bl true) H'
abbrev NIp : List Str := ["house", "thing", "pairs", "pair"]
theorem scIp : FnScope NIp ["house", "thing"] (defScope s_is_passes) := ⟨rfl, rfl, rfl, by decide +kernel, rfl, by decide +kernel, by decide +kernel⟩
theorem ok_isp {f : Addr} {fd : FuncData} (F : Fun K "is_passes" "is_passes" s_is_passes f fd) (T : TxtB mg) (PO : Stands P w K mg base 2 "pairs_beside" ["house"] (spPairs C)) (NO : Stands P w K mg base 1 "is_number" ["thing"] spNum) :
    FnOk P w K mg base CX0 3 f fd ["house", "thing"] (spIsP C) := by
  obtain ⟨fp, dp, Gp, mp, kp, bp⟩ := PO
  obtain ⟨fn, dn, Gn, mn, kn, bn⟩ := NO
  refine F.ok scIp (fun vs H Q E h => ?_) (fun cdv A outer s H vs Q E hr h => ?_)
  · obtain ⟨h, d, rs, ds, ps, c, rfl, _⟩ := h
    rfl
  · obtain ⟨h, d, rs, ds, ps, c, rfl, hh, gd, hd, pp, k⟩ := h
    have hu := Nat.lt_of_le_of_lt (Nat.add_le_add_left (show 1 ≤ 64 by decide) _) hr.units
    refine ⟨_, pss_cons (ps_set (i := 2) scIp.nd rfl (Or.inl rfl) (pe_call Gp hr (by rfl) mp kp bp .nil pass0 (pa_cons (pv 0) pa_nil)))
      (pss_cons (ps_if (PW.pt (pw_or (pt_not (pt_val (pe_callB call_isi (by rfl) T.isi PyProof.Rows.Boot.isinstance (pa_cons (pv 1) (pa_cons (pe_bltn (v := .ty "dict") (by rfl) T.dict PyProof.Rows.Boot.dict rfl) pa_nil)))))
          (pw_or1 (pt_cmpR op_ne (pe_callB call_len_dT (by rfl) T.len PySem.boot_len (pa_cons (pv 1) pa_nil)) (pe_callB call_len_seq (by rfl) T.len PySem.boot_len (pa_cons (pv 2) pa_nil)) (nomark _)))))
        pss_dead pss_nil)
      (pss_one (ps_ret (pe_callB (cr_all rfl) (by rfl) T.all PyProof.Rows.Boot.all (pa_cons
        (pe_lc (te := tAndV (tDIn (tVar 3) (tVar 1)) (tCall spNum [] E0 (tCons (tDGet (tVar 1) (tVar 3)) tNil))) (own := [("pair", 3)]) (g := gName 3) (tt := tYes) rfl scIp.nd (pi_list (pv 2)) (blkOk_by (N := NIp) (sc := defScope s_is_passes) (by decide +kernel))
          (fun _ _ _ _ _ => pg_name (i := 3) scIp.nd rfl (Or.inl rfl)) (fun _ _ _ _ _ => pts_nil)
          (fun _ _ _ _ _ => by exact (pe_and (pe_cmp (pc_din hu (pv 3) (pv 1))) (pe_one (pe_call Gn (hr.mono (by decide)) (by rfl) mn kn bn .nil pass0 (pa_cons (pe_dget hu (pv 1) (pv 3) (fun _ _ => rfl)) pa_nil)))))) pa_nil))))), ?_⟩
    refine ⟨_, rfl, h, rs, ds, rfl, hh, gd, fun H1 p ts e1 t1 g1 n1 => ?_⟩
    have hd1 := g1.s _ _ hd
    refine ⟨_, rfl, .ref d, .ty "dict", _, _, true, rfl, .ty _, .base (.dT hd1), kit_ty (by decide +kernel), _, rfl, iteF ?_⟩
    refine ⟨_, rfl, d, _, rfl, hd1, _, rfl, p, _, rfl, .inl (SqL.of e1), rfl, _, rfl, iteF2 ?_ ?_⟩
    · rw [pt_len, List.length_map, paired_len t1, pp.length_eq]
      simp
    refine ⟨_, rfl, p, rfl, ⟨_, SqL.of e1⟩, fun B hB => ?_⟩
    refine lc_it (walk_list (xs := ts.map V.ref)) (fun j H' => H' B = some (.lst ((List.replicate j true).map V.bl)) ∧ Gr H1 H') ⟨upd_same, Gr.upd hB⟩ (fun j H' _ q => SqL.of (q.2.s _ _ e1)) ?_ ?_
    · rintro j v H' H'' hj ⟨q1, q2⟩ ⟨rfl, hv⟩
      rw [List.getElem?_map] at hv
      obtain ⟨t, et, rfl⟩ := Option.map_eq_some_iff.mp hv
      obtain ⟨e, ee, te⟩ := paired_at t1 et
      have me : e ∈ ps := pp.mem_iff.mpr (List.mem_of_getElem? ee)
      have g := DGet.t (k := kE e) (q2.s _ _ hd1) (q2.s _ _ te)
      rw [pt_get me] at g
      refine ⟨rfl, _, rfl, _, rfl, d, _, rfl, g, _, rfl, iteT2 rfl ?_⟩
      refine ⟨_, rfl, _, rfl, d, _, rfl, g, _, rfl, Int.natCast_nonneg _, _, q1, ?_, ?_, q2.put hB⟩
      · rw [List.length_map, List.length_replicate]
        have pl := prs_len (rs := rs) (ds := ds)
        have pl2 : rs.length * ds.length ≤ 60 * 60 := Nat.mul_le_mul (Nat.le_of_lt gd.len) (Nat.le_of_lt gd.dlen)
        have hj2 : j < (prs rs ds).length := (List.getElem?_eq_some_iff.mp ee).1
        exact Nat.lt_of_lt_of_le hj2 (Nat.le_trans pl (Nat.le_trans pl2 (by decide)))
      · rw [upd_same, List.replicate_succ', List.map_append]
        rfl
    · rintro H' ⟨q1, q2⟩
      refine ⟨B, _, rfl, .inl (.inl q1), ?_⟩
      have e : (List.replicate (ts.map V.ref).length true).all id = true := List.all_eq_true.mpr fun b hb => (List.eq_of_mem_replicate hb)
      rw [e]
      exact k H' (g1.trans q2)
end
end Lamp
set_option maxHeartbeats 4000000
namespace Lamp
open PySem L2
/-! ### passes and the way -/
/-- a door parts the house: who goes through it alone changes sides -/
theorem door_side {rs : List Str} {ds : List Ed} (g : GoodH rs ds) {a b : Str} (h : b ∈ nearOf ds a) : ∃ f : Str → Int, f b = f a + 1 ∧ ∀ x y, y ∈ nearOf ds x → (x = a ∧ y = b) ∨ (x = b ∧ y = a) ∨ f y = f x := by
  classical
  obtain ⟨e, he, z⟩ := near_mem.mp h
  have pe : ds.Perm (e :: ds.erase e) := List.perm_cons_erase he
  have nr := g.noring e _ pe
  generalize ds.erase e = l at pe nr
  have ends : (e.1 = a ∧ e.2 = b) ∨ (e.1 = b ∧ e.2 = a) := by
    rcases z with ⟨h1, h2⟩ | ⟨_, h1, h2⟩
    · exact .inl ⟨h1, h2.symm⟩
    · exact .inr ⟨h2.symm, h1⟩
  have nab : ¬ Conn l a b := by
    rcases ends with ⟨rfl, rfl⟩ | ⟨rfl, rfl⟩
    · exact nr
    · exact fun c => nr c.symm
  refine ⟨fun x => if Conn l a x then 0 else 1, ?_, fun x y hy => ?_⟩
  · show (if Conn l a b then (0 : Int) else 1) = (if Conn l a a then 0 else 1) + 1
    rw [if_neg nab, if_pos (Conn.refl a)]
    rfl
  · obtain ⟨e2, he2, z2⟩ := near_mem.mp hy
    have mid : ∀ {p q : Str}, (p, q) ∈ l → (Conn l a p ↔ Conn l a q) := fun m => ⟨fun c => .fwd c m, fun c => .bwd c m⟩
    rcases List.mem_cons.mp (pe.mem_iff.mp he2) with q | q
    · subst q
      rcases z2 with ⟨rfl, rfl⟩ | ⟨_, rfl, rfl⟩
      · rcases ends with ⟨p1, p2⟩ | ⟨p1, p2⟩
        · exact .inl ⟨p1, p2⟩
        · exact .inr (.inl ⟨p1, p2⟩)
      · rcases ends with ⟨p1, p2⟩ | ⟨p1, p2⟩
        · exact .inr (.inl ⟨p2, p1⟩)
        · exact .inl ⟨p2, p1⟩
    · refine .inr (.inr ?_)
      have c : Conn l a x ↔ Conn l a y := by
        rcases z2 with ⟨rfl, rfl⟩ | ⟨_, rfl, rfl⟩
        · exact mid q
        · exact (mid q).symm
      show (if Conn l a y then (0 : Int) else 1) = if Conn l a x then 0 else 1
      by_cases d : Conn l a x
      · rw [if_pos d, if_pos (c.mp d)]
      · rw [if_neg d, if_neg (fun z => d (c.mpr z))]
/-- two rows with the same ends go through each door, there less back, as often -/
theorem diff_alike {rs : List Str} {ds : List Ed} (g : GoodH rs ds) {a b : Str} (h : b ∈ nearOf ds a) {row u : List Str} {n m : Nat} (hr : ∀ j, j < n → Nxt ds (at_ row j) (at_ row (j + 1))) (hu : ∀ j, j < m → Nxt ds (at_ u j) (at_ u (j + 1))) (e0 : at_ row 0 = at_ u 0) (e1 : at_ row n = at_ u m) :
    (trs row a b (n + 1) : Int) - trs row b a (n + 1) = (trs u a b (m + 1) : Int) - trs u b a (m + 1) := by
  obtain ⟨f, up, st⟩ := door_side g h
  have ne : a ≠ b := (near_in g.ends h).2.2
  have go : ∀ {w : List Str} {k : Nat}, (∀ j, j < k → Nxt ds (at_ w j) (at_ w (j + 1))) → (trs w a b (k + 1) : Int) - trs w b a (k + 1) = f (at_ w k) - f (at_ w 0) := fun {w k} hw => by
    refine trs_diff f ne up fun j hj => ?_
    rcases hw j (by omega) with z | z
    · exact .inr (.inr (by rw [z]))
    · rcases st _ _ z with q | q | q
      · exact .inl q
      · exact .inr (.inl q)
      · exact .inr (.inr q)
  rw [go hr, go hu, e0, e1]
/-- who is nowhere twice goes nowhere on twice -/
theorem trs_one {u : List Str} {a b : Str} (nd : u.Nodup) : ∀ {i : Nat}, i ≤ u.length → trs u a b i ≤ 1
  | 0, _ => Nat.zero_le _
  | 1, _ => Nat.zero_le _
  | i + 2, h => by
    show trs u a b (i + 1) + (if at_ u i = a ∧ at_ u (i + 1) = b then 1 else 0) ≤ 1
    by_cases e : at_ u i = a ∧ at_ u (i + 1) = b
    · have z : trs u a b (i + 1) = 0 := by
        rcases Nat.eq_zero_or_pos (trs u a b (i + 1)) with z | z
        · exact z
        · obtain ⟨j, hj, h1, _⟩ := trs_pos z
          have hj2 : j < u.length := by omega
          have hi2 : i < u.length := by omega
          have q1 : u[j]? = some a := by rw [at_lt hj2, h1]
          have q2 : u[i]? = some a := by rw [at_lt hi2, e.1]
          have := (List.getElem?_inj hj2 nd).mp (q1.trans q2.symm)
          omega
      rw [z, if_pos e]
      exact Nat.le_refl _
    · rw [if_neg e]
      exact trs_one nd (by omega)
section
variable {rs fs : List Str} {ds : List Ed} {s0 r0 : Str} {nv : Str → V} {d : Str → Nat} {u : List Str}
theorem WayTo.pos (w : WayTo s0 fs nv r0 u) : 0 < u.length := by
  cases u with
  | nil => cases w.head
  | cons _ _ => exact Nat.succ_pos _
theorem WayTo.first (w : WayTo s0 fs nv r0 u) : at_ u 0 = r0 := by
  cases u with
  | nil => cases w.head
  | cons x u => exact Option.some.inj w.head
theorem WayTo.final (w : WayTo s0 fs nv r0 u) : at_ u (u.length - 1) = s0 := by
  have p := w.pos
  have e := w.last
  rw [List.getLast?_eq_getElem?] at e
  exact at_some e
theorem WayTo.go (w : WayTo s0 fs nv r0 u) {j : Nat} (h : j + 1 < u.length) : nv (at_ u j) = .str (at_ u (j + 1)) := w.step j _ _ (at_lt (by omega)) (at_lt h)
theorem WayTo.nxt (w : WayTo s0 fs nv r0 u) (led : Led ds s0 fs nv d) (ne : ∀ e ∈ ds, e.1 ≠ e.2) {j : Nat} (h : j + 1 < u.length) : Nxt ds (at_ u j) (at_ u (j + 1)) := by
  have st := w.go h
  have m : at_ u j ∈ fs := w.mem _ (List.mem_of_getElem? (at_lt (by omega)))
  have nr : at_ u j ≠ s0 := fun z => by
    rw [z, led.top] at st
    cases st
  obtain ⟨q, _, e1, e2, _⟩ := led.step _ m nr
  rw [e1] at st
  obtain rfl := V.str.inj st
  exact .inr (near_sym ne e2)
/-- the way goes on from a room just as nv says -/
theorem WayTo.on (w : WayTo s0 fs nv r0 u) (led : Led ds s0 fs nv d) {r q : Str} (e : nv r = .str q) : trs u r q u.length = if r ∈ u then 1 else 0 := by
  by_cases m : r ∈ u
  · rw [if_pos m]
    obtain ⟨j, hj, e1⟩ := List.getElem_of_mem m
    have a1 : at_ u j = r := at_some (by rw [List.getElem?_eq_getElem hj, e1])
    have lt : j + 1 < u.length := by
      refine Nat.lt_of_le_of_ne hj fun z => ?_
      have f := w.final
      rw [← z, Nat.add_sub_cancel, a1] at f
      rw [f, led.top] at e
      cases e
    have st := w.go lt
    rw [a1, e] at st
    have := trs_of lt a1 (V.str.inj st).symm
    have := trs_one (a := r) (b := q) w.nodup (Nat.le_refl u.length)
    omega
  · rw [if_neg m]
    rcases Nat.eq_zero_or_pos (trs u r q u.length) with z | z
    · exact z
    · obtain ⟨j, hj, h1, _⟩ := trs_pos z
      exact absurd (h1 ▸ List.mem_of_getElem? (at_lt (show j < u.length by omega))) m
theorem WayTo.back (w : WayTo s0 fs nv r0 u) (led : Led ds s0 fs nv d) {r q : Str} (mr : r ∈ fs) (e : nv r = .str q) : trs u q r u.length = 0 := by
  rcases Nat.eq_zero_or_pos (trs u q r u.length) with z | z
  · exact z
  · obtain ⟨j, hj, h1, h2⟩ := trs_pos z
    have st := w.go hj
    rw [h1, h2] at st
    have mq : q ∈ fs := h1 ▸ w.mem _ (List.mem_of_getElem? (at_lt (show j < u.length by omega)))
    have nr : r ≠ s0 := fun z => by
      rw [z, led.top] at e
      cases e
    have nq : q ≠ s0 := fun z => by
      rw [z, led.top] at st
      cases st
    obtain ⟨x, _, e1, _, l1⟩ := led.step _ mr nr
    obtain ⟨y, _, e2, _, l2⟩ := led.step _ mq nq
    rw [e] at e1
    rw [st] at e2
    obtain rfl := V.str.inj e1
    obtain rfl := V.str.inj e2
    omega
end
/-- of a carrying: passes towards the last room and back -/
theorem car_way {rs fs row : List Str} {ds : List Ed} {s0 r0 : Str} {nv : Str → V} {d : Str → Nat} {u : List Str} (g : GoodH rs ds) (car : Car rs ds row) (w : WayTo s0 fs nv r0 u) (led : Led ds s0 fs nv d) (e0 : at_ row 0 = r0) (e1 : at_ row (row.length - 1) = s0) {a b : Str} (h : b ∈ nearOf ds a) :
    (trs row a b row.length : Int) - trs row b a row.length = (trs u a b u.length : Int) - trs u b a u.length := by
  have p1 : 0 < row.length := List.length_pos_iff.mpr car.ne
  have p2 := w.pos
  have z := diff_alike g h (row := row) (u := u) (n := row.length - 1) (m := u.length - 1) (fun j hj => car.nxt j _ _ (at_lt (by omega)) (at_lt (by omega))) (fun j hj => w.nxt led (fun e he => (g.ends e he).2.2) (by omega)) (by rw [e0, w.first]) (by rw [e1, w.final])
  rw [Nat.sub_add_cancel p1, Nat.sub_add_cancel p2] at z
  exact z
end Lamp
set_option maxHeartbeats 8000000
namespace Lamp
open PySem PySem.Spec PyProof.Rows L2
section
variable {P : Program} {w : World} {K : PySem.W.Frag} {mg : Str → Option Value} {base : Heap} {C : Addr}
/-- counted tells the passes of a carrying from r0 to s0 -/
structure OfRow (rs : List Str) (ds ps : List Ed) (c : Ed → Nat) (row : List Str) (r0 s0 : Str) : Prop where
  car : Car rs ds row
  perm : ps.Perm (prs rs ds)
  cnt : ∀ e ∈ ps, c e = trs row e.1 e.2 row.length
  first : at_ row 0 = r0
  last : at_ row (row.length - 1) = s0
theorem OfRow.mem {rs : List Str} {ds ps : List Ed} {c : Ed → Nat} {row : List Str} {r0 s0 : Str} (o : OfRow rs ds ps c row r0 s0) {a b : Str} (ha : a ∈ rs) (h : b ∈ nearOf ds a) : (a, b) ∈ ps := o.perm.mem_iff.mpr (prs_mem.mpr ⟨ha, h⟩)
theorem OfRow.r0 {rs : List Str} {ds ps : List Ed} {c : Ed → Nat} {row : List Str} {r0 s0 : Str} (o : OfRow rs ds ps c row r0 s0) : r0 ∈ rs := by
  rw [← o.first]
  exact o.car.mem _ (List.mem_of_getElem? (at_lt (List.length_pos_iff.mpr o.car.ne)))
theorem OfRow.s0 {rs : List Str} {ds ps : List Ed} {c : Ed → Nat} {row : List Str} {r0 s0 : Str} (o : OfRow rs ds ps c row r0 s0) : s0 ∈ rs := by
  rw [← o.last]
  have := List.length_pos_iff.mpr o.car.ne
  exact o.car.mem _ (List.mem_of_getElem? (at_lt (by omega)))
def spLeads (C : Addr) : Sp := fun vs H Q _ => ∃ (h d : Addr) (r0 s0 : Str) (rs row : List Str) (ds ps : List Ed) (c : Ed → Nat), vs = [.ref h, .ref d, .str r0, .str s0] ∧ HouseAt H C h rs ds ∧ GoodH rs ds ∧ H d = some (.dT (PT ps c)) ∧ OfRow rs ds ps c row r0 s0 ∧ ∀ H', Gr H H' → Q (.bl true) H'
abbrev NLe : List Str := ["house", "counted", "first", "last", "steps", "ahead", "room", "step", "more"]
theorem scLe : FnScope NLe ["house", "counted", "first", "last"] (defScope s_leads_on) := ⟨rfl, rfl, rfl, by decide +kernel, rfl, by decide +kernel, by decide +kernel⟩
theorem ok_leads {f : Addr} {fd : FuncData} (F : Fun K "leads_on" "leads_on" s_leads_on f fd) (TO : Stands P w K mg base 2 "towards" ["house", "root"] (spTowards K C)) (CO : Stands P w K mg base 1 "climb" ["steps", "room"] (spClimb K)) :
    FnOk P w K mg base CX0 3 f fd ["house", "counted", "first", "last"] (spLeads C) := by
  obtain ⟨ft, dt, Gt, mt, kt, bt⟩ := TO
  obtain ⟨fc, dc, Gc, mc, kc, bc⟩ := CO
  refine F.ok scLe (fun vs H Q E h => ?_) (fun cdv A outer s H vs Q E hr h => ?_)
  · obtain ⟨h, d, r0, s0, rs, row, ds, ps, c, rfl, _⟩ := h
    rfl
  · obtain ⟨h, d, r0, s0, rs, row, ds, ps, c, rfl, hh, gd, hd, of, k⟩ := h
    have hu := Nat.lt_of_le_of_lt (Nat.add_le_add_left (show 1 ≤ 64 by decide) _) hr.units
    refine ⟨_, pss_cons (ps_set (i := 4) scLe.nd rfl (Or.inl rfl) (pe_call Gt hr (by rfl) mt kt bt .nil pass0 (pa_cons (pv 0) (pa_cons (pv 3) pa_nil))))
      (pss_cons (ps_set (i := 5) scLe.nd rfl (Or.inl rfl) (pe_call Gc (hr.mono (by decide)) (by rfl) mc kc bc .nil pass0 (pa_cons (pv 4) (pa_cons (pv 2) pa_nil))))
      (pss_cons (ps_lock (ps_for PassesOwn.never rfl (pi_items (pv 4)) (pg_tup rfl (pgs_cons (pg_name (i := 6) scLe.nd rfl (Or.inl rfl)) (pgs_cons (pg_name (i := 7) scLe.nd rfl (Or.inl rfl)) pgs_nil)))
        (pss_cons (ps_set (i := 8) scLe.nd rfl (Or.inl rfl) (pe_ifExp (pt_cmpR op_in_seq (pv 6) (pv 5) (by rfl)) pe_int pe_int))
        (pss_one (ps_if (PW.pt (pw_and (pt_cmp (pc_notN (pv 7)) (by rfl)) (pw_and1 (pt_cmpR op_ne (pe_dget hu (pv 1) (pe_tup (pa_cons (pv 6) (pa_cons (pv 7) pa_nil))) (fun _ _ => rfl)) (pe_op op_add (pe_dget hu (pv 1) (pe_tup (pa_cons (pv 7) (pa_cons (pv 6) pa_nil))) (fun _ _ => rfl)) (pv 8)) (nomark _)))))
          pss_dead pss_nil)))))
      (pss_one (ps_ret pe_bl)))), ?_⟩
    refine ⟨_, rfl, _, rfl, h, s0, rs, ds, rfl, hh, gd.len, of.s0, gd.ends, fun H1 p fs nv dd f1 f2a f2b f3 led e1 s1 o1 n1 => ?_⟩
    have g1 : Gr H H1 := ⟨s1, o1⟩
    have f2 : ∀ r, r ∈ fs ↔ r ∈ rs := fun r => ⟨f2a r, fun hr => f2b r (gd.join _ of.s0 _ hr)⟩
    have fl : fs.length < 60 := Nat.lt_of_le_of_lt (nodup_le f1 fun r hr => (f2 r).mp hr) gd.len
    refine ⟨_, rfl, _, rfl, p, r0, s0, fs, ds, nv, dd, rfl, e1, (f2 r0).mpr of.r0, led, fl, fun H2 q u w1 e2 g2 n2 => ?_⟩
    have hp2 := g2.s _ _ e1
    refine ⟨p, _, hp2, trivial, fun od => ?_⟩
    have g12 := g1.trans g2
    have gL : Gr H (upd H2 p (.frz od (.dK (TM fs nv)))) := g12.put n1
    have qp : q ≠ p := ne_of e2 hp2 (by intro z; cases z)
    have eL : upd H2 p (.frz od (.dK (TM fs nv))) q = some (.lst (u.map V.str)) := by
      rw [upd_ne qp]
      exact e2
    refine ⟨_, rfl, p, od, TM fs nv, rfl, upd_same, ?_⟩
    refine for_it walk_items (fun i σ' H' => ∃ (v6 v7 v8 : Option V), σ' = [some (.ref h), some (.ref d), some (.str r0), some (.str s0), some (.ref p), some (.ref q), v6, v7, v8] ∧ Gr (upd H2 p (.frz od (.dK (TM fs nv)))) H') ⟨_, _, _, rfl, Gr.refl _⟩ ?_ ?_ ?_
    · rintro i σ' H' _ ⟨v6, v7, v8, rfl, z⟩
      exact z.s _ _ upd_same
    · rintro i v σ' H' H'' hi ⟨v6, v7, v8, rfl, z⟩ ⟨T0, x0, y0, rfl, nT, rfl, e3, e4⟩
      have hi2 : i < fs.length := by
        rw [tm_len] at hi
        exact hi
      have ki : (TM fs nv)[i]? = some (Sum.inr fs[i], nv fs[i]) := by
        unfold TM
        rw [List.getElem?_map, List.getElem?_eq_getElem hi2]
        rfl
      replace e3 : (TM fs nv)[i]?.map (fun kv => kV kv.1) = some x0 := e3
      replace e4 : (TM fs nv)[i]?.map Prod.snd = some y0 := e4
      rw [ki] at e3 e4
      obtain rfl : V.str fs[i] = x0 := Option.some.inj e3
      obtain rfl : nv fs[i] = y0 := Option.some.inj e4
      have mi : fs[i] ∈ fs := List.getElem_mem hi2
      generalize fs[i] = r at mi nT
      have mr : r ∈ rs := (f2 r).mp mi
      have g3 := z.trans (Gr.upd (o := .tup [.str r, nv r]) nT)
      refine ⟨T0, _, rfl, SqT.of upd_same, rfl, _, _, rfl, _, _, rfl, rfl, ?_⟩
      have hq3 := g3.s _ _ eL
      have hd3 := g3.s _ _ (gL.s _ _ hd)
      refine ⟨_, rfl, _, rfl, q, _, rfl, .inl (SqL.of hq3), rfl, flat_strs _, _, rfl, ?_⟩
      rw [show inV (V.str r) (u.map V.str) = decide (r ∈ u) from inv_strs]
      by_cases mu : r ∈ u
      all_goals
        first
          | refine iteT2 (decide_eq_true mu) ?_
          | refine iteF2 (decide_eq_false mu) ?_
        refine ⟨_, rfl, _, rfl, ?_⟩
        by_cases er : r = s0
        · subst er
          rw [led.top]
          refine iteF2 (by simp) ⟨_, _, _, rfl, ?_⟩
          rw [led.top] at g3
          exact g3
        · obtain ⟨x, mx, ex, e5, _⟩ := led.step r mi er
          rw [ex]
          rw [ex] at hd3 g3
          refine iteT2 (by simp) ?_
          have nx : x ∈ nearOf ds r := near_sym (fun e he => (gd.ends e he).2.2) e5
          have xr : x ∈ rs := (f2 x).mp mx
          have m1 := of.mem mr nx
          have m2 := of.mem xr e5
          have cw := car_way gd of.car w1 led of.first of.last nx
          rw [w1.on led ex, w1.back led mi ex] at cw
          have c1 := of.cnt _ m1
          have c2 := of.cnt _ m2
          refine ⟨_, rfl, _, rfl, _, rfl, (by show 2 ≤ sizeLine; decide), fun t1 nt1 => ?_⟩
          have u1 := Gr.upd (o := .tup [.str r, .str x]) nt1
          have hd4 := u1.s _ _ hd3
          have gt1 := DGet.t (k := kE (r, x)) hd4 upd_same
          rw [pt_get m1, c1] at gt1
          refine ⟨d, _, rfl, gt1, ?_⟩
          refine ⟨_, rfl, _, rfl, _, rfl, (by show 2 ≤ sizeLine; decide), fun t2 nt2 => ?_⟩
          have u2 := Gr.upd (o := .tup [.str x, .str r]) nt2
          have hd5 := u2.s _ _ hd4
          have gt2 := DGet.t (k := kE (x, r)) hd5 upd_same
          rw [pt_get m2, c2] at gt2
          refine ⟨d, _, rfl, gt2, _, rfl, _, _, rfl, rfl, rfl, _, rfl, iteF2 ?_ ⟨_, _, _, rfl, (g3.trans u1).trans u2⟩⟩
          simp only [mu, if_true, if_false] at cw
          show (!decide (V.int _ = V.int _)) = false
          rw [decide_eq_true]
          · rfl
          · congr 1
            simp only []
            omega
    · rintro σ' H' ⟨v6, v7, v8, rfl, z⟩
      refine ⟨z.s _ _ upd_same, ?_⟩
      exact k _ ((gL.trans z).put n1)
end
end Lamp
set_option maxHeartbeats 8000000
namespace Lamp
open PySem PySem.Spec PyProof.Rows L2
/-- all rooms of a row are found where its passes lead -/
theorem row_found {rs : List Str} {ds : List Ed} {row fs : List Str} (car : Car rs ds row) (h0 : at_ row 0 ∈ fs) (cl : ∀ r ∈ fs, ∀ o ∈ nearOf ds r, 0 < trs row r o row.length → o ∈ fs) : ∀ j, j < row.length → at_ row j ∈ fs
  | 0, _ => h0
  | j + 1, h => by
    have ih := row_found car h0 cl j (by omega)
    rcases car.nxt j _ _ (at_lt (by omega)) (at_lt h) with z | z
    · rw [z]
      exact ih
    · exact cl _ ih _ z (trs_of h rfl rfl)
theorem tm_const {fs : List Str} {o : Str} {v : V} (m : o ∉ fs) : putK (TM fs fun _ => v) (Sum.inr o) v = TM (fs ++ [o]) fun _ => v := by
  rw [tm_new m]
  refine tm_ext fun r _ => ?_
  unfold putV
  split <;> rfl
section
variable {P : Program} {w : World} {K : PySem.W.Frag} {mg : Str → Option Value} {base : Heap} {C : Addr}
structure TxtA (mg : Str → Option Value) : Prop where
  all : mg "all" = none
def spHangs (C : Addr) : Sp := fun vs H Q _ => ∃ (h d : Addr) (r0 s0 : Str) (rs row : List Str) (ds ps : List Ed) (c : Ed → Nat), vs = [.ref h, .ref d, .str r0] ∧ HouseAt H C h rs ds ∧ GoodH rs ds ∧ H d = some (.dT (PT ps c)) ∧ OfRow rs ds ps c row r0 s0 ∧ ∀ H', Gr H H' → Q (.bl true) H'
abbrev NHa : List Str := ["house", "counted", "first", "found", "waiting", "room", "other", "pair"]
theorem scHa : FnScope NHa ["house", "counted", "first"] (defScope s_hangs_at) := ⟨rfl, rfl, rfl, by decide +kernel, rfl, by decide +kernel, by decide +kernel⟩
theorem ok_hangs {f : Addr} {fd : FuncData} (F : Fun K "hangs_at" "hangs_at" s_hangs_at f fd) (T : TxtA mg) (M : HasH P w K mg base C) : FnOk P w K mg base CX0 2 f fd ["house", "counted", "first"] (spHangs C) := by
  obtain ⟨fn, dn, mn, Gn, bn⟩ := M.near
  refine F.ok scHa (fun vs H Q E h => ?_) (fun cdv A outer s H vs Q E hr h => ?_)
  · obtain ⟨h, d, r0, s0, rs, row, ds, ps, c, rfl, _⟩ := h
    rfl
  · obtain ⟨h, d, r0, s0, rs, row, ds, ps, c, rfl, hh, gd, hd, of, k⟩ := h
    have hu := Nat.lt_of_le_of_lt (Nat.add_le_add_left (show 1 ≤ 64 by decide) _) hr.units
    refine ⟨_, pss_cons (ps_set (i := 3) scHa.nd rfl (Or.inr rfl) (pe_disp (pps_cons (pv 2) pe_bl pps_nil) (by rfl) (by rfl) (by simp) (by decide)))
      (pss_cons (ps_set (i := 4) scHa.nd rfl (Or.inl rfl) (pe_lst (pa_cons (pv 2) pa_nil)))
      (pss_cons (ps_while PassesOwn.never (pt_truth (pv 4) (fun _ => rfl))
        (pss_cons (ps_set (i := 5) scHa.nd rfl (Or.inl rfl) (pe_bm0 PySem.F.plainAttrs_list PySem.F.slot_list_pop PySem.F.type_list_pop mt_pop (pv 4)))
        (pss_one (ps_for PassesOwn.never rfl (pi_list (pe_meth (pv 0) M.cls.cls mn Gn hr bn .nil pass0 (pa_cons (pv 5) pa_nil))) (pg_name (i := 6) scHa.nd rfl (Or.inl rfl))
          (pss_one (ps_if (PW.pt (pw_and (pt_cmp (pc_dnotin hu (pv 6) (pv 3)) (by rfl)) (pw_and1 (pt_cmpR op_gt (pe_dget hu (pv 1) (pe_tup (pa_cons (pv 5) (pa_cons (pv 6) pa_nil))) (fun _ _ => rfl)) pe_int (nomark _)))))
            (pss_cons (ps_dput hu (pv 3) (pv 6) pe_bl (by rfl)) (pss_one (ps_expr (pe_bm PySem.F.plainAttrs_list PySem.F.slot_list_append PySem.F.type_list_append mt_append (pv 4) (pa_cons (pv 6) pa_nil) (by rfl) (by rfl)))))
            pss_nil))))))
      (pss_one (ps_ret (pe_callB (cr_all rfl) (by rfl) T.all PyProof.Rows.Boot.all (pa_cons
        (pe_lock (pe_lc (te := tDIn (tOp (rIxT K) (tVar 7) (tC (.int 0))) (tVar 3)) (own := [("pair", 7)]) (g := gName 7) (tt := tTest (tOp (rI0 fun i j => .bl (decide (j < i))) (tDGet (tVar 1) (tVar 7)) (tC (.int 0)))) rfl scHa.nd (pi_keys (pv 1)) (blkOk_by (N := NHa) (sc := defScope s_hangs_at) (by decide +kernel))
          (fun _ _ _ _ _ => pg_name (i := 7) scHa.nd rfl (Or.inl rfl)) (fun _ _ _ _ _ => by exact (pts_one (pt_cmpR op_gt (pe_dget hu (pv 1) (pv 7) (fun _ _ => rfl)) pe_int (nomark _))))
          (fun _ _ _ _ _ => by exact (pe_cmp (pc_din hu (pe_ix ix_tup (pv 7) pe_int (fun _ _ => rfl)) (pv 3)))))) pa_nil)))))), ?_⟩
    refine fun F1 hF1 => ⟨_, rfl, upd_same, [(Sum.inr r0, .bl true)], rfl, (by show 1 ≤ 15; decide), ?_⟩
    rw [show mergeK ([] : List (Key × V)) [(Sum.inr r0, V.bl true)] = TM [r0] (fun _ => .bl true) from rfl]
    refine ⟨_, rfl, by show 1 ≤ sizeLine; decide, fun W1 hW1 => ?_⟩
    have nW2 := (none_upd (none_upd hW1).2).2
    have R0 : TInv H (upd (upd (upd H F1 (.dK [])) F1 (.dK (TM [r0] fun _ => .bl true))) W1 (.lst ([r0].map V.str))) F1 W1 [r0] [r0] (fun _ => .bl true) := by
      have wf : F1 ≠ W1 := fun z => (none_upd hW1).1 z.symm
      refine ⟨by rw [upd_ne wf, upd_same], upd_same, hF1, nW2, fun x o e => ?_, fun x z => (none_upd (none_upd (none_upd z).2).2).2⟩
      rw [upd_ne (ne_of_none e nW2), upd_ne (ne_of_none e hF1), upd_ne (ne_of_none e hF1)]
      exact e
    have eσ : ((L2.start NHa [V.ref h, V.ref d, V.str r0]).set 3 (some (V.ref F1))).set 4 (some (V.ref W1)) = [some (.ref h), some (.ref d), some (.str r0), some (.ref F1), some (.ref W1), none, none, none] := rfl
    dsimp only [gName]
    rw [eσ]
    have cz : ∀ {a b : Str}, a ∈ rs → b ∈ nearOf ds a → c (a, b) = trs row a b row.length := fun ha hb => of.cnt _ (of.mem ha hb)
    refine while_ex (fun _ _ => False) (fun _ _ z => z.elim) (fun _ => ?_)
    refine while_by (fun σ' H' => ∃ (fs ws : List Str) (v5 v6 v7 : Option V), σ' = [some (.ref h), some (.ref d), some (.str r0), some (.ref F1), some (.ref W1), v5, v6, v7] ∧ TInv H H' F1 W1 fs ws (fun _ => .bl true) ∧ fs.Nodup ∧ (∀ r ∈ fs, r ∈ rs) ∧ (∀ r ∈ ws, r ∈ fs) ∧ r0 ∈ fs ∧ ws.length ≤ fs.length ∧ (∀ r ∈ fs, r ∉ ws → ∀ o ∈ nearOf ds r, 0 < c (r, o) → o ∈ fs))
      (fun _ H' => (match H' F1 with
        | some (.dK kvs) => 2 * (rs.length - kvs.length)
        | _ => 0) + (match H' W1 with
        | some (.lst xs) => xs.length
        | _ => 0)) ⟨[r0], [r0], _, _, _, rfl, R0, List.nodup_cons.mpr ⟨by simp, List.nodup_nil⟩, fun r hr => by rw [List.mem_singleton.mp hr]; exact of.r0, fun r hr => hr, List.mem_singleton.mpr rfl, Nat.le_refl _, fun r hr hn => absurd hr hn⟩ ?_ ?_
    · rintro σ' H' ⟨fs, ws, v5, v6, v7, rfl, R, fnd, fsub, wsub, fs0, wle, cl⟩
      have gR : Gr H H' := ⟨R.same, R.gone⟩
      refine ⟨_, rfl, _, .inl ⟨_, SqL.of R.w, rfl⟩, ?_⟩
      cases we : ws.reverse with
      | nil =>
        obtain rfl : ws = [] := List.reverse_eq_nil_iff.mp we
        refine iteF ?_
        have hd' := R.same _ _ hd
        have Fd : F1 ≠ d := ne_of R.f hd' (by intro z; cases z)
        refine ⟨d, _, hd', trivial, fun od => ⟨_, rfl, d, od, rfl, .inr ⟨PT ps c, upd_same, fun B hB => ?_⟩⟩⟩
        have eF : upd H' d (.frz od (.dT (PT ps c))) F1 = some (.dK (TM fs fun _ => .bl true)) := by
          rw [upd_ne Fd]
          exact R.f
        refine lc_it walk_keysT (fun j H3 => ∃ m, m ≤ j ∧ H3 B = some (.lst ((List.replicate m true).map V.bl)) ∧ Gr (upd H' d (.frz od (.dT (PT ps c)))) H3) ⟨0, Nat.le_refl _, upd_same, Gr.upd hB⟩ (fun j H3 _ q => ?_) ?_ ?_
        · obtain ⟨m, _, _, q3⟩ := q
          exact q3.s _ _ upd_same
        · rintro j v H3 H4 hj ⟨m, q1, q2, q3⟩ ⟨rfl, kk, vv, qa, e1, rfl, e3⟩
          have hj2 : j < ps.length := by
            rw [pt_len] at hj
            exact hj
          have kj : (PT ps c)[j]? = some (kE ps[j], .int (c ps[j] : Int)) := by
            unfold PT
            rw [List.getElem?_map, List.getElem?_eq_getElem hj2]
            rfl
          rw [kj] at e1
          obtain ⟨rfl, rfl⟩ := Prod.mk.inj (Option.some.inj e1)
          have mj : ps[j] ∈ ps := List.getElem_mem hj2
          generalize ps[j] = e at mj e3 kj
          have lq : (PT ps c).length < sizeLine := by
            rw [pt_len, of.perm.length_eq]
            have pl := prs_len (rs := rs) (ds := ds)
            have pl2 : rs.length * ds.length ≤ 60 * 60 := Nat.mul_le_mul (Nat.le_of_lt gd.len) (Nat.le_of_lt gd.dlen)
            exact Nat.lt_of_le_of_lt (Nat.le_trans pl pl2) (by decide)
          have gt : DGet H4 d (.ref qa) (valV (PT ps c) (kE e)) := .inr ⟨_, _, _, .inr ⟨od, q3.s _ _ upd_same⟩, rfl, e3, rfl⟩
          rw [pt_get mj] at gt
          refine ⟨rfl, _, rfl, _, rfl, d, _, rfl, gt, _, _, rfl, rfl, _, rfl, ?_⟩
          by_cases pos : 0 < c e
          · refine iteT2 (by rw [decide_eq_true]; omega) ?_
            have gf := DGet.k (k := Sum.inr e.1) (q3.s _ _ eF)
            obtain ⟨a, b⟩ := e
            have me := prs_mem.mp (of.perm.mem_iff.mp mj)
            have found : a ∈ fs := by
              rw [cz me.1 me.2] at pos
              obtain ⟨i, hi, h1, _⟩ := trs_pos pos
              rw [← h1]
              refine row_found of.car (by rw [of.first]; exact fs0) (fun r hr o ho hp => cl r hr (by simp) o ho ?_) i (by omega)
              rw [cz (fsub r hr) ho]
              exact hp
            rw [show (a, b).1 = a from rfl, tm_get found] at gf
            refine ⟨_, rfl, qa, _, 0, .str a, rfl, rfl, SqT.of e3, rfl, _, rfl, F1, _, rfl, gf, _, q2, ?_, m + 1, Nat.succ_le_succ q1, ?_, q3.put hB⟩
            · rw [List.length_map, List.length_replicate]
              exact Nat.lt_of_le_of_lt (Nat.le_trans q1 (Nat.le_of_lt hj)) lq
            · rw [upd_same, List.replicate_succ', List.map_append]
              rfl
          · refine iteF2 (by rw [decide_eq_false]; omega) ⟨m, Nat.le_succ_of_le q1, q2, q3⟩
        · rintro H3 ⟨m, q1, q2, q3⟩
          refine ⟨q3.s _ _ upd_same, B, _, rfl, .inl (.inl (by
            have nB : B ≠ d := ne_of q2 (q3.s _ _ upd_same) (by intro z; cases z)
            rw [upd_ne nB]
            exact q2)), ?_⟩
          have e : (List.replicate m true).all id = true := List.all_eq_true.mpr fun b hb => (List.eq_of_mem_replicate hb)
          rw [e]
          exact k _ (gR.trans (Gr.unlock hd' q3))
      | cons x wr =>
        obtain ⟨w0, rfl⟩ : ∃ w0, ws = w0 ++ [x] := ⟨wr.reverse, by rw [← List.reverse_reverse ws, we, List.reverse_cons]⟩
        refine iteT2 (by simp) ?_
        have xf : x ∈ fs := wsub x (List.mem_append_right _ (List.mem_singleton.mpr rfl))
        have mx : x ∈ rs := fsub x xf
        have R1 : TInv H (upd H' W1 (.lst (w0.map V.str))) F1 W1 fs w0 (fun _ => .bl true) := R.setW
        have ew : ((w0 ++ [x]).map V.str).dropLast = w0.map V.str := by
          rw [List.map_append]
          exact List.dropLast_concat
        have lw : ((w0 ++ [x]).map V.str)[((w0 ++ [x]).map V.str).length - 1]? = some (.str x) := by
          simp
        have hat := hh.same R1.same
        obtain ⟨dx, ra, da, na, tsd, i1, i2, i3, i4, nf, i5, i6⟩ := hat.at_
        refine ⟨_, rfl, .inl ⟨rfl, _, SqL.of R.w⟩, W1, _, .str x, rfl, rfl, R.w, lw, ?_⟩
        rw [ew]
        refine ⟨_, rfl, h, dx, _, rfl, i1, by rfl, _, rfl, h, x, rs, ds, rfl, hh.same R1.same, mx, fun H4 p s4 o4 n4 e4 => ?_⟩
        have R4 := R1.ext s4 o4
        have pF : p ≠ F1 := (ne_of_none R1.f n4).symm
        have pW : p ≠ W1 := (ne_of_none R1.w n4).symm
        refine ⟨p, rfl, ⟨_, SqL.of e4⟩, ?_⟩
        refine for_it (walk_list (xs := (nearOf ds x).map V.str)) (fun j σ'' H'' => ∃ (ad : List Str) (u6 u7 : Option V), σ'' = [some (.ref h), some (.ref d), some (.str r0), some (.ref F1), some (.ref W1), some (.str x), u6, u7] ∧ TInv H H'' F1 W1 (fs ++ ad) (w0 ++ ad) (fun _ => .bl true) ∧ (fs ++ ad).Nodup ∧ (∀ r ∈ fs ++ ad, r ∈ rs) ∧ (∀ o ∈ (nearOf ds x).take j, 0 < c (x, o) → o ∈ fs ++ ad) ∧ H'' p = some (.lst ((nearOf ds x).map V.str))) ?_ ?_ ?_ ?_
        · exact ⟨[], _, _, rfl, by rw [List.append_nil, List.append_nil]; exact R4, by rw [List.append_nil]; exact fnd, by rw [List.append_nil]; exact fsub, fun o ho => by simp at ho, e4⟩
        · rintro j σ'' H'' _ ⟨ad, u6, u7, rfl, q1, q2, q3, q4, q5⟩
          exact SqL.of q5
        · rintro j v σ'' H'' H5 hj ⟨ad, u6, u7, rfl, q1, q2, q3, q4, q5⟩ ⟨rfl, hv⟩
          have hj2 : j < (nearOf ds x).length := by simpa using hj
          obtain rfl : V.str (nearOf ds x)[j] = v := by
            rw [List.getElem?_map, List.getElem?_eq_getElem hj2] at hv
            exact Option.some.inj hv
          have om := List.getElem_mem hj2
          generalize eo : (nearOf ds x)[j] = o at om
          have tk : (nearOf ds x).take (j + 1) = (nearOf ds x).take j ++ [o] := by
            rw [← eo]
            exact (List.take_append_getElem hj2).symm
          have mo : o ∈ rs := (near_in gd.ends om).1
          have lf : (fs ++ ad).length ≤ rs.length := nodup_le q2 q3
          have mem := of.mem mx om
          refine ⟨_, rfl, _, rfl, F1, _, rfl, DGet.k (k := Sum.inr o) q1.f, _, rfl, ?_⟩
          rw [tm_isSome]
          by_cases m : o ∈ fs ++ ad
          · refine iteF2 (by rw [decide_eq_true m]; rfl) ⟨ad, _, _, rfl, q1, q2, q3, fun z hz hp => ?_, q5⟩
            rw [tk] at hz
            rcases List.mem_append.mp hz with hz | hz
            · exact q4 z hz hp
            · rw [List.mem_singleton.mp hz]
              exact m
          · refine iteT2 (by rw [decide_eq_false m]; rfl) ?_
            refine ⟨_, rfl, _, rfl, _, rfl, (by show 2 ≤ sizeLine; decide), fun t nt => ?_⟩
            have u1 := Gr.upd (o := .tup [.str x, .str o]) nt
            have q1' := q1.ext u1.s u1.n
            have q5' := u1.s _ _ q5
            have gt := DGet.t (k := kE (x, o)) (q1'.same _ _ hd) upd_same
            rw [pt_get mem] at gt
            refine ⟨d, _, rfl, gt, _, _, rfl, rfl, _, rfl, ?_⟩
            by_cases pos : 0 < c (x, o)
            · refine iteT2 (by rw [decide_eq_true]; omega) ?_
              refine ⟨_, rfl, _, rfl, F1, _, rfl, DPut.k (k := Sum.inr o) q1'.f (by rw [tm_len]; exact Nat.lt_of_le_of_lt lf (Nat.lt_trans gd.len (by decide))), ?_⟩
              rw [tm_const m, List.append_assoc]
              have q8 : TInv H (upd (upd H5 t (.tup [.str x, .str o])) F1 (.dK (TM (fs ++ (ad ++ [o])) fun _ => .bl true))) F1 W1 (fs ++ (ad ++ [o])) (w0 ++ ad) (fun _ => .bl true) := q1'.setF
              have q9 : TInv H (upd (upd (upd H5 t (.tup [.str x, .str o])) F1 (.dK (TM (fs ++ (ad ++ [o])) fun _ => .bl true))) W1 (.lst ((w0 ++ (ad ++ [o])).map V.str))) F1 W1 (fs ++ (ad ++ [o])) (w0 ++ (ad ++ [o])) (fun _ => .bl true) := q8.setW
              have em : (w0 ++ (ad ++ [o])).map V.str = (w0 ++ ad).map V.str ++ [V.str o] := by simp
              rw [em] at q9
              refine ⟨_, rfl, .inl ⟨rfl, _, SqL.of q8.w⟩, _, rfl, W1, _, .str o, rfl, rfl, q8.w, ?_, ?_⟩
              · have l1 : ((w0 ++ ad).map V.str).length < 1000 := by
                  rw [List.length_map, List.length_append]
                  rw [List.length_append] at lf wle
                  have := gd.len
                  omega
                exact Nat.lt_trans l1 (by decide)
              · refine ⟨ad ++ [o], _, _, rfl, q9, ?_, fun r hr => ?_, fun z hz hp => ?_, ?_⟩
                · rw [← List.append_assoc]
                  exact List.nodup_append.mpr ⟨q2, List.nodup_cons.mpr ⟨by simp, List.nodup_nil⟩, fun y hy z hz e => m (by rw [← List.mem_singleton.mp hz, ← e]; exact hy)⟩
                · rw [← List.append_assoc] at hr
                  rcases List.mem_append.mp hr with hr | hr
                  · exact q3 r hr
                  · rw [List.mem_singleton.mp hr]
                    exact mo
                · rw [← List.append_assoc]
                  rw [tk] at hz
                  rcases List.mem_append.mp hz with hz | hz
                  · exact List.mem_append_left _ (q4 z hz hp)
                  · exact List.mem_append_right _ hz
                · rw [upd_ne pW, upd_ne pF]
                  exact q5'
            · refine iteF2 (by rw [decide_eq_false]; omega) ⟨ad, _, _, rfl, q1', q2, q3, fun z hz hp => ?_, q5'⟩
              rw [tk] at hz
              rcases List.mem_append.mp hz with hz | hz
              · exact q4 z hz hp
              · rw [List.mem_singleton.mp hz] at hp
                exact absurd hp pos
        · rintro σ'' H'' ⟨ad, u6, u7, rfl, q1, q2, q3, q4, q5⟩
          have lf : (fs ++ ad).length ≤ rs.length := nodup_le q2 q3
          rw [List.length_append] at lf wle
          rw [List.length_map, List.take_length] at q4
          refine ⟨⟨fs ++ ad, w0 ++ ad, _, _, _, rfl, q1, q2, q3, fun r hr => ?_, List.mem_append_left _ fs0, ?_, fun r hr hn o ho hp => ?_⟩, ?_⟩
          · rcases List.mem_append.mp hr with hr | hr
            · exact List.mem_append_left _ (wsub r (List.mem_append_left _ hr))
            · exact List.mem_append_right _ hr
          · rw [List.length_append, List.length_append]
            simp only [List.length_cons, List.length_nil] at wle
            omega
          · rcases List.mem_append.mp hr with hr | hr
            · by_cases e : r = x
              · subst e
                exact q4 o ho hp
              · refine List.mem_append_left _ (cl r hr (fun z => ?_) o ho hp)
                rcases List.mem_append.mp z with z | z
                · exact hn (List.mem_append_left _ z)
                · exact e (List.mem_singleton.mp z)
            · exact absurd (List.mem_append_right _ hr) hn
          · show (match H'' F1 with
              | some (.dK kvs) => 2 * (rs.length - kvs.length)
              | _ => 0) + (match H'' W1 with
              | some (.lst xs) => xs.length
              | _ => 0) < (match H' F1 with
              | some (.dK kvs) => 2 * (rs.length - kvs.length)
              | _ => 0) + (match H' W1 with
              | some (.lst xs) => xs.length
              | _ => 0)
            rw [q1.f, q1.w, R.f, R.w]
            show 2 * (rs.length - (TM (fs ++ ad) _).length) + ((w0 ++ ad).map V.str).length < 2 * (rs.length - (TM fs _).length) + ((w0 ++ [x]).map V.str).length
            rw [tm_len, tm_len, List.length_map, List.length_map, List.length_append, List.length_append, List.length_append]
            simp only [List.length_cons, List.length_nil]
            omega
    · rintro σ' H' Q1 Q2 hq ⟨y, e1, b, e2, q⟩
      exact ⟨y, e1, b, e2, hq _ _ q⟩
end
end Lamp
set_option maxHeartbeats 4000000
namespace Lamp
open PySem PySem.Spec PyProof.Rows L2
theorem many_eqU {x : V} : ∀ {xs : List V} {us : List Value}, Vals xs us → xs.all flatV = true → us.countP (eqU x) = xs.countP fun y => eqV y x
  | [], [], .nil, _ => rfl
  | y :: xs, u :: us, .cons r rs, h => by
    obtain ⟨h1, h2⟩ := Bool.and_eq_true_iff.mp (show (flatV y && xs.all flatV) = true from h)
    rw [List.countP_cons, List.countP_cons, many_eqU rs h2, eqU_of r h1]
theorem count_strs {z : Str} : ∀ {xs : List Str}, (xs.map V.str).countP (fun y => eqV y (.str z)) = xs.count z
  | [] => rfl
  | x :: xs => by
    rw [List.map_cons, List.countP_cons, count_strs, List.count_cons]
    rfl
/-- xs.count(z), texts -/
def rCountS (K : PySem.W.Frag) : V → List V → Hp → VK → Prop := fun x vs H Q => ∃ (p : Addr) (xs : List Str) (z : Str), x = .ref p ∧ vs = [.str z] ∧ SqL K H p (xs.map V.str) ∧ Q (.int (xs.count z : Nat)) H
theorem mt_countS {X : Cx} : MtR X "list.count" (rCountS X.K) := by
  intro pins s σ H x vs v us Q I rx rvs h
  obtain ⟨p, xs, z, rfl, rfl, hs, q⟩ := h
  cases rx
  obtain ⟨u, rfl, ru⟩ := rvs.one
  obtain ⟨its, rv, ⟨⟨c1, c2, c3, c4⟩, n, ho, hc, hdn, hd⟩, hlen⟩ := I.list hs
  simp only at hc hd
  subst hc hd
  have fs := flat_strs xs
  refine call_meets PySem.F.slot_list_count ⟨_, ho, rfl⟩ PySem.F.entry_list_count (PySem.F.args_list_count_2 _ _) (SeqAt.list_countAt p its.toArray n c2 c4 u (eqU (.str z))) ⟨ho, fun y hy => mem_eqAt ru rfl rv fs y (by simpa using hy), ?_⟩
  have e : its.toArray.toList.countP (eqU (.str z)) = xs.count z := by
    rw [show its.toArray.toList = its by simp, many_eqU rv fs, count_strs]
  rw [e]
  exact ⟨.int _, H, I.tok _, ⟨_, rfl⟩, q⟩
end Lamp
set_option maxHeartbeats 8000000
namespace Lamp
open PySem PySem.Spec PyProof.Rows L2
theorem map_sum2 {α : Type} {f g : α → Nat} {l : List α} : (l.map fun y => f y + g y).sum = (l.map f).sum + (l.map g).sum := sum_add
/-- the passes to a room and from it -/
theorem near_sum {rs : List Str} {ds : List Ed} (g : GoodH rs ds) {row : List Str} (car : Car rs ds row) (r : Str) : ((nearOf ds r).map fun o => trs row r o row.length + trs row o r row.length).sum = gon row r row.length := by
  have nn := near_nodup (fun d hd => (g.ends d hd).2.2) g.noring r
  have nr : ∀ o ∈ nearOf ds r, r ≠ o := fun o ho => (near_in g.ends ho).2.2
  have nd : (((nearOf ds r).map fun o => ((r, o) : Ed)) ++ (nearOf ds r).map fun o => ((o, r) : Ed)).Nodup := by
    refine List.nodup_append.mpr ⟨List.Pairwise.map _ (fun p q h e => h (Prod.mk.inj e).2) nn, List.Pairwise.map _ (fun p q h e => h (Prod.mk.inj e).1) nn, fun x hx y hy e => ?_⟩
    obtain ⟨o, ho, rfl⟩ := List.mem_map.mp hx
    obtain ⟨q, hq, rfl⟩ := List.mem_map.mp hy
    exact nr q hq (Prod.mk.inj e).1
  have z := trs_sum (row := row) (r := r) nd (fun p hp => by
    rcases List.mem_append.mp hp with hp | hp
    · obtain ⟨o, ho, rfl⟩ := List.mem_map.mp hp
      exact nr o ho
    · obtain ⟨o, ho, rfl⟩ := List.mem_map.mp hp
      exact (nr o ho).symm) (i := row.length) fun j hj ne tc => by
        have st : at_ row (j + 1) ∈ nearOf ds (at_ row j) := (car.nxt j _ _ (at_lt (by omega)) (at_lt hj)).resolve_left fun z => ne z.symm
        rcases tc with z | z
        · rw [z] at st ⊢
          exact List.mem_append_left _ (List.mem_map.mpr ⟨_, st, rfl⟩)
        · rw [z] at st ⊢
          exact List.mem_append_right _ (List.mem_map.mpr ⟨_, near_sym (fun d hd => (g.ends d hd).2.2) st, rfl⟩)
  rw [List.map_append, List.sum_append, List.map_map, List.map_map] at z
  rw [map_sum2, ← z]
  congr 1
  · congr 1
    refine List.map_congr_left fun o _ => ?_
    show _ = if r = r ∨ o = r then _ else _
    rw [if_pos (.inl rfl)]
  · congr 1
    refine List.map_congr_left fun o _ => ?_
    show _ = if o = r ∨ r = r then _ else _
    rw [if_pos (.inr rfl)]
theorem stays_half {rs : List Str} {ds : List Ed} (g : GoodH rs ds) {row : List Str} (car : Car rs ds row) (r : Str) : gon row r row.length + [at_ row 0, at_ row (row.length - 1)].count r = 2 * stn row r row.length := by
  have p := List.length_pos_iff.mpr car.ne
  have z := gon_stn row r (row.length - 1)
  rw [Nat.sub_add_cancel p] at z
  rw [← z, List.count_cons, List.count_cons, List.count_nil]
  simp only [beq_iff_eq]
  omega
section
variable {P : Program} {w : World} {K : PySem.W.Frag} {mg : Str → Option Value} {base : Heap} {C : Addr}
structure TxtY (mg : Str → Option Value) : Prop where
  sum : mg "sum" = none
def spBy (C : Addr) : Sp := fun vs H Q _ => ∃ (h d : Addr) (r0 s0 : Str) (rs row : List Str) (ds ps : List Ed) (c : Ed → Nat), vs = [.ref h, .ref d, .str r0, .str s0] ∧ HouseAt H C h rs ds ∧ GoodH rs ds ∧ H d = some (.dT (PT ps c)) ∧ OfRow rs ds ps c row r0 s0 ∧
  ∀ H' p, H' p = some (.dK (TM rs (NI fun r => stn row r row.length))) → Gr H H' → H p = none → Q (.ref p) H'
abbrev NBy : List Str := ["house", "counted", "first", "last", "ends", "told", "room", "through", "other"]
theorem scBy : FnScope NBy ["house", "counted", "first", "last"] (defScope s_stays_by) := ⟨rfl, rfl, rfl, by decide +kernel, rfl, by decide +kernel, by decide +kernel⟩
theorem ok_by {f : Addr} {fd : FuncData} (F : Fun K "stays_by" "stays_by" s_stays_by f fd) (T : TxtY mg) (M : HasH P w K mg base C) (IO : Stands P w K mg base 3 "is_passes" ["house", "thing"] (spIsP C)) (NO : Stands P w K mg base 2 "need_room" ["house", "thing"] (spNeed C)) (LO : Stands P w K mg base 3 "leads_on" ["house", "counted", "first", "last"] (spLeads C)) (HO : Stands P w K mg base 2 "hangs_at" ["house", "counted", "first"] (spHangs C)) :
    FnOk P w K mg base CX0 4 f fd ["house", "counted", "first", "last"] (spBy C) := by
  obtain ⟨fi, di, Gi, mi, ki, bi⟩ := IO
  obtain ⟨fn, dn, Gn, mn, kn, bn⟩ := NO
  obtain ⟨fl, dl, Gl, ml, kl, bl⟩ := LO
  obtain ⟨fh, dh, Gh, mh, kh, bh⟩ := HO
  obtain ⟨fr, dr, mr, Gr', br⟩ := M.rooms
  obtain ⟨fe, de, me, Ge, be⟩ := M.near
  refine F.ok scBy (fun vs H Q E h => ?_) (fun cdv A outer s H vs Q E hr h => ?_)
  · obtain ⟨h, d, r0, s0, rs, row, ds, ps, c, rfl, _⟩ := h
    rfl
  · obtain ⟨h, d, r0, s0, rs, row, ds, ps, c, rfl, hh, gd, hd, of, k⟩ := h
    have hu := Nat.lt_of_le_of_lt (Nat.add_le_add_left (show 1 ≤ 64 by decide) _) hr.units
    refine ⟨_, pss_cons (ps_if (pt_not (pt_val (pe_call Gi hr (by rfl) mi ki bi .nil pass0 (pa_cons (pv 0) (pa_cons (pv 1) pa_nil))))) pss_dead pss_nil)
      (pss_cons (ps_expr (pe_call Gn (hr.mono (by decide)) (by rfl) mn kn bn .nil pass0 (pa_cons (pv 0) (pa_cons (pv 2) pa_nil))))
      (pss_cons (ps_expr (pe_call Gn (hr.mono (by decide)) (by rfl) mn kn bn .nil pass0 (pa_cons (pv 0) (pa_cons (pv 3) pa_nil))))
      (pss_cons (ps_if (PW.pt (pw_or (pt_not (pt_val (pe_call Gl hr (by rfl) ml kl bl .nil pass0 (pa_cons (pv 0) (pa_cons (pv 1) (pa_cons (pv 2) (pa_cons (pv 3) pa_nil))))))) (pw_or1 (pt_not (pt_val (pe_call Gh (hr.mono (by decide)) (by rfl) mh kh bh .nil pass0 (pa_cons (pv 0) (pa_cons (pv 1) (pa_cons (pv 2) pa_nil))))))))) pss_dead pss_nil)
      (pss_cons (ps_set (i := 4) scBy.nd rfl (Or.inl rfl) (pe_lst (pa_cons (pv 2) (pa_cons (pv 3) pa_nil))))
      (pss_cons (ps_set (i := 5) scBy.nd rfl (Or.inl rfl) pe_dnewK)
      (pss_cons (ps_for PassesOwn.never rfl (pi_list (pe_meth0 (pv 0) M.cls.cls mr Gr' (hr.mono (by decide)) br .nil pass0)) (pg_name (i := 6) scBy.nd rfl (Or.inr rfl))
        (pss_cons (ps_set (i := 7) scBy.nd rfl (Or.inl rfl) (pe_callB (cr_sum rfl) (by rfl) T.sum PyProof.Rows.Boot.sum (pa_cons
          (pe_lc (te := tOp (rI0 fun i j => .int (i + j)) (tDGet (tVar 1) (tTup (tCons (tVar 6) (tCons (tVar 8) tNil)))) (tDGet (tVar 1) (tTup (tCons (tVar 8) (tCons (tVar 6) tNil))))) (own := [("other", 8)]) (g := gName 8) (tt := tYes) rfl scBy.nd (pi_list (pe_meth (pv 0) M.cls.cls me Ge (hr.mono (by decide)) be .nil pass0 (pa_cons (pv 6) pa_nil))) (blkOk_by (N := NBy) (sc := defScope s_stays_by) (by decide +kernel))
            (fun _ _ _ _ _ => pg_name (i := 8) scBy.nd rfl (Or.inl rfl)) (fun _ _ _ _ _ => pts_nil)
            (fun _ _ _ _ _ => by exact (pe_op op_add (pe_dget hu (pv 1) (pe_tup (pa_cons (pv 6) (pa_cons (pv 8) pa_nil))) (fun _ _ => rfl)) (pe_dget hu (pv 1) (pe_tup (pa_cons (pv 8) (pa_cons (pv 6) pa_nil))) (fun _ _ => rfl))))) pa_nil)))
        (pss_one (ps_dput hu (pv 5) (pv 6) (pe_op op_fdiv (pe_op op_add (pv 7) (pe_bm PySem.F.plainAttrs_list PySem.F.slot_list_count PySem.F.type_list_count mt_countS (pv 4) (pa_cons (pv 6) pa_nil))) pe_int) (by rfl)))))
      (pss_one (ps_ret (pv 5))))))))), ?_⟩
    have a' := hh
    obtain ⟨dx, ra, da, na, tsd, h1, h2, h3, h4, nf, h5, h6⟩ := a'.at_
    refine ⟨_, rfl, _, rfl, h, d, rs, ds, ps, c, rfl, hh, gd, hd, of.perm, fun H1 g1 => ⟨_, rfl, iteF ?_⟩⟩
    refine ⟨_, rfl, _, rfl, h, r0, rs, ds, rfl, hh.same g1.s, of.r0, ?_⟩
    refine ⟨_, rfl, _, rfl, h, s0, rs, ds, rfl, hh.same g1.s, of.s0, ?_⟩
    refine ⟨_, rfl, _, rfl, _, rfl, _, rfl, h, d, r0, s0, rs, row, ds, ps, c, rfl, hh.same g1.s, gd, g1.s _ _ hd, of, fun H2 g2 => ⟨_, rfl, iteF ?_⟩⟩
    have g12 := g1.trans g2
    refine ⟨_, rfl, _, rfl, _, rfl, h, d, r0, s0, rs, row, ds, ps, c, rfl, hh.same g12.s, gd, g12.s _ _ hd, of, fun H3 g3 => ⟨_, rfl, iteF ?_⟩⟩
    have g13 := g12.trans g3
    refine ⟨_, rfl, _, rfl, (by show 2 ≤ sizeLine; decide), fun E1 hE => ?_⟩
    refine fun D hD => ?_
    have g4 := g13.trans (Gr.upd (o := .lst [.str r0, .str s0]) hE)
    have DN : H D = none := g4.n _ hD
    have ED : E1 ≠ D := fun z => by
      rw [← z, upd_same] at hD
      cases hD
    have g5 := g4.trans (Gr.upd (o := .dK []) hD)
    refine ⟨_, rfl, h, dx, _, rfl, g5.s _ _ h1, by rfl, h, rs, ds, rfl, hh.same g5.s, fun H5 p s5 n5 np e5 => ?_⟩
    have g6 : Gr H H5 := g5.trans ⟨s5, n5⟩
    have eE : H5 E1 = some (.lst ([r0, s0].map V.str)) := s5 _ _ (by rw [upd_ne ED, upd_same]; rfl)
    have eD : H5 D = some (.dK []) := s5 _ _ upd_same
    refine ⟨p, rfl, ⟨_, SqL.of e5⟩, ?_⟩
    have cz : ∀ {a b : Str}, a ∈ rs → b ∈ nearOf ds a → c (a, b) = trs row a b row.length := fun ha hb => of.cnt _ (of.mem ha hb)
    refine for_it (walk_list (xs := rs.map V.str)) (fun i σ' H' => ∃ (v6 v7 v8 : Option V), σ' = [some (.ref h), some (.ref d), some (.str r0), some (.str s0), some (.ref E1), some (.ref D), v6, v7, v8] ∧ Gr H H' ∧ H' E1 = some (.lst ([r0, s0].map V.str)) ∧ H' D = some (.dK (TM (rs.take i) (NI fun r => stn row r row.length))) ∧ H' p = some (.lst (rs.map V.str))) ?_ ?_ ?_ ?_
    · exact ⟨_, _, _, rfl, g6, eE, by rw [List.take_zero]; exact eD, e5⟩
    · rintro i σ' H' _ ⟨v6, v7, v8, rfl, q1, q2, q3, q4⟩
      exact SqL.of q4
    · rintro i v σ' H' H'' hi ⟨v6, v7, v8, rfl, q1, q2, q3, q4⟩ ⟨rfl, hv⟩
      have hi2 : i < rs.length := by simpa using hi
      obtain rfl : V.str rs[i] = v := by
        rw [List.getElem?_map, List.getElem?_eq_getElem hi2] at hv
        exact Option.some.inj hv
      have mr : rs[i] ∈ rs := List.getElem_mem hi2
      have nm := take_not gd.nodup hi2
      have tk : rs.take (i + 1) = rs.take i ++ [rs[i]] := (List.take_append_getElem hi2).symm
      generalize rs[i] = r at mr nm tk
      refine ⟨_, rfl, h, dx, _, rfl, q1.s _ _ h1, by rfl, _, rfl, h, r, rs, ds, rfl, hh.same q1.s, mr, fun H6 q s6 n6 nq e6 => ?_⟩
      refine ⟨q, rfl, ⟨_, SqL.of e6⟩, fun B hB => ?_⟩
      have g7 : Gr H'' H6 := ⟨s6, n6⟩
      have hd6 := (q1.trans g7).s _ _ hd
      have ln : (nearOf ds r).length < 60 := Nat.lt_of_le_of_lt near_len gd.dlen
      refine lc_it (walk_list (xs := (nearOf ds r).map V.str)) (fun j H7 => H7 B = some (.lst ((((nearOf ds r).take j).map fun o => ((trs row r o row.length : Nat) : Int) + (trs row o r row.length : Nat)).map V.int)) ∧ Gr H6 H7) ⟨upd_same, Gr.upd hB⟩ (fun j H7 _ w => SqL.of (w.2.s _ _ e6)) ?_ ?_
      · rintro j v H7 H8 hj ⟨w1, w2⟩ ⟨rfl, hv⟩
        have hj2 : j < (nearOf ds r).length := by simpa using hj
        obtain rfl : V.str (nearOf ds r)[j] = v := by
          rw [List.getElem?_map, List.getElem?_eq_getElem hj2] at hv
          exact Option.some.inj hv
        have om := List.getElem_mem hj2
        have tko : (nearOf ds r).take (j + 1) = (nearOf ds r).take j ++ [(nearOf ds r)[j]] := (List.take_append_getElem hj2).symm
        generalize (nearOf ds r)[j] = o at om tko
        have mo := (near_in gd.ends om).1
        have om' := near_sym (fun e he => (gd.ends e he).2.2) om
        have c1 := cz mr om
        have c2 := cz mo om'
        have hd7 := w2.s _ _ hd6
        refine ⟨rfl, _, rfl, _, rfl, _, rfl, (by show 2 ≤ sizeLine; decide), fun t1 nt1 => ?_⟩
        have u1 := Gr.upd (o := .tup [.str r, .str o]) nt1
        have hd8 := u1.s _ _ hd7
        have gt1 := DGet.t (k := kE (r, o)) hd8 upd_same
        rw [pt_get (of.mem mr om), c1] at gt1
        refine ⟨d, _, rfl, gt1, ?_⟩
        refine ⟨_, rfl, _, rfl, _, rfl, (by show 2 ≤ sizeLine; decide), fun t2 nt2 => ?_⟩
        have u2 := Gr.upd (o := .tup [.str o, .str r]) nt2
        have hd9 := u2.s _ _ hd8
        have gt2 := DGet.t (k := kE (o, r)) hd9 upd_same
        rw [pt_get (of.mem mo om'), c2] at gt2
        refine ⟨d, _, rfl, gt2, _, _, rfl, rfl, _, u2.s _ _ (u1.s _ _ w1), ?_, ?_, ((w2.trans u1).trans u2).put hB⟩
        · rw [List.length_map, List.length_map, List.length_take]
          exact Nat.lt_of_le_of_lt (Nat.min_le_right _ _) (Nat.lt_trans ln (by decide))
        · rw [upd_same, tko, List.map_append, List.map_append]
          rfl
      · rintro H7 ⟨w1, w2⟩
        rw [List.length_map, List.take_length] at w1
        have g8 := g7.trans w2
        refine ⟨B, _, rfl, SqL.of w1, ?_⟩
        have es : (((nearOf ds r).map fun o => ((trs row r o row.length : Nat) : Int) + (trs row o r row.length : Nat)).sum) = ((gon row r row.length : Nat) : Int) := by
          rw [← near_sum gd of.car r]
          generalize nearOf ds r = l
          induction l with
          | nil => rfl
          | cons o l ih =>
            rw [List.map_cons, List.sum_cons, List.map_cons, List.sum_cons, ih]
            omega
        rw [es]
        have sh := stays_half gd of.car r
        rw [of.first, of.last] at sh
        refine ⟨_, rfl, _, rfl, .inl ⟨rfl, _, SqL.of (g8.s _ _ q2)⟩, _, rfl, E1, [r0, s0], r, rfl, rfl, SqL.of (g8.s _ _ q2), _, _, rfl, rfl, _, _, rfl, rfl, ⟨by decide, by decide⟩, _, rfl, _, rfl, D, _, rfl, DPut.k (k := Sum.inr r) (g8.s _ _ q3) (by rw [tm_len, List.length_take]; exact Nat.lt_of_le_of_lt (Nat.min_le_right _ _) (Nat.lt_trans gd.len (by decide))), ?_⟩
        have ev : (((gon row r row.length : Nat) : Int) + (([r0, s0].count r : Nat) : Int)) / 2 = ((stn row r row.length : Nat) : Int) := by omega
        have pD : p ≠ D := ne_of q4 q3 (by intro z; cases z)
        refine ⟨_, _, _, rfl, (q1.trans g8).put DN, ?_, ?_, ?_⟩
        · rw [upd_ne ED]
          exact g8.s _ _ q2
        · rw [upd_same]
          show some (HO.dK (putK (TM (rs.take i) (NI fun r => stn row r row.length)) (Sum.inr r) (V.int ((((gon row r row.length : Nat) : Int) + (([r0, s0].count r : Nat) : Int)) / 2)))) = _
          rw [ev, tm_new nm, tk]
          congr 2
          refine tm_ext fun x _ => ?_
          unfold putV
          by_cases e : x = r
          · rw [if_pos e, e]
          · rw [if_neg e]
        · rw [upd_ne pD]
          exact g8.s _ _ q4
    · rintro σ' H' ⟨v6, v7, v8, rfl, q1, q2, q3, q4⟩
      rw [List.length_map, List.take_length] at q3
      exact ⟨_, rfl, k H' D q3 q1 DN⟩
end
end Lamp
set_option maxHeartbeats 4000000
namespace Lamp
open PySem PySem.Spec PyProof.Rows L2 HT
section
variable {prog : Program} {w : World} {A : Around} {E : Value → Shared → Prop} {s : Shared}
/-- t[::-1], t a tuple of two -/
theorem turn_two {t sl : Addr} {x y vl vu vs : Value} {Q : Value → Shared → Prop} (ht : IsTup s.heap t #[x, y]) (hs : s.heap.IsSliceOf sl vl vu vs) (pl : IsPart vl none) (pu : IsPart vu none) (ps : IsPart vs (some (-1)))
    (k : Q (.ref s.heap.objs.size) { s with heap := s.heap.push { cls := .type "tuple", data := .seq #[y, x] } }) : wpAny (model prog w) A (getItem (.ref t) (.ref sl)) Q E s := by
  obtain ⟨os, hos, hcs, hds⟩ := id hs
  have isSl : s.TypeIs (.ref sl) "slice" := ⟨os, hos, hcs⟩
  cases pl
  cases pu
  obtain ⟨tk, rfl⟩ : ∃ tk, vs = .int (-1) tk := by
    cases ps with
    | int i tk => exact ⟨tk, rfl⟩
  unfold getItem
  try with_reducible refine wpAny_holding ?_
  first | refine wpAny_bind (wpAny_pure ?_) | skip
  refine wpAny_bind (wpAny_sequenceKey ht.typeIs (by decide) ?_)
  refine wpAny_bind (wpAny_callSpecial?_slot (name := Str.ofString "__getitem__") ht.typeIs PyProof.Rows.slot_tuple_getitem (wpAny_call_entry PyProof.Rows.slot_tuple_getitem ht.typeIs entry_tuple_getitem ?_ (args_tuple_getitem _ _)))
  show wpAny _ _ (Builtin.Tuple.tupleItemsOf (.ref t) >>= _) _ _ s
  apply wpAny_bind
  apply tupleItemsOf_ ht
  apply wpAny_bind
  apply wpAny_typeOf isSl
  rw [if_pos (by decide)]
  apply wpAny_bind
  unfold Builtin.Slice.sliceApplied Builtin.Slice.sliceFields
  refine wpAny_bind (wpAny_bind (wpAny_field hos hds (x := .none) rfl (wpAny_bind (wpAny_field hos hds (x := .none) rfl (wpAny_bind (wpAny_field hos hds (x := .int (-1) tk) rfl (wpAny_pure ?_)))))))
  apply wpAny_bind
  apply slicePart_int
  show wpAny _ _ (if ((-1 : Int) == 0) = true then _ else _) _ _ s
  rw [if_neg (by decide)]
  apply wpAny_bind
  apply slicePart_none
  apply wpAny_bind
  apply slicePart_none
  apply wpAny_bind
  apply wpAny_pure
  show wpAny _ _ (match Builtin.Slice.sliceAdjust none none (-1) ((2 : Nat) : Int) with | (lo, hi) => pure (lo, (-1 : Int), Builtin.Slice.slicePlaces lo hi (-1))) _ _ s
  rw [show Builtin.Slice.sliceAdjust none none (-1) ((2 : Nat) : Int) = (1, -1) by decide]
  show wpAny _ _ (pure ((1 : Int), (-1 : Int), Builtin.Slice.slicePlaces 1 (-1) (-1))) _ _ s
  rw [show Builtin.Slice.slicePlaces 1 (-1) (-1) = 2 by decide]
  apply wpAny_pure
  show wpAny _ _ (if ((1 : Int) == 0 && (-1 : Int) == 1 && (2 : Nat) == (#[x, y] : Array Value).size) = true then _ else _) _ _ s
  rw [if_neg (by simp)]
  have two : ((List.range 2).filterMap fun (k : Nat) => (#[x, y] : Array Value)[((1 : Int) + (k : Int) * (-1)).toNat]?).toArray = #[y, x] := rfl
  rw [two]
  first
    | exact wpAny_bind (m := Builtin.Tuple.tupleExact _) (wpAny_newObj_type (wpAny_pure ⟨_, rfl, wpAny_pure k⟩) (by show 2 ≤ sizeLine; decide))
    | exact wpAny_bind (wpAny_bind (m := Builtin.Tuple.tupleExact _) (wpAny_newObj_type (wpAny_pure ⟨_, rfl, wpAny_pure k⟩) (by show 2 ≤ sizeLine; decide)))
    | exact wpAny_bind (m := Builtin.Tuple.tupleExact _) (wpAny_newObj_type (wpAny_bind (wpAny_pure (wpAny_pure ⟨_, rfl, wpAny_pure k⟩))) (by show 2 ≤ sizeLine; decide))
end
/-- t[::-1], t a tuple of two -/
def tTurn (te : TE) : TE := fun σ H Q => te σ H fun z H1 => ∃ a x y, z = .ref a ∧ H1 a = some (.tup [x, y]) ∧ ∀ p, H1 p = none → Q (.ref p) (upd H1 p (.tup [y, x]))
theorem pe_turn {X : Cx} {e : Expr} {te : TE} {k : Nat} {p1 p2 p3 pos : Pos} (he : PE X e te) : PE X (.Subscript e (.Slice none none (some (.UnaryOp .USub (.Constant (.int 1) k p1) p2)) p3) pos) (tTurn te) := by
  constructor
  intro pins s σ H Q I h
  refine Subscript_ (thn (he.run pins s σ H _ I h) fun v s1 ⟨z, H1, I1, r1, q1⟩ => ?_)
  obtain ⟨a, x, y, ez, hz, q⟩ := q1
  subst ez
  cases r1
  have step : PO X (some (.UnaryOp .USub (.Constant (.int 1) k p1) p2)) (tPart (tUn (rU fun i => .int (-i)) (tC (.int 1)))) := po_some (pe_un un_neg pe_int)
  refine wpAny_Slice (thn (po_none.run pins s1 σ H1 (fun o Ha => o = none ∧ Ha = H1) I1 ⟨rfl, rfl⟩) fun vl s2 ⟨_, H2, I2, pl, el, e2⟩ => ?_)
  subst el e2
  refine thn (po_none.run pins s2 σ H2 (fun o Ha => o = none ∧ Ha = H2) I2 ⟨rfl, rfl⟩) fun vu s3 ⟨_, H3, I3, pu, eu, e3⟩ => ?_
  subst eu e3
  refine thn (step.run pins s3 σ H3 (fun o Ha => o = some (-1) ∧ Ha = H3) I3 ⟨1, rfl, -1, rfl, rfl, rfl⟩) fun vs s4 ⟨_, H4, I4, ps, eo, e4⟩ => ?_
  subst eo e4
  have I5 : Inv X pins σ H4 { s4 with heap := s4.heap.push { cls := .type "slice", data := .fields #[vl, vu, vs] } } := I4.kept (t' := s4.toks) fun _ _ z => Heap.get?_push_of_some _ z
  obtain ⟨its, r, ht, _⟩ := I5.tuple (.inl (.inl hz))
  obtain ⟨u1, u2, rfl, ru1, ru2⟩ := vals2 r
  show wpAny (model X.prog X.w) X.A (subscriptTail e (.Slice none none (some (.UnaryOp .USub (.Constant (.int 1) k p1) p2)) p3) (.ref a) (.ref s4.heap.objs.size)) (EP X pins σ Q) X.xe { s4 with heap := s4.heap.push { cls := .type "slice", data := .fields #[vl, vu, vs] } }
  refine tail_any (ops := [.ref a, .ref s4.heap.objs.size]) ht.typeIs (PyProof.Rows.slot_tuple_getitem.lookup) ?_ (by with_unfolding_all rfl)
  refine turn_two ht (Heap.IsSliceOf.new _ vl vu vs) pl pu ps ?_
  exact ⟨.ref _, _, I5.laid (t' := s4.toks) (o := .tup [y, x]) (fun _ _ z => Heap.get?_push_of_some _ z) (Nat.le_refl _) ⟨by show 2 ≤ sizeLine; decide, [u2, u1], .cons ru2 (.cons ru1 .nil), IsTup.new _ _⟩, rfl, q _ (I5.hok.fresh (Nat.le_refl _))⟩
end Lamp
set_option maxHeartbeats 4000000
namespace Lamp
open PySem PySem.Spec PyProof.Rows L2
/-- an iterator whose n items are new pairs, while the list at S is being filled -/
structure NewSrc (prog : Program) (w : World) (A : Around) (I S : Addr) (wr : List Addr) (n : Nat) (Rel : Nat → Value → Value → Prop) (St : Nat → Heap → Prop) : Prop where
  off : S ∉ wr
  there : ∀ i h, St i h → ∀ b ∈ wr, ∃ o, h.get? b = some o
  frame : ∀ i h g, St i h → S < h.objs.size → (∀ b o, b ≠ S → h.get? b = some o → g.get? b = some o) → St i g
  item : ∀ i (s : Shared) (Q : Option Value → Shared → Prop) (E : Value → Shared → Prop), i < n → St i s.heap → S < s.heap.objs.size →
    (∀ k v g tk, Rel i k v → g.get? s.heap.objs.size = some { cls := .type "tuple", data := .seq #[k, v] } → St (i + 1) g → (∀ b o, b ∉ wr → s.heap.get? b = some o → g.get? b = some o) → Q (some (.ref s.heap.objs.size)) { s with heap := g, toks := tk }) →
    wpAny (model prog w) A (pyNext (.ref I)) Q E s
  done : ∀ (s : Shared) (Q : Option Value → Shared → Prop) (E : Value → Shared → Prop), St n s.heap → (∀ g tk, (∀ b o, b ∉ wr → s.heap.get? b = some o → g.get? b = some o) → Q none { s with heap := g, toks := tk }) → wpAny (model prog w) A (pyNext (.ref I)) Q E s
/-- the tuples made so far, above lo, in their order -/
structure Tups (Rel : Nat → Value → Value → Prop) (lo : Addr) (h : Heap) (as : List Addr) : Prop where
  rise : as.Pairwise (· < ·)
  above : ∀ a ∈ as, lo ≤ a
  tup : ∀ (j : Nat) (a : Addr), as[j]? = some a → ∃ k v, Rel j k v ∧ h.get? a = some { cls := .type "tuple", data := .seq #[k, v] }
theorem Tups.lt {Rel : Nat → Value → Value → Prop} {lo : Addr} {h : Heap} {as : List Addr} (g : Tups Rel lo h as) {a : Addr} (m : a ∈ as) : a < h.objs.size := by
  obtain ⟨j, hj⟩ := List.mem_iff_getElem?.mp m
  obtain ⟨_, _, _, e⟩ := g.tup j a hj
  exact Heap.lt_size e
section
variable {prog : Program} {w : World} {A : Around} {s : Shared} {R : Result → Shared → Prop} {I S lo : Addr} {wr : List Addr} {n : Nat} {Rel : Nat → Value → Value → Prop} {St : Nat → Heap → Prop}
theorem fill_loop (N : NewSrc prog w A.in1 I S wr n Rel St) (small : n ≤ sizeLine) (res : Value) {h0 : Heap} (lo1 : S < lo) (lo2 : ∀ b ∈ wr, b < lo)
    (fin : ∀ g tk acc c as, (∀ b o, b ≠ S → b ∉ wr → h0.get? b = some o → g.get? b = some o) → g.get? S = some { cls := .type "list", dict := none, data := .seq acc c, slots := #[] } → as.length = n → Tups Rel lo g as → acc.toList = as.map Value.ref → R (.ok (.ret res)) { s with heap := g, toks := tk }) :
    ∀ (k i : Nat) (h : Heap) (tk c : Nat) (acc : Array Value) (as : List Addr), n - i = k → i ≤ n → St i h → (∀ b o, b ≠ S → b ∉ wr → h0.get? b = some o → h.get? b = some o) → h.get? S = some { cls := .type "list", dict := none, data := .seq acc c, slots := #[] } →
      acc.toList = as.map Value.ref → as.length = i → Tups Rel lo h as → lo ≤ h.objs.size → codeAny (model prog w) A (.builtin "list.extend.loop" ⟨[.ref S, .ref I, res], []⟩) R { s with heap := h, toks := tk } := by
  intro k
  induction k with
  | zero =>
    intro i h tk c acc as hk hi st kept atS eacc len tups _
    obtain rfl : i = n := by omega
    apply codeAny_builtin PySem.F.entry_extend_loop
    rw [Around.under_plainId PySem.F.plain_extend_loop _]
    show wpAny _ A.in1 (pyNext (.ref I) >>= _) _ _ _
    apply wpAny_bind
    refine N.done { s with heap := h, toks := tk } _ _ st fun g tk' keep => ?_
    refine wpAny_pure (fin g tk' acc c as (fun b o b1 b2 e => keep b o b2 (kept b o b1 b2 e)) (keep S _ N.off atS) len ⟨tups.rise, tups.above, fun j a e => ?_⟩ eacc)
    obtain ⟨x, y, r, t⟩ := tups.tup j a e
    exact ⟨x, y, r, keep a _ (fun m => absurd (lo2 a m) (Nat.not_lt.mpr (tups.above a (List.mem_of_getElem? e)))) t⟩
  | succ k ih =>
    intro i h tk c acc as hk hi st kept atS eacc len tups big
    have lt : i < n := by omega
    have size : acc.size = i := by rw [← Array.length_toList, eacc, List.length_map, len]
    have ltS : S < h.objs.size := Heap.lt_size atS
    apply codeAny_builtin PySem.F.entry_extend_loop
    rw [Around.under_plainId PySem.F.plain_extend_loop _]
    show wpAny _ A.in1 (pyNext (.ref I) >>= _) _ _ _
    apply wpAny_bind
    refine N.item i { s with heap := h, toks := tk } _ _ lt st ltS fun x y g tk' rel tup st' keep => ?_
    dsimp only at tup keep ⊢
    have atS' := keep S _ N.off atS
    have up : ∀ b o, b ≠ S → g.get? b = some o → (g.update S (Obj.mapSeq (·.push (Value.ref h.objs.size)))).get? b = some o := fun b o ne e => (Heap.get?_update_other _ _ (Ne.symm ne)).trans e
    show wpAny _ A.in1 (updateSeq S (·.push (Value.ref h.objs.size)) >>= _) _ _ _
    apply wpAny_bind
    have few1 : acc.size ≤ sizeLine := by omega
    have few2 : (acc.push (Value.ref h.objs.size)).size ≤ sizeLine + 1 := by
      rw [Array.size_push]
      omega
    refine wpAny_updateSeq atS' rfl (wpAny_pure ⟨plainId_quiet PySem.F.plain_extend_loop _, ?_⟩) few1 few2
    refine ih (i + 1) _ tk' _ (acc.push (Value.ref h.objs.size)) (as ++ [h.objs.size]) (by omega) lt (N.frame _ _ _ st' (Heap.lt_size atS') up) (fun b o b1 b2 e => up b o b1 (keep b o b2 (kept b o b1 b2 e))) (Heap.get?_update_self _ atS' rfl) ?_ ?_ ⟨?_, ?_, ?_⟩ ?_
    · rw [Array.toList_push, eacc, List.map_append]
      rfl
    · rw [List.length_append, len]
      rfl
    · refine List.pairwise_append.mpr ⟨tups.rise, List.pairwise_singleton _ _, fun a ma b mb => ?_⟩
      rw [List.mem_singleton.mp mb]
      exact tups.lt ma
    · intro a ma
      rcases List.mem_append.mp ma with ma | ma
      · exact tups.above a ma
      · rw [List.mem_singleton.mp ma]
        exact big
    · intro j a e
      rcases Nat.lt_trichotomy j as.length with lj | ej | gj
      · rw [List.getElem?_append_left lj] at e
        obtain ⟨p, q, r, t⟩ := tups.tup j a e
        have ab := tups.above a (List.mem_of_getElem? e)
        refine ⟨p, q, r, up a _ (fun z => ?_) (keep a _ (fun m => absurd (lo2 a m) (Nat.not_lt.mpr ab)) t)⟩
        rw [z] at ab
        exact absurd lo1 (Nat.not_lt.mpr ab)
      · subst ej
        obtain rfl : h.objs.size = a := by simpa using e
        exact ⟨x, y, len ▸ rel, up _ _ (Nat.ne_of_gt ltS) tup⟩
      · rw [List.getElem?_eq_none (by rw [List.length_append, List.length_singleton]; omega)] at e
        cases e
    · have z : (g.update S (Obj.mapSeq (·.push (Value.ref h.objs.size)))).get? h.objs.size = _ := up _ _ (Nat.ne_of_gt ltS) tup
      exact Nat.le_trans big (Nat.le_of_lt (Heap.lt_size z))
/-- the list at S is lengthened by what r gives -/
theorem fill_extend {T : String} {r : Addr} {c0 : Nat} (res : Value) (hT : s.TypeIs (.ref r) T) (nl : (Value.type T == Value.type "list") = false) (nt : (Value.type T == Value.type "tuple") = false) (atS : s.heap.get? S = some { cls := .type "list", data := .seq #[] c0 }) (ne : S ≠ r) (small : n ≤ sizeLine) (w0 : List Addr)
    (iter : ∀ (Q : Value → Shared → Prop) (E : Value → Shared → Prop), (∀ I wr St g tk, NewSrc prog w A.in1 I S wr n Rel St → St 0 g → (∀ b o, s.heap.get? b = some o → g.get? b = some o) → s.heap.objs.size ≤ g.objs.size → (∀ b ∈ wr, b ∈ w0 ∨ s.heap.objs.size ≤ b) → Q (.ref I) { s with heap := g, toks := tk }) → wpAny (model prog w) A.in1 (pyIter (.ref r)) Q E s)
    (hint : ∀ (g : Heap) (tk : Nat) (Q : Bool → Shared → Prop) (E : Value → Shared → Prop), (∀ b o, s.heap.get? b = some o → g.get? b = some o) → (∀ b, Q b { s with heap := g, toks := tk }) → wpAny (model prog w) A.in1 (Builtin.List.listLengthHint (.ref r)) Q E { s with heap := g, toks := tk })
    (fin : ∀ g tk acc c as, (∀ b o, b ≠ S → b ∉ w0 → s.heap.get? b = some o → g.get? b = some o) → g.get? S = some { cls := .type "list", dict := none, data := .seq acc c, slots := #[] } → as.length = n → Tups Rel s.heap.objs.size g as → acc.toList = as.map Value.ref → R (.ok (.ret res)) { s with heap := g, toks := tk }) :
    wpAny (model prog w) A.in1 (Builtin.List.listExtendWith (.ref S) (.ref r) res) (fun f s' => match f with | .done f => R (.ok f) s' | .again c' => c'.quiet = true ∧ codeAny (model prog w) A c' R s') (fun e s' => R (.error e) s') s := by
  unfold Builtin.List.listExtendWith
  apply wpAny_bind
  apply wpAny_typeOf hT
  have notSelf : Builtin.List.listSameRef (.ref S) (.ref r) = false := by simp [Builtin.List.listSameRef, ne]
  simp only [notSelf, nl, nt, Bool.or_false, Bool.false_eq_true, if_false]
  apply wpAny_bind
  refine iter _ _ fun I wr St g tk N st keep le1 cells => ?_
  have atS1 := keep _ _ atS
  have ltS1 : S < g.objs.size := Heap.lt_size atS1
  have run : ∀ (h : Heap) (c1 tk1 : Nat), g.objs.size ≤ h.objs.size → (∀ b o, b ≠ S → g.get? b = some o → h.get? b = some o) → h.get? S = some { cls := .type "list", data := .seq #[] c1 } → codeAny (model prog w) A (.builtin "list.extend.loop" ⟨[.ref S, .ref I, res], []⟩) R { s with heap := h, toks := tk1 } := by
    intro h c1 tk1 le2 kept atS2
    have st2 := N.frame 0 g h st ltS1 kept
    refine fill_loop (s := s) (lo := h.objs.size) (h0 := h) N small res (Heap.lt_size atS2) (fun b m => ?_) (fun g2 tk2 acc c as k2 atS3 len tups eacc => ?_) n 0 h tk1 c1 #[] [] (Nat.sub_zero _) (Nat.zero_le _) st2 (fun _ _ _ _ e => e) atS2 rfl rfl ⟨List.Pairwise.nil, (fun _ m => nomatch m), (fun j a e => by simp at e)⟩ (Nat.le_refl _)
    · obtain ⟨o, e⟩ := N.there _ _ st2 b m
      exact Heap.lt_size e
    · refine fin g2 tk2 acc c as (fun b o b1 b2 e => k2 b o b1 (fun m => ?_) (kept b o b1 (keep b o e))) atS3 len ⟨tups.rise, fun a ma => Nat.le_trans (Nat.le_trans le1 le2) (tups.above a ma), tups.tup⟩ eacc
      rcases cells b m with q | q
      · exact b2 q
      · exact absurd (Heap.lt_size e) (Nat.not_lt.mpr q)
  apply wpAny_bind
  apply wpAny_holding
  refine hint g tk _ _ keep fun more => ?_
  refine wpAny_ite_split (fun _ => ?_) (fun _ => wpAny_pure ⟨plainId_quiet PySem.F.plain_extend_loop _, run g c0 _ (Nat.le_refl _) (fun _ _ _ e => e) atS1⟩)
  apply wpAny_bind
  apply wpAny_rule
  apply wpAny_bind
  show wpAny _ _ (updateSeq S (·.push .none) >>= fun _ => updateSeq S (·.pop)) _ _ _
  apply wpAny_bind
  refine wpAny_updateSeq atS1 rfl ?_ (Nat.zero_le _) (by show 1 ≤ sizeLine + 1; exact Nat.succ_le_succ (Nat.zero_le _))
  have atS2 := Heap.get?_update_self (Obj.mapSeq (·.push Value.none)) atS1 rfl
  refine wpAny_updateSeq (hz := by seq_fits) atS2 rfl ?_
  have atS3 := Heap.get?_update_self (Obj.mapSeq (·.pop)) atS2 rfl
  refine wpAny_pure ⟨plainId_quiet PySem.F.plain_extend_loop _, run _ _ _ (by rw [Heap.size_update, Heap.size_update]; exact Nat.le_refl _) (fun b o nb e => ?_) atS3⟩
  exact (Heap.get?_update_other _ _ (Ne.symm nb)).trans ((Heap.get?_update_other _ _ (Ne.symm nb)).trans e)
end
section
variable {prog : Program} {w : World} {A : Around} {E : Value → Shared → Prop} {s : Shared} {n : Nat} {Rel : Nat → Value → Value → Prop}
/-- list(r), r giving new pairs -/
theorem fill_call {T : String} {r : Addr} {Q : Value → Shared → Prop} {OK : Heap → Prop} (w0 : List Addr) (all : ∀ g : Heap, (∀ b o, s.heap.get? b = some o → g.get? b = some o) → OK g) (typ : ∀ s1 : Shared, OK s1.heap → s1.TypeIs (.ref r) T) (lt : r < s.heap.objs.size) (nl : (Value.type T == Value.type "list") = false) (nt : (Value.type T == Value.type "tuple") = false) (small : n ≤ sizeLine)
    (iter : ∀ (s1 : Shared) (Q : Value → Shared → Prop) (E : Value → Shared → Prop), OK s1.heap → s.heap.objs.size < s1.heap.objs.size → (∃ o, s1.heap.get? s.heap.objs.size = some o ∧ o.cls = .type "list") →
      (∀ I wr St g tk, NewSrc prog w A.in1.in1 I s.heap.objs.size wr n Rel St → St 0 g → (∀ b o, s1.heap.get? b = some o → g.get? b = some o) → s1.heap.objs.size ≤ g.objs.size → (∀ b ∈ wr, b ∈ w0 ∨ s1.heap.objs.size ≤ b) → Q (.ref I) { s1 with heap := g, toks := tk }) → wpAny (model prog w) A.in1.in1 (pyIter (.ref r)) Q E s1)
    (hint : ∀ (s1 : Shared) (Q : Bool → Shared → Prop) (E : Value → Shared → Prop), OK s1.heap → (∀ b, Q b s1) → wpAny (model prog w) A.in1.in1 (Builtin.List.listLengthHint (.ref r)) Q E s1)
    (fin : ∀ g tk acc c as, (∀ b o, b ∉ w0 → s.heap.get? b = some o → g.get? b = some o) → g.get? s.heap.objs.size = some { cls := .type "list", dict := none, data := .seq acc c, slots := #[] } → as.length = n → Tups Rel (s.heap.objs.size + 1) g as → acc.toList = as.map Value.ref → Q (.ref s.heap.objs.size) { s with heap := g, toks := tk }) :
    wpAny (model prog w) A (call (.type "list") [.ref r]) Q E s := by
  refine callType_codes (Q₁ := fun ob s1 => ob = .ref s.heap.objs.size ∧ s1 = { s with heap := s.heap.push { cls := .type "list", data := .seq #[] } }) PySem.F.called_list (PySem.F.typeCall_list_1 _) PySem.F.entry_list_init (code_list_new _ ⟨rfl, rfl⟩) fun ob s1 e1 => ?_
  obtain ⟨rfl, rfl⟩ := e1
  have atS : (s.heap.push { cls := .type "list", data := .seq #[] }).get? s.heap.objs.size = some { cls := .type "list", data := .seq #[] } := Heap.get?_push_size _ rfl
  refine ⟨⟨_, atS, rfl⟩, PySem.F.args_list_init_2 _ _, ?_⟩
  show wpAny _ _ (do let old ← Builtin.List.listItems (.ref s.heap.objs.size); Builtin.List.listUpdate (.ref s.heap.objs.size) (fun _ => #[]); letGo old.toList.reverse; Builtin.List.listExtendWith (.ref s.heap.objs.size) (.ref r) .none) _ _ { s with heap := s.heap.push { cls := .type "list", data := .seq #[] } }
  apply wpAny_bind
  unfold Builtin.List.listItems
  apply wpAny_bind
  apply wpAny_seqItems atS rfl
  apply wpAny_pure
  apply wpAny_bind
  show wpAny _ _ (updateSeq s.heap.objs.size (fun _ => #[])) _ _ { s with heap := s.heap.push { cls := .type "list", data := .seq #[] } }
  refine wpAny_updateSeq atS rfl ?_ (Nat.zero_le _) (Nat.zero_le _)
  have atS2 := Heap.get?_update_self (Obj.mapSeq (fun _ => (#[] : Array Value))) atS rfl
  apply wpAny_bind
  apply wpAny_letGo
  have keep : ∀ b o, s.heap.get? b = some o → ((s.heap.push { cls := .type "list", data := .seq #[] }).update s.heap.objs.size (Obj.mapSeq (fun _ => (#[] : Array Value)))).get? b = some o := fun b o e =>
    (Heap.get?_update_other _ _ (Nat.ne_of_gt (Heap.lt_size e))).trans (Heap.get?_push_of_some _ e)
  have size : ((s.heap.push { cls := .type "list", data := .seq #[] }).update s.heap.objs.size (Obj.mapSeq (fun _ => (#[] : Array Value)))).objs.size = s.heap.objs.size + 1 := by
    rw [Heap.size_update, size_push']
  refine fill_extend (A := A.in1) (s := { s with heap := (s.heap.push { cls := .type "list", data := .seq #[] }).update s.heap.objs.size (Obj.mapSeq (fun _ => (#[] : Array Value))) }) .none (typ _ (all _ keep)) nl nt atS2 (Nat.ne_of_gt lt) small w0
    (fun Q E k => iter { s with heap := (s.heap.push { cls := .type "list", data := .seq #[] }).update s.heap.objs.size (Obj.mapSeq (fun _ => (#[] : Array Value))) } Q E (all _ keep) (by rw [size]; exact Nat.lt_succ_self _) ⟨_, atS2, rfl⟩ k) (fun g tk Q E kg k => hint { s with heap := g, toks := tk } Q E (all _ fun b o e => kg b o (keep b o e)) k) fun g tk acc c as kg atS3 len tups eacc => ?_
  dsimp only at kg tups
  rw [size] at tups
  exact ⟨rfl, fin g tk acc c as (fun b o nb e => kg b o (Nat.ne_of_lt (Heap.lt_size e)) nb (keep b o e)) atS3 len tups eacc⟩
end
end Lamp
set_option maxHeartbeats 4000000
namespace Lamp
open PySem PySem.Spec PyProof.Rows L2
section
variable {prog : Program} {w : World} {A : Around} {E : Value → Shared → Prop} {s : Shared}
/-- a zip of two lists, i pairs given out -/
def ZipSt (z TI TO i1 i2 l1 l2 S : Addr) (xs ys : Array Value) (i : Nat) (h : Heap) : Prop :=
  IsPair h TI (.ref i1) (.ref i2) ∧ h.IsListIter i1 l1 i ∧ h.IsListIter i2 l2 i ∧ h.IsList l1 xs ∧ h.IsList l2 ys ∧ (∃ a b, IsPair h TO a b) ∧
    (IsZip h z TI TO .none ∨ ∃ T f oT, IsZipHeld h z TI TO T f ∧ h.get? T = some oT ∧ T ≠ z ∧ T ≠ i1 ∧ T ≠ i2 ∧ T ≠ TO ∧ T ≠ S)
theorem zip_src {z TI TO i1 i2 l1 l2 S : Addr} (D : ZipApart z TI TO i1 i2 l1 l2) (xs ys : Array Value) (calm : A.handled = none) (off : S ∉ [z, TI, TO, i1, i2, l1, l2]) :
    NewSrc prog w A z S [z, TO, i1, i2] (min xs.size ys.size) (fun i k v => xs[i]? = some k ∧ ys[i]? = some v) (ZipSt z TI TO i1 i2 l1 l2 S xs ys) := by
  simp only [List.mem_cons, List.not_mem_nil, or_false, not_or] at off
  obtain ⟨Sz, STI, STO, Si1, Si2, Sl1, Sl2⟩ := off
  refine ⟨?_, ?_, ?_, ?_, ?_⟩
  · simp only [List.mem_cons, List.not_mem_nil, or_false, not_or]
    exact ⟨Sz, STO, Si1, Si2⟩
  · rintro i h ⟨a1, ⟨o1, e1, _⟩, ⟨o2, e2, _⟩, a4, a5, ⟨x, y, a6⟩, a7⟩ b m
    simp only [List.mem_cons, List.not_mem_nil, or_false] at m
    rcases m with rfl | rfl | rfl | rfl
    · rcases a7 with q | ⟨T, f, oT, q, _⟩
      · exact ⟨_, q⟩
      · exact ⟨_, q⟩
    · exact ⟨_, a6⟩
    · exact ⟨_, e1⟩
    · exact ⟨_, e2⟩
  · rintro i h g ⟨a1, a2, a3, a4, a5, ⟨x, y, a6⟩, a7⟩ _ k
    refine ⟨k _ _ (Ne.symm STI) a1, a2.at fun o e => k _ o (Ne.symm Si1) e, a3.at fun o e => k _ o (Ne.symm Si2) e, a4.at fun o e => k _ o (Ne.symm Sl1) e, a5.at fun o e => k _ o (Ne.symm Sl2) e, ⟨x, y, k _ _ (Ne.symm STO) a6⟩, ?_⟩
    rcases a7 with q | ⟨T, f, oT, q, q1, q2, q3, q4, q5, q6⟩
    · exact .inl (k _ _ (Ne.symm Sz) q)
    · exact .inr ⟨T, f, oT, k _ _ (Ne.symm Sz) q, k _ _ q6 q1, q2, q3, q4, q5, q6⟩
  · rintro i s1 Q E1 lt ⟨a1, a2, a3, a4, a5, ⟨x, y, a6⟩, a7⟩ ltS kq
    have lx : i < xs.size := Nat.lt_of_lt_of_le lt (Nat.min_le_left _ _)
    have ly : i < ys.size := Nat.lt_of_lt_of_le lt (Nat.min_le_right _ _)
    have ex := Array.getElem?_eq_getElem lx
    have ey := Array.getElem?_eq_getElem ly
    have fresh : ∀ {c o}, s1.heap.get? c = some o → s1.heap.objs.size ≠ c := fun e => Nat.ne_of_gt (Heap.lt_size e)
    have f1 : s1.heap.objs.size ≠ i1 := let ⟨_, e, _⟩ := a2; fresh e
    have f2 : s1.heap.objs.size ≠ i2 := let ⟨_, e, _⟩ := a3; fresh e
    have f3 : s1.heap.objs.size ≠ S := Nat.ne_of_gt ltS
    have f4 : s1.heap.objs.size ≠ TO := fresh a6
    rcases a7 with q | ⟨T, f, oT, q, q1, q2, q3, q4, q5, q6⟩
    · refine wpAny_pyNext_zip_item D q a1 a6 a2 a3 a4 a5 ex ey fun g b1 b2 b3 b4 b5 b6 keep => ?_
      refine kq _ _ g s1.toks ⟨ex, ey⟩ b5 ⟨keep _ _ D.TIz D.TITO D.TIi1 D.TIi2 a1, b3, b4, a4.at fun o e => keep _ o D.l1z D.l1TO D.l1i1 D.l1i2 e, a5.at fun o e => keep _ o D.l2z D.l2TO D.l2i1 D.l2i2 e, ⟨_, _, b2⟩, .inr ⟨s1.heap.objs.size, false, _, b1, b5, fresh q, f1, f2, f4, f3⟩⟩ fun c o hc e => ?_
      simp only [List.mem_cons, List.not_mem_nil, or_false, not_or] at hc
      exact keep c o hc.1 hc.2.1 hc.2.2.1 hc.2.2.2 e
    · refine wpAny_pyNext_zip_item_held D q q1 a1 a2 a3 a4 a5 ex ey fun g b1 b3 b4 b5 b6 keep => ?_
      refine kq _ _ g s1.toks ⟨ex, ey⟩ b5 ⟨keep _ _ D.TIz D.TIi1 D.TIi2 a1, b3, b4, a4.at fun o e => keep _ o D.l1z D.l1i1 D.l1i2 e, a5.at fun o e => keep _ o D.l2z D.l2i1 D.l2i2 e, ⟨_, _, keep _ _ D.TOz D.TOi1 D.TOi2 a6⟩, .inr ⟨T, true, oT, b1, keep _ _ q2 q3 q4 q1, q2, q3, q4, q5, q6⟩⟩ fun c o hc e => ?_
      simp only [List.mem_cons, List.not_mem_nil, or_false, not_or] at hc
      exact keep c o hc.1 hc.2.2.1 hc.2.2.2 e
  · rintro s1 Q E1 ⟨a1, a2, a3, a4, a5, ⟨x, y, a6⟩, a7⟩ kq
    have out : xs[min xs.size ys.size]? = none ∨ ys[min xs.size ys.size]? = none := by
      rcases Nat.le_total xs.size ys.size with le | le
      · exact .inl (Array.getElem?_eq_none (by rw [Nat.min_eq_left le]; exact Nat.le_refl _))
      · exact .inr (Array.getElem?_eq_none (by rw [Nat.min_eq_right le]; exact Nat.le_refl _))
    rcases a7 with q | ⟨T, f, oT, q, q1, q2, q3, q4, q5, q6⟩
    · refine wpAny_pyNext_zip_end calm D q a1 a6 a2 a3 a4 a5 out fun g keep => kq g s1.toks fun c o hc e => ?_
      simp only [List.mem_cons, List.not_mem_nil, or_false, not_or] at hc
      exact keep c o hc.1 hc.2.1 hc.2.2.1 hc.2.2.2 e
    · refine wpAny_pyNext_zip_end_held calm D q q1 a1 a2 a3 a4 a5 out fun g keep => kq g s1.toks fun c o hc e => ?_
      simp only [List.mem_cons, List.not_mem_nil, or_false, not_or] at hc
      exact keep c o hc.1 hc.2.2.1 hc.2.2.2 e
theorem zip_no_len : typeLookup (.type "zip") "__len__" = pure none := am_miss_of_fast (by decide +kernel)
theorem zip_no_hint : typeLookup (.type "zip") "__length_hint__" = pure none := am_miss_of_fast (by decide +kernel)
theorem hint_zip {z : Addr} {Q : Bool → Shared → Prop} (hT : s.TypeIs (.ref z) "zip") (k : Q true s) : wpAny (model prog w) A (Builtin.List.listLengthHint (.ref z)) Q E s := by
  unfold Builtin.List.listLengthHint
  apply wpAny_bind
  apply wpAny_specialOf hT zip_no_len
  show wpAny _ _ (specialOf (.ref z) "__length_hint__" >>= _) _ _ _
  apply wpAny_bind
  apply wpAny_specialOf hT zip_no_hint
  exact wpAny_pure k
theorem zip_apart {m l1 l2 : Nat} (t1 : l1 < m) (t2 : l2 < m) : ZipApart (m + 4) (m + 2) (m + 3) m (m + 1) l1 l2 := by
  constructor <;> (show @Ne Nat _ _) <;> omega
theorem zip_off {m l1 l2 : Nat} (t1 : l1 < m) (t2 : l2 < m) : m + 5 ∉ [m + 4, m + 2, m + 3, m, m + 1, l1, l2] := by
  simp only [List.mem_cons, List.not_mem_nil, or_false, not_or]
  omega
theorem zip_cells {m b : Nat} (lt : b < m) : b ∉ [m + 4, m + 3, m, m + 1] := by
  simp only [List.mem_cons, List.not_mem_nil, or_false, not_or]
  omega
/-- list(zip(l1, l2)), the zip just made -/
theorem list_zip {l1 l2 : Addr} {xs ys : Array Value} {Q : Value → Shared → Prop} (calm : A.handled = none) (h1 : s.heap.IsList l1 xs) (h2 : s.heap.IsList l2 ys) (small : min xs.size ys.size ≤ sizeLine)
    (fin : ∀ S g tk acc c as, s.heap.objs.size ≤ S → (∀ b o, s.heap.get? b = some o → g.get? b = some o) → g.get? S = some { cls := .type "list", dict := none, data := .seq acc c, slots := #[] } → as.length = min xs.size ys.size → Tups (fun i k v => xs[i]? = some k ∧ ys[i]? = some v) (S + 1) g as → acc.toList = as.map Value.ref → Q (.ref S) { s with heap := g, toks := tk }) :
    wpAny (model prog w) A (call (.type "zip") [.ref l1, .ref l2]) (fun v s1 => wpAny (model prog w) A (call (.type "list") [v]) Q E s1) E s := by
  have t1 : l1 < s.heap.objs.size := let ⟨_, e, _⟩ := h1; Heap.lt_size e
  have t2 : l2 < s.heap.objs.size := let ⟨_, e, _⟩ := h2; Heap.lt_size e
  refine call_zip_2 h1 h2 fun g b1 b2 b3 b4 b5 b6 keep => ?_
  obtain ⟨m, em⟩ : ∃ m : Nat, m = s.heap.objs.size := ⟨_, rfl⟩
  rw [← em] at t1 t2 b1 b2 b3 b4 b5 b6 fin
  rw [← em]
  have D : ZipApart (m + 4) (m + 2) (m + 3) m (m + 1) l1 l2 := zip_apart t1 t2
  refine fill_call (s := { s with heap := g }) (n := min xs.size ys.size) (Rel := fun i k v => xs[i]? = some k ∧ ys[i]? = some v) (T := "zip") (r := m + 4) (w0 := [m + 4, m + 3, m, m + 1]) (OK := fun h => IsZip h (m + 4) (m + 2) (m + 3) .none ∧ IsPair h (m + 2) (.ref m) (.ref (m + 1)) ∧ IsPair h (m + 3) .none .none ∧ h.IsListIter m l1 0 ∧ h.IsListIter (m + 1) l2 0 ∧ h.IsList l1 xs ∧ h.IsList l2 ys)
    (fun h k => ⟨k _ _ b1, k _ _ b2, k _ _ b3, b4.at fun o e => k _ o e, b5.at fun o e => k _ o e, h1.at fun o e => k _ o (keep _ o e), h2.at fun o e => k _ o (keep _ o e)⟩) (fun s1 ok => ⟨_, ok.1, rfl⟩) (by rw [b6]; exact Nat.lt_succ_self _) (by decide) (by decide) small (fun s1 Q1 E1 ok big atS k => ?_) (fun s1 Q1 E1 ok k => hint_zip ⟨_, ok.1, rfl⟩ (k true)) fun h tk acc c as kp atS len tups eacc => ?_
  · obtain ⟨c1, c2, c3, c4, c5, c6, c7⟩ := ok
    refine wpAny_pyIter_zip c1 ?_
    have offS : g.objs.size ∉ [m + 4, m + 2, m + 3, m, m + 1, l1, l2] := by
      rw [b6]
      exact zip_off t1 t2
    refine k (m + 4) [m + 4, m + 3, m, m + 1] _ s1.heap s1.toks (zip_src D xs ys calm offS) ⟨c2, c4, c5, c6, c7, ⟨_, _, c3⟩, .inl c1⟩ (fun _ _ e => e) (Nat.le_refl _) fun b hb => .inl hb
  · refine fin g.objs.size h tk acc c as (by rw [b6]; exact Nat.le_add_right _ _) (fun b o e => kp b o (fun hb => ?_) (keep b o e)) atS len tups eacc
    have lt := Heap.lt_size e
    rw [← em] at lt
    exact zip_cells lt hb
end
end Lamp
set_option maxHeartbeats 4000000
namespace Lamp
open PySem PySem.Spec PyProof.Rows L2
/-- new tuples of two tracked at their places -/
def put2 : Hp → List Addr → List (V × V) → Hp
  | H, a :: as, p :: ps => put2 (upd H a (.tup [p.1, p.2])) as ps
  | H, _, _ => H
theorem put2_off {b : Addr} : ∀ {as : List Addr} {ps : List (V × V)} {H : Hp}, b ∉ as → put2 H as ps b = H b
  | [], _, _, _ => rfl
  | _ :: _, [], _, _ => rfl
  | a :: as, p :: ps, H, h => by
    have ba : b ≠ a := fun z => h (z ▸ List.mem_cons_self)
    show put2 (upd H a (.tup [p.1, p.2])) as ps b = H b
    rw [put2_off (as := as) fun z => h (List.mem_cons_of_mem _ z), upd_ne ba]
theorem put2_at : ∀ {as : List Addr} {ps : List (V × V)} {H : Hp}, as.length = ps.length → as.Nodup → Paired (fun (t : Addr) (p : V × V) => put2 H as ps t = some (.tup [p.1, p.2])) as ps
  | [], [], _, _, _ => .nil
  | [], _ :: _, _, h, _ => by cases h
  | _ :: _, [], _, h, _ => by cases h
  | a :: as, p :: ps, H, h, nd => by
    obtain ⟨na, nd'⟩ := List.nodup_cons.mp nd
    refine .cons ?_ (put2_at (H := upd H a (.tup [p.1, p.2])) (Nat.succ.inj h) nd')
    show put2 (upd H a (.tup [p.1, p.2])) as ps a = _
    rw [put2_off na, upd_same]
theorem paired_find {α β : Type} {F : α → β → Prop} : ∀ {xs : List α} {ys : List β}, Paired F xs ys → ∀ {x : α}, x ∈ xs → ∃ (j : Nat) (y : β), xs[j]? = some x ∧ ys[j]? = some y ∧ F x y
  | _ :: xs, _ :: ys, .cons h t, x, m => by
    rcases List.mem_cons.mp m with rfl | m
    · exact ⟨0, _, rfl, rfl, h⟩
    · obtain ⟨j, y, e1, e2, e3⟩ := paired_find t m
      exact ⟨j + 1, y, e1, e2, e3⟩
theorem refs_vals : ∀ as : List Addr, Vals (as.map V.ref) (as.map Value.ref)
  | [] => .nil
  | _ :: as => .cons rfl (refs_vals as)
/-- a new list of new pairs is tracked -/
theorem laid_pairs {X : Cx} {pins : List (Addr × Obj)} {σ : L2.St} {H : Hp} {s : Shared} {g : Heap} {tk c : Nat} {S : Addr} {acc : Array Value} {as : List Addr} {ps : List (V × V)} (I : Inv X pins σ H s) (keep : ∀ b o, s.heap.get? b = some o → g.get? b = some o) (new : s.heap.objs.size ≤ S) (small : as.length ≤ sizeLine)
    (atS : g.get? S = some { cls := .type "list", dict := none, data := .seq acc c, slots := #[] }) (eacc : acc.toList = as.map Value.ref) (rise : as.Pairwise (· < ·)) (above : ∀ a ∈ as, S + 1 ≤ a) (len : as.length = ps.length)
    (tup : ∀ (j : Nat) (a : Addr), as[j]? = some a → ∃ (p : V × V) (k v : Value), ps[j]? = some p ∧ RelV p.1 k ∧ RelV p.2 v ∧ g.get? a = some { cls := .type "tuple", data := .seq #[k, v] }) :
    ∃ H' : Hp, Gr H H' ∧ H S = none ∧ H' S = some (.lst (as.map V.ref)) ∧ Paired (fun (t : Addr) (p : V × V) => H' t = some (.tup [p.1, p.2])) as ps ∧ Inv X pins σ H' { s with heap := g, toks := tk } := by
  have Sn : S ∉ as := fun m => absurd (above S m) (Nat.not_lt.mpr (Nat.le_refl S))
  have nd : as.Nodup := List.Pairwise.imp (fun {a b} (h : a < b) => Nat.ne_of_lt h) rise
  have high : ∀ a ∈ as, s.heap.objs.size ≤ a := fun a m => Nat.le_trans new (Nat.le_of_lt (above a m))
  have free : ∀ a ∈ as, H a = none := fun a m => I.hok.fresh (high a m)
  have freeS : H S = none := I.hok.fresh new
  have pairs := put2_at (H := upd H S (.lst (as.map V.ref))) len nd
  have off : ∀ b, b ∉ as → b ≠ S → put2 (upd H S (.lst (as.map V.ref))) as ps b = H b := fun b b1 b2 => by rw [put2_off b1, upd_ne b2]
  have eS : put2 (upd H S (.lst (as.map V.ref))) as ps S = some (.lst (as.map V.ref)) := by rw [put2_off Sn, upd_same]
  have kept : ∀ b u, H b = some u → put2 (upd H S (.lst (as.map V.ref))) as ps b = some u := fun b u e => by
    rw [off b (fun m => by rw [free b m] at e; cases e) (fun z => by rw [z, freeS] at e; cases e)]
    exact e
  have old : ∀ b o, s.heap.get? b = some o → b ∉ as ∧ b ≠ S := fun b o e => ⟨fun m => absurd (Heap.lt_size e) (Nat.not_lt.mpr (high b m)), fun z => absurd (Heap.lt_size e) (Nat.not_lt.mpr (z ▸ new))⟩
  refine ⟨put2 (upd H S (.lst (as.map V.ref))) as ps, ⟨kept, fun b z => ?_⟩, freeS, eS, pairs, ?_⟩
  · cases e : H b with
    | none => rfl
    | some u =>
      rw [kept b u e] at z
      cases z
  refine I.call' (ch := []) rfl ⟨fun b o q _ _ _ => keep b o q, fun b o q _ _ _ => ⟨o.slots, keep b o q⟩, fun b o q n _ => ?_, fun b o q _ => ⟨o, keep b o q⟩, fun b xs q => kept b _ q, fun b o u q => kept b _ q, fun b qs q => ⟨#[], by rw [kept b _ q]; simp⟩⟩ (fun b u q => ?_) I.bare fun b z => by simp at z
  · obtain ⟨z1, z2⟩ := old b o q
    rw [off b z1 z2]
    exact n
  · by_cases m : b ∈ as
    · obtain ⟨j, p, e1, e2, e3⟩ := paired_find pairs m
      rw [e3] at q
      cases q
      obtain ⟨p', k, v, f1, f2, f3, f4⟩ := tup j b e1
      rw [e2] at f1
      cases f1
      exact ⟨by show 2 ≤ sizeLine; decide, [k, v], .cons f2 (.cons f3 .nil), ⟨_, f4, rfl, _, rfl⟩⟩
    · by_cases z : b = S
      · rw [z] at q ⊢
        rw [eS] at q
        cases q
        refine ⟨by rw [List.length_map]; exact small, acc.toList, c, by rw [eacc]; exact refs_vals as, ?_⟩
        rw [Array.toArray_toList]
        exact atS
      · rw [off b m z] at q
        exact (I.hok b u q).stay (fun d v _ y => keep d v y) (fun d y => kept d _ y) fun d xs y => kept d _ y
/-- list(zip(xs, ys)), two lists -/
def tListZip (K : PySem.W.Frag) (ta : TA) : TE := fun σ H Q => ta σ H fun vs H1 => ∃ a b xs ys, vs = [.ref a, .ref b] ∧ SqL K H1 a xs ∧ SqL K H1 b ys ∧ ∀ H' p ts, Gr H1 H' → H1 p = none → H' p = some (.lst (ts.map V.ref)) → Paired (fun (t : Addr) (q : V × V) => H' t = some (.tup [q.1, q.2])) ts (xs.zip ys) → Q (.ref p) H'
theorem vals_at {xs : List V} {us : List Value} (r : Vals xs us) {i : Nat} {v : Value} (h : us[i]? = some v) : ∃ x, xs[i]? = some x ∧ RelV x v := by
  have hi := (List.getElem?_eq_some_iff.mp h).1
  have hl := r.length
  obtain ⟨x, hx⟩ : ∃ x, xs[i]? = some x := ⟨xs[i]'(by omega), List.getElem?_eq_getElem _⟩
  obtain ⟨u, hu, ru⟩ := Vals.get (i := i) (x := x) r hx
  rw [h] at hu
  cases hu
  exact ⟨x, hx, ru⟩
theorem list_zip_rule {X : Cx} {pins : List (Addr × Obj)} {σ : L2.St} {H : Hp} {s : Shared} {Q : VK} {a b : Addr} {xs ys : List V} (calm : X.A.handled = none) (I : Inv X pins σ H s) (ha : SqL X.K H a xs) (hb : SqL X.K H b ys)
    (k : ∀ H' p ts, Gr H H' → H p = none → H' p = some (.lst (ts.map V.ref)) → Paired (fun (t : Addr) (q : V × V) => H' t = some (.tup [q.1, q.2])) ts (xs.zip ys) → Q (.ref p) H') {E : Value → Shared → Prop} :
    wpAny (model X.prog X.w) X.A (call (.type "zip") [.ref a, .ref b]) (fun v s1 => wpAny (model X.prog X.w) X.A (call (.type "list") [v]) (EP X pins σ Q) E s1) E s := by
  obtain ⟨us, ru, pu, lu⟩ := I.list ha
  obtain ⟨ws, rw', pw, lw⟩ := I.list hb
  have l1 := ru.length
  have l2 := rw'.length
  have sz1 : us.toArray.size = xs.length := by simp [l1]
  have sz2 : ws.toArray.size = ys.length := by simp [l2]
  refine list_zip calm pu.isList pw.isList (by rw [sz1]; exact Nat.le_trans (Nat.min_le_left _ _) lu) fun S g tk acc c as new keep atS len tups eacc => ?_
  rw [sz1, sz2] at len
  have few : as.length ≤ sizeLine := by
    rw [len]
    exact Nat.le_trans (Nat.min_le_left _ _) lu
  obtain ⟨H', gr, fs, es, pairs, I'⟩ := laid_pairs (tk := tk) (ps := xs.zip ys) I keep new few atS eacc tups.rise tups.above (by rw [List.length_zip]; exact len) fun j t e => by
    obtain ⟨x, y, ⟨e1, e2⟩, e3⟩ := tups.tup j t e
    obtain ⟨p, ep, rp⟩ := vals_at ru (i := j) (v := x) (by simpa using e1)
    obtain ⟨q, eq, rq⟩ := vals_at rw' (i := j) (v := y) (by simpa using e2)
    refine ⟨(p, q), x, y, ?_, rp, rq, e3⟩
    rw [List.getElem?_zip_eq_some]
    exact ⟨ep, eq⟩
  exact ⟨.ref S, H', I', rfl, k H' S as gr fs es pairs⟩
theorem pe_listZip {X : Cx} {e1 e2 : Expr} {ta : TA} {p1 p2 zpos pos : Pos} (calm : X.calm = true) (args : PA X [e1, e2] ta) (g1 : Gl X "list") (m1 : X.mg "list" = none) (v1 : bootBuiltins "list" = some (.type "list")) (g2 : Gl X "zip") (m2 : X.mg "zip" = none) (v2 : bootBuiltins "zip" = some (.type "zip"))
    (st1 : starEach [.Call (.Name "zip" p2) [e1, e2] [] zpos] X.env = (false, eval (.Call (.Name "zip" p2) [e1, e2] [] zpos) X.env) :: starEach [] X.env := by rfl) (st2 : starEach [e1, e2] X.env = (false, eval e1 X.env) :: starEach [e2] X.env := by rfl) (pl : (backTo zpos (starEach [e2] X.env)).any (·.1) = false := by rfl) :
    PE X (.Call (.Name "list" p1) [.Call (.Name "zip" p2) [e1, e2] [] zpos] [] pos) (tListZip X.K ta) := by
  constructor
  intro pins s σ H Q I hq
  refine wpAny_Call_Name_kw (ld_blt I g1 m1 v1 ?_)
  refine PyProof.Rows.callWith_type1 ?_ st1 rfl
  rw [st1]
  show wpAny _ _ (spliced ((false, eval (.Call (.Name "zip" p2) [e1, e2] [] zpos) X.env) :: backTo pos (starEach [] X.env))) _ _ s
  apply Calls.spliced_cons
  refine wpAny_Call_Name_kw (ld_blt I g2 m2 v2 ?_)
  refine PyProof.Rows.callWith_type1 (thn (args.run zpos pins s σ H _ I hq) fun us s1 ⟨vs, H1, I1, r1, a, b, xs, ys, evs, ha, hb, k⟩ => ?_) st2 pl
  subst evs
  obtain ⟨u1, u2, rfl, ra, rb⟩ := vals2 r1
  obtain rfl : u1 = Value.ref a := ra
  obtain rfl : u2 = Value.ref b := rb
  exact wpAny_mono (list_zip_rule (E := X.xe) (I1.ok.hd calm) I1 ha hb k) (fun v s2 h2 => Calls.spliced_nil h2) fun _ _ z => z
end Lamp
set_option maxHeartbeats 4000000
namespace Lamp
open PySem PySem.Spec PyProof.Rows L2
open PySem.W (KdxSt)
open DT (Raw)
open L2.DX (itemsO)
section
variable {prog : Program} {w : World} {A : Around} {E : Value → Shared → Prop} {s : Shared}
theorem items_src {it d S : Addr} {es : Array DictEntry} {ep : Nat} (calm : A.handled = none) (n1 : S ≠ it) (n2 : S ≠ d) (n3 : d ≠ it) :
    NewSrc prog w A it S [it] es.size (fun i k v => ∃ e, es[i]? = some e ∧ k = e.key ∧ v = e.val) (fun i h => KdxSt h it d S i es.size ep ∧ Raw h d es ep) := by
  refine ⟨?_, ?_, ?_, ?_, ?_⟩
  · simpa using n1
  · rintro i h ⟨st, _⟩ b m
    obtain rfl := List.mem_singleton.mp m
    rcases st with ⟨_, _, _, e⟩ | ⟨_, _, _, _, _, e, _⟩
    · exact ⟨_, e⟩
    · exact ⟨_, e⟩
  · rintro i h g ⟨st, raw⟩ _ k
    exact ⟨st.keep k n1.symm, raw.at' fun o e => k d o n2.symm e⟩
  · rintro i s1 Q E1 lt ⟨st, raw⟩ ltS kq
    refine DT.nxtI st ltS raw lt fun g st' tup size keep => ?_
    exact kq _ _ g s1.toks ⟨_, Array.getElem?_eq_getElem lt, rfl, rfl⟩ tup ⟨st', raw.at' fun o e => keep d o n3 e⟩ fun b o nb e => keep b o (fun z => nb (by simp [z])) e
  · rintro s1 Q E1 ⟨st, raw⟩ kq
    exact DT.finI calm st raw (Nat.le_refl _) fun g keep => kq g s1.toks fun b o nb e => keep b o (fun z => nb (by simp [z])) e
/-- list(r), r the items of the dict at d -/
theorem list_items {r d : Addr} {es : Array DictEntry} {ep : Nat} {Q : Value → Shared → Prop} (calm : A.handled = none) (hv : s.heap.IsItemsView r d) (hm : Raw s.heap d es ep) (small : es.size ≤ sizeLine)
    (fin : ∀ S g tk acc c as, s.heap.objs.size ≤ S → (∀ b o, s.heap.get? b = some o → g.get? b = some o) → g.get? S = some { cls := .type "list", dict := none, data := .seq acc c, slots := #[] } → as.length = es.size → Tups (fun i k v => ∃ e, es[i]? = some e ∧ k = e.key ∧ v = e.val) (S + 1) g as → acc.toList = as.map Value.ref → Q (.ref S) { s with heap := g, toks := tk }) :
    wpAny (model prog w) A (call (.type "list") [.ref r]) Q E s := by
  have lr : r < s.heap.objs.size := let ⟨_, e, _⟩ := hv; Heap.lt_size e
  have ld : d < s.heap.objs.size := hm.lt
  refine fill_call (n := es.size) (Rel := fun i k v => ∃ e, es[i]? = some e ∧ k = e.key ∧ v = e.val) (T := "dict_items") (r := r) (w0 := []) (OK := fun h => h.IsItemsView r d ∧ Raw h d es ep) (fun h k => ⟨let ⟨o, e, q⟩ := hv; ⟨o, k _ _ e, q⟩, hm.at' fun o e => k d o e⟩) (fun s1 ok => ok.1.typeIs) lr (by decide) (by decide) small (fun s1 Q1 E1 ok big atS k => ?_) (fun s1 Q1 E1 ok k => PySem.W.kdx_hint ok.1.typeIs (k false)) fun h tk acc c as kp atS len tups eacc => fin _ h tk acc c as (Nat.le_refl _) (fun b o e => kp b o (fun m => nomatch m) e) atS len tups eacc
  obtain ⟨hv1, hm1⟩ := ok
  have lt2 : s.heap.objs.size ≠ s1.heap.objs.size := Nat.ne_of_lt big
  have keep : ∀ b o, s1.heap.get? b = some o → (s1.heap.push { cls := .type "dict_itemiterator", data := .fields #[.none, .bool false, .ref d, .int 0 0, .int es.size 0, .int ep 0, .none, .none] }).get? b = some o := fun b o e => Heap.get?_push_of_some _ e
  refine DT.iterI hv1 hm1 (k s1.heap.objs.size [s1.heap.objs.size] _ _ s1.toks (items_src calm lt2 (Nat.ne_of_gt ld) (Nat.ne_of_lt (Nat.lt_trans ld big))) ⟨.inl ⟨rfl, .none, .none, Heap.get?_push_size _ rfl⟩, hm1.push _⟩ keep ?_ fun b m => .inr ?_)
  · rw [size_push']
    exact Nat.le_succ _
  · rw [List.mem_singleton.mp m]
    exact Nat.le_refl _
end
/-- list(d.items()), keys tuples -/
def rItemsL2 : List V → Hp → VK → Prop := fun vs H Q => ∃ (p a : Addr) (kvs : List (List Key × V)), vs = [.ref p] ∧ H p = some (itemsO p a) ∧ H a = some (.dT kvs) ∧
  ∀ H' l ts qs, Gr H H' → H l = none → H' l = some (.lst (ts.map V.ref)) → Paired (fun (q : Addr) (kv : List Key × V) => H q = some (.tup (kv.1.map kV))) qs kvs → Paired (fun (t : Addr) (x : V × V) => H' t = some (.tup [x.1, x.2])) ts ((qs.map V.ref).zip (kvs.map (·.2))) → Q (.ref l) H'
theorem paired_all {α β : Type} {F : α → β → Prop} : ∀ {xs : List α} {ys : List β}, Paired F xs ys → ∀ {i : Nat} {y : β}, ys[i]? = some y → ∃ x, xs[i]? = some x ∧ F x y
  | [], [], .nil, _, _, h => by cases h
  | x :: xs, y :: ys, .cons r _, 0, z, h => by
    obtain rfl := Option.some.inj h
    exact ⟨x, rfl, r⟩
  | _ :: xs, _ :: ys, .cons _ q, i + 1, z, h => paired_all (i := i) q h
theorem cr_itemsL2 {X : Cx} (calm : X.calm = true) : CallR X (.type "list") rItemsL2 := by
  intro pins s σ H vs us Q I r h
  obtain ⟨p, a, kvs, rfl, hp, ha, k⟩ := h
  obtain ⟨u, rfl, ru⟩ := vals1 r
  obtain rfl : u = Value.ref p := ru
  obtain ⟨view, _, _⟩ := I.hok p _ hp
  obtain ⟨z, _, xs, rel, o, es, ep, e1, e2, e3, e4, _⟩ := I.hok a _ ha
  have lx : xs.length = kvs.length := (Paired.length rel).symm
  have le : es.size = kvs.length := by
    rw [← Array.length_toList, e4, List.length_map, lx]
  refine list_items (I.ok.hd calm) view ⟨o, e1, e2, e3⟩ (by rw [le]; exact z) fun S g tk acc c as new keep atS len tups eacc => ?_
  have lq : (((xs.map fun x => x.2.1).map V.ref).zip (kvs.map (·.2))).length = as.length := by
    rw [List.length_zip, List.length_map, List.length_map, List.length_map, lx, Nat.min_self, len, le]
  obtain ⟨H', gr, fs, eS, pairs, I'⟩ := laid_pairs (tk := tk) (ps := ((xs.map fun x => x.2.1).map V.ref).zip (kvs.map (·.2))) I keep new (by rw [len, le]; exact z) atS eacc tups.rise tups.above lq.symm fun j t e => by
    obtain ⟨kk, vv, ⟨en, f1, f2, f3⟩, f4⟩ := tups.tup j t e
    rw [← Array.getElem?_toList, e4, List.getElem?_map] at f1
    obtain ⟨x, fx, rfl⟩ := Option.map_eq_some_iff.mp f1
    obtain ⟨kv, fk, g1, g2, g3⟩ := paired_all rel fx
    refine ⟨(.ref x.2.1, kv.2), kk, vv, ?_, ?_, ?_, f4⟩
    · rw [List.getElem?_zip_eq_some]
      refine ⟨?_, ?_⟩
      · rw [List.getElem?_map, List.getElem?_map, fx]
        rfl
      · rw [List.getElem?_map, fk]
        rfl
    · rw [f2]
      exact rfl
    · rw [f3]
      exact g3
  refine ⟨.ref S, H', I', rfl, k H' S as (xs.map fun x => x.2.1) gr fs eS ?_ pairs⟩
  clear k pairs lq le lx e4 z
  have go : ∀ {ks : List (List Key × V)} {ys : List (List Key × Addr × Value)}, KT H ks ys → Paired (fun (q : Addr) (kv : List Key × V) => H q = some (.tup (kv.1.map kV))) (ys.map fun x => x.2.1) ks := fun {ks ys} q => by
    induction q with
    | nil => exact .nil
    | cons r _ ih => exact .cons r.2.1 ih
  exact go rel
end Lamp
set_option maxHeartbeats 4000000
namespace Lamp
open PySem PySem.Spec PyProof.Rows L2
/-- pairs (key tuple, value) put into a dict, one after another -/
def putAll (acc : List (List Key × V)) (es : List (List Key × Addr × V)) : List (List Key × V) := es.foldl (fun kvs e => putK kvs e.1 e.2.2) acc
/-- dict(xs), xs a list of pairs whose first is a tuple -/
def rDictT (K : PySem.W.Frag) : List V → Hp → VK → Prop := fun vs H Q => ∃ (a : Addr) (ts : List Addr) (es : List (List Key × Addr × V)), vs = [.ref a] ∧ SqL K H a (ts.map V.ref) ∧ Paired (fun (t : Addr) (e : List Key × Addr × V) => H t = some (.tup [.ref e.2.1, e.2.2]) ∧ H e.2.1 = some (.tup (e.1.map kV))) ts es ∧
  ∀ p, H p = none → Q (.ref p) (upd H p (.dT (putAll [] es)))
theorem putAll_len : ∀ {es : List (List Key × Addr × V)} {acc : List (List Key × V)}, (putAll acc es).length ≤ acc.length + es.length
  | [], acc => Nat.le_refl _
  | e :: es, acc => by
    show (putAll (putK acc e.1 e.2.2) es).length ≤ _
    have z := putAll_len (es := es) (acc := putK acc e.1 e.2.2)
    have y := length_putK acc e.1 e.2.2
    rw [List.length_cons]
    omega
theorem kt_all {H : Hp} : ∀ {es : List (List Key × Addr × V)} {us : List Value} {acc : List (List Key × V)} {xs : List (List Key × Addr × Value)}, KT H acc xs → es.length = us.length → (∀ e ∈ es, H e.2.1 = some (.tup (e.1.map kV))) → (∀ (j : Nat) (e : List Key × Addr × V) (u : Value), es[j]? = some e → us[j]? = some u → RelV e.2.2 u) →
    KT H (putAll acc es) (storedAllH xs ((es.zip us).map fun z => (z.1.1, z.1.2.1, z.2)))
  | [], [], acc, xs, r, _, _, _ => r
  | [], _ :: _, _, _, _, h, _, _ => by cases h
  | _ :: _, [], _, _, _, h, _, _ => by cases h
  | e :: es, u :: us, acc, xs, r, h, hk, hv =>
    kt_all (es := es) (us := us) (r.put e.1 (hk e List.mem_cons_self) (hv 0 e u rfl rfl)) (Nat.succ.inj h) (fun x m => hk x (List.mem_cons_of_mem _ m)) fun j x y e1 e2 => hv (j + 1) x y e1 e2
theorem vals_of_pairs {X : Cx} {pins : List (Addr × Obj)} {σ : L2.St} {H : Hp} {s : Shared} (I : Inv X pins σ H s) : ∀ {ts : List Addr} {es : List (List Key × Addr × V)}, Paired (fun (t : Addr) (e : List Key × Addr × V) => H t = some (.tup [.ref e.2.1, e.2.2]) ∧ H e.2.1 = some (.tup (e.1.map kV))) ts es →
    ∃ us : List Value, es.length = us.length ∧ (∀ (j : Nat) (e : List Key × Addr × V) (u : Value), es[j]? = some e → us[j]? = some u → RelV e.2.2 u) ∧ ∀ (j : Nat) (t : Addr) (e : List Key × Addr × V) (u : Value), ts[j]? = some t → es[j]? = some e → us[j]? = some u → s.heap.IsTuple t #[.ref e.2.1, u]
  | [], [], .nil => ⟨[], rfl, fun j e u h => by simp at h, fun j t e u h => by simp at h⟩
  | t :: ts, e :: es, .cons r q => by
    obtain ⟨us, l, h1, h2⟩ := vals_of_pairs I q
    obtain ⟨_, its, rv, o, ho, hc, n, hd⟩ := I.hok t _ r.1
    obtain ⟨u1, u2, rfl, r1, r2⟩ := vals2 rv
    obtain rfl : u1 = Value.ref e.2.1 := r1
    refine ⟨u2 :: us, by rw [List.length_cons, List.length_cons, l], fun j x u e1 e2 => ?_, fun j t' x u e0 e1 e2 => ?_⟩
    · cases j with
      | zero =>
        cases e1
        cases e2
        exact r2
      | succ j => exact h1 j x u e1 e2
    · cases j with
      | zero =>
        cases e0
        cases e1
        cases e2
        exact ⟨o, ho, hc, n, hd⟩
      | succ j => exact h2 j t' x u e0 e1 e2
theorem cr_dictT {X : Cx} (calm : X.calm = true) (hu : X.A.units + 2 < cLine) : CallR X (.type "dict") (rDictT X.K) := by
  intro pins s σ H vs uu Q I r h
  obtain ⟨a, ts, es, rfl, hs, hp, k⟩ := h
  obtain ⟨u, rfl, ru⟩ := vals1 r
  obtain rfl : u = Value.ref a := ru
  obtain ⟨its, rv, pl, small⟩ := I.list hs
  have ei := refs_at rv
  subst ei
  obtain ⟨o, n, ho, hc, hd, hdat⟩ := pl
  rw [List.length_map] at small
  obtain ⟨us, l, relv, tup⟩ := vals_of_pairs I hp
  have lt := paired_len hp
  have keys : ∀ e ∈ es, H e.2.1 = some (.tup (e.1.map kV)) := fun e m => by
    obtain ⟨j, hj, ej⟩ := List.getElem_of_mem m
    obtain ⟨t, _, q⟩ := paired_all hp (i := j) (y := e) (by rw [List.getElem?_eq_getElem hj, ej])
    exact q.2
  let qs : List (Value × Value) := (es.zip us).map fun z => (.ref z.1.2.1, z.2)
  let xs : List (List Key × Addr × Value) := (es.zip us).map fun z => (z.1.1, z.1.2.1, z.2)
  have lq : qs.length = ts.length := by
    show ((es.zip us).map _).length = _
    rw [List.length_map, List.length_zip, ← l, Nat.min_self, lt]
  have P := PairArg.list (prog := X.prog) (w := X.w) a ((ts.map Value.ref).toArray) (fun j => ts.getD j 0) qs
  refine call_dict_pairsH (knd := tupleKind (mixKind X.prog X.w)) (ps := xs) P (I.ok.hd calm) ?_ ⟨⟨o, n, ho, hc, hd, hdat⟩, ?_, fun j kk v e => ?_⟩ ⟨?_, fun j kk v e => ?_⟩ (fun g kg x m => ?_) (by rw [lq]; exact small) fun g tk dd keep => ?_
  · show X.A.in1.in1.units < cLine
    exact hu
  · simp [lq]
  · have e' : ((es.zip us).map fun z => ((Value.ref z.1.2.1, z.2) : Value × Value))[j]? = some (kk, v) := e
    rw [List.getElem?_map] at e'
    obtain ⟨⟨x, u⟩, ez, e2⟩ := Option.map_eq_some_iff.mp e'
    obtain ⟨rfl, rfl⟩ := Prod.mk.inj e2
    obtain ⟨ex, eu⟩ := List.getElem?_zip_eq_some.mp ez
    obtain ⟨t, et, _⟩ := paired_all hp ex
    have eT : ts.getD j 0 = t := by
      rw [List.getD_eq_getElem?_getD, et]
      rfl
    refine ⟨?_, ?_⟩
    · show _ = some (Value.ref (ts.getD j 0))
      rw [eT]
      simp [et]
    · show PairAt s.heap (ts.getD j 0) _ _
      rw [eT]
      exact .inl (tup j t x u et ex eu)
  · show ((es.zip us).map _).length = ((es.zip us).map _).length
    rw [List.length_map, List.length_map]
  · have e' : ((es.zip us).map fun z => ((Value.ref z.1.2.1, z.2) : Value × Value))[j]? = some (kk, v) := e
    rw [List.getElem?_map] at e'
    obtain ⟨⟨x, u⟩, ez, e2⟩ := Option.map_eq_some_iff.mp e'
    obtain ⟨rfl, rfl⟩ := Prod.mk.inj e2
    refine ⟨x.1, x.2.1, ?_, rfl⟩
    show ((es.zip us).map fun z => ((z.1.1, z.1.2.1, z.2) : List Key × Addr × Value))[j]? = _
    rw [List.getElem?_map, ez]
    rfl
  · obtain ⟨⟨y, u⟩, my, rfl⟩ := List.mem_map.mp (show x ∈ (es.zip us).map fun z => ((z.1.1, z.1.2.1, z.2) : List Key × Addr × Value) from m)
    have ky := keys y (List.of_mem_zip my).1
    obtain ⟨o', its', n', g1, g2, g3, g4⟩ := key_of I.hok ky
    have lt' := Heap.lt_size g1
    exact ⟨o', its', n', kg _ _ (Nat.ne_of_lt lt') (fun m => nomatch m) g1, g2, g3, g4⟩
  · have rel := kt_all (H := H) (acc := []) (xs := []) .nil l keys relv
    have few : (putAll [] es).length ≤ sizeLine := by
      refine Nat.le_trans (putAll_len (es := es) (acc := [])) ?_
      rw [List.length_nil, Nat.zero_add, ← lt]
      exact small
    have notSys : (s.heap.objs.size == sysModules) = false := beq_eq_false_iff_ne.mpr (Nat.ne_of_gt I.big)
    obtain ⟨o', es', ep, d1, d2, d3, d4, _, d6⟩ := dd
    have freeD : H s.heap.objs.size = none := I.hok.fresh (Nat.le_refl _)
    refine ⟨.ref s.heap.objs.size, upd H s.heap.objs.size (.dT (putAll [] es)), I.laid (t' := tk) (fun b o e => keep b o (fun m => nomatch m) e) (Nat.le_refl _) ⟨few, notSys, _, rel.keeps fun c ys ec => ?_, o', es', ep, d1, d2, d3, d4, d6⟩, rfl, k _ freeD⟩
    rw [upd_ne (ne_of_none ec freeD)]
    exact ec
end Lamp
set_option maxHeartbeats 4000000
namespace Lamp
open PySem PySem.Spec PyProof.Rows L2
/-! ### list(d.values()) -/
def rValsL : V → Hp → VK → Prop := fun x H Q => ∃ (d : Addr) (kvs : List (Key × V)), x = .ref d ∧ H d = some (.dK kvs) ∧ ∀ p, H p = none → Q (.ref p) (upd H p (.lst (kvs.map (·.2))))
def tListVals (te : TE) : TE := fun σ H Q => te σ H fun x H1 => rValsL x H1 Q
theorem kv_vals {kvs : List (Key × V)} {vs : List (Key × Value)} {ys : List Value} (kv : KV kvs vs) (l : ys.length = vs.length) (h : ∀ (j : Nat) (v : Value), ys[j]? = some v → ∃ k, vs[j]? = some (k, v)) : Vals (kvs.map (·.2)) ys := by
  induction kv generalizing ys with
  | nil =>
    obtain rfl := List.eq_nil_of_length_eq_zero l
    exact .nil
  | @cons a b _ _ r _ ih =>
    cases ys with
    | nil => cases l
    | cons y ys =>
      obtain ⟨k, e⟩ := h 0 y rfl
      refine .cons ?_ (ih (Nat.succ.inj l) fun j v e => h (j + 1) v e)
      obtain rfl := Option.some.inj e
      exact r.2
section
variable {X : Cx} {e : Expr} {te : TE} {p apos cpos pos : Pos}
theorem pe_listVals (hc : X.calm = true) (he : PE X e te) (hg : Gl X "list") (hm : X.mg "list" = none) (hv : bootBuiltins "list" = some (.type "list")) (hbase : attributeBase e "values" X.env (eval e X.env) = eval e X.env := by rfl) (hline : (apos.endLine == cpos.line) = true := by rfl)
    (hs : starEach [.Call (.Attribute e "values" apos) [] [] cpos] X.env = (false, eval (.Call (.Attribute e "values" apos) [] [] cpos) X.env) :: starEach [] X.env := by rfl) :
    PE X (.Call (.Name "list" p) [.Call (.Attribute e "values" apos) [] [] cpos] [] pos) (tListVals te) := by
  refine ⟨fun pins s σ H Q I hq => ?_⟩
  refine wpAny_Call_Name_kw (ld_blt I hg hm hv ?_)
  refine PyProof.Rows.callWith_type1 ?_ hs rfl
  rw [hs]
  show wpAny _ _ (spliced ((false, eval (.Call (.Attribute e "values" apos) [] [] cpos) X.env) :: backTo pos (starEach [] X.env))) _ _ s
  refine Calls.spliced_cons ?_
  refine wpAny_Call_method (T := "dict") (id := "dict.values") hbase rfl hline F.plainAttrs_dict F.slot_dict_values F.type_dict_values (thn (he.run pins s σ H _ I hq) fun u s1 ⟨x, H1, I1, rx, d, kvs, ex, hd, q⟩ => ?_)
  subst ex
  obtain rfl : u = Value.ref d := rx
  obtain ⟨hz, hs0, vs, kv, hdo⟩ := I1.hok d _ hd
  obtain ⟨ep, hat⟩ := hdo.dictAt
  have lk : kvs.length = vs.length := Paired.length kv
  have I2 : Inv X pins σ H1 { s1 with heap := s1.heap.push { cls := .type "dict_values", data := .fields #[.ref d] } } := I1.kept (t' := s1.toks) fun b ob q => Heap.get?_push_of_some _ q
  refine ⟨hdo.typeIs, hdo.mapOf.noDict, ?_⟩
  show wpAny _ _ (callWith cpos (.builtin "dict.values") [.ref d] [] []) _ X.xe s1
  refine method_meetsIn F.slot_dict_values F.entry_dict_values rfl (PySem.evalArgs_none ⟨rfl, hdo.typeIs, F.args_dict_values_1 _, _, meets_dict_values (mixKind X.prog X.w) d hs0, ⟨vs, hdo⟩, ?_⟩)
  refine Calls.spliced_nil ?_
  refine PySem.W.kdl_call (PySem.W.kdl_values (knd := mixKind X.prog X.w) (kvs := vs) (ep := ep)) (I1.ok.hd hc) ⟨⟨_, Heap.get?_push_size _ rfl, rfl, rfl⟩, hat.push _⟩ (by omega) fun h' tk acc c hk hS items => ?_
  have few : (kvs.map (·.2)).length ≤ sizeLine := by
    rw [List.length_map]
    exact hz
  have free : H1 (s1.heap.push { cls := .type "dict_values", data := .fields #[.ref d] }).objs.size = none := I2.hok.fresh (Nat.le_refl _)
  refine ⟨.ref _, _, I2.laid (t' := tk) (o := .lst (kvs.map (·.2))) hk (Nat.le_refl _) ⟨few, acc.toList, c, kv_vals kv (by rw [Array.length_toList]; exact items.1) fun j v e => items.2 j v (by rw [← Array.getElem?_toList]; exact e), by rw [Array.toArray_toList]; exact hS⟩, rfl, q _ free⟩
end
end Lamp
set_option maxHeartbeats 4000000
namespace Lamp
open PySem PySem.Spec PyProof.Rows L2
/-! ### the spring beside all else -/
/-- the heap has grown, but for the spring -/
structure Gs (a l : Addr) (H H' : Hp) : Prop where
  s : Sb a l H H'
  n : ∀ x, H' x = none → H x = none
theorem Gs.refl {a l : Addr} (H : Hp) : Gs a l H H := ⟨Sb.refl H, fun _ h => h⟩
theorem Gs.trans {a l : Addr} {H H1 H2 : Hp} (p : Gs a l H H1) (q : Gs a l H1 H2) : Gs a l H H2 := ⟨p.s.trans q.s, fun x z => p.n x (q.n x z)⟩
theorem Gr.gs {a l : Addr} {H H' : Hp} (g : Gr H H') : Gs a l H H' := ⟨Same.sb g.s, g.n⟩
theorem Gs.of {a l : Addr} {H H' : Hp} {n : Nat} (s : Sb a l H H') (q : Spr H' a l n) : Gs a l H H' := ⟨s, fun x z => by
  rcases h : H x with _ | o
  · rfl
  · have e := s x o h (q.na z) (fun e => absurd e (q.nl z))
    rw [e] at z
    cases z⟩
theorem Gs.put {a l p : Addr} {H H' : Hp} {o : HO} (g : Gs a l H H') (h : H p = none) : Gs a l H (L2.upd H' p o) := ⟨fun x u e n1 n2 => by
  rw [upd_ne (ne_of_none e h)]
  exact g.s x u e n1 n2, fun _ z => g.n _ (none_upd z).2⟩
/-- no list with a number in it -/
def okO : HO → Bool
  | .lst vs => vs.all fun v => match v with
    | .int _ => false
    | _ => true
  | _ => true
theorem Gs.keep {a l b : Addr} {H H' : Hp} {n : Nat} {o : HO} (g : Gs a l H H') (p : Spr H a l n) (h : H b = some o) (ok : okO o = true) : H' b = some o := by
  obtain ⟨ne, cs, cur, mix, h1, h2, _, _⟩ := p
  refine g.s b o h (fun z => ?_) (fun z => ?_)
  · rw [z, h1] at h
    rw [← Option.some.inj h] at ok
    cases ok
  · rw [z, h2] at h
    rw [← Option.some.inj h] at ok ⊢
    cases cs with
    | nil => rfl
    | cons c cs => cases ok
theorem ok_strs (xs : List Str) : okO (.lst (xs.map V.str)) = true := by
  show (xs.map V.str).all _ = true
  rw [List.all_map]
  exact List.all_eq_true.mpr fun x _ => rfl
theorem ok_refs (xs : List Addr) : okO (.lst (xs.map V.ref)) = true := by
  show (xs.map V.ref).all _ = true
  rw [List.all_map]
  exact List.all_eq_true.mpr fun x _ => rfl
theorem HouseAt.gs {a l : Addr} {n : Nat} {H H' : Hp} {C h : Addr} {rs : List Str} {ds : List Ed} (hh : HouseAt H C h rs ds) (p : Spr H a l n) (g : Gs a l H H') : HouseAt H' C h rs ds := by
  obtain ⟨dx, ra, da, na, ts, h1, h2, h3, h4, nf, h5, h6⟩ := hh.at_
  exact ⟨dx, ra, da, na, ts, g.keep p h1 rfl, g.keep p h2 (ok_strs _), g.keep p h3 (ok_refs _), Paired.imp (fun _ _ e => g.keep p e rfl) h4, nf, g.keep p h5 rfl, fun r hr => g.keep p (h6 r hr) (ok_strs _)⟩
theorem TupsAt.gs {a l : Addr} {n : Nat} {H H' : Hp} {ts : List Addr} {es : List Ed} (h : TupsAt H ts es) (p : Spr H a l n) (g : Gs a l H H') : TupsAt H' ts es := Paired.imp (fun _ _ e => g.keep p e rfl) h
/-! ### one order alone is sorted -/
theorem rises_all : ∀ {l : List Str} {p : Str}, risingS p l = true → (∀ x ∈ l, ¬ (x.cps.toList < p.cps.toList)) ∧ sortedS l = true
  | [], p, _ => ⟨fun x h => (by cases h), rfl⟩
  | x :: l, p, h => by
    have h' : (!ltCps x.cps.toList p.cps.toList && risingS x l) = true := h
    rw [Bool.and_eq_true] at h'
    obtain ⟨h1, h2⟩ := h'
    have n1 : ¬ (x.cps.toList < p.cps.toList) := by
      rw [ltCps_eq] at h1
      simpa using h1
    have ih := rises_all h2
    refine ⟨fun y hy => ?_, h2⟩
    rcases List.mem_cons.mp hy with rfl | hy
    · exact n1
    · have n2 := ih.1 y hy
      exact fun z => n1 (List.lt_of_le_of_lt (List.not_lt.mp n2) z)
theorem str_eq {x y : Str} (h1 : ¬ (x.cps.toList < y.cps.toList)) (h2 : ¬ (y.cps.toList < x.cps.toList)) : x = y := by
  have e : x.cps.toList = y.cps.toList := List.le_antisymm (List.not_lt.mp h2) (List.not_lt.mp h1)
  cases x
  cases y
  congr 1
  exact Array.toList_inj.mp e
theorem sorted_one : ∀ {xs ys : List Str}, xs.Perm ys → sortedS xs = true → sortedS ys = true → xs = ys
  | [], ys, p, _, _ => p.nil_eq
  | x :: xs, [], p, _, _ => absurd p.length_eq (by simp)
  | x :: xs, y :: ys, p, hx, hy => by
    obtain ⟨a1, a2⟩ := rises_all (p := x) (l := xs) hx
    obtain ⟨b1, b2⟩ := rises_all (p := y) (l := ys) hy
    have e : x = y := by
      have m1 : x ∈ y :: ys := p.mem_iff.mp List.mem_cons_self
      have m2 : y ∈ x :: xs := p.mem_iff.mpr List.mem_cons_self
      rcases List.mem_cons.mp m1 with z | z
      · exact z
      · rcases List.mem_cons.mp m2 with u | u
        · exact u.symm
        · exact str_eq (b1 x z) (a1 y u)
    subst e
    rw [sorted_one p.cons_inv a2 b2]
end Lamp
set_option maxHeartbeats 8000000
namespace Lamp
open PySem PySem.Spec PyProof.Rows L2
/-! ### _law_pick, _law_h_names -/
def spPick : Sp := fun vs H Q _ => ∃ (a l p : Addr) (n : Nat) (xs : List Str), vs = [.ref a, .ref p] ∧ Spr H a l n ∧ H p = some (.lst (xs.map V.str)) ∧ xs ≠ [] ∧ n ≤ 1000000 ∧ xs.length < 1000000 ∧
  ∀ H' x, x ∈ xs → Gs a l H H' → Spr H' a l (n + 1) → Q (.str x) H'
/-- the law's names -/
def gNames : List Str := ["b", "aa", "c1", "hall", "z9", "a", "m3", "abcdefghijk1", "attic", "no", "q7", "cellar"]
theorem names_ok : (gNames.all fun r => nameOk r) = true := by decide +kernel
theorem names_unlike : gNames.Nodup := by decide +kernel
def spNames : Sp := fun vs H Q _ => ∃ (a l : Addr) (n m : Nat), vs = [.ref a, .int (m : Nat)] ∧ Spr H a l n ∧ n ≤ 900000 ∧ 1 ≤ m ∧ m ≤ 12 ∧
  ∀ H' q (rs : List Str), rs.length = m → rs.Nodup → (∀ r ∈ rs, nameOk r = true) → Gs a l H H' → Spr H' a l (n + 12) → H q = none → H' q = some (.lst (rs.map V.str)) → Q (.ref q) H'
theorem perm_strs {xs : List Str} {ys : List V} (p : ys.Perm (xs.map V.str)) : ∃ zs : List Str, ys = zs.map V.str ∧ zs.Perm xs := by
  have all : ∀ y ∈ ys, ∃ x, y = V.str x := fun y hy => by
    obtain ⟨x, _, e⟩ := List.mem_map.mp (p.mem_iff.mp hy)
    exact ⟨x, e.symm⟩
  have get : ∀ {ys : List V}, (∀ y ∈ ys, ∃ x, y = V.str x) → ∃ zs : List Str, ys = zs.map V.str := fun {ys} h => by
    induction ys with
    | nil => exact ⟨[], rfl⟩
    | cons y ys ih =>
      obtain ⟨x, rfl⟩ := h y List.mem_cons_self
      obtain ⟨zs, rfl⟩ := ih fun z hz => h z (List.mem_cons_of_mem _ hz)
      exact ⟨x :: zs, rfl⟩
  obtain ⟨zs, rfl⟩ := get all
  refine ⟨zs, rfl, ?_⟩
  have q := p.filterMap fun v => match v with
    | .str x => some x
    | _ => none
  rw [List.filterMap_map, List.filterMap_map] at q
  have e : ∀ l : List Str, List.filterMap ((fun v : V => match v with
    | .str x => some x
    | _ => none) ∘ V.str) l = l := fun l => by
    induction l with
    | nil => rfl
    | cons x l ih =>
      rw [List.filterMap_cons]
      show x :: _ = x :: l
      rw [ih]
  rw [e, e] at q
  exact q
section
variable {P : Program} {w : World} {K : PySem.W.Frag} {mg : Str → Option Value} {base : Heap} {C : Addr}
theorem scPk : FnScope ["stream", "some"] ["stream", "some"] (defScope s_law_pick) := ⟨rfl, rfl, rfl, by decide +kernel, rfl, by decide +kernel, by decide +kernel⟩
theorem ok_pick {f : Addr} {fd : FuncData} (F : Fun K "_law_pick" "_law_pick" s_law_pick f fd) (T : TxtS mg) (DO : Stands P w K mg base 1 "_law_draw" ["stream", "many"] spDraw) : FnOk P w K mg base CX0 2 f fd ["stream", "some"] spPick := by
  obtain ⟨fD, dD, GD, mD, kD, bD⟩ := DO
  refine F.ok scPk (fun vs H Q E h => ?_) (fun cdv A outer s H vs Q E hr h => ?_)
  · obtain ⟨a, l, p, n, xs, rfl, _⟩ := h
    rfl
  · obtain ⟨a, l, p, n, xs, rfl, hS, hp, ne, hn, hl, k⟩ := h
    refine ⟨_, pss_one (ps_ret (pe_ix ix_list (pv 1) (pe_call GD (hr.mono (by decide)) (by rfl) mD kD bD .nil pass0 (pa_cons (pv 0) (pa_cons (pe_callB call_len_seq (by rfl) T.len PySem.boot_len (pa_cons (pv 1) pa_nil)) pa_nil))) (fun _ _ => rfl))), ?_⟩
    have pos := List.length_pos_iff.mpr ne
    refine ⟨_, rfl, _, rfl, _, rfl, p, _, rfl, .inl (SqL.of hp), a, l, n, _, rfl, hS, hn, (by rw [List.length_map]; omega), (by rw [List.length_map]; omega), fun H' d sb s2 d0 d1 => ?_⟩
    have g : Gs a l H H' := Gs.of sb s2
    rw [List.length_map] at d1
    obtain ⟨i, rfl⟩ : ∃ i : Nat, d = (i : Int) := ⟨d.toNat, by omega⟩
    have hi : i < xs.length := by omega
    refine ⟨p, _, _, .str xs[i], rfl, rfl, SqL.of (g.keep hS hp (ok_strs _)), atI_nat (j := i) (by rw [List.getElem?_map, List.getElem?_eq_getElem hi]; rfl), ?_⟩
    exact k H' xs[i] (List.getElem_mem hi) g s2
theorem scHm : FnScope ["stream", "many", "some"] ["stream", "many"] (defScope s_law_h_names) := ⟨rfl, rfl, rfl, by decide +kernel, rfl, by decide +kernel, by decide +kernel⟩
theorem ok_names {f : Addr} {fd : FuncData} (F : Fun K "_law_h_names" "_law_h_names" s_law_h_names f fd) (MO : Stands P w K mg base 2 "_law_mixed" ["stream", "some"] (spMixed K)) : FnOk P w K mg base CX0 3 f fd ["stream", "many"] spNames := by
  obtain ⟨fM, dM, GM, mM, kM, bM⟩ := MO
  refine F.ok scHm (fun vs H Q E h => ?_) (fun cdv A outer s H vs Q E hr h => ?_)
  · obtain ⟨a, l, n, m, rfl, _⟩ := h
    rfl
  · obtain ⟨a, l, n, m, rfl, hS, hn, h1, h2, k⟩ := h
    refine ⟨_, pss_cons (ps_set (i := 2) scHm.nd rfl (Or.inl rfl) (pe_lst (pa_cons pe_str (pa_cons pe_str (pa_cons pe_str (pa_cons pe_str (pa_cons pe_str (pa_cons pe_str (pa_cons pe_str (pa_cons pe_str (pa_cons pe_str (pa_cons pe_str (pa_cons pe_str (pa_cons pe_str pa_nil))))))))))))))
      (pss_one (ps_ret (pe_slice sl_list (pe_call GM hr (by rfl) mM kM bM .nil pass0 (pa_cons (pv 0) (pa_cons (pv 2) pa_nil))) po_none (po_some (pv 1))))), ?_⟩
    refine ⟨(by show 12 ≤ sizeLine; decide), fun p hp => ?_⟩
    have g1 : Gr H (upd H p (.lst (gNames.map V.str))) := Gr.upd hp
    refine ⟨_, rfl, _, rfl, a, l, p, n, gNames.map V.str, rfl, hS.stay g1.s, .inl (SqL.of upd_same), (by show n + 12 ≤ 1000000; omega), (by decide), fun H2 q ys sb s2 nq e2 py => ?_⟩
    obtain ⟨zs, rfl, pz⟩ := perm_strs py
    have g2 : Gs a l (upd H p (.lst (gNames.map V.str))) H2 := Gs.of sb s2
    refine ⟨_, rfl, _, rfl, q, _, rfl, SqL.of e2, fun r nr => ?_⟩
    have ln : zs.length = 12 := pz.length_eq
    have ec : cutV (zs.map V.str) none (some ((m : Nat) : Int)) = (zs.take m).map V.str := by
      unfold cutV
      rw [HT.sIx_nat, HT.sIx_none, List.drop_zero, Nat.sub_zero, List.length_map, ln, Nat.min_eq_left h2, List.map_take]
    rw [ec]
    have g3 : Gs a l H2 (upd H2 r (.lst ((zs.take m).map V.str))) := (Gr.upd nr).gs
    refine k _ r (zs.take m) (by rw [List.length_take, ln]; omega) (List.Nodup.sublist (List.take_sublist _ _) (pz.nodup_iff.mpr names_unlike)) (fun x hx => List.all_eq_true.mp names_ok x (pz.mem_iff.mp (List.mem_of_mem_take hx))) ((g1.gs.trans g2).trans g3) ((s2.stay (same_upd nr))) (g1.n _ (g2.n _ nr)) upd_same
end
end Lamp
set_option maxHeartbeats 8000000
namespace Lamp
open PySem PySem.Spec PyProof.Rows L2
/-! ### _law_h_doors -/
structure TxtMx (mg : Str → Option Value) : Prop where
  max : mg "max" = none
def spHDoors : Sp := fun vs H Q _ => ∃ (a l p : Addr) (n : Nat) (rs : List Str), vs = [.ref a, .ref p] ∧ Spr H a l n ∧ H p = some (.lst (rs.map V.str)) ∧ rs ≠ [] ∧ rs.length ≤ 12 ∧ rs.Nodup ∧ n ≤ 900000 ∧
  ∀ H' q ts es es0 m, m ≤ n + 60 → Tree rs es0 → es.Perm es0 → TupsAt H' ts es → H' q = some (.lst (ts.map V.ref)) → Gs a l H H' → Spr H' a l m → H q = none → Q (.ref q) H'
theorem perm_refs {xs : List Addr} {ys : List V} (p : ys.Perm (xs.map V.ref)) : ∃ zs : List Addr, ys = zs.map V.ref ∧ zs.Perm xs := by
  have all : ∀ y ∈ ys, ∃ x, y = V.ref x := fun y hy => by
    obtain ⟨x, _, e⟩ := List.mem_map.mp (p.mem_iff.mp hy)
    exact ⟨x, e.symm⟩
  have get : ∀ {ys : List V}, (∀ y ∈ ys, ∃ x, y = V.ref x) → ∃ zs : List Addr, ys = zs.map V.ref := fun {ys} h => by
    induction ys with
    | nil => exact ⟨[], rfl⟩
    | cons y ys ih =>
      obtain ⟨x, rfl⟩ := h y List.mem_cons_self
      obtain ⟨zs, rfl⟩ := ih fun z hz => h z (List.mem_cons_of_mem _ hz)
      exact ⟨x :: zs, rfl⟩
  obtain ⟨zs, rfl⟩ := get all
  refine ⟨zs, rfl, ?_⟩
  have q := p.filterMap fun v => match v with
    | .ref x => some x
    | _ => none
  rw [List.filterMap_map, List.filterMap_map] at q
  have e : ∀ l : List Addr, List.filterMap ((fun v : V => match v with
    | .ref x => some x
    | _ => none) ∘ V.ref) l = l := fun l => by
    induction l with
    | nil => rfl
    | cons x l ih =>
      rw [List.filterMap_cons]
      show x :: _ = x :: l
      rw [ih]
  rw [e, e] at q
  exact q
theorem tree_len {rs : List Str} {es : List Ed} (t : Tree rs es) : es.length + 1 = rs.length := by
  induction t with
  | one r => rfl
  | grow t _ _ _ ih => rw [List.length_append, List.length_append, List.length_singleton, List.length_singleton, ih]
/-- where the next door leads -/
theorem pick_at {k d2 d3 j : Nat} (h : 1 ≤ k) (h2 : d2 < k) (h3 : d3 < 2) (hj : j < 4) : ∃ i : Nat, i < k ∧ atI [V.int ((k : Int) - 1), V.int 0, V.int (d2 : Int), V.int (if (k : Int) - 1 - (d3 : Int) > 0 then (k : Int) - 1 - (d3 : Int) else 0)] ((j : Nat) : Int) = some (V.int (i : Nat)) := by
  have go : ∀ {x : V}, ([V.int ((k : Int) - 1), V.int 0, V.int (d2 : Int), V.int (if (k : Int) - 1 - (d3 : Int) > 0 then (k : Int) - 1 - (d3 : Int) else 0)] : List V)[j]? = some x → atI [V.int ((k : Int) - 1), V.int 0, V.int (d2 : Int), V.int (if (k : Int) - 1 - (d3 : Int) > 0 then (k : Int) - 1 - (d3 : Int) else 0)] ((j : Nat) : Int) = some x := fun e => atI_nat e
  rcases j with _ | _ | _ | _ | j
  · exact ⟨k - 1, by omega, go (by show some (V.int _) = some (V.int _); congr 2; omega)⟩
  · exact ⟨0, by omega, go rfl⟩
  · exact ⟨d2, h2, go rfl⟩
  · refine ⟨k - 1 - d3, by omega, go ?_⟩
    show some (V.int _) = some (V.int _)
    congr 2
    split <;> omega
  · omega
section
variable {P : Program} {w : World} {K : PySem.W.Frag} {mg : Str → Option Value} {base : Heap} {C : Addr}
abbrev NHd : List Str := ["stream", "rooms", "shape", "found", "k", "at", "pair"]
theorem scHd : FnScope NHd ["stream", "rooms"] (defScope s_law_h_doors) := ⟨rfl, rfl, rfl, by decide +kernel, rfl, by decide +kernel, by decide +kernel⟩
theorem ok_hdoors {f : Addr} {fd : FuncData} (F : Fun K "_law_h_doors" "_law_h_doors" s_law_h_doors f fd) (T : TxtS mg) (TM : TxtMx mg) (DO : Stands P w K mg base 1 "_law_draw" ["stream", "many"] spDraw) (MO : Stands P w K mg base 2 "_law_mixed" ["stream", "some"] (spMixed K)) : FnOk P w K mg base CX0 3 f fd ["stream", "rooms"] spHDoors := by
  obtain ⟨fM, dM, GM, mM, kM, bM⟩ := MO
  obtain ⟨fD, dD, GD, mD, kD, bD⟩ := DO
  refine F.ok scHd (fun vs H Q E h => ?_) (fun cdv A outer s H vs Q E hr h => ?_)
  · obtain ⟨a, l, p, n, rs, rfl, _⟩ := h
    rfl
  · obtain ⟨a, l, p, n, rs, rfl, hS, hp, ne, hl, nd, hn, k⟩ := h
    refine ⟨_, pss_cons (ps_par (i := 2) (j := 3) (by rfl) scHd.nd rfl rfl (by decide) rfl rfl (pa_cons (pe_call GD (hr.mono (by decide)) (by rfl) mD kD bD .nil pass0 (pa_cons (pv 0) (pa_cons pe_int pa_nil))) (pa_cons (pe_lst pa_nil) pa_nil)) (by rfl))
      (pss_cons (ps_for PassesOwn.never rfl (pi_range2 (by rfl) T.range (pa_cons pe_int (pa_cons (pe_callB call_len_seq (by rfl) T.len PySem.boot_len (pa_cons (pv 1) pa_nil)) pa_nil))) (pg_name (i := 4) scHd.nd rfl (Or.inl rfl))
        (pss_cons (ps_set (i := 5) scHd.nd rfl (Or.inl rfl) (pe_ix ix_list (pe_lst (pa_cons (pe_op op_sub (pv 4) pe_int) (pa_cons pe_int (pa_cons (pe_call GD (hr.mono (by decide)) (by rfl) mD kD bD .nil pass0 (pa_cons (pv 0) (pa_cons (pv 4) pa_nil))) (pa_cons (pe_callB (call_max2 rfl) (by rfl) TM.max PyProof.Rows.boot_max (pa_cons pe_int (pa_cons (pe_op op_sub (pe_op op_sub (pv 4) pe_int) (pe_call GD (hr.mono (by decide)) (by rfl) mD kD bD .nil pass0 (pa_cons (pv 0) (pa_cons pe_int pa_nil)))) pa_nil))) pa_nil))))) (pv 2) (fun _ _ => rfl)))
        (pss_cons (ps_set (i := 6) scHd.nd rfl (Or.inl rfl) (pe_tup (pa_cons (pe_ix ix_list (pv 1) (pv 5) (fun _ _ => rfl)) (pa_cons (pe_ix ix_list (pv 1) (pv 4) (fun _ _ => rfl)) pa_nil))))
        (pss_one (ps_expr (pe_bm PySem.F.plainAttrs_list PySem.F.slot_list_append PySem.F.type_list_append mt_append (pv 3) (pa_cons (pe_ifExp (pt_cmpR op_eq (pe_call GD (hr.mono (by decide)) (by rfl) mD kD bD .nil pass0 (pa_cons (pv 0) (pa_cons pe_int pa_nil))) pe_int (nomark _)) (pv 6) (pe_turn (pv 6))) pa_nil) (by rfl) (by rfl)))))))
      (pss_one (ps_ret (pe_call GM (hr.mono (by decide)) (by rfl) mM kM bM .nil pass0 (pa_cons (pv 0) (pa_cons (pv 3) pa_nil)))))), ?_⟩
    have pos := List.length_pos_iff.mpr ne
    refine ⟨_, rfl, a, l, n, 4, rfl, hS, by omega, by omega, by omega, fun H1 sh sb1 s1 sh0 sh1 => ?_⟩
    obtain ⟨j, rfl⟩ : ∃ j : Nat, sh = (j : Int) := ⟨sh.toNat, by omega⟩
    have g1 : Gs a l H H1 := Gs.of sb1 s1
    refine ⟨(by show 0 ≤ sizeLine; exact Nat.zero_le _), fun D hD => ?_⟩
    have DN : H D = none := g1.n _ hD
    refine ⟨_, _, rfl, ?_⟩
    have g2 : Gs a l H1 (upd H1 D (.lst [])) := (Gr.upd hD).gs
    have s2 : Spr (upd H1 D (.lst [])) a l (n + 1) := s1.stay (same_upd hD)
    have hp2 := (g1.trans g2).keep hS hp (ok_strs _)
    refine ⟨_, rfl, p, _, rfl, .inl (SqL.of hp2), 1, _, rfl, ⟨by decide, by decide, by rw [List.length_map]; omega, by rw [List.length_map]; omega⟩, ?_⟩
    rw [List.length_map]
    refine for_range (lo := 1) (n := ((rs.length : Int) - 1).toNat) (fun i σ' H' => ∃ (v4 v5 v6 : Option V) (ts : List Addr) (es : List Ed), σ' = [some (.ref a), some (.ref p), some (.int (j : Int)), some (.ref D), v4, v5, v6] ∧ Tree (rs.take (i + 1)) es ∧ H' D = some (.lst (ts.map V.ref)) ∧ TupsAt H' ts es ∧ Gs a l H H' ∧ Spr H' a l (n + 1 + 3 * i)) ?_ ?_ ?_
    · refine ⟨_, _, _, [], [], rfl, ?_, upd_same, .nil, g1.trans g2, s2⟩
      cases rs with
      | nil => exact absurd rfl ne
      | cons r rs => exact .one r
    · rintro i σ' H2 hi ⟨v4, v5, v6, ts, es, rfl, tr, q1, q2, q3, q4⟩
      have hi2 : i + 1 < rs.length := by omega
      obtain ⟨kk, ek⟩ : ∃ kk : Nat, kk = i + 1 := ⟨_, rfl⟩
      have ei : (1 : Int) + (i : Int) = (kk : Int) := by omega
      rw [ei]
      refine ⟨_, rfl, _, _, rfl, rfl, ?_⟩
      refine ⟨_, rfl, _, rfl, a, l, n + 1 + 3 * i, _, rfl, q4, by omega, by omega, by omega, fun H3 d2 sb3 s3 d20 d21 => ?_⟩
      have g3 : Gs a l H2 H3 := Gs.of sb3 s3
      refine ⟨_, rfl, _, _, rfl, rfl, ?_⟩
      refine ⟨_, rfl, a, l, n + 1 + 3 * i + 1, 2, rfl, s3, by omega, by omega, by omega, fun H4 d3 sb4 s4 d30 d31 => ?_⟩
      have g4 : Gs a l H3 H4 := Gs.of sb4 s4
      obtain ⟨d2, rfl⟩ : ∃ j : Nat, d2 = (j : Int) := ⟨d2.toNat, by omega⟩
      obtain ⟨d3, rfl⟩ : ∃ j : Nat, d3 = (j : Int) := ⟨d3.toNat, by omega⟩
      refine ⟨_, _, rfl, rfl, _, _, rfl, (by show 4 ≤ sizeLine; decide), fun L hL => ?_⟩
      have g5 : Gs a l H2 (upd H4 L (.lst [V.int ((kk : Int) - 1), V.int 0, V.int (d2 : Int), V.int (if (kk : Int) - 1 - (d3 : Int) > 0 then (kk : Int) - 1 - (d3 : Int) else 0)])) := (g3.trans g4).trans (Gr.upd hL).gs
      have s5 := s4.stay (same_upd (o := .lst [V.int ((kk : Int) - 1), V.int 0, V.int (d2 : Int), V.int (if (kk : Int) - 1 - (d3 : Int) > 0 then (kk : Int) - 1 - (d3 : Int) else 0)]) hL)
      obtain ⟨x, hx, ex⟩ := pick_at (k := kk) (d2 := d2) (d3 := d3) (j := j) (by omega) (by omega) (by omega) (by omega)
      refine ⟨_, rfl, L, _, _, _, rfl, rfl, SqL.of upd_same, ex, ?_⟩
      generalize eH5 : upd H4 L (.lst [V.int ((kk : Int) - 1), V.int 0, V.int (d2 : Int), V.int (if (kk : Int) - 1 - (d3 : Int) > 0 then (kk : Int) - 1 - (d3 : Int) else 0)]) = H5 at g5 s5
      have q35 := q3.trans g5
      have hp5 := q35.keep hS hp (ok_strs _)
      have hxr : x < rs.length := by omega
      have hkr : kk < rs.length := by omega
      refine ⟨_, rfl, _, rfl, p, _, _, .str rs[x], rfl, rfl, SqL.of hp5, atI_nat (j := x) (by rw [List.getElem?_map, List.getElem?_eq_getElem hxr]; rfl), ?_⟩
      refine ⟨_, rfl, _, rfl, p, _, _, .str rs[kk], rfl, rfl, SqL.of hp5, atI_nat (j := kk) (by rw [List.getElem?_map, List.getElem?_eq_getElem hkr]; rfl), ?_⟩
      refine ⟨(by show 2 ≤ sizeLine; decide), fun t ht => ?_⟩
      have g6 : Gs a l H2 (upd H5 t (.tup [.str rs[x], .str rs[kk]])) := g5.trans (Gr.upd ht).gs
      have s6 := s5.stay (same_upd (o := .tup [.str rs[x], .str rs[kk]]) ht)
      have q6 := g6.keep q4 q1 (ok_refs _)
      refine ⟨_, rfl, .inl ⟨rfl, _, SqL.of q6⟩, ?_⟩
      refine ⟨_, rfl, a, l, n + 1 + 3 * i + 2, 2, rfl, s6, by omega, by omega, by omega, fun H7 d7 sb7 s7 d70 d71 => ?_⟩
      have g7 : Gs a l H2 H7 := g6.trans (Gs.of sb7 s7)
      have g67 : Gs a l (upd H5 t (.tup [.str rs[x], .str rs[kk]])) H7 := Gs.of sb7 s7
      have t7 : H7 t = some (.tup [.str rs[x], .str rs[kk]]) := g67.keep s6 upd_same rfl
      have tk : rs.take (i + 1 + 1) = rs.take (i + 1) ++ [rs[kk]] := by
        subst ek
        exact (List.take_append_getElem hi2).symm
      have mx : rs[x] ∈ rs.take (i + 1) := List.mem_take_iff_getElem.mpr ⟨x, by omega, rfl⟩
      have nk : rs[kk] ∉ rs.take (i + 1) := by
        subst ek
        exact take_not nd hi2
      have few : (ts.map V.ref).length < sizeLine := by
        rw [List.length_map, paired_len q2]
        have := tree_len tr
        rw [List.length_take] at this
        exact Nat.lt_of_lt_of_le (show es.length < 100 by omega) (by decide)
      have Da := s1.na hD
      have Dl := s1.nl hD
      have en : n + 1 + 3 * (i + 1) = n + 1 + 3 * i + 3 := by omega
      have done : ∀ (H8 : Hp) (y : Addr) (e : Ed), Gs a l H2 H8 → H8 y = some (.tup [.str e.1, .str e.2]) → Spr H8 a l (n + 1 + 3 * i + 3) → (e = (rs[x], rs[kk]) ∨ e = (rs[kk], rs[x])) →
          ∃ (v4 v5 v6 : Option V) (us : List Addr) (es : List Ed), [some (V.ref a), some (.ref p), some (.int (j : Int)), some (.ref D), some (.int (kk : Int)), some (.int (x : Nat)), some (.ref t)] = [some (.ref a), some (.ref p), some (.int (j : Int)), some (.ref D), v4, v5, v6] ∧ Tree (rs.take (i + 1 + 1)) es ∧ upd H8 D (.lst (ts.map V.ref ++ [.ref y])) D = some (.lst (us.map V.ref)) ∧ TupsAt (upd H8 D (.lst (ts.map V.ref ++ [.ref y]))) us es ∧ Gs a l H (upd H8 D (.lst (ts.map V.ref ++ [.ref y]))) ∧ Spr (upd H8 D (.lst (ts.map V.ref ++ [.ref y]))) a l (n + 1 + 3 * (i + 1)) := fun H8 y e g8 ey s8 he => by
        have qD := g8.keep q4 q1 (ok_refs _)
        refine ⟨_, _, _, ts ++ [y], es ++ [e], rfl, ?_, ?_, ?_, (q3.trans g8).put DN, ?_⟩
        · rw [tk]
          exact .grow tr mx nk he
        · rw [upd_same, List.map_append]
          rfl
        · have r2 := paired_snoc (R := fun (t : Addr) (e : Ed) => H8 t = some (.tup [.str e.1, .str e.2])) (a := y) (b := e) ey (TupsAt.gs q2 q4 g8)
          refine Paired.imp (fun t e h => ?_) r2
          have nt : t ≠ D := ne_of h qD (by intro z; cases z)
          rw [upd_ne nt]
          exact h
        · rw [en]
          exact s8.updN Da Dl
      refine ⟨rfl, _, rfl, ?_⟩
      refine ite2 (fun _ => ?_) (fun _ => ?_)
      · exact ⟨_, rfl, D, _, _, rfl, rfl, g7.keep q4 q1 (ok_refs _), few, done H7 t (rs[x], rs[kk]) g7 t7 s7 (.inl rfl)⟩
      · refine ⟨_, rfl, t, _, _, rfl, t7, fun u nu => ?_⟩
        have g8 := g7.trans (Gr.upd (o := .tup [.str rs[kk], .str rs[x]]) nu).gs
        exact ⟨D, _, _, rfl, rfl, g8.keep q4 q1 (ok_refs _), few, done _ u (rs[kk], rs[x]) g8 upd_same (s7.stay (same_upd nu)) (.inr rfl)⟩
    · rintro σ' H2 ⟨v4, v5, v6, ts, es, rfl, tr, q1, q2, q3, q4⟩
      have el : ((rs.length : Int) - 1).toNat = rs.length - 1 := by omega
      rw [el] at tr q4
      rw [Nat.sub_add_cancel pos, List.take_length] at tr
      have le := tree_len tr
      have lts := paired_len q2
      refine ⟨_, rfl, _, rfl, a, l, D, _, ts.map V.ref, rfl, q4, .inl (SqL.of q1), (by rw [List.length_map]; omega), (by rw [List.length_map]; omega), fun H3 q ys sb3 s3 nq e3 py => ?_⟩
      obtain ⟨us, rfl, pu⟩ := perm_refs py
      have g3 : Gs a l H2 H3 := Gs.of sb3 s3
      obtain ⟨es', pe, pr⟩ := paired_permL pu.symm (TupsAt.gs q2 q4 g3)
      refine k H3 q us es' es _ ?_ tr pe.symm pr e3 (q3.trans g3) s3 (q3.n _ nq)
      rw [List.length_map]
      omega
end
end Lamp
set_option maxHeartbeats 8000000
namespace Lamp
open PySem PySem.Spec PyProof.Rows L2
/-! ### _law_h_house, _law_h_beside -/
theorem tree_good {rs : List Str} {es : List Ed} (t : Tree rs es) (l : rs.length ≤ 12) : GoodH rs es := by
  have le := tree_len t
  refine ⟨t.nodup, fun z => ?_, by omega, by omega, t.ends, t.joined, t.noring⟩
  rw [z] at le
  cases le
theorem nrm_refl : ∀ es : List Ed, Paired Nrm es es
  | [] => .nil
  | e :: es => .cons (.inl rfl) (nrm_refl es)
def spHHouse : Sp := fun vs H Q _ => ∃ (a l : Addr) (n : Nat) (m : Nat), vs = [.ref a, .int (m : Nat)] ∧ Spr H a l n ∧ 1 ≤ m ∧ m ≤ 12 ∧ n ≤ 800000 ∧
  ∀ H' t p q (rs : List Str) ts es k, k ≤ n + 100 → rs.length ≤ 12 → es.length < 30 → GoodH rs es → (∀ r ∈ rs, nameOk r = true) → H' p = some (.lst (rs.map V.str)) → TupsAt H' ts es → H' q = some (.lst (ts.map V.ref)) → H' t = some (.tup [.ref p, .ref q]) → Gs a l H H' → Spr H' a l k → Q (.ref t) H'
def spBesideM : Sp := fun vs H Q _ => ∃ (q : Addr) (r : Str) (ts : List Addr) (es : List Ed), vs = [.ref q, .str r] ∧ H q = some (.lst (ts.map V.ref)) ∧ TupsAt H ts es ∧ es.length < 30 ∧
  ∀ H' p (ys : List Str), (∀ o, o ∈ ys ↔ ((r, o) ∈ es ∨ (o, r) ∈ es)) → ys.length < 64 → Gr H H' → H p = none → H' p = some (.lst (ys.map V.str)) → Q (.ref p) H'
/-- behind the doors from r -/
def outs (r : Str) (es : List Ed) : List Str := es.filterMap fun e => if e.1 = r then some e.2 else none
def ins_ (r : Str) (es : List Ed) : List Str := es.filterMap fun e => if e.2 = r then some e.1 else none
theorem outs_mem {r o : Str} {es : List Ed} (h : o ∈ outs r es) : (r, o) ∈ es := by
  obtain ⟨e, he, z⟩ := List.mem_filterMap.mp h
  by_cases q : e.1 = r
  · rw [if_pos q] at z
    obtain rfl := Option.some.inj z
    subst q
    exact he
  · rw [if_neg q] at z
    cases z
theorem ins_mem {r o : Str} {es : List Ed} (h : o ∈ ins_ r es) : (o, r) ∈ es := by
  obtain ⟨e, he, z⟩ := List.mem_filterMap.mp h
  by_cases q : e.2 = r
  · rw [if_pos q] at z
    obtain rfl := Option.some.inj z
    subst q
    exact he
  · rw [if_neg q] at z
    cases z
section
variable {P : Program} {w : World} {K : PySem.W.Frag} {mg : Str → Option Value} {base : Heap} {C : Addr}
theorem scHH : FnScope ["stream", "most", "rooms"] ["stream", "most"] (defScope s_law_h_house) := ⟨rfl, rfl, rfl, by decide +kernel, rfl, by decide +kernel, by decide +kernel⟩
theorem ok_hhouse {f : Addr} {fd : FuncData} (F : Fun K "_law_h_house" "_law_h_house" s_law_h_house f fd) (DO : Stands P w K mg base 1 "_law_draw" ["stream", "many"] spDraw) (MO : Stands P w K mg base 2 "_law_mixed" ["stream", "some"] (spMixed K)) (NO : Stands P w K mg base 3 "_law_h_names" ["stream", "many"] spNames) (EO : Stands P w K mg base 3 "_law_h_doors" ["stream", "rooms"] spHDoors) : FnOk P w K mg base CX0 4 f fd ["stream", "most"] spHHouse := by
  obtain ⟨fM, dM, GM, mM, kM, bM⟩ := MO
  obtain ⟨fD, dD, GD, mD, kD, bD⟩ := DO
  obtain ⟨fN, dN, GN, mN, kN, bN⟩ := NO
  obtain ⟨fE, dE, GE, mE, kE, bE⟩ := EO
  refine F.ok scHH (fun vs H Q E h => ?_) (fun cdv A outer s H vs Q E hr h => ?_)
  · obtain ⟨a, l, n, m, rfl, _⟩ := h
    rfl
  · obtain ⟨a, l, n, m, rfl, hS, m1, m2, hn, k⟩ := h
    refine ⟨_, pss_cons (ps_set (i := 2) scHH.nd rfl (Or.inl rfl) (pe_call GN hr (by rfl) mN kN bN .nil pass0 (pa_cons (pv 0) (pa_cons (pe_op op_add pe_int (pe_call GD (hr.mono (by decide)) (by rfl) mD kD bD .nil pass0 (pa_cons (pv 0) (pa_cons (pv 1) pa_nil)))) pa_nil))))
      (pss_one (ps_ret (pe_tup (pa_cons (pe_call GM (hr.mono (by decide)) (by rfl) mM kM bM .nil pass0 (pa_cons (pv 0) (pa_cons (pv 2) pa_nil))) (pa_cons (pe_call GE hr (by rfl) mE kE bE .nil pass0 (pa_cons (pv 0) (pa_cons (pv 2) pa_nil))) pa_nil))))), ?_⟩
    refine ⟨_, rfl, _, rfl, _, rfl, a, l, n, _, rfl, hS, by omega, by omega, by omega, fun H1 d sb1 s1 d0 d1 => ?_⟩
    have g1 : Gs a l H H1 := Gs.of sb1 s1
    obtain ⟨j, rfl⟩ : ∃ j : Nat, d = (j : Int) := ⟨d.toNat, by omega⟩
    have ej : (1 : Int) + (j : Int) = ((1 + j : Nat) : Int) := by omega
    refine ⟨_, _, rfl, rfl, ?_⟩
    refine ⟨a, l, n + 1, 1 + j, by rw [← ej]; rfl, s1, by omega, by omega, by omega, fun H2 p rs lr nd ok g2 s2 np e2 => ?_⟩
    refine ⟨_, rfl, _, rfl, a, l, p, n + 1 + 12, rs.map V.str, rfl, s2, .inl (SqL.of e2), by rw [List.length_map]; omega, by rw [List.length_map]; omega, fun H3 q ys sb3 s3 nq e3 py => ?_⟩
    obtain ⟨zs, rfl, pz⟩ := perm_strs py
    rw [List.length_map] at s3
    have g3 : Gs a l H2 H3 := Gs.of sb3 s3
    have rne : rs ≠ [] := fun z => by
      rw [z] at lr
      simp at lr
      omega
    refine ⟨_, rfl, _, rfl, a, l, p, _, rs, rfl, s3, g3.keep s2 e2 (ok_strs _), rne, by omega, nd, by omega, fun H4 u ts es es0 k4 le4 tr pe te eu g4 s4 nu => ?_⟩
    refine ⟨(by show 2 ≤ sizeLine; decide), fun t nt => ?_⟩
    have g5 : Gs a l H4 (upd H4 t (.tup [.ref q, .ref u])) := (Gr.upd nt).gs
    have gd : GoodH zs es := (tree_good tr (by omega)).turn pz (nrm_refl es0) pe
    refine k _ t q u zs ts es k4 (by omega) (by rw [pz.length_eq]; omega) (by have := tree_len tr; rw [pe.length_eq]; omega) gd (fun r hr => ok r (pz.mem_iff.mp hr)) ?_ (TupsAt.gs te s4 g5) (g5.keep s4 eu (ok_refs _)) upd_same ((((g1.trans g2).trans g3).trans g4).trans g5) (s4.stay (same_upd nt))
    exact (g4.trans g5).keep s3 e3 (ok_strs _)
abbrev NHb : List Str := ["doors", "room", "found", "one", "other"]
theorem scHb : FnScope NHb ["doors", "room"] (defScope s_law_h_beside) := ⟨rfl, rfl, rfl, by decide +kernel, rfl, by decide +kernel, by decide +kernel⟩
theorem ok_besideM {f : Addr} {fd : FuncData} (F : Fun K "_law_h_beside" "_law_h_beside" s_law_h_beside f fd) (T : TxtK mg) : FnOk P w K mg base CX0 1 f fd ["doors", "room"] spBesideM := by
  refine F.ok scHb (fun vs H Q E h => ?_) (fun cdv A outer s H vs Q E hr h => ?_)
  · obtain ⟨q, r, ts, es, rfl, _⟩ := h
    rfl
  · obtain ⟨q, r, ts, es, rfl, hq, ht, hl, k⟩ := h
    refine ⟨_, pss_cons (ps_set (i := 2) scHb.nd rfl (Or.inl rfl) (pe_op op_cat
        (pe_lc (te := tVar 4) (own := [("one", 3), ("other", 4)]) (g := gTup K 2 (gCons (gName 3) (gCons (gName 4) gNil))) (tt := tTest (tOp rEq (tVar 3) (tVar 1))) rfl scHb.nd (pi_list (pv 0)) (blkOk_by (N := NHb) (sc := defScope s_law_h_beside) (by decide +kernel))
          (fun _ _ _ _ _ => pg_tup rfl (pgs_cons (pg_name (i := 3) scHb.nd rfl (Or.inl rfl)) (pgs_cons (pg_name (i := 4) scHb.nd rfl (Or.inl rfl)) pgs_nil))) (fun _ _ _ _ _ => by exact (pts_one (pt_cmpR op_eq (pv 3) (pv 1) (nomark _)))) (fun _ _ _ _ _ => pv 4))
        (pe_lc (te := tVar 3) (own := [("one", 3), ("other", 4)]) (g := gTup K 2 (gCons (gName 3) (gCons (gName 4) gNil))) (tt := tTest (tOp rEq (tVar 4) (tVar 1))) rfl scHb.nd (pi_list (pv 0)) (blkOk_by (N := NHb) (sc := defScope s_law_h_beside) (by decide +kernel))
          (fun _ _ _ _ _ => pg_tup rfl (pgs_cons (pg_name (i := 3) scHb.nd rfl (Or.inl rfl)) (pgs_cons (pg_name (i := 4) scHb.nd rfl (Or.inl rfl)) pgs_nil))) (fun _ _ _ _ _ => by exact (pts_one (pt_cmpR op_eq (pv 4) (pv 1) (nomark _)))) (fun _ _ _ _ _ => pv 3))))
      (pss_one (ps_ret (pe_callB cr_sortedS (by rfl) T.srt PyProof.Rows.boot_sorted (pa_cons (pv 2) pa_nil)))), ?_⟩
    have le : ts.length = es.length := paired_len ht
    have len1 : ∀ i, (outs r (es.take i)).length ≤ es.length := fun i => Nat.le_trans (List.length_filterMap_le _ _) (by rw [List.length_take]; exact Nat.min_le_right _ _)
    have len2 : ∀ i, (ins_ r (es.take i)).length ≤ es.length := fun i => Nat.le_trans (List.length_filterMap_le _ _) (by rw [List.length_take]; exact Nat.min_le_right _ _)
    refine ⟨_, rfl, q, rfl, ⟨_, SqL.of hq⟩, fun D hD => ?_⟩
    refine lc_it (walk_list (xs := ts.map V.ref)) (fun i H' => H' D = some (.lst ((outs r (es.take i)).map V.str)) ∧ Gr H H') ⟨upd_same, Gr.upd hD⟩ (fun i H' _ g => SqL.of (g.2.s _ _ hq)) ?_ ?_
    · rintro i v H' H'' hi ⟨q1, q2⟩ ⟨rfl, hv⟩
      rw [List.getElem?_map] at hv
      obtain ⟨t, et, rfl⟩ := Option.map_eq_some_iff.mp hv
      obtain ⟨e, ee, te⟩ := paired_at ht et
      have tk : es.take (i + 1) = es.take i ++ [e] := by
        rw [List.take_add_one, ee]
        rfl
      refine ⟨t, _, rfl, SqT.of (q2.s _ _ te), rfl, _, _, rfl, _, _, rfl, rfl, rfl, ?_⟩
      refine ⟨_, rfl, _, rfl, rfl, _, rfl, ?_⟩
      have ot : outs r (es.take (i + 1)) = outs r (es.take i) ++ outs r [e] := by
        unfold outs
        rw [tk, List.filterMap_append]
      by_cases c : e.1 = r
      · have oe : outs r [e] = [e.2] := by
          unfold outs
          rw [List.filterMap_cons, if_pos c]
          rfl
        refine iteT2 (by rw [c]; simp) ?_
        refine ⟨_, rfl, _, q1, ?_, ?_, q2.put hD⟩
        · rw [List.length_map]
          exact Nat.lt_of_lt_of_le (Nat.lt_of_le_of_lt (len1 i) hl) (by decide)
        · rw [upd_same, ot, oe, List.map_append]
          rfl
      · have oe : outs r [e] = [] := by
          unfold outs
          rw [List.filterMap_cons, if_neg c]
          rfl
        refine iteF2 (by simp [c]) ?_
        refine ⟨?_, q2⟩
        rw [ot, oe, List.append_nil]
        exact q1
    · rintro H1 ⟨q1, q2⟩
      rw [List.length_map, le, List.take_length] at q1
      refine ⟨_, rfl, q, rfl, ⟨_, SqL.of (q2.s _ _ hq)⟩, fun B hB => ?_⟩
      refine lc_it (walk_list (xs := ts.map V.ref)) (fun i H' => H' B = some (.lst ((ins_ r (es.take i)).map V.str)) ∧ Gr H1 H') ⟨upd_same, Gr.upd hB⟩ (fun i H' _ g => SqL.of ((q2.trans g.2).s _ _ hq)) ?_ ?_
      · rintro i v H' H'' hi ⟨w1, w2⟩ ⟨rfl, hv⟩
        rw [List.getElem?_map] at hv
        obtain ⟨t, et, rfl⟩ := Option.map_eq_some_iff.mp hv
        obtain ⟨e, ee, te⟩ := paired_at ht et
        have tk : es.take (i + 1) = es.take i ++ [e] := by
          rw [List.take_add_one, ee]
          rfl
        refine ⟨t, _, rfl, SqT.of ((q2.trans w2).s _ _ te), rfl, _, _, rfl, _, _, rfl, rfl, rfl, ?_⟩
        refine ⟨_, rfl, _, rfl, rfl, _, rfl, ?_⟩
        have ot : ins_ r (es.take (i + 1)) = ins_ r (es.take i) ++ ins_ r [e] := by
          unfold ins_
          rw [tk, List.filterMap_append]
        by_cases c : e.2 = r
        · have oe : ins_ r [e] = [e.1] := by
            unfold ins_
            rw [List.filterMap_cons, if_pos c]
            rfl
          refine iteT2 (by rw [c]; simp) ?_
          refine ⟨_, rfl, _, w1, ?_, ?_, w2.put hB⟩
          · rw [List.length_map]
            exact Nat.lt_of_lt_of_le (Nat.lt_of_le_of_lt (len2 i) hl) (by decide)
          · rw [upd_same, ot, oe, List.map_append]
            rfl
        · have oe : ins_ r [e] = [] := by
            unfold ins_
            rw [List.filterMap_cons, if_neg c]
            rfl
          refine iteF2 (by simp [c]) ?_
          refine ⟨?_, w2⟩
          rw [ot, oe, List.append_nil]
          exact w1
      · rintro H2 ⟨w1, w2⟩
        rw [List.length_map, le, List.take_length] at w1
        have l1 := len1 es.length
        have l2 := len2 es.length
        rw [List.take_length] at l1 l2
        refine ⟨D, B, _, _, rfl, rfl, w2.s _ _ q1, w1, (by rw [List.length_map, List.length_map]; exact Nat.le_trans (show (outs r es).length + (ins_ r es).length ≤ 100 by omega) (by decide)), fun p np => ?_⟩
        have g3 := (q2.trans w2).trans (Gr.upd (o := .lst ((outs r es).map V.str ++ (ins_ r es).map V.str)) np)
        have ep : upd H2 p (.lst ((outs r es).map V.str ++ (ins_ r es).map V.str)) p = some (.lst ((outs r es ++ ins_ r es).map V.str)) := by
          rw [upd_same, List.map_append]
        have ls : (outs r es ++ ins_ r es).length < 64 := by
          rw [List.length_append]
          omega
        refine ⟨_, rfl, p, outs r es ++ ins_ r es, rfl, .inl (.inl ep), ls, fun ys b py sy nb => ?_⟩
        refine k _ b ys (fun o => ⟨fun ho => ?_, fun ho => py.mem_iff.mpr ?_⟩) (by rw [py.length_eq]; exact ls) (g3.trans (Gr.upd nb)) (g3.n _ nb) upd_same
        · rcases List.mem_append.mp (py.mem_iff.mp ho) with z | z
          · exact .inl (outs_mem z)
          · exact .inr (ins_mem z)
        · rcases ho with z | z
          · exact List.mem_append_left _ (List.mem_filterMap.mpr ⟨_, z, if_pos rfl⟩)
          · exact List.mem_append_right _ (List.mem_filterMap.mpr ⟨_, z, if_pos rfl⟩)
end
end Lamp
set_option maxHeartbeats 8000000
namespace Lamp
open PySem PySem.Spec PyProof.Rows L2
/-! ### _law_h_carrying -/
theorem low_lets : (lets.cps.toList.all fun c => decide (c < 0x110000)) = true := by decide +kernel
theorem low_figs : (figs.cps.toList.all fun c => decide (c < 0x110000)) = true := by decide +kernel
theorem strOk_name {z : Str} (h : nameOk z = true) : PyData.strOk z = true := by
  obtain ⟨_, h⟩ := Bool.and_eq_true_iff.mp h
  obtain ⟨_, h⟩ := Bool.and_eq_true_iff.mp h
  obtain ⟨_, h⟩ := Bool.and_eq_true_iff.mp h
  show z.cps.all (fun c => decide (c < 0x110000)) = true
  rw [← Array.all_toList]
  refine List.all_eq_true.mpr fun c hc => ?_
  have q := List.all_eq_true.mp h c hc
  rcases Bool.or_eq_true_iff.mp q with q | q
  · exact List.all_eq_true.mp low_lets c (of_decide_eq_true q)
  · exact List.all_eq_true.mp low_figs c (of_decide_eq_true q)
theorem dpAll_strs {K : PySem.W.Frag} {H : Hp} : ∀ xs : List Str, DpAll K H (xs.map V.str) (xs.map PyData.str)
  | [] => .nil
  | c :: cs => .cons (.str c) (dpAll_strs cs)
theorem lay_strs : ∀ {xs : List Str}, (∀ x ∈ xs, PyData.strOk x = true) → PyData.canLayAll0 (xs.map PyData.str) = true
  | [], _ => rfl
  | c :: cs, h => by
    show (PyData.strOk c && PyData.canLayAll0 (cs.map PyData.str)) = true
    rw [lay_strs fun x hx => h x (List.mem_cons_of_mem _ hx), h c List.mem_cons_self]
    rfl
theorem shaped_strs {xs : List Str} (h : ∀ x ∈ xs, PyData.strOk x = true) : SeqAt.shaped (.list (xs.map PyData.str)) = true := by
  have e : PyData.depthAll (xs.map PyData.str) = 0 := by
    clear h
    induction xs with
    | nil => rfl
    | cons c cs ih =>
      show max (PyData.depth (.str c)) (PyData.depthAll (cs.map PyData.str)) = 0
      rw [ih]
      rfl
  have d : PyData.depth (.list (xs.map PyData.str)) ≤ 64 := by
    show PyData.depthAll (xs.map PyData.str) + 1 ≤ 64
    rw [e]
    decide
  show (PyData.canLayAll0 (xs.map PyData.str) && decide (PyData.depth (.list (xs.map PyData.str)) ≤ 64)) = true
  rw [lay_strs h, decide_eq_true d]
  rfl
theorem Car.snoc {rs : List Str} {ds : List Ed} {row : List Str} {x y : Str} (c : Car rs ds (row ++ [x])) (my : y ∈ rs) (n : Nxt ds x y) : Car rs ds (row ++ [x] ++ [y]) := by
  refine ⟨by simp, fun r hr => ?_, fun i a b h1 h2 => ?_⟩
  · rcases List.mem_append.mp hr with z | z
    · exact c.mem r z
    · rw [List.mem_singleton.mp z]
      exact my
  · rcases Nat.lt_trichotomy (i + 1) (row ++ [x]).length with lt | eq | gt
    · rw [List.getElem?_append_left (by omega)] at h1
      rw [List.getElem?_append_left lt] at h2
      exact c.nxt i a b h1 h2
    · rw [List.getElem?_append_left (by omega)] at h1
      rw [List.getElem?_append_right (by omega), eq, Nat.sub_self] at h2
      obtain rfl : y = b := Option.some.inj h2
      have ei : i = row.length := by simp at eq; omega
      rw [ei, List.getElem?_append_right (Nat.le_refl _), Nat.sub_self] at h1
      obtain rfl : x = a := Option.some.inj h1
      exact n
    · rw [List.getElem?_append_right (by omega)] at h2
      rw [List.getElem?_eq_none (by show 1 ≤ i + 1 - (row ++ [x]).length; omega)] at h2
      cases h2
def spHCarry : Sp := fun vs H Q _ => ∃ (a l p q : Addr) (n m : Nat) (rs : List Str) (ts : List Addr) (es ds : List Ed), vs = [.ref a, .ref p, .ref q, .int (m : Nat)] ∧ Spr H a l n ∧ H p = some (.lst (rs.map V.str)) ∧ H q = some (.lst (ts.map V.ref)) ∧ TupsAt H ts es ∧ rs ≠ [] ∧ rs.length < 60 ∧ es.length < 30 ∧ (∀ r ∈ rs, nameOk r = true) ∧ (∀ x y, (x, y) ∈ es ∨ (y, x) ∈ es → y ∈ rs ∧ y ∈ nearOf ds x) ∧ 1 ≤ m ∧ m ≤ 100 ∧ n ≤ 800000 ∧
  ∀ H' u row k, k ≤ n + 300 → Car rs ds row → row.length ≤ m → H' u = some (.lst (row.map V.str)) → H u = none → Gs a l H H' → Spr H' a l k → Q (.ref u) H'
section
variable {P : Program} {w : World} {K : PySem.W.Frag} {mg : Str → Option Value} {base : Heap} {C : Addr}
abbrev NHc : List Str := ["stream", "rooms", "doors", "most", "found", "k", "some"]
theorem scHc : FnScope NHc ["stream", "rooms", "doors", "most"] (defScope s_law_h_carrying) := ⟨rfl, rfl, rfl, by decide +kernel, rfl, by decide +kernel, by decide +kernel⟩
theorem ok_hcarry {f : Addr} {fd : FuncData} (F : Fun K "_law_h_carrying" "_law_h_carrying" s_law_h_carrying f fd) (T : TxtS mg) (DO : Stands P w K mg base 1 "_law_draw" ["stream", "many"] spDraw) (PO : Stands P w K mg base 2 "_law_pick" ["stream", "some"] spPick) (BO : Stands P w K mg base 1 "_law_h_beside" ["doors", "room"] spBesideM) : FnOk P w K mg base CX0 3 f fd ["stream", "rooms", "doors", "most"] spHCarry := by
  obtain ⟨fD, dD, GD, mD, kD, bD⟩ := DO
  obtain ⟨fP, dP, GP, mP, kP, bP⟩ := PO
  obtain ⟨fB, dB, GB, mB, kB, bB⟩ := BO
  refine F.ok scHc (fun vs H Q E h => ?_) (fun cdv A outer s H vs Q E hr h => ?_)
  · obtain ⟨a, l, p, q, n, m, rs, ts, es, ds, rfl, _⟩ := h
    rfl
  · obtain ⟨a, l, p, q, n, m, rs, ts, es, ds, rfl, hS, hp, hq, ht, rne, rl, el, ok, nb, m1, m2, hn, k⟩ := h
    refine ⟨_, pss_cons (ps_set (i := 4) scHc.nd rfl (Or.inl rfl) (pe_lst (pa_cons (pe_call GP hr (by rfl) mP kP bP .nil pass0 (pa_cons (pv 0) (pa_cons (pv 1) pa_nil))) pa_nil)))
      (pss_cons (ps_for PassesOwn.never rfl (pi_range1 rfl T.range (pa_cons (pe_call GD (hr.mono (by decide)) (by rfl) mD kD bD .nil pass0 (pa_cons (pv 0) (pa_cons (pv 3) pa_nil))) pa_nil)) (pg_name (i := 5) scHc.nd rfl (Or.inl rfl))
        (pss_cons (ps_set (i := 6) scHc.nd rfl (Or.inl rfl) (pe_call GB (hr.mono (by decide)) (by rfl) mB kB bB .nil pass0 (pa_cons (pv 2) (pa_cons (pe_ix ix_list (pv 4) (pe_un un_neg pe_int) (fun _ _ => rfl)) pa_nil))))
        (pss_one (ps_expr (pe_bm PySem.F.plainAttrs_list PySem.F.slot_list_append PySem.F.type_list_append mt_append (pv 4) (pa_cons
          (pe_ifExp (PW.pt (pw_or (pt_cmpR (op_eqD hr.units) (pv 6) (pe_lst pa_nil) (nomark _)) (pw_or1 (pt_cmpR op_eq (pe_call GD (hr.mono (by decide)) (by rfl) mD kD bD .nil pass0 (pa_cons (pv 0) (pa_cons pe_int pa_nil))) pe_int (nomark _)))))
            (pe_ix ix_list (pv 4) (pe_un un_neg pe_int) (fun _ _ => rfl)) (pe_call GP hr (by rfl) mP kP bP .nil pass0 (pa_cons (pv 0) (pa_cons (pv 6) pa_nil)))) pa_nil) (by rfl) (by rfl))))))
      (pss_one (ps_ret (pv 4)))), ?_⟩
    refine ⟨_, rfl, _, rfl, a, l, p, n, rs, rfl, hS, hp, rne, by omega, by omega, fun H1 x0 mx0 g1 s1 => ?_⟩
    refine ⟨(by show 1 ≤ sizeLine; decide), fun W hW => ?_⟩
    have WN : H W = none := g1.n _ hW
    have g2 : Gs a l H (upd H1 W (.lst [.str x0])) := g1.trans (Gr.upd hW).gs
    have s2 : Spr (upd H1 W (.lst [.str x0])) a l (n + 1) := s1.stay (same_upd hW)
    have Wa := s1.na hW
    have Wl := s1.nl hW
    refine ⟨_, rfl, _, rfl, a, l, n + 1, (m : Int), rfl, s2, by omega, by omega, by omega, fun H3 d sb3 s3 d0 d1 => ?_⟩
    have g3 : Gs a l (upd H1 W (.lst [.str x0])) H3 := Gs.of sb3 s3
    obtain ⟨dn, rfl⟩ : ∃ j : Nat, d = (j : Int) := ⟨d.toNat, by omega⟩
    refine ⟨_, rfl, by omega, by omega, ?_⟩
    rw [Int.toNat_natCast]
    refine for_range (lo := 0) (n := dn) (fun i σ' H' => ∃ (v5 v6 : Option V) (row : List Str) (x : Str) (kk : Nat), σ' = [some (.ref a), some (.ref p), some (.ref q), some (.int (m : Nat)), some (.ref W), v5, v6] ∧ H' W = some (.lst ((row ++ [x]).map V.str)) ∧ row.length = i ∧ Car rs ds (row ++ [x]) ∧ Gs a l H H' ∧ Spr H' a l kk ∧ kk ≤ n + 2 + 2 * i) ?_ ?_ ?_
    · refine ⟨_, _, [], x0, n + 2, rfl, g3.keep s2 upd_same (ok_strs [x0]), rfl, ⟨by simp, fun r hr => ?_, fun i a b h1 h2 => by simp at h2⟩, g2.trans g3, s3, by omega⟩
      rw [List.mem_singleton.mp hr]
      exact mx0
    · rintro i σ' H4 hi ⟨v5, v6, row, x, kk, rfl, q1, q2, q3, q4, q5, q6⟩
      have mx : x ∈ rs := q3.mem x (by simp)
      have q1' : H4 W = some (.lst (row.map V.str ++ [V.str x])) := by
        rw [q1, List.map_append]
        rfl
      refine ⟨_, rfl, _, rfl, _, rfl, W, _, -1, .str x, rfl, rfl, SqL.of q1', atI_last _ _, ?_⟩
      refine ⟨q, x, ts, es, rfl, q4.keep hS hq (ok_refs _), TupsAt.gs ht hS q4, el, fun H5 B ys hys yl g5 nB eB => ?_⟩
      have g45 := q4.trans g5.gs
      have s5 := q5.stay g5.s
      have q15 := g5.s _ _ q1'
      refine ⟨_, rfl, .inl ⟨rfl, _, SqL.of q15⟩, ?_⟩
      have few : (row.map V.str ++ [V.str x]).length < sizeLine := by
        rw [List.length_append, List.length_map, List.length_singleton]
        exact Nat.lt_of_lt_of_le (show row.length + 1 < 1000 by omega) (by decide)
      have done : ∀ (H8 : Hp) (y : Str) (k8 : Nat), Gs a l H H8 → Spr H8 a l k8 → k8 ≤ n + 2 + 2 * (i + 1) → y ∈ rs → Nxt ds x y →
          ∃ (v5 v6 : Option V) (row' : List Str) (x' : Str) (kk : Nat), [some (V.ref a), some (.ref p), some (.ref q), some (.int (m : Nat)), some (.ref W), some (.int (0 + (i : Int))), some (.ref B)] = [some (.ref a), some (.ref p), some (.ref q), some (.int (m : Nat)), some (.ref W), v5, v6] ∧ upd H8 W (.lst (row.map V.str ++ [V.str x] ++ [V.str y])) W = some (.lst ((row' ++ [x']).map V.str)) ∧ row'.length = i + 1 ∧ Car rs ds (row' ++ [x']) ∧ Gs a l H (upd H8 W (.lst (row.map V.str ++ [V.str x] ++ [V.str y]))) ∧ Spr (upd H8 W (.lst (row.map V.str ++ [V.str x] ++ [V.str y]))) a l kk ∧ kk ≤ n + 2 + 2 * (i + 1) := fun H8 y k8 g8 s8 k8l my ny =>
        ⟨_, _, row ++ [x], y, k8, rfl, by rw [upd_same, List.map_append, List.map_append]; rfl, by rw [List.length_append, q2]; rfl, q3.snoc my ny, g8.put WN, s8.updN Wa Wl, k8l⟩
      have okx : okO (.lst (row.map V.str ++ [V.str x])) = true := by
        have z := ok_strs (row ++ [x])
        rw [List.map_append] at z
        exact z
      have inr : ∀ o ∈ ys, o ∈ rs ∧ o ∈ nearOf ds x := fun o ho => nb x o ((hys o).mp ho)
      refine ⟨_, rfl, (by show 0 ≤ sizeLine; exact Nat.zero_le _), fun Z hZ => ?_⟩
      have g6 := g45.trans (Gr.upd (o := .lst []) hZ).gs
      have s6 := s5.stay (same_upd (o := .lst []) hZ)
      have eB6 := same_upd (o := .lst []) hZ _ _ eB
      have q16 := same_upd (o := .lst []) hZ _ _ q15
      refine ⟨.list (ys.map PyData.str), .list [], .lst (SqL.of eB6) (dpAll_strs ys), .lst (SqL.of upd_same) .nil, shaped_strs (fun o ho => strOk_name (ok o (inr o ho).1)), by decide, _, rfl, ?_⟩
      cases ys with
      | nil => exact iteT ⟨_, rfl, _, rfl, W, _, -1, .str x, rfl, rfl, SqL.of q16, atI_last _ _, W, _, _, rfl, rfl, q16, few, done _ x kk g6 s6 (by omega) mx (.inl rfl)⟩
      | cons y ys =>
        refine iteF ?_
        refine ⟨_, rfl, a, l, kk, 3, rfl, s6, by omega, by omega, by omega, fun H7 d7 sb7 s7 d70 d71 => ?_⟩
        have g67 : Gs a l _ H7 := Gs.of sb7 s7
        have g7 := g6.trans g67
        have q17 := g67.keep s6 q16 okx
        have eB7 := g67.keep s6 eB6 (ok_strs _)
        refine ⟨rfl, _, rfl, ?_⟩
        refine ite2 (fun _ => ?_) (fun _ => ?_)
        · exact ⟨_, rfl, _, rfl, W, _, -1, .str x, rfl, rfl, SqL.of q17, atI_last _ _, W, _, _, rfl, rfl, q17, few, done _ x _ g7 s7 (by omega) mx (.inl rfl)⟩
        · refine ⟨_, rfl, _, rfl, a, l, B, kk + 1, y :: ys, rfl, s7, eB7, by simp, by omega, by omega, fun H8 z mz g8 s8 => ?_⟩
          obtain ⟨z1, z2⟩ := inr z mz
          exact ⟨W, _, _, rfl, rfl, g8.keep s7 q17 okx, few, done _ z _ (g7.trans g8) s8 (by omega) z1 (.inr z2)⟩
    · rintro σ' H4 ⟨v5, v6, row, x, kk, rfl, q1, q2, q3, q4, q5, q6⟩
      exact ⟨_, rfl, k H4 W (row ++ [x]) kk (by omega) q3 (by rw [List.length_append, List.length_singleton]; omega) q1 WN q4 q5⟩
end
end Lamp
set_option maxHeartbeats 8000000
namespace Lamp
open PySem PySem.Spec PyProof.Rows L2
/-! ### _law_same: a dict from rooms to numbers, found as it is due -/
def TpAt (H : Hp) (ts : List Addr) (es : List (Str × Int)) : Prop := Paired (fun (t : Addr) (e : Str × Int) => H t = some (.tup [.str e.1, .int e.2])) ts es
/-- found and due alike, of a depth -/
def Tw : Nat → Hp → V → V → Prop
  | 0, _, x, y => (∃ s, x = .str s ∧ y = .str s) ∨ ∃ i, x = .int i ∧ y = .int i
  | 1, H, x, y => ∃ (a b : Addr) (s : Str) (i : Int), x = .ref a ∧ y = .ref b ∧ H a = some (.tup [.str s, .int i]) ∧ H b = some (.tup [.str s, .int i])
  | 2, H, x, y => ∃ (a b : Addr) (ts us : List Addr) (es : List (Str × Int)), x = .ref a ∧ y = .ref b ∧ H a = some (.lst (ts.map V.ref)) ∧ H b = some (.lst (us.map V.ref)) ∧ TpAt H ts es ∧ TpAt H us es ∧ es.length < 1000
  | _, H, x, y => ∃ (a b : Addr) (rs : List Str) (f : Str → Nat), x = .ref a ∧ y = .ref b ∧ H a = some (.dK (TM rs (NI f))) ∧ H b = some (.dK (TM rs (NI f))) ∧ rs.length < 1000
/-- what a level keeps of the heap -/
def Kp : Nat → Hp → Hp → Prop
  | 3, H, H' => Same H H'
  | _, H, H' => Gr H H'
def spSame (n : Nat) : Sp := fun vs H Q _ => ∃ x y, vs = [x, y] ∧ Tw n H x y ∧ ∀ H', Kp n H H' → Q (.bl true) H'
def spSameB : Nat → Sp
  | 0 => fun _ _ _ _ => False
  | n + 1 => spSame n
theorem walk_two {K : PySem.W.Frag} {a b : Addr} {xs ys : List V} (e : xs.length = ys.length) : Walk (RZ.ItzT K a b) xs.length (fun H => SqT K H a xs ∧ SqT K H b ys) (YPair (fun i => xs[i]?) (fun i => ys[i]?)) where
  goes := fun i _ lt g => by
    obtain ⟨g1, g2⟩ := g
    have lt2 : i < ys.length := e ▸ lt
    exact ⟨xs, ys, xs[i], ys[i], g1, g2, List.getElem?_eq_getElem lt, List.getElem?_eq_getElem lt2⟩
  stops := fun _ g => ⟨_, _, g.1, g.2, .inl (Nat.le_refl _)⟩
  yields := fun _ _ _ _ _ g y => by
    obtain ⟨T, p, q, y1, y2, y3, y4, y5⟩ := y
    exact ⟨T, p, q, y1, y2, y3, y4 _ g.1, y5 _ g.2⟩
theorem Tw.up : ∀ {n : Nat} {H H' : Hp} {x y : V}, n ≤ 2 → Tw n H x y → Gr H H' → Tw n H' x y
  | 0, _, _, _, _, _, t, _ => t
  | 1, _, _, _, _, _, ⟨a, b, s, i, h1, h2, h3, h4⟩, g => ⟨a, b, s, i, h1, h2, g.s _ _ h3, g.s _ _ h4⟩
  | 2, _, _, _, _, _, ⟨a, b, ts, us, es, h1, h2, h3, h4, h5, h6, h7⟩, g => ⟨a, b, ts, us, es, h1, h2, g.s _ _ h3, g.s _ _ h4, Paired.imp (fun _ _ e => g.s _ _ e) h5, Paired.imp (fun _ _ e => g.s _ _ e) h6, h7⟩
  | n + 3, _, _, _, _, l, _, _ => absurd l (by omega)
theorem tp_of {H : Hp} {f : Str → Nat} : ∀ {ts : List Addr} {rs : List Str}, Paired (fun (t : Addr) (q : Key × V) => H t = some (.tup [kV q.1, q.2])) ts (TM rs (NI f)) → TpAt H ts (rs.map fun r => (r, (f r : Int)))
  | [], [], _ => .nil
  | [], _ :: _, h => by cases h
  | _ :: _, [], h => by cases h
  | t :: ts, r :: rs, h => by
    cases h with
    | cons h1 h2 => exact .cons h1 (tp_of h2)
structure TxtSm (mg : Str → Option Value) : Prop where
  isi : mg "isinstance" = none
  list : mg "list" = none
  tuple : mg "tuple" = none
  dict : mg "dict" = none
  int : mg "int" = none
  bool : mg "bool" = none
  len : mg "len" = none
  all : mg "all" = none
  zip : mg "zip" = none
section
variable {P : Program} {w : World} {K : PySem.W.Frag} {mg : Str → Option Value} {base : Heap}
abbrev NSm : List Str := ["found", "due", "x", "y"]
theorem scSm : FnScope NSm ["found", "due"] (defScope s_law_same) := ⟨rfl, rfl, rfl, by decide +kernel, rfl, by decide +kernel, by decide +kernel⟩
theorem ok_same {f : Addr} {fd : FuncData} {n k : Nat} (n3 : n ≤ 3) (F : Fun K "_law_same" "_law_same" s_law_same f fd) (T : TxtSm mg) (S : Stands P w K mg base k "_law_same" ["found", "due"] (spSameB n)) : FnOk P w K mg base CX0 (k + 1) f fd ["found", "due"] (spSame n) := by
  obtain ⟨fs, ds, Gs, ms, ks, bs⟩ := S
  refine F.ok scSm (fun vs H Q E h => ?_) (fun cdv A outer s H vs Q E hr h => ?_)
  · obtain ⟨x, y, rfl, _⟩ := h
    rfl
  · obtain ⟨x, y, rfl, tw, kk⟩ := h
    refine ⟨_, pss_cons (ps_if (pt_val (pe_callB call_isiT (by rfl) T.isi PyProof.Rows.Boot.isinstance (pa_cons (pv 1) (pa_cons (pe_tup (pa_cons (pe_bltn (v := .ty "list") (by rfl) T.list PyProof.Rows.Boot.list rfl) (pa_cons (pe_bltn (v := .ty "tuple") (by rfl) T.tuple PyProof.Rows.Boot.tuple rfl) pa_nil))) pa_nil))))
        (pss_cons (ps_if (PW.pt (pw_or (pt_cmpR op_ne (pe_callB call_isi (by rfl) T.isi PyProof.Rows.Boot.isinstance (pa_cons (pv 0) (pa_cons (pe_bltn (v := .ty "list") (by rfl) T.list PyProof.Rows.Boot.list rfl) pa_nil))) (pe_callB call_isi (by rfl) T.isi PyProof.Rows.Boot.isinstance (pa_cons (pv 1) (pa_cons (pe_bltn (v := .ty "list") (by rfl) T.list PyProof.Rows.Boot.list rfl) pa_nil))) (nomark _))
            (pw_or1 (pt_cmpR op_ne (pe_callB call_isi (by rfl) T.isi PyProof.Rows.Boot.isinstance (pa_cons (pv 0) (pa_cons (pe_bltn (v := .ty "tuple") (by rfl) T.tuple PyProof.Rows.Boot.tuple rfl) pa_nil))) (pe_callB call_isi (by rfl) T.isi PyProof.Rows.Boot.isinstance (pa_cons (pv 1) (pa_cons (pe_bltn (v := .ty "tuple") (by rfl) T.tuple PyProof.Rows.Boot.tuple rfl) pa_nil))) (nomark _)))))
          pss_dead pss_nil)
        (pss_one (ps_ret (pe_and (pe_cmpR op_eq (pe_callB call_len_seq (by rfl) T.len PySem.boot_len (pa_cons (pv 0) pa_nil)) (pe_callB call_len_seq (by rfl) T.len PySem.boot_len (pa_cons (pv 1) pa_nil)) (nomark _))
          (pe_one (pe_callB (cr_all rfl) (by rfl) T.all PyProof.Rows.Boot.all (pa_cons
            (pe_lc (te := tCall (spSameB n) [] E0 (tCons (tVar 2) (tCons (tVar 3) tNil))) (own := [("x", 2), ("y", 3)]) (g := gTup K 2 (gCons (gName 2) (gCons (gName 3) gNil))) (tt := tYes) rfl scSm.nd (RZ.pi_zipA (by rfl) T.zip (pa_cons (pv 0) (pa_cons (pv 1) pa_nil))) (blkOk_by (N := NSm) (sc := defScope s_law_same) (by decide +kernel))
              (fun _ _ _ _ _ => pg_tup rfl (pgs_cons (pg_name (i := 2) scSm.nd rfl (Or.inl rfl)) (pgs_cons (pg_name (i := 3) scSm.nd rfl (Or.inl rfl)) pgs_nil))) (fun _ _ _ _ _ => pts_nil)
              (fun _ _ _ _ _ => by exact (pe_call Gs hr (by rfl) ms ks bs .nil pass0 (pa_cons (pv 2) (pa_cons (pv 3) pa_nil))))) pa_nil)))))))
        pss_nil)
      (pss_cons (ps_if (pt_val (pe_callB call_isi (by rfl) T.isi PyProof.Rows.Boot.isinstance (pa_cons (pv 1) (pa_cons (pe_bltn (v := .ty "dict") (by rfl) T.dict PyProof.Rows.Boot.dict rfl) pa_nil))))
        (pss_one (ps_ret (pe_and (pe_callB call_isi (by rfl) T.isi PyProof.Rows.Boot.isinstance (pa_cons (pv 0) (pa_cons (pe_bltn (v := .ty "dict") (by rfl) T.dict PyProof.Rows.Boot.dict rfl) pa_nil)))
          (pe_one (pe_call Gs hr (by rfl) ms ks bs .nil pass0 (pa_cons (LiI.pe_listItems rfl (pv 0) (by rfl) T.list PyProof.Rows.Boot.list) (pa_cons (LiI.pe_listItems rfl (pv 1) (by rfl) T.list PyProof.Rows.Boot.list) pa_nil)))))))
        pss_nil)
      (pss_cons (ps_if (pt_val (pe_callB call_isi (by rfl) T.isi PyProof.Rows.Boot.isinstance (pa_cons (pv 1) (pa_cons (pe_bltn (v := .ty "int") (by rfl) T.int PyProof.Rows.Boot.int rfl) pa_nil))))
        (pss_one (ps_ret (pe_and (pe_callB call_isi (by rfl) T.isi PyProof.Rows.Boot.isinstance (pa_cons (pv 0) (pa_cons (pe_bltn (v := .ty "int") (by rfl) T.int PyProof.Rows.Boot.int rfl) pa_nil)))
          (pe_and (pe_cmpR op_eq (pe_callB call_isi (by rfl) T.isi PyProof.Rows.Boot.isinstance (pa_cons (pv 0) (pa_cons (pe_bltn (v := .ty "bool") (by rfl) T.bool PyProof.Rows.Boot.bool rfl) pa_nil))) (pe_callB call_isi (by rfl) T.isi PyProof.Rows.Boot.isinstance (pa_cons (pv 1) (pa_cons (pe_bltn (v := .ty "bool") (by rfl) T.bool PyProof.Rows.Boot.bool rfl) pa_nil))) (nomark _))
          (pe_one (pe_cmpR op_eq (pv 0) (pv 1) (nomark _)))))))
        pss_nil)
      (pss_one (ps_ret (pe_and (pe_not (pe_callB call_isiT (by rfl) T.isi PyProof.Rows.Boot.isinstance (pa_cons (pv 0) (pa_cons (pe_tup (pa_cons (pe_bltn (v := .ty "int") (by rfl) T.int PyProof.Rows.Boot.int rfl) (pa_cons (pe_bltn (v := .ty "list") (by rfl) T.list PyProof.Rows.Boot.list rfl) (pa_cons (pe_bltn (v := .ty "tuple") (by rfl) T.tuple PyProof.Rows.Boot.tuple rfl) (pa_cons (pe_bltn (v := .ty "dict") (by rfl) T.dict PyProof.Rows.Boot.dict rfl) pa_nil))))) pa_nil))))
        (pe_one (pe_cmpR op_eq (pv 0) (pv 1) (nomark _)))))))), ?_⟩
    refine ⟨_, rfl, (by show 2 ≤ sizeLine; decide), fun q nq => ?_⟩
    have g1 := Gr.upd (o := .tup [.ty "list", .ty "tuple"]) nq
    have two : ∀ {a b : Bool}, (!decide (V.bl a = V.bl a)) = false := fun {a b} => by simp
    match n, tw, kk with
    | 0, tw, kk =>
      rcases tw with ⟨s, rfl, rfl⟩ | ⟨i, rfl, rfl⟩
      · refine ⟨.str s, q, _, .type "str", _, false, rfl, upd_same, .cons (.ty _) (.cons (.ty _) .nil), .base (.str s), kitAny_cons (b := false) (kit_ty (by decide +kernel)) (fun _ => kitAny_cons (b := false) (kit_ty (by decide +kernel)) (fun _ => kitAny_nil) fun z => by cases z) (fun z => by cases z), _, rfl, iteF ?_⟩
        refine ⟨_, rfl, .str s, .ty "dict", _, _, false, rfl, .ty _, .base (.str s), kit_ty (by decide +kernel), _, rfl, iteF ?_⟩
        refine ⟨_, rfl, .str s, .ty "int", _, _, false, rfl, .ty _, .base (.str s), kit_ty (by decide +kernel), _, rfl, iteF ?_⟩
        refine ⟨_, rfl, (by show 4 ≤ sizeLine; decide), fun q2 nq2 => ?_⟩
        refine ⟨.str s, q2, _, .type "str", _, false, rfl, upd_same, .cons (.ty _) (.cons (.ty _) (.cons (.ty _) (.cons (.ty _) .nil))), .base (.str s), kitAny_cons (b := false) (kit_ty (by decide +kernel)) (fun _ => kitAny_cons (b := false) (kit_ty (by decide +kernel)) (fun _ => kitAny_cons (b := false) (kit_ty (by decide +kernel)) (fun _ => kitAny_cons (b := false) (kit_ty (by decide +kernel)) (fun _ => kitAny_nil) fun z => by cases z) fun z => by cases z) fun z => by cases z) (fun z => by cases z), false, rfl, true, rfl, iteT ?_⟩
        refine ⟨_, rfl, _, rfl, rfl, ?_⟩
        rw [decide_eq_true rfl]
        exact kk _ (g1.trans (Gr.upd nq2))
      · refine ⟨.int i, q, _, .type "int", _, false, rfl, upd_same, .cons (.ty _) (.cons (.ty _) .nil), .base (.int i), kitAny_cons (b := false) (kit_ty (by decide +kernel)) (fun _ => kitAny_cons (b := false) (kit_ty (by decide +kernel)) (fun _ => kitAny_nil) fun z => by cases z) (fun z => by cases z), _, rfl, iteF ?_⟩
        refine ⟨_, rfl, .int i, .ty "dict", _, _, false, rfl, .ty _, .base (.int i), kit_ty (by decide +kernel), _, rfl, iteF ?_⟩
        refine ⟨_, rfl, .int i, .ty "int", _, _, true, rfl, .ty _, .base (.int i), kit_ty (by decide +kernel), _, rfl, iteT ?_⟩
        refine ⟨_, rfl, .int i, .ty "int", _, _, true, rfl, .ty _, .base (.int i), kit_ty (by decide +kernel), true, rfl, iteT ?_⟩
        refine ⟨_, rfl, .int i, .ty "bool", _, _, false, rfl, .ty _, .base (.int i), kit_ty (by decide +kernel), _, rfl, .int i, .ty "bool", _, _, false, rfl, .ty _, .base (.int i), kit_ty (by decide +kernel), rfl, true, rfl, iteT ?_⟩
        refine ⟨_, rfl, _, rfl, rfl, ?_⟩
        rw [decide_eq_true rfl]
        exact kk _ g1
    | 1, tw, kk =>
      obtain ⟨a, b, s, i, rfl, rfl, ha, hb⟩ := tw
      have ha1 := g1.s _ _ ha
      have hb1 := g1.s _ _ hb
      refine ⟨.ref b, q, _, .type "tuple", _, true, rfl, upd_same, .cons (.ty _) (.cons (.ty _) .nil), .base (.tup hb1), kitAny_cons (b := false) (kit_ty (by decide +kernel)) (fun _ => kitAny_cons (b := true) (kit_ty (by decide +kernel)) (fun z => by cases z) fun _ => rfl) (fun z => by cases z), _, rfl, iteT ?_⟩
      refine ⟨_, rfl, .ref a, .ty "list", _, _, false, rfl, .ty _, .base (.tup ha1), kit_ty (by decide +kernel), _, rfl, .ref b, .ty "list", _, _, false, rfl, .ty _, .base (.tup hb1), kit_ty (by decide +kernel), rfl, _, rfl, iteF2 (by rfl) ?_⟩
      refine ⟨_, rfl, .ref a, .ty "tuple", _, _, true, rfl, .ty _, .base (.tup ha1), kit_ty (by decide +kernel), _, rfl, .ref b, .ty "tuple", _, _, true, rfl, .ty _, .base (.tup hb1), kit_ty (by decide +kernel), rfl, _, rfl, iteF2 (by rfl) ?_⟩
      refine ⟨_, rfl, a, _, rfl, .inr (SqT.of ha1), _, rfl, b, _, rfl, .inr (SqT.of hb1), rfl, true, rfl, iteT ?_⟩
      refine ⟨_, rfl, _, rfl, a, b, _, _, rfl, .inr ⟨SqT.of ha1, SqT.of hb1, fun B hB => ?_⟩⟩
      refine lc_it (walk_two (xs := [.str s, .int i]) (ys := [.str s, .int i]) rfl) (fun j H' => H' B = some (.lst ((List.replicate j true).map V.bl)) ∧ Gr (upd H q (.tup [.ty "list", .ty "tuple"])) H') ⟨upd_same, Gr.upd hB⟩ (fun j H' _ g => ⟨SqT.of (g.2.s _ _ ha1), SqT.of (g.2.s _ _ hb1)⟩) ?_ ?_
      · rintro j v H' H'' hj ⟨w1, w2⟩ ⟨T0, x0, y0, rfl, nT, rfl, e3, e4⟩
        have exy : x0 = y0 := Option.some.inj (e3.symm.trans e4)
        subst exy
        have t0 : Tw 0 (upd H' T0 (.tup [x0, x0])) x0 x0 := by
          match j, e3 with
          | 0, e3 => exact .inl ⟨s, (Option.some.inj e3).symm, (Option.some.inj e3).symm⟩
          | 1, e3 => exact .inr ⟨i, (Option.some.inj e3).symm, (Option.some.inj e3).symm⟩
        refine ⟨T0, _, rfl, SqT.of upd_same, rfl, _, _, rfl, _, _, rfl, rfl, rfl, ?_⟩
        have u1 := Gr.upd (o := .tup [x0, x0]) nT
        refine ⟨_, rfl, _, rfl, x0, x0, rfl, t0, fun H3 g3 => ⟨_, g3.s _ _ (u1.s _ _ w1), ?_, ?_, ((w2.trans u1).trans g3).put hB⟩⟩
        · rw [List.length_map, List.length_replicate]
          exact Nat.lt_of_lt_of_le hj (by show 2 ≤ sizeLine; decide)
        · rw [upd_same, List.replicate_succ', List.map_append]
          rfl
      · rintro H' ⟨w1, w2⟩
        refine ⟨B, List.replicate 2 true, rfl, .inl (.inl w1), ?_⟩
        exact kk _ (g1.trans w2)
    | 2, tw, kk =>
      obtain ⟨a, b, ts, us, es, rfl, rfl, ha, hb, pa, pb, le⟩ := tw
      have ha1 := g1.s _ _ ha
      have hb1 := g1.s _ _ hb
      refine ⟨.ref b, q, _, .type "list", _, true, rfl, upd_same, .cons (.ty _) (.cons (.ty _) .nil), .base (.lst hb1), kitAny_cons (b := true) (kit_ty (by decide +kernel)) (fun z => by cases z) (fun _ => rfl), _, rfl, iteT ?_⟩
      refine ⟨_, rfl, .ref a, .ty "list", _, _, true, rfl, .ty _, .base (.lst ha1), kit_ty (by decide +kernel), _, rfl, .ref b, .ty "list", _, _, true, rfl, .ty _, .base (.lst hb1), kit_ty (by decide +kernel), rfl, _, rfl, iteF2 (by rfl) ?_⟩
      refine ⟨_, rfl, .ref a, .ty "tuple", _, _, false, rfl, .ty _, .base (.lst ha1), kit_ty (by decide +kernel), _, rfl, .ref b, .ty "tuple", _, _, false, rfl, .ty _, .base (.lst hb1), kit_ty (by decide +kernel), rfl, _, rfl, iteF2 (by rfl) ?_⟩
      have l1 : ts.length = es.length := paired_len pa
      have l2 : us.length = es.length := paired_len pb
      refine ⟨_, rfl, a, _, rfl, .inl (SqL.of ha1), _, rfl, b, _, rfl, .inl (SqL.of hb1), rfl, true, ?_, iteT ?_⟩
      · rw [List.length_map, List.length_map, l1, l2, decide_eq_true rfl]
      refine ⟨_, rfl, _, rfl, a, b, _, _, rfl, .inl ⟨SqL.of ha1, SqL.of hb1, fun B hB => ?_⟩⟩
      refine lc_it (walk_zip (xs := ts.map V.ref) (ys := us.map V.ref) (n := es.length) (by rw [List.length_map, List.length_map, l1, l2, Nat.min_self])) (fun j H' => H' B = some (.lst ((List.replicate j true).map V.bl)) ∧ Gr (upd H q (.tup [.ty "list", .ty "tuple"])) H') ⟨upd_same, Gr.upd hB⟩ (fun j H' _ g => ⟨SqL.of (g.2.s _ _ ha1), SqL.of (g.2.s _ _ hb1)⟩) ?_ ?_
      · rintro j v H' H'' hj ⟨w1, w2⟩ ⟨T0, x0, y0, rfl, nT, rfl, e3, e4⟩
        replace e3 : (ts.map V.ref)[j]? = some x0 := e3
        replace e4 : (us.map V.ref)[j]? = some y0 := e4
        rw [List.getElem?_map] at e3 e4
        obtain ⟨t, et, rfl⟩ := Option.map_eq_some_iff.mp e3
        obtain ⟨u, eu, rfl⟩ := Option.map_eq_some_iff.mp e4
        obtain ⟨e, ee, te⟩ := paired_at pa et
        obtain ⟨e', ee', ue⟩ := paired_at pb eu
        obtain rfl : e = e' := Option.some.inj (ee.symm.trans ee')
        have u1 := Gr.upd (o := .tup [.ref t, .ref u]) nT
        have gx := (g1.trans w2).trans u1
        refine ⟨T0, _, rfl, SqT.of upd_same, rfl, _, _, rfl, _, _, rfl, rfl, rfl, ?_⟩
        refine ⟨_, rfl, _, rfl, .ref t, .ref u, rfl, ⟨t, u, e.1, e.2, rfl, rfl, gx.s _ _ te, gx.s _ _ ue⟩, fun H3 g3 => ⟨_, g3.s _ _ (u1.s _ _ w1), ?_, ?_, ((w2.trans u1).trans g3).put hB⟩⟩
        · rw [List.length_map, List.length_replicate]
          exact Nat.lt_of_lt_of_le (Nat.lt_trans hj le) (by decide)
        · rw [upd_same, List.replicate_succ', List.map_append]
          rfl
      · rintro H' ⟨w1, w2⟩
        refine ⟨B, List.replicate es.length true, rfl, .inl (.inl w1), ?_⟩
        have e : (List.replicate es.length true).all id = true := List.all_eq_true.mpr fun b hb => (List.eq_of_mem_replicate hb)
        rw [e]
        exact kk _ (g1.trans w2)
    | 3, tw, kk =>
      obtain ⟨a, b, rs, f, rfl, rfl, ha, hb, lr⟩ := tw
      have ha1 := g1.s _ _ ha
      have hb1 := g1.s _ _ hb
      refine ⟨.ref b, q, _, .type "dict", _, false, rfl, upd_same, .cons (.ty _) (.cons (.ty _) .nil), .base (.dK hb1), kitAny_cons (b := false) (kit_ty (by decide +kernel)) (fun _ => kitAny_cons (b := false) (kit_ty (by decide +kernel)) (fun _ => kitAny_nil) fun z => by cases z) (fun z => by cases z), _, rfl, iteF ?_⟩
      refine ⟨_, rfl, .ref b, .ty "dict", _, _, true, rfl, .ty _, .base (.dK hb1), kit_ty (by decide +kernel), _, rfl, iteT ?_⟩
      refine ⟨_, rfl, .ref a, .ty "dict", _, _, true, rfl, .ty _, .base (.dK ha1), kit_ty (by decide +kernel), true, rfl, iteT ?_⟩
      refine ⟨_, rfl, a, _, rfl, ha1, fun H2 p ts k2 np _ _ ep tp => ?_⟩
      refine ⟨_, rfl, b, _, rfl, k2 _ _ hb1, fun H3 p' us k3 np' _ _ ep' tp' => ?_⟩
      refine ⟨.ref p, .ref p', rfl, ⟨p, p', ts, us, _, rfl, rfl, k3 _ _ ep, ep', Paired.imp (fun _ _ e => k3 _ _ e) (tp_of tp), tp_of tp', by rw [List.length_map]; exact lr⟩, fun H4 g4 => ?_⟩
      exact kk _ fun x o e => g4.s _ _ (k3 _ _ (k2 _ _ (g1.s _ _ e)))
end
end Lamp
set_option maxHeartbeats 8000000
namespace Lamp
open PySem PySem.Spec PyProof.Rows L2
/-! ### _law_many_stays -/
structure TxtMs (mg : Str → Option Value) : Prop where
  dict : mg "dict" = none
  len : mg "len" = none
  srt : mg "sorted" = none
/-- of room r -/
def runs (L : List (Str × Nat)) (r : Str) : Nat := (L.filter fun e => decide (e.1 = r)).length
theorem tm_merge {nv : Str → V} : ∀ {rs ks : List Str}, (ks ++ rs).Nodup → mergeK (TM ks nv) (TM rs nv) = TM (ks ++ rs) nv
  | [], ks, _ => by
    rw [List.append_nil]
    rfl
  | r :: rs, ks, h => by
    have h2 : ((ks ++ [r]) ++ rs).Nodup := by
      rw [List.append_assoc]
      exact h
    have m : r ∉ ks := fun z => (List.nodup_append.mp h).2.2 r z r List.mem_cons_self rfl
    show mergeK (putK (TM ks nv) (Sum.inr r) (nv r)) (TM rs nv) = _
    rw [tm_new m]
    have e : TM (ks ++ [r]) (putV nv r (nv r)) = TM (ks ++ [r]) nv := tm_ext fun x _ => by
      unfold putV
      by_cases q : x = r
      · rw [if_pos q, q]
      · rw [if_neg q]
    rw [e, tm_merge h2, List.append_assoc]
    rfl
section
variable {P : Program} {w : World} {K : PySem.W.Frag} {mg : Str → Option Value} {base : Heap}
def spMany : Sp := fun vs H Q _ => ∃ (p t : Addr) (rs : List Str) (ts : List Addr) (L : List (Str × Nat)), vs = [.ref p, .ref t] ∧ H p = some (.lst (rs.map V.str)) ∧ rs.Nodup ∧ rs.length < 60 ∧ H t = some (.lst (ts.map V.ref)) ∧ RnAt H ts L ∧ L.length < 1000 ∧
  ∀ H' d rs', rs'.Perm rs → sortedS rs' = true → H' d = some (.dK (TM rs' (NI (runs L)))) → Gr H H' → H d = none → Q (.ref d) H'
abbrev scMsB : Scope := { kind := .function, names := [(".0", .local), ("room", .cell), ("len", .globalImplicit), ("told", .cell)], isGenerator := false, isCoroutine := false }
abbrev NMs : List Str := ["rooms", "told", "room", "one"]
theorem scMs : FnScope NMs ["rooms", "told"] (defScope s_law_many_stays) := ⟨rfl, rfl, rfl, by decide +kernel, rfl, by decide +kernel, by decide +kernel⟩
theorem ok_many {f : Addr} {fd : FuncData} (F : Fun K "_law_many_stays" "_law_many_stays" s_law_many_stays f fd) (T : TxtMs mg) : FnOk P w K mg base CX0 1 f fd ["rooms", "told"] spMany := by
  refine F.ok scMs (fun vs H Q E h => ?_) (fun cdv A outer s H vs Q E hr h => ?_)
  · obtain ⟨p, t, rs, ts, L, rfl, _⟩ := h
    rfl
  · obtain ⟨p, t, rs, ts, L, rfl, hp, nd, lr, ht, rn, lL, k⟩ := h
    refine ⟨_, pss_one (ps_ret (pe_callTy (call_dictP rfl) (by rfl) T.dict (by decide +kernel) (pa_cons
      (pe_lc (te := tTup (tCons (tVar 2) (tCons (tCB (rLenS K) (tCons (tLc (iList K (tVar 1)) (gName 3) (tTest (tOp rEq (tOp (rIxT K) (tVar 3) (tC (.int 0))) (tVar 2))) (tVar 3) [3]) tNil)) tNil))) (own := [("room", 2)]) (g := gName 2) (tt := tYes) rfl scMs.nd (pi_list (pe_callB cr_sortedS (by rfl) T.srt PyProof.Rows.boot_sorted (pa_cons (pv 0) pa_nil))) (blkOk_by (N := NMs) (sc := defScope s_law_many_stays) (by decide +kernel))
        (fun _ _ _ _ _ => pg_name (i := 2) scMs.nd rfl (Or.inr rfl)) (fun _ _ _ _ _ => pts_nil)
        (fun _ _ _ _ _ => by exact (pe_tup (pa_cons (pv 2) (pa_cons (pe_callB call_len_seq (by rfl) T.len PySem.boot_len (pa_cons
          (pe_lc (te := tVar 3) (own := [("one", 3)]) (g := gName 3) (tt := tTest (tOp rEq (tOp (rIxT K) (tVar 3) (tC (.int 0))) (tVar 2))) rfl scMs.nd (pi_list (pv 1)) (blkOk_by (N := NMs) (sc := scMsB) (by decide +kernel))
            (fun _ _ _ _ _ => pg_name (i := 3) scMs.nd rfl (Or.inl rfl)) (fun _ _ _ _ _ => by exact (pts_one (pt_cmpR op_eq (pe_ix ix_tup (pv 3) pe_int (fun _ _ => rfl)) (pv 2) (nomark _)))) (fun _ _ _ _ _ => pv 3)) pa_nil)) pa_nil))))) pa_nil))), ?_⟩
    refine ⟨_, rfl, p, rs, rfl, .inl (.inl hp), Nat.lt_of_lt_of_le lr (by decide), fun ys b py sy nb => ⟨b, rfl, ⟨_, SqL.of upd_same⟩, fun D hD => ?_⟩⟩
    have g1 := Gr.upd (o := .lst (ys.map V.str)) nb
    have ly : ys.length < 60 := by
      rw [py.length_eq]
      exact lr
    refine lc_it (walk_list (xs := ys.map V.str)) (fun i H' => ∃ qs : List Addr, H' D = some (.lst (qs.map V.ref)) ∧ Paired (fun (q : Addr) (r : Str) => H' q = some (.tup [.str r, .int (runs L r : Int)])) qs (ys.take i) ∧ Gr (upd H b (.lst (ys.map V.str))) H') ⟨[], upd_same, .nil, Gr.upd hD⟩ (fun i H' _ g => ?_) ?_ ?_
    · obtain ⟨qs, _, _, g3⟩ := g
      exact SqL.of (g3.s _ _ upd_same)
    · rintro i v H' H'' hi ⟨qs, w1, w2, w3⟩ ⟨rfl, hv⟩
      have hi2 : i < ys.length := by simpa using hi
      obtain rfl : V.str ys[i] = v := by
        rw [List.getElem?_map, List.getElem?_eq_getElem hi2] at hv
        exact Option.some.inj hv
      have tk : ys.take (i + 1) = ys.take i ++ [ys[i]] := (List.take_append_getElem hi2).symm
      generalize ys[i] = r at tk
      have g13 := g1.trans w3
      have ht3 := g13.s _ _ ht
      refine ⟨rfl, _, rfl, _, rfl, t, rfl, ⟨_, SqL.of ht3⟩, fun B hB => ?_⟩
      refine lc_it (walk_list (xs := ts.map V.ref)) (fun j H3 => ∃ us : List Addr, H3 B = some (.lst (us.map V.ref)) ∧ us.length = runs (L.take j) r ∧ Gr H'' H3) ⟨[], upd_same, rfl, Gr.upd hB⟩ (fun j H3 _ g => ?_) ?_ ?_
      · obtain ⟨us, _, _, g3⟩ := g
        exact SqL.of (g3.s _ _ ht3)
      · rintro j v H3 H4 hj ⟨us, z1, z2, z3⟩ ⟨rfl, hv⟩
        rw [List.getElem?_map] at hv
        obtain ⟨t1, et, rfl⟩ := Option.map_eq_some_iff.mp hv
        obtain ⟨e, ee, te⟩ := paired_at rn et
        have he := (g13.trans z3).s _ _ te
        have tkL : L.take (j + 1) = L.take j ++ [e] := by
          rw [List.take_add_one, ee]
          rfl
        have ru : runs (L.take (j + 1)) r = runs (L.take j) r + if e.1 = r then 1 else 0 := by
          unfold runs
          rw [tkL, List.filter_append, List.length_append]
          by_cases q : e.1 = r
          · rw [if_pos q, List.filter_cons_of_pos (by simp [q])]
            rfl
          · rw [if_neg q, List.filter_cons_of_neg (by simp [q])]
            rfl
        refine ⟨rfl, _, rfl, t1, _, 0, .str e.1, rfl, rfl, SqT.of he, rfl, _, rfl, rfl, _, rfl, ?_⟩
        by_cases q : e.1 = r
        · refine iteT2 (by rw [q]; simp) ?_
          refine ⟨_, rfl, _, z1, ?_, us ++ [t1], ?_, ?_, z3.put hB⟩
          · rw [List.length_map, z2]
            refine Nat.lt_of_le_of_lt (List.length_filter_le _ _) (Nat.lt_of_le_of_lt ?_ (Nat.lt_trans lL (by decide)))
            rw [List.length_take]
            exact Nat.min_le_right _ _
          · rw [upd_same, List.map_append]
            rfl
          · rw [List.length_append, z2, ru, if_pos q]
            rfl
        · refine iteF2 (by simp [q]) ⟨us, z1, ?_, z3⟩
          rw [z2, ru, if_neg q]
          rfl
      · rintro H3 ⟨us, z1, z2, z3⟩
        rw [List.length_map, paired_len rn, List.take_length] at z2
        refine ⟨B, _, rfl, .inl (SqL.of z1), (by show 2 ≤ sizeLine; decide), fun T nT => ?_⟩
        have u1 := Gr.upd (o := .tup [.str r, .int ((us.map V.ref).length : Int)]) nT
        have g4 := z3.trans u1
        have w1' := g4.s _ _ w1
        refine ⟨_, w1', ?_, qs ++ [T], ?_, ?_, (w3.trans g4).put hD⟩
        · rw [List.length_map, paired_len w2, List.length_take]
          exact Nat.lt_of_le_of_lt (Nat.min_le_right _ _) (Nat.lt_trans ly (by decide))
        · rw [upd_same, List.map_append]
          rfl
        · rw [tk]
          have off : ∀ (q : Addr) (x : Str), H'' q = some (.tup [.str x, .int (runs L x : Int)]) → upd (upd H3 T (.tup [.str r, .int ((us.map V.ref).length : Int)])) D (.lst (qs.map V.ref ++ [V.ref T])) q = some (.tup [.str x, .int (runs L x : Int)]) := fun q x e => by
            have nq : q ≠ D := ne_of e w1 (by intro z; cases z)
            rw [upd_ne nq]
            exact g4.s _ _ e
          refine paired_snoc ?_ (Paired.imp off w2)
          have nT2 : T ≠ D := (ne_of_none (z3.s _ _ w1) nT).symm
          rw [upd_ne nT2, upd_same, List.length_map, z2]
    · rintro H' ⟨qs, w1, w2, w3⟩
      rw [List.length_map, List.take_length] at w2
      have pr : Paired (fun (q : Addr) (kv : Key × V) => SqT K H' q [kV kv.1, kv.2]) qs (TM ys (NI (runs L))) := by
        clear w1 py sy g1 ly hD nb w3
        induction w2 with
        | nil => exact .nil
        | cons r _ ih => exact .cons (SqT.of r) ih
      refine ⟨D, qs, TM ys (NI (runs L)), rfl, SqL.of w1, pr, fun d nd2 => ?_⟩
      have ndy : ys.Nodup := py.nodup_iff.mpr nd
      rw [show mergeK ([] : List (Key × V)) (TM ys (NI (runs L))) = TM ys (NI (runs L)) from tm_merge (ks := []) ndy]
      exact k _ d ys py sy upd_same ((g1.trans w3).trans (Gr.upd nd2)) ((g1.trans w3).n _ nd2)
end
end Lamp
set_option maxHeartbeats 8000000
namespace Lamp
open PySem PySem.Spec PyProof.Rows L2
/-! ### pairs as data, steps of a way, sums -/
def pd (e : Ed) : PyData := .tuple [.str e.1, .str e.2]
theorem pd_eq (x y : Ed) : PyData.eqv (pd x) (pd y) = decide (x = y) := by
  obtain ⟨a, b⟩ := x
  obtain ⟨c, d⟩ := y
  unfold pd
  simp only [PyData.eqv, PyData.eqvAll]
  rw [Bool.eq_iff_iff]
  simp
theorem any_pd {es : List Ed} {e : Ed} : ((es.map pd).any fun z => PyData.eqv z (pd e)) = decide (e ∈ es) := by
  rw [Bool.eq_iff_iff, List.any_eq_true, decide_eq_true_iff]
  refine ⟨fun ⟨z, m, q⟩ => ?_, fun m => ⟨pd e, List.mem_map.mpr ⟨e, m, rfl⟩, by rw [pd_eq, decide_eq_true rfl]⟩⟩
  obtain ⟨x, mx, rfl⟩ := List.mem_map.mp m
  rw [pd_eq] at q
  rw [← of_decide_eq_true q]
  exact mx
theorem shaped_pd {e : Ed} (h1 : PyData.strOk e.1 = true) (h2 : PyData.strOk e.2 = true) : SeqAt.shaped (pd e) = true := by
  have l : PyData.canLayAll0 [PyData.str e.1, PyData.str e.2] = true := lay_strs (xs := [e.1, e.2]) fun x hx => by
    rcases List.mem_cons.mp hx with rfl | hx
    · exact h1
    · rw [List.mem_singleton.mp hx]
      exact h2
  have d : PyData.depth (pd e) ≤ 64 := by
    show PyData.depthAll [PyData.str e.1, PyData.str e.2] + 1 ≤ 64
    show max 0 (max 0 0) + 1 ≤ 64
    decide
  show (PyData.canLayAll0 [PyData.str e.1, PyData.str e.2] && decide (PyData.depth (pd e) ≤ 64)) = true
  rw [l, decide_eq_true d]
  rfl
theorem dp_pd {K : PySem.W.Frag} {H : Hp} {t : Addr} {e : Ed} (h : H t = some (.tup [.str e.1, .str e.2])) : Dp K H (.ref t) (pd e) := .tup (SqT.of h) (.cons (.str _) (.cons (.str _) .nil))
theorem dpAll_pd {K : PySem.W.Frag} {H : Hp} : ∀ {ts : List Addr} {es : List Ed}, TupsAt H ts es → DpAll K H (ts.map V.ref) (es.map pd)
  | [], [], _ => .nil
  | [], _ :: _, h => by cases h
  | _ :: _, [], h => by cases h
  | t :: ts, e :: es, h => by
    cases h with
    | cons h1 h2 => exact .cons (dp_pd h1) (dpAll_pd h2)
theorem lay_pds : ∀ {es : List Ed}, (∀ e ∈ es, PyData.strOk e.1 = true ∧ PyData.strOk e.2 = true) → PyData.canLayAll0 (es.map pd) = true ∧ PyData.depthAll (es.map pd) ≤ 1
  | [], _ => ⟨rfl, Nat.zero_le _⟩
  | e :: es, h => by
    obtain ⟨h1, h2⟩ := lay_pds (es := es) fun x hx => h x (List.mem_cons_of_mem _ hx)
    obtain ⟨q1, q2⟩ := h e List.mem_cons_self
    have s := shaped_pd q1 q2
    have s2 : (PyData.canLay0 (pd e) && decide (PyData.depth (pd e) ≤ 64)) = true := s
    rw [Bool.and_eq_true] at s2
    refine ⟨?_, ?_⟩
    · show (PyData.canLay0 (pd e) && PyData.canLayAll0 (es.map pd)) = true
      rw [s2.1, h1]
      rfl
    · show max (PyData.depth (pd e)) (PyData.depthAll (es.map pd)) ≤ 1
      have d : PyData.depth (pd e) = 1 := rfl
      omega
theorem shaped_pds {es : List Ed} (h : ∀ e ∈ es, PyData.strOk e.1 = true ∧ PyData.strOk e.2 = true) : SeqAt.shaped (.list (es.map pd)) = true := by
  obtain ⟨h1, h2⟩ := lay_pds h
  have d : PyData.depth (.list (es.map pd)) ≤ 64 := by
    show PyData.depthAll (es.map pd) + 1 ≤ 64
    omega
  show (PyData.canLayAll0 (es.map pd) && decide (PyData.depth (.list (es.map pd)) ≤ 64)) = true
  rw [h1, decide_eq_true d]
  rfl
/-- the steps of a way -/
def stp (u : List Str) : List Ed := u.zip (u.drop 1)
theorem stp_mem {u : List Str} {a b : Str} : (a, b) ∈ stp u ↔ ∃ j, j + 1 < u.length ∧ at_ u j = a ∧ at_ u (j + 1) = b := by
  unfold stp
  constructor
  · intro m
    obtain ⟨j, e⟩ := List.getElem?_of_mem m
    rw [List.getElem?_zip_eq_some, List.getElem?_drop] at e
    obtain ⟨e1, e2⟩ := e
    rw [Nat.add_comm] at e2
    exact ⟨j, (List.getElem?_eq_some_iff.mp e2).1, at_some e1, at_some e2⟩
  · rintro ⟨j, lt, h1, h2⟩
    refine List.mem_of_getElem? (i := j) ?_
    rw [List.getElem?_zip_eq_some, List.getElem?_drop]
    refine ⟨by rw [at_lt (by omega), h1], ?_⟩
    rw [Nat.add_comm, at_lt lt, h2]
theorem trs_stp {u : List Str} (nd : u.Nodup) (a b : Str) : trs u a b u.length = if (a, b) ∈ stp u then 1 else 0 := by
  have le := trs_one (a := a) (b := b) nd (Nat.le_refl u.length)
  by_cases m : (a, b) ∈ stp u
  · rw [if_pos m]
    obtain ⟨j, lt, h1, h2⟩ := stp_mem.mp m
    have := trs_of lt h1 h2
    omega
  · rw [if_neg m]
    rcases Nat.eq_zero_or_pos (trs u a b u.length) with z | z
    · exact z
    · obtain ⟨j, lt, h1, h2⟩ := trs_pos z
      exact absurd (stp_mem.mpr ⟨j, lt, h1, h2⟩) m
theorem cut_one {u : List Str} (ne : 0 < u.length) (small : u.length < 100) : cutV (u.map V.str) (some 1) none = (u.drop 1).map V.str := by
  have e1 : HT.sIx (u.map V.str).length 0 (some 1) = 1 := by
    unfold HT.sIx
    simp
    omega
  have e2 : HT.sIx (u.map V.str).length (u.map V.str).length none = u.length := by
    unfold HT.sIx
    simp
  unfold cutV
  rw [e1, e2, List.take_of_length_le (by rw [List.length_drop, List.length_map]; exact Nat.le_refl _), List.map_drop]
theorem tups_zip {H : Hp} : ∀ {ts : List Addr} {xs ys : List Str}, Paired (fun (t : Addr) (q : V × V) => H t = some (.tup [q.1, q.2])) ts ((xs.map V.str).zip (ys.map V.str)) → TupsAt H ts (xs.zip ys)
  | [], [], _, _ => .nil
  | [], _ :: _, [], _ => .nil
  | [], x :: xs, y :: ys, h => by cases h
  | t :: ts, [], _, h => by cases h
  | t :: ts, _ :: _, [], h => by cases h
  | t :: ts, x :: xs, y :: ys, h => by
    cases h with
    | cons h1 h2 => exact .cons h1 (tups_zip h2)
theorem row_at0 {row : List Str} (ne : row ≠ []) : atI (row.map V.str) 0 = some (.str (at_ row 0)) := by
  cases row with
  | nil => exact absurd rfl ne
  | cons x row =>
    have e : ixN ((x :: row).map V.str).length 0 = some 0 := by
      unfold ixN
      rw [if_pos (by decide), if_pos (by rw [List.length_map, List.length_cons]; omega)]
      rfl
    unfold atI
    rw [e]
    rfl
theorem row_atl {row : List Str} (ne : row ≠ []) : atI (row.map V.str) (-1) = some (.str (at_ row (row.length - 1))) := by
  have e : row = row.dropLast ++ [row.getLast ne] := (List.dropLast_concat_getLast ne).symm
  have z : at_ row (row.length - 1) = row.getLast ne := at_some (by
    rw [List.getLast_eq_getElem]
    exact List.getElem?_eq_getElem _)
  rw [z]
  generalize row.getLast ne = x at e
  rw [e, List.map_append]
  exact atI_last _ _
/-- all of a row are counted in some room -/
theorem count_all {rs : List Str} (nd : rs.Nodup) : ∀ {row : List Str}, (∀ r ∈ row, r ∈ rs) → (rs.map fun r => row.count r).sum = row.length
  | [], _ => sum_zero fun y _ => rfl
  | x :: row, h => by
    have ih := count_all nd (row := row) fun r hr => h r (List.mem_cons_of_mem _ hr)
    have e : (fun r : Str => (x :: row).count r) = fun r => row.count r + if x = r then 1 else 0 := by
      funext r
      rw [List.count_cons]
      by_cases q : x = r
      · rw [if_pos q, if_pos (by rw [q]; exact beq_self_eq_true r)]
      · rw [if_neg q, if_neg (by rw [beq_eq_false_iff_ne.mpr q]; exact Bool.false_ne_true)]
    rw [e, sum_add, ih, sum_ind (g := fun _ => 1) nd (h x List.mem_cons_self)]
    rfl
theorem int_sum {α : Type} {c : α → Nat} : ∀ {l : List α}, (l.map fun e => ((c e : Nat) : Int)).sum = ((l.map c).sum : Nat)
  | [] => rfl
  | x :: l => by
    rw [List.map_cons, List.sum_cons, List.map_cons, List.sum_cons, int_sum]
    omega
theorem sum_filter {α : Type} {c : α → Nat} {p : α → Bool} : ∀ {l : List α}, ((l.filter p).map c).sum = (l.map fun e => if p e = true then c e else 0).sum
  | [] => rfl
  | x :: l => by
    by_cases q : p x = true
    · rw [List.filter_cons_of_pos q, List.map_cons, List.sum_cons, List.map_cons, List.sum_cons, if_pos q, sum_filter]
    · rw [List.filter_cons_of_neg q, List.map_cons, List.sum_cons, if_neg q, sum_filter, Nat.zero_add]
/-- passes to and from a room -/
theorem gone_sum {rs : List Str} {ds : List Ed} (gd : GoodH rs ds) {row : List Str} (car : Car rs ds row) (r : Str) : (((prs rs ds).filter fun e => decide (r ∈ [e.1, e.2])).map fun e => trs row e.1 e.2 row.length).sum = gon row r row.length := by
  rw [sum_filter, ← trs_sum (ps := prs rs ds) (r := r) (i := row.length) (prs_nodup gd) (fun p hp => ?_) (fun j hj ne _ => ?_)]
  · congr 1
    refine List.map_congr_left fun e _ => ?_
    have q : (decide (r ∈ [e.1, e.2]) = true) = (e.1 = r ∨ e.2 = r) := by
      rw [decide_eq_true_iff]
      simp only [List.mem_cons, List.not_mem_nil, or_false]
      exact propext ⟨fun z => z.imp Eq.symm Eq.symm, fun z => z.imp Eq.symm Eq.symm⟩
    simp only [q]
  · obtain ⟨a, b⟩ := p
    obtain ⟨ha, hb⟩ := prs_mem.mp hp
    exact (near_in gd.ends hb).2.2
  · have lt : j < row.length := by omega
    refine prs_mem.mpr ⟨car.mem _ (List.mem_of_getElem? (at_lt lt)), ?_⟩
    rcases car.nxt j _ _ (at_lt lt) (at_lt hj) with z | z
    · exact absurd z.symm ne
    · exact z
/-! ### a dict of pairs of rooms, its items in another order -/
def Its (H : Hp) (c : Ed → Nat) (t : Addr) (x : Ed × Addr) : Prop := H t = some (.tup [.ref x.2, .int (c x.1 : Int)]) ∧ H x.2 = some (.tup ((kE x.1).map kV))
theorem its_of {H H' : Hp} (s : Same H H') {c : Ed → Nat} : ∀ {ps : List Ed} {qs ts : List Addr}, Paired (fun (q : Addr) (kv : List Key × V) => H q = some (.tup (kv.1.map kV))) qs (PT ps c) → Paired (fun (t : Addr) (x : V × V) => H' t = some (.tup [x.1, x.2])) ts ((qs.map V.ref).zip ((PT ps c).map (·.2))) →
    ∃ Ls : List (Ed × Addr), Ls.map (·.1) = ps ∧ Paired (Its H' c) ts Ls
  | [], [], [], _, _ => ⟨[], rfl, .nil⟩
  | [], [], _ :: _, _, h => by cases h
  | [], _ :: _, _, h, _ => by cases h
  | _ :: _, [], _, h, _ => by cases h
  | p :: ps, q :: qs, [], _, h => by cases h
  | p :: ps, q :: qs, t :: ts, h, h' => by
    cases h with
    | cons h1 h2 =>
      cases h' with
      | cons h3 h4 =>
        obtain ⟨Ls, e, r⟩ := its_of s (ps := ps) h2 h4
        exact ⟨(p, q) :: Ls, by rw [List.map_cons, e], .cons ⟨h3, s _ _ h1⟩ r⟩
theorem its_dict {H : Hp} {c : Ed → Nat} : ∀ {ts : List Addr} {Ls : List (Ed × Addr)}, Paired (Its H c) ts Ls → Paired (fun (t : Addr) (e : List Key × Addr × V) => H t = some (.tup [.ref e.2.1, e.2.2]) ∧ H e.2.1 = some (.tup (e.1.map kV))) ts (Ls.map fun x => (kE x.1, x.2, V.int (c x.1 : Int)))
  | [], [], _ => .nil
  | [], _ :: _, h => by cases h
  | _ :: _, [], h => by cases h
  | t :: ts, x :: Ls, h => by
    cases h with
    | cons h1 h2 => exact .cons h1 (its_dict h2)
theorem put_all {c : Ed → Nat} : ∀ {Ls : List (Ed × Addr)} {ks : List Ed}, (ks ++ Ls.map (·.1)).Nodup → putAll (PT ks c) (Ls.map fun x => (kE x.1, x.2, V.int (c x.1 : Int))) = PT (ks ++ Ls.map (·.1)) c
  | [], ks, _ => by
    rw [List.map_nil, List.map_nil, List.append_nil]
    rfl
  | x :: Ls, ks, h => by
    have h2 : ((ks ++ [x.1]) ++ Ls.map (·.1)).Nodup := by
      rw [List.append_assoc]
      exact h
    have m : x.1 ∉ ks := fun z => (List.nodup_append.mp h).2.2 x.1 z x.1 List.mem_cons_self rfl
    show putAll (putK (PT ks c) (kE x.1) (V.int (c x.1 : Int))) (Ls.map fun x => (kE x.1, x.2, V.int (c x.1 : Int))) = _
    rw [pt_new m]
    have e : PT (ks ++ [x.1]) (putC c x.1 (c x.1)) = PT (ks ++ [x.1]) c := pt_ext fun p _ => by
      unfold putC
      by_cases q : p = x.1
      · rw [if_pos q, q]
      · rw [if_neg q]
    rw [e, put_all h2, List.append_assoc]
    rfl
end Lamp
set_option maxHeartbeats 8000000
namespace Lamp
open PySem PySem.Spec PyProof.Rows L2
/-! ### _law_one_right -/
section
variable {P : Program} {w : World} {K : PySem.W.Frag} {mg : Str → Option Value} {base : Heap} {C : Addr}
def spRight (C : Addr) : Sp := fun vs H Q _ => ∃ (a l h p q r : Addr) (n : Nat) (row rs rs0 : List Str) (ds : List Ed), vs = [.ref a, .ref h, .ref p, .ref q, .ref r] ∧ Spr H a l n ∧ HouseAt H C h rs ds ∧ GoodH rs ds ∧ sortedS rs = true ∧ (∀ x ∈ rs, nameOk x = true) ∧ H p = some (.lst (rs0.map V.str)) ∧ rs0.Perm rs ∧ H r = some (.lst (row.map V.str)) ∧ Car rs ds row ∧ row.length ≤ 100 ∧ n ≤ 800000 ∧
  ∀ H' k, k ≤ n + 8000 → Sb a l H H' → Spr H' a l k → Q (.bl true) H'
abbrev NRi : List Str := ["stream", "house", "rooms", "doors", "row", "counted", "told", "given", "onward", "steps", "many", "one", "other", "due", "room", "gone", "turned", "pair"]
theorem scRi : FnScope NRi ["stream", "house", "rooms", "doors", "row"] (defScope s_law_one_right) := ⟨rfl, rfl, rfl, by decide +kernel, rfl, by decide +kernel, by decide +kernel⟩
structure TxtRi (mg : Str → Option Value) : Prop where
  int : mg "int" = none
  sum : mg "sum" = none
  len : mg "len" = none
  list : mg "list" = none
  zip : mg "zip" = none
  dict : mg "dict" = none
theorem ok_right {f : Addr} {fd : FuncData} (F : Fun K "_law_one_right" "_law_one_right" s_law_one_right f fd) (T : TxtRi mg)
    (PO : Stands P w K mg base 5 "passes" ["house", "carrying"] (spPasses K C)) (SO : Stands P w K mg base 5 "stays" ["house", "carrying"] (spStays K C)) (LO : Stands P w K mg base 5 "ledger_of" ["house", "carrying"] (spLedger K C))
    (WO : Stands P w K mg base 4 "way" ["house", "one", "other"] (spWay K C)) (MO : Stands P w K mg base 1 "_law_many_stays" ["rooms", "told"] spMany) (XO : Stands P w K mg base 2 "_law_mixed" ["stream", "some"] (spMixed K))
    (BO : Stands P w K mg base 4 "stays_by" ["house", "counted", "first", "last"] (spBy C)) (EO : Stands P w K mg base 5 "_law_same" ["found", "due"] (spSame 3)) :
    FnOk P w K mg base CX0 6 f fd ["stream", "house", "rooms", "doors", "row"] (spRight C) := by
  obtain ⟨fp, dp, Gp, mp, kp, bp⟩ := PO
  obtain ⟨fs, dS, Gs', ms, ks, bs⟩ := SO
  obtain ⟨fl, dl, Gl', ml, kl, bl⟩ := LO
  obtain ⟨fw, dw, Gw, mw, kw, bw⟩ := WO
  obtain ⟨fm, dm, Gm, mm, km, bm⟩ := MO
  obtain ⟨fx, dx, Gx', mx, kx, bx⟩ := XO
  obtain ⟨fb, db, Gb, mb, kb, bb⟩ := BO
  obtain ⟨fe, de, Ge, me, ke, be⟩ := EO
  refine F.ok scRi (fun vs H Q E h => ?_) (fun cdv A outer s H vs Q E hr h => ?_)
  · obtain ⟨a, l, h, p, q, r, n, row, rs, rs0, ds, rfl, _⟩ := h
    rfl
  · obtain ⟨a, l, h, p, q, r, n, row, rs, rs0, ds, rfl, hS, hh, gd, so, ok, hp, pr, hrow, car, lrow, hn, k⟩ := h
    have hu := Nat.lt_of_le_of_lt (Nat.add_le_add_left (show 1 ≤ 64 by decide) _) hr.units
    have hu2 := Nat.lt_of_le_of_lt (Nat.add_le_add_left (show 2 ≤ 64 by decide) _) hr.units
    have hu3 : (A.deeper (envOfC (Str.ofString "_law_one_right") (defScope s_law_one_right) s.heap.objs.size f cdv)).units + 65 < cLine := by
      have := hr.un
      omega
    refine ⟨_, pss_cons (ps_asg (pe_tup (pa_cons (pe_call Gp hr (by rfl) mp kp bp .nil pass0 (pa_cons (pv 1) (pa_cons (pv 4) pa_nil))) (pa_cons (pe_call Gs' hr (by rfl) ms ks bs .nil pass0 (pa_cons (pv 1) (pa_cons (pv 4) pa_nil))) (pa_cons (pe_call Gl' hr (by rfl) ml kl bl .nil pass0 (pa_cons (pv 1) (pa_cons (pv 4) pa_nil))) pa_nil))))
        (pg_tup rfl (pgs_cons (pg_name (i := 5) scRi.nd rfl (Or.inr rfl)) (pgs_cons (pg_name (i := 6) scRi.nd rfl (Or.inl rfl)) (pgs_cons (pg_name (i := 7) scRi.nd rfl (Or.inl rfl)) pgs_nil)))))
      (pss_cons (ps_set (i := 8) scRi.nd rfl (Or.inl rfl) (pe_call Gw (hr.mono (by decide)) (by rfl) mw kw bw .nil pass0 (pa_cons (pv 1) (pa_cons (pe_ix ix_list (pv 4) pe_int (fun _ _ => rfl)) (pa_cons (pe_ix ix_list (pv 4) (pe_un un_neg pe_int) (fun _ _ => rfl)) pa_nil)))))
      (pss_cons (ps_par (i := 9) (j := 10) (by rfl) scRi.nd rfl rfl (by decide) rfl rfl (pa_cons (pe_listZip rfl (pa_cons (pv 8) (pa_cons (pe_slice sl_list (pv 8) (po_some pe_int) po_none) pa_nil)) (by rfl) T.list PyProof.Rows.Boot.list (by rfl) T.zip PyProof.Rows.boot_zip) (pa_cons (pe_call Gm (hr.mono (by decide)) (by rfl) mm km bm .nil pass0 (pa_cons (pv 2) (pa_cons (pv 6) pa_nil))) pa_nil)) (by rfl))
      (pss_cons (ps_lock (ps_for PassesOwn.never rfl (pi_keys (pv 5)) (pg_tup rfl (pgs_cons (pg_name (i := 11) scRi.nd rfl (Or.inl rfl)) (pgs_cons (pg_name (i := 12) scRi.nd rfl (Or.inl rfl)) pgs_nil)))
        (pss_cons (ps_set (i := 13) scRi.nd rfl (Or.inl rfl) (pe_op op_sub (pe_callTy call_int1 (by rfl) T.int (by decide +kernel) (pa_cons (pe_cmpR (op_inD hu3) (pe_tup (pa_cons (pv 11) (pa_cons (pv 12) pa_nil))) (pv 9) (by rfl)) pa_nil)) (pe_callTy call_int1 (by rfl) T.int (by decide +kernel) (pa_cons (pe_cmpR (op_inD hu3) (pe_tup (pa_cons (pv 12) (pa_cons (pv 11) pa_nil))) (pv 9) (by rfl)) pa_nil))))
        (pss_one (ps_if (pt_cmpR op_ne (pe_op op_sub (pe_dget hu (pv 5) (pe_tup (pa_cons (pv 11) (pa_cons (pv 12) pa_nil))) (fun _ _ => rfl)) (pe_dget hu (pv 5) (pe_tup (pa_cons (pv 12) (pa_cons (pv 11) pa_nil))) (fun _ _ => rfl))) (pv 13) (nomark _)) pss_dead pss_nil)))))
      (pss_cons (ps_for PassesOwn.never rfl (pi_list (pv 2)) (pg_name (i := 14) scRi.nd rfl (Or.inr rfl))
        (pss_cons (ps_set (i := 15) scRi.nd rfl (Or.inl rfl) (pe_callB (cr_sum rfl) (by rfl) T.sum PyProof.Rows.Boot.sum (pa_cons
          (pe_lock (pe_lc (te := tDGet (tVar 5) (tVar 17)) (own := [("pair", 17)]) (g := gName 17) (tt := tTest (tOp (rIn K false) (tVar 14) (tVar 17))) rfl scRi.nd (pi_keys (pv 5)) (blkOk_by (N := NRi) (sc := defScope s_law_one_right) (by decide +kernel))
            (fun _ _ _ _ _ => pg_name (i := 17) scRi.nd rfl (Or.inl rfl)) (fun _ _ _ _ _ => by exact (pts_one (pt_cmpR op_in_seq (pv 14) (pv 17) (by rfl)))) (fun _ _ _ _ _ => by exact (pe_dget hu (pv 5) (pv 17) (fun _ _ => rfl))))) pa_nil)))
        (pss_one (ps_if (PW.pt (pw_or (pt_cmpR op_ne (pe_op op_add (pe_op op_add (pv 15) (pe_callTy call_int1 (by rfl) T.int (by decide +kernel) (pa_cons (pe_cmpR op_eq (pv 14) (pe_ix ix_list (pv 4) pe_int (fun _ _ => rfl)) (nomark _)) pa_nil))) (pe_callTy call_int1 (by rfl) T.int (by decide +kernel) (pa_cons (pe_cmpR op_eq (pv 14) (pe_ix ix_list (pv 4) (pe_un un_neg pe_int) (fun _ _ => rfl)) (nomark _)) pa_nil)))
            (pe_op op_mul pe_int (pe_dget hu (pv 10) (pv 14) (fun _ _ => rfl))) (nomark _)) (pw_or1 (pt_cmpR op_lt (pe_dget hu (pv 7) (pv 14) (fun _ _ => rfl)) (pe_dget hu (pv 10) (pv 14) (fun _ _ => rfl)) (nomark _))))) pss_dead pss_nil))))
      (pss_cons (ps_if (PW.pt (pw_or (pt_cmpR op_ne (pe_callB (cr_sum rfl) (by rfl) T.sum PyProof.Rows.Boot.sum (pa_cons (pe_listVals rfl (pv 7) (by rfl) T.list PyProof.Rows.Boot.list) pa_nil)) (pe_callB call_len_seq (by rfl) T.len PySem.boot_len (pa_cons (pv 4) pa_nil)) (nomark _))
          (pw_or1 (pt_cmpR op_ne (pe_callB (cr_sum rfl) (by rfl) T.sum PyProof.Rows.Boot.sum (pa_cons
            (pe_lc (te := tOp (rIxT K) (tVar 11) (tC (.int 1))) (own := [("one", 11)]) (g := gName 11) (tt := tYes) rfl scRi.nd (pi_list (pv 6)) (blkOk_by (N := NRi) (sc := defScope s_law_one_right) (by decide +kernel))
              (fun _ _ _ _ _ => pg_name (i := 11) scRi.nd rfl (Or.inl rfl)) (fun _ _ _ _ _ => pts_nil) (fun _ _ _ _ _ => by exact (pe_ix ix_tup (pv 11) pe_int (fun _ _ => rfl)))) pa_nil)) (pe_callB call_len_seq (by rfl) T.len PySem.boot_len (pa_cons (pv 4) pa_nil)) (nomark _))))) pss_dead pss_nil)
      (pss_cons (ps_set (i := 16) scRi.nd rfl (Or.inl rfl) (pe_callTy (cr_dictT rfl hu2) (by rfl) T.dict (by decide +kernel) (pa_cons (pe_call Gx' (hr.mono (by decide)) (by rfl) mx kx bx .nil pass0 (pa_cons (pv 0) (pa_cons (pe_callTy (cr_itemsL2 rfl) (by rfl) T.list (by decide +kernel) (pa_cons (pe_bm0 PySem.F.plainAttrs_dict PySem.F.slot_dict_items PySem.F.type_dict_items DX.mt_itemsT (pv 5)) pa_nil)) pa_nil))) pa_nil)))
      (pss_cons (ps_expr (pe_dclear (pe_call Gb (hr.mono (by decide)) (by rfl) mb kb bb .nil pass0 (pa_cons (pv 1) (pa_cons (pv 16) (pa_cons (pe_ix ix_list (pv 4) pe_int (fun _ _ => rfl)) (pa_cons (pe_ix ix_list (pv 4) (pe_un un_neg pe_int) (fun _ _ => rfl)) pa_nil)))))))
      (pss_one (ps_ret (pe_call Ge hr (by rfl) me ke be .nil pass0 (pa_cons (pe_call Gb (hr.mono (by decide)) (by rfl) mb kb bb .nil pass0 (pa_cons (pv 1) (pa_cons (pv 16) (pa_cons (pe_ix ix_list (pv 4) pe_int (fun _ _ => rfl)) (pa_cons (pe_ix ix_list (pv 4) (pe_un un_neg pe_int) (fun _ _ => rfl)) pa_nil))))) (pa_cons (pv 10) pa_nil))))))))))))
      , ?_⟩
    have ty : ∀ {H' : Hp}, H' r = some (.lst (row.map V.str)) → ∀ H2, Same H' H2 → TyX K H2 (.ref r) (.type "list") := fun e H2 s2 => .base (.lst (s2 _ _ e))
    have rl : row.length < 1000 := by omega
    have rpos : 0 < row.length := List.length_pos_iff.mpr car.ne
    refine ⟨_, rfl, _, rfl, h, r, row, rs, ds, rfl, hh, gd, SqL.of hrow, ty hrow, car, rl, fun H1 c1 e1 g1 n1 => ?_⟩
    have hrow1 := g1.s _ _ hrow
    refine ⟨_, rfl, _, rfl, h, r, row, rs, ds, rfl, hh.same g1.s, SqL.of hrow1, ty hrow1, car, rl, fun H2 t2 ts L e2 rn2 inv lL g2 n2 => ?_⟩
    have g12 := g1.trans g2
    have hrow2 := g12.s _ _ hrow
    refine ⟨_, rfl, _, rfl, h, r, row, rs, ds, rfl, hh.same g12.s, SqL.of hrow2, ty hrow2, gd.nodup, Nat.lt_trans gd.len (by decide), car, fun H3 d3 e3 g3 n3 => ?_⟩
    have g13 := g12.trans g3
    refine ⟨(by show 3 ≤ sizeLine; decide), fun T nT => ?_⟩
    have g14 := g13.trans (Gr.upd (o := .tup [.ref c1, .ref t2, .ref d3]) nT)
    refine ⟨T, _, rfl, SqT.of upd_same, rfl, _, _, rfl, _, _, rfl, _, _, rfl, rfl, ?_⟩
    have m0 : at_ row 0 ∈ rs := car.mem _ (List.mem_of_getElem? (at_lt rpos))
    have m1 : at_ row (row.length - 1) ∈ rs := car.mem _ (List.mem_of_getElem? (at_lt (by omega)))
    have hrow4 := g14.s _ _ hrow
    refine ⟨_, rfl, _, rfl, r, _, 0, _, rfl, rfl, SqL.of hrow4, row_at0 car.ne, _, rfl, _, rfl, r, _, -1, _, rfl, rfl, SqL.of hrow4, row_atl car.ne, ?_⟩
    refine ⟨h, at_ row 0, at_ row (row.length - 1), rs, ds, rfl, hh.same g14.s, gd.len, m0, m1, gd.ends, gd.join, fun H5 q5 fs nv dd u fnd fmem led wt e5 g5 n5 => ?_⟩
    have upos := wt.pos
    have ul : u.length < 100 := by
      have := nodup_le wt.nodup fun x hx => (fmem x).mp (wt.mem x hx)
      have := gd.len
      omega
    have g15 := g14.trans g5
    refine ⟨_, rfl, _, rfl, 1, rfl, q5, _, rfl, SqL.of e5, fun p6 n6 => ?_⟩
    rw [cut_one upos ul]
    have g6 := Gr.upd (o := .lst ((u.drop 1).map V.str)) n6
    have e56 := g6.s _ _ e5
    refine ⟨q5, p6, _, _, rfl, SqL.of e56, SqL.of upd_same, fun H7 s7 st g7 n7 e7 pt7 => ?_⟩
    have tz : TupsAt H7 st (stp u) := tups_zip pt7
    have g17 := (g15.trans g6).trans g7
    have g37 : Gr H3 H7 := (((Gr.upd (o := .tup [.ref c1, .ref t2, .ref d3]) nT).trans g5).trans g6).trans g7
    have g27 := g3.trans g37
    have rn7 : RnAt H7 ts L := Paired.imp (fun _ _ e => g27.s _ _ e) rn2
    refine ⟨_, rfl, _, rfl, p, t2, rs0, ts, L, rfl, g17.s _ _ hp, pr.nodup_iff.mpr gd.nodup, by rw [pr.length_eq]; exact gd.len, g27.s _ _ e2, rn7, by omega, fun H8 mn rs' pm sm e8 g8 n8 => ?_⟩
    have ers : rs' = rs := sorted_one (pm.trans pr) sm so
    subst ers
    have erun : ∀ x, runs L x = stn row x row.length := fun x => inv.many x
    refine ⟨_, _, rfl, ?_⟩
    have g18 := g17.trans g8
    have g38 := g37.trans g8
    have g28 := g27.trans g8
    have g1_8 : Gr H1 H8 := g2.trans g28
    have ec : H8 c1 = some (.dT (PT (prs rs' ds) fun e => trs row e.1 e.2 row.length)) := g1_8.s _ _ e1
    have ed : H8 d3 = some (.dK (TM rs' (NI fun r => row.count r))) := g38.s _ _ e3
    have est := g8.s _ _ e7
    have tz8 : TupsAt H8 st (stp u) := Paired.imp (fun _ _ e => g8.s _ _ e) tz
    have hrow8 := g18.s _ _ hrow
    have hp8 := g18.s _ _ hp
    have hh8 := hh.same g18.s
    have rn8 : RnAt H8 ts L := Paired.imp (fun _ _ e => g8.s _ _ e) rn7
    have et8 := g28.s _ _ e2
    have c1N : H c1 = none := n1
    clear g5 g6 g7 pt7 rn7 tz e56 n6 n5 n7 g15 e5 nT g14 hrow4 n3 g3 hrow2 g12 n2 g2 hrow1
    have uin : ∀ x ∈ u, x ∈ rs' := fun x hx => (fmem x).mp (wt.mem x hx)
    have sok : ∀ e ∈ stp u, PyData.strOk e.1 = true ∧ PyData.strOk e.2 = true := fun e he => by
      obtain ⟨x, y⟩ := e
      obtain ⟨j, lt, h1, h2⟩ := stp_mem.mp he
      refine ⟨strOk_name (ok _ (uin _ ?_)), strOk_name (ok _ (uin _ ?_))⟩
      · rw [← h1]
        exact List.mem_of_getElem? (at_lt (by omega))
      · rw [← h2]
        exact List.mem_of_getElem? (at_lt lt)
    have shp := shaped_pds sok
    have cw : ∀ {x y : Str}, y ∈ nearOf ds x → (trs row x y row.length : Int) - trs row y x row.length = (if (x, y) ∈ stp u then 1 else 0 : Nat) - (if (y, x) ∈ stp u then 1 else 0 : Nat) := fun {x y} m => by
      have z := car_way gd car wt led rfl rfl m
      rw [trs_stp wt.nodup, trs_stp wt.nodup] at z
      exact z
    have nsym : ∀ {x y : Str}, y ∈ nearOf ds x → x ∈ nearOf ds y := fun m => near_sym (fun e he => (gd.ends e he).2.2) m
    have plen : (prs rs' ds).length ≤ 3600 := by
      have pl := prs_len (rs := rs') (ds := ds)
      have pl2 : rs'.length * ds.length ≤ 60 * 60 := Nat.mul_le_mul (Nat.le_of_lt gd.len) (Nat.le_of_lt gd.dlen)
      omega
    refine ⟨c1, _, ec, trivial, fun od => ?_⟩
    refine ⟨_, rfl, c1, od, rfl, .inr ⟨_, upd_same, ?_⟩⟩
    have gL : Gr H (upd H8 c1 (.frz od (.dT (PT (prs rs' ds) fun e => trs row e.1 e.2 row.length)))) := g18.put c1N
    have offL : ∀ {b : Addr} {o : HO}, H8 b = some o → b ≠ c1 → upd H8 c1 (.frz od (.dT (PT (prs rs' ds) fun e => trs row e.1 e.2 row.length))) b = some o := fun e nb => by
      rw [upd_ne nb]
      exact e
    have estL := offL est (ne_of est ec (by intro z; cases z))
    have tzL : TupsAt (upd H8 c1 (.frz od (.dT (PT (prs rs' ds) fun e => trs row e.1 e.2 row.length)))) st (stp u) := Paired.imp (fun _ _ e => offL e (ne_of e ec (by intro z; cases z))) tz8
    refine for_it walk_keysT (fun i σ' H' => ∃ (v11 v12 v13 : Option V), σ' = [some (.ref a), some (.ref h), some (.ref p), some (.ref q), some (.ref r), some (.ref c1), some (.ref t2), some (.ref d3), some (.ref q5), some (.ref s7), some (.ref mn), v11, v12, v13, none, none, none, none] ∧ Gr (upd H8 c1 (.frz od (.dT (PT (prs rs' ds) fun e => trs row e.1 e.2 row.length)))) H') ⟨_, _, _, rfl, Gr.refl _⟩ ?_ ?_ ?_
    · rintro i σ' H' _ ⟨v11, v12, v13, rfl, z⟩
      exact z.s _ _ upd_same
    · rintro i v σ' H' H'' hi ⟨v11, v12, v13, rfl, z⟩ ⟨rfl, kk, vv, qa, f1, rfl, f3⟩
      have hi2 : i < (prs rs' ds).length := by
        rw [pt_len] at hi
        exact hi
      have ki : (PT (prs rs' ds) fun e => trs row e.1 e.2 row.length)[i]? = some (kE (prs rs' ds)[i], .int (trs row (prs rs' ds)[i].1 (prs rs' ds)[i].2 row.length : Int)) := by
        unfold PT
        rw [List.getElem?_map, List.getElem?_eq_getElem hi2]
        rfl
      rw [ki] at f1
      obtain ⟨rfl, rfl⟩ := Prod.mk.inj (Option.some.inj f1)
      have mi : (prs rs' ds)[i] ∈ prs rs' ds := List.getElem_mem hi2
      generalize (prs rs' ds)[i] = e at mi f3
      clear ki f1
      obtain ⟨x, y⟩ := e
      obtain ⟨mx, my⟩ := prs_mem.mp mi
      have my' := nsym my
      have myr : y ∈ rs' := (near_in gd.ends my).1
      have mi' : (y, x) ∈ prs rs' ds := prs_mem.mpr ⟨myr, my'⟩
      refine ⟨qa, _, rfl, SqT.of f3, rfl, _, _, rfl, _, _, rfl, rfl, ?_⟩
      have okx := strOk_name (ok _ mx)
      have oky := strOk_name (ok _ myr)
      refine ⟨_, rfl, _, rfl, (by show 2 ≤ sizeLine; decide), fun t1 nt1 => ?_⟩
      have u1 := z.trans (Gr.upd (o := .tup [.str x, .str y]) nt1)
      refine ⟨_, rfl, pd (x, y), (stp u).map pd, dp_pd upd_same, .lst (SqL.of (u1.s _ _ estL)) (dpAll_pd (Paired.imp (fun _ _ e => u1.s _ _ e) tzL)), shaped_pd okx oky, shp, .inr ⟨_, rfl, ?_⟩⟩
      refine ⟨_, rfl, _, rfl, (by show 2 ≤ sizeLine; decide), fun t3 nt3 => ?_⟩
      have u2 := u1.trans (Gr.upd (o := .tup [.str y, .str x]) nt3)
      refine ⟨_, rfl, pd (y, x), (stp u).map pd, dp_pd upd_same, .lst (SqL.of (u2.s _ _ estL)) (dpAll_pd (Paired.imp (fun _ _ e => u2.s _ _ e) tzL)), shaped_pd oky okx, shp, .inr ⟨_, rfl, ?_⟩⟩
      rw [any_pd, any_pd]
      refine ⟨_, _, rfl, rfl, ?_⟩
      refine ⟨_, rfl, _, rfl, _, rfl, (by show 2 ≤ sizeLine; decide), fun t4 nt4 => ?_⟩
      have u3 := u2.trans (Gr.upd (o := .tup [.str x, .str y]) nt4)
      have gt3 : DGet _ c1 (.ref t4) (valV (PT (prs rs' ds) fun e => trs row e.1 e.2 row.length) (kE (x, y))) := .inr ⟨_, _, _, .inr ⟨od, u3.s _ _ upd_same⟩, rfl, upd_same, rfl⟩
      rw [pt_get mi] at gt3
      refine ⟨c1, _, rfl, gt3, ?_⟩
      refine ⟨_, rfl, _, rfl, _, rfl, (by show 2 ≤ sizeLine; decide), fun t5 nt5 => ?_⟩
      have u4 := u3.trans (Gr.upd (o := .tup [.str y, .str x]) nt5)
      have gt4 : DGet _ c1 (.ref t5) (valV (PT (prs rs' ds) fun e => trs row e.1 e.2 row.length) (kE (y, x))) := .inr ⟨_, _, _, .inr ⟨od, u4.s _ _ upd_same⟩, rfl, upd_same, rfl⟩
      rw [pt_get mi'] at gt4
      refine ⟨c1, _, rfl, gt4, _, _, rfl, rfl, _, rfl, rfl, _, rfl, iteF2 ?_ ⟨_, _, _, rfl, u4⟩⟩
      have q := cw my
      show (!decide (V.int _ = V.int _)) = false
      rw [decide_eq_true]
      · rfl
      · congr 1
        show (trs row x y row.length : Int) - trs row y x row.length = _
        rw [q]
        by_cases z1 : (x, y) ∈ stp u <;> by_cases z2 : (y, x) ∈ stp u <;> simp [z1, z2]
    · rintro σ' H' ⟨v11, v12, v13, rfl, z⟩
      refine ⟨z.s _ _ upd_same, ?_⟩
      have g9 := Gr.unlock ec z
      clear z
      generalize L2.upd H' c1 (.dT (PT (prs rs' ds) fun e => trs row e.1 e.2 row.length)) = H9 at g9
      have ec9 := g9.s _ _ ec
      have hp9 := g9.s _ _ hp8
      have g19 := g18.trans g9
      refine ⟨_, rfl, p, rfl, ⟨_, SqL.of hp9⟩, ?_⟩
      refine for_it (walk_list (xs := rs0.map V.str)) (fun i σ' H' => ∃ (v14 v15 : Option V), σ' = [some (.ref a), some (.ref h), some (.ref p), some (.ref q), some (.ref r), some (.ref c1), some (.ref t2), some (.ref d3), some (.ref q5), some (.ref s7), some (.ref mn), v11, v12, v13, v14, v15, none, none] ∧ Gr H8 H') ⟨_, _, rfl, g9⟩ ?_ ?_ ?_
      · rintro i σ' H' _ ⟨v14, v15, rfl, z⟩
        exact SqL.of (z.s _ _ hp8)
      · rintro i v σ' H' H'' hi ⟨v14, v15, rfl, z⟩ ⟨rfl, hv⟩
        have hi2 : i < rs0.length := by simpa using hi
        obtain rfl : V.str rs0[i] = v := by
          rw [List.getElem?_map, List.getElem?_eq_getElem hi2] at hv
          exact Option.some.inj hv
        have mx : rs0[i] ∈ rs' := pr.mem_iff.mp (List.getElem_mem hi2)
        generalize rs0[i] = x at mx
        have ecx := z.s _ _ ec
        have gx := g18.trans z
        refine ⟨c1, _, ecx, trivial, fun od => ⟨_, rfl, c1, od, rfl, .inr ⟨_, upd_same, fun B hB => ?_⟩⟩⟩
        refine lc_it walk_keysT (fun j H3 => H3 B = some (.lst (((((prs rs' ds).take j).filter fun e => decide (x ∈ [e.1, e.2])).map fun e => ((trs row e.1 e.2 row.length : Nat) : Int)).map V.int)) ∧ Gr (upd H'' c1 (.frz od (.dT (PT (prs rs' ds) fun e => trs row e.1 e.2 row.length)))) H3) ⟨upd_same, Gr.upd hB⟩ (fun j H3 _ q => q.2.s _ _ upd_same) ?_ ?_
        · rintro j v H3 H4 hj ⟨w1, w2⟩ ⟨rfl, kk, vv, qa, f1, rfl, f3⟩
          have hj2 : j < (prs rs' ds).length := by
            rw [pt_len] at hj
            exact hj
          have kj : (PT (prs rs' ds) fun e => trs row e.1 e.2 row.length)[j]? = some (kE (prs rs' ds)[j], .int (trs row (prs rs' ds)[j].1 (prs rs' ds)[j].2 row.length : Int)) := by
            unfold PT
            rw [List.getElem?_map, List.getElem?_eq_getElem hj2]
            rfl
          rw [kj] at f1
          obtain ⟨rfl, rfl⟩ := Prod.mk.inj (Option.some.inj f1)
          have mj : (prs rs' ds)[j] ∈ prs rs' ds := List.getElem_mem hj2
          have tk : (prs rs' ds).take (j + 1) = (prs rs' ds).take j ++ [(prs rs' ds)[j]] := (List.take_append_getElem hj2).symm
          generalize (prs rs' ds)[j] = e at mj f3 tk
          clear kj f1
          have lacc : (((((prs rs' ds).take j).filter fun e => decide (x ∈ [e.1, e.2])).map fun e => ((trs row e.1 e.2 row.length : Nat) : Int)).map V.int).length < sizeLine := by
            rw [List.length_map, List.length_map]
            refine Nat.lt_of_le_of_lt (List.length_filter_le _ _) ?_
            rw [List.length_take]
            exact Nat.lt_of_le_of_lt (Nat.min_le_right _ _) (Nat.lt_of_le_of_lt plen (by decide))
          refine ⟨rfl, _, rfl, _, rfl, qa, _, rfl, .inr (SqT.of f3), rfl, flat_strs [e.1, e.2], _, rfl, ?_⟩
          rw [show inV (V.str x) ((kE e).map kV) = decide (x ∈ [e.1, e.2]) from inv_strs (xs := [e.1, e.2])]
          by_cases m : x ∈ [e.1, e.2]
          · refine iteT2 (decide_eq_true m) ?_
            have gt : DGet H4 c1 (.ref qa) (valV (PT (prs rs' ds) fun e => trs row e.1 e.2 row.length) (kE e)) := .inr ⟨_, _, _, .inr ⟨od, w2.s _ _ upd_same⟩, rfl, f3, rfl⟩
            rw [pt_get mj] at gt
            refine ⟨_, rfl, _, rfl, c1, _, rfl, gt, _, w1, lacc, ?_, w2.put hB⟩
            have f1 : (([e] : List Ed).filter fun e => decide (x ∈ [e.1, e.2])) = [e] := by
              rw [List.filter_cons, if_pos (decide_eq_true m)]
              rfl
            rw [upd_same, tk, List.filter_append, f1, List.map_append, List.map_append]
            rfl
          · refine iteF2 (decide_eq_false m) ⟨?_, w2⟩
            have f1 : (([e] : List Ed).filter fun e => decide (x ∈ [e.1, e.2])) = [] := by
              rw [List.filter_cons, if_neg (by rw [decide_eq_false m]; exact Bool.false_ne_true)]
              rfl
            rw [tk, List.filter_append, f1, List.append_nil]
            exact w1
        · rintro H3 ⟨w1, w2⟩
          rw [pt_len, List.take_length] at w1
          refine ⟨w2.s _ _ upd_same, ?_⟩
          have gu := Gr.unlock ecx w2
          have nB : B ≠ c1 := ne_of w1 (w2.s _ _ upd_same) (by intro z; cases z)
          have w1' : L2.upd H3 c1 (.dT (PT (prs rs' ds) fun e => trs row e.1 e.2 row.length)) B = _ := (upd_ne nB).trans w1
          clear w2 w1
          generalize L2.upd H3 c1 (.dT (PT (prs rs' ds) fun e => trs row e.1 e.2 row.length)) = H4 at gu w1'
          have gy := z.trans gu
          have hrow4 := gy.s _ _ hrow8
          refine ⟨B, _, rfl, SqL.of w1', ?_⟩
          rw [int_sum, gone_sum gd car x]
          refine ⟨_, rfl, _, rfl, _, rfl, r, _, 0, _, rfl, rfl, SqL.of hrow4, row_at0 car.ne, rfl, .inr ⟨_, rfl, _, _, rfl, rfl, ?_⟩⟩
          refine ⟨_, rfl, _, rfl, _, rfl, r, _, -1, _, rfl, rfl, SqL.of hrow4, row_atl car.ne, rfl, .inr ⟨_, rfl, _, _, rfl, rfl, ?_⟩⟩
          have gtm := DGet.k (k := Sum.inr x) (gy.s _ _ e8)
          rw [tm_get mx] at gtm
          have gtd := DGet.k (k := Sum.inr x) (gy.s _ _ ed)
          rw [tm_get mx] at gtd
          refine ⟨_, rfl, _, rfl, mn, _, rfl, gtm, _, _, rfl, rfl, .inl ⟨by decide, by decide⟩, rfl, _, rfl, iteF2 ?_ ?_⟩
          · have hf := stays_half gd car x
            rw [List.count_cons, List.count_cons, List.count_nil] at hf
            show (!decide (V.int _ = V.int _)) = false
            rw [decide_eq_true]
            · rfl
            · congr 1
              rw [erun x]
              have ix : ∀ z : Str, (if decide (V.str x = V.str z) = true then (1 : Int) else 0) = ((if (z == x) = true then 1 else 0 : Nat) : Int) := fun z => by
                by_cases q : x = z
                · rw [if_pos (by rw [q]; exact decide_eq_true rfl), if_pos (by rw [q]; exact beq_self_eq_true z)]
                  rfl
                · rw [if_neg (by rw [decide_eq_false fun y => q (V.str.inj y)]; exact Bool.false_ne_true), if_neg (by rw [beq_eq_false_iff_ne.mpr (Ne.symm q)]; exact Bool.false_ne_true)]
                  rfl
              rw [ix, ix]
              omega
          · refine ⟨_, rfl, _, rfl, d3, _, rfl, gtd, _, rfl, _, rfl, mn, _, rfl, gtm, _, _, rfl, rfl, _, rfl, iteF2 ?_ ⟨_, _, rfl, gy⟩⟩
            have q1 := stn_hrs row x row.length
            rw [hrs_count (Nat.le_refl _), List.take_length] at q1
            refine decide_eq_false ?_
            show ¬ ((row.count x : Nat) : Int) < ((runs L x : Nat) : Int)
            rw [erun x]
            omega
      · rintro σ' H' ⟨v14, v15, rfl, z⟩
        refine ⟨_, rfl, d3, _, rfl, z.s _ _ ed, fun W nW => ?_⟩
        have gw := z.trans (Gr.upd (o := .lst ((TM rs' (NI fun r => row.count r)).map (·.2))) nW)
        have lw : (TM rs' (NI fun r => row.count r)).map (·.2) = (rs'.map fun r => ((row.count r : Nat) : Int)).map V.int := by
          unfold TM
          rw [List.map_map, List.map_map]
          rfl
        refine ⟨W, _, rfl, SqL.of (by rw [upd_same, lw]), ?_⟩
        rw [int_sum, count_all gd.nodup car.mem]
        refine ⟨_, rfl, r, _, rfl, .inl (SqL.of (gw.s _ _ hrow8)), rfl, _, rfl, iteF2 (by rw [List.length_map]; simp) ?_⟩
        refine ⟨_, rfl, t2, rfl, ⟨_, SqL.of (gw.s _ _ et8)⟩, fun B hB => ?_⟩
        have et9 := gw.s _ _ et8
        refine lc_it (walk_list (xs := ts.map V.ref)) (fun j H3 => H3 B = some (.lst ((((L.take j).map fun e => ((e.2 : Nat) : Int)).map V.int))) ∧ Gr (upd H' W (.lst ((TM rs' (NI fun r => row.count r)).map (·.2)))) H3) ⟨upd_same, Gr.upd hB⟩ (fun j H3 _ q => SqL.of (q.2.s _ _ et9)) ?_ ?_
        · rintro j v H3 H4 hj ⟨w1, w2⟩ ⟨rfl, hv⟩
          rw [List.getElem?_map] at hv
          obtain ⟨t1, e1', rfl⟩ := Option.map_eq_some_iff.mp hv
          obtain ⟨e, ee, te⟩ := paired_at rn8 e1'
          have he := (gw.trans w2).s _ _ te
          have tk : L.take (j + 1) = L.take j ++ [e] := by
            rw [List.take_add_one, ee]
            rfl
          refine ⟨rfl, _, rfl, t1, _, 1, _, rfl, rfl, SqT.of he, rfl, _, w1, ?_, ?_, w2.put hB⟩
          · rw [List.length_map, List.length_map, List.length_take]
            exact Nat.lt_of_le_of_lt (Nat.le_trans (Nat.min_le_right _ _) lL) (Nat.lt_trans rl (by decide))
          · rw [upd_same, tk, List.map_append, List.map_append]
            rfl
        · rintro H3 ⟨w1, w2⟩
          rw [List.length_map, paired_len rn8, List.take_length] at w1
          have gv := gw.trans w2
          refine ⟨B, _, rfl, SqL.of w1, ?_⟩
          have es : (L.map fun e => ((e.2 : Nat) : Int)).sum = ((row.length : Nat) : Int) := by
            rw [int_sum, inv.sum]
          rw [es]
          refine ⟨_, rfl, r, _, rfl, .inl (SqL.of (gv.s _ _ hrow8)), rfl, _, rfl, iteF2 (by rw [List.length_map]; simp) ?_⟩
          have ec3 := gv.s _ _ ec
          have g13' := g18.trans gv
          refine ⟨_, rfl, _, rfl, .inr (.inr (.inl ⟨rfl, .inr ⟨_, ec3⟩⟩)), c1, _, rfl, rfl, ec3, fun vw nvw => ?_⟩
          have gi := gv.trans (Gr.upd (o := L2.DX.itemsO vw c1) nvw)
          refine ⟨vw, c1, _, rfl, upd_same, gi.s _ _ ec, fun H5 il its qs g5 nil_ eil pq pt5 => ?_⟩
          have gj := gi.trans g5
          have s5 : Spr H5 a l n := hS.stay (g18.trans gj).s
          have lts : its.length = (prs rs' ds).length := by
            have z1 := paired_len pt5
            have z2 := paired_len pq
            rw [List.length_zip, List.length_map, List.length_map, z2, pt_len, Nat.min_self] at z1
            exact z1
          refine ⟨a, l, il, n, _, rfl, s5, .inl (SqL.of eil), by rw [List.length_map, lts]; omega, by rw [List.length_map, lts]; omega, fun H6 yl ys sb6 s6 n6 e6 p6 => ?_⟩
          obtain ⟨zs, rfl, pz⟩ := perm_refs p6
          have gs6 : Gs a l H5 H6 := Gs.of sb6 s6
          rw [List.length_map, lts] at s6
          have gall : Gr H H5 := g18.trans gj
          obtain ⟨Ls, el, pl⟩ := its_of g5.s pq pt5
          obtain ⟨Ms, pm2, pl2⟩ := paired_permL pz.symm pl
          have pl6 : Paired (Its H6 fun e => trs row e.1 e.2 row.length) zs Ms := Paired.imp (fun _ _ e => ⟨gs6.keep s5 e.1 rfl, gs6.keep s5 e.2 rfl⟩) pl2
          have pm3 : (Ms.map (·.1)).Perm (prs rs' ds) := by
            rw [← el]
            exact (pm2.map _).symm
          have ndm : (Ms.map (·.1)).Nodup := pm3.nodup_iff.mpr (prs_nodup gd)
          refine ⟨yl, zs, _, rfl, SqL.of e6, its_dict pl6, fun D nD => ?_⟩
          have ep : putAll [] (Ms.map fun x => (kE x.1, x.2, V.int (trs row x.1.1 x.1.2 row.length : Int))) = PT (Ms.map (·.1)) fun e => trs row e.1 e.2 row.length := put_all (ks := []) (c := fun e => trs row e.1 e.2 row.length) ndm
          rw [ep]
          have g7 := Gr.upd (o := .dT (PT (Ms.map (·.1)) fun e => trs row e.1 e.2 row.length)) nD
          have of : OfRow rs' ds (Ms.map (·.1)) (fun e => trs row e.1 e.2 row.length) row (at_ row 0) (at_ row (row.length - 1)) := ⟨car, pm3, fun _ _ => rfl, rfl, rfl⟩
          have hrow6 := gs6.keep s5 (gall.s _ _ hrow) (ok_strs _)
          have hh6 : HouseAt H6 C h rs' ds := HouseAt.gs (hh.same gall.s) s5 gs6
          have emn6 : H6 mn = some (.dK (TM rs' (NI (runs L)))) := gs6.keep s5 (gj.s _ _ e8) rfl
          generalize hH7 : L2.upd H6 D (.dT (PT (Ms.map (·.1)) fun e => trs row e.1 e.2 row.length)) = H7 at g7
          have eD : H7 D = some (.dT (PT (Ms.map (·.1)) fun e => trs row e.1 e.2 row.length)) := by
            rw [← hH7]
            exact upd_same
          have hrow7 := g7.s _ _ hrow6
          refine ⟨_, rfl, _, rfl, _, rfl, r, _, 0, _, rfl, rfl, SqL.of hrow7, row_at0 car.ne, _, rfl, _, rfl, r, _, -1, _, rfl, rfl, SqL.of hrow7, row_atl car.ne, ?_⟩
          refine ⟨h, D, at_ row 0, at_ row (row.length - 1), rs', row, ds, _, _, rfl, hh6.same g7.s, gd, eD, of, fun H8' d8 e8' g8' n8' => ?_⟩
          refine ⟨.inr (.inr (.inl ⟨rfl, .inl ⟨_, e8'⟩⟩)), d8, _, rfl, rfl, e8', ?_⟩
          have g9' : Gr H7 (L2.upd H8' d8 (.dK [])) := g8'.put n8'
          generalize L2.upd H8' d8 (.dK []) = H9' at g9'
          have hrow9 := g9'.s _ _ hrow7
          have g69 := g7.trans g9'
          refine ⟨_, rfl, _, rfl, _, rfl, r, _, 0, _, rfl, rfl, SqL.of hrow9, row_at0 car.ne, _, rfl, _, rfl, r, _, -1, _, rfl, rfl, SqL.of hrow9, row_atl car.ne, ?_⟩
          refine ⟨h, D, at_ row 0, at_ row (row.length - 1), rs', row, ds, _, _, rfl, hh6.same g69.s, gd, g9'.s _ _ eD, of, fun Ha da ea ga na => ?_⟩
          have g6a := g69.trans ga
          have emna := g6a.s _ _ emn6
          have en : NI (runs L) = NI fun x => stn row x row.length := funext fun x => by
            show V.int _ = V.int _
            rw [erun x]
          rw [en] at emna
          refine ⟨_, rfl, .ref da, .ref mn, rfl, ⟨da, mn, rs', _, rfl, rfl, ea, emna, Nat.lt_trans gd.len (by decide)⟩, fun Hz sz => ?_⟩
          have g6z : Same H6 Hz := fun x o e => sz _ _ (g6a.s _ _ e)
          exact k Hz _ (by omega) ((gs6.trans (Gs.refl H6) |>.s |> fun z => (Same.sb gall.s).trans z).trans (Same.sb g6z)) (s6.stay g6z)
end
end Lamp
set_option maxHeartbeats 8000000
namespace Lamp
open PySem PySem.Spec PyProof.Rows L2
/-! ### what the spring leaves as it is -/
theorem Sb.kept {a l b : Addr} {H H' : Hp} {n : Nat} {o : HO} (g : Sb a l H H') (p : Spr H a l n) (h : H b = some o) (ok : okO o = true) : H' b = some o := by
  obtain ⟨ne, cs, cur, mix, h1, h2, _, _⟩ := p
  refine g b o h (fun z => ?_) (fun z => ?_)
  · rw [z, h1] at h
    rw [← Option.some.inj h] at ok
    cases ok
  · rw [z, h2] at h
    rw [← Option.some.inj h] at ok ⊢
    cases cs with
    | nil => rfl
    | cons c cs => cases ok
theorem HouseAt.sb {a l : Addr} {n : Nat} {H H' : Hp} {C h : Addr} {rs : List Str} {ds : List Ed} (hh : HouseAt H C h rs ds) (p : Spr H a l n) (g : Sb a l H H') : HouseAt H' C h rs ds := by
  obtain ⟨dx, ra, da, na, ts, h1, h2, h3, h4, nf, h5, h6⟩ := hh.at_
  exact ⟨dx, ra, da, na, ts, g.kept p h1 rfl, g.kept p h2 (ok_strs _), g.kept p h3 (ok_refs _), Paired.imp (fun _ _ e => g.kept p e rfl) h4, nf, g.kept p h5 rfl, fun r hr => g.kept p (h6 r hr) (ok_strs _)⟩
theorem TupsAt.sb {a l : Addr} {n : Nat} {H H' : Hp} {ts : List Addr} {es : List Ed} (h : TupsAt H ts es) (p : Spr H a l n) (g : Sb a l H H') : TupsAt H' ts es := Paired.imp (fun _ _ e => g.kept p e rfl) h
theorem beside_of {rs : List Str} {es ds : List Ed} (en : ∀ e ∈ es, e.1 ∈ rs ∧ e.2 ∈ rs ∧ e.1 ≠ e.2) (nr : ∀ e ∈ es, ∃ d ∈ ds, Nrm d e) {x y : Str} (h : (x, y) ∈ es ∨ (y, x) ∈ es) : y ∈ rs ∧ y ∈ nearOf ds x := by
  have go : ∀ {a b : Str}, (a, b) ∈ ds → a ≠ b → b ∈ nearOf ds a ∧ a ∈ nearOf ds b := fun {a b} m ne => ⟨near_mem.mpr ⟨_, m, .inl ⟨rfl, rfl⟩⟩, near_mem.mpr ⟨_, m, .inr ⟨ne, rfl, rfl⟩⟩⟩
  rcases h with h | h
  · obtain ⟨e1, e2, e3⟩ := en _ h
    obtain ⟨d, md, z⟩ := nr _ h
    obtain ⟨p, q⟩ := d
    refine ⟨e2, ?_⟩
    rcases z with z | z
    · obtain ⟨rfl, rfl⟩ := Prod.mk.inj z
      exact (go md e3).1
    · obtain ⟨rfl, rfl⟩ := Prod.mk.inj z
      exact (go md (Ne.symm e3)).2
  · obtain ⟨e1, e2, e3⟩ := en _ h
    obtain ⟨d, md, z⟩ := nr _ h
    obtain ⟨p, q⟩ := d
    refine ⟨e1, ?_⟩
    rcases z with z | z
    · obtain ⟨rfl, rfl⟩ := Prod.mk.inj z
      exact (go md e3).2
    · obtain ⟨rfl, rfl⟩ := Prod.mk.inj z
      exact (go md (Ne.symm e3)).1
end Lamp
set_option maxHeartbeats 8000000
namespace Lamp
open PySem PySem.Spec PyProof.Rows L2
/-! ### the law -/
section
variable {P : Program} {w : World} {K : PySem.W.Frag} {mg : Str → Option Value} {base : Heap} {C : Addr}
def spLaw (K : PySem.W.Frag) : Sp := fun vs H Q _ => ∃ (p : Addr) (ns : List Int), vs = [.ref p] ∧ SqL K H p (ns.map V.int) ∧ ∀ H', Q (.bl true) H'
abbrev NLw : List Str := ["script", "stream", "turn", "rooms", "doors", "house", "k", "row"]
theorem scLw : FnScope NLw ["script"] (defScope s_law) := ⟨rfl, rfl, rfl, by decide +kernel, rfl, by decide +kernel, by decide +kernel⟩
theorem ok_law {f fI : Addr} {fd dI : FuncData} (F : Fun K "law" "law" s_law f fd) (T : TxtS mg)
    (SO : Stands P w K mg base 1 "_law_start" ["script"] (spStart K)) (HO : Stands P w K mg base 4 "_law_h_house" ["stream", "most"] spHHouse) (CO : Stands P w K mg base 3 "_law_h_carrying" ["stream", "rooms", "doors", "most"] spHCarry)
    (RO : Stands P w K mg base 6 "_law_one_right" ["stream", "house", "rooms", "doors", "row"] (spRight C))
    (M : Mk K C fI) (GI : FnOk P w K mg base CX0 4 fI dI ["self", "rooms", "doors"] (spInit C)) (mC : mg "House" = some (.ref C)) (bI : L2.Binds K dI ["self", "rooms", "doors"] []) :
    FnOk P w K mg base CX0 7 f fd ["script"] (spLaw K) := by
  obtain ⟨fs, dS, Gs', ms, ks, bs⟩ := SO
  obtain ⟨fh, dh, Gh, mh, kh, bh⟩ := HO
  obtain ⟨fc, dc, Gc, mc, kc, bc⟩ := CO
  obtain ⟨fr, dr, Gr', mr, kr, br⟩ := RO
  refine F.ok scLw (fun vs H Q E h => ?_) (fun cdv A outer s H vs Q E hr h => ?_)
  · obtain ⟨p, ns, rfl, _⟩ := h
    rfl
  · obtain ⟨p, ns, rfl, hs, k⟩ := h
    refine ⟨_, pss_cons (ps_set (i := 1) scLw.nd rfl (Or.inl rfl) (pe_call Gs' (hr.mono (by decide)) (by rfl) ms ks bs .nil pass0 (pa_cons (pv 0) pa_nil)))
      (pss_cons (ps_for PassesOwn.never rfl (pi_range1 rfl T.range (pa_cons pe_int pa_nil)) (pg_name (i := 2) scLw.nd rfl (Or.inl rfl))
        (pss_cons (ps_asg (pe_call Gh (hr.mono (by decide)) (by rfl) mh kh bh .nil pass0 (pa_cons (pv 1) (pa_cons pe_int pa_nil))) (pg_tup rfl (pgs_cons (pg_name (i := 3) scLw.nd rfl (Or.inl rfl)) (pgs_cons (pg_name (i := 4) scLw.nd rfl (Or.inl rfl)) pgs_nil))))
        (pss_cons (ps_set (i := 5) scLw.nd rfl (Or.inl rfl) (pe_make M GI (hr.mono (by decide)) (by rfl) mC bI .nil pass0 (pa_cons (pv 3) (pa_cons (pv 4) pa_nil))))
        (pss_one (ps_for PassesOwn.never rfl (pi_range1 rfl T.range (pa_cons pe_int pa_nil)) (pg_name (i := 6) scLw.nd rfl (Or.inl rfl))
          (pss_cons (ps_set (i := 7) scLw.nd rfl (Or.inl rfl) (pe_call Gc (hr.mono (by decide)) (by rfl) mc kc bc .nil pass0 (pa_cons (pv 1) (pa_cons (pv 3) (pa_cons (pv 4) (pa_cons pe_int pa_nil))))))
          (pss_one (ps_if (pt_not (pt_val (pe_call Gr' hr (by rfl) mr kr br .nil pass0 (pa_cons (pv 1) (pa_cons (pv 5) (pa_cons (pv 3) (pa_cons (pv 4) (pa_cons (pv 7) pa_nil))))))))
            pss_dead pss_nil))))))))
      (pss_one (ps_ret pe_bl))), ?_⟩
    refine ⟨_, rfl, p, ns, rfl, hs, fun H1 a l s1 na nl sp1 => ?_⟩
    refine ⟨5, rfl, by decide, by decide, ?_⟩
    refine for_range (lo := 0) (n := 5) (fun i σ' H' => ∃ (v2 v3 v4 v5 v6 v7 : Option V) (n : Nat), σ' = [some (.ref p), some (.ref a), v2, v3, v4, v5, v6, v7] ∧ Spr H' a l n ∧ n ≤ 30000 * i) ⟨_, _, _, _, _, _, 0, rfl, sp1, by omega⟩ ?_ ?_
    · rintro i σ' H2 hi ⟨v2, v3, v4, v5, v6, v7, n, rfl, q1, q2⟩
      refine ⟨_, rfl, a, l, n, 8, rfl, q1, by omega, by omega, by omega, fun H3 t pr pd rs ts es m mb rl el gd ok er te ed et g3 s3 => ?_⟩
      refine ⟨t, _, rfl, SqT.of et, rfl, _, _, rfl, _, _, rfl, rfl, ?_⟩
      refine ⟨_, rfl, _, rfl, fun x dx nx ndx ne => ?_⟩
      have up : Gr H3 (L2.upd (L2.upd H3 dx (.own x)) x (.ins C dx [])) := ⟨fun b o e => by
        rw [upd_ne (ne_of_none e nx), upd_ne (ne_of_none e ndx)]
        exact e, fun b z => (none_upd (none_upd z).2).2⟩
      refine ⟨x, dx, pr, pd, rs, ts, es, rfl, upd_same, up.s _ _ er, up.s _ _ ed, Paired.imp (fun _ _ e => up.s _ _ e) te, gd, ok, fun H4 rs' ds pm so gd' nr _ _ hh gx => ⟨rfl, ?_⟩⟩
      have g4 : Gr H3 H4 := ⟨fun b o e => gx.s _ _ (up.s _ _ e) (ne_of_none e nx), fun b z => up.n _ (gx.n _ z)⟩
      have s4 := s3.stay g4.s
      have nb : ∀ z y, (z, y) ∈ es ∨ (y, z) ∈ es → y ∈ rs ∧ y ∈ nearOf ds z := fun z y h => beside_of gd.ends nr h
      refine ⟨3, rfl, by decide, by decide, ?_⟩
      refine for_range (lo := 0) (n := 3) (fun j σ' H' => ∃ (v6 v7 : Option V) (n' : Nat), σ' = [some (.ref p), some (.ref a), some (.int (0 + (i : Int))), some (.ref pr), some (.ref pd), some (.ref x), v6, v7] ∧ Spr H' a l n' ∧ n' ≤ 30000 * i + 100 + 8400 * j ∧ H' pr = some (.lst (rs.map V.str)) ∧ H' pd = some (.lst (ts.map V.ref)) ∧ TupsAt H' ts es ∧ HouseAt H' C x rs' ds) ?_ ?_ ?_
      · exact ⟨_, _, m, rfl, s4, by omega, g4.s _ _ er, g4.s _ _ ed, Paired.imp (fun _ _ e => g4.s _ _ e) te, hh⟩
      · rintro j σ' H5 hj ⟨v6, v7, n', rfl, z1, z2, z3, z4, z5, z6⟩
        refine ⟨_, rfl, _, rfl, _, rfl, a, l, pr, pd, n', 40, rs, ts, es, ds, rfl, z1, z3, z4, z5, gd.ne, gd.len, el, ok, nb, by omega, by omega, by omega, fun H6 u row k6 kb car rl6 eu nu g6 s6 => ?_⟩
        have car' : Car rs' ds row := ⟨car.ne, fun r hr => pm.mem_iff.mpr (car.mem r hr), car.nxt⟩
        have y3 := g6.keep z1 z3 (ok_strs _)
        have y4 := g6.keep z1 z4 (ok_refs _)
        have y5 := TupsAt.gs z5 z1 g6
        have y6 := HouseAt.gs z6 z1 g6
        refine ⟨_, rfl, _, rfl, _, rfl, _, rfl, _, rfl, a, l, x, pr, pd, u, k6, row, rs', rs, ds, rfl, s6, y6, gd', so, fun r hr => ok r (pm.mem_iff.mp hr), y3, pm.symm, eu, car', by omega, by omega, fun H7 k7 kb7 sb7 s7 => ⟨_, rfl, iteF ?_⟩⟩
        exact ⟨_, _, k7, rfl, s7, by omega, sb7.kept s6 y3 (ok_strs _), sb7.kept s6 y4 (ok_refs _), y5.sb s6 sb7, y6.sb s6 sb7⟩
      · rintro σ' H5 ⟨v6, v7, n', rfl, z1, z2, _⟩
        exact ⟨_, _, _, _, _, _, n', rfl, z1, by omega⟩
    · rintro σ' H2 ⟨v2, v3, v4, v5, v6, v7, n, rfl, q1, q2⟩
      exact k _
end
end Lamp
set_option maxHeartbeats 0
namespace Lamp
open PySem PySem.Spec PyProof.Rows L2
/-! ### what is looked at behind the top -/
def frL {α : Type} : List Addr → (List Addr → α) → α
  | [], k => k []
  | a :: r, k => HandSHeadRun.frNat a fun a => frL r fun r => k (a :: r)
theorem frL_eq {α : Type} : ∀ (l : List Addr) (k : List Addr → α), frL l k = k l
  | [], _ => rfl
  | a :: r, k => by
    show HandSHeadRun.frNat a (fun a => frL r fun r => k (a :: r)) = _
    rw [HandSHeadRun.frNat_eq, frL_eq r]
def frF {α : Type} : PySem.W.Frag → (PySem.W.Frag → α) → α
  | [], k => k []
  | (a, ⟨c, d, dt, sl⟩) :: r, k => HandSHeadRun.frNat a fun a => frF r fun r => k ((a, ⟨c, d, dt, sl⟩) :: r)
theorem frF_eq {α : Type} : ∀ (l : PySem.W.Frag) (k : PySem.W.Frag → α), frF l k = k l
  | [], _ => rfl
  | (a, ⟨c, d, dt, sl⟩) :: r, k => by
    show HandSHeadRun.frNat a (fun a => frF r fun r => k ((a, ⟨c, d, dt, sl⟩) :: r)) = _
    rw [HandSHeadRun.frNat_eq, frF_eq r]
def nextOf (o : Obj) : List Addr := match o.data with
  | .dict es _ => es.toList.flatMap fun e => He.refV e.val
  | .func fd => He.refV fd.code
  | .cls cd => [cd.ns]
  | _ => []
def next (g : Addr → Option Obj) (l : List Addr) : List Addr := l.flatMap fun a => match g a with
  | some o => nextOf o
  | none => []
def lvls {α : Type} (g : Addr → Option Obj) (k : List Addr → α) : α := frL (next g [mainGlobals]) fun l1 => frL (next g l1) fun l2 => frL (next g l2) fun l3 => frL (next g l3) fun l4 => k (mainGlobals :: (l1 ++ (l2 ++ (l3 ++ l4))))
def asY (g : Addr → Option Obj) : List Addr := lvls g id
theorem lvls_eq {α : Type} (g : Addr → Option Obj) (k : List Addr → α) : lvls g k = k (asY g) := by
  unfold asY lvls
  simp only [frL_eq, id]
/-! ### the defs, the facts -/
def topD (x : Str) (i : Nat) : He.DefD := ⟨(x, none), x, x, defArgs (top i), defBody (top i), defScope (top i), [], []⟩
def metD (c x q : Str) (i j : Nat) : He.DefD := ⟨(c, some x), x, q, defArgs (inClass (top i) j), defBody (inClass (top i) j), defScope (inClass (top i) j), [], []⟩
def fn0 : List He.DefD := [topD "is_row" 13, topD "is_name" 14, topD "is_number" 15, metD "House" "__init__" "House.__init__" 17 0, metD "House" "rooms" "House.rooms" 17 1, metD "House" "has" "House.has" 17 5, metD "House" "near" "House.near" 17 6, topD "need_room" 18, topD "rooms_fault" 19, topD "doors_fault" 20, topD "is_pair_of" 21, topD "leader_of" 22, topD "rooms_by_doors" 23, topD "reach" 24]
def fn1 : List He.DefD := [topD "first_parted" 25, topD "way" 27, topD "towards" 28, topD "climb" 29, topD "way_between" 30, topD "stays" 32, topD "passes" 33, topD "stays_by" 34, topD "carrying_fault" 35, topD "may_follow" 36, topD "need_carrying" 37, topD "pairs_beside" 38, topD "is_passes" 39, topD "leads_on" 40]
def fn2 : List He.DefD := [topD "hangs_at" 41, topD "ledger_of" 43, topD "hours_of" 44, topD "_law_start" 46, topD "_law_draw" 47, topD "_law_pick" 48, topD "_law_mixed" 49, topD "_law_same" 50, topD "_law_h_names" 51, topD "_law_h_doors" 52, topD "_law_h_house" 53, topD "_law_h_beside" 54, topD "_law_h_carrying" 55, topD "_law_many_stays" 56]
def fn3 : List He.DefD := [topD "_law_one_right" 57, topD "law" 58]
def fn : List He.DefD := fn0 ++ (fn1 ++ (fn2 ++ (fn3)))
def fa0 : List He.Fa := [.free "int", .free "list", .free "len", .free "range", .free "isinstance", .free "tuple", .free "str", .free "all", .free "enumerate", .free "sorted", .free "min", .free "max", .free "dict", .free "bool"]
def fa1 : List He.Fa := [.free "sum", .free "zip", .str "LETTERS" "abcdefghijklmnopqrstuvwxyz", .str "FIGURES" "0123456789", .int "LONGEST_NAME" 12, .glo "is_row", .glo "is_name", .glo "is_number", .glo "House", .cls "House", .mkr "House", .noat "House" "_rooms", .noat "House" "_doors", .noat "House" "_near"]
def fa2 : List He.Fa := [.meth "House" "rooms", .meth "House" "has", .meth "House" "near", .glo "need_room", .glo "rooms_fault", .glo "doors_fault", .glo "is_pair_of", .glo "leader_of", .glo "rooms_by_doors", .glo "reach", .glo "first_parted", .glo "way", .glo "towards", .glo "climb"]
def fa3 : List He.Fa := [.glo "way_between", .glo "stays", .glo "passes", .glo "stays_by", .glo "carrying_fault", .glo "may_follow", .glo "need_carrying", .glo "pairs_beside", .glo "is_passes", .glo "leads_on", .glo "hangs_at", .glo "ledger_of", .glo "hours_of", .glo "_law_start"]
def fa4 : List He.Fa := [.glo "_law_draw", .glo "_law_pick", .glo "_law_mixed", .glo "_law_same", .glo "_law_h_names", .glo "_law_h_doors", .glo "_law_h_house", .glo "_law_h_beside", .glo "_law_h_carrying", .glo "_law_many_stays", .glo "_law_one_right", .glo "law"]
def fa : List He.Fa := fa0 ++ (fa1 ++ (fa2 ++ (fa3 ++ (fa4))))
def nms0 : List Str := ["LampError", "BadCarrying", "BadDoors", "BadPasses", "BadRooms", "NoRoom", "NotJoined", "LETTERS", "FIGURES", "LONGEST_NAME", "PackageObject", "is_row", "is_name", "is_number"]
def nms1 : List Str := ["House", "need_room", "rooms_fault", "doors_fault", "is_pair_of", "leader_of", "rooms_by_doors", "reach", "first_parted", "way", "towards", "climb", "way_between", "stays"]
def nms2 : List Str := ["passes", "stays_by", "carrying_fault", "may_follow", "need_carrying", "pairs_beside", "is_passes", "leads_on", "hangs_at", "ledger_of", "hours_of", "_law_start", "_law_draw", "_law_pick"]
def nms3 : List Str := ["_law_mixed", "_law_same", "_law_h_names", "_law_h_doors", "_law_h_house", "_law_h_beside", "_law_h_carrying", "_law_many_stays", "_law_one_right"]
def nms : List Str := nms0 ++ (nms1 ++ (nms2 ++ (nms3)))
def tf : List He.Defn := []
def exB (_ : PySem.W.Frag) : Bool := true
/-! ### the hook -/
def obY (fa : List He.Fa) (fn : List He.DefD) (tf : List He.Defn) (ex : PySem.W.Frag → Bool) (g : Addr → Option Obj) : He.AlX := lvls g fun l => frF (He.frT g l) fun K => (He.obsT fa fn [] K, ex K && He.tabsB g tf K)
theorem saysY {fa : List He.Fa} {fn : List He.DefD} {tf : List He.Defn} {ex : PySem.W.Frag → Bool} {w : World} {h : Heap} (e : obY fa fn tf ex h.get? = He.valX fn [] w) : He.SaysX fa fn [] tf ex w h (He.frT h.get? (asY h.get?)) := by
  unfold obY at e
  rw [lvls_eq, frF_eq] at e
  obtain ⟨e1, e2⟩ := Prod.mk.inj e
  obtain ⟨h1, h2⟩ := He.ba e2
  have z : ∀ p ∈ tf, PySem.W.codeHdIn (He.frT h.get? (asY h.get?)) (He.cT (He.frT h.get? (asY h.get?)) p).1 (He.cT (He.frT h.get? (asY h.get?)) p).2 = true ∧ (∃ o, h.get? (He.cT (He.frT h.get? (asY h.get?)) p).2 = some o ∧ He.emptyTab o = true) := by
    intro p hp
    have h3 := List.all_eq_true.mp h2 p hp
    obtain ⟨a, b⟩ := He.ba h3
    refine ⟨a, ?_⟩
    split at b
    · rename_i o q
      exact ⟨o, q, b⟩
    · cases b
  constructor
  · exact e1
  · exact h1
  · intro p hp
    exact (z p hp).1
  · intro p hp
    obtain ⟨o, q, t⟩ := (z p hp).2
    exact He.frT_none q t
  · intro p hp
    obtain ⟨o, q, t⟩ := (z p hp).2
    rw [q, He.emptyTab_eq t]
def hookY (fa : List He.Fa) (fn : List He.DefD) (tf : List He.Defn) (ex : PySem.W.Frag → Bool) : PySem.W.Hook where
  α := He.AlX
  obs := fun s => obY fa fn tf ex s.heap.get?
  val := fun w => He.valX fn [] w
  says := fun w h => ∃ K : PySem.W.Frag, K.In h ∧ He.SaysX fa fn [] tf ex w h K
  of := fun _ _ e => ⟨_, He.frT_in, saysY e⟩
  keeps := by
    rintro _ _ _ ⟨K, hK, c⟩ k
    exact ⟨K, hK.keeps k, c.t, c.more, c.hd, c.out, fun p hp => k _ _ (c.empty p hp)⟩
abbrev R : PySem.W.OpenRow := PySem.W.OpenLaw.row PySem.Challenge.rw_lamplight_k05_whole_what_holds_of_all
abbrev hk : PySem.W.Hook := hookY fa fn tf exB
def ob (s : PySem.W.SharedT) : He.AlX := obY fa fn tf exB (HandSHeadRun.getT s)
theorem ob_eq (s : PySem.W.SharedT) : ob s = hk.obs s.abs := by
  have e : HandSHeadRun.getT s = s.abs.heap.get? := funext (HandSHeadRun.getT_eq s)
  unfold ob
  rw [e]
  rfl

/-! ### the looks, one by one -/
def lookK {α : Type} (g : Addr → Option Obj) (f : PySem.W.Frag → α) : α := lvls g fun l => frF (He.frT g l) f
theorem lookK_eq {α : Type} (g : Addr → Option Obj) (f : PySem.W.Frag → α) : lookK g f = f (He.frT g (asY g)) := by
  unfold lookK
  rw [lvls_eq, frF_eq]
abbrev qV : Program := PySem.W.view R.prog [58]
noncomputable def endW (w : World) (os : OsState) : Option PySem.W.SharedT := HandSHeadRun.endF (HandSHeadRun.stepQ (HandSHeadRun.denQ HandSHeadRun.tabQ) R.prog w) 40000 R.prog w os
abbrev dLaw : DefRec := HandSHeadRun.topDef R.prog 58
end Lamp
set_option maxHeartbeats 8000000
namespace Lamp
open PySem PySem.Spec PyProof.Rows L2
/-! ### all defs stand -/
theorem fun_of {K : PySem.W.Frag} {x qual : Str} {st : Stmt} {f : Addr} {fd : FuncData} (F : FunD K x qual (defArgs st) (defBody st) (defScope st) [] [] f fd) : Fun K x qual st f fd := by
  obtain ⟨oc, od, dV, kV, doc, pm, an, cdv, ct, osl, e, lk, hcd, hD, hK⟩ := F.ex
  rcases hD with ⟨_, rfl⟩ | ⟨z, _⟩
  · exact ⟨⟨oc, od, kV, doc, pm, an, cdv, ct, osl, e, lk, hcd⟩, F.kp⟩
  · exact absurd rfl z
section
variable {P : Program} {w : World} {K : PySem.W.Frag} {mg : Str → Option Value} {base h : Heap}
theorem top_at {n i : Nat} {x : Str} (c : He.SaysD fa fn K) (e : fn[n]? = some (topD x i)) : ∃ fd, FunD K x x (defArgs (top i)) (defBody (top i)) (defScope (top i)) [] [] (He.ga K x) fd := c.def_ n e
theorem met_at {n i j : Nat} {C x q : Str} (c : He.SaysD fa fn K) (e : fn[n]? = some (metD C x q i j)) : ∃ fd, FunD K x q (defArgs (inClass (top i) j)) (defBody (inClass (top i) j)) (defScope (inClass (top i) j)) [] [] (He.ma K (He.ga K C) x) fd := c.def_ n e
theorem stands_at {n i k : Nat} {x : Str} {ps : List Str} {sp : Sp} (X : K.In h) (G : h.Ns mainGlobals mg) (c : He.SaysD fa fn K) (e : fn[n]? = some (topD x i)) (m : He.Fa.glo x ∈ fa)
    (z : ∀ (kV doc pm : Value) (an : Option Addr) (cdv ct : Value) (us : List Value), us.length = ps.length → bindArgs (PySem.W.fnOf x x (defArgs (top i)) (defBody (top i)) (defScope (top i)) .none kV doc pm an cdv ct) ⟨us, []⟩ = pure (ps.zip us))
    (ok : ∀ {fd : FuncData}, Fun K x x (top i) (He.ga K x) fd → FnOk P w K mg base CX0 k (He.ga K x) fd ps sp) : Stands P w K mg base k x ps sp := by
  obtain ⟨fd, F⟩ := top_at c e
  exact ⟨_, fd, ok (fun_of F), He.glo_ok X G (c.facts m), F.kp, F.bindsN z⟩
theorem law_of (c : He.SaysD fa fn K) (X : K.In h) (G : h.Ns mainGlobals mg) {d_law : FuncData} (F_law : Fun K "law" "law" s_law (He.ga K "law") d_law) : FnOk P w K mg base CX0 7 (He.ga K "law") d_law ["script"] (spLaw K) := by
  have fre : ∀ {x : Str}, He.Fa.free x ∈ fa → mg x = none := fun m => He.free_ok X G (c.facts m)
  have tH : TxtH mg := ⟨fre (by simp [fa, fa0, fa1, fa2, fa3, fa4]), fre (by simp [fa, fa0, fa1, fa2, fa3, fa4])⟩
  have tI : TxtI mg := ⟨fre (by simp [fa, fa0, fa1, fa2, fa3, fa4]), fre (by simp [fa, fa0, fa1, fa2, fa3, fa4])⟩
  have tR : TxtR mg := ⟨fre (by simp [fa, fa0, fa1, fa2, fa3, fa4]), fre (by simp [fa, fa0, fa1, fa2, fa3, fa4]), fre (by simp [fa, fa0, fa1, fa2, fa3, fa4])⟩
  have tP : TxtP mg := ⟨fre (by simp [fa, fa0, fa1, fa2, fa3, fa4]), fre (by simp [fa, fa0, fa1, fa2, fa3, fa4]), fre (by simp [fa, fa0, fa1, fa2, fa3, fa4]), fre (by simp [fa, fa0, fa1, fa2, fa3, fa4])⟩
  have tD : TxtD mg := ⟨fre (by simp [fa, fa0, fa1, fa2, fa3, fa4])⟩
  have tM : TxtM mg := ⟨fre (by simp [fa, fa0, fa1, fa2, fa3, fa4]), fre (by simp [fa, fa0, fa1, fa2, fa3, fa4])⟩
  have tQ : TxtQ mg := ⟨fre (by simp [fa, fa0, fa1, fa2, fa3, fa4])⟩
  have tF : TxtF mg := ⟨fre (by simp [fa, fa0, fa1, fa2, fa3, fa4])⟩
  have tC : TxtC mg := ⟨fre (by simp [fa, fa0, fa1, fa2, fa3, fa4]), fre (by simp [fa, fa0, fa1, fa2, fa3, fa4])⟩
  have tK : TxtK mg := ⟨fre (by simp [fa, fa0, fa1, fa2, fa3, fa4]), fre (by simp [fa, fa0, fa1, fa2, fa3, fa4])⟩
  have tB : TxtB mg := ⟨fre (by simp [fa, fa0, fa1, fa2, fa3, fa4]), fre (by simp [fa, fa0, fa1, fa2, fa3, fa4]), fre (by simp [fa, fa0, fa1, fa2, fa3, fa4]), fre (by simp [fa, fa0, fa1, fa2, fa3, fa4]), fre (by simp [fa, fa0, fa1, fa2, fa3, fa4]), fre (by simp [fa, fa0, fa1, fa2, fa3, fa4])⟩
  have tA : TxtA mg := ⟨fre (by simp [fa, fa0, fa1, fa2, fa3, fa4])⟩
  have tY : TxtY mg := ⟨fre (by simp [fa, fa0, fa1, fa2, fa3, fa4])⟩
  have tS : TxtS mg := ⟨fre (by simp [fa, fa0, fa1, fa2, fa3, fa4]), fre (by simp [fa, fa0, fa1, fa2, fa3, fa4]), fre (by simp [fa, fa0, fa1, fa2, fa3, fa4]), fre (by simp [fa, fa0, fa1, fa2, fa3, fa4])⟩
  have tMx : TxtMx mg := ⟨fre (by simp [fa, fa0, fa1, fa2, fa3, fa4])⟩
  have tSm : TxtSm mg := ⟨fre (by simp [fa, fa0, fa1, fa2, fa3, fa4]), fre (by simp [fa, fa0, fa1, fa2, fa3, fa4]), fre (by simp [fa, fa0, fa1, fa2, fa3, fa4]), fre (by simp [fa, fa0, fa1, fa2, fa3, fa4]), fre (by simp [fa, fa0, fa1, fa2, fa3, fa4]), fre (by simp [fa, fa0, fa1, fa2, fa3, fa4]), fre (by simp [fa, fa0, fa1, fa2, fa3, fa4]), fre (by simp [fa, fa0, fa1, fa2, fa3, fa4]), fre (by simp [fa, fa0, fa1, fa2, fa3, fa4])⟩
  have tMs : TxtMs mg := ⟨fre (by simp [fa, fa0, fa1, fa2, fa3, fa4]), fre (by simp [fa, fa0, fa1, fa2, fa3, fa4]), fre (by simp [fa, fa0, fa1, fa2, fa3, fa4])⟩
  have tRi : TxtRi mg := ⟨fre (by simp [fa, fa0, fa1, fa2, fa3, fa4]), fre (by simp [fa, fa0, fa1, fa2, fa3, fa4]), fre (by simp [fa, fa0, fa1, fa2, fa3, fa4]), fre (by simp [fa, fa0, fa1, fa2, fa3, fa4]), fre (by simp [fa, fa0, fa1, fa2, fa3, fa4]), fre (by simp [fa, fa0, fa1, fa2, fa3, fa4])⟩
  have tN : TxtN mg := ⟨fre (by simp [fa, fa0, fa1, fa2, fa3, fa4]), fre (by simp [fa, fa0, fa1, fa2, fa3, fa4]), fre (by simp [fa, fa0, fa1, fa2, fa3, fa4]), fre (by simp [fa, fa0, fa1, fa2, fa3, fa4]), He.str_ok X G (c.facts (by simp [fa, fa0, fa1, fa2, fa3, fa4])), He.str_ok X G (c.facts (by simp [fa, fa0, fa1, fa2, fa3, fa4])), He.int_ok X G (c.facts (by simp [fa, fa0, fa1, fa2, fa3, fa4]))⟩
  have cH : ClsH K (He.ga K "House") := ⟨He.cls_ok (c.facts (by simp [fa, fa0, fa1, fa2, fa3, fa4])), He.noat_ok (c.facts (by simp [fa, fa0, fa1, fa2, fa3, fa4])), He.noat_ok (c.facts (by simp [fa, fa0, fa1, fa2, fa3, fa4])), He.noat_ok (c.facts (by simp [fa, fa0, fa1, fa2, fa3, fa4]))⟩
  obtain ⟨d_rooms, F_rooms⟩ := met_at c (n := 4) (C := "House") (x := "rooms") (q := "House.rooms") (i := 17) (j := 1) (by rfl)
  obtain ⟨d_near, F_near⟩ := met_at c (n := 6) (C := "House") (x := "near") (q := "House.near") (i := 17) (j := 6) (by rfl)
  obtain ⟨d_has, F_has⟩ := met_at c (n := 5) (C := "House") (x := "has") (q := "House.has") (i := 17) (j := 5) (by rfl)
  obtain ⟨d_init, F_init⟩ := met_at c (n := 3) (C := "House") (x := "__init__") (q := "House.__init__") (i := 17) (j := 0) (by rfl)
  have hH : HasH P w K mg base (He.ga K "House") := ⟨cH, ⟨_, _, He.meth_ok (c.facts (by simp [fa, fa0, fa1, fa2, fa3, fa4])), ok_has (fun_of F_has) tI cH, F_has.bindsN (fun _ _ _ _ _ _ us hl => match us, hl with | [u0, u1], _ => rfl)⟩, ⟨_, _, He.meth_ok (c.facts (by simp [fa, fa0, fa1, fa2, fa3, fa4])), ok_near (fun_of F_near) tH cH, F_near.bindsN (fun _ _ _ _ _ _ us hl => match us, hl with | [u0, u1], _ => rfl)⟩, ⟨_, _, He.meth_ok (c.facts (by simp [fa, fa0, fa1, fa2, fa3, fa4])), ok_rooms (fun_of F_rooms) tH cH, F_rooms.bindsN (fun _ _ _ _ _ _ us hl => match us, hl with | [u0], _ => rfl)⟩⟩
  have S_is_row : Stands P w K mg base 1 "is_row" ["thing"] (spIsRow K) := stands_at X G c (n := 0) (i := 13) (by rfl) (by simp [fa, fa0, fa1, fa2, fa3, fa4]) (fun _ _ _ _ _ _ us hl => match us, hl with | [u0], _ => rfl) fun F => ok_isrow F tR
  have S_is_name : Stands P w K mg base 1 "is_name" ["thing"] (spName) := stands_at X G c (n := 1) (i := 14) (by rfl) (by simp [fa, fa0, fa1, fa2, fa3, fa4]) (fun _ _ _ _ _ _ us hl => match us, hl with | [u0], _ => rfl) fun F => ok_name F tN
  have S_is_number : Stands P w K mg base 1 "is_number" ["thing"] (spNum) := stands_at X G c (n := 2) (i := 15) (by rfl) (by simp [fa, fa0, fa1, fa2, fa3, fa4]) (fun _ _ _ _ _ _ us hl => match us, hl with | [u0], _ => rfl) fun F => ok_num F tB
  have S_need_room : Stands P w K mg base 2 "need_room" ["house", "thing"] (spNeed (He.ga K "House")) := stands_at X G c (n := 7) (i := 18) (by rfl) (by simp [fa, fa0, fa1, fa2, fa3, fa4]) (fun _ _ _ _ _ _ us hl => match us, hl with | [u0, u1], _ => rfl) fun F => ok_need F hH
  have S_leader_of : Stands P w K mg base 1 "leader_of" ["leaders", "room"] (spLeader) := stands_at X G c (n := 11) (i := 22) (by rfl) (by simp [fa, fa0, fa1, fa2, fa3, fa4]) (fun _ _ _ _ _ _ us hl => match us, hl with | [u0, u1], _ => rfl) fun F => ok_leader F
  have S_is_pair_of : Stands P w K mg base 2 "is_pair_of" ["rooms", "thing"] (spPair) := stands_at X G c (n := 10) (i := 21) (by rfl) (by simp [fa, fa0, fa1, fa2, fa3, fa4]) (fun _ _ _ _ _ _ us hl => match us, hl with | [u0, u1], _ => rfl) fun F => ok_pair F tP S_is_row
  have S_doors_fault : Stands P w K mg base 3 "doors_fault" ["rooms", "doors"] (spDoors K) := stands_at X G c (n := 9) (i := 20) (by rfl) (by simp [fa, fa0, fa1, fa2, fa3, fa4]) (fun _ _ _ _ _ _ us hl => match us, hl with | [u0, u1], _ => rfl) fun F => ok_doors F tD S_is_row S_is_pair_of S_leader_of
  have S_rooms_fault : Stands P w K mg base 2 "rooms_fault" ["rooms"] (spRoomsF K) := stands_at X G c (n := 8) (i := 19) (by rfl) (by simp [fa, fa0, fa1, fa2, fa3, fa4]) (fun _ _ _ _ _ _ us hl => match us, hl with | [u0], _ => rfl) fun F => ok_roomsf F tM S_is_row S_is_name
  have S_rooms_by_doors : Stands P w K mg base 1 "rooms_by_doors" ["rooms", "doors"] (spNearBy K) := stands_at X G c (n := 12) (i := 23) (by rfl) (by simp [fa, fa0, fa1, fa2, fa3, fa4]) (fun _ _ _ _ _ _ us hl => match us, hl with | [u0, u1], _ => rfl) fun F => ok_nearby F
  have S_reach : Stands P w K mg base 2 "reach" ["house", "start", "inside"] (spReach K (He.ga K "House")) := stands_at X G c (n := 13) (i := 24) (by rfl) (by simp [fa, fa0, fa1, fa2, fa3, fa4]) (fun _ _ _ _ _ _ us hl => match us, hl with | [u0, u1, u2], _ => rfl) fun F => ok_reach F tQ hH
  have S_first_parted : Stands P w K mg base 3 "first_parted" ["house", "some"] (spFirst K (He.ga K "House")) := stands_at X G c (n := 14) (i := 25) (by rfl) (by simp [fa, fa0, fa1, fa2, fa3, fa4]) (fun _ _ _ _ _ _ us hl => match us, hl with | [u0, u1], _ => rfl) fun F => ok_first F tF S_reach
  have S_towards : Stands P w K mg base 2 "towards" ["house", "root"] (spTowards K (He.ga K "House")) := stands_at X G c (n := 16) (i := 28) (by rfl) (by simp [fa, fa0, fa1, fa2, fa3, fa4]) (fun _ _ _ _ _ _ us hl => match us, hl with | [u0, u1], _ => rfl) fun F => ok_towards F hH
  have S_climb : Stands P w K mg base 1 "climb" ["steps", "room"] (spClimb K) := stands_at X G c (n := 17) (i := 29) (by rfl) (by simp [fa, fa0, fa1, fa2, fa3, fa4]) (fun _ _ _ _ _ _ us hl => match us, hl with | [u0, u1], _ => rfl) fun F => ok_climb F
  have S_way_between : Stands P w K mg base 3 "way_between" ["house", "one", "other"] (spWay K (He.ga K "House")) := stands_at X G c (n := 18) (i := 30) (by rfl) (by simp [fa, fa0, fa1, fa2, fa3, fa4]) (fun _ _ _ _ _ _ us hl => match us, hl with | [u0, u1, u2], _ => rfl) fun F => ok_wayB F S_towards S_climb
  have S_way : Stands P w K mg base 4 "way" ["house", "one", "other"] (spWay K (He.ga K "House")) := stands_at X G c (n := 15) (i := 27) (by rfl) (by simp [fa, fa0, fa1, fa2, fa3, fa4]) (fun _ _ _ _ _ _ us hl => match us, hl with | [u0, u1, u2], _ => rfl) fun F => ok_way F S_need_room S_way_between
  have S_may_follow : Stands P w K mg base 2 "may_follow" ["house", "ahead", "thing"] (spMay (He.ga K "House")) := stands_at X G c (n := 23) (i := 36) (by rfl) (by simp [fa, fa0, fa1, fa2, fa3, fa4]) (fun _ _ _ _ _ _ us hl => match us, hl with | [u0, u1, u2], _ => rfl) fun F => ok_may F hH
  have S_carrying_fault : Stands P w K mg base 3 "carrying_fault" ["house", "thing"] (spFault K (He.ga K "House")) := stands_at X G c (n := 22) (i := 35) (by rfl) (by simp [fa, fa0, fa1, fa2, fa3, fa4]) (fun _ _ _ _ _ _ us hl => match us, hl with | [u0, u1], _ => rfl) fun F => ok_fault F tC S_is_row S_may_follow
  have S_need_carrying : Stands P w K mg base 4 "need_carrying" ["house", "carrying"] (spCarN K (He.ga K "House")) := stands_at X G c (n := 24) (i := 37) (by rfl) (by simp [fa, fa0, fa1, fa2, fa3, fa4]) (fun _ _ _ _ _ _ us hl => match us, hl with | [u0, u1], _ => rfl) fun F => ok_need_car F S_carrying_fault
  have S_hours_of : Stands P w K mg base 2 "hours_of" ["house", "rooms"] (spHours K (He.ga K "House")) := stands_at X G c (n := 30) (i := 44) (by rfl) (by simp [fa, fa0, fa1, fa2, fa3, fa4]) (fun _ _ _ _ _ _ us hl => match us, hl with | [u0, u1], _ => rfl) fun F => ok_hours F hH
  have S_ledger_of : Stands P w K mg base 5 "ledger_of" ["house", "carrying"] (spLedger K (He.ga K "House")) := stands_at X G c (n := 29) (i := 43) (by rfl) (by simp [fa, fa0, fa1, fa2, fa3, fa4]) (fun _ _ _ _ _ _ us hl => match us, hl with | [u0, u1], _ => rfl) fun F => ok_ledger F S_need_carrying S_hours_of
  have S_stays : Stands P w K mg base 5 "stays" ["house", "carrying"] (spStays K (He.ga K "House")) := stands_at X G c (n := 19) (i := 32) (by rfl) (by simp [fa, fa0, fa1, fa2, fa3, fa4]) (fun _ _ _ _ _ _ us hl => match us, hl with | [u0, u1], _ => rfl) fun F => ok_stays F tC S_need_carrying
  have S_pairs_beside : Stands P w K mg base 2 "pairs_beside" ["house"] (spPairs (He.ga K "House")) := stands_at X G c (n := 25) (i := 38) (by rfl) (by simp [fa, fa0, fa1, fa2, fa3, fa4]) (fun _ _ _ _ _ _ us hl => match us, hl with | [u0], _ => rfl) fun F => ok_pairs F hH
  have S_passes : Stands P w K mg base 5 "passes" ["house", "carrying"] (spPasses K (He.ga K "House")) := stands_at X G c (n := 20) (i := 33) (by rfl) (by simp [fa, fa0, fa1, fa2, fa3, fa4]) (fun _ _ _ _ _ _ us hl => match us, hl with | [u0, u1], _ => rfl) fun F => ok_passes F tC S_need_carrying S_pairs_beside
  have S_is_passes : Stands P w K mg base 3 "is_passes" ["house", "thing"] (spIsP (He.ga K "House")) := stands_at X G c (n := 26) (i := 39) (by rfl) (by simp [fa, fa0, fa1, fa2, fa3, fa4]) (fun _ _ _ _ _ _ us hl => match us, hl with | [u0, u1], _ => rfl) fun F => ok_isp F tB S_pairs_beside S_is_number
  have S_leads_on : Stands P w K mg base 3 "leads_on" ["house", "counted", "first", "last"] (spLeads (He.ga K "House")) := stands_at X G c (n := 27) (i := 40) (by rfl) (by simp [fa, fa0, fa1, fa2, fa3, fa4]) (fun _ _ _ _ _ _ us hl => match us, hl with | [u0, u1, u2, u3], _ => rfl) fun F => ok_leads F S_towards S_climb
  have S_hangs_at : Stands P w K mg base 2 "hangs_at" ["house", "counted", "first"] (spHangs (He.ga K "House")) := stands_at X G c (n := 28) (i := 41) (by rfl) (by simp [fa, fa0, fa1, fa2, fa3, fa4]) (fun _ _ _ _ _ _ us hl => match us, hl with | [u0, u1, u2], _ => rfl) fun F => ok_hangs F tA hH
  have S_stays_by : Stands P w K mg base 4 "stays_by" ["house", "counted", "first", "last"] (spBy (He.ga K "House")) := stands_at X G c (n := 21) (i := 34) (by rfl) (by simp [fa, fa0, fa1, fa2, fa3, fa4]) (fun _ _ _ _ _ _ us hl => match us, hl with | [u0, u1, u2, u3], _ => rfl) fun F => ok_by F tY hH S_is_passes S_need_room S_leads_on S_hangs_at
  have S__law_start : Stands P w K mg base 1 "_law_start" ["script"] (spStart K) := stands_at X G c (n := 31) (i := 46) (by rfl) (by simp [fa, fa0, fa1, fa2, fa3, fa4]) (fun _ _ _ _ _ _ us hl => match us, hl with | [u0], _ => rfl) fun F => ok_start F tS
  have S__law_draw : Stands P w K mg base 1 "_law_draw" ["stream", "many"] (spDraw) := stands_at X G c (n := 32) (i := 47) (by rfl) (by simp [fa, fa0, fa1, fa2, fa3, fa4]) (fun _ _ _ _ _ _ us hl => match us, hl with | [u0, u1], _ => rfl) fun F => ok_draw F tS
  obtain ⟨f_draw, e_draw, G_draw, m_draw, k_draw, b_draw⟩ := id S__law_draw
  have S__law_mixed : Stands P w K mg base 2 "_law_mixed" ["stream", "some"] (spMixed K) := stands_at X G c (n := 34) (i := 49) (by rfl) (by simp [fa, fa0, fa1, fa2, fa3, fa4]) (fun _ _ _ _ _ _ us hl => match us, hl with | [u0, u1], _ => rfl) fun F => ok_mixed F tS G_draw m_draw k_draw b_draw
  have S__law_pick : Stands P w K mg base 2 "_law_pick" ["stream", "some"] (spPick) := stands_at X G c (n := 33) (i := 48) (by rfl) (by simp [fa, fa0, fa1, fa2, fa3, fa4]) (fun _ _ _ _ _ _ us hl => match us, hl with | [u0, u1], _ => rfl) fun F => ok_pick F tS S__law_draw
  have S__law_h_names : Stands P w K mg base 3 "_law_h_names" ["stream", "many"] (spNames) := stands_at X G c (n := 36) (i := 51) (by rfl) (by simp [fa, fa0, fa1, fa2, fa3, fa4]) (fun _ _ _ _ _ _ us hl => match us, hl with | [u0, u1], _ => rfl) fun F => ok_names F S__law_mixed
  have S__law_h_doors : Stands P w K mg base 3 "_law_h_doors" ["stream", "rooms"] (spHDoors) := stands_at X G c (n := 37) (i := 52) (by rfl) (by simp [fa, fa0, fa1, fa2, fa3, fa4]) (fun _ _ _ _ _ _ us hl => match us, hl with | [u0, u1], _ => rfl) fun F => ok_hdoors F tS tMx S__law_draw S__law_mixed
  have S__law_h_house : Stands P w K mg base 4 "_law_h_house" ["stream", "most"] (spHHouse) := stands_at X G c (n := 38) (i := 53) (by rfl) (by simp [fa, fa0, fa1, fa2, fa3, fa4]) (fun _ _ _ _ _ _ us hl => match us, hl with | [u0, u1], _ => rfl) fun F => ok_hhouse F S__law_draw S__law_mixed S__law_h_names S__law_h_doors
  have S__law_h_beside : Stands P w K mg base 1 "_law_h_beside" ["doors", "room"] (spBesideM) := stands_at X G c (n := 39) (i := 54) (by rfl) (by simp [fa, fa0, fa1, fa2, fa3, fa4]) (fun _ _ _ _ _ _ us hl => match us, hl with | [u0, u1], _ => rfl) fun F => ok_besideM F tK
  have S__law_h_carrying : Stands P w K mg base 3 "_law_h_carrying" ["stream", "rooms", "doors", "most"] (spHCarry) := stands_at X G c (n := 40) (i := 55) (by rfl) (by simp [fa, fa0, fa1, fa2, fa3, fa4]) (fun _ _ _ _ _ _ us hl => match us, hl with | [u0, u1, u2, u3], _ => rfl) fun F => ok_hcarry F tS S__law_draw S__law_pick S__law_h_beside
  have S__law_many_stays : Stands P w K mg base 1 "_law_many_stays" ["rooms", "told"] (spMany) := stands_at X G c (n := 41) (i := 56) (by rfl) (by simp [fa, fa0, fa1, fa2, fa3, fa4]) (fun _ _ _ _ _ _ us hl => match us, hl with | [u0, u1], _ => rfl) fun F => ok_many F tMs
  have S_no : Stands P w K mg base 1 "_law_same" ["found", "due"] (spSameB 0) := stands_at X G c (n := 35) (i := 50) (by rfl) (by simp [fa, fa0, fa1, fa2, fa3, fa4]) (fun _ _ _ _ _ _ us hl => match us, hl with | [u0, u1], _ => rfl) fun F => F.ok scSm (fun _ _ _ _ z => z.elim) (fun _ _ _ _ _ _ _ _ _ z => z.elim)
  have S_same0 : Stands P w K mg base 2 "_law_same" ["found", "due"] (spSame 0) := stands_at X G c (n := 35) (i := 50) (by rfl) (by simp [fa, fa0, fa1, fa2, fa3, fa4]) (fun _ _ _ _ _ _ us hl => match us, hl with | [u0, u1], _ => rfl) fun F => ok_same (by decide) F tSm S_no
  have S_same1 : Stands P w K mg base 3 "_law_same" ["found", "due"] (spSame 1) := stands_at X G c (n := 35) (i := 50) (by rfl) (by simp [fa, fa0, fa1, fa2, fa3, fa4]) (fun _ _ _ _ _ _ us hl => match us, hl with | [u0, u1], _ => rfl) fun F => ok_same (by decide) F tSm S_same0
  have S_same2 : Stands P w K mg base 4 "_law_same" ["found", "due"] (spSame 2) := stands_at X G c (n := 35) (i := 50) (by rfl) (by simp [fa, fa0, fa1, fa2, fa3, fa4]) (fun _ _ _ _ _ _ us hl => match us, hl with | [u0, u1], _ => rfl) fun F => ok_same (by decide) F tSm S_same1
  have S_same3 : Stands P w K mg base 5 "_law_same" ["found", "due"] (spSame 3) := stands_at X G c (n := 35) (i := 50) (by rfl) (by simp [fa, fa0, fa1, fa2, fa3, fa4]) (fun _ _ _ _ _ _ us hl => match us, hl with | [u0, u1], _ => rfl) fun F => ok_same (by decide) F tSm S_same2
  have S__law_one_right : Stands P w K mg base 6 "_law_one_right" ["stream", "house", "rooms", "doors", "row"] (spRight (He.ga K "House")) := stands_at X G c (n := 42) (i := 57) (by rfl) (by simp [fa, fa0, fa1, fa2, fa3, fa4]) (fun _ _ _ _ _ _ us hl => match us, hl with | [u0, u1, u2, u3, u4], _ => rfl) fun F => ok_right F tRi S_passes S_stays S_ledger_of S_way S__law_many_stays S__law_mixed S_stays_by S_same3
  exact ok_law F_law tS S__law_start S__law_h_house S__law_h_carrying S__law_one_right (He.mkr_ok (c.facts (by simp [fa, fa0, fa1, fa2, fa3, fa4]))) (ok_init (fun_of F_init) tK cH S_rooms_fault S_doors_fault S_rooms_by_doors S_first_parted)
    (He.glo_ok X G (c.facts (by simp [fa, fa0, fa1, fa2, fa3, fa4]))) (F_init.bindsN (fun _ _ _ _ _ _ us hl => match us, hl with | [u0, u1, u2], _ => rfl))
end
end Lamp
set_option maxHeartbeats 0
namespace Lamp
open PySem PySem.W PySem.Spec PySem.Calls PyProof.Rows L2
theorem run1 (w : World) (os : OsState) : (endW w os).map (fun s => (HandSHeadRun.looksF R.prog (PySem.W.boot_heap w.params) s.abs, HandSHeadRun.seenQ qV nms (importedModules R.prog.main.body) (fun s => PySem.W.xlAt qV [] s && PySem.W.recOk R.toRowW.records s) s.abs)) = some (true, PySem.W.openGood qV nms) := by
  kernel_rfl
end Lamp
set_option maxHeartbeats 0
namespace Lamp
open PySem PySem.W PySem.Spec PySem.Calls PyProof.Rows L2
theorem run2 (w : World) (os : OsState) : (endW w os).map (fun s => lookK (HandSHeadRun.getT s) fun K => (fa.all fun f => f.ok K)) = some true := by
  kernel_rfl
end Lamp
set_option maxHeartbeats 0
namespace Lamp
open PySem PySem.W PySem.Spec PySem.Calls PyProof.Rows L2
theorem run3 (w : World) (os : OsState) : (endW w os).map (fun s => lookK (HandSHeadRun.getT s) fun K => (fn.all fun d => d.ok K, fn.map fun d => He.fnW K d.at_)) = some (true, fn.map He.DefD.val) := by
  kernel_rfl
end Lamp
set_option maxHeartbeats 8000000
namespace Lamp
open PySem PySem.W PySem.Spec PySem.Calls PyProof.Rows L2
theorem run (w : World) : HandSHeadRun.RunEq R qV hk ob 40000 nms w := by
  intro os
  obtain ⟨s, hs, h1⟩ := Option.map_eq_some_iff.mp (run1 w os)
  obtain ⟨h1a, h1b⟩ := Prod.mk.inj h1
  have got : ∀ {α : Type} {f : PySem.W.SharedT → α} {v : α}, (endW w os).map f = some v → f s = v := fun {α f v} z => by
    rw [hs] at z
    exact Option.some.inj z
  have h2 : lookK (HandSHeadRun.getT s) (fun K => (fa.all fun f => f.ok K)) = true := got (run2 w os)
  have h3 : lookK (HandSHeadRun.getT s) (fun K => (fn.all fun d => d.ok K, fn.map fun d => He.fnW K d.at_)) = (true, fn.map He.DefD.val) := got (run3 w os)
  rw [lookK_eq] at h2 h3
  obtain ⟨h4, h5⟩ := Prod.mk.inj h3
  have eo : ob s = hk.val w := by
    show obY fa fn tf exB (HandSHeadRun.getT s) = He.valX fn [] w
    unfold obY
    rw [lvls_eq, frF_eq]
    have ed : He.obsD fa fn (He.frT (HandSHeadRun.getT s) (asY (HandSHeadRun.getT s))) = He.valD fn := by
      unfold He.obsD He.valD
      rw [h2, h4, h5]
      rfl
    unfold He.obsT He.valX He.valT
    rw [ed]
    rfl
  show (endW w os).map _ = _
  rw [hs]
  show some (HandSHeadRun.looksF R.prog (PySem.W.boot_heap w.params) s.abs, HandSHeadRun.seenQ qV nms (importedModules R.prog.main.body) (fun s => PySem.W.xlAt qV [] s && PySem.W.recOk R.toRowW.records s) s.abs, ob s) = _
  rw [h1a, h1b, eo]
  rfl
end Lamp
namespace Lamp
open PySem PySem.Spec PyProof.Rows L2
abbrev RL : PySem.W.OpenLaw := PySem.Challenge.rw_lamplight_k05_whole_what_holds_of_all
theorem walk {q : Program} {loose : List Str} {XP : (Str → Option Value) → Heap → Prop} : PySem.W.WalkO q loose XP hk.says R.toRowW dLaw [] fun f vs => PySem.call f vs := by
  refine Att.attach_callB (l := RL) (n := 63) rfl (by kernel_rfl) fun w s₀ s₁ mg mb fA o pm cd doc a vs ns G Y ho hd hcd hmg hobj hints hlen hbits hg => ?_
  obtain ⟨K, KX, c⟩ := Y
  have nm : dLaw.name = ("law" : Str) := by kernel_rfl
  have hm : mg ("law" : Str) = some (.ref fA) := by
    rw [← nm]
    exact hmg
  have e := hm.symm.trans (He.glo_ok KX G.T.g (c.t.d.facts (by simp [fa, fa0, fa1, fa2, fa3, fa4])))
  cases e
  obtain ⟨fd, F⟩ := top_at c.t.d (n := 43) (x := "law") (i := 58) (by rfl)
  exact law_call (k := 7) (sp := spLaw K) KX G.T.g G.T.b G.T.builtins G.T.nolimit hg hobj hints (Nat.le_trans hlen (by decide)) ⟨rfl, by decide, by decide⟩
    (fun base hK hns => law_of c.t.d hK hns (fun_of F)) (fun s u => F.bindsA (ps := ["script"]) (fun kV doc pm an cdv ct us hl => match us, hl with
      | [u], _ => rfl) s [u] rfl) (fun H _ hS => ⟨a, ns, rfl, hS, fun _ => rfl⟩) fun _ _ _ z => z
end Lamp
open PySem PySem.W PySem.Calls PyProof.Rows
theorem PySem.Challenge.cw_lamplight_k05_whole_what_holds_of_all_holds : PySem.Challenge.rw_lamplight_k05_whole_what_holds_of_all.Holds := by
  w_on; o_law
  refine HandSHeadRun.head_any (r := Lamp.R) (q := view Lamp.R.prog [58]) (H := Lamp.hk) (ob := Lamp.ob) (M := 40000) (loose := Lamp.nms) (d := Lamp.dLaw) (kwd := []) Lamp.ob_eq
    (by kernel_rfl) (fun s => by kernel_rfl) Lamp.run (by kernel_rfl) (by kernel_rfl) (by kernel_rfl) (by rfl) (by first | assumption | decide +kernel) (by decide +kernel) ⟨rfl, rfl, rfl, rfl, rfl, by decide +kernel⟩ ?hw ?hc
  case hw => w_witness2
  case hc => exact Lamp.walk
