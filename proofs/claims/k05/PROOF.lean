import PyProof.Rows.All
import Wide.All
import OpenK.AllK
import Wide.FinOn
import HandS.ForMost
import HandS.ForExc
import HandS.Wide
import HandS.IsInst
import HandS.ExcInit
import HandS.ExcField
import HandS.Conv
import HandS.TupLe
import HandS.TryOnly
import HandS.ExcIs
import HandS.Codes
import KE.GoesMore
import HandS.Defaults
import HandS.DictComp
import OpenK.KMeth
import OpenK.KOps
import HandS.Dict
import HandS.TupAny
import HandS.Small
import HandS.WordsDict
import HandS.Walk
import HandS.TupSets
import KE.KFmtOwn
import PyProof.InstEq
import HandS.SortInts
import HandS.More
import PySem.Challenge.RW_joinedguests_k05_newcomers_and_new_label
set_option Elab.async false
set_option linter.all false
set_option maxRecDepth 100000
set_option maxHeartbeats 2000000
namespace J
open PySem PySem.Spec PyProof.Rows L2
def top (i : Nat) : Stmt := PySem.Challenge.pw_joinedguests_k05_newcomers_and_new_label.main.body.getD i (.Pass ⟨0, 0, 0, 0⟩)
/-! ### a def that may be called -/
structure Cal (P : Program) (w : World) (K : PySem.W.Frag) (mg : Str → Option Value) (base : Heap) (CX : CXT) (k : Nat) (x : Str) (f : Addr) (fd : FuncData) (ps : List Str) (sp : Sp) : Prop where
  F : FnOk P w K mg base CX k f fd ps sp
  m : mg x = some (.ref f)
  kp : PySem.W.keepIn K (.ref f) = true
  b : Binds K fd ps []
section
variable {X : Cx} {CX : CXT} {k j : Nat} {x : Str} {f : Addr} {fd : FuncData} {ps : List Str} {sp : Sp} {E : XK} {p pos : Pos} {e : Expr} {es : List Expr} {t : TA}
theorem pcal (c : Cal X.prog X.w X.K X.mg X.base CX k x f fd ps sp) (hr : Room j X.A) (hx : Passes CX X E) (ha : PA X (e :: es) t) (hk : k ≤ j := by decide) (hg : Gl X x := by rfl)
    (hdb : (x == ("__debug__" : Str)) = false := by decide) (he : starEach (e :: es) X.env = (false, eval e X.env) :: starEach es X.env := by rfl) (hpl : (backTo pos (starEach es X.env)).any (·.1) = false := by rfl) :
    PE X (.Call (.Name x p) (e :: es) [] pos) (tCall sp [] E t) := pe_call c.F (hr.mono hk) hg c.m c.kp c.b .nil hx ha hdb he hpl
end
/-! ### loops over enumerate -/
theorem for_enum {K : PySem.W.Frag} {a : Addr} {xs : List V} {g : TG} {tb : TS} {D : Ends} {σ : L2.St} {H : Hp} (Pv : Nat → L2.St → Hp → Prop) (h0 : Pv 0 σ H) (hl : ∀ i σ H, i ≤ xs.length → Pv i σ H → SqL K H a xs)
    (hs : ∀ i x σ H T, xs[i]? = some x → Pv i σ H → H T = none → g (.ref T) σ (upd H T (.tup [.int (i : Nat), x])) fun σ2 H2 => tb { D with nx := Pv (i + 1), ct := Pv (i + 1), bk := D.nx } σ2 H2) (hd : ∀ σ H, Pv xs.length σ H → D.nx σ H) :
    ∃ W : Nat → Nat → L2.St → Hp → Prop, (∃ m, W 0 m σ H) ∧ ∀ i m σ H, W i m σ H →
      ((Ite K a).stop i H ∧ D.nx σ H) ∨ ((Ite K a).go i H ∧ ∃ N : L2.St → Hp → Prop, (∀ σ' H', N σ' H' → ∃ m', m' < m ∧ W (i + 1) m' σ' H') ∧ ∀ x H', (Ite K a).yld i H x H' → g x σ H' fun σ2 H2 => tb { D with nx := N, ct := N, bk := D.nx } σ2 H2) := by
  refine ⟨fun i m s h => m + i = xs.length ∧ Pv i s h, ⟨xs.length, rfl, h0⟩, ?_⟩
  rintro i m σ H ⟨em, p⟩
  have hi : i ≤ xs.length := by omega
  have q := hl i σ H hi p
  rcases Nat.lt_or_ge i xs.length with hlt | hge
  · refine .inr ⟨⟨xs, xs[i], q, by simp [hlt]⟩, Pv (i + 1), fun σ' H' p' => ⟨m - 1, by omega, by omega, p'⟩, ?_⟩
    rintro x H' ⟨T, y, rfl, hT, rfl, hy⟩
    exact hs i y σ H T (hy xs q) p hT
  · have e : i = xs.length := by omega
    subst e
    exact .inl ⟨⟨xs, q, Nat.le_refl _⟩, hd σ H p⟩

/-! ### mix -/
abbrev s_Lmix : Stmt := top 25
theorem sc_Lmix : FnScope ["_law_number", "_law_turn", "_law_once", "_law_twice"] ["_law_number", "_law_turn"] (defScope s_Lmix) := ⟨rfl, rfl, rfl, by decide +kernel, rfl, by decide +kernel, by decide +kernel⟩
def spMix : Sp := fun vs H Q _ => ∃ n t : Int, vs = [.int n, .int t] ∧ ∀ r : Int, 0 ≤ r → Q (.int r) H
section
variable {P : Program} {w : World} {K : PySem.W.Frag} {mg : Str → Option Value} {base : Heap}
theorem ok_Lmix {f : Addr} {fd : FuncData} (F : Fun K "_law_mix" "_law_mix" s_Lmix f fd) (ni : mg "int" = none) : FnOk P w K mg base CX0 1 f fd ["_law_number", "_law_turn"] spMix := by
  refine F.ok sc_Lmix (fun vs H Q E h => ?_) (fun cdv A outer s H vs Q E hr h => ?_)
  · obtain ⟨n, t, rfl, _⟩ := h
    rfl
  · obtain ⟨n, t, rfl, k⟩ := h
    refine ⟨_, (pss_cons 
  (ps_set (i := 2) sc_Lmix.nd rfl (Or.inl rfl) (pe_op op_mod (pe_callTy call_int1 (by rfl) ni (by decide +kernel) (pa_cons (pe_op op_add (pe_op op_add (pe_op op_mul (pv 0) pe_int) (pe_op op_mul (pv 1) pe_int)) pe_int) pa_nil)) pe_int)) (pss_cons 
  (ps_set (i := 3) sc_Lmix.nd rfl (Or.inl rfl) (pe_op op_mod (pe_callTy call_int1 (by rfl) ni (by decide +kernel) (pa_cons (pe_op op_add (pe_op op_add (pe_op op_mul (pv 2) (pv 2)) (pe_op op_mul (pe_op op_fdiv (pv 2) pe_int) pe_int)) (pe_op op_mul (pv 1) pe_int)) pa_nil)) pe_int)) (pss_one 
  (ps_ret (pe_op op_fdiv (pe_op op_mod (pe_callTy call_int1 (by rfl) ni (by decide +kernel) (pa_cons (pe_op op_add (pe_op op_fdiv (pe_op op_mul (pv 3) (pv 3)) pe_int) (pv 2)) pa_nil)) pe_int) pe_int))))), ?_⟩
    refine ⟨_, rfl, _, _, rfl, rfl, .inr (by decide), _, rfl, _, _, rfl, rfl, .inr (by decide), _, _, rfl, rfl, _, _, rfl, rfl, .inl ⟨_, rfl, ?_⟩⟩
    refine ⟨_, _, rfl, rfl, (by show (0 : Int) < 2147483647; decide), ?_⟩
    have b1 := Int.emod_nonneg (n * 48271 + t * 16807 + 11) (b := 2147483647) (by decide)
    have b2 := Int.emod_lt_of_pos (n * 48271 + t * 16807 + 11) (b := 2147483647) (by decide)
    generalize (n * 48271 + t * 16807 + 11) % 2147483647 = o at b1 b2 ⊢
    refine ⟨_, rfl, _, rfl, _, _, rfl, rfl, .inl ⟨by omega, by omega⟩, ?_⟩
    refine ⟨_, rfl, _, _, rfl, rfl, ⟨by decide, by decide⟩, _, _, rfl, rfl, .inr (by decide), _, _, rfl, rfl, _, rfl, _, _, rfl, rfl, .inr (by decide), _, _, rfl, rfl, .inl ⟨_, rfl, ?_⟩⟩
    refine ⟨_, _, rfl, rfl, (by show (0 : Int) < 2147483399; decide), ?_⟩
    have b3 := Int.emod_nonneg (o * o + o / 127 * 40692 + t * 69621) (b := 2147483399) (by decide)
    have b4 := Int.emod_lt_of_pos (o * o + o / 127 * 40692 + t * 69621) (b := 2147483399) (by decide)
    generalize (o * o + o / 127 * 40692 + t * 69621) % 2147483399 = u at b3 b4 ⊢
    refine ⟨_, rfl, _, rfl, _, _, rfl, rfl, .inl ⟨by omega, by omega⟩, _, _, rfl, rfl, ⟨by decide, by decide⟩, _, rfl, _, _, rfl, rfl, .inl ⟨_, rfl, ?_⟩⟩
    refine ⟨_, _, rfl, rfl, (by show (0 : Int) < 2147483563; decide), _, _, rfl, rfl, ⟨by decide, by decide⟩, k _ ?_⟩
    have b5 := Int.emod_nonneg (u * u / 1009 + o) (b := 2147483563) (by decide)
    omega
end
end J

set_option Elab.async false
set_option linter.all false
set_option maxRecDepth 100000
set_option maxHeartbeats 2000000
namespace J
open PySem PySem.Spec PyProof.Rows L2
/-! ### the hand that is drawn from -/
/-- at h the hand stands: its cells at q -/
def Hand (H : Hp) (h q : Addr) : Prop := ∃ (cs : List Int) (i r t : Int), H h = some (.lst [.ref q, .int i, .int r, .int t]) ∧ H q = some (.lst (cs.map V.int)) ∧ q ≠ h ∧ 0 ≤ i ∧ 0 ≤ r ∧ 0 ≤ t ∧ t < 2147483629 ∧ (∀ c ∈ cs, 0 ≤ c) ∧ cs.length ≤ 63
/-- all that was tracked stands as it stood, but for what is at h -/
def But (h : Addr) (H H' : Hp) : Prop := ∀ b o, b ≠ h → H b = some o → H' b = some o
theorem But.refl (h : Addr) (H : Hp) : But h H H := fun _ _ _ e => e
theorem But.trans {h : Addr} {H H1 H2 : Hp} (a : But h H H1) (b : But h H1 H2) : But h H H2 := fun c o n e => b c o n (a c o n e)
theorem But.put {h : Addr} {H : Hp} {o : HO} : But h H (upd H h o) := fun c u n e => by rw [upd_ne n]; exact e
theorem But.new {h a : Addr} {H : Hp} {o : HO} (n : H a = none) : But h H (upd H a o) := fun c u _ e => by rw [upd_ne (ne_of_none e n)]; exact e
theorem But.same {h : Addr} {H H1 : Hp} (s : Same H H1) : But h H H1 := fun c o _ e => s c o e
theorem Hand.keep {H H' : Hp} {h q : Addr} (x : Hand H h q) (s : Same H H') : Hand H' h q := by
  obtain ⟨cs, i, r, t, e1, e2, z⟩ := x
  exact ⟨cs, i, r, t, s _ _ e1, s _ _ e2, z⟩
theorem Hand.put {H : Hp} {h q a : Addr} {o : HO} (x : Hand H h q) (n1 : h ≠ a) (n2 : q ≠ a) : Hand (upd H a o) h q := by
  obtain ⟨cs, i, r, t, e1, e2, z⟩ := x
  exact ⟨cs, i, r, t, by rw [upd_ne n1]; exact e1, by rw [upd_ne n2]; exact e2, z⟩
theorem Hand.new {H : Hp} {h q a : Addr} {o : HO} (x : Hand H h q) (n : H a = none) : Hand (upd H a o) h q :=
  x.keep fun c u e => by rw [upd_ne (ne_of_none e n)]; exact e
theorem yesT {A B : Hp → Prop} {σ : L2.St} {H : Hp} (h : A H) : tYes σ H (fun b H3 => if b = true then A H3 else B H3) := by
  show if true = true then A H else B H
  rw [if_pos rfl]
  exact h
abbrev s_Lhand : Stmt := top 26
theorem sc_Lhand : FnScope ["_law_script", "_law_total", "_law_k", "_law_cell"] ["_law_script"] (defScope s_Lhand) := ⟨rfl, rfl, rfl, by decide +kernel, rfl, by decide +kernel, by decide +kernel⟩
def spHand (K : PySem.W.Frag) : Sp := fun vs H Q _ => ∃ (a : Addr) (ns : List Int), vs = [.ref a] ∧ SqL K H a (ns.map V.int) ∧ ns.length ≤ 63 ∧ ∀ (H' : Hp) (h q : Addr), Same H H' → H h = none → H q = none → Hand H' h q → Q (.ref h) H'
section
variable {P : Program} {w : World} {K : PySem.W.Frag} {mg : Str → Option Value} {base : Heap}
theorem ok_Lhand {f : Addr} {fd : FuncData} (F : Fun K "_law_hand" "_law_hand" s_Lhand f fd) (ni : mg "int" = none) (na : mg "abs" = none) (ne : mg "enumerate" = none) : FnOk P w K mg base CX0 1 f fd ["_law_script"] (spHand K) := by
  refine F.ok sc_Lhand (fun vs H Q E h => ?_) (fun cdv A outer s H vs Q E hr h => ?_)
  · obtain ⟨a, ns, rfl, _⟩ := h
    rfl
  · obtain ⟨a, ns, rfl, hS, hn, k⟩ := h
    refine ⟨_, (pss_cons 
  (ps_set (i := 1) sc_Lhand.nd rfl (Or.inl rfl) pe_int) (pss_cons 
  (ps_for PassesOwn.never rfl (pi_enum (by rfl) ne (pa_cons (pv 0) pa_nil)) (pg_tup (by rfl) (pgs_cons (pg_name (i := 2) sc_Lhand.nd rfl (Or.inl rfl)) (pgs_cons (pg_name (i := 3) sc_Lhand.nd rfl (Or.inl rfl)) pgs_nil))) (pss_one 
    (ps_set (i := 1) sc_Lhand.nd rfl (Or.inl rfl) (pe_op op_mod (pe_callTy call_int1 (by rfl) ni (by decide +kernel) (pa_cons (pe_op op_add (pe_op op_mul (pv 1) pe_int) (pe_op op_mul (pe_callTy call_int1 (by rfl) ni (by decide +kernel) (pa_cons (pv 3) pa_nil)) (pe_op op_add (pv 2) pe_int))) pa_nil)) pe_int)))) (pss_one 
  (ps_ret (pe_lst (pa_cons (pe_lc (own := [("_law_cell", 3)]) (g := gName 3) (by rfl) sc_Lhand.nd (pi_list (pv 0)) (blkOk_by (own := [("_law_cell", 3)]) (N := ["_law_script", "_law_total", "_law_k", "_law_cell"]) (sc := defScope s_Lhand) (by decide +kernel)) (fun _ _ _ _ _ => pg_name (i := 3) sc_Lhand.nd rfl (Or.inl rfl)) (fun _ _ _ _ _ => pts_nil) (fun _ _ _ _ _ => (pe_callB call_abs (by rfl) na (by decide +kernel) (pa_cons (pe_callTy call_int1 (by rfl) ni (by decide +kernel) (pa_cons (pv 3) pa_nil)) pa_nil)))) (pa_cons pe_int (pa_cons pe_int (pa_cons (pv 1) pa_nil))))))))), ?_⟩
    refine ⟨_, rfl, a, _, rfl, hS, for_enum (K := K) (a := a) (xs := ns.map V.int) (fun i σ H' => ∃ (t : Int) (v2 v3 : Option V), σ = [some (.ref a), some (.int t), v2, v3] ∧ Same H H' ∧ 0 ≤ t ∧ t < 2147483629)
      ⟨0, none, none, rfl, Same.refl H, by decide, by decide⟩ (fun i σ H' _ ⟨_, _, _, _, S, _⟩ => S.seq hS) ?_ ?_⟩
    · rintro i x σ H' T hx ⟨t, v2, v3, rfl, S, t0, t1⟩ hT
      obtain ⟨c, rfl⟩ : ∃ c, x = V.int c := by
        rw [List.getElem?_map] at hx
        cases e : ns[i]? with
        | none => rw [e] at hx; cases hx
        | some c => rw [e] at hx; exact ⟨c, (Option.some.inj hx).symm⟩
      have hi : i < 63 := by
        have q := (List.getElem?_eq_some_iff.mp hx).1
        rw [List.length_map] at q
        omega
      refine ⟨T, _, rfl, SqT.of upd_same, rfl, _, _, rfl, _, _, rfl, rfl, ?_⟩
      refine ⟨_, rfl, _, _, rfl, rfl, .inr (by decide), _, rfl, .inl ⟨_, rfl, _, rfl, _, _, rfl, rfl, _, _, rfl, rfl, .inr ⟨by omega, by omega⟩, _, _, rfl, rfl, .inl ⟨_, rfl, _, _, rfl, rfl, (by show (0 : Int) < 2147483629; decide), ?_⟩⟩⟩
      refine ⟨_, _, _, rfl, fun b o e => ?_, Int.emod_nonneg _ (by decide), Int.emod_lt_of_pos _ (by decide)⟩
      rw [upd_ne (ne_of_none (S _ _ e) hT)]
      exact S _ _ e
    · rintro σ H' ⟨t, v2, v3, rfl, S, t0, t1⟩
      refine ⟨_, rfl, a, rfl, ⟨_, S.seq hS⟩, fun D hD => ?_⟩
      refine lc_list (K := K) (a := a) (xs := ns.map V.int) (fun i H1 => Same H H1 ∧ H D = none ∧ H1 D = some (.lst ((ns.take i).map fun c => V.int (if c < 0 then -c else c)))) ⟨fun b o e => ?_, S.free hD, upd_same⟩ (fun i H1 _ ⟨S1, _⟩ => S1.seq hS) ?_ ?_
      · rw [upd_ne (ne_of_none (S _ _ e) hD)]
        exact S _ _ e
      · rintro i x H1 hx ⟨S1, D0, e1⟩
        obtain ⟨c, hc, rfl⟩ : ∃ c, ns[i]? = some c ∧ x = V.int c := by
          rw [List.getElem?_map] at hx
          cases e : ns[i]? with
          | none => rw [e] at hx; cases hx
          | some c => rw [e] at hx; exact ⟨c, rfl, (Option.some.inj hx).symm⟩
        refine ⟨rfl, yesT ?_⟩
        refine ⟨_, rfl, .inl ⟨_, rfl, _, rfl, _, e1, ?_, fun b o e => ?_, D0, ?_⟩⟩
        · rw [List.length_map, List.length_take]
          exact small1000 (by omega)
        · rw [upd_ne (ne_of_none e D0)]
          exact S1 _ _ e
        · rw [upd_same, List.take_add_one, hc, List.map_append]
          rfl
      · rintro H1 ⟨S1, D0, e1⟩
        rw [List.length_map, List.take_length] at e1
        refine ⟨_, rfl, (by show 4 ≤ sizeLine; decide), fun p hp => k _ p D (fun b o e => ?_) (S1.free hp) D0 ?_⟩
        · rw [upd_ne (ne_of_none (S1 _ _ e) hp)]
          exact S1 _ _ e
        · refine ⟨ns.map fun c => if c < 0 then -c else c, 0, 0, t, upd_same, ?_, ne_of_none e1 hp, by decide, by decide, t0, t1, ?_, by rw [List.length_map]; exact hn⟩
          · rw [upd_ne (ne_of_none e1 hp), e1, List.map_map]
            rfl
          · intro c hc
            obtain ⟨z, _, rfl⟩ := List.mem_map.mp hc
            split <;> omega
end
end J

set_option Elab.async false
set_option linter.all false
set_option maxRecDepth 100000
set_option maxHeartbeats 2000000
namespace J
open PySem PySem.Spec PyProof.Rows L2
theorem ifD {c A B : Prop} [Decidable c] (h1 : c → A) (h2 : ¬ c → B) : if decide c = true then A else B := by
  by_cases h : c
  · rw [if_pos (decide_eq_true h)]
    exact h1 h
  · rw [if_neg (by simp [h])]
    exact h2 h
theorem v_int {a b : Int} (h : a = b) : V.int a = V.int b := by rw [h]
abbrev s_Ldraw : Stmt := top 27
theorem sc_Ldraw : FnScope ["_law_hand_here", "_law_many", "_law_cell", "_law_rest"] ["_law_hand_here", "_law_many"] (defScope s_Ldraw) := ⟨rfl, rfl, rfl, by decide +kernel, rfl, by decide +kernel, by decide +kernel⟩
def spDraw : Sp := fun vs H Q _ => ∃ (h q : Addr) (m : Int), vs = [.ref h, .int m] ∧ 0 < m ∧ m < 2 ^ 62 ∧ Hand H h q ∧ ∀ (v : Int) (H' : Hp), 0 ≤ v → v < m → But h H H' → Hand H' h q → Q (.int v) H'
theorem hand_put {H : Hp} {h q : Addr} {cs : List Int} {i r t : Int} (e2 : H q = some (.lst (cs.map V.int))) (nq : q ≠ h) (i0 : 0 ≤ i) (r0 : 0 ≤ r) (t0 : 0 ≤ t) (t1 : t < 2147483629) (hc : ∀ c ∈ cs, 0 ≤ c) (hl : cs.length ≤ 63) :
    Hand (upd H h (.lst [.ref q, .int i, .int r, .int t])) h q := ⟨cs, i, r, t, upd_same, by rw [upd_ne nq]; exact e2, nq, i0, r0, t0, t1, hc, hl⟩
theorem fmod_in {a m : Int} (h : 0 < m) : 0 ≤ a.fmod m ∧ a.fmod m < m := by
  rw [Int.fmod_eq_emod_of_nonneg a (by omega)]
  exact ⟨Int.emod_nonneg _ (by omega), Int.emod_lt_of_pos _ h⟩
section
variable {P : Program} {w : World} {K : PySem.W.Frag} {mg : Str → Option Value} {base : Heap}
theorem ok_Ldraw {f fM : Addr} {fd fdM : FuncData} (F : Fun K "_law_draw" "_law_draw" s_Ldraw f fd) (ni : mg "int" = none) (nl : mg "len" = none) (GM : Cal P w K mg base CX0 1 "_law_mix" fM fdM ["_law_number", "_law_turn"] spMix) : FnOk P w K mg base CX0 2 f fd ["_law_hand_here", "_law_many"] spDraw := by
  refine F.ok sc_Ldraw (fun vs H Q E h => ?_) (fun cdv A outer s H vs Q E hr h => ?_)
  · obtain ⟨n, q, t, rfl, _⟩ := h
    rfl
  · obtain ⟨h, q, m, rfl, m0, m1, ⟨cs, i, r, t, e1, e2, nq, i0, r0, t0, t1, hc, hl⟩, k⟩ := h
    refine ⟨_, (C8.pss_cut 
  (ps_if (PW.pt (pw_and (pt_cmpR op_eq (pe_ix ix_list (pv 0) pe_int (fun _ _ => rfl)) pe_int (nomark _)) (pw_and1 (pt_cmpR op_lt (pe_ix ix_list (pv 0) pe_int (fun _ _ => rfl)) (pe_callB call_len_seq (by rfl) nl PySem.boot_len (pa_cons (pe_ix ix_list (pv 0) pe_int (fun _ _ => rfl)) pa_nil)) (nomark _))))) (pss_cons 
    (ps_set (i := 2) sc_Ldraw.nd rfl (Or.inl rfl) (pe_ix ix_list (pe_ix ix_list (pv 0) pe_int (fun _ _ => rfl)) (pe_ix ix_list (pv 0) pe_int (fun _ _ => rfl)) (fun _ _ => rfl))) (pss_cons 
    (ps_asg (pe_op op_add (pe_ix ix_list (pv 0) pe_int (fun _ _ => rfl)) pe_int) (pg_sub (pv 0) pe_int set_list)) (pss_cons 
    (ps_if (pt_cmpR op_lt (pv 2) (pe_op op_pow pe_int pe_int) (nomark _)) (pss_one 
      (ps_ret (pe_op op_modN (pe_callTy call_int1 (by rfl) ni (by decide +kernel) (pa_cons (pcal GM hr pass0 (pa_cons (pe_op op_mod (pe_callTy call_int1 (by rfl) ni (by decide +kernel) (pa_cons (pv 2) pa_nil)) pe_int) (pa_cons (pe_ix ix_list (pv 0) pe_int (fun _ _ => rfl)) pa_nil))) pa_nil)) (pv 1)))) pss_nil) (pss_one 
    (ps_asg (pv 2) (pg_sub (pv 0) pe_int set_list)))))) pss_nil) (pss_cons 
  (ps_if (pt_cmpR op_gt (pe_ix ix_list (pv 0) pe_int (fun _ _ => rfl)) pe_int (nomark _)) (pss_cons 
    (ps_set (i := 3) sc_Ldraw.nd rfl (Or.inl rfl) (pe_ix ix_list (pv 0) pe_int (fun _ _ => rfl))) (pss_cons 
    (ps_asg (pe_op op_fdivW (pv 3) (pv 1)) (pg_sub (pv 0) pe_int set_list)) (pss_one 
    (ps_ret (pe_op op_modN (pe_callTy call_int1 (by rfl) ni (by decide +kernel) (pa_cons (pv 3) pa_nil)) (pv 1)))))) pss_nil) (pss_cons 
  (ps_asg (pe_op op_mod (pe_callTy call_int1 (by rfl) ni (by decide +kernel) (pa_cons (pe_op op_add (pe_ix ix_list (pv 0) pe_int (fun _ _ => rfl)) pe_int) pa_nil)) pe_int) (pg_sub (pv 0) pe_int set_list)) (pss_one 
  (ps_ret (pe_op op_modN (pe_callTy call_int1 (by rfl) ni (by decide +kernel) (pa_cons (pcal GM hr pass0 (pa_cons (pe_ix ix_list (pv 0) pe_int (fun _ _ => rfl)) (pa_cons (pe_ix ix_list (pv 0) pe_int (fun _ _ => rfl)) pa_nil))) pa_nil)) (pv 1))))))), ?_⟩
    refine ⟨fun σ' H' => ∃ (v2 : Option V) (i r t : Int), σ' = [some (.ref h), some (.int m), v2, none] ∧ But h H H' ∧ H' h = some (.lst [.ref q, .int i, .int r, .int t]) ∧ 0 ≤ i ∧ 0 ≤ r ∧ 0 ≤ t ∧ t < 2147483629, ?_, ?_⟩
    · -- hand[2] == 0
      refine ⟨_, rfl, _, _, _, _, rfl, rfl, SqL.of e1, rfl, rfl, _, rfl, ?_⟩
      refine ifD (fun c1 => ?_) (fun c1 => iteF ⟨none, i, r, t, rfl, But.refl h H, e1, i0, r0, t0, t1⟩)
      refine ⟨_, rfl, _, _, _, _, rfl, rfl, SqL.of e1, rfl, _, rfl, _, _, _, _, rfl, rfl, SqL.of e1, rfl, _, _, rfl, .inl (SqL.of e2), _, _, rfl, rfl, _, rfl, ?_⟩
      refine ifD (fun c2 => ?_) (fun c2 => ⟨none, i, r, t, rfl, But.refl h H, e1, i0, r0, t0, t1⟩)
      rw [List.length_map] at c2
      have hi : i.toNat < cs.length := by omega
      have hic : ((i.toNat : Nat) : Int) = i := Int.toNat_of_nonneg i0
      have hat : (cs.map V.int)[i.toNat]? = some (V.int cs[i.toNat]) := by
        rw [List.getElem?_map, List.getElem?_eq_getElem hi]
        rfl
      have cp : 0 ≤ cs[i.toNat] := hc _ (List.getElem_mem hi)
      generalize cs[i.toNat] = c at hat cp
      refine ⟨_, rfl, _, _, _, _, rfl, rfl, SqL.of e1, rfl, _, rfl, _, _, _, _, rfl, rfl, SqL.of e1, rfl, _, _, _, _, rfl, rfl, SqL.of e2, at_of hic.symm hat, ?_⟩
      refine ⟨_, rfl, _, _, _, _, rfl, rfl, SqL.of e1, rfl, _, _, rfl, rfl, _, rfl, _, _, _, _, rfl, rfl, e1, rfl, ?_⟩
      have e3 : (upd H h (.lst [.ref q, .int (i + 1), .int r, .int t])) h = some (.lst [.ref q, .int (i + 1), .int r, .int t]) := upd_same
      refine ⟨_, rfl, _, _, rfl, rfl, ⟨by decide, by decide, by decide⟩, _, _, rfl, rfl, _, rfl, ?_⟩
      refine ifD (fun c3 => ?_) (fun c3 => ?_)
      · refine ⟨_, rfl, .inl ⟨_, rfl, _, _, rfl, rfl, (by show (0 : Int) < 2147483647; decide), _, rfl, _, _, _, _, rfl, rfl, SqL.of e3, rfl, _, _, rfl, fun z z0 => .inl ⟨_, rfl, _, rfl, _, _, rfl, rfl, (by show m ≠ 0; omega), ?_⟩⟩⟩
        exact k _ _ (fmod_in m0).1 (fmod_in m0).2 But.put (hand_put e2 nq (by omega) r0 t0 t1 hc hl)
      · refine ⟨_, rfl, _, rfl, _, _, _, _, rfl, rfl, e3, rfl, ?_⟩
        exact ⟨_, i + 1, c, t, rfl, But.put.trans But.put, upd_same, by omega, cp, t0, t1⟩
    · rintro σ' H' ⟨v2, i, r, t, rfl, B1, e1, i0, r0, t0, t1⟩
      have e2' := B1 _ _ nq e2
      refine ⟨_, rfl, _, _, _, _, rfl, rfl, SqL.of e1, rfl, _, _, rfl, rfl, _, rfl, ?_⟩
      refine ifD (fun c1 => ?_) (fun c1 => ?_)
      · refine ⟨_, rfl, _, _, _, _, rfl, rfl, SqL.of e1, rfl, _, rfl, _, rfl, _, _, rfl, rfl, wide_div (b := 62) m0 (by omega) (by decide) (by decide), _, rfl, _, _, _, _, rfl, rfl, e1, rfl, ?_⟩
        refine ⟨_, rfl, .inl ⟨_, rfl, _, rfl, _, _, rfl, rfl, (by show m ≠ 0; omega), ?_⟩⟩
        exact k _ _ (fmod_in m0).1 (fmod_in m0).2 (B1.trans But.put) (hand_put e2' nq i0 (Int.ediv_nonneg r0 (by omega)) t0 t1 hc hl)
      · refine ⟨_, rfl, _, _, _, _, rfl, rfl, SqL.of e1, rfl, _, _, rfl, rfl, .inl ⟨_, rfl, _, _, rfl, rfl, (by show (0 : Int) < 2147483629; decide), _, rfl, _, _, _, _, rfl, rfl, e1, rfl, ?_⟩⟩
        have e3 : (upd H' h (.lst [.ref q, .int i, .int r, .int ((t + 1) % 2147483629)])) h = some (.lst [.ref q, .int i, .int r, .int ((t + 1) % 2147483629)]) := upd_same
        refine ⟨_, rfl, _, _, _, _, rfl, rfl, SqL.of e3, rfl, _, rfl, _, _, _, _, rfl, rfl, SqL.of e3, rfl, _, _, rfl, fun z z0 => .inl ⟨_, rfl, _, rfl, _, _, rfl, rfl, (by show m ≠ 0; omega), ?_⟩⟩
        exact k _ _ (fmod_in m0).1 (fmod_in m0).2 (B1.trans But.put) (hand_put e2' nq i0 r0 (Int.emod_nonneg _ (by decide)) (Int.emod_lt_of_pos _ (by decide)) hc hl)
end
end J

set_option Elab.async false
set_option linter.all false
set_option maxRecDepth 100000
set_option maxHeartbeats 2000000
namespace J
open PySem PySem.Spec PyProof.Rows L2
/-! ### things of many kinds -/
/-- the shape of a thing -/
inductive Sh where
  | sc (v : V) | dk | lst (xs : List V) | tup (xs : List V)
def isSc : V → Bool
  | .non => true | .bl _ => true | .int _ => true | .str _ => true | _ => false
def Is (H : Hp) (x : V) : Sh → Prop
  | .sc v => x = v ∧ isSc v = true
  | .dk => ∃ a kvs, x = .ref a ∧ H a = some (.dK kvs)
  | .lst xs => ∃ a, x = .ref a ∧ H a = some (.lst xs)
  | .tup xs => ∃ a, x = .ref a ∧ H a = some (.tup xs)
def Sh.int : Sh → Bool
  | .sc (.int _) => true | _ => false
def Sh.bl : Sh → Bool
  | .sc (.bl _) => true | _ => false
def Sh.isL : Sh → Bool
  | .lst _ => true | _ => false
def Sh.isT : Sh → Bool
  | .tup _ => true | _ => false
theorem Is.keep {H H' : Hp} {x : V} {s : Sh} (h : Is H x s) (S : Same H H') : Is H' x s := by
  cases s with
  | sc v => exact h
  | dk => obtain ⟨a, kvs, e, q⟩ := h; exact ⟨a, kvs, e, S _ _ q⟩
  | lst xs => obtain ⟨a, e, q⟩ := h; exact ⟨a, e, S _ _ q⟩
  | tup xs => obtain ⟨a, e, q⟩ := h; exact ⟨a, e, S _ _ q⟩
theorem kt_NoneType_int : kitB "NoneType" "int" = some false := by decide +kernel
theorem kt_NoneType_bool : kitB "NoneType" "bool" = some false := by decide +kernel
theorem kt_NoneType_list : kitB "NoneType" "list" = some false := by decide +kernel
theorem kt_NoneType_tuple : kitB "NoneType" "tuple" = some false := by decide +kernel
theorem kt_bool_int : kitB "bool" "int" = some true := by decide +kernel
theorem kt_bool_bool : kitB "bool" "bool" = some true := by decide +kernel
theorem kt_bool_list : kitB "bool" "list" = some false := by decide +kernel
theorem kt_bool_tuple : kitB "bool" "tuple" = some false := by decide +kernel
theorem kt_int_int : kitB "int" "int" = some true := by decide +kernel
theorem kt_int_bool : kitB "int" "bool" = some false := by decide +kernel
theorem kt_int_list : kitB "int" "list" = some false := by decide +kernel
theorem kt_int_tuple : kitB "int" "tuple" = some false := by decide +kernel
theorem kt_str_int : kitB "str" "int" = some false := by decide +kernel
theorem kt_str_bool : kitB "str" "bool" = some false := by decide +kernel
theorem kt_str_list : kitB "str" "list" = some false := by decide +kernel
theorem kt_str_tuple : kitB "str" "tuple" = some false := by decide +kernel
theorem kt_dict_int : kitB "dict" "int" = some false := by decide +kernel
theorem kt_dict_bool : kitB "dict" "bool" = some false := by decide +kernel
theorem kt_dict_list : kitB "dict" "list" = some false := by decide +kernel
theorem kt_dict_tuple : kitB "dict" "tuple" = some false := by decide +kernel
theorem kt_list_int : kitB "list" "int" = some false := by decide +kernel
theorem kt_list_bool : kitB "list" "bool" = some false := by decide +kernel
theorem kt_list_list : kitB "list" "list" = some true := by decide +kernel
theorem kt_list_tuple : kitB "list" "tuple" = some false := by decide +kernel
theorem kt_tuple_int : kitB "tuple" "int" = some false := by decide +kernel
theorem kt_tuple_bool : kitB "tuple" "bool" = some false := by decide +kernel
theorem kt_tuple_list : kitB "tuple" "list" = some false := by decide +kernel
theorem kt_tuple_tuple : kitB "tuple" "tuple" = some true := by decide +kernel
theorem Is.ty {K : PySem.W.Frag} {H : Hp} {x : V} {s : Sh} (h : Is H x s) : ∃ t : String, TyX K H x (.type t) ∧ kitB t "int" = some (s.int || s.bl) ∧ kitB t "bool" = some s.bl ∧ kitB t "list" = some s.isL ∧ kitB t "tuple" = some s.isT := by
  cases s with
  | sc v =>
    obtain ⟨rfl, e⟩ := h
    cases x with
    | non => exact ⟨_, .base .non, kt_NoneType_int, kt_NoneType_bool, kt_NoneType_list, kt_NoneType_tuple⟩
    | bl b => exact ⟨_, .base (.bl b), kt_bool_int, kt_bool_bool, kt_bool_list, kt_bool_tuple⟩
    | int b => exact ⟨_, .base (.int b), kt_int_int, kt_int_bool, kt_int_list, kt_int_tuple⟩
    | str b => exact ⟨_, .base (.str b), kt_str_int, kt_str_bool, kt_str_list, kt_str_tuple⟩
    | byt b => cases e
    | flt b => cases e
    | ref b => cases e
    | ty b => cases e
  | dk => obtain ⟨a, kvs, rfl, q⟩ := h; exact ⟨_, .base (.dK q), kt_dict_int, kt_dict_bool, kt_dict_list, kt_dict_tuple⟩
  | lst xs => obtain ⟨a, rfl, q⟩ := h; exact ⟨_, .base (.lst q), kt_list_int, kt_list_bool, kt_list_list, kt_list_tuple⟩
  | tup xs => obtain ⟨a, rfl, q⟩ := h; exact ⟨_, .base (.tup q), kt_tuple_int, kt_tuple_bool, kt_tuple_list, kt_tuple_tuple⟩
/-- isinstance(x, (list, tuple)) -/
theorem kit_seq {K : PySem.W.Frag} {t : String} {a b : Bool} (h1 : kitB t "list" = some a) (h2 : kitB t "tuple" = some b) : PySem.W.kitAny K (.type t) [.type "list", .type "tuple"] = some (a || b) :=
  kitAny_cons (kit_ty h1) (fun e => by subst e; exact kitAny_cons (kit_ty h2) (fun e => by subst e; exact kitAny_nil) (fun e => by subst e; rfl)) (fun e => by subst e; rfl)
def wholeB (x : V) (lo hi : Int) : Bool := match x with
  | .int i => decide (lo ≤ i) && decide (i ≤ hi)
  | _ => false

abbrev s_is_whole : Stmt := top 12
theorem sc_is_whole : FnScope ["thing", "low", "high"] ["thing", "low", "high"] (defScope s_is_whole) := ⟨rfl, rfl, rfl, by decide +kernel, rfl, by decide +kernel, by decide +kernel⟩
def spWhole : Sp := fun vs H Q _ => ∃ (x : V) (s : Sh) (lo hi : Int), vs = [x, .int lo, .int hi] ∧ Is H x s ∧ Q (.bl (wholeB x lo hi)) H
theorem if_tr {A B : Prop} {c : Bool} (e : c = true) (h : A) : if c = true then A else B := by rw [if_pos e]; exact h
theorem if_fa {A B : Prop} {c : Bool} (e : c = false) (h : B) : if c = true then A else B := by rw [if_neg (by simp [e])]; exact h
section
variable {P : Program} {w : World} {K : PySem.W.Frag} {mg : Str → Option Value} {base : Heap}
theorem ok_is_whole {f : Addr} {fd : FuncData} (F : Fun K "is_whole" "is_whole" s_is_whole f fd) (ns : mg "isinstance" = none) (ni : mg "int" = none) (nb : mg "bool" = none) : FnOk P w K mg base CX0 1 f fd ["thing", "low", "high"] spWhole := by
  refine F.ok sc_is_whole (fun vs H Q E h => ?_) (fun cdv A outer s H vs Q E hr h => ?_)
  · obtain ⟨x, s, lo, hi, rfl, _⟩ := h
    rfl
  · obtain ⟨x, sh, lo, hi, rfl, hx, k⟩ := h
    refine ⟨_, (pss_one 
  (ps_ret (pe_and (pe_callB call_isi (by rfl) ns (by decide +kernel) (pa_cons (pv 0) (pa_cons (pe_bltn (by rfl) ni (by decide +kernel) (v := .ty "int") rfl) pa_nil))) (pe_and (pe_not (pe_callB call_isi (by rfl) ns (by decide +kernel) (pa_cons (pv 0) (pa_cons (pe_bltn (by rfl) nb (by decide +kernel) (v := .ty "bool") rfl) pa_nil)))) (pe_one (pe_chain op_le op_le (pv 1) (pv 0) (pv 2))))))), ?_⟩
    obtain ⟨t, ht, k1, k2, _⟩ := hx.ty (K := K)
    refine ⟨_, rfl, _, _, _, _, _, rfl, .ty "int", ht, kit_ty k1, _, rfl, ?_⟩
    cases e1 : sh.int with
    | true =>
      obtain ⟨i, rfl⟩ : ∃ i, sh = .sc (.int i) := by
        cases sh with
        | sc v => cases v <;> first | exact ⟨_, rfl⟩ | cases e1
        | _ => cases e1
      obtain ⟨rfl, _⟩ := hx
      refine if_tr rfl ?_
      refine ⟨_, rfl, _, _, _, _, _, rfl, .ty "bool", ht, kit_ty k2, _, rfl, _, rfl, ?_⟩
      refine if_tr rfl ?_
      refine ⟨_, rfl, _, rfl, _, _, rfl, rfl, _, rfl, ?_⟩
      by_cases c : lo ≤ i
      · refine if_tr (decide_eq_true c) ⟨_, rfl, _, _, rfl, rfl, ?_⟩
        have e : wholeB (.int i) lo hi = decide (i ≤ hi) := by
          show (decide (lo ≤ i) && decide (i ≤ hi)) = _
          rw [decide_eq_true c, Bool.true_and]
        rw [e] at k
        exact k
      · refine if_fa (decide_eq_false c) ?_
        have e : wholeB (.int i) lo hi = false := by
          show (decide (lo ≤ i) && decide (i ≤ hi)) = _
          rw [decide_eq_false c, Bool.false_and]
        rw [e] at k
        exact k
    | false =>
      have e : wholeB x lo hi = false := by
        cases sh with
        | sc v =>
          obtain ⟨rfl, _⟩ := hx
          cases x <;> first | rfl | cases e1
        | dk => obtain ⟨a, _, rfl, _⟩ := hx; rfl
        | lst => obtain ⟨a, rfl, _⟩ := hx; rfl
        | tup => obtain ⟨a, rfl, _⟩ := hx; rfl
      rw [e] at k
      cases e2 : sh.bl with
      | true =>
        refine if_tr rfl ?_
        refine ⟨_, rfl, _, _, _, _, _, rfl, .ty "bool", ht, kit_ty (e2 ▸ k2), _, rfl, _, rfl, ?_⟩
        exact if_fa rfl k
      | false => exact if_fa rfl k
abbrev s_is_label : Stmt := top 13
theorem sc_is_label : FnScope ["thing"] ["thing"] (defScope s_is_label) := ⟨rfl, rfl, rfl, by decide +kernel, rfl, by decide +kernel, by decide +kernel⟩
def spLabel : Sp := fun vs H Q _ => ∃ (x : V) (s : Sh), vs = [x] ∧ Is H x s ∧ Q (.bl (wholeB x 0 1000000000)) H
theorem ok_is_label {f fW : Addr} {fd fdW : FuncData} (F : Fun K "is_label" "is_label" s_is_label f fd) (GW : Cal P w K mg base CX0 1 "is_whole" fW fdW ["thing", "low", "high"] spWhole) (mL : ∃ t, mg "MOST_LABEL" = some (.int 1000000000 t)) : FnOk P w K mg base CX0 2 f fd ["thing"] spLabel := by
  obtain ⟨t, mL⟩ := mL
  refine F.ok sc_is_label (fun vs H Q E h => ?_) (fun cdv A outer s H vs Q E hr h => ?_)
  · obtain ⟨x, s, rfl, _⟩ := h
    rfl
  · obtain ⟨x, sh, rfl, hx, k⟩ := h
    refine ⟨_, (pss_one 
  (ps_ret (pcal GW hr pass0 (pa_cons (pv 0) (pa_cons pe_int (pa_cons (pe_glob (v := .int 1000000000) rfl mL ⟨_, rfl⟩) pa_nil)))))), ?_⟩
    exact ⟨_, rfl, x, sh, 0, 1000000000, rfl, hx, k⟩
abbrev s_is_sequence : Stmt := top 14
theorem sc_is_sequence : FnScope ["thing"] ["thing"] (defScope s_is_sequence) := ⟨rfl, rfl, rfl, by decide +kernel, rfl, by decide +kernel, by decide +kernel⟩
def spSeq : Sp := fun vs H Q _ => ∃ (x : V) (s : Sh), vs = [x] ∧ Is H x s ∧ ∀ H', Same H H' → Q (.bl (s.isL || s.isT)) H'
theorem new_same {H : Hp} {p : Addr} {o : HO} (n : H p = none) : Same H (upd H p o) := fun b u e => by
  rw [upd_ne (ne_of_none e n)]
  exact e
/-- the test isinstance(x, (list, tuple)) -/
theorem isi_seq {K : PySem.W.Frag} {H : Hp} {x : V} {s : Sh} {Q : VK} (hx : Is H x s) (k : ∀ H', Same H H' → Q (.bl (s.isL || s.isT)) H') : 2 ≤ sizeLine ∧ ∀ p, H p = none → rIsiT K [x, .ref p] (upd H p (.tup [.ty "list", .ty "tuple"])) Q := by
  refine ⟨by decide, fun p hp => ?_⟩
  have S : Same H (upd H p (.tup [.ty "list", .ty "tuple"])) := new_same hp
  obtain ⟨t, ht, _, _, k1, k2⟩ := (hx.keep S).ty (K := K)
  exact ⟨_, _, _, _, _, _, rfl, upd_same, .cons (.ty "list") (.cons (.ty "tuple") .nil), ht, kit_seq k1 k2, k _ S⟩
theorem ok_is_sequence {f : Addr} {fd : FuncData} (F : Fun K "is_sequence" "is_sequence" s_is_sequence f fd) (ns : mg "isinstance" = none) (nl : mg "list" = none) (nt : mg "tuple" = none) : FnOk P w K mg base CX0 1 f fd ["thing"] spSeq := by
  refine F.ok sc_is_sequence (fun vs H Q E h => ?_) (fun cdv A outer s H vs Q E hr h => ?_)
  · obtain ⟨x, s, rfl, _⟩ := h
    rfl
  · obtain ⟨x, sh, rfl, hx, k⟩ := h
    refine ⟨_, (pss_one 
  (ps_ret (pe_callB call_isiT (by rfl) ns (by decide +kernel) (pa_cons (pv 0) (pa_cons (pe_tup (pa_cons (pe_bltn (by rfl) nl (by decide +kernel) (v := .ty "list") rfl) (pa_cons (pe_bltn (by rfl) nt (by decide +kernel) (v := .ty "tuple") rfl) pa_nil))) pa_nil))))), ?_⟩
    exact ⟨_, rfl, isi_seq hx k⟩
end
end J

set_option Elab.async false
set_option linter.all false
set_option maxRecDepth 100000
set_option maxHeartbeats 2000000
namespace J
open PySem PySem.Spec PyProof.Rows L2
/-! ### own errors with one field -/
def spXI (C : Addr) (f : Str) : Sp := fun vs H Q _ => ∃ (a : Addr) (v : V), vs = [.ref a, v] ∧ H a = some (exo a C none) ∧ ∀ dx, H dx = none → dx ≠ a → Q .non (upd (upd H dx (exd dx [(f, v)])) a (exo a C (some dx)))
structure Ex (P : Program) (w : World) (K : PySem.W.Frag) (mg : Str → Option Value) (base : Heap) (x fld : Str) (C fI : Addr) (fd : FuncData) (ps : List Str) : Prop where
  o : OexC K C
  i : PySem.W.findIn K (.ref C) "__init__" = some (some (.ref fI))
  t : PySem.W.typeIn K (.ref fI) = some (.type "function")
  F : FnOk P w K mg base CX0 1 fI fd ps (spXI C fld)
  b : Binds K fd ps []
  m : mg x = some (.ref C)
  xf : XfC K C
  no : PySem.W.findIn K (.ref C) fld = some none
  te : PySem.W.exmOne K (.ref C) (.ref C) = some true
/-- how an error is told: new, with its field -/
def Tells (H : Hp) (C : Addr) (f : Str) (v : V) (E : XK) : Prop := ∀ d H', H d = none → Same H H' → H' d = some (.xd [(f, v)]) → E (.ref C) (some d) H'
theorem mkO_of {C : Addr} {f : Str} {v : V} {H : Hp} {Q : XK} (h : Tells H C f v Q) : [v].length ≤ 1000 ∧ ∀ a, H a = none → spXI C f (.ref a :: ([v] ++ [])) (upd H a (exo a C none))
    (fun u H2 => u = .non ∧ ∃ (d : Addr) (fs : List (Str × V)), H2 a = some (exo a C (some d)) ∧ H2 d = some (exd d fs) ∧ H d = none ∧ Q (.ref C) (some d) (upd (del H2 a) d (.xd fs))) (fun _ _ _ => False) := by
  refine ⟨(by show 1 ≤ 1000; decide), fun a ha => ⟨a, v, rfl, upd_same, fun dx hdx ne => ⟨rfl, dx, [(f, v)], upd_same, ?_, ?_, ?_⟩⟩⟩
  · rw [upd_ne ne, upd_same]
  · rw [upd_ne ne] at hdx
    exact hdx
  · rw [upd_ne ne] at hdx
    refine h _ _ hdx (fun b o e => ?_) upd_same
    rw [upd_ne (ne_of_none e hdx), del_ne (ne_of_none e ha), upd_ne (ne_of_none e ha), upd_ne (ne_of_none e hdx), upd_ne (ne_of_none e ha)]
    exact e
abbrev s_BadTies_init : Stmt := inClass (top 3) 0
abbrev s_NoTie_init : Stmt := inClass (top 4) 0
theorem sc_BadTies_init : FnScope ["self", "what"] ["self", "what"] (defScope s_BadTies_init) := ⟨rfl, rfl, rfl, by decide +kernel, rfl, by decide +kernel, by decide +kernel⟩
theorem sc_NoTie_init : FnScope ["self", "tie"] ["self", "tie"] (defScope s_NoTie_init) := ⟨rfl, rfl, rfl, by decide +kernel, rfl, by decide +kernel, by decide +kernel⟩
section
variable {P : Program} {w : World} {K : PySem.W.Frag} {mg : Str → Option Value} {base : Heap}
theorem ok_BadTies_init {f C : Addr} {fd : FuncData} (F : Fun K "__init__" "BadTies.__init__" s_BadTies_init f fd) (o : OexC K C) (no : PySem.W.findIn K (.ref C) "what" = some none) : FnOk P w K mg base CX0 1 f fd ["self", "what"] (spXI C "what") := by
  refine F.ok sc_BadTies_init (fun vs H Q E h => ?_) (fun cdv A outer s H vs Q E hr h => ?_)
  · obtain ⟨x, s, rfl, _⟩ := h
    rfl
  · obtain ⟨a, v, rfl, ha, k⟩ := h
    refine ⟨_, pss_one (ps_ost (pv 0) (pv 1)), ?_⟩
    exact ⟨_, rfl, _, rfl, a, C, rfl, o, no, .inl ⟨ha, k⟩⟩
theorem ok_NoTie_init {f C : Addr} {fd : FuncData} (F : Fun K "__init__" "NoTie.__init__" s_NoTie_init f fd) (o : OexC K C) (no : PySem.W.findIn K (.ref C) "tie" = some none) : FnOk P w K mg base CX0 1 f fd ["self", "tie"] (spXI C "tie") := by
  refine F.ok sc_NoTie_init (fun vs H Q E h => ?_) (fun cdv A outer s H vs Q E hr h => ?_)
  · obtain ⟨x, s, rfl, _⟩ := h
    rfl
  · obtain ⟨a, v, rfl, ha, k⟩ := h
    refine ⟨_, pss_one (ps_ost (pv 0) (pv 1)), ?_⟩
    exact ⟨_, rfl, _, rfl, a, C, rfl, o, no, .inl ⟨ha, k⟩⟩
end
/-! ### Ties -/
theorem bm_ : ¬ (("backs" : Str) = "many") := by decide +kernel
theorem mb_ : ¬ (("many" : Str) = "backs") := by decide +kernel
def tf (t : Addr) (n : Int) : List (Str × V) := putF "many" (.int n) (putF "backs" (.ref t) [])
theorem tf_backs (t : Addr) (n : Int) : (tf t n).lookup ("backs" : Str) = some (.ref t) := by
  unfold tf
  rw [lookup_putF, if_neg bm_, lookup_putF, if_pos rfl]
theorem tf_many (t : Addr) (n : Int) : (tf t n).lookup ("many" : Str) = some (.int n) := by
  unfold tf
  rw [lookup_putF, if_pos rfl]
theorem tf_no (t : Addr) (n : Int) {m : Str} (h1 : ¬ m = "many") (h2 : ¬ m = "backs") : (tf t n).lookup m = none := by
  unfold tf
  rw [lookup_putF, if_neg h1, lookup_putF, if_neg h2]
  all_goals rfl
def TiesAt (C : Addr) (H : Hp) (x : Addr) (ns : List Int) : Prop := ∃ dx t, H x = some (.ins C dx (tf t (ns.length : Nat))) ∧ H t = some (.tup (ns.map V.int))
theorem TiesAt.keep {C : Addr} {H H' : Hp} {x : Addr} {ns : List Int} (h : TiesAt C H x ns) (S : Same H H') : TiesAt C H' x ns := by
  obtain ⟨dx, t, a, b⟩ := h
  exact ⟨dx, t, S _ _ a, S _ _ b⟩
/-- the class Ties in the written part -/
structure TiC (K : PySem.W.Frag) (C : Addr) : Prop where
  cl : Cls K C
  nB : NoAttr K C "backs"
  nM : NoAttr K C "many"
structure Mt (P : Program) (w : World) (K : PySem.W.Frag) (mg : Str → Option Value) (base : Heap) (CX : CXT) (k : Nat) (C : Addr) (m : Str) (f : Addr) (fd : FuncData) (ps : List Str) (sp : Sp) : Prop where
  M : Meth K C m f
  F : FnOk P w K mg base CX k f fd ps sp
  b : Binds K fd ps []
abbrev s_Ties_has : Stmt := inClass (top 15) 2
abbrev s_Ties_back : Stmt := inClass (top 15) 3
theorem sc_Ties_has : FnScope ["self", "thing"] ["self", "thing"] (defScope s_Ties_has) := ⟨rfl, rfl, rfl, by decide +kernel, rfl, by decide +kernel, by decide +kernel⟩
theorem sc_Ties_back : FnScope ["self", "tie"] ["self", "tie"] (defScope s_Ties_back) := ⟨rfl, rfl, rfl, by decide +kernel, rfl, by decide +kernel, by decide +kernel⟩
def tieB (ns : List Int) (x : V) : Bool := wholeB x 0 ((ns.length : Nat) - 1)
def spHas (C : Addr) : Sp := fun vs H Q _ => ∃ (x : Addr) (ns : List Int) (v : V) (s : Sh), vs = [.ref x, v] ∧ TiesAt C H x ns ∧ Is H v s ∧ Q (.bl (tieB ns v)) H
def spBack (C CN : Addr) : Sp := fun vs H Q E => ∃ (x : Addr) (ns : List Int) (v : V) (s : Sh), vs = [.ref x, v] ∧ TiesAt C H x ns ∧ Is H v s ∧ (∀ (i : Nat) (b : Int), v = .int (i : Nat) → ns[i]? = some b → Q (.int b) H) ∧ (tieB ns v = false → Tells H CN "tie" v E)
def spOneWay (C CN : Addr) : Sp := fun vs H Q E => ∃ (x : Addr) (ns : List Int) (v : V) (s : Sh), vs = [.ref x, v] ∧ TiesAt C H x ns ∧ Is H v s ∧ (∀ (i : Nat) (b : Int), v = .int (i : Nat) → ns[i]? = some b → Q (.bl (!decide (b = (i : Nat)))) H) ∧ (tieB ns v = false → Tells H CN "tie" v E)
theorem tieB_true {ns : List Int} {v : V} (h : tieB ns v = true) : ∃ (i : Nat) (b : Int), v = .int (i : Nat) ∧ ns[i]? = some b := by
  cases v with
  | int i =>
    have h' : (decide (0 ≤ i) && decide (i ≤ (ns.length : Nat) - 1)) = true := h
    obtain ⟨h1, h2⟩ := Bool.and_eq_true_iff.mp h'
    have h1 := of_decide_eq_true h1
    have h2 := of_decide_eq_true h2
    have hl : i.toNat < ns.length := by omega
    exact ⟨i.toNat, ns[i.toNat], by rw [Int.toNat_of_nonneg h1], List.getElem?_eq_getElem hl⟩
  | _ => cases h
section
variable {P : Program} {w : World} {K : PySem.W.Frag} {mg : Str → Option Value} {base : Heap}
theorem ok_Ties_has {f C fW : Addr} {fd fdW : FuncData} (F : Fun K "has" "Ties.has" s_Ties_has f fd) (T : TiC K C) (GW : Cal P w K mg base CX0 1 "is_whole" fW fdW ["thing", "low", "high"] spWhole) : FnOk P w K mg base CX0 2 f fd ["self", "thing"] (spHas C) := by
  refine F.ok sc_Ties_has (fun vs H Q E h => ?_) (fun cdv A outer s H vs Q E hr h => ?_)
  · obtain ⟨x, ns, v, s, rfl, _⟩ := h
    rfl
  · obtain ⟨x, ns, v, s, rfl, ⟨dx, t, hx, ht⟩, hv, k⟩ := h
    refine ⟨_, (pss_one 
  (ps_ret (pcal GW hr pass0 (pa_cons (pv 1) (pa_cons pe_int (pa_cons (pe_op op_sub (pe_fld (pv 0) rfl) pe_int) pa_nil)))))), ?_⟩
    exact ⟨_, rfl, _, rfl, x, C, dx, _, _, rfl, hx, T.cl, T.nM, tf_many _ _, _, _, rfl, rfl, v, s, _, _, rfl, hv, k⟩
theorem ok_Ties_back {f C CN fH fI : Addr} {fd fdH fdI : FuncData} (F : Fun K "back" "Ties.back" s_Ties_back f fd) (T : TiC K C) (GH : Mt P w K mg base CX0 2 C "has" fH fdH ["self", "thing"] (spHas C)) (GN : Ex P w K mg base "NoTie" "tie" CN fI fdI ["self", "tie"]) :
    FnOk P w K mg base (L2.CX P w) 3 f fd ["self", "tie"] (spBack C CN) := by
  refine F.okX sc_Ties_back (fun vs H Q E h => ?_) (fun cdv A outer s H vs Q E hr h => ?_)
  · obtain ⟨x, ns, v, s, rfl, _⟩ := h
    rfl
  · obtain ⟨x, ns, v, s, rfl, hT, hv, k1, k2⟩ := h
    obtain ⟨dx, t, hx, ht⟩ := id hT
    refine ⟨_, (pss_cons 
  (ps_if (pt_not (pt_val (pe_meth (pv 0) T.cl GH.M GH.F hr GH.b .nil pass0 (pa_cons (pv 1) pa_nil)))) (pss_one 
    (ps_raise rfl (takes_of rfl rfl rfl rfl) (pmk_oex GN.o GN.i GN.t GN.F hr GN.b .nil pass0 rfl GN.m (pa_cons (pv 1) pa_nil)))) pss_nil) (pss_one 
  (ps_ret (pe_ix ix_tup (pe_fld (pv 0) rfl) (pv 1) (fun _ _ => rfl))))), ?_⟩
    refine ⟨_, rfl, x, dx, _, rfl, hx, tf_no _ _ (by decide +kernel) (by decide +kernel), _, rfl, x, ns, v, s, rfl, hT, hv, _, rfl, ?_⟩
    cases e : tieB ns v with
    | true =>
      obtain ⟨i, b, rfl, hb⟩ := tieB_true e
      refine if_fa rfl ⟨_, rfl, x, C, dx, _, _, rfl, hx, T.cl, T.nB, tf_backs _ _, _, rfl, _, _, _, _, rfl, rfl, SqT.of ht, at_of (v := .int b) rfl ?_, k1 i b rfl hb⟩
      rw [List.getElem?_map, hb]
      rfl
    | false => exact if_tr rfl ⟨_, rfl, mkO_of (k2 e)⟩
end
end J

set_option Elab.async false
set_option linter.all false
set_option maxRecDepth 100000
set_option maxHeartbeats 4000000
namespace J
open PySem PySem.Spec PyProof.Rows L2
/-! ### which word is due -/
def backB (xs : List V) (k : Nat) : Bool := match xs[k]? with
  | some (.int n) => decide (xs[n.toNat]? = some (.int (k : Nat)))
  | _ => false
def dueS (xs : List V) : Option Str :=
  if 2 ≤ xs.length ∧ xs.length ≤ 4 then
    if ∀ x ∈ xs, wholeB x 0 ((xs.length : Nat) - 1) = true then
      if ∀ k, k < xs.length → backB xs k = true then none else some "back"
    else some "tie"
  else some "count"
def due : Sh → Option Str
  | .lst xs => dueS xs
  | .tup xs => dueS xs
  | _ => some "row"
def items : Sh → List V
  | .lst xs => xs
  | .tup xs => xs
  | _ => []
def Known (H : Hp) (xs : List V) : Prop := ∀ x ∈ xs, ∃ s, Is H x s
theorem Known.keep {H H' : Hp} {xs : List V} (h : Known H xs) (S : Same H H') : Known H' xs := fun x hx => by
  obtain ⟨s, q⟩ := h x hx
  exact ⟨s, q.keep S⟩
/-- what stands behind a due of none -/
structure GoodB (ns : List Int) : Prop where
  lo : 2 ≤ ns.length
  hi : ns.length ≤ 4
  rng : ∀ n ∈ ns, 0 ≤ n ∧ n < (ns.length : Nat)
  inv : ∀ (k : Nat) (b : Int), ns[k]? = some b → ns[b.toNat]? = some (k : Int)
theorem whole_int {x : V} {hi : Int} (h : wholeB x 0 hi = true) : ∃ n : Int, x = .int n ∧ 0 ≤ n ∧ n ≤ hi := by
  cases x with
  | int i =>
    have h' : (decide (0 ≤ i) && decide (i ≤ hi)) = true := h
    obtain ⟨h1, h2⟩ := Bool.and_eq_true_iff.mp h'
    exact ⟨i, rfl, of_decide_eq_true h1, of_decide_eq_true h2⟩
  | _ => cases h
theorem whole_of {n hi : Int} (h : 0 ≤ n) (h2 : n ≤ hi) : wholeB (.int n) 0 hi = true := by
  show (decide (0 ≤ n) && decide (n ≤ hi)) = true
  rw [decide_eq_true h, decide_eq_true h2]
  rfl
theorem all_ints {hi : Int} : ∀ {xs : List V}, (∀ x ∈ xs, wholeB x 0 hi = true) → ∃ ns : List Int, xs = ns.map V.int ∧ ∀ n ∈ ns, 0 ≤ n ∧ n ≤ hi
  | [], _ => ⟨[], rfl, fun n h => by cases h⟩
  | x :: xs, h => by
    obtain ⟨n, rfl, h1, h2⟩ := whole_int (h x List.mem_cons_self)
    obtain ⟨ns, rfl, q⟩ := all_ints (xs := xs) fun y hy => h y (List.mem_cons_of_mem _ hy)
    refine ⟨n :: ns, rfl, fun m hm => ?_⟩
    rcases List.mem_cons.mp hm with rfl | hm
    · exact ⟨h1, h2⟩
    · exact q m hm
theorem ints_at {ns : List Int} {k : Nat} {b : Int} (h : ns[k]? = some b) : (ns.map V.int)[k]? = some (V.int b) := by
  rw [List.getElem?_map, h]
  rfl
theorem backB_iff {ns : List Int} {k : Nat} {b : Int} (h : ns[k]? = some b) : backB (ns.map V.int) k = decide (ns[b.toNat]? = some (k : Int)) := by
  unfold backB
  rw [ints_at h]
  show decide ((ns.map V.int)[b.toNat]? = some (V.int (k : Nat))) = _
  rw [List.getElem?_map]
  cases e : ns[b.toNat]? with
  | none => simp
  | some c => simp
theorem good_of {xs : List V} (h : dueS xs = none) : ∃ ns : List Int, xs = ns.map V.int ∧ GoodB ns := by
  unfold dueS at h
  split at h
  · rename_i h1
    split at h
    · rename_i h2
      split at h
      · rename_i h3
        obtain ⟨ns, rfl, q⟩ := all_ints h2
        rw [List.length_map] at h1 h3 q
        refine ⟨ns, rfl, h1.1, h1.2, fun n hn => ⟨(q n hn).1, by have := (q n hn).2; omega⟩, fun k b hb => ?_⟩
        have hk := (List.getElem?_eq_some_iff.mp hb).1
        have z := h3 k hk
        rw [backB_iff hb] at z
        exact of_decide_eq_true z
      · cases h
    · cases h
  · cases h
theorem due_of {ns : List Int} (g : GoodB ns) : dueS (ns.map V.int) = none := by
  unfold dueS
  rw [List.length_map, if_pos ⟨g.lo, g.hi⟩, if_pos, if_pos]
  · intro k hk
    obtain ⟨b, hb⟩ : ∃ b, ns[k]? = some b := ⟨ns[k], List.getElem?_eq_getElem hk⟩
    rw [backB_iff hb]
    exact decide_eq_true (g.inv k b hb)
  · intro x hx
    obtain ⟨n, hn, rfl⟩ := List.mem_map.mp hx
    have := g.rng n hn
    exact whole_of this.1 (by omega)
theorem Tells.mono {H H1 : Hp} {C : Addr} {f : Str} {v : V} {E : XK} (h : Tells H C f v E) (S : Same H H1) : Tells H1 C f v E := fun d H' n S1 e => h d H' (S.free n) (S.trans S1) e
theorem fault_count {xs : List V} (h : ¬ (2 ≤ xs.length ∧ xs.length ≤ 4)) : dueS xs = some ("count" : Str) := by
  unfold dueS
  rw [if_neg h]
theorem fault_tie {xs : List V} {x : V} (h : 2 ≤ xs.length ∧ xs.length ≤ 4) (hx : x ∈ xs) (e : wholeB x 0 ((xs.length : Nat) - 1) = false) : dueS xs = some ("tie" : Str) := by
  unfold dueS
  rw [if_pos h, if_neg]
  intro q
  rw [q x hx] at e
  cases e
theorem fault_back {xs : List V} {k : Nat} (h : 2 ≤ xs.length ∧ xs.length ≤ 4) (ha : ∀ x ∈ xs, wholeB x 0 ((xs.length : Nat) - 1) = true) (hk : k < xs.length) (e : backB xs k = false) : dueS xs = some ("back" : Str) := by
  unfold dueS
  rw [if_pos h, if_pos ha, if_neg]
  intro q
  rw [q k hk] at e
  cases e
theorem fault_none {xs : List V} (h : 2 ≤ xs.length ∧ xs.length ≤ 4) (ha : ∀ x ∈ xs, wholeB x 0 ((xs.length : Nat) - 1) = true) (e : ∀ k, k < xs.length → backB xs k = true) : dueS xs = none := by
  unfold dueS
  rw [if_pos h, if_pos ha, if_pos e]
def faultV : Option Str → V
  | none => .non
  | some w => .str w
abbrev s_ties_fault : Stmt := top 16
theorem sc_ties_fault : FnScope ["backs", "many", "back", "tie"] ["backs"] (defScope s_ties_fault) := ⟨rfl, rfl, rfl, by decide +kernel, rfl, by decide +kernel, by decide +kernel⟩
def spFault : Sp := fun vs H Q _ => ∃ (v : V) (s : Sh), vs = [v] ∧ Is H v s ∧ Known H (items s) ∧ ∀ H', Same H H' → Q (faultV (due s)) H'
abbrev s_Ties_init : Stmt := inClass (top 15) 0
theorem sc_Ties_init : FnScope ["self", "backs", "what"] ["self", "backs"] (defScope s_Ties_init) := ⟨rfl, rfl, rfl, by decide +kernel, rfl, by decide +kernel, by decide +kernel⟩
def spTies (C CB : Addr) : Sp := fun vs H Q E => ∃ (x dx : Addr) (v : V) (s : Sh), vs = [.ref x, v] ∧ H x = some (.ins C dx []) ∧ Is H v s ∧ Known H (items s) ∧ (∀ w, due s = some w → Tells H CB "what" (.str w) E) ∧
  (∀ ns, due s = none → items s = ns.map V.int → ∀ H', But x H H' → TiesAt C H' x ns → Q .non H')
section
variable {P : Program} {w : World} {K : PySem.W.Frag} {mg : Str → Option Value} {base : Heap}
theorem ok_ties_fault {f fS fW : Addr} {fd fdS fdW : FuncData} (F : Fun K "ties_fault" "ties_fault" s_ties_fault f fd) (nl : mg "len" = none) (nr : mg "range" = none) (na : mg "all" = none) (mM : ∃ t, mg "MOST_TIES" = some (.int 4 t))
    (GS : Cal P w K mg base CX0 1 "is_sequence" fS fdS ["thing"] spSeq) (GW : Cal P w K mg base CX0 1 "is_whole" fW fdW ["thing", "low", "high"] spWhole) : FnOk P w K mg base CX0 2 f fd ["backs"] spFault := by
  obtain ⟨tM, mM⟩ := mM
  refine F.ok sc_ties_fault (fun vs H Q E h => ?_) (fun cdv A outer s H vs Q E hr h => ?_)
  · obtain ⟨v, s, rfl, _⟩ := h
    rfl
  · obtain ⟨v, sh, rfl, hv, kn, k⟩ := h
    cases sh with
    | sc u =>
      refine ⟨_, (pss_cons 
  (ps_if (pt_not (pt_val (pcal GS hr pass0 (pa_cons (pv 0) pa_nil)))) (pss_one 
    (ps_ret pe_str)) pss_nil) (pss_cons 
  (ps_set (i := 1) sc_ties_fault.nd rfl (Or.inr rfl) (pe_callB call_len_seq (by rfl) nl PySem.boot_len (pa_cons (pv 0) pa_nil))) (pss_cons 
  (ps_if (pt_not (pt_chain op_le op_le pe_int (pv 1) (pe_glob (v := .int 4) rfl mM ⟨_, rfl⟩))) (pss_one 
    (ps_ret pe_str)) pss_nil) (pss_cons 
  (ps_if (pt_not (pt_val (pe_callB (cr_all rfl) (by rfl) na (by decide +kernel) (pa_cons (pe_lc (own := [("back", 2)]) (g := gName 2) (by rfl) sc_ties_fault.nd (pi_list (pv 0)) (blkOk_by (own := [("back", 2)]) (N := ["backs", "many", "back", "tie"]) (sc := defScope s_ties_fault) (by decide +kernel)) (fun _ _ _ _ _ => pg_name (i := 2) sc_ties_fault.nd rfl (Or.inl rfl)) (fun _ _ _ _ _ => pts_nil) (fun _ _ _ _ _ => (pcal GW hr pass0 (pa_cons (pv 2) (pa_cons pe_int (pa_cons (pe_op op_sub (pv 1) pe_int) pa_nil)))))) pa_nil)))) (pss_one 
    (ps_ret pe_str)) pss_nil) (pss_cons 
  (ps_if (pt_not (pt_val (pe_callB (cr_all rfl) (by rfl) na (by decide +kernel) (pa_cons (pe_lc (own := [("tie", 3)]) (g := gName 3) (by rfl) sc_ties_fault.nd (pi_range1 (by rfl) nr (pa_cons (pv 1) pa_nil)) (blkOk_by (own := [("tie", 3)]) (N := ["backs", "many", "back", "tie"]) (sc := defScope s_ties_fault) (by decide +kernel)) (fun _ _ _ _ _ => pg_name (i := 3) sc_ties_fault.nd rfl (Or.inl rfl)) (fun _ _ _ _ _ => pts_nil) (fun _ _ _ _ _ => (pe_cmpR op_eq (pe_ix (r := rIxL K) ix_list (pv 0) (pe_ix (r := rIxL K) ix_list (pv 0) (pv 3) (fun _ _ => rfl)) (fun _ _ => rfl)) (pv 3) (nomark _)))) pa_nil)))) (pss_one 
    (ps_ret pe_str)) pss_nil) (pss_one 
  (ps_ret pe_non))))))), ?_⟩
      exact ⟨_, rfl, _, (.sc u), rfl, hv, fun H1 S1 => ⟨_, rfl, iteT (k _ S1)⟩⟩
    | dk =>
      refine ⟨_, (pss_cons 
  (ps_if (pt_not (pt_val (pcal GS hr pass0 (pa_cons (pv 0) pa_nil)))) (pss_one 
    (ps_ret pe_str)) pss_nil) (pss_cons 
  (ps_set (i := 1) sc_ties_fault.nd rfl (Or.inr rfl) (pe_callB call_len_seq (by rfl) nl PySem.boot_len (pa_cons (pv 0) pa_nil))) (pss_cons 
  (ps_if (pt_not (pt_chain op_le op_le pe_int (pv 1) (pe_glob (v := .int 4) rfl mM ⟨_, rfl⟩))) (pss_one 
    (ps_ret pe_str)) pss_nil) (pss_cons 
  (ps_if (pt_not (pt_val (pe_callB (cr_all rfl) (by rfl) na (by decide +kernel) (pa_cons (pe_lc (own := [("back", 2)]) (g := gName 2) (by rfl) sc_ties_fault.nd (pi_list (pv 0)) (blkOk_by (own := [("back", 2)]) (N := ["backs", "many", "back", "tie"]) (sc := defScope s_ties_fault) (by decide +kernel)) (fun _ _ _ _ _ => pg_name (i := 2) sc_ties_fault.nd rfl (Or.inl rfl)) (fun _ _ _ _ _ => pts_nil) (fun _ _ _ _ _ => (pcal GW hr pass0 (pa_cons (pv 2) (pa_cons pe_int (pa_cons (pe_op op_sub (pv 1) pe_int) pa_nil)))))) pa_nil)))) (pss_one 
    (ps_ret pe_str)) pss_nil) (pss_cons 
  (ps_if (pt_not (pt_val (pe_callB (cr_all rfl) (by rfl) na (by decide +kernel) (pa_cons (pe_lc (own := [("tie", 3)]) (g := gName 3) (by rfl) sc_ties_fault.nd (pi_range1 (by rfl) nr (pa_cons (pv 1) pa_nil)) (blkOk_by (own := [("tie", 3)]) (N := ["backs", "many", "back", "tie"]) (sc := defScope s_ties_fault) (by decide +kernel)) (fun _ _ _ _ _ => pg_name (i := 3) sc_ties_fault.nd rfl (Or.inl rfl)) (fun _ _ _ _ _ => pts_nil) (fun _ _ _ _ _ => (pe_cmpR op_eq (pe_ix (r := rIxL K) ix_list (pv 0) (pe_ix (r := rIxL K) ix_list (pv 0) (pv 3) (fun _ _ => rfl)) (fun _ _ => rfl)) (pv 3) (nomark _)))) pa_nil)))) (pss_one 
    (ps_ret pe_str)) pss_nil) (pss_one 
  (ps_ret pe_non))))))), ?_⟩
      exact ⟨_, rfl, _, .dk, rfl, hv, fun H1 S1 => ⟨_, rfl, iteT (k _ S1)⟩⟩
    | lst xs =>
      obtain ⟨p, rfl, hp⟩ := hv
      refine ⟨_, (pss_cons 
  (ps_if (pt_not (pt_val (pcal GS hr pass0 (pa_cons (pv 0) pa_nil)))) (pss_one 
    (ps_ret pe_str)) pss_nil) (pss_cons 
  (ps_set (i := 1) sc_ties_fault.nd rfl (Or.inr rfl) (pe_callB call_len_seq (by rfl) nl PySem.boot_len (pa_cons (pv 0) pa_nil))) (pss_cons 
  (ps_if (pt_not (pt_chain op_le op_le pe_int (pv 1) (pe_glob (v := .int 4) rfl mM ⟨_, rfl⟩))) (pss_one 
    (ps_ret pe_str)) pss_nil) (pss_cons 
  (ps_if (pt_not (pt_val (pe_callB (cr_all rfl) (by rfl) na (by decide +kernel) (pa_cons (pe_lc (own := [("back", 2)]) (g := gName 2) (by rfl) sc_ties_fault.nd (pi_list (pv 0)) (blkOk_by (own := [("back", 2)]) (N := ["backs", "many", "back", "tie"]) (sc := defScope s_ties_fault) (by decide +kernel)) (fun _ _ _ _ _ => pg_name (i := 2) sc_ties_fault.nd rfl (Or.inl rfl)) (fun _ _ _ _ _ => pts_nil) (fun _ _ _ _ _ => (pcal GW hr pass0 (pa_cons (pv 2) (pa_cons pe_int (pa_cons (pe_op op_sub (pv 1) pe_int) pa_nil)))))) pa_nil)))) (pss_one 
    (ps_ret pe_str)) pss_nil) (pss_cons 
  (ps_if (pt_not (pt_val (pe_callB (cr_all rfl) (by rfl) na (by decide +kernel) (pa_cons (pe_lc (own := [("tie", 3)]) (g := gName 3) (by rfl) sc_ties_fault.nd (pi_range1 (by rfl) nr (pa_cons (pv 1) pa_nil)) (blkOk_by (own := [("tie", 3)]) (N := ["backs", "many", "back", "tie"]) (sc := defScope s_ties_fault) (by decide +kernel)) (fun _ _ _ _ _ => pg_name (i := 3) sc_ties_fault.nd rfl (Or.inl rfl)) (fun _ _ _ _ _ => pts_nil) (fun _ _ _ _ _ => (pe_cmpR op_eq (pe_ix (r := rIxL K) ix_list (pv 0) (pe_ix (r := rIxL K) ix_list (pv 0) (pv 3) (fun _ _ => rfl)) (fun _ _ => rfl)) (pv 3) (nomark _)))) pa_nil)))) (pss_one 
    (ps_ret pe_str)) pss_nil) (pss_one 
  (ps_ret pe_non))))))), ?_⟩
      refine ⟨_, rfl, _, .lst xs, rfl, ⟨p, rfl, hp⟩, fun H1 S1 => ⟨_, rfl, iteF ?_⟩⟩
      have h1 := S1 _ _ hp
      have kn1 : Known H1 xs := kn.keep S1
      have say : ∀ (H2 : Hp) (o : Option Str), Same H1 H2 → dueS xs = o → Q (faultV o) H2 := fun H2 o S2 e => by
        have z := k _ (S1.trans S2)
        have e2 : due (.lst xs) = o := e
        rw [e2] at z
        exact z
      refine ⟨_, rfl, p, xs, rfl, .inl (SqL.of h1), ?_⟩
      refine ⟨_, rfl, _, _, rfl, rfl, _, rfl, ?_⟩
      by_cases c1 : (2 : Int) ≤ ((xs.length : Nat) : Int)
      case neg => exact if_fa (decide_eq_false c1) ⟨_, rfl, iteT (say _ (some "count") (Same.refl _) (fault_count (by omega)))⟩
      refine if_tr (decide_eq_true c1) ⟨_, _, rfl, rfl, _, rfl, ?_⟩
      by_cases c2 : ((xs.length : Nat) : Int) ≤ 4
      case neg =>
        rw [decide_eq_false c2]
        exact iteT (say _ (some "count") (Same.refl _) (fault_count (by omega)))
      rw [decide_eq_true c2]
      refine iteF ?_
      have c12 : 2 ≤ xs.length ∧ xs.length ≤ 4 := by omega
      refine ⟨_, rfl, p, rfl, ⟨_, SqL.of h1⟩, fun D hD => ?_⟩
      refine lc_list (K := K) (a := p) (xs := xs) (fun i H2 => Same H1 H2 ∧ H1 D = none ∧ H2 D = some (.lst ((xs.take i).map fun y => V.bl (wholeB y 0 ((xs.length : Nat) - 1))))) ⟨new_same hD, hD, upd_same⟩ (fun i H2 _ ⟨S, _⟩ => SqL.of (S _ _ h1)) ?_ ?_
      · rintro i y H2 hy ⟨S2, D0, eD⟩
        have hi := (List.getElem?_eq_some_iff.mp hy).1
        obtain ⟨sy, isy⟩ := kn1 y (List.mem_of_getElem? hy)
        refine ⟨rfl, yesT ?_⟩
        refine ⟨_, rfl, _, rfl, _, _, rfl, rfl, y, sy, _, _, rfl, isy.keep S2, _, eD, small1000 (by rw [List.length_map, List.length_take]; omega), fun b o e => ?_, D0, by rw [upd_same, List.take_add_one, hy, List.map_append]; rfl⟩
        rw [upd_ne (ne_of_none e D0)]
        exact S2 _ _ e
      rintro H2 ⟨S2, D0, eD⟩
      rw [List.take_length] at eD
      refine ⟨D, xs.map fun y => wholeB y 0 ((xs.length : Nat) - 1), rfl, SqL.of (by rw [eD, List.map_map]; rfl), _, rfl, ?_⟩
      cases ea : (xs.map fun y => wholeB y 0 ((xs.length : Nat) - 1)).all id with
      | false =>
        refine iteT (say _ (some "tie") S2 ?_)
        rw [List.all_map, List.all_eq_false] at ea
        obtain ⟨x, hx, hw⟩ := ea
        exact fault_tie c12 hx (by simpa using hw)
      | true =>
        refine iteF ?_
        rw [List.all_map, List.all_eq_true] at ea
        have hall : ∀ x ∈ xs, wholeB x 0 ((xs.length : Nat) - 1) = true := fun x hx => ea x hx
        obtain ⟨ns, hns, hr2⟩ := all_ints hall
        have hln : xs.length = ns.length := by rw [hns, List.length_map]
        refine ⟨_, rfl, (xs.length : Nat), rfl, by omega, by omega, fun E' hE => ?_⟩
        refine lc_range (lo := 0) (n := xs.length) (fun i H3 => Same H2 H3 ∧ H2 E' = none ∧ H3 E' = some (.lst ((List.range i).map fun j => V.bl (backB xs j)))) ⟨new_same hE, hE, upd_same⟩ ?_ ?_
        · rintro i H3 hi ⟨S3, E0, eE⟩
          have h3 := S3 _ _ (S2 _ _ h1)
          have hi' : i < ns.length := by omega
          have hbi : ns[i]? = some ns[i] := List.getElem?_eq_getElem hi'
          have hmem := hr2 _ (List.getElem_mem hi')
          generalize ns[i] = b at hbi hmem
          have hbl : b.toNat < ns.length := by omega
          have hci : ns[b.toNat]? = some ns[b.toNat] := List.getElem?_eq_getElem hbl
          generalize ns[b.toNat] = c at hci
          have hbk := backB_iff hbi
          rw [← hns, hci] at hbk
          have val : decide (V.int c = V.int (0 + (i : Nat))) = backB xs i := by
            rw [hbk]
            by_cases z : c = (i : Int) <;> simp [z]
          refine ⟨rfl, yesT ?_⟩
          refine ⟨_, rfl, _, rfl, _, rfl, _, _, _, _, rfl, rfl, SqL.of h3, at_of (j := i) (v := .int b) (by omega) (by rw [hns]; exact ints_at hbi), _, _, _, _, rfl, rfl, SqL.of h3, at_of (j := b.toNat) (v := .int c) (by omega) (by rw [hns]; exact ints_at hci), _, rfl, rfl, _, eE, small1000 (by rw [List.length_map, List.length_range]; omega), fun b' o e => ?_, E0, ?_⟩
          · rw [upd_ne (ne_of_none e E0)]
            exact S3 _ _ e
          · rw [upd_same, val, List.range_succ, List.map_append]
            rfl
        rintro H3 ⟨S3, E0, eE⟩
        refine ⟨E', (List.range xs.length).map (backB xs), rfl, SqL.of (by rw [eE, List.map_map]; rfl), _, rfl, ?_⟩
        cases eb : ((List.range xs.length).map (backB xs)).all id with
        | false =>
          refine iteT (say _ (some "back") (S2.trans S3) ?_)
          rw [List.all_map, List.all_eq_false] at eb
          obtain ⟨j, hj, hw⟩ := eb
          exact fault_back c12 hall (List.mem_range.mp hj) (by simpa using hw)
        | true =>
          refine iteF (say _ none (S2.trans S3) ?_)
          rw [List.all_map, List.all_eq_true] at eb
          exact fault_none c12 hall fun j hj => eb j (List.mem_range.mpr hj)
    | tup xs =>
      obtain ⟨p, rfl, hp⟩ := hv
      refine ⟨_, (pss_cons 
  (ps_if (pt_not (pt_val (pcal GS hr pass0 (pa_cons (pv 0) pa_nil)))) (pss_one 
    (ps_ret pe_str)) pss_nil) (pss_cons 
  (ps_set (i := 1) sc_ties_fault.nd rfl (Or.inr rfl) (pe_callB call_len_seq (by rfl) nl PySem.boot_len (pa_cons (pv 0) pa_nil))) (pss_cons 
  (ps_if (pt_not (pt_chain op_le op_le pe_int (pv 1) (pe_glob (v := .int 4) rfl mM ⟨_, rfl⟩))) (pss_one 
    (ps_ret pe_str)) pss_nil) (pss_cons 
  (ps_if (pt_not (pt_val (pe_callB (cr_all rfl) (by rfl) na (by decide +kernel) (pa_cons (pe_lc (own := [("back", 2)]) (g := gName 2) (by rfl) sc_ties_fault.nd (pi_tup (pv 0)) (blkOk_by (own := [("back", 2)]) (N := ["backs", "many", "back", "tie"]) (sc := defScope s_ties_fault) (by decide +kernel)) (fun _ _ _ _ _ => pg_name (i := 2) sc_ties_fault.nd rfl (Or.inl rfl)) (fun _ _ _ _ _ => pts_nil) (fun _ _ _ _ _ => (pcal GW hr pass0 (pa_cons (pv 2) (pa_cons pe_int (pa_cons (pe_op op_sub (pv 1) pe_int) pa_nil)))))) pa_nil)))) (pss_one 
    (ps_ret pe_str)) pss_nil) (pss_cons 
  (ps_if (pt_not (pt_val (pe_callB (cr_all rfl) (by rfl) na (by decide +kernel) (pa_cons (pe_lc (own := [("tie", 3)]) (g := gName 3) (by rfl) sc_ties_fault.nd (pi_range1 (by rfl) nr (pa_cons (pv 1) pa_nil)) (blkOk_by (own := [("tie", 3)]) (N := ["backs", "many", "back", "tie"]) (sc := defScope s_ties_fault) (by decide +kernel)) (fun _ _ _ _ _ => pg_name (i := 3) sc_ties_fault.nd rfl (Or.inl rfl)) (fun _ _ _ _ _ => pts_nil) (fun _ _ _ _ _ => (pe_cmpR op_eq (pe_ix (r := rIxT K) ix_tup (pv 0) (pe_ix (r := rIxT K) ix_tup (pv 0) (pv 3) (fun _ _ => rfl)) (fun _ _ => rfl)) (pv 3) (nomark _)))) pa_nil)))) (pss_one 
    (ps_ret pe_str)) pss_nil) (pss_one 
  (ps_ret pe_non))))))), ?_⟩
      refine ⟨_, rfl, _, .tup xs, rfl, ⟨p, rfl, hp⟩, fun H1 S1 => ⟨_, rfl, iteF ?_⟩⟩
      have h1 := S1 _ _ hp
      have kn1 : Known H1 xs := kn.keep S1
      have say : ∀ (H2 : Hp) (o : Option Str), Same H1 H2 → dueS xs = o → Q (faultV o) H2 := fun H2 o S2 e => by
        have z := k _ (S1.trans S2)
        have e2 : due (.tup xs) = o := e
        rw [e2] at z
        exact z
      refine ⟨_, rfl, p, xs, rfl, .inr (SqT.of h1), ?_⟩
      refine ⟨_, rfl, _, _, rfl, rfl, _, rfl, ?_⟩
      by_cases c1 : (2 : Int) ≤ ((xs.length : Nat) : Int)
      case neg => exact if_fa (decide_eq_false c1) ⟨_, rfl, iteT (say _ (some "count") (Same.refl _) (fault_count (by omega)))⟩
      refine if_tr (decide_eq_true c1) ⟨_, _, rfl, rfl, _, rfl, ?_⟩
      by_cases c2 : ((xs.length : Nat) : Int) ≤ 4
      case neg =>
        rw [decide_eq_false c2]
        exact iteT (say _ (some "count") (Same.refl _) (fault_count (by omega)))
      rw [decide_eq_true c2]
      refine iteF ?_
      have c12 : 2 ≤ xs.length ∧ xs.length ≤ 4 := by omega
      refine ⟨_, rfl, p, rfl, ⟨_, SqT.of h1⟩, fun D hD => ?_⟩
      refine lc_tup (K := K) (a := p) (xs := xs) (fun i H2 => Same H1 H2 ∧ H1 D = none ∧ H2 D = some (.lst ((xs.take i).map fun y => V.bl (wholeB y 0 ((xs.length : Nat) - 1))))) ⟨new_same hD, hD, upd_same⟩ (fun i H2 _ ⟨S, _⟩ => SqT.of (S _ _ h1)) ?_ ?_
      · rintro i y H2 hy ⟨S2, D0, eD⟩
        have hi := (List.getElem?_eq_some_iff.mp hy).1
        obtain ⟨sy, isy⟩ := kn1 y (List.mem_of_getElem? hy)
        refine ⟨rfl, yesT ?_⟩
        refine ⟨_, rfl, _, rfl, _, _, rfl, rfl, y, sy, _, _, rfl, isy.keep S2, _, eD, small1000 (by rw [List.length_map, List.length_take]; omega), fun b o e => ?_, D0, by rw [upd_same, List.take_add_one, hy, List.map_append]; rfl⟩
        rw [upd_ne (ne_of_none e D0)]
        exact S2 _ _ e
      rintro H2 ⟨S2, D0, eD⟩
      rw [List.take_length] at eD
      refine ⟨D, xs.map fun y => wholeB y 0 ((xs.length : Nat) - 1), rfl, SqL.of (by rw [eD, List.map_map]; rfl), _, rfl, ?_⟩
      cases ea : (xs.map fun y => wholeB y 0 ((xs.length : Nat) - 1)).all id with
      | false =>
        refine iteT (say _ (some "tie") S2 ?_)
        rw [List.all_map, List.all_eq_false] at ea
        obtain ⟨x, hx, hw⟩ := ea
        exact fault_tie c12 hx (by simpa using hw)
      | true =>
        refine iteF ?_
        rw [List.all_map, List.all_eq_true] at ea
        have hall : ∀ x ∈ xs, wholeB x 0 ((xs.length : Nat) - 1) = true := fun x hx => ea x hx
        obtain ⟨ns, hns, hr2⟩ := all_ints hall
        have hln : xs.length = ns.length := by rw [hns, List.length_map]
        refine ⟨_, rfl, (xs.length : Nat), rfl, by omega, by omega, fun E' hE => ?_⟩
        refine lc_range (lo := 0) (n := xs.length) (fun i H3 => Same H2 H3 ∧ H2 E' = none ∧ H3 E' = some (.lst ((List.range i).map fun j => V.bl (backB xs j)))) ⟨new_same hE, hE, upd_same⟩ ?_ ?_
        · rintro i H3 hi ⟨S3, E0, eE⟩
          have h3 := S3 _ _ (S2 _ _ h1)
          have hi' : i < ns.length := by omega
          have hbi : ns[i]? = some ns[i] := List.getElem?_eq_getElem hi'
          have hmem := hr2 _ (List.getElem_mem hi')
          generalize ns[i] = b at hbi hmem
          have hbl : b.toNat < ns.length := by omega
          have hci : ns[b.toNat]? = some ns[b.toNat] := List.getElem?_eq_getElem hbl
          generalize ns[b.toNat] = c at hci
          have hbk := backB_iff hbi
          rw [← hns, hci] at hbk
          have val : decide (V.int c = V.int (0 + (i : Nat))) = backB xs i := by
            rw [hbk]
            by_cases z : c = (i : Int) <;> simp [z]
          refine ⟨rfl, yesT ?_⟩
          refine ⟨_, rfl, _, rfl, _, rfl, _, _, _, _, rfl, rfl, SqT.of h3, at_of (j := i) (v := .int b) (by omega) (by rw [hns]; exact ints_at hbi), _, _, _, _, rfl, rfl, SqT.of h3, at_of (j := b.toNat) (v := .int c) (by omega) (by rw [hns]; exact ints_at hci), _, rfl, rfl, _, eE, small1000 (by rw [List.length_map, List.length_range]; omega), fun b' o e => ?_, E0, ?_⟩
          · rw [upd_ne (ne_of_none e E0)]
            exact S3 _ _ e
          · rw [upd_same, val, List.range_succ, List.map_append]
            rfl
        rintro H3 ⟨S3, E0, eE⟩
        refine ⟨E', (List.range xs.length).map (backB xs), rfl, SqL.of (by rw [eE, List.map_map]; rfl), _, rfl, ?_⟩
        cases eb : ((List.range xs.length).map (backB xs)).all id with
        | false =>
          refine iteT (say _ (some "back") (S2.trans S3) ?_)
          rw [List.all_map, List.all_eq_false] at eb
          obtain ⟨j, hj, hw⟩ := eb
          exact fault_back c12 hall (List.mem_range.mp hj) (by simpa using hw)
        | true =>
          refine iteF (say _ none (S2.trans S3) ?_)
          rw [List.all_map, List.all_eq_true] at eb
          exact fault_none c12 hall fun j hj => eb j (List.mem_range.mpr hj)
theorem ok_Ties_init {f C CB fC fI : Addr} {fd fdC fdI : FuncData} (F : Fun K "__init__" "Ties.__init__" s_Ties_init f fd) (T : TiC K C) (nl : mg "len" = none) (nt : mg "tuple" = none)
    (GF : Cal P w K mg base CX0 2 "ties_fault" fC fdC ["backs"] spFault) (GB : Ex P w K mg base "BadTies" "what" CB fI fdI ["self", "what"]) : FnOk P w K mg base (L2.CX P w) 4 f fd ["self", "backs"] (spTies C CB) := by
  refine F.okX sc_Ties_init (fun vs H Q E h => ?_) (fun cdv A outer s H vs Q E hr h => ?_)
  · obtain ⟨x, dx, v, s, rfl, _⟩ := h
    rfl
  · obtain ⟨x, dx, v, sh, rfl, hx, hv, kn, k1, k2⟩ := h
    refine ⟨_, (pss_cons 
  (ps_set (i := 2) sc_Ties_init.nd rfl (Or.inl rfl) (pcal GF hr pass0 (pa_cons (pv 1) pa_nil))) (pss_cons 
  (ps_if (pt_cmpR op_notN (pv 2) pe_non (nomark _)) (pss_one 
    (ps_raise rfl (takes_of rfl rfl rfl rfl) (pmk_oex GB.o GB.i GB.t GB.F (hr.mono (by decide)) GB.b .nil pass0 rfl GB.m (pa_cons (pv 2) pa_nil)))) pss_nil) (pss_cons 
  (ps_fld (pv 0) (pe_callTy (T := "tuple") (r := fun xs H Q => ∃ p ys, xs = [.ref p] ∧ ((SqL K H p ys ∧ ∀ l, H l = none → Q (.ref l) (upd H l (.tup ys))) ∨ (SqT K H p ys ∧ Q (.ref p) H))) call_tuple_of (by rfl) nt (by decide +kernel) (pa_cons (pv 1) pa_nil)) rfl) (pss_one 
  (ps_fld (pv 0) (pe_callB call_len_seq (by rfl) nl PySem.boot_len (pa_cons (pe_fld (pv 0) rfl) pa_nil)) rfl))))), ?_⟩
    refine ⟨_, rfl, v, sh, rfl, hv, kn, fun H1 S1 => ?_⟩
    have k1' := k1
    cases hd : due sh with
    | some u =>
      refine ⟨_, rfl, rfl, _, rfl, if_tr (by simp [faultV]) ⟨_, rfl, mkO_of ((k1 u hd).mono S1)⟩⟩
    | none =>
      refine ⟨_, rfl, rfl, _, rfl, if_fa (by simp [faultV]) ?_⟩
      have hx1 := S1 _ _ hx
      cases sh with
      | sc u => cases hd
      | dk => cases hd
      | lst xs =>
        obtain ⟨p, rfl, hp⟩ := hv
        obtain ⟨ns, e, g⟩ := good_of hd
        subst e
        have npx : p ≠ x := ne_of hp hx (by intro z; cases z)
        have h1 := S1 _ _ hp
        refine ⟨_, rfl, p, _, rfl, .inl ⟨SqL.of h1, fun t ht => ?_⟩⟩
        have ntx : t ≠ x := (ne_of_none hx1 ht).symm
        refine ⟨_, rfl, x, C, dx, [], rfl, (by rw [upd_ne ntx.symm]; exact hx1), T.cl, T.nB, (by show 0 < 1000; decide), ?_⟩
        refine ⟨_, rfl, x, C, dx, _, _, rfl, upd_same, T.cl, T.nB, (by rw [lookup_putF, if_pos rfl]), t, _, rfl, .inr (SqT.of (by rw [upd_ne ntx, upd_same])), ?_⟩
        refine ⟨_, rfl, x, C, dx, _, rfl, upd_same, T.cl, T.nM, (by show 1 < 1000; decide), ?_⟩
        refine k2 ns hd rfl _ (fun b o nb eb => ?_) ⟨dx, t, by rw [upd_same, List.length_map]; rfl, by rw [upd_ne ntx, upd_ne ntx, upd_same]⟩
        have e1 := S1 _ _ eb
        rw [upd_ne nb, upd_ne nb, upd_ne (ne_of_none e1 ht)]
        exact e1
      | tup xs =>
        obtain ⟨p, rfl, hp⟩ := hv
        obtain ⟨ns, e, g⟩ := good_of hd
        subst e
        have npx : p ≠ x := ne_of hp hx (by intro z; cases z)
        have h1 := S1 _ _ hp
        refine ⟨_, rfl, p, _, rfl, .inr ⟨SqT.of h1, ?_⟩⟩
        refine ⟨_, rfl, x, C, dx, [], rfl, hx1, T.cl, T.nB, (by show 0 < 1000; decide), ?_⟩
        refine ⟨_, rfl, x, C, dx, _, _, rfl, upd_same, T.cl, T.nB, (by rw [lookup_putF, if_pos rfl]), p, _, rfl, .inr (SqT.of (by rw [upd_ne npx]; exact h1)), ?_⟩
        refine ⟨_, rfl, x, C, dx, _, rfl, upd_same, T.cl, T.nM, (by show 1 < 1000; decide), ?_⟩
        refine k2 ns hd rfl _ (fun b o nb eb => ?_) ⟨dx, p, by rw [upd_same, List.length_map]; rfl, by rw [upd_ne npx, upd_ne npx]; exact h1⟩
        rw [upd_ne nb, upd_ne nb]
        exact S1 _ _ eb
end
end J

set_option Elab.async false
set_option linter.all false
set_option maxRecDepth 100000
set_option maxHeartbeats 4000000
namespace J
open PySem PySem.Spec PyProof.Rows L2
def wordV : Option Str → V
  | none => .non
  | some w => .str w
def spDueX : Sp := fun vs H Q E => ∃ (v : V) (s : Sh), vs = [v] ∧ Is H v s ∧ Known H (items s) ∧ ∀ H', Same H H' → Q (wordV (due s)) H'
theorem dueS_count {xs : List V} (h : ¬ (2 ≤ xs.length ∧ xs.length ≤ 4)) : dueS xs = some ("count" : Str) := by
  unfold dueS
  rw [if_neg h]
theorem dueS_tie {xs : List V} {x : V} (h : 2 ≤ xs.length ∧ xs.length ≤ 4) (hx : x ∈ xs) (e : wholeB x 0 ((xs.length : Nat) - 1) = false) : dueS xs = some ("tie" : Str) := by
  unfold dueS
  rw [if_pos h, if_neg]
  intro q
  rw [q x hx] at e
  cases e
theorem dueS_back {xs : List V} {k : Nat} (h : 2 ≤ xs.length ∧ xs.length ≤ 4) (ha : ∀ x ∈ xs, wholeB x 0 ((xs.length : Nat) - 1) = true) (hk : k < xs.length) (e : backB xs k = false) : dueS xs = some ("back" : Str) := by
  unfold dueS
  rw [if_pos h, if_pos ha, if_neg]
  intro q
  rw [q k hk] at e
  cases e
theorem dueS_none {xs : List V} (h : 2 ≤ xs.length ∧ xs.length ≤ 4) (ha : ∀ x ∈ xs, wholeB x 0 ((xs.length : Nat) - 1) = true) (e : ∀ k, k < xs.length → backB xs k = true) : dueS xs = none := by
  unfold dueS
  rw [if_pos h, if_pos ha, if_pos e]
theorem whole_lo {n lo hi : Int} (h : ¬ lo ≤ n) : wholeB (.int n) lo hi = false := by
  show (decide (lo ≤ n) && decide (n ≤ hi)) = false
  rw [decide_eq_false h]
  rfl
theorem whole_hi {n lo hi : Int} (h : ¬ n ≤ hi) : wholeB (.int n) lo hi = false := by
  show (decide (lo ≤ n) && decide (n ≤ hi)) = false
  rw [decide_eq_false h, Bool.and_false]
theorem is_new {K : PySem.W.Frag} {H : Hp} {x : V} {s : Sh} {p : Addr} (hx : Is H x s) (hp : H p = none) : ∃ t : String, TyX K (upd H p (.tup [.ty "list", .ty "tuple"])) x (.type t) ∧ PySem.W.kitAny K (.type t) [.type "list", .type "tuple"] = some (s.isL || s.isT) := by
  obtain ⟨t, ht, _, _, k1, k2⟩ := (hx.keep (new_same hp)).ty (K := K)
  exact ⟨t, ht, kit_seq k1 k2⟩
theorem isi_seq2 {K : PySem.W.Frag} {H : Hp} {x : V} {s : Sh} {Q : VK} {p : Addr} (hx : Is H x s) (hp : H p = none) (k : ∀ H', Same H H' → Q (.bl (s.isL || s.isT)) H') : rIsiT K [x, .ref p] (upd H p (.tup [.ty "list", .ty "tuple"])) Q := (isi_seq hx k).2 p hp
section
variable {P : Program} {w : World} {K : PySem.W.Frag} {mg : Str → Option Value} {base : Heap}
end
end J

set_option Elab.async false
set_option linter.all false
set_option maxRecDepth 100000
set_option maxHeartbeats 4000000
namespace J
open PySem PySem.Spec PyProof.Rows L2
/-! ### calls that may raise, within a try -/
section
variable {X : Cx} {CX : CXT} {k : Nat} {f C : Addr} {fd : FuncData} {ps : List Str} {sp : Sp} {E : L2.St → XK} {x m : Str} {p pos apos : Pos} {e o : Expr} {es : List Expr} {ta : TE} {t : TA}
def tMethS (m : Str) (sp : Sp) (C : Addr) (E : L2.St → XK) (ta : TE) (t : TA) : TE := fun σ H Q => ta σ H fun x H1 => ∃ a dx fs, x = .ref a ∧ H1 a = some (.ins C dx fs) ∧ fs.lookup m = none ∧ t σ H1 fun vs H2 => sp (.ref a :: vs) H2 Q (E σ)
theorem pmetS {pl : Sem Bool} (he : PE X o ta) (c : Cls X.K C) (hm : Meth X.K C m f) (F : FnOk X.prog X.w X.K X.mg X.base CX k f fd ps sp) (hr : Room k X.A) (hb : Binds X.K fd ps [])
    (hx : ∀ σ, PassesAt CX X σ (E σ)) (ha : PA X (e :: es) t)
    (hst : starEach (e :: es) X.env = (false, eval e X.env) :: starEach es X.env := by rfl)
    (hpl : (backTo pos (starEach es X.env)).any (·.1) = false := by rfl)
    (ht : eval (.Call (.Attribute o m apos) (e :: es) [] pos) X.env = (do let ov ← eval o X.env; standAt apos.atName; let (f, first) ← holding [ov] (getMethod ov m pl); callWith pos f first (backTo pos (starEach (e :: es) X.env)) (backToKw pos (keywordEach [] X.env))) := by rfl) :
    PE X (.Call (.Attribute o m apos) (e :: es) [] pos) (tMethS m sp C E ta t) := by
  constructor
  intro pins s σ H Q I h
  refine PySem.W.methodCall_KW (pl := pl) (thn (he.run pins s σ H _ I h) ?_) ht
  rintro u s1 ⟨x, H1, I1, rx, a, dx, fs, ex, ea, l, q⟩
  subst ex
  obtain rfl : u = Value.ref a := rx
  apply getmeth_ok I1 ea c hm l
  refine PySem.W.callWith_K (first := [.ref a]) (h₀ := X.base) I.ok.mod.kin hm.kp (thn (ha.run pos pins s1 σ H1 _ I1 q) ?_) hst hpl
  rintro us s2 ⟨vs, H2, I2, r, q2⟩
  refine ⟨I2.kIn, ?_⟩
  exact run_fnS (us := .ref a :: us) (vs := .ref a :: vs) F hr hb (hx σ) I2 (.cons rfl r) q2
def tMakeS (C : Addr) (sp : Sp) (E : L2.St → XK) (t : TA) : TE := fun σ H Q => t σ H fun vs H1 => ∀ x dx, H1 x = none → H1 dx = none → dx ≠ x → sp (.ref x :: vs) (upd (upd H1 dx (.own x)) x (.ins C dx [])) (fun v H2 => v = .non ∧ Q (.ref x) H2) (E σ)
theorem pmakS (M : Mk X.K C f) (F : FnOk X.prog X.w X.K X.mg X.base CX k f fd ps sp) (hr : Room (k + 1) X.A) (hg : Gl X x) (hm : X.mg x = some (.ref C)) (hb : Binds X.K fd ps []) (hx : ∀ σ, PassesAt CX X σ (E σ))
    (ha : PA X (e :: es) t) (hdb : (x == ("__debug__" : Str)) = false := by decide)
    (he : starEach (e :: es) X.env = (false, eval e X.env) :: starEach es X.env := by rfl)
    (hpl : (backTo pos (starEach es X.env)).any (·.1) = false := by rfl) :
    PE X (.Call (.Name x p) (e :: es) [] pos) (tMakeS C sp E t) := by
  constructor
  intro pins s σ H Q I h
  refine wpAny_Call_Name_kw (ld_glob I hg hm ?_ hdb)
  refine PySem.W.callWith_K (h₀ := X.base) I.ok.mod.kin M.kp (thn (ha.run pos pins s σ H _ I h) ?_) he hpl
  rintro us s1 ⟨vs, H1, I1, r, q⟩
  refine ⟨I1.kIn, ?_⟩
  have hq := q (s1.heap.objs.size + 1) s1.heap.objs.size (I1.hok.fresh (Nat.le_succ _)) (I1.hok.fresh (Nat.le_refl _)) (Nat.ne_of_lt (Nat.lt_succ_self _))
  have I2 := Inv.made (C := C) I1
  have r2 : Vals (V.ref (s1.heap.objs.size + 1) :: vs) (Value.ref (s1.heap.objs.size + 1) :: us) := .cons rfl r
  have hl : (Value.ref (s1.heap.objs.size + 1) :: us).length = ps.length := by
    rw [← r2.length]
    exact F.len _ _ _ _ hq
  have bd := hb _ (Value.ref (s1.heap.objs.size + 1) :: us) I2.kIn (by rw [List.append_nil]; exact hl)
  rw [List.append_nil] at bd
  have run := F.run _ X.stack _ _ ⟨Value.ref (s1.heap.objs.size + 1) :: us, []⟩ (Value.ref (s1.heap.objs.size + 1) :: us) _ _ (E σ) (hr.make C us []) (I2.env0.make C us []) bd r2 hq
  refine wpAny_call (make_map (f := f) I1.kIn M.makes M.init (beq_iff_eq.mp M.fn) (codeAny_mono run ?_))
  intro r s' hq'
  rcases r with er | fl
  · exact hx σ pins _ _ er s' I2 hq'
  · cases fl with
    | ret u =>
      obtain ⟨v, H', I3, rv, ev, q3⟩ := I2.after hq'
      subst ev
      exact ⟨rv, V.ref (s1.heap.objs.size + 1), H', I3, rfl, q3⟩
    | next => exact hq'.elim
    | brk => exact hq'.elim
    | cont => exact hq'.elim
end
/-! ### == by the text's own __eq__ -/
def rEqOwn (C : Addr) (sp : Sp) (E : XK) : R2 := fun x y H Q => ∃ a b dx fs, x = .ref a ∧ y = .ref b ∧ H a = some (.ins C dx fs) ∧ ((∃ dy gs, H b = some (.ins C dy gs)) ∨ ∃ ys, H b = some (.tup ys)) ∧ sp [x, y] H (fun v H' => (∃ c, v = .bl c) ∧ Q v H') E
theorem op_eqOwn {X : Cx} {CX : CXT} {n : Nat} {C f : Addr} {fd : FuncData} {ps : List Str} {sp : Sp} {E : XK} (F : FnOk X.prog X.w X.K X.mg X.base CX n f fd ps sp)
    (hs : PySem.W.findIn X.K (.ref C) "__eq__" = some (some (.ref f))) (hf : PySem.W.isFn X.K (.ref f) = true) (hb : Binds X.K fd ps []) (hx : Passes CX X E) (hr : Room n X.A)
    (hn : PySem.W.notFirst X.K C (.type "tuple") = true) : OpR X (compareOp .Eq) (rEqOwn C sp E) := by
  intro pins s σ H x y v u Q I rx ry ⟨a, b, dx, fs, ex, ey, ha, hy, q⟩
  subst ex
  subst ey
  obtain rfl : v = Value.ref a := rx
  obtain rfl : u = Value.ref b := ry
  show wpAny (model X.prog X.w) X.A (richCompare .Eq (.ref a) (.ref b)) (EP X pins σ Q) X.xe s
  obtain ⟨mA, J, _⟩ := ins_get I.hok ha
  obtain ⟨od, J, _⟩ := J.look
  obtain ⟨m, hF⟩ := I.fr
  have r2 : Vals [V.ref a, V.ref b] [Value.ref a, Value.ref b] := .cons rfl (.cons rfl .nil)
  have fin : wpAny (model X.prog X.w) X.A (call (.ref f) [.ref a, .ref b]) (PySem.W.CmpBack (EP X pins σ Q)) X.xe s := by
    refine wpAny_mono (run_fn (dvs := []) (ds := []) (us := [.ref a, .ref b]) (vs := [.ref a, .ref b]) F hr hb .nil hx I r2 q) ?_ fun _ _ z => z
    rintro w s' ⟨z, H', I', rz, ⟨c, rfl⟩, qz⟩
    obtain rfl : w = Value.bool c := rz
    exact ⟨V.bl c, H', I', rfl, qz⟩
  rcases hy with ⟨dy, gs, hb'⟩ | ⟨ys, hb'⟩
  · obtain ⟨mB, J', _⟩ := ins_get I.hok hb'
    obtain ⟨od', J', _⟩ := J'.look
    exact PySem.W.cmp_K (op := .Eq) (tb := .ref C) hr.units0 hF I.ok.mod.kin J J'.type (by simp [PySem.W.notFirst]) hs hf fin
  · obtain ⟨its, rv, ⟨o, h1, h2, _⟩, _⟩ := I.tuple (SqT.of hb')
    have LT : PySem.W.Looks (model X.prog X.w) s.heap (typeOf (.ref b)) (.type "tuple") := fun A Q E s k q => wpAny_typeOf_ref (k _ _ h1) (by rw [h2]; exact q)
    exact PySem.W.cmp_K (op := .Eq) (tb := .type "tuple") hr.units0 hF I.ok.mod.kin J LT hn hs hf fin
/-! ### == of data -/
theorem eqv_ints : ∀ ns ms : List Int, PyData.eqvAll (ns.map PyData.int) (ms.map PyData.int) = decide (ns = ms)
  | [], [] => by simp [PyData.eqvAll]
  | [], m :: ms => by simp [PyData.eqvAll]
  | n :: ns, [] => by simp [PyData.eqvAll]
  | n :: ns, m :: ms => by
    have ih := eqv_ints ns ms
    simp only [List.map_cons, PyData.eqvAll, PyData.eqv, ih]
    by_cases h : n = m
    · by_cases h2 : ns = ms
      · simp [h, h2]
      · simp [h, h2]
    · simp [h]
theorem dp_ints {K : PySem.W.Frag} {H : Hp} : ∀ ns : List Int, DpAll K H (ns.map V.int) (ns.map PyData.int)
  | [] => .nil
  | n :: ns => .cons (.int n) (dp_ints ns)
theorem ints_lay : ∀ ns : List Int, PyData.canLayAll0 (ns.map PyData.int) = true
  | [] => by simp [PyData.canLayAll0]
  | n :: ns => by
    have ih := ints_lay ns
    simp only [List.map_cons, PyData.canLayAll0, ih, PyData.canLay0, Bool.and_self]
theorem ints_depth : ∀ ns : List Int, PyData.depthAll (ns.map PyData.int) ≤ 1
  | [] => by simp [PyData.depthAll]
  | n :: ns => by
    have ih := ints_depth ns
    simp only [List.map_cons, PyData.depthAll, PyData.depth]
    omega
theorem shaped_li (ns : List Int) : SeqAt.shaped (.list (ns.map PyData.int)) = true := by
  have h := ints_depth ns
  show (PyData.canLay0 (.list (ns.map PyData.int)) && decide (PyData.depth (.list (ns.map PyData.int)) ≤ 64)) = true
  rw [Bool.and_eq_true]
  refine ⟨by simp only [PyData.canLay0]; exact ints_lay ns, decide_eq_true ?_⟩
  simp only [PyData.depth]
  omega
theorem shaped_ti (ns : List Int) : SeqAt.shaped (.tuple (ns.map PyData.int)) = true := by
  have h := ints_depth ns
  show (PyData.canLay0 (.tuple (ns.map PyData.int)) && decide (PyData.depth (.tuple (ns.map PyData.int)) ≤ 64)) = true
  rw [Bool.and_eq_true]
  refine ⟨by simp only [PyData.canLay0]; exact ints_lay ns, decide_eq_true ?_⟩
  simp only [PyData.depth]
  omega
theorem eqv_li (ns ms : List Int) : PyData.eqv (.list (ns.map PyData.int)) (.list (ms.map PyData.int)) = decide (ns = ms) := by
  simp only [PyData.eqv]
  exact eqv_ints ns ms
theorem eqv_ti (ns ms : List Int) : PyData.eqv (.tuple (ns.map PyData.int)) (.tuple (ms.map PyData.int)) = decide (ns = ms) := by
  simp only [PyData.eqv]
  exact eqv_ints ns ms
end J

set_option Elab.async false
set_option linter.all false
set_option maxRecDepth 100000
set_option maxHeartbeats 4000000
namespace J
open PySem PySem.Spec PyProof.Rows L2
/-! ### backs that are drawn: the mathematics -/
structure BI (m : Nat) (ns ls : List Int) : Prop where
  len : ns.length = m
  rng : ∀ n ∈ ns, 0 ≤ n ∧ n < (m : Nat)
  inv : ∀ (k : Nat) (b : Int), ns[k]? = some b → ns[b.toNat]? = some (k : Int)
  nd : ls.Nodup
  fx : ∀ z ∈ ls, 0 ≤ z ∧ z < (m : Nat) ∧ ns[z.toNat]? = some z
theorem map_erase {α β : Type} (f : α → β) : ∀ (l : List α) (k : Nat), (l.map f).eraseIdx k = (l.eraseIdx k).map f
  | [], _ => rfl
  | a :: l, 0 => rfl
  | a :: l, k + 1 => by
    show f a :: (l.map f).eraseIdx k = f a :: (l.eraseIdx k).map f
    rw [map_erase f l k]
theorem erase_mem {l : List Int} (nd : l.Nodup) {i : Nat} {a z : Int} (ha : l[i]? = some a) (hz : z ∈ l.eraseIdx i) : z ∈ l ∧ z ≠ a := by
  obtain ⟨j, hj, e⟩ := List.mem_eraseIdx_iff_getElem?.mp hz
  refine ⟨List.mem_of_getElem? e, fun q => hj ?_⟩
  subst q
  exact nd_ix nd e ha
theorem BI.step {m : Nat} {ns ls : List Int} (B : BI m ns ls) {i j : Nat} {a b : Int} (ha : ls[i]? = some a) (hb : (ls.eraseIdx i)[j]? = some b) : BI m ((ns.set a.toNat b).set b.toNat a) ((ls.eraseIdx i).eraseIdx j) := by
  have nd1 : (ls.eraseIdx i).Nodup := B.nd.sublist (List.eraseIdx_sublist ls i)
  obtain ⟨mb, nab⟩ := erase_mem B.nd ha (List.mem_of_getElem? hb)
  have ma := List.mem_of_getElem? ha
  obtain ⟨a0, a1, af⟩ := B.fx a ma
  obtain ⟨b0, b1, bf⟩ := B.fx b mb
  have nt : b.toNat ≠ a.toNat := by omega
  have la : a.toNat < ns.length := by rw [B.len]; omega
  have lb : b.toNat < ns.length := by rw [B.len]; omega
  have get : ∀ k : Nat, ((ns.set a.toNat b).set b.toNat a)[k]? = if b.toNat = k then some a else if a.toNat = k then some b else ns[k]? := fun k => by
    rw [List.getElem?_set]
    split
    · rw [List.length_set, if_pos (by omega)]
    · rw [List.getElem?_set]
      split
      · first
          | rfl
          | rw [if_pos (by omega)]
      · rfl
  refine ⟨by rw [List.length_set, List.length_set]; exact B.len, fun n hn => ?_, fun k c hc => ?_, nd1.sublist (List.eraseIdx_sublist _ j), fun z hz => ?_⟩
  · rcases List.mem_or_eq_of_mem_set hn with hn | rfl
    · rcases List.mem_or_eq_of_mem_set hn with hn | rfl
      · exact B.rng n hn
      · exact ⟨b0, b1⟩
    · exact ⟨a0, a1⟩
  · rw [get] at hc
    split at hc
    · rename_i e
      obtain rfl := Option.some.inj hc
      rw [get, if_neg nt, if_pos rfl]
      congr 1
      omega
    · rename_i e1
      split at hc
      · rename_i e2
        obtain rfl := Option.some.inj hc
        rw [get, if_pos rfl]
        congr 1
        omega
      · rename_i e2
        have q := B.inv k c hc
        rw [get, if_neg, if_neg]
        · exact q
        · intro e
          rw [← e, af] at q
          have := Option.some.inj q
          omega
        · intro e
          rw [← e, bf] at q
          have := Option.some.inj q
          omega
  · obtain ⟨z1, zb⟩ := erase_mem nd1 hb hz
    obtain ⟨z2, za⟩ := erase_mem B.nd ha z1
    obtain ⟨c0, c1, cf⟩ := B.fx z z2
    refine ⟨c0, c1, ?_⟩
    rw [get, if_neg (by omega), if_neg (by omega)]
    exact cf
def idI (m : Nat) : List Int := (List.range m).map fun i => ((i : Nat) : Int)
theorem idI_at {m k : Nat} {b : Int} (h : (idI m)[k]? = some b) : b = k ∧ k < m := by
  unfold idI at h
  rw [List.getElem?_map] at h
  have hk : k < m := by
    have q := (List.getElem?_eq_some_iff.mp (by rw [← List.getElem?_map] at h; exact h)).1
    simpa using q
  rw [List.getElem?_range hk] at h
  exact ⟨(Option.some.inj h).symm, hk⟩
theorem idI_get {m k : Nat} (h : k < m) : (idI m)[k]? = some (k : Int) := by
  unfold idI
  rw [List.getElem?_map, List.getElem?_range h]
  rfl
theorem BI.start (m : Nat) : BI m (idI m) (idI m) := by
  have mem : ∀ n ∈ idI m, 0 ≤ n ∧ n < (m : Nat) := fun n hn => by
    obtain ⟨k, hk⟩ := List.getElem?_of_mem hn
    obtain ⟨rfl, h⟩ := idI_at hk
    omega
  refine ⟨by simp [idI], mem, fun k b hb => ?_, ?_, fun z hz => ?_⟩
  · obtain ⟨rfl, h⟩ := idI_at hb
    exact idI_get (by omega)
  · unfold idI
    exact List.Pairwise.map _ (fun a b (h : a ≠ b) => by omega) List.nodup_range
  · obtain ⟨h1, h2⟩ := mem z hz
    refine ⟨h1, h2, ?_⟩
    rw [idI_get (by omega)]
    congr 1
    omega
theorem rgV_id {m : Int} (h : 0 ≤ m) : rgV 0 m = (idI m.toNat).map V.int := by
  unfold rgV idI
  rw [List.map_map, show m - 0 = m by omega]
  refine List.map_congr_left fun i _ => ?_
  show V.int (0 + (i : Int)) = V.int (i : Int)
  rw [Int.zero_add]
theorem seq_at {i : Int} {n : Nat} (h0 : 0 ≤ i) (h : i < (n : Nat)) : seqIndex? i n = some i.toNat := by
  have h1 : ixN n i = some i.toNat := by
    unfold ixN
    rw [if_pos h0, if_pos h]
  exact (ixN_seq h1).1
theorem ixN_at {i : Int} {n : Nat} (h0 : 0 ≤ i) (h : i < (n : Nat)) : ixN n i = some i.toNat := by
  unfold ixN
  rw [if_pos h0, if_pos h]
abbrev s_Lbacks : Stmt := top 29
theorem sc_Lbacks : FnScope ["_law_hand_here", "_law_many", "_law_backs_here", "_law_left", "_law_k", "_law_one", "_law_other"] ["_law_hand_here", "_law_many"] (defScope s_Lbacks) := ⟨rfl, rfl, rfl, by decide +kernel, rfl, by decide +kernel, by decide +kernel⟩
def spBacks : Sp := fun vs H Q _ => ∃ (h q : Addr) (m : Int), vs = [.ref h, .int m] ∧ 2 ≤ m ∧ m ≤ 4 ∧ Hand H h q ∧ ∀ (ns : List Int) (p : Addr) (H' : Hp), (ns.length : Nat) = m → GoodB ns → But h H H' → H p = none → H' p = some (.lst (ns.map V.int)) → Hand H' h q → Q (.ref p) H'
theorem Hand.h_ne {H : Hp} {h q p : Addr} (x : Hand H h q) (n : H p = none) : h ≠ p ∧ q ≠ p := by
  obtain ⟨cs, i, r, t, e1, e2, _⟩ := x
  exact ⟨ne_of_none e1 n, ne_of_none e2 n⟩
theorem But.put2 {h p : Addr} {H H' : Hp} {o : HO} (B : But h H H') (n : H p = none) : But h H (upd H' p o) := fun b u nb e => by
  rw [upd_ne (ne_of_none e n)]
  exact B b u nb e
section
variable {P : Program} {w : World} {K : PySem.W.Frag} {mg : Str → Option Value} {base : Heap}
theorem ok_Lbacks {f fD : Addr} {fd fdD : FuncData} (F : Fun K "_law_backs" "_law_backs" s_Lbacks f fd) (nli : mg "list" = none) (nl : mg "len" = none) (nr : mg "range" = none)
    (GD : Cal P w K mg base CX0 2 "_law_draw" fD fdD ["_law_hand_here", "_law_many"] spDraw) : FnOk P w K mg base CX0 3 f fd ["_law_hand_here", "_law_many"] spBacks := by
  refine F.ok sc_Lbacks (fun vs H Q E h => ?_) (fun cdv A outer s H vs Q E hr h => ?_)
  · obtain ⟨h, q, m, rfl, _⟩ := h
    rfl
  · obtain ⟨h, q, m, rfl, m2, m4, hh, k⟩ := h
    refine ⟨_, (pss_cons 
  (ps_set (i := 2) sc_Lbacks.nd rfl (Or.inl rfl) (pe_listRg rfl (by rfl) nli (prg_1 (by rfl) nr (pv 1)))) (pss_cons 
  (ps_set (i := 3) sc_Lbacks.nd rfl (Or.inl rfl) (pe_listRg rfl (by rfl) nli (prg_1 (by rfl) nr (pv 1)))) (pss_cons 
  (ps_for PassesOwn.never rfl (pi_range1 (by rfl) nr (pa_cons (pe_op op_fdiv (pv 1) pe_int) pa_nil)) (pg_name (i := 4) sc_Lbacks.nd rfl (Or.inl rfl)) (pss_one 
    (ps_if (pt_cmpR op_eq (pcal GD hr pass0 (pa_cons (pv 0) (pa_cons pe_int pa_nil))) pe_int (nomark _)) (pss_cons 
      (ps_set (i := 5) sc_Lbacks.nd rfl (Or.inl rfl) (pe_bm PySem.F.plainAttrs_list PySem.F.slot_list_pop PySem.F.type_list_pop mt_popAt (pv 3) (pa_cons (pcal GD hr pass0 (pa_cons (pv 0) (pa_cons (pe_callB call_len_seq (by rfl) nl PySem.boot_len (pa_cons (pv 3) pa_nil)) pa_nil))) pa_nil))) (pss_cons 
      (ps_set (i := 6) sc_Lbacks.nd rfl (Or.inl rfl) (pe_bm PySem.F.plainAttrs_list PySem.F.slot_list_pop PySem.F.type_list_pop mt_popAt (pv 3) (pa_cons (pcal GD hr pass0 (pa_cons (pv 0) (pa_cons (pe_callB call_len_seq (by rfl) nl PySem.boot_len (pa_cons (pv 3) pa_nil)) pa_nil))) pa_nil))) (pss_cons 
      (ps_asg (pv 6) (pg_sub (pv 2) (pv 5) set_list)) (pss_one 
      (ps_asg (pv 5) (pg_sub (pv 2) (pv 6) set_list)))))) pss_nil))) (pss_one 
  (ps_ret (pv 2)))))), ?_⟩
    have rg : RgOk 0 m := RgOk.of_le (by omega) (by omega) (by omega) (by omega)
    refine ⟨_, rfl, m, rfl, rg, fun p hp => ?_⟩
    refine ⟨_, rfl, m, rfl, rg, fun l hl => ?_⟩
    rw [rgV_id (by omega)]
    rw [rgV_id (by omega)] at hl
    have npl : p ≠ l := ne_of_none upd_same hl
    have hl0 : H l = none := by
      rw [upd_ne npl.symm] at hl
      exact hl
    obtain ⟨nhp, nqp⟩ := hh.h_ne hp
    obtain ⟨nhl, nql⟩ := hh.h_ne hl0
    refine ⟨_, rfl, _, _, rfl, rfl, ⟨by decide, by decide⟩, _, rfl, by omega, by omega, for_range (lo := 0) (n := (m / 2).toNat) (fun i σ H' => ∃ (ns ls : List Int) (v4 v5 v6 : Option V), σ = [some (.ref h), some (.int m), some (.ref p), some (.ref l), v4, v5, v6] ∧
        BI m.toNat ns ls ∧ m.toNat ≤ ls.length + 2 * i ∧ ls.length ≤ m.toNat ∧ But h H H' ∧ Hand H' h q ∧ H' p = some (.lst (ns.map V.int)) ∧ H' l = some (.lst (ls.map V.int)))
      ⟨idI m.toNat, idI m.toNat, none, none, none, rfl, BI.start _, by simp [idI], by simp [idI], ((But.refl h H).put2 hp).put2 hl0, (hh.put nhp nqp).put nhl nql, by rw [upd_ne npl, upd_same], upd_same⟩ ?_ ?_⟩
    · rintro i σ H1 hi ⟨ns, ls, v4, v5, v6, rfl, B, hc, lsm, b1, h1, ep, el⟩
      have hls : 2 ≤ ls.length := by omega
      refine ⟨_, rfl, h, q, 3, rfl, by decide, by decide, h1, fun v H2 v0 v3 b2 h2 => ⟨rfl, _, rfl, ?_⟩⟩
      refine ifD (fun c => ?_) (fun c => ⟨ns, ls, _, _, _, rfl, B, by omega, lsm, b1.trans b2, h2, b2 _ _ nhp.symm ep, b2 _ _ nhl.symm el⟩)
      have ep2 := b2 _ _ nhp.symm ep
      have el2 := b2 _ _ nhl.symm el
      have lml : (ls.map V.int).length = ls.length := List.length_map _
      refine ⟨_, rfl, .inl ⟨rfl, _, SqL.of el2⟩, _, rfl, _, rfl, l, _, rfl, .inl (SqL.of el2), h, q, _, rfl, by omega, by omega, h2, fun a H3 a0 a1 b3 h3 => ?_⟩
      have ep3 := b3 _ _ nhp.symm ep2
      have el3 := b3 _ _ nhl.symm el2
      rw [lml] at a1
      have hla : a.toNat < ls.length := by omega
      have hA : ls[a.toNat]? = some ls[a.toNat] := List.getElem?_eq_getElem hla
      generalize ls[a.toNat] = x at hA
      refine ⟨l, _, a, a.toNat, .int x, rfl, rfl, el3, by omega, by omega, seq_at a0 (by omega), ints_at hA, ?_⟩
      rw [map_erase]
      have e1 : (upd H3 l (.lst ((ls.eraseIdx a.toNat).map V.int))) l = some (.lst ((ls.eraseIdx a.toNat).map V.int)) := upd_same
      have ep4 : (upd H3 l (.lst ((ls.eraseIdx a.toNat).map V.int))) p = some (.lst (ns.map V.int)) := by rw [upd_ne npl]; exact ep3
      have h4 : Hand (upd H3 l (.lst ((ls.eraseIdx a.toNat).map V.int))) h q := h3.put nhl nql
      have b4 : But h H (upd H3 l (.lst ((ls.eraseIdx a.toNat).map V.int))) := ((b1.trans b2).trans b3).put2 hl0
      have le : (ls.eraseIdx a.toNat).length = ls.length - 1 := by rw [List.length_eraseIdx, if_pos hla]
      have lml2 : ((ls.eraseIdx a.toNat).map V.int).length = ls.length - 1 := by rw [List.length_map, le]
      generalize upd H3 l (.lst ((ls.eraseIdx a.toNat).map V.int)) = H4 at e1 ep4 h4 b4
      refine ⟨_, rfl, .inl ⟨rfl, _, SqL.of e1⟩, _, rfl, _, rfl, l, _, rfl, .inl (SqL.of e1), h, q, _, rfl, by omega, by omega, h4, fun b H5 b0' b1' b5 h5 => ?_⟩
      have ep5 := b5 _ _ nhp.symm ep4
      have el5 := b5 _ _ nhl.symm e1
      rw [lml2] at b1'
      have hlb : b.toNat < (ls.eraseIdx a.toNat).length := by omega
      have hB : (ls.eraseIdx a.toNat)[b.toNat]? = some (ls.eraseIdx a.toNat)[b.toNat] := List.getElem?_eq_getElem hlb
      generalize (ls.eraseIdx a.toNat)[b.toNat] = y at hB
      refine ⟨l, _, b, b.toNat, .int y, rfl, rfl, el5, by omega, by omega, seq_at b0' (by omega), ints_at hB, ?_⟩
      rw [map_erase]
      have B2 := B.step hA hB
      obtain ⟨x0, x1, _⟩ := B.fx x (List.mem_of_getElem? hA)
      obtain ⟨y0, y1, _⟩ := B.fx y (erase_mem B.nd hA (List.mem_of_getElem? hB)).1
      have lns := B.len
      have ep6 : (upd H5 l (.lst (((ls.eraseIdx a.toNat).eraseIdx b.toNat).map V.int))) p = some (.lst (ns.map V.int)) := by rw [upd_ne npl]; exact ep5
      refine ⟨_, rfl, _, rfl, _, rfl, p, _, _, x.toNat, rfl, rfl, ep6, ixN_at x0 (by rw [List.length_map]; omega), ?_⟩
      refine ⟨_, rfl, _, rfl, _, rfl, p, _, _, y.toNat, rfl, rfl, upd_same, ixN_at y0 (by rw [List.length_set, List.length_map]; omega), ?_⟩
      refine ⟨_, _, _, _, _, rfl, B2, ?_, ?_, ?_, ?_, ?_, ?_⟩
      · rw [List.length_eraseIdx, if_pos hlb, le]
        omega
      · rw [List.length_eraseIdx, if_pos hlb, le]
        omega
      · exact (((b4.trans b5).put2 hl0).put2 hp).put2 hp
      · exact (((h5.put nhl nql).put nhp nqp).put nhp nqp)
      · rw [upd_same, List.map_set, List.map_set]
      · rw [upd_ne npl.symm, upd_ne npl.symm, upd_same]
    · rintro σ H1 ⟨ns, ls, v4, v5, v6, rfl, B, hc, lsm, b1, h1, ep, el⟩
      have lns := B.len
      refine ⟨_, rfl, k ns p H1 (by omega) ⟨by omega, by omega, fun n hn => ?_, B.inv⟩ b1 hp ep h1⟩
      have := B.rng n hn
      omega
end
end J

set_option Elab.async false
set_option linter.all false
set_option maxRecDepth 100000
set_option maxHeartbeats 2000000
/-! enumerate over a tuple -/
namespace PySem
open Sem (wp)
open AutoSeq1 (wpAny_loadPart')
abbrev enumO (h : Heap) : Obj := { cls := .type "enumerate", data := .fields #[.none, .bool false, .ref h.objs.size, rawInt 0, .none, .none] }
theorem jMeetsEnum {v : Value} {o : Obj} {H0 : Heap → Prop} (B : Begins v o H0) :
    Meets (Builtin.«enumerate.__new__» ⟨[.type "enumerate", v], []⟩) (fun _ R s => H0 s.heap ∧ R (.ok (.ret (.ref (s.heap.push o).objs.size))) { s with heap := (s.heap.push o).push (enumO s.heap) }) := .of_wp fun prog w A R s h => by
  obtain ⟨hp, g, d, tk, os⟩ := s
  obtain ⟨h1, h⟩ := h
  have hsub := sub_enumerate
  have q1 : ∀ {A' : Around} {E : Value → Shared → Prop} {Q : Value → Shared → Prop}, Q (.ref hp.objs.size) ⟨hp.push o, g, d, tk, os⟩ → wpAny (model prog w) A' (pyIter v) Q E ⟨hp, g, d, tk, os⟩ := fun q => B.iter prog w _ _ ⟨hp, g, d, tk, os⟩ _ h1 q
  wp_walk
  refine wpAny_stack_any fun st => wpAny_pure ?_
  split
  · rename_i c _ _ _ _ _
    cases (c == Value.type "enumerate")
    · wp_walk using q1
      exact ⟨_, rfl, h⟩
    · wp_walk using q1
      exact ⟨_, rfl, h⟩
  · wp_walk using q1
    exact ⟨_, rfl, h⟩
theorem jEnumTup {prog : Program} {w : World} {A : Around} {E : Value → Shared → Prop} {s : Shared} {t : Addr} {items : Array Value} {Q : Value → Shared → Prop} (hT : s.heap.IsTuple t items)
    (h : ∀ h', IsEnum h' (s.heap.objs.size + 1) s.heap.objs.size 0 .none → h'.IsTupleIter s.heap.objs.size t 0 → (∀ b o, s.heap.get? b = some o → h'.get? b = some o) → Q (.ref (s.heap.objs.size + 1)) { s with heap := h' }) :
    wpAny (model prog w) A (call (.type "enumerate") [.ref t]) Q E s := by
  refine callType_new F.called_enumerate (by decide) (F.typeCall_enumerate_1 _) (F.newCall_enumerate_1 _) (fun obj => F.args_object_init_2 obj _) F.entry_enumerate_new (jMeetsEnum (begins_tuple t items)) ⟨hT, ?_⟩
  generalize eo : ({ cls := .type "tuple_iterator", data := .fields #[.ref t, .int 0 0] } : Obj) = o
  have hz : (s.heap.push o).objs.size = s.heap.objs.size + 1 := Heap.size_push ..
  show _ ∧ _
  rw [hz]
  have he : IsEnum ((s.heap.push o).push (enumO s.heap)) (s.heap.objs.size + 1) s.heap.objs.size 0 .none := by
    have q := Heap.get?_push_size (s.heap.push o) (o := enumO s.heap) rfl
    rw [hz] at q
    exact q
  refine ⟨⟨_, he, rfl⟩, h _ he ⟨o, Heap.get?_push_of_some _ (Heap.get?_push_size _ (by subst eo; rfl)), by subst eo; rfl, by subst eo; rfl⟩ fun b ob x => Heap.get?_push_of_some _ (Heap.get?_push_of_some _ x)⟩
end PySem
namespace J
open PySem PySem.Spec PyProof.Rows L2
/-- the tuple at a, its items in new pairs with their places -/
def Itet (K : PySem.W.Frag) (a : Addr) : It :=
  ⟨fun i H => ∃ (xs : List V) (x : V), SqT K H a xs ∧ xs[i]? = some x, fun i H v H' => ∃ T x, v = .ref T ∧ H T = none ∧ H' = upd H T (.tup [.int (i : Nat), x]) ∧ ∀ xs, SqT K H a xs → xs[i]? = some x, fun i H => ∃ xs : List V, SqT K H a xs ∧ xs.length = i⟩
theorem tup_apart {h : Heap} {a e it : Addr} {items : Array Value} {old : Value} {i : Nat} {c : Int} (ht : h.IsTuple a items) (he : IsEnum h e it c old) (hi : h.IsTupleIter it a i) : a ≠ it ∧ a ≠ e := by
  obtain ⟨o, ho, hc, _⟩ := ht
  obtain ⟨o2, ho2, hc2, _⟩ := hi
  refine ⟨fun q => ?_, fun q => ?_⟩
  · rw [q, ho2] at ho
    have := Option.some.inj ho
    subst this
    rw [hc2] at hc
    exact absurd hc (by decide)
  · have he' : h.get? e = _ := he
    rw [q, he'] at ho
    have := Option.some.inj ho
    subst this
    have hc2 : Value.type "enumerate" = Value.type "tuple" := hc
    injection hc2 with z
    exact absurd z (by decide)
theorem turn_enumT {P : Program} {w : World} {K : PySem.W.Frag} {elts : List Expr} {kk : Nat} {tpos : Pos} (a e it : Addr) :
    Turn P w K (.Tuple elts kk tpos) (Itet K a) [e, it] e (fun i h => (∃ old, IsEnum h e it ((i : Nat) : Int) old) ∧ h.IsTupleIter it a i ∧ e ≠ it) where
  mem := by simp
  obj := by
    rintro i h ⟨⟨old, he⟩, ⟨o, ho, hc, hd⟩, _⟩ b hb
    have e' : b = e ∨ b = it := by simpa using hb
    rcases e' with rfl | rfl
    · exact ⟨_, he, fun v q => nomatch q⟩
    · exact ⟨o, ho, fun v q => by rw [hd] at q; cases q⟩
  keep := by
    rintro i h h' ⟨⟨old, he⟩, ⟨o, ho, hr⟩, hne⟩ k
    exact ⟨⟨old, k e (by simp) _ he⟩, ⟨o, k it (by simp) _ ho, hr⟩, hne⟩
  item := by
    intro X hP hw hK hc i pins s σ H E I hf st hg
    subst hP hw hK
    obtain ⟨⟨old, he⟩, hit, hne⟩ := st
    obtain ⟨xs, x, hq, hx⟩ := hg
    obtain ⟨its, rv, p, hz⟩ := I.tuple hq
    obtain ⟨u, hu, ru⟩ := rv.get hx
    have ht : s.heap.IsTuple a its.toArray := p
    obtain ⟨n1, n2⟩ := tup_apart ht he hit
    have hel : e < s.heap.objs.size := Heap.lt_size he
    have hil : it < s.heap.objs.size := by
      obtain ⟨_, q, _⟩ := hit
      exact Heap.lt_size q
    have hlt : i < its.toArray.size := by
      have q := (List.getElem?_eq_some_iff.mp hu).1
      simpa using q
    have D := Draws.tuple (prog := X.prog) (w := X.w) (A := X.A.in1) (I.ok.hd hc) it a n1 its.toArray
    have nin : e ∉ [it, a] := by
      simp only [List.mem_cons, List.not_mem_nil, or_false, not_or]
      exact ⟨hne, fun q => n2 q.symm⟩
    refine wpAny_pyNext_enum_itemD D he ⟨hit, ht⟩ hlt hne nin ?_
    intro u2 h' tk hP ho hst hT hsz hk
    obtain rfl : u = u2 := by
      have q : its.toArray[i]? = some u2 := hP
      have q2 : its.toArray[i]? = some u := by simpa using hu
      rw [q2] at q
      exact Option.some.inj q
    refine ⟨_, rfl, wpAny_letOwnedTupleGo_enum (s := { s with heap := h', toks := tk + 1 }) ho ?_⟩
    intro h2 he2 sb
    have hT2 : h2.get? s.heap.objs.size = some { cls := .type "tuple", data := .seq #[.int i tk, u] } := (sb.2 _ (Nat.ne_of_gt hel)).trans hT
    have new : ObjOk X.prog X.w (upd H s.heap.objs.size (.tup [.int (i : Nat), x])) h2 s.heap.objs.size (.tup [.int (i : Nat), x]) :=
      ⟨by show 2 ≤ sizeLine; decide, [.int i tk, u], .cons ⟨_, rfl⟩ (.cons ru .nil), ⟨_, hT2, rfl, _, rfl⟩⟩
    have kept : ∀ (b : Addr) (ob : Obj), b ∉ [e, it] → s.heap.get? b = some ob → h2.get? b = some ob := fun b ob hb q => by
      have b1 : b ≠ e := fun z => hb (by simp [z])
      have b2 : b ≠ it := fun z => hb (by simp [z])
      exact (sb.2 b b1).trans (hk b ob b1 b2 q)
    have I1 : Inv X pins σ (upd H s.heap.objs.size (.tup [.int (i : Nat), x])) { s with heap := h2, toks := tk + 1 } := I.turnedNew (ch := [e, it]) kept hf (Nat.le_refl _) new
    refine ⟨.ref s.heap.objs.size, _, I1, rfl, ⟨_, x, rfl, I.hok.fresh (Nat.le_refl _), rfl, fun ys hy => by rw [I.tuple_inj hy hq]; exact hx⟩, ⟨⟨u, ?_⟩, hst.1.at fun o q => (sb.2 it (Ne.symm hne)).trans q, hne⟩, fun b hb => ?_⟩
    · have e1 : ((i + 1 : Nat) : Int) = (i : Int) + 1 := by omega
      rw [e1]
      exact he2
    · have hb' : b < s.heap.objs.size := by
        have e' : b = e ∨ b = it := by simpa using hb
        rcases e' with z | z
        · rw [z]
          exact hel
        · rw [z]
          exact hil
      rw [upd_ne (Nat.ne_of_lt hb')]
      exact (hf b hb).1
  done := by
    intro X hP hw hK hc i pins s σ H E I hf st hg
    subst hP hw hK
    obtain ⟨⟨old, he⟩, hit, hne⟩ := st
    obtain ⟨xs, hq, hx⟩ := hg
    obtain ⟨its, rv, p, hz⟩ := I.tuple hq
    have ht : s.heap.IsTuple a its.toArray := p
    obtain ⟨n1, n2⟩ := tup_apart ht he hit
    obtain ⟨f0, f1, f2, f3, f4, f5⟩ := hf it (by simp)
    have D := Draws.tuple (prog := X.prog) (w := X.w) (A := X.A.in1) (I.ok.hd hc) it a n1 its.toArray
    have hn : its.toArray.size = i := by
      have hl := rv.length
      simp
      omega
    refine wpAny_pyNext_enum_endD D he ⟨by rw [hn]; exact hit, ht⟩ ?_
    intro h' eb
    exact ⟨rfl, I.turned (t' := s.toks) (fun b o hb q => eb b o hb q) f0 f1 f3 f4 f5⟩
  self := fun A i s Q E ⟨⟨_, he⟩, _⟩ h => wpAny_pyIter_enum he h
def iEnumT (K : PySem.W.Frag) (ta : TA) : TI := fun σ H R => ta σ H fun vs H1 => ∃ a xs, vs = [.ref a] ∧ SqT K H1 a xs ∧ R (Itet K a) H1
theorem pi_enumT {X : Cx} {e : Expr} {ta : TA} {p pos tpos : Pos} {elts : List Expr} {kk : Nat} (hg : Gl X "enumerate") (hm : X.mg "enumerate" = none) (ha : PA X [e] ta)
    (hs : starEach [e] X.env = [(false, eval e X.env)] := by rfl) : PI X (.Tuple elts kk tpos) (.Call (.Name "enumerate" p) [e] [] pos) (iEnumT X.K ta) := by
  constructor
  intro pins s σ H R I h
  refine Call_ (ld_blt I hg hm boot_enumerate (PyProof.Rows.callWith_type1 (thn (ha.run pos pins s σ H _ I h) ?_) hs rfl))
  rintro us s1 ⟨vs, H1, I1, r1, a, xs, ex, hq, q⟩
  subst ex
  cases r1 with
  | cons r rr =>
    cases rr
    cases r
    obtain ⟨its, rv, p', hz⟩ := I1.tuple hq
    refine jEnumTup (items := its.toArray) p' ?_
    intro h' he hit hk
    refine wpAny_pyIter_enum he ?_
    have I2 : Inv X pins σ H1 { s1 with heap := h' } := I1.kept (t' := s1.toks) hk
    refine ⟨s1.heap.objs.size + 1, [s1.heap.objs.size + 1, s1.heap.objs.size], _, _, H1, rfl, I2, turn_enumT a (s1.heap.objs.size + 1) s1.heap.objs.size, ⟨⟨.none, he⟩, hit, Nat.succ_ne_self _⟩, ?_, q⟩
    intro b hb
    have e' : b = s1.heap.objs.size + 1 ∨ b = s1.heap.objs.size := by simpa using hb
    have hle : s1.heap.objs.size ≤ b := by
      rcases e' with z | z
      · rw [z]
        exact Nat.le_succ _
      · rw [z]
        exact Nat.le_refl _
    exact I1.fpOk hle (I1.hok.fresh hle)
theorem for_enumT {K : PySem.W.Frag} {a : Addr} {xs : List V} {g : TG} {tb : TS} {D : Ends} {σ : L2.St} {H : Hp} (Pv : Nat → L2.St → Hp → Prop) (h0 : Pv 0 σ H) (hl : ∀ i σ H, i ≤ xs.length → Pv i σ H → SqT K H a xs)
    (hs : ∀ i x σ H T, xs[i]? = some x → Pv i σ H → H T = none → g (.ref T) σ (upd H T (.tup [.int (i : Nat), x])) fun σ2 H2 => tb { D with nx := Pv (i + 1), ct := Pv (i + 1), bk := D.nx } σ2 H2) (hd : ∀ σ H, Pv xs.length σ H → D.nx σ H) :
    ∃ W : Nat → Nat → L2.St → Hp → Prop, (∃ m, W 0 m σ H) ∧ ∀ i m σ H, W i m σ H →
      ((Itet K a).stop i H ∧ D.nx σ H) ∨ ((Itet K a).go i H ∧ ∃ N : L2.St → Hp → Prop, (∀ σ' H', N σ' H' → ∃ m', m' < m ∧ W (i + 1) m' σ' H') ∧ ∀ x H', (Itet K a).yld i H x H' → g x σ H' fun σ2 H2 => tb { D with nx := N, ct := N, bk := D.nx } σ2 H2) := by
  refine ⟨fun i m s h => m + i = xs.length ∧ Pv i s h, ⟨xs.length, rfl, h0⟩, ?_⟩
  rintro i m σ H ⟨em, p⟩
  have hi : i ≤ xs.length := by omega
  have q := hl i σ H hi p
  rcases Nat.lt_or_ge i xs.length with hlt | hge
  · refine .inr ⟨⟨xs, xs[i], q, by simp [hlt]⟩, Pv (i + 1), fun σ' H' p' => ⟨m - 1, by omega, by omega, p'⟩, ?_⟩
    rintro x H' ⟨T, y, rfl, hT, rfl, hy⟩
    exact hs i y σ H T (hy xs q) p hT
  · have e : i = xs.length := by omega
    subst e
    exact .inl ⟨⟨xs, q, rfl⟩, hd σ H p⟩
end J

set_option Elab.async false
set_option linter.all false
set_option maxRecDepth 100000
set_option maxHeartbeats 4000000
namespace J
open PySem PySem.Spec PyProof.Rows L2
/-! ### an own error with two fields -/
def spXI2 (C : Addr) (f g : Str) : Sp := fun vs H Q _ => ∃ (a : Addr) (v u : V), vs = [.ref a, v, u] ∧ H a = some (exo a C none) ∧ ∀ dx, H dx = none → dx ≠ a → Q .non (upd (upd (upd H dx (exd dx [(f, v)])) a (exo a C (some dx))) dx (exd dx [(g, u), (f, v)]))
structure Ex2 (P : Program) (w : World) (K : PySem.W.Frag) (mg : Str → Option Value) (base : Heap) (x f g : Str) (C fI : Addr) (fd : FuncData) (ps : List Str) : Prop where
  o : OexC K C
  i : PySem.W.findIn K (.ref C) "__init__" = some (some (.ref fI))
  t : PySem.W.typeIn K (.ref fI) = some (.type "function")
  F : FnOk P w K mg base CX0 1 fI fd ps (spXI2 C f g)
  b : Binds K fd ps []
  m : mg x = some (.ref C)
  xf : XfC K C
  no1 : PySem.W.findIn K (.ref C) f = some none
  no2 : PySem.W.findIn K (.ref C) g = some none
  te : PySem.W.exmOne K (.ref C) (.ref C) = some true
def Tells2 (H : Hp) (C : Addr) (f g : Str) (v u : V) (E : XK) : Prop := ∀ d H', H d = none → Same H H' → H' d = some (.xd [(g, u), (f, v)]) → E (.ref C) (some d) H'
theorem Tells2.mono {H H1 : Hp} {C : Addr} {f g : Str} {v u : V} {E : XK} (h : Tells2 H C f g v u E) (S : Same H H1) : Tells2 H1 C f g v u E := fun d H' n S1 e => h d H' (S.free n) (S.trans S1) e
theorem mkO_of2 {C : Addr} {f g : Str} {v u : V} {H : Hp} {Q : XK} (h : Tells2 H C f g v u Q) : [v, u].length ≤ 1000 ∧ ∀ a, H a = none → spXI2 C f g (.ref a :: ([v, u] ++ [])) (upd H a (exo a C none))
    (fun z H2 => z = .non ∧ ∃ (d : Addr) (fs : List (Str × V)), H2 a = some (exo a C (some d)) ∧ H2 d = some (exd d fs) ∧ H d = none ∧ Q (.ref C) (some d) (upd (del H2 a) d (.xd fs))) (fun _ _ _ => False) := by
  refine ⟨(by show 2 ≤ 1000; decide), fun a ha => ⟨a, v, u, rfl, upd_same, fun dx hdx ne => ⟨rfl, dx, [(g, u), (f, v)], ?_, upd_same, ?_, ?_⟩⟩⟩
  · rw [upd_ne ne.symm, upd_same]
  · rw [upd_ne ne] at hdx
    exact hdx
  · rw [upd_ne ne] at hdx
    refine h _ _ hdx (fun b o e => ?_) upd_same
    have n1 := ne_of_none e hdx
    have n2 := ne_of_none e ha
    rw [upd_ne n1, del_ne n2, upd_ne n1, upd_ne n2, upd_ne n1, upd_ne n2]
    exact e
abbrev s_BadCompany_init : Stmt := inClass (top 5) 0
theorem sc_BadCompany_init : FnScope ["self", "index", "what"] ["self", "index", "what"] (defScope s_BadCompany_init) := ⟨rfl, rfl, rfl, by decide +kernel, rfl, by decide +kernel, by decide +kernel⟩
section
variable {P : Program} {w : World} {K : PySem.W.Frag} {mg : Str → Option Value} {base : Heap}
theorem ok_BadCompany_init {f C : Addr} {fd : FuncData} (F : Fun K "__init__" "BadCompany.__init__" s_BadCompany_init f fd) (o : OexC K C) (no1 : PySem.W.findIn K (.ref C) "index" = some none) (no2 : PySem.W.findIn K (.ref C) "what" = some none) :
    FnOk P w K mg base CX0 1 f fd ["self", "index", "what"] (spXI2 C "index" "what") := by
  refine F.ok sc_BadCompany_init (fun vs H Q E h => ?_) (fun cdv A outer s H vs Q E hr h => ?_)
  · obtain ⟨x, s, u, rfl, _⟩ := h
    rfl
  · obtain ⟨a, v, u, rfl, ha, k⟩ := h
    refine ⟨_, pss_cons (ps_ost (pv 0) (pv 1)) (pss_one (ps_ost (pv 0) (pv 2))), ?_⟩
    refine ⟨_, rfl, _, rfl, a, C, rfl, o, no1, .inl ⟨ha, fun dx hdx ne => ?_⟩⟩
    refine ⟨_, rfl, _, rfl, a, C, rfl, o, no2, .inr ⟨dx, [("index", v)], upd_same, by rw [upd_ne ne, upd_same], (by show 1 ≤ 900; decide), ?_⟩⟩
    exact k dx hdx ne
end
/-! ### a row is judged -/
def rowW (m n : Nat) (s : Sh) : Option Str :=
  if (s.isL || s.isT) = true then
    if (items s).length = n then
      if ∀ x ∈ items s, wholeB x 0 ((m : Nat) - 1) = true then none else some "tie"
    else some "length"
  else some "row"
theorem rowW_row {m n : Nat} {s : Sh} (h : (s.isL || s.isT) = false) : rowW m n s = some ("row" : Str) := by
  unfold rowW
  rw [if_neg (by simp [h])]
theorem rowW_length {m n : Nat} {s : Sh} (h : (s.isL || s.isT) = true) (h2 : (items s).length ≠ n) : rowW m n s = some ("length" : Str) := by
  unfold rowW
  rw [if_pos h, if_neg h2]
theorem rowW_tie {m n : Nat} {s : Sh} {x : V} (h : (s.isL || s.isT) = true) (h2 : (items s).length = n) (hx : x ∈ items s) (e : wholeB x 0 ((m : Nat) - 1) = false) : rowW m n s = some ("tie" : Str) := by
  unfold rowW
  rw [if_pos h, if_pos h2, if_neg]
  intro q
  rw [q x hx] at e
  cases e
theorem rowW_none {m n : Nat} {s : Sh} (h : (s.isL || s.isT) = true) (h2 : (items s).length = n) (ha : ∀ x ∈ items s, wholeB x 0 ((m : Nat) - 1) = true) : rowW m n s = none := by
  unfold rowW
  rw [if_pos h, if_pos h2, if_pos ha]
abbrev s_check_row : Stmt := top 22
theorem sc_check_row : FnScope ["ties", "index", "row", "length", "tie"] ["ties", "index", "row", "length"] (defScope s_check_row) := ⟨rfl, rfl, rfl, by decide +kernel, rfl, by decide +kernel, by decide +kernel⟩
def spRow (C CB : Addr) : Sp := fun vs H Q E => ∃ (t : Addr) (ns : List Int) (j n : Nat) (x : V) (s : Sh), vs = [.ref t, .int (j : Nat), x, .int (n : Nat)] ∧ TiesAt C H t ns ∧ Is H x s ∧ Known H (items s) ∧
  (∀ u, rowW ns.length n s = some u → Tells2 H CB "index" "what" (.int (j : Nat)) (.str u) E) ∧ (rowW ns.length n s = none → ∀ H', Same H H' → Q .non H')
section
variable {P : Program} {w : World} {K : PySem.W.Frag} {mg : Str → Option Value} {base : Heap}
theorem ok_check_row {f C CB fS fH fI : Addr} {fd fdS fdH fdI : FuncData} (F : Fun K "_check_row" "_check_row" s_check_row f fd) (T : TiC K C) (nl : mg "len" = none)
    (GS : Cal P w K mg base CX0 1 "is_sequence" fS fdS ["thing"] spSeq) (GH : Mt P w K mg base CX0 2 C "has" fH fdH ["self", "thing"] (spHas C)) (GB : Ex2 P w K mg base "BadCompany" "index" "what" CB fI fdI ["self", "index", "what"]) :
    FnOk P w K mg base (L2.CX P w) 3 f fd ["ties", "index", "row", "length"] (spRow C CB) := by
  refine F.okX sc_check_row (fun vs H Q E h => ?_) (fun cdv A outer s H vs Q E hr h => ?_)
  · obtain ⟨t, ns, j, n, x, s, rfl, _⟩ := h
    rfl
  · obtain ⟨t, ns, j, n, x, sh, rfl, hT, hx, kn, k1, k2⟩ := h
    have hr2 : Room 2 _ := hr
    cases sh with
    | sc u =>
      refine ⟨_, (pss_cons 
  (ps_if (pt_not (pt_val (pcal GS hr pass0 (pa_cons (pv 2) pa_nil)))) (pss_one (ps_raise rfl (takes_of rfl rfl rfl rfl) (pmk_oex GB.o GB.i GB.t GB.F hr2 GB.b .nil pass0 rfl GB.m (pa_cons (pv 1) (pa_cons pe_str pa_nil))))) pss_nil) (pss_cons 
  (ps_if (pt_cmpR op_ne (pe_callB call_len_seq (by rfl) nl PySem.boot_len (pa_cons (pv 2) pa_nil)) (pv 3) (nomark _)) (pss_one (ps_raise rfl (takes_of rfl rfl rfl rfl) (pmk_oex GB.o GB.i GB.t GB.F hr2 GB.b .nil pass0 rfl GB.m (pa_cons (pv 1) (pa_cons pe_str pa_nil))))) pss_nil) (pss_one 
  (ps_for (passes_of rfl) rfl (pi_list (pv 2)) (pg_name (i := 4) sc_check_row.nd rfl (Or.inl rfl)) (pss_one 
    (ps_if (pt_not (pt_val (pe_meth (pv 0) T.cl GH.M GH.F hr2 GH.b .nil pass0 (pa_cons (pv 4) pa_nil)))) (pss_one (ps_raise rfl (takes_of rfl rfl rfl rfl) (pmk_oex GB.o GB.i GB.t GB.F hr2 GB.b .nil pass0 rfl GB.m (pa_cons (pv 1) (pa_cons pe_str pa_nil))))) pss_nil)))))), ?_⟩
      exact ⟨_, rfl, x, (.sc u), rfl, hx, fun H1 S1 => ⟨_, rfl, iteT ⟨_, rfl, mkO_of2 ((k1 "row" (rowW_row rfl)).mono S1)⟩⟩⟩
    | dk =>
      refine ⟨_, (pss_cons 
  (ps_if (pt_not (pt_val (pcal GS hr pass0 (pa_cons (pv 2) pa_nil)))) (pss_one (ps_raise rfl (takes_of rfl rfl rfl rfl) (pmk_oex GB.o GB.i GB.t GB.F hr2 GB.b .nil pass0 rfl GB.m (pa_cons (pv 1) (pa_cons pe_str pa_nil))))) pss_nil) (pss_cons 
  (ps_if (pt_cmpR op_ne (pe_callB call_len_seq (by rfl) nl PySem.boot_len (pa_cons (pv 2) pa_nil)) (pv 3) (nomark _)) (pss_one (ps_raise rfl (takes_of rfl rfl rfl rfl) (pmk_oex GB.o GB.i GB.t GB.F hr2 GB.b .nil pass0 rfl GB.m (pa_cons (pv 1) (pa_cons pe_str pa_nil))))) pss_nil) (pss_one 
  (ps_for (passes_of rfl) rfl (pi_list (pv 2)) (pg_name (i := 4) sc_check_row.nd rfl (Or.inl rfl)) (pss_one 
    (ps_if (pt_not (pt_val (pe_meth (pv 0) T.cl GH.M GH.F hr2 GH.b .nil pass0 (pa_cons (pv 4) pa_nil)))) (pss_one (ps_raise rfl (takes_of rfl rfl rfl rfl) (pmk_oex GB.o GB.i GB.t GB.F hr2 GB.b .nil pass0 rfl GB.m (pa_cons (pv 1) (pa_cons pe_str pa_nil))))) pss_nil)))))), ?_⟩
      exact ⟨_, rfl, x, .dk, rfl, hx, fun H1 S1 => ⟨_, rfl, iteT ⟨_, rfl, mkO_of2 ((k1 "row" (rowW_row rfl)).mono S1)⟩⟩⟩
    | lst xs =>
      obtain ⟨p, rfl, hp⟩ := hx
      refine ⟨_, (pss_cons 
  (ps_if (pt_not (pt_val (pcal GS hr pass0 (pa_cons (pv 2) pa_nil)))) (pss_one (ps_raise rfl (takes_of rfl rfl rfl rfl) (pmk_oex GB.o GB.i GB.t GB.F hr2 GB.b .nil pass0 rfl GB.m (pa_cons (pv 1) (pa_cons pe_str pa_nil))))) pss_nil) (pss_cons 
  (ps_if (pt_cmpR op_ne (pe_callB call_len_seq (by rfl) nl PySem.boot_len (pa_cons (pv 2) pa_nil)) (pv 3) (nomark _)) (pss_one (ps_raise rfl (takes_of rfl rfl rfl rfl) (pmk_oex GB.o GB.i GB.t GB.F hr2 GB.b .nil pass0 rfl GB.m (pa_cons (pv 1) (pa_cons pe_str pa_nil))))) pss_nil) (pss_one 
  (ps_for (passes_of rfl) rfl (pi_list (pv 2)) (pg_name (i := 4) sc_check_row.nd rfl (Or.inl rfl)) (pss_one 
    (ps_if (pt_not (pt_val (pe_meth (pv 0) T.cl GH.M GH.F hr2 GH.b .nil pass0 (pa_cons (pv 4) pa_nil)))) (pss_one (ps_raise rfl (takes_of rfl rfl rfl rfl) (pmk_oex GB.o GB.i GB.t GB.F hr2 GB.b .nil pass0 rfl GB.m (pa_cons (pv 1) (pa_cons pe_str pa_nil))))) pss_nil)))))), ?_⟩
      refine ⟨_, rfl, _, .lst xs, rfl, ⟨p, rfl, hp⟩, fun H1 S1 => ⟨_, rfl, iteF ?_⟩⟩
      have h1 := S1 _ _ hp
      have hT1 := hT.keep S1
      have kn1 : Known H1 xs := kn.keep S1
      obtain ⟨dx, tt, hx1, ht1⟩ := id hT1
      refine ⟨_, rfl, p, xs, rfl, .inl (SqL.of h1), _, rfl, rfl, _, rfl, ?_⟩
      by_cases c : xs.length = n
      case neg => exact if_tr (by simp; omega) ⟨_, rfl, mkO_of2 ((k1 "length" (rowW_length (s := .lst xs) rfl c)).mono S1)⟩
      refine if_fa (by simp [c]) ⟨_, rfl, p, rfl, ⟨_, SqL.of h1⟩, for_list (K := K) (a := p) (xs := xs) (fun i σ H' => ∃ v4 : Option V, σ = [some (.ref t), some (.int (j : Nat)), some (.ref p), some (.int (n : Nat)), v4] ∧ H' = H1 ∧ ∀ a y, a < i → xs[a]? = some y → wholeB y 0 ((ns.length : Nat) - 1) = true)
        ⟨none, rfl, rfl, fun a y ha => absurd ha (Nat.not_lt_zero a)⟩ (fun i σ H' _ ⟨_, _, e, _⟩ => by rw [e]; exact SqL.of h1) ?_ ?_⟩
      · rintro i y σ H' hy ⟨v4, rfl, rfl, hb⟩
        have hym := List.mem_of_getElem? hy
        obtain ⟨sy, isy⟩ := kn1 y hym
        refine ⟨_, rfl, t, dx, _, rfl, hx1, tf_no _ _ (by decide +kernel) (by decide +kernel), _, rfl, t, ns, y, sy, rfl, hT1, isy, _, rfl, ?_⟩
        cases e : tieB ns y with
        | true =>
          refine iteF ⟨_, rfl, rfl, fun a z ha hz => ?_⟩
          rcases Nat.lt_or_ge a i with hai | hai
          · exact hb a z hai hz
          · obtain rfl : a = i := by omega
            rw [hy] at hz
            rw [← Option.some.inj hz]
            exact e
        | false => exact iteT ⟨_, rfl, mkO_of2 ((k1 "tie" (rowW_tie (s := .lst xs) rfl c hym e)).mono S1)⟩
      · rintro σ H' ⟨v4, rfl, rfl, hb⟩
        refine k2 (rowW_none (s := .lst xs) rfl c fun y hy => ?_) _ S1
        obtain ⟨a, ha⟩ := List.getElem?_of_mem hy
        exact hb a y (List.getElem?_eq_some_iff.mp ha).1 ha
    | tup xs =>
      obtain ⟨p, rfl, hp⟩ := hx
      refine ⟨_, (pss_cons 
  (ps_if (pt_not (pt_val (pcal GS hr pass0 (pa_cons (pv 2) pa_nil)))) (pss_one (ps_raise rfl (takes_of rfl rfl rfl rfl) (pmk_oex GB.o GB.i GB.t GB.F hr2 GB.b .nil pass0 rfl GB.m (pa_cons (pv 1) (pa_cons pe_str pa_nil))))) pss_nil) (pss_cons 
  (ps_if (pt_cmpR op_ne (pe_callB call_len_seq (by rfl) nl PySem.boot_len (pa_cons (pv 2) pa_nil)) (pv 3) (nomark _)) (pss_one (ps_raise rfl (takes_of rfl rfl rfl rfl) (pmk_oex GB.o GB.i GB.t GB.F hr2 GB.b .nil pass0 rfl GB.m (pa_cons (pv 1) (pa_cons pe_str pa_nil))))) pss_nil) (pss_one 
  (ps_for (passes_of rfl) rfl (pi_tup (pv 2)) (pg_name (i := 4) sc_check_row.nd rfl (Or.inl rfl)) (pss_one 
    (ps_if (pt_not (pt_val (pe_meth (pv 0) T.cl GH.M GH.F hr2 GH.b .nil pass0 (pa_cons (pv 4) pa_nil)))) (pss_one (ps_raise rfl (takes_of rfl rfl rfl rfl) (pmk_oex GB.o GB.i GB.t GB.F hr2 GB.b .nil pass0 rfl GB.m (pa_cons (pv 1) (pa_cons pe_str pa_nil))))) pss_nil)))))), ?_⟩
      refine ⟨_, rfl, _, .tup xs, rfl, ⟨p, rfl, hp⟩, fun H1 S1 => ⟨_, rfl, iteF ?_⟩⟩
      have h1 := S1 _ _ hp
      have hT1 := hT.keep S1
      have kn1 : Known H1 xs := kn.keep S1
      obtain ⟨dx, tt, hx1, ht1⟩ := id hT1
      refine ⟨_, rfl, p, xs, rfl, .inr (SqT.of h1), _, rfl, rfl, _, rfl, ?_⟩
      by_cases c : xs.length = n
      case neg => exact if_tr (by simp; omega) ⟨_, rfl, mkO_of2 ((k1 "length" (rowW_length (s := .tup xs) rfl c)).mono S1)⟩
      refine if_fa (by simp [c]) ⟨_, rfl, p, rfl, ⟨_, SqT.of h1⟩, for_tup (K := K) (a := p) (xs := xs) (fun i σ H' => ∃ v4 : Option V, σ = [some (.ref t), some (.int (j : Nat)), some (.ref p), some (.int (n : Nat)), v4] ∧ H' = H1 ∧ ∀ a y, a < i → xs[a]? = some y → wholeB y 0 ((ns.length : Nat) - 1) = true)
        ⟨none, rfl, rfl, fun a y ha => absurd ha (Nat.not_lt_zero a)⟩ (fun i σ H' _ ⟨_, _, e, _⟩ => by rw [e]; exact SqT.of h1) ?_ ?_⟩
      · rintro i y σ H' hy ⟨v4, rfl, rfl, hb⟩
        have hym := List.mem_of_getElem? hy
        obtain ⟨sy, isy⟩ := kn1 y hym
        refine ⟨_, rfl, t, dx, _, rfl, hx1, tf_no _ _ (by decide +kernel) (by decide +kernel), _, rfl, t, ns, y, sy, rfl, hT1, isy, _, rfl, ?_⟩
        cases e : tieB ns y with
        | true =>
          refine iteF ⟨_, rfl, rfl, fun a z ha hz => ?_⟩
          rcases Nat.lt_or_ge a i with hai | hai
          · exact hb a z hai hz
          · obtain rfl : a = i := by omega
            rw [hy] at hz
            rw [← Option.some.inj hz]
            exact e
        | false => exact iteT ⟨_, rfl, mkO_of2 ((k1 "tie" (rowW_tie (s := .tup xs) rfl c hym e)).mono S1)⟩
      · rintro σ H' ⟨v4, rfl, rfl, hb⟩
        refine k2 (rowW_none (s := .tup xs) rfl c fun y hy => ?_) _ S1
        obtain ⟨a, ha⟩ := List.getElem?_of_mem hy
        exact hb a y (List.getElem?_eq_some_iff.mp ha).1 ha
end
end J

set_option Elab.async false
set_option linter.all false
set_option maxRecDepth 100000
set_option maxHeartbeats 4000000
namespace J
open PySem PySem.Spec PyProof.Rows L2
/-! ### a company is judged -/
/-- the first place at which a word is due -/
def scan (f : Nat → Option Str) : Nat → Option (Nat × Str)
  | 0 => none
  | n + 1 => match scan f n with
    | some r => some r
    | none => (f n).map fun w => (n, w)
theorem scan_none {f : Nat → Option Str} : ∀ {n : Nat}, (∀ j, j < n → f j = none) → scan f n = none
  | 0, _ => rfl
  | n + 1, h => by
    have ih := scan_none (n := n) fun j hj => h j (by omega)
    show (match scan f n with | some r => some r | none => (f n).map fun w => (n, w)) = none
    rw [ih, h n (by omega)]
    rfl
theorem scan_some {f : Nat → Option Str} {j : Nat} {w : Str} (h : ∀ i, i < j → f i = none) (e : f j = some w) : ∀ {n : Nat}, j < n → scan f n = some (j, w)
  | 0, hj => absurd hj (Nat.not_lt_zero j)
  | n + 1, hj => by
    show (match scan f n with | some r => some r | none => (f n).map fun w => (n, w)) = some (j, w)
    rcases Nat.lt_or_ge j n with hl | hl
    · rw [scan_some h e hl]
    · obtain rfl : j = n := by omega
      rw [scan_none h, e]
      rfl
/-- the word due at place j of the guests -/
def ordB (gs : List V) (j : Nat) : Bool := match gs[j - 1]?, gs[j]? with
  | some (.int a), some (.int b) => decide (0 < j) && decide (b ≤ a)
  | _, _ => false
def wordC (m : Nat) (gs : List V) (ss : List Sh) (j : Nat) : Option Str :=
  match gs[j]? with
  | none => none
  | some x =>
    if wholeB x 0 1000000000 = true then
      if ordB gs j = true then some "order"
      else match ss[j]? with
        | none => some "row"
        | some s => rowW m j s
    else some "label"
def dueC (m : Nat) (g r : Sh) (ss : List Sh) : Option (Int × Str) :=
  if ((g.isL || g.isT) && (r.isL || r.isT)) = true then
    if (items g).length ≤ 60 then
      match scan (wordC m (items g) ss) (items g).length with
      | some (j, w) => some ((j : Nat), w)
      | none => if (items g).length < (items r).length then some (((items g).length : Nat), "rows") else none
    else some (60, "many")
  else some (0, "sequence")
/-- the shapes of the rows -/
def ShAll (H : Hp) : List V → List Sh → Prop := Paired fun x s => Is H x s ∧ Known H (items s)
theorem ShAll.keep {H H' : Hp} (S : Same H H') : ∀ {xs : List V} {ss : List Sh}, ShAll H xs ss → ShAll H' xs ss
  | _, _, .nil => .nil
  | _, _, .cons h t => .cons ⟨h.1.keep S, h.2.keep S⟩ (ShAll.keep S t)
theorem ShAll.at_ {H : Hp} : ∀ {xs : List V} {ss : List Sh} {j : Nat} {x : V}, ShAll H xs ss → xs[j]? = some x → ∃ s, ss[j]? = some s ∧ Is H x s ∧ Known H (items s)
  | _, _, _, _, .nil, e => by simp at e
  | _, _, 0, _, .cons h _, e => by
    simp at e
    subst e
    exact ⟨_, rfl, h⟩
  | _, _, j + 1, x, .cons _ t, e => by
    obtain ⟨s, a, b⟩ := ShAll.at_ (j := j) (x := x) t (by simpa using e)
    exact ⟨s, by simpa using a, b⟩
theorem ShAll.len {H : Hp} {xs : List V} {ss : List Sh} (h : ShAll H xs ss) : xs.length = ss.length := Paired.length h
theorem due_seq {m : Nat} {g r : Sh} {ss : List Sh} (h : ((g.isL || g.isT) && (r.isL || r.isT)) = false) : dueC m g r ss = some ((0 : Int), ("sequence" : Str)) := by
  unfold dueC
  rw [if_neg (by simp [h])]
theorem due_many {m : Nat} {g r : Sh} {ss : List Sh} (h : ((g.isL || g.isT) && (r.isL || r.isT)) = true) (h2 : 60 < (items g).length) : dueC m g r ss = some ((60 : Int), ("many" : Str)) := by
  unfold dueC
  rw [if_pos h, if_neg (by omega)]
theorem due_word {m : Nat} {g r : Sh} {ss : List Sh} {j : Nat} {u : Str} (h : ((g.isL || g.isT) && (r.isL || r.isT)) = true) (h2 : (items g).length ≤ 60) (hb : ∀ i, i < j → wordC m (items g) ss i = none) (e : wordC m (items g) ss j = some u) (hj : j < (items g).length) :
    dueC m g r ss = some (((j : Nat) : Int), u) := by
  unfold dueC
  rw [if_pos h, if_pos h2, scan_some hb e hj]
theorem due_rows {m : Nat} {g r : Sh} {ss : List Sh} (h : ((g.isL || g.isT) && (r.isL || r.isT)) = true) (h2 : (items g).length ≤ 60) (hb : ∀ i, i < (items g).length → wordC m (items g) ss i = none) (h3 : (items g).length < (items r).length) :
    dueC m g r ss = some ((((items g).length : Nat) : Int), ("rows" : Str)) := by
  unfold dueC
  rw [if_pos h, if_pos h2, scan_none hb]
  show (if (items g).length < (items r).length then _ else _) = _
  rw [if_pos h3]
theorem due_ok {m : Nat} {g r : Sh} {ss : List Sh} (h : ((g.isL || g.isT) && (r.isL || r.isT)) = true) (h2 : (items g).length ≤ 60) (hb : ∀ i, i < (items g).length → wordC m (items g) ss i = none) (h3 : ¬ (items g).length < (items r).length) : dueC m g r ss = none := by
  unfold dueC
  rw [if_pos h, if_pos h2, scan_none hb]
  show (if (items g).length < (items r).length then _ else _) = _
  rw [if_neg h3]
theorem word_label {m j : Nat} {gs : List V} {ss : List Sh} {x : V} (h : gs[j]? = some x) (e : wholeB x 0 1000000000 = false) : wordC m gs ss j = some ("label" : Str) := by
  unfold wordC
  rw [h]
  show (if wholeB x 0 1000000000 = true then _ else _) = _
  rw [if_neg (by simp [e])]
theorem word_order {m j : Nat} {gs : List V} {ss : List Sh} {x : V} (h : gs[j]? = some x) (e : wholeB x 0 1000000000 = true) (o : ordB gs j = true) : wordC m gs ss j = some ("order" : Str) := by
  unfold wordC
  rw [h]
  show (if wholeB x 0 1000000000 = true then _ else _) = _
  rw [if_pos e, if_pos o]
theorem word_norow {m j : Nat} {gs : List V} {ss : List Sh} {x : V} (h : gs[j]? = some x) (e : wholeB x 0 1000000000 = true) (o : ordB gs j = false) (n : ss[j]? = none) : wordC m gs ss j = some ("row" : Str) := by
  unfold wordC
  rw [h]
  show (if wholeB x 0 1000000000 = true then _ else _) = _
  rw [if_pos e, if_neg (by simp [o]), n]
theorem word_row {m j : Nat} {gs : List V} {ss : List Sh} {x : V} {s : Sh} (h : gs[j]? = some x) (e : wholeB x 0 1000000000 = true) (o : ordB gs j = false) (n : ss[j]? = some s) : wordC m gs ss j = rowW m j s := by
  unfold wordC
  rw [h]
  show (if wholeB x 0 1000000000 = true then _ else _) = _
  rw [if_pos e, if_neg (by simp [o]), n]
theorem ord_ints {gs : List V} {j : Nat} {a b : Int} (h1 : gs[j]? = some (.int a)) (h2 : gs[j + 1]? = some (.int b)) : ordB gs (j + 1) = decide (b ≤ a) := by
  unfold ordB
  rw [show j + 1 - 1 = j by omega, h1, h2]
  show (decide (0 < j + 1) && decide (b ≤ a)) = _
  rw [decide_eq_true (by omega), Bool.true_and]
theorem ord_zero {gs : List V} : ordB gs 0 = false := by
  unfold ordB
  split
  · rfl
  · rfl
abbrev s_check_company : Stmt := top 21
theorem sc_check_company : FnScope ["ties", "guests", "rows", "index", "label"] ["ties", "guests", "rows"] (defScope s_check_company) := ⟨rfl, rfl, rfl, by decide +kernel, rfl, by decide +kernel, by decide +kernel⟩
def spCC (C CB : Addr) : Sp := fun vs H Q E => ∃ (t : Addr) (ns : List Int) (g r : V) (sg sr : Sh) (ss : List Sh), vs = [.ref t, g, r] ∧ TiesAt C H t ns ∧ Is H g sg ∧ Known H (items sg) ∧ Is H r sr ∧ ShAll H (items sr) ss ∧ (items sg).length ≤ 1000 ∧
  (∀ i u, dueC ns.length sg sr ss = some (i, u) → Tells2 H CB "index" "what" (.int i) (.str u) E) ∧ (dueC ns.length sg sr ss = none → ∀ H', Same H H' → Q .non H')
section
variable {P : Program} {w : World} {K : PySem.W.Frag} {mg : Str → Option Value} {base : Heap}
theorem ok_check_company {f C CB fS fL fR fI : Addr} {fd fdS fdL fdR fdI : FuncData} (F : Fun K "_check_company" "_check_company" s_check_company f fd) (nl : mg "len" = none) (ne : mg "enumerate" = none) (mG : ∃ t, mg "MOST_GUESTS" = some (.int 60 t))
    (GS : Cal P w K mg base CX0 1 "is_sequence" fS fdS ["thing"] spSeq) (GL : Cal P w K mg base CX0 2 "is_label" fL fdL ["thing"] spLabel) (GR : Cal P w K mg base (L2.CX P w) 3 "_check_row" fR fdR ["ties", "index", "row", "length"] (spRow C CB)) (GB : Ex2 P w K mg base "BadCompany" "index" "what" CB fI fdI ["self", "index", "what"]) :
    FnOk P w K mg base (L2.CX P w) 4 f fd ["ties", "guests", "rows"] (spCC C CB) := by
  obtain ⟨tG, mG⟩ := mG
  refine F.okX sc_check_company (fun vs H Q E h => ?_) (fun cdv A outer s H vs Q E hr h => ?_)
  · obtain ⟨t, ns, g, r, sg, sr, ss, rfl, _⟩ := h
    rfl
  · obtain ⟨t, ns, g, r, sg, sr, ss, rfl, hT, hg, kg, hrr, hs, lg, k1, k2⟩ := h
    have hr2 : Room 2 _ := hr.mono (by decide)
    cases sg with
    | sc u =>
      refine ⟨_, (pss_cons 
  (ps_if (PW.pt (pw_or (pt_not (pt_val (pcal GS hr pass0 (pa_cons (pv 1) pa_nil)))) (pw_or1 (pt_not (pt_val (pcal GS hr pass0 (pa_cons (pv 2) pa_nil))))))) (pss_one (ps_raise rfl (takes_of rfl rfl rfl rfl) (pmk_oex GB.o GB.i GB.t GB.F hr2 GB.b .nil pass0 rfl GB.m (pa_cons pe_int (pa_cons pe_str pa_nil))))) pss_nil) (pss_cons 
  (ps_if (pt_cmpR op_gt (pe_callB call_len_seq (by rfl) nl PySem.boot_len (pa_cons (pv 1) pa_nil)) (pe_glob (v := .int 60) rfl mG ⟨_, rfl⟩) (nomark _)) (pss_one (ps_raise rfl (takes_of rfl rfl rfl rfl) (pmk_oex GB.o GB.i GB.t GB.F hr2 GB.b .nil pass0 rfl GB.m (pa_cons (pe_glob (v := .int 60) rfl mG ⟨_, rfl⟩) (pa_cons pe_str pa_nil))))) pss_nil) (pss_cons 
  (ps_for (passes_of rfl) rfl (pi_enum (by rfl) ne (pa_cons (pv 1) pa_nil)) (pg_tup (by rfl) (pgs_cons (pg_name (i := 3) sc_check_company.nd rfl (Or.inl rfl)) (pgs_cons (pg_name (i := 4) sc_check_company.nd rfl (Or.inl rfl)) pgs_nil))) (pss_cons 
    (ps_if (pt_not (pt_val (pcal GL hr pass0 (pa_cons (pv 4) pa_nil)))) (pss_one (ps_raise rfl (takes_of rfl rfl rfl rfl) (pmk_oex GB.o GB.i GB.t GB.F hr2 GB.b .nil pass0 rfl GB.m (pa_cons (pv 3) (pa_cons pe_str pa_nil))))) pss_nil) (pss_cons 
    (ps_if (PW.pt (pw_and (pt_cmpR op_gt (pv 3) pe_int (nomark _)) (pw_and1 (pt_cmpR op_le (pv 4) (pe_ix ix_list (pv 1) (pe_op op_sub (pv 3) pe_int) (fun _ _ => rfl)) (nomark _))))) (pss_one (ps_raise rfl (takes_of rfl rfl rfl rfl) (pmk_oex GB.o GB.i GB.t GB.F hr2 GB.b .nil pass0 rfl GB.m (pa_cons (pv 3) (pa_cons pe_str pa_nil))))) pss_nil) (pss_cons 
    (ps_if (pt_cmpR op_ge (pv 3) (pe_callB call_len_seq (by rfl) nl PySem.boot_len (pa_cons (pv 2) pa_nil)) (nomark _)) (pss_one (ps_raise rfl (takes_of rfl rfl rfl rfl) (pmk_oex GB.o GB.i GB.t GB.F hr2 GB.b .nil pass0 rfl GB.m (pa_cons (pv 3) (pa_cons pe_str pa_nil))))) pss_nil) (pss_one 
    (ps_expr (pcal GR hr (passes_call (takes_of rfl rfl rfl rfl) (fun _ _ _ _ h => h)) (pa_cons (pv 0) (pa_cons (pv 3) (pa_cons (pe_ix ix_list (pv 2) (pv 3) (fun _ _ => rfl)) (pa_cons (pv 3) pa_nil))))))))))) (pss_one 
  (ps_if (pt_cmpR op_gt (pe_callB call_len_seq (by rfl) nl PySem.boot_len (pa_cons (pv 2) pa_nil)) (pe_callB call_len_seq (by rfl) nl PySem.boot_len (pa_cons (pv 1) pa_nil)) (nomark _)) (pss_one (ps_raise rfl (takes_of rfl rfl rfl rfl) (pmk_oex GB.o GB.i GB.t GB.F hr2 GB.b .nil pass0 rfl GB.m (pa_cons (pe_callB call_len_seq (by rfl) nl PySem.boot_len (pa_cons (pv 1) pa_nil)) (pa_cons pe_str pa_nil))))) pss_nil))))), ?_⟩
      exact ⟨_, rfl, g, (.sc u), rfl, hg, fun H1 S1 => ⟨_, rfl, iteT (iteT (mkO_of2 ((k1 0 "sequence" (due_seq rfl)).mono S1)))⟩⟩
    | dk =>
      refine ⟨_, (pss_cons 
  (ps_if (PW.pt (pw_or (pt_not (pt_val (pcal GS hr pass0 (pa_cons (pv 1) pa_nil)))) (pw_or1 (pt_not (pt_val (pcal GS hr pass0 (pa_cons (pv 2) pa_nil))))))) (pss_one (ps_raise rfl (takes_of rfl rfl rfl rfl) (pmk_oex GB.o GB.i GB.t GB.F hr2 GB.b .nil pass0 rfl GB.m (pa_cons pe_int (pa_cons pe_str pa_nil))))) pss_nil) (pss_cons 
  (ps_if (pt_cmpR op_gt (pe_callB call_len_seq (by rfl) nl PySem.boot_len (pa_cons (pv 1) pa_nil)) (pe_glob (v := .int 60) rfl mG ⟨_, rfl⟩) (nomark _)) (pss_one (ps_raise rfl (takes_of rfl rfl rfl rfl) (pmk_oex GB.o GB.i GB.t GB.F hr2 GB.b .nil pass0 rfl GB.m (pa_cons (pe_glob (v := .int 60) rfl mG ⟨_, rfl⟩) (pa_cons pe_str pa_nil))))) pss_nil) (pss_cons 
  (ps_for (passes_of rfl) rfl (pi_enum (by rfl) ne (pa_cons (pv 1) pa_nil)) (pg_tup (by rfl) (pgs_cons (pg_name (i := 3) sc_check_company.nd rfl (Or.inl rfl)) (pgs_cons (pg_name (i := 4) sc_check_company.nd rfl (Or.inl rfl)) pgs_nil))) (pss_cons 
    (ps_if (pt_not (pt_val (pcal GL hr pass0 (pa_cons (pv 4) pa_nil)))) (pss_one (ps_raise rfl (takes_of rfl rfl rfl rfl) (pmk_oex GB.o GB.i GB.t GB.F hr2 GB.b .nil pass0 rfl GB.m (pa_cons (pv 3) (pa_cons pe_str pa_nil))))) pss_nil) (pss_cons 
    (ps_if (PW.pt (pw_and (pt_cmpR op_gt (pv 3) pe_int (nomark _)) (pw_and1 (pt_cmpR op_le (pv 4) (pe_ix ix_list (pv 1) (pe_op op_sub (pv 3) pe_int) (fun _ _ => rfl)) (nomark _))))) (pss_one (ps_raise rfl (takes_of rfl rfl rfl rfl) (pmk_oex GB.o GB.i GB.t GB.F hr2 GB.b .nil pass0 rfl GB.m (pa_cons (pv 3) (pa_cons pe_str pa_nil))))) pss_nil) (pss_cons 
    (ps_if (pt_cmpR op_ge (pv 3) (pe_callB call_len_seq (by rfl) nl PySem.boot_len (pa_cons (pv 2) pa_nil)) (nomark _)) (pss_one (ps_raise rfl (takes_of rfl rfl rfl rfl) (pmk_oex GB.o GB.i GB.t GB.F hr2 GB.b .nil pass0 rfl GB.m (pa_cons (pv 3) (pa_cons pe_str pa_nil))))) pss_nil) (pss_one 
    (ps_expr (pcal GR hr (passes_call (takes_of rfl rfl rfl rfl) (fun _ _ _ _ h => h)) (pa_cons (pv 0) (pa_cons (pv 3) (pa_cons (pe_ix ix_list (pv 2) (pv 3) (fun _ _ => rfl)) (pa_cons (pv 3) pa_nil))))))))))) (pss_one 
  (ps_if (pt_cmpR op_gt (pe_callB call_len_seq (by rfl) nl PySem.boot_len (pa_cons (pv 2) pa_nil)) (pe_callB call_len_seq (by rfl) nl PySem.boot_len (pa_cons (pv 1) pa_nil)) (nomark _)) (pss_one (ps_raise rfl (takes_of rfl rfl rfl rfl) (pmk_oex GB.o GB.i GB.t GB.F hr2 GB.b .nil pass0 rfl GB.m (pa_cons (pe_callB call_len_seq (by rfl) nl PySem.boot_len (pa_cons (pv 1) pa_nil)) (pa_cons pe_str pa_nil))))) pss_nil))))), ?_⟩
      exact ⟨_, rfl, g, .dk, rfl, hg, fun H1 S1 => ⟨_, rfl, iteT (iteT (mkO_of2 ((k1 0 "sequence" (due_seq rfl)).mono S1)))⟩⟩
    | lst gs =>
      cases sr with
      | sc u =>
        obtain ⟨pg, rfl, hp⟩ := hg
        refine ⟨_, (pss_cons 
    (ps_if (PW.pt (pw_or (pt_not (pt_val (pcal GS hr pass0 (pa_cons (pv 1) pa_nil)))) (pw_or1 (pt_not (pt_val (pcal GS hr pass0 (pa_cons (pv 2) pa_nil))))))) (pss_one (ps_raise rfl (takes_of rfl rfl rfl rfl) (pmk_oex GB.o GB.i GB.t GB.F hr2 GB.b .nil pass0 rfl GB.m (pa_cons pe_int (pa_cons pe_str pa_nil))))) pss_nil) (pss_cons 
    (ps_if (pt_cmpR op_gt (pe_callB call_len_seq (by rfl) nl PySem.boot_len (pa_cons (pv 1) pa_nil)) (pe_glob (v := .int 60) rfl mG ⟨_, rfl⟩) (nomark _)) (pss_one (ps_raise rfl (takes_of rfl rfl rfl rfl) (pmk_oex GB.o GB.i GB.t GB.F hr2 GB.b .nil pass0 rfl GB.m (pa_cons (pe_glob (v := .int 60) rfl mG ⟨_, rfl⟩) (pa_cons pe_str pa_nil))))) pss_nil) (pss_cons 
    (ps_for (passes_of rfl) rfl (pi_enum (by rfl) ne (pa_cons (pv 1) pa_nil)) (pg_tup (by rfl) (pgs_cons (pg_name (i := 3) sc_check_company.nd rfl (Or.inl rfl)) (pgs_cons (pg_name (i := 4) sc_check_company.nd rfl (Or.inl rfl)) pgs_nil))) (pss_cons 
      (ps_if (pt_not (pt_val (pcal GL hr pass0 (pa_cons (pv 4) pa_nil)))) (pss_one (ps_raise rfl (takes_of rfl rfl rfl rfl) (pmk_oex GB.o GB.i GB.t GB.F hr2 GB.b .nil pass0 rfl GB.m (pa_cons (pv 3) (pa_cons pe_str pa_nil))))) pss_nil) (pss_cons 
      (ps_if (PW.pt (pw_and (pt_cmpR op_gt (pv 3) pe_int (nomark _)) (pw_and1 (pt_cmpR op_le (pv 4) (pe_ix ix_list (pv 1) (pe_op op_sub (pv 3) pe_int) (fun _ _ => rfl)) (nomark _))))) (pss_one (ps_raise rfl (takes_of rfl rfl rfl rfl) (pmk_oex GB.o GB.i GB.t GB.F hr2 GB.b .nil pass0 rfl GB.m (pa_cons (pv 3) (pa_cons pe_str pa_nil))))) pss_nil) (pss_cons 
      (ps_if (pt_cmpR op_ge (pv 3) (pe_callB call_len_seq (by rfl) nl PySem.boot_len (pa_cons (pv 2) pa_nil)) (nomark _)) (pss_one (ps_raise rfl (takes_of rfl rfl rfl rfl) (pmk_oex GB.o GB.i GB.t GB.F hr2 GB.b .nil pass0 rfl GB.m (pa_cons (pv 3) (pa_cons pe_str pa_nil))))) pss_nil) (pss_one 
      (ps_expr (pcal GR hr (passes_call (takes_of rfl rfl rfl rfl) (fun _ _ _ _ h => h)) (pa_cons (pv 0) (pa_cons (pv 3) (pa_cons (pe_ix ix_list (pv 2) (pv 3) (fun _ _ => rfl)) (pa_cons (pv 3) pa_nil))))))))))) (pss_one 
    (ps_if (pt_cmpR op_gt (pe_callB call_len_seq (by rfl) nl PySem.boot_len (pa_cons (pv 2) pa_nil)) (pe_callB call_len_seq (by rfl) nl PySem.boot_len (pa_cons (pv 1) pa_nil)) (nomark _)) (pss_one (ps_raise rfl (takes_of rfl rfl rfl rfl) (pmk_oex GB.o GB.i GB.t GB.F hr2 GB.b .nil pass0 rfl GB.m (pa_cons (pe_callB call_len_seq (by rfl) nl PySem.boot_len (pa_cons (pv 1) pa_nil)) (pa_cons pe_str pa_nil))))) pss_nil))))), ?_⟩
        exact ⟨_, rfl, _, Sh.lst gs, rfl, ⟨pg, rfl, hp⟩, fun H1 S1 => ⟨_, rfl, iteF ⟨_, rfl, r, (.sc u), rfl, hrr.keep S1, fun H2 S2 => ⟨_, rfl, iteT (mkO_of2 ((k1 0 "sequence" (due_seq rfl)).mono (S1.trans S2)))⟩⟩⟩⟩
      | dk =>
        obtain ⟨pg, rfl, hp⟩ := hg
        refine ⟨_, (pss_cons 
    (ps_if (PW.pt (pw_or (pt_not (pt_val (pcal GS hr pass0 (pa_cons (pv 1) pa_nil)))) (pw_or1 (pt_not (pt_val (pcal GS hr pass0 (pa_cons (pv 2) pa_nil))))))) (pss_one (ps_raise rfl (takes_of rfl rfl rfl rfl) (pmk_oex GB.o GB.i GB.t GB.F hr2 GB.b .nil pass0 rfl GB.m (pa_cons pe_int (pa_cons pe_str pa_nil))))) pss_nil) (pss_cons 
    (ps_if (pt_cmpR op_gt (pe_callB call_len_seq (by rfl) nl PySem.boot_len (pa_cons (pv 1) pa_nil)) (pe_glob (v := .int 60) rfl mG ⟨_, rfl⟩) (nomark _)) (pss_one (ps_raise rfl (takes_of rfl rfl rfl rfl) (pmk_oex GB.o GB.i GB.t GB.F hr2 GB.b .nil pass0 rfl GB.m (pa_cons (pe_glob (v := .int 60) rfl mG ⟨_, rfl⟩) (pa_cons pe_str pa_nil))))) pss_nil) (pss_cons 
    (ps_for (passes_of rfl) rfl (pi_enum (by rfl) ne (pa_cons (pv 1) pa_nil)) (pg_tup (by rfl) (pgs_cons (pg_name (i := 3) sc_check_company.nd rfl (Or.inl rfl)) (pgs_cons (pg_name (i := 4) sc_check_company.nd rfl (Or.inl rfl)) pgs_nil))) (pss_cons 
      (ps_if (pt_not (pt_val (pcal GL hr pass0 (pa_cons (pv 4) pa_nil)))) (pss_one (ps_raise rfl (takes_of rfl rfl rfl rfl) (pmk_oex GB.o GB.i GB.t GB.F hr2 GB.b .nil pass0 rfl GB.m (pa_cons (pv 3) (pa_cons pe_str pa_nil))))) pss_nil) (pss_cons 
      (ps_if (PW.pt (pw_and (pt_cmpR op_gt (pv 3) pe_int (nomark _)) (pw_and1 (pt_cmpR op_le (pv 4) (pe_ix ix_list (pv 1) (pe_op op_sub (pv 3) pe_int) (fun _ _ => rfl)) (nomark _))))) (pss_one (ps_raise rfl (takes_of rfl rfl rfl rfl) (pmk_oex GB.o GB.i GB.t GB.F hr2 GB.b .nil pass0 rfl GB.m (pa_cons (pv 3) (pa_cons pe_str pa_nil))))) pss_nil) (pss_cons 
      (ps_if (pt_cmpR op_ge (pv 3) (pe_callB call_len_seq (by rfl) nl PySem.boot_len (pa_cons (pv 2) pa_nil)) (nomark _)) (pss_one (ps_raise rfl (takes_of rfl rfl rfl rfl) (pmk_oex GB.o GB.i GB.t GB.F hr2 GB.b .nil pass0 rfl GB.m (pa_cons (pv 3) (pa_cons pe_str pa_nil))))) pss_nil) (pss_one 
      (ps_expr (pcal GR hr (passes_call (takes_of rfl rfl rfl rfl) (fun _ _ _ _ h => h)) (pa_cons (pv 0) (pa_cons (pv 3) (pa_cons (pe_ix ix_list (pv 2) (pv 3) (fun _ _ => rfl)) (pa_cons (pv 3) pa_nil))))))))))) (pss_one 
    (ps_if (pt_cmpR op_gt (pe_callB call_len_seq (by rfl) nl PySem.boot_len (pa_cons (pv 2) pa_nil)) (pe_callB call_len_seq (by rfl) nl PySem.boot_len (pa_cons (pv 1) pa_nil)) (nomark _)) (pss_one (ps_raise rfl (takes_of rfl rfl rfl rfl) (pmk_oex GB.o GB.i GB.t GB.F hr2 GB.b .nil pass0 rfl GB.m (pa_cons (pe_callB call_len_seq (by rfl) nl PySem.boot_len (pa_cons (pv 1) pa_nil)) (pa_cons pe_str pa_nil))))) pss_nil))))), ?_⟩
        exact ⟨_, rfl, _, Sh.lst gs, rfl, ⟨pg, rfl, hp⟩, fun H1 S1 => ⟨_, rfl, iteF ⟨_, rfl, r, .dk, rfl, hrr.keep S1, fun H2 S2 => ⟨_, rfl, iteT (mkO_of2 ((k1 0 "sequence" (due_seq rfl)).mono (S1.trans S2)))⟩⟩⟩⟩
      | lst rs =>
        obtain ⟨pg, rfl, hp⟩ := hg
        obtain ⟨pr, rfl, hq⟩ := hrr
        have both : (((Sh.lst gs).isL || (Sh.lst gs).isT) && ((Sh.lst rs).isL || (Sh.lst rs).isT)) = true := rfl
        refine ⟨_, (pss_cons 
    (ps_if (PW.pt (pw_or (pt_not (pt_val (pcal GS hr pass0 (pa_cons (pv 1) pa_nil)))) (pw_or1 (pt_not (pt_val (pcal GS hr pass0 (pa_cons (pv 2) pa_nil))))))) (pss_one (ps_raise rfl (takes_of rfl rfl rfl rfl) (pmk_oex GB.o GB.i GB.t GB.F hr2 GB.b .nil pass0 rfl GB.m (pa_cons pe_int (pa_cons pe_str pa_nil))))) pss_nil) (pss_cons 
    (ps_if (pt_cmpR op_gt (pe_callB call_len_seq (by rfl) nl PySem.boot_len (pa_cons (pv 1) pa_nil)) (pe_glob (v := .int 60) rfl mG ⟨_, rfl⟩) (nomark _)) (pss_one (ps_raise rfl (takes_of rfl rfl rfl rfl) (pmk_oex GB.o GB.i GB.t GB.F hr2 GB.b .nil pass0 rfl GB.m (pa_cons (pe_glob (v := .int 60) rfl mG ⟨_, rfl⟩) (pa_cons pe_str pa_nil))))) pss_nil) (pss_cons 
    (ps_for (passes_of rfl) rfl (pi_enum (by rfl) ne (pa_cons (pv 1) pa_nil)) (pg_tup (by rfl) (pgs_cons (pg_name (i := 3) sc_check_company.nd rfl (Or.inl rfl)) (pgs_cons (pg_name (i := 4) sc_check_company.nd rfl (Or.inl rfl)) pgs_nil))) (pss_cons 
      (ps_if (pt_not (pt_val (pcal GL hr pass0 (pa_cons (pv 4) pa_nil)))) (pss_one (ps_raise rfl (takes_of rfl rfl rfl rfl) (pmk_oex GB.o GB.i GB.t GB.F hr2 GB.b .nil pass0 rfl GB.m (pa_cons (pv 3) (pa_cons pe_str pa_nil))))) pss_nil) (pss_cons 
      (ps_if (PW.pt (pw_and (pt_cmpR op_gt (pv 3) pe_int (nomark _)) (pw_and1 (pt_cmpR op_le (pv 4) (pe_ix ix_list (pv 1) (pe_op op_sub (pv 3) pe_int) (fun _ _ => rfl)) (nomark _))))) (pss_one (ps_raise rfl (takes_of rfl rfl rfl rfl) (pmk_oex GB.o GB.i GB.t GB.F hr2 GB.b .nil pass0 rfl GB.m (pa_cons (pv 3) (pa_cons pe_str pa_nil))))) pss_nil) (pss_cons 
      (ps_if (pt_cmpR op_ge (pv 3) (pe_callB call_len_seq (by rfl) nl PySem.boot_len (pa_cons (pv 2) pa_nil)) (nomark _)) (pss_one (ps_raise rfl (takes_of rfl rfl rfl rfl) (pmk_oex GB.o GB.i GB.t GB.F hr2 GB.b .nil pass0 rfl GB.m (pa_cons (pv 3) (pa_cons pe_str pa_nil))))) pss_nil) (pss_one 
      (ps_expr (pcal GR hr (passes_call (takes_of rfl rfl rfl rfl) (fun _ _ _ _ h => h)) (pa_cons (pv 0) (pa_cons (pv 3) (pa_cons (pe_ix ix_list (pv 2) (pv 3) (fun _ _ => rfl)) (pa_cons (pv 3) pa_nil))))))))))) (pss_one 
    (ps_if (pt_cmpR op_gt (pe_callB call_len_seq (by rfl) nl PySem.boot_len (pa_cons (pv 2) pa_nil)) (pe_callB call_len_seq (by rfl) nl PySem.boot_len (pa_cons (pv 1) pa_nil)) (nomark _)) (pss_one (ps_raise rfl (takes_of rfl rfl rfl rfl) (pmk_oex GB.o GB.i GB.t GB.F hr2 GB.b .nil pass0 rfl GB.m (pa_cons (pe_callB call_len_seq (by rfl) nl PySem.boot_len (pa_cons (pv 1) pa_nil)) (pa_cons pe_str pa_nil))))) pss_nil))))), ?_⟩
        refine ⟨_, rfl, _, Sh.lst gs, rfl, ⟨pg, rfl, hp⟩, fun H1 S1 => ⟨_, rfl, iteF ⟨_, rfl, _, Sh.lst rs, rfl, ⟨pr, rfl, S1 _ _ hq⟩, fun H2 S2' => ⟨_, rfl, iteF ?_⟩⟩⟩⟩
        have S2 := S1.trans S2'
        have eg := S2 _ _ hp
        have er := S2 _ _ hq
        refine ⟨_, rfl, pg, gs, rfl, .inl (SqL.of eg), _, _, rfl, rfl, _, rfl, ?_⟩
        refine ifD (fun c => mkO_of2 ((k1 60 "many" (due_many both (by show 60 < gs.length; omega))).mono S2)) (fun c => ?_)
        have c60 : gs.length ≤ 60 := by omega
        have rl : rs.length = ss.length := hs.len
        refine ⟨_, rfl, pg, gs, rfl, SqL.of eg, for_enum (K := K) (a := pg) (xs := gs) (fun i σ H' => ∃ v3 v4 : Option V, σ = [some (.ref t), some (.ref pg), some (.ref pr), v3, v4] ∧ Same H2 H' ∧ ∀ a, a < i → wordC ns.length gs ss a = none)
          ⟨none, none, rfl, Same.refl _, fun a ha => absurd ha (Nat.not_lt_zero a)⟩ (fun i σ H' _ ⟨_, _, _, S, _⟩ => SqL.of (S _ _ eg)) ?_ ?_⟩
        · rintro i x σ H' T hx ⟨v3, v4, rfl, S3, hb⟩ hT0
          have hi : i < gs.length := (List.getElem?_eq_some_iff.mp hx).1
          have S4 : Same H2 (upd H' T (.tup [.int (i : Nat), x])) := S3.trans (new_same hT0)
          refine ⟨T, _, rfl, SqT.of upd_same, rfl, _, _, rfl, _, _, rfl, rfl, ?_⟩
          generalize upd H' T (.tup [.int (i : Nat), x]) = H4 at S4
          have eg4 := S4 _ _ eg
          have er4 := S4 _ _ er
          have SA := S2.trans S4
          obtain ⟨sx, isx⟩ := (kg.keep SA) x (List.mem_of_getElem? hx)
          refine ⟨_, rfl, x, sx, rfl, isx, _, rfl, ?_⟩
          cases e : wholeB x 0 1000000000 with
          | false => exact iteT ⟨_, rfl, mkO_of2 ((k1 (i : Nat) "label" (due_word both c60 hb (word_label hx e) hi)).mono SA)⟩
          | true =>
            obtain ⟨b, rfl, _, _⟩ := whole_int e
            refine iteF ⟨_, rfl, _, _, rfl, rfl, _, rfl, ?_⟩
            cases i with
            | zero =>
              refine ifD (fun c => absurd c (by decide)) (fun _ => ?_)
              have o : ordB gs 0 = false := ord_zero
              refine ⟨_, rfl, _, rfl, pr, rs, rfl, .inl (SqL.of er4), _, _, rfl, rfl, _, rfl, ?_⟩
              refine ifD (fun c => ⟨_, rfl, mkO_of2 ((k1 ((0 : Nat) : Int) "row" (due_word both c60 hb (word_norow hx e o (List.getElem?_eq_none_iff.mpr (by omega))) hi)).mono SA)⟩) (fun c => ?_)
              obtain ⟨z, hz⟩ : ∃ z, rs[0]? = some z := ⟨rs[0]'(by omega), List.getElem?_eq_getElem (by omega)⟩
              obtain ⟨sz, esz, isz, knz⟩ := (hs.keep SA).at_ hz
              refine ⟨_, rfl, _, rfl, _, rfl, _, rfl, _, _, _, _, rfl, rfl, SqL.of er4, at_of (j := 0) (v := z) rfl hz, _, rfl, t, ns, 0, 0, z, sz, rfl, hT.keep SA, isz, knz, fun u hu => (k1 ((0 : Nat) : Int) u (due_word both c60 hb ((word_row hx e o esz).trans hu) hi)).mono SA, fun hn H5 S5 => ⟨_, _, rfl, S4.trans S5, fun a ha => ?_⟩⟩
              rcases Nat.lt_or_ge a (0) with ha2 | ha2
              · exact hb a ha2
              · obtain rfl : a = 0 := by omega
                rw [word_row hx e o esz]
                exact hn
            | succ i =>
              refine ifD (fun _ => ?_) (fun c => absurd (show (0 : Int) < ((i + 1 : Nat) : Int) by omega) c)
              obtain ⟨y, hy⟩ : ∃ y, gs[i]? = some y := ⟨gs[i], List.getElem?_eq_getElem (by omega)⟩
              have wi : wholeB y 0 1000000000 = true := by
                cases ey : wholeB y 0 1000000000 with
                | true => rfl
                | false =>
                  have := hb i (by omega)
                  rw [word_label hy ey] at this
                  cases this
              obtain ⟨a, rfl, _, _⟩ := whole_int wi
              have oo := ord_ints hy hx
              refine ⟨_, rfl, _, rfl, _, rfl, _, _, rfl, rfl, _, _, _, _, rfl, rfl, SqL.of eg4, at_of (j := i) (v := .int a) (by omega) hy, _, _, rfl, rfl, _, rfl, ?_⟩
              refine ifD (fun c => ⟨_, rfl, mkO_of2 ((k1 ((i + 1 : Nat) : Int) "order" (due_word both c60 hb (word_order hx e (oo.trans (decide_eq_true c))) hi)).mono SA)⟩) (fun c => ?_)
              have o : ordB gs (i + 1) = false := by
                rw [oo]
                exact decide_eq_false c
              refine ⟨_, rfl, _, rfl, pr, rs, rfl, .inl (SqL.of er4), _, _, rfl, rfl, _, rfl, ?_⟩
              refine ifD (fun c => ⟨_, rfl, mkO_of2 ((k1 (((i + 1) : Nat) : Int) "row" (due_word both c60 hb (word_norow hx e o (List.getElem?_eq_none_iff.mpr (by omega))) hi)).mono SA)⟩) (fun c => ?_)
              obtain ⟨z, hz⟩ : ∃ z, rs[(i + 1)]? = some z := ⟨rs[(i + 1)]'(by omega), List.getElem?_eq_getElem (by omega)⟩
              obtain ⟨sz, esz, isz, knz⟩ := (hs.keep SA).at_ hz
              refine ⟨_, rfl, _, rfl, _, rfl, _, rfl, _, _, _, _, rfl, rfl, SqL.of er4, at_of (j := (i + 1)) (v := z) rfl hz, _, rfl, t, ns, (i + 1), (i + 1), z, sz, rfl, hT.keep SA, isz, knz, fun u hu => (k1 (((i + 1) : Nat) : Int) u (due_word both c60 hb ((word_row hx e o esz).trans hu) hi)).mono SA, fun hn H5 S5 => ⟨_, _, rfl, S4.trans S5, fun a ha => ?_⟩⟩
              rcases Nat.lt_or_ge a ((i + 1)) with ha2 | ha2
              · exact hb a ha2
              · obtain rfl : a = (i + 1) := by omega
                rw [word_row hx e o esz]
                exact hn
        · rintro σ H' ⟨v3, v4, rfl, S3, hb⟩
          have eg3 := S3 _ _ eg
          have er3 := S3 _ _ er
          refine ⟨_, rfl, pr, rs, rfl, .inl (SqL.of er3), _, rfl, pg, gs, rfl, .inl (SqL.of eg3), _, _, rfl, rfl, _, rfl, ?_⟩
          refine ifD (fun c => ⟨_, rfl, pg, gs, rfl, .inl (SqL.of eg3), mkO_of2 ((k1 _ "rows" (due_rows both c60 hb (by show gs.length < rs.length; omega))).mono (S2.trans S3))⟩) (fun c => ?_)
          exact k2 (due_ok both c60 hb (by show ¬ gs.length < rs.length; omega)) _ (S2.trans S3)
      | tup rs =>
        obtain ⟨pg, rfl, hp⟩ := hg
        obtain ⟨pr, rfl, hq⟩ := hrr
        have both : (((Sh.lst gs).isL || (Sh.lst gs).isT) && ((Sh.tup rs).isL || (Sh.tup rs).isT)) = true := rfl
        refine ⟨_, (pss_cons 
    (ps_if (PW.pt (pw_or (pt_not (pt_val (pcal GS hr pass0 (pa_cons (pv 1) pa_nil)))) (pw_or1 (pt_not (pt_val (pcal GS hr pass0 (pa_cons (pv 2) pa_nil))))))) (pss_one (ps_raise rfl (takes_of rfl rfl rfl rfl) (pmk_oex GB.o GB.i GB.t GB.F hr2 GB.b .nil pass0 rfl GB.m (pa_cons pe_int (pa_cons pe_str pa_nil))))) pss_nil) (pss_cons 
    (ps_if (pt_cmpR op_gt (pe_callB call_len_seq (by rfl) nl PySem.boot_len (pa_cons (pv 1) pa_nil)) (pe_glob (v := .int 60) rfl mG ⟨_, rfl⟩) (nomark _)) (pss_one (ps_raise rfl (takes_of rfl rfl rfl rfl) (pmk_oex GB.o GB.i GB.t GB.F hr2 GB.b .nil pass0 rfl GB.m (pa_cons (pe_glob (v := .int 60) rfl mG ⟨_, rfl⟩) (pa_cons pe_str pa_nil))))) pss_nil) (pss_cons 
    (ps_for (passes_of rfl) rfl (pi_enum (by rfl) ne (pa_cons (pv 1) pa_nil)) (pg_tup (by rfl) (pgs_cons (pg_name (i := 3) sc_check_company.nd rfl (Or.inl rfl)) (pgs_cons (pg_name (i := 4) sc_check_company.nd rfl (Or.inl rfl)) pgs_nil))) (pss_cons 
      (ps_if (pt_not (pt_val (pcal GL hr pass0 (pa_cons (pv 4) pa_nil)))) (pss_one (ps_raise rfl (takes_of rfl rfl rfl rfl) (pmk_oex GB.o GB.i GB.t GB.F hr2 GB.b .nil pass0 rfl GB.m (pa_cons (pv 3) (pa_cons pe_str pa_nil))))) pss_nil) (pss_cons 
      (ps_if (PW.pt (pw_and (pt_cmpR op_gt (pv 3) pe_int (nomark _)) (pw_and1 (pt_cmpR op_le (pv 4) (pe_ix ix_list (pv 1) (pe_op op_sub (pv 3) pe_int) (fun _ _ => rfl)) (nomark _))))) (pss_one (ps_raise rfl (takes_of rfl rfl rfl rfl) (pmk_oex GB.o GB.i GB.t GB.F hr2 GB.b .nil pass0 rfl GB.m (pa_cons (pv 3) (pa_cons pe_str pa_nil))))) pss_nil) (pss_cons 
      (ps_if (pt_cmpR op_ge (pv 3) (pe_callB call_len_seq (by rfl) nl PySem.boot_len (pa_cons (pv 2) pa_nil)) (nomark _)) (pss_one (ps_raise rfl (takes_of rfl rfl rfl rfl) (pmk_oex GB.o GB.i GB.t GB.F hr2 GB.b .nil pass0 rfl GB.m (pa_cons (pv 3) (pa_cons pe_str pa_nil))))) pss_nil) (pss_one 
      (ps_expr (pcal GR hr (passes_call (takes_of rfl rfl rfl rfl) (fun _ _ _ _ h => h)) (pa_cons (pv 0) (pa_cons (pv 3) (pa_cons (pe_ix ix_tup (pv 2) (pv 3) (fun _ _ => rfl)) (pa_cons (pv 3) pa_nil))))))))))) (pss_one 
    (ps_if (pt_cmpR op_gt (pe_callB call_len_seq (by rfl) nl PySem.boot_len (pa_cons (pv 2) pa_nil)) (pe_callB call_len_seq (by rfl) nl PySem.boot_len (pa_cons (pv 1) pa_nil)) (nomark _)) (pss_one (ps_raise rfl (takes_of rfl rfl rfl rfl) (pmk_oex GB.o GB.i GB.t GB.F hr2 GB.b .nil pass0 rfl GB.m (pa_cons (pe_callB call_len_seq (by rfl) nl PySem.boot_len (pa_cons (pv 1) pa_nil)) (pa_cons pe_str pa_nil))))) pss_nil))))), ?_⟩
        refine ⟨_, rfl, _, Sh.lst gs, rfl, ⟨pg, rfl, hp⟩, fun H1 S1 => ⟨_, rfl, iteF ⟨_, rfl, _, Sh.tup rs, rfl, ⟨pr, rfl, S1 _ _ hq⟩, fun H2 S2' => ⟨_, rfl, iteF ?_⟩⟩⟩⟩
        have S2 := S1.trans S2'
        have eg := S2 _ _ hp
        have er := S2 _ _ hq
        refine ⟨_, rfl, pg, gs, rfl, .inl (SqL.of eg), _, _, rfl, rfl, _, rfl, ?_⟩
        refine ifD (fun c => mkO_of2 ((k1 60 "many" (due_many both (by show 60 < gs.length; omega))).mono S2)) (fun c => ?_)
        have c60 : gs.length ≤ 60 := by omega
        have rl : rs.length = ss.length := hs.len
        refine ⟨_, rfl, pg, gs, rfl, SqL.of eg, for_enum (K := K) (a := pg) (xs := gs) (fun i σ H' => ∃ v3 v4 : Option V, σ = [some (.ref t), some (.ref pg), some (.ref pr), v3, v4] ∧ Same H2 H' ∧ ∀ a, a < i → wordC ns.length gs ss a = none)
          ⟨none, none, rfl, Same.refl _, fun a ha => absurd ha (Nat.not_lt_zero a)⟩ (fun i σ H' _ ⟨_, _, _, S, _⟩ => SqL.of (S _ _ eg)) ?_ ?_⟩
        · rintro i x σ H' T hx ⟨v3, v4, rfl, S3, hb⟩ hT0
          have hi : i < gs.length := (List.getElem?_eq_some_iff.mp hx).1
          have S4 : Same H2 (upd H' T (.tup [.int (i : Nat), x])) := S3.trans (new_same hT0)
          refine ⟨T, _, rfl, SqT.of upd_same, rfl, _, _, rfl, _, _, rfl, rfl, ?_⟩
          generalize upd H' T (.tup [.int (i : Nat), x]) = H4 at S4
          have eg4 := S4 _ _ eg
          have er4 := S4 _ _ er
          have SA := S2.trans S4
          obtain ⟨sx, isx⟩ := (kg.keep SA) x (List.mem_of_getElem? hx)
          refine ⟨_, rfl, x, sx, rfl, isx, _, rfl, ?_⟩
          cases e : wholeB x 0 1000000000 with
          | false => exact iteT ⟨_, rfl, mkO_of2 ((k1 (i : Nat) "label" (due_word both c60 hb (word_label hx e) hi)).mono SA)⟩
          | true =>
            obtain ⟨b, rfl, _, _⟩ := whole_int e
            refine iteF ⟨_, rfl, _, _, rfl, rfl, _, rfl, ?_⟩
            cases i with
            | zero =>
              refine ifD (fun c => absurd c (by decide)) (fun _ => ?_)
              have o : ordB gs 0 = false := ord_zero
              refine ⟨_, rfl, _, rfl, pr, rs, rfl, .inr (SqT.of er4), _, _, rfl, rfl, _, rfl, ?_⟩
              refine ifD (fun c => ⟨_, rfl, mkO_of2 ((k1 ((0 : Nat) : Int) "row" (due_word both c60 hb (word_norow hx e o (List.getElem?_eq_none_iff.mpr (by omega))) hi)).mono SA)⟩) (fun c => ?_)
              obtain ⟨z, hz⟩ : ∃ z, rs[0]? = some z := ⟨rs[0]'(by omega), List.getElem?_eq_getElem (by omega)⟩
              obtain ⟨sz, esz, isz, knz⟩ := (hs.keep SA).at_ hz
              refine ⟨_, rfl, _, rfl, _, rfl, _, rfl, _, _, _, _, rfl, rfl, SqT.of er4, at_of (j := 0) (v := z) rfl hz, _, rfl, t, ns, 0, 0, z, sz, rfl, hT.keep SA, isz, knz, fun u hu => (k1 ((0 : Nat) : Int) u (due_word both c60 hb ((word_row hx e o esz).trans hu) hi)).mono SA, fun hn H5 S5 => ⟨_, _, rfl, S4.trans S5, fun a ha => ?_⟩⟩
              rcases Nat.lt_or_ge a (0) with ha2 | ha2
              · exact hb a ha2
              · obtain rfl : a = 0 := by omega
                rw [word_row hx e o esz]
                exact hn
            | succ i =>
              refine ifD (fun _ => ?_) (fun c => absurd (show (0 : Int) < ((i + 1 : Nat) : Int) by omega) c)
              obtain ⟨y, hy⟩ : ∃ y, gs[i]? = some y := ⟨gs[i], List.getElem?_eq_getElem (by omega)⟩
              have wi : wholeB y 0 1000000000 = true := by
                cases ey : wholeB y 0 1000000000 with
                | true => rfl
                | false =>
                  have := hb i (by omega)
                  rw [word_label hy ey] at this
                  cases this
              obtain ⟨a, rfl, _, _⟩ := whole_int wi
              have oo := ord_ints hy hx
              refine ⟨_, rfl, _, rfl, _, rfl, _, _, rfl, rfl, _, _, _, _, rfl, rfl, SqL.of eg4, at_of (j := i) (v := .int a) (by omega) hy, _, _, rfl, rfl, _, rfl, ?_⟩
              refine ifD (fun c => ⟨_, rfl, mkO_of2 ((k1 ((i + 1 : Nat) : Int) "order" (due_word both c60 hb (word_order hx e (oo.trans (decide_eq_true c))) hi)).mono SA)⟩) (fun c => ?_)
              have o : ordB gs (i + 1) = false := by
                rw [oo]
                exact decide_eq_false c
              refine ⟨_, rfl, _, rfl, pr, rs, rfl, .inr (SqT.of er4), _, _, rfl, rfl, _, rfl, ?_⟩
              refine ifD (fun c => ⟨_, rfl, mkO_of2 ((k1 (((i + 1) : Nat) : Int) "row" (due_word both c60 hb (word_norow hx e o (List.getElem?_eq_none_iff.mpr (by omega))) hi)).mono SA)⟩) (fun c => ?_)
              obtain ⟨z, hz⟩ : ∃ z, rs[(i + 1)]? = some z := ⟨rs[(i + 1)]'(by omega), List.getElem?_eq_getElem (by omega)⟩
              obtain ⟨sz, esz, isz, knz⟩ := (hs.keep SA).at_ hz
              refine ⟨_, rfl, _, rfl, _, rfl, _, rfl, _, _, _, _, rfl, rfl, SqT.of er4, at_of (j := (i + 1)) (v := z) rfl hz, _, rfl, t, ns, (i + 1), (i + 1), z, sz, rfl, hT.keep SA, isz, knz, fun u hu => (k1 (((i + 1) : Nat) : Int) u (due_word both c60 hb ((word_row hx e o esz).trans hu) hi)).mono SA, fun hn H5 S5 => ⟨_, _, rfl, S4.trans S5, fun a ha => ?_⟩⟩
              rcases Nat.lt_or_ge a ((i + 1)) with ha2 | ha2
              · exact hb a ha2
              · obtain rfl : a = (i + 1) := by omega
                rw [word_row hx e o esz]
                exact hn
        · rintro σ H' ⟨v3, v4, rfl, S3, hb⟩
          have eg3 := S3 _ _ eg
          have er3 := S3 _ _ er
          refine ⟨_, rfl, pr, rs, rfl, .inr (SqT.of er3), _, rfl, pg, gs, rfl, .inl (SqL.of eg3), _, _, rfl, rfl, _, rfl, ?_⟩
          refine ifD (fun c => ⟨_, rfl, pg, gs, rfl, .inl (SqL.of eg3), mkO_of2 ((k1 _ "rows" (due_rows both c60 hb (by show gs.length < rs.length; omega))).mono (S2.trans S3))⟩) (fun c => ?_)
          exact k2 (due_ok both c60 hb (by show ¬ gs.length < rs.length; omega)) _ (S2.trans S3)
    | tup gs =>
      cases sr with
      | sc u =>
        obtain ⟨pg, rfl, hp⟩ := hg
        refine ⟨_, (pss_cons 
    (ps_if (PW.pt (pw_or (pt_not (pt_val (pcal GS hr pass0 (pa_cons (pv 1) pa_nil)))) (pw_or1 (pt_not (pt_val (pcal GS hr pass0 (pa_cons (pv 2) pa_nil))))))) (pss_one (ps_raise rfl (takes_of rfl rfl rfl rfl) (pmk_oex GB.o GB.i GB.t GB.F hr2 GB.b .nil pass0 rfl GB.m (pa_cons pe_int (pa_cons pe_str pa_nil))))) pss_nil) (pss_cons 
    (ps_if (pt_cmpR op_gt (pe_callB call_len_seq (by rfl) nl PySem.boot_len (pa_cons (pv 1) pa_nil)) (pe_glob (v := .int 60) rfl mG ⟨_, rfl⟩) (nomark _)) (pss_one (ps_raise rfl (takes_of rfl rfl rfl rfl) (pmk_oex GB.o GB.i GB.t GB.F hr2 GB.b .nil pass0 rfl GB.m (pa_cons (pe_glob (v := .int 60) rfl mG ⟨_, rfl⟩) (pa_cons pe_str pa_nil))))) pss_nil) (pss_cons 
    (ps_for (passes_of rfl) rfl (pi_enumT (by rfl) ne (pa_cons (pv 1) pa_nil)) (pg_tup (by rfl) (pgs_cons (pg_name (i := 3) sc_check_company.nd rfl (Or.inl rfl)) (pgs_cons (pg_name (i := 4) sc_check_company.nd rfl (Or.inl rfl)) pgs_nil))) (pss_cons 
      (ps_if (pt_not (pt_val (pcal GL hr pass0 (pa_cons (pv 4) pa_nil)))) (pss_one (ps_raise rfl (takes_of rfl rfl rfl rfl) (pmk_oex GB.o GB.i GB.t GB.F hr2 GB.b .nil pass0 rfl GB.m (pa_cons (pv 3) (pa_cons pe_str pa_nil))))) pss_nil) (pss_cons 
      (ps_if (PW.pt (pw_and (pt_cmpR op_gt (pv 3) pe_int (nomark _)) (pw_and1 (pt_cmpR op_le (pv 4) (pe_ix ix_tup (pv 1) (pe_op op_sub (pv 3) pe_int) (fun _ _ => rfl)) (nomark _))))) (pss_one (ps_raise rfl (takes_of rfl rfl rfl rfl) (pmk_oex GB.o GB.i GB.t GB.F hr2 GB.b .nil pass0 rfl GB.m (pa_cons (pv 3) (pa_cons pe_str pa_nil))))) pss_nil) (pss_cons 
      (ps_if (pt_cmpR op_ge (pv 3) (pe_callB call_len_seq (by rfl) nl PySem.boot_len (pa_cons (pv 2) pa_nil)) (nomark _)) (pss_one (ps_raise rfl (takes_of rfl rfl rfl rfl) (pmk_oex GB.o GB.i GB.t GB.F hr2 GB.b .nil pass0 rfl GB.m (pa_cons (pv 3) (pa_cons pe_str pa_nil))))) pss_nil) (pss_one 
      (ps_expr (pcal GR hr (passes_call (takes_of rfl rfl rfl rfl) (fun _ _ _ _ h => h)) (pa_cons (pv 0) (pa_cons (pv 3) (pa_cons (pe_ix ix_list (pv 2) (pv 3) (fun _ _ => rfl)) (pa_cons (pv 3) pa_nil))))))))))) (pss_one 
    (ps_if (pt_cmpR op_gt (pe_callB call_len_seq (by rfl) nl PySem.boot_len (pa_cons (pv 2) pa_nil)) (pe_callB call_len_seq (by rfl) nl PySem.boot_len (pa_cons (pv 1) pa_nil)) (nomark _)) (pss_one (ps_raise rfl (takes_of rfl rfl rfl rfl) (pmk_oex GB.o GB.i GB.t GB.F hr2 GB.b .nil pass0 rfl GB.m (pa_cons (pe_callB call_len_seq (by rfl) nl PySem.boot_len (pa_cons (pv 1) pa_nil)) (pa_cons pe_str pa_nil))))) pss_nil))))), ?_⟩
        exact ⟨_, rfl, _, Sh.tup gs, rfl, ⟨pg, rfl, hp⟩, fun H1 S1 => ⟨_, rfl, iteF ⟨_, rfl, r, (.sc u), rfl, hrr.keep S1, fun H2 S2 => ⟨_, rfl, iteT (mkO_of2 ((k1 0 "sequence" (due_seq rfl)).mono (S1.trans S2)))⟩⟩⟩⟩
      | dk =>
        obtain ⟨pg, rfl, hp⟩ := hg
        refine ⟨_, (pss_cons 
    (ps_if (PW.pt (pw_or (pt_not (pt_val (pcal GS hr pass0 (pa_cons (pv 1) pa_nil)))) (pw_or1 (pt_not (pt_val (pcal GS hr pass0 (pa_cons (pv 2) pa_nil))))))) (pss_one (ps_raise rfl (takes_of rfl rfl rfl rfl) (pmk_oex GB.o GB.i GB.t GB.F hr2 GB.b .nil pass0 rfl GB.m (pa_cons pe_int (pa_cons pe_str pa_nil))))) pss_nil) (pss_cons 
    (ps_if (pt_cmpR op_gt (pe_callB call_len_seq (by rfl) nl PySem.boot_len (pa_cons (pv 1) pa_nil)) (pe_glob (v := .int 60) rfl mG ⟨_, rfl⟩) (nomark _)) (pss_one (ps_raise rfl (takes_of rfl rfl rfl rfl) (pmk_oex GB.o GB.i GB.t GB.F hr2 GB.b .nil pass0 rfl GB.m (pa_cons (pe_glob (v := .int 60) rfl mG ⟨_, rfl⟩) (pa_cons pe_str pa_nil))))) pss_nil) (pss_cons 
    (ps_for (passes_of rfl) rfl (pi_enumT (by rfl) ne (pa_cons (pv 1) pa_nil)) (pg_tup (by rfl) (pgs_cons (pg_name (i := 3) sc_check_company.nd rfl (Or.inl rfl)) (pgs_cons (pg_name (i := 4) sc_check_company.nd rfl (Or.inl rfl)) pgs_nil))) (pss_cons 
      (ps_if (pt_not (pt_val (pcal GL hr pass0 (pa_cons (pv 4) pa_nil)))) (pss_one (ps_raise rfl (takes_of rfl rfl rfl rfl) (pmk_oex GB.o GB.i GB.t GB.F hr2 GB.b .nil pass0 rfl GB.m (pa_cons (pv 3) (pa_cons pe_str pa_nil))))) pss_nil) (pss_cons 
      (ps_if (PW.pt (pw_and (pt_cmpR op_gt (pv 3) pe_int (nomark _)) (pw_and1 (pt_cmpR op_le (pv 4) (pe_ix ix_tup (pv 1) (pe_op op_sub (pv 3) pe_int) (fun _ _ => rfl)) (nomark _))))) (pss_one (ps_raise rfl (takes_of rfl rfl rfl rfl) (pmk_oex GB.o GB.i GB.t GB.F hr2 GB.b .nil pass0 rfl GB.m (pa_cons (pv 3) (pa_cons pe_str pa_nil))))) pss_nil) (pss_cons 
      (ps_if (pt_cmpR op_ge (pv 3) (pe_callB call_len_seq (by rfl) nl PySem.boot_len (pa_cons (pv 2) pa_nil)) (nomark _)) (pss_one (ps_raise rfl (takes_of rfl rfl rfl rfl) (pmk_oex GB.o GB.i GB.t GB.F hr2 GB.b .nil pass0 rfl GB.m (pa_cons (pv 3) (pa_cons pe_str pa_nil))))) pss_nil) (pss_one 
      (ps_expr (pcal GR hr (passes_call (takes_of rfl rfl rfl rfl) (fun _ _ _ _ h => h)) (pa_cons (pv 0) (pa_cons (pv 3) (pa_cons (pe_ix ix_list (pv 2) (pv 3) (fun _ _ => rfl)) (pa_cons (pv 3) pa_nil))))))))))) (pss_one 
    (ps_if (pt_cmpR op_gt (pe_callB call_len_seq (by rfl) nl PySem.boot_len (pa_cons (pv 2) pa_nil)) (pe_callB call_len_seq (by rfl) nl PySem.boot_len (pa_cons (pv 1) pa_nil)) (nomark _)) (pss_one (ps_raise rfl (takes_of rfl rfl rfl rfl) (pmk_oex GB.o GB.i GB.t GB.F hr2 GB.b .nil pass0 rfl GB.m (pa_cons (pe_callB call_len_seq (by rfl) nl PySem.boot_len (pa_cons (pv 1) pa_nil)) (pa_cons pe_str pa_nil))))) pss_nil))))), ?_⟩
        exact ⟨_, rfl, _, Sh.tup gs, rfl, ⟨pg, rfl, hp⟩, fun H1 S1 => ⟨_, rfl, iteF ⟨_, rfl, r, .dk, rfl, hrr.keep S1, fun H2 S2 => ⟨_, rfl, iteT (mkO_of2 ((k1 0 "sequence" (due_seq rfl)).mono (S1.trans S2)))⟩⟩⟩⟩
      | lst rs =>
        obtain ⟨pg, rfl, hp⟩ := hg
        obtain ⟨pr, rfl, hq⟩ := hrr
        have both : (((Sh.tup gs).isL || (Sh.tup gs).isT) && ((Sh.lst rs).isL || (Sh.lst rs).isT)) = true := rfl
        refine ⟨_, (pss_cons 
    (ps_if (PW.pt (pw_or (pt_not (pt_val (pcal GS hr pass0 (pa_cons (pv 1) pa_nil)))) (pw_or1 (pt_not (pt_val (pcal GS hr pass0 (pa_cons (pv 2) pa_nil))))))) (pss_one (ps_raise rfl (takes_of rfl rfl rfl rfl) (pmk_oex GB.o GB.i GB.t GB.F hr2 GB.b .nil pass0 rfl GB.m (pa_cons pe_int (pa_cons pe_str pa_nil))))) pss_nil) (pss_cons 
    (ps_if (pt_cmpR op_gt (pe_callB call_len_seq (by rfl) nl PySem.boot_len (pa_cons (pv 1) pa_nil)) (pe_glob (v := .int 60) rfl mG ⟨_, rfl⟩) (nomark _)) (pss_one (ps_raise rfl (takes_of rfl rfl rfl rfl) (pmk_oex GB.o GB.i GB.t GB.F hr2 GB.b .nil pass0 rfl GB.m (pa_cons (pe_glob (v := .int 60) rfl mG ⟨_, rfl⟩) (pa_cons pe_str pa_nil))))) pss_nil) (pss_cons 
    (ps_for (passes_of rfl) rfl (pi_enumT (by rfl) ne (pa_cons (pv 1) pa_nil)) (pg_tup (by rfl) (pgs_cons (pg_name (i := 3) sc_check_company.nd rfl (Or.inl rfl)) (pgs_cons (pg_name (i := 4) sc_check_company.nd rfl (Or.inl rfl)) pgs_nil))) (pss_cons 
      (ps_if (pt_not (pt_val (pcal GL hr pass0 (pa_cons (pv 4) pa_nil)))) (pss_one (ps_raise rfl (takes_of rfl rfl rfl rfl) (pmk_oex GB.o GB.i GB.t GB.F hr2 GB.b .nil pass0 rfl GB.m (pa_cons (pv 3) (pa_cons pe_str pa_nil))))) pss_nil) (pss_cons 
      (ps_if (PW.pt (pw_and (pt_cmpR op_gt (pv 3) pe_int (nomark _)) (pw_and1 (pt_cmpR op_le (pv 4) (pe_ix ix_tup (pv 1) (pe_op op_sub (pv 3) pe_int) (fun _ _ => rfl)) (nomark _))))) (pss_one (ps_raise rfl (takes_of rfl rfl rfl rfl) (pmk_oex GB.o GB.i GB.t GB.F hr2 GB.b .nil pass0 rfl GB.m (pa_cons (pv 3) (pa_cons pe_str pa_nil))))) pss_nil) (pss_cons 
      (ps_if (pt_cmpR op_ge (pv 3) (pe_callB call_len_seq (by rfl) nl PySem.boot_len (pa_cons (pv 2) pa_nil)) (nomark _)) (pss_one (ps_raise rfl (takes_of rfl rfl rfl rfl) (pmk_oex GB.o GB.i GB.t GB.F hr2 GB.b .nil pass0 rfl GB.m (pa_cons (pv 3) (pa_cons pe_str pa_nil))))) pss_nil) (pss_one 
      (ps_expr (pcal GR hr (passes_call (takes_of rfl rfl rfl rfl) (fun _ _ _ _ h => h)) (pa_cons (pv 0) (pa_cons (pv 3) (pa_cons (pe_ix ix_list (pv 2) (pv 3) (fun _ _ => rfl)) (pa_cons (pv 3) pa_nil))))))))))) (pss_one 
    (ps_if (pt_cmpR op_gt (pe_callB call_len_seq (by rfl) nl PySem.boot_len (pa_cons (pv 2) pa_nil)) (pe_callB call_len_seq (by rfl) nl PySem.boot_len (pa_cons (pv 1) pa_nil)) (nomark _)) (pss_one (ps_raise rfl (takes_of rfl rfl rfl rfl) (pmk_oex GB.o GB.i GB.t GB.F hr2 GB.b .nil pass0 rfl GB.m (pa_cons (pe_callB call_len_seq (by rfl) nl PySem.boot_len (pa_cons (pv 1) pa_nil)) (pa_cons pe_str pa_nil))))) pss_nil))))), ?_⟩
        refine ⟨_, rfl, _, Sh.tup gs, rfl, ⟨pg, rfl, hp⟩, fun H1 S1 => ⟨_, rfl, iteF ⟨_, rfl, _, Sh.lst rs, rfl, ⟨pr, rfl, S1 _ _ hq⟩, fun H2 S2' => ⟨_, rfl, iteF ?_⟩⟩⟩⟩
        have S2 := S1.trans S2'
        have eg := S2 _ _ hp
        have er := S2 _ _ hq
        refine ⟨_, rfl, pg, gs, rfl, .inr (SqT.of eg), _, _, rfl, rfl, _, rfl, ?_⟩
        refine ifD (fun c => mkO_of2 ((k1 60 "many" (due_many both (by show 60 < gs.length; omega))).mono S2)) (fun c => ?_)
        have c60 : gs.length ≤ 60 := by omega
        have rl : rs.length = ss.length := hs.len
        refine ⟨_, rfl, pg, gs, rfl, SqT.of eg, for_enumT (K := K) (a := pg) (xs := gs) (fun i σ H' => ∃ v3 v4 : Option V, σ = [some (.ref t), some (.ref pg), some (.ref pr), v3, v4] ∧ Same H2 H' ∧ ∀ a, a < i → wordC ns.length gs ss a = none)
          ⟨none, none, rfl, Same.refl _, fun a ha => absurd ha (Nat.not_lt_zero a)⟩ (fun i σ H' _ ⟨_, _, _, S, _⟩ => SqT.of (S _ _ eg)) ?_ ?_⟩
        · rintro i x σ H' T hx ⟨v3, v4, rfl, S3, hb⟩ hT0
          have hi : i < gs.length := (List.getElem?_eq_some_iff.mp hx).1
          have S4 : Same H2 (upd H' T (.tup [.int (i : Nat), x])) := S3.trans (new_same hT0)
          refine ⟨T, _, rfl, SqT.of upd_same, rfl, _, _, rfl, _, _, rfl, rfl, ?_⟩
          generalize upd H' T (.tup [.int (i : Nat), x]) = H4 at S4
          have eg4 := S4 _ _ eg
          have er4 := S4 _ _ er
          have SA := S2.trans S4
          obtain ⟨sx, isx⟩ := (kg.keep SA) x (List.mem_of_getElem? hx)
          refine ⟨_, rfl, x, sx, rfl, isx, _, rfl, ?_⟩
          cases e : wholeB x 0 1000000000 with
          | false => exact iteT ⟨_, rfl, mkO_of2 ((k1 (i : Nat) "label" (due_word both c60 hb (word_label hx e) hi)).mono SA)⟩
          | true =>
            obtain ⟨b, rfl, _, _⟩ := whole_int e
            refine iteF ⟨_, rfl, _, _, rfl, rfl, _, rfl, ?_⟩
            cases i with
            | zero =>
              refine ifD (fun c => absurd c (by decide)) (fun _ => ?_)
              have o : ordB gs 0 = false := ord_zero
              refine ⟨_, rfl, _, rfl, pr, rs, rfl, .inl (SqL.of er4), _, _, rfl, rfl, _, rfl, ?_⟩
              refine ifD (fun c => ⟨_, rfl, mkO_of2 ((k1 ((0 : Nat) : Int) "row" (due_word both c60 hb (word_norow hx e o (List.getElem?_eq_none_iff.mpr (by omega))) hi)).mono SA)⟩) (fun c => ?_)
              obtain ⟨z, hz⟩ : ∃ z, rs[0]? = some z := ⟨rs[0]'(by omega), List.getElem?_eq_getElem (by omega)⟩
              obtain ⟨sz, esz, isz, knz⟩ := (hs.keep SA).at_ hz
              refine ⟨_, rfl, _, rfl, _, rfl, _, rfl, _, _, _, _, rfl, rfl, SqL.of er4, at_of (j := 0) (v := z) rfl hz, _, rfl, t, ns, 0, 0, z, sz, rfl, hT.keep SA, isz, knz, fun u hu => (k1 ((0 : Nat) : Int) u (due_word both c60 hb ((word_row hx e o esz).trans hu) hi)).mono SA, fun hn H5 S5 => ⟨_, _, rfl, S4.trans S5, fun a ha => ?_⟩⟩
              rcases Nat.lt_or_ge a (0) with ha2 | ha2
              · exact hb a ha2
              · obtain rfl : a = 0 := by omega
                rw [word_row hx e o esz]
                exact hn
            | succ i =>
              refine ifD (fun _ => ?_) (fun c => absurd (show (0 : Int) < ((i + 1 : Nat) : Int) by omega) c)
              obtain ⟨y, hy⟩ : ∃ y, gs[i]? = some y := ⟨gs[i], List.getElem?_eq_getElem (by omega)⟩
              have wi : wholeB y 0 1000000000 = true := by
                cases ey : wholeB y 0 1000000000 with
                | true => rfl
                | false =>
                  have := hb i (by omega)
                  rw [word_label hy ey] at this
                  cases this
              obtain ⟨a, rfl, _, _⟩ := whole_int wi
              have oo := ord_ints hy hx
              refine ⟨_, rfl, _, rfl, _, rfl, _, _, rfl, rfl, _, _, _, _, rfl, rfl, SqT.of eg4, at_of (j := i) (v := .int a) (by omega) hy, _, _, rfl, rfl, _, rfl, ?_⟩
              refine ifD (fun c => ⟨_, rfl, mkO_of2 ((k1 ((i + 1 : Nat) : Int) "order" (due_word both c60 hb (word_order hx e (oo.trans (decide_eq_true c))) hi)).mono SA)⟩) (fun c => ?_)
              have o : ordB gs (i + 1) = false := by
                rw [oo]
                exact decide_eq_false c
              refine ⟨_, rfl, _, rfl, pr, rs, rfl, .inl (SqL.of er4), _, _, rfl, rfl, _, rfl, ?_⟩
              refine ifD (fun c => ⟨_, rfl, mkO_of2 ((k1 (((i + 1) : Nat) : Int) "row" (due_word both c60 hb (word_norow hx e o (List.getElem?_eq_none_iff.mpr (by omega))) hi)).mono SA)⟩) (fun c => ?_)
              obtain ⟨z, hz⟩ : ∃ z, rs[(i + 1)]? = some z := ⟨rs[(i + 1)]'(by omega), List.getElem?_eq_getElem (by omega)⟩
              obtain ⟨sz, esz, isz, knz⟩ := (hs.keep SA).at_ hz
              refine ⟨_, rfl, _, rfl, _, rfl, _, rfl, _, _, _, _, rfl, rfl, SqL.of er4, at_of (j := (i + 1)) (v := z) rfl hz, _, rfl, t, ns, (i + 1), (i + 1), z, sz, rfl, hT.keep SA, isz, knz, fun u hu => (k1 (((i + 1) : Nat) : Int) u (due_word both c60 hb ((word_row hx e o esz).trans hu) hi)).mono SA, fun hn H5 S5 => ⟨_, _, rfl, S4.trans S5, fun a ha => ?_⟩⟩
              rcases Nat.lt_or_ge a ((i + 1)) with ha2 | ha2
              · exact hb a ha2
              · obtain rfl : a = (i + 1) := by omega
                rw [word_row hx e o esz]
                exact hn
        · rintro σ H' ⟨v3, v4, rfl, S3, hb⟩
          have eg3 := S3 _ _ eg
          have er3 := S3 _ _ er
          refine ⟨_, rfl, pr, rs, rfl, .inl (SqL.of er3), _, rfl, pg, gs, rfl, .inr (SqT.of eg3), _, _, rfl, rfl, _, rfl, ?_⟩
          refine ifD (fun c => ⟨_, rfl, pg, gs, rfl, .inr (SqT.of eg3), mkO_of2 ((k1 _ "rows" (due_rows both c60 hb (by show gs.length < rs.length; omega))).mono (S2.trans S3))⟩) (fun c => ?_)
          exact k2 (due_ok both c60 hb (by show ¬ gs.length < rs.length; omega)) _ (S2.trans S3)
      | tup rs =>
        obtain ⟨pg, rfl, hp⟩ := hg
        obtain ⟨pr, rfl, hq⟩ := hrr
        have both : (((Sh.tup gs).isL || (Sh.tup gs).isT) && ((Sh.tup rs).isL || (Sh.tup rs).isT)) = true := rfl
        refine ⟨_, (pss_cons 
    (ps_if (PW.pt (pw_or (pt_not (pt_val (pcal GS hr pass0 (pa_cons (pv 1) pa_nil)))) (pw_or1 (pt_not (pt_val (pcal GS hr pass0 (pa_cons (pv 2) pa_nil))))))) (pss_one (ps_raise rfl (takes_of rfl rfl rfl rfl) (pmk_oex GB.o GB.i GB.t GB.F hr2 GB.b .nil pass0 rfl GB.m (pa_cons pe_int (pa_cons pe_str pa_nil))))) pss_nil) (pss_cons 
    (ps_if (pt_cmpR op_gt (pe_callB call_len_seq (by rfl) nl PySem.boot_len (pa_cons (pv 1) pa_nil)) (pe_glob (v := .int 60) rfl mG ⟨_, rfl⟩) (nomark _)) (pss_one (ps_raise rfl (takes_of rfl rfl rfl rfl) (pmk_oex GB.o GB.i GB.t GB.F hr2 GB.b .nil pass0 rfl GB.m (pa_cons (pe_glob (v := .int 60) rfl mG ⟨_, rfl⟩) (pa_cons pe_str pa_nil))))) pss_nil) (pss_cons 
    (ps_for (passes_of rfl) rfl (pi_enumT (by rfl) ne (pa_cons (pv 1) pa_nil)) (pg_tup (by rfl) (pgs_cons (pg_name (i := 3) sc_check_company.nd rfl (Or.inl rfl)) (pgs_cons (pg_name (i := 4) sc_check_company.nd rfl (Or.inl rfl)) pgs_nil))) (pss_cons 
      (ps_if (pt_not (pt_val (pcal GL hr pass0 (pa_cons (pv 4) pa_nil)))) (pss_one (ps_raise rfl (takes_of rfl rfl rfl rfl) (pmk_oex GB.o GB.i GB.t GB.F hr2 GB.b .nil pass0 rfl GB.m (pa_cons (pv 3) (pa_cons pe_str pa_nil))))) pss_nil) (pss_cons 
      (ps_if (PW.pt (pw_and (pt_cmpR op_gt (pv 3) pe_int (nomark _)) (pw_and1 (pt_cmpR op_le (pv 4) (pe_ix ix_tup (pv 1) (pe_op op_sub (pv 3) pe_int) (fun _ _ => rfl)) (nomark _))))) (pss_one (ps_raise rfl (takes_of rfl rfl rfl rfl) (pmk_oex GB.o GB.i GB.t GB.F hr2 GB.b .nil pass0 rfl GB.m (pa_cons (pv 3) (pa_cons pe_str pa_nil))))) pss_nil) (pss_cons 
      (ps_if (pt_cmpR op_ge (pv 3) (pe_callB call_len_seq (by rfl) nl PySem.boot_len (pa_cons (pv 2) pa_nil)) (nomark _)) (pss_one (ps_raise rfl (takes_of rfl rfl rfl rfl) (pmk_oex GB.o GB.i GB.t GB.F hr2 GB.b .nil pass0 rfl GB.m (pa_cons (pv 3) (pa_cons pe_str pa_nil))))) pss_nil) (pss_one 
      (ps_expr (pcal GR hr (passes_call (takes_of rfl rfl rfl rfl) (fun _ _ _ _ h => h)) (pa_cons (pv 0) (pa_cons (pv 3) (pa_cons (pe_ix ix_tup (pv 2) (pv 3) (fun _ _ => rfl)) (pa_cons (pv 3) pa_nil))))))))))) (pss_one 
    (ps_if (pt_cmpR op_gt (pe_callB call_len_seq (by rfl) nl PySem.boot_len (pa_cons (pv 2) pa_nil)) (pe_callB call_len_seq (by rfl) nl PySem.boot_len (pa_cons (pv 1) pa_nil)) (nomark _)) (pss_one (ps_raise rfl (takes_of rfl rfl rfl rfl) (pmk_oex GB.o GB.i GB.t GB.F hr2 GB.b .nil pass0 rfl GB.m (pa_cons (pe_callB call_len_seq (by rfl) nl PySem.boot_len (pa_cons (pv 1) pa_nil)) (pa_cons pe_str pa_nil))))) pss_nil))))), ?_⟩
        refine ⟨_, rfl, _, Sh.tup gs, rfl, ⟨pg, rfl, hp⟩, fun H1 S1 => ⟨_, rfl, iteF ⟨_, rfl, _, Sh.tup rs, rfl, ⟨pr, rfl, S1 _ _ hq⟩, fun H2 S2' => ⟨_, rfl, iteF ?_⟩⟩⟩⟩
        have S2 := S1.trans S2'
        have eg := S2 _ _ hp
        have er := S2 _ _ hq
        refine ⟨_, rfl, pg, gs, rfl, .inr (SqT.of eg), _, _, rfl, rfl, _, rfl, ?_⟩
        refine ifD (fun c => mkO_of2 ((k1 60 "many" (due_many both (by show 60 < gs.length; omega))).mono S2)) (fun c => ?_)
        have c60 : gs.length ≤ 60 := by omega
        have rl : rs.length = ss.length := hs.len
        refine ⟨_, rfl, pg, gs, rfl, SqT.of eg, for_enumT (K := K) (a := pg) (xs := gs) (fun i σ H' => ∃ v3 v4 : Option V, σ = [some (.ref t), some (.ref pg), some (.ref pr), v3, v4] ∧ Same H2 H' ∧ ∀ a, a < i → wordC ns.length gs ss a = none)
          ⟨none, none, rfl, Same.refl _, fun a ha => absurd ha (Nat.not_lt_zero a)⟩ (fun i σ H' _ ⟨_, _, _, S, _⟩ => SqT.of (S _ _ eg)) ?_ ?_⟩
        · rintro i x σ H' T hx ⟨v3, v4, rfl, S3, hb⟩ hT0
          have hi : i < gs.length := (List.getElem?_eq_some_iff.mp hx).1
          have S4 : Same H2 (upd H' T (.tup [.int (i : Nat), x])) := S3.trans (new_same hT0)
          refine ⟨T, _, rfl, SqT.of upd_same, rfl, _, _, rfl, _, _, rfl, rfl, ?_⟩
          generalize upd H' T (.tup [.int (i : Nat), x]) = H4 at S4
          have eg4 := S4 _ _ eg
          have er4 := S4 _ _ er
          have SA := S2.trans S4
          obtain ⟨sx, isx⟩ := (kg.keep SA) x (List.mem_of_getElem? hx)
          refine ⟨_, rfl, x, sx, rfl, isx, _, rfl, ?_⟩
          cases e : wholeB x 0 1000000000 with
          | false => exact iteT ⟨_, rfl, mkO_of2 ((k1 (i : Nat) "label" (due_word both c60 hb (word_label hx e) hi)).mono SA)⟩
          | true =>
            obtain ⟨b, rfl, _, _⟩ := whole_int e
            refine iteF ⟨_, rfl, _, _, rfl, rfl, _, rfl, ?_⟩
            cases i with
            | zero =>
              refine ifD (fun c => absurd c (by decide)) (fun _ => ?_)
              have o : ordB gs 0 = false := ord_zero
              refine ⟨_, rfl, _, rfl, pr, rs, rfl, .inr (SqT.of er4), _, _, rfl, rfl, _, rfl, ?_⟩
              refine ifD (fun c => ⟨_, rfl, mkO_of2 ((k1 ((0 : Nat) : Int) "row" (due_word both c60 hb (word_norow hx e o (List.getElem?_eq_none_iff.mpr (by omega))) hi)).mono SA)⟩) (fun c => ?_)
              obtain ⟨z, hz⟩ : ∃ z, rs[0]? = some z := ⟨rs[0]'(by omega), List.getElem?_eq_getElem (by omega)⟩
              obtain ⟨sz, esz, isz, knz⟩ := (hs.keep SA).at_ hz
              refine ⟨_, rfl, _, rfl, _, rfl, _, rfl, _, _, _, _, rfl, rfl, SqT.of er4, at_of (j := 0) (v := z) rfl hz, _, rfl, t, ns, 0, 0, z, sz, rfl, hT.keep SA, isz, knz, fun u hu => (k1 ((0 : Nat) : Int) u (due_word both c60 hb ((word_row hx e o esz).trans hu) hi)).mono SA, fun hn H5 S5 => ⟨_, _, rfl, S4.trans S5, fun a ha => ?_⟩⟩
              rcases Nat.lt_or_ge a (0) with ha2 | ha2
              · exact hb a ha2
              · obtain rfl : a = 0 := by omega
                rw [word_row hx e o esz]
                exact hn
            | succ i =>
              refine ifD (fun _ => ?_) (fun c => absurd (show (0 : Int) < ((i + 1 : Nat) : Int) by omega) c)
              obtain ⟨y, hy⟩ : ∃ y, gs[i]? = some y := ⟨gs[i], List.getElem?_eq_getElem (by omega)⟩
              have wi : wholeB y 0 1000000000 = true := by
                cases ey : wholeB y 0 1000000000 with
                | true => rfl
                | false =>
                  have := hb i (by omega)
                  rw [word_label hy ey] at this
                  cases this
              obtain ⟨a, rfl, _, _⟩ := whole_int wi
              have oo := ord_ints hy hx
              refine ⟨_, rfl, _, rfl, _, rfl, _, _, rfl, rfl, _, _, _, _, rfl, rfl, SqT.of eg4, at_of (j := i) (v := .int a) (by omega) hy, _, _, rfl, rfl, _, rfl, ?_⟩
              refine ifD (fun c => ⟨_, rfl, mkO_of2 ((k1 ((i + 1 : Nat) : Int) "order" (due_word both c60 hb (word_order hx e (oo.trans (decide_eq_true c))) hi)).mono SA)⟩) (fun c => ?_)
              have o : ordB gs (i + 1) = false := by
                rw [oo]
                exact decide_eq_false c
              refine ⟨_, rfl, _, rfl, pr, rs, rfl, .inr (SqT.of er4), _, _, rfl, rfl, _, rfl, ?_⟩
              refine ifD (fun c => ⟨_, rfl, mkO_of2 ((k1 (((i + 1) : Nat) : Int) "row" (due_word both c60 hb (word_norow hx e o (List.getElem?_eq_none_iff.mpr (by omega))) hi)).mono SA)⟩) (fun c => ?_)
              obtain ⟨z, hz⟩ : ∃ z, rs[(i + 1)]? = some z := ⟨rs[(i + 1)]'(by omega), List.getElem?_eq_getElem (by omega)⟩
              obtain ⟨sz, esz, isz, knz⟩ := (hs.keep SA).at_ hz
              refine ⟨_, rfl, _, rfl, _, rfl, _, rfl, _, _, _, _, rfl, rfl, SqT.of er4, at_of (j := (i + 1)) (v := z) rfl hz, _, rfl, t, ns, (i + 1), (i + 1), z, sz, rfl, hT.keep SA, isz, knz, fun u hu => (k1 (((i + 1) : Nat) : Int) u (due_word both c60 hb ((word_row hx e o esz).trans hu) hi)).mono SA, fun hn H5 S5 => ⟨_, _, rfl, S4.trans S5, fun a ha => ?_⟩⟩
              rcases Nat.lt_or_ge a ((i + 1)) with ha2 | ha2
              · exact hb a ha2
              · obtain rfl : a = (i + 1) := by omega
                rw [word_row hx e o esz]
                exact hn
        · rintro σ H' ⟨v3, v4, rfl, S3, hb⟩
          have eg3 := S3 _ _ eg
          have er3 := S3 _ _ er
          refine ⟨_, rfl, pr, rs, rfl, .inr (SqT.of er3), _, rfl, pg, gs, rfl, .inr (SqT.of eg3), _, _, rfl, rfl, _, rfl, ?_⟩
          refine ifD (fun c => ⟨_, rfl, pg, gs, rfl, .inr (SqT.of eg3), mkO_of2 ((k1 _ "rows" (due_rows both c60 hb (by show gs.length < rs.length; omega))).mono (S2.trans S3))⟩) (fun c => ?_)
          exact k2 (due_ok both c60 hb (by show ¬ gs.length < rs.length; omega)) _ (S2.trans S3)
end
end J

set_option Elab.async false
set_option linter.all false
set_option maxRecDepth 100000
set_option maxHeartbeats 4000000
namespace J
open PySem PySem.Spec PyProof.Rows L2
abbrev rTup (K : PySem.W.Frag) : List V → Hp → VK → Prop := fun xs H Q => ∃ p ys, xs = [.ref p] ∧ ((SqL K H p ys ∧ ∀ l, H l = none → Q (.ref l) (upd H l (.tup ys))) ∨ (SqT K H p ys ∧ Q (.ref p) H))
abbrev rLen (K : PySem.W.Frag) : List V → Hp → VK → Prop := fun xs H Q => ∃ p ys, xs = [.ref p] ∧ (SqL K H p ys ∨ SqT K H p ys) ∧ Q (.int (ys.length : Nat)) H
/-! ### the table -/
/-- k lists of n things each at T, new; f tells what stands where -/
def Grid (H0 H : Hp) (T : Addr) (n k : Nat) (f : Nat → Nat → V) : Prop := Same H0 H ∧ H0 T = none ∧ ∃ gs : List Addr, gs.length = k ∧ gs.Nodup ∧ H T = some (.lst (gs.map V.ref)) ∧ ∀ (a : Nat) (g : Addr), gs[a]? = some g → H0 g = none ∧ g ≠ T ∧ ∃ xs, H g = some (.lst xs) ∧ xs.length = n ∧ ∀ b, b < n → xs[b]? = some (f a b)
theorem Grid.new {H0 H : Hp} {T z : Addr} {n k : Nat} {f : Nat → Nat → V} {o : HO} (g : Grid H0 H T n k f) (hz : H z = none) : Grid H0 (upd H z o) T n k f := by
  obtain ⟨S, t0, gs, e, nd, hT, hg⟩ := g
  refine ⟨S.trans (new_same hz), t0, gs, e, nd, by rw [upd_ne (ne_of_none hT hz)]; exact hT, fun a c ha => ?_⟩
  obtain ⟨a0, aT, xs, ea, el, ef⟩ := hg a c ha
  exact ⟨a0, aT, xs, by rw [upd_ne (ne_of_none ea hz)]; exact ea, el, ef⟩
theorem Grid.congr {H0 H : Hp} {T : Addr} {n k : Nat} {f f' : Nat → Nat → V} (g : Grid H0 H T n k f) (h : ∀ a b, a < k → b < n → f a b = f' a b) : Grid H0 H T n k f' := by
  obtain ⟨S, t0, gs, e, nd, hT, hg⟩ := g
  refine ⟨S, t0, gs, e, nd, hT, fun a c ha => ?_⟩
  obtain ⟨a0, aT, xs, ea, el, ef⟩ := hg a c ha
  have hk : a < k := by rw [← e]; exact (List.getElem?_eq_some_iff.mp ha).1
  exact ⟨a0, aT, xs, ea, el, fun b hb => by rw [ef b hb, h a b hk hb]⟩
theorem Grid.at_ {H0 H : Hp} {T : Addr} {n k j : Nat} {f : Nat → Nat → V} (g : Grid H0 H T n k f) (hj : j < k) : ∃ (a : Addr) (xs L : List V), H T = some (.lst L) ∧ L[j]? = some (.ref a) ∧ H a = some (.lst xs) ∧ xs.length = n ∧ (∀ b, b < n → xs[b]? = some (f j b)) ∧ ∀ (b : Nat) (v : V), b < n → Grid H0 (upd H a (.lst (xs.set b v))) T n k (fun a' b' => if a' = j ∧ b' = b then v else f a' b') := by
  obtain ⟨S, t0, gs, e, nd, hT, hg⟩ := g
  have hj' : j < gs.length := by omega
  have ej := List.getElem?_eq_getElem hj'
  obtain ⟨a0, aT, xs, ea, el, ef⟩ := hg j _ ej
  refine ⟨gs[j], xs, _, hT, by rw [List.getElem?_map, ej]; rfl, ea, el, ef, fun b v hb => ⟨fun c o ec => ?_, t0, gs, e, nd, by rw [upd_ne aT.symm]; exact hT, fun c d hc => ?_⟩⟩
  · rw [upd_ne (ne_of_none ec a0)]
    exact S _ _ ec
  · obtain ⟨c0, cT, zs, ec, cl, cf⟩ := hg c d hc
    by_cases q : c = j
    · subst q
      obtain rfl : d = gs[c] := by rw [ej] at hc; exact (Option.some.inj hc).symm
      refine ⟨c0, cT, xs.set b v, upd_same, by rw [List.length_set]; exact el, fun b' hb' => ?_⟩
      by_cases w : b' = b
      · subst w
        rw [List.getElem?_set_self (by omega)]
        show some v = some (if c = c ∧ b' = b' then v else f c b')
        rw [if_pos ⟨rfl, rfl⟩]
      · rw [List.getElem?_set_ne (fun z => w z.symm)]
        show xs[b']? = some (if c = c ∧ b' = b then v else f c b')
        rw [if_neg (fun z => w z.2)]
        exact ef b' hb'
    · have nd2 : d ≠ gs[j] := fun z => q (nd_ix nd hc (by rw [z]; exact ej))
      refine ⟨c0, cT, zs, by rw [upd_ne nd2]; exact ec, cl, fun b' hb' => ?_⟩
      show zs[b']? = some (if c = j ∧ b' = b then v else f c b')
      rw [if_neg (fun z => q z.1)]
      exact cf b' hb'
theorem Grid.ne_new {H0 H : Hp} {T z : Addr} {n k : Nat} {f : Nat → Nat → V} (g : Grid H0 H T n k f) (hz : H z = none) : z ≠ T := by
  obtain ⟨_, _, gs, _, _, hT, _⟩ := g
  exact (ne_of_none hT hz).symm
theorem Grid.push {H0 H H' : Hp} {T z : Addr} {n k : Nat} {f : Nat → Nat → V} {ys : List V} (g : Grid H0 H T n k f) (hn : H z = none) (S' : Same H H') (hz : H' z = some (.lst ys)) (hl : ys.length = n) (hf : ∀ b, b < n → ys[b]? = some (f k b)) : ∃ acc : List V, H' T = some (.lst acc) ∧ acc.length = k ∧ Grid H0 (upd H' T (.lst (acc ++ [.ref z]))) T n (k + 1) f := by
  have zT := g.ne_new hn
  obtain ⟨S, t0, gs, e, nd, hT, hg⟩ := g
  have z0 := Same.free S hn
  have zg : z ∉ gs := fun q => by
    obtain ⟨a, ha⟩ := List.getElem?_of_mem q
    obtain ⟨_, _, xs, ea, _⟩ := hg a z ha
    rw [hn] at ea
    cases ea
  refine ⟨_, S' _ _ hT, by rw [List.length_map]; exact e, fun b o eb => ?_, t0, gs ++ [z], by rw [List.length_append, e]; rfl, ?_, by rw [upd_same, List.map_append]; rfl, fun a c ha => ?_⟩
  · rw [upd_ne (ne_of_none eb t0)]
    exact S' _ _ (S _ _ eb)
  · rw [List.nodup_append]
    exact ⟨nd, by simp, fun a ha b hb => by rw [List.mem_singleton] at hb; subst hb; exact fun q => zg (q ▸ ha)⟩
  · rcases Nat.lt_or_ge a gs.length with q | q
    · rw [List.getElem?_append_left q] at ha
      obtain ⟨a0, aT, xs, ea, el, ef⟩ := hg a c ha
      exact ⟨a0, aT, xs, by rw [upd_ne aT]; exact S' _ _ ea, el, ef⟩
    · have hq : a = k := by
        have := (List.getElem?_eq_some_iff.mp ha).1
        rw [List.length_append] at this
        have l : [z].length = 1 := rfl
        omega
      subst hq
      rw [← e, List.getElem?_append_right (Nat.le_refl _), Nat.sub_self] at ha
      obtain rfl : z = c := Option.some.inj ha
      exact ⟨z0, zT, ys, by rw [upd_ne zT]; exact hz, hl, hf⟩
/-- the tie at a, b of the table over rows tss -/
def cell (bs : List Int) (tss : List (List Int)) (a b : Nat) : V :=
  if b < a then match (tss[a]?.getD [])[b]? with
    | some t => .int t
    | none => .non
  else if a < b then match (tss[b]?.getD [])[a]? with
    | some t => .int (bs[t.toNat]?.getD 0)
    | none => .non
  else .non
/-- the table as it stands at place j, i of the loops -/
def cellAt (bs : List Int) (tss : List (List Int)) (j i a b : Nat) : V := if max a b < j ∨ (max a b = j ∧ min a b < i) then cell bs tss a b else .non
theorem cellAt_next {bs : List Int} {tss : List (List Int)} {j n a b : Nat} (h : ∀ r, tss[j]? = some r → r.length ≤ n) (hj : j < tss.length ∨ True) (hn : n = j) : cellAt bs tss j n a b = cellAt bs tss (j + 1) 0 a b := by
  subst hn
  unfold cellAt
  by_cases c : max a b < n ∨ (max a b = n ∧ min a b < n)
  · rw [if_pos c, if_pos (by omega)]
  · rw [if_neg c]
    by_cases d : max a b < n + 1 ∨ (max a b = n + 1 ∧ min a b < 0)
    · rw [if_pos d]
      have e1 : a = n := by omega
      have e2 : b = n := by omega
      subst e1
      subst e2
      unfold cell
      rw [if_neg (Nat.lt_irrefl _), if_neg (Nat.lt_irrefl _)]
    · rw [if_neg d]
theorem cellAt_step {bs : List Int} {tss : List (List Int)} {j i a b : Nat} {r : List Int} {t : Int} (hr : tss[j]? = some r) (ht : r[i]? = some t) (hi : i < j) :
    (if a = i ∧ b = j then V.int (bs[t.toNat]?.getD 0) else if a = j ∧ b = i then V.int t else cellAt bs tss j i a b) = cellAt bs tss j (i + 1) a b := by
  unfold cellAt
  by_cases c : a = i ∧ b = j
  · obtain ⟨rfl, rfl⟩ := c
    rw [if_pos ⟨rfl, rfl⟩, if_pos (by omega)]
    unfold cell
    rw [if_neg (by omega), if_pos hi, hr]
    show _ = (match r[a]? with | some t => V.int (bs[t.toNat]?.getD 0) | none => V.non)
    rw [ht]
  · rw [if_neg c]
    by_cases d : a = j ∧ b = i
    · obtain ⟨rfl, rfl⟩ := d
      rw [if_pos ⟨rfl, rfl⟩, if_pos (by omega)]
      unfold cell
      rw [if_pos hi, hr]
      show _ = (match r[b]? with | some t => V.int t | none => V.non)
      rw [ht]
    · rw [if_neg d]
      by_cases e : max a b < j ∨ (max a b = j ∧ min a b < i)
      · rw [if_pos e, if_pos (by omega)]
      · rw [if_neg e, if_neg (by omega)]
theorem ixN_in {n j : Nat} (hj : j < n) : ixN n (j : Int) = some j := by
  unfold ixN
  rw [if_pos (by omega), if_pos (by omega)]
  rfl
abbrev s_table_of : Stmt := top 20
theorem sc_table_of : FnScope ["ties", "rows", "table", "j", "row", "i", "tie", "_", "line"] ["ties", "rows"] (defScope s_table_of) := ⟨rfl, rfl, rfl, by decide +kernel, rfl, by decide +kernel, by decide +kernel⟩
/-- at p the rows of ties: tuples, each as long as its place -/
def RowsAt (H : Hp) (p : Addr) (m : Nat) (ps : List Addr) (tss : List (List Int)) : Prop := H p = some (.tup (ps.map V.ref)) ∧ ps.length = tss.length ∧ ∀ (j : Nat) (a : Addr) (ts : List Int), ps[j]? = some a → tss[j]? = some ts → H a = some (.tup (ts.map V.int)) ∧ ts.length = j ∧ ∀ t ∈ ts, 0 ≤ t ∧ t < (m : Nat)
theorem RowsAt.keep {H H' : Hp} {p : Addr} {m : Nat} {ps : List Addr} {tss : List (List Int)} (h : RowsAt H p m ps tss) (S : Same H H') : RowsAt H' p m ps tss :=
  ⟨S _ _ h.1, h.2.1, fun j a ts e e2 => by obtain ⟨x, y⟩ := h.2.2 j a ts e e2; exact ⟨S _ _ x, y⟩⟩
/-- at z the table of the rows tss -/
def TableAt (H : Hp) (z : Addr) (bs : List Int) (tss : List (List Int)) : Prop := ∃ us : List Addr, H z = some (.tup (us.map V.ref)) ∧ us.length = tss.length ∧ ∀ (a : Nat) (u : Addr), us[a]? = some u → ∃ xs : List V, H u = some (.tup xs) ∧ xs.length = tss.length ∧ ∀ b, b < tss.length → xs[b]? = some (cell bs tss a b)
theorem TableAt.keep {H H' : Hp} {z : Addr} {bs : List Int} {tss : List (List Int)} (h : TableAt H z bs tss) (S : Same H H') : TableAt H' z bs tss := by
  obtain ⟨us, a, b, c⟩ := h
  refine ⟨us, S _ _ a, b, fun i u e => ?_⟩
  obtain ⟨xs, x, y⟩ := c i u e
  exact ⟨xs, S _ _ x, y⟩
def spTable (C : Addr) : Sp := fun vs H Q _ => ∃ (t p : Addr) (ns : List Int) (ps : List Addr) (tss : List (List Int)), vs = [.ref t, .ref p] ∧ TiesAt C H t ns ∧ RowsAt H p ns.length ps tss ∧ ps.length ≤ 60 ∧ ∀ (H' : Hp) (z : Addr), Same H H' → H z = none → TableAt H' z ns tss → Q (.ref z) H'
section
variable {P : Program} {w : World} {K : PySem.W.Frag} {mg : Str → Option Value} {base : Heap}
theorem ok_table_of {f C : Addr} {fd : FuncData} (F : Fun K "_table_of" "_table_of" s_table_of f fd) (TC : TiC K C) (nl : mg "len" = none) (nt : mg "tuple" = none) (ne : mg "enumerate" = none) : FnOk P w K mg base CX0 1 f fd ["ties", "rows"] (spTable C) := by
  refine F.ok sc_table_of (fun vs H Q E h => ?_) (fun cdv A outer s H vs Q E hr h => ?_)
  · obtain ⟨t, p, ns, ps, tss, rfl, _⟩ := h
    rfl
  · obtain ⟨t, p, ns, ps, tss, rfl, hT, hR, h60, k⟩ := h
    have hlen := hR.2.1
    refine ⟨_, (C8.pss_cut 
  (ps_setLc (i := 2) (own := [("_", 7)]) (g := gName 7) rfl sc_table_of.nd rfl rfl (sw_true rfl rfl rfl (by decide +kernel)) (pi_tup (pv 1)) (blkOk_by (own := [("_", 7)]) (N := ["ties", "rows", "table", "j", "row", "i", "tie", "_", "line"]) (sc := defScope s_table_of) (by decide +kernel)) (fun _ _ _ _ _ => pg_name (i := 7) sc_table_of.nd rfl (Or.inl rfl)) (fun _ _ _ _ _ => pts_nil) (fun _ _ _ _ _ => (pe_op op_rep (pe_lst (pa_cons pe_non pa_nil)) (pe_callB (id := "len") (r := rLen K) call_len_seq (by rfl) nl PySem.boot_len (pa_cons (pv 1) pa_nil))))) (pss_cons 
  (ps_for PassesOwn.never rfl (pi_enumT (by rfl) ne (pa_cons (pv 1) pa_nil)) (pg_tup (by rfl) (pgs_cons (pg_name (i := 3) sc_table_of.nd rfl (Or.inl rfl)) (pgs_cons (pg_name (i := 4) sc_table_of.nd rfl (Or.inl rfl)) pgs_nil))) (pss_one 
    (ps_for PassesOwn.never rfl (pi_enumT (by rfl) ne (pa_cons (pv 4) pa_nil)) (pg_tup (by rfl) (pgs_cons (pg_name (i := 5) sc_table_of.nd rfl (Or.inl rfl)) (pgs_cons (pg_name (i := 6) sc_table_of.nd rfl (Or.inl rfl)) pgs_nil))) (pss_cons 
      (ps_asg (pv 6) (pg_sub (pe_ix ix_list (pv 2) (pv 3) (fun _ _ => rfl)) (pv 5) set_list)) (pss_one 
      (ps_asg (pe_ix ix_tup (pe_fld (pv 0) rfl) (pv 6) (fun _ _ => rfl)) (pg_sub (pe_ix ix_list (pv 2) (pv 5) (fun _ _ => rfl)) (pv 3) set_list))))))) (pss_one 
  (ps_ret (pe_callTy call_tuple_of (by rfl) nt (by decide +kernel) (pa_cons (pe_lc (own := [("line", 8)]) (g := gName 8) (by rfl) sc_table_of.nd (pi_list (pv 2)) (blkOk_by (own := [("line", 8)]) (N := ["ties", "rows", "table", "j", "row", "i", "tie", "_", "line"]) (sc := defScope s_table_of) (by decide +kernel)) (fun _ _ _ _ _ => pg_name (i := 8) sc_table_of.nd rfl (Or.inl rfl)) (fun _ _ _ _ _ => pts_nil) (fun _ _ _ _ _ => (pe_callTy (T := "tuple") (r := rTup K) call_tuple_of (by rfl) nt (by decide +kernel) (pa_cons (pv 8) pa_nil)))) pa_nil)))))), ?_⟩
    refine ⟨fun σ' H' => ∃ (T : Addr) (v3 v4 v5 v6 : Option V), σ' = [some (.ref t), some (.ref p), some (.ref T), v3, v4, v5, v6, none, none] ∧ Grid H H' T ps.length ps.length (fun _ _ => .non), ?_, ?_⟩
    · refine ⟨_, rfl, p, rfl, ⟨_, SqT.of hR.1⟩, fun D hD => ?_⟩
      refine lc_tup (K := K) (a := p) (xs := ps.map V.ref) (fun i H1 => Grid H H1 D ps.length i (fun _ _ => .non)) ⟨new_same hD, hD, [], rfl, .nil, upd_same, fun a c ha => nomatch ha⟩ (fun i H1 _ g => SqT.of (g.1 _ _ hR.1)) ?_ ?_
      · rintro i x H1 hx g
        refine ⟨rfl, yesT ?_⟩
        have hi : i < ps.length := by
          have q := (List.getElem?_eq_some_iff.mp hx).1
          rw [List.length_map] at q
          exact q
        refine ⟨(by show 1 ≤ sizeLine; decide), fun q hq => ⟨_, rfl, p, _, rfl, .inr (SqT.of ((new_same hq) _ _ (g.1 _ _ hR.1))), q, _, [.non], rfl, rfl, upd_same, by omega, by rw [List.length_map]; omega, ?_, fun z hz => ?_⟩⟩
        · rw [List.length_map]
          show 1 * ps.length ≤ 16777216
          omega
        · have g1 := g.new (o := .lst [.non]) hq
          have fl : ((List.replicate (((ps.map V.ref).length : Nat) : Int).toNat [V.non]).flatten) = List.replicate ps.length V.non := by
            rw [List.length_map, Int.toNat_natCast]
            generalize ps.length = n
            induction n with
            | zero => rfl
            | succ n ih => rw [List.replicate_succ, List.flatten_cons, ih, List.replicate_succ]; rfl
          rw [fl]
          obtain ⟨acc, ea, el, gg⟩ := g1.push (H' := upd (upd H1 q (.lst [.non])) z (.lst (List.replicate ps.length V.non))) hz (new_same hz) upd_same (by rw [List.length_replicate]) (fun b hb => by rw [List.getElem?_replicate, if_pos hb])
          exact ⟨acc, ea, by rw [el]; show i < 16777216; omega, gg⟩
      · rintro H1 g
        rw [List.length_map] at g
        exact ⟨D, _, _, _, _, rfl, g⟩
    · rintro σ' H' ⟨T, v3, v4, v5, v6, rfl, g⟩
      obtain ⟨dx, tb, hx, htb⟩ := id hT
      refine ⟨_, rfl, p, _, rfl, SqT.of (g.1 _ _ hR.1), for_enumT (K := K) (a := p) (xs := ps.map V.ref) (fun i σ H1 => ∃ v3 v4 v5 v6 : Option V, σ = [some (.ref t), some (.ref p), some (.ref T), v3, v4, v5, v6, none, none] ∧ Grid H H1 T ps.length ps.length (cellAt ns tss i 0))
        ⟨v3, v4, v5, v6, rfl, g.congr (fun a b _ _ => by unfold cellAt; rw [if_neg (by omega)])⟩ (fun i σ H1 _ ⟨_, _, _, _, _, g1⟩ => SqT.of (g1.1 _ _ hR.1)) ?_ ?_⟩
      · rintro j x σ H1 Z hxj ⟨v3, v4, v5, v6, rfl, g1⟩ hZ
        have hj : j < ps.length := by
          have q := (List.getElem?_eq_some_iff.mp hxj).1
          rw [List.length_map] at q
          exact q
        obtain ⟨a, ha, rfl⟩ : ∃ a, ps[j]? = some a ∧ x = V.ref a := by
          rw [List.getElem?_map, List.getElem?_eq_getElem hj] at hxj
          exact ⟨ps[j], List.getElem?_eq_getElem hj, (Option.some.inj hxj).symm⟩
        have hjt : j < tss.length := by omega
        have ets := List.getElem?_eq_getElem hjt
        generalize tss[j] = ts at ets
        obtain ⟨hts, tl, tr⟩ := hR.2.2 j a ts ha ets
        refine ⟨Z, _, rfl, SqT.of upd_same, rfl, _, _, rfl, _, _, rfl, rfl, ?_⟩
        have g2 := g1.new (o := .tup [.int (j : Nat), .ref a]) hZ
        generalize upd H1 Z (.tup [.int (j : Nat), .ref a]) = H2 at g2
        refine ⟨_, rfl, a, _, rfl, SqT.of (g2.1 _ _ hts), for_enumT (K := K) (a := a) (xs := ts.map V.int) (fun i σ H1 => ∃ v5 v6 : Option V, σ = [some (.ref t), some (.ref p), some (.ref T), some (.int (j : Nat)), some (.ref a), v5, v6, none, none] ∧ Grid H H1 T ps.length ps.length (cellAt ns tss j i))
          ⟨_, _, rfl, g2⟩ (fun i σ H1 _ ⟨_, _, _, g1⟩ => SqT.of (g1.1 _ _ hts)) ?_ ?_⟩
        · rintro i y σ H3 Z2 hyi ⟨v5, v6, rfl, g3⟩ hZ2
          have hi : i < ts.length := by
            have q := (List.getElem?_eq_some_iff.mp hyi).1
            rw [List.length_map] at q
            exact q
          obtain ⟨c, hc0, hc, rfl⟩ : ∃ c, ts[i]? = some c ∧ c ∈ ts ∧ y = V.int c := by
            rw [List.getElem?_map, List.getElem?_eq_getElem hi] at hyi
            exact ⟨ts[i], List.getElem?_eq_getElem hi, List.getElem_mem hi, (Option.some.inj hyi).symm⟩
          obtain ⟨c0, c1⟩ := tr c hc
          refine ⟨Z2, _, rfl, SqT.of upd_same, rfl, _, _, rfl, _, _, rfl, rfl, ?_⟩
          have g4 := g3.new (o := .tup [.int (i : Nat), .int c]) hZ2
          generalize upd H3 Z2 (.tup [.int (i : Nat), .int c]) = H4 at g4
          obtain ⟨b1, xs1, L1, e1, e2, e3, e4, _, e5⟩ := g4.at_ hj
          have g5 := e5 i (.int c) (by omega)
          refine ⟨_, rfl, _, rfl, _, rfl, _, _, _, _, rfl, rfl, SqL.of e1, at_of (j := j) rfl e2, _, rfl, b1, xs1, _, i, rfl, rfl, e3, by rw [e4]; exact ixN_in (by omega), ?_⟩
          generalize upd H4 b1 (.lst (xs1.set i (.int c))) = H5 at g5
          have hx5 := g5.1 _ _ hx
          have ht5 := g5.1 _ _ htb
          obtain ⟨b2, xs2, L2, f1, f2, f3, f4, _, f5⟩ := g5.at_ (j := i) (by omega)
          have hnc : ns[c.toNat]? = some (ns[c.toNat]'(by omega)) := List.getElem?_eq_getElem (by omega)
          have hcn : (ns.map V.int)[c.toNat]? = some (V.int (ns[c.toNat]'(by omega))) := by
            rw [List.getElem?_map, hnc]
            rfl
          refine ⟨_, rfl, t, C, dx, _, _, rfl, hx5, TC.cl, TC.nB, tf_backs _ _, _, rfl, _, _, _, _, rfl, rfl, SqT.of ht5, at_of (j := c.toNat) (by omega) hcn, ?_⟩
          refine ⟨_, rfl, _, rfl, _, _, _, _, rfl, rfl, SqL.of f1, at_of (j := i) rfl f2, _, rfl, b2, xs2, _, j, rfl, rfl, f3, by rw [f4]; exact ixN_in (by omega), ?_⟩
          refine ⟨_, _, rfl, (f5 j _ hj).congr fun a' b' _ _ => ?_⟩
          have q := cellAt_step (bs := ns) (a := a') (b := b') ets hc0 (by omega)
          rw [hnc] at q
          exact q
        · rintro σ H3 ⟨v5, v6, rfl, g3⟩
          rw [List.length_map] at g3
          exact ⟨_, _, _, _, rfl, g3.congr fun a' b' _ _ => cellAt_next (fun r er => by rw [ets] at er; obtain rfl := Option.some.inj er; exact Nat.le_refl _) (.inr trivial) (by omega)⟩
      · rintro σ H1 ⟨v3, v4, v5, v6, rfl, ⟨S1, t0, gs, el, _, eT, hg⟩⟩
        rw [List.length_map] at hg
        have fin : ∀ a b, a < ps.length → b < ps.length → cellAt ns tss ps.length 0 a b = cell ns tss a b := fun a b ha hb => by
          unfold cellAt
          rw [if_pos (by omega)]
        refine ⟨_, rfl, T, rfl, ⟨_, SqL.of eT⟩, fun D hD => ?_⟩
        refine lc_list (K := K) (a := T) (xs := gs.map V.ref) (fun i H2 => Same H1 H2 ∧ H1 D = none ∧ ∃ us : List Addr, us.length = i ∧ H2 D = some (.lst (us.map V.ref)) ∧ ∀ (a : Nat) (u : Addr), us[a]? = some u → u ≠ D ∧ ∃ xs : List V, H2 u = some (.tup xs) ∧ xs.length = ps.length ∧ ∀ b, b < ps.length → xs[b]? = some (cell ns tss a b)) ⟨new_same hD, hD, [], rfl, upd_same, fun a u e => nomatch e⟩ (fun i H2 _ ⟨S2, _⟩ => SqL.of (S2 _ _ eT)) ?_ ?_
        · rintro i x H2 hxi ⟨S2, D0, us, ul, ea, hu⟩
          have hi : i < gs.length := by
            have q := (List.getElem?_eq_some_iff.mp hxi).1
            rw [List.length_map] at q
            exact q
          obtain ⟨b, hb, rfl⟩ : ∃ b, gs[i]? = some b ∧ x = V.ref b := by
            rw [List.getElem?_map, List.getElem?_eq_getElem hi] at hxi
            exact ⟨gs[i], List.getElem?_eq_getElem hi, (Option.some.inj hxi).symm⟩
          obtain ⟨_, _, xs, eb, xl, xf⟩ := hg i b hb
          refine ⟨rfl, yesT ?_⟩
          refine ⟨_, rfl, b, xs, rfl, .inl ⟨SqL.of (S2 _ _ eb), fun z hz => ?_⟩⟩
          have nz : D ≠ z := ne_of_none ea hz
          refine ⟨us.map V.ref, by rw [upd_ne nz]; exact ea, by rw [List.length_map]; show us.length < 16777216; omega, fun c o ec => ?_, D0, us ++ [z], by rw [List.length_append, ul]; rfl, by rw [upd_same, List.map_append]; rfl, fun a u e => ?_⟩
          · rw [upd_ne (ne_of_none ec D0), upd_ne (ne_of_none (S2 _ _ ec) hz)]
            exact S2 _ _ ec
          · rcases Nat.lt_or_ge a us.length with q | q
            · rw [List.getElem?_append_left q] at e
              obtain ⟨n1, ys, w1, w2⟩ := hu a u e
              exact ⟨n1, ys, by rw [upd_ne n1, upd_ne (ne_of_none w1 hz)]; exact w1, w2⟩
            · have hq : a = i := by
                have := (List.getElem?_eq_some_iff.mp e).1
                rw [List.length_append] at this
                have l : [z].length = 1 := rfl
                omega
              subst hq
              rw [← ul, List.getElem?_append_right (Nat.le_refl _), Nat.sub_self] at e
              obtain rfl : z = u := Option.some.inj e
              refine ⟨nz.symm, xs, by rw [upd_ne nz.symm, upd_same], xl, fun b' hb' => ?_⟩
              rw [xf b' hb', fin a b' (by omega) hb']
        · rintro H2 ⟨S2, D0, us, ul, ea, hu⟩
          refine ⟨D, _, rfl, .inl ⟨SqL.of ea, fun z hz => ?_⟩⟩
          rw [List.length_map] at ul
          refine k _ z ((S1.trans S2).trans (new_same hz)) (Same.free (S1.trans S2) hz) ⟨us, upd_same, by omega, fun a u e => ?_⟩
          obtain ⟨_, xs, w1, w2, w3⟩ := hu a u e
          exact ⟨xs, (new_same hz) _ _ w1, by omega, fun b hb => w3 b (by omega)⟩
end
end J

set_option Elab.async false
set_option linter.all false
set_option maxRecDepth 100000
set_option maxHeartbeats 4000000
namespace J
open PySem PySem.Spec PyProof.Rows L2
/-! ### a company is made -/
theorem dc_enumT {K : PySem.W.Frag} {a : Addr} {xs : List V} {g : TG} {tt : TT} {tk tv : TE} {vs : List Nat} {σ : L2.St} {H1 : Hp} {D : Addr} {Qd : Hp → Prop} (Pv : Nat → Hp → Prop) (h0 : Pv 0 (upd H1 D (.dK []))) (hl : ∀ i H, i ≤ xs.length → Pv i H → SqT K H a xs)
    (hs : ∀ i x H T, xs[i]? = some x → Pv i H → H T = none → g (.ref T) (wipe σ vs) (upd H T (.tup [.int (i : Nat), x])) fun σ2 H2 => wipe σ2 vs = wipe σ vs ∧ tt σ2 H2 fun b H3 =>
      if b = true then tk σ2 H3 fun y H4 => tv σ2 H4 fun z H5 => ∃ kvs k, y = kV k ∧ H5 D = some (.dK kvs) ∧ kvs.length < sizeLine ∧ Pv (i + 1) (upd H5 D (.dK (putK kvs k z))) else Pv (i + 1) H3) (hd : ∀ H, Pv xs.length H → Qd H) :
    ∃ W : Nat → Nat → Hp → Prop, (∃ m, W 0 m (upd H1 D (.dK []))) ∧ ∀ i m H, W i m H →
      ((Itet K a).stop i H ∧ Qd H) ∨ ((Itet K a).go i H ∧ ∃ Nx : Hp → Prop, (∀ H', Nx H' → ∃ m', m' < m ∧ W (i + 1) m' H') ∧ ∀ x H', (Itet K a).yld i H x H' → g x (wipe σ vs) H' fun σ2 H2 => wipe σ2 vs = wipe σ vs ∧ tt σ2 H2 fun b H3 =>
        if b = true then tk σ2 H3 fun y H4 => tv σ2 H4 fun z H5 => ∃ kvs k, y = kV k ∧ H5 D = some (.dK kvs) ∧ kvs.length < sizeLine ∧ Nx (upd H5 D (.dK (putK kvs k z))) else Nx H3) := by
  refine ⟨fun i m H => m = xs.length - i ∧ i ≤ xs.length ∧ Pv i H, ⟨xs.length, by simp, Nat.zero_le _, h0⟩, ?_⟩
  rintro i m H ⟨rfl, hi, p⟩
  have q := hl i H hi p
  by_cases hlt : i < xs.length
  · refine .inr ⟨⟨xs, xs[i], q, by simp [hlt]⟩, Pv (i + 1), fun H' p' => ⟨xs.length - (i + 1), by omega, rfl, hlt, p'⟩, ?_⟩
    rintro x H' ⟨T, y, rfl, hT, rfl, hy⟩
    exact hs i y H T (hy xs q) p hT
  · have e : i = xs.length := by omega
    subst e
    exact .inl ⟨⟨xs, q, rfl⟩, hd H p⟩
theorem ints_of : ∀ {xs : List V}, (∀ x ∈ xs, ∃ i, x = V.int i) → ∃ is : List Int, xs = is.map V.int
  | [], _ => ⟨[], rfl⟩
  | x :: xs, h => by
    obtain ⟨i, rfl⟩ := h x (List.mem_cons_self ..)
    obtain ⟨is, rfl⟩ := ints_of (xs := xs) fun y hy => h y (List.mem_cons_of_mem _ hy)
    exact ⟨i :: is, rfl⟩
/-- what a due of none says -/
structure GoodC (m : Nat) (g r : Sh) (ss : List Sh) : Prop where
  sq : ((g.isL || g.isT) && (r.isL || r.isT)) = true
  le : (items g).length ≤ 60
  ln : (items r).length ≤ (items g).length
  wd : ∀ j, j < (items g).length → wordC m (items g) ss j = none
theorem scan_get {f : Nat → Option Str} : ∀ {n : Nat}, scan f n = none → ∀ j, j < n → f j = none
  | 0, _, j, hj => absurd hj (Nat.not_lt_zero j)
  | n + 1, h, j, hj => by
    have h' : (match scan f n with | some r => some r | none => (f n).map fun w => (n, w)) = none := h
    cases e : scan f n with
    | some r => rw [e] at h'; cases h'
    | none =>
      rw [e] at h'
      rcases Nat.lt_or_ge j n with hl | hl
      · exact scan_get e j hl
      · obtain rfl : j = n := by omega
        cases e2 : f j with
        | none => rfl
        | some w => rw [e2] at h'; cases h'
theorem goodC_of {m : Nat} {g r : Sh} {ss : List Sh} (h : dueC m g r ss = none) : GoodC m g r ss := by
  unfold dueC at h
  by_cases h1 : ((g.isL || g.isT) && (r.isL || r.isT)) = true
  · rw [if_pos h1] at h
    by_cases h2 : (items g).length ≤ 60
    · rw [if_pos h2] at h
      cases e : scan (wordC m (items g) ss) (items g).length with
      | some p =>
        rw [e] at h
        cases h
      | none =>
        rw [e] at h
        have h' : (if (items g).length < (items r).length then some ((((items g).length : Nat) : Int), ("rows" : Str)) else none) = none := h
        by_cases h3 : (items g).length < (items r).length
        · rw [if_pos h3] at h'; cases h'
        · exact ⟨h1, h2, by omega, scan_get e⟩
    · rw [if_neg h2] at h; cases h
  · rw [if_neg h1] at h; cases h
theorem rowW_good {m n : Nat} {s : Sh} (h : rowW m n s = none) : (s.isL || s.isT) = true ∧ ∃ ts : List Int, items s = ts.map V.int ∧ ts.length = n ∧ ∀ t ∈ ts, 0 ≤ t ∧ t < (m : Nat) := by
  unfold rowW at h
  by_cases h1 : (s.isL || s.isT) = true
  · rw [if_pos h1] at h
    by_cases h2 : (items s).length = n
    · rw [if_pos h2] at h
      by_cases h3 : ∀ x ∈ items s, wholeB x 0 ((m : Nat) - 1) = true
      · obtain ⟨ts, e⟩ := ints_of fun x hx => let ⟨b, e, _⟩ := whole_int (h3 x hx); ⟨b, e⟩
        refine ⟨h1, ts, e, by rw [← h2, e, List.length_map], fun t ht => ?_⟩
        have q : V.int t ∈ items s := by rw [e]; exact List.mem_map.mpr ⟨t, ht, rfl⟩
        obtain ⟨b, eb, b0, b1⟩ := whole_int (h3 _ q)
        have : t = b := by injection eb
        subst this
        exact ⟨b0, by omega⟩
      · rw [if_neg h3] at h; cases h
    · rw [if_neg h2] at h; cases h
  · rw [if_neg h1] at h; cases h
theorem word_good {m j : Nat} {gs : List V} {ss : List Sh} {x : V} (hx : gs[j]? = some x) (h : wordC m gs ss j = none) : wholeB x 0 1000000000 = true ∧ ∃ s, ss[j]? = some s ∧ rowW m j s = none := by
  unfold wordC at h
  rw [hx] at h
  have h' : (if wholeB x 0 1000000000 = true then if ordB gs j = true then some ("order" : Str) else match ss[j]? with | none => some ("row" : Str) | some s => rowW m j s else some ("label" : Str)) = none := h
  by_cases h1 : wholeB x 0 1000000000 = true
  · rw [if_pos h1] at h'
    by_cases h2 : ordB gs j = true
    · rw [if_pos h2] at h'; cases h'
    · rw [if_neg h2] at h'
      cases e : ss[j]? with
      | none => rw [e] at h'; cases h'
      | some s => rw [e] at h'; exact ⟨h1, s, rfl, h'⟩
  · rw [if_neg h1] at h'; cases h'
/-- guests are ints -/
theorem GoodC.ints {m : Nat} {g r : Sh} {ss : List Sh} (h : GoodC m g r ss) : ∃ is : List Int, items g = is.map V.int := by
  refine ints_of fun x hx => ?_
  obtain ⟨j, hj⟩ := List.getElem?_of_mem hx
  obtain ⟨w, _⟩ := word_good hj (h.wd j (List.getElem?_eq_some_iff.mp hj).1)
  obtain ⟨b, e, _⟩ := whole_int w
  exact ⟨b, e⟩
theorem GoodC.row {m : Nat} {g r : Sh} {ss : List Sh} (h : GoodC m g r ss) {j : Nat} (hj : j < (items g).length) : ∃ s, ss[j]? = some s ∧ rowW m j s = none :=
  (word_good (List.getElem?_eq_getElem hj) (h.wd j hj)).2
theorem GoodC.full {m : Nat} {g r : Sh} {ss : List Sh} (h : GoodC m g r ss) : (items g).length ≤ ss.length := by
  rcases Nat.lt_or_ge ss.length (items g).length with c | c
  · obtain ⟨s, es, _⟩ := h.row (j := ss.length) c
    have := (List.getElem?_eq_some_iff.mp es).1
    omega
  · exact c
def toInts (xs : List V) : List Int := xs.filterMap fun | .int i => some i | _ => none
theorem toInts_map (is : List Int) : toInts (is.map V.int) = is := by
  unfold toInts
  rw [List.filterMap_map]
  exact List.filterMap_some
theorem GoodC.tss {m : Nat} {g r : Sh} {ss : List Sh} (h : GoodC m g r ss) (hl : ss.length ≤ (items g).length) : ∃ tss : List (List Int), tss.length = ss.length ∧ ∀ (j : Nat) (s : Sh) (ts : List Int), ss[j]? = some s → tss[j]? = some ts → items s = ts.map V.int ∧ ts.length = j ∧ ∀ t ∈ ts, 0 ≤ t ∧ t < (m : Nat) := by
  refine ⟨ss.map fun s => toInts (items s), by rw [List.length_map], fun j s ts es ets => ?_⟩
  have hj : j < ss.length := (List.getElem?_eq_some_iff.mp es).1
  rw [List.getElem?_map, es] at ets
  have q : toInts (items s) = ts := Option.some.inj ets
  obtain ⟨s', es', ew⟩ := h.row (j := j) (by omega)
  rw [es] at es'
  obtain rfl := Option.some.inj es'
  obtain ⟨_, ts', e1, e2, e3⟩ := rowW_good ew
  rw [e1, toInts_map] at q
  subst q
  exact ⟨e1, e2, e3⟩
/-- the class Company in the written part -/
structure CoC (K : PySem.W.Frag) (C : Addr) : Prop where
  cl : Cls K C
  nT : NoAttr K C "ties"
  nG : NoAttr K C "guests"
  nR : NoAttr K C "rows"
  nB : NoAttr K C "table"
  nP : NoAttr K C "_places"
def f1 (t : Addr) : List (Str × V) := putF "ties" (.ref t) []
def f2 (t g : Addr) : List (Str × V) := putF "guests" (.ref g) (f1 t)
def f3 (t g r : Addr) : List (Str × V) := putF "rows" (.ref r) (f2 t g)
def f4 (t g r b : Addr) : List (Str × V) := putF "table" (.ref b) (f3 t g r)
def cf (t g r b p : Addr) : List (Str × V) := putF "_places" (.ref p) (f4 t g r b)
theorem l1 (t : Addr) : (f1 t).length < 1000 := Nat.lt_of_le_of_lt (length_putF _ _ _) (by decide)
theorem l2' {f : Str} {v : V} {fs : List (Str × V)} {n : Nat} (h : fs.length ≤ n) : (putF f v fs).length ≤ n + 1 := Nat.le_trans (length_putF _ _ _) (by omega)
theorem l2 (t g : Addr) : (f2 t g).length < 1000 := Nat.lt_of_le_of_lt (l2' (n := 1) (l2' (n := 0) (Nat.le_refl _))) (by decide)
theorem l3 (t g r : Addr) : (f3 t g r).length < 1000 := Nat.lt_of_le_of_lt (l2' (n := 2) (l2' (n := 1) (l2' (n := 0) (Nat.le_refl _)))) (by decide)
theorem l4 (t g r b : Addr) : (f4 t g r b).length < 1000 := Nat.lt_of_le_of_lt (l2' (n := 3) (l2' (n := 2) (l2' (n := 1) (l2' (n := 0) (Nat.le_refl _))))) (by decide)
theorem ne_ties_guests : ¬ (("ties" : Str) = "guests") := by decide +kernel
theorem ne_ties_rows : ¬ (("ties" : Str) = "rows") := by decide +kernel
theorem ne_ties_table : ¬ (("ties" : Str) = "table") := by decide +kernel
theorem ne_ties__places : ¬ (("ties" : Str) = "_places") := by decide +kernel
theorem ne_guests_ties : ¬ (("guests" : Str) = "ties") := by decide +kernel
theorem ne_guests_rows : ¬ (("guests" : Str) = "rows") := by decide +kernel
theorem ne_guests_table : ¬ (("guests" : Str) = "table") := by decide +kernel
theorem ne_guests__places : ¬ (("guests" : Str) = "_places") := by decide +kernel
theorem ne_rows_ties : ¬ (("rows" : Str) = "ties") := by decide +kernel
theorem ne_rows_guests : ¬ (("rows" : Str) = "guests") := by decide +kernel
theorem ne_rows_table : ¬ (("rows" : Str) = "table") := by decide +kernel
theorem ne_rows__places : ¬ (("rows" : Str) = "_places") := by decide +kernel
theorem ne_table_ties : ¬ (("table" : Str) = "ties") := by decide +kernel
theorem ne_table_guests : ¬ (("table" : Str) = "guests") := by decide +kernel
theorem ne_table_rows : ¬ (("table" : Str) = "rows") := by decide +kernel
theorem ne_table__places : ¬ (("table" : Str) = "_places") := by decide +kernel
theorem ne__places_ties : ¬ (("_places" : Str) = "ties") := by decide +kernel
theorem ne__places_guests : ¬ (("_places" : Str) = "guests") := by decide +kernel
theorem ne__places_rows : ¬ (("_places" : Str) = "rows") := by decide +kernel
theorem ne__places_table : ¬ (("_places" : Str) = "table") := by decide +kernel
theorem f3_rows (t g r : Addr) : (f3 t g r).lookup ("rows" : Str) = some (.ref r) := by
  unfold f3
  rw [lookup_putF, if_pos rfl]
theorem f4_guests (t g r b : Addr) : (f4 t g r b).lookup ("guests" : Str) = some (.ref g) := by
  unfold f4 f3 f2
  rw [lookup_putF, if_neg ne_guests_table, lookup_putF, if_neg ne_guests_rows, lookup_putF, if_pos rfl]
theorem cf_guests (t g r b p : Addr) : (cf t g r b p).lookup ("guests" : Str) = some (.ref g) := by
  unfold cf
  rw [lookup_putF, if_neg ne_guests__places, f4_guests]
theorem cf_rows (t g r b p : Addr) : (cf t g r b p).lookup ("rows" : Str) = some (.ref r) := by
  unfold cf f4
  rw [lookup_putF, if_neg ne_rows__places, lookup_putF, if_neg ne_rows_table, f3_rows]
theorem TiesAt.ne {C CC : Addr} {H : Hp} {x dx t : Addr} {ns : List Int} (h : TiesAt C H t ns) (hx : H x = some (.ins CC dx [])) : t ≠ x := by
  obtain ⟨d, tb, e, _⟩ := h
  refine ne_of e hx fun z => ?_
  injection z with _ _ z
  have q := tf_backs tb (ns.length : Nat)
  rw [z] at q
  cases q
theorem TiesAt.but {C : Addr} {H H' : Hp} {x t CC dx : Addr} {ns : List Int} (h : TiesAt C H t ns) (hx : H x = some (.ins CC dx [])) (B : ∀ b o, b ≠ x → H b = some o → H' b = some o) : TiesAt C H' t ns := by
  have nt := h.ne hx
  obtain ⟨d, tb, e, e2⟩ := h
  exact ⟨d, tb, B _ _ nt e, B _ _ (ne_of e2 hx (by intro z; cases z)) e2⟩
theorem word_ord {m j : Nat} {gs : List V} {ss : List Sh} {x : V} (hx : gs[j]? = some x) (h : wordC m gs ss j = none) : ordB gs j = false := by
  obtain ⟨w, _⟩ := word_good hx h
  cases e : ordB gs j with
  | false => rfl
  | true => rw [word_order hx w e] at h; cases h
/-- one after another -/
def Asc (is : List Int) : Prop := ∀ (i : Nat) (a b : Int), is[i]? = some a → is[i + 1]? = some b → a < b
theorem Asc.lt {is : List Int} (h : Asc is) : ∀ (d i : Nat) (a b : Int), is[i]? = some a → is[i + 1 + d]? = some b → a < b
  | 0, i, a, b, e1, e2 => h i a b e1 e2
  | d + 1, i, a, b, e1, e2 => by
    have hl := (List.getElem?_eq_some_iff.mp e2).1
    have e3 := List.getElem?_eq_getElem (l := is) (i := i + 1 + d) (by omega)
    have q := Asc.lt h d i a _ e1 e3
    have r := h (i + 1 + d) _ b e3 e2
    omega
theorem Asc.inj {is : List Int} (h : Asc is) {i j : Nat} {a : Int} (e1 : is[i]? = some a) (e2 : is[j]? = some a) : i = j := by
  rcases Nat.lt_trichotomy i j with q | q | q
  · have := h.lt (j - i - 1) i a a e1 (by rw [show i + 1 + (j - i - 1) = j by omega]; exact e2)
    omega
  · exact q
  · have := h.lt (i - j - 1) j a a e2 (by rw [show j + 1 + (i - j - 1) = i by omega]; exact e1)
    omega
theorem GoodC.asc {m : Nat} {g r : Sh} {ss : List Sh} (h : GoodC m g r ss) {is : List Int} (e : items g = is.map V.int) : Asc is := fun i a b e1 e2 => by
  have h1 : (items g)[i]? = some (.int a) := by rw [e]; exact ints_at e1
  have h2 : (items g)[i + 1]? = some (.int b) := by rw [e]; exact ints_at e2
  have o := word_ord h2 (h.wd _ (List.getElem?_eq_some_iff.mp h2).1)
  rw [ord_ints h1 h2] at o
  have := of_decide_eq_false o
  omega
theorem GoodC.labels {m : Nat} {g r : Sh} {ss : List Sh} (h : GoodC m g r ss) {is : List Int} (e : items g = is.map V.int) : ∀ n ∈ is, 0 ≤ n ∧ n ≤ 1000000000 := fun n hn => by
  obtain ⟨j, hj⟩ := List.getElem?_of_mem hn
  have h1 : (items g)[j]? = some (.int n) := by rw [e]; exact ints_at hj
  obtain ⟨w, _⟩ := word_good h1 (h.wd j (List.getElem?_eq_some_iff.mp h1).1)
  obtain ⟨b, eb, b0, b1⟩ := whole_int w
  have : n = b := by injection eb
  omega
/-- where a label stands among the guests -/
def place (is : List Int) (k : Key) : Option V := match k with
  | .inl x => (is.findIdx? fun y => decide (y = x)).map fun j => V.int (j : Nat)
  | .inr _ => none
theorem place_next {is : List Int} {i : Nat} {n : Int} (h : is[i]? = some n) (a : Asc is) (k : Key) : place (is.take (i + 1)) k = if k = .inl n then some (.int (i : Nat)) else place (is.take i) k := by
  have e : is.take (i + 1) = is.take i ++ [n] := by rw [List.take_add_one, h]; rfl
  have hi : i < is.length := (List.getElem?_eq_some_iff.mp h).1
  have hl : (is.take i).length = i := by rw [List.length_take]; omega
  cases k with
  | inr s => rw [if_neg (by intro z; cases z)]; rfl
  | inl x =>
    by_cases c : x = n
    · subst c
      rw [if_pos rfl]
      have no : (is.take i).findIdx? (fun y => decide (y = x)) = none := by
        rw [List.findIdx?_eq_none_iff]
        intro y hy
        obtain ⟨j, hj⟩ := List.getElem?_of_mem hy
        have jl := (List.getElem?_eq_some_iff.mp hj).1
        rw [hl] at jl
        rw [List.getElem?_take_of_lt jl] at hj
        exact decide_eq_false fun q => by subst q; have := a.inj hj h; omega
      show Option.map _ ((is.take (i + 1)).findIdx? _) = _
      rw [e, List.findIdx?_append, no]
      simp [hl]
    · rw [if_neg (fun z => c (by injection z))]
      show ((is.take (i + 1)).findIdx? _).map _ = ((is.take i).findIdx? _).map _
      rw [e, List.findIdx?_append]
      simp [fun z => c (Eq.symm z)]
      cases (is.take i).findIdx? (fun y => decide (y = x)) <;> simp [Ne.symm c]
/-- a company at x: its Ties, its guests, its rows, its table, its places -/
def CompAt (C CC : Addr) (H : Hp) (x : Addr) (ns is : List Int) (tss : List (List Int)) : Prop := ∃ (dx t g r b p : Addr) (ps : List Addr) (kvs : List (Key × V)), H x = some (.ins CC dx (cf t g r b p)) ∧ TiesAt C H t ns ∧ H g = some (.tup (is.map V.int)) ∧ RowsAt H r ns.length ps tss ∧ TableAt H b ns tss ∧ H p = some (.dK kvs) ∧ (∀ k, valV kvs k = place is k) ∧ Asc is ∧ tss.length = is.length ∧ is.length ≤ 60 ∧ ∀ n ∈ is, 0 ≤ n ∧ n ≤ 1000000000
theorem CompAt.keep {C CC : Addr} {H H' : Hp} {x : Addr} {ns is : List Int} {tss : List (List Int)} (h : CompAt C CC H x ns is tss) (S : Same H H') : CompAt C CC H' x ns is tss := by
  obtain ⟨dx, t, g, r, b, p, ps, kvs, a1, a2, a3, a4, a5, a6, a7⟩ := h
  exact ⟨dx, t, g, r, b, p, ps, kvs, S _ _ a1, a2.keep S, S _ _ a3, a4.keep S, a5.keep S, S _ _ a6, a7⟩
abbrev s_Company_init : Stmt := inClass (top 19) 0
theorem sc_Company_init : FnScope ["self", "ties", "guests", "rows", "row", "place", "label"] ["self", "ties", "guests", "rows"] (defScope s_Company_init) := ⟨rfl, rfl, rfl, by decide +kernel, rfl, by decide +kernel, by decide +kernel⟩
def spCompI (C CC CB : Addr) : Sp := fun vs H Q E => ∃ (x dx t : Addr) (ns : List Int) (g r : V) (sg sr : Sh) (ss : List Sh), vs = [.ref x, .ref t, g, r] ∧ H x = some (.ins CC dx []) ∧ TiesAt C H t ns ∧ Is H g sg ∧ Known H (items sg) ∧ Is H r sr ∧ ShAll H (items sr) ss ∧ (items sg).length ≤ 1000 ∧
  (∀ i u, dueC ns.length sg sr ss = some (i, u) → Tells2 H CB "index" "what" (.int i) (.str u) E) ∧ (dueC ns.length sg sr ss = none → ∀ (H' : Hp) (is : List Int) (tss : List (List Int)), (∀ b o, b ≠ x → H b = some o → H' b = some o) → items sg = is.map V.int → Asc is → tss.length = is.length → (∀ (j : Nat) (s : Sh) (ts : List Int), ss[j]? = some s → tss[j]? = some ts → items s = ts.map V.int) → CompAt C CC H' x ns is tss → Q .non H')
section
variable {P : Program} {w : World} {K : PySem.W.Frag} {mg : Str → Option Value} {base : Heap}
theorem ok_Company_init {f C CC CB fK fT : Addr} {fd fdK fdT : FuncData} {dvs : List V} (F : FunD K "__init__" "Company.__init__" (defArgs s_Company_init) (defBody s_Company_init) (defScope s_Company_init) dvs [] f fd) (c : CoC K CC) (nt : mg "tuple" = none) (ne : mg "enumerate" = none)
    (GK : Cal P w K mg base (L2.CX P w) 4 "_check_company" fK fdK ["ties", "guests", "rows"] (spCC C CB)) (GT : Cal P w K mg base CX0 1 "_table_of" fT fdT ["ties", "rows"] (spTable C)) : FnOk P w K mg base (L2.CX P w) 5 f fd ["self", "ties", "guests", "rows"] (spCompI C CC CB) := by
  refine F.ok sc_Company_init (fun vs H Q E h => ?_) (fun cdv A outer s H vs Q E hr h => ?_)
  · obtain ⟨x, dx, t, ns, g, r, sg, sr, ss, rfl, _⟩ := h
    rfl
  · obtain ⟨x, dx, t, ns, g, r, sg, sr, ss, rfl, hx, hT, hg, kg, hrr, hs, lg, k1, k2⟩ := h
    cases sg with
    | sc u =>
      refine ⟨_, (pss_cons 
  (ps_expr (pcal GK hr (passes_call (takes_of rfl rfl rfl rfl) (fun _ _ _ _ h => h)) (pa_cons (pv 1) (pa_cons (pv 2) (pa_cons (pv 3) pa_nil))))) (pss_cons 
  (ps_fld (pv 0) (pv 1) rfl) (pss_cons 
  (ps_fld (pv 0) (pe_callTy (T := "tuple") (r := rTup K) call_tuple_of (by rfl) nt (by decide +kernel) (pa_cons (pv 2) pa_nil)) rfl) (pss_cons 
  (ps_fld (pv 0) (pe_callTy (T := "tuple") (r := rTup K) call_tuple_of (by rfl) nt (by decide +kernel) (pa_cons (pe_lc (own := [("row", 4)]) (g := gName 4) (by rfl) sc_Company_init.nd (pi_list (pv 3)) (blkOk_by (own := [("row", 4)]) (N := ["self", "ties", "guests", "rows", "row", "place", "label"]) (sc := defScope s_Company_init) (by decide +kernel)) (fun _ _ _ _ _ => pg_name (i := 4) sc_Company_init.nd rfl (Or.inl rfl)) (fun _ _ _ _ _ => pts_nil) (fun _ _ _ _ _ => (pe_callTy (T := "tuple") (r := rTup K) call_tuple_of (by rfl) nt (by decide +kernel) (pa_cons (pv 4) pa_nil)))) pa_nil)) rfl) (pss_cons 
  (ps_fld (pv 0) (pcal GT hr pass0 (pa_cons (pv 1) (pa_cons (pe_fld (pv 0) rfl) pa_nil))) rfl) (pss_one 
  (ps_fld (pv 0) (pe_dc (own := [("place", 5), ("label", 6)]) (g := gTup K 2 (gCons (gName 5) (gCons (gName 6) gNil))) (by rfl) sc_Company_init.nd (pi_enumT (by rfl) ne (pa_cons (pe_fld (pv 0) rfl) pa_nil)) (blkOk_by (own := [("place", 5), ("label", 6)]) (N := ["self", "ties", "guests", "rows", "row", "place", "label"]) (sc := defScope s_Company_init) (by decide +kernel)) (fun _ _ _ _ _ => pg_tup (by rfl) (pgs_cons (pg_name (i := 5) sc_Company_init.nd rfl (Or.inl rfl)) (pgs_cons (pg_name (i := 6) sc_Company_init.nd rfl (Or.inl rfl)) pgs_nil))) (fun _ _ _ _ _ => pts_nil) (fun _ _ _ _ _ => pv 6) (fun _ _ _ _ _ => pv 5)) rfl))))))), ?_⟩
      exact ⟨_, rfl, _, rfl, _, rfl, t, ns, g, r, .sc u, sr, ss, rfl, hT, hg, kg, hrr, hs, lg, k1, fun hd => nomatch (goodC_of hd).sq⟩
    | dk =>
      refine ⟨_, (pss_cons 
  (ps_expr (pcal GK hr (passes_call (takes_of rfl rfl rfl rfl) (fun _ _ _ _ h => h)) (pa_cons (pv 1) (pa_cons (pv 2) (pa_cons (pv 3) pa_nil))))) (pss_cons 
  (ps_fld (pv 0) (pv 1) rfl) (pss_cons 
  (ps_fld (pv 0) (pe_callTy (T := "tuple") (r := rTup K) call_tuple_of (by rfl) nt (by decide +kernel) (pa_cons (pv 2) pa_nil)) rfl) (pss_cons 
  (ps_fld (pv 0) (pe_callTy (T := "tuple") (r := rTup K) call_tuple_of (by rfl) nt (by decide +kernel) (pa_cons (pe_lc (own := [("row", 4)]) (g := gName 4) (by rfl) sc_Company_init.nd (pi_list (pv 3)) (blkOk_by (own := [("row", 4)]) (N := ["self", "ties", "guests", "rows", "row", "place", "label"]) (sc := defScope s_Company_init) (by decide +kernel)) (fun _ _ _ _ _ => pg_name (i := 4) sc_Company_init.nd rfl (Or.inl rfl)) (fun _ _ _ _ _ => pts_nil) (fun _ _ _ _ _ => (pe_callTy (T := "tuple") (r := rTup K) call_tuple_of (by rfl) nt (by decide +kernel) (pa_cons (pv 4) pa_nil)))) pa_nil)) rfl) (pss_cons 
  (ps_fld (pv 0) (pcal GT hr pass0 (pa_cons (pv 1) (pa_cons (pe_fld (pv 0) rfl) pa_nil))) rfl) (pss_one 
  (ps_fld (pv 0) (pe_dc (own := [("place", 5), ("label", 6)]) (g := gTup K 2 (gCons (gName 5) (gCons (gName 6) gNil))) (by rfl) sc_Company_init.nd (pi_enumT (by rfl) ne (pa_cons (pe_fld (pv 0) rfl) pa_nil)) (blkOk_by (own := [("place", 5), ("label", 6)]) (N := ["self", "ties", "guests", "rows", "row", "place", "label"]) (sc := defScope s_Company_init) (by decide +kernel)) (fun _ _ _ _ _ => pg_tup (by rfl) (pgs_cons (pg_name (i := 5) sc_Company_init.nd rfl (Or.inl rfl)) (pgs_cons (pg_name (i := 6) sc_Company_init.nd rfl (Or.inl rfl)) pgs_nil))) (fun _ _ _ _ _ => pts_nil) (fun _ _ _ _ _ => pv 6) (fun _ _ _ _ _ => pv 5)) rfl))))))), ?_⟩
      exact ⟨_, rfl, _, rfl, _, rfl, t, ns, g, r, .dk, sr, ss, rfl, hT, hg, kg, hrr, hs, lg, k1, fun hd => nomatch (goodC_of hd).sq⟩
    | lst gs =>
      cases sr with
      | sc u =>
        refine ⟨_, (pss_cons 
  (ps_expr (pcal GK hr (passes_call (takes_of rfl rfl rfl rfl) (fun _ _ _ _ h => h)) (pa_cons (pv 1) (pa_cons (pv 2) (pa_cons (pv 3) pa_nil))))) (pss_cons 
  (ps_fld (pv 0) (pv 1) rfl) (pss_cons 
  (ps_fld (pv 0) (pe_callTy (T := "tuple") (r := rTup K) call_tuple_of (by rfl) nt (by decide +kernel) (pa_cons (pv 2) pa_nil)) rfl) (pss_cons 
  (ps_fld (pv 0) (pe_callTy (T := "tuple") (r := rTup K) call_tuple_of (by rfl) nt (by decide +kernel) (pa_cons (pe_lc (own := [("row", 4)]) (g := gName 4) (by rfl) sc_Company_init.nd (pi_list (pv 3)) (blkOk_by (own := [("row", 4)]) (N := ["self", "ties", "guests", "rows", "row", "place", "label"]) (sc := defScope s_Company_init) (by decide +kernel)) (fun _ _ _ _ _ => pg_name (i := 4) sc_Company_init.nd rfl (Or.inl rfl)) (fun _ _ _ _ _ => pts_nil) (fun _ _ _ _ _ => (pe_callTy (T := "tuple") (r := rTup K) call_tuple_of (by rfl) nt (by decide +kernel) (pa_cons (pv 4) pa_nil)))) pa_nil)) rfl) (pss_cons 
  (ps_fld (pv 0) (pcal GT hr pass0 (pa_cons (pv 1) (pa_cons (pe_fld (pv 0) rfl) pa_nil))) rfl) (pss_one 
  (ps_fld (pv 0) (pe_dc (own := [("place", 5), ("label", 6)]) (g := gTup K 2 (gCons (gName 5) (gCons (gName 6) gNil))) (by rfl) sc_Company_init.nd (pi_enumT (by rfl) ne (pa_cons (pe_fld (pv 0) rfl) pa_nil)) (blkOk_by (own := [("place", 5), ("label", 6)]) (N := ["self", "ties", "guests", "rows", "row", "place", "label"]) (sc := defScope s_Company_init) (by decide +kernel)) (fun _ _ _ _ _ => pg_tup (by rfl) (pgs_cons (pg_name (i := 5) sc_Company_init.nd rfl (Or.inl rfl)) (pgs_cons (pg_name (i := 6) sc_Company_init.nd rfl (Or.inl rfl)) pgs_nil))) (fun _ _ _ _ _ => pts_nil) (fun _ _ _ _ _ => pv 6) (fun _ _ _ _ _ => pv 5)) rfl))))))), ?_⟩
        exact ⟨_, rfl, _, rfl, _, rfl, t, ns, _, _, .lst gs, .sc u, ss, rfl, hT, hg, kg, hrr, hs, lg, k1, fun hd => nomatch (goodC_of hd).sq⟩
      | dk =>
        refine ⟨_, (pss_cons 
  (ps_expr (pcal GK hr (passes_call (takes_of rfl rfl rfl rfl) (fun _ _ _ _ h => h)) (pa_cons (pv 1) (pa_cons (pv 2) (pa_cons (pv 3) pa_nil))))) (pss_cons 
  (ps_fld (pv 0) (pv 1) rfl) (pss_cons 
  (ps_fld (pv 0) (pe_callTy (T := "tuple") (r := rTup K) call_tuple_of (by rfl) nt (by decide +kernel) (pa_cons (pv 2) pa_nil)) rfl) (pss_cons 
  (ps_fld (pv 0) (pe_callTy (T := "tuple") (r := rTup K) call_tuple_of (by rfl) nt (by decide +kernel) (pa_cons (pe_lc (own := [("row", 4)]) (g := gName 4) (by rfl) sc_Company_init.nd (pi_list (pv 3)) (blkOk_by (own := [("row", 4)]) (N := ["self", "ties", "guests", "rows", "row", "place", "label"]) (sc := defScope s_Company_init) (by decide +kernel)) (fun _ _ _ _ _ => pg_name (i := 4) sc_Company_init.nd rfl (Or.inl rfl)) (fun _ _ _ _ _ => pts_nil) (fun _ _ _ _ _ => (pe_callTy (T := "tuple") (r := rTup K) call_tuple_of (by rfl) nt (by decide +kernel) (pa_cons (pv 4) pa_nil)))) pa_nil)) rfl) (pss_cons 
  (ps_fld (pv 0) (pcal GT hr pass0 (pa_cons (pv 1) (pa_cons (pe_fld (pv 0) rfl) pa_nil))) rfl) (pss_one 
  (ps_fld (pv 0) (pe_dc (own := [("place", 5), ("label", 6)]) (g := gTup K 2 (gCons (gName 5) (gCons (gName 6) gNil))) (by rfl) sc_Company_init.nd (pi_enumT (by rfl) ne (pa_cons (pe_fld (pv 0) rfl) pa_nil)) (blkOk_by (own := [("place", 5), ("label", 6)]) (N := ["self", "ties", "guests", "rows", "row", "place", "label"]) (sc := defScope s_Company_init) (by decide +kernel)) (fun _ _ _ _ _ => pg_tup (by rfl) (pgs_cons (pg_name (i := 5) sc_Company_init.nd rfl (Or.inl rfl)) (pgs_cons (pg_name (i := 6) sc_Company_init.nd rfl (Or.inl rfl)) pgs_nil))) (fun _ _ _ _ _ => pts_nil) (fun _ _ _ _ _ => pv 6) (fun _ _ _ _ _ => pv 5)) rfl))))))), ?_⟩
        exact ⟨_, rfl, _, rfl, _, rfl, t, ns, _, _, .lst gs, .dk, ss, rfl, hT, hg, kg, hrr, hs, lg, k1, fun hd => nomatch (goodC_of hd).sq⟩
      | lst rs =>
        obtain ⟨pg, rfl, hp⟩ := hg
        obtain ⟨pr, rfl, hq⟩ := hrr
        refine ⟨_, (pss_cons 
    (ps_expr (pcal GK hr (passes_call (takes_of rfl rfl rfl rfl) (fun _ _ _ _ h => h)) (pa_cons (pv 1) (pa_cons (pv 2) (pa_cons (pv 3) pa_nil))))) (pss_cons 
    (ps_fld (pv 0) (pv 1) rfl) (pss_cons 
    (ps_fld (pv 0) (pe_callTy (T := "tuple") (r := rTup K) call_tuple_of (by rfl) nt (by decide +kernel) (pa_cons (pv 2) pa_nil)) rfl) (pss_cons 
    (ps_fld (pv 0) (pe_callTy (T := "tuple") (r := rTup K) call_tuple_of (by rfl) nt (by decide +kernel) (pa_cons (pe_lc (own := [("row", 4)]) (g := gName 4) (by rfl) sc_Company_init.nd (pi_list (pv 3)) (blkOk_by (own := [("row", 4)]) (N := ["self", "ties", "guests", "rows", "row", "place", "label"]) (sc := defScope s_Company_init) (by decide +kernel)) (fun _ _ _ _ _ => pg_name (i := 4) sc_Company_init.nd rfl (Or.inl rfl)) (fun _ _ _ _ _ => pts_nil) (fun _ _ _ _ _ => (pe_callTy (T := "tuple") (r := rTup K) call_tuple_of (by rfl) nt (by decide +kernel) (pa_cons (pv 4) pa_nil)))) pa_nil)) rfl) (pss_cons 
    (ps_fld (pv 0) (pcal GT hr pass0 (pa_cons (pv 1) (pa_cons (pe_fld (pv 0) rfl) pa_nil))) rfl) (pss_one 
    (ps_fld (pv 0) (pe_dc (own := [("place", 5), ("label", 6)]) (g := gTup K 2 (gCons (gName 5) (gCons (gName 6) gNil))) (by rfl) sc_Company_init.nd (pi_enumT (by rfl) ne (pa_cons (pe_fld (pv 0) rfl) pa_nil)) (blkOk_by (own := [("place", 5), ("label", 6)]) (N := ["self", "ties", "guests", "rows", "row", "place", "label"]) (sc := defScope s_Company_init) (by decide +kernel)) (fun _ _ _ _ _ => pg_tup (by rfl) (pgs_cons (pg_name (i := 5) sc_Company_init.nd rfl (Or.inl rfl)) (pgs_cons (pg_name (i := 6) sc_Company_init.nd rfl (Or.inl rfl)) pgs_nil))) (fun _ _ _ _ _ => pts_nil) (fun _ _ _ _ _ => pv 6) (fun _ _ _ _ _ => pv 5)) rfl))))))), ?_⟩
        refine ⟨_, rfl, _, rfl, _, rfl, t, ns, _, _, Sh.lst gs, Sh.lst rs, ss, rfl, hT, ⟨pg, rfl, hp⟩, kg, ⟨pr, rfl, hq⟩, hs, lg, k1, fun hd H1 S1 => ?_⟩
        have G := goodC_of hd
        have hx1 := S1 _ _ hx
        have hp1 := S1 _ _ hp
        have hq1 := S1 _ _ hq
        have hT1 := hT.keep S1
        obtain ⟨is, kin⟩ := G.ints
        have asc := G.asc kin
        have labs := G.labels kin
        have kin' : gs = is.map V.int := kin
        have gful : gs.length ≤ ss.length := G.full
        obtain ⟨tss, tlen, htss⟩ : ∃ tss : List (List Int), tss.length = ss.length ∧ ∀ (j : Nat) (s : Sh) (ts : List Int), ss[j]? = some s → tss[j]? = some ts → items s = ts.map V.int ∧ ts.length = j ∧ ∀ t ∈ ts, 0 ≤ t ∧ t < (ns.length : Nat) := G.tss (by show ss.length ≤ gs.length; have := hs.len; have := G.ln; have : rs.length ≤ gs.length := G.ln; have : rs.length = ss.length := hs.len; omega)
        have gle : gs.length ≤ 60 := G.le
        have rle : rs.length ≤ gs.length := G.ln
        have npg : pg ≠ x := ne_of hp hx (by intro z; cases z)
        have sl : rs.length = ss.length := hs.len
        -- self.ties
        refine ⟨_, rfl, _, rfl, x, CC, dx, [], rfl, hx1, c.cl, c.nT, (by decide), ?_⟩
        have hx2 : (upd H1 x (.ins CC dx (putF "ties" (.ref t) []))) x = some (.ins CC dx (f1 t)) := upd_same
        have B2 : ∀ b o, b ≠ x → H b = some o → (upd H1 x (.ins CC dx (putF "ties" (.ref t) []))) b = some o := fun b o nb eb => by rw [upd_ne nb]; exact S1 _ _ eb
        have hp2 := B2 _ _ npg hp
        -- self.guests
        refine ⟨_, rfl, pg, gs, rfl, .inl ⟨SqL.of hp2, fun ga hga => ?_⟩⟩
        have nga : ga ≠ x := (ne_of_none hx2 hga).symm
        refine ⟨_, rfl, x, CC, dx, _, rfl, (by rw [upd_ne nga.symm]; exact hx2), c.cl, c.nG, l1 t, ?_⟩
        have hx3 : (upd (upd (upd H1 x (.ins CC dx (putF "ties" (.ref t) []))) ga (.tup gs)) x (.ins CC dx (putF "guests" (.ref ga) (f1 t)))) x = some (.ins CC dx (f2 t ga)) := upd_same
        have hg3 : (upd (upd (upd H1 x (.ins CC dx (putF "ties" (.ref t) []))) ga (.tup gs)) x (.ins CC dx (putF "guests" (.ref ga) (f1 t)))) ga = some (.tup gs) := by rw [upd_ne nga, upd_same]
        have B3 : ∀ b o, b ≠ x → H b = some o → (upd (upd (upd H1 x (.ins CC dx (putF "ties" (.ref t) []))) ga (.tup gs)) x (.ins CC dx (putF "guests" (.ref ga) (f1 t)))) b = some o := fun b o nb eb => by
          have e := B2 b o nb eb
          rw [upd_ne nb, upd_ne (ne_of_none e hga)]
          exact e
        generalize upd (upd (upd H1 x (.ins CC dx (putF "ties" (.ref t) []))) ga (.tup gs)) x (.ins CC dx (putF "guests" (.ref ga) (f1 t))) = H3 at hx3 hg3 B3
        -- self.rows
        have hq3 := B3 _ _ (ne_of hq hx (by intro z; cases z)) hq
        refine ⟨_, rfl, pr, rfl, ⟨_, SqL.of hq3⟩, fun D hD => ?_⟩
        refine lc_list (K := K) (a := pr) (xs := rs) (fun i H4 => Same H3 H4 ∧ H3 D = none ∧ ∃ ps : List Addr, ps.length = i ∧ H4 D = some (.lst (ps.map V.ref)) ∧ ∀ (j : Nat) (a : Addr) (s : Sh), ps[j]? = some a → ss[j]? = some s → H4 a = some (.tup (items s)))
          ⟨new_same hD, hD, [], rfl, upd_same, fun j a s e => nomatch e⟩ (fun i H4 _ ⟨S4, _⟩ => SqL.of (S4 _ _ hq3)) ?_ ?_
        · rintro i y H4 hy ⟨S4, D0, ps, pl, eD, hps⟩
          have hi : i < rs.length := (List.getElem?_eq_some_iff.mp hy).1
          obtain ⟨s, es, isy, _⟩ := hs.at_ hy
          obtain ⟨s', es', ew⟩ := G.row (j := i) (by show i < gs.length; omega)
          obtain rfl : s = s' := by rw [es] at es'; exact Option.some.inj es'
          obtain ⟨sq, _⟩ := rowW_good ew
          refine ⟨rfl, yesT ?_⟩
          have put : ∀ (H5 : Hp) (z : Addr), Same H4 H5 → H5 z = some (.tup (items s)) → ∃ acc : List V, H5 D = some (.lst acc) ∧ acc.length < sizeLine ∧ Same H3 (upd H5 D (.lst (acc ++ [.ref z]))) ∧ H3 D = none ∧ ∃ ps : List Addr, ps.length = i + 1 ∧ (upd H5 D (.lst (acc ++ [.ref z]))) D = some (.lst (ps.map V.ref)) ∧ ∀ (j : Nat) (a : Addr) (s : Sh), ps[j]? = some a → ss[j]? = some s → (upd H5 D (.lst (acc ++ [.ref z]))) a = some (.tup (items s)) := fun H5 z S5 ez => by
            refine ⟨_, S5 _ _ eD, by rw [List.length_map, pl]; show i < 16777216; omega, fun b o eb => ?_, D0, ps ++ [z], by rw [List.length_append, pl]; rfl, by rw [upd_same, List.map_append]; rfl, fun j a s2 ea e2 => ?_⟩
            · rw [upd_ne (ne_of_none eb D0)]
              exact S5 _ _ (S4 _ _ eb)
            · rcases Nat.lt_or_ge j ps.length with hj | hj
              · rw [List.getElem?_append_left hj] at ea
                have q := S5 _ _ (hps j a s2 ea e2)
                rw [upd_ne (ne_of q (S5 _ _ eD) (by intro z; cases z))]
                exact q
              · have hj2 : j = i := by
                  have := (List.getElem?_eq_some_iff.mp ea).1
                  rw [List.length_append] at this
                  have l : [z].length = 1 := rfl
                  omega
                subst hj2
                rw [← pl, List.getElem?_append_right (Nat.le_refl _), Nat.sub_self] at ea
                obtain rfl : z = a := Option.some.inj ea
                obtain rfl : s = s2 := by rw [es] at e2; exact Option.some.inj e2
                rw [upd_ne (ne_of ez (S5 _ _ eD) (by intro z; cases z))]
                exact ez
          cases s with
          | sc u => cases sq
          | dk => cases sq
          | lst ys =>
            obtain ⟨a, rfl, ea⟩ := isy
            refine ⟨_, rfl, a, ys, rfl, .inl ⟨SqL.of (S4 _ _ (B3 _ _ (ne_of ea hx (by intro z; cases z)) ea)), fun z hz => ?_⟩⟩
            exact put _ z (new_same hz) upd_same
          | tup ys =>
            obtain ⟨a, rfl, ea⟩ := isy
            have ea4 := S4 _ _ (B3 _ _ (ne_of ea hx (by intro z; cases z)) ea)
            exact ⟨_, rfl, a, ys, rfl, .inr ⟨SqT.of ea4, put _ a (Same.refl _) ea4⟩⟩
        · rintro H4 ⟨S4, D0, ps, pl, eD, hps⟩
          refine ⟨D, _, rfl, .inl ⟨SqL.of eD, fun ra hra => ?_⟩⟩
          have hx4 := S4 _ _ hx3
          have nra : ra ≠ x := (ne_of_none hx4 hra).symm
          refine ⟨_, rfl, x, CC, dx, _, rfl, (by rw [upd_ne nra.symm]; exact hx4), c.cl, c.nR, l2 t ga, ?_⟩
          have hx5 : (upd (upd H4 ra (.tup (ps.map V.ref))) x (.ins CC dx (putF "rows" (.ref ra) (f2 t ga)))) x = some (.ins CC dx (f3 t ga ra)) := upd_same
          have hr5 : (upd (upd H4 ra (.tup (ps.map V.ref))) x (.ins CC dx (putF "rows" (.ref ra) (f2 t ga)))) ra = some (.tup (ps.map V.ref)) := by rw [upd_ne nra, upd_same]
          have C5 : ∀ b o, b ≠ x → H4 b = some o → (upd (upd H4 ra (.tup (ps.map V.ref))) x (.ins CC dx (putF "rows" (.ref ra) (f2 t ga)))) b = some o := fun b o nb eb => by
            rw [upd_ne nb, upd_ne (ne_of_none eb hra)]
            exact eb
          generalize upd (upd H4 ra (.tup (ps.map V.ref))) x (.ins CC dx (putF "rows" (.ref ra) (f2 t ga))) = H5 at hx5 hr5 C5
          have B5 : ∀ b o, b ≠ x → H b = some o → H5 b = some o := fun b o nb eb => C5 b o nb (S4 _ _ (B3 b o nb eb))
          have hg5 := C5 _ _ (ne_of hg3 hx3 (by intro z; cases z)) (S4 _ _ hg3)
          have rows5 : ∀ (j : Nat) (a : Addr) (s : Sh), ps[j]? = some a → ss[j]? = some s → H5 a = some (.tup (items s)) := fun j a s ea e2 => by
            have q := hps j a s ea e2
            exact C5 _ _ (ne_of q hx4 (by intro z; cases z)) q
          have hT5 := hT.but hx B5
          have R5 : RowsAt H5 ra ns.length ps tss := ⟨hr5, by omega, fun j a ts ea ets => by
            have hj : j < ps.length := (List.getElem?_eq_some_iff.mp ea).1
            have es := List.getElem?_eq_getElem (l := ss) (i := j) (by omega)
            obtain ⟨e1, e2, e3⟩ := htss j _ ts es ets
            exact ⟨by rw [← e1]; exact rows5 j a _ ea es, e2, e3⟩⟩
          -- self.table
          refine ⟨_, rfl, _, rfl, x, CC, dx, _, _, rfl, hx5, c.cl, c.nR, f3_rows t ga ra, t, ra, ns, ps, tss, rfl, hT5, R5, by omega, fun H6 z S6 _ e6 => ?_⟩
          have hx6 := S6 _ _ hx5
          refine ⟨_, rfl, x, CC, dx, _, rfl, hx6, c.cl, c.nB, l3 t ga ra, ?_⟩
          have hx7 : (upd H6 x (.ins CC dx (putF "table" (.ref z) (f3 t ga ra)))) x = some (.ins CC dx (f4 t ga ra z)) := upd_same
          have C67 : ∀ b o, b ≠ x → H6 b = some o → (upd H6 x (.ins CC dx (putF "table" (.ref z) (f3 t ga ra)))) b = some o := fun b o nb eb => by
            rw [upd_ne nb]
            exact eb
          have C7 : ∀ b o, b ≠ x → H5 b = some o → (upd H6 x (.ins CC dx (putF "table" (.ref z) (f3 t ga ra)))) b = some o := fun b o nb eb => by
            rw [upd_ne nb]
            exact S6 _ _ eb
          generalize upd H6 x (.ins CC dx (putF "table" (.ref z) (f3 t ga ra))) = H7 at hx7 C7 C67
          have hg7 := C7 _ _ (ne_of hg5 hx5 (by intro z; cases z)) hg5
          have hr7 := C7 _ _ (ne_of hr5 hx5 (by intro z; cases z)) hr5
          -- self._places
          refine ⟨_, rfl, x, CC, dx, _, _, rfl, hx7, c.cl, c.nG, f4_guests t ga ra z, ga, gs, rfl, SqT.of hg7, fun D2 hD2 => ?_⟩
          refine dc_enumT (K := K) (a := ga) (xs := gs) (fun i H8 => Same H7 H8 ∧ H7 D2 = none ∧ ∃ kvs : List (Key × V), kvs.length ≤ i ∧ H8 D2 = some (.dK kvs) ∧ ∀ k, valV kvs k = place (is.take i) k) ⟨new_same hD2, hD2, [], Nat.le_refl _, upd_same, fun k => by cases k <;> rfl⟩ (fun i H8 _ ⟨S8, _⟩ => SqT.of (S8 _ _ hg7)) ?_ ?_
          · rintro i y H8 T hy ⟨S8, D0', kvs, kl, eK, vK⟩ hT8
            have hi : i < gs.length := (List.getElem?_eq_some_iff.mp hy).1
            obtain ⟨n, hn, rfl⟩ : ∃ n, is[i]? = some n ∧ y = V.int n := by
              rw [kin', List.getElem?_map] at hy
              cases e : is[i]? with
              | none => rw [e] at hy; cases hy
              | some n => rw [e] at hy; exact ⟨n, rfl, (Option.some.inj hy).symm⟩
            refine ⟨T, _, rfl, SqT.of upd_same, rfl, _, _, rfl, _, _, rfl, rfl, rfl, yesT ?_⟩
            refine ⟨_, rfl, _, rfl, kvs, .inl n, rfl, by rw [upd_ne (ne_of_none eK hT8)]; exact eK, by show kvs.length < 16777216; omega, fun b o eb => ?_, D0', _, Nat.le_trans (length_putK _ _ _) (by omega), upd_same, fun k => ?_⟩
            · rw [upd_ne (ne_of_none eb D0'), upd_ne (ne_of_none (S8 _ _ eb) hT8)]
              exact S8 _ _ eb
            · rw [valV_put, place_next hn asc, vK]
          · rintro H8 ⟨S8, D0', kvs, kl, eK, vK⟩
            have hx8 := S8 _ _ hx7
            have ln : is.length = gs.length := by rw [kin', List.length_map]
            rw [show is.take gs.length = is from by rw [← ln, List.take_length]] at vK
            refine ⟨_, rfl, x, CC, dx, _, rfl, hx8, c.cl, c.nP, l4 t ga ra z, ?_⟩
            have C9 : ∀ b o, b ≠ x → H5 b = some o → (upd H8 x (.ins CC dx (putF "_places" (.ref D2) (f4 t ga ra z)))) b = some o := fun b o nb eb => by
              rw [upd_ne nb]
              exact S8 _ _ (C7 b o nb eb)
            have B9 : ∀ b o, b ≠ x → H b = some o → (upd H8 x (.ins CC dx (putF "_places" (.ref D2) (f4 t ga ra z)))) b = some o := fun b o nb eb => C9 b o nb (B5 b o nb eb)
            have D9 : ∀ b o, b ≠ x → H6 b = some o → (upd H8 x (.ins CC dx (putF "_places" (.ref D2) (f4 t ga ra z)))) b = some o := fun b o nb eb => by
              rw [upd_ne nb]
              exact S8 _ _ (C67 b o nb eb)
            refine k2 hd _ is tss B9 kin asc (by rw [tlen]; omega) (fun j s ts e1 e2 => (htss j s ts e1 e2).1) ⟨dx, t, ga, ra, z, D2, ps, kvs, upd_same, hT.but hx B9, (by rw [← show gs = is.map V.int from kin]; exact C9 _ _ (ne_of hg5 hx5 (by intro z; cases z)) hg5), ⟨C9 _ _ (ne_of hr5 hx5 (by intro z; cases z)) hr5, R5.2.1, fun j a ts ea ets => ?_⟩, ?_, (by rw [upd_ne (ne_of eK hx8 (by intro z; cases z))]; exact eK), vK, asc, by rw [tlen]; omega, by omega, labs⟩
            · obtain ⟨q1, q2⟩ := R5.2.2 j a ts ea ets
              exact ⟨C9 _ _ (ne_of q1 hx5 (by intro z; cases z)) q1, q2⟩
            · obtain ⟨us, u1, u2, u3⟩ := e6
              refine ⟨us, D9 _ _ (ne_of u1 hx6 (by intro z; cases z)) u1, u2, fun a u e => ?_⟩
              obtain ⟨xs, w1, w2⟩ := u3 a u e
              exact ⟨xs, D9 _ _ (ne_of w1 hx6 (by intro z; cases z)) w1, w2⟩
      | tup rs =>
        obtain ⟨pg, rfl, hp⟩ := hg
        obtain ⟨pr, rfl, hq⟩ := hrr
        refine ⟨_, (pss_cons 
    (ps_expr (pcal GK hr (passes_call (takes_of rfl rfl rfl rfl) (fun _ _ _ _ h => h)) (pa_cons (pv 1) (pa_cons (pv 2) (pa_cons (pv 3) pa_nil))))) (pss_cons 
    (ps_fld (pv 0) (pv 1) rfl) (pss_cons 
    (ps_fld (pv 0) (pe_callTy (T := "tuple") (r := rTup K) call_tuple_of (by rfl) nt (by decide +kernel) (pa_cons (pv 2) pa_nil)) rfl) (pss_cons 
    (ps_fld (pv 0) (pe_callTy (T := "tuple") (r := rTup K) call_tuple_of (by rfl) nt (by decide +kernel) (pa_cons (pe_lc (own := [("row", 4)]) (g := gName 4) (by rfl) sc_Company_init.nd (pi_tup (pv 3)) (blkOk_by (own := [("row", 4)]) (N := ["self", "ties", "guests", "rows", "row", "place", "label"]) (sc := defScope s_Company_init) (by decide +kernel)) (fun _ _ _ _ _ => pg_name (i := 4) sc_Company_init.nd rfl (Or.inl rfl)) (fun _ _ _ _ _ => pts_nil) (fun _ _ _ _ _ => (pe_callTy (T := "tuple") (r := rTup K) call_tuple_of (by rfl) nt (by decide +kernel) (pa_cons (pv 4) pa_nil)))) pa_nil)) rfl) (pss_cons 
    (ps_fld (pv 0) (pcal GT hr pass0 (pa_cons (pv 1) (pa_cons (pe_fld (pv 0) rfl) pa_nil))) rfl) (pss_one 
    (ps_fld (pv 0) (pe_dc (own := [("place", 5), ("label", 6)]) (g := gTup K 2 (gCons (gName 5) (gCons (gName 6) gNil))) (by rfl) sc_Company_init.nd (pi_enumT (by rfl) ne (pa_cons (pe_fld (pv 0) rfl) pa_nil)) (blkOk_by (own := [("place", 5), ("label", 6)]) (N := ["self", "ties", "guests", "rows", "row", "place", "label"]) (sc := defScope s_Company_init) (by decide +kernel)) (fun _ _ _ _ _ => pg_tup (by rfl) (pgs_cons (pg_name (i := 5) sc_Company_init.nd rfl (Or.inl rfl)) (pgs_cons (pg_name (i := 6) sc_Company_init.nd rfl (Or.inl rfl)) pgs_nil))) (fun _ _ _ _ _ => pts_nil) (fun _ _ _ _ _ => pv 6) (fun _ _ _ _ _ => pv 5)) rfl))))))), ?_⟩
        refine ⟨_, rfl, _, rfl, _, rfl, t, ns, _, _, Sh.lst gs, Sh.tup rs, ss, rfl, hT, ⟨pg, rfl, hp⟩, kg, ⟨pr, rfl, hq⟩, hs, lg, k1, fun hd H1 S1 => ?_⟩
        have G := goodC_of hd
        have hx1 := S1 _ _ hx
        have hp1 := S1 _ _ hp
        have hq1 := S1 _ _ hq
        have hT1 := hT.keep S1
        obtain ⟨is, kin⟩ := G.ints
        have asc := G.asc kin
        have labs := G.labels kin
        have kin' : gs = is.map V.int := kin
        have gful : gs.length ≤ ss.length := G.full
        obtain ⟨tss, tlen, htss⟩ : ∃ tss : List (List Int), tss.length = ss.length ∧ ∀ (j : Nat) (s : Sh) (ts : List Int), ss[j]? = some s → tss[j]? = some ts → items s = ts.map V.int ∧ ts.length = j ∧ ∀ t ∈ ts, 0 ≤ t ∧ t < (ns.length : Nat) := G.tss (by show ss.length ≤ gs.length; have := hs.len; have := G.ln; have : rs.length ≤ gs.length := G.ln; have : rs.length = ss.length := hs.len; omega)
        have gle : gs.length ≤ 60 := G.le
        have rle : rs.length ≤ gs.length := G.ln
        have npg : pg ≠ x := ne_of hp hx (by intro z; cases z)
        have sl : rs.length = ss.length := hs.len
        -- self.ties
        refine ⟨_, rfl, _, rfl, x, CC, dx, [], rfl, hx1, c.cl, c.nT, (by decide), ?_⟩
        have hx2 : (upd H1 x (.ins CC dx (putF "ties" (.ref t) []))) x = some (.ins CC dx (f1 t)) := upd_same
        have B2 : ∀ b o, b ≠ x → H b = some o → (upd H1 x (.ins CC dx (putF "ties" (.ref t) []))) b = some o := fun b o nb eb => by rw [upd_ne nb]; exact S1 _ _ eb
        have hp2 := B2 _ _ npg hp
        -- self.guests
        refine ⟨_, rfl, pg, gs, rfl, .inl ⟨SqL.of hp2, fun ga hga => ?_⟩⟩
        have nga : ga ≠ x := (ne_of_none hx2 hga).symm
        refine ⟨_, rfl, x, CC, dx, _, rfl, (by rw [upd_ne nga.symm]; exact hx2), c.cl, c.nG, l1 t, ?_⟩
        have hx3 : (upd (upd (upd H1 x (.ins CC dx (putF "ties" (.ref t) []))) ga (.tup gs)) x (.ins CC dx (putF "guests" (.ref ga) (f1 t)))) x = some (.ins CC dx (f2 t ga)) := upd_same
        have hg3 : (upd (upd (upd H1 x (.ins CC dx (putF "ties" (.ref t) []))) ga (.tup gs)) x (.ins CC dx (putF "guests" (.ref ga) (f1 t)))) ga = some (.tup gs) := by rw [upd_ne nga, upd_same]
        have B3 : ∀ b o, b ≠ x → H b = some o → (upd (upd (upd H1 x (.ins CC dx (putF "ties" (.ref t) []))) ga (.tup gs)) x (.ins CC dx (putF "guests" (.ref ga) (f1 t)))) b = some o := fun b o nb eb => by
          have e := B2 b o nb eb
          rw [upd_ne nb, upd_ne (ne_of_none e hga)]
          exact e
        generalize upd (upd (upd H1 x (.ins CC dx (putF "ties" (.ref t) []))) ga (.tup gs)) x (.ins CC dx (putF "guests" (.ref ga) (f1 t))) = H3 at hx3 hg3 B3
        -- self.rows
        have hq3 := B3 _ _ (ne_of hq hx (by intro z; cases z)) hq
        refine ⟨_, rfl, pr, rfl, ⟨_, SqT.of hq3⟩, fun D hD => ?_⟩
        refine lc_tup (K := K) (a := pr) (xs := rs) (fun i H4 => Same H3 H4 ∧ H3 D = none ∧ ∃ ps : List Addr, ps.length = i ∧ H4 D = some (.lst (ps.map V.ref)) ∧ ∀ (j : Nat) (a : Addr) (s : Sh), ps[j]? = some a → ss[j]? = some s → H4 a = some (.tup (items s)))
          ⟨new_same hD, hD, [], rfl, upd_same, fun j a s e => nomatch e⟩ (fun i H4 _ ⟨S4, _⟩ => SqT.of (S4 _ _ hq3)) ?_ ?_
        · rintro i y H4 hy ⟨S4, D0, ps, pl, eD, hps⟩
          have hi : i < rs.length := (List.getElem?_eq_some_iff.mp hy).1
          obtain ⟨s, es, isy, _⟩ := hs.at_ hy
          obtain ⟨s', es', ew⟩ := G.row (j := i) (by show i < gs.length; omega)
          obtain rfl : s = s' := by rw [es] at es'; exact Option.some.inj es'
          obtain ⟨sq, _⟩ := rowW_good ew
          refine ⟨rfl, yesT ?_⟩
          have put : ∀ (H5 : Hp) (z : Addr), Same H4 H5 → H5 z = some (.tup (items s)) → ∃ acc : List V, H5 D = some (.lst acc) ∧ acc.length < sizeLine ∧ Same H3 (upd H5 D (.lst (acc ++ [.ref z]))) ∧ H3 D = none ∧ ∃ ps : List Addr, ps.length = i + 1 ∧ (upd H5 D (.lst (acc ++ [.ref z]))) D = some (.lst (ps.map V.ref)) ∧ ∀ (j : Nat) (a : Addr) (s : Sh), ps[j]? = some a → ss[j]? = some s → (upd H5 D (.lst (acc ++ [.ref z]))) a = some (.tup (items s)) := fun H5 z S5 ez => by
            refine ⟨_, S5 _ _ eD, by rw [List.length_map, pl]; show i < 16777216; omega, fun b o eb => ?_, D0, ps ++ [z], by rw [List.length_append, pl]; rfl, by rw [upd_same, List.map_append]; rfl, fun j a s2 ea e2 => ?_⟩
            · rw [upd_ne (ne_of_none eb D0)]
              exact S5 _ _ (S4 _ _ eb)
            · rcases Nat.lt_or_ge j ps.length with hj | hj
              · rw [List.getElem?_append_left hj] at ea
                have q := S5 _ _ (hps j a s2 ea e2)
                rw [upd_ne (ne_of q (S5 _ _ eD) (by intro z; cases z))]
                exact q
              · have hj2 : j = i := by
                  have := (List.getElem?_eq_some_iff.mp ea).1
                  rw [List.length_append] at this
                  have l : [z].length = 1 := rfl
                  omega
                subst hj2
                rw [← pl, List.getElem?_append_right (Nat.le_refl _), Nat.sub_self] at ea
                obtain rfl : z = a := Option.some.inj ea
                obtain rfl : s = s2 := by rw [es] at e2; exact Option.some.inj e2
                rw [upd_ne (ne_of ez (S5 _ _ eD) (by intro z; cases z))]
                exact ez
          cases s with
          | sc u => cases sq
          | dk => cases sq
          | lst ys =>
            obtain ⟨a, rfl, ea⟩ := isy
            refine ⟨_, rfl, a, ys, rfl, .inl ⟨SqL.of (S4 _ _ (B3 _ _ (ne_of ea hx (by intro z; cases z)) ea)), fun z hz => ?_⟩⟩
            exact put _ z (new_same hz) upd_same
          | tup ys =>
            obtain ⟨a, rfl, ea⟩ := isy
            have ea4 := S4 _ _ (B3 _ _ (ne_of ea hx (by intro z; cases z)) ea)
            exact ⟨_, rfl, a, ys, rfl, .inr ⟨SqT.of ea4, put _ a (Same.refl _) ea4⟩⟩
        · rintro H4 ⟨S4, D0, ps, pl, eD, hps⟩
          refine ⟨D, _, rfl, .inl ⟨SqL.of eD, fun ra hra => ?_⟩⟩
          have hx4 := S4 _ _ hx3
          have nra : ra ≠ x := (ne_of_none hx4 hra).symm
          refine ⟨_, rfl, x, CC, dx, _, rfl, (by rw [upd_ne nra.symm]; exact hx4), c.cl, c.nR, l2 t ga, ?_⟩
          have hx5 : (upd (upd H4 ra (.tup (ps.map V.ref))) x (.ins CC dx (putF "rows" (.ref ra) (f2 t ga)))) x = some (.ins CC dx (f3 t ga ra)) := upd_same
          have hr5 : (upd (upd H4 ra (.tup (ps.map V.ref))) x (.ins CC dx (putF "rows" (.ref ra) (f2 t ga)))) ra = some (.tup (ps.map V.ref)) := by rw [upd_ne nra, upd_same]
          have C5 : ∀ b o, b ≠ x → H4 b = some o → (upd (upd H4 ra (.tup (ps.map V.ref))) x (.ins CC dx (putF "rows" (.ref ra) (f2 t ga)))) b = some o := fun b o nb eb => by
            rw [upd_ne nb, upd_ne (ne_of_none eb hra)]
            exact eb
          generalize upd (upd H4 ra (.tup (ps.map V.ref))) x (.ins CC dx (putF "rows" (.ref ra) (f2 t ga))) = H5 at hx5 hr5 C5
          have B5 : ∀ b o, b ≠ x → H b = some o → H5 b = some o := fun b o nb eb => C5 b o nb (S4 _ _ (B3 b o nb eb))
          have hg5 := C5 _ _ (ne_of hg3 hx3 (by intro z; cases z)) (S4 _ _ hg3)
          have rows5 : ∀ (j : Nat) (a : Addr) (s : Sh), ps[j]? = some a → ss[j]? = some s → H5 a = some (.tup (items s)) := fun j a s ea e2 => by
            have q := hps j a s ea e2
            exact C5 _ _ (ne_of q hx4 (by intro z; cases z)) q
          have hT5 := hT.but hx B5
          have R5 : RowsAt H5 ra ns.length ps tss := ⟨hr5, by omega, fun j a ts ea ets => by
            have hj : j < ps.length := (List.getElem?_eq_some_iff.mp ea).1
            have es := List.getElem?_eq_getElem (l := ss) (i := j) (by omega)
            obtain ⟨e1, e2, e3⟩ := htss j _ ts es ets
            exact ⟨by rw [← e1]; exact rows5 j a _ ea es, e2, e3⟩⟩
          -- self.table
          refine ⟨_, rfl, _, rfl, x, CC, dx, _, _, rfl, hx5, c.cl, c.nR, f3_rows t ga ra, t, ra, ns, ps, tss, rfl, hT5, R5, by omega, fun H6 z S6 _ e6 => ?_⟩
          have hx6 := S6 _ _ hx5
          refine ⟨_, rfl, x, CC, dx, _, rfl, hx6, c.cl, c.nB, l3 t ga ra, ?_⟩
          have hx7 : (upd H6 x (.ins CC dx (putF "table" (.ref z) (f3 t ga ra)))) x = some (.ins CC dx (f4 t ga ra z)) := upd_same
          have C67 : ∀ b o, b ≠ x → H6 b = some o → (upd H6 x (.ins CC dx (putF "table" (.ref z) (f3 t ga ra)))) b = some o := fun b o nb eb => by
            rw [upd_ne nb]
            exact eb
          have C7 : ∀ b o, b ≠ x → H5 b = some o → (upd H6 x (.ins CC dx (putF "table" (.ref z) (f3 t ga ra)))) b = some o := fun b o nb eb => by
            rw [upd_ne nb]
            exact S6 _ _ eb
          generalize upd H6 x (.ins CC dx (putF "table" (.ref z) (f3 t ga ra))) = H7 at hx7 C7 C67
          have hg7 := C7 _ _ (ne_of hg5 hx5 (by intro z; cases z)) hg5
          have hr7 := C7 _ _ (ne_of hr5 hx5 (by intro z; cases z)) hr5
          -- self._places
          refine ⟨_, rfl, x, CC, dx, _, _, rfl, hx7, c.cl, c.nG, f4_guests t ga ra z, ga, gs, rfl, SqT.of hg7, fun D2 hD2 => ?_⟩
          refine dc_enumT (K := K) (a := ga) (xs := gs) (fun i H8 => Same H7 H8 ∧ H7 D2 = none ∧ ∃ kvs : List (Key × V), kvs.length ≤ i ∧ H8 D2 = some (.dK kvs) ∧ ∀ k, valV kvs k = place (is.take i) k) ⟨new_same hD2, hD2, [], Nat.le_refl _, upd_same, fun k => by cases k <;> rfl⟩ (fun i H8 _ ⟨S8, _⟩ => SqT.of (S8 _ _ hg7)) ?_ ?_
          · rintro i y H8 T hy ⟨S8, D0', kvs, kl, eK, vK⟩ hT8
            have hi : i < gs.length := (List.getElem?_eq_some_iff.mp hy).1
            obtain ⟨n, hn, rfl⟩ : ∃ n, is[i]? = some n ∧ y = V.int n := by
              rw [kin', List.getElem?_map] at hy
              cases e : is[i]? with
              | none => rw [e] at hy; cases hy
              | some n => rw [e] at hy; exact ⟨n, rfl, (Option.some.inj hy).symm⟩
            refine ⟨T, _, rfl, SqT.of upd_same, rfl, _, _, rfl, _, _, rfl, rfl, rfl, yesT ?_⟩
            refine ⟨_, rfl, _, rfl, kvs, .inl n, rfl, by rw [upd_ne (ne_of_none eK hT8)]; exact eK, by show kvs.length < 16777216; omega, fun b o eb => ?_, D0', _, Nat.le_trans (length_putK _ _ _) (by omega), upd_same, fun k => ?_⟩
            · rw [upd_ne (ne_of_none eb D0'), upd_ne (ne_of_none (S8 _ _ eb) hT8)]
              exact S8 _ _ eb
            · rw [valV_put, place_next hn asc, vK]
          · rintro H8 ⟨S8, D0', kvs, kl, eK, vK⟩
            have hx8 := S8 _ _ hx7
            have ln : is.length = gs.length := by rw [kin', List.length_map]
            rw [show is.take gs.length = is from by rw [← ln, List.take_length]] at vK
            refine ⟨_, rfl, x, CC, dx, _, rfl, hx8, c.cl, c.nP, l4 t ga ra z, ?_⟩
            have C9 : ∀ b o, b ≠ x → H5 b = some o → (upd H8 x (.ins CC dx (putF "_places" (.ref D2) (f4 t ga ra z)))) b = some o := fun b o nb eb => by
              rw [upd_ne nb]
              exact S8 _ _ (C7 b o nb eb)
            have B9 : ∀ b o, b ≠ x → H b = some o → (upd H8 x (.ins CC dx (putF "_places" (.ref D2) (f4 t ga ra z)))) b = some o := fun b o nb eb => C9 b o nb (B5 b o nb eb)
            have D9 : ∀ b o, b ≠ x → H6 b = some o → (upd H8 x (.ins CC dx (putF "_places" (.ref D2) (f4 t ga ra z)))) b = some o := fun b o nb eb => by
              rw [upd_ne nb]
              exact S8 _ _ (C67 b o nb eb)
            refine k2 hd _ is tss B9 kin asc (by rw [tlen]; omega) (fun j s ts e1 e2 => (htss j s ts e1 e2).1) ⟨dx, t, ga, ra, z, D2, ps, kvs, upd_same, hT.but hx B9, (by rw [← show gs = is.map V.int from kin]; exact C9 _ _ (ne_of hg5 hx5 (by intro z; cases z)) hg5), ⟨C9 _ _ (ne_of hr5 hx5 (by intro z; cases z)) hr5, R5.2.1, fun j a ts ea ets => ?_⟩, ?_, (by rw [upd_ne (ne_of eK hx8 (by intro z; cases z))]; exact eK), vK, asc, by rw [tlen]; omega, by omega, labs⟩
            · obtain ⟨q1, q2⟩ := R5.2.2 j a ts ea ets
              exact ⟨C9 _ _ (ne_of q1 hx5 (by intro z; cases z)) q1, q2⟩
            · obtain ⟨us, u1, u2, u3⟩ := e6
              refine ⟨us, D9 _ _ (ne_of u1 hx6 (by intro z; cases z)) u1, u2, fun a u e => ?_⟩
              obtain ⟨xs, w1, w2⟩ := u3 a u e
              exact ⟨xs, D9 _ _ (ne_of w1 hx6 (by intro z; cases z)) w1, w2⟩
    | tup gs =>
      cases sr with
      | sc u =>
        refine ⟨_, (pss_cons 
  (ps_expr (pcal GK hr (passes_call (takes_of rfl rfl rfl rfl) (fun _ _ _ _ h => h)) (pa_cons (pv 1) (pa_cons (pv 2) (pa_cons (pv 3) pa_nil))))) (pss_cons 
  (ps_fld (pv 0) (pv 1) rfl) (pss_cons 
  (ps_fld (pv 0) (pe_callTy (T := "tuple") (r := rTup K) call_tuple_of (by rfl) nt (by decide +kernel) (pa_cons (pv 2) pa_nil)) rfl) (pss_cons 
  (ps_fld (pv 0) (pe_callTy (T := "tuple") (r := rTup K) call_tuple_of (by rfl) nt (by decide +kernel) (pa_cons (pe_lc (own := [("row", 4)]) (g := gName 4) (by rfl) sc_Company_init.nd (pi_list (pv 3)) (blkOk_by (own := [("row", 4)]) (N := ["self", "ties", "guests", "rows", "row", "place", "label"]) (sc := defScope s_Company_init) (by decide +kernel)) (fun _ _ _ _ _ => pg_name (i := 4) sc_Company_init.nd rfl (Or.inl rfl)) (fun _ _ _ _ _ => pts_nil) (fun _ _ _ _ _ => (pe_callTy (T := "tuple") (r := rTup K) call_tuple_of (by rfl) nt (by decide +kernel) (pa_cons (pv 4) pa_nil)))) pa_nil)) rfl) (pss_cons 
  (ps_fld (pv 0) (pcal GT hr pass0 (pa_cons (pv 1) (pa_cons (pe_fld (pv 0) rfl) pa_nil))) rfl) (pss_one 
  (ps_fld (pv 0) (pe_dc (own := [("place", 5), ("label", 6)]) (g := gTup K 2 (gCons (gName 5) (gCons (gName 6) gNil))) (by rfl) sc_Company_init.nd (pi_enumT (by rfl) ne (pa_cons (pe_fld (pv 0) rfl) pa_nil)) (blkOk_by (own := [("place", 5), ("label", 6)]) (N := ["self", "ties", "guests", "rows", "row", "place", "label"]) (sc := defScope s_Company_init) (by decide +kernel)) (fun _ _ _ _ _ => pg_tup (by rfl) (pgs_cons (pg_name (i := 5) sc_Company_init.nd rfl (Or.inl rfl)) (pgs_cons (pg_name (i := 6) sc_Company_init.nd rfl (Or.inl rfl)) pgs_nil))) (fun _ _ _ _ _ => pts_nil) (fun _ _ _ _ _ => pv 6) (fun _ _ _ _ _ => pv 5)) rfl))))))), ?_⟩
        exact ⟨_, rfl, _, rfl, _, rfl, t, ns, _, _, .tup gs, .sc u, ss, rfl, hT, hg, kg, hrr, hs, lg, k1, fun hd => nomatch (goodC_of hd).sq⟩
      | dk =>
        refine ⟨_, (pss_cons 
  (ps_expr (pcal GK hr (passes_call (takes_of rfl rfl rfl rfl) (fun _ _ _ _ h => h)) (pa_cons (pv 1) (pa_cons (pv 2) (pa_cons (pv 3) pa_nil))))) (pss_cons 
  (ps_fld (pv 0) (pv 1) rfl) (pss_cons 
  (ps_fld (pv 0) (pe_callTy (T := "tuple") (r := rTup K) call_tuple_of (by rfl) nt (by decide +kernel) (pa_cons (pv 2) pa_nil)) rfl) (pss_cons 
  (ps_fld (pv 0) (pe_callTy (T := "tuple") (r := rTup K) call_tuple_of (by rfl) nt (by decide +kernel) (pa_cons (pe_lc (own := [("row", 4)]) (g := gName 4) (by rfl) sc_Company_init.nd (pi_list (pv 3)) (blkOk_by (own := [("row", 4)]) (N := ["self", "ties", "guests", "rows", "row", "place", "label"]) (sc := defScope s_Company_init) (by decide +kernel)) (fun _ _ _ _ _ => pg_name (i := 4) sc_Company_init.nd rfl (Or.inl rfl)) (fun _ _ _ _ _ => pts_nil) (fun _ _ _ _ _ => (pe_callTy (T := "tuple") (r := rTup K) call_tuple_of (by rfl) nt (by decide +kernel) (pa_cons (pv 4) pa_nil)))) pa_nil)) rfl) (pss_cons 
  (ps_fld (pv 0) (pcal GT hr pass0 (pa_cons (pv 1) (pa_cons (pe_fld (pv 0) rfl) pa_nil))) rfl) (pss_one 
  (ps_fld (pv 0) (pe_dc (own := [("place", 5), ("label", 6)]) (g := gTup K 2 (gCons (gName 5) (gCons (gName 6) gNil))) (by rfl) sc_Company_init.nd (pi_enumT (by rfl) ne (pa_cons (pe_fld (pv 0) rfl) pa_nil)) (blkOk_by (own := [("place", 5), ("label", 6)]) (N := ["self", "ties", "guests", "rows", "row", "place", "label"]) (sc := defScope s_Company_init) (by decide +kernel)) (fun _ _ _ _ _ => pg_tup (by rfl) (pgs_cons (pg_name (i := 5) sc_Company_init.nd rfl (Or.inl rfl)) (pgs_cons (pg_name (i := 6) sc_Company_init.nd rfl (Or.inl rfl)) pgs_nil))) (fun _ _ _ _ _ => pts_nil) (fun _ _ _ _ _ => pv 6) (fun _ _ _ _ _ => pv 5)) rfl))))))), ?_⟩
        exact ⟨_, rfl, _, rfl, _, rfl, t, ns, _, _, .tup gs, .dk, ss, rfl, hT, hg, kg, hrr, hs, lg, k1, fun hd => nomatch (goodC_of hd).sq⟩
      | lst rs =>
        obtain ⟨pg, rfl, hp⟩ := hg
        obtain ⟨pr, rfl, hq⟩ := hrr
        refine ⟨_, (pss_cons 
    (ps_expr (pcal GK hr (passes_call (takes_of rfl rfl rfl rfl) (fun _ _ _ _ h => h)) (pa_cons (pv 1) (pa_cons (pv 2) (pa_cons (pv 3) pa_nil))))) (pss_cons 
    (ps_fld (pv 0) (pv 1) rfl) (pss_cons 
    (ps_fld (pv 0) (pe_callTy (T := "tuple") (r := rTup K) call_tuple_of (by rfl) nt (by decide +kernel) (pa_cons (pv 2) pa_nil)) rfl) (pss_cons 
    (ps_fld (pv 0) (pe_callTy (T := "tuple") (r := rTup K) call_tuple_of (by rfl) nt (by decide +kernel) (pa_cons (pe_lc (own := [("row", 4)]) (g := gName 4) (by rfl) sc_Company_init.nd (pi_list (pv 3)) (blkOk_by (own := [("row", 4)]) (N := ["self", "ties", "guests", "rows", "row", "place", "label"]) (sc := defScope s_Company_init) (by decide +kernel)) (fun _ _ _ _ _ => pg_name (i := 4) sc_Company_init.nd rfl (Or.inl rfl)) (fun _ _ _ _ _ => pts_nil) (fun _ _ _ _ _ => (pe_callTy (T := "tuple") (r := rTup K) call_tuple_of (by rfl) nt (by decide +kernel) (pa_cons (pv 4) pa_nil)))) pa_nil)) rfl) (pss_cons 
    (ps_fld (pv 0) (pcal GT hr pass0 (pa_cons (pv 1) (pa_cons (pe_fld (pv 0) rfl) pa_nil))) rfl) (pss_one 
    (ps_fld (pv 0) (pe_dc (own := [("place", 5), ("label", 6)]) (g := gTup K 2 (gCons (gName 5) (gCons (gName 6) gNil))) (by rfl) sc_Company_init.nd (pi_enumT (by rfl) ne (pa_cons (pe_fld (pv 0) rfl) pa_nil)) (blkOk_by (own := [("place", 5), ("label", 6)]) (N := ["self", "ties", "guests", "rows", "row", "place", "label"]) (sc := defScope s_Company_init) (by decide +kernel)) (fun _ _ _ _ _ => pg_tup (by rfl) (pgs_cons (pg_name (i := 5) sc_Company_init.nd rfl (Or.inl rfl)) (pgs_cons (pg_name (i := 6) sc_Company_init.nd rfl (Or.inl rfl)) pgs_nil))) (fun _ _ _ _ _ => pts_nil) (fun _ _ _ _ _ => pv 6) (fun _ _ _ _ _ => pv 5)) rfl))))))), ?_⟩
        refine ⟨_, rfl, _, rfl, _, rfl, t, ns, _, _, Sh.tup gs, Sh.lst rs, ss, rfl, hT, ⟨pg, rfl, hp⟩, kg, ⟨pr, rfl, hq⟩, hs, lg, k1, fun hd H1 S1 => ?_⟩
        have G := goodC_of hd
        have hx1 := S1 _ _ hx
        have hp1 := S1 _ _ hp
        have hq1 := S1 _ _ hq
        have hT1 := hT.keep S1
        obtain ⟨is, kin⟩ := G.ints
        have asc := G.asc kin
        have labs := G.labels kin
        have kin' : gs = is.map V.int := kin
        have gful : gs.length ≤ ss.length := G.full
        obtain ⟨tss, tlen, htss⟩ : ∃ tss : List (List Int), tss.length = ss.length ∧ ∀ (j : Nat) (s : Sh) (ts : List Int), ss[j]? = some s → tss[j]? = some ts → items s = ts.map V.int ∧ ts.length = j ∧ ∀ t ∈ ts, 0 ≤ t ∧ t < (ns.length : Nat) := G.tss (by show ss.length ≤ gs.length; have := hs.len; have := G.ln; have : rs.length ≤ gs.length := G.ln; have : rs.length = ss.length := hs.len; omega)
        have gle : gs.length ≤ 60 := G.le
        have rle : rs.length ≤ gs.length := G.ln
        have npg : pg ≠ x := ne_of hp hx (by intro z; cases z)
        have sl : rs.length = ss.length := hs.len
        -- self.ties
        refine ⟨_, rfl, _, rfl, x, CC, dx, [], rfl, hx1, c.cl, c.nT, (by decide), ?_⟩
        have hx2 : (upd H1 x (.ins CC dx (putF "ties" (.ref t) []))) x = some (.ins CC dx (f1 t)) := upd_same
        have B2 : ∀ b o, b ≠ x → H b = some o → (upd H1 x (.ins CC dx (putF "ties" (.ref t) []))) b = some o := fun b o nb eb => by rw [upd_ne nb]; exact S1 _ _ eb
        have hp2 := B2 _ _ npg hp
        -- self.guests
        obtain ⟨ga, ega⟩ : ∃ ga, ga = pg := ⟨pg, rfl⟩
        refine ⟨_, rfl, pg, gs, rfl, .inr ⟨SqT.of hp2, ?_⟩⟩
        refine ⟨_, rfl, x, CC, dx, _, rfl, hx2, c.cl, c.nG, l1 t, ?_⟩
        rw [← ega] at hp2 npg ⊢
        have hx3 : (upd (upd H1 x (.ins CC dx (putF "ties" (.ref t) []))) x (.ins CC dx (putF "guests" (.ref ga) (f1 t)))) x = some (.ins CC dx (f2 t ga)) := upd_same
        have hg3 : (upd (upd H1 x (.ins CC dx (putF "ties" (.ref t) []))) x (.ins CC dx (putF "guests" (.ref ga) (f1 t)))) ga = some (.tup gs) := by rw [upd_ne npg]; exact hp2
        have B3 : ∀ b o, b ≠ x → H b = some o → (upd (upd H1 x (.ins CC dx (putF "ties" (.ref t) []))) x (.ins CC dx (putF "guests" (.ref ga) (f1 t)))) b = some o := fun b o nb eb => by
          rw [upd_ne nb]
          exact B2 b o nb eb
        generalize upd (upd H1 x (.ins CC dx (putF "ties" (.ref t) []))) x (.ins CC dx (putF "guests" (.ref ga) (f1 t))) = H3 at hx3 hg3 B3
        -- self.rows
        have hq3 := B3 _ _ (ne_of hq hx (by intro z; cases z)) hq
        refine ⟨_, rfl, pr, rfl, ⟨_, SqL.of hq3⟩, fun D hD => ?_⟩
        refine lc_list (K := K) (a := pr) (xs := rs) (fun i H4 => Same H3 H4 ∧ H3 D = none ∧ ∃ ps : List Addr, ps.length = i ∧ H4 D = some (.lst (ps.map V.ref)) ∧ ∀ (j : Nat) (a : Addr) (s : Sh), ps[j]? = some a → ss[j]? = some s → H4 a = some (.tup (items s)))
          ⟨new_same hD, hD, [], rfl, upd_same, fun j a s e => nomatch e⟩ (fun i H4 _ ⟨S4, _⟩ => SqL.of (S4 _ _ hq3)) ?_ ?_
        · rintro i y H4 hy ⟨S4, D0, ps, pl, eD, hps⟩
          have hi : i < rs.length := (List.getElem?_eq_some_iff.mp hy).1
          obtain ⟨s, es, isy, _⟩ := hs.at_ hy
          obtain ⟨s', es', ew⟩ := G.row (j := i) (by show i < gs.length; omega)
          obtain rfl : s = s' := by rw [es] at es'; exact Option.some.inj es'
          obtain ⟨sq, _⟩ := rowW_good ew
          refine ⟨rfl, yesT ?_⟩
          have put : ∀ (H5 : Hp) (z : Addr), Same H4 H5 → H5 z = some (.tup (items s)) → ∃ acc : List V, H5 D = some (.lst acc) ∧ acc.length < sizeLine ∧ Same H3 (upd H5 D (.lst (acc ++ [.ref z]))) ∧ H3 D = none ∧ ∃ ps : List Addr, ps.length = i + 1 ∧ (upd H5 D (.lst (acc ++ [.ref z]))) D = some (.lst (ps.map V.ref)) ∧ ∀ (j : Nat) (a : Addr) (s : Sh), ps[j]? = some a → ss[j]? = some s → (upd H5 D (.lst (acc ++ [.ref z]))) a = some (.tup (items s)) := fun H5 z S5 ez => by
            refine ⟨_, S5 _ _ eD, by rw [List.length_map, pl]; show i < 16777216; omega, fun b o eb => ?_, D0, ps ++ [z], by rw [List.length_append, pl]; rfl, by rw [upd_same, List.map_append]; rfl, fun j a s2 ea e2 => ?_⟩
            · rw [upd_ne (ne_of_none eb D0)]
              exact S5 _ _ (S4 _ _ eb)
            · rcases Nat.lt_or_ge j ps.length with hj | hj
              · rw [List.getElem?_append_left hj] at ea
                have q := S5 _ _ (hps j a s2 ea e2)
                rw [upd_ne (ne_of q (S5 _ _ eD) (by intro z; cases z))]
                exact q
              · have hj2 : j = i := by
                  have := (List.getElem?_eq_some_iff.mp ea).1
                  rw [List.length_append] at this
                  have l : [z].length = 1 := rfl
                  omega
                subst hj2
                rw [← pl, List.getElem?_append_right (Nat.le_refl _), Nat.sub_self] at ea
                obtain rfl : z = a := Option.some.inj ea
                obtain rfl : s = s2 := by rw [es] at e2; exact Option.some.inj e2
                rw [upd_ne (ne_of ez (S5 _ _ eD) (by intro z; cases z))]
                exact ez
          cases s with
          | sc u => cases sq
          | dk => cases sq
          | lst ys =>
            obtain ⟨a, rfl, ea⟩ := isy
            refine ⟨_, rfl, a, ys, rfl, .inl ⟨SqL.of (S4 _ _ (B3 _ _ (ne_of ea hx (by intro z; cases z)) ea)), fun z hz => ?_⟩⟩
            exact put _ z (new_same hz) upd_same
          | tup ys =>
            obtain ⟨a, rfl, ea⟩ := isy
            have ea4 := S4 _ _ (B3 _ _ (ne_of ea hx (by intro z; cases z)) ea)
            exact ⟨_, rfl, a, ys, rfl, .inr ⟨SqT.of ea4, put _ a (Same.refl _) ea4⟩⟩
        · rintro H4 ⟨S4, D0, ps, pl, eD, hps⟩
          refine ⟨D, _, rfl, .inl ⟨SqL.of eD, fun ra hra => ?_⟩⟩
          have hx4 := S4 _ _ hx3
          have nra : ra ≠ x := (ne_of_none hx4 hra).symm
          refine ⟨_, rfl, x, CC, dx, _, rfl, (by rw [upd_ne nra.symm]; exact hx4), c.cl, c.nR, l2 t ga, ?_⟩
          have hx5 : (upd (upd H4 ra (.tup (ps.map V.ref))) x (.ins CC dx (putF "rows" (.ref ra) (f2 t ga)))) x = some (.ins CC dx (f3 t ga ra)) := upd_same
          have hr5 : (upd (upd H4 ra (.tup (ps.map V.ref))) x (.ins CC dx (putF "rows" (.ref ra) (f2 t ga)))) ra = some (.tup (ps.map V.ref)) := by rw [upd_ne nra, upd_same]
          have C5 : ∀ b o, b ≠ x → H4 b = some o → (upd (upd H4 ra (.tup (ps.map V.ref))) x (.ins CC dx (putF "rows" (.ref ra) (f2 t ga)))) b = some o := fun b o nb eb => by
            rw [upd_ne nb, upd_ne (ne_of_none eb hra)]
            exact eb
          generalize upd (upd H4 ra (.tup (ps.map V.ref))) x (.ins CC dx (putF "rows" (.ref ra) (f2 t ga))) = H5 at hx5 hr5 C5
          have B5 : ∀ b o, b ≠ x → H b = some o → H5 b = some o := fun b o nb eb => C5 b o nb (S4 _ _ (B3 b o nb eb))
          have hg5 := C5 _ _ (ne_of hg3 hx3 (by intro z; cases z)) (S4 _ _ hg3)
          have rows5 : ∀ (j : Nat) (a : Addr) (s : Sh), ps[j]? = some a → ss[j]? = some s → H5 a = some (.tup (items s)) := fun j a s ea e2 => by
            have q := hps j a s ea e2
            exact C5 _ _ (ne_of q hx4 (by intro z; cases z)) q
          have hT5 := hT.but hx B5
          have R5 : RowsAt H5 ra ns.length ps tss := ⟨hr5, by omega, fun j a ts ea ets => by
            have hj : j < ps.length := (List.getElem?_eq_some_iff.mp ea).1
            have es := List.getElem?_eq_getElem (l := ss) (i := j) (by omega)
            obtain ⟨e1, e2, e3⟩ := htss j _ ts es ets
            exact ⟨by rw [← e1]; exact rows5 j a _ ea es, e2, e3⟩⟩
          -- self.table
          refine ⟨_, rfl, _, rfl, x, CC, dx, _, _, rfl, hx5, c.cl, c.nR, f3_rows t ga ra, t, ra, ns, ps, tss, rfl, hT5, R5, by omega, fun H6 z S6 _ e6 => ?_⟩
          have hx6 := S6 _ _ hx5
          refine ⟨_, rfl, x, CC, dx, _, rfl, hx6, c.cl, c.nB, l3 t ga ra, ?_⟩
          have hx7 : (upd H6 x (.ins CC dx (putF "table" (.ref z) (f3 t ga ra)))) x = some (.ins CC dx (f4 t ga ra z)) := upd_same
          have C67 : ∀ b o, b ≠ x → H6 b = some o → (upd H6 x (.ins CC dx (putF "table" (.ref z) (f3 t ga ra)))) b = some o := fun b o nb eb => by
            rw [upd_ne nb]
            exact eb
          have C7 : ∀ b o, b ≠ x → H5 b = some o → (upd H6 x (.ins CC dx (putF "table" (.ref z) (f3 t ga ra)))) b = some o := fun b o nb eb => by
            rw [upd_ne nb]
            exact S6 _ _ eb
          generalize upd H6 x (.ins CC dx (putF "table" (.ref z) (f3 t ga ra))) = H7 at hx7 C7 C67
          have hg7 := C7 _ _ (ne_of hg5 hx5 (by intro z; cases z)) hg5
          have hr7 := C7 _ _ (ne_of hr5 hx5 (by intro z; cases z)) hr5
          -- self._places
          refine ⟨_, rfl, x, CC, dx, _, _, rfl, hx7, c.cl, c.nG, f4_guests t ga ra z, ga, gs, rfl, SqT.of hg7, fun D2 hD2 => ?_⟩
          refine dc_enumT (K := K) (a := ga) (xs := gs) (fun i H8 => Same H7 H8 ∧ H7 D2 = none ∧ ∃ kvs : List (Key × V), kvs.length ≤ i ∧ H8 D2 = some (.dK kvs) ∧ ∀ k, valV kvs k = place (is.take i) k) ⟨new_same hD2, hD2, [], Nat.le_refl _, upd_same, fun k => by cases k <;> rfl⟩ (fun i H8 _ ⟨S8, _⟩ => SqT.of (S8 _ _ hg7)) ?_ ?_
          · rintro i y H8 T hy ⟨S8, D0', kvs, kl, eK, vK⟩ hT8
            have hi : i < gs.length := (List.getElem?_eq_some_iff.mp hy).1
            obtain ⟨n, hn, rfl⟩ : ∃ n, is[i]? = some n ∧ y = V.int n := by
              rw [kin', List.getElem?_map] at hy
              cases e : is[i]? with
              | none => rw [e] at hy; cases hy
              | some n => rw [e] at hy; exact ⟨n, rfl, (Option.some.inj hy).symm⟩
            refine ⟨T, _, rfl, SqT.of upd_same, rfl, _, _, rfl, _, _, rfl, rfl, rfl, yesT ?_⟩
            refine ⟨_, rfl, _, rfl, kvs, .inl n, rfl, by rw [upd_ne (ne_of_none eK hT8)]; exact eK, by show kvs.length < 16777216; omega, fun b o eb => ?_, D0', _, Nat.le_trans (length_putK _ _ _) (by omega), upd_same, fun k => ?_⟩
            · rw [upd_ne (ne_of_none eb D0'), upd_ne (ne_of_none (S8 _ _ eb) hT8)]
              exact S8 _ _ eb
            · rw [valV_put, place_next hn asc, vK]
          · rintro H8 ⟨S8, D0', kvs, kl, eK, vK⟩
            have hx8 := S8 _ _ hx7
            have ln : is.length = gs.length := by rw [kin', List.length_map]
            rw [show is.take gs.length = is from by rw [← ln, List.take_length]] at vK
            refine ⟨_, rfl, x, CC, dx, _, rfl, hx8, c.cl, c.nP, l4 t ga ra z, ?_⟩
            have C9 : ∀ b o, b ≠ x → H5 b = some o → (upd H8 x (.ins CC dx (putF "_places" (.ref D2) (f4 t ga ra z)))) b = some o := fun b o nb eb => by
              rw [upd_ne nb]
              exact S8 _ _ (C7 b o nb eb)
            have B9 : ∀ b o, b ≠ x → H b = some o → (upd H8 x (.ins CC dx (putF "_places" (.ref D2) (f4 t ga ra z)))) b = some o := fun b o nb eb => C9 b o nb (B5 b o nb eb)
            have D9 : ∀ b o, b ≠ x → H6 b = some o → (upd H8 x (.ins CC dx (putF "_places" (.ref D2) (f4 t ga ra z)))) b = some o := fun b o nb eb => by
              rw [upd_ne nb]
              exact S8 _ _ (C67 b o nb eb)
            refine k2 hd _ is tss B9 kin asc (by rw [tlen]; omega) (fun j s ts e1 e2 => (htss j s ts e1 e2).1) ⟨dx, t, ga, ra, z, D2, ps, kvs, upd_same, hT.but hx B9, (by rw [← show gs = is.map V.int from kin]; exact C9 _ _ (ne_of hg5 hx5 (by intro z; cases z)) hg5), ⟨C9 _ _ (ne_of hr5 hx5 (by intro z; cases z)) hr5, R5.2.1, fun j a ts ea ets => ?_⟩, ?_, (by rw [upd_ne (ne_of eK hx8 (by intro z; cases z))]; exact eK), vK, asc, by rw [tlen]; omega, by omega, labs⟩
            · obtain ⟨q1, q2⟩ := R5.2.2 j a ts ea ets
              exact ⟨C9 _ _ (ne_of q1 hx5 (by intro z; cases z)) q1, q2⟩
            · obtain ⟨us, u1, u2, u3⟩ := e6
              refine ⟨us, D9 _ _ (ne_of u1 hx6 (by intro z; cases z)) u1, u2, fun a u e => ?_⟩
              obtain ⟨xs, w1, w2⟩ := u3 a u e
              exact ⟨xs, D9 _ _ (ne_of w1 hx6 (by intro z; cases z)) w1, w2⟩
      | tup rs =>
        obtain ⟨pg, rfl, hp⟩ := hg
        obtain ⟨pr, rfl, hq⟩ := hrr
        refine ⟨_, (pss_cons 
    (ps_expr (pcal GK hr (passes_call (takes_of rfl rfl rfl rfl) (fun _ _ _ _ h => h)) (pa_cons (pv 1) (pa_cons (pv 2) (pa_cons (pv 3) pa_nil))))) (pss_cons 
    (ps_fld (pv 0) (pv 1) rfl) (pss_cons 
    (ps_fld (pv 0) (pe_callTy (T := "tuple") (r := rTup K) call_tuple_of (by rfl) nt (by decide +kernel) (pa_cons (pv 2) pa_nil)) rfl) (pss_cons 
    (ps_fld (pv 0) (pe_callTy (T := "tuple") (r := rTup K) call_tuple_of (by rfl) nt (by decide +kernel) (pa_cons (pe_lc (own := [("row", 4)]) (g := gName 4) (by rfl) sc_Company_init.nd (pi_tup (pv 3)) (blkOk_by (own := [("row", 4)]) (N := ["self", "ties", "guests", "rows", "row", "place", "label"]) (sc := defScope s_Company_init) (by decide +kernel)) (fun _ _ _ _ _ => pg_name (i := 4) sc_Company_init.nd rfl (Or.inl rfl)) (fun _ _ _ _ _ => pts_nil) (fun _ _ _ _ _ => (pe_callTy (T := "tuple") (r := rTup K) call_tuple_of (by rfl) nt (by decide +kernel) (pa_cons (pv 4) pa_nil)))) pa_nil)) rfl) (pss_cons 
    (ps_fld (pv 0) (pcal GT hr pass0 (pa_cons (pv 1) (pa_cons (pe_fld (pv 0) rfl) pa_nil))) rfl) (pss_one 
    (ps_fld (pv 0) (pe_dc (own := [("place", 5), ("label", 6)]) (g := gTup K 2 (gCons (gName 5) (gCons (gName 6) gNil))) (by rfl) sc_Company_init.nd (pi_enumT (by rfl) ne (pa_cons (pe_fld (pv 0) rfl) pa_nil)) (blkOk_by (own := [("place", 5), ("label", 6)]) (N := ["self", "ties", "guests", "rows", "row", "place", "label"]) (sc := defScope s_Company_init) (by decide +kernel)) (fun _ _ _ _ _ => pg_tup (by rfl) (pgs_cons (pg_name (i := 5) sc_Company_init.nd rfl (Or.inl rfl)) (pgs_cons (pg_name (i := 6) sc_Company_init.nd rfl (Or.inl rfl)) pgs_nil))) (fun _ _ _ _ _ => pts_nil) (fun _ _ _ _ _ => pv 6) (fun _ _ _ _ _ => pv 5)) rfl))))))), ?_⟩
        refine ⟨_, rfl, _, rfl, _, rfl, t, ns, _, _, Sh.tup gs, Sh.tup rs, ss, rfl, hT, ⟨pg, rfl, hp⟩, kg, ⟨pr, rfl, hq⟩, hs, lg, k1, fun hd H1 S1 => ?_⟩
        have G := goodC_of hd
        have hx1 := S1 _ _ hx
        have hp1 := S1 _ _ hp
        have hq1 := S1 _ _ hq
        have hT1 := hT.keep S1
        obtain ⟨is, kin⟩ := G.ints
        have asc := G.asc kin
        have labs := G.labels kin
        have kin' : gs = is.map V.int := kin
        have gful : gs.length ≤ ss.length := G.full
        obtain ⟨tss, tlen, htss⟩ : ∃ tss : List (List Int), tss.length = ss.length ∧ ∀ (j : Nat) (s : Sh) (ts : List Int), ss[j]? = some s → tss[j]? = some ts → items s = ts.map V.int ∧ ts.length = j ∧ ∀ t ∈ ts, 0 ≤ t ∧ t < (ns.length : Nat) := G.tss (by show ss.length ≤ gs.length; have := hs.len; have := G.ln; have : rs.length ≤ gs.length := G.ln; have : rs.length = ss.length := hs.len; omega)
        have gle : gs.length ≤ 60 := G.le
        have rle : rs.length ≤ gs.length := G.ln
        have npg : pg ≠ x := ne_of hp hx (by intro z; cases z)
        have sl : rs.length = ss.length := hs.len
        -- self.ties
        refine ⟨_, rfl, _, rfl, x, CC, dx, [], rfl, hx1, c.cl, c.nT, (by decide), ?_⟩
        have hx2 : (upd H1 x (.ins CC dx (putF "ties" (.ref t) []))) x = some (.ins CC dx (f1 t)) := upd_same
        have B2 : ∀ b o, b ≠ x → H b = some o → (upd H1 x (.ins CC dx (putF "ties" (.ref t) []))) b = some o := fun b o nb eb => by rw [upd_ne nb]; exact S1 _ _ eb
        have hp2 := B2 _ _ npg hp
        -- self.guests
        obtain ⟨ga, ega⟩ : ∃ ga, ga = pg := ⟨pg, rfl⟩
        refine ⟨_, rfl, pg, gs, rfl, .inr ⟨SqT.of hp2, ?_⟩⟩
        refine ⟨_, rfl, x, CC, dx, _, rfl, hx2, c.cl, c.nG, l1 t, ?_⟩
        rw [← ega] at hp2 npg ⊢
        have hx3 : (upd (upd H1 x (.ins CC dx (putF "ties" (.ref t) []))) x (.ins CC dx (putF "guests" (.ref ga) (f1 t)))) x = some (.ins CC dx (f2 t ga)) := upd_same
        have hg3 : (upd (upd H1 x (.ins CC dx (putF "ties" (.ref t) []))) x (.ins CC dx (putF "guests" (.ref ga) (f1 t)))) ga = some (.tup gs) := by rw [upd_ne npg]; exact hp2
        have B3 : ∀ b o, b ≠ x → H b = some o → (upd (upd H1 x (.ins CC dx (putF "ties" (.ref t) []))) x (.ins CC dx (putF "guests" (.ref ga) (f1 t)))) b = some o := fun b o nb eb => by
          rw [upd_ne nb]
          exact B2 b o nb eb
        generalize upd (upd H1 x (.ins CC dx (putF "ties" (.ref t) []))) x (.ins CC dx (putF "guests" (.ref ga) (f1 t))) = H3 at hx3 hg3 B3
        -- self.rows
        have hq3 := B3 _ _ (ne_of hq hx (by intro z; cases z)) hq
        refine ⟨_, rfl, pr, rfl, ⟨_, SqT.of hq3⟩, fun D hD => ?_⟩
        refine lc_tup (K := K) (a := pr) (xs := rs) (fun i H4 => Same H3 H4 ∧ H3 D = none ∧ ∃ ps : List Addr, ps.length = i ∧ H4 D = some (.lst (ps.map V.ref)) ∧ ∀ (j : Nat) (a : Addr) (s : Sh), ps[j]? = some a → ss[j]? = some s → H4 a = some (.tup (items s)))
          ⟨new_same hD, hD, [], rfl, upd_same, fun j a s e => nomatch e⟩ (fun i H4 _ ⟨S4, _⟩ => SqT.of (S4 _ _ hq3)) ?_ ?_
        · rintro i y H4 hy ⟨S4, D0, ps, pl, eD, hps⟩
          have hi : i < rs.length := (List.getElem?_eq_some_iff.mp hy).1
          obtain ⟨s, es, isy, _⟩ := hs.at_ hy
          obtain ⟨s', es', ew⟩ := G.row (j := i) (by show i < gs.length; omega)
          obtain rfl : s = s' := by rw [es] at es'; exact Option.some.inj es'
          obtain ⟨sq, _⟩ := rowW_good ew
          refine ⟨rfl, yesT ?_⟩
          have put : ∀ (H5 : Hp) (z : Addr), Same H4 H5 → H5 z = some (.tup (items s)) → ∃ acc : List V, H5 D = some (.lst acc) ∧ acc.length < sizeLine ∧ Same H3 (upd H5 D (.lst (acc ++ [.ref z]))) ∧ H3 D = none ∧ ∃ ps : List Addr, ps.length = i + 1 ∧ (upd H5 D (.lst (acc ++ [.ref z]))) D = some (.lst (ps.map V.ref)) ∧ ∀ (j : Nat) (a : Addr) (s : Sh), ps[j]? = some a → ss[j]? = some s → (upd H5 D (.lst (acc ++ [.ref z]))) a = some (.tup (items s)) := fun H5 z S5 ez => by
            refine ⟨_, S5 _ _ eD, by rw [List.length_map, pl]; show i < 16777216; omega, fun b o eb => ?_, D0, ps ++ [z], by rw [List.length_append, pl]; rfl, by rw [upd_same, List.map_append]; rfl, fun j a s2 ea e2 => ?_⟩
            · rw [upd_ne (ne_of_none eb D0)]
              exact S5 _ _ (S4 _ _ eb)
            · rcases Nat.lt_or_ge j ps.length with hj | hj
              · rw [List.getElem?_append_left hj] at ea
                have q := S5 _ _ (hps j a s2 ea e2)
                rw [upd_ne (ne_of q (S5 _ _ eD) (by intro z; cases z))]
                exact q
              · have hj2 : j = i := by
                  have := (List.getElem?_eq_some_iff.mp ea).1
                  rw [List.length_append] at this
                  have l : [z].length = 1 := rfl
                  omega
                subst hj2
                rw [← pl, List.getElem?_append_right (Nat.le_refl _), Nat.sub_self] at ea
                obtain rfl : z = a := Option.some.inj ea
                obtain rfl : s = s2 := by rw [es] at e2; exact Option.some.inj e2
                rw [upd_ne (ne_of ez (S5 _ _ eD) (by intro z; cases z))]
                exact ez
          cases s with
          | sc u => cases sq
          | dk => cases sq
          | lst ys =>
            obtain ⟨a, rfl, ea⟩ := isy
            refine ⟨_, rfl, a, ys, rfl, .inl ⟨SqL.of (S4 _ _ (B3 _ _ (ne_of ea hx (by intro z; cases z)) ea)), fun z hz => ?_⟩⟩
            exact put _ z (new_same hz) upd_same
          | tup ys =>
            obtain ⟨a, rfl, ea⟩ := isy
            have ea4 := S4 _ _ (B3 _ _ (ne_of ea hx (by intro z; cases z)) ea)
            exact ⟨_, rfl, a, ys, rfl, .inr ⟨SqT.of ea4, put _ a (Same.refl _) ea4⟩⟩
        · rintro H4 ⟨S4, D0, ps, pl, eD, hps⟩
          refine ⟨D, _, rfl, .inl ⟨SqL.of eD, fun ra hra => ?_⟩⟩
          have hx4 := S4 _ _ hx3
          have nra : ra ≠ x := (ne_of_none hx4 hra).symm
          refine ⟨_, rfl, x, CC, dx, _, rfl, (by rw [upd_ne nra.symm]; exact hx4), c.cl, c.nR, l2 t ga, ?_⟩
          have hx5 : (upd (upd H4 ra (.tup (ps.map V.ref))) x (.ins CC dx (putF "rows" (.ref ra) (f2 t ga)))) x = some (.ins CC dx (f3 t ga ra)) := upd_same
          have hr5 : (upd (upd H4 ra (.tup (ps.map V.ref))) x (.ins CC dx (putF "rows" (.ref ra) (f2 t ga)))) ra = some (.tup (ps.map V.ref)) := by rw [upd_ne nra, upd_same]
          have C5 : ∀ b o, b ≠ x → H4 b = some o → (upd (upd H4 ra (.tup (ps.map V.ref))) x (.ins CC dx (putF "rows" (.ref ra) (f2 t ga)))) b = some o := fun b o nb eb => by
            rw [upd_ne nb, upd_ne (ne_of_none eb hra)]
            exact eb
          generalize upd (upd H4 ra (.tup (ps.map V.ref))) x (.ins CC dx (putF "rows" (.ref ra) (f2 t ga))) = H5 at hx5 hr5 C5
          have B5 : ∀ b o, b ≠ x → H b = some o → H5 b = some o := fun b o nb eb => C5 b o nb (S4 _ _ (B3 b o nb eb))
          have hg5 := C5 _ _ (ne_of hg3 hx3 (by intro z; cases z)) (S4 _ _ hg3)
          have rows5 : ∀ (j : Nat) (a : Addr) (s : Sh), ps[j]? = some a → ss[j]? = some s → H5 a = some (.tup (items s)) := fun j a s ea e2 => by
            have q := hps j a s ea e2
            exact C5 _ _ (ne_of q hx4 (by intro z; cases z)) q
          have hT5 := hT.but hx B5
          have R5 : RowsAt H5 ra ns.length ps tss := ⟨hr5, by omega, fun j a ts ea ets => by
            have hj : j < ps.length := (List.getElem?_eq_some_iff.mp ea).1
            have es := List.getElem?_eq_getElem (l := ss) (i := j) (by omega)
            obtain ⟨e1, e2, e3⟩ := htss j _ ts es ets
            exact ⟨by rw [← e1]; exact rows5 j a _ ea es, e2, e3⟩⟩
          -- self.table
          refine ⟨_, rfl, _, rfl, x, CC, dx, _, _, rfl, hx5, c.cl, c.nR, f3_rows t ga ra, t, ra, ns, ps, tss, rfl, hT5, R5, by omega, fun H6 z S6 _ e6 => ?_⟩
          have hx6 := S6 _ _ hx5
          refine ⟨_, rfl, x, CC, dx, _, rfl, hx6, c.cl, c.nB, l3 t ga ra, ?_⟩
          have hx7 : (upd H6 x (.ins CC dx (putF "table" (.ref z) (f3 t ga ra)))) x = some (.ins CC dx (f4 t ga ra z)) := upd_same
          have C67 : ∀ b o, b ≠ x → H6 b = some o → (upd H6 x (.ins CC dx (putF "table" (.ref z) (f3 t ga ra)))) b = some o := fun b o nb eb => by
            rw [upd_ne nb]
            exact eb
          have C7 : ∀ b o, b ≠ x → H5 b = some o → (upd H6 x (.ins CC dx (putF "table" (.ref z) (f3 t ga ra)))) b = some o := fun b o nb eb => by
            rw [upd_ne nb]
            exact S6 _ _ eb
          generalize upd H6 x (.ins CC dx (putF "table" (.ref z) (f3 t ga ra))) = H7 at hx7 C7 C67
          have hg7 := C7 _ _ (ne_of hg5 hx5 (by intro z; cases z)) hg5
          have hr7 := C7 _ _ (ne_of hr5 hx5 (by intro z; cases z)) hr5
          -- self._places
          refine ⟨_, rfl, x, CC, dx, _, _, rfl, hx7, c.cl, c.nG, f4_guests t ga ra z, ga, gs, rfl, SqT.of hg7, fun D2 hD2 => ?_⟩
          refine dc_enumT (K := K) (a := ga) (xs := gs) (fun i H8 => Same H7 H8 ∧ H7 D2 = none ∧ ∃ kvs : List (Key × V), kvs.length ≤ i ∧ H8 D2 = some (.dK kvs) ∧ ∀ k, valV kvs k = place (is.take i) k) ⟨new_same hD2, hD2, [], Nat.le_refl _, upd_same, fun k => by cases k <;> rfl⟩ (fun i H8 _ ⟨S8, _⟩ => SqT.of (S8 _ _ hg7)) ?_ ?_
          · rintro i y H8 T hy ⟨S8, D0', kvs, kl, eK, vK⟩ hT8
            have hi : i < gs.length := (List.getElem?_eq_some_iff.mp hy).1
            obtain ⟨n, hn, rfl⟩ : ∃ n, is[i]? = some n ∧ y = V.int n := by
              rw [kin', List.getElem?_map] at hy
              cases e : is[i]? with
              | none => rw [e] at hy; cases hy
              | some n => rw [e] at hy; exact ⟨n, rfl, (Option.some.inj hy).symm⟩
            refine ⟨T, _, rfl, SqT.of upd_same, rfl, _, _, rfl, _, _, rfl, rfl, rfl, yesT ?_⟩
            refine ⟨_, rfl, _, rfl, kvs, .inl n, rfl, by rw [upd_ne (ne_of_none eK hT8)]; exact eK, by show kvs.length < 16777216; omega, fun b o eb => ?_, D0', _, Nat.le_trans (length_putK _ _ _) (by omega), upd_same, fun k => ?_⟩
            · rw [upd_ne (ne_of_none eb D0'), upd_ne (ne_of_none (S8 _ _ eb) hT8)]
              exact S8 _ _ eb
            · rw [valV_put, place_next hn asc, vK]
          · rintro H8 ⟨S8, D0', kvs, kl, eK, vK⟩
            have hx8 := S8 _ _ hx7
            have ln : is.length = gs.length := by rw [kin', List.length_map]
            rw [show is.take gs.length = is from by rw [← ln, List.take_length]] at vK
            refine ⟨_, rfl, x, CC, dx, _, rfl, hx8, c.cl, c.nP, l4 t ga ra z, ?_⟩
            have C9 : ∀ b o, b ≠ x → H5 b = some o → (upd H8 x (.ins CC dx (putF "_places" (.ref D2) (f4 t ga ra z)))) b = some o := fun b o nb eb => by
              rw [upd_ne nb]
              exact S8 _ _ (C7 b o nb eb)
            have B9 : ∀ b o, b ≠ x → H b = some o → (upd H8 x (.ins CC dx (putF "_places" (.ref D2) (f4 t ga ra z)))) b = some o := fun b o nb eb => C9 b o nb (B5 b o nb eb)
            have D9 : ∀ b o, b ≠ x → H6 b = some o → (upd H8 x (.ins CC dx (putF "_places" (.ref D2) (f4 t ga ra z)))) b = some o := fun b o nb eb => by
              rw [upd_ne nb]
              exact S8 _ _ (C67 b o nb eb)
            refine k2 hd _ is tss B9 kin asc (by rw [tlen]; omega) (fun j s ts e1 e2 => (htss j s ts e1 e2).1) ⟨dx, t, ga, ra, z, D2, ps, kvs, upd_same, hT.but hx B9, (by rw [← show gs = is.map V.int from kin]; exact C9 _ _ (ne_of hg5 hx5 (by intro z; cases z)) hg5), ⟨C9 _ _ (ne_of hr5 hx5 (by intro z; cases z)) hr5, R5.2.1, fun j a ts ea ets => ?_⟩, ?_, (by rw [upd_ne (ne_of eK hx8 (by intro z; cases z))]; exact eK), vK, asc, by rw [tlen]; omega, by omega, labs⟩
            · obtain ⟨q1, q2⟩ := R5.2.2 j a ts ea ets
              exact ⟨C9 _ _ (ne_of q1 hx5 (by intro z; cases z)) q1, q2⟩
            · obtain ⟨us, u1, u2, u3⟩ := e6
              refine ⟨us, D9 _ _ (ne_of u1 hx6 (by intro z; cases z)) u1, u2, fun a u e => ?_⟩
              obtain ⟨xs, w1, w2⟩ := u3 a u e
              exact ⟨xs, D9 _ _ (ne_of w1 hx6 (by intro z; cases z)) w1, w2⟩
end
end J

set_option Elab.async false
set_option linter.all false
set_option maxRecDepth 100000
set_option maxHeartbeats 2000000
namespace J
open PySem PySem.Spec PyProof.Rows L2
/-! ### in, not in and len by the text's own methods -/
def rInOwn (C : Addr) (sp : Sp) (E : XK) (neg : Bool) : R2 := fun x y H Q => ∃ b dx fs, y = .ref b ∧ H b = some (.ins C dx fs) ∧ sp [y, x] H (fun v H' => ∃ c, v = .bl c ∧ Q (.bl (if neg = true then !c else c)) H') E
section
variable {X : Cx} {CX : CXT} {n : Nat} {C f : Addr} {fd : FuncData} {ps : List Str} {sp : Sp} {E : XK}
theorem op_inOwn (F : FnOk X.prog X.w X.K X.mg X.base CX n f fd ps sp) (hs : PySem.W.findIn X.K (.ref C) "__contains__" = some (some (.ref f))) (hf : PySem.W.isFn X.K (.ref f) = true) (hb : Binds X.K fd ps []) (hx : Passes CX X E) (hr : Room n X.A) : OpR X (compareOp .In) (rInOwn C sp E false) := by
  intro pins s σ H x y v u Q I rx ry ⟨b, dx, fs, ey, hb', q⟩
  subst ey
  obtain rfl : u = Value.ref b := ry
  obtain ⟨mA, J, _⟩ := ins_get I.hok hb'
  obtain ⟨od, J, _⟩ := J.look
  obtain ⟨m, hF⟩ := I.fr
  have r2 : Vals [V.ref b, x] [Value.ref b, v] := .cons rfl (.cons rx .nil)
  refine PySem.W.in_K hF I.ok.mod.kin J hs hf ?_
  refine wpAny_mono (run_fn (dvs := []) (ds := []) (us := [.ref b, v]) (vs := [.ref b, x]) F hr hb .nil hx I r2 q) ?_ fun _ _ z => z
  rintro w s' ⟨z, H', I', rz, ⟨c, rfl, qz⟩⟩
  obtain rfl : w = Value.bool c := rz
  exact wpAny_truthy_bool ⟨V.bl c, H', I', rfl, qz⟩
theorem op_niOwn (F : FnOk X.prog X.w X.K X.mg X.base CX n f fd ps sp) (hs : PySem.W.findIn X.K (.ref C) "__contains__" = some (some (.ref f))) (hf : PySem.W.isFn X.K (.ref f) = true) (hb : Binds X.K fd ps []) (hx : Passes CX X E) (hr : Room n X.A) : OpR X (compareOp .NotIn) (rInOwn C sp E true) := by
  intro pins s σ H x y v u Q I rx ry ⟨b, dx, fs, ey, hb', q⟩
  subst ey
  obtain rfl : u = Value.ref b := ry
  obtain ⟨mA, J, _⟩ := ins_get I.hok hb'
  obtain ⟨od, J, _⟩ := J.look
  obtain ⟨m, hF⟩ := I.fr
  have r2 : Vals [V.ref b, x] [Value.ref b, v] := .cons rfl (.cons rx .nil)
  refine PySem.W.notIn_K hF I.ok.mod.kin J hs hf ?_
  refine wpAny_mono (run_fn (dvs := []) (ds := []) (us := [.ref b, v]) (vs := [.ref b, x]) F hr hb .nil hx I r2 q) ?_ fun _ _ z => z
  rintro w s' ⟨z, H', I', rz, ⟨c, rfl, qz⟩⟩
  obtain rfl : w = Value.bool c := rz
  exact wpAny_truthy_bool ⟨V.bl (!c), H', I', rfl, qz⟩
def rLenOwn (C : Addr) (sp : Sp) (E : XK) : List V → Hp → VK → Prop := fun xs H Q => ∃ b dx fs, xs = [.ref b] ∧ H b = some (.ins C dx fs) ∧ sp [.ref b] H (fun v H' => ∃ k : Nat, v = .int (k : Nat) ∧ k < 2 ^ 62 ∧ Q (.int (k : Nat)) H') E
theorem call_lenOwn {sp : Sp} (F : FnOk X.prog X.w X.K X.mg X.base CX0 n f fd ps sp) (hs : PySem.W.findIn X.K (.ref C) "__len__" = some (some (.ref f))) (hf : PySem.W.isFn X.K (.ref f) = true) (hb : Binds X.K fd ps []) (hr : Room (n + 1) X.A) : CallR X (.builtin "len") (rLenOwn C sp E) := by
  intro pins s σ H xs us Q I r ⟨b, dx, fs, ex, hb', q⟩
  subst ex
  obtain ⟨u, rfl, rx⟩ := vals1 r
  obtain rfl : u = Value.ref b := rx
  obtain ⟨mA, J, _⟩ := ins_get I.hok hb'
  obtain ⟨od, J, _⟩ := J.look
  obtain ⟨m, hF⟩ := I.fr
  have r2 : Vals [V.ref b] [Value.ref b] := .cons rfl .nil
  refine PySem.W.len_K hF I.ok.mod.kin J hs hf ?_
  have hl : ([Value.ref b] : List Value).length = ps.length := by rw [← r2.length]; exact F.len _ _ _ _ q
  refine wpAny_call (codeAny_mono (F.run X.A.in1 X.stack s H ⟨[.ref b], []⟩ [.ref b] [.ref b] _ E hr.in1 I.env0.in1 (by have := hb s [.ref b] I.kIn (by rw [List.append_nil]; exact hl); rw [List.append_nil] at this; exact this) r2 q) fun r s' hq => ?_)
  cases r with
  | error e => exact hq.elim
  | ok fl =>
    cases fl with
    | ret u =>
      obtain ⟨v, H', I3, rv, k, ev, hk, q4⟩ := I.after hq
      subst ev
      obtain ⟨t, rfl⟩ := rv
      refine ⟨⟨by omega, by omega⟩, V.int (k : Nat), H', I3.tok _, ⟨_, rfl⟩, q4⟩
    | next => exact hq.elim
    | brk => exact hq.elim
    | cont => exact hq.elim
end
end J

set_option Elab.async false
set_option linter.all false
set_option maxRecDepth 100000
set_option maxHeartbeats 4000000
namespace J
open PySem PySem.Spec PyProof.Rows L2
abbrev s_NoGuest_init : Stmt := inClass (top 6) 0
theorem sc_NoGuest_init : FnScope ["self", "label"] ["self", "label"] (defScope s_NoGuest_init) := ⟨rfl, rfl, rfl, by decide +kernel, rfl, by decide +kernel, by decide +kernel⟩
abbrev s_Alike_init : Stmt := inClass (top 7) 0
theorem sc_Alike_init : FnScope ["self", "label"] ["self", "label"] (defScope s_Alike_init) := ⟨rfl, rfl, rfl, by decide +kernel, rfl, by decide +kernel, by decide +kernel⟩
abbrev s_Company_len : Stmt := inClass (top 19) 1
theorem sc_Company_len : FnScope ["self"] ["self"] (defScope s_Company_len) := ⟨rfl, rfl, rfl, by decide +kernel, rfl, by decide +kernel, by decide +kernel⟩
abbrev s_Company_contains : Stmt := inClass (top 19) 2
theorem sc_Company_contains : FnScope ["self", "label"] ["self", "label"] (defScope s_Company_contains) := ⟨rfl, rfl, rfl, by decide +kernel, rfl, by decide +kernel, by decide +kernel⟩
abbrev s_Company_place_of : Stmt := inClass (top 19) 5
theorem sc_Company_place_of : FnScope ["self", "label"] ["self", "label"] (defScope s_Company_place_of) := ⟨rfl, rfl, rfl, by decide +kernel, rfl, by decide +kernel, by decide +kernel⟩
abbrev s_Company_tie_of : Stmt := inClass (top 19) 6
theorem sc_Company_tie_of : FnScope ["self", "x", "y", "first", "second"] ["self", "x", "y"] (defScope s_Company_tie_of) := ⟨rfl, rfl, rfl, by decide +kernel, rfl, by decide +kernel, by decide +kernel⟩
theorem cf_places (t g r b p : Addr) : (cf t g r b p).lookup ("_places" : Str) = some (.ref p) := by
  unfold cf
  rw [lookup_putF, if_pos rfl]
theorem cf_table (t g r b p : Addr) : (cf t g r b p).lookup ("table" : Str) = some (.ref b) := by
  unfold cf f4
  rw [lookup_putF, if_neg ne_table__places, lookup_putF, if_pos rfl]
theorem cf_ties (t g r b p : Addr) : (cf t g r b p).lookup ("ties" : Str) = some (.ref t) := by
  unfold cf f4 f3 f2 f1
  rw [lookup_putF, if_neg ne_ties__places, lookup_putF, if_neg ne_ties_table, lookup_putF, if_neg ne_ties_rows, lookup_putF, if_neg ne_ties_guests, lookup_putF, if_pos rfl]
theorem cf_no (t g r b p : Addr) {m : Str} (h1 : ¬ m = "_places") (h2 : ¬ m = "table") (h3 : ¬ m = "rows") (h4 : ¬ m = "guests") (h5 : ¬ m = "ties") : (cf t g r b p).lookup m = none := by
  unfold cf f4 f3 f2 f1
  rw [lookup_putF, if_neg h1, lookup_putF, if_neg h2, lookup_putF, if_neg h3, lookup_putF, if_neg h4, lookup_putF, if_neg h5]
  rfl
/-- where v stands among the guests is -/
def seat (is : List Int) (v : V) : Option Nat := match v with
  | .int n => is.findIdx? fun y => decide (y = n)
  | _ => none
theorem seat_at {is : List Int} (a : Asc is) {j : Nat} {n : Int} (h : is[j]? = some n) : seat is (.int n) = some j := by
  show is.findIdx? _ = some j
  rw [List.findIdx?_eq_some_iff_getElem]
  have hj := (List.getElem?_eq_some_iff.mp h).1
  refine ⟨hj, decide_eq_true (List.getElem?_eq_some_iff.mp h).2, fun i hi => ?_⟩
  have e := List.getElem?_eq_getElem (l := is) (i := i) (by omega)
  intro q
  have q' := of_decide_eq_true q
  rw [q'] at e
  have := a.inj e h
  omega
theorem seat_some {is : List Int} {v : V} {j : Nat} (h : seat is v = some j) : ∃ n, v = .int n ∧ is[j]? = some n ∧ j < is.length := by
  cases v with
  | int n =>
    have h' : is.findIdx? (fun y => decide (y = n)) = some j := h
    rw [List.findIdx?_eq_some_iff_getElem] at h'
    obtain ⟨hj, e, _⟩ := h'
    have e' := of_decide_eq_true e
    exact ⟨n, rfl, by rw [List.getElem?_eq_getElem hj, e'], hj⟩
  | _ => cases h
def spCLen (C CC : Addr) : Sp := fun vs H Q _ => ∃ (x : Addr) (ns is : List Int) (tss : List (List Int)), vs = [.ref x] ∧ CompAt C CC H x ns is tss ∧ Q (.int (is.length : Nat)) H
def spCIn (C CC : Addr) : Sp := fun vs H Q _ => ∃ (x : Addr) (ns is : List Int) (tss : List (List Int)) (v : V) (s : Sh), vs = [.ref x, v] ∧ CompAt C CC H x ns is tss ∧ Is H v s ∧ Q (.bl (seat is v).isSome) H
def spCPlace (C CC CN : Addr) : Sp := fun vs H Q E => ∃ (x : Addr) (ns is : List Int) (tss : List (List Int)) (v : V) (s : Sh), vs = [.ref x, v] ∧ CompAt C CC H x ns is tss ∧ Is H v s ∧ (∀ j, seat is v = some j → Q (.int (j : Nat)) H) ∧ (seat is v = none → Tells H CN "label" v E)
def spCTie (C CC CN CL : Addr) : Sp := fun vs H Q E => ∃ (x : Addr) (ns is : List Int) (tss : List (List Int)) (v u : V) (s s' : Sh), vs = [.ref x, v, u] ∧ CompAt C CC H x ns is tss ∧ Is H v s ∧ Is H u s' ∧
  (seat is v = none → Tells H CN "label" v E) ∧ (∀ i, seat is v = some i → seat is u = none → Tells H CN "label" u E) ∧ (∀ i, seat is v = some i → seat is u = some i → Tells H CL "label" v E) ∧ (∀ i j, seat is v = some i → seat is u = some j → i ≠ j → Q (cell ns tss i j) H)
section
variable {P : Program} {w : World} {K : PySem.W.Frag} {mg : Str → Option Value} {base : Heap}
theorem ok_NoGuest_init {f C : Addr} {fd : FuncData} (F : Fun K "__init__" "NoGuest.__init__" s_NoGuest_init f fd) (o : OexC K C) (no : PySem.W.findIn K (.ref C) "label" = some none) : FnOk P w K mg base CX0 1 f fd ["self", "label"] (spXI C "label") := by
  refine F.ok sc_NoGuest_init (fun vs H Q E h => ?_) (fun cdv A outer s H vs Q E hr h => ?_)
  · obtain ⟨x, s, rfl, _⟩ := h
    rfl
  · obtain ⟨a, v, rfl, ha, k⟩ := h
    refine ⟨_, pss_one (ps_ost (pv 0) (pv 1)), ?_⟩
    exact ⟨_, rfl, _, rfl, a, C, rfl, o, no, .inl ⟨ha, k⟩⟩
theorem ok_Alike_init {f C : Addr} {fd : FuncData} (F : Fun K "__init__" "Alike.__init__" s_Alike_init f fd) (o : OexC K C) (no : PySem.W.findIn K (.ref C) "label" = some none) : FnOk P w K mg base CX0 1 f fd ["self", "label"] (spXI C "label") := by
  refine F.ok sc_Alike_init (fun vs H Q E h => ?_) (fun cdv A outer s H vs Q E hr h => ?_)
  · obtain ⟨x, s, rfl, _⟩ := h
    rfl
  · obtain ⟨a, v, rfl, ha, k⟩ := h
    refine ⟨_, pss_one (ps_ost (pv 0) (pv 1)), ?_⟩
    exact ⟨_, rfl, _, rfl, a, C, rfl, o, no, .inl ⟨ha, k⟩⟩
theorem ok_Company_len {f C CC : Addr} {fd : FuncData} (F : Fun K "__len__" "Company.__len__" s_Company_len f fd) (c : CoC K CC) (nl : mg "len" = none) : FnOk P w K mg base CX0 1 f fd ["self"] (spCLen C CC) := by
  refine F.ok sc_Company_len (fun vs H Q E h => ?_) (fun cdv A outer s H vs Q E hr h => ?_)
  · obtain ⟨x, ns, is, tss, rfl, _⟩ := h
    rfl
  · obtain ⟨x, ns, is, tss, rfl, ⟨dx, t, g, r, b, p, ps, kvs, a1, a2, a3, _⟩, k⟩ := h
    refine ⟨_, (pss_one (ps_ret (pe_callB call_len_seq (by rfl) nl PySem.boot_len (pa_cons (pe_fld (pv 0) rfl) pa_nil)))), ?_⟩
    refine ⟨_, rfl, x, CC, dx, _, _, rfl, a1, c.cl, c.nG, cf_guests _ _ _ _ _, g, _, rfl, .inr (SqT.of a3), ?_⟩
    rw [List.length_map]
    exact k
theorem ok_Company_contains {f C CC fL : Addr} {fd fdL : FuncData} (F : Fun K "__contains__" "Company.__contains__" s_Company_contains f fd) (c : CoC K CC) (GL : Cal P w K mg base CX0 2 "is_label" fL fdL ["thing"] spLabel) : FnOk P w K mg base CX0 3 f fd ["self", "label"] (spCIn C CC) := by
  refine F.ok sc_Company_contains (fun vs H Q E h => ?_) (fun cdv A outer s H vs Q E hr h => ?_)
  · obtain ⟨x, ns, is, tss, v, s, rfl, _⟩ := h
    rfl
  · obtain ⟨x, ns, is, tss, v, s, rfl, ⟨dx, t, g, r, b, p, ps, kvs, a1, a2, a3, a4, a5, a6, a7, a8, a9, a10, a11⟩, hv, k⟩ := h
    refine ⟨_, (pss_one (ps_ret (pe_and (pcal GL hr pass0 (pa_cons (pv 1) pa_nil)) (pe_one (pe_cmp (pc_din (hu_of hr) (pv 1) (pe_fld (pv 0) rfl))))))), ?_⟩
    refine ⟨_, rfl, v, s, rfl, hv, _, rfl, ?_⟩
    cases e : wholeB v 0 1000000000 with
    | false =>
      have e2 : seat is v = none := by
        cases q : seat is v with
        | none => rfl
        | some j =>
          obtain ⟨n, rfl, hn, _⟩ := seat_some q
          obtain ⟨b0, b1⟩ := a11 n (List.mem_of_getElem? hn)
          rw [whole_of b0 b1] at e
          cases e
      rw [e2] at k
      exact if_fa rfl k
    | true =>
      obtain ⟨n, rfl, _, _⟩ := whole_int e
      refine if_tr rfl ⟨_, rfl, _, rfl, x, CC, dx, _, _, rfl, a1, c.cl, c.nP, cf_places _ _ _ _ _, p, _, rfl, DGet.k (k := Sum.inl n) a6, ?_⟩
      rw [a7]
      have e3 : (place is (Sum.inl n)).isSome = (seat is (.int n)).isSome := by
        show (Option.map _ (is.findIdx? _)).isSome = (is.findIdx? _).isSome
        rw [Option.isSome_map]
      rw [e3]
      exact k
theorem ok_Company_place_of {f C CC CN fC fN : Addr} {fd fdC fdN : FuncData} (F : Fun K "place_of" "Company.place_of" s_Company_place_of f fd) (c : CoC K CC)
    (FC : FnOk P w K mg base CX0 3 fC fdC ["self", "label"] (spCIn C CC)) (aC : PySem.W.findIn K (.ref CC) "__contains__" = some (some (.ref fC))) (iC : PySem.W.isFn K (.ref fC) = true) (bC : Binds K fdC ["self", "label"] [])
    (GN : Ex P w K mg base "NoGuest" "label" CN fN fdN ["self", "label"]) : FnOk P w K mg base (L2.CX P w) 4 f fd ["self", "label"] (spCPlace C CC CN) := by
  refine F.okX sc_Company_place_of (fun vs H Q E h => ?_) (fun cdv A outer s H vs Q E hr h => ?_)
  · obtain ⟨x, ns, is, tss, v, s, rfl, _⟩ := h
    rfl
  · obtain ⟨x, ns, is, tss, v, s, rfl, hC, hv, k1, k2⟩ := h
    obtain ⟨dx, t, g, r, b, p, ps, kvs, a1, a2, a3, a4, a5, a6, a7, a8, a9, a10, a11⟩ := id hC
    have hr2 : Room 2 _ := hr.mono (by decide)
    refine ⟨_, (pss_cons 
  (ps_if (pt_cmpR (op_niOwn FC aC iC bC pass0 hr) (pv 1) (pv 0) (by rfl)) (pss_one 
    (ps_raise rfl (takes_of rfl rfl rfl rfl) (pmk_oex GN.o GN.i GN.t GN.F hr2 GN.b .nil pass0 rfl GN.m (pa_cons (pv 1) pa_nil)))) pss_nil) (pss_one 
  (ps_ret (pe_dget (hu_of hr) (pe_fld (pv 0) rfl) (pv 1) (fun _ _ => rfl))))), ?_⟩
    refine ⟨_, rfl, _, rfl, x, dx, _, rfl, a1, ⟨x, ns, is, tss, v, s, rfl, hC, hv, _, rfl, _, rfl, ?_⟩⟩
    cases e : seat is v with
    | none => exact iteT ⟨_, rfl, mkO_of (k2 e)⟩
    | some j =>
      obtain ⟨n, rfl, hn, _⟩ := seat_some e
      refine iteF ⟨_, rfl, x, CC, dx, _, _, rfl, a1, c.cl, c.nP, cf_places _ _ _ _ _, _, rfl, p, _, rfl, ?_, k1 j e⟩
      have q := DGet.k (k := Sum.inl n) a6
      have e2 : valV kvs (Sum.inl n) = some (.int (j : Nat)) := by
        rw [a7]
        have e' : is.findIdx? (fun y => decide (y = n)) = some j := e
        show Option.map _ (is.findIdx? _) = _
        rw [e']
        rfl
      rw [e2] at q
      exact q
theorem ok_Company_tie_of {f C CC CN CL fP fL : Addr} {fd fdP fdL : FuncData} (F : Fun K "tie_of" "Company.tie_of" s_Company_tie_of f fd) (c : CoC K CC)
    (GP : Mt P w K mg base (L2.CX P w) 4 CC "place_of" fP fdP ["self", "label"] (spCPlace C CC CN)) (GA : Ex P w K mg base "Alike" "label" CL fL fdL ["self", "label"]) : FnOk P w K mg base (L2.CX P w) 5 f fd ["self", "x", "y"] (spCTie C CC CN CL) := by
  refine F.okX sc_Company_tie_of (fun vs H Q E h => ?_) (fun cdv A outer s H vs Q E hr h => ?_)
  · obtain ⟨x, ns, is, tss, v, u, s, s', rfl, _⟩ := h
    rfl
  · obtain ⟨x, ns, is, tss, v, u, s, s', rfl, hC, hv, hu, k1, k2, k3, k4⟩ := h
    obtain ⟨dx, t, g, r, b, p, ps, kvs, a1, a2, a3, a4, a5, a6, a7, a8, a9, a10, a11⟩ := id hC
    have hr2 : Room 2 _ := hr.mono (by decide)
    refine ⟨_, (pss_cons 
  (ps_set (i := 3) sc_Company_tie_of.nd rfl (Or.inl rfl) (pe_meth (pv 0) c.cl GP.M GP.F hr GP.b .nil (passes_call (takes_of rfl rfl rfl rfl) (fun _ _ _ _ h => h)) (pa_cons (pv 1) pa_nil))) (pss_cons 
  (ps_set (i := 4) sc_Company_tie_of.nd rfl (Or.inl rfl) (pe_meth (pv 0) c.cl GP.M GP.F hr GP.b .nil (passes_call (takes_of rfl rfl rfl rfl) (fun _ _ _ _ h => h)) (pa_cons (pv 2) pa_nil))) (pss_cons 
  (ps_if (pt_cmpR op_eq (pv 3) (pv 4) (nomark _)) (pss_one 
    (ps_raise rfl (takes_of rfl rfl rfl rfl) (pmk_oex GA.o GA.i GA.t GA.F hr2 GA.b .nil pass0 rfl GA.m (pa_cons (pv 1) pa_nil)))) pss_nil) (pss_one 
  (ps_ret (pe_ix ix_tup (pe_ix ix_tup (pe_fld (pv 0) rfl) (pv 3) (fun _ _ => rfl)) (pv 4) (fun _ _ => rfl))))))), ?_⟩
    refine ⟨_, rfl, x, dx, _, rfl, a1, cf_no _ _ _ _ _ (by decide +kernel) (by decide +kernel) (by decide +kernel) (by decide +kernel) (by decide +kernel), _, rfl, x, ns, is, tss, v, s, rfl, hC, hv, fun i ei => ?_, fun e => k1 e⟩
    refine ⟨_, rfl, x, dx, _, rfl, a1, cf_no _ _ _ _ _ (by decide +kernel) (by decide +kernel) (by decide +kernel) (by decide +kernel) (by decide +kernel), _, rfl, x, ns, is, tss, u, s', rfl, hC, hu, fun j ej => ?_, fun e => k2 i ei e⟩
    refine ⟨_, rfl, _, rfl, rfl, _, rfl, ?_⟩
    refine ifD (fun cc => ?_) (fun cc => ?_)
    · have ij : i = j := by injection cc with cc; omega
      subst ij
      exact ⟨_, rfl, mkO_of (k3 i ei ej)⟩
    · have ij : i ≠ j := fun q => cc (by rw [q])
      obtain ⟨_, _, _, hi⟩ := seat_some ei
      obtain ⟨_, _, _, hj⟩ := seat_some ej
      obtain ⟨us, u1, u2, u3⟩ := a5
      have eu := List.getElem?_eq_getElem (l := us) (i := i) (by omega)
      generalize us[i]'(by omega) = ui at eu
      obtain ⟨xs, x1, x2, x3⟩ := u3 i ui eu
      refine ⟨_, rfl, x, CC, dx, _, _, rfl, a1, c.cl, c.nB, cf_table _ _ _ _ _, _, rfl, _, _, _, _, rfl, rfl, SqT.of u1, at_of (j := i) (v := .ref ui) rfl (by rw [List.getElem?_map, eu]; rfl), _, rfl, _, _, _, _, rfl, rfl, SqT.of x1, at_of (j := j) rfl (x3 j (by omega)), k4 i j ei ej ij⟩
end
end J

set_option Elab.async false
set_option linter.all false
set_option maxRecDepth 100000
set_option maxHeartbeats 4000000
namespace J
open PySem PySem.Spec PyProof.Rows L2
abbrev s_Company_row_of : Stmt := inClass (top 19) 7
theorem sc_Company_row_of : FnScope ["self", "label", "place", "line"] ["self", "label"] (defScope s_Company_row_of) := ⟨rfl, rfl, rfl, by decide +kernel, rfl, by decide +kernel, by decide +kernel⟩
/-- the row of the guest at place j: his ties to the others in their order -/
def RowOf (ns : List Int) (tss : List (List Int)) (n j : Nat) (ys : List V) : Prop := ys.length + 1 = n ∧ ∀ b, b + 1 < n → ys[b]? = some (cell ns tss j (if b < j then b else b + 1))
def spCRow (C CC CN : Addr) : Sp := fun vs H Q E => ∃ (x : Addr) (ns is : List Int) (tss : List (List Int)) (v : V) (s : Sh), vs = [.ref x, v] ∧ CompAt C CC H x ns is tss ∧ Is H v s ∧ (seat is v = none → Tells H CN "label" v E) ∧
  ∀ j, seat is v = some j → ∀ (H' : Hp) (z : Addr) (ys : List V), Same H H' → H' z = some (.tup ys) → RowOf ns tss is.length j ys → Q (.ref z) H'
theorem cut_row {ns : List Int} {tss : List (List Int)} {n j : Nat} {xs : List V} (hl : xs.length = n) (hf : ∀ b, b < n → xs[b]? = some (cell ns tss j b)) (hj : j < n) : RowOf ns tss n j (xs.take j ++ xs.drop (j + 1)) := by
  refine ⟨by rw [List.length_append, List.length_take, List.length_drop]; omega, fun b hb => ?_⟩
  by_cases c : b < j
  · rw [if_pos c, List.getElem?_append_left (by rw [List.length_take]; omega), List.getElem?_take_of_lt c]
    exact hf b (by omega)
  · rw [if_neg c, List.getElem?_append_right (by rw [List.length_take]; omega), List.getElem?_drop, List.length_take, show j + 1 + (b - min j xs.length) = b + 1 by omega]
    exact hf _ hb
section
variable {P : Program} {w : World} {K : PySem.W.Frag} {mg : Str → Option Value} {base : Heap}
theorem ok_Company_row_of {f C CC CN fP : Addr} {fd fdP : FuncData} (F : Fun K "row_of" "Company.row_of" s_Company_row_of f fd) (c : CoC K CC)
    (GP : Mt P w K mg base (L2.CX P w) 4 CC "place_of" fP fdP ["self", "label"] (spCPlace C CC CN)) : FnOk P w K mg base (L2.CX P w) 5 f fd ["self", "label"] (spCRow C CC CN) := by
  refine F.okX sc_Company_row_of (fun vs H Q E h => ?_) (fun cdv A outer s H vs Q E hr h => ?_)
  · obtain ⟨x, ns, is, tss, v, s, rfl, _⟩ := h
    rfl
  · obtain ⟨x, ns, is, tss, v, s, rfl, hC, hv, k1, k2⟩ := h
    obtain ⟨dx, t, g, r, b, p, ps, kvs, a1, a2, a3, a4, a5, a6, a7, a8, a9, a10, a11⟩ := id hC
    refine ⟨_, (pss_cons 
  (ps_set (i := 2) sc_Company_row_of.nd rfl (Or.inl rfl) (pe_meth (pv 0) c.cl GP.M GP.F hr GP.b .nil (passes_call (takes_of rfl rfl rfl rfl) (fun _ _ _ _ h => h)) (pa_cons (pv 1) pa_nil))) (pss_cons 
  (ps_set (i := 3) sc_Company_row_of.nd rfl (Or.inl rfl) (pe_ix ix_tup (pe_fld (pv 0) rfl) (pv 2) (fun _ _ => rfl))) (pss_one 
  (ps_ret (pe_op op_catA (pe_slice sl_tup (pv 3) po_none (po_some (pv 2))) (pe_slice sl_tup (pv 3) (po_some (pe_op op_add (pv 2) pe_int)) po_none)))))), ?_⟩
    refine ⟨_, rfl, x, dx, _, rfl, a1, cf_no _ _ _ _ _ (by decide +kernel) (by decide +kernel) (by decide +kernel) (by decide +kernel) (by decide +kernel), _, rfl, x, ns, is, tss, v, s, rfl, hC, hv, fun j ej => ?_, fun e => k1 e⟩
    obtain ⟨_, _, _, hj⟩ := seat_some ej
    obtain ⟨us, u1, u2, u3⟩ := a5
    have eu := List.getElem?_eq_getElem (l := us) (i := j) (by omega)
    generalize us[j]'(by omega) = uj at eu
    obtain ⟨xs, x1, x2, x3⟩ := u3 j uj eu
    have xl : xs.length = is.length := by omega
    have six1 : HT.sIx xs.length xs.length (some ((j : Nat) : Int)) = j := by rw [HT.sIx_nat]; omega
    have six2 : HT.sIx xs.length 0 (some (((j : Nat) : Int) + 1)) = j + 1 := by
      rw [show (((j : Nat) : Int) + 1) = ((j + 1 : Nat) : Int) by omega, HT.sIx_nat]
      omega
    refine ⟨_, rfl, x, CC, dx, _, _, rfl, a1, c.cl, c.nB, cf_table _ _ _ _ _, _, rfl, _, _, _, _, rfl, rfl, SqT.of u1, at_of (j := j) (v := .ref uj) rfl (by rw [List.getElem?_map, eu]; rfl), ?_⟩
    refine ⟨_, rfl, _, rfl, _, rfl, uj, xs, rfl, SqT.of x1, (fun z => by rw [six1] at z; omega), fun p1 hp1 => ?_⟩
    have c1 : cutV xs none (some ((j : Nat) : Int)) = xs.take j := by
      unfold cutV
      rw [six1, HT.sIx_none]
      simp
    rw [c1]
    have T1 : Same H (upd H p1 (.tup (xs.take j))) := new_same hp1
    have e1 : (upd H p1 (.tup (xs.take j))) p1 = some (.tup (xs.take j)) := upd_same
    generalize upd H p1 (.tup (xs.take j)) = H1 at T1 e1
    refine ⟨_, rfl, _, rfl, _, _, rfl, rfl, _, rfl, uj, xs, rfl, SqT.of (T1 _ _ x1), (fun z => by rw [six2] at z; omega), fun p2 hp2 => ?_⟩
    have c2 : cutV xs (some (((j : Nat) : Int) + 1)) none = xs.drop (j + 1) := by
      unfold cutV
      rw [six2, HT.sIx_none]
      exact List.take_of_length_le (by rw [List.length_drop]; omega)
    rw [c2]
    have T2 : Same H1 (upd H1 p2 (.tup (xs.drop (j + 1)))) := new_same hp2
    have e2 : (upd H1 p2 (.tup (xs.drop (j + 1)))) p2 = some (.tup (xs.drop (j + 1))) := upd_same
    generalize upd H1 p2 (.tup (xs.drop (j + 1))) = H2 at T2 e2
    have fin : ∀ (H' : Hp) (z : Addr), Same H2 H' → H' z = some (.tup (xs.take j ++ xs.drop (j + 1))) → Q (.ref z) H' := fun H' z S e => k2 j ej H' z _ ((T1.trans T2).trans S) e (cut_row xl (fun b hb => x3 b (by omega)) hj)
    refine ⟨p1, p2, _, _, rfl, rfl, SqT.of (T2 _ _ e1), SqT.of e2, by rw [List.length_take, List.length_drop]; show _ ≤ 16777216; omega, fun z => fin H2 p2 (Same.refl _) (by rw [z]; exact e2), fun _ z => fin H2 p1 (Same.refl _) (by rw [z, List.append_nil]; exact T2 _ _ e1), fun _ _ p3 hp3 => fin _ p3 (new_same hp3) upd_same⟩
end
end J

set_option Elab.async false
set_option linter.all false
set_option maxRecDepth 100000
set_option maxHeartbeats 4000000
namespace J
open PySem PySem.Spec PyProof.Rows L2
structure TiX (K : PySem.W.Frag) (mg : Str → Option Value) (C : Addr) : Prop extends TiC K C where
  isc : C8.InsC K C
  nt : PySem.W.kitOne K (.type "tuple") (.ref C) = some false
  nf : PySem.W.notFirst K C (.type "tuple") = true
  mT : mg "Ties" = some (.ref C)
structure CoX (K : PySem.W.Frag) (mg : Str → Option Value) (C : Addr) : Prop extends CoC K C where
  isc : C8.InsC K C
  mC : mg "Company" = some (.ref C)
abbrev s_Ties_eq : Stmt := inClass (top 15) 1
theorem sc_Ties_eq : FnScope ["self", "other"] ["self", "other"] (defScope s_Ties_eq) := ⟨rfl, rfl, rfl, by decide +kernel, rfl, by decide +kernel, by decide +kernel⟩
def spTEq (C : Addr) : Sp := fun vs H Q _ => ∃ (a b : Addr) (ns : List Int), vs = [.ref a, .ref b] ∧ TiesAt C H a ns ∧ ((∃ ms, TiesAt C H b ms ∧ Q (.bl (decide (ns = ms))) H) ∨ ((∃ ys, H b = some (.tup ys)) ∧ Q (.bl false) H))
abbrev s_Company_eq : Stmt := inClass (top 19) 4
theorem sc_Company_eq : FnScope ["self", "other"] ["self", "other"] (defScope s_Company_eq) := ⟨rfl, rfl, rfl, by decide +kernel, rfl, by decide +kernel, by decide +kernel⟩
def spCEq (C CC : Addr) : Sp := fun vs H Q _ => ∃ (x y : Addr) (ns ms is js : List Int) (tss uss : List (List Int)), vs = [.ref x, .ref y] ∧ CompAt C CC H x ns is tss ∧ CompAt C CC H y ms js uss ∧ Q (.bl (decide (ns = ms ∧ is = js ∧ tss = uss))) H
/-- rows as data -/
def rowsD (tss : List (List Int)) : List PyData := tss.map fun ts => .tuple (ts.map PyData.int)
theorem eqv_rowsD : ∀ tss uss : List (List Int), PyData.eqvAll (rowsD tss) (rowsD uss) = decide (tss = uss)
  | [], [] => by simp [rowsD, PyData.eqvAll]
  | [], u :: us => by simp [rowsD, PyData.eqvAll]
  | t :: ts, [] => by simp [rowsD, PyData.eqvAll]
  | t :: ts, u :: us => by
    have ih := eqv_rowsD ts us
    have h1 := eqv_ti t u
    show (PyData.eqv (.tuple (t.map PyData.int)) (.tuple (u.map PyData.int)) && PyData.eqvAll (rowsD ts) (rowsD us)) = _
    rw [h1, ih]
    by_cases h : t = u
    · by_cases h2 : ts = us
      · simp [h, h2]
      · simp [h, h2]
    · simp [h]
theorem lay_rowsD : ∀ tss : List (List Int), PyData.canLayAll0 (rowsD tss) = true ∧ PyData.depthAll (rowsD tss) ≤ 2
  | [] => by simp [rowsD, PyData.canLayAll0, PyData.depthAll]
  | t :: ts => by
    obtain ⟨a, b⟩ := lay_rowsD ts
    have h1 := ints_lay t
    have h2 := ints_depth t
    refine ⟨?_, ?_⟩
    · show (PyData.canLay0 (.tuple (t.map PyData.int)) && PyData.canLayAll0 (rowsD ts)) = true
      rw [a, Bool.and_true]
      simp only [PyData.canLay0]
      exact h1
    · show max (PyData.depth (.tuple (t.map PyData.int))) (PyData.depthAll (rowsD ts)) ≤ 2
      simp only [PyData.depth]
      omega
theorem shaped_rowsD (tss : List (List Int)) : SeqAt.shaped (.tuple (rowsD tss)) = true := by
  obtain ⟨a, b⟩ := lay_rowsD tss
  show (PyData.canLay0 (.tuple (rowsD tss)) && decide (PyData.depth (.tuple (rowsD tss)) ≤ 64)) = true
  rw [Bool.and_eq_true]
  refine ⟨by simp only [PyData.canLay0]; exact a, decide_eq_true ?_⟩
  simp only [PyData.depth]
  omega
theorem dp_rowsD {K : PySem.W.Frag} {H : Hp} : ∀ {ps : List Addr} {tss : List (List Int)}, ps.length = tss.length → (∀ (j : Nat) (a : Addr) (ts : List Int), ps[j]? = some a → tss[j]? = some ts → H a = some (.tup (ts.map V.int))) → DpAll K H (ps.map V.ref) (rowsD tss)
  | [], [], _, _ => .nil
  | [], _ :: _, h, _ => by cases h
  | _ :: _, [], h, _ => by cases h
  | p :: ps, t :: ts, h, f => .cons (.tup (SqT.of (f 0 p t rfl rfl)) (dp_ints t)) (dp_rowsD (Nat.succ.inj h) fun j a b e1 e2 => f (j + 1) a b (by simpa using e1) (by simpa using e2))
section
variable {P : Program} {w : World} {K : PySem.W.Frag} {mg : Str → Option Value} {base : Heap}
theorem ok_Ties_eq {f C : Addr} {fd : FuncData} (F : Fun K "__eq__" "Ties.__eq__" s_Ties_eq f fd) (T : TiX K mg C) (nis : mg "isinstance" = none) : FnOk P w K mg base CX0 1 f fd ["self", "other"] (spTEq C) := by
  refine F.ok sc_Ties_eq (fun vs H Q E h => ?_) (fun cdv A outer s H vs Q E hr h => ?_)
  · obtain ⟨a, b, ns, rfl, _⟩ := h
    rfl
  · obtain ⟨a, b, ns, rfl, ⟨dx, t, ha, ht⟩, h⟩ := h
    refine ⟨_, (pss_one 
  (ps_ret (pe_and (pe_callB call_isi (by rfl) nis (by decide +kernel) (pa_cons (pv 1) (pa_cons (pe_glob (v := .ref C) rfl T.mT rfl) pa_nil))) (pe_one (pe_cmpR (op_eqD hr.units) (pe_fld (pv 0) rfl) (pe_fld (pv 1) rfl) (nomark _)))))), ?_⟩
    rcases h with ⟨ms, ⟨dy, u, hb, hu⟩, k⟩ | ⟨⟨ys, hb⟩, k⟩
    · refine ⟨_, rfl, _, _, _, _, true, rfl, .own C, .base (.ins hb T.cl T.isc.ha T.isc.hn T.isc.htk T.isc.hm), T.isc.me, _, rfl, if_tr rfl ?_⟩
      refine ⟨_, rfl, a, C, dx, _, _, rfl, ha, T.cl, T.nB, tf_backs _ _, _, rfl, b, C, dy, _, _, rfl, hb, T.cl, T.nB, tf_backs _ _, _, _, .tup (SqT.of ht) (dp_ints ns), .tup (SqT.of hu) (dp_ints ms), shaped_ti ns, shaped_ti ms, ?_⟩
      rw [eqv_ti]
      exact k
    · exact ⟨_, rfl, _, _, _, _, false, rfl, .own C, .base (.tup hb), T.nt, _, rfl, if_fa rfl k⟩
theorem ok_Company_eq {f C CC fE : Addr} {fd fdE : FuncData} (F : Fun K "__eq__" "Company.__eq__" s_Company_eq f fd) (T : TiX K mg C) (c : CoX K mg CC) (nis : mg "isinstance" = none)
    (FE : FnOk P w K mg base CX0 1 fE fdE ["self", "other"] (spTEq C)) (aE : PySem.W.findIn K (.ref C) "__eq__" = some (some (.ref fE))) (iE : PySem.W.isFn K (.ref fE) = true) (bE : Binds K fdE ["self", "other"] []) : FnOk P w K mg base CX0 2 f fd ["self", "other"] (spCEq C CC) := by
  refine F.ok sc_Company_eq (fun vs H Q E h => ?_) (fun cdv A outer s H vs Q E hr h => ?_)
  · obtain ⟨x, y, ns, ms, is, js, tss, uss, rfl, _⟩ := h
    rfl
  · obtain ⟨x, y, ns, ms, is, js, tss, uss, rfl, ⟨dx, t, g, r, b, p, ps, kvs, a1, a2, a3, a4, _⟩, ⟨dy, t', g', r', b', p', ps', kvs', c1, c2, c3, c4, _⟩, k⟩ := h
    refine ⟨_, (pss_cons 
  (ps_if (pt_not (pt_val (pe_callB call_isi (by rfl) nis (by decide +kernel) (pa_cons (pv 1) (pa_cons (pe_glob (v := .ref CC) rfl c.mC rfl) pa_nil))))) (pss_one 
    (ps_ret pe_bl)) pss_nil) (pss_one 
  (ps_ret (pe_and (pe_cmpR (op_eqOwn FE aE iE bE pass0 hr T.nf) (pe_fld (pv 0) rfl) (pe_fld (pv 1) rfl) (nomark _)) (pe_and (pe_cmpR (op_eqD hr.units) (pe_fld (pv 0) rfl) (pe_fld (pv 1) rfl) (nomark _)) (pe_one (pe_cmpR (op_eqD hr.units) (pe_fld (pv 0) rfl) (pe_fld (pv 1) rfl) (nomark _)))))))), ?_⟩
    obtain ⟨d1, tb1, w1, w2⟩ := id a2
    obtain ⟨d2, tb2, w3, w4⟩ := id c2
    refine ⟨_, rfl, _, _, _, _, true, rfl, .own CC, .base (.ins c1 c.cl c.isc.ha c.isc.hn c.isc.htk c.isc.hm), c.isc.me, _, rfl, iteF ?_⟩
    refine ⟨_, rfl, x, CC, dx, _, _, rfl, a1, c.cl, c.nT, cf_ties _ _ _ _ _, _, rfl, y, CC, dy, _, _, rfl, c1, c.cl, c.nT, cf_ties _ _ _ _ _, t, t', d1, _, rfl, rfl, w1, .inl ⟨d2, _, w3⟩, t, t', ns, rfl, a2, .inl ⟨ms, c2, ⟨_, rfl⟩, _, rfl, ?_⟩⟩
    by_cases h1 : ns = ms
    case neg =>
      refine if_fa (decide_eq_false h1) ?_
      rw [decide_eq_false (fun z => h1 z.1)] at k
      exact k
    refine if_tr (decide_eq_true h1) ?_
    refine ⟨_, rfl, x, CC, dx, _, _, rfl, a1, c.cl, c.nG, cf_guests _ _ _ _ _, _, rfl, y, CC, dy, _, _, rfl, c1, c.cl, c.nG, cf_guests _ _ _ _ _, _, _, .tup (SqT.of a3) (dp_ints is), .tup (SqT.of c3) (dp_ints js), shaped_ti is, shaped_ti js, _, rfl, ?_⟩
    rw [eqv_ti]
    by_cases h2 : is = js
    case neg =>
      refine if_fa (decide_eq_false h2) ?_
      rw [decide_eq_false (fun z => h2 z.2.1)] at k
      exact k
    refine if_tr (decide_eq_true h2) ?_
    refine ⟨_, rfl, x, CC, dx, _, _, rfl, a1, c.cl, c.nR, cf_rows _ _ _ _ _, _, rfl, y, CC, dy, _, _, rfl, c1, c.cl, c.nR, cf_rows _ _ _ _ _, _, _, .tup (SqT.of a4.1) (dp_rowsD a4.2.1 fun j a ts e1 e2 => (a4.2.2 j a ts e1 e2).1), .tup (SqT.of c4.1) (dp_rowsD c4.2.1 fun j a ts e1 e2 => (c4.2.2 j a ts e1 e2).1), shaped_rowsD tss, shaped_rowsD uss, ?_⟩
    have e : PyData.eqv (.tuple (rowsD tss)) (.tuple (rowsD uss)) = decide (ns = ms ∧ is = js ∧ tss = uss) := by
      rw [show PyData.eqv (.tuple (rowsD tss)) (.tuple (rowsD uss)) = PyData.eqvAll (rowsD tss) (rowsD uss) by simp only [PyData.eqv], eqv_rowsD]
      simp [h1, h2]
    rw [e]
    exact k
end
end J

set_option Elab.async false
set_option linter.all false
set_option maxRecDepth 100000
set_option maxHeartbeats 4000000
namespace J
open PySem PySem.Spec PyProof.Rows L2
/-! ### labels that are drawn -/
abbrev s_Llabels : Stmt := top 30
theorem sc_Llabels : FnScope ["_law_hand_here", "_law_many", "_law_base", "_law_step", "_law_k"] ["_law_hand_here", "_law_many"] (defScope s_Llabels) := ⟨rfl, rfl, rfl, by decide +kernel, rfl, by decide +kernel, by decide +kernel⟩
def spLabels : Sp := fun vs H Q _ => ∃ (h q : Addr) (m : Nat), vs = [.ref h, .int (m : Nat)] ∧ m ≤ 1000 ∧ Hand H h q ∧ ∀ (H' : Hp) (l : Addr) (ns : List Int), ns.length = m → Asc ns → (∀ n ∈ ns, 0 ≤ n ∧ n ≤ 1000000000) → But h H H' → Hand H' h q → H l = none → H' l = some (.lst (ns.map V.int)) → Q (.ref l) H'
/-- labels by a first one and a step -/
def LabOk (m : Nat) (c d : Int) : Prop := 0 ≤ c ∧ 1 ≤ d ∧ ∀ k : Nat, k < m → c + (k : Int) * d ≤ 1000000000
def labsOf (m : Nat) (c d : Int) : List Int := (List.range m).map fun k => c + (0 + ((k : Nat) : Int)) * d
theorem labs_at {m : Nat} {c d : Int} {i : Nat} {a : Int} (e : (labsOf m c d)[i]? = some a) : i < m ∧ a = c + (i : Int) * d := by
  have hi := (List.getElem?_eq_some_iff.mp e).1
  unfold labsOf at hi e
  rw [List.length_map, List.length_range] at hi
  rw [List.getElem?_map, List.getElem?_range hi] at e
  have q : c + (0 + (i : Int)) * d = a := Option.some.inj e
  rw [Int.zero_add] at q
  exact ⟨hi, q.symm⟩
theorem labs_asc {m : Nat} {c d : Int} (h : LabOk m c d) : Asc (labsOf m c d) := by
  intro i a b e1 e2
  obtain ⟨_, rfl⟩ := labs_at e1
  obtain ⟨_, rfl⟩ := labs_at e2
  have h1 := h.2.1
  have : ((i + 1 : Nat) : Int) * d = (i : Int) * d + d := by
    rw [show ((i + 1 : Nat) : Int) = (i : Int) + 1 by omega, Int.add_mul, Int.one_mul]
  omega
theorem labs_in {m : Nat} {c d : Int} (h : LabOk m c d) : ∀ n ∈ labsOf m c d, 0 ≤ n ∧ n ≤ 1000000000 := by
  intro n hn
  obtain ⟨i, e⟩ := List.getElem?_of_mem hn
  obtain ⟨hi, rfl⟩ := labs_at e
  have h0 := h.1
  have h1 := h.2.1
  have h2 := h.2.2 i hi
  have h3 : 0 ≤ (i : Int) * d := Int.mul_nonneg (by omega) (by omega)
  omega
theorem labs_small {m : Nat} {c d : Int} (hm : m ≤ 1000) (h0 : 0 ≤ c) (h3 : c < 3) (hd : d = 1) : LabOk m c d := by
  subst hd
  refine ⟨h0, by omega, fun k hk => ?_⟩
  rw [Int.mul_one]
  omega
theorem labs_wide {m : Nat} {c e u : Int} (hu : (if ((m : Nat) : Int) > 1 then ((m : Nat) : Int) else 1) = u) (u0 : 0 < u) (c0 : 0 ≤ c) (c1 : c < 100000000) (e0 : 0 ≤ e) (e1 : e < 9 * 100000000 / u) : LabOk m c (1 + e) := by
  refine ⟨c0, by omega, fun k hk => ?_⟩
  have hm : (m : Int) ≤ u := by
    rw [← hu]
    split <;> omega
  have h1 : (1 + e) * u ≤ 9 * 100000000 := Int.mul_le_of_le_ediv u0 (by omega)
  have h2 : (k : Int) * (1 + e) ≤ u * (1 + e) := Int.mul_le_mul_of_nonneg_right (by omega) (by omega)
  rw [Int.mul_comm u] at h2
  omega
theorem But.free {h l : Addr} {H H' : Hp} (B : But h H H') (n : l ≠ h) (e : H' l = none) : H l = none := by
  cases q : H l with
  | none => rfl
  | some o =>
    have := B _ _ n q
    rw [e] at this
    cases this
section
variable {P : Program} {w : World} {K : PySem.W.Frag} {mg : Str → Option Value} {base : Heap}
theorem ok_Llabels {f fD : Addr} {fd fdD : FuncData} (F : Fun K "_law_labels" "_law_labels" s_Llabels f fd) (nr : mg "range" = none) (nm : mg "max" = none) (GD : Cal P w K mg base CX0 2 "_law_draw" fD fdD ["_law_hand_here", "_law_many"] spDraw) : FnOk P w K mg base CX0 3 f fd ["_law_hand_here", "_law_many"] spLabels := by
  refine F.ok sc_Llabels (fun vs H Q E h => ?_) (fun cdv A outer s H vs Q E hr h => ?_)
  · obtain ⟨h, q, m, rfl, _⟩ := h
    rfl
  · obtain ⟨h, q, m, rfl, hm, hh, k⟩ := h
    refine ⟨_, (pss_cons 
  (ps_set (i := 2) sc_Llabels.nd rfl (Or.inr rfl) (pcal GD hr pass0 (pa_cons (pv 0) (pa_cons pe_int pa_nil)))) (pss_cons 
  (ps_set (i := 3) sc_Llabels.nd rfl (Or.inr rfl) pe_int) (C8.pss_cut 
  (ps_if (pt_cmpR op_eq (pcal GD hr pass0 (pa_cons (pv 0) (pa_cons pe_int pa_nil))) pe_int (nomark _)) (pss_cons 
    (ps_set (i := 2) sc_Llabels.nd rfl (Or.inr rfl) (pcal GD hr pass0 (pa_cons (pv 0) (pa_cons (pe_op op_pow pe_int pe_int) pa_nil)))) (pss_one 
    (ps_set (i := 3) sc_Llabels.nd rfl (Or.inr rfl) (pe_op op_add pe_int (pcal GD hr pass0 (pa_cons (pv 0) (pa_cons (pe_op op_fdivW (pe_op op_mul pe_int (pe_op op_pow pe_int pe_int)) (pe_callB (call_max2 rfl) (by rfl) nm (by decide +kernel) (pa_cons pe_int (pa_cons (pv 1) pa_nil)))) pa_nil))))))) pss_nil) (pss_one 
  (ps_ret (pe_lc (own := [("_law_k", 4)]) (g := gName 4) (by rfl) sc_Llabels.nd (pi_range1 (by rfl) nr (pa_cons (pv 1) pa_nil)) (blkOk_by (own := [("_law_k", 4)]) (N := ["_law_hand_here", "_law_many", "_law_base", "_law_step", "_law_k"]) (sc := defScope s_Llabels) (by decide +kernel)) (fun _ _ _ _ _ => pg_name (i := 4) sc_Llabels.nd rfl (Or.inl rfl)) (fun _ _ _ _ _ => pts_nil) (fun _ _ _ _ _ => (pe_op op_add (pv 2) (pe_op op_mul (pv 4) (pv 3)))))))))), ?_⟩
    refine ⟨_, rfl, h, q, 3, rfl, by decide, by decide, hh, fun b H1 b0 b1 B1 h1 => ⟨fun σ' H' => ∃ c d : Int, σ' = [some (.ref h), some (.int (m : Nat)), some (.int c), some (.int d), none] ∧ LabOk m c d ∧ But h H H' ∧ Hand H' h q, ?_, ?_⟩⟩
    · refine ⟨_, rfl, h, q, 2, rfl, by decide, by decide, h1, fun z H2 z0 z1 B2 h2 => ⟨rfl, _, rfl, ?_⟩⟩
      refine ifD (fun c => ?_) (fun c => ⟨_, _, rfl, labs_small hm b0 b1 rfl, B1.trans B2, h2⟩)
      refine ⟨_, rfl, _, _, rfl, rfl, ⟨by decide, by decide, by decide⟩, h, q, _, rfl, by decide +kernel, by decide +kernel, h2, fun c2 H3 c0 c1 B3 h3 => ?_⟩
      have e9 : (10 : Int) ^ (8 : Int).toNat = 100000000 := by decide +kernel
      have mx : ∃ u : Int, (if ((m : Nat) : Int) > 1 then ((m : Nat) : Int) else 1) = u ∧ 0 < u ∧ u ≤ 1000 := by
        refine ⟨_, rfl, ?_⟩
        split <;> omega
      obtain ⟨u, eu, u0, u1⟩ := mx
      refine ⟨_, rfl, _, _, rfl, rfl, ⟨by decide, by decide, by decide⟩, _, _, rfl, rfl, .inl ⟨by decide, by decide⟩, _, rfl, _, _, rfl, ?_⟩
      rw [eu, e9]
      refine ⟨_, _, rfl, rfl, wide_div (b := 62) u0 (by omega) (by decide) (by decide), h, q, _, rfl, ?_, ?_, h3, fun c3 H4 y0 y1 B4 h4 => ⟨_, _, rfl, rfl, _, _, rfl, labs_wide eu u0 c0 (by rw [e9] at c1; exact c1) y0 y1, ((B1.trans B2).trans B3).trans B4, h4⟩⟩
      · have := Int.le_ediv_of_mul_le (a := 1) (b := 9 * 100000000) u0 (by omega)
        show (0 : Int) < 9 * 100000000 / u
        omega
      · have := Int.ediv_le_self (a := 9 * 100000000) u (by decide)
        show (9 * 100000000 / u : Int) < 2 ^ 62
        omega
    · rintro σ' H' ⟨c, d, rfl, LO, B, hh'⟩
      refine ⟨_, rfl, (m : Nat), rfl, by omega, by omega, fun D hD => ?_⟩
      have nD := (hh'.h_ne hD).1
      refine lc_range (lo := 0) (n := m) (fun i H5 => H5 D = some (.lst ((labsOf i c d).map V.int)) ∧ Same H' H5 ∧ H' D = none) ⟨upd_same, new_same hD, hD⟩ ?_ ?_
      · rintro i H5 hi ⟨eD, S5, D0⟩
        refine ⟨rfl, yesT ?_⟩
        refine ⟨_, rfl, _, rfl, _, rfl, _, _, rfl, rfl, .inl ⟨by omega, by omega⟩, _, _, rfl, rfl, _, eD, ?_, by rw [upd_same]; unfold labsOf; rw [List.range_succ, List.map_append, List.map_append]; rfl, fun b o e => ?_, D0⟩
        · rw [List.length_map]
          unfold labsOf
          rw [List.length_map, List.length_range]
          exact small1000 (by omega)
        · rw [upd_ne (ne_of_none e D0)]
          exact S5 _ _ e
      · rintro H5 ⟨eD, S5, D0⟩
        exact k H5 D (labsOf m c d) (by unfold labsOf; rw [List.length_map, List.length_range]) (labs_asc LO) (labs_in LO) (B.trans (But.same S5)) (hh'.keep S5) (B.free nD.symm D0) eD
end
end J

set_option Elab.async false
set_option linter.all false
set_option maxRecDepth 100000
set_option maxHeartbeats 4000000
namespace J
open PySem PySem.Spec PyProof.Rows L2
/-! ### objects are made: Ties, Company -/
/-- rows of ties: each as long as its place -/
def Rows (m : Nat) (tss : List (List Int)) : Prop := ∀ (j : Nat) (ts : List Int), tss[j]? = some ts → ts.length = j ∧ ∀ t ∈ ts, 0 ≤ t ∧ t < (m : Nat)
def LinesAt (H : Hp) (l : Addr) (ps : List Addr) (tss : List (List Int)) : Prop := H l = some (.lst (ps.map V.ref)) ∧ ps.length = tss.length ∧ ∀ (j : Nat) (a : Addr) (ts : List Int), ps[j]? = some a → tss[j]? = some ts → a ≠ l ∧ H a = some (.lst (ts.map V.int))
theorem LinesAt.keep {H H' : Hp} {l : Addr} {ps : List Addr} {tss : List (List Int)} (h : LinesAt H l ps tss) (S : Same H H') : LinesAt H' l ps tss :=
  ⟨S _ _ h.1, h.2.1, fun j a ts e1 e2 => ⟨(h.2.2 j a ts e1 e2).1, S _ _ (h.2.2 j a ts e1 e2).2⟩⟩
theorem made_same {H : Hp} {x dx : Addr} {o u : HO} (hx : H x = none) (hd : H dx = none) : Same H (upd (upd H dx o) x u) := fun b v e => by
  rw [upd_ne (ne_of_none e hx), upd_ne (ne_of_none e hd)]
  exact e
theorem made_but {H H' : Hp} {x dx : Addr} {o u : HO} (hx : H x = none) (hd : H dx = none) (B : ∀ b v, b ≠ x → (upd (upd H dx o) x u) b = some v → H' b = some v) : Same H H' := fun b v e => B b v (ne_of_none e hx) (made_same hx hd b v e)
theorem map_int_inj : ∀ {xs ys : List Int}, xs.map V.int = ys.map V.int → xs = ys
  | [], [], _ => rfl
  | [], _ :: _, h => by cases h
  | _ :: _, [], h => by cases h
  | x :: xs, y :: ys, h => by
    rw [List.map_cons, List.map_cons] at h
    injection h with h1 h2
    injection h1 with h1
    rw [h1, map_int_inj h2]
theorem mk_ties {C CB : Addr} {H : Hp} {E : XK} {R : Addr → VK} {ns : List Int} {v : V} {s : Sh} (hs : Is H v s) (g : GoodB ns) (hq : (s.isL || s.isT) = true) (hi : items s = ns.map V.int) (k : ∀ (H' : Hp) (x : Addr), Same H H' → H x = none → TiesAt C H' x ns → R x .non H') :
    ∀ x dx, H x = none → H dx = none → dx ≠ x → spTies C CB [.ref x, v] (upd (upd H dx (.own x)) x (.ins C dx [])) (R x) E := by
  intro x dx hx hd _
  have S := made_same (H := H) (o := .own x) (u := .ins C dx []) hx hd
  have dn : due s = none := by
    cases s with
    | sc u => cases hq
    | dk => cases hq
    | lst xs => have e : xs = ns.map V.int := hi; subst e; exact due_of g
    | tup xs => have e : xs = ns.map V.int := hi; subst e; exact due_of g
  refine ⟨x, dx, v, s, rfl, upd_same, hs.keep S, fun y hy => ?_, fun w e => ?_, fun ms _ e H' B T => ?_⟩
  · rw [hi] at hy
    obtain ⟨n, _, rfl⟩ := List.mem_map.mp hy
    exact ⟨.sc (.int n), rfl, rfl⟩
  · rw [dn] at e
    cases e
  · obtain rfl := map_int_inj (hi.symm.trans e)
    exact k H' x (made_but hx hd B) hx T
theorem rowW_ok {m n : Nat} {s : Sh} {ts : List Int} (sq : (s.isL || s.isT) = true) (hi : items s = ts.map V.int) (hl : ts.length = n) (hr : ∀ t ∈ ts, 0 ≤ t ∧ t < (m : Nat)) : rowW m n s = none := by
  unfold rowW
  rw [if_pos sq, hi, List.length_map, if_pos hl, if_pos]
  intro x hx
  obtain ⟨t, ht, rfl⟩ := List.mem_map.mp hx
  obtain ⟨a, b⟩ := hr t ht
  show (decide (0 ≤ t) && decide (t ≤ ((m : Nat) : Int) - 1)) = true
  rw [decide_eq_true a, decide_eq_true (by omega)]
  rfl
/-- rows as they are handed in: shapes of sequences that hold these ints -/
def ShRows (ss : List Sh) (tss : List (List Int)) : Prop := ss.length = tss.length ∧ ∀ (j : Nat) (s : Sh) (ts : List Int), ss[j]? = some s → tss[j]? = some ts → (s.isL || s.isT) = true ∧ items s = ts.map V.int
theorem due_good {m : Nat} {sg sr : Sh} {ss : List Sh} {is : List Int} {tss : List (List Int)} (qg : (sg.isL || sg.isT) = true) (qr : (sr.isL || sr.isT) = true) (hg : items sg = is.map V.int) (hr : (items sr).length = ss.length) (S : ShRows ss tss) (tl : tss.length = is.length)
    (l60 : is.length ≤ 60) (asc : Asc is) (labs : ∀ n ∈ is, 0 ≤ n ∧ n ≤ 1000000000) (R : Rows m tss) : dueC m sg sr ss = none := by
  have gl : (items sg).length = is.length := by rw [hg, List.length_map]
  refine due_ok (by rw [qg, qr]; rfl) (by omega) (fun j hj => ?_) (by have := S.1; omega)
  have hji : j < is.length := by omega
  have ij := List.getElem?_eq_getElem hji
  have tj := List.getElem?_eq_getElem (l := tss) (i := j) (by omega)
  have sj := List.getElem?_eq_getElem (l := ss) (i := j) (by have := S.1; omega)
  obtain ⟨q1, q2⟩ := S.2 j _ _ sj tj
  obtain ⟨r1, r2⟩ := R j _ tj
  have gj : (items sg)[j]? = some (.int is[j]) := by rw [hg, List.getElem?_map, ij]; rfl
  obtain ⟨b0, b1⟩ := labs _ (List.mem_of_getElem? ij)
  have wl : wholeB (.int is[j]) 0 1000000000 = true := by
    show (decide (0 ≤ is[j]) && decide (is[j] ≤ 1000000000)) = true
    rw [decide_eq_true b0, decide_eq_true b1]
    rfl
  have o : ordB (items sg) j = false := by
    cases j with
    | zero => exact ord_zero
    | succ j =>
      have ij' := List.getElem?_eq_getElem (l := is) (i := j) (by omega)
      rw [ord_ints (a := is[j]) (by rw [hg, List.getElem?_map, ij']; rfl) gj]
      have := asc j _ _ ij' ij
      exact decide_eq_false (by omega)
  rw [word_row gj wl o sj]
  exact rowW_ok q1 q2 r1 r2
theorem mk_comp {C CC CB : Addr} {H : Hp} {E : XK} {Rr : Addr → VK} {ns is : List Int} {tss : List (List Int)} {t : Addr} {g r : V} {sg sr : Sh} {ss : List Sh} (T : TiesAt C H t ns) (ig : Is H g sg) (ir : Is H r sr) (sa : ShAll H (items sr) ss) (qg : (sg.isL || sg.isT) = true) (qr : (sr.isL || sr.isT) = true) (hg : items sg = is.map V.int) (S : ShRows ss tss)
    (tl : tss.length = is.length) (l60 : is.length ≤ 60) (asc : Asc is) (labs : ∀ n ∈ is, 0 ≤ n ∧ n ≤ 1000000000) (R : Rows ns.length tss) (k : ∀ (H' : Hp) (x : Addr), Same H H' → H x = none → CompAt C CC H' x ns is tss → Rr x .non H') :
    ∀ x dx, H x = none → H dx = none → dx ≠ x → spCompI C CC CB [.ref x, .ref t, g, r] (upd (upd H dx (.own x)) x (.ins CC dx [])) (Rr x) E := by
  intro x dx hx hd _
  have SS := made_same (H := H) (o := .own x) (u := .ins CC dx []) hx hd
  have dn : dueC ns.length sg sr ss = none := due_good qg qr hg sa.len S tl l60 asc labs R
  refine ⟨x, dx, t, ns, g, r, sg, sr, ss, rfl, upd_same, T.keep SS, ig.keep SS, fun y hy => ?_, ir.keep SS, sa.keep SS, ?_, fun i u e => ?_, fun _ H' js uss B e1 _ e3 e4 c => ?_⟩
  · rw [hg] at hy
    obtain ⟨n, _, rfl⟩ := List.mem_map.mp hy
    exact ⟨.sc (.int n), rfl, rfl⟩
  · rw [hg, List.length_map]
    omega
  · rw [dn] at e
    cases e
  · obtain rfl := map_int_inj (hg.symm.trans e1)
    have eq : uss = tss := by
      refine List.ext_getElem (by omega) fun j h1 h2 => ?_
      have sj := List.getElem?_eq_getElem (l := ss) (i := j) (by have := S.1; omega)
      have q1 := e4 j _ _ sj (List.getElem?_eq_getElem h1)
      have q2 := (S.2 j _ _ sj (List.getElem?_eq_getElem h2)).2
      exact map_int_inj (q1.symm.trans q2)
    rw [eq] at c
    exact k H' x (made_but hx hd B) hx c
/-! ### rows that are handed in: lists, tuples in a list -/
theorem ints_known {H : Hp} (ts : List Int) : Known H (ts.map V.int) := fun y hy => by
  obtain ⟨n, _, rfl⟩ := List.mem_map.mp hy
  exact ⟨.sc (.int n), rfl, rfl⟩
def shL (tss : List (List Int)) : List Sh := tss.map fun ts => .lst (ts.map V.int)
def shT (tss : List (List Int)) : List Sh := tss.map fun ts => .tup (ts.map V.int)
theorem shL_rows (tss : List (List Int)) : ShRows (shL tss) tss := by
  refine ⟨List.length_map _, fun j s ts e1 e2 => ?_⟩
  unfold shL at e1
  rw [List.getElem?_map, e2] at e1
  obtain rfl := Option.some.inj e1
  exact ⟨rfl, rfl⟩
theorem shT_rows (tss : List (List Int)) : ShRows (shT tss) tss := by
  refine ⟨List.length_map _, fun j s ts e1 e2 => ?_⟩
  unfold shT at e1
  rw [List.getElem?_map, e2] at e1
  obtain rfl := Option.some.inj e1
  exact ⟨rfl, rfl⟩
theorem shL_all {H : Hp} : ∀ {ps : List Addr} {tss : List (List Int)}, ps.length = tss.length → (∀ (j : Nat) (a : Addr) (ts : List Int), ps[j]? = some a → tss[j]? = some ts → H a = some (.lst (ts.map V.int))) → ShAll H (ps.map V.ref) (shL tss)
  | [], [], _, _ => .nil
  | [], _ :: _, h, _ => by cases h
  | _ :: _, [], h, _ => by cases h
  | p :: ps, t :: ts, h, f => .cons ⟨⟨p, rfl, f 0 p t rfl rfl⟩, ints_known t⟩ (shL_all (Nat.succ.inj h) fun j a b e1 e2 => f (j + 1) a b (by simpa using e1) (by simpa using e2))
theorem shT_all {H : Hp} : ∀ {ps : List Addr} {tss : List (List Int)}, ps.length = tss.length → (∀ (j : Nat) (a : Addr) (ts : List Int), ps[j]? = some a → tss[j]? = some ts → H a = some (.tup (ts.map V.int))) → ShAll H (ps.map V.ref) (shT tss)
  | [], [], _, _ => .nil
  | [], _ :: _, h, _ => by cases h
  | _ :: _, [], h, _ => by cases h
  | p :: ps, t :: ts, h, f => .cons ⟨⟨p, rfl, f 0 p t rfl rfl⟩, ints_known t⟩ (shT_all (Nat.succ.inj h) fun j a b e1 e2 => f (j + 1) a b (by simpa using e1) (by simpa using e2))
/-- a list of lists as data -/
def linesD (tss : List (List Int)) : List PyData := tss.map fun ts => .list (ts.map PyData.int)
theorem eqv_linesD : ∀ tss uss : List (List Int), PyData.eqvAll (linesD tss) (linesD uss) = decide (tss = uss)
  | [], [] => by simp [linesD, PyData.eqvAll]
  | [], u :: us => by simp [linesD, PyData.eqvAll]
  | t :: ts, [] => by simp [linesD, PyData.eqvAll]
  | t :: ts, u :: us => by
    have ih := eqv_linesD ts us
    have h1 := eqv_li t u
    show (PyData.eqv (.list (t.map PyData.int)) (.list (u.map PyData.int)) && PyData.eqvAll (linesD ts) (linesD us)) = _
    rw [h1, ih]
    by_cases h : t = u
    · by_cases h2 : ts = us
      · simp [h, h2]
      · simp [h, h2]
    · simp [h]
theorem lay_linesD : ∀ tss : List (List Int), PyData.canLayAll0 (linesD tss) = true ∧ PyData.depthAll (linesD tss) ≤ 2
  | [] => by simp [linesD, PyData.canLayAll0, PyData.depthAll]
  | t :: ts => by
    obtain ⟨a, b⟩ := lay_linesD ts
    have h1 := ints_lay t
    have h2 := ints_depth t
    refine ⟨?_, ?_⟩
    · show (PyData.canLay0 (.list (t.map PyData.int)) && PyData.canLayAll0 (linesD ts)) = true
      rw [a, Bool.and_true]
      simp only [PyData.canLay0]
      exact h1
    · show max (PyData.depth (.list (t.map PyData.int))) (PyData.depthAll (linesD ts)) ≤ 2
      simp only [PyData.depth]
      omega
theorem shaped_linesD (tss : List (List Int)) : SeqAt.shaped (.list (linesD tss)) = true := by
  obtain ⟨a, b⟩ := lay_linesD tss
  show (PyData.canLay0 (.list (linesD tss)) && decide (PyData.depth (.list (linesD tss)) ≤ 64)) = true
  rw [Bool.and_eq_true]
  refine ⟨by simp only [PyData.canLay0]; exact a, decide_eq_true ?_⟩
  simp only [PyData.depth]
  omega
theorem eqv_lines (tss uss : List (List Int)) : PyData.eqv (.list (linesD tss)) (.list (linesD uss)) = decide (tss = uss) := by
  rw [show PyData.eqv (.list (linesD tss)) (.list (linesD uss)) = PyData.eqvAll (linesD tss) (linesD uss) by simp only [PyData.eqv], eqv_linesD]
theorem dp_linesD {K : PySem.W.Frag} {H : Hp} : ∀ {ps : List Addr} {tss : List (List Int)}, ps.length = tss.length → (∀ (j : Nat) (a : Addr) (ts : List Int), ps[j]? = some a → tss[j]? = some ts → H a = some (.lst (ts.map V.int))) → DpAll K H (ps.map V.ref) (linesD tss)
  | [], [], _, _ => .nil
  | [], _ :: _, h, _ => by cases h
  | _ :: _, [], h, _ => by cases h
  | p :: ps, t :: ts, h, f => .cons (.lst (SqL.of (f 0 p t rfl rfl)) (dp_ints t)) (dp_linesD (Nat.succ.inj h) fun j a b e1 e2 => f (j + 1) a b (by simpa using e1) (by simpa using e2))
theorem LinesAt.dp {K : PySem.W.Frag} {H : Hp} {l : Addr} {ps : List Addr} {tss : List (List Int)} (L : LinesAt H l ps tss) : Dp K H (.ref l) (.list (linesD tss)) := .lst (SqL.of L.1) (dp_linesD L.2.1 fun j a ts e1 e2 => (L.2.2 j a ts e1 e2).2)
theorem LinesAt.sh {H : Hp} {l : Addr} {ps : List Addr} {tss : List (List Int)} (L : LinesAt H l ps tss) : ShAll H (ps.map V.ref) (shL tss) := shL_all L.2.1 fun j a ts e1 e2 => (L.2.2 j a ts e1 e2).2
end J

set_option Elab.async false
set_option linter.all false
set_option maxRecDepth 100000
set_option maxHeartbeats 4000000
namespace J
open PySem PySem.Spec PyProof.Rows L2
/-! ### a place for a newcomer -/
/-- how many guests have lesser labels -/
def below (is : List Int) (n : Int) : Nat := (is.filter fun y => decide (y < n)).length
theorem below_le {is : List Int} {n : Int} : below is n ≤ is.length := List.length_filter_le ..
theorem filter_take {is : List Int} {n : Int} {i : Nat} {y : Int} (h : is[i]? = some y) : (is.take (i + 1)).filter (fun y => decide (y < n)) = (is.take i).filter (fun y => decide (y < n)) ++ (if y < n then [y] else []) := by
  rw [List.take_add_one, h, List.filter_append]
  congr 1
  by_cases c : y < n
  · rw [if_pos c]
    show [y].filter _ = _
    rw [List.filter_cons, if_pos (decide_eq_true c)]
    rfl
  · rw [if_neg c]
    show [y].filter _ = _
    rw [List.filter_cons, if_neg (by simp [c])]
    rfl
abbrev s_Company__place_for : Stmt := inClass (top 19) 13
theorem sc_Company__place_for : FnScope ["self", "label", "guest"] ["self", "label"] (defScope s_Company__place_for) := ⟨rfl, rfl, rfl, by decide +kernel, rfl, by decide +kernel, by decide +kernel⟩
def spPF (C CC CB : Addr) : Sp := fun vs H Q E => ∃ (x : Addr) (ns is : List Int) (tss : List (List Int)) (v : V) (s : Sh), vs = [.ref x, v] ∧ CompAt C CC H x ns is tss ∧ Is H v s ∧
  (is.length = 60 → Tells2 H CB "index" "what" (.int 60) (.str "many") E) ∧ (is.length ≠ 60 → wholeB v 0 1000000000 = false → Tells2 H CB "index" "what" (.int 0) (.str "label") E) ∧
  (is.length ≠ 60 → ∀ j, seat is v = some j → Tells2 H CB "index" "what" (.int (j : Nat)) (.str "label") E) ∧
  (is.length ≠ 60 → ∀ n : Int, v = .int n → wholeB v 0 1000000000 = true → seat is v = none → ∀ H', Same H H' → Q (.int (below is n : Nat)) H')
section
variable {P : Program} {w : World} {K : PySem.W.Frag} {mg : Str → Option Value} {base : Heap}
theorem ok_Company_place_for {f C CC CB CN fB fC fX fP : Addr} {fd fdB fdC fdX fdP : FuncData} (F : Fun K "_place_for" "Company._place_for" s_Company__place_for f fd) (c : CoC K CC) (nl : mg "len" = none) (mG : ∃ t, mg "MOST_GUESTS" = some (.int 60 t))
    (GB : Cal P w K mg base CX0 2 "is_label" fB fdB ["thing"] spLabel) (FC : FnOk P w K mg base CX0 3 fC fdC ["self", "label"] (spCIn C CC)) (aC : PySem.W.findIn K (.ref CC) "__contains__" = some (some (.ref fC))) (iC : PySem.W.isFn K (.ref fC) = true) (bC : Binds K fdC ["self", "label"] [])
    (GP : Mt P w K mg base (L2.CX P w) 4 CC "place_of" fP fdP ["self", "label"] (spCPlace C CC CN)) (GX : Ex2 P w K mg base "BadCompany" "index" "what" CB fX fdX ["self", "index", "what"]) :
    FnOk P w K mg base (L2.CX P w) 5 f fd ["self", "label"] (spPF C CC CB) := by
  obtain ⟨tG, mG⟩ := mG
  refine F.okX sc_Company__place_for (fun vs H Q E h => ?_) (fun cdv A outer s H vs Q E hr h => ?_)
  · obtain ⟨x, ns, is, tss, v, s, rfl, _⟩ := h
    rfl
  · obtain ⟨x, ns, is, tss, v, s, rfl, hC, hv, k1, k2, k3, k4⟩ := h
    obtain ⟨dx, t, g, r, b, p, ps, kvs, a1, a2, a3, a4, a5, a6, a7, a8, a9, a10, a11⟩ := id hC
    have hr2 : Room 2 _ := hr.mono (by decide)
    have hr3 : Room 3 _ := hr.mono (by decide)
    refine ⟨_, (pss_cons 
  (ps_if (pt_cmpR op_eq (pe_callB call_len_seq (by rfl) nl PySem.boot_len (pa_cons (pe_fld (pv 0) rfl) pa_nil)) (pe_glob (v := .int 60) rfl mG ⟨_, rfl⟩) (nomark _)) (pss_one 
    (ps_raise rfl (takes_of rfl rfl rfl rfl) (pmk_oex GX.o GX.i GX.t GX.F hr2 GX.b .nil pass0 rfl GX.m (pa_cons (pe_glob (v := .int 60) rfl mG ⟨_, rfl⟩) (pa_cons pe_str pa_nil))))) pss_nil) (pss_cons 
  (ps_if (pt_not (pt_val (pcal GB hr pass0 (pa_cons (pv 1) pa_nil)))) (pss_one 
    (ps_raise rfl (takes_of rfl rfl rfl rfl) (pmk_oex GX.o GX.i GX.t GX.F hr2 GX.b .nil pass0 rfl GX.m (pa_cons pe_int (pa_cons pe_str pa_nil))))) pss_nil) (pss_cons 
  (ps_if (pt_cmpR (op_inOwn FC aC iC bC pass0 hr3) (pv 1) (pv 0) (by rfl)) (pss_one 
    (ps_raise rfl (takes_of rfl rfl rfl rfl) (pmk_oex GX.o GX.i GX.t GX.F hr2 GX.b .nil pass0 rfl GX.m (pa_cons (pe_meth (pv 0) c.cl GP.M GP.F hr GP.b .nil passL (pa_cons (pv 1) pa_nil)) (pa_cons pe_str pa_nil))))) pss_nil) (pss_one 
  (ps_ret (pe_callB call_len_seq (by rfl) nl PySem.boot_len (pa_cons (pe_lc (own := [("guest", 2)]) (g := gName 2) (by rfl) sc_Company__place_for.nd (pi_tup (pe_fld (pv 0) rfl)) (blkOk_by (own := [("guest", 2)]) (N := ["self", "label", "guest"]) (sc := defScope s_Company__place_for) (by decide +kernel)) (fun _ _ _ _ _ => pg_name (i := 2) sc_Company__place_for.nd rfl (Or.inl rfl)) (fun _ _ _ _ _ => pts_one (pt_cmpR op_lt (pv 2) (pv 1) (nomark _))) (fun _ _ _ _ _ => (pv 2))) pa_nil))))))), ?_⟩
    refine ⟨_, rfl, x, CC, dx, _, _, rfl, a1, c.cl, c.nG, cf_guests _ _ _ _ _, g, _, rfl, .inr (SqT.of a3), rfl, _, rfl, ?_⟩
    rw [List.length_map]
    by_cases c60 : is.length = 60
    · exact if_tr (by simp [c60]) (mkO_of2 (k1 c60))
    refine if_fa (decide_eq_false fun z => c60 (by injection z with z; omega)) ?_
    refine ⟨_, rfl, v, s, rfl, hv, _, rfl, ?_⟩
    cases e : wholeB v 0 1000000000 with
    | false => exact iteT (mkO_of2 (k2 c60 e))
    | true =>
      refine iteF ⟨_, rfl, _, rfl, x, dx, _, rfl, a1, ⟨x, ns, is, tss, v, s, rfl, hC, hv, _, rfl, _, rfl, ?_⟩⟩
      cases es : seat is v with
      | some j =>
        refine iteT ⟨_, rfl, x, dx, _, rfl, a1, cf_no _ _ _ _ _ (by decide +kernel) (by decide +kernel) (by decide +kernel) (by decide +kernel) (by decide +kernel), _, rfl, x, ns, is, tss, v, s, rfl, hC, hv, fun i ei => ?_, fun e0 => by rw [es] at e0; cases e0⟩
        obtain rfl : j = i := by rw [es] at ei; exact Option.some.inj ei
        exact mkO_of2 (k3 c60 j es)
      | none =>
        obtain ⟨n, rfl, n0, n1⟩ := whole_int e
        refine iteF ⟨_, rfl, x, CC, dx, _, _, rfl, a1, c.cl, c.nG, cf_guests _ _ _ _ _, g, rfl, ⟨_, SqT.of a3⟩, fun D hD => ?_⟩
        refine lc_tup (K := K) (a := g) (xs := is.map V.int) (fun i H2 => Same H H2 ∧ H D = none ∧ H2 D = some (.lst (((is.take i).filter fun y => decide (y < n)).map V.int))) ⟨new_same hD, hD, upd_same⟩ (fun i H2 _ ⟨S, _⟩ => SqT.of (S _ _ a3)) ?_ ?_
        · rintro i y H2 hy ⟨S2, D0, eD⟩
          rw [List.getElem?_map] at hy
          cases hi : is[i]? with
          | none => rw [hi] at hy; cases hy
          | some m =>
            rw [hi] at hy
            obtain rfl : V.int m = y := Option.some.inj hy
            have him := (List.getElem?_eq_some_iff.mp hi).1
            refine ⟨rfl, _, rfl, _, rfl, _, _, rfl, rfl, _, rfl, ?_⟩
            have ft := filter_take (n := n) hi
            refine ifD (fun c1 => ?_) (fun c1 => ?_)
            · rw [if_pos c1] at ft
              refine ⟨_, rfl, _, eD, small1000 ?_, fun b' o e' => ?_, D0, by rw [upd_same, ft, List.map_append]; rfl⟩
              · rw [List.length_map]
                have := List.length_filter_le (fun y => decide (y < n)) (is.take i)
                rw [List.length_take] at this
                omega
              · rw [upd_ne (ne_of_none e' D0)]
                exact S2 _ _ e'
            · rw [if_neg c1, List.append_nil] at ft
              exact ⟨S2, D0, by rw [ft]; exact eD⟩
        · rintro H2 ⟨S2, D0, eD⟩
          rw [List.length_map, List.take_length] at eD
          refine ⟨D, _, rfl, .inl (SqL.of eD), ?_⟩
          rw [List.length_map]
          exact k4 c60 n rfl e es _ S2
end
end J

set_option Elab.async false
set_option linter.all false
set_option maxRecDepth 100000
set_option maxHeartbeats 8000000
namespace J
open PySem PySem.Spec PyProof.Rows L2
/-! ### a newcomer among guests and rows -/
theorem Asc.tail {y : Int} {ys : List Int} (a : Asc (y :: ys)) : Asc ys := fun j b c e1 e2 => a (j + 1) b c (by simpa using e1) (by simpa using e2)
theorem Asc.head {y : Int} : ∀ {ys : List Int}, Asc (y :: ys) → ∀ z ∈ ys, y < z
  | [], _, z, h => by cases h
  | x :: xs, a, z, h => by
    have q := a 0 y x rfl rfl
    rcases List.mem_cons.mp h with rfl | h
    · exact q
    · have := Asc.head a.tail z h
      omega
theorem below_cons {y n : Int} {ys : List Int} : below (y :: ys) n = if y < n then below ys n + 1 else below ys n := by
  unfold below
  by_cases c : y < n
  · rw [if_pos c, List.filter_cons, if_pos (decide_eq_true c)]
    rfl
  · rw [if_neg c, List.filter_cons, if_neg (by simp [c])]
theorem below_zero {n : Int} {ys : List Int} (h : ∀ z ∈ ys, ¬ z < n) : below ys n = 0 := by
  unfold below
  rw [List.filter_eq_nil_iff.mpr fun z hz => by simpa using h z hz]
  rfl
theorem below_spec {n : Int} : ∀ {is : List Int}, Asc is → ∀ (i : Nat) (y : Int), is[i]? = some y → (y < n ↔ i < below is n)
  | [], _, i, y, e => by simp at e
  | x :: xs, a, i, y, e => by
    rw [below_cons]
    by_cases c : x < n
    · rw [if_pos c]
      cases i with
      | zero =>
        obtain rfl : x = y := by simpa using e
        exact ⟨fun _ => Nat.succ_pos _, fun _ => c⟩
      | succ i =>
        rw [below_spec a.tail i y (by simpa using e)]
        omega
    · rw [if_neg c]
      have z : below xs n = 0 := below_zero fun w hw => by
        have := a.head w hw
        omega
      rw [z]
      refine ⟨fun h => ?_, fun h => absurd h (Nat.not_lt_zero _)⟩
      have ym := List.mem_of_getElem? e
      rcases List.mem_cons.mp ym with rfl | ym
      · exact absurd h c
      · have := a.head y ym
        omega
def insL (is : List Int) (n : Int) : List Int := is.take (below is n) ++ [n] ++ is.drop (below is n)
theorem insL_len {is : List Int} {n : Int} : (insL is n).length = is.length + 1 := by
  have := below_le (is := is) (n := n)
  unfold insL
  rw [List.length_append, List.length_append, List.length_take, List.length_drop]
  have l : [n].length = 1 := rfl
  omega
theorem insL_at {is : List Int} {n : Int} {j : Nat} {y : Int} (h : (insL is n)[j]? = some y) : (j < below is n ∧ is[j]? = some y) ∨ (j = below is n ∧ y = n) ∨ (below is n < j ∧ is[j - 1]? = some y) := by
  have b := below_le (is := is) (n := n)
  unfold insL at h
  rcases Nat.lt_trichotomy j (below is n) with c | c | c
  · left
    rw [List.append_assoc, List.getElem?_append_left (by rw [List.length_take]; omega), List.getElem?_take_of_lt c] at h
    exact ⟨c, h⟩
  · right; left
    rw [List.append_assoc, List.getElem?_append_right (by rw [List.length_take]; omega), List.length_take, show j - min (below is n) is.length = 0 by omega] at h
    exact ⟨c, (Option.some.inj h).symm⟩
  · right; right
    rw [List.getElem?_append_right (by rw [List.length_append, List.length_take]; have l : [n].length = 1 := rfl; omega), List.length_append, List.length_take, List.getElem?_drop] at h
    have l : [n].length = 1 := rfl
    rw [show below is n + (j - (min (below is n) is.length + [n].length)) = j - 1 by omega] at h
    exact ⟨c, h⟩
theorem insL_asc {is : List Int} {n : Int} (a : Asc is) (h : ∀ y ∈ is, y ≠ n) : Asc (insL is n) := by
  intro j x y e1 e2
  rcases insL_at e1 with ⟨c1, q1⟩ | ⟨c1, q1⟩ | ⟨c1, q1⟩
  · rcases insL_at e2 with ⟨c2, q2⟩ | ⟨c2, q2⟩ | ⟨c2, q2⟩
    · exact a j x y q1 q2
    · rw [q2]
      exact (below_spec a j x q1).mpr c1
    · omega
  · rcases insL_at e2 with ⟨c2, q2⟩ | ⟨c2, q2⟩ | ⟨c2, q2⟩
    · omega
    · omega
    · rw [q1]
      have z : ¬ y < n := fun w => by
        have := (below_spec a _ y q2).mp w
        omega
      have := h y (List.mem_of_getElem? q2)
      omega
  · rcases insL_at e2 with ⟨c2, q2⟩ | ⟨c2, q2⟩ | ⟨c2, q2⟩
    · omega
    · omega
    · exact a (j - 1) x y q1 (by rw [show j - 1 + 1 = j by omega]; simpa using q2)
theorem insL_mem {is : List Int} {n y : Int} (h : y ∈ insL is n) : y = n ∨ y ∈ is := by
  obtain ⟨j, hj⟩ := List.getElem?_of_mem h
  rcases insL_at hj with ⟨_, q⟩ | ⟨_, q⟩ | ⟨_, q⟩
  · exact .inr (List.mem_of_getElem? q)
  · exact .inl q
  · exact .inr (List.mem_of_getElem? q)
theorem seat_no {is : List Int} {n : Int} (h : seat is (.int n) = none) : ∀ y ∈ is, y ≠ n := fun y hy e => by
  have q : is.findIdx? (fun y => decide (y = n)) = none := h
  rw [List.findIdx?_eq_none_iff] at q
  have := q y hy
  simp [e] at this
/-- a later guest's row, with the tie to the newcomer put in -/
def laterR (ns us : List Int) (tss : List (List Int)) (p j : Nat) : List Int := ((tss[j]?).getD []).take p ++ [(ns[((us[j]?).getD 0).toNat]?).getD 0] ++ ((tss[j]?).getD []).drop p
/-- the rows with the newcomer at place p, k later ones of them -/
def withK (ns us : List Int) (tss : List (List Int)) (p k : Nat) : List (List Int) := tss.take p ++ [us.take p] ++ (List.range k).map fun i => laterR ns us tss p (p + i)
/-- all rows with the newcomer at place p -/
def withR (ns us : List Int) (tss : List (List Int)) (p : Nat) : List (List Int) := withK ns us tss p (tss.length - p)
theorem withK_succ {ns us : List Int} {tss : List (List Int)} {p k : Nat} : withK ns us tss p (k + 1) = withK ns us tss p k ++ [laterR ns us tss p (p + k)] := by
  unfold withK
  rw [List.range_succ, List.map_append, ← List.append_assoc]
  rfl
theorem withK_len {ns us : List Int} {tss : List (List Int)} {p k : Nat} (h : p ≤ tss.length) : (withK ns us tss p k).length = p + 1 + k := by
  unfold withK
  rw [List.length_append, List.length_append, List.length_take, List.length_map, List.length_range]
  have l : [us.take p].length = 1 := rfl
  omega
theorem withR_rows {ns us : List Int} {tss : List (List Int)} {p : Nat} (g : GoodB ns) (R : Rows ns.length tss) (h : p ≤ tss.length) (hu : us.length = tss.length) (ur : ∀ u ∈ us, 0 ≤ u ∧ u < (ns.length : Nat)) : Rows ns.length (withR ns us tss p) := by
  intro j ts e
  unfold withR withK at e
  rcases Nat.lt_trichotomy j p with c | c | c
  · rw [List.append_assoc, List.getElem?_append_left (by rw [List.length_take]; omega), List.getElem?_take_of_lt c] at e
    exact R j ts e
  · rw [List.append_assoc, List.getElem?_append_right (by rw [List.length_take]; omega), List.length_take, show j - min p tss.length = 0 by omega] at e
    obtain rfl : us.take p = ts := Option.some.inj e
    exact ⟨by rw [List.length_take]; omega, fun t ht => ur t (List.mem_of_mem_take ht)⟩
  · have l : [us.take p].length = 1 := rfl
    rw [List.getElem?_append_right (by rw [List.length_append, List.length_take]; omega), List.length_append, List.length_take, List.getElem?_map] at e
    have hj : j - (min p tss.length + [us.take p].length) < tss.length - p := by
      cases q : (List.range (tss.length - p))[j - (min p tss.length + [us.take p].length)]? with
      | none => rw [q] at e; cases e
      | some z =>
        have := (List.getElem?_eq_some_iff.mp q).1
        rwa [List.length_range] at this
    rw [List.getElem?_range hj] at e
    obtain rfl : laterR ns us tss p (p + (j - (min p tss.length + [us.take p].length))) = ts := Option.some.inj e
    rw [show p + (j - (min p tss.length + [us.take p].length)) = j - 1 by omega]
    have jt : j - 1 < tss.length := by omega
    have et := List.getElem?_eq_getElem jt
    have eu := List.getElem?_eq_getElem (l := us) (i := j - 1) (by omega)
    obtain ⟨r1, r2⟩ := R _ _ et
    have ub := ur _ (List.mem_of_getElem? eu)
    unfold laterR
    rw [et, eu]
    show (tss[j - 1].take p ++ [(ns[(us[j - 1]'(by omega)).toNat]?).getD 0] ++ tss[j - 1].drop p).length = j ∧ _
    have en := List.getElem?_eq_getElem (l := ns) (i := (us[j - 1]'(by omega)).toNat) (by omega)
    refine ⟨?_, fun t ht => ?_⟩
    · rw [List.length_append, List.length_append, List.length_take, List.length_drop]
      have l2 : [(ns[(us[j - 1]'(by omega)).toNat]?).getD 0].length = 1 := rfl
      omega
    · rw [List.mem_append, List.mem_append, List.mem_singleton] at ht
      rcases ht with (ht | ht) | ht
      · exact r2 t (List.mem_of_mem_take ht)
      · have hz : (ns[(us[j - 1]'(by omega)).toNat]?).getD 0 ∈ ns := by
          rw [en]
          exact List.mem_of_getElem? en
        rw [ht]
        exact g.rng _ hz
      · exact r2 t (List.mem_of_mem_drop ht)
/-- rows of a list that is being made -/
def RowR (D : Addr) (H : Hp) (v : V) (ts : List Int) : Prop := ∃ a, v = .ref a ∧ a ≠ D ∧ (H a = some (.tup (ts.map V.int)) ∨ H a = some (.lst (ts.map V.int)))
def AtRows (D : Addr) (H : Hp) (acc : List V) (T : List (List Int)) : Prop := acc.length = T.length ∧ ∀ (j : Nat) (v : V) (ts : List Int), acc[j]? = some v → T[j]? = some ts → RowR D H v ts
theorem AtRows.fr {D : Addr} {H H' : Hp} {acc : List V} {T : List (List Int)} (h : AtRows D H acc T) (f : ∀ a o, a ≠ D → H a = some o → H' a = some o) : AtRows D H' acc T := ⟨h.1, fun j v ts e1 e2 => by
  obtain ⟨a, r1, r2, r3⟩ := h.2 j v ts e1 e2
  exact ⟨a, r1, r2, r3.imp (f a _ r2) (f a _ r2)⟩⟩
theorem AtRows.snoc {D : Addr} {H : Hp} {acc : List V} {T : List (List Int)} {v : V} {ts : List Int} (h : AtRows D H acc T) (r : RowR D H v ts) : AtRows D H (acc ++ [v]) (T ++ [ts]) := by
  refine ⟨by rw [List.length_append, List.length_append, h.1]; rfl, fun j u us e1 e2 => ?_⟩
  rcases Nat.lt_or_ge j acc.length with c | c
  · rw [List.getElem?_append_left c] at e1
    rw [List.getElem?_append_left (by have := h.1; omega)] at e2
    exact h.2 j u us e1 e2
  · have cj : j = acc.length := by
      have := (List.getElem?_eq_some_iff.mp e1).1
      rw [List.length_append] at this
      have l : [v].length = 1 := rfl
      omega
    subst cj
    rw [List.getElem?_append_right (Nat.le_refl _), Nat.sub_self] at e1
    rw [h.1, List.getElem?_append_right (Nat.le_refl _), Nat.sub_self] at e2
    obtain rfl : v = u := Option.some.inj e1
    obtain rfl : ts = us := Option.some.inj e2
    exact r
theorem AtRows.shapes {D : Addr} {H : Hp} : ∀ {acc : List V} {T : List (List Int)}, AtRows D H acc T → ∃ ss, ShAll H acc ss ∧ ShRows ss T
  | [], [], _ => ⟨[], .nil, rfl, fun j s ts e => by simp at e⟩
  | [], _ :: _, h => by have := h.1; cases this
  | _ :: _, [], h => by have := h.1; cases this
  | v :: acc, t :: T, h => by
    obtain ⟨ss, s1, s2⟩ := AtRows.shapes (acc := acc) (T := T) ⟨Nat.succ.inj h.1, fun j u us e1 e2 => h.2 (j + 1) u us (by simpa using e1) (by simpa using e2)⟩
    obtain ⟨a, rfl, _, r3⟩ := h.2 0 v t rfl rfl
    rcases r3 with r3 | r3
    · refine ⟨.tup (t.map V.int) :: ss, .cons ⟨⟨a, rfl, r3⟩, ints_known t⟩ s1, by rw [List.length_cons, List.length_cons, s2.1], fun j s ts e1 e2 => ?_⟩
      cases j with
      | zero =>
        obtain rfl : Sh.tup (t.map V.int) = s := by simpa using e1
        obtain rfl : t = ts := by simpa using e2
        exact ⟨rfl, rfl⟩
      | succ j => exact s2.2 j s ts (by simpa using e1) (by simpa using e2)
    · refine ⟨.lst (t.map V.int) :: ss, .cons ⟨⟨a, rfl, r3⟩, ints_known t⟩ s1, by rw [List.length_cons, List.length_cons, s2.1], fun j s ts e1 e2 => ?_⟩
      cases j with
      | zero =>
        obtain rfl : Sh.lst (t.map V.int) = s := by simpa using e1
        obtain rfl : t = ts := by simpa using e2
        exact ⟨rfl, rfl⟩
      | succ j => exact s2.2 j s ts (by simpa using e1) (by simpa using e2)
end J

set_option Elab.async false
set_option linter.all false
set_option maxRecDepth 100000
set_option maxHeartbeats 8000000
namespace J
open PySem PySem.Spec PyProof.Rows L2
/-! ### slices and sums of tuples that stand in the heap -/
theorem row_ints {m k : Nat} {s : Sh} (h : rowW m k s = none) : ∃ us : List Int, items s = us.map V.int ∧ ∀ u ∈ us, 0 ≤ u ∧ u < (m : Nat) := by
  unfold rowW at h
  split at h
  · split at h
    · split at h
      · rename_i q
        obtain ⟨ns, e, r⟩ := all_ints q
        exact ⟨ns, e, fun u hu => ⟨(r u hu).1, by have := (r u hu).2; omega⟩⟩
      · cases h
    · cases h
  · cases h
theorem row_len {m k : Nat} {s : Sh} {us : List Int} (h : rowW m k s = none) (e : items s = us.map V.int) : us.length = k := by
  unfold rowW at h
  split at h
  · split at h
    · rename_i q
      rw [e, List.length_map] at q
      exact q
    · cases h
  · cases h
def rSlN : V → Option Int → Option Int → Hp → VK → Prop := fun x lo hi H Q => ∃ a xs, x = .ref a ∧ H a = some (.tup xs) ∧ ∀ H' z, Same H H' → H' z = some (.tup (cutV xs lo hi)) → Q (.ref z) H'
theorem cut_whole {xs : List V} {lo hi : Option Int} (h : HT.sIx xs.length 0 lo = 0 ∧ HT.sIx xs.length xs.length hi = xs.length) : cutV xs lo hi = xs := by
  unfold cutV
  rw [h.1, h.2]
  simp
theorem sl_tupN {X : Cx} : SlR X rSlN := by
  intro pins s σ H x v vl vu lo hi sl Q I rx hs pl pu h
  obtain ⟨a, xs, rfl, ha, q⟩ := h
  exact sl_tupA pins s σ H _ v vl vu lo hi sl Q I rx hs pl pu ⟨a, xs, rfl, SqT.of ha, fun w => q H a (Same.refl _) (by rw [cut_whole w]; exact ha), fun _ p hp => q _ p (new_same hp) upd_same⟩
def rCatN : R2 := fun x y H Q => ∃ a b xs ys, x = .ref a ∧ y = .ref b ∧ H a = some (.tup xs) ∧ H b = some (.tup ys) ∧ xs.length + ys.length ≤ 1000 ∧ ∀ H' z, Same H H' → H' z = some (.tup (xs ++ ys)) → Q (.ref z) H'
theorem op_catN {X : Cx} : OpR X (binaryOp .Add) rCatN := by
  intro pins s σ H x y v u Q I rx ry h
  obtain ⟨a, b, xs, ys, rfl, rfl, ha, hb, hl, q⟩ := h
  exact op_catA pins s σ H _ _ v u Q I rx ry ⟨a, b, xs, ys, rfl, rfl, SqT.of ha, SqT.of hb, Nat.le_of_lt (small1000 hl), fun e => q H b (Same.refl _) (by rw [e]; exact hb), fun _ e => q H a (Same.refl _) (by rw [e, List.append_nil]; exact ha), fun _ _ p hp => q _ p (new_same hp) upd_same⟩
theorem cut_take {xs : List V} {k : Nat} (h : k ≤ xs.length) : cutV xs none (some ((k : Nat) : Int)) = xs.take k := by
  unfold cutV
  rw [HT.sIx_none, HT.sIx_nat, Nat.min_eq_left h]
  simp
theorem cut_drop {xs : List V} {k : Nat} (h : k ≤ xs.length) : cutV xs (some ((k : Nat) : Int)) none = xs.drop k := by
  unfold cutV
  rw [HT.sIx_none, HT.sIx_nat, Nat.min_eq_left h]
  exact List.take_of_length_le (by rw [List.length_drop]; omega)
abbrev s_Company_with_row : Stmt := inClass (top 19) 10
theorem sc_Company_with_row : FnScope ["self", "label", "row", "place", "guests", "rows", "later", "old"] ["self", "label", "row"] (defScope s_Company_with_row) := ⟨rfl, rfl, rfl, by decide +kernel, rfl, by decide +kernel, by decide +kernel⟩
def spWR (C CC CB : Addr) : Sp := fun vs H Q E => ∃ (x : Addr) (ns is : List Int) (tss : List (List Int)) (v rv : V) (s sr : Sh), vs = [.ref x, v, rv] ∧ CompAt C CC H x ns is tss ∧ GoodB ns ∧ Is H v s ∧ Is H rv sr ∧ Known H (items sr) ∧
  (is.length = 60 → Tells2 H CB "index" "what" (.int 60) (.str "many") E) ∧ (is.length ≠ 60 → wholeB v 0 1000000000 = false → Tells2 H CB "index" "what" (.int 0) (.str "label") E) ∧
  (is.length ≠ 60 → ∀ j, seat is v = some j → Tells2 H CB "index" "what" (.int (j : Nat)) (.str "label") E) ∧
  (is.length ≠ 60 → ∀ n : Int, v = .int n → wholeB v 0 1000000000 = true → seat is v = none → (∀ u, rowW ns.length is.length sr = some u → Tells2 H CB "index" "what" (.int (below is n : Nat)) (.str u) E) ∧
    (rowW ns.length is.length sr = none → ∀ us, items sr = us.map V.int → ∀ (H' : Hp) (z : Addr), Same H H' → CompAt C CC H' z ns (insL is n) (withR ns us tss (below is n)) → Q (.ref z) H'))
section
variable {P : Program} {w : World} {K : PySem.W.Frag} {mg : Str → Option Value} {base : Heap}
theorem ok_Company_with_row {f C CC CB CN CI fP fR fB fJ : Addr} {fd fdP fdR fdB fdJ : FuncData} (F : Fun K "with_row" "Company.with_row" s_Company_with_row f fd) (T : TiC K C) (c : CoC K CC) (nl : mg "len" = none) (nr : mg "range" = none) (nli : mg "list" = none)
    (GP : Mt P w K mg base (L2.CX P w) 5 CC "_place_for" fP fdP ["self", "label"] (spPF C CC CB)) (GR : Cal P w K mg base (L2.CX P w) 3 "_check_row" fR fdR ["ties", "index", "row", "length"] (spRow C CB)) (GBk : Mt P w K mg base (L2.CX P w) 3 C "back" fB fdB ["self", "tie"] (spBack C CI))
    (mC : mg "Company" = some (.ref CC)) (MJ : Mk K CC fJ) (FJ : FnOk P w K mg base (L2.CX P w) 5 fJ fdJ ["self", "ties", "guests", "rows"] (spCompI C CC CB)) (bJ : Binds K fdJ ["self", "ties", "guests", "rows"] []) :
    FnOk P w K mg base (L2.CX P w) 7 f fd ["self", "label", "row"] (spWR C CC CB) := by
  refine F.okX sc_Company_with_row (fun vs H Q E h => ?_) (fun cdv A outer s H vs Q E hr h => ?_)
  · obtain ⟨x, ns, is, tss, v, rv, s, sr, rfl, _⟩ := h
    rfl
  · obtain ⟨x, ns, is, tss, v, rv, s, sr, rfl, hC, gb, hv, hrv, kn, k1, k2, k3, k4⟩ := h
    obtain ⟨dx, t, g, r, b, p, ps, kvs, a1, a2, a3, a4, a5, a6, a7, a8, a9, a10, a11⟩ := id hC
    cases sr with
    | sc u =>
      refine ⟨_, (pss_cons 
  (ps_set (i := 3) sc_Company_with_row.nd rfl (Or.inl rfl) (pe_meth (pv 0) c.cl GP.M GP.F (hr.mono (by decide)) GP.b .nil (passes_call (takes_of rfl rfl rfl rfl) (fun _ _ _ _ h => h)) (pa_cons (pv 1) pa_nil))) (pss_cons 
  (ps_expr (pcal GR hr (passes_call (takes_of rfl rfl rfl rfl) (fun _ _ _ _ h => h)) (pa_cons (pe_fld (pv 0) rfl) (pa_cons (pv 3) (pa_cons (pv 2) (pa_cons (pe_callB call_len_seq (by rfl) nl PySem.boot_len (pa_cons (pe_fld (pv 0) rfl) pa_nil)) pa_nil)))))) (pss_cons 
  (ps_set (i := 4) sc_Company_with_row.nd rfl (Or.inl rfl) (pe_op op_catN (pe_op op_catN (pe_slice sl_tupN (pe_fld (pv 0) rfl) po_none (po_some (pv 3))) (pe_tup (pa_cons (pv 1) pa_nil))) (pe_slice sl_tupN (pe_fld (pv 0) rfl) (po_some (pv 3)) po_none))) (pss_cons 
  (ps_set (i := 5) sc_Company_with_row.nd rfl (Or.inl rfl) (pe_callTy (T := "list") (r := fun xs H Q => ∃ p ys, xs = [.ref p] ∧ (SqL K H p ys ∨ SqT K H p ys) ∧ ∀ l, H l = none → Q (.ref l) (upd H l (.lst ys))) call_list_of (by rfl) nli (by decide +kernel) (pa_cons (pe_slice sl_tupN (pe_fld (pv 0) rfl) po_none (po_some (pv 3))) pa_nil))) (pss_cons 
  (ps_expr (pe_bm PySem.F.plainAttrs_list PySem.F.slot_list_append PySem.F.type_list_append mt_append (pv 5) (pa_cons (pe_slice sl_list (pv 2) po_none (po_some (pv 3))) pa_nil))) (pss_cons 
  (ps_for (passes_of rfl) rfl (pi_range2 (by rfl) nr (pa_cons (pv 3) (pa_cons (pe_callB call_len_seq (by rfl) nl PySem.boot_len (pa_cons (pe_fld (pv 0) rfl) pa_nil)) pa_nil))) (pg_name (i := 6) sc_Company_with_row.nd rfl (Or.inl rfl)) (pss_cons 
    (ps_set (i := 7) sc_Company_with_row.nd rfl (Or.inl rfl) (pe_ix ix_tup (pe_fld (pv 0) rfl) (pv 6) (fun _ _ => rfl))) (pss_one 
    (ps_expr (pe_bm PySem.F.plainAttrs_list PySem.F.slot_list_append PySem.F.type_list_append mt_append (pv 5) (pa_cons (pe_op op_catN (pe_op op_catN (pe_slice sl_tupN (pv 7) po_none (po_some (pv 3))) (pe_tup (pa_cons (pe_meth (pe_fld (pv 0) rfl) T.cl GBk.M GBk.F (hr.mono (by decide)) GBk.b .nil passL (pa_cons (pe_ix ix_list (pv 2) (pv 6) (fun _ _ => rfl)) pa_nil)) pa_nil))) (pe_slice sl_tupN (pv 7) (po_some (pv 3)) po_none)) pa_nil)))))) (pss_one 
  (ps_ret (pe_make MJ FJ hr rfl mC bJ .nil passL (pa_cons (pe_fld (pv 0) rfl) (pa_cons (pv 4) (pa_cons (pv 5) pa_nil)))))))))))), ?_⟩
      refine ⟨_, rfl, x, dx, _, rfl, a1, cf_no _ _ _ _ _ (by decide +kernel) (by decide +kernel) (by decide +kernel) (by decide +kernel) (by decide +kernel), _, rfl, x, ns, is, tss, v, s, rfl, hC, hv, k1, k2, k3, fun c60 n ev ew es H1 S1 => ?_⟩
      obtain ⟨k5, k6⟩ := k4 c60 n ev ew es
      have il : (is.map V.int).length = is.length := List.length_map _
      refine ⟨_, rfl, x, CC, dx, _, _, rfl, S1 _ _ a1, c.cl, c.nT, cf_ties _ _ _ _ _, _, rfl, _, rfl, _, rfl, x, CC, dx, _, _, rfl, S1 _ _ a1, c.cl, c.nG, cf_guests _ _ _ _ _, g, _, rfl, .inr (SqT.of (S1 _ _ a3)), t, ns, below is n, (is.map V.int).length, rv, (.sc u), rfl, a2.keep S1, hrv.keep S1, kn.keep S1, fun u e => (k5 u (by rw [il] at e; exact e)).mono S1, fun e H2 S2 => ?_⟩
      rw [il] at e
      cases e
    | dk =>
      refine ⟨_, (pss_cons 
  (ps_set (i := 3) sc_Company_with_row.nd rfl (Or.inl rfl) (pe_meth (pv 0) c.cl GP.M GP.F (hr.mono (by decide)) GP.b .nil (passes_call (takes_of rfl rfl rfl rfl) (fun _ _ _ _ h => h)) (pa_cons (pv 1) pa_nil))) (pss_cons 
  (ps_expr (pcal GR hr (passes_call (takes_of rfl rfl rfl rfl) (fun _ _ _ _ h => h)) (pa_cons (pe_fld (pv 0) rfl) (pa_cons (pv 3) (pa_cons (pv 2) (pa_cons (pe_callB call_len_seq (by rfl) nl PySem.boot_len (pa_cons (pe_fld (pv 0) rfl) pa_nil)) pa_nil)))))) (pss_cons 
  (ps_set (i := 4) sc_Company_with_row.nd rfl (Or.inl rfl) (pe_op op_catN (pe_op op_catN (pe_slice sl_tupN (pe_fld (pv 0) rfl) po_none (po_some (pv 3))) (pe_tup (pa_cons (pv 1) pa_nil))) (pe_slice sl_tupN (pe_fld (pv 0) rfl) (po_some (pv 3)) po_none))) (pss_cons 
  (ps_set (i := 5) sc_Company_with_row.nd rfl (Or.inl rfl) (pe_callTy (T := "list") (r := fun xs H Q => ∃ p ys, xs = [.ref p] ∧ (SqL K H p ys ∨ SqT K H p ys) ∧ ∀ l, H l = none → Q (.ref l) (upd H l (.lst ys))) call_list_of (by rfl) nli (by decide +kernel) (pa_cons (pe_slice sl_tupN (pe_fld (pv 0) rfl) po_none (po_some (pv 3))) pa_nil))) (pss_cons 
  (ps_expr (pe_bm PySem.F.plainAttrs_list PySem.F.slot_list_append PySem.F.type_list_append mt_append (pv 5) (pa_cons (pe_slice sl_list (pv 2) po_none (po_some (pv 3))) pa_nil))) (pss_cons 
  (ps_for (passes_of rfl) rfl (pi_range2 (by rfl) nr (pa_cons (pv 3) (pa_cons (pe_callB call_len_seq (by rfl) nl PySem.boot_len (pa_cons (pe_fld (pv 0) rfl) pa_nil)) pa_nil))) (pg_name (i := 6) sc_Company_with_row.nd rfl (Or.inl rfl)) (pss_cons 
    (ps_set (i := 7) sc_Company_with_row.nd rfl (Or.inl rfl) (pe_ix ix_tup (pe_fld (pv 0) rfl) (pv 6) (fun _ _ => rfl))) (pss_one 
    (ps_expr (pe_bm PySem.F.plainAttrs_list PySem.F.slot_list_append PySem.F.type_list_append mt_append (pv 5) (pa_cons (pe_op op_catN (pe_op op_catN (pe_slice sl_tupN (pv 7) po_none (po_some (pv 3))) (pe_tup (pa_cons (pe_meth (pe_fld (pv 0) rfl) T.cl GBk.M GBk.F (hr.mono (by decide)) GBk.b .nil passL (pa_cons (pe_ix ix_list (pv 2) (pv 6) (fun _ _ => rfl)) pa_nil)) pa_nil))) (pe_slice sl_tupN (pv 7) (po_some (pv 3)) po_none)) pa_nil)))))) (pss_one 
  (ps_ret (pe_make MJ FJ hr rfl mC bJ .nil passL (pa_cons (pe_fld (pv 0) rfl) (pa_cons (pv 4) (pa_cons (pv 5) pa_nil)))))))))))), ?_⟩
      refine ⟨_, rfl, x, dx, _, rfl, a1, cf_no _ _ _ _ _ (by decide +kernel) (by decide +kernel) (by decide +kernel) (by decide +kernel) (by decide +kernel), _, rfl, x, ns, is, tss, v, s, rfl, hC, hv, k1, k2, k3, fun c60 n ev ew es H1 S1 => ?_⟩
      obtain ⟨k5, k6⟩ := k4 c60 n ev ew es
      have il : (is.map V.int).length = is.length := List.length_map _
      refine ⟨_, rfl, x, CC, dx, _, _, rfl, S1 _ _ a1, c.cl, c.nT, cf_ties _ _ _ _ _, _, rfl, _, rfl, _, rfl, x, CC, dx, _, _, rfl, S1 _ _ a1, c.cl, c.nG, cf_guests _ _ _ _ _, g, _, rfl, .inr (SqT.of (S1 _ _ a3)), t, ns, below is n, (is.map V.int).length, rv, .dk, rfl, a2.keep S1, hrv.keep S1, kn.keep S1, fun u e => (k5 u (by rw [il] at e; exact e)).mono S1, fun e H2 S2 => ?_⟩
      rw [il] at e
      cases e
    | lst us' =>
      refine ⟨_, (pss_cons 
  (ps_set (i := 3) sc_Company_with_row.nd rfl (Or.inl rfl) (pe_meth (pv 0) c.cl GP.M GP.F (hr.mono (by decide)) GP.b .nil (passes_call (takes_of rfl rfl rfl rfl) (fun _ _ _ _ h => h)) (pa_cons (pv 1) pa_nil))) (pss_cons 
  (ps_expr (pcal GR hr (passes_call (takes_of rfl rfl rfl rfl) (fun _ _ _ _ h => h)) (pa_cons (pe_fld (pv 0) rfl) (pa_cons (pv 3) (pa_cons (pv 2) (pa_cons (pe_callB call_len_seq (by rfl) nl PySem.boot_len (pa_cons (pe_fld (pv 0) rfl) pa_nil)) pa_nil)))))) (pss_cons 
  (ps_set (i := 4) sc_Company_with_row.nd rfl (Or.inl rfl) (pe_op op_catN (pe_op op_catN (pe_slice sl_tupN (pe_fld (pv 0) rfl) po_none (po_some (pv 3))) (pe_tup (pa_cons (pv 1) pa_nil))) (pe_slice sl_tupN (pe_fld (pv 0) rfl) (po_some (pv 3)) po_none))) (pss_cons 
  (ps_set (i := 5) sc_Company_with_row.nd rfl (Or.inl rfl) (pe_callTy (T := "list") (r := fun xs H Q => ∃ p ys, xs = [.ref p] ∧ (SqL K H p ys ∨ SqT K H p ys) ∧ ∀ l, H l = none → Q (.ref l) (upd H l (.lst ys))) call_list_of (by rfl) nli (by decide +kernel) (pa_cons (pe_slice sl_tupN (pe_fld (pv 0) rfl) po_none (po_some (pv 3))) pa_nil))) (pss_cons 
  (ps_expr (pe_bm PySem.F.plainAttrs_list PySem.F.slot_list_append PySem.F.type_list_append mt_append (pv 5) (pa_cons (pe_slice sl_list (pv 2) po_none (po_some (pv 3))) pa_nil))) (pss_cons 
  (ps_for (passes_of rfl) rfl (pi_range2 (by rfl) nr (pa_cons (pv 3) (pa_cons (pe_callB call_len_seq (by rfl) nl PySem.boot_len (pa_cons (pe_fld (pv 0) rfl) pa_nil)) pa_nil))) (pg_name (i := 6) sc_Company_with_row.nd rfl (Or.inl rfl)) (pss_cons 
    (ps_set (i := 7) sc_Company_with_row.nd rfl (Or.inl rfl) (pe_ix ix_tup (pe_fld (pv 0) rfl) (pv 6) (fun _ _ => rfl))) (pss_one 
    (ps_expr (pe_bm PySem.F.plainAttrs_list PySem.F.slot_list_append PySem.F.type_list_append mt_append (pv 5) (pa_cons (pe_op op_catN (pe_op op_catN (pe_slice sl_tupN (pv 7) po_none (po_some (pv 3))) (pe_tup (pa_cons (pe_meth (pe_fld (pv 0) rfl) T.cl GBk.M GBk.F (hr.mono (by decide)) GBk.b .nil passL (pa_cons (pe_ix ix_list (pv 2) (pv 6) (fun _ _ => rfl)) pa_nil)) pa_nil))) (pe_slice sl_tupN (pv 7) (po_some (pv 3)) po_none)) pa_nil)))))) (pss_one 
  (ps_ret (pe_make MJ FJ hr rfl mC bJ .nil passL (pa_cons (pe_fld (pv 0) rfl) (pa_cons (pv 4) (pa_cons (pv 5) pa_nil)))))))))))), ?_⟩
      refine ⟨_, rfl, x, dx, _, rfl, a1, cf_no _ _ _ _ _ (by decide +kernel) (by decide +kernel) (by decide +kernel) (by decide +kernel) (by decide +kernel), _, rfl, x, ns, is, tss, v, s, rfl, hC, hv, k1, k2, k3, fun c60 n ev ew es H1 S1 => ?_⟩
      obtain ⟨k5, k6⟩ := k4 c60 n ev ew es
      have il : (is.map V.int).length = is.length := List.length_map _
      refine ⟨_, rfl, x, CC, dx, _, _, rfl, S1 _ _ a1, c.cl, c.nT, cf_ties _ _ _ _ _, _, rfl, _, rfl, _, rfl, x, CC, dx, _, _, rfl, S1 _ _ a1, c.cl, c.nG, cf_guests _ _ _ _ _, g, _, rfl, .inr (SqT.of (S1 _ _ a3)), t, ns, below is n, (is.map V.int).length, rv, .lst us', rfl, a2.keep S1, hrv.keep S1, kn.keep S1, fun u e => (k5 u (by rw [il] at e; exact e)).mono S1, fun e H2 S2 => ?_⟩
      rw [il] at e
      obtain ⟨us, hus, ur⟩ := row_ints e
      have hus : us' = us.map V.int := hus
      subst hus
      have ul : us.length = is.length := row_len e rfl
      obtain ⟨ra, rfl, hra⟩ := hrv
      have S12 := S1.trans S2
      have b1 := S12 _ _ a1
      have b2 := a2.keep S12
      have b3 := S12 _ _ a3
      have b4 := a4.keep S12
      have bra := S12 _ _ hra
      have R : Rows ns.length tss := fun j ts et => by
        have hj := (List.getElem?_eq_some_iff.mp et).1
        have ep := List.getElem?_eq_getElem (l := ps) (i := j) (by have := a4.2.1; omega)
        exact (a4.2.2 j _ ts ep et).2
      have ple : below is n ≤ is.length := below_le
      have pl : ps.length = tss.length := a4.2.1
      clear S1 S2
      generalize hp : below is n = pp at *
      -- guests
      refine ⟨_, rfl, x, CC, dx, _, _, rfl, b1, c.cl, c.nG, cf_guests _ _ _ _ _, _, rfl, _, rfl, g, _, rfl, b3, fun H3 z3 S3 e3 => ?_⟩
      rw [cut_take (by omega)] at e3
      refine ⟨_, rfl, (by show 1 ≤ sizeLine; decide), fun z4 h4 => ?_⟩
      refine ⟨z3, z4, _, _, rfl, rfl, new_same h4 _ _ e3, upd_same, by rw [List.length_take]; show _ + 1 ≤ 1000; omega, fun H5 z5 S5 e5 => ?_⟩
      have S25 := (S3.trans (new_same h4)).trans S5
      refine ⟨_, rfl, x, CC, dx, _, _, rfl, S25 _ _ b1, c.cl, c.nG, cf_guests _ _ _ _ _, _, rfl, _, rfl, g, _, rfl, S25 _ _ b3, fun H6 z6 S6 e6 => ?_⟩
      rw [cut_drop (by omega)] at e6
      refine ⟨z5, z6, _, _, rfl, rfl, S6 _ _ e5, e6, by rw [List.length_append, List.length_take, List.length_drop]; show _ + 1 + _ ≤ 1000; omega, fun H7 gz S7 eg => ?_⟩
      have S27 := (S25.trans S6).trans S7
      have eg7 : H7 gz = some (.tup ((insL is n).map V.int)) := by
        rw [eg]
        unfold insL
        rw [hp, ev, List.map_append, List.map_append, List.map_take, List.map_drop]
        rfl
      clear e3 e5 e6 eg h4 S3 S5 S6 S7 S25
      have S07 := S12.trans S27
      have d1 := S27 _ _ b1
      have d2 := b2.keep S27
      have d3 := S27 _ _ b3
      have d4 := b4.keep S27
      have dra := S27 _ _ bra
      clear b1 b2 b3 b4 bra S12 S27
      -- rows
      refine ⟨_, rfl, x, CC, dx, _, _, rfl, d1, c.cl, c.nR, cf_rows _ _ _ _ _, _, rfl, _, rfl, r, _, rfl, d4.1, fun H8 z8 S8 e8 => ?_⟩
      rw [cut_take (by rw [List.length_map]; omega)] at e8
      refine ⟨z8, _, rfl, .inr (SqT.of e8), fun D hD => ?_⟩
      have D7 : H7 D = none := S8.free hD
      have eD9 : (upd H8 D (.lst ((ps.map V.ref).take pp))) D = some (.lst ((ps.map V.ref).take pp)) := upd_same
      have S79 := S8.trans (new_same (o := .lst ((ps.map V.ref).take pp)) hD)
      have A9 : AtRows D (upd H8 D (.lst ((ps.map V.ref).take pp))) ((ps.map V.ref).take pp) (tss.take pp) := by
        refine ⟨by rw [List.length_take, List.length_take, List.length_map, pl], fun j y ts e1 e2 => ?_⟩
        rw [List.getElem?_take] at e1 e2
        by_cases cj : j < pp
        · rw [if_pos cj] at e1 e2
          rw [List.getElem?_map] at e1
          cases ep : ps[j]? with
          | none => rw [ep] at e1; cases e1
          | some q =>
            rw [ep] at e1
            obtain rfl : V.ref q = y := Option.some.inj e1
            have w7 := (d4.2.2 j q ts ep e2).1
            exact ⟨q, rfl, ne_of_none w7 D7, .inl (S79 _ _ w7)⟩
        · rw [if_neg cj] at e1
          cases e1
      generalize upd H8 D (.lst ((ps.map V.ref).take pp)) = H9 at eD9 S79 A9
      clear e8 S8
      refine ⟨_, rfl, .inl ⟨rfl, _, SqL.of eD9⟩, _, rfl, _, rfl, _, rfl, ra, _, rfl, SqL.of (S79 _ _ dra), fun z10 h10 => ?_⟩
      rw [cut_take (by rw [List.length_map]; omega)]
      have e10 : (upd H9 z10 (.lst ((us.map V.int).take pp))) z10 = some (.lst ((us.map V.int).take pp)) := upd_same
      have S10 := new_same (o := .lst ((us.map V.int).take pp)) h10
      have z10D : z10 ≠ D := (ne_of_none eD9 h10).symm
      generalize upd H9 z10 (.lst ((us.map V.int).take pp)) = H10 at e10 S10
      refine ⟨D, _, _, rfl, rfl, S10 _ _ eD9, small1000 (by rw [List.length_take]; omega), ?_⟩
      have F11 : ∀ a o, a ≠ D → H7 a = some o → (upd H10 D (.lst ((ps.map V.ref).take pp ++ [.ref z10]))) a = some o := fun a o na ea => by
        rw [upd_ne na]
        exact S10 _ _ (S79 _ _ ea)
      have A11 : AtRows D (upd H10 D (.lst ((ps.map V.ref).take pp ++ [.ref z10]))) ((ps.map V.ref).take pp ++ [.ref z10]) (withK ns us tss pp 0) := by
        have z : withK ns us tss pp 0 = tss.take pp ++ [us.take pp] := by
          unfold withK
          simp
        rw [z]
        have q := (A9.fr (H' := upd H10 D (.lst ((ps.map V.ref).take pp ++ [.ref z10]))) fun a o na ea => by rw [upd_ne na]; exact S10 _ _ ea)
        refine q.snoc ⟨z10, rfl, z10D, .inr ?_⟩
        rw [upd_ne z10D, e10, List.map_take]
      have hn : (((((is.map V.int).length : Nat) : Int) - ((pp : Nat) : Int)).toNat) = tss.length - pp := by rw [il]; omega
      refine ⟨_, rfl, _, rfl, x, CC, dx, _, _, rfl, F11 _ _ (ne_of_none d1 D7) d1, c.cl, c.nG, cf_guests _ _ _ _ _, g, _, rfl, .inr (SqT.of (F11 _ _ (ne_of_none d3 D7) d3)), _, _, rfl, ⟨by omega, by omega, by omega, by omega⟩, for_range (lo := ((pp : Nat) : Int)) (n := ((((is.map V.int).length : Nat) : Int) - ((pp : Nat) : Int)).toNat) (fun i σ H' => ∃ (v6 v7 : Option V) (acc : List V), σ = [some (.ref x), some v, some (.ref ra), some (.int (pp : Nat)), some (.ref gz), some (.ref D), v6, v7] ∧ (∀ a o, a ≠ D → H7 a = some o → H' a = some o) ∧ H' D = some (.lst acc) ∧ AtRows D H' acc (withK ns us tss pp i))
        ⟨none, none, _, rfl, F11, upd_same, A11⟩ ?_ ?_⟩
      · rintro i σ H' hi ⟨v6, v7, acc, rfl, Fr, eD, AR⟩
        rw [hn] at hi
        have hlt : pp + i < ps.length := by omega
        obtain ⟨oa, ep⟩ : ∃ z, ps[pp + i]? = some z := ⟨_, List.getElem?_eq_getElem hlt⟩
        obtain ⟨ot, et⟩ : ∃ z, tss[pp + i]? = some z := ⟨_, List.getElem?_eq_getElem (by omega)⟩
        obtain ⟨u, eu⟩ : ∃ z, us[pp + i]? = some z := ⟨_, List.getElem?_eq_getElem (by omega)⟩
        obtain ⟨w1, wl, _⟩ := d4.2.2 _ _ _ ep et
        have lr : laterR ns us tss pp (pp + i) = ot.take pp ++ [(ns[u.toNat]?).getD 0] ++ ot.drop pp := by
          unfold laterR
          rw [et, eu]
          rfl
        have ub := ur _ (List.mem_of_getElem? eu)
        have f1 := Fr _ _ (ne_of_none d1 D7) d1
        have f2 : TiesAt C H' t ns := by
          obtain ⟨dt, tt, q1, q2⟩ := id d2
          exact ⟨dt, tt, Fr _ _ (ne_of_none q1 D7) q1, Fr _ _ (ne_of_none q2 D7) q2⟩
        have f4 := Fr _ _ (ne_of_none d4.1 D7) d4.1
        have fra := Fr _ _ (ne_of_none dra D7) dra
        have fo := Fr _ _ (ne_of_none w1 D7) w1
        refine ⟨_, rfl, x, CC, dx, _, _, rfl, f1, c.cl, c.nR, cf_rows _ _ _ _ _, _, rfl, _, _, _, _, rfl, rfl, SqT.of f4, at_of (j := pp + i) (v := .ref oa) (by omega) (by rw [List.getElem?_map, ep]; rfl), ?_⟩
        refine ⟨_, rfl, .inl ⟨rfl, _, SqL.of eD⟩, _, rfl, _, rfl, _, rfl, oa, _, rfl, fo, fun Ha za Sa ea => ?_⟩
        rw [cut_take (by rw [List.length_map]; omega)] at ea
        obtain ⟨dt, tt, ht, ht2⟩ := id (f2.keep Sa)
        refine ⟨_, rfl, x, CC, dx, _, _, rfl, Sa _ _ f1, c.cl, c.nT, cf_ties _ _ _ _ _, t, dt, _, rfl, ht, tf_no _ _ (by decide +kernel) (by decide +kernel), _, rfl, _, rfl, ra, _, _, .int u, rfl, rfl, SqL.of (Sa _ _ fra), at_of (j := pp + i) (v := .int u) (by omega) (by rw [List.getElem?_map, eu]; rfl), t, ns, .int u, .sc (.int u), rfl, f2.keep Sa, ⟨rfl, rfl⟩, fun k' b' ek eb => ?_, fun e' => absurd (show tieB ns (.int u) = true from whole_of ub.1 (by omega)) (by rw [e']; exact Bool.false_ne_true)⟩
        have hk : u.toNat = k' := by
          injection ek with ek
          omega
        rw [hk, eb] at lr
        refine ⟨(by show 1 ≤ sizeLine; decide), fun zb hb => ?_⟩
        refine ⟨za, zb, _, _, rfl, rfl, new_same hb _ _ ea, upd_same, by rw [List.length_take, List.length_map]; show _ + 1 ≤ 1000; omega, fun Hc zc Sc ec => ?_⟩
        have Sac := (Sa.trans (new_same hb)).trans Sc
        refine ⟨_, rfl, _, rfl, _, rfl, oa, _, rfl, Sac _ _ fo, fun Hd zd Sd ed => ?_⟩
        rw [cut_drop (by rw [List.length_map]; omega)] at ed
        refine ⟨zc, zd, _, _, rfl, rfl, Sd _ _ ec, ed, by rw [List.length_append, List.length_take, List.length_drop, List.length_map]; show _ + 1 + _ ≤ 1000; omega, fun He ze Se ee => ?_⟩
        have Sae := (Sac.trans Sd).trans Se
        have eDe := Sae _ _ eD
        have zeD : ze ≠ D := ne_of ee eDe (by intro z; cases z)
        have ee' : He ze = some (.tup ((laterR ns us tss pp (pp + i)).map V.int)) := by
          rw [ee, lr, List.map_append, List.map_append, List.map_take, List.map_drop]
          rfl
        refine ⟨D, _, _, rfl, rfl, eDe, small1000 (by rw [AR.1, withK_len (by omega)]; omega), _, _, _, rfl, fun a o na e' => by rw [upd_ne na]; exact Sae _ _ (Fr _ _ na e'), upd_same, ?_⟩
        rw [withK_succ]
        refine (AR.fr (fun a o na e' => by rw [upd_ne na]; exact Sae _ _ e')).snoc ⟨ze, rfl, zeD, .inl ?_⟩
        rw [upd_ne zeD]
        exact ee'
      · rintro σ H' ⟨v6, v7, acc, rfl, Fr, eD, AR⟩
        rw [hn] at AR
        have S7' : Same H7 H' := fun a o e' => Fr a o (ne_of_none e' D7) e'
        obtain ⟨ss, sa, sr'⟩ := AR.shapes
        obtain ⟨nn, enn, n0, n1⟩ := whole_int ew
        obtain rfl : n = nn := by rw [ev] at enn; injection enn
        have sno := seat_no (by rw [← ev]; exact es)
        refine ⟨_, rfl, x, CC, dx, _, _, rfl, S7' _ _ d1, c.cl, c.nT, cf_ties _ _ _ _ _, _, rfl, _, rfl, mk_comp (sg := .tup ((insL is n).map V.int)) (sr := .lst acc) (ss := ss) (tss := withR ns us tss pp) (d2.keep S7') ⟨gz, rfl, S7' _ _ eg7⟩ ⟨D, rfl, eD⟩ sa rfl rfl rfl sr' ?_ ?_ (insL_asc a8 sno) ?_ (withR_rows gb R (by omega) (by omega) ur) fun H10 z S10 nz cC => ⟨rfl, ?_⟩⟩
        · unfold withR
          rw [withK_len (by omega), insL_len]
          omega
        · rw [insL_len]
          omega
        · intro y hy
          rcases insL_mem hy with rfl | hy
          · exact ⟨n0, n1⟩
          · exact a11 y hy
        · exact k6 e us rfl H10 z ((S07.trans S7').trans S10) cC
    | tup us' =>
      refine ⟨_, (pss_cons 
  (ps_set (i := 3) sc_Company_with_row.nd rfl (Or.inl rfl) (pe_meth (pv 0) c.cl GP.M GP.F (hr.mono (by decide)) GP.b .nil (passes_call (takes_of rfl rfl rfl rfl) (fun _ _ _ _ h => h)) (pa_cons (pv 1) pa_nil))) (pss_cons 
  (ps_expr (pcal GR hr (passes_call (takes_of rfl rfl rfl rfl) (fun _ _ _ _ h => h)) (pa_cons (pe_fld (pv 0) rfl) (pa_cons (pv 3) (pa_cons (pv 2) (pa_cons (pe_callB call_len_seq (by rfl) nl PySem.boot_len (pa_cons (pe_fld (pv 0) rfl) pa_nil)) pa_nil)))))) (pss_cons 
  (ps_set (i := 4) sc_Company_with_row.nd rfl (Or.inl rfl) (pe_op op_catN (pe_op op_catN (pe_slice sl_tupN (pe_fld (pv 0) rfl) po_none (po_some (pv 3))) (pe_tup (pa_cons (pv 1) pa_nil))) (pe_slice sl_tupN (pe_fld (pv 0) rfl) (po_some (pv 3)) po_none))) (pss_cons 
  (ps_set (i := 5) sc_Company_with_row.nd rfl (Or.inl rfl) (pe_callTy (T := "list") (r := fun xs H Q => ∃ p ys, xs = [.ref p] ∧ (SqL K H p ys ∨ SqT K H p ys) ∧ ∀ l, H l = none → Q (.ref l) (upd H l (.lst ys))) call_list_of (by rfl) nli (by decide +kernel) (pa_cons (pe_slice sl_tupN (pe_fld (pv 0) rfl) po_none (po_some (pv 3))) pa_nil))) (pss_cons 
  (ps_expr (pe_bm PySem.F.plainAttrs_list PySem.F.slot_list_append PySem.F.type_list_append mt_append (pv 5) (pa_cons (pe_slice sl_tupN (pv 2) po_none (po_some (pv 3))) pa_nil))) (pss_cons 
  (ps_for (passes_of rfl) rfl (pi_range2 (by rfl) nr (pa_cons (pv 3) (pa_cons (pe_callB call_len_seq (by rfl) nl PySem.boot_len (pa_cons (pe_fld (pv 0) rfl) pa_nil)) pa_nil))) (pg_name (i := 6) sc_Company_with_row.nd rfl (Or.inl rfl)) (pss_cons 
    (ps_set (i := 7) sc_Company_with_row.nd rfl (Or.inl rfl) (pe_ix ix_tup (pe_fld (pv 0) rfl) (pv 6) (fun _ _ => rfl))) (pss_one 
    (ps_expr (pe_bm PySem.F.plainAttrs_list PySem.F.slot_list_append PySem.F.type_list_append mt_append (pv 5) (pa_cons (pe_op op_catN (pe_op op_catN (pe_slice sl_tupN (pv 7) po_none (po_some (pv 3))) (pe_tup (pa_cons (pe_meth (pe_fld (pv 0) rfl) T.cl GBk.M GBk.F (hr.mono (by decide)) GBk.b .nil passL (pa_cons (pe_ix ix_tup (pv 2) (pv 6) (fun _ _ => rfl)) pa_nil)) pa_nil))) (pe_slice sl_tupN (pv 7) (po_some (pv 3)) po_none)) pa_nil)))))) (pss_one 
  (ps_ret (pe_make MJ FJ hr rfl mC bJ .nil passL (pa_cons (pe_fld (pv 0) rfl) (pa_cons (pv 4) (pa_cons (pv 5) pa_nil)))))))))))), ?_⟩
      refine ⟨_, rfl, x, dx, _, rfl, a1, cf_no _ _ _ _ _ (by decide +kernel) (by decide +kernel) (by decide +kernel) (by decide +kernel) (by decide +kernel), _, rfl, x, ns, is, tss, v, s, rfl, hC, hv, k1, k2, k3, fun c60 n ev ew es H1 S1 => ?_⟩
      obtain ⟨k5, k6⟩ := k4 c60 n ev ew es
      have il : (is.map V.int).length = is.length := List.length_map _
      refine ⟨_, rfl, x, CC, dx, _, _, rfl, S1 _ _ a1, c.cl, c.nT, cf_ties _ _ _ _ _, _, rfl, _, rfl, _, rfl, x, CC, dx, _, _, rfl, S1 _ _ a1, c.cl, c.nG, cf_guests _ _ _ _ _, g, _, rfl, .inr (SqT.of (S1 _ _ a3)), t, ns, below is n, (is.map V.int).length, rv, .tup us', rfl, a2.keep S1, hrv.keep S1, kn.keep S1, fun u e => (k5 u (by rw [il] at e; exact e)).mono S1, fun e H2 S2 => ?_⟩
      rw [il] at e
      obtain ⟨us, hus, ur⟩ := row_ints e
      have hus : us' = us.map V.int := hus
      subst hus
      have ul : us.length = is.length := row_len e rfl
      obtain ⟨ra, rfl, hra⟩ := hrv
      have S12 := S1.trans S2
      have b1 := S12 _ _ a1
      have b2 := a2.keep S12
      have b3 := S12 _ _ a3
      have b4 := a4.keep S12
      have bra := S12 _ _ hra
      have R : Rows ns.length tss := fun j ts et => by
        have hj := (List.getElem?_eq_some_iff.mp et).1
        have ep := List.getElem?_eq_getElem (l := ps) (i := j) (by have := a4.2.1; omega)
        exact (a4.2.2 j _ ts ep et).2
      have ple : below is n ≤ is.length := below_le
      have pl : ps.length = tss.length := a4.2.1
      clear S1 S2
      generalize hp : below is n = pp at *
      -- guests
      refine ⟨_, rfl, x, CC, dx, _, _, rfl, b1, c.cl, c.nG, cf_guests _ _ _ _ _, _, rfl, _, rfl, g, _, rfl, b3, fun H3 z3 S3 e3 => ?_⟩
      rw [cut_take (by omega)] at e3
      refine ⟨_, rfl, (by show 1 ≤ sizeLine; decide), fun z4 h4 => ?_⟩
      refine ⟨z3, z4, _, _, rfl, rfl, new_same h4 _ _ e3, upd_same, by rw [List.length_take]; show _ + 1 ≤ 1000; omega, fun H5 z5 S5 e5 => ?_⟩
      have S25 := (S3.trans (new_same h4)).trans S5
      refine ⟨_, rfl, x, CC, dx, _, _, rfl, S25 _ _ b1, c.cl, c.nG, cf_guests _ _ _ _ _, _, rfl, _, rfl, g, _, rfl, S25 _ _ b3, fun H6 z6 S6 e6 => ?_⟩
      rw [cut_drop (by omega)] at e6
      refine ⟨z5, z6, _, _, rfl, rfl, S6 _ _ e5, e6, by rw [List.length_append, List.length_take, List.length_drop]; show _ + 1 + _ ≤ 1000; omega, fun H7 gz S7 eg => ?_⟩
      have S27 := (S25.trans S6).trans S7
      have eg7 : H7 gz = some (.tup ((insL is n).map V.int)) := by
        rw [eg]
        unfold insL
        rw [hp, ev, List.map_append, List.map_append, List.map_take, List.map_drop]
        rfl
      clear e3 e5 e6 eg h4 S3 S5 S6 S7 S25
      have S07 := S12.trans S27
      have d1 := S27 _ _ b1
      have d2 := b2.keep S27
      have d3 := S27 _ _ b3
      have d4 := b4.keep S27
      have dra := S27 _ _ bra
      clear b1 b2 b3 b4 bra S12 S27
      -- rows
      refine ⟨_, rfl, x, CC, dx, _, _, rfl, d1, c.cl, c.nR, cf_rows _ _ _ _ _, _, rfl, _, rfl, r, _, rfl, d4.1, fun H8 z8 S8 e8 => ?_⟩
      rw [cut_take (by rw [List.length_map]; omega)] at e8
      refine ⟨z8, _, rfl, .inr (SqT.of e8), fun D hD => ?_⟩
      have D7 : H7 D = none := S8.free hD
      have eD9 : (upd H8 D (.lst ((ps.map V.ref).take pp))) D = some (.lst ((ps.map V.ref).take pp)) := upd_same
      have S79 := S8.trans (new_same (o := .lst ((ps.map V.ref).take pp)) hD)
      have A9 : AtRows D (upd H8 D (.lst ((ps.map V.ref).take pp))) ((ps.map V.ref).take pp) (tss.take pp) := by
        refine ⟨by rw [List.length_take, List.length_take, List.length_map, pl], fun j y ts e1 e2 => ?_⟩
        rw [List.getElem?_take] at e1 e2
        by_cases cj : j < pp
        · rw [if_pos cj] at e1 e2
          rw [List.getElem?_map] at e1
          cases ep : ps[j]? with
          | none => rw [ep] at e1; cases e1
          | some q =>
            rw [ep] at e1
            obtain rfl : V.ref q = y := Option.some.inj e1
            have w7 := (d4.2.2 j q ts ep e2).1
            exact ⟨q, rfl, ne_of_none w7 D7, .inl (S79 _ _ w7)⟩
        · rw [if_neg cj] at e1
          cases e1
      generalize upd H8 D (.lst ((ps.map V.ref).take pp)) = H9 at eD9 S79 A9
      clear e8 S8
      refine ⟨_, rfl, .inl ⟨rfl, _, SqL.of eD9⟩, _, rfl, _, rfl, _, rfl, ra, _, rfl, S79 _ _ dra, fun H10 z10 S10 e10 => ?_⟩
      rw [cut_take (by rw [List.length_map]; omega)] at e10
      have z10D : z10 ≠ D := ne_of e10 (S10 _ _ eD9) (by intro z; cases z)
      refine ⟨D, _, _, rfl, rfl, S10 _ _ eD9, small1000 (by rw [List.length_take]; omega), ?_⟩
      have F11 : ∀ a o, a ≠ D → H7 a = some o → (upd H10 D (.lst ((ps.map V.ref).take pp ++ [.ref z10]))) a = some o := fun a o na ea => by
        rw [upd_ne na]
        exact S10 _ _ (S79 _ _ ea)
      have A11 : AtRows D (upd H10 D (.lst ((ps.map V.ref).take pp ++ [.ref z10]))) ((ps.map V.ref).take pp ++ [.ref z10]) (withK ns us tss pp 0) := by
        have z : withK ns us tss pp 0 = tss.take pp ++ [us.take pp] := by
          unfold withK
          simp
        rw [z]
        have q := (A9.fr (H' := upd H10 D (.lst ((ps.map V.ref).take pp ++ [.ref z10]))) fun a o na ea => by rw [upd_ne na]; exact S10 _ _ ea)
        refine q.snoc ⟨z10, rfl, z10D, .inl ?_⟩
        rw [upd_ne z10D, e10, List.map_take]
      have hn : (((((is.map V.int).length : Nat) : Int) - ((pp : Nat) : Int)).toNat) = tss.length - pp := by rw [il]; omega
      refine ⟨_, rfl, _, rfl, x, CC, dx, _, _, rfl, F11 _ _ (ne_of_none d1 D7) d1, c.cl, c.nG, cf_guests _ _ _ _ _, g, _, rfl, .inr (SqT.of (F11 _ _ (ne_of_none d3 D7) d3)), _, _, rfl, ⟨by omega, by omega, by omega, by omega⟩, for_range (lo := ((pp : Nat) : Int)) (n := ((((is.map V.int).length : Nat) : Int) - ((pp : Nat) : Int)).toNat) (fun i σ H' => ∃ (v6 v7 : Option V) (acc : List V), σ = [some (.ref x), some v, some (.ref ra), some (.int (pp : Nat)), some (.ref gz), some (.ref D), v6, v7] ∧ (∀ a o, a ≠ D → H7 a = some o → H' a = some o) ∧ H' D = some (.lst acc) ∧ AtRows D H' acc (withK ns us tss pp i))
        ⟨none, none, _, rfl, F11, upd_same, A11⟩ ?_ ?_⟩
      · rintro i σ H' hi ⟨v6, v7, acc, rfl, Fr, eD, AR⟩
        rw [hn] at hi
        have hlt : pp + i < ps.length := by omega
        obtain ⟨oa, ep⟩ : ∃ z, ps[pp + i]? = some z := ⟨_, List.getElem?_eq_getElem hlt⟩
        obtain ⟨ot, et⟩ : ∃ z, tss[pp + i]? = some z := ⟨_, List.getElem?_eq_getElem (by omega)⟩
        obtain ⟨u, eu⟩ : ∃ z, us[pp + i]? = some z := ⟨_, List.getElem?_eq_getElem (by omega)⟩
        obtain ⟨w1, wl, _⟩ := d4.2.2 _ _ _ ep et
        have lr : laterR ns us tss pp (pp + i) = ot.take pp ++ [(ns[u.toNat]?).getD 0] ++ ot.drop pp := by
          unfold laterR
          rw [et, eu]
          rfl
        have ub := ur _ (List.mem_of_getElem? eu)
        have f1 := Fr _ _ (ne_of_none d1 D7) d1
        have f2 : TiesAt C H' t ns := by
          obtain ⟨dt, tt, q1, q2⟩ := id d2
          exact ⟨dt, tt, Fr _ _ (ne_of_none q1 D7) q1, Fr _ _ (ne_of_none q2 D7) q2⟩
        have f4 := Fr _ _ (ne_of_none d4.1 D7) d4.1
        have fra := Fr _ _ (ne_of_none dra D7) dra
        have fo := Fr _ _ (ne_of_none w1 D7) w1
        refine ⟨_, rfl, x, CC, dx, _, _, rfl, f1, c.cl, c.nR, cf_rows _ _ _ _ _, _, rfl, _, _, _, _, rfl, rfl, SqT.of f4, at_of (j := pp + i) (v := .ref oa) (by omega) (by rw [List.getElem?_map, ep]; rfl), ?_⟩
        refine ⟨_, rfl, .inl ⟨rfl, _, SqL.of eD⟩, _, rfl, _, rfl, _, rfl, oa, _, rfl, fo, fun Ha za Sa ea => ?_⟩
        rw [cut_take (by rw [List.length_map]; omega)] at ea
        obtain ⟨dt, tt, ht, ht2⟩ := id (f2.keep Sa)
        refine ⟨_, rfl, x, CC, dx, _, _, rfl, Sa _ _ f1, c.cl, c.nT, cf_ties _ _ _ _ _, t, dt, _, rfl, ht, tf_no _ _ (by decide +kernel) (by decide +kernel), _, rfl, _, rfl, ra, _, _, .int u, rfl, rfl, SqT.of (Sa _ _ fra), at_of (j := pp + i) (v := .int u) (by omega) (by rw [List.getElem?_map, eu]; rfl), t, ns, .int u, .sc (.int u), rfl, f2.keep Sa, ⟨rfl, rfl⟩, fun k' b' ek eb => ?_, fun e' => absurd (show tieB ns (.int u) = true from whole_of ub.1 (by omega)) (by rw [e']; exact Bool.false_ne_true)⟩
        have hk : u.toNat = k' := by
          injection ek with ek
          omega
        rw [hk, eb] at lr
        refine ⟨(by show 1 ≤ sizeLine; decide), fun zb hb => ?_⟩
        refine ⟨za, zb, _, _, rfl, rfl, new_same hb _ _ ea, upd_same, by rw [List.length_take, List.length_map]; show _ + 1 ≤ 1000; omega, fun Hc zc Sc ec => ?_⟩
        have Sac := (Sa.trans (new_same hb)).trans Sc
        refine ⟨_, rfl, _, rfl, _, rfl, oa, _, rfl, Sac _ _ fo, fun Hd zd Sd ed => ?_⟩
        rw [cut_drop (by rw [List.length_map]; omega)] at ed
        refine ⟨zc, zd, _, _, rfl, rfl, Sd _ _ ec, ed, by rw [List.length_append, List.length_take, List.length_drop, List.length_map]; show _ + 1 + _ ≤ 1000; omega, fun He ze Se ee => ?_⟩
        have Sae := (Sac.trans Sd).trans Se
        have eDe := Sae _ _ eD
        have zeD : ze ≠ D := ne_of ee eDe (by intro z; cases z)
        have ee' : He ze = some (.tup ((laterR ns us tss pp (pp + i)).map V.int)) := by
          rw [ee, lr, List.map_append, List.map_append, List.map_take, List.map_drop]
          rfl
        refine ⟨D, _, _, rfl, rfl, eDe, small1000 (by rw [AR.1, withK_len (by omega)]; omega), _, _, _, rfl, fun a o na e' => by rw [upd_ne na]; exact Sae _ _ (Fr _ _ na e'), upd_same, ?_⟩
        rw [withK_succ]
        refine (AR.fr (fun a o na e' => by rw [upd_ne na]; exact Sae _ _ e')).snoc ⟨ze, rfl, zeD, .inl ?_⟩
        rw [upd_ne zeD]
        exact ee'
      · rintro σ H' ⟨v6, v7, acc, rfl, Fr, eD, AR⟩
        rw [hn] at AR
        have S7' : Same H7 H' := fun a o e' => Fr a o (ne_of_none e' D7) e'
        obtain ⟨ss, sa, sr'⟩ := AR.shapes
        obtain ⟨nn, enn, n0, n1⟩ := whole_int ew
        obtain rfl : n = nn := by rw [ev] at enn; injection enn
        have sno := seat_no (by rw [← ev]; exact es)
        refine ⟨_, rfl, x, CC, dx, _, _, rfl, S7' _ _ d1, c.cl, c.nT, cf_ties _ _ _ _ _, _, rfl, _, rfl, mk_comp (sg := .tup ((insL is n).map V.int)) (sr := .lst acc) (ss := ss) (tss := withR ns us tss pp) (d2.keep S7') ⟨gz, rfl, S7' _ _ eg7⟩ ⟨D, rfl, eD⟩ sa rfl rfl rfl sr' ?_ ?_ (insL_asc a8 sno) ?_ (withR_rows gb R (by omega) (by omega) ur) fun H10 z S10 nz cC => ⟨rfl, ?_⟩⟩
        · unfold withR
          rw [withK_len (by omega), insL_len]
          omega
        · rw [insL_len]
          omega
        · intro y hy
          rcases insL_mem hy with rfl | hy
          · exact ⟨n0, n1⟩
          · exact a11 y hy
        · exact k6 e us rfl H10 z ((S07.trans S7').trans S10) cC
end
end J

set_option Elab.async false
set_option linter.all false
set_option maxRecDepth 100000
set_option maxHeartbeats 8000000
namespace J
open PySem PySem.Spec PyProof.Rows L2
abbrev s_BadRenaming_init : Stmt := inClass (top 8) 0
theorem sc_BadRenaming_init : FnScope ["self", "what"] ["self", "what"] (defScope s_BadRenaming_init) := ⟨rfl, rfl, rfl, by decide +kernel, rfl, by decide +kernel, by decide +kernel⟩
/-! ### pairs of old and new labels, judged -/
def toI : V → Int
  | .int n => n
  | _ => 0
/-- one pair, behind those that were right -/
def prOne (is : List Int) (d : List (Int × Int)) (s : Sh) : Sum Str (Int × Int) :=
  if (s.isL || s.isT) = true then
    match items s with
    | [o, n] => if ((seat is o).isSome && !(d.any fun p => decide (o = .int p.1))) = true then (if (wholeB n 0 1000000000 && !(d.any fun p => decide (n = .int p.2))) = true then .inr (toI o, toI n) else .inl "label") else .inl "guest"
    | _ => .inl "pair"
  else .inl "pair"
def prRun (is : List Int) : List Sh → List (Int × Int) → Sum Str (List (Int × Int))
  | [], d => .inr d
  | s :: ss, d => match prOne is d s with
    | .inl w => .inl w
    | .inr p => prRun is ss (d ++ [p])
/-- the word for pairs, or the pairs -/
def prAll (is : List Int) (s : Sh) (ss : List Sh) : Sum Str (List (Int × Int)) :=
  if (s.isL || s.isT) = true then
    match prRun is ss [] with
    | .inl w => .inl w
    | .inr d => if d.length < is.length then .inl "guest" else .inr d
  else .inl "pair"
theorem prAll_seq {is : List Int} {s : Sh} {ss : List Sh} (h : (s.isL || s.isT) = true) : prAll is s ss = match prRun is ss [] with
    | .inl w => .inl w
    | .inr d => if d.length < is.length then .inl "guest" else .inr d := by
  unfold prAll
  rw [if_pos h]
def look (d : List (Int × Int)) : Key → Option V
  | .inl n => (d.find? fun p => decide (p.1 = n)).map fun p => .int p.2
  | .inr _ => none
theorem look_snoc {d : List (Int × Int)} {m k : Int} (h : look d (.inl m) = none) (j : Key) : look (d ++ [(m, k)]) j = if j = .inl m then some (.int k) else look d j := by
  cases j with
  | inr x => rw [if_neg (by simp)]; rfl
  | inl n =>
    show ((d ++ [(m, k)]).find? fun p => decide (p.1 = n)).map (fun p => V.int p.2) = _
    rw [List.find?_append]
    by_cases c : n = m
    · subst c
      rw [if_pos rfl]
      have h' : (d.find? fun p => decide (p.1 = n)) = none := by
        cases q : d.find? fun p => decide (p.1 = n) with
        | none => rfl
        | some z =>
          have : look d (.inl n) = some (.int z.2) := by
            show (d.find? fun p => decide (p.1 = n)).map (fun p => V.int p.2) = _
            rw [q]
            rfl
          rw [this] at h
          cases h
      rw [h']
      simp
    · rw [if_neg (by simpa using c)]
      have : ([(m, k)].find? fun p => decide (p.1 = n)) = none := by
        simp
        exact fun e => c e.symm
      rw [this, Option.or_none]
      rfl
theorem look_any {m : Int} : ∀ {d : List (Int × Int)}, (look d (.inl m)).isSome = d.any fun p => decide (V.int m = .int p.1)
  | [] => rfl
  | p :: d => by
    have ih := look_any (m := m) (d := d)
    by_cases c : p.1 = m
    · have e : look (p :: d) (.inl m) = some (.int p.2) := by
        show ((p :: d).find? fun q => decide (q.1 = m)).map (fun q => V.int q.2) = _
        rw [List.find?_cons_of_pos (by simpa using c)]
        rfl
      rw [e, List.any_cons, c, decide_eq_true rfl]
      rfl
    · have e : look (p :: d) (.inl m) = look d (.inl m) := by
        show ((p :: d).find? fun q => decide (q.1 = m)).map (fun q => V.int q.2) = _
        rw [List.find?_cons_of_neg (by simpa using c)]
        rfl
      rw [e, ih, List.any_cons, decide_eq_false (fun z => c (by injection z with z; exact z.symm)), Bool.false_or]
theorem put_len {kvs : List (Key × V)} {k : Key} {v : V} (h : valV kvs k = none) : (putK kvs k v).length = kvs.length + 1 := by
  unfold putK
  rw [valV_any, h]
  simp
theorem prRun_step {is : List Int} {ss : List Sh} {d : List (Int × Int)} {i : Nat} {s : Sh} (h : ss[i]? = some s) : prRun is (ss.drop i) d = match prOne is d s with
    | .inl w => .inl w
    | .inr p => prRun is (ss.drop (i + 1)) (d ++ [p]) := by
  have hi := (List.getElem?_eq_some_iff.mp h).1
  rw [List.drop_eq_getElem_cons hi]
  rw [(List.getElem?_eq_some_iff.mp h).2]
  rfl
theorem ShAll.len' {H : Hp} : ∀ {xs : List V} {ss : List Sh}, ShAll H xs ss → ss.length = xs.length
  | _, _, .nil => rfl
  | _, _, .cons _ t => by rw [List.length_cons, List.length_cons, ShAll.len' t]
structure NamesAt (H : Hp) (a b : Addr) (d : List (Int × Int)) : Prop where
  n : ∃ kvs, H a = some (.dK kvs) ∧ kvs.length = d.length ∧ ∀ k, valV kvs k = look d k
  t : ∃ kvs, H b = some (.dK kvs) ∧ kvs.length = d.length ∧ ∀ n : Int, (valV kvs (Sum.inl n)).isSome = d.any fun p => decide (p.2 = n)
  ne : a ≠ b
abbrev s_new_labels : Stmt := top 23
theorem sc_new_labels : FnScope ["company", "pairs", "names", "taken", "pair", "old", "new"] ["company", "pairs"] (defScope s_new_labels) := ⟨rfl, rfl, rfl, by decide +kernel, rfl, by decide +kernel, by decide +kernel⟩
def spNL (C CC CR : Addr) : Sp := fun vs H Q E => ∃ (x : Addr) (ns is : List Int) (tss : List (List Int)) (v : V) (s : Sh) (ss : List Sh), vs = [.ref x, v] ∧ CompAt C CC H x ns is tss ∧ Is H v s ∧ Known H (items s) ∧ ShAll H (items s) ss ∧ ss.length ≤ 1000 ∧ (∀ s ∈ ss, s.isL = false) ∧
  (∀ u, prAll is s ss = .inl u → Tells H CR "what" (.str u) E) ∧ (∀ d, prAll is s ss = .inr d → ∀ (H' : Hp) (z : Addr) (kvs : List (Key × V)), Same H H' → H' z = some (.dK kvs) → (∀ k, valV kvs k = look d k) → Q (.ref z) H')
section
variable {P : Program} {w : World} {K : PySem.W.Frag} {mg : Str → Option Value} {base : Heap}
theorem ok_BadRenaming_init {f C : Addr} {fd : FuncData} (F : Fun K "__init__" "BadRenaming.__init__" s_BadRenaming_init f fd) (o : OexC K C) (no : PySem.W.findIn K (.ref C) "what" = some none) : FnOk P w K mg base CX0 1 f fd ["self", "what"] (spXI C "what") := by
  refine F.ok sc_BadRenaming_init (fun vs H Q E h => ?_) (fun cdv A outer s H vs Q E hr h => ?_)
  · obtain ⟨x, s, rfl, _⟩ := h
    rfl
  · obtain ⟨a, v, rfl, ha, k⟩ := h
    refine ⟨_, pss_one (ps_ost (pv 0) (pv 1)), ?_⟩
    exact ⟨_, rfl, _, rfl, a, C, rfl, o, no, .inl ⟨ha, k⟩⟩
theorem ok_new_labels {f C CC CR fS fL fC fX fLn : Addr} {fd fdS fdL fdC fdX fdLn : FuncData} (F : Fun K "_new_labels" "_new_labels" s_new_labels f fd) (nl : mg "len" = none)
    (GS : Cal P w K mg base CX0 1 "is_sequence" fS fdS ["thing"] spSeq) (GL : Cal P w K mg base CX0 2 "is_label" fL fdL ["thing"] spLabel) (FC : FnOk P w K mg base CX0 3 fC fdC ["self", "label"] (spCIn C CC)) (aC : PySem.W.findIn K (.ref CC) "__contains__" = some (some (.ref fC))) (iC : PySem.W.isFn K (.ref fC) = true) (bC : Binds K fdC ["self", "label"] [])
    (FLn : FnOk P w K mg base CX0 1 fLn fdLn ["self"] (spCLen C CC)) (aL : PySem.W.findIn K (.ref CC) "__len__" = some (some (.ref fLn))) (iL : PySem.W.isFn K (.ref fLn) = true) (bL : Binds K fdLn ["self"] []) (GX : Ex P w K mg base "BadRenaming" "what" CR fX fdX ["self", "what"]) :
    FnOk P w K mg base (L2.CX P w) 4 f fd ["company", "pairs"] (spNL C CC CR) := by
  refine F.okX sc_new_labels (fun vs H Q E h => ?_) (fun cdv A outer s H vs Q E hr h => ?_)
  · obtain ⟨x, ns, is, tss, v, s, ss, rfl, _⟩ := h
    rfl
  · obtain ⟨x, ns, is, tss, v, s, ss, rfl, hC, hv, kn, sa, s1000, noL, k1, k2⟩ := h
    obtain ⟨dx, t, g, r, b, p, ps, kvs0, a1, a2, a3, a4, a5, a6, a7, a8, a9, a10, a11⟩ := id hC
    have hr2 : Room 2 _ := hr.mono (by decide)
    have hr3 : Room 3 _ := hr.mono (by decide)
    cases s with
    | sc u =>
      refine ⟨_, (pss_cons 
  (ps_if (pt_not (pt_val (pcal GS hr pass0 (pa_cons (pv 1) pa_nil)))) (pss_one 
    (ps_raise rfl (takes_of rfl rfl rfl rfl) (pmk_oex GX.o GX.i GX.t GX.F hr2 GX.b .nil pass0 rfl GX.m (pa_cons pe_str pa_nil)))) pss_nil) (pss_cons 
  (ps_set (i := 2) sc_new_labels.nd rfl (Or.inl rfl) pe_dnewK) (pss_cons 
  (ps_set (i := 3) sc_new_labels.nd rfl (Or.inl rfl) pe_dnewK) (pss_cons 
  (ps_for (passes_of rfl) rfl (pi_list (pv 1)) (pg_name (i := 4) sc_new_labels.nd rfl (Or.inl rfl)) (pss_cons 
    (ps_if (PW.pt (pw_or (pt_not (pt_val (pcal GS hr pass0 (pa_cons (pv 4) pa_nil)))) (pw_or1 (pt_cmpR op_ne (pe_callB call_len_seq (by rfl) nl PySem.boot_len (pa_cons (pv 4) pa_nil)) pe_int (nomark _))))) (pss_one 
      (ps_raise rfl (takes_of rfl rfl rfl rfl) (pmk_oex GX.o GX.i GX.t GX.F hr2 GX.b .nil pass0 rfl GX.m (pa_cons pe_str pa_nil)))) pss_nil) (pss_cons 
    (ps_asg (pv 4) (pg_tup (by rfl) (pgs_cons (pg_name (i := 5) sc_new_labels.nd rfl (Or.inl rfl)) (pgs_cons (pg_name (i := 6) sc_new_labels.nd rfl (Or.inl rfl)) pgs_nil)))) (pss_cons 
    (ps_if (PW.pt (pw_or (pt_cmpR (op_niOwn FC aC iC bC pass0 hr3) (pv 5) (pv 0) (by rfl)) (pw_or1 (pt_cmp (pc_din (hu_of hr) (pv 5) (pv 2)))))) (pss_one 
      (ps_raise rfl (takes_of rfl rfl rfl rfl) (pmk_oex GX.o GX.i GX.t GX.F hr2 GX.b .nil pass0 rfl GX.m (pa_cons pe_str pa_nil)))) pss_nil) (pss_cons 
    (ps_if (PW.pt (pw_or (pt_not (pt_val (pcal GL hr pass0 (pa_cons (pv 6) pa_nil)))) (pw_or1 (pt_cmp (pc_din (hu_of hr) (pv 6) (pv 3)))))) (pss_one 
      (ps_raise rfl (takes_of rfl rfl rfl rfl) (pmk_oex GX.o GX.i GX.t GX.F hr2 GX.b .nil pass0 rfl GX.m (pa_cons pe_str pa_nil)))) pss_nil) (pss_cons 
    (ps_asg (pv 6) (pg_sub (pv 2) (pv 5) (set_dict (hu_of hr)))) (pss_one 
    (ps_asg pe_bl (pg_sub (pv 3) (pv 6) (set_dict (hu_of hr))))))))))) (pss_cons 
  (ps_if (pt_cmpR op_lt (pe_callB call_lenD (by rfl) nl PySem.boot_len (pa_cons (pv 2) pa_nil)) (pe_callB (call_lenOwn (E := E0) FLn aL iL bL hr2) (by rfl) nl PySem.boot_len (pa_cons (pv 0) pa_nil)) (nomark _)) (pss_one 
    (ps_raise rfl (takes_of rfl rfl rfl rfl) (pmk_oex GX.o GX.i GX.t GX.F hr2 GX.b .nil pass0 rfl GX.m (pa_cons pe_str pa_nil)))) pss_nil) (pss_one 
  (ps_ret (pv 2)))))))), ?_⟩
      exact ⟨_, rfl, v, .sc u, rfl, hv, fun H1 S1 => ⟨_, rfl, iteT (mkO_of ((k1 "pair" rfl).mono S1))⟩⟩
    | dk =>
      refine ⟨_, (pss_cons 
  (ps_if (pt_not (pt_val (pcal GS hr pass0 (pa_cons (pv 1) pa_nil)))) (pss_one 
    (ps_raise rfl (takes_of rfl rfl rfl rfl) (pmk_oex GX.o GX.i GX.t GX.F hr2 GX.b .nil pass0 rfl GX.m (pa_cons pe_str pa_nil)))) pss_nil) (pss_cons 
  (ps_set (i := 2) sc_new_labels.nd rfl (Or.inl rfl) pe_dnewK) (pss_cons 
  (ps_set (i := 3) sc_new_labels.nd rfl (Or.inl rfl) pe_dnewK) (pss_cons 
  (ps_for (passes_of rfl) rfl (pi_list (pv 1)) (pg_name (i := 4) sc_new_labels.nd rfl (Or.inl rfl)) (pss_cons 
    (ps_if (PW.pt (pw_or (pt_not (pt_val (pcal GS hr pass0 (pa_cons (pv 4) pa_nil)))) (pw_or1 (pt_cmpR op_ne (pe_callB call_len_seq (by rfl) nl PySem.boot_len (pa_cons (pv 4) pa_nil)) pe_int (nomark _))))) (pss_one 
      (ps_raise rfl (takes_of rfl rfl rfl rfl) (pmk_oex GX.o GX.i GX.t GX.F hr2 GX.b .nil pass0 rfl GX.m (pa_cons pe_str pa_nil)))) pss_nil) (pss_cons 
    (ps_asg (pv 4) (pg_tup (by rfl) (pgs_cons (pg_name (i := 5) sc_new_labels.nd rfl (Or.inl rfl)) (pgs_cons (pg_name (i := 6) sc_new_labels.nd rfl (Or.inl rfl)) pgs_nil)))) (pss_cons 
    (ps_if (PW.pt (pw_or (pt_cmpR (op_niOwn FC aC iC bC pass0 hr3) (pv 5) (pv 0) (by rfl)) (pw_or1 (pt_cmp (pc_din (hu_of hr) (pv 5) (pv 2)))))) (pss_one 
      (ps_raise rfl (takes_of rfl rfl rfl rfl) (pmk_oex GX.o GX.i GX.t GX.F hr2 GX.b .nil pass0 rfl GX.m (pa_cons pe_str pa_nil)))) pss_nil) (pss_cons 
    (ps_if (PW.pt (pw_or (pt_not (pt_val (pcal GL hr pass0 (pa_cons (pv 6) pa_nil)))) (pw_or1 (pt_cmp (pc_din (hu_of hr) (pv 6) (pv 3)))))) (pss_one 
      (ps_raise rfl (takes_of rfl rfl rfl rfl) (pmk_oex GX.o GX.i GX.t GX.F hr2 GX.b .nil pass0 rfl GX.m (pa_cons pe_str pa_nil)))) pss_nil) (pss_cons 
    (ps_asg (pv 6) (pg_sub (pv 2) (pv 5) (set_dict (hu_of hr)))) (pss_one 
    (ps_asg pe_bl (pg_sub (pv 3) (pv 6) (set_dict (hu_of hr))))))))))) (pss_cons 
  (ps_if (pt_cmpR op_lt (pe_callB call_lenD (by rfl) nl PySem.boot_len (pa_cons (pv 2) pa_nil)) (pe_callB (call_lenOwn (E := E0) FLn aL iL bL hr2) (by rfl) nl PySem.boot_len (pa_cons (pv 0) pa_nil)) (nomark _)) (pss_one 
    (ps_raise rfl (takes_of rfl rfl rfl rfl) (pmk_oex GX.o GX.i GX.t GX.F hr2 GX.b .nil pass0 rfl GX.m (pa_cons pe_str pa_nil)))) pss_nil) (pss_one 
  (ps_ret (pv 2)))))))), ?_⟩
      exact ⟨_, rfl, v, .dk, rfl, hv, fun H1 S1 => ⟨_, rfl, iteT (mkO_of ((k1 "pair" rfl).mono S1))⟩⟩
    | lst xs =>
      refine ⟨_, (pss_cons 
  (ps_if (pt_not (pt_val (pcal GS hr pass0 (pa_cons (pv 1) pa_nil)))) (pss_one 
    (ps_raise rfl (takes_of rfl rfl rfl rfl) (pmk_oex GX.o GX.i GX.t GX.F hr2 GX.b .nil pass0 rfl GX.m (pa_cons pe_str pa_nil)))) pss_nil) (pss_cons 
  (ps_set (i := 2) sc_new_labels.nd rfl (Or.inl rfl) pe_dnewK) (pss_cons 
  (ps_set (i := 3) sc_new_labels.nd rfl (Or.inl rfl) pe_dnewK) (pss_cons 
  (ps_for (passes_of rfl) rfl (pi_list (pv 1)) (pg_name (i := 4) sc_new_labels.nd rfl (Or.inl rfl)) (pss_cons 
    (ps_if (PW.pt (pw_or (pt_not (pt_val (pcal GS hr pass0 (pa_cons (pv 4) pa_nil)))) (pw_or1 (pt_cmpR op_ne (pe_callB call_len_seq (by rfl) nl PySem.boot_len (pa_cons (pv 4) pa_nil)) pe_int (nomark _))))) (pss_one 
      (ps_raise rfl (takes_of rfl rfl rfl rfl) (pmk_oex GX.o GX.i GX.t GX.F hr2 GX.b .nil pass0 rfl GX.m (pa_cons pe_str pa_nil)))) pss_nil) (pss_cons 
    (ps_asg (pv 4) (pg_tup (by rfl) (pgs_cons (pg_name (i := 5) sc_new_labels.nd rfl (Or.inl rfl)) (pgs_cons (pg_name (i := 6) sc_new_labels.nd rfl (Or.inl rfl)) pgs_nil)))) (pss_cons 
    (ps_if (PW.pt (pw_or (pt_cmpR (op_niOwn FC aC iC bC pass0 hr3) (pv 5) (pv 0) (by rfl)) (pw_or1 (pt_cmp (pc_din (hu_of hr) (pv 5) (pv 2)))))) (pss_one 
      (ps_raise rfl (takes_of rfl rfl rfl rfl) (pmk_oex GX.o GX.i GX.t GX.F hr2 GX.b .nil pass0 rfl GX.m (pa_cons pe_str pa_nil)))) pss_nil) (pss_cons 
    (ps_if (PW.pt (pw_or (pt_not (pt_val (pcal GL hr pass0 (pa_cons (pv 6) pa_nil)))) (pw_or1 (pt_cmp (pc_din (hu_of hr) (pv 6) (pv 3)))))) (pss_one 
      (ps_raise rfl (takes_of rfl rfl rfl rfl) (pmk_oex GX.o GX.i GX.t GX.F hr2 GX.b .nil pass0 rfl GX.m (pa_cons pe_str pa_nil)))) pss_nil) (pss_cons 
    (ps_asg (pv 6) (pg_sub (pv 2) (pv 5) (set_dict (hu_of hr)))) (pss_one 
    (ps_asg pe_bl (pg_sub (pv 3) (pv 6) (set_dict (hu_of hr))))))))))) (pss_cons 
  (ps_if (pt_cmpR op_lt (pe_callB call_lenD (by rfl) nl PySem.boot_len (pa_cons (pv 2) pa_nil)) (pe_callB (call_lenOwn (E := E0) FLn aL iL bL hr2) (by rfl) nl PySem.boot_len (pa_cons (pv 0) pa_nil)) (nomark _)) (pss_one 
    (ps_raise rfl (takes_of rfl rfl rfl rfl) (pmk_oex GX.o GX.i GX.t GX.F hr2 GX.b .nil pass0 rfl GX.m (pa_cons pe_str pa_nil)))) pss_nil) (pss_one 
  (ps_ret (pv 2)))))))), ?_⟩
      obtain ⟨pa, rfl, hp⟩ := hv
      refine ⟨_, rfl, _, .lst xs, rfl, ⟨pa, rfl, hp⟩, fun H1 S1 => ⟨_, rfl, iteF ?_⟩⟩
      refine fun na hna ta hta => ?_
      have nat : na ≠ ta := fun e => by
        rw [← e, upd_same] at hta
        cases hta
      have ta1 : H1 ta = none := by rw [upd_ne nat.symm] at hta; exact hta
      have N0 : NamesAt (upd (upd H1 na (.dK [])) ta (.dK [])) na ta [] := ⟨⟨[], by rw [upd_ne nat, upd_same], rfl, fun k => by rw [valV_nil]; cases k <;> rfl⟩, ⟨[], upd_same, rfl, fun n => rfl⟩, nat⟩
      have e0 : (upd (upd H1 na (.dK [])) ta (.dK [])) pa = some (.lst xs) := by
        rw [upd_ne (ne_of_none (S1 _ _ hp) ta1), upd_ne (ne_of_none (S1 _ _ hp) hna)]
        exact S1 _ _ hp
      refine ⟨_, rfl, pa, rfl, ⟨_, SqL.of e0⟩, for_list (K := K) (a := pa) (xs := xs) (fun i σ H' => ∃ (d : List (Int × Int)) (v4 v5 v6 : Option V), σ = [some (.ref x), some (.ref pa), some (.ref na), some (.ref ta), v4, v5, v6] ∧ NamesAt H' na ta d ∧ (∀ a o, a ≠ na → a ≠ ta → H1 a = some o → H' a = some o) ∧ prRun is ss [] = prRun is (ss.drop i) d ∧ d.length = i)
        ⟨[], none, none, none, rfl, N0, fun a o n1 n2 e => by rw [upd_ne n2, upd_ne n1]; exact e, rfl, rfl⟩ (fun i σ H' _ ⟨_, _, _, _, _, _, f, _⟩ => SqL.of (f _ _ (ne_of_none (S1 _ _ hp) hna) (ne_of_none (S1 _ _ hp) ta1) (S1 _ _ hp))) ?_ ?_⟩
      · rintro i y σ H2 hy ⟨d, v4, v5, v6, rfl, N, Fr, run, dl⟩
        have S02 : Same H H2 := fun a o e => Fr a o (ne_of_none (S1 _ _ e) hna) (ne_of_none (S1 _ _ e) ta1) (S1 _ _ e)
        obtain ⟨sy, hsy, isy, kny⟩ := ShAll.at_ sa hy
        have i1000 : i < ss.length := (List.getElem?_eq_some_iff.mp hsy).1
        have st := prRun_step (is := is) (d := d) hsy
        have say : ∀ w, prOne is d sy = .inl w → Tells H2 CR "what" (.str w) E := fun w e => by
          rw [e] at st
          refine (k1 w ?_).mono S02
          rw [prAll_seq rfl, run, st]
        have nol := noL sy (List.mem_of_getElem? hsy)
        refine ⟨_, rfl, y, sy, rfl, isy.keep S02, fun H3 S3 => ⟨_, rfl, ?_⟩⟩
        have S03 := S02.trans S3
        cases sy with
        | sc u => exact iteT (mkO_of ((say "pair" rfl).mono S3))
        | dk => exact iteT (mkO_of ((say "pair" rfl).mono S3))
        | lst us => cases nol
        | tup us =>
          refine iteF ?_
          obtain ⟨qa, rfl, hq⟩ := isy
          have hq3 := S03 _ _ hq
          refine ⟨_, rfl, qa, us, rfl, .inr (SqT.of hq3), rfl, _, rfl, ?_⟩
          by_cases l2 : us.length = 2
          case neg =>
            refine if_tr (by simp; omega) (mkO_of ((say "pair" ?_).mono S3))
            show (match us with | [o, n] => _ | _ => Sum.inl ("pair" : Str)) = _
            match us, l2 with
            | [], _ => rfl
            | [_], _ => rfl
            | [_, _], l2 => exact absurd rfl l2
            | _ :: _ :: _ :: _, _ => rfl
          obtain ⟨o, n, rfl⟩ : ∃ o n, us = [o, n] := match us, l2 with | [o, n], _ => ⟨o, n, rfl⟩
          refine if_fa (by simp) ?_
          obtain ⟨so, iso⟩ := kny o List.mem_cons_self
          obtain ⟨sn, isn⟩ := kny n (List.mem_cons_of_mem _ List.mem_cons_self)
          have one : prOne is d (.tup [o, n]) = if ((seat is o).isSome && !(d.any fun p => decide (o = .int p.1))) = true then (if (wholeB n 0 1000000000 && !(d.any fun p => decide (n = .int p.2))) = true then .inr (toI o, toI n) else .inl "label") else .inl "guest" := rfl
          refine ⟨_, rfl, qa, _, rfl, SqT.of hq3, rfl, _, _, rfl, _, _, rfl, rfl, ?_⟩
          obtain ⟨⟨kn1, n1, n2, n3⟩, ⟨kt1, t1, t2, t3⟩, _⟩ := N
          -- old
          refine ⟨_, rfl, _, rfl, x, dx, _, rfl, S03 _ _ a1, ⟨x, ns, is, tss, o, so, rfl, hC.keep S03, iso.keep S03, _, rfl, _, rfl, ?_⟩⟩
          cases es : seat is o with
          | none =>
            rw [es] at one
            exact iteT (mkO_of ((say "guest" one).mono S3))
          | some j =>
            obtain ⟨m, rfl, hm, _⟩ := seat_some es
            rw [es] at one
            refine iteF ⟨_, rfl, _, rfl, na, _, rfl, DGet.k (k := Sum.inl m) (S3 _ _ n1), _, rfl, ?_⟩
            rw [n3, look_any]
            cases ea : d.any fun p => decide (V.int m = .int p.1) with
            | true =>
              rw [ea] at one
              exact iteT (mkO_of ((say "guest" one).mono S3))
            | false =>
              rw [ea] at one
              have one : prOne is d (.tup [.int m, n]) = if (wholeB n 0 1000000000 && !(d.any fun p => decide (n = .int p.2))) = true then .inr (m, toI n) else .inl "label" := one
              have lk : look d (.inl m) = none := by
                have := look_any (d := d) (m := m)
                rw [ea] at this
                cases q : look d (.inl m) with
                | none => rfl
                | some z => rw [q] at this; cases this
              refine iteF ?_
              -- new
              refine ⟨_, rfl, n, sn, rfl, isn.keep S03, _, rfl, ?_⟩
              cases ew : wholeB n 0 1000000000 with
              | false =>
                rw [ew] at one
                exact iteT (mkO_of ((say "label" one).mono S3))
              | true =>
                obtain ⟨k, rfl, _, _⟩ := whole_int ew
                rw [ew] at one
                refine iteF ⟨_, rfl, _, rfl, ta, _, rfl, DGet.k (k := Sum.inl k) (S3 _ _ t1), _, rfl, ?_⟩
                rw [t3]
                have an : (d.any fun p => decide (V.int k = .int p.2)) = d.any fun p => decide (p.2 = k) := by
                  congr 1
                  funext p
                  exact decide_eq_decide.mpr ⟨fun e => by injection e with e; exact e.symm, fun e => by rw [e]⟩
                cases eb : d.any fun p => decide (p.2 = k) with
                | true =>
                  rw [an, eb] at one
                  exact iteT (mkO_of ((say "label" one).mono S3))
                | false =>
                  rw [an, eb] at one
                  have one : prOne is d (.tup [.int m, .int k]) = .inr (m, k) := one
                  rw [one] at st
                  have tk : valV kt1 (Sum.inl k) = none := by
                    have := t3 k
                    rw [eb] at this
                    cases q : valV kt1 (Sum.inl k) with
                    | none => rfl
                    | some z => rw [q] at this; cases this
                  refine iteF ⟨_, rfl, _, rfl, _, rfl, na, _, rfl, DPut.k (k := Sum.inl m) (S3 _ _ n1) (small1000 (by omega)), ?_⟩
                  refine ⟨_, rfl, _, rfl, ta, _, rfl, DPut.k (k := Sum.inl k) (kvs := kt1) (by rw [upd_ne nat.symm]; exact S3 _ _ t1) (small1000 (by omega)), ?_⟩
                  refine ⟨d ++ [(m, k)], _, _, _, rfl, ⟨⟨_, by rw [upd_ne nat, upd_same], by rw [put_len (by rw [n3]; exact lk), n2, List.length_append]; rfl, fun j => by rw [valV_put, look_snoc lk, n3]⟩, ⟨_, upd_same, by rw [put_len tk, t2, List.length_append]; rfl, fun z => ?_⟩, nat⟩, fun a o' z1 z2 e => by rw [upd_ne z2, upd_ne z1]; exact S3 _ _ (Fr _ _ z1 z2 e), by rw [run, st], by rw [List.length_append, dl]; rfl⟩
                  rw [valV_put, List.any_append]
                  by_cases c : z = k
                  · subst c
                    rw [if_pos rfl]
                    simp
                  · rw [if_neg (by simpa using c), t3]
                    have : ([(m, k)].any fun p => decide (p.2 = z)) = false := by
                      simp
                      exact fun e => c e.symm
                    rw [this, Bool.or_false]
      · rintro σ H2 ⟨d, v4, v5, v6, rfl, N, Fr, run, dl⟩
        have S02 : Same H H2 := fun a o e => Fr a o (ne_of_none (S1 _ _ e) hna) (ne_of_none (S1 _ _ e) ta1) (S1 _ _ e)
        obtain ⟨⟨kn1, n1, n2, n3⟩, _, _⟩ := N
        have sl : ss.length = xs.length := ShAll.len' sa
        have fin : prRun is ss [] = .inr d := by
          rw [run, ← sl, List.drop_length]
          rfl
        refine ⟨_, rfl, na, _, rfl, n1, _, rfl, x, dx, _, rfl, S02 _ _ a1, ⟨x, ns, is, tss, rfl, hC.keep S02, is.length, rfl, by omega, _, _, rfl, rfl, _, rfl, ?_⟩⟩
        rw [n2]
        refine ifD (fun c1 => mkO_of ((k1 "guest" ?_).mono S02)) (fun c1 => ⟨_, rfl, k2 d ?_ H2 na kn1 S02 n1 n3⟩)
        · rw [prAll_seq rfl, fin]
          show (if d.length < is.length then Sum.inl ("guest" : Str) else .inr d) = _
          rw [if_pos (by omega)]
        · rw [prAll_seq rfl, fin]
          show (if d.length < is.length then Sum.inl ("guest" : Str) else .inr d) = _
          rw [if_neg (by omega)]
    | tup xs =>
      refine ⟨_, (pss_cons 
  (ps_if (pt_not (pt_val (pcal GS hr pass0 (pa_cons (pv 1) pa_nil)))) (pss_one 
    (ps_raise rfl (takes_of rfl rfl rfl rfl) (pmk_oex GX.o GX.i GX.t GX.F hr2 GX.b .nil pass0 rfl GX.m (pa_cons pe_str pa_nil)))) pss_nil) (pss_cons 
  (ps_set (i := 2) sc_new_labels.nd rfl (Or.inl rfl) pe_dnewK) (pss_cons 
  (ps_set (i := 3) sc_new_labels.nd rfl (Or.inl rfl) pe_dnewK) (pss_cons 
  (ps_for (passes_of rfl) rfl (pi_tup (pv 1)) (pg_name (i := 4) sc_new_labels.nd rfl (Or.inl rfl)) (pss_cons 
    (ps_if (PW.pt (pw_or (pt_not (pt_val (pcal GS hr pass0 (pa_cons (pv 4) pa_nil)))) (pw_or1 (pt_cmpR op_ne (pe_callB call_len_seq (by rfl) nl PySem.boot_len (pa_cons (pv 4) pa_nil)) pe_int (nomark _))))) (pss_one 
      (ps_raise rfl (takes_of rfl rfl rfl rfl) (pmk_oex GX.o GX.i GX.t GX.F hr2 GX.b .nil pass0 rfl GX.m (pa_cons pe_str pa_nil)))) pss_nil) (pss_cons 
    (ps_asg (pv 4) (pg_tup (by rfl) (pgs_cons (pg_name (i := 5) sc_new_labels.nd rfl (Or.inl rfl)) (pgs_cons (pg_name (i := 6) sc_new_labels.nd rfl (Or.inl rfl)) pgs_nil)))) (pss_cons 
    (ps_if (PW.pt (pw_or (pt_cmpR (op_niOwn FC aC iC bC pass0 hr3) (pv 5) (pv 0) (by rfl)) (pw_or1 (pt_cmp (pc_din (hu_of hr) (pv 5) (pv 2)))))) (pss_one 
      (ps_raise rfl (takes_of rfl rfl rfl rfl) (pmk_oex GX.o GX.i GX.t GX.F hr2 GX.b .nil pass0 rfl GX.m (pa_cons pe_str pa_nil)))) pss_nil) (pss_cons 
    (ps_if (PW.pt (pw_or (pt_not (pt_val (pcal GL hr pass0 (pa_cons (pv 6) pa_nil)))) (pw_or1 (pt_cmp (pc_din (hu_of hr) (pv 6) (pv 3)))))) (pss_one 
      (ps_raise rfl (takes_of rfl rfl rfl rfl) (pmk_oex GX.o GX.i GX.t GX.F hr2 GX.b .nil pass0 rfl GX.m (pa_cons pe_str pa_nil)))) pss_nil) (pss_cons 
    (ps_asg (pv 6) (pg_sub (pv 2) (pv 5) (set_dict (hu_of hr)))) (pss_one 
    (ps_asg pe_bl (pg_sub (pv 3) (pv 6) (set_dict (hu_of hr))))))))))) (pss_cons 
  (ps_if (pt_cmpR op_lt (pe_callB call_lenD (by rfl) nl PySem.boot_len (pa_cons (pv 2) pa_nil)) (pe_callB (call_lenOwn (E := E0) FLn aL iL bL hr2) (by rfl) nl PySem.boot_len (pa_cons (pv 0) pa_nil)) (nomark _)) (pss_one 
    (ps_raise rfl (takes_of rfl rfl rfl rfl) (pmk_oex GX.o GX.i GX.t GX.F hr2 GX.b .nil pass0 rfl GX.m (pa_cons pe_str pa_nil)))) pss_nil) (pss_one 
  (ps_ret (pv 2)))))))), ?_⟩
      obtain ⟨pa, rfl, hp⟩ := hv
      refine ⟨_, rfl, _, .tup xs, rfl, ⟨pa, rfl, hp⟩, fun H1 S1 => ⟨_, rfl, iteF ?_⟩⟩
      refine fun na hna ta hta => ?_
      have nat : na ≠ ta := fun e => by
        rw [← e, upd_same] at hta
        cases hta
      have ta1 : H1 ta = none := by rw [upd_ne nat.symm] at hta; exact hta
      have N0 : NamesAt (upd (upd H1 na (.dK [])) ta (.dK [])) na ta [] := ⟨⟨[], by rw [upd_ne nat, upd_same], rfl, fun k => by rw [valV_nil]; cases k <;> rfl⟩, ⟨[], upd_same, rfl, fun n => rfl⟩, nat⟩
      have e0 : (upd (upd H1 na (.dK [])) ta (.dK [])) pa = some (.tup xs) := by
        rw [upd_ne (ne_of_none (S1 _ _ hp) ta1), upd_ne (ne_of_none (S1 _ _ hp) hna)]
        exact S1 _ _ hp
      refine ⟨_, rfl, pa, rfl, ⟨_, SqT.of e0⟩, for_tup (K := K) (a := pa) (xs := xs) (fun i σ H' => ∃ (d : List (Int × Int)) (v4 v5 v6 : Option V), σ = [some (.ref x), some (.ref pa), some (.ref na), some (.ref ta), v4, v5, v6] ∧ NamesAt H' na ta d ∧ (∀ a o, a ≠ na → a ≠ ta → H1 a = some o → H' a = some o) ∧ prRun is ss [] = prRun is (ss.drop i) d ∧ d.length = i)
        ⟨[], none, none, none, rfl, N0, fun a o n1 n2 e => by rw [upd_ne n2, upd_ne n1]; exact e, rfl, rfl⟩ (fun i σ H' _ ⟨_, _, _, _, _, _, f, _⟩ => SqT.of (f _ _ (ne_of_none (S1 _ _ hp) hna) (ne_of_none (S1 _ _ hp) ta1) (S1 _ _ hp))) ?_ ?_⟩
      · rintro i y σ H2 hy ⟨d, v4, v5, v6, rfl, N, Fr, run, dl⟩
        have S02 : Same H H2 := fun a o e => Fr a o (ne_of_none (S1 _ _ e) hna) (ne_of_none (S1 _ _ e) ta1) (S1 _ _ e)
        obtain ⟨sy, hsy, isy, kny⟩ := ShAll.at_ sa hy
        have i1000 : i < ss.length := (List.getElem?_eq_some_iff.mp hsy).1
        have st := prRun_step (is := is) (d := d) hsy
        have say : ∀ w, prOne is d sy = .inl w → Tells H2 CR "what" (.str w) E := fun w e => by
          rw [e] at st
          refine (k1 w ?_).mono S02
          rw [prAll_seq rfl, run, st]
        have nol := noL sy (List.mem_of_getElem? hsy)
        refine ⟨_, rfl, y, sy, rfl, isy.keep S02, fun H3 S3 => ⟨_, rfl, ?_⟩⟩
        have S03 := S02.trans S3
        cases sy with
        | sc u => exact iteT (mkO_of ((say "pair" rfl).mono S3))
        | dk => exact iteT (mkO_of ((say "pair" rfl).mono S3))
        | lst us => cases nol
        | tup us =>
          refine iteF ?_
          obtain ⟨qa, rfl, hq⟩ := isy
          have hq3 := S03 _ _ hq
          refine ⟨_, rfl, qa, us, rfl, .inr (SqT.of hq3), rfl, _, rfl, ?_⟩
          by_cases l2 : us.length = 2
          case neg =>
            refine if_tr (by simp; omega) (mkO_of ((say "pair" ?_).mono S3))
            show (match us with | [o, n] => _ | _ => Sum.inl ("pair" : Str)) = _
            match us, l2 with
            | [], _ => rfl
            | [_], _ => rfl
            | [_, _], l2 => exact absurd rfl l2
            | _ :: _ :: _ :: _, _ => rfl
          obtain ⟨o, n, rfl⟩ : ∃ o n, us = [o, n] := match us, l2 with | [o, n], _ => ⟨o, n, rfl⟩
          refine if_fa (by simp) ?_
          obtain ⟨so, iso⟩ := kny o List.mem_cons_self
          obtain ⟨sn, isn⟩ := kny n (List.mem_cons_of_mem _ List.mem_cons_self)
          have one : prOne is d (.tup [o, n]) = if ((seat is o).isSome && !(d.any fun p => decide (o = .int p.1))) = true then (if (wholeB n 0 1000000000 && !(d.any fun p => decide (n = .int p.2))) = true then .inr (toI o, toI n) else .inl "label") else .inl "guest" := rfl
          refine ⟨_, rfl, qa, _, rfl, SqT.of hq3, rfl, _, _, rfl, _, _, rfl, rfl, ?_⟩
          obtain ⟨⟨kn1, n1, n2, n3⟩, ⟨kt1, t1, t2, t3⟩, _⟩ := N
          -- old
          refine ⟨_, rfl, _, rfl, x, dx, _, rfl, S03 _ _ a1, ⟨x, ns, is, tss, o, so, rfl, hC.keep S03, iso.keep S03, _, rfl, _, rfl, ?_⟩⟩
          cases es : seat is o with
          | none =>
            rw [es] at one
            exact iteT (mkO_of ((say "guest" one).mono S3))
          | some j =>
            obtain ⟨m, rfl, hm, _⟩ := seat_some es
            rw [es] at one
            refine iteF ⟨_, rfl, _, rfl, na, _, rfl, DGet.k (k := Sum.inl m) (S3 _ _ n1), _, rfl, ?_⟩
            rw [n3, look_any]
            cases ea : d.any fun p => decide (V.int m = .int p.1) with
            | true =>
              rw [ea] at one
              exact iteT (mkO_of ((say "guest" one).mono S3))
            | false =>
              rw [ea] at one
              have one : prOne is d (.tup [.int m, n]) = if (wholeB n 0 1000000000 && !(d.any fun p => decide (n = .int p.2))) = true then .inr (m, toI n) else .inl "label" := one
              have lk : look d (.inl m) = none := by
                have := look_any (d := d) (m := m)
                rw [ea] at this
                cases q : look d (.inl m) with
                | none => rfl
                | some z => rw [q] at this; cases this
              refine iteF ?_
              -- new
              refine ⟨_, rfl, n, sn, rfl, isn.keep S03, _, rfl, ?_⟩
              cases ew : wholeB n 0 1000000000 with
              | false =>
                rw [ew] at one
                exact iteT (mkO_of ((say "label" one).mono S3))
              | true =>
                obtain ⟨k, rfl, _, _⟩ := whole_int ew
                rw [ew] at one
                refine iteF ⟨_, rfl, _, rfl, ta, _, rfl, DGet.k (k := Sum.inl k) (S3 _ _ t1), _, rfl, ?_⟩
                rw [t3]
                have an : (d.any fun p => decide (V.int k = .int p.2)) = d.any fun p => decide (p.2 = k) := by
                  congr 1
                  funext p
                  exact decide_eq_decide.mpr ⟨fun e => by injection e with e; exact e.symm, fun e => by rw [e]⟩
                cases eb : d.any fun p => decide (p.2 = k) with
                | true =>
                  rw [an, eb] at one
                  exact iteT (mkO_of ((say "label" one).mono S3))
                | false =>
                  rw [an, eb] at one
                  have one : prOne is d (.tup [.int m, .int k]) = .inr (m, k) := one
                  rw [one] at st
                  have tk : valV kt1 (Sum.inl k) = none := by
                    have := t3 k
                    rw [eb] at this
                    cases q : valV kt1 (Sum.inl k) with
                    | none => rfl
                    | some z => rw [q] at this; cases this
                  refine iteF ⟨_, rfl, _, rfl, _, rfl, na, _, rfl, DPut.k (k := Sum.inl m) (S3 _ _ n1) (small1000 (by omega)), ?_⟩
                  refine ⟨_, rfl, _, rfl, ta, _, rfl, DPut.k (k := Sum.inl k) (kvs := kt1) (by rw [upd_ne nat.symm]; exact S3 _ _ t1) (small1000 (by omega)), ?_⟩
                  refine ⟨d ++ [(m, k)], _, _, _, rfl, ⟨⟨_, by rw [upd_ne nat, upd_same], by rw [put_len (by rw [n3]; exact lk), n2, List.length_append]; rfl, fun j => by rw [valV_put, look_snoc lk, n3]⟩, ⟨_, upd_same, by rw [put_len tk, t2, List.length_append]; rfl, fun z => ?_⟩, nat⟩, fun a o' z1 z2 e => by rw [upd_ne z2, upd_ne z1]; exact S3 _ _ (Fr _ _ z1 z2 e), by rw [run, st], by rw [List.length_append, dl]; rfl⟩
                  rw [valV_put, List.any_append]
                  by_cases c : z = k
                  · subst c
                    rw [if_pos rfl]
                    simp
                  · rw [if_neg (by simpa using c), t3]
                    have : ([(m, k)].any fun p => decide (p.2 = z)) = false := by
                      simp
                      exact fun e => c e.symm
                    rw [this, Bool.or_false]
      · rintro σ H2 ⟨d, v4, v5, v6, rfl, N, Fr, run, dl⟩
        have S02 : Same H H2 := fun a o e => Fr a o (ne_of_none (S1 _ _ e) hna) (ne_of_none (S1 _ _ e) ta1) (S1 _ _ e)
        obtain ⟨⟨kn1, n1, n2, n3⟩, _, _⟩ := N
        have sl : ss.length = xs.length := ShAll.len' sa
        have fin : prRun is ss [] = .inr d := by
          rw [run, ← sl, List.drop_length]
          rfl
        refine ⟨_, rfl, na, _, rfl, n1, _, rfl, x, dx, _, rfl, S02 _ _ a1, ⟨x, ns, is, tss, rfl, hC.keep S02, is.length, rfl, by omega, _, _, rfl, rfl, _, rfl, ?_⟩⟩
        rw [n2]
        refine ifD (fun c1 => mkO_of ((k1 "guest" ?_).mono S02)) (fun c1 => ⟨_, rfl, k2 d ?_ H2 na kn1 S02 n1 n3⟩)
        · rw [prAll_seq rfl, fin]
          show (if d.length < is.length then Sum.inl ("guest" : Str) else .inr d) = _
          rw [if_pos (by omega)]
        · rw [prAll_seq rfl, fin]
          show (if d.length < is.length then Sum.inl ("guest" : Str) else .inr d) = _
          rw [if_neg (by omega)]
end
end J

set_option Elab.async false
set_option linter.all false
set_option maxRecDepth 100000
set_option maxHeartbeats 8000000
namespace J
open PySem PySem.Spec PyProof.Rows L2
/-! ### a company of some guests, newly labelled -/
def cellI (ns : List Int) (tss : List (List Int)) (a b : Nat) : Int := if b < a then ((tss[a]?.getD [])[b]?).getD 0 else ns[(((tss[b]?.getD [])[a]?).getD 0).toNat]?.getD 0
theorem cell_int {ns : List Int} {tss : List (List Int)} {a b : Nat} (g : GoodB ns) (R : Rows ns.length tss) (ha : a < tss.length) (hb : b < tss.length) (ne : a ≠ b) : cell ns tss a b = .int (cellI ns tss a b) ∧ 0 ≤ cellI ns tss a b ∧ cellI ns tss a b < (ns.length : Nat) := by
  unfold cell cellI
  rcases Nat.lt_or_ge b a with c | c
  · rw [if_pos c, if_pos c]
    have e := List.getElem?_eq_getElem ha
    obtain ⟨r1, r2⟩ := R a _ e
    rw [e]
    have e2 := List.getElem?_eq_getElem (l := tss[a]) (i := b) (by omega)
    show (match tss[a][b]? with | some t => V.int t | none => .non) = _ ∧ _
    show _ = V.int ((tss[a][b]?).getD 0) ∧ 0 ≤ (tss[a][b]?).getD 0 ∧ (tss[a][b]?).getD 0 < _
    rw [e2]
    exact ⟨rfl, r2 _ (List.getElem_mem _)⟩
  · have c' : a < b := by omega
    rw [if_neg (by omega), if_pos c', if_neg (by omega)]
    have e := List.getElem?_eq_getElem hb
    obtain ⟨r1, r2⟩ := R b _ e
    rw [e]
    have e2 := List.getElem?_eq_getElem (l := tss[b]) (i := a) (by omega)
    show (match tss[b][a]? with | some t => V.int (ns[t.toNat]?.getD 0) | none => .non) = _ ∧ _
    show _ = V.int (ns[((tss[b][a]?).getD 0).toNat]?.getD 0) ∧ 0 ≤ ns[((tss[b][a]?).getD 0).toNat]?.getD 0 ∧ ns[((tss[b][a]?).getD 0).toNat]?.getD 0 < _
    rw [e2]
    refine ⟨rfl, ?_⟩
    show 0 ≤ ns[(tss[b][a]).toNat]?.getD 0 ∧ ns[(tss[b][a]).toNat]?.getD 0 < _
    obtain ⟨q1, q2⟩ := r2 _ (List.getElem_mem (l := tss[b]) (n := a) (by omega))
    have e3 := List.getElem?_eq_getElem (l := ns) (i := (tss[b][a]).toNat) (by omega)
    rw [e3]
    exact g.rng _ (List.getElem_mem _)
def rowT (ns : List Int) (tss : List (List Int)) (js : List Nat) (a : Nat) : List Int := (List.range a).map fun b => cellI ns tss ((js[a]?).getD 0) ((js[b]?).getD 0)
def subT (ns : List Int) (tss : List (List Int)) (js : List Nat) (k : Nat) : List (List Int) := (List.range k).map (rowT ns tss js)
theorem nodup_ne {js : List Nat} (nd : js.Nodup) {a b x y : Nat} (h : a ≠ b) (ea : js[a]? = some x) (eb : js[b]? = some y) : x ≠ y := fun e => by
  have la := (List.getElem?_eq_some_iff.mp ea).1
  have q : js[a]? = js[b]? := by rw [ea, eb, e]
  exact h ((List.getElem?_inj la nd).mp q)
theorem subT_rows {ns : List Int} {tss : List (List Int)} {js : List Nat} (g : GoodB ns) (R : Rows ns.length tss) (hj : ∀ j ∈ js, j < tss.length) (nd : js.Nodup) : Rows ns.length (subT ns tss js js.length) := by
  intro a ts e
  unfold subT at e
  rw [List.getElem?_map] at e
  have ha : a < js.length := by
    cases q : (List.range js.length)[a]? with
    | none => rw [q] at e; cases e
    | some z =>
      have := (List.getElem?_eq_some_iff.mp q).1
      rwa [List.length_range] at this
  rw [List.getElem?_range ha] at e
  obtain rfl : rowT ns tss js a = ts := Option.some.inj e
  unfold rowT
  refine ⟨by rw [List.length_map, List.length_range], fun t ht => ?_⟩
  obtain ⟨b, hb, rfl⟩ := List.mem_map.mp ht
  rw [List.mem_range] at hb
  have ea := List.getElem?_eq_getElem ha
  have eb := List.getElem?_eq_getElem (l := js) (i := b) (by omega)
  rw [ea, eb]
  exact (cell_int g R (hj _ (List.mem_of_getElem? ea)) (hj _ (List.mem_of_getElem? eb)) (nodup_ne nd (by omega) ea eb)).2
abbrev s_Company__seated : Stmt := inClass (top 19) 12
theorem sc_Company__seated : FnScope ["self", "labels", "places", "rows", "ahead", "j", "i"] ["self", "labels", "places"] (defScope s_Company__seated) := ⟨rfl, rfl, rfl, by decide +kernel, rfl, by decide +kernel, by decide +kernel⟩
def spSeated (C CC : Addr) : Sp := fun vs H Q _ => ∃ (x la pa : Addr) (ns is ls : List Int) (tss : List (List Int)) (js : List Nat), vs = [.ref x, .ref la, .ref pa] ∧ CompAt C CC H x ns is tss ∧ GoodB ns ∧ H la = some (.lst (ls.map V.int)) ∧ H pa = some (.lst (js.map fun j : Nat => V.int (j : Nat))) ∧ ls.length = js.length ∧ js.length ≤ 60 ∧
  Asc ls ∧ (∀ n ∈ ls, 0 ≤ n ∧ n ≤ 1000000000) ∧ (∀ j ∈ js, j < is.length) ∧ js.Nodup ∧ ∀ (H' : Hp) (z : Addr), Same H H' → CompAt C CC H' z ns ls (subT ns tss js js.length) → Q (.ref z) H'
section
variable {P : Program} {w : World} {K : PySem.W.Frag} {mg : Str → Option Value} {base : Heap}
theorem ok_Company_seated {f C CC CB fJ : Addr} {fd fdJ : FuncData} (F : Fun K "_seated" "Company._seated" s_Company__seated f fd) (c : CoC K CC) (ne : mg "enumerate" = none)
    (mC : mg "Company" = some (.ref CC)) (MJ : Mk K CC fJ) (FJ : FnOk P w K mg base (L2.CX P w) 5 fJ fdJ ["self", "ties", "guests", "rows"] (spCompI C CC CB)) (bJ : Binds K fdJ ["self", "ties", "guests", "rows"] []) :
    FnOk P w K mg base CX0 7 f fd ["self", "labels", "places"] (spSeated C CC) := by
  refine F.ok sc_Company__seated (fun vs H Q E h => ?_) (fun cdv A outer s H vs Q E hr h => ?_)
  · obtain ⟨x, la, pa, ns, is, ls, tss, js, rfl, _⟩ := h
    rfl
  · obtain ⟨x, la, pa, ns, is, ls, tss, js, rfl, hC, gb, ela, epa, lj, j60, asc, labs, jr, nd, k⟩ := h
    obtain ⟨dx, t, g, r, b, p, ps, kvs, a1, a2, a3, a4, a5, a6, a7, a8, a9, a10, a11⟩ := id hC
    refine ⟨_, (pss_cons 
  (ps_setLc (i := 3) (own := [("ahead", 4), ("j", 5)]) (g := gTup K 2 (gCons (gName 4) (gCons (gName 5) gNil))) rfl sc_Company__seated.nd rfl rfl (sw_true rfl rfl rfl (by decide +kernel)) (pi_enum (by rfl) ne (pa_cons (pv 2) pa_nil)) (blkOk_by (own := [("ahead", 4), ("j", 5)]) (N := ["self", "labels", "places", "rows", "ahead", "j", "i"]) (sc := defScope s_Company__seated) (by decide +kernel)) (fun _ _ _ _ _ => pg_tup (by rfl) (pgs_cons (pg_name (i := 4) sc_Company__seated.nd rfl (Or.inl rfl)) (pgs_cons (pg_name (i := 5) sc_Company__seated.nd rfl (Or.inr rfl)) pgs_nil))) (fun _ _ _ _ _ => pts_nil) (fun _ _ _ _ _ =>
    (pe_lc (wi := iList K (tSl (rSlL K) (tVar 2) tNoPart (tPart (tVar 4)))) (own := [("i", 6)]) (g := gName 6) (by rfl) sc_Company__seated.nd (pi_list (pe_slice (r := rSlL K) sl_list (pv 2) po_none (po_some (pv 4)))) (blkOk_by (own := [("i", 6)]) (N := ["self", "labels", "places", "rows", "ahead", "j", "i"]) (by rfl)) (fun _ _ _ _ _ => pg_name (i := 6) sc_Company__seated.nd rfl (Or.inl rfl)) (fun _ _ _ _ _ => pts_nil) (fun _ _ _ _ _ => (pe_ix (r := rIxT K) ix_tup (pe_ix (r := rIxT K) ix_tup (show PE _ _ (tFld K (tVar 0) "table") from pe_fld (pv 0) rfl) (pv 5) (fun _ _ => rfl)) (pv 6) (fun _ _ => rfl)))))) (pss_one 
  (ps_ret (pe_make MJ FJ hr rfl mC bJ .nil passL (pa_cons (pe_fld (pv 0) rfl) (pa_cons (pv 1) (pa_cons (pv 3) pa_nil))))))), ?_⟩
    refine ⟨_, rfl, pa, _, rfl, SqL.of epa, fun D hD => ?_⟩
    have R : Rows ns.length tss := fun j ts et => by
      have hj := (List.getElem?_eq_some_iff.mp et).1
      have ep := List.getElem?_eq_getElem (l := ps) (i := j) (by have := a4.2.1; omega)
      exact (a4.2.2 j _ ts ep et).2
    obtain ⟨us, u1, u2, u3⟩ := id a5
    have jl : (js.map fun j : Nat => V.int (j : Nat)).length = js.length := List.length_map _
    refine lc_it (walk_enum (K := K) (a := pa) (xs := js.map fun j : Nat => V.int (j : Nat))) (fun n H' => Same H H' ∧ ∃ ws : List Addr, H' D = some (.lst (ws.map V.ref)) ∧ ws.length = n ∧ ∀ (m : Nat) (u : Addr), ws[m]? = some u → u ≠ D ∧ H' u = some (.lst ((rowT ns tss js m).map V.int)))
      ⟨new_same hD, [], upd_same, rfl, fun m u e => by simp at e⟩ (fun n H' _ ⟨S, _⟩ => SqL.of (S _ _ epa)) ?_ ?_
    · rintro n v H1 H2 hn ⟨S1, ws, eD, wl, hw⟩ ⟨T, x1, y1, rfl, hT, rfl, e1, e2⟩
      rw [jl] at hn
      obtain rfl : V.int (n : Nat) = x1 := Option.some.inj e1
      have ej := List.getElem?_eq_getElem hn
      have e2 : (js.map fun j : Nat => V.int (j : Nat))[n]? = some y1 := e2
      rw [List.getElem?_map, ej] at e2
      obtain rfl : V.int (js[n] : Nat) = y1 := Option.some.inj e2
      have jb := jr _ (List.mem_of_getElem? ej)
      have jn : (js[n]?).getD 0 = js[n] := by rw [ej]; rfl
      generalize js[n] = jn' at ej jb jn
      have S2 := S1.trans (new_same (o := .tup [.int (n : Nat), .int (jn' : Nat)]) hT)
      have eD2 := new_same (o := .tup [.int (n : Nat), .int (jn' : Nat)]) hT _ _ eD
      refine ⟨T, _, rfl, SqT.of upd_same, rfl, _, _, rfl, _, _, rfl, rfl, rfl, yesT ?_⟩
      have hw2 : ∀ (m : Nat) (u : Addr), ws[m]? = some u → u ≠ D ∧ (upd H1 T (.tup [.int (n : Nat), .int (jn' : Nat)])) u = some (.lst ((rowT ns tss js m).map V.int)) := fun m u e => ⟨(hw m u e).1, new_same (o := .tup [.int (n : Nat), .int (jn' : Nat)]) hT _ _ (hw m u e).2⟩
      generalize upd H1 T (.tup [.int (n : Nat), .int (jn' : Nat)]) = H2 at S2 eD2 hw2
      refine ⟨_, rfl, _, rfl, _, rfl, pa, _, rfl, SqL.of (S2 _ _ epa), fun q hq => ?_⟩
      rw [cut_take (by rw [jl]; omega)]
      have S3 := new_same (o := .lst ((js.map fun j : Nat => V.int (j : Nat)).take n)) hq
      have eq3 : (upd H2 q (.lst ((js.map fun j : Nat => V.int (j : Nat)).take n))) q = some (.lst ((js.map fun j : Nat => V.int (j : Nat)).take n)) := upd_same
      generalize upd H2 q (.lst ((js.map fun j : Nat => V.int (j : Nat)).take n)) = H3 at S3 eq3
      refine ⟨q, rfl, ⟨_, SqL.of eq3⟩, fun D2 hD2 => ?_⟩
      refine lc_list (K := K) (a := q) (xs := (js.map fun j : Nat => V.int (j : Nat)).take n) (fun m H4 => Same H3 H4 ∧ H3 D2 = none ∧ H4 D2 = some (.lst (((List.range m).map fun b => cellI ns tss jn' ((js[b]?).getD 0)).map V.int))) ⟨new_same hD2, hD2, upd_same⟩ (fun m H4 _ ⟨S, _⟩ => SqL.of (S _ _ eq3)) ?_ ?_
      · rintro m y H4 hy ⟨S4, D0, e4⟩
        have hm : m < n := by
          have := (List.getElem?_eq_some_iff.mp hy).1
          rw [List.length_take, jl] at this
          omega
        rw [List.getElem?_take_of_lt hm, List.getElem?_map] at hy
        have em := List.getElem?_eq_getElem (l := js) (i := m) (by omega)
        rw [em] at hy
        obtain rfl : V.int (js[m]'(by omega) : Nat) = y := Option.some.inj hy
        have mb := jr _ (List.mem_of_getElem? em)
        have mm : (js[m]?).getD 0 = js[m]'(by omega) := by rw [em]; rfl
        generalize js[m]'(by omega) = jm at em mb mm
        have ne' := nodup_ne nd (show n ≠ m by omega) ej em
        obtain ⟨ci, _, _⟩ := cell_int gb R (show jn' < tss.length by omega) (show jm < tss.length by omega) ne'
        have S5 := ((S2.trans S3).trans S4)
        have eu := List.getElem?_eq_getElem (l := us) (i := jn') (by omega)
        generalize us[jn']'(by omega) = uj at eu
        obtain ⟨xs, x1, x2, x3⟩ := u3 jn' uj eu
        refine ⟨rfl, yesT ?_⟩
        refine ⟨_, rfl, x, CC, dx, _, _, rfl, S5 _ _ a1, c.cl, c.nB, cf_table _ _ _ _ _, _, rfl, _, _, _, _, rfl, rfl, SqT.of (S5 _ _ u1), at_of (j := jn') (v := .ref uj) rfl (by rw [List.getElem?_map, eu]; rfl), _, rfl, _, _, _, _, rfl, rfl, SqT.of (S5 _ _ x1), at_of (j := jm) (v := .int (cellI ns tss jn' jm)) rfl (by rw [x3 jm (by omega), ci]), _, e4, small1000 (by rw [List.length_map, List.length_map, List.length_range]; omega), fun a o e => ?_, D0, ?_⟩
        · rw [upd_ne (ne_of_none e D0)]
          exact S4 _ _ e
        · rw [upd_same, List.range_succ, List.map_append, List.map_append]
          show some (HO.lst (_ ++ [V.int (cellI ns tss jn' jm)])) = some (HO.lst (_ ++ [V.int (cellI ns tss jn' ((js[m]?).getD 0))]))
          rw [mm]
      · rintro H4 ⟨S4, D0, e4⟩
        rw [List.length_take, jl, Nat.min_eq_left (by omega)] at e4
        have S24 := S3.trans S4
        have n2D : D2 ≠ D := (ne_of_none (S3 _ _ eD2) D0).symm
        refine ⟨_, S24 _ _ eD2, small1000 (by rw [List.length_map]; omega), fun a o e => ?_, ws ++ [D2], by rw [upd_same, List.map_append]; rfl, by rw [List.length_append, wl]; rfl, fun m u e => ?_⟩
        · rw [upd_ne (ne_of_none e hD)]
          exact (S2.trans S24) _ _ e
        · rcases Nat.lt_or_ge m ws.length with hm | hm
          · rw [List.getElem?_append_left hm] at e
            obtain ⟨z1, z2⟩ := hw2 m u e
            exact ⟨z1, by rw [upd_ne z1]; exact S24 _ _ z2⟩
          · have hmn : m = ws.length := by
              have := (List.getElem?_eq_some_iff.mp e).1
              rw [List.length_append] at this
              have l : [D2].length = 1 := rfl
              omega
            subst hmn
            rw [List.getElem?_append_right (Nat.le_refl _), Nat.sub_self] at e
            obtain rfl : D2 = u := Option.some.inj e
            refine ⟨n2D, ?_⟩
            rw [upd_ne n2D, e4, wl]
            unfold rowT
            rw [jn]
    · rintro H1 ⟨S1, ws, eD, wl, hw⟩
      rw [jl] at wl
      have sl : (subT ns tss js js.length).length = js.length := by
        unfold subT
        rw [List.length_map, List.length_range]
      have gets : ∀ (m : Nat) (ts : List Int), (subT ns tss js js.length)[m]? = some ts → ts = rowT ns tss js m := fun m ts e => by
        unfold subT at e
        rw [List.getElem?_map] at e
        cases q : (List.range js.length)[m]? with
        | none => rw [q] at e; cases e
        | some z =>
          rw [q] at e
          have hz := (List.getElem?_eq_some_iff.mp q)
          obtain ⟨h1, h2⟩ := hz
          rw [List.getElem_range] at h2
          rw [← h2] at e
          exact (Option.some.inj e).symm
      refine ⟨_, rfl, x, CC, dx, _, _, rfl, S1 _ _ a1, c.cl, c.nT, cf_ties _ _ _ _ _, _, rfl, _, rfl, mk_comp (sg := .lst (ls.map V.int)) (sr := .lst (ws.map V.ref)) (ss := shL (subT ns tss js js.length)) (tss := subT ns tss js js.length) (a2.keep S1) ⟨la, rfl, S1 _ _ ela⟩ ⟨D, rfl, eD⟩ (shL_all (by omega) fun m a ts q1 q2 => ?_) rfl rfl rfl (shL_rows _) (by omega) (by omega) asc labs (subT_rows gb R (fun j hj => by have := jr j hj; omega) nd) fun H10 z S10 nz cC => ⟨rfl, k H10 z (S1.trans S10) cC⟩⟩
      rw [gets m ts q2]
      exact (hw m a q1).2
end
end J

set_option Elab.async false
set_option linter.all false
set_option maxRecDepth 100000
set_option maxHeartbeats 8000000
namespace J
open PySem PySem.Spec PyProof.Rows L2
abbrev s_Company_renamed : Stmt := inClass (top 19) 11
theorem sc_Company_renamed : FnScope ["self", "pairs", "names", "order", "place", "label", "_"] ["self", "pairs"] (defScope s_Company_renamed) := ⟨rfl, rfl, rfl, by decide +kernel, rfl, by decide +kernel, by decide +kernel⟩
/-! ### what right pairs say -/
def NGood (is : List Int) (d : List (Int × Int)) : Prop := (∀ p ∈ d, p.1 ∈ is ∧ 0 ≤ p.2 ∧ p.2 ≤ 1000000000) ∧ (d.map Prod.fst).Nodup ∧ (d.map Prod.snd).Nodup
theorem prOne_ok {is : List Int} {d : List (Int × Int)} {s : Sh} {p : Int × Int} (h : prOne is d s = .inr p) : (p.1 ∈ is ∧ 0 ≤ p.2 ∧ p.2 ≤ 1000000000) ∧ p.1 ∉ d.map Prod.fst ∧ p.2 ∉ d.map Prod.snd := by
  unfold prOne at h
  split at h
  · split at h
    · rename_i o n e
      split at h
      · rename_i h1
        split at h
        · rename_i h2
          obtain rfl : (toI o, toI n) = p := Sum.inr.inj h
          obtain ⟨q1, q2⟩ := Bool.and_eq_true_iff.mp h1
          obtain ⟨q3, q4⟩ := Bool.and_eq_true_iff.mp h2
          obtain ⟨j, hj⟩ := Option.isSome_iff_exists.mp q1
          obtain ⟨m, rfl, hm, _⟩ := seat_some hj
          obtain ⟨k, rfl, k0, k1⟩ := whole_int q3
          refine ⟨⟨List.mem_of_getElem? hm, k0, k1⟩, fun hm2 => ?_, fun hk2 => ?_⟩
          · obtain ⟨z, hz, e'⟩ := List.mem_map.mp hm2
            have : (d.any fun p => decide (V.int m = .int p.1)) = true := List.any_eq_true.mpr ⟨z, hz, decide_eq_true (by rw [e']; rfl)⟩
            rw [this] at q2
            cases q2
          · obtain ⟨z, hz, e'⟩ := List.mem_map.mp hk2
            have : (d.any fun p => decide (V.int k = .int p.2)) = true := List.any_eq_true.mpr ⟨z, hz, decide_eq_true (by rw [e']; rfl)⟩
            rw [this] at q4
            cases q4
        · cases h
      · cases h
    · cases h
  · cases h
theorem NGood.snoc {is : List Int} {d : List (Int × Int)} {p : Int × Int} (g : NGood is d) (h : (p.1 ∈ is ∧ 0 ≤ p.2 ∧ p.2 ≤ 1000000000) ∧ p.1 ∉ d.map Prod.fst ∧ p.2 ∉ d.map Prod.snd) : NGood is (d ++ [p]) := by
  refine ⟨fun q hq => ?_, ?_, ?_⟩
  · rcases List.mem_append.mp hq with hq | hq
    · exact g.1 q hq
    · rw [List.mem_singleton] at hq
      rw [hq]
      exact h.1
  · rw [List.map_append, List.nodup_append]
    exact ⟨g.2.1, by simp, fun a ha b hb e => by
      have hb : b ∈ [p.1] := hb
      rw [List.mem_singleton] at hb
      rw [e, hb] at ha
      exact h.2.1 ha⟩
  · rw [List.map_append, List.nodup_append]
    exact ⟨g.2.2, by simp, fun a ha b hb e => by
      have hb : b ∈ [p.2] := hb
      rw [List.mem_singleton] at hb
      rw [e, hb] at ha
      exact h.2.2 ha⟩
theorem prRun_ok {is : List Int} : ∀ {ss : List Sh} {d e : List (Int × Int)}, prRun is ss d = .inr e → NGood is d → NGood is e
  | [], d, e, h, g => by
    obtain rfl : d = e := Sum.inr.inj h
    exact g
  | s :: ss, d, e, h, g => by
    have h' : (match prOne is d s with | .inl w => Sum.inl w | .inr p => prRun is ss (d ++ [p])) = .inr e := h
    cases q : prOne is d s with
    | inl w => rw [q] at h'; cases h'
    | inr p =>
      rw [q] at h'
      exact prRun_ok h' (g.snoc (prOne_ok q))
theorem ints_sub : ∀ {L S : List Int}, L.Nodup → (∀ x ∈ L, x ∈ S) → L.length ≤ S.length
  | [], _, _, _ => Nat.zero_le _
  | x :: xs, S, n, h => by
    rw [List.nodup_cons] at n
    have m := h x List.mem_cons_self
    have := ints_sub (L := xs) (S := S.erase x) n.2 fun y hy => by
      have ne : y ≠ x := fun e => n.1 (e ▸ hy)
      exact (List.mem_erase_of_ne ne).mpr (h y (List.mem_cons_of_mem _ hy))
    rw [List.length_erase_of_mem m] at this
    have := List.length_pos_of_mem m
    rw [List.length_cons]
    omega
theorem look_mem {d : List (Int × Int)} {n l : Int} (h : look d (.inl n) = some (.int l)) : (n, l) ∈ d := by
  have h' : (d.find? fun p => decide (p.1 = n)).map (fun p => V.int p.2) = some (.int l) := h
  cases q : d.find? fun p => decide (p.1 = n) with
  | none => rw [q] at h'; cases h'
  | some z =>
    rw [q] at h'
    have h' := Option.some.inj h'
    injection h' with h'
    have m := List.mem_of_find?_eq_some q
    have e : decide (z.1 = n) = true := List.find?_some (p := fun p : Int × Int => decide (p.1 = n)) q
    have e := of_decide_eq_true e
    obtain ⟨z1, z2⟩ := z
    have e : z1 = n := e
    have h' : z2 = l := h'
    rw [← e, ← h']
    exact m
theorem look_some {d : List (Int × Int)} {n : Int} (h : n ∈ d.map Prod.fst) : ∃ l : Int, look d (.inl n) = some (.int l) := by
  show ∃ l : Int, (d.find? fun p => decide (p.1 = n)).map (fun p => V.int p.2) = some (.int l)
  cases q : d.find? fun p => decide (p.1 = n) with
  | none =>
    rw [List.find?_eq_none] at q
    obtain ⟨z, hz, e⟩ := List.mem_map.mp h
    have := q z hz
    simp [e] at this
  | some z => exact ⟨z.2, rfl⟩
theorem nodup_map_inj {α β : Type} {f : α → β} : ∀ {l : List α}, (l.map f).Nodup → ∀ {x y : α}, x ∈ l → y ∈ l → f x = f y → x = y
  | [], _, x, y, hx, _, _ => by cases hx
  | z :: l, h, x, y, hx, hy, e => by
    rw [List.map_cons, List.nodup_cons] at h
    rcases List.mem_cons.mp hx with h1 | h1
    · rcases List.mem_cons.mp hy with h2 | h2
      · rw [h1, h2]
      · exact absurd (show f z ∈ l.map f from List.mem_map.mpr ⟨y, h2, by rw [← e, h1]⟩) h.1
    · rcases List.mem_cons.mp hy with h2 | h2
      · exact absurd (show f z ∈ l.map f from List.mem_map.mpr ⟨x, h1, by rw [e, h2]⟩) h.1
      · exact nodup_map_inj h.2 h1 h2 e
/-- right pairs name every guest, each otherwise -/
theorem prAll_ok {is : List Int} {s : Sh} {ss : List Sh} {d : List (Int × Int)} (h : prAll is s ss = .inr d) : NGood is d ∧ ∀ n ∈ is, ∃ l : Int, look d (.inl n) = some (.int l) ∧ 0 ≤ l ∧ l ≤ 1000000000 := by
  unfold prAll at h
  split at h
  · cases q : prRun is ss [] with
    | inl w => rw [q] at h; cases h
    | inr e =>
      rw [q] at h
      have h : (if e.length < is.length then Sum.inl ("guest" : Str) else .inr e) = .inr d := h
      split at h
      · cases h
      · rename_i c
        obtain rfl : e = d := Sum.inr.inj h
        have g : NGood is e := prRun_ok q ⟨fun p hp => by (cases hp), List.nodup_nil, List.nodup_nil⟩
        refine ⟨g, fun n hn => ?_⟩
        have hm : n ∈ e.map Prod.fst := Decidable.byContradiction fun hno => by
          have := ints_sub (L := e.map Prod.fst) (S := is.erase n) g.2.1 fun y hy => by
            obtain ⟨z, hz, rfl⟩ := List.mem_map.mp hy
            exact (List.mem_erase_of_ne (fun e' => hno (by rw [← e']; exact hy))).mpr (g.1 z hz).1
          rw [List.length_erase_of_mem hn, List.length_map] at this
          have := List.length_pos_of_mem hn
          omega
        obtain ⟨l, hl⟩ := look_some hm
        exact ⟨l, hl, (g.1 _ (look_mem hl)).2⟩
  · cases h
theorem look_inj {is : List Int} {d : List (Int × Int)} {n m l : Int} (g : NGood is d) (h1 : look d (.inl n) = some (.int l)) (h2 : look d (.inl m) = some (.int l)) : n = m := by
  have := nodup_map_inj g.2.2 (look_mem h1) (look_mem h2) rfl
  injection this
theorem perm_map_inv' {α β : Type} {f : α → β} : ∀ {ys ws : List β}, ys.Perm ws → ∀ {zs : List α}, ws = zs.map f → ∃ zs' : List α, zs'.Perm zs ∧ ys = zs'.map f := by
  intro ys ws h
  induction h with
  | nil => intro zs e; exact ⟨[], by rw [List.eq_nil_of_map_eq_nil e.symm], rfl⟩
  | cons x h ih =>
    intro zs e
    cases zs with
    | nil => cases e
    | cons z zs =>
      rw [List.map_cons] at e
      injection e with e1 e2
      obtain ⟨zs', p, q⟩ := ih e2
      exact ⟨z :: zs', p.cons z, by rw [List.map_cons, e1, q]⟩
  | swap x y l =>
    intro zs e
    match zs, e with
    | a :: b :: r, e =>
      rw [List.map_cons, List.map_cons] at e
      injection e with e1 e2
      injection e2 with e2 e3
      exact ⟨b :: a :: r, List.Perm.swap a b r, by rw [List.map_cons, List.map_cons, e1, e2, e3]⟩
  | trans h1 h2 ih1 ih2 =>
    intro zs e
    obtain ⟨zs', p, q⟩ := ih2 e
    obtain ⟨zs2, p2, q2⟩ := ih1 q
    exact ⟨zs2, p2.trans p, q2⟩
theorem walk_enumT {K : PySem.W.Frag} {a : Addr} {xs : List V} : Walk (Itet K a) xs.length (fun H => SqT K H a xs) (YPair (fun i => some (.int (i : Nat))) (fun i => xs[i]?)) := by
  refine ⟨fun i _ hi q => ⟨xs, xs[i], q, by simp [hi]⟩, fun _ q => ⟨xs, q, rfl⟩, fun i H v H' _ q y => ?_⟩
  obtain ⟨T, x, h1, h2, h3, h4⟩ := y
  exact ⟨T, .int (i : Nat), x, h1, h2, h3, rfl, h4 xs q⟩
/-- how the guests stand under their new labels -/
structure RenOk (is : List Int) (d : List (Int × Int)) (ls : List Int) (js : List Nat) : Prop where
  perm : js.Perm (List.range is.length)
  len : ls.length = js.length
  asc : Asc ls
  at_ : ∀ (i : Nat) (l : Int) (j : Nat), ls[i]? = some l → js[i]? = some j → ∃ n, is[j]? = some n ∧ look d (.inl n) = some (.int l)
def spRen (C CC CR : Addr) : Sp := fun vs H Q E => ∃ (x : Addr) (ns is : List Int) (tss : List (List Int)) (v : V) (s : Sh) (ss : List Sh), vs = [.ref x, v] ∧ CompAt C CC H x ns is tss ∧ GoodB ns ∧ Is H v s ∧ Known H (items s) ∧ ShAll H (items s) ss ∧ ss.length ≤ 1000 ∧ (∀ s ∈ ss, s.isL = false) ∧
  (∀ u, prAll is s ss = .inl u → Tells H CR "what" (.str u) E) ∧ (∀ d, prAll is s ss = .inr d → ∀ (H' : Hp) (z : Addr) (ls : List Int) (js : List Nat), Same H H' → RenOk is d ls js → CompAt C CC H' z ns ls (subT ns tss js js.length) → Q (.ref z) H')
section
variable {P : Program} {w : World} {K : PySem.W.Frag} {mg : Str → Option Value} {base : Heap}
theorem ok_Company_renamed {f C CC CR fN fS : Addr} {fd fdN fdS : FuncData} (F : Fun K "renamed" "Company.renamed" s_Company_renamed f fd) (c : CoC K CC) (ne : mg "enumerate" = none) (nso : mg "sorted" = none)
    (GN : Cal P w K mg base (L2.CX P w) 4 "_new_labels" fN fdN ["company", "pairs"] (spNL C CC CR)) (GS : Mt P w K mg base CX0 7 CC "_seated" fS fdS ["self", "labels", "places"] (spSeated C CC)) :
    FnOk P w K mg base (L2.CX P w) 8 f fd ["self", "pairs"] (spRen C CC CR) := by
  refine F.okX sc_Company_renamed (fun vs H Q E h => ?_) (fun cdv A outer s H vs Q E hr h => ?_)
  · obtain ⟨x, ns, is, tss, v, s, ss, rfl, _⟩ := h
    rfl
  · obtain ⟨x, ns, is, tss, v, s, ss, rfl, hC, gb, hv, kn, sa, s1000, noL, k1, k2⟩ := h
    obtain ⟨dx, t, g, r, b, p, ps, kvs0, a1, a2, a3, a4, a5, a6, a7, a8, a9, a10, a11⟩ := id hC
    refine ⟨_, (pss_cons 
  (ps_set (i := 2) sc_Company_renamed.nd rfl (Or.inr rfl) (pcal GN hr (passes_call (takes_of rfl rfl rfl rfl) (fun _ _ _ _ h => h)) (pa_cons (pv 0) (pa_cons (pv 1) pa_nil)))) (pss_cons 
  (ps_set (i := 3) sc_Company_renamed.nd rfl (Or.inl rfl) (pe_callB (cr_sortT (d := 2) (B := 1000000001) (by decide)) (by rfl) nso (by decide +kernel) (pa_cons (pe_lc (own := [("place", 4), ("label", 5)]) (g := gTup K 2 (gCons (gName 4) (gCons (gName 5) gNil))) (by rfl) sc_Company_renamed.nd (pi_enumT (by rfl) ne (pa_cons (pe_fld (pv 0) rfl) pa_nil)) (blkOk_by (own := [("place", 4), ("label", 5)]) (N := ["self", "pairs", "names", "order", "place", "label", "_"]) (sc := defScope s_Company_renamed) (by decide +kernel)) (fun _ _ _ _ _ => pg_tup (by rfl) (pgs_cons (pg_name (i := 4) sc_Company_renamed.nd rfl (Or.inl rfl)) (pgs_cons (pg_name (i := 5) sc_Company_renamed.nd rfl (Or.inl rfl)) pgs_nil))) (fun _ _ _ _ _ => pts_nil) (fun _ _ _ _ _ => (pe_tup (pa_cons (pe_dget (hu_of hr) (pv 2) (pv 5) (fun _ _ => rfl)) (pa_cons (pv 4) pa_nil))))) pa_nil))) (pss_one 
  (ps_ret (pe_meth (pv 0) c.cl GS.M GS.F hr GS.b .nil pass0 (pa_cons (pe_lc (own := [("label", 5), ("_", 6)]) (g := gTup K 2 (gCons (gName 5) (gCons (gName 6) gNil))) (by rfl) sc_Company_renamed.nd (pi_list (pv 3)) (blkOk_by (own := [("label", 5), ("_", 6)]) (N := ["self", "pairs", "names", "order", "place", "label", "_"]) (sc := defScope s_Company_renamed) (by decide +kernel)) (fun _ _ _ _ _ => pg_tup (by rfl) (pgs_cons (pg_name (i := 5) sc_Company_renamed.nd rfl (Or.inl rfl)) (pgs_cons (pg_name (i := 6) sc_Company_renamed.nd rfl (Or.inl rfl)) pgs_nil))) (fun _ _ _ _ _ => pts_nil) (fun _ _ _ _ _ => (pv 5))) (pa_cons (pe_lc (own := [("_", 6), ("place", 4)]) (g := gTup K 2 (gCons (gName 6) (gCons (gName 4) gNil))) (by rfl) sc_Company_renamed.nd (pi_list (pv 3)) (blkOk_by (own := [("_", 6), ("place", 4)]) (N := ["self", "pairs", "names", "order", "place", "label", "_"]) (sc := defScope s_Company_renamed) (by decide +kernel)) (fun _ _ _ _ _ => pg_tup (by rfl) (pgs_cons (pg_name (i := 6) sc_Company_renamed.nd rfl (Or.inl rfl)) (pgs_cons (pg_name (i := 4) sc_Company_renamed.nd rfl (Or.inl rfl)) pgs_nil))) (fun _ _ _ _ _ => pts_nil) (fun _ _ _ _ _ => (pv 4))) pa_nil))))))), ?_⟩
    refine ⟨_, rfl, _, rfl, x, ns, is, tss, v, s, ss, rfl, hC, hv, kn, sa, s1000, noL, k1, fun d ed H1 na kvs S1 e1 lk => ?_⟩
    have S1' := S1
    obtain ⟨gd, names⟩ := prAll_ok ed
    refine ⟨_, rfl, x, CC, dx, _, _, rfl, S1 _ _ a1, c.cl, c.nG, cf_guests _ _ _ _ _, g, _, rfl, SqT.of (S1 _ _ a3), fun D hD => ?_⟩
    have il : (is.map V.int).length = is.length := List.length_map _
    refine lc_it (walk_enumT (K := K) (a := g) (xs := is.map V.int)) (fun n H' => Same H1 H' ∧ ∃ W : List (Addr × Int × Nat), H' D = some (.lst (W.map fun w => V.ref w.1)) ∧ W.map (fun w => w.2.2) = List.range n ∧ ∀ w ∈ W, w.1 ≠ D ∧ H' w.1 = some (.tup [.int w.2.1, .int (w.2.2 : Nat)]) ∧ 0 ≤ w.2.1 ∧ w.2.1 ≤ 1000000000 ∧ ∃ m, is[w.2.2]? = some m ∧ look d (.inl m) = some (.int w.2.1))
      ⟨new_same hD, [], upd_same, rfl, fun w h => by (cases h)⟩ (fun n H' _ ⟨S, _⟩ => SqT.of (S _ _ (S1 _ _ a3))) ?_ ?_
    · rintro n v' H2 H3 hn ⟨S2, W, eD, wr, hw⟩ ⟨T, x1, y1, rfl, hT, rfl, q1, q2⟩
      rw [il] at hn
      obtain rfl : V.int (n : Nat) = x1 := Option.some.inj q1
      have q2 : (is.map V.int)[n]? = some y1 := q2
      have em := List.getElem?_eq_getElem hn
      rw [List.getElem?_map, em] at q2
      obtain rfl : V.int is[n] = y1 := Option.some.inj q2
      obtain ⟨l, hl, l0, l1⟩ := names _ (List.mem_of_getElem? em)
      generalize is[n] = m at em hl
      have S3 := new_same (o := .tup [.int (n : Nat), .int m]) hT
      have wl : W.length = n := by
        have := congrArg List.length wr
        rwa [List.length_map, List.length_range] at this
      have eD3 := S3 _ _ eD
      refine ⟨T, _, rfl, SqT.of upd_same, rfl, _, _, rfl, _, _, rfl, rfl, rfl, yesT ?_⟩
      have hw3 : ∀ w ∈ W, w.1 ≠ D ∧ (upd H2 T (.tup [.int (n : Nat), .int m])) w.1 = some (.tup [.int w.2.1, .int (w.2.2 : Nat)]) := fun w hm => ⟨(hw w hm).1, S3 _ _ (hw w hm).2.1⟩
      generalize upd H2 T (.tup [.int (n : Nat), .int m]) = H3 at S3 eD3 hw3
      have dg : DGet H3 na (.int m) (some (.int l)) := by
        have q := DGet.k (k := Sum.inl m) (S3 _ _ (S2 _ _ e1))
        rw [lk, hl] at q
        exact q
      refine ⟨_, rfl, _, rfl, na, _, rfl, dg, _, rfl, (by show 2 ≤ sizeLine; decide), fun z hz => ?_⟩
      have S4 := new_same (o := .tup [.int l, .int (n : Nat)]) hz
      have zD : z ≠ D := (ne_of_none eD3 hz).symm
      refine ⟨_, S4 _ _ eD3, small1000 (by rw [List.length_map]; omega), fun a o e => ?_, W ++ [(z, l, n)], by rw [upd_same, List.map_append]; rfl, by rw [List.map_append, wr, List.range_succ]; rfl, fun w hm => ?_⟩
      · rw [upd_ne (ne_of_none e hD)]
        exact S4 _ _ (S3 _ _ (S2 _ _ e))
      · rcases List.mem_append.mp hm with hm | hm
        · obtain ⟨z1, z2⟩ := hw3 w hm
          exact ⟨z1, by rw [upd_ne z1]; exact S4 _ _ z2, (hw w hm).2.2⟩
        · rw [List.mem_singleton] at hm
          subst hm
          exact ⟨zD, by rw [upd_ne zD, upd_same], l0, l1, m, em, hl⟩
    · rintro H2 ⟨S2, W, eD, wr, hw⟩
      rw [il] at wr
      have wl : W.length = is.length := by
        have := congrArg List.length wr
        rwa [List.length_map, List.length_range] at this
      have bd : ∀ w ∈ W, TS.Bd 1000000001 [w.2.1, ((w.2.2 : Nat) : Int)] := fun w hm q hq => by
        obtain ⟨_, _, l0, l1, m, em, _⟩ := hw w hm
        have := (List.getElem?_eq_some_iff.mp em).1
        simp only [List.mem_cons, List.not_mem_nil, or_false] at hq
        rcases hq with rfl | rfl <;> omega
      refine ⟨D, _, rfl, SqL.of eD, by rw [List.length_map]; omega, fun y hy => ?_, fun ys z pm pw hz => ?_⟩
      · obtain ⟨w', hm, rfl⟩ := List.mem_map.mp hy
        exact ⟨[w'.2.1, ((w'.2.2 : Nat) : Int)], ⟨w'.1, rfl, SqT.of (hw w' hm).2.1⟩, rfl, bd w' hm⟩
      obtain ⟨W', pW, rfl⟩ := perm_map_inv' pm rfl
      have hw' : ∀ w ∈ W', w.1 ≠ D ∧ H2 w.1 = some (.tup [.int w.2.1, .int (w.2.2 : Nat)]) ∧ 0 ≤ w.2.1 ∧ w.2.1 ≤ 1000000000 ∧ ∃ m, is[w.2.2]? = some m ∧ look d (.inl m) = some (.int w.2.1) := fun w hm => hw w (pW.mem_iff.mp hm)
      have wl' : W'.length = is.length := by rw [pW.length_eq, wl]
      have jperm : (W'.map fun w => w.2.2).Perm (List.range is.length) := by
        have := pW.map fun w : Addr × Int × Nat => w.2.2
        rwa [wr] at this
      have jnd : (W'.map fun w => w.2.2).Nodup := jperm.nodup_iff.mpr List.nodup_range
      have asc : Asc (W'.map fun w => w.2.1) := by
        intro i a b' ea eb
        rw [List.getElem?_map] at ea eb
        cases wa : W'[i]? with
        | none => rw [wa] at ea; cases ea
        | some u =>
          cases wb : W'[i + 1]? with
          | none => rw [wb] at eb; cases eb
          | some u' =>
            rw [wa] at ea
            rw [wb] at eb
            obtain rfl : u.2.1 = a := Option.some.inj ea
            obtain rfl : u'.2.1 = b' := Option.some.inj eb
            have ha := List.mem_of_getElem? wa
            have hb := List.mem_of_getElem? wb
            obtain ⟨i1, g1⟩ := List.getElem?_eq_some_iff.mp wa
            obtain ⟨i2, g2⟩ := List.getElem?_eq_some_iff.mp wb
            rw [List.pairwise_map, List.pairwise_iff_getElem] at pw
            have le := pw i (i + 1) i1 i2 (by omega)
            rw [g1, g2] at le
            have le := le [u.2.1, ((u.2.2 : Nat) : Int)] [u'.2.1, ((u'.2.2 : Nat) : Int)] ⟨u.1, rfl, SqT.of (hw' u ha).2.1⟩ ⟨u'.1, rfl, SqT.of (hw' u' hb).2.1⟩
            have nlt : ¬ u'.2.1 < u.2.1 := fun q => by
              have := TS.code_lt (r := [((u'.2.2 : Nat) : Int)]) (q := [((u.2.2 : Nat) : Int)]) rfl (bd u' (pW.mem_iff.mp hb)).tail (bd u (pW.mem_iff.mp ha)).tail q
              omega
            have ne' : u.2.1 ≠ u'.2.1 := fun q => by
              obtain ⟨_, _, _, _, m, em, hm⟩ := hw' u ha
              obtain ⟨_, _, _, _, m', em', hm'⟩ := hw' u' hb
              rw [← q] at hm'
              obtain rfl := look_inj gd hm hm'
              have jj := a8.inj em em'
              have := (List.getElem?_inj (by rw [List.length_map]; exact i1) jnd (j := i + 1)).mp (by rw [List.getElem?_map, List.getElem?_map, wa, wb]; exact congrArg some jj)
              omega
            omega
      have S3 := new_same (o := .lst (W'.map fun w => V.ref w.1)) hz
      have ez : (upd H2 z (.lst (W'.map fun w => V.ref w.1))) z = some (.lst (W'.map fun w => V.ref w.1)) := upd_same
      have hw3 : ∀ w ∈ W', (upd H2 z (.lst (W'.map fun w => V.ref w.1))) w.1 = some (.tup [.int w.2.1, .int (w.2.2 : Nat)]) := fun w hm => S3 _ _ (hw' w hm).2.1
      generalize upd H2 z (.lst (W'.map fun w => V.ref w.1)) = H3 at S3 ez hw3
      have S03 := (S1.trans S2).trans S3
      refine ⟨_, rfl, x, dx, _, rfl, S03 _ _ a1, cf_no _ _ _ _ _ (by decide +kernel) (by decide +kernel) (by decide +kernel) (by decide +kernel) (by decide +kernel), ?_⟩
      refine ⟨_, rfl, z, rfl, ⟨_, SqL.of ez⟩, fun D2 hD2 => ?_⟩
      refine lc_list (K := K) (a := z) (xs := W'.map fun w => V.ref w.1) (fun n H' => Same H3 H' ∧ H3 D2 = none ∧ H' D2 = some (.lst (((W'.take n).map fun w => w.2.1).map V.int))) ⟨new_same hD2, hD2, upd_same⟩ (fun n H' _ ⟨S, _⟩ => SqL.of (S _ _ ez)) ?_ ?_
      · rintro n y H4 hy ⟨S4, D0, e4⟩
        rw [List.getElem?_map] at hy
        cases wn : W'[n]? with
        | none => rw [wn] at hy; cases hy
        | some u =>
          rw [wn] at hy
          obtain rfl : V.ref u.1 = y := Option.some.inj hy
          have hn := (List.getElem?_eq_some_iff.mp wn).1
          refine ⟨u.1, _, rfl, SqT.of (S4 _ _ (hw3 u (List.mem_of_getElem? wn))), rfl, _, _, rfl, _, _, rfl, rfl, rfl, yesT ?_⟩
          refine ⟨_, rfl, _, e4, small1000 (by rw [List.length_map, List.length_map, List.length_take]; omega), fun a o e => ?_, D0, by rw [upd_same, List.take_add_one, wn, List.map_append, List.map_append]; rfl⟩
          rw [upd_ne (ne_of_none e D0)]
          exact S4 _ _ e
      rintro H4 ⟨S4, D20, e4⟩
      rw [List.length_map, List.take_length] at e4
      have ez4 := S4 _ _ ez
      refine ⟨_, rfl, z, rfl, ⟨_, SqL.of ez4⟩, fun D3 hD3 => ?_⟩
      refine lc_list (K := K) (a := z) (xs := W'.map fun w => V.ref w.1) (fun n H' => Same H4 H' ∧ H4 D3 = none ∧ H' D3 = some (.lst (((W'.take n).map fun w => w.2.2).map fun j : Nat => V.int (j : Nat)))) ⟨new_same hD3, hD3, upd_same⟩ (fun n H' _ ⟨S, _⟩ => SqL.of (S _ _ ez4)) ?_ ?_
      · rintro n y H5 hy ⟨S5, D0, e5⟩
        rw [List.getElem?_map] at hy
        cases wn : W'[n]? with
        | none => rw [wn] at hy; cases hy
        | some u =>
          rw [wn] at hy
          obtain rfl : V.ref u.1 = y := Option.some.inj hy
          have hn := (List.getElem?_eq_some_iff.mp wn).1
          refine ⟨u.1, _, rfl, SqT.of (S5 _ _ (S4 _ _ (hw3 u (List.mem_of_getElem? wn)))), rfl, _, _, rfl, _, _, rfl, rfl, rfl, yesT ?_⟩
          refine ⟨_, rfl, _, e5, small1000 (by rw [List.length_map, List.length_map, List.length_take]; omega), fun a o e => ?_, D0, by rw [upd_same, List.take_add_one, wn, List.map_append, List.map_append]; rfl⟩
          rw [upd_ne (ne_of_none e D0)]
          exact S5 _ _ e
      rintro H5 ⟨S5, D30, e5⟩
      rw [List.length_map, List.take_length] at e5
      have S05 := (S03.trans S4).trans S5
      refine ⟨x, D2, D3, ns, is, W'.map (fun w => w.2.1), tss, W'.map (fun w => w.2.2), rfl, hC.keep S05, gb, S5 _ _ e4, e5, by rw [List.length_map, List.length_map], by rw [List.length_map]; omega, asc, fun n hn => ?_, fun j hj => ?_, jnd, fun H6 z' S6 cC => ?_⟩
      · obtain ⟨w', hm, rfl⟩ := List.mem_map.mp hn
        exact ⟨(hw' w' hm).2.2.1, (hw' w' hm).2.2.2.1⟩
      · have := jperm.mem_iff.mp hj
        rwa [List.mem_range] at this
      · refine k2 d ed H6 z' _ _ (S05.trans S6) ⟨jperm, by rw [List.length_map, List.length_map], asc, fun i l j h1 h2 => ?_⟩ cC
        rw [List.getElem?_map] at h1 h2
        cases wn : W'[i]? with
        | none => rw [wn] at h1; cases h1
        | some u =>
          rw [wn] at h1 h2
          obtain rfl : u.2.1 = l := Option.some.inj h1
          obtain rfl : u.2.2 = j := Option.some.inj h2
          exact (hw' u (List.mem_of_getElem? wn)).2.2.2.2
end
end J

set_option Elab.async false
set_option linter.all false
set_option maxRecDepth 100000
set_option maxHeartbeats 8000000
namespace J
open PySem PySem.Spec PyProof.Rows L2
abbrev s_Lwhole : Stmt := top 31
theorem sc_Lwhole : FnScope ["_law_thing", "_law_low", "_law_high"] ["_law_thing", "_law_low", "_law_high"] (defScope s_Lwhole) := ⟨rfl, rfl, rfl, by decide +kernel, rfl, by decide +kernel, by decide +kernel⟩
/-! ### what is due of a newcomer -/
def rowDue (m : Nat) (is : List Int) (v : V) (sr : Sh) : Option (Int × Str) :=
  if 60 ≤ is.length then some (60, "many")
  else if wholeB v 0 1000000000 = true then (match v with
    | .int n => if n ∈ is then some (((below is n : Nat) : Int), "label") else (rowW m is.length sr).map fun w => (((below is n : Nat) : Int), w)
    | _ => none)
  else some (0, "label")
def DueAt (H : Hp) (v : V) (o : Option (Int × Str)) : Prop := match o with
  | none => v = .non
  | some (i, w) => ∃ a, v = .ref a ∧ H a = some (.tup [.int i, .str w])
abbrev s_Lrow_due : Stmt := top 32
theorem sc_Lrow_due : FnScope ["_law_many_ties", "_law_labels_here", "_law_label", "_law_row", "_law_place", "_law_entry", "_law_guest"] ["_law_many_ties", "_law_labels_here", "_law_label", "_law_row"] (defScope s_Lrow_due) := ⟨rfl, rfl, rfl, by decide +kernel, rfl, by decide +kernel, by decide +kernel⟩
theorem due_mk {H : Hp} {z : Addr} {o : Option (Int × Str)} {i : Int} {w : Str} (h : o = some (i, w)) (e : H z = some (.tup [.int i, .str w])) : DueAt H (.ref z) o := by
  rw [h]
  exact ⟨z, rfl, e⟩
def spLWhole : Sp := fun vs H Q _ => ∃ (x : V) (s : Sh) (lo hi : Int), vs = [x, .int lo, .int hi] ∧ Is H x s ∧ Q (.bl (wholeB x lo hi)) H
def spRowDue : Sp := fun vs H Q _ => ∃ (m : Int) (mm : Nat) (la : Addr) (is : List Int) (v rv : V) (s sr : Sh), vs = [.int m, .ref la, v, rv] ∧ m = (mm : Nat) ∧ H la = some (.lst (is.map V.int)) ∧ is.length ≤ 60 ∧ Is H v s ∧ Is H rv sr ∧ Known H (items sr) ∧ ∀ (H' : Hp) (z : V), Same H H' → DueAt H' z (rowDue mm is v sr) → Q z H'
theorem ints_flat (is : List Int) : (is.map V.int).all flatV = true := by
  rw [List.all_map, List.all_eq_true]
  exact fun x _ => rfl
theorem inV_ints {is : List Int} {n : Int} : inV (.int n) (is.map V.int) = decide (n ∈ is) := by
  unfold inV
  rw [List.any_map]
  induction is with
  | nil => simp
  | cons x xs ih =>
    rw [List.any_cons, ih]
    by_cases c : x = n
    · subst c
      simp [Function.comp, eqV]
    · have c' : ¬ n = x := fun e => c e.symm
      simp [Function.comp, eqV, c, c']
section
variable {P : Program} {w : World} {K : PySem.W.Frag} {mg : Str → Option Value} {base : Heap}
theorem ok_Lwhole {f : Addr} {fd : FuncData} (F : Fun K "_law_whole" "_law_whole" s_Lwhole f fd) (nis : mg "isinstance" = none) (ni : mg "int" = none) (nb : mg "bool" = none) : FnOk P w K mg base CX0 1 f fd ["_law_thing", "_law_low", "_law_high"] spLWhole := by
  refine F.ok sc_Lwhole (fun vs H Q E h => ?_) (fun cdv A outer s H vs Q E hr h => ?_)
  · obtain ⟨x, s, lo, hi, rfl, _⟩ := h
    rfl
  · obtain ⟨x, sh, lo, hi, rfl, hx, k⟩ := h
    refine ⟨_, (pss_one 
  (ps_ret (pe_and (pe_callB call_isi (by rfl) nis (by decide +kernel) (pa_cons (pv 0) (pa_cons (pe_bltn (by rfl) ni (by decide +kernel) (v := .ty "int") rfl) pa_nil))) (pe_and (pe_not (pe_callB call_isi (by rfl) nis (by decide +kernel) (pa_cons (pv 0) (pa_cons (pe_bltn (by rfl) nb (by decide +kernel) (v := .ty "bool") rfl) pa_nil)))) (pe_and (pe_cmpR op_le (pv 1) (pv 0) (nomark _)) (pe_one (pe_cmpR op_le (pv 0) (pv 2) (nomark _)))))))), ?_⟩
    obtain ⟨t, ht, k1, k2, _⟩ := hx.ty (K := K)
    refine ⟨_, rfl, _, _, _, _, _, rfl, .ty "int", ht, kit_ty k1, _, rfl, ?_⟩
    cases e1 : sh.int with
    | true =>
      obtain ⟨i, rfl⟩ : ∃ i, sh = .sc (.int i) := by
        cases sh with
        | sc v => cases v <;> first | exact ⟨_, rfl⟩ | cases e1
        | _ => cases e1
      obtain ⟨rfl, _⟩ := hx
      refine if_tr rfl ?_
      refine ⟨_, rfl, _, _, _, _, _, rfl, .ty "bool", ht, kit_ty k2, _, rfl, _, rfl, ?_⟩
      refine if_tr rfl ?_
      refine ⟨_, rfl, _, rfl, _, _, rfl, rfl, _, rfl, ?_⟩
      by_cases c : lo ≤ i
      · refine if_tr (decide_eq_true c) ⟨_, rfl, _, rfl, _, _, rfl, rfl, ?_⟩
        have e : wholeB (.int i) lo hi = decide (i ≤ hi) := by
          show (decide (lo ≤ i) && decide (i ≤ hi)) = _
          rw [decide_eq_true c, Bool.true_and]
        rw [e] at k
        exact k
      · refine if_fa (decide_eq_false c) ?_
        have e : wholeB (.int i) lo hi = false := by
          show (decide (lo ≤ i) && decide (i ≤ hi)) = _
          rw [decide_eq_false c, Bool.false_and]
        rw [e] at k
        exact k
    | false =>
      have e : wholeB x lo hi = false := by
        cases sh with
        | sc v =>
          obtain ⟨rfl, _⟩ := hx
          cases x <;> first | rfl | cases e1
        | dk => obtain ⟨a, _, rfl, _⟩ := hx; rfl
        | lst => obtain ⟨a, rfl, _⟩ := hx; rfl
        | tup => obtain ⟨a, rfl, _⟩ := hx; rfl
      rw [e] at k
      cases e2 : sh.bl with
      | false => exact if_fa rfl k
      | true =>
        refine if_tr rfl ⟨_, rfl, _, _, _, _, _, rfl, .ty "bool", ht, kit_ty k2, _, rfl, _, rfl, ?_⟩
        rw [e2]
        exact if_fa rfl k
theorem ok_Lrow_due {f fW : Addr} {fd fdW : FuncData} (F : Fun K "_law_row_due" "_law_row_due" s_Lrow_due f fd) (nis : mg "isinstance" = none) (nli : mg "list" = none) (nt : mg "tuple" = none) (nl : mg "len" = none)
    (GW : Cal P w K mg base CX0 1 "_law_whole" fW fdW ["_law_thing", "_law_low", "_law_high"] spLWhole) : FnOk P w K mg base CX0 2 f fd ["_law_many_ties", "_law_labels_here", "_law_label", "_law_row"] spRowDue := by
  refine F.ok sc_Lrow_due (fun vs H Q E h => ?_) (fun cdv A outer s H vs Q E hr h => ?_)
  · obtain ⟨m, mm, la, is, v, rv, s, sr, rfl, _⟩ := h
    rfl
  · obtain ⟨m, mm, la, is, v, rv, s, sr, rfl, hm, ela, i60, hv, hrv, kn, k⟩ := h
    have il : (is.map V.int).length = is.length := List.length_map _
    cases sr with
    | sc u =>
      refine ⟨_, (pss_cons 
  (ps_if (pt_cmpR op_ge (pe_callB call_len_seq (by rfl) nl PySem.boot_len (pa_cons (pv 1) pa_nil)) pe_int (nomark _)) (pss_one 
    (ps_ret (pe_tup (pa_cons pe_int (pa_cons pe_str pa_nil))))) pss_nil) (pss_cons 
  (ps_if (pt_not (pt_val (pcal GW hr pass0 (pa_cons (pv 2) (pa_cons pe_int (pa_cons (pe_op op_pow pe_int pe_int) pa_nil)))))) (pss_one 
    (ps_ret (pe_tup (pa_cons pe_int (pa_cons pe_str pa_nil))))) pss_nil) (pss_cons 
  (ps_set (i := 4) sc_Lrow_due.nd rfl (Or.inl rfl) (pe_callB call_len_seq (by rfl) nl PySem.boot_len (pa_cons (pe_lc (own := [("_law_guest", 6)]) (g := gName 6) (by rfl) sc_Lrow_due.nd (pi_list (pv 1)) (blkOk_by (own := [("_law_guest", 6)]) (N := ["_law_many_ties", "_law_labels_here", "_law_label", "_law_row", "_law_place", "_law_entry", "_law_guest"]) (sc := defScope s_Lrow_due) (by decide +kernel)) (fun _ _ _ _ _ => pg_name (i := 6) sc_Lrow_due.nd rfl (Or.inl rfl)) (fun _ _ _ _ _ => pts_one (pt_cmpR op_lt (pv 6) (pv 2) (nomark _))) (fun _ _ _ _ _ => (pv 6))) pa_nil))) (pss_cons 
  (ps_if (pt_cmpR op_in_seq (pv 2) (pv 1) (by rfl)) (pss_one 
    (ps_ret (pe_tup (pa_cons (pv 4) (pa_cons pe_str pa_nil))))) pss_nil) (pss_cons 
  (ps_if (pt_not (pt_val (pe_callB call_isiT (by rfl) nis (by decide +kernel) (pa_cons (pv 3) (pa_cons (pe_tup (pa_cons (pe_bltn (by rfl) nli (by decide +kernel) (v := .ty "list") rfl) (pa_cons (pe_bltn (by rfl) nt (by decide +kernel) (v := .ty "tuple") rfl) pa_nil))) pa_nil))))) (pss_one 
    (ps_ret (pe_tup (pa_cons (pv 4) (pa_cons pe_str pa_nil))))) pss_nil) (pss_cons 
  (ps_if (pt_cmpR op_ne (pe_callB call_len_seq (by rfl) nl PySem.boot_len (pa_cons (pv 3) pa_nil)) (pe_callB call_len_seq (by rfl) nl PySem.boot_len (pa_cons (pv 1) pa_nil)) (nomark _)) (pss_one 
    (ps_ret (pe_tup (pa_cons (pv 4) (pa_cons pe_str pa_nil))))) pss_nil) (pss_cons 
  (ps_for PassesOwn.never rfl (pi_list (pv 3)) (pg_name (i := 5) sc_Lrow_due.nd rfl (Or.inl rfl)) (pss_one 
    (ps_if (pt_not (pt_val (pcal GW hr pass0 (pa_cons (pv 5) (pa_cons pe_int (pa_cons (pe_op op_sub (pv 0) pe_int) pa_nil)))))) (pss_one 
      (ps_ret (pe_tup (pa_cons (pv 4) (pa_cons pe_str pa_nil))))) pss_nil))) (pss_one 
  (ps_ret pe_non))))))))), ?_⟩
      refine ⟨_, rfl, la, _, rfl, .inl (SqL.of ela), _, _, rfl, rfl, _, rfl, ?_⟩
      rw [il]
      refine ifD (fun c1 => ?_) (fun c1 => ?_)
      · refine ⟨(by show 2 ≤ sizeLine; decide), fun z hz => ?_⟩
        exact k _ _ (new_same hz) (due_mk (by unfold rowDue; rw [if_pos (by omega)]) upd_same)
      have c60 : ¬ 60 ≤ is.length := by omega
      refine ⟨_, rfl, _, _, rfl, rfl, ⟨by decide, by decide, by decide⟩, v, s, _, _, rfl, hv, _, rfl, ?_⟩
      rw [show (10 : Int) ^ Int.toNat 9 = 1000000000 from rfl]
      cases ew : wholeB v 0 1000000000 with
      | false =>
        refine iteT ⟨(by show 2 ≤ sizeLine; decide), fun z hz => ?_⟩
        exact k _ _ (new_same hz) (due_mk (by unfold rowDue; rw [if_neg c60, if_neg (by rw [ew]; exact Bool.false_ne_true)]) upd_same)
      | true =>
      refine iteF ?_
      obtain ⟨n, rfl, n0, n1⟩ := whole_int ew
      refine ⟨_, rfl, la, rfl, ⟨_, SqL.of ela⟩, fun D hD => ?_⟩
      refine lc_list (K := K) (a := la) (xs := is.map V.int) (fun i H2 => Same H H2 ∧ H D = none ∧ H2 D = some (.lst (((is.take i).filter fun y => decide (y < n)).map V.int))) ⟨new_same hD, hD, upd_same⟩ (fun i H2 _ ⟨S, _⟩ => SqL.of (S _ _ ela)) ?_ ?_
      · rintro i y H2 hy ⟨S2, D0, eD⟩
        rw [List.getElem?_map] at hy
        cases hi : is[i]? with
        | none => rw [hi] at hy; cases hy
        | some m' =>
          rw [hi] at hy
          obtain rfl : V.int m' = y := Option.some.inj hy
          have him := (List.getElem?_eq_some_iff.mp hi).1
          refine ⟨rfl, _, rfl, _, rfl, _, _, rfl, rfl, _, rfl, ?_⟩
          have ft := filter_take (n := n) hi
          refine ifD (fun c1 => ?_) (fun c1 => ?_)
          · rw [if_pos c1] at ft
            refine ⟨_, rfl, _, eD, small1000 ?_, fun b' o e' => ?_, D0, by rw [upd_same, ft, List.map_append]; rfl⟩
            · rw [List.length_map]
              have := List.length_filter_le (fun y => decide (y < n)) (is.take i)
              rw [List.length_take] at this
              omega
            · rw [upd_ne (ne_of_none e' D0)]
              exact S2 _ _ e'
          · rw [if_neg c1, List.append_nil] at ft
            exact ⟨S2, D0, by rw [ft]; exact eD⟩
      rintro H2 ⟨S2, D0, eD⟩
      rw [il, List.take_length] at eD
      refine ⟨D, _, rfl, .inl (SqL.of eD), ?_⟩
      rw [List.length_map]
      refine ⟨_, rfl, _, rfl, la, _, rfl, .inl (SqL.of (S2 _ _ ela)), rfl, ints_flat is, _, rfl, ?_⟩
      rw [inV_ints]
      refine ifD (fun c2 => ?_) (fun c2 => ?_)
      · refine ⟨_, rfl, (by show 2 ≤ sizeLine; decide), fun z hz => ?_⟩
        exact k _ _ (S2.trans (new_same hz)) (due_mk (by unfold rowDue; rw [if_neg c60, if_pos ew]; show (if n ∈ is then some (((below is n : Nat) : Int), ("label" : Str)) else _) = _; rw [if_pos c2]; rfl) upd_same)
      have due_eq : rowDue mm is (.int n) (.sc u) = (rowW mm is.length (.sc u)).map fun w => (((below is n : Nat) : Int), w) := by
        unfold rowDue
        rw [if_neg c60, if_pos ew]
        show (if n ∈ is then some (((below is n : Nat) : Int), ("label" : Str)) else _) = _
        rw [if_neg c2]
      have say : ∀ (w : Str) (z : Addr) (H' : Hp), Same H H' → rowW mm is.length (.sc u) = some w → H' z = some (.tup [.int (below is n : Nat), .str w]) → Q (.ref z) H' := fun w z H' S e ez => k _ _ S (by
        have q : rowDue mm is (.int n) (.sc u) = some (((below is n : Nat) : Int), w) := by rw [due_eq, e]; rfl
        unfold DueAt
        rw [q]
        exact ⟨z, rfl, ez⟩)
      have sayN : ∀ (H' : Hp), Same H H' → rowW mm is.length (.sc u) = none → Q .non H' := fun H' S e => k _ _ S (by
        have z : rowDue mm is (.int n) (.sc u) = none := by rw [due_eq, e]; rfl
        unfold DueAt
        rw [z])
      refine ⟨_, rfl, (by show 2 ≤ sizeLine; decide), fun p2 hp2 => ?_⟩
      obtain ⟨t2, ht2, kk⟩ := is_new (K := K) (hrv.keep S2) hp2
      refine ⟨_, _, _, _, _, _, rfl, upd_same, .cons (.ty "list") (.cons (.ty "tuple") .nil), ht2, kk, _, rfl, ?_⟩
      have S2 := S2.trans (new_same (o := .tup [.ty "list", .ty "tuple"]) hp2)
      generalize upd H2 p2 (.tup [.ty "list", .ty "tuple"]) = H2 at S2
      exact iteT ⟨_, rfl, (by show 2 ≤ sizeLine; decide), fun z hz => say "row" _ _ (S2.trans (new_same hz)) rfl upd_same⟩
    | dk =>
      refine ⟨_, (pss_cons 
  (ps_if (pt_cmpR op_ge (pe_callB call_len_seq (by rfl) nl PySem.boot_len (pa_cons (pv 1) pa_nil)) pe_int (nomark _)) (pss_one 
    (ps_ret (pe_tup (pa_cons pe_int (pa_cons pe_str pa_nil))))) pss_nil) (pss_cons 
  (ps_if (pt_not (pt_val (pcal GW hr pass0 (pa_cons (pv 2) (pa_cons pe_int (pa_cons (pe_op op_pow pe_int pe_int) pa_nil)))))) (pss_one 
    (ps_ret (pe_tup (pa_cons pe_int (pa_cons pe_str pa_nil))))) pss_nil) (pss_cons 
  (ps_set (i := 4) sc_Lrow_due.nd rfl (Or.inl rfl) (pe_callB call_len_seq (by rfl) nl PySem.boot_len (pa_cons (pe_lc (own := [("_law_guest", 6)]) (g := gName 6) (by rfl) sc_Lrow_due.nd (pi_list (pv 1)) (blkOk_by (own := [("_law_guest", 6)]) (N := ["_law_many_ties", "_law_labels_here", "_law_label", "_law_row", "_law_place", "_law_entry", "_law_guest"]) (sc := defScope s_Lrow_due) (by decide +kernel)) (fun _ _ _ _ _ => pg_name (i := 6) sc_Lrow_due.nd rfl (Or.inl rfl)) (fun _ _ _ _ _ => pts_one (pt_cmpR op_lt (pv 6) (pv 2) (nomark _))) (fun _ _ _ _ _ => (pv 6))) pa_nil))) (pss_cons 
  (ps_if (pt_cmpR op_in_seq (pv 2) (pv 1) (by rfl)) (pss_one 
    (ps_ret (pe_tup (pa_cons (pv 4) (pa_cons pe_str pa_nil))))) pss_nil) (pss_cons 
  (ps_if (pt_not (pt_val (pe_callB call_isiT (by rfl) nis (by decide +kernel) (pa_cons (pv 3) (pa_cons (pe_tup (pa_cons (pe_bltn (by rfl) nli (by decide +kernel) (v := .ty "list") rfl) (pa_cons (pe_bltn (by rfl) nt (by decide +kernel) (v := .ty "tuple") rfl) pa_nil))) pa_nil))))) (pss_one 
    (ps_ret (pe_tup (pa_cons (pv 4) (pa_cons pe_str pa_nil))))) pss_nil) (pss_cons 
  (ps_if (pt_cmpR op_ne (pe_callB call_len_seq (by rfl) nl PySem.boot_len (pa_cons (pv 3) pa_nil)) (pe_callB call_len_seq (by rfl) nl PySem.boot_len (pa_cons (pv 1) pa_nil)) (nomark _)) (pss_one 
    (ps_ret (pe_tup (pa_cons (pv 4) (pa_cons pe_str pa_nil))))) pss_nil) (pss_cons 
  (ps_for PassesOwn.never rfl (pi_list (pv 3)) (pg_name (i := 5) sc_Lrow_due.nd rfl (Or.inl rfl)) (pss_one 
    (ps_if (pt_not (pt_val (pcal GW hr pass0 (pa_cons (pv 5) (pa_cons pe_int (pa_cons (pe_op op_sub (pv 0) pe_int) pa_nil)))))) (pss_one 
      (ps_ret (pe_tup (pa_cons (pv 4) (pa_cons pe_str pa_nil))))) pss_nil))) (pss_one 
  (ps_ret pe_non))))))))), ?_⟩
      refine ⟨_, rfl, la, _, rfl, .inl (SqL.of ela), _, _, rfl, rfl, _, rfl, ?_⟩
      rw [il]
      refine ifD (fun c1 => ?_) (fun c1 => ?_)
      · refine ⟨(by show 2 ≤ sizeLine; decide), fun z hz => ?_⟩
        exact k _ _ (new_same hz) (due_mk (by unfold rowDue; rw [if_pos (by omega)]) upd_same)
      have c60 : ¬ 60 ≤ is.length := by omega
      refine ⟨_, rfl, _, _, rfl, rfl, ⟨by decide, by decide, by decide⟩, v, s, _, _, rfl, hv, _, rfl, ?_⟩
      rw [show (10 : Int) ^ Int.toNat 9 = 1000000000 from rfl]
      cases ew : wholeB v 0 1000000000 with
      | false =>
        refine iteT ⟨(by show 2 ≤ sizeLine; decide), fun z hz => ?_⟩
        exact k _ _ (new_same hz) (due_mk (by unfold rowDue; rw [if_neg c60, if_neg (by rw [ew]; exact Bool.false_ne_true)]) upd_same)
      | true =>
      refine iteF ?_
      obtain ⟨n, rfl, n0, n1⟩ := whole_int ew
      refine ⟨_, rfl, la, rfl, ⟨_, SqL.of ela⟩, fun D hD => ?_⟩
      refine lc_list (K := K) (a := la) (xs := is.map V.int) (fun i H2 => Same H H2 ∧ H D = none ∧ H2 D = some (.lst (((is.take i).filter fun y => decide (y < n)).map V.int))) ⟨new_same hD, hD, upd_same⟩ (fun i H2 _ ⟨S, _⟩ => SqL.of (S _ _ ela)) ?_ ?_
      · rintro i y H2 hy ⟨S2, D0, eD⟩
        rw [List.getElem?_map] at hy
        cases hi : is[i]? with
        | none => rw [hi] at hy; cases hy
        | some m' =>
          rw [hi] at hy
          obtain rfl : V.int m' = y := Option.some.inj hy
          have him := (List.getElem?_eq_some_iff.mp hi).1
          refine ⟨rfl, _, rfl, _, rfl, _, _, rfl, rfl, _, rfl, ?_⟩
          have ft := filter_take (n := n) hi
          refine ifD (fun c1 => ?_) (fun c1 => ?_)
          · rw [if_pos c1] at ft
            refine ⟨_, rfl, _, eD, small1000 ?_, fun b' o e' => ?_, D0, by rw [upd_same, ft, List.map_append]; rfl⟩
            · rw [List.length_map]
              have := List.length_filter_le (fun y => decide (y < n)) (is.take i)
              rw [List.length_take] at this
              omega
            · rw [upd_ne (ne_of_none e' D0)]
              exact S2 _ _ e'
          · rw [if_neg c1, List.append_nil] at ft
            exact ⟨S2, D0, by rw [ft]; exact eD⟩
      rintro H2 ⟨S2, D0, eD⟩
      rw [il, List.take_length] at eD
      refine ⟨D, _, rfl, .inl (SqL.of eD), ?_⟩
      rw [List.length_map]
      refine ⟨_, rfl, _, rfl, la, _, rfl, .inl (SqL.of (S2 _ _ ela)), rfl, ints_flat is, _, rfl, ?_⟩
      rw [inV_ints]
      refine ifD (fun c2 => ?_) (fun c2 => ?_)
      · refine ⟨_, rfl, (by show 2 ≤ sizeLine; decide), fun z hz => ?_⟩
        exact k _ _ (S2.trans (new_same hz)) (due_mk (by unfold rowDue; rw [if_neg c60, if_pos ew]; show (if n ∈ is then some (((below is n : Nat) : Int), ("label" : Str)) else _) = _; rw [if_pos c2]; rfl) upd_same)
      have due_eq : rowDue mm is (.int n) .dk = (rowW mm is.length .dk).map fun w => (((below is n : Nat) : Int), w) := by
        unfold rowDue
        rw [if_neg c60, if_pos ew]
        show (if n ∈ is then some (((below is n : Nat) : Int), ("label" : Str)) else _) = _
        rw [if_neg c2]
      have say : ∀ (w : Str) (z : Addr) (H' : Hp), Same H H' → rowW mm is.length .dk = some w → H' z = some (.tup [.int (below is n : Nat), .str w]) → Q (.ref z) H' := fun w z H' S e ez => k _ _ S (by
        have q : rowDue mm is (.int n) .dk = some (((below is n : Nat) : Int), w) := by rw [due_eq, e]; rfl
        unfold DueAt
        rw [q]
        exact ⟨z, rfl, ez⟩)
      have sayN : ∀ (H' : Hp), Same H H' → rowW mm is.length .dk = none → Q .non H' := fun H' S e => k _ _ S (by
        have z : rowDue mm is (.int n) .dk = none := by rw [due_eq, e]; rfl
        unfold DueAt
        rw [z])
      refine ⟨_, rfl, (by show 2 ≤ sizeLine; decide), fun p2 hp2 => ?_⟩
      obtain ⟨t2, ht2, kk⟩ := is_new (K := K) (hrv.keep S2) hp2
      refine ⟨_, _, _, _, _, _, rfl, upd_same, .cons (.ty "list") (.cons (.ty "tuple") .nil), ht2, kk, _, rfl, ?_⟩
      have S2 := S2.trans (new_same (o := .tup [.ty "list", .ty "tuple"]) hp2)
      generalize upd H2 p2 (.tup [.ty "list", .ty "tuple"]) = H2 at S2
      exact iteT ⟨_, rfl, (by show 2 ≤ sizeLine; decide), fun z hz => say "row" _ _ (S2.trans (new_same hz)) rfl upd_same⟩
    | lst xs =>
      refine ⟨_, (pss_cons 
  (ps_if (pt_cmpR op_ge (pe_callB call_len_seq (by rfl) nl PySem.boot_len (pa_cons (pv 1) pa_nil)) pe_int (nomark _)) (pss_one 
    (ps_ret (pe_tup (pa_cons pe_int (pa_cons pe_str pa_nil))))) pss_nil) (pss_cons 
  (ps_if (pt_not (pt_val (pcal GW hr pass0 (pa_cons (pv 2) (pa_cons pe_int (pa_cons (pe_op op_pow pe_int pe_int) pa_nil)))))) (pss_one 
    (ps_ret (pe_tup (pa_cons pe_int (pa_cons pe_str pa_nil))))) pss_nil) (pss_cons 
  (ps_set (i := 4) sc_Lrow_due.nd rfl (Or.inl rfl) (pe_callB call_len_seq (by rfl) nl PySem.boot_len (pa_cons (pe_lc (own := [("_law_guest", 6)]) (g := gName 6) (by rfl) sc_Lrow_due.nd (pi_list (pv 1)) (blkOk_by (own := [("_law_guest", 6)]) (N := ["_law_many_ties", "_law_labels_here", "_law_label", "_law_row", "_law_place", "_law_entry", "_law_guest"]) (sc := defScope s_Lrow_due) (by decide +kernel)) (fun _ _ _ _ _ => pg_name (i := 6) sc_Lrow_due.nd rfl (Or.inl rfl)) (fun _ _ _ _ _ => pts_one (pt_cmpR op_lt (pv 6) (pv 2) (nomark _))) (fun _ _ _ _ _ => (pv 6))) pa_nil))) (pss_cons 
  (ps_if (pt_cmpR op_in_seq (pv 2) (pv 1) (by rfl)) (pss_one 
    (ps_ret (pe_tup (pa_cons (pv 4) (pa_cons pe_str pa_nil))))) pss_nil) (pss_cons 
  (ps_if (pt_not (pt_val (pe_callB call_isiT (by rfl) nis (by decide +kernel) (pa_cons (pv 3) (pa_cons (pe_tup (pa_cons (pe_bltn (by rfl) nli (by decide +kernel) (v := .ty "list") rfl) (pa_cons (pe_bltn (by rfl) nt (by decide +kernel) (v := .ty "tuple") rfl) pa_nil))) pa_nil))))) (pss_one 
    (ps_ret (pe_tup (pa_cons (pv 4) (pa_cons pe_str pa_nil))))) pss_nil) (pss_cons 
  (ps_if (pt_cmpR op_ne (pe_callB call_len_seq (by rfl) nl PySem.boot_len (pa_cons (pv 3) pa_nil)) (pe_callB call_len_seq (by rfl) nl PySem.boot_len (pa_cons (pv 1) pa_nil)) (nomark _)) (pss_one 
    (ps_ret (pe_tup (pa_cons (pv 4) (pa_cons pe_str pa_nil))))) pss_nil) (pss_cons 
  (ps_for PassesOwn.never rfl (pi_list (pv 3)) (pg_name (i := 5) sc_Lrow_due.nd rfl (Or.inl rfl)) (pss_one 
    (ps_if (pt_not (pt_val (pcal GW hr pass0 (pa_cons (pv 5) (pa_cons pe_int (pa_cons (pe_op op_sub (pv 0) pe_int) pa_nil)))))) (pss_one 
      (ps_ret (pe_tup (pa_cons (pv 4) (pa_cons pe_str pa_nil))))) pss_nil))) (pss_one 
  (ps_ret pe_non))))))))), ?_⟩
      refine ⟨_, rfl, la, _, rfl, .inl (SqL.of ela), _, _, rfl, rfl, _, rfl, ?_⟩
      rw [il]
      refine ifD (fun c1 => ?_) (fun c1 => ?_)
      · refine ⟨(by show 2 ≤ sizeLine; decide), fun z hz => ?_⟩
        exact k _ _ (new_same hz) (due_mk (by unfold rowDue; rw [if_pos (by omega)]) upd_same)
      have c60 : ¬ 60 ≤ is.length := by omega
      refine ⟨_, rfl, _, _, rfl, rfl, ⟨by decide, by decide, by decide⟩, v, s, _, _, rfl, hv, _, rfl, ?_⟩
      rw [show (10 : Int) ^ Int.toNat 9 = 1000000000 from rfl]
      cases ew : wholeB v 0 1000000000 with
      | false =>
        refine iteT ⟨(by show 2 ≤ sizeLine; decide), fun z hz => ?_⟩
        exact k _ _ (new_same hz) (due_mk (by unfold rowDue; rw [if_neg c60, if_neg (by rw [ew]; exact Bool.false_ne_true)]) upd_same)
      | true =>
      refine iteF ?_
      obtain ⟨n, rfl, n0, n1⟩ := whole_int ew
      refine ⟨_, rfl, la, rfl, ⟨_, SqL.of ela⟩, fun D hD => ?_⟩
      refine lc_list (K := K) (a := la) (xs := is.map V.int) (fun i H2 => Same H H2 ∧ H D = none ∧ H2 D = some (.lst (((is.take i).filter fun y => decide (y < n)).map V.int))) ⟨new_same hD, hD, upd_same⟩ (fun i H2 _ ⟨S, _⟩ => SqL.of (S _ _ ela)) ?_ ?_
      · rintro i y H2 hy ⟨S2, D0, eD⟩
        rw [List.getElem?_map] at hy
        cases hi : is[i]? with
        | none => rw [hi] at hy; cases hy
        | some m' =>
          rw [hi] at hy
          obtain rfl : V.int m' = y := Option.some.inj hy
          have him := (List.getElem?_eq_some_iff.mp hi).1
          refine ⟨rfl, _, rfl, _, rfl, _, _, rfl, rfl, _, rfl, ?_⟩
          have ft := filter_take (n := n) hi
          refine ifD (fun c1 => ?_) (fun c1 => ?_)
          · rw [if_pos c1] at ft
            refine ⟨_, rfl, _, eD, small1000 ?_, fun b' o e' => ?_, D0, by rw [upd_same, ft, List.map_append]; rfl⟩
            · rw [List.length_map]
              have := List.length_filter_le (fun y => decide (y < n)) (is.take i)
              rw [List.length_take] at this
              omega
            · rw [upd_ne (ne_of_none e' D0)]
              exact S2 _ _ e'
          · rw [if_neg c1, List.append_nil] at ft
            exact ⟨S2, D0, by rw [ft]; exact eD⟩
      rintro H2 ⟨S2, D0, eD⟩
      rw [il, List.take_length] at eD
      refine ⟨D, _, rfl, .inl (SqL.of eD), ?_⟩
      rw [List.length_map]
      refine ⟨_, rfl, _, rfl, la, _, rfl, .inl (SqL.of (S2 _ _ ela)), rfl, ints_flat is, _, rfl, ?_⟩
      rw [inV_ints]
      refine ifD (fun c2 => ?_) (fun c2 => ?_)
      · refine ⟨_, rfl, (by show 2 ≤ sizeLine; decide), fun z hz => ?_⟩
        exact k _ _ (S2.trans (new_same hz)) (due_mk (by unfold rowDue; rw [if_neg c60, if_pos ew]; show (if n ∈ is then some (((below is n : Nat) : Int), ("label" : Str)) else _) = _; rw [if_pos c2]; rfl) upd_same)
      have due_eq : rowDue mm is (.int n) (.lst xs) = (rowW mm is.length (.lst xs)).map fun w => (((below is n : Nat) : Int), w) := by
        unfold rowDue
        rw [if_neg c60, if_pos ew]
        show (if n ∈ is then some (((below is n : Nat) : Int), ("label" : Str)) else _) = _
        rw [if_neg c2]
      have say : ∀ (w : Str) (z : Addr) (H' : Hp), Same H H' → rowW mm is.length (.lst xs) = some w → H' z = some (.tup [.int (below is n : Nat), .str w]) → Q (.ref z) H' := fun w z H' S e ez => k _ _ S (by
        have q : rowDue mm is (.int n) (.lst xs) = some (((below is n : Nat) : Int), w) := by rw [due_eq, e]; rfl
        unfold DueAt
        rw [q]
        exact ⟨z, rfl, ez⟩)
      have sayN : ∀ (H' : Hp), Same H H' → rowW mm is.length (.lst xs) = none → Q .non H' := fun H' S e => k _ _ S (by
        have z : rowDue mm is (.int n) (.lst xs) = none := by rw [due_eq, e]; rfl
        unfold DueAt
        rw [z])
      refine ⟨_, rfl, (by show 2 ≤ sizeLine; decide), fun p2 hp2 => ?_⟩
      obtain ⟨t2, ht2, kk⟩ := is_new (K := K) (hrv.keep S2) hp2
      refine ⟨_, _, _, _, _, _, rfl, upd_same, .cons (.ty "list") (.cons (.ty "tuple") .nil), ht2, kk, _, rfl, ?_⟩
      have S2 := S2.trans (new_same (o := .tup [.ty "list", .ty "tuple"]) hp2)
      generalize upd H2 p2 (.tup [.ty "list", .ty "tuple"]) = H2 at S2
      obtain ⟨p, rfl, hp⟩ := hrv
      have hp1 := S2 _ _ hp
      have sq : ((Sh.lst xs).isL || (Sh.lst xs).isT) = true := rfl
      refine iteF ?_
      refine ⟨_, rfl, p, xs, rfl, .inl (SqL.of hp1), _, rfl, la, _, rfl, .inl (SqL.of (S2 _ _ ela)), rfl, _, rfl, ?_⟩
      rw [il]
      by_cases cl : xs.length = is.length
      case neg => exact if_tr (by simp; omega) ⟨_, rfl, (by show 2 ≤ sizeLine; decide), fun z hz => say "length" _ _ (S2.trans (new_same hz)) (rowW_length sq cl) upd_same⟩
      refine if_fa (by simp [cl]) ?_
      refine ⟨_, rfl, p, rfl, ⟨_, SqL.of hp1⟩, for_list (K := K) (a := p) (xs := xs) (fun i σ H' => ∃ v5 : Option V, σ = [some (.int m), some (.ref la), some (.int n), some (.ref p), some (.int (below is n : Nat)), v5, none] ∧ H' = H2 ∧ ∀ j x, j < i → xs[j]? = some x → wholeB x 0 (m - 1) = true)
        ⟨none, rfl, rfl, fun j x hj => absurd hj (Nat.not_lt_zero j)⟩ (fun i σ H' _ ⟨_, _, e, _⟩ => by rw [e]; exact SqL.of hp1) ?_ ?_⟩
      · rintro i y σ H' hy ⟨v5, rfl, rfl, hb⟩
        have hym := List.mem_of_getElem? hy
        obtain ⟨sy, isy⟩ := kn y hym
        refine ⟨_, rfl, _, rfl, _, _, rfl, rfl, y, sy, _, _, rfl, isy.keep S2, _, rfl, ?_⟩
        cases e : wholeB y 0 (m - 1) with
        | true =>
          refine iteF ⟨_, rfl, rfl, fun j z hj hz => ?_⟩
          rcases Nat.lt_or_ge j i with hji | hji
          · exact hb j z hji hz
          · obtain rfl : j = i := by omega
            rw [hy] at hz
            rw [← Option.some.inj hz]
            exact e
        | false => exact iteT ⟨_, rfl, (by show 2 ≤ sizeLine; decide), fun z hz => say "tie" _ _ (S2.trans (new_same hz)) (rowW_tie sq cl hym (by rw [← hm]; exact e)) upd_same⟩
      · rintro σ H' ⟨v5, rfl, rfl, hb⟩
        refine sayN _ S2 (rowW_none sq cl fun x hx => ?_)
        obtain ⟨j, hj⟩ := List.getElem?_of_mem hx
        rw [← hm]
        exact hb j x (List.getElem?_eq_some_iff.mp hj).1 hj
    | tup xs =>
      refine ⟨_, (pss_cons 
  (ps_if (pt_cmpR op_ge (pe_callB call_len_seq (by rfl) nl PySem.boot_len (pa_cons (pv 1) pa_nil)) pe_int (nomark _)) (pss_one 
    (ps_ret (pe_tup (pa_cons pe_int (pa_cons pe_str pa_nil))))) pss_nil) (pss_cons 
  (ps_if (pt_not (pt_val (pcal GW hr pass0 (pa_cons (pv 2) (pa_cons pe_int (pa_cons (pe_op op_pow pe_int pe_int) pa_nil)))))) (pss_one 
    (ps_ret (pe_tup (pa_cons pe_int (pa_cons pe_str pa_nil))))) pss_nil) (pss_cons 
  (ps_set (i := 4) sc_Lrow_due.nd rfl (Or.inl rfl) (pe_callB call_len_seq (by rfl) nl PySem.boot_len (pa_cons (pe_lc (own := [("_law_guest", 6)]) (g := gName 6) (by rfl) sc_Lrow_due.nd (pi_list (pv 1)) (blkOk_by (own := [("_law_guest", 6)]) (N := ["_law_many_ties", "_law_labels_here", "_law_label", "_law_row", "_law_place", "_law_entry", "_law_guest"]) (sc := defScope s_Lrow_due) (by decide +kernel)) (fun _ _ _ _ _ => pg_name (i := 6) sc_Lrow_due.nd rfl (Or.inl rfl)) (fun _ _ _ _ _ => pts_one (pt_cmpR op_lt (pv 6) (pv 2) (nomark _))) (fun _ _ _ _ _ => (pv 6))) pa_nil))) (pss_cons 
  (ps_if (pt_cmpR op_in_seq (pv 2) (pv 1) (by rfl)) (pss_one 
    (ps_ret (pe_tup (pa_cons (pv 4) (pa_cons pe_str pa_nil))))) pss_nil) (pss_cons 
  (ps_if (pt_not (pt_val (pe_callB call_isiT (by rfl) nis (by decide +kernel) (pa_cons (pv 3) (pa_cons (pe_tup (pa_cons (pe_bltn (by rfl) nli (by decide +kernel) (v := .ty "list") rfl) (pa_cons (pe_bltn (by rfl) nt (by decide +kernel) (v := .ty "tuple") rfl) pa_nil))) pa_nil))))) (pss_one 
    (ps_ret (pe_tup (pa_cons (pv 4) (pa_cons pe_str pa_nil))))) pss_nil) (pss_cons 
  (ps_if (pt_cmpR op_ne (pe_callB call_len_seq (by rfl) nl PySem.boot_len (pa_cons (pv 3) pa_nil)) (pe_callB call_len_seq (by rfl) nl PySem.boot_len (pa_cons (pv 1) pa_nil)) (nomark _)) (pss_one 
    (ps_ret (pe_tup (pa_cons (pv 4) (pa_cons pe_str pa_nil))))) pss_nil) (pss_cons 
  (ps_for PassesOwn.never rfl (pi_tup (pv 3)) (pg_name (i := 5) sc_Lrow_due.nd rfl (Or.inl rfl)) (pss_one 
    (ps_if (pt_not (pt_val (pcal GW hr pass0 (pa_cons (pv 5) (pa_cons pe_int (pa_cons (pe_op op_sub (pv 0) pe_int) pa_nil)))))) (pss_one 
      (ps_ret (pe_tup (pa_cons (pv 4) (pa_cons pe_str pa_nil))))) pss_nil))) (pss_one 
  (ps_ret pe_non))))))))), ?_⟩
      refine ⟨_, rfl, la, _, rfl, .inl (SqL.of ela), _, _, rfl, rfl, _, rfl, ?_⟩
      rw [il]
      refine ifD (fun c1 => ?_) (fun c1 => ?_)
      · refine ⟨(by show 2 ≤ sizeLine; decide), fun z hz => ?_⟩
        exact k _ _ (new_same hz) (due_mk (by unfold rowDue; rw [if_pos (by omega)]) upd_same)
      have c60 : ¬ 60 ≤ is.length := by omega
      refine ⟨_, rfl, _, _, rfl, rfl, ⟨by decide, by decide, by decide⟩, v, s, _, _, rfl, hv, _, rfl, ?_⟩
      rw [show (10 : Int) ^ Int.toNat 9 = 1000000000 from rfl]
      cases ew : wholeB v 0 1000000000 with
      | false =>
        refine iteT ⟨(by show 2 ≤ sizeLine; decide), fun z hz => ?_⟩
        exact k _ _ (new_same hz) (due_mk (by unfold rowDue; rw [if_neg c60, if_neg (by rw [ew]; exact Bool.false_ne_true)]) upd_same)
      | true =>
      refine iteF ?_
      obtain ⟨n, rfl, n0, n1⟩ := whole_int ew
      refine ⟨_, rfl, la, rfl, ⟨_, SqL.of ela⟩, fun D hD => ?_⟩
      refine lc_list (K := K) (a := la) (xs := is.map V.int) (fun i H2 => Same H H2 ∧ H D = none ∧ H2 D = some (.lst (((is.take i).filter fun y => decide (y < n)).map V.int))) ⟨new_same hD, hD, upd_same⟩ (fun i H2 _ ⟨S, _⟩ => SqL.of (S _ _ ela)) ?_ ?_
      · rintro i y H2 hy ⟨S2, D0, eD⟩
        rw [List.getElem?_map] at hy
        cases hi : is[i]? with
        | none => rw [hi] at hy; cases hy
        | some m' =>
          rw [hi] at hy
          obtain rfl : V.int m' = y := Option.some.inj hy
          have him := (List.getElem?_eq_some_iff.mp hi).1
          refine ⟨rfl, _, rfl, _, rfl, _, _, rfl, rfl, _, rfl, ?_⟩
          have ft := filter_take (n := n) hi
          refine ifD (fun c1 => ?_) (fun c1 => ?_)
          · rw [if_pos c1] at ft
            refine ⟨_, rfl, _, eD, small1000 ?_, fun b' o e' => ?_, D0, by rw [upd_same, ft, List.map_append]; rfl⟩
            · rw [List.length_map]
              have := List.length_filter_le (fun y => decide (y < n)) (is.take i)
              rw [List.length_take] at this
              omega
            · rw [upd_ne (ne_of_none e' D0)]
              exact S2 _ _ e'
          · rw [if_neg c1, List.append_nil] at ft
            exact ⟨S2, D0, by rw [ft]; exact eD⟩
      rintro H2 ⟨S2, D0, eD⟩
      rw [il, List.take_length] at eD
      refine ⟨D, _, rfl, .inl (SqL.of eD), ?_⟩
      rw [List.length_map]
      refine ⟨_, rfl, _, rfl, la, _, rfl, .inl (SqL.of (S2 _ _ ela)), rfl, ints_flat is, _, rfl, ?_⟩
      rw [inV_ints]
      refine ifD (fun c2 => ?_) (fun c2 => ?_)
      · refine ⟨_, rfl, (by show 2 ≤ sizeLine; decide), fun z hz => ?_⟩
        exact k _ _ (S2.trans (new_same hz)) (due_mk (by unfold rowDue; rw [if_neg c60, if_pos ew]; show (if n ∈ is then some (((below is n : Nat) : Int), ("label" : Str)) else _) = _; rw [if_pos c2]; rfl) upd_same)
      have due_eq : rowDue mm is (.int n) (.tup xs) = (rowW mm is.length (.tup xs)).map fun w => (((below is n : Nat) : Int), w) := by
        unfold rowDue
        rw [if_neg c60, if_pos ew]
        show (if n ∈ is then some (((below is n : Nat) : Int), ("label" : Str)) else _) = _
        rw [if_neg c2]
      have say : ∀ (w : Str) (z : Addr) (H' : Hp), Same H H' → rowW mm is.length (.tup xs) = some w → H' z = some (.tup [.int (below is n : Nat), .str w]) → Q (.ref z) H' := fun w z H' S e ez => k _ _ S (by
        have q : rowDue mm is (.int n) (.tup xs) = some (((below is n : Nat) : Int), w) := by rw [due_eq, e]; rfl
        unfold DueAt
        rw [q]
        exact ⟨z, rfl, ez⟩)
      have sayN : ∀ (H' : Hp), Same H H' → rowW mm is.length (.tup xs) = none → Q .non H' := fun H' S e => k _ _ S (by
        have z : rowDue mm is (.int n) (.tup xs) = none := by rw [due_eq, e]; rfl
        unfold DueAt
        rw [z])
      refine ⟨_, rfl, (by show 2 ≤ sizeLine; decide), fun p2 hp2 => ?_⟩
      obtain ⟨t2, ht2, kk⟩ := is_new (K := K) (hrv.keep S2) hp2
      refine ⟨_, _, _, _, _, _, rfl, upd_same, .cons (.ty "list") (.cons (.ty "tuple") .nil), ht2, kk, _, rfl, ?_⟩
      have S2 := S2.trans (new_same (o := .tup [.ty "list", .ty "tuple"]) hp2)
      generalize upd H2 p2 (.tup [.ty "list", .ty "tuple"]) = H2 at S2
      obtain ⟨p, rfl, hp⟩ := hrv
      have hp1 := S2 _ _ hp
      have sq : ((Sh.tup xs).isL || (Sh.tup xs).isT) = true := rfl
      refine iteF ?_
      refine ⟨_, rfl, p, xs, rfl, .inr (SqT.of hp1), _, rfl, la, _, rfl, .inl (SqL.of (S2 _ _ ela)), rfl, _, rfl, ?_⟩
      rw [il]
      by_cases cl : xs.length = is.length
      case neg => exact if_tr (by simp; omega) ⟨_, rfl, (by show 2 ≤ sizeLine; decide), fun z hz => say "length" _ _ (S2.trans (new_same hz)) (rowW_length sq cl) upd_same⟩
      refine if_fa (by simp [cl]) ?_
      refine ⟨_, rfl, p, rfl, ⟨_, SqT.of hp1⟩, for_tup (K := K) (a := p) (xs := xs) (fun i σ H' => ∃ v5 : Option V, σ = [some (.int m), some (.ref la), some (.int n), some (.ref p), some (.int (below is n : Nat)), v5, none] ∧ H' = H2 ∧ ∀ j x, j < i → xs[j]? = some x → wholeB x 0 (m - 1) = true)
        ⟨none, rfl, rfl, fun j x hj => absurd hj (Nat.not_lt_zero j)⟩ (fun i σ H' _ ⟨_, _, e, _⟩ => by rw [e]; exact SqT.of hp1) ?_ ?_⟩
      · rintro i y σ H' hy ⟨v5, rfl, rfl, hb⟩
        have hym := List.mem_of_getElem? hy
        obtain ⟨sy, isy⟩ := kn y hym
        refine ⟨_, rfl, _, rfl, _, _, rfl, rfl, y, sy, _, _, rfl, isy.keep S2, _, rfl, ?_⟩
        cases e : wholeB y 0 (m - 1) with
        | true =>
          refine iteF ⟨_, rfl, rfl, fun j z hj hz => ?_⟩
          rcases Nat.lt_or_ge j i with hji | hji
          · exact hb j z hji hz
          · obtain rfl : j = i := by omega
            rw [hy] at hz
            rw [← Option.some.inj hz]
            exact e
        | false => exact iteT ⟨_, rfl, (by show 2 ≤ sizeLine; decide), fun z hz => say "tie" _ _ (S2.trans (new_same hz)) (rowW_tie sq cl hym (by rw [← hm]; exact e)) upd_same⟩
      · rintro σ H' ⟨v5, rfl, rfl, hb⟩
        refine sayN _ S2 (rowW_none sq cl fun x hx => ?_)
        obtain ⟨j, hj⟩ := List.getElem?_of_mem hx
        rw [← hm]
        exact hb j x (List.getElem?_eq_some_iff.mp hj).1 hj
end
end J

set_option Elab.async false
set_option linter.all false
set_option maxRecDepth 100000
set_option maxHeartbeats 8000000
namespace J
open PySem PySem.Spec PyProof.Rows L2
abbrev s_Lrow_asked : Stmt := top 33
theorem sc_Lrow_asked : FnScope ["_law_company", "_law_label", "_law_row", "_law_bigger", "e"] ["_law_company", "_law_label", "_law_row"] (defScope s_Lrow_asked) := ⟨rfl, rfl, rfl, by decide +kernel, rfl, by decide +kernel, by decide +kernel⟩
theorem row_seq {m k : Nat} {s : Sh} (h : rowW m k s = none) : (s.isL || s.isT) = true := by
  unfold rowW at h
  split at h
  · rename_i q
    exact q
  · cases h
theorem lk_index {u v : V} : List.lookup ("index" : Str) ([("what", u), ("index", v)] : List (Str × V)) = some v := by
  have e : (("index" : Str) == ("what" : Str)) = false := by decide +kernel
  simp [List.lookup, e]
theorem lk_what {u v : V} : List.lookup ("what" : Str) ([("what", u), ("index", v)] : List (Str × V)) = some u := by simp [List.lookup]
theorem insL_seat {is : List Int} {n : Int} (a : Asc is) (h : ∀ y ∈ is, y ≠ n) : seat (insL is n) (.int n) = some (below is n) := by
  refine seat_at (insL_asc a h) ?_
  have b := below_le (is := is) (n := n)
  unfold insL
  rw [List.append_assoc, List.getElem?_append_right (by rw [List.length_take]; omega), List.length_take, show below is n - min (below is n) is.length = 0 by omega]
  rfl
/-- the newcomer's row is told back -/
theorem withR_told {ns us : List Int} {tss : List (List Int)} {p b : Nat} {u : Int} (g : GoodB ns) (hp : p ≤ tss.length) (R : Rows ns.length tss) (hu : us.length = tss.length) (eb : us[b]? = some u) (ur : 0 ≤ u ∧ u < (ns.length : Nat)) : cell ns (withR ns us tss p) p (if b < p then b else b + 1) = .int u := by
  have hb : b < us.length := (List.getElem?_eq_some_iff.mp eb).1
  have wl : (withR ns us tss p).length = tss.length + 1 := by
    unfold withR
    rw [withK_len hp]
    omega
  by_cases c : b < p
  · rw [if_pos c]
    have e : (withR ns us tss p)[p]? = some (us.take p) := by
      unfold withR withK
      rw [List.append_assoc, List.getElem?_append_right (by rw [List.length_take]; omega), List.length_take, show p - min p tss.length = 0 by omega]
      rfl
    unfold cell
    rw [if_pos c, e]
    show (match (us.take p)[b]? with | some t => V.int t | none => .non) = _
    rw [List.getElem?_take_of_lt c, eb]
  · rw [if_neg c]
    have bt : b < tss.length := by omega
    have e : (withR ns us tss p)[b + 1]? = some (laterR ns us tss p b) := by
      unfold withR withK
      have l : [us.take p].length = 1 := rfl
      rw [List.getElem?_append_right (by rw [List.length_append, List.length_take]; omega), List.length_append, List.length_take, List.getElem?_map, List.getElem?_range (by omega)]
      show some (laterR ns us tss p _) = _
      rw [show p + (b + 1 - (min p tss.length + [us.take p].length)) = b by omega]
    have et := List.getElem?_eq_getElem bt
    obtain ⟨r1, _⟩ := R _ _ et
    have en := List.getElem?_eq_getElem (l := ns) (i := u.toNat) (by omega)
    have e2 : (laterR ns us tss p b)[p]? = some ((ns[u.toNat]?).getD 0) := by
      unfold laterR
      rw [et, eb]
      show ((tss[b]).take p ++ [(ns[u.toNat]?).getD 0] ++ (tss[b]).drop p)[p]? = _
      rw [List.append_assoc, List.getElem?_append_right (by rw [List.length_take]; omega), List.length_take, show p - min p tss[b].length = 0 by omega]
      rfl
    unfold cell
    rw [if_neg (by omega), if_pos (by omega), e]
    show (match (laterR ns us tss p b)[p]? with | some t => V.int (ns[t.toNat]?.getD 0) | none => .non) = _
    rw [e2]
    show V.int (ns[((ns[u.toNat]?).getD 0).toNat]?.getD 0) = _
    rw [en]
    show V.int (ns[(ns[u.toNat]'(by omega)).toNat]?.getD 0) = _
    rw [g.inv _ _ en]
    show V.int ((u.toNat : Nat) : Int) = _
    rw [Int.toNat_of_nonneg ur.1]
def spAsked (C CC : Addr) : Sp := fun vs H Q _ => ∃ (x : Addr) (ns is : List Int) (tss : List (List Int)) (v rv : V) (s sr : Sh), vs = [.ref x, v, rv] ∧ CompAt C CC H x ns is tss ∧ GoodB ns ∧ Is H v s ∧ Is H rv sr ∧ Known H (items sr) ∧ ∀ (H' : Hp) (z : V), Same H H' → DueAt H' z (rowDue ns.length is v sr) → Q z H'
section
variable {P : Program} {w : World} {K : PySem.W.Frag} {mg : Str → Option Value} {base : Heap}
theorem ok_Lrow_asked {f C CC CB CN fW fC fR fX : Addr} {fd fdW fdC fdR fdX : FuncData} (F : Fun K "_law_row_asked" "_law_row_asked" s_Lrow_asked f fd) (c : CoC K CC) (nli : mg "list" = none)
    (GW : Mt P w K mg base (L2.CX P w) 7 CC "with_row" fW fdW ["self", "label", "row"] (spWR C CC CB)) (FC : FnOk P w K mg base CX0 3 fC fdC ["self", "label"] (spCIn C CC)) (aC : PySem.W.findIn K (.ref CC) "__contains__" = some (some (.ref fC))) (iC : PySem.W.isFn K (.ref fC) = true) (bC : Binds K fdC ["self", "label"] [])
    (GR : Mt P w K mg base (L2.CX P w) 5 CC "row_of" fR fdR ["self", "label"] (spCRow C CC CN)) (GX : Ex2 P w K mg base "BadCompany" "index" "what" CB fX fdX ["self", "index", "what"]) : FnOk P w K mg base CX0 8 f fd ["_law_company", "_law_label", "_law_row"] (spAsked C CC) := by
  refine F.ok sc_Lrow_asked (fun vs H Q E h => ?_) (fun cdv A outer s H vs Q E hr h => ?_)
  · obtain ⟨x, ns, is, tss, v, rv, s, sr, rfl, _⟩ := h
    rfl
  · obtain ⟨x, ns, is, tss, v, rv, s, sr, rfl, hC, gb, hv, hrv, kn, k⟩ := h
    obtain ⟨dx, t, g, r, b, p, ps, kvs, a1, a2, a3, a4, a5, a6, a7, a8, a9, a10, a11⟩ := id hC
    refine ⟨_, (pss_cons 
  (ps_try_as (i := 4) (Wout := fun _ _ _ _ => False) rfl rfl sc_Lrow_asked.nd rfl rfl ⟨rfl, by decide, Or.inl GX.m⟩ takes0 (fun W pn xe tk _ => (pss_one 
    (ps_set (i := 3) sc_Lrow_asked.nd rfl (Or.inl rfl) (by exact (pmetS (pv 0) c.cl GW.M GW.F hr GW.b (fun σ => passAt tk σ) (by exact (pa_cons (pv 1) (pa_cons (pv 2) pa_nil)))))))) (fun a oe cls d pn hz hf => (pss_one 
    (ps_ret (pe_tup (pa_cons (pe_xf GX.xf GX.no1 hz hf (pv 4)) (pa_cons (pe_xf GX.xf GX.no2 hz hf (pv 4)) pa_nil))))))) (pss_cons 
  (ps_if (PW.pt (pw_or (pt_cmpR (op_niOwn FC aC iC bC pass0 (hr.mono (by decide))) (pv 1) (pv 3) (by rfl)) (pw_or1 (pt_cmpR (op_neD hr.units) (pe_callTy (T := "list") (r := fun xs H Q => ∃ p ys, xs = [.ref p] ∧ (SqL K H p ys ∨ SqT K H p ys) ∧ ∀ l, H l = none → Q (.ref l) (upd H l (.lst ys))) call_list_of (by rfl) nli (by decide +kernel) (pa_cons (pe_meth (pv 3) c.cl GR.M GR.F (hr.mono (by decide)) GR.b .nil passL (pa_cons (pv 1) pa_nil)) pa_nil)) (pe_callTy (T := "list") (r := fun xs H Q => ∃ p ys, xs = [.ref p] ∧ (SqL K H p ys ∨ SqT K H p ys) ∧ ∀ l, H l = none → Q (.ref l) (upd H l (.lst ys))) call_list_of (by rfl) nli (by decide +kernel) (pa_cons (pv 2) pa_nil)) (nomark _))))) (pss_one 
    (ps_ret (pe_tup (pa_cons (pe_un un_neg pe_int) (pa_cons pe_str pa_nil))))) pss_nil) (pss_one 
  (ps_ret pe_non)))), ?_⟩
    refine ⟨_, rfl, x, dx, _, rfl, a1, cf_no _ _ _ _ _ (by decide +kernel) (by decide +kernel) (by decide +kernel) (by decide +kernel) (by decide +kernel), _, rfl, _, rfl, x, ns, is, tss, v, rv, s, sr, rfl, hC, gb, hv, hrv, kn, fun c60 => ?_, fun c60 ew => ?_, fun c60 j es => ?_, fun c60 n ev ew es => ⟨fun u eu => ?_, fun e us hus H1 z S1 cC => ?_⟩⟩
    · exact fun d H1 nd S e => ⟨true, GX.te, fun _ a ha => ⟨_, rfl, rfl, rfl, d, _, _, rfl, e, lk_index, _, rfl, rfl, rfl, d, _, _, rfl, e, lk_what, (by show 2 ≤ sizeLine; decide), fun z hz => k _ _ (S.trans (new_same hz)) (due_mk (by unfold rowDue; rw [if_pos (by omega)]) upd_same)⟩, fun q => nomatch q⟩
    · exact fun d H1 nd S e => ⟨true, GX.te, fun _ a ha => ⟨_, rfl, rfl, rfl, d, _, _, rfl, e, lk_index, _, rfl, rfl, rfl, d, _, _, rfl, e, lk_what, (by show 2 ≤ sizeLine; decide), fun z hz => k _ _ (S.trans (new_same hz)) (due_mk (by unfold rowDue; rw [if_neg (by omega), if_neg (by rw [ew]; exact Bool.false_ne_true)]) upd_same)⟩, fun q => nomatch q⟩
    · obtain ⟨n, rfl, hn, _⟩ := seat_some es
      have nm := List.mem_of_getElem? hn
      obtain ⟨n0, n1⟩ := a11 n nm
      have bj : below is n = j := by
        have q1 := (below_spec (n := n) a8 j n hn)
        rcases Nat.lt_trichotomy (below is n) j with q | q | q
        · have hb' : below is n < is.length := by have := (List.getElem?_eq_some_iff.mp hn).1; omega
          have eb := List.getElem?_eq_getElem hb'
          have q2 := below_spec (n := n) a8 _ _ eb
          have lt := Asc.lt a8 (j - below is n - 1) (below is n) _ _ eb (by rw [show below is n + 1 + (j - below is n - 1) = j by omega]; exact hn)
          omega
        · exact q
        · have := q1.mpr q
          omega
      exact fun d H1 nd S e => ⟨true, GX.te, fun _ a ha => ⟨_, rfl, rfl, rfl, d, _, _, rfl, e, lk_index, _, rfl, rfl, rfl, d, _, _, rfl, e, lk_what, (by show 2 ≤ sizeLine; decide), fun z hz => k _ _ (S.trans (new_same hz)) (due_mk (by unfold rowDue; rw [if_neg (by have := a10; omega), if_pos (whole_of n0 n1)]; show (if n ∈ is then some (((below is n : Nat) : Int), ("label" : Str)) else _) = _; rw [if_pos nm, bj]) upd_same)⟩, fun q => nomatch q⟩
    · have nn : n ∉ is := fun q => seat_no (by rw [← ev]; exact es) n q rfl
      exact fun d H1 nd S e => ⟨true, GX.te, fun _ a ha => ⟨_, rfl, rfl, rfl, d, _, _, rfl, e, lk_index, _, rfl, rfl, rfl, d, _, _, rfl, e, lk_what, (by show 2 ≤ sizeLine; decide), fun z hz => k _ _ (S.trans (new_same hz)) (due_mk (by unfold rowDue; rw [if_neg (by have := a10; omega), if_pos ew, ev]; show (if n ∈ is then some (((below is n : Nat) : Int), ("label" : Str)) else _) = _; rw [if_neg nn, eu]; rfl) upd_same)⟩, fun q => nomatch q⟩
    · subst ev
      have sno := seat_no es
      have nn : n ∉ is := fun q => sno n q rfl
      have sq : (sr.isL || sr.isT) = true := row_seq e
      have ul : us.length = is.length := row_len e hus
      obtain ⟨us', hus', ur⟩ := row_ints e
      have R : Rows ns.length tss := fun j ts et => by
        have hj := (List.getElem?_eq_some_iff.mp et).1
        have ep := List.getElem?_eq_getElem (l := ps) (i := j) (by have := a4.2.1; omega)
        exact (a4.2.2 j _ ts ep et).2
      obtain rfl : us = us' := map_int_inj (hus.symm.trans hus')
      have hs' := insL_seat a8 sno
      have none_due : rowDue ns.length is (.int n) sr = none := by
        unfold rowDue
        rw [if_neg (by have := a10; omega), if_pos ew]
        show (if n ∈ is then some (((below is n : Nat) : Int), ("label" : Str)) else _) = _
        rw [if_neg nn, e]
        rfl
      obtain ⟨dz, tz, gz, rz, bz, pz, psz, kvz, z1, _⟩ := id cC
      refine ⟨_, rfl, _, rfl, z, dz, _, rfl, z1, ⟨z, ns, insL is n, _, .int n, s, rfl, cC, hv.keep S1, _, rfl, _, rfl, ?_⟩⟩
      rw [hs']
      refine iteF ?_
      refine ⟨_, rfl, z, dz, _, rfl, z1, cf_no _ _ _ _ _ (by decide +kernel) (by decide +kernel) (by decide +kernel) (by decide +kernel) (by decide +kernel), _, rfl, z, ns, insL is n, _, .int n, s, rfl, cC, hv.keep S1, (fun q => by rw [hs'] at q; cases q), fun j ej H2 z2 ys S2 e2 ro => ?_⟩
      obtain rfl : below is n = j := by rw [hs'] at ej; exact Option.some.inj ej
      have yse : ys = us.map V.int := by
        obtain ⟨r1, r2⟩ := ro
        rw [insL_len] at r1 r2
        refine List.ext_getElem? fun b => ?_
        rcases Nat.lt_or_ge b us.length with hb | hb
        · have eb := List.getElem?_eq_getElem hb
          rw [r2 b (by omega), withR_told gb (by have := below_le (is := is) (n := n); omega) R (by omega) eb (ur _ (List.mem_of_getElem? eb)), List.getElem?_map, eb]
          rfl
        · rw [List.getElem?_eq_none (by omega), List.getElem?_eq_none (by rw [List.length_map]; omega)]
      subst yse
      have S12 := S1.trans S2
      obtain ⟨ra, rfl, hra⟩ : ∃ ra, rv = .ref ra ∧ (SqL K H2 ra (us.map V.int) ∨ SqT K H2 ra (us.map V.int)) := by
        cases sr with
        | sc u => cases sq
        | dk => cases sq
        | lst xs =>
          obtain ⟨ra, rfl, hra⟩ := hrv
          obtain rfl : xs = _ := hus
          exact ⟨ra, rfl, .inl (SqL.of (S12 _ _ hra))⟩
        | tup xs =>
          obtain ⟨ra, rfl, hra⟩ := hrv
          obtain rfl : xs = _ := hus
          exact ⟨ra, rfl, .inr (SqT.of (S12 _ _ hra))⟩
      refine ⟨z2, _, rfl, .inr (SqT.of e2), fun l hl => ?_⟩
      have hra2 : SqL K (upd H2 l (.lst (us.map V.int))) ra (us.map V.int) ∨ SqT K (upd H2 l (.lst (us.map V.int))) ra (us.map V.int) := by
        cases sr with
        | sc u => cases sq
        | dk => cases sq
        | lst xs =>
          obtain ⟨ra', e', hra'⟩ := hrv
          obtain rfl : ra = ra' := V.ref.inj e'
          obtain rfl : xs = _ := hus
          exact .inl (SqL.of (new_same hl _ _ (S12 _ _ hra')))
        | tup xs =>
          obtain ⟨ra', e', hra'⟩ := hrv
          obtain rfl : ra = ra' := V.ref.inj e'
          obtain rfl : xs = _ := hus
          exact .inr (SqT.of (new_same hl _ _ (S12 _ _ hra')))
      refine ⟨_, rfl, ra, _, rfl, hra2, fun l2 hl2 => ⟨_, _, .lst (SqL.of (new_same hl2 _ _ upd_same)) (dp_ints us), .lst (SqL.of upd_same) (dp_ints us), shaped_li us, shaped_li us, _, rfl, if_fa (by rw [eqv_li]; simp) ?_⟩⟩
      refine k _ _ ((S12.trans (new_same hl)).trans (new_same hl2)) ?_
      rw [none_due]
      rfl
end
end J

set_option Elab.async false
set_option linter.all false
set_option maxRecDepth 100000
set_option maxHeartbeats 8000000
namespace J
open PySem PySem.Spec PyProof.Rows L2
abbrev s_Lpairs_due : Stmt := top 35
theorem sc_Lpairs_due : FnScope ["_law_labels_here", "_law_pairs_here", "_law_olds", "_law_news", "_law_pair"] ["_law_labels_here", "_law_pairs_here"] (defScope s_Lpairs_due) := ⟨rfl, rfl, rfl, by decide +kernel, rfl, by decide +kernel, by decide +kernel⟩
theorem any_fst {d : List (Int × Int)} {m : Int} : (d.any fun p => decide (V.int m = .int p.1)) = decide (m ∈ d.map Prod.fst) := by
  induction d with
  | nil => simp
  | cons p d ih =>
    rw [List.any_cons, ih]
    by_cases c : m = p.1
    · simp [c]
    · have c' : ¬ V.int m = V.int p.1 := fun e => c (by injection e)
      simp [c, c']
theorem any_snd {d : List (Int × Int)} {m : Int} : (d.any fun p => decide (V.int m = .int p.2)) = decide (m ∈ d.map Prod.snd) := by
  induction d with
  | nil => simp
  | cons p d ih =>
    rw [List.any_cons, ih]
    by_cases c : m = p.2
    · simp [c]
    · have c' : ¬ V.int m = V.int p.2 := fun e => c (by injection e)
      simp [c, c']
def spPDue : Sp := fun vs H Q _ => ∃ (la : Addr) (is : List Int) (v : V) (s : Sh) (ss : List Sh), vs = [.ref la, v] ∧ H la = some (.lst (is.map V.int)) ∧ is.length ≤ 60 ∧ Asc is ∧ (∀ n ∈ is, 0 ≤ n ∧ n ≤ 1000000000) ∧ Is H v s ∧ ShAll H (items s) ss ∧ ss.length ≤ 900 ∧ (∀ s ∈ ss, s.isL = false) ∧
  ∀ (H' : Hp), Same H H' → Q (match prAll is s ss with | .inl w => .str w | .inr _ => .non) H'
section
variable {P : Program} {w : World} {K : PySem.W.Frag} {mg : Str → Option Value} {base : Heap}
theorem ok_Lpairs_due {f fW : Addr} {fd fdW : FuncData} (F : Fun K "_law_pairs_due" "_law_pairs_due" s_Lpairs_due f fd) (nis : mg "isinstance" = none) (nli : mg "list" = none) (nt : mg "tuple" = none) (nl : mg "len" = none)
    (GW : Cal P w K mg base CX0 1 "_law_whole" fW fdW ["_law_thing", "_law_low", "_law_high"] spLWhole) : FnOk P w K mg base CX0 2 f fd ["_law_labels_here", "_law_pairs_here"] spPDue := by
  refine F.ok sc_Lpairs_due (fun vs H Q E h => ?_) (fun cdv A outer s H vs Q E hr h => ?_)
  · obtain ⟨la, is, v, s, ss, rfl, _⟩ := h
    rfl
  · obtain ⟨la, is, v, s, ss, rfl, ela, i60, asc, labs, hv, sa, s900, noL, k⟩ := h
    cases s with
    | sc u =>
      refine ⟨_, (pss_cons 
  (ps_if (pt_not (pt_val (pe_callB call_isiT (by rfl) nis (by decide +kernel) (pa_cons (pv 1) (pa_cons (pe_tup (pa_cons (pe_bltn (by rfl) nli (by decide +kernel) (v := .ty "list") rfl) (pa_cons (pe_bltn (by rfl) nt (by decide +kernel) (v := .ty "tuple") rfl) pa_nil))) pa_nil))))) (pss_one 
    (ps_ret pe_str)) pss_nil) (pss_cons 
  (ps_set (i := 2) sc_Lpairs_due.nd rfl (Or.inl rfl) (pe_lst pa_nil)) (pss_cons 
  (ps_set (i := 3) sc_Lpairs_due.nd rfl (Or.inl rfl) (pe_lst pa_nil)) (pss_cons 
  (ps_for PassesOwn.never rfl (pi_list (pv 1)) (pg_name (i := 4) sc_Lpairs_due.nd rfl (Or.inl rfl)) (pss_cons 
    (ps_if (PW.pt (pw_or (pt_not (pt_val (pe_callB call_isiT (by rfl) nis (by decide +kernel) (pa_cons (pv 4) (pa_cons (pe_tup (pa_cons (pe_bltn (by rfl) nli (by decide +kernel) (v := .ty "list") rfl) (pa_cons (pe_bltn (by rfl) nt (by decide +kernel) (v := .ty "tuple") rfl) pa_nil))) pa_nil))))) (pw_or1 (pt_cmpR op_ne (pe_callB call_len_seq (by rfl) nl PySem.boot_len (pa_cons (pv 4) pa_nil)) pe_int (nomark _))))) (pss_one 
      (ps_ret pe_str)) pss_nil) (pss_cons 
    (ps_if (PW.pt (pw_or (pt_not (pt_val (pcal GW hr pass0 (pa_cons (pe_ix ix_tup (pv 4) pe_int (fun _ _ => rfl)) (pa_cons pe_int (pa_cons (pe_op op_pow pe_int pe_int) pa_nil)))))) (pw_or (pt_cmpR op_notIn_seq (pe_ix ix_tup (pv 4) pe_int (fun _ _ => rfl)) (pv 0) (by rfl)) (pw_or1 (pt_cmpR op_in_seq (pe_ix ix_tup (pv 4) pe_int (fun _ _ => rfl)) (pv 2) (by rfl)))))) (pss_one 
      (ps_ret pe_str)) pss_nil) (pss_cons 
    (ps_if (PW.pt (pw_or (pt_not (pt_val (pcal GW hr pass0 (pa_cons (pe_ix ix_tup (pv 4) pe_int (fun _ _ => rfl)) (pa_cons pe_int (pa_cons (pe_op op_pow pe_int pe_int) pa_nil)))))) (pw_or1 (pt_cmpR op_in_seq (pe_ix ix_tup (pv 4) pe_int (fun _ _ => rfl)) (pv 3) (by rfl))))) (pss_one 
      (ps_ret pe_str)) pss_nil) (pss_cons 
    (ps_expr (pe_bm PySem.F.plainAttrs_list PySem.F.slot_list_append PySem.F.type_list_append mt_append (pv 2) (pa_cons (pe_ix ix_tup (pv 4) pe_int (fun _ _ => rfl)) pa_nil))) (pss_one 
    (ps_expr (pe_bm PySem.F.plainAttrs_list PySem.F.slot_list_append PySem.F.type_list_append mt_append (pv 3) (pa_cons (pe_ix ix_tup (pv 4) pe_int (fun _ _ => rfl)) pa_nil))))))))) (pss_one 
  (ps_ret (pe_ifExp (pt_cmpR op_lt (pe_callB call_len_seq (by rfl) nl PySem.boot_len (pa_cons (pv 2) pa_nil)) (pe_callB call_len_seq (by rfl) nl PySem.boot_len (pa_cons (pv 0) pa_nil)) (nomark _)) pe_str pe_non))))))), ?_⟩
      refine ⟨_, rfl, (by show 2 ≤ sizeLine; decide), fun p2 hp2 => ?_⟩
      obtain ⟨t2, ht2, kk⟩ := is_new (K := K) hv hp2
      refine ⟨_, _, _, _, _, _, rfl, upd_same, .cons (.ty "list") (.cons (.ty "tuple") .nil), ht2, kk, _, rfl, ?_⟩
      have S1 : Same H (upd H p2 (.tup [.ty "list", .ty "tuple"])) := new_same hp2
      generalize upd H p2 (.tup [.ty "list", .ty "tuple"]) = H1 at S1
      exact iteT (k _ S1)
    | dk =>
      refine ⟨_, (pss_cons 
  (ps_if (pt_not (pt_val (pe_callB call_isiT (by rfl) nis (by decide +kernel) (pa_cons (pv 1) (pa_cons (pe_tup (pa_cons (pe_bltn (by rfl) nli (by decide +kernel) (v := .ty "list") rfl) (pa_cons (pe_bltn (by rfl) nt (by decide +kernel) (v := .ty "tuple") rfl) pa_nil))) pa_nil))))) (pss_one 
    (ps_ret pe_str)) pss_nil) (pss_cons 
  (ps_set (i := 2) sc_Lpairs_due.nd rfl (Or.inl rfl) (pe_lst pa_nil)) (pss_cons 
  (ps_set (i := 3) sc_Lpairs_due.nd rfl (Or.inl rfl) (pe_lst pa_nil)) (pss_cons 
  (ps_for PassesOwn.never rfl (pi_list (pv 1)) (pg_name (i := 4) sc_Lpairs_due.nd rfl (Or.inl rfl)) (pss_cons 
    (ps_if (PW.pt (pw_or (pt_not (pt_val (pe_callB call_isiT (by rfl) nis (by decide +kernel) (pa_cons (pv 4) (pa_cons (pe_tup (pa_cons (pe_bltn (by rfl) nli (by decide +kernel) (v := .ty "list") rfl) (pa_cons (pe_bltn (by rfl) nt (by decide +kernel) (v := .ty "tuple") rfl) pa_nil))) pa_nil))))) (pw_or1 (pt_cmpR op_ne (pe_callB call_len_seq (by rfl) nl PySem.boot_len (pa_cons (pv 4) pa_nil)) pe_int (nomark _))))) (pss_one 
      (ps_ret pe_str)) pss_nil) (pss_cons 
    (ps_if (PW.pt (pw_or (pt_not (pt_val (pcal GW hr pass0 (pa_cons (pe_ix ix_tup (pv 4) pe_int (fun _ _ => rfl)) (pa_cons pe_int (pa_cons (pe_op op_pow pe_int pe_int) pa_nil)))))) (pw_or (pt_cmpR op_notIn_seq (pe_ix ix_tup (pv 4) pe_int (fun _ _ => rfl)) (pv 0) (by rfl)) (pw_or1 (pt_cmpR op_in_seq (pe_ix ix_tup (pv 4) pe_int (fun _ _ => rfl)) (pv 2) (by rfl)))))) (pss_one 
      (ps_ret pe_str)) pss_nil) (pss_cons 
    (ps_if (PW.pt (pw_or (pt_not (pt_val (pcal GW hr pass0 (pa_cons (pe_ix ix_tup (pv 4) pe_int (fun _ _ => rfl)) (pa_cons pe_int (pa_cons (pe_op op_pow pe_int pe_int) pa_nil)))))) (pw_or1 (pt_cmpR op_in_seq (pe_ix ix_tup (pv 4) pe_int (fun _ _ => rfl)) (pv 3) (by rfl))))) (pss_one 
      (ps_ret pe_str)) pss_nil) (pss_cons 
    (ps_expr (pe_bm PySem.F.plainAttrs_list PySem.F.slot_list_append PySem.F.type_list_append mt_append (pv 2) (pa_cons (pe_ix ix_tup (pv 4) pe_int (fun _ _ => rfl)) pa_nil))) (pss_one 
    (ps_expr (pe_bm PySem.F.plainAttrs_list PySem.F.slot_list_append PySem.F.type_list_append mt_append (pv 3) (pa_cons (pe_ix ix_tup (pv 4) pe_int (fun _ _ => rfl)) pa_nil))))))))) (pss_one 
  (ps_ret (pe_ifExp (pt_cmpR op_lt (pe_callB call_len_seq (by rfl) nl PySem.boot_len (pa_cons (pv 2) pa_nil)) (pe_callB call_len_seq (by rfl) nl PySem.boot_len (pa_cons (pv 0) pa_nil)) (nomark _)) pe_str pe_non))))))), ?_⟩
      refine ⟨_, rfl, (by show 2 ≤ sizeLine; decide), fun p2 hp2 => ?_⟩
      obtain ⟨t2, ht2, kk⟩ := is_new (K := K) hv hp2
      refine ⟨_, _, _, _, _, _, rfl, upd_same, .cons (.ty "list") (.cons (.ty "tuple") .nil), ht2, kk, _, rfl, ?_⟩
      have S1 : Same H (upd H p2 (.tup [.ty "list", .ty "tuple"])) := new_same hp2
      generalize upd H p2 (.tup [.ty "list", .ty "tuple"]) = H1 at S1
      exact iteT (k _ S1)
    | lst xs =>
      refine ⟨_, (pss_cons 
  (ps_if (pt_not (pt_val (pe_callB call_isiT (by rfl) nis (by decide +kernel) (pa_cons (pv 1) (pa_cons (pe_tup (pa_cons (pe_bltn (by rfl) nli (by decide +kernel) (v := .ty "list") rfl) (pa_cons (pe_bltn (by rfl) nt (by decide +kernel) (v := .ty "tuple") rfl) pa_nil))) pa_nil))))) (pss_one 
    (ps_ret pe_str)) pss_nil) (pss_cons 
  (ps_set (i := 2) sc_Lpairs_due.nd rfl (Or.inl rfl) (pe_lst pa_nil)) (pss_cons 
  (ps_set (i := 3) sc_Lpairs_due.nd rfl (Or.inl rfl) (pe_lst pa_nil)) (pss_cons 
  (ps_for PassesOwn.never rfl (pi_list (pv 1)) (pg_name (i := 4) sc_Lpairs_due.nd rfl (Or.inl rfl)) (pss_cons 
    (ps_if (PW.pt (pw_or (pt_not (pt_val (pe_callB call_isiT (by rfl) nis (by decide +kernel) (pa_cons (pv 4) (pa_cons (pe_tup (pa_cons (pe_bltn (by rfl) nli (by decide +kernel) (v := .ty "list") rfl) (pa_cons (pe_bltn (by rfl) nt (by decide +kernel) (v := .ty "tuple") rfl) pa_nil))) pa_nil))))) (pw_or1 (pt_cmpR op_ne (pe_callB call_len_seq (by rfl) nl PySem.boot_len (pa_cons (pv 4) pa_nil)) pe_int (nomark _))))) (pss_one 
      (ps_ret pe_str)) pss_nil) (pss_cons 
    (ps_if (PW.pt (pw_or (pt_not (pt_val (pcal GW hr pass0 (pa_cons (pe_ix ix_tup (pv 4) pe_int (fun _ _ => rfl)) (pa_cons pe_int (pa_cons (pe_op op_pow pe_int pe_int) pa_nil)))))) (pw_or (pt_cmpR op_notIn_seq (pe_ix ix_tup (pv 4) pe_int (fun _ _ => rfl)) (pv 0) (by rfl)) (pw_or1 (pt_cmpR op_in_seq (pe_ix ix_tup (pv 4) pe_int (fun _ _ => rfl)) (pv 2) (by rfl)))))) (pss_one 
      (ps_ret pe_str)) pss_nil) (pss_cons 
    (ps_if (PW.pt (pw_or (pt_not (pt_val (pcal GW hr pass0 (pa_cons (pe_ix ix_tup (pv 4) pe_int (fun _ _ => rfl)) (pa_cons pe_int (pa_cons (pe_op op_pow pe_int pe_int) pa_nil)))))) (pw_or1 (pt_cmpR op_in_seq (pe_ix ix_tup (pv 4) pe_int (fun _ _ => rfl)) (pv 3) (by rfl))))) (pss_one 
      (ps_ret pe_str)) pss_nil) (pss_cons 
    (ps_expr (pe_bm PySem.F.plainAttrs_list PySem.F.slot_list_append PySem.F.type_list_append mt_append (pv 2) (pa_cons (pe_ix ix_tup (pv 4) pe_int (fun _ _ => rfl)) pa_nil))) (pss_one 
    (ps_expr (pe_bm PySem.F.plainAttrs_list PySem.F.slot_list_append PySem.F.type_list_append mt_append (pv 3) (pa_cons (pe_ix ix_tup (pv 4) pe_int (fun _ _ => rfl)) pa_nil))))))))) (pss_one 
  (ps_ret (pe_ifExp (pt_cmpR op_lt (pe_callB call_len_seq (by rfl) nl PySem.boot_len (pa_cons (pv 2) pa_nil)) (pe_callB call_len_seq (by rfl) nl PySem.boot_len (pa_cons (pv 0) pa_nil)) (nomark _)) pe_str pe_non))))))), ?_⟩
      refine ⟨_, rfl, (by show 2 ≤ sizeLine; decide), fun p2 hp2 => ?_⟩
      obtain ⟨t2, ht2, kk⟩ := is_new (K := K) hv hp2
      refine ⟨_, _, _, _, _, _, rfl, upd_same, .cons (.ty "list") (.cons (.ty "tuple") .nil), ht2, kk, _, rfl, ?_⟩
      have S1 : Same H (upd H p2 (.tup [.ty "list", .ty "tuple"])) := new_same hp2
      generalize upd H p2 (.tup [.ty "list", .ty "tuple"]) = H1 at S1
      obtain ⟨pa, rfl, hp⟩ := hv
      refine iteF ⟨Nat.zero_le _, fun na hna => ⟨Nat.zero_le _, fun ta hta => ?_⟩⟩
      have nat : na ≠ ta := fun e => by
        rw [← e, upd_same] at hta
        cases hta
      have ta1 : H1 ta = none := by rw [upd_ne nat.symm] at hta; exact hta
      have keep : ∀ a o, H a = some o → a ≠ na ∧ a ≠ ta := fun a o e => ⟨ne_of_none (S1 _ _ e) hna, ne_of_none (S1 _ _ e) ta1⟩
      have e0 : (upd (upd H1 na (.lst [])) ta (.lst [])) pa = some (.lst xs) := by
        rw [upd_ne (keep _ _ hp).2, upd_ne (keep _ _ hp).1]
        exact S1 _ _ hp
      refine ⟨_, rfl, pa, rfl, ⟨_, SqL.of e0⟩, for_list (K := K) (a := pa) (xs := xs) (fun i σ H' => ∃ (d : List (Int × Int)) (v4 : Option V), σ = [some (.ref la), some (.ref pa), some (.ref na), some (.ref ta), v4] ∧ H' na = some (.lst ((d.map Prod.fst).map V.int)) ∧ H' ta = some (.lst ((d.map Prod.snd).map V.int)) ∧ (∀ a o, a ≠ na → a ≠ ta → H1 a = some o → H' a = some o) ∧ prRun is ss [] = prRun is (ss.drop i) d ∧ d.length = i)
        ⟨[], none, rfl, by rw [upd_ne nat, upd_same]; rfl, upd_same, fun a o n1 n2 e => by rw [upd_ne n2, upd_ne n1]; exact e, rfl, rfl⟩ (fun i σ H' _ ⟨_, _, _, _, _, f, _⟩ => SqL.of (f _ _ (keep _ _ hp).1 (keep _ _ hp).2 (S1 _ _ hp))) ?_ ?_⟩
      · rintro i y σ H2 hy ⟨d, v4, rfl, en, et, Fr, run, dl⟩
        have S02 : Same H H2 := fun a o e => Fr a o (keep _ _ e).1 (keep _ _ e).2 (S1 _ _ e)
        obtain ⟨sy, hsy, isy, kny⟩ := ShAll.at_ sa hy
        have i1000 : i < ss.length := (List.getElem?_eq_some_iff.mp hsy).1
        have st := prRun_step (is := is) (d := d) hsy
        have say : ∀ (w : Str) (H' : Hp), Same H2 H' → prOne is d sy = .inl w → Q (.str w) H' := fun w H' S e => by
          rw [e] at st
          have z := k H' (S02.trans S)
          rw [prAll_seq (s := .lst xs) rfl, run, st] at z
          exact z
        have nol := noL sy (List.mem_of_getElem? hsy)
        refine ⟨_, rfl, (by show 2 ≤ sizeLine; decide), fun p3 hp3 => ?_⟩
        obtain ⟨t3, ht3, kk3⟩ := is_new (K := K) (isy.keep S02) hp3
        refine ⟨_, _, _, _, _, _, rfl, upd_same, .cons (.ty "list") (.cons (.ty "tuple") .nil), ht3, kk3, _, rfl, ?_⟩
        have S23 : Same H2 (upd H2 p3 (.tup [.ty "list", .ty "tuple"])) := new_same hp3
        generalize upd H2 p3 (.tup [.ty "list", .ty "tuple"]) = H3 at S23
        have S03 := S02.trans S23
        have en3 := S23 _ _ en
        have et3 := S23 _ _ et
        cases sy with
        | sc u => exact iteT (say "pair" _ S23 rfl)
        | dk => exact iteT (say "pair" _ S23 rfl)
        | lst us => cases nol
        | tup us =>
          refine iteF ?_
          obtain ⟨qa, rfl, hq⟩ := isy
          have hq3 := S03 _ _ hq
          refine ⟨_, rfl, qa, us, rfl, .inr (SqT.of hq3), rfl, _, rfl, ?_⟩
          by_cases l2 : us.length = 2
          case neg =>
            refine if_tr (by simp; omega) (say "pair" _ S23 ?_)
            show (match us with | [o, n] => _ | _ => Sum.inl ("pair" : Str)) = _
            match us, l2 with
            | [], _ => rfl
            | [_], _ => rfl
            | [_, _], l2 => exact absurd rfl l2
            | _ :: _ :: _ :: _, _ => rfl
          obtain ⟨o, n, rfl⟩ : ∃ o n, us = [o, n] := match us, l2 with | [o, n], _ => ⟨o, n, rfl⟩
          refine if_fa (by simp) ?_
          obtain ⟨so, iso⟩ := kny o List.mem_cons_self
          obtain ⟨sn, isn⟩ := kny n (List.mem_cons_of_mem _ List.mem_cons_self)
          have one : prOne is d (.tup [o, n]) = if ((seat is o).isSome && !(d.any fun p => decide (o = .int p.1))) = true then (if (wholeB n 0 1000000000 && !(d.any fun p => decide (n = .int p.2))) = true then .inr (toI o, toI n) else .inl "label") else .inl "guest" := rfl
          refine ⟨_, rfl, qa, _, _, _, rfl, rfl, SqT.of hq3, at_of (j := 0) (v := o) rfl rfl, _, _, rfl, rfl, ⟨by decide, by decide, by decide⟩, o, so, _, _, rfl, iso.keep S03, _, rfl, ?_⟩
          rw [show (10 : Int) ^ Int.toNat 9 = 1000000000 from rfl]
          cases ew : wholeB o 0 1000000000 with
          | false =>
            have es : seat is o = none := by
              cases q : seat is o with
              | none => rfl
              | some j =>
                obtain ⟨m, rfl, hm, _⟩ := seat_some q
                obtain ⟨b0, b1⟩ := labs m (List.mem_of_getElem? hm)
                rw [whole_of b0 b1] at ew
                cases ew
            rw [es] at one
            exact iteT (iteT (say "guest" _ S23 one))
          | true =>
          obtain ⟨m, rfl, _, _⟩ := whole_int ew
          refine iteF ?_
          refine ⟨_, rfl, qa, _, _, _, rfl, rfl, SqT.of hq3, at_of (j := 0) (v := .int m) rfl rfl, _, rfl, la, _, rfl, .inl (SqL.of (S03 _ _ ela)), rfl, ints_flat is, _, rfl, ?_⟩
          rw [inV_ints]
          by_cases cm : m ∈ is
          case neg =>
            have es : seat is (.int m) = none := by
              cases q : seat is (.int m) with
              | none => rfl
              | some j =>
                obtain ⟨m', em, hm, _⟩ := seat_some q
                injection em with em
                subst em
                exact absurd (List.mem_of_getElem? hm) cm
            rw [es] at one
            rw [decide_eq_false cm]
            exact iteT (iteT (say "guest" _ S23 one))
          rw [decide_eq_true cm]
          refine iteF ?_
          have es : (seat is (.int m)).isSome = true := by
            obtain ⟨j, hj⟩ := List.getElem?_of_mem cm
            rw [seat_at asc hj]
            rfl
          rw [es, any_fst] at one
          refine ⟨_, rfl, qa, _, _, _, rfl, rfl, SqT.of hq3, at_of (j := 0) (v := .int m) rfl rfl, _, rfl, na, _, rfl, .inl (SqL.of en3), rfl, ints_flat _, _, rfl, ?_⟩
          rw [inV_ints]
          by_cases cd : m ∈ d.map Prod.fst
          case pos =>
            rw [decide_eq_true cd] at one ⊢
            exact iteT (say "guest" _ S23 one)
          rw [decide_eq_false cd] at one ⊢
          have one : prOne is d (.tup [.int m, n]) = if (wholeB n 0 1000000000 && !(d.any fun p => decide (n = .int p.2))) = true then .inr (m, toI n) else .inl "label" := one
          refine iteF ?_
          refine ⟨_, rfl, qa, _, _, _, rfl, rfl, SqT.of hq3, at_of (j := 1) (v := n) rfl rfl, _, _, rfl, rfl, ⟨by decide, by decide, by decide⟩, n, sn, _, _, rfl, isn.keep S03, _, rfl, ?_⟩
          rw [show (10 : Int) ^ Int.toNat 9 = 1000000000 from rfl]
          cases ew2 : wholeB n 0 1000000000 with
          | false =>
            rw [ew2] at one
            exact iteT (iteT (say "label" _ S23 one))
          | true =>
          obtain ⟨q, rfl, _, _⟩ := whole_int ew2
          rw [ew2, any_snd] at one
          refine iteF ?_
          refine ⟨_, rfl, qa, _, _, _, rfl, rfl, SqT.of hq3, at_of (j := 1) (v := .int q) rfl rfl, _, rfl, ta, _, rfl, .inl (SqL.of et3), rfl, ints_flat _, _, rfl, ?_⟩
          rw [inV_ints]
          by_cases cq : q ∈ d.map Prod.snd
          case pos =>
            rw [decide_eq_true cq] at one ⊢
            exact iteT (say "label" _ S23 one)
          rw [decide_eq_false cq] at one ⊢
          have one : prOne is d (.tup [.int m, .int q]) = .inr (m, q) := one
          rw [one] at st
          refine iteF ?_
          refine ⟨_, rfl, .inl ⟨rfl, _, SqL.of en3⟩, _, rfl, qa, _, _, _, rfl, rfl, SqT.of hq3, at_of (j := 0) (v := .int m) rfl rfl, na, _, _, rfl, rfl, en3, small1000 (by rw [List.length_map, List.length_map]; omega), ?_⟩
          have nqa : qa ≠ na := ne_of hq3 en3 (by intro z; cases z)
          have nqt : qa ≠ ta := ne_of hq3 et3 (by intro z; cases z)
          refine ⟨_, rfl, .inl ⟨rfl, _, SqL.of (xs := (d.map Prod.snd).map V.int) (by rw [upd_ne nat.symm]; exact et3)⟩, _, rfl, qa, _, _, _, rfl, rfl, SqT.of (by rw [upd_ne nqa]; exact hq3), at_of (j := 1) (v := .int q) rfl rfl, ta, _, _, rfl, rfl, (by rw [upd_ne nat.symm]; exact et3), small1000 (by rw [List.length_map, List.length_map]; omega), ?_⟩
          exact ⟨d ++ [(m, q)], _, rfl, by rw [upd_ne nat, upd_same, List.map_append, List.map_append]; rfl, by rw [upd_same, List.map_append, List.map_append]; rfl, fun a o z1 z2 e => by rw [upd_ne z2, upd_ne z1]; exact S23 _ _ (Fr _ _ z1 z2 e), by rw [run, st], by rw [List.length_append, dl]; rfl⟩
      · rintro σ H2 ⟨d, v4, rfl, en, et, Fr, run, dl⟩
        have S02 : Same H H2 := fun a o e => Fr a o (keep _ _ e).1 (keep _ _ e).2 (S1 _ _ e)
        have sl : ss.length = xs.length := ShAll.len' sa
        have fin : prRun is ss [] = .inr d := by
          rw [run, ← sl, List.drop_length]
          rfl
        have z := k H2 S02
        rw [prAll_seq (s := .lst xs) rfl, fin] at z
        have z : Q (match (if d.length < is.length then Sum.inl ("guest" : Str) else .inr d : Sum Str (List (Int × Int))) with | .inl w => V.str w | .inr _ => .non) H2 := z
        refine ⟨_, rfl, na, _, rfl, .inl (SqL.of en), _, rfl, la, _, rfl, .inl (SqL.of (S02 _ _ ela)), _, _, rfl, rfl, _, rfl, ?_⟩
        rw [List.length_map, List.length_map, List.length_map]
        refine ifD (fun c1 => ?_) (fun c1 => ?_)
        · rw [if_pos (by omega)] at z
          exact z
        · rw [if_neg (by omega)] at z
          exact z
    | tup xs =>
      refine ⟨_, (pss_cons 
  (ps_if (pt_not (pt_val (pe_callB call_isiT (by rfl) nis (by decide +kernel) (pa_cons (pv 1) (pa_cons (pe_tup (pa_cons (pe_bltn (by rfl) nli (by decide +kernel) (v := .ty "list") rfl) (pa_cons (pe_bltn (by rfl) nt (by decide +kernel) (v := .ty "tuple") rfl) pa_nil))) pa_nil))))) (pss_one 
    (ps_ret pe_str)) pss_nil) (pss_cons 
  (ps_set (i := 2) sc_Lpairs_due.nd rfl (Or.inl rfl) (pe_lst pa_nil)) (pss_cons 
  (ps_set (i := 3) sc_Lpairs_due.nd rfl (Or.inl rfl) (pe_lst pa_nil)) (pss_cons 
  (ps_for PassesOwn.never rfl (pi_tup (pv 1)) (pg_name (i := 4) sc_Lpairs_due.nd rfl (Or.inl rfl)) (pss_cons 
    (ps_if (PW.pt (pw_or (pt_not (pt_val (pe_callB call_isiT (by rfl) nis (by decide +kernel) (pa_cons (pv 4) (pa_cons (pe_tup (pa_cons (pe_bltn (by rfl) nli (by decide +kernel) (v := .ty "list") rfl) (pa_cons (pe_bltn (by rfl) nt (by decide +kernel) (v := .ty "tuple") rfl) pa_nil))) pa_nil))))) (pw_or1 (pt_cmpR op_ne (pe_callB call_len_seq (by rfl) nl PySem.boot_len (pa_cons (pv 4) pa_nil)) pe_int (nomark _))))) (pss_one 
      (ps_ret pe_str)) pss_nil) (pss_cons 
    (ps_if (PW.pt (pw_or (pt_not (pt_val (pcal GW hr pass0 (pa_cons (pe_ix ix_tup (pv 4) pe_int (fun _ _ => rfl)) (pa_cons pe_int (pa_cons (pe_op op_pow pe_int pe_int) pa_nil)))))) (pw_or (pt_cmpR op_notIn_seq (pe_ix ix_tup (pv 4) pe_int (fun _ _ => rfl)) (pv 0) (by rfl)) (pw_or1 (pt_cmpR op_in_seq (pe_ix ix_tup (pv 4) pe_int (fun _ _ => rfl)) (pv 2) (by rfl)))))) (pss_one 
      (ps_ret pe_str)) pss_nil) (pss_cons 
    (ps_if (PW.pt (pw_or (pt_not (pt_val (pcal GW hr pass0 (pa_cons (pe_ix ix_tup (pv 4) pe_int (fun _ _ => rfl)) (pa_cons pe_int (pa_cons (pe_op op_pow pe_int pe_int) pa_nil)))))) (pw_or1 (pt_cmpR op_in_seq (pe_ix ix_tup (pv 4) pe_int (fun _ _ => rfl)) (pv 3) (by rfl))))) (pss_one 
      (ps_ret pe_str)) pss_nil) (pss_cons 
    (ps_expr (pe_bm PySem.F.plainAttrs_list PySem.F.slot_list_append PySem.F.type_list_append mt_append (pv 2) (pa_cons (pe_ix ix_tup (pv 4) pe_int (fun _ _ => rfl)) pa_nil))) (pss_one 
    (ps_expr (pe_bm PySem.F.plainAttrs_list PySem.F.slot_list_append PySem.F.type_list_append mt_append (pv 3) (pa_cons (pe_ix ix_tup (pv 4) pe_int (fun _ _ => rfl)) pa_nil))))))))) (pss_one 
  (ps_ret (pe_ifExp (pt_cmpR op_lt (pe_callB call_len_seq (by rfl) nl PySem.boot_len (pa_cons (pv 2) pa_nil)) (pe_callB call_len_seq (by rfl) nl PySem.boot_len (pa_cons (pv 0) pa_nil)) (nomark _)) pe_str pe_non))))))), ?_⟩
      refine ⟨_, rfl, (by show 2 ≤ sizeLine; decide), fun p2 hp2 => ?_⟩
      obtain ⟨t2, ht2, kk⟩ := is_new (K := K) hv hp2
      refine ⟨_, _, _, _, _, _, rfl, upd_same, .cons (.ty "list") (.cons (.ty "tuple") .nil), ht2, kk, _, rfl, ?_⟩
      have S1 : Same H (upd H p2 (.tup [.ty "list", .ty "tuple"])) := new_same hp2
      generalize upd H p2 (.tup [.ty "list", .ty "tuple"]) = H1 at S1
      obtain ⟨pa, rfl, hp⟩ := hv
      refine iteF ⟨Nat.zero_le _, fun na hna => ⟨Nat.zero_le _, fun ta hta => ?_⟩⟩
      have nat : na ≠ ta := fun e => by
        rw [← e, upd_same] at hta
        cases hta
      have ta1 : H1 ta = none := by rw [upd_ne nat.symm] at hta; exact hta
      have keep : ∀ a o, H a = some o → a ≠ na ∧ a ≠ ta := fun a o e => ⟨ne_of_none (S1 _ _ e) hna, ne_of_none (S1 _ _ e) ta1⟩
      have e0 : (upd (upd H1 na (.lst [])) ta (.lst [])) pa = some (.tup xs) := by
        rw [upd_ne (keep _ _ hp).2, upd_ne (keep _ _ hp).1]
        exact S1 _ _ hp
      refine ⟨_, rfl, pa, rfl, ⟨_, SqT.of e0⟩, for_tup (K := K) (a := pa) (xs := xs) (fun i σ H' => ∃ (d : List (Int × Int)) (v4 : Option V), σ = [some (.ref la), some (.ref pa), some (.ref na), some (.ref ta), v4] ∧ H' na = some (.lst ((d.map Prod.fst).map V.int)) ∧ H' ta = some (.lst ((d.map Prod.snd).map V.int)) ∧ (∀ a o, a ≠ na → a ≠ ta → H1 a = some o → H' a = some o) ∧ prRun is ss [] = prRun is (ss.drop i) d ∧ d.length = i)
        ⟨[], none, rfl, by rw [upd_ne nat, upd_same]; rfl, upd_same, fun a o n1 n2 e => by rw [upd_ne n2, upd_ne n1]; exact e, rfl, rfl⟩ (fun i σ H' _ ⟨_, _, _, _, _, f, _⟩ => SqT.of (f _ _ (keep _ _ hp).1 (keep _ _ hp).2 (S1 _ _ hp))) ?_ ?_⟩
      · rintro i y σ H2 hy ⟨d, v4, rfl, en, et, Fr, run, dl⟩
        have S02 : Same H H2 := fun a o e => Fr a o (keep _ _ e).1 (keep _ _ e).2 (S1 _ _ e)
        obtain ⟨sy, hsy, isy, kny⟩ := ShAll.at_ sa hy
        have i1000 : i < ss.length := (List.getElem?_eq_some_iff.mp hsy).1
        have st := prRun_step (is := is) (d := d) hsy
        have say : ∀ (w : Str) (H' : Hp), Same H2 H' → prOne is d sy = .inl w → Q (.str w) H' := fun w H' S e => by
          rw [e] at st
          have z := k H' (S02.trans S)
          rw [prAll_seq (s := .tup xs) rfl, run, st] at z
          exact z
        have nol := noL sy (List.mem_of_getElem? hsy)
        refine ⟨_, rfl, (by show 2 ≤ sizeLine; decide), fun p3 hp3 => ?_⟩
        obtain ⟨t3, ht3, kk3⟩ := is_new (K := K) (isy.keep S02) hp3
        refine ⟨_, _, _, _, _, _, rfl, upd_same, .cons (.ty "list") (.cons (.ty "tuple") .nil), ht3, kk3, _, rfl, ?_⟩
        have S23 : Same H2 (upd H2 p3 (.tup [.ty "list", .ty "tuple"])) := new_same hp3
        generalize upd H2 p3 (.tup [.ty "list", .ty "tuple"]) = H3 at S23
        have S03 := S02.trans S23
        have en3 := S23 _ _ en
        have et3 := S23 _ _ et
        cases sy with
        | sc u => exact iteT (say "pair" _ S23 rfl)
        | dk => exact iteT (say "pair" _ S23 rfl)
        | lst us => cases nol
        | tup us =>
          refine iteF ?_
          obtain ⟨qa, rfl, hq⟩ := isy
          have hq3 := S03 _ _ hq
          refine ⟨_, rfl, qa, us, rfl, .inr (SqT.of hq3), rfl, _, rfl, ?_⟩
          by_cases l2 : us.length = 2
          case neg =>
            refine if_tr (by simp; omega) (say "pair" _ S23 ?_)
            show (match us with | [o, n] => _ | _ => Sum.inl ("pair" : Str)) = _
            match us, l2 with
            | [], _ => rfl
            | [_], _ => rfl
            | [_, _], l2 => exact absurd rfl l2
            | _ :: _ :: _ :: _, _ => rfl
          obtain ⟨o, n, rfl⟩ : ∃ o n, us = [o, n] := match us, l2 with | [o, n], _ => ⟨o, n, rfl⟩
          refine if_fa (by simp) ?_
          obtain ⟨so, iso⟩ := kny o List.mem_cons_self
          obtain ⟨sn, isn⟩ := kny n (List.mem_cons_of_mem _ List.mem_cons_self)
          have one : prOne is d (.tup [o, n]) = if ((seat is o).isSome && !(d.any fun p => decide (o = .int p.1))) = true then (if (wholeB n 0 1000000000 && !(d.any fun p => decide (n = .int p.2))) = true then .inr (toI o, toI n) else .inl "label") else .inl "guest" := rfl
          refine ⟨_, rfl, qa, _, _, _, rfl, rfl, SqT.of hq3, at_of (j := 0) (v := o) rfl rfl, _, _, rfl, rfl, ⟨by decide, by decide, by decide⟩, o, so, _, _, rfl, iso.keep S03, _, rfl, ?_⟩
          rw [show (10 : Int) ^ Int.toNat 9 = 1000000000 from rfl]
          cases ew : wholeB o 0 1000000000 with
          | false =>
            have es : seat is o = none := by
              cases q : seat is o with
              | none => rfl
              | some j =>
                obtain ⟨m, rfl, hm, _⟩ := seat_some q
                obtain ⟨b0, b1⟩ := labs m (List.mem_of_getElem? hm)
                rw [whole_of b0 b1] at ew
                cases ew
            rw [es] at one
            exact iteT (iteT (say "guest" _ S23 one))
          | true =>
          obtain ⟨m, rfl, _, _⟩ := whole_int ew
          refine iteF ?_
          refine ⟨_, rfl, qa, _, _, _, rfl, rfl, SqT.of hq3, at_of (j := 0) (v := .int m) rfl rfl, _, rfl, la, _, rfl, .inl (SqL.of (S03 _ _ ela)), rfl, ints_flat is, _, rfl, ?_⟩
          rw [inV_ints]
          by_cases cm : m ∈ is
          case neg =>
            have es : seat is (.int m) = none := by
              cases q : seat is (.int m) with
              | none => rfl
              | some j =>
                obtain ⟨m', em, hm, _⟩ := seat_some q
                injection em with em
                subst em
                exact absurd (List.mem_of_getElem? hm) cm
            rw [es] at one
            rw [decide_eq_false cm]
            exact iteT (iteT (say "guest" _ S23 one))
          rw [decide_eq_true cm]
          refine iteF ?_
          have es : (seat is (.int m)).isSome = true := by
            obtain ⟨j, hj⟩ := List.getElem?_of_mem cm
            rw [seat_at asc hj]
            rfl
          rw [es, any_fst] at one
          refine ⟨_, rfl, qa, _, _, _, rfl, rfl, SqT.of hq3, at_of (j := 0) (v := .int m) rfl rfl, _, rfl, na, _, rfl, .inl (SqL.of en3), rfl, ints_flat _, _, rfl, ?_⟩
          rw [inV_ints]
          by_cases cd : m ∈ d.map Prod.fst
          case pos =>
            rw [decide_eq_true cd] at one ⊢
            exact iteT (say "guest" _ S23 one)
          rw [decide_eq_false cd] at one ⊢
          have one : prOne is d (.tup [.int m, n]) = if (wholeB n 0 1000000000 && !(d.any fun p => decide (n = .int p.2))) = true then .inr (m, toI n) else .inl "label" := one
          refine iteF ?_
          refine ⟨_, rfl, qa, _, _, _, rfl, rfl, SqT.of hq3, at_of (j := 1) (v := n) rfl rfl, _, _, rfl, rfl, ⟨by decide, by decide, by decide⟩, n, sn, _, _, rfl, isn.keep S03, _, rfl, ?_⟩
          rw [show (10 : Int) ^ Int.toNat 9 = 1000000000 from rfl]
          cases ew2 : wholeB n 0 1000000000 with
          | false =>
            rw [ew2] at one
            exact iteT (iteT (say "label" _ S23 one))
          | true =>
          obtain ⟨q, rfl, _, _⟩ := whole_int ew2
          rw [ew2, any_snd] at one
          refine iteF ?_
          refine ⟨_, rfl, qa, _, _, _, rfl, rfl, SqT.of hq3, at_of (j := 1) (v := .int q) rfl rfl, _, rfl, ta, _, rfl, .inl (SqL.of et3), rfl, ints_flat _, _, rfl, ?_⟩
          rw [inV_ints]
          by_cases cq : q ∈ d.map Prod.snd
          case pos =>
            rw [decide_eq_true cq] at one ⊢
            exact iteT (say "label" _ S23 one)
          rw [decide_eq_false cq] at one ⊢
          have one : prOne is d (.tup [.int m, .int q]) = .inr (m, q) := one
          rw [one] at st
          refine iteF ?_
          refine ⟨_, rfl, .inl ⟨rfl, _, SqL.of en3⟩, _, rfl, qa, _, _, _, rfl, rfl, SqT.of hq3, at_of (j := 0) (v := .int m) rfl rfl, na, _, _, rfl, rfl, en3, small1000 (by rw [List.length_map, List.length_map]; omega), ?_⟩
          have nqa : qa ≠ na := ne_of hq3 en3 (by intro z; cases z)
          have nqt : qa ≠ ta := ne_of hq3 et3 (by intro z; cases z)
          refine ⟨_, rfl, .inl ⟨rfl, _, SqL.of (xs := (d.map Prod.snd).map V.int) (by rw [upd_ne nat.symm]; exact et3)⟩, _, rfl, qa, _, _, _, rfl, rfl, SqT.of (by rw [upd_ne nqa]; exact hq3), at_of (j := 1) (v := .int q) rfl rfl, ta, _, _, rfl, rfl, (by rw [upd_ne nat.symm]; exact et3), small1000 (by rw [List.length_map, List.length_map]; omega), ?_⟩
          exact ⟨d ++ [(m, q)], _, rfl, by rw [upd_ne nat, upd_same, List.map_append, List.map_append]; rfl, by rw [upd_same, List.map_append, List.map_append]; rfl, fun a o z1 z2 e => by rw [upd_ne z2, upd_ne z1]; exact S23 _ _ (Fr _ _ z1 z2 e), by rw [run, st], by rw [List.length_append, dl]; rfl⟩
      · rintro σ H2 ⟨d, v4, rfl, en, et, Fr, run, dl⟩
        have S02 : Same H H2 := fun a o e => Fr a o (keep _ _ e).1 (keep _ _ e).2 (S1 _ _ e)
        have sl : ss.length = xs.length := ShAll.len' sa
        have fin : prRun is ss [] = .inr d := by
          rw [run, ← sl, List.drop_length]
          rfl
        have z := k H2 S02
        rw [prAll_seq (s := .tup xs) rfl, fin] at z
        have z : Q (match (if d.length < is.length then Sum.inl ("guest" : Str) else .inr d : Sum Str (List (Int × Int))) with | .inl w => V.str w | .inr _ => .non) H2 := z
        refine ⟨_, rfl, na, _, rfl, .inl (SqL.of en), _, rfl, la, _, rfl, .inl (SqL.of (S02 _ _ ela)), _, _, rfl, rfl, _, rfl, ?_⟩
        rw [List.length_map, List.length_map, List.length_map]
        refine ifD (fun c1 => ?_) (fun c1 => ?_)
        · rw [if_pos (by omega)] at z
          exact z
        · rw [if_neg (by omega)] at z
          exact z
end
end J

set_option Elab.async false
set_option linter.all false
set_option maxRecDepth 100000
set_option maxHeartbeats 8000000
namespace J
open PySem PySem.Spec PyProof.Rows L2
abbrev s_Lpick : Stmt := top 28
theorem sc_Lpick : FnScope ["_law_hand_here", "_law_things"] ["_law_hand_here", "_law_things"] (defScope s_Lpick) := ⟨rfl, rfl, rfl, by decide +kernel, rfl, by decide +kernel, by decide +kernel⟩
abbrev s_Lshuffled : Stmt := top 36
theorem sc_Lshuffled : FnScope ["_law_hand_here", "_law_things", "_law_left", "_law_found", "_law_k"] ["_law_hand_here", "_law_things"] (defScope s_Lshuffled) := ⟨rfl, rfl, rfl, by decide +kernel, rfl, by decide +kernel, by decide +kernel⟩
theorem Hand.same_h' {H : Hp} {h q z : Addr} (x : Hand H h q) (hz : H z = none) : z ≠ h ∧ z ≠ q := ⟨fun e => (x.h_ne hz).1 e.symm, fun e => (x.h_ne hz).2 e.symm⟩
theorem erase_perm : ∀ {l : List V} {k : Nat} (h : k < l.length), (l[k] :: l.eraseIdx k).Perm l
  | x :: xs, 0, _ => List.Perm.refl _
  | x :: xs, k + 1, h => (List.Perm.swap x (xs[k]'(by simpa using h)) (xs.eraseIdx k)).trans ((erase_perm (l := xs) (k := k) (by simpa using h)).cons x)
def spPick : Sp := fun vs H Q _ => ∃ (h q l : Addr) (xs : List V), vs = [.ref h, .ref l] ∧ Hand H h q ∧ l ≠ h ∧ H l = some (.lst xs) ∧ 0 < xs.length ∧ xs.length ≤ 1000 ∧ ∀ (H' : Hp) (y : V), y ∈ xs → But h H H' → Hand H' h q → Q y H'
def spShuf : Sp := fun vs H Q _ => ∃ (h q l : Addr) (xs : List V), vs = [.ref h, .ref l] ∧ Hand H h q ∧ l ≠ h ∧ H l = some (.lst xs) ∧ xs.length ≤ 1000 ∧ ∀ (H' : Hp) (z : Addr) (ys : List V), But h H H' → Hand H' h q → H z = none → H' z = some (.lst ys) → ys.Perm xs → Q (.ref z) H'
section
variable {P : Program} {w : World} {K : PySem.W.Frag} {mg : Str → Option Value} {base : Heap}
theorem ok_Lpick {f fD : Addr} {fd fdD : FuncData} (F : Fun K "_law_pick" "_law_pick" s_Lpick f fd) (nl : mg "len" = none) (GD : Cal P w K mg base CX0 2 "_law_draw" fD fdD ["_law_hand_here", "_law_many"] spDraw) : FnOk P w K mg base CX0 3 f fd ["_law_hand_here", "_law_things"] spPick := by
  refine F.ok sc_Lpick (fun vs H Q E h => ?_) (fun cdv A outer s H vs Q E hr h => ?_)
  · obtain ⟨h, q, l, xs, rfl, _⟩ := h
    rfl
  · obtain ⟨h, q, l, xs, rfl, hh, nlh, el, g0, g1, k⟩ := h
    refine ⟨_, (pss_one (ps_ret (pe_ix ix_list (pv 1) (pcal GD hr pass0 (pa_cons (pv 0) (pa_cons (pe_callB call_len_seq (by rfl) nl PySem.boot_len (pa_cons (pv 1) pa_nil)) pa_nil))) (fun _ _ => rfl)))), ?_⟩
    refine ⟨_, rfl, _, rfl, _, rfl, l, xs, rfl, .inl (SqL.of el), h, q, _, rfl, by omega, by omega, hh, fun v H1 v0 v1 b1 h1 => ?_⟩
    have hv : v.toNat < xs.length := by omega
    exact ⟨l, xs, v, xs[v.toNat], rfl, rfl, SqL.of (b1 _ _ nlh el), at_of (j := v.toNat) (by omega) (List.getElem?_eq_getElem hv), k H1 _ (List.getElem_mem hv) b1 h1⟩
theorem ok_Lshuffled {f fD : Addr} {fd fdD : FuncData} (F : Fun K "_law_shuffled" "_law_shuffled" s_Lshuffled f fd) (nli : mg "list" = none) (nl : mg "len" = none) (nr : mg "range" = none) (GD : Cal P w K mg base CX0 2 "_law_draw" fD fdD ["_law_hand_here", "_law_many"] spDraw) : FnOk P w K mg base CX0 3 f fd ["_law_hand_here", "_law_things"] spShuf := by
  refine F.ok sc_Lshuffled (fun vs H Q E h => ?_) (fun cdv A outer s H vs Q E hr h => ?_)
  · obtain ⟨h, q, l, xs, rfl, _⟩ := h
    rfl
  · obtain ⟨h, q, l, xs, rfl, hh, nlh, el, x1000, k⟩ := h
    refine ⟨_, (pss_cons 
  (ps_set (i := 2) sc_Lshuffled.nd rfl (Or.inl rfl) (pe_callTy (T := "list") (r := fun xs H Q => ∃ p ys, xs = [.ref p] ∧ (SqL K H p ys ∨ SqT K H p ys) ∧ ∀ l, H l = none → Q (.ref l) (upd H l (.lst ys))) call_list_of (by rfl) nli (by decide +kernel) (pa_cons (pv 1) pa_nil))) (pss_cons 
  (ps_set (i := 3) sc_Lshuffled.nd rfl (Or.inl rfl) (pe_lst pa_nil)) (pss_cons 
  (ps_for PassesOwn.never rfl (pi_range1 (by rfl) nr (pa_cons (pe_callB call_len_seq (by rfl) nl PySem.boot_len (pa_cons (pv 1) pa_nil)) pa_nil)) (pg_name (i := 4) sc_Lshuffled.nd rfl (Or.inl rfl)) (pss_one 
    (ps_expr (pe_bm PySem.F.plainAttrs_list PySem.F.slot_list_append PySem.F.type_list_append mt_append (pv 3) (pa_cons (pe_bm PySem.F.plainAttrs_list PySem.F.slot_list_pop PySem.F.type_list_pop mt_popAt (pv 2) (pa_cons (pcal GD hr pass0 (pa_cons (pv 0) (pa_cons (pe_callB call_len_seq (by rfl) nl PySem.boot_len (pa_cons (pv 2) pa_nil)) pa_nil))) pa_nil)) pa_nil))))) (pss_one 
  (ps_ret (pv 3)))))), ?_⟩
    refine ⟨_, rfl, l, xs, rfl, .inl (SqL.of el), fun L hL => ⟨Nat.zero_le _, fun F' hF => ?_⟩⟩
    have nLF : L ≠ F' := ne_of_none upd_same hF
    have F0 : H F' = none := by rw [upd_ne nLF.symm] at hF; exact hF
    obtain ⟨nLh, nLq⟩ := hh.same_h' hL
    obtain ⟨nFh, nFq⟩ := hh.same_h' F0
    have nlL : l ≠ L := ne_of_none el hL
    have nlF : l ≠ F' := ne_of_none el F0
    refine ⟨_, rfl, l, xs, rfl, .inl (SqL.of (by rw [upd_ne nlF, upd_ne nlL]; exact el)), (xs.length : Nat), rfl, by omega, by omega, for_range (lo := 0) (n := xs.length) (fun i σ H' => ∃ (v4 : Option V) (ls fs : List V), σ = [some (.ref h), some (.ref l), some (.ref L), some (.ref F'), v4] ∧ H' L = some (.lst ls) ∧ H' F' = some (.lst fs) ∧ (fs ++ ls).Perm xs ∧ fs.length = i ∧ Hand H' h q ∧ But h H H')
      ⟨none, xs, [], rfl, by rw [upd_ne nLF, upd_same], upd_same, List.Perm.refl _, rfl, (hh.new hL).new hF, ((But.refl h H).put2 hL).put2 F0⟩ ?_ ?_⟩
    · rintro i σ H1 hi ⟨v4, ls, fs, rfl, e1, e2, pm, fl, h1, b1⟩
      have ll : fs.length + ls.length = xs.length := by rw [← List.length_append]; exact pm.length_eq
      refine ⟨_, rfl, .inl ⟨rfl, _, SqL.of e2⟩, _, rfl, .inl ⟨rfl, _, SqL.of e1⟩, _, rfl, _, rfl, L, _, rfl, .inl (SqL.of e1), h, q, _, rfl, by omega, by omega, h1, fun a H2 a0 a1' b2 h2 => ?_⟩
      have e1' := b2 _ _ nLh e1
      have e2' := b2 _ _ nFh e2
      have ha : a.toNat < ls.length := by omega
      refine ⟨L, _, a, a.toNat, ls[a.toNat], rfl, rfl, e1', by omega, by omega, seq_at a0 (by omega), List.getElem?_eq_getElem ha, ?_⟩
      refine ⟨F', _, _, rfl, rfl, (by rw [upd_ne nLF.symm]; exact e2'), small1000 (by omega), ?_⟩
      refine ⟨_, ls.eraseIdx a.toNat, fs ++ [ls[a.toNat]], rfl, by rw [upd_ne nLF, upd_same], upd_same, ?_, by rw [List.length_append, fl]; rfl, (h2.put nLh.symm nLq.symm).put nFh.symm nFq.symm, ((b1.trans b2).put2 hL).put2 F0⟩
      have q1 := erase_perm (l := ls) ha
      have q2 : (fs ++ (ls[a.toNat] :: ls.eraseIdx a.toNat)).Perm (fs ++ ls) := q1.append_left fs
      rw [List.append_assoc]
      exact q2.trans pm
    · rintro σ H1 ⟨v4, ls, fs, rfl, e1, e2, pm, fl, h1, b1⟩
      have ll : fs.length + ls.length = xs.length := by rw [← List.length_append]; exact pm.length_eq
      have l0 : ls = [] := List.eq_nil_of_length_eq_zero (by omega)
      subst l0
      rw [List.append_nil] at pm
      exact ⟨_, rfl, k H1 F' fs b1 h1 F0 e2 pm⟩
end
end J

set_option Elab.async false
set_option linter.all false
set_option maxRecDepth 100000
set_option maxHeartbeats 2000000
/-! ### != of instances whose class has its own __eq__ only -/
namespace J
open PySem PySem.Spec PyProof.Rows L2
section
variable {prog : Program} {w : World} {A : Around} {E : Value → Shared → Prop} {s : Shared} {K : PySem.W.Frag} {x C L f : Addr} {h₀ : Heap} {m : Str → Option Value} {ox : Obj} {od : Option Obj} {b tb : Value}
theorem ifBound_KB {M : Model} {name : Str} {id : String} {args : List Value} {Q : Option Value → Shared → Prop} (X : K.In s.heap) (I : PySem.W.InstAt s.heap x ox C od) (hs : PySem.W.findIn K (.ref C) name = some (some (.builtin id)))
    (hb : ∀ self, bindSpecial (.builtin id) self = pure (.builtin id, [self])) (h : wpAny M A (call (.builtin id) (.ref x :: args)) (fun v => Q (some v)) E s) : wpAny M A (callSpecialIfBound? (.ref x) name args) Q E s := by
  simp only [callSpecialIfBound?, bindSpecialIfBound?]
  refine wpAny_holding (wpAny_bind (wpAny_bind (wpAny_bind (I.type.here ((PySem.W.looks_findIn X hs).here ?_)))))
  refine wpAny_bind (wpAny_askSetting (wpAny_ite ?_))
  have fin : wpAny M A (call (.builtin id) ([.ref x] ++ args) >>= fun v => pure (some v)) Q E s := wpAny_bind (wpAny_mono h (fun v s' h' => wpAny_pure h') fun _ _ h' => h')
  simp only [hb]
  split
  · exact wpAny_bind (wpAny_pure (wpAny_pure (by exact fin)))
  · exact wpAny_tryCatch (wpAny_bind (wpAny_pure (wpAny_pure (by exact fin))))
/-- the body of object.__ne__ over the own __eq__ -/
theorem objNe_own (hu : A.in1.units < cLine) (X : K.In s.heap) (I : PySem.W.InstAt s.heap x ox C od) (hm : PySem.W.mroIn K C (.type "object") = some true) (hs : PySem.W.findIn K (.ref C) "__eq__" = some (some (.ref f))) (hf : PySem.W.isFn K (.ref f) = true) {Q : Value → Shared → Prop}
    (h : wpAny (model prog w) A.in1 (call (.ref f) [.ref x, b]) (fun v s' => ∃ c, v = .bool c ∧ Q (.bool (!c)) s') E s) : wpAny (model prog w) A (call (.builtin "object.__ne__") [.ref x, b]) Q E s := by
  refine wpAny_call (codeAny_call_builtin PySem.F.cmp_object.ne.plain PySem.F.cmpEntry_ne (PySem.W.check_slot (i := "object.__ne__") (owner := "object") (n := "__ne__") PySem.F.cmpKind_ne PySem.F.cmpSplit_ne (I.type.andThen (PySem.W.looks_mroIn X hm)) (PySem.F.cmpArgs_ne _ _) ?_))
  unfold Builtin.«object.__ne__»
  refine wpAny_bind (m := slotArgs "__ne__" 1 _) (wpAny_pure ?_)
  refine wpAny_bind (m := cRoomFor _ _) (wpAny_cRoomFor hu ?_)
  refine wpAny_bind (m := callSpecialIfBound? (.ref x) "__eq__" _) (PySem.W.ifBound_K X I hs hf (wpAny_mono h (fun r s' hr => ?_) fun _ _ y => y))
  obtain ⟨c, rfl, hq⟩ := hr
  exact wpAny_bind (wpAny_truthy_bool (wpAny_pure hq))
theorem cmpNe_K {Q : Value → Shared → Prop} (hu : A.units < cLine) (hu1 : A.in1.units < cLine) (F : PyProof.Rows.Fr h₀ L s.heap m) (X₀ : K.In h₀) (I : PySem.W.InstAt s.heap x ox C od) (hbt : PySem.W.Looks (model prog w) s.heap (typeOf b) tb) (hn : PySem.W.notFirst K C tb = true)
    (hm : PySem.W.mroIn K C (.type "object") = some true) (hne : PySem.W.findIn K (.ref C) "__ne__" = some (some (.builtin "object.__ne__"))) (hs : PySem.W.findIn K (.ref C) "__eq__" = some (some (.ref f))) (hf : PySem.W.isFn K (.ref f) = true)
    (h : wpAny (model prog w) A.in1 (call (.ref f) [.ref x, b]) (fun v s' => ∃ c, v = .bool c ∧ Q (.bool (!c)) s') E s) : wpAny (model prog w) A (richCompare .NotEq (.ref x) b) Q E s := by
  have X := X₀.keeps F.keep
  have one : wpAny (model prog w) A (tryCompare (.ref x) (cmpInfo .NotEq).2.1 b) (fun r s' => ∃ v, r = some v ∧ Q v s') E s := by
    unfold tryCompare
    refine wpAny_bind (ifBound_KB X I hne PySem.F.cmp_object.ne.bind (objNe_own hu1 X I hm hs hf (wpAny_mono h (fun v s' hv => ?_) fun _ _ e => e)))
    obtain ⟨c, rfl, hq⟩ := hv
    exact ⟨c, rfl, wpAny_pure ⟨_, rfl, hq⟩⟩
  unfold richCompare
  simp only [oneThing_ref]
  refine wpAny_holding (wpAny_bind (wpAny_cRoomFor hu ?_))
  refine wpAny_bind (I.type.here (wpAny_bind (hbt.here ?_)))
  split
  · rename_i q
    have e : PySem.W.subIn K tb (.ref C) = some false := by
      rcases Bool.or_eq_true_iff.mp hn with e | e
      · rw [beq_iff_eq.mp e] at q; simp at q
      · exact beq_iff_eq.mp e
    refine wpAny_bind ((PySem.W.looks_subIn X e).here ?_)
    simp only [Bool.false_eq_true, if_false]
    refine wpAny_bind (wpAny_mono one (fun r s' z => ?_) fun _ _ e => e)
    obtain ⟨v, rfl, hq⟩ := z
    exact wpAny_pure hq
  · refine wpAny_bind (wpAny_pure ?_)
    simp only [Bool.false_eq_true, if_false]
    refine wpAny_bind (wpAny_mono one (fun r s' z => ?_) fun _ _ e => e)
    obtain ⟨v, rfl, hq⟩ := z
    exact wpAny_pure hq
end
def rNeOwn (C : Addr) (sp : Sp) (E : XK) : R2 := fun x y H Q => ∃ a b dx fs dy gs, x = .ref a ∧ y = .ref b ∧ H a = some (.ins C dx fs) ∧ H b = some (.ins C dy gs) ∧ sp [x, y] H (fun v H' => ∃ c, v = .bl c ∧ Q (.bl (!c)) H') E
theorem op_neOwn {X : Cx} {n : Nat} {C f : Addr} {fd : FuncData} {ps : List Str} {sp : Sp} {E : XK} (F : FnOk X.prog X.w X.K X.mg X.base CX0 n f fd ps sp)
    (hs : PySem.W.findIn X.K (.ref C) "__eq__" = some (some (.ref f))) (hne : PySem.W.findIn X.K (.ref C) "__ne__" = some (some (.builtin "object.__ne__"))) (hm : PySem.W.mroIn X.K C (.type "object") = some true) (hf : PySem.W.isFn X.K (.ref f) = true) (hb : Binds X.K fd ps []) (hr : Room (n + 1) X.A) : OpR X (compareOp .NotEq) (rNeOwn C sp E) := by
  intro pins s σ H x y v u Q I rx ry ⟨a, b, dx, fs, dy, gs, ex, ey, ha, hy, q⟩
  subst ex
  subst ey
  obtain rfl : v = Value.ref a := rx
  obtain rfl : u = Value.ref b := ry
  show wpAny (model X.prog X.w) X.A (richCompare .NotEq (.ref a) (.ref b)) (EP X pins σ Q) X.xe s
  obtain ⟨mA, J, _⟩ := ins_get I.hok ha
  obtain ⟨od, J, _⟩ := J.look
  obtain ⟨mB, J', _⟩ := ins_get I.hok hy
  obtain ⟨od', J', _⟩ := J'.look
  obtain ⟨m, hF⟩ := I.fr
  have r2 : Vals [V.ref a, V.ref b] [Value.ref a, Value.ref b] := .cons rfl (.cons rfl .nil)
  refine cmpNe_K (tb := .ref C) hr.units0 hr.in1.units0 hF I.ok.mod.kin J J'.type (by simp [PySem.W.notFirst]) hm hne hs hf ?_
  have hl : ([Value.ref a, Value.ref b] : List Value).length = ps.length := by rw [← r2.length]; exact F.len _ _ _ _ q
  refine wpAny_call (codeAny_mono (F.run X.A.in1 X.stack s H ⟨[.ref a, .ref b], []⟩ [.ref a, .ref b] [.ref a, .ref b] _ E hr.in1 I.env0.in1 (by have := hb s [.ref a, .ref b] I.kIn (by rw [List.append_nil]; exact hl); rw [List.append_nil] at this; exact this) r2 q) fun r s' hq => ?_)
  cases r with
  | error e => exact hq.elim
  | ok fl =>
    cases fl with
    | ret u =>
      obtain ⟨v, H', I3, rv, c, ev, q4⟩ := I.after hq
      subst ev
      obtain rfl : u = Value.bool c := rv
      exact ⟨c, rfl, V.bl (!c), H', I3, rfl, q4⟩
    | next => exact hq.elim
    | brk => exact hq.elim
    | cont => exact hq.elim
end J

set_option Elab.async false
set_option linter.all false
set_option maxRecDepth 100000
set_option maxHeartbeats 2000000
namespace J
open PySem PySem.Spec PyProof.Rows L2
/-! ### what a renamed company answers -/
theorem cellI_inv {ns : List Int} {tss : List (List Int)} {a b : Nat} (g : GoodB ns) (R : Rows ns.length tss) (ha : a < tss.length) (hb : b < tss.length) (ne : a ≠ b) : ns[(cellI ns tss a b).toNat]? = some (cellI ns tss b a) := by
  have inv : ∀ {a b : Nat}, a < tss.length → b < a → ns[(cellI ns tss a b).toNat]? = some (cellI ns tss b a) ∧ ns[(cellI ns tss b a).toNat]? = some (cellI ns tss a b) := by
    intro a b ha c
    have e := List.getElem?_eq_getElem ha
    obtain ⟨r1, r2⟩ := R a _ e
    have e2 := List.getElem?_eq_getElem (l := tss[a]) (i := b) (by omega)
    have q := r2 _ (List.getElem_mem (l := tss[a]) (n := b) (by omega))
    have u1 : cellI ns tss a b = tss[a][b] := by
      unfold cellI
      rw [if_pos c, e]
      show (tss[a][b]?).getD 0 = _
      rw [e2]
      rfl
    generalize tss[a][b] = t at *
    have e3 := List.getElem?_eq_getElem (l := ns) (i := t.toNat) (by omega)
    have u2 : cellI ns tss b a = ns[t.toNat]'(by omega) := by
      unfold cellI
      rw [if_neg (by omega), e]
      show ns[((tss[a][b]?).getD 0).toNat]?.getD 0 = _
      rw [e2]
      show ns[t.toNat]?.getD 0 = _
      rw [e3]
      rfl
    rw [u1, u2]
    refine ⟨e3, ?_⟩
    rw [g.inv _ _ e3, Int.toNat_of_nonneg q.1]
  rcases Nat.lt_or_ge b a with c | c
  · exact (inv ha c).1
  · exact (inv hb (show a < b by omega)).2
theorem subT_cell {ns : List Int} {tss : List (List Int)} {js : List Nat} {a b x y : Nat} (g : GoodB ns) (R : Rows ns.length tss) (hj : ∀ j ∈ js, j < tss.length) (nd : js.Nodup) (ea : js[a]? = some x) (eb : js[b]? = some y) (ne : a ≠ b) : cell ns (subT ns tss js js.length) a b = cell ns tss x y := by
  have xy := nodup_ne nd ne ea eb
  have hx := hj _ (List.mem_of_getElem? ea)
  have hy := hj _ (List.mem_of_getElem? eb)
  have la := (List.getElem?_eq_some_iff.mp ea).1
  have lb := (List.getElem?_eq_some_iff.mp eb).1
  have row : ∀ {a b x y : Nat}, js[a]? = some x → js[b]? = some y → a < js.length → b < a → (((subT ns tss js js.length)[a]?).getD [])[b]? = some (cellI ns tss x y) := by
    intro a b x y ea eb la c
    unfold subT
    rw [List.getElem?_map, List.getElem?_range la]
    show (rowT ns tss js a)[b]? = _
    unfold rowT
    rw [List.getElem?_map, List.getElem?_range c, ea]
    show some (cellI ns tss x ((js[b]?).getD 0)) = _
    rw [eb]
    rfl
  rw [(cell_int g R hx hy xy).1]
  unfold cell
  rcases Nat.lt_or_ge b a with c | c
  · rw [if_pos c, row ea eb la c]
  · rw [if_neg (by omega), if_pos (by omega), row eb ea lb (by omega)]
    show V.int (ns[(cellI ns tss y x).toNat]?.getD 0) = _
    rw [cellI_inv g R hy hx (fun e => xy e.symm)]
    rfl
theorem RenOk.nd {is : List Int} {d : List (Int × Int)} {ls : List Int} {js : List Nat} (h : RenOk is d ls js) : js.Nodup := h.perm.nodup_iff.mpr List.nodup_range
theorem RenOk.lt {is : List Int} {d : List (Int × Int)} {ls : List Int} {js : List Nat} (h : RenOk is d ls js) : ∀ j ∈ js, j < is.length := fun j hj => by
  have := h.perm.mem_iff.mp hj
  rwa [List.mem_range] at this
/-- each pair stands at one place of either company -/
theorem RenOk.seats {is : List Int} {d : List (Int × Int)} {ls : List Int} {js : List Nat} (h : RenOk is d ls js) (a : Asc is) (g : NGood is d) {p : Int × Int} (hp : p ∈ d) : ∃ i j, js[i]? = some j ∧ seat is (.int p.1) = some j ∧ seat ls (.int p.2) = some i := by
  obtain ⟨j, hj, ej⟩ := List.mem_iff_getElem.mp (g.1 p hp).1
  have ej' : is[j]? = some p.1 := by rw [List.getElem?_eq_getElem hj, ej]
  have jm : j ∈ js := h.perm.mem_iff.mpr (List.mem_range.mpr hj)
  obtain ⟨i, hi, ei⟩ := List.mem_iff_getElem.mp jm
  have ei' : js[i]? = some j := by rw [List.getElem?_eq_getElem hi, ei]
  have el := List.getElem?_eq_getElem (l := ls) (i := i) (by rw [h.len]; exact hi)
  obtain ⟨n, en, lk⟩ := h.at_ i _ j el ei'
  obtain rfl : p.1 = n := Option.some.inj (ej'.symm.trans en)
  have e2 := nodup_map_inj g.2.1 hp (look_mem lk) rfl
  refine ⟨i, j, ei', seat_at a ej', seat_at h.asc ?_⟩
  rw [el, e2]
theorem asc_nodup {ls : List Int} (a : Asc ls) : ls.Nodup := by
  show ls.Pairwise (· ≠ ·)
  rw [List.pairwise_iff_getElem]
  intro i j hi hj ij e
  have e1 := List.getElem?_eq_getElem hi
  have e2 := List.getElem?_eq_getElem hj
  rw [← e] at e2
  have := a.inj e1 e2
  omega
theorem perm_of_sub : ∀ {L S : List Int}, L.Nodup → (∀ x ∈ L, x ∈ S) → S.length ≤ L.length → L.Perm S
  | [], S, _, _, h => by
    have : S = [] := List.eq_nil_of_length_eq_zero (by simpa using h)
    rw [this]
  | x :: xs, S, n, h, l => by
    rw [List.nodup_cons] at n
    have m := h x List.mem_cons_self
    have q := perm_of_sub (L := xs) (S := S.erase x) n.2 (fun y hy => by
      have ne : y ≠ x := fun e => n.1 (e ▸ hy)
      exact (List.mem_erase_of_ne ne).mpr (h y (List.mem_cons_of_mem _ hy))) (by
      rw [List.length_erase_of_mem m]
      rw [List.length_cons] at l
      omega)
    exact (q.cons x).trans (List.perm_cons_erase m).symm
/-- the new labels are the second parts of the pairs -/
theorem RenOk.news {is : List Int} {d : List (Int × Int)} {ls : List Int} {js : List Nat} (h : RenOk is d ls js) (g : NGood is d) : ls.Perm (d.map Prod.snd) := by
  refine perm_of_sub (asc_nodup h.asc) (fun x hx => ?_) ?_
  · obtain ⟨i, hi, ei⟩ := List.mem_iff_getElem.mp hx
    have e1 : ls[i]? = some x := by rw [List.getElem?_eq_getElem hi, ei]
    have e2 := List.getElem?_eq_getElem (l := js) (i := i) (by rw [← h.len]; exact hi)
    obtain ⟨n, _, lk⟩ := h.at_ i x _ e1 e2
    exact List.mem_map.mpr ⟨_, look_mem lk, rfl⟩
  · rw [List.length_map, h.len, h.perm.length_eq, List.length_range]
    have := ints_sub (L := d.map Prod.fst) (S := is) g.2.1 fun x hx => by
      obtain ⟨z, hz, rfl⟩ := List.mem_map.mp hx
      exact (g.1 z hz).1
    rwa [List.length_map] at this
/-- two orders of the same whole numbers, the one ascending -/
theorem asc_sorted {ls zs : List Int} (a : Asc ls) (p : zs.Perm ls) (s : zs.Pairwise (· ≤ ·)) : zs = ls := by
  have sl : ls.Pairwise (· ≤ ·) := by
    rw [List.pairwise_iff_getElem]
    intro i j hi hj ij
    have := a.lt (j - i - 1) i _ _ (List.getElem?_eq_getElem hi) (by rw [show i + 1 + (j - i - 1) = j by omega]; exact List.getElem?_eq_getElem hj)
    omega
  exact p.eq_of_pairwise (fun x y _ _ h1 h2 => by omega) s sl
end J

set_option Elab.async false
set_option linter.all false
set_option maxRecDepth 100000
set_option maxHeartbeats 8000000
namespace J
open PySem PySem.Spec PyProof.Rows L2
abbrev s_Lpairs_asked : Stmt := top 38
theorem sc_Lpairs_asked : FnScope ["_law_company", "_law_labels_here", "_law_pairs_here", "_law_other", "e", "_law_old", "_law_new", "_law_i", "_law_j", "_law_pair"] ["_law_company", "_law_labels_here", "_law_pairs_here"] (defScope s_Lpairs_asked) := ⟨rfl, rfl, rfl, by decide +kernel, rfl, by decide +kernel, by decide +kernel⟩
theorem prAll_run {is : List Int} {s : Sh} {ss : List Sh} {d : List (Int × Int)} (h : prAll is s ss = .inr d) : prRun is ss [] = .inr d ∧ (s.isL || s.isT) = true := by
  unfold prAll at h
  split at h
  · rename_i c
    refine ⟨?_, c⟩
    cases q : prRun is ss [] with
    | inl w => rw [q] at h; cases h
    | inr e =>
      rw [q] at h
      have h : (if e.length < is.length then Sum.inl ("guest" : Str) else .inr e) = .inr d := h
      split at h
      · cases h
      · exact h
  · cases h
theorem prOne_items {is : List Int} {d : List (Int × Int)} {s : Sh} {p : Int × Int} (h : prOne is d s = .inr p) : (s.isL || s.isT) = true ∧ items s = [.int p.1, .int p.2] := by
  unfold prOne at h
  split at h
  · rename_i c
    refine ⟨c, ?_⟩
    split at h
    · rename_i o n e
      split at h
      · rename_i h1
        split at h
        · rename_i h2
          obtain rfl : (toI o, toI n) = p := Sum.inr.inj h
          obtain ⟨q1, q2⟩ := Bool.and_eq_true_iff.mp h1
          obtain ⟨q3, q4⟩ := Bool.and_eq_true_iff.mp h2
          obtain ⟨j, hj⟩ := Option.isSome_iff_exists.mp q1
          obtain ⟨m, rfl, hm, _⟩ := seat_some hj
          obtain ⟨k, rfl, k0, k1⟩ := whole_int q3
          exact e
        · cases h
      · cases h
    · cases h
  · cases h
theorem prRun_at {is : List Int} : ∀ {ss : List Sh} {d e : List (Int × Int)}, prRun is ss d = .inr e → ∃ f, e = d ++ f ∧ f.length = ss.length ∧ ∀ (i : Nat) (s : Sh), ss[i]? = some s → ∃ p, f[i]? = some p ∧ (s.isL || s.isT) = true ∧ items s = [.int p.1, .int p.2]
  | [], d, e, h => by
    obtain rfl : d = e := Sum.inr.inj h
    exact ⟨[], (List.append_nil _).symm, rfl, fun i s q => by simp at q⟩
  | s :: ss, d, e, h => by
    have h' : (match prOne is d s with | .inl w => Sum.inl w | .inr p => prRun is ss (d ++ [p])) = .inr e := h
    cases q : prOne is d s with
    | inl w => rw [q] at h'; cases h'
    | inr p =>
      rw [q] at h'
      obtain ⟨f, rfl, fl, hf⟩ := prRun_at h'
      refine ⟨p :: f, by rw [List.append_assoc]; rfl, by rw [List.length_cons, List.length_cons, fl], fun i s' es => ?_⟩
      cases i with
      | zero =>
        rw [List.getElem?_cons_zero] at es
        obtain rfl : s = s' := Option.some.inj es
        exact ⟨p, rfl, prOne_items q⟩
      | succ i =>
        rw [List.getElem?_cons_succ] at es
        rw [List.getElem?_cons_succ]
        exact hf i s' es
/-- where right pairs stand -/
theorem pairs_at {is : List Int} {H : Hp} {xs : List V} {ss : List Sh} {d : List (Int × Int)} (h : prRun is ss [] = .inr d) (sa : ShAll H xs ss) (noL : ∀ s ∈ ss, s.isL = false) : d.length = xs.length ∧ ∀ (i : Nat) (y : V), xs[i]? = some y → ∃ (p : Int × Int) (q : Addr), d[i]? = some p ∧ y = .ref q ∧ H q = some (.tup [.int p.1, .int p.2]) := by
  obtain ⟨f, ef, fl, hf⟩ := prRun_at h
  obtain rfl : d = f := ef
  refine ⟨by rw [fl, sa.len'], fun i y hy => ?_⟩
  obtain ⟨s, es, iss, _⟩ := sa.at_ hy
  obtain ⟨p, ep, st, it⟩ := hf i s es
  have nl := noL s (List.mem_of_getElem? es)
  cases s with
  | sc u => cases st
  | dk => cases st
  | lst us => cases nl
  | tup us =>
    obtain ⟨q, rfl, hq⟩ := iss
    obtain rfl : us = _ := it
    exact ⟨p, q, ep, rfl, hq⟩
theorem lk_w1 {v : V} : List.lookup ("what" : Str) ([("what", v)] : List (Str × V)) = some v := by simp [List.lookup]
def spPAsk (C CC : Addr) : Sp := fun vs H Q _ => ∃ (x : Addr) (ns is : List Int) (tss : List (List Int)) (lv v : V) (s : Sh) (ss : List Sh), vs = [.ref x, lv, v] ∧ CompAt C CC H x ns is tss ∧ GoodB ns ∧ Is H v s ∧ Known H (items s) ∧ ShAll H (items s) ss ∧ ss.length ≤ 900 ∧ (∀ s ∈ ss, s.isL = false) ∧
  ∀ (H' : Hp), Same H H' → Q (match prAll is s ss with | .inl w => .str w | .inr _ => .non) H'
section
variable {P : Program} {w : World} {K : PySem.W.Frag} {mg : Str → Option Value} {base : Heap}
theorem ok_Lpairs_asked {f C CC CR CN CL fN fT fX fE : Addr} {fd fdN fdT fdX fdE : FuncData} (F : Fun K "_law_pairs_asked" "_law_pairs_asked" s_Lpairs_asked f fd) (c : CoC K CC) (nli : mg "list" = none) (nso : mg "sorted" = none) (nr : mg "range" = none) (nl : mg "len" = none)
    (GN : Mt P w K mg base (L2.CX P w) 8 CC "renamed" fN fdN ["self", "pairs"] (spRen C CC CR)) (GT : Mt P w K mg base (L2.CX P w) 5 CC "tie_of" fT fdT ["self", "x", "y"] (spCTie C CC CN CL)) (GX : Ex P w K mg base "BadRenaming" "what" CR fX fdX ["self", "what"])
    (FE : FnOk P w K mg base CX0 1 fE fdE ["self", "other"] (spTEq C)) (aE : PySem.W.findIn K (.ref C) "__eq__" = some (some (.ref fE))) (nE : PySem.W.findIn K (.ref C) "__ne__" = some (some (.builtin "object.__ne__"))) (mE : PySem.W.mroIn K C (.type "object") = some true) (iE : PySem.W.isFn K (.ref fE) = true) (bE : Binds K fdE ["self", "other"] []) :
    FnOk P w K mg base CX0 9 f fd ["_law_company", "_law_labels_here", "_law_pairs_here"] (spPAsk C CC) := by
  refine F.ok sc_Lpairs_asked (fun vs H Q E h => ?_) (fun cdv A outer s H vs Q E hr h => ?_)
  · obtain ⟨x, ns, is, tss, lv, v, s, ss, rfl, _⟩ := h
    rfl
  · obtain ⟨x, ns, is, tss, lv, v, s, ss, rfl, hC, gb, hv, kn, sa, s900, noL, k⟩ := h
    obtain ⟨dx, t, g, r, b, p, ps, kvs0, a1, a2, a3, a4, a5, a6, a7, a8, a9, a10, a11⟩ := id hC
    have R : Rows ns.length tss := fun j ts et => by
      have hj := (List.getElem?_eq_some_iff.mp et).1
      have ep := List.getElem?_eq_getElem (l := ps) (i := j) (by have := a4.2.1; omega)
      exact (a4.2.2 j _ ts ep et).2
    cases s with
    | sc u =>
      refine ⟨_, (pss_cons 
  (ps_try_as (i := 4) (Wout := fun _ _ _ _ => False) rfl rfl sc_Lpairs_asked.nd rfl rfl ⟨rfl, by decide, Or.inl GX.m⟩ takes0 (fun W pn xe tk _ => (pss_one 
    (ps_set (i := 3) sc_Lpairs_asked.nd rfl (Or.inl rfl) (by exact (pmetS (pv 0) c.cl GN.M GN.F hr GN.b (fun σ => passAt tk σ) (by exact (pa_cons (pv 2) pa_nil))))))) (fun a oe cls d pn hz hf => (pss_one 
    (ps_ret (pe_xf GX.xf GX.no hz hf (pv 4)))))) (pss_cons 
  (ps_setLc (i := 5) (own := [("_law_pair", 9)]) (g := gName 9) rfl sc_Lpairs_asked.nd rfl rfl (sw_true rfl rfl rfl (by decide +kernel)) (pi_list (pv 2)) (blkOk_by (own := [("_law_pair", 9)]) (N := ["_law_company", "_law_labels_here", "_law_pairs_here", "_law_other", "e", "_law_old", "_law_new", "_law_i", "_law_j", "_law_pair"]) (sc := defScope s_Lpairs_asked) (by decide +kernel)) (fun _ _ _ _ _ => pg_name (i := 9) sc_Lpairs_asked.nd rfl (Or.inl rfl)) (fun _ _ _ _ _ => pts_nil) (fun _ _ _ _ _ => (pe_ix (r := rIxT K) ix_tup (pv 9) pe_int (fun _ _ => rfl)))) (pss_cons 
  (ps_setLc (i := 6) (own := [("_law_pair", 9)]) (g := gName 9) rfl sc_Lpairs_asked.nd rfl rfl (sw_true rfl rfl rfl (by decide +kernel)) (pi_list (pv 2)) (blkOk_by (own := [("_law_pair", 9)]) (N := ["_law_company", "_law_labels_here", "_law_pairs_here", "_law_other", "e", "_law_old", "_law_new", "_law_i", "_law_j", "_law_pair"]) (sc := defScope s_Lpairs_asked) (by decide +kernel)) (fun _ _ _ _ _ => pg_name (i := 9) sc_Lpairs_asked.nd rfl (Or.inl rfl)) (fun _ _ _ _ _ => pts_nil) (fun _ _ _ _ _ => (pe_ix (r := rIxT K) ix_tup (pv 9) pe_int (fun _ _ => rfl)))) (pss_cons 
  (ps_if (PW.pt (pw_or (pt_cmpR (op_neD hr.units) (pe_callTy (T := "list") (r := fun xs H Q => ∃ p ys, xs = [.ref p] ∧ (SqL K H p ys ∨ SqT K H p ys) ∧ ∀ l, H l = none → Q (.ref l) (upd H l (.lst ys))) call_list_of (by rfl) nli (by decide +kernel) (pa_cons (pe_fld (pv 3) rfl) pa_nil)) (pe_callB (id := "sorted") (r := rSortedI K) cr_sortedI (by rfl) nso (by decide +kernel) (pa_cons (pv 6) pa_nil)) (nomark _)) (pw_or1 (pt_cmpR (op_neOwn (E := fun _ _ _ => False) FE aE nE mE iE bE (hr.mono (by decide))) (pe_fld (pv 3) rfl) (pe_fld (pv 0) rfl) (by rfl))))) (pss_one 
    (ps_ret pe_str)) pss_nil) (pss_cons 
  (ps_for PassesOwn.never rfl (pi_range1 (by rfl) nr (pa_cons (pe_callB call_len_seq (by rfl) nl PySem.boot_len (pa_cons (pv 5) pa_nil)) pa_nil)) (pg_name (i := 7) sc_Lpairs_asked.nd rfl (Or.inl rfl)) (pss_one 
    (ps_for PassesOwn.never rfl (pi_range1 (by rfl) nr (pa_cons (pe_callB call_len_seq (by rfl) nl PySem.boot_len (pa_cons (pv 5) pa_nil)) pa_nil)) (pg_name (i := 8) sc_Lpairs_asked.nd rfl (Or.inl rfl)) (pss_one 
      (ps_if (PW.pt (pw_and (pt_cmpR op_ne (pv 7) (pv 8) (nomark _)) (pw_and1 (pt_cmpR op_ne (pe_meth (pv 3) c.cl GT.M GT.F (hr.mono (by decide)) GT.b .nil passL (pa_cons (pe_ix ix_list (pv 6) (pv 7) (fun _ _ => rfl)) (pa_cons (pe_ix ix_list (pv 6) (pv 8) (fun _ _ => rfl)) pa_nil))) (pe_meth (pv 0) c.cl GT.M GT.F (hr.mono (by decide)) GT.b .nil passL (pa_cons (pe_ix ix_list (pv 5) (pv 7) (fun _ _ => rfl)) (pa_cons (pe_ix ix_list (pv 5) (pv 8) (fun _ _ => rfl)) pa_nil))) (nomark _))))) (pss_one 
        (ps_ret pe_str)) pss_nil))))) (pss_one 
  (ps_ret pe_non))))))), ?_⟩
      refine ⟨_, rfl, x, dx, _, rfl, a1, cf_no _ _ _ _ _ (by decide +kernel) (by decide +kernel) (by decide +kernel) (by decide +kernel) (by decide +kernel), _, rfl, x, ns, is, tss, v, _, ss, rfl, hC, gb, hv, kn, sa, by omega, noL, fun u eu d H1 nd S e => ⟨true, GX.te, fun _ a ha => ⟨_, rfl, rfl, rfl, d, _, _, rfl, e, lk_w1, (by have z := k _ S; rw [eu] at z; exact z)⟩, fun q => nomatch q⟩, fun d ed H1 z ls js S1 ren cC => ?_⟩
      cases ed
    | dk =>
      refine ⟨_, (pss_cons 
  (ps_try_as (i := 4) (Wout := fun _ _ _ _ => False) rfl rfl sc_Lpairs_asked.nd rfl rfl ⟨rfl, by decide, Or.inl GX.m⟩ takes0 (fun W pn xe tk _ => (pss_one 
    (ps_set (i := 3) sc_Lpairs_asked.nd rfl (Or.inl rfl) (by exact (pmetS (pv 0) c.cl GN.M GN.F hr GN.b (fun σ => passAt tk σ) (by exact (pa_cons (pv 2) pa_nil))))))) (fun a oe cls d pn hz hf => (pss_one 
    (ps_ret (pe_xf GX.xf GX.no hz hf (pv 4)))))) (pss_cons 
  (ps_setLc (i := 5) (own := [("_law_pair", 9)]) (g := gName 9) rfl sc_Lpairs_asked.nd rfl rfl (sw_true rfl rfl rfl (by decide +kernel)) (pi_list (pv 2)) (blkOk_by (own := [("_law_pair", 9)]) (N := ["_law_company", "_law_labels_here", "_law_pairs_here", "_law_other", "e", "_law_old", "_law_new", "_law_i", "_law_j", "_law_pair"]) (sc := defScope s_Lpairs_asked) (by decide +kernel)) (fun _ _ _ _ _ => pg_name (i := 9) sc_Lpairs_asked.nd rfl (Or.inl rfl)) (fun _ _ _ _ _ => pts_nil) (fun _ _ _ _ _ => (pe_ix (r := rIxT K) ix_tup (pv 9) pe_int (fun _ _ => rfl)))) (pss_cons 
  (ps_setLc (i := 6) (own := [("_law_pair", 9)]) (g := gName 9) rfl sc_Lpairs_asked.nd rfl rfl (sw_true rfl rfl rfl (by decide +kernel)) (pi_list (pv 2)) (blkOk_by (own := [("_law_pair", 9)]) (N := ["_law_company", "_law_labels_here", "_law_pairs_here", "_law_other", "e", "_law_old", "_law_new", "_law_i", "_law_j", "_law_pair"]) (sc := defScope s_Lpairs_asked) (by decide +kernel)) (fun _ _ _ _ _ => pg_name (i := 9) sc_Lpairs_asked.nd rfl (Or.inl rfl)) (fun _ _ _ _ _ => pts_nil) (fun _ _ _ _ _ => (pe_ix (r := rIxT K) ix_tup (pv 9) pe_int (fun _ _ => rfl)))) (pss_cons 
  (ps_if (PW.pt (pw_or (pt_cmpR (op_neD hr.units) (pe_callTy (T := "list") (r := fun xs H Q => ∃ p ys, xs = [.ref p] ∧ (SqL K H p ys ∨ SqT K H p ys) ∧ ∀ l, H l = none → Q (.ref l) (upd H l (.lst ys))) call_list_of (by rfl) nli (by decide +kernel) (pa_cons (pe_fld (pv 3) rfl) pa_nil)) (pe_callB (id := "sorted") (r := rSortedI K) cr_sortedI (by rfl) nso (by decide +kernel) (pa_cons (pv 6) pa_nil)) (nomark _)) (pw_or1 (pt_cmpR (op_neOwn (E := fun _ _ _ => False) FE aE nE mE iE bE (hr.mono (by decide))) (pe_fld (pv 3) rfl) (pe_fld (pv 0) rfl) (by rfl))))) (pss_one 
    (ps_ret pe_str)) pss_nil) (pss_cons 
  (ps_for PassesOwn.never rfl (pi_range1 (by rfl) nr (pa_cons (pe_callB call_len_seq (by rfl) nl PySem.boot_len (pa_cons (pv 5) pa_nil)) pa_nil)) (pg_name (i := 7) sc_Lpairs_asked.nd rfl (Or.inl rfl)) (pss_one 
    (ps_for PassesOwn.never rfl (pi_range1 (by rfl) nr (pa_cons (pe_callB call_len_seq (by rfl) nl PySem.boot_len (pa_cons (pv 5) pa_nil)) pa_nil)) (pg_name (i := 8) sc_Lpairs_asked.nd rfl (Or.inl rfl)) (pss_one 
      (ps_if (PW.pt (pw_and (pt_cmpR op_ne (pv 7) (pv 8) (nomark _)) (pw_and1 (pt_cmpR op_ne (pe_meth (pv 3) c.cl GT.M GT.F (hr.mono (by decide)) GT.b .nil passL (pa_cons (pe_ix ix_list (pv 6) (pv 7) (fun _ _ => rfl)) (pa_cons (pe_ix ix_list (pv 6) (pv 8) (fun _ _ => rfl)) pa_nil))) (pe_meth (pv 0) c.cl GT.M GT.F (hr.mono (by decide)) GT.b .nil passL (pa_cons (pe_ix ix_list (pv 5) (pv 7) (fun _ _ => rfl)) (pa_cons (pe_ix ix_list (pv 5) (pv 8) (fun _ _ => rfl)) pa_nil))) (nomark _))))) (pss_one 
        (ps_ret pe_str)) pss_nil))))) (pss_one 
  (ps_ret pe_non))))))), ?_⟩
      refine ⟨_, rfl, x, dx, _, rfl, a1, cf_no _ _ _ _ _ (by decide +kernel) (by decide +kernel) (by decide +kernel) (by decide +kernel) (by decide +kernel), _, rfl, x, ns, is, tss, v, _, ss, rfl, hC, gb, hv, kn, sa, by omega, noL, fun u eu d H1 nd S e => ⟨true, GX.te, fun _ a ha => ⟨_, rfl, rfl, rfl, d, _, _, rfl, e, lk_w1, (by have z := k _ S; rw [eu] at z; exact z)⟩, fun q => nomatch q⟩, fun d ed H1 z ls js S1 ren cC => ?_⟩
      cases ed
    | lst xs =>
      refine ⟨_, (pss_cons 
  (ps_try_as (i := 4) (Wout := fun _ _ _ _ => False) rfl rfl sc_Lpairs_asked.nd rfl rfl ⟨rfl, by decide, Or.inl GX.m⟩ takes0 (fun W pn xe tk _ => (pss_one 
    (ps_set (i := 3) sc_Lpairs_asked.nd rfl (Or.inl rfl) (by exact (pmetS (pv 0) c.cl GN.M GN.F hr GN.b (fun σ => passAt tk σ) (by exact (pa_cons (pv 2) pa_nil))))))) (fun a oe cls d pn hz hf => (pss_one 
    (ps_ret (pe_xf GX.xf GX.no hz hf (pv 4)))))) (pss_cons 
  (ps_setLc (i := 5) (own := [("_law_pair", 9)]) (g := gName 9) rfl sc_Lpairs_asked.nd rfl rfl (sw_true rfl rfl rfl (by decide +kernel)) (pi_list (pv 2)) (blkOk_by (own := [("_law_pair", 9)]) (N := ["_law_company", "_law_labels_here", "_law_pairs_here", "_law_other", "e", "_law_old", "_law_new", "_law_i", "_law_j", "_law_pair"]) (sc := defScope s_Lpairs_asked) (by decide +kernel)) (fun _ _ _ _ _ => pg_name (i := 9) sc_Lpairs_asked.nd rfl (Or.inl rfl)) (fun _ _ _ _ _ => pts_nil) (fun _ _ _ _ _ => (pe_ix (r := rIxT K) ix_tup (pv 9) pe_int (fun _ _ => rfl)))) (pss_cons 
  (ps_setLc (i := 6) (own := [("_law_pair", 9)]) (g := gName 9) rfl sc_Lpairs_asked.nd rfl rfl (sw_true rfl rfl rfl (by decide +kernel)) (pi_list (pv 2)) (blkOk_by (own := [("_law_pair", 9)]) (N := ["_law_company", "_law_labels_here", "_law_pairs_here", "_law_other", "e", "_law_old", "_law_new", "_law_i", "_law_j", "_law_pair"]) (sc := defScope s_Lpairs_asked) (by decide +kernel)) (fun _ _ _ _ _ => pg_name (i := 9) sc_Lpairs_asked.nd rfl (Or.inl rfl)) (fun _ _ _ _ _ => pts_nil) (fun _ _ _ _ _ => (pe_ix (r := rIxT K) ix_tup (pv 9) pe_int (fun _ _ => rfl)))) (pss_cons 
  (ps_if (PW.pt (pw_or (pt_cmpR (op_neD hr.units) (pe_callTy (T := "list") (r := fun xs H Q => ∃ p ys, xs = [.ref p] ∧ (SqL K H p ys ∨ SqT K H p ys) ∧ ∀ l, H l = none → Q (.ref l) (upd H l (.lst ys))) call_list_of (by rfl) nli (by decide +kernel) (pa_cons (pe_fld (pv 3) rfl) pa_nil)) (pe_callB (id := "sorted") (r := rSortedI K) cr_sortedI (by rfl) nso (by decide +kernel) (pa_cons (pv 6) pa_nil)) (nomark _)) (pw_or1 (pt_cmpR (op_neOwn (E := fun _ _ _ => False) FE aE nE mE iE bE (hr.mono (by decide))) (pe_fld (pv 3) rfl) (pe_fld (pv 0) rfl) (by rfl))))) (pss_one 
    (ps_ret pe_str)) pss_nil) (pss_cons 
  (ps_for PassesOwn.never rfl (pi_range1 (by rfl) nr (pa_cons (pe_callB call_len_seq (by rfl) nl PySem.boot_len (pa_cons (pv 5) pa_nil)) pa_nil)) (pg_name (i := 7) sc_Lpairs_asked.nd rfl (Or.inl rfl)) (pss_one 
    (ps_for PassesOwn.never rfl (pi_range1 (by rfl) nr (pa_cons (pe_callB call_len_seq (by rfl) nl PySem.boot_len (pa_cons (pv 5) pa_nil)) pa_nil)) (pg_name (i := 8) sc_Lpairs_asked.nd rfl (Or.inl rfl)) (pss_one 
      (ps_if (PW.pt (pw_and (pt_cmpR op_ne (pv 7) (pv 8) (nomark _)) (pw_and1 (pt_cmpR op_ne (pe_meth (pv 3) c.cl GT.M GT.F (hr.mono (by decide)) GT.b .nil passL (pa_cons (pe_ix ix_list (pv 6) (pv 7) (fun _ _ => rfl)) (pa_cons (pe_ix ix_list (pv 6) (pv 8) (fun _ _ => rfl)) pa_nil))) (pe_meth (pv 0) c.cl GT.M GT.F (hr.mono (by decide)) GT.b .nil passL (pa_cons (pe_ix ix_list (pv 5) (pv 7) (fun _ _ => rfl)) (pa_cons (pe_ix ix_list (pv 5) (pv 8) (fun _ _ => rfl)) pa_nil))) (nomark _))))) (pss_one 
        (ps_ret pe_str)) pss_nil))))) (pss_one 
  (ps_ret pe_non))))))), ?_⟩
      refine ⟨_, rfl, x, dx, _, rfl, a1, cf_no _ _ _ _ _ (by decide +kernel) (by decide +kernel) (by decide +kernel) (by decide +kernel) (by decide +kernel), _, rfl, x, ns, is, tss, v, _, ss, rfl, hC, gb, hv, kn, sa, by omega, noL, fun u eu d H1 nd S e => ⟨true, GX.te, fun _ a ha => ⟨_, rfl, rfl, rfl, d, _, _, rfl, e, lk_w1, (by have z := k _ S; rw [eu] at z; exact z)⟩, fun q => nomatch q⟩, fun d ed H1 z ls js S1 ren cC => ?_⟩
      obtain ⟨run, _⟩ := prAll_run ed
      obtain ⟨gd, _⟩ := prAll_ok ed
      obtain ⟨dl, pr⟩ := pairs_at run sa noL
      have xl : xs.length ≤ 900 := by
        have q : ss.length = xs.length := sa.len'
        omega
      have dl : d.length = xs.length := dl
      obtain ⟨pa, rfl, hp⟩ := hv
      have hp1 := S1 _ _ hp
      refine ⟨_, rfl, pa, rfl, ⟨_, SqL.of hp1⟩, fun D1 hD1 => ?_⟩
      refine lc_list (K := K) (a := pa) (xs := xs) (fun n H' => Same H1 H' ∧ H1 D1 = none ∧ H' D1 = some (.lst (((d.take n).map Prod.fst).map V.int))) ⟨new_same hD1, hD1, upd_same⟩ (fun n H' _ ⟨S, _⟩ => SqL.of (S _ _ hp1)) ?_ ?_
      · rintro n y H' hy ⟨S, D0, e2⟩
        obtain ⟨p', q, ep, rfl, hq⟩ := pr n y hy
        have hn := (List.getElem?_eq_some_iff.mp ep).1
        refine ⟨rfl, yesT ?_⟩
        refine ⟨_, rfl, q, _, _, _, rfl, rfl, SqT.of (S _ _ (S1 _ _ hq)), at_of (j := 0) rfl rfl, _, e2, small1000 (by rw [List.length_map, List.length_map, List.length_take]; omega), fun a o e => ?_, D0, by rw [upd_same, List.take_add_one, ep, List.map_append, List.map_append]; rfl⟩
        rw [upd_ne (ne_of_none e D0)]
        exact S _ _ e
      rintro H2 ⟨SH2, D0H2, eD1⟩
      rw [← dl, List.take_length] at eD1
      have hp2 := SH2 _ _ hp1
      have S12 := S1.trans SH2
      refine ⟨_, rfl, pa, rfl, ⟨_, SqL.of hp2⟩, fun D2 hD2 => ?_⟩
      refine lc_list (K := K) (a := pa) (xs := xs) (fun n H' => Same H2 H' ∧ H2 D2 = none ∧ H' D2 = some (.lst (((d.take n).map Prod.snd).map V.int))) ⟨new_same hD2, hD2, upd_same⟩ (fun n H' _ ⟨S, _⟩ => SqL.of (S _ _ hp2)) ?_ ?_
      · rintro n y H' hy ⟨S, D0, e2⟩
        obtain ⟨p', q, ep, rfl, hq⟩ := pr n y hy
        have hn := (List.getElem?_eq_some_iff.mp ep).1
        refine ⟨rfl, yesT ?_⟩
        refine ⟨_, rfl, q, _, _, _, rfl, rfl, SqT.of (S _ _ (S12 _ _ hq)), at_of (j := 1) rfl rfl, _, e2, small1000 (by rw [List.length_map, List.length_map, List.length_take]; omega), fun a o e => ?_, D0, by rw [upd_same, List.take_add_one, ep, List.map_append, List.map_append]; rfl⟩
        rw [upd_ne (ne_of_none e D0)]
        exact S _ _ e
      rintro H3 ⟨SH3, D0H3, eD2⟩
      rw [← dl, List.take_length] at eD2
      have S03 := S12.trans SH3
      have eD13 := SH3 _ _ eD1
      have cZ := cC.keep (SH2.trans SH3)
      have cX := hC.keep S03
      generalize hH : H3 = H4 at *
      clear hH
      obtain ⟨dz, tz, gz, rz, bz, pz, psz, kvz, z1, z2, z3, z4, z5, z6, z7, z8, z9, z10, z11⟩ := id cZ
      obtain ⟨dx', t', g', r', b', p', ps', kvs', b1, b2, b3, b4, b5, b6, b7, b8, b9, b10, b11⟩ := id cX
      refine ⟨_, rfl, z, CC, dz, _, _, rfl, z1, c.cl, c.nG, cf_guests _ _ _ _ _, gz, _, rfl, .inr (SqT.of z3), fun l hl => ?_⟩
      have S4 := new_same (o := .lst (ls.map V.int)) hl
      refine ⟨_, rfl, D2, _, rfl, SqL.of (S4 _ _ eD2), fun zs l2 pm pw hl2 => ?_⟩
      obtain rfl : zs = ls := asc_sorted ren.asc (pm.trans (ren.news gd).symm) pw
      refine ⟨_, _, .lst (SqL.of (new_same hl2 _ _ upd_same)) (dp_ints zs), .lst (SqL.of upd_same) (dp_ints zs), shaped_li zs, shaped_li zs, _, rfl, if_fa (by rw [eqv_li]; simp) ?_⟩
      have S5 := S4.trans (new_same (o := .lst (zs.map V.int)) hl2)
      generalize upd (upd H4 l (.lst (zs.map V.int))) l2 (.lst (zs.map V.int)) = H5 at S5
      have cZ := cZ.keep S5
      have cX := cX.keep S5
      have tZ := z2.keep S5
      have tX := b2.keep S5
      obtain ⟨dt, ut, q1, q2⟩ := id tZ
      obtain ⟨dt', ut', q1', q2'⟩ := id tX
      refine ⟨_, rfl, z, CC, dz, _, _, rfl, S5 _ _ z1, c.cl, c.nT, cf_ties _ _ _ _ _, _, rfl, x, CC, dx', _, _, rfl, S5 _ _ b1, c.cl, c.nT, cf_ties _ _ _ _ _, tz, t', dt, _, dt', _, rfl, rfl, q1, q1', ⟨tz, t', ns, rfl, tZ, .inl ⟨ns, tX, _, rfl, _, rfl, ?_⟩⟩⟩
      refine if_fa (by simp) ?_
      have f1 := S5 _ _ eD13
      have f2 := S5 _ _ eD2
      have S05 := S03.trans S5
      refine ⟨_, rfl, D1, _, rfl, .inl (SqL.of f1), (d.length : Nat), by simp, by omega, by omega, for_range (lo := 0) (n := d.length) (fun i σ H' => H5 = H' ∧ ∃ v7 v8 v9, σ = [some (.ref x), some lv, some (.ref pa), some (.ref z), none, some (.ref D1), some (.ref D2), v7, v8, v9]) ⟨rfl, none, none, none, rfl⟩ ?_ ?_⟩
      · rintro i σ H' hi ⟨rfl, v7, v8, v9, rfl⟩
        refine ⟨_, rfl, D1, _, rfl, .inl (SqL.of f1), (d.length : Nat), by simp, by omega, by omega, for_range (lo := 0) (n := d.length) (fun j σ H' => H5 = H' ∧ ∃ v8 v9, σ = [some (.ref x), some lv, some (.ref pa), some (.ref z), none, some (.ref D1), some (.ref D2), some (.int (0 + (i : Nat))), v8, v9]) ⟨rfl, _, _, rfl⟩ ?_ ?_⟩
        · rintro j σ H' hj ⟨rfl, v8, v9, rfl⟩
          refine ⟨_, rfl, _, rfl, rfl, _, rfl, ?_⟩
          by_cases ij : i = j
          · subst ij
            exact if_fa (by simp) (iteF ⟨rfl, _, _, rfl⟩)
          refine if_tr (by simp; omega) ?_
          have ei := List.getElem?_eq_getElem hi
          have ej := List.getElem?_eq_getElem hj
          have mi := List.getElem_mem hi
          have mj := List.getElem_mem hj
          generalize d[i] = pi at ei mi
          generalize d[j] = pj at ej mj
          obtain ⟨ia, ja, h1, h2, h3⟩ := ren.seats a8 gd mi
          obtain ⟨ib, jb, h4, h5, h6⟩ := ren.seats a8 gd mj
          have nab : ja ≠ jb := fun q => by
            subst q
            obtain ⟨m, em, hm, _⟩ := seat_some h2
            obtain ⟨m', em', hm', _⟩ := seat_some h5
            obtain rfl : pi.1 = m := by injection em
            obtain rfl : pj.1 = m' := by injection em'
            have q2 : pi.1 = pj.1 := Option.some.inj (hm.symm.trans hm')
            exact ij ((List.getElem?_inj (by rw [List.length_map]; exact hi) gd.2.1 (j := j)).mp (by rw [List.getElem?_map, List.getElem?_map, ei, ej]; exact congrArg some q2))
          have nI : ia ≠ ib := fun q => by
            subst q
            exact nab (Option.some.inj (h1.symm.trans h4))
          have cc := subT_cell gb R (fun j hj => by rw [a9]; exact ren.lt j hj) ren.nd h1 h4 nI
          have ci := (cell_int gb R (a := ja) (b := jb) (by rw [a9]; exact ren.lt _ (List.mem_of_getElem? h1)) (by rw [a9]; exact ren.lt _ (List.mem_of_getElem? h4)) nab).1
          refine ⟨_, rfl, z, dz, _, rfl, S5 _ _ z1, cf_no _ _ _ _ _ (by decide +kernel) (by decide +kernel) (by decide +kernel) (by decide +kernel) (by decide +kernel), _, rfl, _, rfl, D2, _, _, _, rfl, rfl, SqL.of f2, at_of (j := i) (v := .int pi.2) (by omega) (by rw [List.getElem?_map, List.getElem?_map, ei]; rfl), _, rfl, _, rfl, D2, _, _, _, rfl, rfl, SqL.of f2, at_of (j := j) (v := .int pj.2) (by omega) (by rw [List.getElem?_map, List.getElem?_map, ej]; rfl), z, ns, zs, _, _, _, .sc (.int pi.2), .sc (.int pj.2), rfl, cZ, ⟨rfl, rfl⟩, ⟨rfl, rfl⟩, (fun q => by rw [h3] at q; cases q), (fun _ _ q => by rw [h6] at q; cases q), (fun i1 q q' => by rw [h3] at q; rw [h6] at q'; exact absurd ((Option.some.inj q).trans (Option.some.inj q').symm) nI), fun i1 i2 q q' _ => ?_⟩
          obtain rfl : ia = i1 := Option.some.inj (h3.symm.trans q)
          obtain rfl : ib = i2 := Option.some.inj (h6.symm.trans q')
          refine ⟨_, rfl, x, dx', _, rfl, S5 _ _ b1, cf_no _ _ _ _ _ (by decide +kernel) (by decide +kernel) (by decide +kernel) (by decide +kernel) (by decide +kernel), _, rfl, _, rfl, D1, _, _, _, rfl, rfl, SqL.of f1, at_of (j := i) (v := .int pi.1) (by omega) (by rw [List.getElem?_map, List.getElem?_map, ei]; rfl), _, rfl, _, rfl, D1, _, _, _, rfl, rfl, SqL.of f1, at_of (j := j) (v := .int pj.1) (by omega) (by rw [List.getElem?_map, List.getElem?_map, ej]; rfl), x, ns, is, tss, _, _, .sc (.int pi.1), .sc (.int pj.1), rfl, cX, ⟨rfl, rfl⟩, ⟨rfl, rfl⟩, (fun q => by rw [h2] at q; cases q), (fun _ _ q => by rw [h5] at q; cases q), (fun i1 q q' => by rw [h2] at q; rw [h5] at q'; exact absurd ((Option.some.inj q).trans (Option.some.inj q').symm) nab), fun j1 j2 q q' _ => ?_⟩
          obtain rfl : ja = j1 := Option.some.inj (h2.symm.trans q)
          obtain rfl : jb = j2 := Option.some.inj (h5.symm.trans q')
          refine ⟨by rw [cc, ci]; rfl, _, rfl, if_fa (by rw [cc]; simp) ⟨rfl, _, _, rfl⟩⟩
        · rintro σ H' ⟨rfl, v8, v9, rfl⟩
          exact ⟨rfl, _, _, _, rfl⟩
      · rintro σ H' ⟨rfl, v7, v8, v9, rfl⟩
        have z := k _ S05
        rw [ed] at z
        exact z
    | tup xs =>
      refine ⟨_, (pss_cons 
  (ps_try_as (i := 4) (Wout := fun _ _ _ _ => False) rfl rfl sc_Lpairs_asked.nd rfl rfl ⟨rfl, by decide, Or.inl GX.m⟩ takes0 (fun W pn xe tk _ => (pss_one 
    (ps_set (i := 3) sc_Lpairs_asked.nd rfl (Or.inl rfl) (by exact (pmetS (pv 0) c.cl GN.M GN.F hr GN.b (fun σ => passAt tk σ) (by exact (pa_cons (pv 2) pa_nil))))))) (fun a oe cls d pn hz hf => (pss_one 
    (ps_ret (pe_xf GX.xf GX.no hz hf (pv 4)))))) (pss_cons 
  (ps_setLc (i := 5) (own := [("_law_pair", 9)]) (g := gName 9) rfl sc_Lpairs_asked.nd rfl rfl (sw_true rfl rfl rfl (by decide +kernel)) (pi_tup (pv 2)) (blkOk_by (own := [("_law_pair", 9)]) (N := ["_law_company", "_law_labels_here", "_law_pairs_here", "_law_other", "e", "_law_old", "_law_new", "_law_i", "_law_j", "_law_pair"]) (sc := defScope s_Lpairs_asked) (by decide +kernel)) (fun _ _ _ _ _ => pg_name (i := 9) sc_Lpairs_asked.nd rfl (Or.inl rfl)) (fun _ _ _ _ _ => pts_nil) (fun _ _ _ _ _ => (pe_ix (r := rIxT K) ix_tup (pv 9) pe_int (fun _ _ => rfl)))) (pss_cons 
  (ps_setLc (i := 6) (own := [("_law_pair", 9)]) (g := gName 9) rfl sc_Lpairs_asked.nd rfl rfl (sw_true rfl rfl rfl (by decide +kernel)) (pi_tup (pv 2)) (blkOk_by (own := [("_law_pair", 9)]) (N := ["_law_company", "_law_labels_here", "_law_pairs_here", "_law_other", "e", "_law_old", "_law_new", "_law_i", "_law_j", "_law_pair"]) (sc := defScope s_Lpairs_asked) (by decide +kernel)) (fun _ _ _ _ _ => pg_name (i := 9) sc_Lpairs_asked.nd rfl (Or.inl rfl)) (fun _ _ _ _ _ => pts_nil) (fun _ _ _ _ _ => (pe_ix (r := rIxT K) ix_tup (pv 9) pe_int (fun _ _ => rfl)))) (pss_cons 
  (ps_if (PW.pt (pw_or (pt_cmpR (op_neD hr.units) (pe_callTy (T := "list") (r := fun xs H Q => ∃ p ys, xs = [.ref p] ∧ (SqL K H p ys ∨ SqT K H p ys) ∧ ∀ l, H l = none → Q (.ref l) (upd H l (.lst ys))) call_list_of (by rfl) nli (by decide +kernel) (pa_cons (pe_fld (pv 3) rfl) pa_nil)) (pe_callB (id := "sorted") (r := rSortedI K) cr_sortedI (by rfl) nso (by decide +kernel) (pa_cons (pv 6) pa_nil)) (nomark _)) (pw_or1 (pt_cmpR (op_neOwn (E := fun _ _ _ => False) FE aE nE mE iE bE (hr.mono (by decide))) (pe_fld (pv 3) rfl) (pe_fld (pv 0) rfl) (by rfl))))) (pss_one 
    (ps_ret pe_str)) pss_nil) (pss_cons 
  (ps_for PassesOwn.never rfl (pi_range1 (by rfl) nr (pa_cons (pe_callB call_len_seq (by rfl) nl PySem.boot_len (pa_cons (pv 5) pa_nil)) pa_nil)) (pg_name (i := 7) sc_Lpairs_asked.nd rfl (Or.inl rfl)) (pss_one 
    (ps_for PassesOwn.never rfl (pi_range1 (by rfl) nr (pa_cons (pe_callB call_len_seq (by rfl) nl PySem.boot_len (pa_cons (pv 5) pa_nil)) pa_nil)) (pg_name (i := 8) sc_Lpairs_asked.nd rfl (Or.inl rfl)) (pss_one 
      (ps_if (PW.pt (pw_and (pt_cmpR op_ne (pv 7) (pv 8) (nomark _)) (pw_and1 (pt_cmpR op_ne (pe_meth (pv 3) c.cl GT.M GT.F (hr.mono (by decide)) GT.b .nil passL (pa_cons (pe_ix ix_list (pv 6) (pv 7) (fun _ _ => rfl)) (pa_cons (pe_ix ix_list (pv 6) (pv 8) (fun _ _ => rfl)) pa_nil))) (pe_meth (pv 0) c.cl GT.M GT.F (hr.mono (by decide)) GT.b .nil passL (pa_cons (pe_ix ix_list (pv 5) (pv 7) (fun _ _ => rfl)) (pa_cons (pe_ix ix_list (pv 5) (pv 8) (fun _ _ => rfl)) pa_nil))) (nomark _))))) (pss_one 
        (ps_ret pe_str)) pss_nil))))) (pss_one 
  (ps_ret pe_non))))))), ?_⟩
      refine ⟨_, rfl, x, dx, _, rfl, a1, cf_no _ _ _ _ _ (by decide +kernel) (by decide +kernel) (by decide +kernel) (by decide +kernel) (by decide +kernel), _, rfl, x, ns, is, tss, v, _, ss, rfl, hC, gb, hv, kn, sa, by omega, noL, fun u eu d H1 nd S e => ⟨true, GX.te, fun _ a ha => ⟨_, rfl, rfl, rfl, d, _, _, rfl, e, lk_w1, (by have z := k _ S; rw [eu] at z; exact z)⟩, fun q => nomatch q⟩, fun d ed H1 z ls js S1 ren cC => ?_⟩
      obtain ⟨run, _⟩ := prAll_run ed
      obtain ⟨gd, _⟩ := prAll_ok ed
      obtain ⟨dl, pr⟩ := pairs_at run sa noL
      have xl : xs.length ≤ 900 := by
        have q : ss.length = xs.length := sa.len'
        omega
      have dl : d.length = xs.length := dl
      obtain ⟨pa, rfl, hp⟩ := hv
      have hp1 := S1 _ _ hp
      refine ⟨_, rfl, pa, rfl, ⟨_, SqT.of hp1⟩, fun D1 hD1 => ?_⟩
      refine lc_tup (K := K) (a := pa) (xs := xs) (fun n H' => Same H1 H' ∧ H1 D1 = none ∧ H' D1 = some (.lst (((d.take n).map Prod.fst).map V.int))) ⟨new_same hD1, hD1, upd_same⟩ (fun n H' _ ⟨S, _⟩ => SqT.of (S _ _ hp1)) ?_ ?_
      · rintro n y H' hy ⟨S, D0, e2⟩
        obtain ⟨p', q, ep, rfl, hq⟩ := pr n y hy
        have hn := (List.getElem?_eq_some_iff.mp ep).1
        refine ⟨rfl, yesT ?_⟩
        refine ⟨_, rfl, q, _, _, _, rfl, rfl, SqT.of (S _ _ (S1 _ _ hq)), at_of (j := 0) rfl rfl, _, e2, small1000 (by rw [List.length_map, List.length_map, List.length_take]; omega), fun a o e => ?_, D0, by rw [upd_same, List.take_add_one, ep, List.map_append, List.map_append]; rfl⟩
        rw [upd_ne (ne_of_none e D0)]
        exact S _ _ e
      rintro H2 ⟨SH2, D0H2, eD1⟩
      rw [← dl, List.take_length] at eD1
      have hp2 := SH2 _ _ hp1
      have S12 := S1.trans SH2
      refine ⟨_, rfl, pa, rfl, ⟨_, SqT.of hp2⟩, fun D2 hD2 => ?_⟩
      refine lc_tup (K := K) (a := pa) (xs := xs) (fun n H' => Same H2 H' ∧ H2 D2 = none ∧ H' D2 = some (.lst (((d.take n).map Prod.snd).map V.int))) ⟨new_same hD2, hD2, upd_same⟩ (fun n H' _ ⟨S, _⟩ => SqT.of (S _ _ hp2)) ?_ ?_
      · rintro n y H' hy ⟨S, D0, e2⟩
        obtain ⟨p', q, ep, rfl, hq⟩ := pr n y hy
        have hn := (List.getElem?_eq_some_iff.mp ep).1
        refine ⟨rfl, yesT ?_⟩
        refine ⟨_, rfl, q, _, _, _, rfl, rfl, SqT.of (S _ _ (S12 _ _ hq)), at_of (j := 1) rfl rfl, _, e2, small1000 (by rw [List.length_map, List.length_map, List.length_take]; omega), fun a o e => ?_, D0, by rw [upd_same, List.take_add_one, ep, List.map_append, List.map_append]; rfl⟩
        rw [upd_ne (ne_of_none e D0)]
        exact S _ _ e
      rintro H3 ⟨SH3, D0H3, eD2⟩
      rw [← dl, List.take_length] at eD2
      have S03 := S12.trans SH3
      have eD13 := SH3 _ _ eD1
      have cZ := cC.keep (SH2.trans SH3)
      have cX := hC.keep S03
      generalize hH : H3 = H4 at *
      clear hH
      obtain ⟨dz, tz, gz, rz, bz, pz, psz, kvz, z1, z2, z3, z4, z5, z6, z7, z8, z9, z10, z11⟩ := id cZ
      obtain ⟨dx', t', g', r', b', p', ps', kvs', b1, b2, b3, b4, b5, b6, b7, b8, b9, b10, b11⟩ := id cX
      refine ⟨_, rfl, z, CC, dz, _, _, rfl, z1, c.cl, c.nG, cf_guests _ _ _ _ _, gz, _, rfl, .inr (SqT.of z3), fun l hl => ?_⟩
      have S4 := new_same (o := .lst (ls.map V.int)) hl
      refine ⟨_, rfl, D2, _, rfl, SqL.of (S4 _ _ eD2), fun zs l2 pm pw hl2 => ?_⟩
      obtain rfl : zs = ls := asc_sorted ren.asc (pm.trans (ren.news gd).symm) pw
      refine ⟨_, _, .lst (SqL.of (new_same hl2 _ _ upd_same)) (dp_ints zs), .lst (SqL.of upd_same) (dp_ints zs), shaped_li zs, shaped_li zs, _, rfl, if_fa (by rw [eqv_li]; simp) ?_⟩
      have S5 := S4.trans (new_same (o := .lst (zs.map V.int)) hl2)
      generalize upd (upd H4 l (.lst (zs.map V.int))) l2 (.lst (zs.map V.int)) = H5 at S5
      have cZ := cZ.keep S5
      have cX := cX.keep S5
      have tZ := z2.keep S5
      have tX := b2.keep S5
      obtain ⟨dt, ut, q1, q2⟩ := id tZ
      obtain ⟨dt', ut', q1', q2'⟩ := id tX
      refine ⟨_, rfl, z, CC, dz, _, _, rfl, S5 _ _ z1, c.cl, c.nT, cf_ties _ _ _ _ _, _, rfl, x, CC, dx', _, _, rfl, S5 _ _ b1, c.cl, c.nT, cf_ties _ _ _ _ _, tz, t', dt, _, dt', _, rfl, rfl, q1, q1', ⟨tz, t', ns, rfl, tZ, .inl ⟨ns, tX, _, rfl, _, rfl, ?_⟩⟩⟩
      refine if_fa (by simp) ?_
      have f1 := S5 _ _ eD13
      have f2 := S5 _ _ eD2
      have S05 := S03.trans S5
      refine ⟨_, rfl, D1, _, rfl, .inl (SqL.of f1), (d.length : Nat), by simp, by omega, by omega, for_range (lo := 0) (n := d.length) (fun i σ H' => H5 = H' ∧ ∃ v7 v8 v9, σ = [some (.ref x), some lv, some (.ref pa), some (.ref z), none, some (.ref D1), some (.ref D2), v7, v8, v9]) ⟨rfl, none, none, none, rfl⟩ ?_ ?_⟩
      · rintro i σ H' hi ⟨rfl, v7, v8, v9, rfl⟩
        refine ⟨_, rfl, D1, _, rfl, .inl (SqL.of f1), (d.length : Nat), by simp, by omega, by omega, for_range (lo := 0) (n := d.length) (fun j σ H' => H5 = H' ∧ ∃ v8 v9, σ = [some (.ref x), some lv, some (.ref pa), some (.ref z), none, some (.ref D1), some (.ref D2), some (.int (0 + (i : Nat))), v8, v9]) ⟨rfl, _, _, rfl⟩ ?_ ?_⟩
        · rintro j σ H' hj ⟨rfl, v8, v9, rfl⟩
          refine ⟨_, rfl, _, rfl, rfl, _, rfl, ?_⟩
          by_cases ij : i = j
          · subst ij
            exact if_fa (by simp) (iteF ⟨rfl, _, _, rfl⟩)
          refine if_tr (by simp; omega) ?_
          have ei := List.getElem?_eq_getElem hi
          have ej := List.getElem?_eq_getElem hj
          have mi := List.getElem_mem hi
          have mj := List.getElem_mem hj
          generalize d[i] = pi at ei mi
          generalize d[j] = pj at ej mj
          obtain ⟨ia, ja, h1, h2, h3⟩ := ren.seats a8 gd mi
          obtain ⟨ib, jb, h4, h5, h6⟩ := ren.seats a8 gd mj
          have nab : ja ≠ jb := fun q => by
            subst q
            obtain ⟨m, em, hm, _⟩ := seat_some h2
            obtain ⟨m', em', hm', _⟩ := seat_some h5
            obtain rfl : pi.1 = m := by injection em
            obtain rfl : pj.1 = m' := by injection em'
            have q2 : pi.1 = pj.1 := Option.some.inj (hm.symm.trans hm')
            exact ij ((List.getElem?_inj (by rw [List.length_map]; exact hi) gd.2.1 (j := j)).mp (by rw [List.getElem?_map, List.getElem?_map, ei, ej]; exact congrArg some q2))
          have nI : ia ≠ ib := fun q => by
            subst q
            exact nab (Option.some.inj (h1.symm.trans h4))
          have cc := subT_cell gb R (fun j hj => by rw [a9]; exact ren.lt j hj) ren.nd h1 h4 nI
          have ci := (cell_int gb R (a := ja) (b := jb) (by rw [a9]; exact ren.lt _ (List.mem_of_getElem? h1)) (by rw [a9]; exact ren.lt _ (List.mem_of_getElem? h4)) nab).1
          refine ⟨_, rfl, z, dz, _, rfl, S5 _ _ z1, cf_no _ _ _ _ _ (by decide +kernel) (by decide +kernel) (by decide +kernel) (by decide +kernel) (by decide +kernel), _, rfl, _, rfl, D2, _, _, _, rfl, rfl, SqL.of f2, at_of (j := i) (v := .int pi.2) (by omega) (by rw [List.getElem?_map, List.getElem?_map, ei]; rfl), _, rfl, _, rfl, D2, _, _, _, rfl, rfl, SqL.of f2, at_of (j := j) (v := .int pj.2) (by omega) (by rw [List.getElem?_map, List.getElem?_map, ej]; rfl), z, ns, zs, _, _, _, .sc (.int pi.2), .sc (.int pj.2), rfl, cZ, ⟨rfl, rfl⟩, ⟨rfl, rfl⟩, (fun q => by rw [h3] at q; cases q), (fun _ _ q => by rw [h6] at q; cases q), (fun i1 q q' => by rw [h3] at q; rw [h6] at q'; exact absurd ((Option.some.inj q).trans (Option.some.inj q').symm) nI), fun i1 i2 q q' _ => ?_⟩
          obtain rfl : ia = i1 := Option.some.inj (h3.symm.trans q)
          obtain rfl : ib = i2 := Option.some.inj (h6.symm.trans q')
          refine ⟨_, rfl, x, dx', _, rfl, S5 _ _ b1, cf_no _ _ _ _ _ (by decide +kernel) (by decide +kernel) (by decide +kernel) (by decide +kernel) (by decide +kernel), _, rfl, _, rfl, D1, _, _, _, rfl, rfl, SqL.of f1, at_of (j := i) (v := .int pi.1) (by omega) (by rw [List.getElem?_map, List.getElem?_map, ei]; rfl), _, rfl, _, rfl, D1, _, _, _, rfl, rfl, SqL.of f1, at_of (j := j) (v := .int pj.1) (by omega) (by rw [List.getElem?_map, List.getElem?_map, ej]; rfl), x, ns, is, tss, _, _, .sc (.int pi.1), .sc (.int pj.1), rfl, cX, ⟨rfl, rfl⟩, ⟨rfl, rfl⟩, (fun q => by rw [h2] at q; cases q), (fun _ _ q => by rw [h5] at q; cases q), (fun i1 q q' => by rw [h2] at q; rw [h5] at q'; exact absurd ((Option.some.inj q).trans (Option.some.inj q').symm) nab), fun j1 j2 q q' _ => ?_⟩
          obtain rfl : ja = j1 := Option.some.inj (h2.symm.trans q)
          obtain rfl : jb = j2 := Option.some.inj (h5.symm.trans q')
          refine ⟨by rw [cc, ci]; rfl, _, rfl, if_fa (by rw [cc]; simp) ⟨rfl, _, _, rfl⟩⟩
        · rintro σ H' ⟨rfl, v8, v9, rfl⟩
          exact ⟨rfl, _, _, _, rfl⟩
      · rintro σ H' ⟨rfl, v7, v8, v9, rfl⟩
        have z := k _ S05
        rw [ed] at z
        exact z
end
end J

set_option Elab.async false
set_option linter.all false
set_option maxRecDepth 100000
set_option maxHeartbeats 8000000
namespace J
open PySem PySem.Spec PyProof.Rows L2
abbrev s_Lpairs : Stmt := top 37
theorem sc_Lpairs : FnScope ["_law_hand_here", "_law_labels_here", "_law_news", "_law_pairs_here", "_law_turn", "_law_sort", "_law_place", "_law_k"] ["_law_hand_here", "_law_labels_here"] (defScope s_Lpairs) := ⟨rfl, rfl, rfl, by decide +kernel, rfl, by decide +kernel, by decide +kernel⟩
def rNeE (K : PySem.W.Frag) : R2 := fun x y H Q => ∃ a b xs, x = .ref a ∧ y = .ref b ∧ SqL K H a xs ∧ SqL K H b [] ∧ Q (.bl (!xs.isEmpty)) H
theorem op_neE {X : Cx} (hu : X.A.units + 64 < cLine) : OpR X (compareOp .NotEq) (rNeE X.K) := by
  intro pins s σ H x y v u Q I rx ry ⟨a, b, xs, ex, ey, ha, hb, q⟩
  subst ex
  subst ey
  obtain rfl : v = Value.ref a := rx
  obtain rfl : u = Value.ref b := ry
  obtain ⟨us, r1, p1, _⟩ := I.list ha
  obtain ⟨ws, r2, p2, _⟩ := I.list hb
  have l1 := r1.length
  have l2 : 0 = ws.length := r2.length
  cases xs with
  | nil =>
    have l1 : 0 = us.length := l1
    have k := SeqAt.RcNeAt.lists (A := X.A) (e := fun _ => true) p1.isList p2.isList (by simp; omega) (by omega) (fun j h1 h2 => absurd h1 (by simp; omega))
    refine k X.prog X.w _ _ ?_
    rw [show ((List.range us.toArray.size).all fun _ => true) = true from List.all_eq_true.mpr fun _ _ => rfl]
    exact ⟨.bl false, H, I, rfl, q⟩
  | cons x xs =>
    have l1 : xs.length + 1 = us.length := l1
    have k := SeqAt.RcNeAt.lists_lengths (A := X.A) p1.isList p2.isList (by simp; omega) (by omega)
    exact k X.prog X.w _ _ ⟨.bl true, H, I, rfl, q⟩
/-- scalars whose words are of known signs -/
def okSc : V → Bool
  | .str x => PyData.strOk x | v => isSc v
theorem okSc_sc {v : V} (h : okSc v = true) : isSc v = true := by
  cases v <;> first | rfl | exact h
/-- an item of the pairs that are handed over -/
def ItemAt (H : Hp) (y : V) : Prop := okSc y = true ∨ ∃ q us, y = .ref q ∧ H q = some (.tup us) ∧ ∀ u ∈ us, okSc u = true
def ItemsAt (H : Hp) (xs : List V) : Prop := ∀ y ∈ xs, ItemAt H y
def TupK (H H' : Hp) : Prop := ∀ a us, H a = some (.tup us) → H' a = some (.tup us)
theorem ItemAt.keep {H H' : Hp} {y : V} (h : ItemAt H y) (f : TupK H H') : ItemAt H' y := by
  rcases h with h | ⟨q, us, e, e2, u⟩
  · exact .inl h
  · exact .inr ⟨q, us, e, f _ _ e2, u⟩
theorem ItemsAt.keep {H H' : Hp} {xs : List V} (h : ItemsAt H xs) (f : TupK H H') : ItemsAt H' xs := fun y hy => (h y hy).keep f
theorem TupK.but {H H' : Hp} {h q : Addr} (B : But h H H') (x : Hand H h q) : TupK H H' := fun a us e => B _ _ (fun ne => by
  obtain ⟨cs, i, r, t, e1, _⟩ := x
  rw [ne, e1] at e
  cases e) e
theorem TupK.put {H : Hp} {P : Addr} {xs ys : List V} (e : H P = some (.lst xs)) : TupK H (upd H P (.lst ys)) := fun a us e' => by
  rw [upd_ne (fun ne => by rw [ne, e] at e'; cases e')]
  exact e'
theorem TupK.same {H H' : Hp} (S : Same H H') : TupK H H' := fun a us e => S _ _ e
/-- the pairs as they grow -/
structure PSt (H : Hp) (h q N P : Addr) (ys xs : List V) (Hx : Hp) : Prop where
  e : Hx P = some (.lst xs)
  i : ItemsAt Hx xs
  n : Hx N = some (.lst ys)
  hd : Hand Hx h q
  b : But h H Hx
  Ph : P ≠ h
  Pq : P ≠ q
  Nh : N ≠ h
  NP : N ≠ P
  P0 : H P = none
theorem PSt.but {H : Hp} {h q N P : Addr} {ys xs : List V} {Hx H2 : Hp} (s : PSt H h q N P ys xs Hx) (B : But h Hx H2) (h2 : Hand H2 h q) : PSt H h q N P ys xs H2 :=
  ⟨B _ _ s.Ph s.e, s.i.keep (TupK.but B s.hd), B _ _ s.Nh s.n, h2, s.b.trans B, s.Ph, s.Pq, s.Nh, s.NP, s.P0⟩
theorem PSt.same {H : Hp} {h q N P : Addr} {ys xs : List V} {Hx H2 : Hp} (s : PSt H h q N P ys xs Hx) (S : Same Hx H2) : PSt H h q N P ys xs H2 := s.but (But.same S) (s.hd.keep S)
theorem PSt.put {H : Hp} {h q N P : Addr} {ys xs zs : List V} {Hx : Hp} (s : PSt H h q N P ys xs Hx) (hz : ItemsAt Hx zs) : PSt H h q N P ys zs (upd Hx P (.lst zs)) :=
  ⟨upd_same, hz.keep (TupK.put s.e), by rw [upd_ne s.NP]; exact s.n, s.hd.put s.Ph.symm s.Pq.symm, s.b.put2 s.P0, s.Ph, s.Pq, s.Nh, s.NP, s.P0⟩
theorem items_ins {H : Hp} {xs : List V} {k : Nat} {y : V} (h : ItemsAt H xs) (hy : ItemAt H y) : ItemsAt H (xs.take k ++ [y] ++ xs.drop k) := fun z hz => by
  rcases List.mem_append.mp hz with hz | hz
  · rcases List.mem_append.mp hz with hz | hz
    · exact h z (List.mem_of_mem_take hz)
    · rw [List.mem_singleton] at hz
      rw [hz]
      exact hy
  · exact h z (List.mem_of_mem_drop hz)
theorem len_ins {xs : List V} {k : Nat} {y : V} : (xs.take k ++ [y] ++ xs.drop k).length ≤ xs.length + 1 := by
  rw [List.length_append, List.length_append, List.length_take, List.length_drop, List.length_singleton]
  omega
def spLPairs : Sp := fun vs H Q _ => ∃ (h q la : Addr) (is : List Int), vs = [.ref h, .ref la] ∧ Hand H h q ∧ la ≠ h ∧ H la = some (.lst (is.map V.int)) ∧ is.length ≤ 60 ∧
  (∀ (H' : Hp) (P : Addr) (xs : List V), But h H H' → Hand H' h q → H P = none → H' P = some (.lst xs) → ItemsAt H' xs → xs.length ≤ 200 → Q (.ref P) H') ∧ (∀ (H' : Hp) (v : V), But h H H' → Hand H' h q → okSc v = true → Q v H')
section
variable {P : Program} {w : World} {K : PySem.W.Frag} {mg : Str → Option Value} {base : Heap}
theorem ok_Lpairs {f fD fS fL fP : Addr} {fd fdD fdS fdL fdP : FuncData} (F : Fun K "_law_pairs" "_law_pairs" s_Lpairs f fd) (nl : mg "len" = none) (nr : mg "range" = none) (nm : mg "max" = none)
    (GD : Cal P w K mg base CX0 2 "_law_draw" fD fdD ["_law_hand_here", "_law_many"] spDraw) (GS : Cal P w K mg base CX0 3 "_law_shuffled" fS fdS ["_law_hand_here", "_law_things"] spShuf) (GL : Cal P w K mg base CX0 3 "_law_labels" fL fdL ["_law_hand_here", "_law_many"] spLabels) (GP : Cal P w K mg base CX0 3 "_law_pick" fP fdP ["_law_hand_here", "_law_things"] spPick) :
    FnOk P w K mg base CX0 4 f fd ["_law_hand_here", "_law_labels_here"] spLPairs := by
  refine F.ok sc_Lpairs (fun vs H Q E h => ?_) (fun cdv A outer s H vs Q E hr h => ?_)
  · obtain ⟨h, q, la, is, rfl, _⟩ := h
    rfl
  · obtain ⟨h, q, la, is, rfl, hh, nla, ela, i60, k1, k2⟩ := h
    have hr1 : Room 2 _ := hr.mono (by decide)
    have il : (is.map V.int).length = is.length := List.length_map _
    refine ⟨_, (C8.pss_cut 
  (ps_set (i := 2) sc_Lpairs.nd rfl (Or.inr rfl) (pcal GS hr pass0 (pa_cons (pv 0) (pa_cons (pe_ifExp (pt_cmpR op_eq (pcal GD hr1 pass0 (pa_cons (pv 0) (pa_cons pe_int pa_nil))) pe_int (nomark _)) (pv 1) (pcal GL hr pass0 (pa_cons (pv 0) (pa_cons (pe_callB call_len_seq (by rfl) nl PySem.boot_len (pa_cons (pv 1) pa_nil)) pa_nil)))) pa_nil)))) (pss_cons 
  (ps_set (i := 3) sc_Lpairs.nd rfl (Or.inl rfl) (pcal GS hr pass0 (pa_cons (pv 0) (pa_cons (pe_lc (own := [("_law_k", 7)]) (g := gName 7) (by rfl) sc_Lpairs.nd (pi_range1 (by rfl) nr (pa_cons (pe_callB call_len_seq (by rfl) nl PySem.boot_len (pa_cons (pv 1) pa_nil)) pa_nil)) (blkOk_by (own := [("_law_k", 7)]) (N := ["_law_hand_here", "_law_labels_here", "_law_news", "_law_pairs_here", "_law_turn", "_law_sort", "_law_place", "_law_k"]) (sc := defScope s_Lpairs) (by decide +kernel)) (fun _ _ _ _ _ => pg_name (i := 7) sc_Lpairs.nd rfl (Or.inl rfl)) (fun _ _ _ _ _ => pts_nil) (fun _ _ _ _ _ => (pe_tup (pa_cons (pe_ix (r := rIxL K) ix_list (pv 1) (pv 7) (fun _ _ => rfl)) (pa_cons (pe_ix (r := rIxL K) ix_list (pv 2) (pv 7) (fun _ _ => rfl)) pa_nil))))) pa_nil)))) (pss_cons 
  (ps_for PassesOwn.never rfl (pi_range1 (by rfl) nr (pa_cons (pcal GD hr1 pass0 (pa_cons (pv 0) (pa_cons pe_int pa_nil))) pa_nil)) (pg_name (i := 4) sc_Lpairs.nd rfl (Or.inl rfl)) (pss_cons 
    (ps_set (i := 5) sc_Lpairs.nd rfl (Or.inl rfl) (pcal GD hr1 pass0 (pa_cons (pv 0) (pa_cons pe_int pa_nil)))) (pss_cons 
    (ps_set (i := 6) sc_Lpairs.nd rfl (Or.inl rfl) (pcal GD hr1 pass0 (pa_cons (pv 0) (pa_cons (pe_callB (call_max2 rfl) (by rfl) nm (by decide +kernel) (pa_cons pe_int (pa_cons (pe_callB call_len_seq (by rfl) nl PySem.boot_len (pa_cons (pv 3) pa_nil)) pa_nil))) pa_nil)))) (C8.pss_cut 
    (ps_if (PW.pt (pw_and (pt_cmpR op_eq (pv 5) pe_int (nomark _)) (pw_and1 (pt_cmpR (op_neE hr.units) (pv 3) (pe_lst pa_nil) (nomark _))))) (pss_one 
      (ps_expr (pe_bm PySem.F.plainAttrs_list PySem.F.slot_list_pop PySem.F.type_list_pop mt_popAt (pv 3) (pa_cons (pv 6) pa_nil)))) pss_nil) (C8.pss_cut 
    (ps_if (pt_cmpR op_eq (pv 5) pe_int (nomark _)) (pss_one 
      (ps_expr (pe_bm PySem.F.plainAttrs_list PySem.F.slot_list_insert PySem.F.type_list_insert mt_insert (pv 3) (pa_cons (pv 6) (pa_cons (pe_ix ix_list (pe_lst (pa_cons pe_non (pa_cons (pe_tup (pa_cons pe_int pa_nil)) (pa_cons (pe_tup (pa_cons pe_int (pa_cons pe_int (pa_cons pe_int pa_nil)))) (pa_cons pe_str (pa_cons pe_int (pa_cons (pe_tup pa_nil) pa_nil))))))) (pcal GD hr1 pass0 (pa_cons (pv 0) (pa_cons pe_int pa_nil))) (fun _ _ => rfl)) pa_nil))))) pss_nil) (C8.pss_cut 
    (ps_if (PW.pt (pw_and (pt_cmpR op_eq (pv 5) pe_int (nomark _)) (pw_and1 (pt_cmpR (op_neE hr.units) (pv 3) (pe_lst pa_nil) (nomark _))))) (pss_one 
      (ps_expr (pe_bm PySem.F.plainAttrs_list PySem.F.slot_list_append PySem.F.type_list_append mt_append (pv 3) (pa_cons (pe_ix ix_list (pv 3) (pv 6) (fun _ _ => rfl)) pa_nil)))) pss_nil) (C8.pss_cut 
    (ps_if (PW.pt (pw_and (pt_cmpR op_eq (pv 5) pe_int (nomark _)) (pw_and1 (pt_cmpR (op_neE hr.units) (pv 1) (pe_lst pa_nil) (nomark _))))) (pss_one 
      (ps_expr (pe_bm PySem.F.plainAttrs_list PySem.F.slot_list_insert PySem.F.type_list_insert mt_insert (pv 3) (pa_cons (pv 6) (pa_cons (pe_tup (pa_cons (pcal GP hr pass0 (pa_cons (pv 0) (pa_cons (pv 1) pa_nil))) (pa_cons (pe_ix ix_list (pe_lst (pa_cons pe_non (pa_cons pe_bl (pa_cons (pe_un un_neg pe_int) (pa_cons (pe_op op_add (pe_op op_pow pe_int pe_int) pe_int) (pa_cons (pe_ix ix_list (pv 2) pe_int (fun _ _ => rfl)) pa_nil)))))) (pcal GD hr1 pass0 (pa_cons (pv 0) (pa_cons pe_int pa_nil))) (fun _ _ => rfl)) pa_nil))) pa_nil))))) pss_nil) (pss_one 
    (ps_if (pt_cmpR op_eq (pv 5) pe_int (nomark _)) (pss_one 
      (ps_expr (pe_bm PySem.F.plainAttrs_list PySem.F.slot_list_insert PySem.F.type_list_insert mt_insert (pv 3) (pa_cons (pv 6) (pa_cons (pe_tup (pa_cons (pcal GP hr pass0 (pa_cons (pv 0) (pa_cons (pe_lst (pa_cons pe_non (pa_cons pe_bl (pa_cons (pe_un un_neg pe_int) (pa_cons (pe_op op_add (pe_op op_pow pe_int pe_int) pe_int) (pa_cons pe_str pa_nil)))))) pa_nil))) (pa_cons pe_int pa_nil))) pa_nil))))) pss_nil))))))))) (pss_cons 
  (ps_if (pt_cmpR op_eq (pcal GD hr1 pass0 (pa_cons (pv 0) (pa_cons pe_int pa_nil))) pe_int (nomark _)) (pss_one 
    (ps_ret (pe_ix ix_list (pe_lst (pa_cons pe_non (pa_cons pe_str (pa_cons pe_int pa_nil)))) (pcal GD hr1 pass0 (pa_cons (pv 0) (pa_cons pe_int pa_nil))) (fun _ _ => rfl)))) pss_nil) (pss_one 
  (ps_ret (pv 3))))))), ?_⟩
    refine ⟨fun σ' H' => ∃ (N : Addr) (ys : List V), σ' = [some (.ref h), some (.ref la), some (.ref N), none, none, none, none, none] ∧ ys.length = is.length ∧ (∀ y ∈ ys, okSc y = true) ∧ But h H H' ∧ Hand H' h q ∧ H N = none ∧ H' N = some (.lst ys), ?_, ?_⟩
    · refine ⟨_, rfl, _, rfl, h, q, 2, rfl, by decide, by decide, hh, fun b0 H1 b1 b2 B1 h1 => ⟨rfl, _, rfl, ifD (fun c => ?_) (fun c => ?_)⟩⟩
      · refine ⟨_, rfl, h, q, la, _, rfl, h1, nla, B1 _ _ nla ela, by omega, fun H2 z ys B2 h2 z0 ez pm => ⟨z, ys, rfl, by rw [pm.length_eq, il], fun y hy => ?_, B1.trans B2, h2, B1.free (h1.same_h' z0).1 z0, ez⟩⟩
        obtain ⟨n, _, rfl⟩ := List.mem_map.mp (pm.mem_iff.mp hy)
        rfl
      · refine ⟨_, rfl, _, rfl, la, _, rfl, .inl (SqL.of (B1 _ _ nla ela)), h, q, _, rfl, by omega, h1, fun H2 l ns nsl asc lab B2 h2 l0 el => ⟨h, q, l, _, rfl, h2, (h1.same_h' l0).1, el, by rw [List.length_map]; omega, fun H3 z ys B3 h3 z0 ez pm => ⟨z, ys, rfl, by rw [pm.length_eq, List.length_map, nsl, il], fun y hy => ?_, (B1.trans B2).trans B3, h3, (B1.trans B2).free (h2.same_h' z0).1 z0, ez⟩⟩⟩
        obtain ⟨n, _, rfl⟩ := List.mem_map.mp (pm.mem_iff.mp hy)
        rfl
    rintro σ' H1 ⟨N, ys, rfl, yl, ysc, B1, h1, N0, eN⟩
    have ela1 := B1 _ _ nla ela
    refine ⟨_, rfl, _, rfl, la, _, rfl, .inl (SqL.of ela1), ((is.map V.int).length : Nat), rfl, by omega, by omega, fun D hD => ?_⟩
    refine lc_range (lo := 0) (n := (is.map V.int).length) (fun i H3 => Same H1 H3 ∧ H1 D = none ∧ ∃ acc, H3 D = some (.lst acc) ∧ acc.length = i ∧ ItemsAt H3 acc) ⟨new_same hD, hD, [], upd_same, rfl, fun y hy => by cases hy⟩ ?_ ?_
    · rintro i H3 hi ⟨S, D0, acc, eD, al, ia⟩
      have ei := List.getElem?_eq_getElem hi
      have ey := List.getElem?_eq_getElem (l := ys) (i := i) (by omega)
      have sy := ysc _ (List.mem_of_getElem? ey)
      refine ⟨rfl, yesT ?_⟩
      refine ⟨_, rfl, _, rfl, la, _, _, _, rfl, rfl, SqL.of (S _ _ ela1), at_of (j := i) (by omega) ei, _, rfl, _, rfl, N, _, _, _, rfl, rfl, SqL.of (S _ _ eN), at_of (j := i) (by omega) ey, (by show 2 ≤ sizeLine; decide), fun z hz => ?_⟩
      have S4 := new_same (o := .tup [(is.map V.int)[i], ys[i]]) hz
      have zD := (ne_of_none eD hz)
      refine ⟨acc, S4 _ _ eD, small1000 (by omega), fun a o e => ?_, D0, acc ++ [.ref z], upd_same, by rw [List.length_append, al]; rfl, fun y hy => ?_⟩
      · rw [upd_ne (ne_of_none e D0)]
        exact S4 _ _ (S _ _ e)
      · rcases List.mem_append.mp hy with hy | hy
        · exact ((ia y hy).keep (TupK.same S4)).keep (TupK.put (S4 _ _ eD))
        · rw [List.mem_singleton] at hy
          refine .inr ⟨z, _, hy, by rw [upd_ne zD.symm, upd_same], fun u hu => ?_⟩
          simp only [List.mem_cons, List.not_mem_nil, or_false] at hu
          rcases hu with rfl | rfl
          · rw [List.getElem_map]
            rfl
          · exact sy
    rintro H3 ⟨S3, D0, acc, eD, al, ia⟩
    refine ⟨h, q, D, acc, rfl, h1.keep S3, (h1.same_h' D0).1, eD, by omega, fun H4 P' xs B4 h4 P0 eP pm => ?_⟩
    have h3 := h1.keep S3
    have st : PSt H h q N P' ys xs H4 := ⟨eP, fun y hy => (ia y (pm.mem_iff.mp hy)).keep (TupK.but B4 h3), B4 _ _ (hh.same_h' N0).1 (S3 _ _ eN), h4, (B1.trans (But.same S3)).trans B4, (h3.same_h' P0).1, (h3.same_h' P0).2, (hh.same_h' N0).1, ne_of_none (S3 _ _ eN) P0, (B1.trans (But.same S3)).free (h3.same_h' P0).1 P0⟩
    have xl : xs.length = is.length := by rw [pm.length_eq, al, il]
    refine ⟨_, rfl, h, q, 3, rfl, by decide, by decide, h4, fun m H5 m0 m1 B5 h5 => ⟨m, rfl, by omega, by omega, for_range (lo := 0) (n := m.toNat) (fun i σ Hx => ∃ v4 v5 v6 v7 zs, σ = [some (.ref h), some (.ref la), some (.ref N), some (.ref P'), v4, v5, v6, v7] ∧ PSt H h q N P' ys zs Hx ∧ zs.length ≤ is.length + 5 * i) ⟨none, none, none, none, xs, rfl, st.but B5 h5, by omega⟩ ?_ ?_⟩⟩
    · clear st xl eP pm B4 B5 h4 h5
      rintro i σ Hx hi ⟨v4, v5, v6, v7, xs, rfl, st, xl⟩
      refine ⟨_, rfl, h, q, 5, rfl, by decide, by decide, st.hd, fun so H6 s0 s1 B6 h6 => ?_⟩
      have st6 := st.but B6 h6
      have mx : ∃ u : Int, (if ((xs.length : Nat) : Int) > 1 then ((xs.length : Nat) : Int) else 1) = u ∧ 0 < u ∧ u ≤ 1000 ∧ u = ((max 1 xs.length : Nat) : Int) := by
        refine ⟨_, rfl, ?_⟩
        split <;> omega
      obtain ⟨u, eu, u0, u1, u2⟩ := mx
      refine ⟨_, rfl, _, rfl, P', _, rfl, .inl (SqL.of st6.e), 1, _, rfl, ?_⟩
      rw [eu]
      refine ⟨h, q, _, rfl, u0, by omega, h6, fun pl H7 p0 p1 B7 h7 => ?_⟩
      have st7 := st6.but B7 h7
      clear st st6 B6 B7 h6 h7
      have la7 := st7.b _ _ nla ela
      -- pop
      refine ⟨fun σ' H' => ∃ zs, σ' = [some (.ref h), some (.ref la), some (.ref N), some (.ref P'), some (.int (0 + (i : Nat))), some (.int so), some (.int pl), v7] ∧ PSt H h q N P' ys zs H' ∧ zs.length ≤ is.length + 5 * i + 1 ∧ (so = 2 → pl.toNat < max 1 zs.length), ?_, ?_⟩
      · refine ⟨_, rfl, rfl, _, rfl, ifD (fun c => ?_) (fun c => ⟨xs, rfl, st7, by omega, fun q => by omega⟩)⟩
        refine ⟨_, rfl, Nat.zero_le _, fun e he => ⟨P', e, xs, rfl, rfl, SqL.of (new_same he _ _ st7.e), SqL.of upd_same, _, rfl, ?_⟩⟩
        have st8 := st7.same (new_same (o := .lst []) he)
        cases hx : xs.isEmpty with
        | true => exact ⟨xs, rfl, st8, by omega, fun q => by omega⟩
        | false =>
          have x0 : 0 < xs.length := by
            rw [List.isEmpty_eq_false_iff] at hx
            exact List.length_pos_iff.mpr hx
          have hp : pl.toNat < xs.length := by omega
          refine ⟨_, rfl, .inl ⟨rfl, _, SqL.of st8.e⟩, _, rfl, P', xs, pl, pl.toNat, xs[pl.toNat], rfl, rfl, st8.e, by omega, by omega, seq_at p0 (by omega), List.getElem?_eq_getElem hp, xs.eraseIdx pl.toNat, rfl, st8.put (fun y hy => st8.i y (List.mem_of_mem_eraseIdx hy)), ?_, fun q => ?_⟩
          · have := List.length_eraseIdx_le xs pl.toNat
            omega
          · have c : so = 0 := by injection c
            omega
      rintro σ' Hy ⟨zs, rfl, st8, zl, z2⟩
      -- a strange item
      refine ⟨fun σ' H' => ∃ zs, σ' = [some (.ref h), some (.ref la), some (.ref N), some (.ref P'), some (.int (0 + (i : Nat))), some (.int so), some (.int pl), v7] ∧ PSt H h q N P' ys zs H' ∧ zs.length ≤ is.length + 5 * i + 2 ∧ (so = 2 → pl.toNat < max 1 zs.length), ?_, ?_⟩
      · refine ⟨_, rfl, rfl, _, rfl, ifD (fun c => ?_) (fun c => ⟨zs, rfl, st8, by omega, z2⟩)⟩
        refine ⟨_, rfl, .inl ⟨rfl, _, SqL.of st8.e⟩, _, rfl, (by show 1 ≤ sizeLine; decide), fun a1 ha1 => ⟨(by show 3 ≤ sizeLine; decide), fun a2 ha2 => ⟨Nat.zero_le _, fun a3 ha3 => ⟨(by show 6 ≤ sizeLine; decide), fun e he => ?_⟩⟩⟩⟩
        have t1 := new_same (o := .tup [.int 1]) ha1
        have t2 := new_same (o := .tup [.int 1, .int 2, .int 3]) ha2
        have t3 := new_same (o := .tup []) ha3
        have t4 := new_same (o := .lst [.non, .ref a1, .ref a2, .str "12", .int 5, .ref a3]) he
        have f1 := t4 _ _ (t3 _ _ (t2 _ _ upd_same))
        have f2 := t4 _ _ (t3 _ _ upd_same)
        have f3 := t4 _ _ upd_same
        have S := ((t1.trans t2).trans t3).trans t4
        have st9 := st8.same S
        refine ⟨_, rfl, h, q, 6, rfl, by decide, by decide, st9.hd, fun v H8 v0 v1 B8 h8 => ?_⟩
        have stA := st9.but B8 h8
        have TK := TupK.but B8 st9.hd
        have ee := B8 _ _ (fun q => by
          have := (st8.hd.keep ((t1.trans t2).trans t3)).same_h' he
          exact this.1 q) upd_same
        have hv : v.toNat < [V.non, .ref a1, .ref a2, .str "12", .int 5, .ref a3].length := by show v.toNat < 6; omega
        refine ⟨e, _, v, _, rfl, rfl, SqL.of ee, at_of (j := v.toNat) (by omega) (List.getElem?_eq_getElem hv), P', zs, pl, _, rfl, rfl, stA.e, small1000 (by omega), p0, by omega, _, rfl, stA.put (items_ins stA.i ?_), by have := len_ins (xs := zs) (k := pl.toNat) (y := [V.non, .ref a1, .ref a2, .str "12", .int 5, .ref a3][v.toNat]'hv); omega, fun q => ?_⟩
        · have m := List.getElem_mem hv
          simp only [List.mem_cons, List.not_mem_nil, or_false] at m
          rcases m with m | m | m | m | m | m <;> rw [m]
          · exact .inl rfl
          · exact .inr ⟨a1, _, rfl, TK _ _ f1, fun u hu => by rw [List.mem_singleton] at hu; rw [hu]; rfl⟩
          · exact .inr ⟨a2, _, rfl, TK _ _ f2, fun u hu => by simp only [List.mem_cons, List.not_mem_nil, or_false] at hu; rcases hu with rfl | rfl | rfl <;> rfl⟩
          · exact .inl (by decide +kernel)
          · exact .inl rfl
          · exact .inr ⟨a3, _, rfl, TK _ _ f3, fun u hu => by cases hu⟩
        · have c : so = 1 := by injection c
          omega
      clear st7 zl z2 st8
      rintro σ' Hy ⟨zs, rfl, st8, zl, z2⟩
      -- a pair twice
      refine ⟨fun σ' H' => ∃ zs, σ' = [some (.ref h), some (.ref la), some (.ref N), some (.ref P'), some (.int (0 + (i : Nat))), some (.int so), some (.int pl), v7] ∧ PSt H h q N P' ys zs H' ∧ zs.length ≤ is.length + 5 * i + 3, ?_, ?_⟩
      · refine ⟨_, rfl, rfl, _, rfl, ifD (fun c => ?_) (fun c => ⟨zs, rfl, st8, by omega⟩)⟩
        refine ⟨_, rfl, Nat.zero_le _, fun e he => ⟨P', e, zs, rfl, rfl, SqL.of (new_same he _ _ st8.e), SqL.of upd_same, _, rfl, ?_⟩⟩
        have st9 := st8.same (new_same (o := .lst []) he)
        cases hx : zs.isEmpty with
        | true => exact ⟨zs, rfl, st9, by omega⟩
        | false =>
          have x0 : 0 < zs.length := by
            rw [List.isEmpty_eq_false_iff] at hx
            exact List.length_pos_iff.mpr hx
          have c : so = 2 := by injection c
          have hp : pl.toNat < zs.length := by have := z2 c; omega
          refine ⟨_, rfl, .inl ⟨rfl, _, SqL.of st9.e⟩, _, rfl, _, rfl, P', _, pl, _, rfl, rfl, SqL.of st9.e, at_of (j := pl.toNat) (by omega) (List.getElem?_eq_getElem hp), P', _, _, rfl, rfl, st9.e, small1000 (by omega), _, rfl, st9.put (fun y hy => ?_), by rw [List.length_append, List.length_singleton]; omega⟩
          rcases List.mem_append.mp hy with hy | hy
          · exact st9.i y hy
          · rw [List.mem_singleton] at hy
            rw [hy]
            exact st9.i _ (List.getElem_mem hp)
      clear zl z2 st8
      rintro σ' Hy ⟨zs, rfl, st8, zl⟩
      have la8 := st8.b _ _ nla ela
      -- a strange label
      refine ⟨fun σ' H' => ∃ zs, σ' = [some (.ref h), some (.ref la), some (.ref N), some (.ref P'), some (.int (0 + (i : Nat))), some (.int so), some (.int pl), v7] ∧ PSt H h q N P' ys zs H' ∧ zs.length ≤ is.length + 5 * i + 4, ?_, ?_⟩
      · refine ⟨_, rfl, rfl, _, rfl, ifD (fun c => ?_) (fun c => ⟨zs, rfl, st8, by omega⟩)⟩
        refine ⟨_, rfl, Nat.zero_le _, fun e he => ⟨la, e, _, rfl, rfl, SqL.of (new_same he _ _ la8), SqL.of upd_same, _, rfl, ?_⟩⟩
        have st9 := st8.same (new_same (o := .lst []) he)
        have la9 := st9.b _ _ nla ela
        cases hx : (is.map V.int).isEmpty with
        | true => exact ⟨zs, rfl, st9, by omega⟩
        | false =>
          have x0 : 0 < (is.map V.int).length := by
            rw [List.isEmpty_eq_false_iff] at hx
            exact List.length_pos_iff.mpr hx
          refine ⟨_, rfl, .inl ⟨rfl, _, SqL.of st9.e⟩, _, rfl, _, rfl, _, rfl, h, q, la, _, rfl, st9.hd, nla, la9, x0, by omega, fun H9 y ym B9 h9 => ?_⟩
          have stB := st9.but B9 h9
          have y0 := List.getElem?_eq_getElem (l := ys) (i := 0) (by omega)
          have y0s := ysc _ (List.mem_of_getElem? y0)
          generalize ys[0]'(by omega) = w0 at y0 y0s
          have ysy : okSc y = true := by
            obtain ⟨n, _, rfl⟩ := List.mem_map.mp ym
            rfl
          refine ⟨_, rfl, _, _, rfl, rfl, ⟨by decide, by decide, by decide⟩, _, _, rfl, rfl, _, rfl, N, _, _, _, rfl, rfl, SqL.of stB.n, at_of (j := 0) rfl y0, (by show 5 ≤ sizeLine; decide), fun e2 he2 => ⟨_, rfl, h, q, 5, rfl, by decide, by decide, stB.hd.new he2, fun v H8 v0 v1 B8 h8 => ?_⟩⟩
          have stC := (stB.same (new_same (o := _) he2)).but B8 h8
          have ee := B8 _ _ (stB.hd.same_h' he2).1 upd_same
          have hv : v.toNat < [V.non, .bl true, .int (-1), .int (10 ^ Int.toNat 9 + 1), w0].length := by show v.toNat < 5; omega
          have sv : okSc ([V.non, .bl true, .int (-1), .int (10 ^ Int.toNat 9 + 1), w0][v.toNat]'hv) = true := by
            have m := List.getElem_mem hv
            simp only [List.mem_cons, List.not_mem_nil, or_false] at m
            rcases m with m | m | m | m | m <;> rw [m] <;> first | rfl | exact y0s
          refine ⟨e2, _, v, _, rfl, rfl, SqL.of ee, at_of (j := v.toNat) (by omega) (List.getElem?_eq_getElem hv), (by show 2 ≤ sizeLine; decide), fun z hz => ?_⟩
          have stD := stC.same (new_same (o := .tup [y, [V.non, .bl true, .int (-1), .int (10 ^ Int.toNat 9 + 1), w0][v.toNat]'hv]) hz)
          refine ⟨P', zs, pl, _, rfl, rfl, stD.e, small1000 (by omega), p0, by omega, _, rfl, stD.put (items_ins stD.i (.inr ⟨z, _, rfl, upd_same, fun u hu => ?_⟩)), by have := len_ins (xs := zs) (k := pl.toNat) (y := .ref z); omega⟩
          simp only [List.mem_cons, List.not_mem_nil, or_false] at hu
          rcases hu with rfl | rfl
          · exact ysy
          · exact sv
      clear zl la8 st8
      rintro σ' Hy ⟨zs, rfl, st8, zl⟩
      -- a strange guest
      refine ⟨_, rfl, rfl, _, rfl, ifD (fun c => ?_) (fun c => ⟨_, _, _, _, zs, rfl, st8, by omega⟩)⟩
      refine ⟨_, rfl, .inl ⟨rfl, _, SqL.of st8.e⟩, _, rfl, _, rfl, _, rfl, _, _, rfl, rfl, ⟨by decide, by decide, by decide⟩, _, _, rfl, rfl, (by show 5 ≤ sizeLine; decide), fun e he => ⟨h, q, e, _, rfl, st8.hd.new he, (st8.hd.same_h' he).1, upd_same, by decide, by decide, fun H9 y ym B9 h9 => ⟨(by show 2 ≤ sizeLine; decide), fun z hz => ?_⟩⟩⟩
      have stD := ((st8.same (new_same he)).but B9 h9).same (new_same (o := .tup [y, .int 5]) hz)
      refine ⟨P', zs, pl, _, rfl, rfl, stD.e, small1000 (by omega), p0, by omega, _, _, _, _, _, rfl, stD.put (items_ins stD.i (.inr ⟨z, _, rfl, upd_same, fun u hu => ?_⟩)), by have := len_ins (xs := zs) (k := pl.toNat) (y := .ref z); omega⟩
      simp only [List.mem_cons, List.not_mem_nil, or_false] at hu ym
      rcases hu with rfl | rfl
      · rcases ym with m | m | m | m | m <;> rw [m] <;> first | rfl | decide +kernel
      · rfl
    · rintro σ Hx ⟨v4, v5, v6, v7, zs, rfl, st, zl⟩
      refine ⟨_, rfl, h, q, 16, rfl, by decide, by decide, st.hd, fun b0 H6 b1 b2 B6 h6 => ⟨rfl, _, rfl, ?_⟩⟩
      have st6 := st.but B6 h6
      refine ifD (fun c => ?_) (fun c => ?_)
      · refine ⟨(by show 3 ≤ sizeLine; decide), fun e he => ⟨_, rfl, h, q, 3, rfl, by decide, by decide, st6.hd.new he, fun v H8 v0 v1 B8 h8 => ?_⟩⟩
        have S7 := But.trans (But.same (h := h) (new_same (o := .lst [.non, .str "ab", .int 3]) he)) B8
        have ee := B8 _ _ (st6.hd.same_h' he).1 upd_same
        have hv : v.toNat < [V.non, .str "ab", .int 3].length := by show v.toNat < 3; omega
        refine ⟨e, _, v, _, rfl, rfl, SqL.of ee, at_of (j := v.toNat) (by omega) (List.getElem?_eq_getElem hv), k2 _ _ (st6.b.trans S7) h8 ?_⟩
        have m := List.getElem_mem hv
        simp only [List.mem_cons, List.not_mem_nil, or_false] at m
        rcases m with m | m | m <;> rw [m] <;> first | rfl | decide +kernel
      · exact ⟨_, rfl, k1 _ _ _ st6.b st6.hd st6.P0 st6.e st6.i (by omega)⟩
end
end J

set_option Elab.async false
set_option linter.all false
set_option maxRecDepth 100000
set_option maxHeartbeats 8000000
namespace J
open PySem PySem.Spec PyProof.Rows L2
abbrev s_Lnewcomer : Stmt := top 34
theorem sc_Lnewcomer : FnScope ["_law_hand_here", "_law_company", "_law_backs_here", "_law_labels_here", "_law_free", "_law_label", "_law_row", "_law_sort", "_law_handed", "_law_due", "_law_told", "_law_guest", "_law_k"] ["_law_hand_here", "_law_company", "_law_backs_here", "_law_labels_here"] (defScope s_Lnewcomer) := ⟨rfl, rfl, rfl, by decide +kernel, rfl, by decide +kernel, by decide +kernel⟩
/-- a company stands while the hand is drawn from -/
theorem CompAt.but {C CC h : Addr} {H H' : Hp} {x : Addr} {ns is : List Int} {tss : List (List Int)} {ys : List V} (c : CompAt C CC H x ns is tss) (eh : H h = some (.lst ys)) (B : But h H H') : CompAt C CC H' x ns is tss := by
  obtain ⟨dx, t, g, r, b, p, ps, kvs, a1, ⟨d1, tb, w1, w2⟩, a3, ⟨r1, r2, r3⟩, ⟨us, u1, u2, u3⟩, a6, a7⟩ := c
  have one : ∀ {a : Addr} {o : HO}, H a = some o → (∀ zs, o ≠ .lst zs) → H' a = some o := fun {a o} e n => B _ _ (fun q => by
    rw [q, eh] at e
    exact n ys (Option.some.inj e).symm) e
  refine ⟨dx, t, g, r, b, p, ps, kvs, one a1 (fun _ z => by cases z), ⟨d1, tb, one w1 (fun _ z => by cases z), one w2 (fun _ z => by cases z)⟩, one a3 (fun _ z => by cases z), ⟨one r1 (fun _ z => by cases z), r2, fun j a ts e1 e2 => ?_⟩, ⟨us, one u1 (fun _ z => by cases z), u2, fun a u e => ?_⟩, one a6 (fun _ z => by cases z), a7⟩
  · obtain ⟨q1, q2⟩ := r3 j a ts e1 e2
    exact ⟨one q1 (fun _ z => by cases z), q2⟩
  · obtain ⟨xs, q1, q2⟩ := u3 a u e
    exact ⟨xs, one q1 (fun _ z => by cases z), q2⟩
abbrev rTupOf (K : PySem.W.Frag) : List V → Hp → VK → Prop := fun xs H Q => ∃ p ys, xs = [.ref p] ∧ ((SqL K H p ys ∧ ∀ l, H l = none → Q (.ref l) (upd H l (.tup ys))) ∨ (SqT K H p ys ∧ Q (.ref p) H))
/-- some label is free -/
theorem free_run {is : List Int} (a : Asc is) (h0 : ∀ n ∈ is, 0 ≤ n) : ∀ k : Nat, (∀ j, j < k → is[j]? = some (j : Int)) ∨ ∃ j, j < k ∧ ((j : Nat) : Int) ∉ is ∧ (j = 0 ∨ ((j : Nat) : Int) - 1 ∈ is)
  | 0 => .inl fun j hj => absurd hj (Nat.not_lt_zero j)
  | k + 1 => by
    rcases free_run a h0 k with h | ⟨j, h1, h2, h3⟩
    · by_cases c : ((k : Nat) : Int) ∈ is
      · refine .inl fun j hj => ?_
        rcases Nat.lt_or_ge j k with q | q
        · exact h j q
        · obtain rfl : j = k := by omega
          obtain ⟨m, em⟩ := List.getElem?_of_mem c
          rcases Nat.lt_trichotomy m j with q | q | q
          · have := (h m q).symm.trans em
            injection this with this
            omega
          · rw [q] at em
            exact em
          · have hj : j < is.length := by have := (List.getElem?_eq_some_iff.mp em).1; omega
            have ej := List.getElem?_eq_getElem hj
            have l1 := Asc.lt a (m - j - 1) j _ _ ej (by rw [show j + 1 + (m - j - 1) = m by omega]; exact em)
            have l2 := h0 _ (List.mem_of_getElem? ej)
            rcases Nat.eq_zero_or_pos j with z | z
            · omega
            · have l3 := Asc.lt a 0 (j - 1) _ _ (h (j - 1) (by omega)) (by rw [show j - 1 + 1 + 0 = j by omega]; exact ej)
              omega
      · refine .inr ⟨k, by omega, c, ?_⟩
        rcases Nat.eq_zero_or_pos k with z | z
        · exact .inl z
        · exact .inr (List.mem_of_getElem? (i := k - 1) (by rw [h (k - 1) (by omega)]; exact congrArg some (by omega)))
    · exact .inr ⟨j, by omega, h2, h3⟩
def cands (is : List Int) : List Int := [0, 3, 10 ^ Int.toNat 9] ++ is.map fun n => n + 1
def okN (is : List Int) (n : Int) : Bool := !inV (.int n) (is.map V.int) && decide (n ≤ 10 ^ Int.toNat 9)
theorem free_ex {is : List Int} (a : Asc is) (h0 : ∀ n ∈ is, 0 ≤ n ∧ n ≤ 1000000000) (l60 : is.length ≤ 60) : ∃ n ∈ cands is, okN is n = true := by
  have k : ∀ j : Nat, j < 61 → ((j : Nat) : Int) ∉ is → okN is ((j : Nat) : Int) = true := fun j hj hn => by
    unfold okN
    rw [inV_ints, decide_eq_false hn, show (10 : Int) ^ Int.toNat 9 = 1000000000 from rfl]
    simp
    omega
  rcases free_run a (fun n hn => (h0 n hn).1) 61 with h | ⟨j, h1, h2, h3⟩
  · have := (List.getElem?_eq_some_iff.mp (h 60 (by omega))).1
    omega
  · refine ⟨(j : Nat), ?_, k j h1 h2⟩
    rcases h3 with rfl | h3
    · exact List.mem_append_left _ (List.mem_cons_self ..)
    · refine List.mem_append_right _ (List.mem_map.mpr ⟨_, h3, by omega⟩)
theorem filter_take1 {α : Type} {p : α → Bool} {l : List α} {i : Nat} {x : α} (h : l[i]? = some x) : (l.take (i + 1)).filter p = (l.take i).filter p ++ if p x then [x] else [] := by
  rw [List.take_add_one, h, List.filter_append]
  congr 1
  cases c : p x <;> simp [c]
/-- the newcomer's row and label as they are drawn -/
structure WSt (H : Hp) (h q R : Addr) (v : V) (xs : List V) (Hx : Hp) : Prop where
  e : Hx R = some (.lst xs)
  i : ∀ y ∈ xs, isSc y = true
  v : isSc v = true
  hd : Hand Hx h q
  b : But h H Hx
  Rh : R ≠ h
  Rq : R ≠ q
  R0 : H R = none
theorem WSt.but {H : Hp} {h q R : Addr} {v : V} {xs : List V} {Hx H2 : Hp} (s : WSt H h q R v xs Hx) (B : But h Hx H2) (h2 : Hand H2 h q) : WSt H h q R v xs H2 :=
  ⟨B _ _ s.Rh s.e, s.i, s.v, h2, s.b.trans B, s.Rh, s.Rq, s.R0⟩
theorem WSt.same {H : Hp} {h q R : Addr} {v : V} {xs : List V} {Hx H2 : Hp} (s : WSt H h q R v xs Hx) (S : Same Hx H2) : WSt H h q R v xs H2 := s.but (But.same S) (s.hd.keep S)
theorem WSt.put {H : Hp} {h q R : Addr} {v : V} {xs zs : List V} {Hx : Hp} (s : WSt H h q R v xs Hx) (hz : ∀ y ∈ zs, isSc y = true) : WSt H h q R v zs (upd Hx R (.lst zs)) :=
  ⟨upd_same, hz, s.v, s.hd.put s.Rh.symm s.Rq.symm, s.b.put2 s.R0, s.Rh, s.Rq, s.R0⟩
theorem WSt.lab {H : Hp} {h q R : Addr} {v u : V} {xs : List V} {Hx : Hp} (s : WSt H h q R v xs Hx) (hu : isSc u = true) : WSt H h q R u xs Hx := ⟨s.e, s.i, hu, s.hd, s.b, s.Rh, s.Rq, s.R0⟩
/-- what is handed over as a row -/
def HandedAt (H : Hp) (u : V) : Prop := ∃ s : Sh, Is H u s ∧ ∀ y ∈ items s, isSc y = true
theorem HandedAt.known {H H' : Hp} {u : V} {s : Sh} (h : ∀ y ∈ items s, isSc y = true) : Known H (items s) := fun y hy => ⟨.sc y, rfl, h y hy⟩
def dueD : Option (Int × Str) → PyData
  | none => .none
  | some (i, w) => .tuple [.int i, .str w]
theorem DueAt.dp {K : PySem.W.Frag} {H : Hp} {v : V} {o : Option (Int × Str)} (h : DueAt H v o) : Dp K H v (dueD o) := by
  cases o with
  | none =>
    obtain rfl : v = .non := h
    exact .non
  | some p =>
    obtain ⟨i, w⟩ := p
    obtain ⟨a, rfl, e⟩ := h
    exact .tup (SqT.of e) (.cons (.int i) (.cons (.str w) .nil))
def WordOk (o : Option (Int × Str)) : Prop := ∀ p, o = some p → PyData.strOk p.2 = true
theorem dueD_ok {o : Option (Int × Str)} (h : WordOk o) : SeqAt.shaped (dueD o) = true := by
  cases o with
  | none => rfl
  | some p =>
    have := h p rfl
    simp [dueD, SeqAt.shaped, PyData.canLay0, PyData.canLayAll0, PyData.depth, PyData.depthAll, this]
theorem rowDue_word (m : Nat) (is : List Int) (v : V) (sr : Sh) : WordOk (rowDue m is v sr) := by
  have k : ∀ (i : Int) (w : Str) (p : Int × Str), PyData.strOk w = true → some (i, w) = some p → PyData.strOk p.2 = true := fun i w p hw e => by
    obtain rfl := Option.some.inj e
    exact hw
  have kr : ∀ w, rowW m is.length sr = some w → PyData.strOk w = true := fun w e => by
    unfold rowW at e
    split at e
    · split at e
      · split at e
        · cases e
        · obtain rfl := Option.some.inj e
          decide +kernel
      · obtain rfl := Option.some.inj e
        decide +kernel
    · obtain rfl := Option.some.inj e
      decide +kernel
  intro p e
  unfold rowDue at e
  split at e
  · exact k _ _ _ (by decide +kernel) e
  · split at e
    · split at e
      · split at e
        · exact k _ _ _ (by decide +kernel) e
        · cases c : rowW m is.length sr with
          | none => rw [c] at e; cases e
          | some w => rw [c] at e; exact k _ _ _ (kr w c) e
      · cases e
    · exact k _ _ _ (by decide +kernel) e
theorem dueD_eq (o : Option (Int × Str)) : PyData.eqv (dueD o) (dueD o) = true := by
  cases o with
  | none => rfl
  | some p => simp [dueD, PyData.eqv, PyData.eqvAll]
theorem DueAt.keep {H H' : Hp} {v : V} {o : Option (Int × Str)} (h : DueAt H v o) (S : Same H H') : DueAt H' v o := by
  cases o with
  | none => exact h
  | some p =>
    obtain ⟨i, w⟩ := p
    obtain ⟨a, e, e2⟩ := h
    exact ⟨a, e, S _ _ e2⟩
def spNew (C CC : Addr) : Sp := fun vs H Q _ => ∃ (h q x bk la : Addr) (ns is : List Int) (tss : List (List Int)), vs = [.ref h, .ref x, .ref bk, .ref la] ∧ Hand H h q ∧ CompAt C CC H x ns is tss ∧ GoodB ns ∧ 1 ≤ ns.length ∧ ns.length ≤ 9 ∧ bk ≠ h ∧ la ≠ h ∧ H bk = some (.lst (ns.map V.int)) ∧ H la = some (.lst (is.map V.int)) ∧ ∀ (H' : Hp), But h H H' → Hand H' h q → Q (.bl true) H'
section
variable {P : Program} {w : World} {K : PySem.W.Frag} {mg : Str → Option Value} {base : Heap}
theorem ok_Lnewcomer {f fD fP fU fA C CC : Addr} {fd fdD fdP fdU fdA : FuncData} (F : Fun K "_law_newcomer" "_law_newcomer" s_Lnewcomer f fd) (nl : mg "len" = none) (nr : mg "range" = none) (nis : mg "isinstance" = none) (nb : mg "bool" = none) (nt : mg "tuple" = none)
    (GD : Cal P w K mg base CX0 2 "_law_draw" fD fdD ["_law_hand_here", "_law_many"] spDraw) (GP : Cal P w K mg base CX0 3 "_law_pick" fP fdP ["_law_hand_here", "_law_things"] spPick) (GU : Cal P w K mg base CX0 2 "_law_row_due" fU fdU ["_law_many_ties", "_law_labels_here", "_law_label", "_law_row"] spRowDue) (GA : Cal P w K mg base CX0 8 "_law_row_asked" fA fdA ["_law_company", "_law_label", "_law_row"] (spAsked C CC)) :
    FnOk P w K mg base CX0 9 f fd ["_law_hand_here", "_law_company", "_law_backs_here", "_law_labels_here"] (spNew C CC) := by
  refine F.ok sc_Lnewcomer (fun vs H Q E h => ?_) (fun cdv A outer s H vs Q E hr h => ?_)
  · obtain ⟨h, q, x, bk, la, ns, is, tss, rfl, _⟩ := h
    rfl
  · obtain ⟨h, q, x, bk, la, ns, is, tss, rfl, hh, hC, gb, n1, n9, nbh, nlh, ebk, ela, k⟩ := h
    have hr2 : Room 2 _ := hr.mono (by decide)
    have hr3 : Room 3 _ := hr.mono (by decide)
    have il : (is.map V.int).length = is.length := List.length_map _
    obtain ⟨_, _, _, _, _, _, _, _, _, _, _, _, _, _, _, asc, tl, l60, labs⟩ := id hC
    refine ⟨_, (pss_cons 
  (ps_setLc (i := 4) (own := [("_law_label", 5)]) (g := gName 5) rfl sc_Lnewcomer.nd rfl rfl (sw_true rfl rfl rfl (by decide +kernel)) (pi_list (pe_op op_cat (pe_lst (pa_cons pe_int (pa_cons pe_int (pa_cons (pe_op op_pow pe_int pe_int) pa_nil)))) (pe_lc (own := [("_law_guest", 11)]) (g := gName 11) (by rfl) sc_Lnewcomer.nd (pi_list (pv 3)) (blkOk_by (own := [("_law_guest", 11)]) (N := ["_law_hand_here", "_law_company", "_law_backs_here", "_law_labels_here", "_law_free", "_law_label", "_law_row", "_law_sort", "_law_handed", "_law_due", "_law_told", "_law_guest", "_law_k"]) (sc := defScope s_Lnewcomer) (by decide +kernel)) (fun _ _ _ _ _ => pg_name (i := 11) sc_Lnewcomer.nd rfl (Or.inl rfl)) (fun _ _ _ _ _ => pts_nil) (fun _ _ _ _ _ => (pe_op op_add (pv 11) pe_int))))) (blkOk_by (own := [("_law_label", 5)]) (N := ["_law_hand_here", "_law_company", "_law_backs_here", "_law_labels_here", "_law_free", "_law_label", "_law_row", "_law_sort", "_law_handed", "_law_due", "_law_told", "_law_guest", "_law_k"]) (sc := defScope s_Lnewcomer) (by decide +kernel)) (fun _ _ _ _ _ => pg_name (i := 5) sc_Lnewcomer.nd rfl (Or.inl rfl)) (fun _ _ _ _ _ => pts_one (PW.pt (pw_and (pt_cmpR (r := rIn K true) op_notIn_seq (pv 5) (pv 3) (by rfl)) (pw_and1 (pt_cmpR op_le (pv 5) (pe_op op_pow pe_int pe_int) (nomark _)))))) (fun _ _ _ _ _ => (pv 5))) (pss_cons 
  (ps_set (i := 5) sc_Lnewcomer.nd rfl (Or.inl rfl) (pcal GP hr3 pass0 (pa_cons (pv 0) (pa_cons (pv 4) pa_nil)))) (pss_cons 
  (ps_setLc (i := 6) (own := [("_law_k", 12)]) (g := gName 12) rfl sc_Lnewcomer.nd rfl rfl (sw_true rfl rfl rfl (by decide +kernel)) (pi_range1 (by rfl) nr (pa_cons (pe_callB call_len_seq (by rfl) nl PySem.boot_len (pa_cons (pv 3) pa_nil)) pa_nil)) (blkOk_by (own := [("_law_k", 12)]) (N := ["_law_hand_here", "_law_company", "_law_backs_here", "_law_labels_here", "_law_free", "_law_label", "_law_row", "_law_sort", "_law_handed", "_law_due", "_law_told", "_law_guest", "_law_k"]) (sc := defScope s_Lnewcomer) (by decide +kernel)) (fun _ _ _ _ _ => pg_name (i := 12) sc_Lnewcomer.nd rfl (Or.inl rfl)) (fun _ _ _ _ _ => pts_nil) (fun _ _ _ _ _ => (pcal GD hr2 pass0 (pa_cons (pv 0) (pa_cons (pe_callB (id := "len") (r := rLen K) call_len_seq (by rfl) nl PySem.boot_len (pa_cons (pv 2) pa_nil)) pa_nil))))) (C8.pss_cut 
  (ps_set (i := 7) sc_Lnewcomer.nd rfl (Or.inl rfl) (pcal GD hr2 pass0 (pa_cons (pv 0) (pa_cons pe_int pa_nil)))) (C8.pss_cut 
  (ps_if (pt_cmpR op_eq (pv 7) pe_int (nomark _)) (pss_one 
    (ps_set (i := 5) sc_Lnewcomer.nd rfl (Or.inl rfl) (pe_ix ix_list (pe_lst (pa_cons pe_non (pa_cons pe_bl (pa_cons (pe_un un_neg pe_int) (pa_cons (pe_op op_add (pe_op op_pow pe_int pe_int) pe_int) (pa_cons pe_str (pa_cons pe_bl (pa_cons (pe_op op_pow pe_int pe_int) pa_nil)))))))) (pcal GD hr2 pass0 (pa_cons (pv 0) (pa_cons pe_int pa_nil))) (fun _ _ => rfl)))) pss_nil) (C8.pss_cut 
  (ps_if (PW.pt (pw_and (pt_cmpR op_eq (pv 7) pe_int (nomark _)) (pw_and1 (pt_cmpR (op_neE hr.units) (pv 3) (pe_lst pa_nil) (nomark _))))) (pss_one 
    (ps_set (i := 5) sc_Lnewcomer.nd rfl (Or.inl rfl) (pcal GP hr3 pass0 (pa_cons (pv 0) (pa_cons (pv 3) pa_nil))))) pss_nil) (C8.pss_cut 
  (ps_if (pt_cmpR op_eq (pv 7) pe_int (nomark _)) (pss_one 
    (ps_expr (pe_bm PySem.F.plainAttrs_list PySem.F.slot_list_append PySem.F.type_list_append mt_append (pv 6) (pa_cons pe_int pa_nil)))) pss_nil) (C8.pss_cut 
  (ps_if (PW.pt (pw_and (pt_cmpR op_eq (pv 7) pe_int (nomark _)) (pw_and1 (pt_cmpR (op_neE hr.units) (pv 6) (pe_lst pa_nil) (nomark _))))) (pss_one 
    (ps_expr (pe_bm0 PySem.F.plainAttrs_list PySem.F.slot_list_pop PySem.F.type_list_pop mt_pop (pv 6)))) pss_nil) (C8.pss_cut 
  (ps_if (PW.pt (pw_and (pt_cmpR op_in_seq (pv 7) (pe_tup (pa_cons pe_int (pa_cons pe_int pa_nil))) (by rfl)) (pw_and1 (pt_cmpR (op_neE hr.units) (pv 6) (pe_lst pa_nil) (nomark _))))) (pss_one 
    (ps_asg (pe_ix ix_list (pe_lst (pa_cons (pe_callB call_len_seq (by rfl) nl PySem.boot_len (pa_cons (pv 2) pa_nil)) (pa_cons (pe_un un_neg pe_int) (pa_cons pe_bl (pa_cons pe_non (pa_cons pe_str (pa_cons pe_bl pa_nil))))))) (pcal GD hr2 pass0 (pa_cons (pv 0) (pa_cons pe_int pa_nil))) (fun _ _ => rfl)) (pg_sub (pv 6) (pcal GD hr2 pass0 (pa_cons (pv 0) (pa_cons (pe_callB call_len_seq (by rfl) nl PySem.boot_len (pa_cons (pv 6) pa_nil)) pa_nil))) set_list))) pss_nil) (pss_cons 
  (ps_set (i := 8) sc_Lnewcomer.nd rfl (Or.inl rfl) (pv 6)) (C8.pss_cut 
  (ps_if (pt_cmpR op_eq (pv 7) pe_int (nomark _)) (pss_one 
    (ps_set (i := 8) sc_Lnewcomer.nd rfl (Or.inl rfl) (pe_ix ix_list (pe_lst (pa_cons pe_non (pa_cons pe_str (pa_cons pe_int (pa_cons pe_dnewK pa_nil))))) (pcal GD hr2 pass0 (pa_cons (pv 0) (pa_cons pe_int pa_nil))) (fun _ _ => rfl)))) pss_nil) (C8.pss_cut 
  (ps_if (pt_cmpR op_eq (pv 7) pe_int (nomark _)) (pss_one 
    (ps_set (i := 8) sc_Lnewcomer.nd rfl (Or.inl rfl) (pe_callTy (T := "tuple") (r := rTupOf K) call_tuple_of (by rfl) nt (by decide +kernel) (pa_cons (pv 6) pa_nil)))) pss_nil) (pss_cons 
  (ps_set (i := 9) sc_Lnewcomer.nd rfl (Or.inl rfl) (pcal GU hr2 pass0 (pa_cons (pe_callB call_len_seq (by rfl) nl PySem.boot_len (pa_cons (pv 2) pa_nil)) (pa_cons (pv 3) (pa_cons (pv 5) (pa_cons (pv 8) pa_nil)))))) (pss_cons 
  (ps_set (i := 10) sc_Lnewcomer.nd rfl (Or.inl rfl) (pcal GA hr pass0 (pa_cons (pv 1) (pa_cons (pv 5) (pa_cons (pv 8) pa_nil))))) (pss_one 
  (ps_ret (pe_and (pe_cmpR (op_eqD hr.units) (pv 10) (pv 9) (nomark _)) (pe_one (pe_or (pe_cmpR op_isN (pv 10) pe_non (nomark _)) (pe_one (pe_not (pe_callB call_isi (by rfl) nis (by decide +kernel) (pa_cons (pe_ix ix_tup (pv 10) pe_int (fun _ _ => rfl)) (pa_cons (pe_bltn (by rfl) nb (by decide +kernel) (v := .ty "bool") rfl) pa_nil)))))))))))))))))))))))), ?_⟩
    have ns1 : (ns.map V.int).length = ns.length := List.length_map _
    refine ⟨_, _, rfl, rfl, ⟨by decide, by decide, by decide⟩, (by show 3 ≤ sizeLine; decide), fun E1 hE1 => ⟨_, rfl, la, rfl, ⟨_, SqL.of (new_same hE1 _ _ ela)⟩, fun D0 hD0 => ?_⟩⟩
    have T1 := new_same (o := .lst [.int 0, .int 3, .int (10 ^ Int.toNat 9)]) hE1
    refine lc_list (K := K) (a := la) (xs := is.map V.int) (fun i H2 => Same (upd H E1 (.lst [.int 0, .int 3, .int (10 ^ Int.toNat 9)])) H2 ∧ (upd H E1 (.lst [.int 0, .int 3, .int (10 ^ Int.toNat 9)])) D0 = none ∧ H2 D0 = some (.lst (((is.take i).map fun n => n + 1).map V.int))) ⟨new_same hD0, hD0, upd_same⟩ (fun i H2 _ ⟨S, _⟩ => SqL.of (S _ _ (T1 _ _ ela))) ?_ ?_
    · rintro i y H2 hy ⟨S2, D00, eD⟩
      rw [List.getElem?_map] at hy
      cases hi : is[i]? with
      | none => rw [hi] at hy; cases hy
      | some m' =>
        rw [hi] at hy
        obtain rfl : V.int m' = y := Option.some.inj hy
        have him := (List.getElem?_eq_some_iff.mp hi).1
        refine ⟨rfl, yesT ?_⟩
        refine ⟨_, rfl, _, _, rfl, rfl, _, eD, small1000 ?_, fun b' o e' => ?_, D00, ?_⟩
        · rw [List.length_map, List.length_map, List.length_take]
          omega
        · rw [upd_ne (ne_of_none e' D00)]
          exact S2 _ _ e'
        · rw [upd_same, List.take_add_one, hi, List.map_append, List.map_append]
          rfl
    rintro H2 ⟨S2, D00, eD⟩
    rw [il, List.take_length] at eD
    have S02 := T1.trans S2
    have e1 := S2 _ _ upd_same
    refine ⟨E1, D0, _, _, rfl, rfl, e1, eD, Nat.le_of_lt (small1000 ?_), fun L hL => ?_⟩
    · rw [List.length_map, List.length_map]
      show 3 + is.length ≤ 1000
      omega
    have S3 := S02.trans (new_same (o := .lst ([.int 0, .int 3, .int (10 ^ Int.toNat 9)] ++ (is.map fun n => n + 1).map V.int)) hL)
    have eL : (upd H2 L (.lst ([.int 0, .int 3, .int (10 ^ Int.toNat 9)] ++ (is.map fun n => n + 1).map V.int))) L = some (.lst ((cands is).map V.int)) := upd_same
    generalize upd H2 L (.lst ([.int 0, .int 3, .int (10 ^ Int.toNat 9)] ++ (is.map fun n => n + 1).map V.int)) = H3 at S3 eL
    have ela3 := S3 _ _ ela
    have cl : (cands is).length ≤ 63 := by
      unfold cands
      rw [List.length_append, List.length_map]
      show 3 + is.length ≤ 63
      omega
    refine ⟨L, rfl, ⟨_, SqL.of eL⟩, fun D3 hD3 => ?_⟩
    refine lc_list (K := K) (a := L) (xs := (cands is).map V.int) (fun i H4 => Same H3 H4 ∧ H3 D3 = none ∧ H4 D3 = some (.lst ((((cands is).take i).filter (okN is)).map V.int))) ⟨new_same hD3, hD3, upd_same⟩ (fun i H4 _ ⟨S, _⟩ => SqL.of (S _ _ eL)) ?_ ?_
    · rintro i y H4 hy ⟨S4, D30, eD3⟩
      rw [List.getElem?_map] at hy
      cases hi : (cands is)[i]? with
      | none => rw [hi] at hy; cases hy
      | some m' =>
        rw [hi] at hy
        obtain rfl : V.int m' = y := Option.some.inj hy
        have him := (List.getElem?_eq_some_iff.mp hi).1
        have ft := filter_take1 (p := okN is) hi
        refine ⟨rfl, _, rfl, _, rfl, la, _, rfl, .inl (SqL.of (S4 _ _ ela3)), rfl, ints_flat is, _, rfl, ?_⟩
        have skip : okN is m' = false → Same H3 H4 ∧ H3 D3 = none ∧ H4 D3 = some (.lst ((((cands is).take (i + 1)).filter (okN is)).map V.int)) := fun c => by
          rw [ft, c]
          simp
          exact ⟨S4, D30, eD3⟩
        cases c1 : inV (.int m') (is.map V.int) with
        | true => exact iteF (skip (by unfold okN; rw [c1]; rfl))
        | false =>
          refine iteT ⟨_, rfl, _, _, rfl, rfl, ⟨by decide, by decide, by decide⟩, _, _, rfl, rfl, _, rfl, ifD (fun c2 => ?_) (fun c2 => skip (by unfold okN; rw [c1, decide_eq_false c2]; rfl))⟩
          have ok : okN is m' = true := by unfold okN; rw [c1, decide_eq_true c2]; rfl
          rw [ok] at ft
          refine ⟨_, rfl, _, eD3, small1000 ?_, fun b' o e' => ?_, D30, by rw [upd_same, ft, List.map_append]; rfl⟩
          · rw [List.length_map]
            have := List.length_filter_le (okN is) ((cands is).take i)
            rw [List.length_take] at this
            omega
          · rw [upd_ne (ne_of_none e' D30)]
            exact S4 _ _ e'
    rintro H4 ⟨S4, D30, eD3⟩
    rw [List.length_map, List.take_length] at eD3
    have S04 := S3.trans S4
    have h4 := hh.keep S04
    have D3n := (hh.keep S3).same_h' D30
    -- the label
    refine ⟨_, rfl, _, rfl, h, q, D3, _, rfl, h4, D3n.1, eD3, ?_, ?_, fun H5 lv lm B5 h5 => ?_⟩
    · rw [List.length_map]
      obtain ⟨n, n1, n2⟩ := free_ex asc labs l60
      exact List.length_pos_iff.mpr (List.ne_nil_of_mem (List.mem_filter.mpr ⟨n1, n2⟩))
    · rw [List.length_map]
      have := List.length_filter_le (okN is) (cands is)
      omega
    have lsc : isSc lv = true := by
      obtain ⟨n, _, rfl⟩ := List.mem_map.mp lm
      rfl
    have B05 := (But.same (h := h) S04).trans B5
    have ela5 := B05 _ _ nlh ela
    have ebk5 := B05 _ _ nbh ebk
    -- the row
    refine ⟨_, rfl, la, _, rfl, .inl (SqL.of ela5), ((is.map V.int).length : Nat), rfl, by omega, by omega, fun R hR => ?_⟩
    obtain ⟨nRh, nRq⟩ := h5.same_h' hR
    have nRb : R ≠ bk := (ne_of_none ebk5 hR).symm
    refine lc_range (lo := 0) (n := (is.map V.int).length) (fun n H8 => ∃ zs : List Int, zs.length = n ∧ H8 R = some (.lst (zs.map V.int)) ∧ Hand H8 h q ∧ (∀ b o, b ≠ h → b ≠ R → H5 b = some o → H8 b = some o))
      ⟨[], rfl, upd_same, h5.new hR, fun b o _ n2 e => by rw [upd_ne n2]; exact e⟩ ?_ ?_
    · rintro n H8 hn ⟨zs, zl, eR, h8, B8⟩
      refine ⟨rfl, yesT ?_⟩
      have ebk8 := B8 _ _ nbh nRb.symm ebk5
      refine ⟨_, rfl, _, rfl, bk, _, rfl, .inl (SqL.of ebk8), h, q, _, rfl, by omega, by omega, h8, fun z H9 z0 z1 b9 h9 => ?_⟩
      have eR9 := b9 _ _ nRh eR
      exact ⟨_, eR9, by rw [List.length_map]; exact small1000 (by omega), zs ++ [z], by rw [List.length_append, zl]; rfl, by rw [upd_same, List.map_append]; rfl, h9.put nRh.symm nRq.symm, fun c o n1 n2 e => by rw [upd_ne n2]; exact b9 _ _ n1 (B8 c o n1 n2 e)⟩
    rintro H8 ⟨zs, zl, eR, h8, B8⟩
    have R0 : H R = none := B05.free nRh hR
    have st : WSt H h q R lv (zs.map V.int) H8 := ⟨eR, fun y hy => by
      obtain ⟨n, _, rfl⟩ := List.mem_map.mp hy
      rfl, lsc, h8, fun b o nb e => B8 b o nb (ne_of_none e R0) (B05 b o nb e), nRh, nRq, R0⟩
    have zl60 : (zs.map V.int).length ≤ 60 := by rw [List.length_map]; omega
    generalize zs.map V.int = xs at st zl60
    clear eR h8 B8 hR ela5 ebk5 B05 lsc h5 B5 eD3 S4 S3 h4
    -- the sort
    refine ⟨fun σ' H' => ∃ so, σ' = [some (.ref h), some (.ref x), some (.ref bk), some (.ref la), some (.ref D3), some lv, some (.ref R), some (.int so), none, none, none, none, none] ∧ WSt H h q R lv xs H', ⟨_, rfl, h, q, 8, rfl, by decide, by decide, st.hd, fun so H9 s0 s1 B9 h9 => ⟨so, rfl, st.but B9 h9⟩⟩, ?_⟩
    rintro σ9 H9 ⟨so, rfl, st9⟩
    clear st
    -- a strange label
    refine ⟨fun σ' H' => ∃ v, σ' = [some (.ref h), some (.ref x), some (.ref bk), some (.ref la), some (.ref D3), some v, some (.ref R), some (.int so), none, none, none, none, none] ∧ WSt H h q R v xs H', ?_, ?_⟩
    · refine ⟨_, rfl, rfl, _, rfl, ifD (fun c => ?_) (fun c => ⟨lv, rfl, st9⟩)⟩
      refine ⟨_, rfl, _, _, rfl, rfl, ⟨by decide, by decide, by decide⟩, _, _, rfl, rfl, _, _, rfl, rfl, ⟨by decide, by decide, by decide⟩, (by show 7 ≤ sizeLine; decide), fun e he => ⟨_, rfl, h, q, 7, rfl, by decide, by decide, st9.hd.new he, fun d H10 d0 d1 B10 h10 => ?_⟩⟩
      have stA := (st9.same (new_same (o := _) he)).but B10 h10
      have ee := B10 _ _ (st9.hd.same_h' he).1 upd_same
      have hv : d.toNat < [V.non, .bl true, .int (-1), .int (10 ^ Int.toNat 9 + 1), .str "7", .bl false, .int (10 ^ Int.toNat 40)].length := by show d.toNat < 7; omega
      refine ⟨e, _, d, _, rfl, rfl, SqL.of ee, at_of (j := d.toNat) (by omega) (List.getElem?_eq_getElem hv), _, rfl, stA.lab ?_⟩
      have m := List.getElem_mem hv
      simp only [List.mem_cons, List.not_mem_nil, or_false] at m
      rcases m with m | m | m | m | m | m | m <;> rw [m] <;> rfl
    clear st9 lv lm
    rintro σ9 H9 ⟨lv, rfl, st9⟩
    -- a label that is there
    refine ⟨fun σ' H' => ∃ v, σ' = [some (.ref h), some (.ref x), some (.ref bk), some (.ref la), some (.ref D3), some v, some (.ref R), some (.int so), none, none, none, none, none] ∧ WSt H h q R v xs H', ?_, ?_⟩
    · refine ⟨_, rfl, rfl, _, rfl, ifD (fun c => ?_) (fun c => ⟨lv, rfl, st9⟩)⟩
      have la9 := st9.b _ _ nlh ela
      refine ⟨_, rfl, Nat.zero_le _, fun e he => ⟨la, e, _, rfl, rfl, SqL.of (new_same he _ _ la9), SqL.of upd_same, _, rfl, ?_⟩⟩
      have stA := st9.same (new_same (o := .lst []) he)
      have laA := stA.b _ _ nlh ela
      cases hx : (is.map V.int).isEmpty with
      | true => exact ⟨lv, rfl, stA⟩
      | false =>
        have x0 : 0 < (is.map V.int).length := by
          rw [List.isEmpty_eq_false_iff] at hx
          exact List.length_pos_iff.mpr hx
        refine ⟨_, rfl, _, rfl, h, q, la, _, rfl, stA.hd, nlh, laA, x0, by omega, fun H10 y ym B10 h10 => ⟨y, rfl, (stA.but B10 h10).lab ?_⟩⟩
        obtain ⟨n, _, rfl⟩ := List.mem_map.mp ym
        rfl
    clear st9 lv
    rintro σ9 H9 ⟨lv, rfl, st9⟩
    -- a tie more
    refine ⟨fun σ' H' => ∃ xs, σ' = [some (.ref h), some (.ref x), some (.ref bk), some (.ref la), some (.ref D3), some lv, some (.ref R), some (.int so), none, none, none, none, none] ∧ WSt H h q R lv xs H' ∧ xs.length ≤ 61, ?_, ?_⟩
    · refine ⟨_, rfl, rfl, _, rfl, ifD (fun c => ?_) (fun c => ⟨xs, rfl, st9, by omega⟩)⟩
      refine ⟨_, rfl, .inl ⟨rfl, _, SqL.of st9.e⟩, R, _, _, rfl, rfl, st9.e, small1000 (by omega), _, rfl, st9.put (fun y hy => ?_), by rw [List.length_append, List.length_singleton]; omega⟩
      rcases List.mem_append.mp hy with hy | hy
      · exact st9.i y hy
      · rw [List.mem_singleton] at hy
        rw [hy]
        rfl
    clear st9 zl60 xs
    rintro σ9 H9 ⟨xs, rfl, st9, xl⟩
    -- a tie less
    refine ⟨fun σ' H' => ∃ xs, σ' = [some (.ref h), some (.ref x), some (.ref bk), some (.ref la), some (.ref D3), some lv, some (.ref R), some (.int so), none, none, none, none, none] ∧ WSt H h q R lv xs H' ∧ xs.length ≤ 61, ?_, ?_⟩
    · refine ⟨_, rfl, rfl, _, rfl, ifD (fun c => ?_) (fun c => ⟨xs, rfl, st9, xl⟩)⟩
      refine ⟨_, rfl, Nat.zero_le _, fun e he => ⟨R, e, xs, rfl, rfl, SqL.of (new_same he _ _ st9.e), SqL.of upd_same, _, rfl, ?_⟩⟩
      have stA := st9.same (new_same (o := .lst []) he)
      cases hx : xs.isEmpty with
      | true => exact ⟨xs, rfl, stA, xl⟩
      | false =>
        have x0 : 0 < xs.length := by
          rw [List.isEmpty_eq_false_iff] at hx
          exact List.length_pos_iff.mpr hx
        refine ⟨_, rfl, .inl ⟨rfl, _, SqL.of stA.e⟩, R, xs, _, rfl, rfl, stA.e, List.getElem?_eq_getElem (by omega), xs.dropLast, rfl, stA.put (fun y hy => stA.i y ((List.dropLast_sublist xs).subset hy)), by rw [List.length_dropLast]; omega⟩
    clear st9 xl xs
    rintro σ9 H9 ⟨xs, rfl, st9, xl⟩
    -- a strange tie
    refine ⟨fun σ' H' => ∃ xs, σ' = [some (.ref h), some (.ref x), some (.ref bk), some (.ref la), some (.ref D3), some lv, some (.ref R), some (.int so), none, none, none, none, none] ∧ WSt H h q R lv xs H' ∧ xs.length ≤ 61, ?_, ?_⟩
    · refine ⟨_, rfl, (by show 2 ≤ sizeLine; decide), fun p hp => ⟨p, _, rfl, .inr (SqT.of upd_same), rfl, rfl, _, rfl, ?_⟩⟩
      have stA := st9.same (new_same (o := .tup [.int 1, .int 4]) hp)
      generalize inV (V.int so) [.int 1, .int 4] = bb
      cases bb with
      | false => exact iteF ⟨xs, rfl, stA, xl⟩
      | true =>
        refine iteT ⟨_, rfl, Nat.zero_le _, fun e he => ⟨R, e, xs, rfl, rfl, SqL.of (new_same he _ _ stA.e), SqL.of upd_same, _, rfl, ?_⟩⟩
        have stB := stA.same (new_same (o := .lst []) he)
        cases hx : xs.isEmpty with
        | true => exact ⟨xs, rfl, stB, xl⟩
        | false =>
          have x0 : 0 < xs.length := by
            rw [List.isEmpty_eq_false_iff] at hx
            exact List.length_pos_iff.mpr hx
          have bkB := stB.b _ _ nbh ebk
          refine ⟨_, rfl, bk, _, rfl, .inl (SqL.of bkB), _, rfl, (by show 6 ≤ sizeLine; decide), fun e2 he2 => ⟨_, rfl, h, q, 6, rfl, by decide, by decide, stB.hd.new he2, fun d H10 d0 d1 B10 h10 => ?_⟩⟩
          have stC := (stB.same (new_same (o := _) he2)).but B10 h10
          have ee := B10 _ _ (stB.hd.same_h' he2).1 upd_same
          have hv : d.toNat < [V.int ((ns.map V.int).length : Nat), .int (-1), .bl true, .non, .str "0", .bl false].length := by show d.toNat < 6; omega
          refine ⟨e2, _, d, _, rfl, rfl, SqL.of ee, at_of (j := d.toNat) (by omega) (List.getElem?_eq_getElem hv), ?_⟩
          have sv : isSc ([V.int ((ns.map V.int).length : Nat), .int (-1), .bl true, .non, .str "0", .bl false][d.toNat]'hv) = true := by
            have m := List.getElem_mem hv
            simp only [List.mem_cons, List.not_mem_nil, or_false] at m
            rcases m with m | m | m | m | m | m <;> rw [m] <;> rfl
          generalize [V.int ((ns.map V.int).length : Nat), .int (-1), .bl true, .non, .str "0", .bl false][d.toNat]'hv = tv at sv
          refine ⟨_, rfl, _, rfl, _, rfl, R, _, rfl, .inl (SqL.of stC.e), h, q, _, rfl, by omega, by omega, stC.hd, fun j H11 j0 j1 B11 h11 => ?_⟩
          have stD := stC.but B11 h11
          refine ⟨R, xs, j, j.toNat, rfl, rfl, stD.e, ?_, xs.set j.toNat tv, rfl, stD.put (fun y hy => ?_), by rw [List.length_set]; exact xl⟩
          · unfold ixN
            rw [if_pos j0, if_pos (by omega)]
          · rcases List.mem_or_eq_of_mem_set hy with hy | hy
            · exact stD.i y hy
            · rw [hy]
              exact sv
    clear st9 xl xs
    rintro σ9 H9 ⟨xs, rfl, st9, xl⟩
    -- what is handed over
    refine ⟨_, rfl, ?_⟩
    refine ⟨fun σ' H' => ∃ u, σ' = [some (.ref h), some (.ref x), some (.ref bk), some (.ref la), some (.ref D3), some lv, some (.ref R), some (.int so), some u, none, none, none, none] ∧ WSt H h q R lv xs H' ∧ HandedAt H' u, ?_, ?_⟩
    · refine ⟨_, rfl, rfl, _, rfl, ifD (fun c => ?_) (fun c => ⟨.ref R, rfl, st9, .lst xs, ⟨R, rfl, st9.e⟩, st9.i⟩)⟩
      refine fun dd hdd => ⟨(by show 4 ≤ sizeLine; decide), fun e he => ⟨_, rfl, h, q, 4, rfl, by decide, by decide, (st9.hd.new hdd).new he, fun d H10 d0 d1 B10 h10 => ?_⟩⟩
      have S1 := new_same (o := .dK []) hdd
      have S2 := new_same (o := .lst [.non, .str "00", .int 3, .ref dd]) he
      have stA := (st9.same (S1.trans S2)).but B10 h10
      have he9 := (st9.hd.new (o := .dK []) hdd).same_h' he
      have ee := B10 _ _ he9.1 upd_same
      have ed := B10 _ _ (st9.hd.same_h' hdd).1 (S2 _ _ upd_same)
      have hv : d.toNat < [V.non, .str "00", .int 3, .ref dd].length := by show d.toNat < 4; omega
      refine ⟨e, _, d, _, rfl, rfl, SqL.of ee, at_of (j := d.toNat) (by omega) (List.getElem?_eq_getElem hv), _, rfl, stA, ?_⟩
      have m := List.getElem_mem hv
      simp only [List.mem_cons, List.not_mem_nil, or_false] at m
      rcases m with m | m | m | m <;> rw [m]
      · exact ⟨.sc .non, ⟨rfl, rfl⟩, fun y hy => nomatch hy⟩
      · exact ⟨.sc (.str "00"), ⟨rfl, rfl⟩, fun y hy => nomatch hy⟩
      · exact ⟨.sc (.int 3), ⟨rfl, rfl⟩, fun y hy => nomatch hy⟩
      · exact ⟨.dk, ⟨dd, [], rfl, ed⟩, fun y hy => nomatch hy⟩
    clear st9
    rintro σ9 H9 ⟨u, rfl, st9, hu⟩
    refine ⟨fun σ' H' => ∃ u, σ' = [some (.ref h), some (.ref x), some (.ref bk), some (.ref la), some (.ref D3), some lv, some (.ref R), some (.int so), some u, none, none, none, none] ∧ WSt H h q R lv xs H' ∧ HandedAt H' u, ?_, ?_⟩
    · refine ⟨_, rfl, rfl, _, rfl, ifD (fun c => ?_) (fun c => ⟨u, rfl, st9, hu⟩)⟩
      refine ⟨_, rfl, R, _, rfl, .inl ⟨SqL.of st9.e, fun l hl => ⟨.ref l, rfl, st9.same (new_same hl), .tup xs, ⟨l, rfl, upd_same⟩, st9.i⟩⟩⟩
    clear st9 hu u
    rintro σ9 H9 ⟨u, rfl, st9, sr, hu, hs⟩
    obtain ⟨cs1, i1, r1, t1, eh1, _⟩ := id hh
    have c9 := hC.but eh1 st9.b
    have la9 := st9.b _ _ nlh ela
    have bk9 := st9.b _ _ nbh ebk
    have kn : Known H9 (items sr) := fun y hy => ⟨.sc y, rfl, hs y hy⟩
    refine ⟨_, rfl, bk, _, rfl, .inl (SqL.of bk9), _, rfl, _, rfl, _, rfl, ((ns.map V.int).length : Nat), ns.length, la, is, lv, u, .sc lv, sr, rfl, by rw [ns1], la9, l60, ⟨rfl, st9.v⟩, hu, kn, fun H10 z S10 dz => ?_⟩
    refine ⟨_, rfl, _, rfl, _, rfl, x, ns, is, tss, lv, u, .sc lv, sr, rfl, c9.keep S10, gb, ⟨rfl, st9.v⟩, hu.keep S10, kn.keep S10, fun H11 y S11 dy => ?_⟩
    have dz := dz.keep S11
    have st11 := st9.same (S10.trans S11)
    refine ⟨_, rfl, _, rfl, _, _, dy.dp, dz.dp, dueD_ok (rowDue_word _ _ _ _), dueD_ok (rowDue_word _ _ _ _), _, rfl, if_tr (dueD_eq _) ?_⟩
    refine ⟨_, rfl, rfl, _, rfl, ?_⟩
    cases o : rowDue ns.length is lv sr with
    | none =>
      rw [o] at dy
      obtain rfl : y = .non := dy
      exact if_tr rfl (k _ st11.b st11.hd)
    | some pr =>
      obtain ⟨i, wd⟩ := pr
      rw [o] at dy
      obtain ⟨a, rfl, ea⟩ := dy
      refine if_fa rfl ?_
      refine ⟨_, rfl, a, _, _, _, rfl, rfl, SqT.of ea, rfl, _, _, _, _, _, rfl, .ty "bool", .base (.int i), kit_ty kt_int_bool, _, rfl, ?_⟩
      exact k _ st11.b st11.hd
end
end J

set_option Elab.async false
set_option linter.all false
set_option maxRecDepth 100000
set_option maxHeartbeats 8000000
namespace J
open PySem PySem.Spec PyProof.Rows L2
abbrev s_law : Stmt := top 39
theorem sc_law : FnScope ["_law_script", "_law_hand_here", "_law_turn", "_law_backs_here", "_law_large", "_law_many", "_law_labels_here", "_law_rows", "_law_company", "_law_k", "_law_pairs_here", "_law_kept", "_law_j", "_law_i", "_law_row"] ["_law_script"] (defScope s_law) := ⟨rfl, rfl, rfl, by decide +kernel, rfl, by decide +kernel, by decide +kernel⟩
abbrev rLst (K : PySem.W.Frag) : List V → Hp → VK → Prop := fun xs H Q => ∃ p ys, xs = [.ref p] ∧ (SqL K H p ys ∨ SqT K H p ys) ∧ ∀ l, H l = none → Q (.ref l) (upd H l (.lst ys))
def spLaw (K : PySem.W.Frag) : Sp := fun vs H Q _ => ∃ (a : Addr) (ns : List Int), vs = [.ref a] ∧ SqL K H a (ns.map V.int) ∧ ns.length ≤ 63 ∧ ∀ H', Q (.bl true) H'
/-- scalars, and tuples of scalars, as data -/
def scD : V → PyData
  | .non => .none | .bl b => .bool b | .int i => .int i | .str x => .str x | _ => .none
theorem dp_sc {K : PySem.W.Frag} {H : Hp} {v : V} (h : okSc v = true) : Dp K H v (scD v) := by
  cases v <;> first | exact .non | exact .bl _ | exact .int _ | exact .str _ | cases h
theorem dp_scs {K : PySem.W.Frag} {H : Hp} : ∀ {us : List V}, (∀ u ∈ us, okSc u = true) → DpAll K H us (us.map scD)
  | [], _ => .nil
  | u :: us, h => .cons (dp_sc (h u (List.mem_cons_self ..))) (dp_scs fun x hx => h x (List.mem_cons_of_mem _ hx))
theorem eqv_sc (v : V) : PyData.eqv (scD v) (scD v) = true := by
  cases v <;> simp [scD, PyData.eqv]
theorem eqv_scs : ∀ us : List V, PyData.eqvAll (us.map scD) (us.map scD) = true
  | [] => by simp [PyData.eqvAll]
  | u :: us => by simp [PyData.eqvAll, eqv_sc, eqv_scs us]
theorem lay_sc {v : V} (h : okSc v = true) : PyData.canLay0 (scD v) = true ∧ PyData.depth (scD v) ≤ 1 := by
  cases v with
  | str x =>
    simp only [scD, PyData.canLay0, PyData.depth]
    exact ⟨h, by decide⟩
  | _ => simp [scD, PyData.canLay0, PyData.depth]
theorem lay_scs : ∀ {us : List V}, (∀ u ∈ us, okSc u = true) → PyData.canLayAll0 (us.map scD) = true ∧ PyData.depthAll (us.map scD) ≤ 1
  | [], _ => by simp [PyData.canLayAll0, PyData.depthAll]
  | u :: us, h => by
    obtain ⟨a, b⟩ := lay_sc (h u (List.mem_cons_self ..))
    obtain ⟨c, d⟩ := lay_scs (us := us) fun x hx => h x (List.mem_cons_of_mem _ hx)
    refine ⟨?_, ?_⟩
    · simp only [List.map_cons, PyData.canLayAll0, a, c, Bool.and_self]
    · simp only [List.map_cons, PyData.depthAll]
      omega
/-- the pairs that are handed over, as data -/
theorem items_data {K : PySem.W.Frag} {H : Hp} : ∀ {xs : List V}, ItemsAt H xs → ∃ ds, DpAll K H xs ds ∧ (∀ H', TupK H H' → DpAll K H' xs ds) ∧ PyData.eqvAll ds ds = true ∧ PyData.canLayAll0 ds = true ∧ PyData.depthAll ds ≤ 3
  | [], _ => ⟨[], .nil, fun _ _ => .nil, by simp [PyData.eqvAll], by simp [PyData.canLayAll0], by simp [PyData.depthAll]⟩
  | y :: ys, h => by
    obtain ⟨ds, d1, d2, d3, d4, d5⟩ := items_data (K := K) (xs := ys) fun z hz => h z (List.mem_cons_of_mem _ hz)
    rcases h y (List.mem_cons_self ..) with e | ⟨q, us, rfl, e2, u⟩
    · obtain ⟨a, b⟩ := lay_sc e
      refine ⟨scD y :: ds, .cons (dp_sc e) d1, fun H' f => .cons (dp_sc e) (d2 H' f), ?_, ?_, ?_⟩
      · simp only [PyData.eqvAll, eqv_sc, d3, Bool.and_self]
      · simp only [PyData.canLayAll0, a, d4, Bool.and_self]
      · simp only [PyData.depthAll]
        omega
    · obtain ⟨a, b⟩ := lay_scs u
      refine ⟨.tuple (us.map scD) :: ds, .cons (.tup (SqT.of e2) (dp_scs u)) d1, fun H' f => .cons (.tup (SqT.of (f _ _ e2)) (dp_scs u)) (d2 H' f), ?_, ?_, ?_⟩
      · simp only [PyData.eqvAll, PyData.eqv, eqv_scs, d3, Bool.and_self]
      · simp only [PyData.canLayAll0, PyData.canLay0, a, d4, Bool.and_self]
      · simp only [PyData.depthAll, PyData.depth]
        omega
theorem items_sh {H : Hp} : ∀ {xs : List V}, ItemsAt H xs → ∃ ss, ShAll H xs ss ∧ ss.length = xs.length ∧ (∀ s ∈ ss, s.isL = false)
  | [], _ => ⟨[], .nil, rfl, fun s hs => by cases hs⟩
  | y :: ys, h => by
    obtain ⟨ss, d1, d2, d3⟩ := items_sh (xs := ys) fun z hz => h z (List.mem_cons_of_mem _ hz)
    rcases h y (List.mem_cons_self ..) with e | ⟨q, us, rfl, e2, u⟩
    · exact ⟨.sc y :: ss, .cons ⟨⟨rfl, okSc_sc e⟩, fun z hz => by cases hz⟩ d1, by simp [d2], fun s hs => by
        rcases List.mem_cons.mp hs with rfl | hs
        · rfl
        · exact d3 s hs⟩
    · exact ⟨.tup us :: ss, .cons ⟨⟨q, rfl, e2⟩, fun z hz => ⟨.sc z, rfl, okSc_sc (u z hz)⟩⟩ d1, by simp [d2], fun s hs => by
        rcases List.mem_cons.mp hs with rfl | hs
        · rfl
        · exact d3 s hs⟩
theorem items_known {H : Hp} {xs : List V} (h : ItemsAt H xs) : Known H xs := fun y hy => by
  rcases h y hy with e | ⟨q, us, rfl, e2, _⟩
  · exact ⟨.sc y, rfl, okSc_sc e⟩
  · exact ⟨.tup us, q, rfl, e2⟩
theorem shaped_l {ds : List PyData} (h1 : PyData.canLayAll0 ds = true) (h2 : PyData.depthAll ds ≤ 3) : SeqAt.shaped (.list ds) = true := by
  show (PyData.canLay0 (.list ds) && decide (PyData.depth (.list ds) ≤ 64)) = true
  rw [Bool.and_eq_true]
  refine ⟨by simp only [PyData.canLay0]; exact h1, decide_eq_true ?_⟩
  simp only [PyData.depth]
  omega
theorem shaped_sc {v : V} (h : okSc v = true) : SeqAt.shaped (scD v) = true := by
  obtain ⟨a, b⟩ := lay_sc h
  show (PyData.canLay0 (scD v) && decide (PyData.depth (scD v) ≤ 64)) = true
  rw [a, decide_eq_true (by omega)]
  rfl
/-- rows that are drawn stand while the hand is drawn from -/
theorem LinesAt.but {h : Addr} {H H' : Hp} {l : Addr} {ps : List Addr} {tss : List (List Int)} (L : LinesAt H l ps tss) (n1 : l ≠ h) (n2 : ∀ a ∈ ps, a ≠ h) (B : But h H H') : LinesAt H' l ps tss :=
  ⟨B _ _ n1 L.1, L.2.1, fun j a ts e1 e2 => ⟨(L.2.2 j a ts e1 e2).1, B _ _ (n2 a (List.mem_of_getElem? e1)) (L.2.2 j a ts e1 e2).2⟩⟩
theorem prOne_word {is : List Int} {d : List (Int × Int)} {s : Sh} {w : Str} (e : prOne is d s = .inl w) : PyData.strOk w = true := by
  unfold prOne at e
  split at e
  · split at e
    · split at e
      · split at e
        · cases e
        · injection e with e
          subst e
          decide +kernel
      · injection e with e
        subst e
        decide +kernel
    · injection e with e
      subst e
      decide +kernel
  · injection e with e
    subst e
    decide +kernel
theorem prRun_word {is : List Int} {w : Str} : ∀ {ss : List Sh} {d : List (Int × Int)}, prRun is ss d = .inl w → PyData.strOk w = true
  | [], _, e => by cases e
  | s :: ss, d, e => by
    unfold prRun at e
    cases c : prOne is d s with
    | inl u =>
      rw [c] at e
      injection e with e
      subst e
      exact prOne_word c
    | inr p =>
      rw [c] at e
      exact prRun_word e
theorem prAll_word {is : List Int} {s : Sh} {ss : List Sh} {w : Str} (e : prAll is s ss = .inl w) : PyData.strOk w = true := by
  unfold prAll at e
  split at e
  · cases c : prRun is ss [] with
    | inl u =>
      rw [c] at e
      injection e with e
      subst e
      exact prRun_word c
    | inr d =>
      rw [c] at e
      simp only at e
      split at e
      · injection e with e
        subst e
        decide +kernel
      · cases e
  · injection e with e
    subst e
    decide +kernel
theorem prAll_okSc (is : List Int) (s : Sh) (ss : List Sh) : okSc (match prAll is s ss with | .inl w => .str w | .inr _ => .non) = true := by
  cases c : prAll is s ss with
  | inl w => exact prAll_word c
  | inr d => rfl
/-- copies of rows that are being made: new objects, put into the list at D -/
structure Cop (f : List Int → HO) (H7 H8 : Hp) (D : Addr) (cs : List Addr) (tss : List (List Int)) : Prop where
  S : Same H7 H8
  n : H7 D = none
  d : H8 D = some (.lst (cs.map V.ref))
  a : ∀ (n : Nat) (a : Addr) (ts : List Int), cs[n]? = some a → tss[n]? = some ts → H7 a = none ∧ a ≠ D ∧ H8 a = some (f ts)
theorem Cop.nil {f : List Int → HO} {H7 : Hp} {D : Addr} {tss : List (List Int)} (hD : H7 D = none) : Cop f H7 (upd H7 D (.lst [])) D [] tss := ⟨new_same hD, hD, upd_same, fun n a ts e => by simp at e⟩
theorem same_free {H H' : Hp} {a : Addr} (S : Same H H') (e : H' a = none) : H a = none := by
  cases q : H a with
  | none => rfl
  | some o =>
    have := S _ _ q
    rw [e] at this
    cases this
theorem Cop.snoc {f : List Int → HO} {H7 H8 : Hp} {D z : Addr} {cs : List Addr} {ts : List Int} {tss : List (List Int)} (c : Cop f H7 H8 D cs tss) (hz : H8 z = none) (ets : tss[cs.length]? = some ts) : Cop f H7 (upd (upd H8 z (f ts)) D (.lst (cs.map V.ref ++ [.ref z]))) D (cs ++ [z]) tss := by
  have nz : z ≠ D := (ne_of_none c.d hz).symm
  refine ⟨fun b o e => ?_, c.n, by rw [upd_same, List.map_append]; rfl, fun n a us e1 e2 => ?_⟩
  · rw [upd_ne (ne_of_none e c.n), upd_ne (ne_of_none (c.S _ _ e) hz)]
    exact c.S _ _ e
  · rcases Nat.lt_or_ge n cs.length with hn | hn
    · rw [List.getElem?_append_left hn] at e1
      obtain ⟨q1, q2, q3⟩ := c.a n a us e1 e2
      exact ⟨q1, q2, by rw [upd_ne q2, upd_ne (ne_of_none q3 hz)]; exact q3⟩
    · have hn2 : n = cs.length := by
        have := (List.getElem?_eq_some_iff.mp e1).1
        rw [List.length_append] at this
        have l : [z].length = 1 := rfl
        omega
      subst hn2
      rw [List.getElem?_append_right (Nat.le_refl _), Nat.sub_self] at e1
      obtain rfl : z = a := Option.some.inj e1
      rw [ets] at e2
      obtain rfl := Option.some.inj e2
      exact ⟨same_free c.S hz, nz, by rw [upd_ne nz, upd_same]⟩
def lstO (ts : List Int) : HO := .lst (ts.map V.int)
section
variable {P : Program} {w : World} {K : PySem.W.Frag} {mg : Str → Option Value} {base : Heap}
theorem ok_law {f C CC CB CE fH fD fK fL fN fPr fA fU fI fJ : Addr} {fd fdH fdD fdK fdL fdN fdPr fdA fdU fdI fdJ : FuncData} (F : Fun K "law" "law" s_law f fd) (c : CoC K CC) (nl : mg "len" = none) (nli : mg "list" = none) (nr : mg "range" = none) (nis : mg "isinstance" = none)
    (GH : Cal P w K mg base CX0 1 "_law_hand" fH fdH ["_law_script"] (spHand K)) (GD : Cal P w K mg base CX0 2 "_law_draw" fD fdD ["_law_hand_here", "_law_many"] spDraw) (GK : Cal P w K mg base CX0 3 "_law_backs" fK fdK ["_law_hand_here", "_law_many"] spBacks)
    (GL : Cal P w K mg base CX0 3 "_law_labels" fL fdL ["_law_hand_here", "_law_many"] spLabels)
    (GN : Cal P w K mg base CX0 9 "_law_newcomer" fN fdN ["_law_hand_here", "_law_company", "_law_backs_here", "_law_labels_here"] (spNew C CC)) (GPr : Cal P w K mg base CX0 4 "_law_pairs" fPr fdPr ["_law_hand_here", "_law_labels_here"] spLPairs)
    (GA : Cal P w K mg base CX0 9 "_law_pairs_asked" fA fdA ["_law_company", "_law_labels_here", "_law_pairs_here"] (spPAsk C CC)) (GU : Cal P w K mg base CX0 2 "_law_pairs_due" fU fdU ["_law_labels_here", "_law_pairs_here"] spPDue)
    (mT : mg "Ties" = some (.ref C)) (mC : mg "Company" = some (.ref CC)) (MI : Mk K C fI) (FI : FnOk P w K mg base (L2.CX P w) 4 fI fdI ["self", "backs"] (spTies C CB)) (bI : Binds K fdI ["self", "backs"] [])
    (MJ : Mk K CC fJ) (FJ : FnOk P w K mg base (L2.CX P w) 5 fJ fdJ ["self", "ties", "guests", "rows"] (spCompI C CC CE)) (bJ : Binds K fdJ ["self", "ties", "guests", "rows"] []) : FnOk P w K mg base CX0 10 f fd ["_law_script"] (spLaw K) := by
  refine F.ok sc_law (fun vs H Q E h => ?_) (fun cdv A outer s H vs Q E hr h => ?_)
  · obtain ⟨a, ns, rfl, _⟩ := h
    rfl
  · obtain ⟨a, ns, rfl, hS, hn, k⟩ := h
    have hr5 : Room 5 _ := hr.mono (by decide)
    have hr6 : Room 6 _ := hr.mono (by decide)

    refine ⟨_, (pss_cons 
  (ps_set (i := 1) sc_law.nd rfl (Or.inr rfl) (pcal GH hr pass0 (pa_cons (pv 0) pa_nil))) (pss_cons 
  (ps_for PassesOwn.never rfl (pi_range1 (by rfl) nr (pa_cons pe_int pa_nil)) (pg_name (i := 2) sc_law.nd rfl (Or.inl rfl)) (pss_cons 
    (ps_set (i := 3) sc_law.nd rfl (Or.inr rfl) (pcal GK hr pass0 (pa_cons (pv 1) (pa_cons (pe_op op_add pe_int (pcal GD hr pass0 (pa_cons (pv 1) (pa_cons pe_int pa_nil)))) pa_nil)))) (pss_cons 
    (ps_set (i := 4) sc_law.nd rfl (Or.inl rfl) (pe_cmpR op_eq (pcal GD hr pass0 (pa_cons (pv 1) (pa_cons pe_int pa_nil))) pe_int (nomark _))) (C8.pss_cut 
    (ps_set (i := 5) sc_law.nd rfl (Or.inl rfl) (pe_ifExp (pt_val (pv 4)) (pe_op op_add pe_int (pcal GD hr pass0 (pa_cons (pv 1) (pa_cons pe_int pa_nil)))) (pcal GD hr pass0 (pa_cons (pv 1) (pa_cons pe_int pa_nil))))) (C8.pss_cut 
    (ps_if (PW.pt (pw_and (pt_not (pt_val (pv 4))) (pw_and1 (pt_cmpR op_eq (pcal GD hr pass0 (pa_cons (pv 1) (pa_cons pe_int pa_nil))) pe_int (nomark _))))) (pss_one 
      (ps_set (i := 5) sc_law.nd rfl (Or.inl rfl) (pe_op op_add (pv 5) pe_int))) pss_nil) (pss_cons 
    (ps_set (i := 6) sc_law.nd rfl (Or.inl rfl) (pcal GL hr pass0 (pa_cons (pv 1) (pa_cons (pv 5) pa_nil)))) (pss_cons 
    (ps_setLc (i := 7) (own := [("_law_j", 12)]) (g := gName 12) rfl sc_law.nd rfl rfl (sw_true rfl rfl rfl (by decide +kernel)) (pi_range1 (by rfl) nr (pa_cons (pv 5) pa_nil)) (blkOk_by (own := [("_law_j", 12)]) (N := ["_law_script", "_law_hand_here", "_law_turn", "_law_backs_here", "_law_large", "_law_many", "_law_labels_here", "_law_rows", "_law_company", "_law_k", "_law_pairs_here", "_law_kept", "_law_j", "_law_i", "_law_row"]) (sc := defScope s_law) (by decide +kernel)) (fun _ _ _ _ _ => pg_name (i := 12) sc_law.nd rfl (Or.inl rfl)) (fun _ _ _ _ _ => pts_nil) (fun _ _ _ _ _ => (pe_lc (own := [("_law_i", 13)]) (g := gName 13) (by rfl) sc_law.nd (pi_range1 (by rfl) nr (pa_cons (pv 12) pa_nil)) (blkOk_by (own := [("_law_i", 13)]) (N := ["_law_script", "_law_hand_here", "_law_turn", "_law_backs_here", "_law_large", "_law_many", "_law_labels_here", "_law_rows", "_law_company", "_law_k", "_law_pairs_here", "_law_kept", "_law_j", "_law_i", "_law_row"]) (by rfl)) (fun _ _ _ _ _ => pg_name (i := 13) sc_law.nd rfl (Or.inl rfl)) (fun _ _ _ _ _ => pts_nil) (fun _ _ _ _ _ => (pcal GD hr pass0 (pa_cons (pv 1) (pa_cons (pe_callB (id := "len") (r := rLen K) call_len_seq (by rfl) nl PySem.boot_len (pa_cons (pv 3) pa_nil)) pa_nil))))))) (pss_cons 
    (ps_set (i := 8) sc_law.nd rfl (Or.inl rfl) (pe_make MJ FJ hr6 rfl mC bJ .nil passL (pa_cons (pe_make MI FI hr5 rfl mT bI .nil passL (pa_cons (pv 3) pa_nil)) (pa_cons (pv 6) (pa_cons (pv 7) pa_nil))))) (C8.pss_cut 
    (ps_for PassesOwn.never rfl (pi_range1 (by rfl) nr (pa_cons pe_int pa_nil)) (pg_name (i := 9) sc_law.nd rfl (Or.inl rfl)) (pss_one 
      (ps_if (pt_not (pt_val (pcal GN hr pass0 (pa_cons (pv 1) (pa_cons (pv 8) (pa_cons (pv 3) (pa_cons (pv 6) pa_nil))))))) (pss_one 
        (ps_ret pe_bl)) pss_nil))) (C8.pss_cut 
    (ps_if (pt_not (pt_val (pv 4))) (pss_cons 
      (ps_set (i := 10) sc_law.nd rfl (Or.inl rfl) (pcal GPr hr pass0 (pa_cons (pv 1) (pa_cons (pv 6) pa_nil)))) (pss_cons 
      (ps_set (i := 11) sc_law.nd rfl (Or.inl rfl) (pe_ifExp (pt_val (pe_callB call_isi (by rfl) nis (by decide +kernel) (pa_cons (pv 10) (pa_cons (pe_bltn (by rfl) nli (by decide +kernel) (v := .ty "list") rfl) pa_nil)))) (pe_callTy (T := "list") (r := rLst K) call_list_of (by rfl) nli (by decide +kernel) (pa_cons (pv 10) pa_nil)) (pv 10))) (pss_one 
      (ps_if (PW.pt (pw_or (pt_cmpR (op_neD hr.units) (pcal GA hr pass0 (pa_cons (pv 8) (pa_cons (pv 6) (pa_cons (pv 10) pa_nil)))) (pcal GU hr pass0 (pa_cons (pv 6) (pa_cons (pv 10) pa_nil))) (nomark _)) (pw_or1 (pt_cmpR (op_neD hr.units) (pv 10) (pv 11) (nomark _))))) (pss_one 
        (ps_ret pe_bl)) pss_nil)))) pss_nil) (pss_one 
    (ps_if (PW.pt (pw_or (pt_cmpR (op_neD hr.units) (pe_callTy (T := "list") (r := rLst K) call_list_of (by rfl) nli (by decide +kernel) (pa_cons (pe_fld (pv 8) rfl) pa_nil)) (pv 6) (nomark _)) (pw_or1 (pt_cmpR (op_neD hr.units) (pe_lc (own := [("_law_row", 14)]) (g := gName 14) (by rfl) sc_law.nd (pi_tup (pe_fld (pv 8) rfl)) (blkOk_by (own := [("_law_row", 14)]) (N := ["_law_script", "_law_hand_here", "_law_turn", "_law_backs_here", "_law_large", "_law_many", "_law_labels_here", "_law_rows", "_law_company", "_law_k", "_law_pairs_here", "_law_kept", "_law_j", "_law_i", "_law_row"]) (sc := defScope s_law) (by decide +kernel)) (fun _ _ _ _ _ => pg_name (i := 14) sc_law.nd rfl (Or.inl rfl)) (fun _ _ _ _ _ => pts_nil) (fun _ _ _ _ _ => (pe_callTy (T := "list") (r := rLst K) call_list_of (by rfl) nli (by decide +kernel) (pa_cons (pv 14) pa_nil)))) (pv 7) (nomark _))))) (pss_one 
      (ps_ret pe_bl)) pss_nil)))))))))))) (pss_one 
  (ps_ret pe_bl)))), ?_⟩
    refine ⟨_, rfl, a, ns, rfl, hS, hn, fun Ha h q S0 hh0 hq0 hh => ?_⟩
    refine ⟨2, rfl, by decide, by decide, for_range (lo := 0) (n := 2) (fun i σ H' => ∃ (v2 v3 v4 v5 v6 v7 v8 v9 v10 v11 v12 v13 v14 : Option V), σ = [some (.ref a), some (.ref h), v2, v3, v4, v5, v6, v7, v8, v9, v10, v11, v12, v13, v14] ∧ Hand H' h q) ⟨none, none, none, none, none, none, none, none, none, none, none, none, none, rfl, hh⟩ ?_ ?_⟩
    · rintro i σ H1 hi ⟨v2, v3, v4, v5, v6, v7, v8, v9, v10, v11, v12, v13, v14, rfl, h1⟩
      -- backs
      refine ⟨_, rfl, _, rfl, h, q, 3, rfl, by decide, by decide, h1, fun d H2 d0 d3 b2 h2 => ⟨_, _, rfl, rfl, h, q, 2 + d, rfl, by omega, by omega, h2, fun bs b H3 _ gb b3 nb eb h3 => ?_⟩⟩
      obtain ⟨nbh, _⟩ := h2.same_h' nb
      -- large
      refine ⟨_, rfl, h, q, 8, rfl, by decide, by decide, h3, fun b0 H4 x0 x8 b4 h4 => ⟨rfl, ?_⟩⟩
      generalize decide (V.int b0 = V.int 0) = lg
      have eb4 := b4 _ _ nbh eb
      -- many
      refine ⟨fun σ' H' => ∃ m : Nat, σ' = [some (.ref a), some (.ref h), some (.int (0 + (i : Nat))), some (.ref b), some (.bl lg), some (.int (m : Nat)), v6, v7, v8, v9, v10, v11, v12, v13, v14] ∧ (m ≤ 60 ∧ (lg = false → m ≤ 6)) ∧ Hand H' h q ∧ But h H4 H', ?_, ?_⟩
      · refine ⟨_, rfl, _, rfl, ?_⟩
        cases lg with
        | true =>
          refine iteT ⟨_, rfl, h, q, 2, rfl, by decide, by decide, h4, fun m H5 m0 m1 b5 h5 => ⟨_, _, rfl, rfl, (59 + m).toNat, ?_, ⟨by omega, fun z => nomatch z⟩, h5, b5⟩⟩
          rw [Int.toNat_of_nonneg (by omega)]
          rfl
        | false =>
          refine iteF ⟨_, rfl, h, q, 7, rfl, by decide, by decide, h4, fun m H5 m0 m1 b5 h5 => ⟨m.toNat, ?_, ⟨by omega, fun _ => by omega⟩, h5, b5⟩⟩
          rw [Int.toNat_of_nonneg m0]
          rfl
      rintro σ5 H5 ⟨m5, rfl, ⟨m60, m6⟩, h5, b45⟩
      have eb5 := b45 _ _ nbh eb4
      -- eight more
      refine ⟨fun σ' H' => ∃ m : Nat, σ' = [some (.ref a), some (.ref h), some (.int (0 + (i : Nat))), some (.ref b), some (.bl lg), some (.int (m : Nat)), v6, v7, v8, v9, v10, v11, v12, v13, v14] ∧ m ≤ 60 ∧ Hand H' h q ∧ But h H5 H', ?_, ?_⟩
      · refine ⟨_, rfl, _, rfl, ?_⟩
        cases lg with
        | true => exact iteF ⟨m5, rfl, m60, h5, But.refl _ _⟩
        | false =>
          refine iteT ⟨_, rfl, h, q, 6, rfl, by decide, by decide, h5, fun z H6 z0 z1 b6 h6 => ⟨rfl, _, rfl, ifD (fun c => ?_) (fun c => ⟨m5, rfl, m60, h6, b6⟩)⟩⟩
          have := m6 rfl
          exact ⟨_, rfl, _, _, rfl, rfl, m5 + 8, rfl, by omega, h6, b6⟩
      rintro σ6 H6 ⟨m, rfl, m60, h6, b56⟩
      have eb6 := b56 _ _ nbh eb5
      clear m6
      -- labels
      refine ⟨_, rfl, _, rfl, h, q, m, rfl, by omega, h6, fun H7 lb is il asc labs b7 h7 nlb elb => ?_⟩
      obtain ⟨nlh, _⟩ := h6.same_h' nlb
      have eb7 := b7 _ _ nbh eb6
      have i60 : is.length ≤ 60 := by omega
      have bl : (bs.map V.int).length = bs.length := List.length_map _
      have g1 := gb.lo
      have g4 := gb.hi
      -- rows
      refine ⟨_, rfl, (m : Nat), rfl, by omega, by omega, fun D hD => ?_⟩
      obtain ⟨nDh, nDq⟩ := h7.same_h' hD
      refine lc_range (lo := 0) (n := m) (fun j H8 => ∃ (ps : List Addr) (tss : List (List Int)), tss.length = j ∧ Rows bs.length tss ∧ Hand H8 h q ∧ But h H7 H8 ∧ (∀ a ∈ ps, H7 a = none ∧ a ≠ h) ∧ LinesAt H8 D ps tss)
        ⟨[], [], rfl, (fun j ts e => by simp at e), h7.new hD, But.new hD, (fun a ha => by simp at ha), upd_same, rfl, (fun j a ts e => by simp at e)⟩ ?_ ?_
      · rintro j H8 hj ⟨ps, tss, tl, rw_, h8, B8, fr, eD, pl, hl⟩
        refine ⟨rfl, yesT ?_⟩
        have eb8 := B8 _ _ nbh eb7
        refine ⟨_, rfl, ((j : Nat) : Int), by rw [Int.zero_add], by omega, by omega, fun D2 hD2 => ?_⟩
        obtain ⟨n2h, n2q⟩ := h8.same_h' hD2
        have n2b : D2 ≠ b := (ne_of_none eb8 hD2).symm
        have n2D : D2 ≠ D := (ne_of_none eD hD2).symm
        have f2 : H7 D2 = none := B8.free n2h hD2
        have n2p : D2 ∉ ps := fun z => by
          obtain ⟨i, hi⟩ := List.getElem?_of_mem z
          have il := (List.getElem?_eq_some_iff.mp hi).1
          obtain ⟨_, e⟩ := hl i D2 _ hi (List.getElem?_eq_getElem (by omega))
          rw [hD2] at e
          cases e
        refine lc_range (lo := 0) (n := j) (fun n H9 => ∃ zs : List Int, zs.length = n ∧ (∀ t ∈ zs, 0 ≤ t ∧ t < (bs.length : Nat)) ∧ H9 D2 = some (.lst (zs.map V.int)) ∧ Hand H9 h q ∧ (∀ b o, b ≠ h → b ≠ D2 → H8 b = some o → H9 b = some o))
          ⟨[], rfl, (fun t ht => by simp at ht), upd_same, h8.new hD2, fun b o _ n2 e => by rw [upd_ne n2]; exact e⟩ ?_ ?_
        · rintro n H9 hn ⟨zs, zl, zr, eD2, h9, B9⟩
          refine ⟨rfl, yesT ?_⟩
          have eb9 := B9 _ _ nbh n2b.symm eb8
          refine ⟨_, rfl, _, rfl, b, _, rfl, .inl (SqL.of eb9), h, q, _, rfl, by omega, by omega, h9, fun z H10 z0 z1 b10 h10 => ?_⟩
          have eD210 := b10 _ _ n2h eD2
          refine ⟨_, eD210, by rw [List.length_map]; exact small1000 (by omega), zs ++ [z], by rw [List.length_append, zl]; rfl, fun t ht => ?_, by rw [upd_same, List.map_append]; rfl, h10.put n2h.symm n2q.symm, fun c o n1 n2 e => by rw [upd_ne n2]; exact b10 _ _ n1 (B9 c o n1 n2 e)⟩
          rcases List.mem_append.mp ht with ht | ht
          · exact zr t ht
          · rw [List.mem_singleton] at ht
            subst ht
            exact ⟨z0, by omega⟩
        · rintro H9 ⟨zs, zl, zr, eD2, h9, B9⟩
          have eD9 := B9 _ _ nDh n2D.symm eD
          refine ⟨ps.map V.ref, eD9, by rw [List.length_map]; exact small1000 (by omega), ps ++ [D2], tss ++ [zs], by rw [List.length_append, tl]; rfl, fun i ts e => ?_, h9.put nDh.symm nDq.symm, fun c o nc e => ?_, fun a ha => ?_, by rw [upd_same, List.map_append]; rfl, by rw [List.length_append, List.length_append, pl]; rfl, fun i a ts e1 e2 => ?_⟩
          · rcases Nat.lt_or_ge i tss.length with q | q
            · rw [List.getElem?_append_left q] at e
              exact rw_ i ts e
            · have hi : i = j := by
                have := (List.getElem?_eq_some_iff.mp e).1
                rw [List.length_append] at this
                have l : [zs].length = 1 := rfl
                omega
              subst hi
              rw [← tl, List.getElem?_append_right (Nat.le_refl _), Nat.sub_self] at e
              obtain rfl : zs = ts := Option.some.inj e
              exact ⟨zl, zr⟩
          · rw [upd_ne (ne_of_none e hD)]
            exact B9 c o nc (ne_of_none e f2) (B8 c o nc e)
          · rcases List.mem_append.mp ha with q | q
            · exact fr a q
            · rw [List.mem_singleton] at q
              subst q
              exact ⟨f2, n2h⟩
          · rcases Nat.lt_or_ge i ps.length with q | q
            · rw [List.getElem?_append_left q] at e1
              rw [List.getElem?_append_left (by omega)] at e2
              obtain ⟨n1, e3⟩ := hl i a ts e1 e2
              have mem := List.mem_of_getElem? e1
              exact ⟨n1, by rw [upd_ne n1]; exact B9 a _ (fr a mem).2 (fun z => n2p (z ▸ mem)) e3⟩
            · have hi : i = ps.length := by
                have := (List.getElem?_eq_some_iff.mp e1).1
                rw [List.length_append] at this
                have l : [D2].length = 1 := rfl
                omega
              subst hi
              rw [List.getElem?_append_right (Nat.le_refl _), Nat.sub_self] at e1
              rw [pl, List.getElem?_append_right (Nat.le_refl _), Nat.sub_self] at e2
              obtain rfl : D2 = a := Option.some.inj e1
              obtain rfl : zs = ts := Option.some.inj e2
              exact ⟨n2D, by rw [upd_ne n2D]; exact eD2⟩
      rintro H8 ⟨ps, tss, tl, R, h8, B8, fr, L⟩
      have eb8 := B8 _ _ nbh eb7
      have elb8 := B8 _ _ nlh elb
      have tli : tss.length = is.length := by omega
      have npsh : ∀ a ∈ ps, a ≠ h := fun a ha => (fr a ha).2
      -- company
      refine ⟨_, rfl, mk_ties (s := .lst (bs.map V.int)) ⟨b, rfl, eb8⟩ gb rfl rfl fun H9 t S9 nt TT => ⟨rfl, _, rfl, _, rfl, mk_comp (sg := .lst (is.map V.int)) (sr := .lst (ps.map V.ref)) (ss := shL tss) TT ⟨lb, rfl, S9 _ _ elb8⟩ ⟨D, rfl, S9 _ _ L.1⟩ ((L.keep S9).sh) rfl rfl rfl (shL_rows tss) tli i60 asc labs R fun H10 x S10 nx cC => ⟨rfl, ?_⟩⟩⟩
      have S810 := S9.trans S10
      have h10 := h8.keep S810
      have eb10 := S810 _ _ eb8
      have elb10 := S810 _ _ elb8
      have L10 := L.keep S810
      clear eb8 elb8 L eb7 eb6 eb5 eb4 eb h8 B8 fr S9 S10 S810 TT elb
      have cCx : ∀ {H' : Hp}, But h H10 H' → CompAt C CC H' x bs is tss := fun B => by
        obtain ⟨cs1, i1, r1, t1, eh1, _⟩ := id h10
        exact cC.but eh1 B
      -- newcomers
      refine ⟨fun σ' H' => ∃ v9, σ' = [some (.ref a), some (.ref h), some (.int (0 + (i : Nat))), some (.ref b), some (.bl lg), some (.int (m : Nat)), some (.ref lb), some (.ref D), some (.ref x), v9, v10, v11, v12, v13, v14] ∧ Hand H' h q ∧ But h H10 H', ⟨3, rfl, by decide, by decide, for_range (lo := 0) (n := 3) (fun j σ' H' => ∃ v9, σ' = [some (.ref a), some (.ref h), some (.int (0 + (i : Nat))), some (.ref b), some (.bl lg), some (.int (m : Nat)), some (.ref lb), some (.ref D), some (.ref x), v9, v10, v11, v12, v13, v14] ∧ Hand H' h q ∧ But h H10 H') ⟨v9, rfl, h10, But.refl _ _⟩ ?_ (fun σ' H' z => z)⟩, ?_⟩
      · rintro j σ' H' hj ⟨u9, rfl, h', B'⟩
        exact ⟨_, rfl, _, rfl, _, rfl, _, rfl, h, q, x, b, lb, bs, is, tss, rfl, h', cCx B', gb, by omega, by omega, nbh, nlh, B' _ _ nbh eb10, B' _ _ nlh elb10, fun H2 B2 h2 => ⟨_, rfl, iteF ⟨_, rfl, h2, B'.trans B2⟩⟩⟩
      rintro σ9 H11 ⟨u9, rfl, h11, B11⟩
      -- new labels
      refine ⟨fun σ' H' => ∃ u10 u11, σ' = [some (.ref a), some (.ref h), some (.int (0 + (i : Nat))), some (.ref b), some (.bl lg), some (.int (m : Nat)), some (.ref lb), some (.ref D), some (.ref x), u9, u10, u11, v12, v13, v14] ∧ Hand H' h q ∧ But h H10 H', ?_, ?_⟩
      · refine ⟨_, rfl, _, rfl, ?_⟩
        cases lg with
        | true => exact iteF ⟨v10, v11, rfl, h11, B11⟩
        | false =>
          refine iteT ⟨_, rfl, _, rfl, h, q, lb, is, rfl, h11, nlh, B11 _ _ nlh elb10, i60, fun H12 Pr xs B12 h12 P0 eP it xl => ?_, fun H12 v B12 h12 sc => ?_⟩
          · have B2 := B11.trans B12
            have cC2 := cCx B2
            obtain ⟨ss, sa, sl, snl⟩ := items_sh it
            obtain ⟨ds, p1, p2, p3, p4, p5⟩ := items_data (K := K) it
            refine ⟨_, rfl, _, _, _, _, true, rfl, .ty "list", .base (.lst eP), kit_ty kt_list_list, _, rfl, if_tr rfl ⟨_, rfl, Pr, xs, rfl, .inl (SqL.of eP), fun l hl => ?_⟩⟩
            have T13 := new_same (o := .lst xs) hl
            have el13 : (upd H12 l (.lst xs)) l = some (.lst xs) := upd_same
            generalize upd H12 l (.lst xs) = H13 at T13 el13
            have it13 := it.keep (TupK.same T13)
            have cC13 := cC2.keep T13
            refine ⟨_, rfl, _, rfl, _, rfl, x, bs, is, tss, .ref lb, .ref Pr, .lst xs, ss, rfl, cC13, gb, ⟨Pr, rfl, T13 _ _ eP⟩, items_known it13, sa.keep T13, by omega, snl, fun H14 S14 => ?_⟩
            refine ⟨_, rfl, _, rfl, lb, is, .ref Pr, .lst xs, ss, rfl, S14 _ _ (T13 _ _ (B2 _ _ nlh elb10)), i60, asc, labs, ⟨Pr, rfl, S14 _ _ (T13 _ _ eP)⟩, (sa.keep T13).keep S14, by omega, snl, fun H15 S15 => ?_⟩
            have ok := prAll_okSc is (.lst xs) ss
            refine ⟨scD _, scD _, dp_sc ok, dp_sc ok, shaped_sc ok, shaped_sc ok, _, rfl, if_fa (congrArg Bool.not (eqv_sc _)) ?_⟩
            have S1215 := (T13.trans S14).trans S15
            have S1315 := S14.trans S15
            refine ⟨_, rfl, _, rfl, .list ds, .list ds, .lst (SqL.of (S1215 _ _ eP)) (p2 _ (TupK.same S1215)), .lst (SqL.of (S1315 _ _ el13)) (p2 _ (TupK.same S1215)), shaped_l p4 p5, shaped_l p4 p5, _, rfl, if_fa (by rw [show PyData.eqv (.list ds) (.list ds) = PyData.eqvAll ds ds by simp only [PyData.eqv], p3]; rfl) ?_⟩
            exact ⟨_, _, rfl, h12.keep S1215, B2.trans (But.same S1215)⟩
          · have B2 := B11.trans B12
            have cC2 := cCx B2
            have isv : Is H12 v (.sc v) := ⟨rfl, okSc_sc sc⟩
            obtain ⟨t, ht, _, _, k3, _⟩ := isv.ty (K := K)
            refine ⟨_, rfl, _, _, _, _, false, rfl, .ty "list", ht, kit_ty k3, _, rfl, if_fa rfl ⟨_, rfl, ?_⟩⟩
            refine ⟨_, rfl, _, rfl, _, rfl, x, bs, is, tss, .ref lb, v, .sc v, [], rfl, cC2, gb, isv, (fun y hy => nomatch hy), .nil, by decide, (fun s hs => nomatch hs), fun H14 S14 => ?_⟩
            refine ⟨_, rfl, _, rfl, lb, is, v, .sc v, [], rfl, S14 _ _ (B2 _ _ nlh elb10), i60, asc, labs, isv.keep S14, .nil, by decide, (fun s hs => nomatch hs), fun H15 S15 => ?_⟩
            have ok := prAll_okSc is (.sc v) []
            refine ⟨scD _, scD _, dp_sc ok, dp_sc ok, shaped_sc ok, shaped_sc ok, _, rfl, if_fa (congrArg Bool.not (eqv_sc _)) ?_⟩
            have S1215 := S14.trans S15
            refine ⟨_, rfl, _, rfl, scD v, scD v, dp_sc sc, dp_sc sc, shaped_sc sc, shaped_sc sc, _, rfl, if_fa (congrArg Bool.not (eqv_sc _)) ?_⟩
            exact ⟨_, _, rfl, h12.keep S1215, B2.trans (But.same S1215)⟩
      rintro σ9 H12 ⟨u10, u11, rfl, h12, B12⟩
      have cC12 := cCx B12
      have elb12 := B12 _ _ nlh elb10
      have L12 := L10.but nDh npsh B12
      obtain ⟨dx, t1, g, r, bt, p, pr, kvs, a1, a2, a3, a4, a5, a6, a7, a8, a9, a10, a11⟩ := id cC12
      refine ⟨_, rfl, x, CC, dx, _, _, rfl, a1, c.cl, c.nG, cf_guests _ _ _ _ _, g, _, rfl, .inr (SqT.of a3), fun l hl => ?_⟩
      have T13 := new_same (o := .lst (is.map V.int)) hl
      have el13 : (upd H12 l (.lst (is.map V.int))) l = some (.lst (is.map V.int)) := upd_same
      generalize upd H12 l (.lst (is.map V.int)) = H13 at T13 el13
      refine ⟨_, rfl, _, _, .lst (SqL.of el13) (dp_ints is), .lst (SqL.of (T13 _ _ elb12)) (dp_ints is), shaped_li is, shaped_li is, _, rfl, if_fa (by rw [eqv_li]; simp) ?_⟩
      have r13 := T13 _ _ a4.1
      refine ⟨_, rfl, x, CC, dx, _, _, rfl, T13 _ _ a1, c.cl, c.nR, cf_rows _ _ _ _ _, r, rfl, ⟨_, SqT.of r13⟩, fun D3 hD3 => ?_⟩
      have prl : pr.length = tss.length := a4.2.1
      refine lc_tup (K := K) (a := r) (xs := pr.map V.ref) (fun j H8 => ∃ cs : List Addr, cs.length = j ∧ Cop lstO H13 H8 D3 cs tss) ⟨[], rfl, .nil hD3⟩ (fun j H8 _ ⟨_, _, C8⟩ => SqT.of (C8.S _ _ r13)) ?_ ?_
      · rintro j y H8 hy ⟨cs, cl, C8⟩
        have hjp : j < pr.length := by
          have := (List.getElem?_eq_some_iff.mp hy).1
          rwa [List.length_map] at this
        have ea := List.getElem?_eq_getElem hjp
        have ets := List.getElem?_eq_getElem (l := tss) (i := j) (by omega)
        have e3 := (a4.2.2 j _ _ ea ets).1
        obtain rfl : V.ref pr[j] = y := by
          rw [List.getElem?_map, ea] at hy
          exact Option.some.inj hy
        refine ⟨rfl, yesT ?_⟩
        refine ⟨_, rfl, pr[j], _, rfl, .inr (SqT.of (C8.S _ _ (T13 _ _ e3))), fun z hz => ?_⟩
        refine ⟨_, new_same hz _ _ C8.d, by rw [List.length_map]; exact small1000 (by omega), cs ++ [z], by rw [List.length_append, cl]; rfl, C8.snoc hz (by rw [cl]; exact ets)⟩
      rintro H8 ⟨cs, cl, C8⟩
      rw [List.length_map] at cl
      have S128 := T13.trans C8.S
      refine ⟨_, rfl, _, _, .lst (SqL.of C8.d) (dp_linesD (by omega) fun n a ts e1 e2 => (C8.a n a ts e1 e2).2.2), (L12.keep S128).dp, shaped_linesD tss, shaped_linesD tss, _, rfl, if_fa (by rw [eqv_lines]; simp) ?_⟩
      exact ⟨_, _, _, _, _, _, _, _, _, _, _, _, _, rfl, h12.keep S128⟩
    · rintro σ H' ⟨v2, v3, v4, v5, v6, v7, v8, v9, v10, v11, v12, v13, v14, rfl, h1⟩
      exact k _
end
end J

set_option Elab.async false
set_option linter.all false
set_option maxRecDepth 100000
set_option maxHeartbeats 8000000
namespace J
open PySem L2
theorem kit_me {K : PySem.W.Frag} {S : Addr} : PySem.W.kitOne K (.ref S) (.ref S) = some true := by
  unfold PySem.W.kitOne
  rw [if_pos (by simp)]
theorem kit_no {K : PySem.W.Frag} {S : Addr} {T : String} (h2 : PySem.W.isClsIn K S = true) (h3 : PySem.W.typeIn K (.ref S) = some (.type "type")) (h4 : PySem.W.subIn K (.type T) (.ref S) = some false) : PySem.W.kitOne K (.type T) (.ref S) = some false := by
  have e2 : ((PySem.W.clsIn K S).isSome && PySem.W.typeIn K (.ref S) == some (.type "type")) = true := by
    have q : (PySem.W.clsIn K S).isSome = true := h2
    rw [q, h3]
    rfl
  unfold PySem.W.kitOne
  rw [if_neg (by simp)]
  show (if ((PySem.W.clsIn K S).isSome && PySem.W.typeIn K (.ref S) == some (.type "type")) = true then PySem.W.subIn K (.type T) (.ref S) else none) = some false
  rw [if_pos e2]
  exact h4
theorem fund_mk {K : PySem.W.Frag} {x qual : Str} {st : Stmt} {f Td e1 e2 : Addr} {oc kV doc pm cd ct cT : Value} {od an dT : Option Addr} {sl slT : Array (Option Value)} {nT : Nat} (l : K.lookup f = some ⟨oc, od, .func (PySem.W.fnOf x qual (defArgs st) (defBody st) (defScope st) (.ref Td) kV doc pm an cd ct), sl⟩)
    (lT : K.lookup Td = some ⟨cT, dT, .seq #[.ref e1, .ref e2] nT, slT⟩) (c : PySem.W.codeIn K cd qual = true) (k : PySem.W.keepIn K (.ref f) = true) : FunD K x qual (defArgs st) (defBody st) (defScope st) [V.ref e1, V.ref e2] [] f (PySem.W.fnOf x qual (defArgs st) (defBody st) (defScope st) (.ref Td) kV doc pm an cd ct) :=
  ⟨⟨oc, od, .ref Td, kV, doc, pm, an, cd, ct, sl, rfl, l, c, .inr ⟨by simp, Td, _, [.ref e1, .ref e2], nT, rfl, lT, rfl, .cons rfl (.cons rfl .nil)⟩, .inl rfl⟩, k⟩
theorem fund_binds {K : PySem.W.Frag} {x qual : Str} {params : Arguments} {body : List Stmt} {scope : Scope} {a b : V} {f : Addr} {fd : FuncData} {ps : List Str} (F : FunD K x qual params body scope [a, b] [] f fd)
    (h : ∀ (T : Addr) (kV doc pm : Value) (an : Option Addr) (cdv ct : Value) (us its : List Value), us.length = ps.length → its.length = 2 →
      ∃ k, bindArgs (PySem.W.fnOf x qual params body scope (.ref T) kV doc pm an cdv ct) ⟨us, []⟩ = seqItems? (.ref T) >>= k ∧ k (some its.toArray) = pure (ps.zip (us ++ its.drop 2))) : Binds K fd ps [] := by
  obtain ⟨ds, v, bd⟩ := F.binds1 ps.length 2 (by simp) (by simp) h
  have v' : Vals [] ds := v
  cases v'
  exact bd
/-- an error of the class at S is what its own name catches -/
theorem exm_own {K : PySem.W.Frag} {S : Addr} (h1 : PySem.W.subIn K (.ref S) (.type "BaseException") = some true) (h2 : PySem.W.isClsIn K S = true) (h3 : PySem.W.typeIn K (.ref S) = some (.type "type")) (h4 : PySem.W.subIn K (.ref S) (.ref S) = some true) :
    PySem.W.exmOne K (.ref S) (.ref S) = some true := by
  have e1 : (PySem.W.subIn K (.ref S) (.type "BaseException") == some true) = true := by rw [h1]; rfl
  have e2 : ((PySem.W.clsIn K S).isSome && PySem.W.typeIn K (.ref S) == some (.type "type")) = true := by
    have q : (PySem.W.clsIn K S).isSome = true := h2
    rw [q, h3]
    rfl
  unfold PySem.W.exmOne
  rw [if_pos e1]
  show (if ((PySem.W.clsIn K S).isSome && PySem.W.typeIn K (.ref S) == some (.type "type")) = true then PySem.W.subIn K (.ref S) (.ref S) else none) = some true
  rw [if_pos e2]
  exact h4
/-- an error of the class at A, asked whether the name of the class at S catches it -/
theorem exm_of {K : PySem.W.Frag} {A S : Addr} {b : Bool} (h1 : PySem.W.subIn K (.ref S) (.type "BaseException") = some true) (h2 : PySem.W.isClsIn K S = true) (h3 : PySem.W.typeIn K (.ref S) = some (.type "type")) (h4 : PySem.W.subIn K (.ref A) (.ref S) = some b) :
    PySem.W.exmOne K (.ref A) (.ref S) = some b := by
  have e1 : (PySem.W.subIn K (.ref S) (.type "BaseException") == some true) = true := by rw [h1]; rfl
  have e2 : ((PySem.W.clsIn K S).isSome && PySem.W.typeIn K (.ref S) == some (.type "type")) = true := by
    have q : (PySem.W.clsIn K S).isSome = true := h2
    rw [q, h3]
    rfl
  unfold PySem.W.exmOne
  rw [if_pos e1]
  show (if ((PySem.W.clsIn K S).isSome && PySem.W.typeIn K (.ref S) == some (.type "type")) = true then PySem.W.subIn K (.ref A) (.ref S) else none) = some b
  rw [if_pos e2]
  exact h4
theorem all_mk {l : PySem.W.OpenLaw} {w : World} {K : PySem.W.Frag} {h : Heap} {mg : Str → Option Value} {fa : Addr} (X : K.In h) (G : h.Ns mainGlobals mg) (hfa : mg "law" = some (.ref fa))
    {GE CB f_xCB CI f_xCI CE f_xCE CN f_xCN CL f_xCL CW f_xCW CT CC f_W f_LB f_Q f_CK f_tI f_tH f_tE f_tB f_CR f_CC2 f_TO f_cI TdcI e1cI e2cI f_cL f_cC f_cP f_cO f_cR f_pf f_wr f_NL f_se f_re f_X f_H f_D f_K f_B f_P f_LW f_RD f_RA f_NC f_PD f_SH f_PR f_PA f_V : Addr} {oc_xCB kv_xCB dc_xCB pm_xCB cd_xCB ct_xCB oc_xCI kv_xCI dc_xCI pm_xCI cd_xCI ct_xCI oc_xCE kv_xCE dc_xCE pm_xCE cd_xCE ct_xCE oc_xCN kv_xCN dc_xCN pm_xCN cd_xCN ct_xCN oc_xCL kv_xCL dc_xCL pm_xCL cd_xCL ct_xCL oc_xCW kv_xCW dc_xCW pm_xCW cd_xCW ct_xCW oc_W kv_W dc_W pm_W cd_W ct_W oc_LB kv_LB dc_LB pm_LB cd_LB ct_LB oc_Q kv_Q dc_Q pm_Q cd_Q ct_Q oc_CK kv_CK dc_CK pm_CK cd_CK ct_CK oc_tI kv_tI dc_tI pm_tI cd_tI ct_tI oc_tH kv_tH dc_tH pm_tH cd_tH ct_tH oc_tE kv_tE dc_tE pm_tE cd_tE ct_tE oc_tB kv_tB dc_tB pm_tB cd_tB ct_tB oc_CR kv_CR dc_CR pm_CR cd_CR ct_CR oc_CC2 kv_CC2 dc_CC2 pm_CC2 cd_CC2 ct_CC2 oc_TO kv_TO dc_TO pm_TO cd_TO ct_TO oc_cI kv_cI dc_cI pm_cI cd_cI ct_cI cTcI oc_cL kv_cL dc_cL pm_cL cd_cL ct_cL oc_cC kv_cC dc_cC pm_cC cd_cC ct_cC oc_cP kv_cP dc_cP pm_cP cd_cP ct_cP oc_cO kv_cO dc_cO pm_cO cd_cO ct_cO oc_cR kv_cR dc_cR pm_cR cd_cR ct_cR oc_pf kv_pf dc_pf pm_pf cd_pf ct_pf oc_wr kv_wr dc_wr pm_wr cd_wr ct_wr oc_NL kv_NL dc_NL pm_NL cd_NL ct_NL oc_se kv_se dc_se pm_se cd_se ct_se oc_re kv_re dc_re pm_re cd_re ct_re oc_X kv_X dc_X pm_X cd_X ct_X oc_H kv_H dc_H pm_H cd_H ct_H oc_D kv_D dc_D pm_D cd_D ct_D oc_K kv_K dc_K pm_K cd_K ct_K oc_B kv_B dc_B pm_B cd_B ct_B oc_P kv_P dc_P pm_P cd_P ct_P oc_LW kv_LW dc_LW pm_LW cd_LW ct_LW oc_RD kv_RD dc_RD pm_RD cd_RD ct_RD oc_RA kv_RA dc_RA pm_RA cd_RA ct_RA oc_NC kv_NC dc_NC pm_NC cd_NC ct_NC oc_PD kv_PD dc_PD pm_PD cd_PD ct_PD oc_SH kv_SH dc_SH pm_SH cd_SH ct_SH oc_PR kv_PR dc_PR pm_PR cd_PR ct_PR oc_PA kv_PA dc_PA pm_PA cd_PA ct_PA oc_V kv_V dc_V pm_V cd_V ct_V : Value} {od_xCB an_xCB od_xCI an_xCI od_xCE an_xCE od_xCN an_xCN od_xCL an_xCL od_xCW an_xCW od_W an_W od_LB an_LB od_Q an_Q od_CK an_CK od_tI an_tI od_tH an_tH od_tE an_tE od_tB an_tB od_CR an_CR od_CC2 an_CC2 od_TO an_TO od_cI an_cI dTcI od_cL an_cL od_cC an_cC od_cP an_cP od_cO an_cO od_cR an_cR od_pf an_pf od_wr an_wr od_NL an_NL od_se an_se od_re an_re od_X an_X od_H an_H od_D an_D od_K an_K od_B an_B od_P an_P od_LW an_LW od_RD an_RD od_RA an_RA od_NC an_NC od_PD an_PD od_SH an_SH od_PR an_PR od_PA an_PA od_V an_V : Option Addr} {sl_xCB sl_xCI sl_xCE sl_xCN sl_xCL sl_xCW sl_W sl_LB sl_Q sl_CK sl_tI sl_tH sl_tE sl_tB sl_CR sl_CC2 sl_TO sl_cI sTcI sl_cL sl_cC sl_cP sl_cO sl_cR sl_pf sl_wr sl_NL sl_se sl_re sl_X sl_H sl_D sl_K sl_B sl_P sl_LW sl_RD sl_RA sl_NC sl_PD sl_SH sl_PR sl_PA sl_V : Array (Option Value)} {tM tL tG : Tok} {nTcI : Nat}
    {nmCB qCB : Str} {NCB : Addr} {bsCB : List Value} {snCB : List Str} {subCB : List Value} {abCB : Bool} {colCB : Option Bool} {ddCB : Option Addr} {m0CB m1CB m2CB m3CB m5CB : Option Value}
    {nmCI qCI : Str} {NCI : Addr} {bsCI : List Value} {snCI : List Str} {subCI : List Value} {abCI : Bool} {colCI : Option Bool} {ddCI : Option Addr} {m0CI m1CI m2CI m3CI m5CI : Option Value}
    {nmCE qCE : Str} {NCE : Addr} {bsCE : List Value} {snCE : List Str} {subCE : List Value} {abCE : Bool} {colCE : Option Bool} {ddCE : Option Addr} {m0CE m1CE m2CE m3CE m5CE : Option Value}
    {nmCN qCN : Str} {NCN : Addr} {bsCN : List Value} {snCN : List Str} {subCN : List Value} {abCN : Bool} {colCN : Option Bool} {ddCN : Option Addr} {m0CN m1CN m2CN m3CN m5CN : Option Value}
    {nmCL qCL : Str} {NCL : Addr} {bsCL : List Value} {snCL : List Str} {subCL : List Value} {abCL : Bool} {colCL : Option Bool} {ddCL : Option Addr} {m0CL m1CL m2CL m3CL m5CL : Option Value}
    {nmCW qCW : Str} {NCW : Addr} {bsCW : List Value} {snCW : List Str} {subCW : List Value} {abCW : Bool} {colCW : Option Bool} {ddCW : Option Addr} {m0CW m1CW m2CW m3CW m5CW : Option Value}
    (z_len : PySem.W.nsIn K mainGlobals "len" = some none)
    (z_isinstance : PySem.W.nsIn K mainGlobals "isinstance" = some none)
    (z_int : PySem.W.nsIn K mainGlobals "int" = some none)
    (z_bool : PySem.W.nsIn K mainGlobals "bool" = some none)
    (z_list : PySem.W.nsIn K mainGlobals "list" = some none)
    (z_tuple : PySem.W.nsIn K mainGlobals "tuple" = some none)
    (z_range : PySem.W.nsIn K mainGlobals "range" = some none)
    (z_abs : PySem.W.nsIn K mainGlobals "abs" = some none)
    (z_enumerate : PySem.W.nsIn K mainGlobals "enumerate" = some none)
    (gM : PySem.W.nsIn K mainGlobals "MOST_TIES" = some (some (.int 4 tM)))
    (gL : PySem.W.nsIn K mainGlobals "MOST_LABEL" = some (some (.int 1000000000 tL)))
    (gG : PySem.W.nsIn K mainGlobals "MOST_GUESTS" = some (some (.int 60 tG)))
    (aCB : PySem.W.nsIn K mainGlobals "BadTies" = some (some (.ref CB)))
    (axCB : PySem.W.findIn K (.ref CB) "__init__" = some (some (.ref f_xCB)))
    (ixCB : PySem.W.typeIn K (.ref f_xCB) = some (.type "function"))
    (lxCB : K.lookup f_xCB = some ⟨oc_xCB, od_xCB, .func (PySem.W.fnOf "__init__" "BadTies.__init__" (defArgs s_BadTies_init) (defBody s_BadTies_init) (defScope s_BadTies_init) .none kv_xCB dc_xCB pm_xCB an_xCB cd_xCB ct_xCB), sl_xCB⟩)
    (cxCB : PySem.W.codeIn K cd_xCB "BadTies.__init__" = true)
    (kxCB : PySem.W.keepIn K (.ref f_xCB) = true)
    (xCB : K.lookup CB = some (excClassObj nmCB qCB CB NCB bsCB [.ref GE, .type "ValueError", .type "Exception", .type "BaseException", .type "object"] true snCB subCB abCB colCB ddCB m0CB m1CB m2CB m3CB m5CB "ValueError.__new__"))
    (saCB : PySem.W.findIn K (.ref CB) "__setattr__" = some (some (.builtin "object.__setattr__")))
    (gaCB : PySem.W.findIn K (.ref CB) "__getattribute__" = some (some (.builtin "BaseException.__getattribute__")))
    (ggCB : PySem.W.findIn K (.ref CB) "__getattr__" = some none)
    (no0CB : PySem.W.findIn K (.ref CB) "what" = some none)
    (kcCB : PySem.W.keepIn K (.ref CB) = true)
    (exCB : PySem.W.subIn K (.ref CB) (.type "BaseException") = some true)
    (tyCB : PySem.W.typeIn K (.ref CB) = some (.type "type"))
    (hdCB : PySem.W.hasDictIn K CB = true)
    (icCB : PySem.W.isClsIn K CB = true)
    (scCB : PySem.W.subIn K (.ref CB) (.ref CB) = some true)
    (aCI : PySem.W.nsIn K mainGlobals "NoTie" = some (some (.ref CI)))
    (axCI : PySem.W.findIn K (.ref CI) "__init__" = some (some (.ref f_xCI)))
    (ixCI : PySem.W.typeIn K (.ref f_xCI) = some (.type "function"))
    (lxCI : K.lookup f_xCI = some ⟨oc_xCI, od_xCI, .func (PySem.W.fnOf "__init__" "NoTie.__init__" (defArgs s_NoTie_init) (defBody s_NoTie_init) (defScope s_NoTie_init) .none kv_xCI dc_xCI pm_xCI an_xCI cd_xCI ct_xCI), sl_xCI⟩)
    (cxCI : PySem.W.codeIn K cd_xCI "NoTie.__init__" = true)
    (kxCI : PySem.W.keepIn K (.ref f_xCI) = true)
    (xCI : K.lookup CI = some (excClassObj nmCI qCI CI NCI bsCI [.ref GE, .type "ValueError", .type "Exception", .type "BaseException", .type "object"] true snCI subCI abCI colCI ddCI m0CI m1CI m2CI m3CI m5CI "ValueError.__new__"))
    (saCI : PySem.W.findIn K (.ref CI) "__setattr__" = some (some (.builtin "object.__setattr__")))
    (gaCI : PySem.W.findIn K (.ref CI) "__getattribute__" = some (some (.builtin "BaseException.__getattribute__")))
    (ggCI : PySem.W.findIn K (.ref CI) "__getattr__" = some none)
    (no0CI : PySem.W.findIn K (.ref CI) "tie" = some none)
    (kcCI : PySem.W.keepIn K (.ref CI) = true)
    (exCI : PySem.W.subIn K (.ref CI) (.type "BaseException") = some true)
    (tyCI : PySem.W.typeIn K (.ref CI) = some (.type "type"))
    (hdCI : PySem.W.hasDictIn K CI = true)
    (icCI : PySem.W.isClsIn K CI = true)
    (scCI : PySem.W.subIn K (.ref CI) (.ref CI) = some true)
    (aCE : PySem.W.nsIn K mainGlobals "BadCompany" = some (some (.ref CE)))
    (axCE : PySem.W.findIn K (.ref CE) "__init__" = some (some (.ref f_xCE)))
    (ixCE : PySem.W.typeIn K (.ref f_xCE) = some (.type "function"))
    (lxCE : K.lookup f_xCE = some ⟨oc_xCE, od_xCE, .func (PySem.W.fnOf "__init__" "BadCompany.__init__" (defArgs s_BadCompany_init) (defBody s_BadCompany_init) (defScope s_BadCompany_init) .none kv_xCE dc_xCE pm_xCE an_xCE cd_xCE ct_xCE), sl_xCE⟩)
    (cxCE : PySem.W.codeIn K cd_xCE "BadCompany.__init__" = true)
    (kxCE : PySem.W.keepIn K (.ref f_xCE) = true)
    (xCE : K.lookup CE = some (excClassObj nmCE qCE CE NCE bsCE [.ref GE, .type "ValueError", .type "Exception", .type "BaseException", .type "object"] true snCE subCE abCE colCE ddCE m0CE m1CE m2CE m3CE m5CE "ValueError.__new__"))
    (saCE : PySem.W.findIn K (.ref CE) "__setattr__" = some (some (.builtin "object.__setattr__")))
    (gaCE : PySem.W.findIn K (.ref CE) "__getattribute__" = some (some (.builtin "BaseException.__getattribute__")))
    (ggCE : PySem.W.findIn K (.ref CE) "__getattr__" = some none)
    (no0CE : PySem.W.findIn K (.ref CE) "index" = some none)
    (no1CE : PySem.W.findIn K (.ref CE) "what" = some none)
    (kcCE : PySem.W.keepIn K (.ref CE) = true)
    (exCE : PySem.W.subIn K (.ref CE) (.type "BaseException") = some true)
    (tyCE : PySem.W.typeIn K (.ref CE) = some (.type "type"))
    (hdCE : PySem.W.hasDictIn K CE = true)
    (icCE : PySem.W.isClsIn K CE = true)
    (scCE : PySem.W.subIn K (.ref CE) (.ref CE) = some true)
    (aCN : PySem.W.nsIn K mainGlobals "NoGuest" = some (some (.ref CN)))
    (axCN : PySem.W.findIn K (.ref CN) "__init__" = some (some (.ref f_xCN)))
    (ixCN : PySem.W.typeIn K (.ref f_xCN) = some (.type "function"))
    (lxCN : K.lookup f_xCN = some ⟨oc_xCN, od_xCN, .func (PySem.W.fnOf "__init__" "NoGuest.__init__" (defArgs s_NoGuest_init) (defBody s_NoGuest_init) (defScope s_NoGuest_init) .none kv_xCN dc_xCN pm_xCN an_xCN cd_xCN ct_xCN), sl_xCN⟩)
    (cxCN : PySem.W.codeIn K cd_xCN "NoGuest.__init__" = true)
    (kxCN : PySem.W.keepIn K (.ref f_xCN) = true)
    (xCN : K.lookup CN = some (excClassObj nmCN qCN CN NCN bsCN [.ref GE, .type "ValueError", .type "Exception", .type "BaseException", .type "object"] true snCN subCN abCN colCN ddCN m0CN m1CN m2CN m3CN m5CN "ValueError.__new__"))
    (saCN : PySem.W.findIn K (.ref CN) "__setattr__" = some (some (.builtin "object.__setattr__")))
    (gaCN : PySem.W.findIn K (.ref CN) "__getattribute__" = some (some (.builtin "BaseException.__getattribute__")))
    (ggCN : PySem.W.findIn K (.ref CN) "__getattr__" = some none)
    (no0CN : PySem.W.findIn K (.ref CN) "label" = some none)
    (kcCN : PySem.W.keepIn K (.ref CN) = true)
    (exCN : PySem.W.subIn K (.ref CN) (.type "BaseException") = some true)
    (tyCN : PySem.W.typeIn K (.ref CN) = some (.type "type"))
    (hdCN : PySem.W.hasDictIn K CN = true)
    (icCN : PySem.W.isClsIn K CN = true)
    (scCN : PySem.W.subIn K (.ref CN) (.ref CN) = some true)
    (aCL : PySem.W.nsIn K mainGlobals "Alike" = some (some (.ref CL)))
    (axCL : PySem.W.findIn K (.ref CL) "__init__" = some (some (.ref f_xCL)))
    (ixCL : PySem.W.typeIn K (.ref f_xCL) = some (.type "function"))
    (lxCL : K.lookup f_xCL = some ⟨oc_xCL, od_xCL, .func (PySem.W.fnOf "__init__" "Alike.__init__" (defArgs s_Alike_init) (defBody s_Alike_init) (defScope s_Alike_init) .none kv_xCL dc_xCL pm_xCL an_xCL cd_xCL ct_xCL), sl_xCL⟩)
    (cxCL : PySem.W.codeIn K cd_xCL "Alike.__init__" = true)
    (kxCL : PySem.W.keepIn K (.ref f_xCL) = true)
    (xCL : K.lookup CL = some (excClassObj nmCL qCL CL NCL bsCL [.ref GE, .type "ValueError", .type "Exception", .type "BaseException", .type "object"] true snCL subCL abCL colCL ddCL m0CL m1CL m2CL m3CL m5CL "ValueError.__new__"))
    (saCL : PySem.W.findIn K (.ref CL) "__setattr__" = some (some (.builtin "object.__setattr__")))
    (gaCL : PySem.W.findIn K (.ref CL) "__getattribute__" = some (some (.builtin "BaseException.__getattribute__")))
    (ggCL : PySem.W.findIn K (.ref CL) "__getattr__" = some none)
    (no0CL : PySem.W.findIn K (.ref CL) "label" = some none)
    (kcCL : PySem.W.keepIn K (.ref CL) = true)
    (exCL : PySem.W.subIn K (.ref CL) (.type "BaseException") = some true)
    (tyCL : PySem.W.typeIn K (.ref CL) = some (.type "type"))
    (hdCL : PySem.W.hasDictIn K CL = true)
    (icCL : PySem.W.isClsIn K CL = true)
    (scCL : PySem.W.subIn K (.ref CL) (.ref CL) = some true)
    (aCW : PySem.W.nsIn K mainGlobals "BadRenaming" = some (some (.ref CW)))
    (axCW : PySem.W.findIn K (.ref CW) "__init__" = some (some (.ref f_xCW)))
    (ixCW : PySem.W.typeIn K (.ref f_xCW) = some (.type "function"))
    (lxCW : K.lookup f_xCW = some ⟨oc_xCW, od_xCW, .func (PySem.W.fnOf "__init__" "BadRenaming.__init__" (defArgs s_BadRenaming_init) (defBody s_BadRenaming_init) (defScope s_BadRenaming_init) .none kv_xCW dc_xCW pm_xCW an_xCW cd_xCW ct_xCW), sl_xCW⟩)
    (cxCW : PySem.W.codeIn K cd_xCW "BadRenaming.__init__" = true)
    (kxCW : PySem.W.keepIn K (.ref f_xCW) = true)
    (xCW : K.lookup CW = some (excClassObj nmCW qCW CW NCW bsCW [.ref GE, .type "ValueError", .type "Exception", .type "BaseException", .type "object"] true snCW subCW abCW colCW ddCW m0CW m1CW m2CW m3CW m5CW "ValueError.__new__"))
    (saCW : PySem.W.findIn K (.ref CW) "__setattr__" = some (some (.builtin "object.__setattr__")))
    (gaCW : PySem.W.findIn K (.ref CW) "__getattribute__" = some (some (.builtin "BaseException.__getattribute__")))
    (ggCW : PySem.W.findIn K (.ref CW) "__getattr__" = some none)
    (no0CW : PySem.W.findIn K (.ref CW) "what" = some none)
    (kcCW : PySem.W.keepIn K (.ref CW) = true)
    (exCW : PySem.W.subIn K (.ref CW) (.type "BaseException") = some true)
    (tyCW : PySem.W.typeIn K (.ref CW) = some (.type "type"))
    (hdCW : PySem.W.hasDictIn K CW = true)
    (icCW : PySem.W.isClsIn K CW = true)
    (scCW : PySem.W.subIn K (.ref CW) (.ref CW) = some true)
    (aCT : PySem.W.nsIn K mainGlobals "Ties" = some (some (.ref CT)))
    (pgCT : PySem.W.plainGet K CT Str.empty = true)
    (hdCT : PySem.W.hasDictIn K CT = true)
    (poCT : PySem.W.plainOver K CT = true)
    (saCT : PySem.W.findIn K (.ref CT) "__setattr__" = some (some (.builtin "object.__setattr__")))
    (mkCT : PySem.W.makesIn K CT = true)
    (kcCT : PySem.W.keepIn K (.ref CT) = true)
    (n0CT : PySem.W.findIn K (.ref CT) "backs" = some none)
    (n1CT : PySem.W.findIn K (.ref CT) "many" = some none)
    (haCT : PySem.W.findIn K (.ref CT) "__class__" = some (some (.builtin "object.__class__")))
    (hn0 : PySem.W.specialIn K (.builtin "object.__class__") "__get__" = some (some (.builtin "getset_descriptor.__get__")))
    (htk0 : PySem.W.takesIn K (.builtin "object.__class__") = some true)
    (hmCT : PySem.W.mroIn K CT (.type "object") = some true)
    (icCT : PySem.W.isClsIn K CT = true)
    (tyCT : PySem.W.typeIn K (.ref CT) = some (.type "type"))
    (suCT : PySem.W.subIn K (.type "tuple") (.ref CT) = some false)
    (nfCT : PySem.W.notFirst K CT (.type "tuple") = true)
    (aCC : PySem.W.nsIn K mainGlobals "Company" = some (some (.ref CC)))
    (pgCC : PySem.W.plainGet K CC Str.empty = true)
    (hdCC : PySem.W.hasDictIn K CC = true)
    (poCC : PySem.W.plainOver K CC = true)
    (saCC : PySem.W.findIn K (.ref CC) "__setattr__" = some (some (.builtin "object.__setattr__")))
    (mkCC : PySem.W.makesIn K CC = true)
    (kcCC : PySem.W.keepIn K (.ref CC) = true)
    (n0CC : PySem.W.findIn K (.ref CC) "ties" = some none)
    (n1CC : PySem.W.findIn K (.ref CC) "guests" = some none)
    (n2CC : PySem.W.findIn K (.ref CC) "rows" = some none)
    (n3CC : PySem.W.findIn K (.ref CC) "table" = some none)
    (n4CC : PySem.W.findIn K (.ref CC) "_places" = some none)
    (haCC : PySem.W.findIn K (.ref CC) "__class__" = some (some (.builtin "object.__class__")))
    (hmCC : PySem.W.mroIn K CC (.type "object") = some true)
    (icCC : PySem.W.isClsIn K CC = true)
    (tyCC : PySem.W.typeIn K (.ref CC) = some (.type "type"))
    (suCC : PySem.W.subIn K (.type "tuple") (.ref CC) = some false)
    (nfCC : PySem.W.notFirst K CC (.type "tuple") = true)
    (z_all : PySem.W.nsIn K mainGlobals "all" = some none)
    (aW : PySem.W.nsIn K mainGlobals "is_whole" = some (some (.ref f_W)))
    (lW : K.lookup f_W = some ⟨oc_W, od_W, .func (PySem.W.fnOf "is_whole" "is_whole" (defArgs s_is_whole) (defBody s_is_whole) (defScope s_is_whole) .none kv_W dc_W pm_W an_W cd_W ct_W), sl_W⟩)
    (cW : PySem.W.codeIn K cd_W "is_whole" = true)
    (kW : PySem.W.keepIn K (.ref f_W) = true)
    (aLB : PySem.W.nsIn K mainGlobals "is_label" = some (some (.ref f_LB)))
    (lLB : K.lookup f_LB = some ⟨oc_LB, od_LB, .func (PySem.W.fnOf "is_label" "is_label" (defArgs s_is_label) (defBody s_is_label) (defScope s_is_label) .none kv_LB dc_LB pm_LB an_LB cd_LB ct_LB), sl_LB⟩)
    (cLB : PySem.W.codeIn K cd_LB "is_label" = true)
    (kLB : PySem.W.keepIn K (.ref f_LB) = true)
    (aQ : PySem.W.nsIn K mainGlobals "is_sequence" = some (some (.ref f_Q)))
    (lQ : K.lookup f_Q = some ⟨oc_Q, od_Q, .func (PySem.W.fnOf "is_sequence" "is_sequence" (defArgs s_is_sequence) (defBody s_is_sequence) (defScope s_is_sequence) .none kv_Q dc_Q pm_Q an_Q cd_Q ct_Q), sl_Q⟩)
    (cQ : PySem.W.codeIn K cd_Q "is_sequence" = true)
    (kQ : PySem.W.keepIn K (.ref f_Q) = true)
    (aCK : PySem.W.nsIn K mainGlobals "ties_fault" = some (some (.ref f_CK)))
    (lCK : K.lookup f_CK = some ⟨oc_CK, od_CK, .func (PySem.W.fnOf "ties_fault" "ties_fault" (defArgs s_ties_fault) (defBody s_ties_fault) (defScope s_ties_fault) .none kv_CK dc_CK pm_CK an_CK cd_CK ct_CK), sl_CK⟩)
    (cCK : PySem.W.codeIn K cd_CK "ties_fault" = true)
    (kCK : PySem.W.keepIn K (.ref f_CK) = true)
    (atI : PySem.W.findIn K (.ref CT) "__init__" = some (some (.ref f_tI)))
    (itI : PySem.W.isFn K (.ref f_tI) = true)
    (ltI : K.lookup f_tI = some ⟨oc_tI, od_tI, .func (PySem.W.fnOf "__init__" "Ties.__init__" (defArgs s_Ties_init) (defBody s_Ties_init) (defScope s_Ties_init) .none kv_tI dc_tI pm_tI an_tI cd_tI ct_tI), sl_tI⟩)
    (ctI : PySem.W.codeIn K cd_tI "Ties.__init__" = true)
    (ktI : PySem.W.keepIn K (.ref f_tI) = true)
    (atH : PySem.W.findIn K (.ref CT) "has" = some (some (.ref f_tH)))
    (itH : PySem.W.isFn K (.ref f_tH) = true)
    (ltH : K.lookup f_tH = some ⟨oc_tH, od_tH, .func (PySem.W.fnOf "has" "Ties.has" (defArgs s_Ties_has) (defBody s_Ties_has) (defScope s_Ties_has) .none kv_tH dc_tH pm_tH an_tH cd_tH ct_tH), sl_tH⟩)
    (ctH : PySem.W.codeIn K cd_tH "Ties.has" = true)
    (ktH : PySem.W.keepIn K (.ref f_tH) = true)
    (atE : PySem.W.findIn K (.ref CT) "__eq__" = some (some (.ref f_tE)))
    (itE : PySem.W.isFn K (.ref f_tE) = true)
    (ltE : K.lookup f_tE = some ⟨oc_tE, od_tE, .func (PySem.W.fnOf "__eq__" "Ties.__eq__" (defArgs s_Ties_eq) (defBody s_Ties_eq) (defScope s_Ties_eq) .none kv_tE dc_tE pm_tE an_tE cd_tE ct_tE), sl_tE⟩)
    (ctE : PySem.W.codeIn K cd_tE "Ties.__eq__" = true)
    (ktE : PySem.W.keepIn K (.ref f_tE) = true)
    (atB : PySem.W.findIn K (.ref CT) "back" = some (some (.ref f_tB)))
    (itB : PySem.W.isFn K (.ref f_tB) = true)
    (ltB : K.lookup f_tB = some ⟨oc_tB, od_tB, .func (PySem.W.fnOf "back" "Ties.back" (defArgs s_Ties_back) (defBody s_Ties_back) (defScope s_Ties_back) .none kv_tB dc_tB pm_tB an_tB cd_tB ct_tB), sl_tB⟩)
    (ctB : PySem.W.codeIn K cd_tB "Ties.back" = true)
    (ktB : PySem.W.keepIn K (.ref f_tB) = true)
    (aCR : PySem.W.nsIn K mainGlobals "_check_row" = some (some (.ref f_CR)))
    (lCR : K.lookup f_CR = some ⟨oc_CR, od_CR, .func (PySem.W.fnOf "_check_row" "_check_row" (defArgs s_check_row) (defBody s_check_row) (defScope s_check_row) .none kv_CR dc_CR pm_CR an_CR cd_CR ct_CR), sl_CR⟩)
    (cCR : PySem.W.codeIn K cd_CR "_check_row" = true)
    (kCR : PySem.W.keepIn K (.ref f_CR) = true)
    (aCC2 : PySem.W.nsIn K mainGlobals "_check_company" = some (some (.ref f_CC2)))
    (lCC2 : K.lookup f_CC2 = some ⟨oc_CC2, od_CC2, .func (PySem.W.fnOf "_check_company" "_check_company" (defArgs s_check_company) (defBody s_check_company) (defScope s_check_company) .none kv_CC2 dc_CC2 pm_CC2 an_CC2 cd_CC2 ct_CC2), sl_CC2⟩)
    (cCC2 : PySem.W.codeIn K cd_CC2 "_check_company" = true)
    (kCC2 : PySem.W.keepIn K (.ref f_CC2) = true)
    (aTO : PySem.W.nsIn K mainGlobals "_table_of" = some (some (.ref f_TO)))
    (lTO : K.lookup f_TO = some ⟨oc_TO, od_TO, .func (PySem.W.fnOf "_table_of" "_table_of" (defArgs s_table_of) (defBody s_table_of) (defScope s_table_of) .none kv_TO dc_TO pm_TO an_TO cd_TO ct_TO), sl_TO⟩)
    (cTO : PySem.W.codeIn K cd_TO "_table_of" = true)
    (kTO : PySem.W.keepIn K (.ref f_TO) = true)
    (acI : PySem.W.findIn K (.ref CC) "__init__" = some (some (.ref f_cI)))
    (icI : PySem.W.isFn K (.ref f_cI) = true)
    (lcI : K.lookup f_cI = some ⟨oc_cI, od_cI, .func (PySem.W.fnOf "__init__" "Company.__init__" (defArgs s_Company_init) (defBody s_Company_init) (defScope s_Company_init) (.ref TdcI) kv_cI dc_cI pm_cI an_cI cd_cI ct_cI), sl_cI⟩)
    (lTcI : K.lookup TdcI = some ⟨cTcI, dTcI, .seq #[.ref e1cI, .ref e2cI] nTcI, sTcI⟩)
    (ccI : PySem.W.codeIn K cd_cI "Company.__init__" = true)
    (kcI : PySem.W.keepIn K (.ref f_cI) = true)
    (acL : PySem.W.findIn K (.ref CC) "__len__" = some (some (.ref f_cL)))
    (icL : PySem.W.isFn K (.ref f_cL) = true)
    (lcL : K.lookup f_cL = some ⟨oc_cL, od_cL, .func (PySem.W.fnOf "__len__" "Company.__len__" (defArgs s_Company_len) (defBody s_Company_len) (defScope s_Company_len) .none kv_cL dc_cL pm_cL an_cL cd_cL ct_cL), sl_cL⟩)
    (ccL : PySem.W.codeIn K cd_cL "Company.__len__" = true)
    (kcL : PySem.W.keepIn K (.ref f_cL) = true)
    (acC : PySem.W.findIn K (.ref CC) "__contains__" = some (some (.ref f_cC)))
    (icC : PySem.W.isFn K (.ref f_cC) = true)
    (lcC : K.lookup f_cC = some ⟨oc_cC, od_cC, .func (PySem.W.fnOf "__contains__" "Company.__contains__" (defArgs s_Company_contains) (defBody s_Company_contains) (defScope s_Company_contains) .none kv_cC dc_cC pm_cC an_cC cd_cC ct_cC), sl_cC⟩)
    (ccC : PySem.W.codeIn K cd_cC "Company.__contains__" = true)
    (kcC : PySem.W.keepIn K (.ref f_cC) = true)
    (acP : PySem.W.findIn K (.ref CC) "place_of" = some (some (.ref f_cP)))
    (icP : PySem.W.isFn K (.ref f_cP) = true)
    (lcP : K.lookup f_cP = some ⟨oc_cP, od_cP, .func (PySem.W.fnOf "place_of" "Company.place_of" (defArgs s_Company_place_of) (defBody s_Company_place_of) (defScope s_Company_place_of) .none kv_cP dc_cP pm_cP an_cP cd_cP ct_cP), sl_cP⟩)
    (ccP : PySem.W.codeIn K cd_cP "Company.place_of" = true)
    (kcP : PySem.W.keepIn K (.ref f_cP) = true)
    (acO : PySem.W.findIn K (.ref CC) "tie_of" = some (some (.ref f_cO)))
    (icO : PySem.W.isFn K (.ref f_cO) = true)
    (lcO : K.lookup f_cO = some ⟨oc_cO, od_cO, .func (PySem.W.fnOf "tie_of" "Company.tie_of" (defArgs s_Company_tie_of) (defBody s_Company_tie_of) (defScope s_Company_tie_of) .none kv_cO dc_cO pm_cO an_cO cd_cO ct_cO), sl_cO⟩)
    (ccO : PySem.W.codeIn K cd_cO "Company.tie_of" = true)
    (kcO : PySem.W.keepIn K (.ref f_cO) = true)
    (acR : PySem.W.findIn K (.ref CC) "row_of" = some (some (.ref f_cR)))
    (icR : PySem.W.isFn K (.ref f_cR) = true)
    (lcR : K.lookup f_cR = some ⟨oc_cR, od_cR, .func (PySem.W.fnOf "row_of" "Company.row_of" (defArgs s_Company_row_of) (defBody s_Company_row_of) (defScope s_Company_row_of) .none kv_cR dc_cR pm_cR an_cR cd_cR ct_cR), sl_cR⟩)
    (ccR : PySem.W.codeIn K cd_cR "Company.row_of" = true)
    (kcR : PySem.W.keepIn K (.ref f_cR) = true)
    (z_sorted : PySem.W.nsIn K mainGlobals "sorted" = some none)
    (apf : PySem.W.findIn K (.ref CC) "_place_for" = some (some (.ref f_pf)))
    (ipf : PySem.W.isFn K (.ref f_pf) = true)
    (lpf : K.lookup f_pf = some ⟨oc_pf, od_pf, .func (PySem.W.fnOf "_place_for" "Company._place_for" (defArgs s_Company__place_for) (defBody s_Company__place_for) (defScope s_Company__place_for) .none kv_pf dc_pf pm_pf an_pf cd_pf ct_pf), sl_pf⟩)
    (cpf : PySem.W.codeIn K cd_pf "Company._place_for" = true)
    (kpf : PySem.W.keepIn K (.ref f_pf) = true)
    (awr : PySem.W.findIn K (.ref CC) "with_row" = some (some (.ref f_wr)))
    (iwr : PySem.W.isFn K (.ref f_wr) = true)
    (lwr : K.lookup f_wr = some ⟨oc_wr, od_wr, .func (PySem.W.fnOf "with_row" "Company.with_row" (defArgs s_Company_with_row) (defBody s_Company_with_row) (defScope s_Company_with_row) .none kv_wr dc_wr pm_wr an_wr cd_wr ct_wr), sl_wr⟩)
    (cwr : PySem.W.codeIn K cd_wr "Company.with_row" = true)
    (kwr : PySem.W.keepIn K (.ref f_wr) = true)
    (aNL : PySem.W.nsIn K mainGlobals "_new_labels" = some (some (.ref f_NL)))
    (lNL : K.lookup f_NL = some ⟨oc_NL, od_NL, .func (PySem.W.fnOf "_new_labels" "_new_labels" (defArgs s_new_labels) (defBody s_new_labels) (defScope s_new_labels) .none kv_NL dc_NL pm_NL an_NL cd_NL ct_NL), sl_NL⟩)
    (cNL : PySem.W.codeIn K cd_NL "_new_labels" = true)
    (kNL : PySem.W.keepIn K (.ref f_NL) = true)
    (ase : PySem.W.findIn K (.ref CC) "_seated" = some (some (.ref f_se)))
    (ise : PySem.W.isFn K (.ref f_se) = true)
    (lse : K.lookup f_se = some ⟨oc_se, od_se, .func (PySem.W.fnOf "_seated" "Company._seated" (defArgs s_Company__seated) (defBody s_Company__seated) (defScope s_Company__seated) .none kv_se dc_se pm_se an_se cd_se ct_se), sl_se⟩)
    (cse : PySem.W.codeIn K cd_se "Company._seated" = true)
    (kse : PySem.W.keepIn K (.ref f_se) = true)
    (are : PySem.W.findIn K (.ref CC) "renamed" = some (some (.ref f_re)))
    (ire : PySem.W.isFn K (.ref f_re) = true)
    (lre : K.lookup f_re = some ⟨oc_re, od_re, .func (PySem.W.fnOf "renamed" "Company.renamed" (defArgs s_Company_renamed) (defBody s_Company_renamed) (defScope s_Company_renamed) .none kv_re dc_re pm_re an_re cd_re ct_re), sl_re⟩)
    (cre : PySem.W.codeIn K cd_re "Company.renamed" = true)
    (kre : PySem.W.keepIn K (.ref f_re) = true)
    (aX : PySem.W.nsIn K mainGlobals "_law_mix" = some (some (.ref f_X)))
    (lX : K.lookup f_X = some ⟨oc_X, od_X, .func (PySem.W.fnOf "_law_mix" "_law_mix" (defArgs s_Lmix) (defBody s_Lmix) (defScope s_Lmix) .none kv_X dc_X pm_X an_X cd_X ct_X), sl_X⟩)
    (cX : PySem.W.codeIn K cd_X "_law_mix" = true)
    (kX : PySem.W.keepIn K (.ref f_X) = true)
    (aH : PySem.W.nsIn K mainGlobals "_law_hand" = some (some (.ref f_H)))
    (lH : K.lookup f_H = some ⟨oc_H, od_H, .func (PySem.W.fnOf "_law_hand" "_law_hand" (defArgs s_Lhand) (defBody s_Lhand) (defScope s_Lhand) .none kv_H dc_H pm_H an_H cd_H ct_H), sl_H⟩)
    (cH : PySem.W.codeIn K cd_H "_law_hand" = true)
    (kH : PySem.W.keepIn K (.ref f_H) = true)
    (aD : PySem.W.nsIn K mainGlobals "_law_draw" = some (some (.ref f_D)))
    (lD : K.lookup f_D = some ⟨oc_D, od_D, .func (PySem.W.fnOf "_law_draw" "_law_draw" (defArgs s_Ldraw) (defBody s_Ldraw) (defScope s_Ldraw) .none kv_D dc_D pm_D an_D cd_D ct_D), sl_D⟩)
    (cD : PySem.W.codeIn K cd_D "_law_draw" = true)
    (kD : PySem.W.keepIn K (.ref f_D) = true)
    (aK : PySem.W.nsIn K mainGlobals "_law_backs" = some (some (.ref f_K)))
    (lK : K.lookup f_K = some ⟨oc_K, od_K, .func (PySem.W.fnOf "_law_backs" "_law_backs" (defArgs s_Lbacks) (defBody s_Lbacks) (defScope s_Lbacks) .none kv_K dc_K pm_K an_K cd_K ct_K), sl_K⟩)
    (cK : PySem.W.codeIn K cd_K "_law_backs" = true)
    (kK : PySem.W.keepIn K (.ref f_K) = true)
    (z_max : PySem.W.nsIn K mainGlobals "max" = some none)
    (aB : PySem.W.nsIn K mainGlobals "_law_labels" = some (some (.ref f_B)))
    (lB : K.lookup f_B = some ⟨oc_B, od_B, .func (PySem.W.fnOf "_law_labels" "_law_labels" (defArgs s_Llabels) (defBody s_Llabels) (defScope s_Llabels) .none kv_B dc_B pm_B an_B cd_B ct_B), sl_B⟩)
    (cB : PySem.W.codeIn K cd_B "_law_labels" = true)
    (kB : PySem.W.keepIn K (.ref f_B) = true)
    (aP : PySem.W.nsIn K mainGlobals "_law_pick" = some (some (.ref f_P)))
    (lP : K.lookup f_P = some ⟨oc_P, od_P, .func (PySem.W.fnOf "_law_pick" "_law_pick" (defArgs s_Lpick) (defBody s_Lpick) (defScope s_Lpick) .none kv_P dc_P pm_P an_P cd_P ct_P), sl_P⟩)
    (cP : PySem.W.codeIn K cd_P "_law_pick" = true)
    (kP : PySem.W.keepIn K (.ref f_P) = true)
    (neT : PySem.W.findIn K (.ref CT) "__ne__" = some (some (.builtin "object.__ne__")))
    (aLW : PySem.W.nsIn K mainGlobals "_law_whole" = some (some (.ref f_LW)))
    (lLW : K.lookup f_LW = some ⟨oc_LW, od_LW, .func (PySem.W.fnOf "_law_whole" "_law_whole" (defArgs s_Lwhole) (defBody s_Lwhole) (defScope s_Lwhole) .none kv_LW dc_LW pm_LW an_LW cd_LW ct_LW), sl_LW⟩)
    (cLW : PySem.W.codeIn K cd_LW "_law_whole" = true)
    (kLW : PySem.W.keepIn K (.ref f_LW) = true)
    (aRD : PySem.W.nsIn K mainGlobals "_law_row_due" = some (some (.ref f_RD)))
    (lRD : K.lookup f_RD = some ⟨oc_RD, od_RD, .func (PySem.W.fnOf "_law_row_due" "_law_row_due" (defArgs s_Lrow_due) (defBody s_Lrow_due) (defScope s_Lrow_due) .none kv_RD dc_RD pm_RD an_RD cd_RD ct_RD), sl_RD⟩)
    (cRD : PySem.W.codeIn K cd_RD "_law_row_due" = true)
    (kRD : PySem.W.keepIn K (.ref f_RD) = true)
    (aRA : PySem.W.nsIn K mainGlobals "_law_row_asked" = some (some (.ref f_RA)))
    (lRA : K.lookup f_RA = some ⟨oc_RA, od_RA, .func (PySem.W.fnOf "_law_row_asked" "_law_row_asked" (defArgs s_Lrow_asked) (defBody s_Lrow_asked) (defScope s_Lrow_asked) .none kv_RA dc_RA pm_RA an_RA cd_RA ct_RA), sl_RA⟩)
    (cRA : PySem.W.codeIn K cd_RA "_law_row_asked" = true)
    (kRA : PySem.W.keepIn K (.ref f_RA) = true)
    (aNC : PySem.W.nsIn K mainGlobals "_law_newcomer" = some (some (.ref f_NC)))
    (lNC : K.lookup f_NC = some ⟨oc_NC, od_NC, .func (PySem.W.fnOf "_law_newcomer" "_law_newcomer" (defArgs s_Lnewcomer) (defBody s_Lnewcomer) (defScope s_Lnewcomer) .none kv_NC dc_NC pm_NC an_NC cd_NC ct_NC), sl_NC⟩)
    (cNC : PySem.W.codeIn K cd_NC "_law_newcomer" = true)
    (kNC : PySem.W.keepIn K (.ref f_NC) = true)
    (aPD : PySem.W.nsIn K mainGlobals "_law_pairs_due" = some (some (.ref f_PD)))
    (lPD : K.lookup f_PD = some ⟨oc_PD, od_PD, .func (PySem.W.fnOf "_law_pairs_due" "_law_pairs_due" (defArgs s_Lpairs_due) (defBody s_Lpairs_due) (defScope s_Lpairs_due) .none kv_PD dc_PD pm_PD an_PD cd_PD ct_PD), sl_PD⟩)
    (cPD : PySem.W.codeIn K cd_PD "_law_pairs_due" = true)
    (kPD : PySem.W.keepIn K (.ref f_PD) = true)
    (aSH : PySem.W.nsIn K mainGlobals "_law_shuffled" = some (some (.ref f_SH)))
    (lSH : K.lookup f_SH = some ⟨oc_SH, od_SH, .func (PySem.W.fnOf "_law_shuffled" "_law_shuffled" (defArgs s_Lshuffled) (defBody s_Lshuffled) (defScope s_Lshuffled) .none kv_SH dc_SH pm_SH an_SH cd_SH ct_SH), sl_SH⟩)
    (cSH : PySem.W.codeIn K cd_SH "_law_shuffled" = true)
    (kSH : PySem.W.keepIn K (.ref f_SH) = true)
    (aPR : PySem.W.nsIn K mainGlobals "_law_pairs" = some (some (.ref f_PR)))
    (lPR : K.lookup f_PR = some ⟨oc_PR, od_PR, .func (PySem.W.fnOf "_law_pairs" "_law_pairs" (defArgs s_Lpairs) (defBody s_Lpairs) (defScope s_Lpairs) .none kv_PR dc_PR pm_PR an_PR cd_PR ct_PR), sl_PR⟩)
    (cPR : PySem.W.codeIn K cd_PR "_law_pairs" = true)
    (kPR : PySem.W.keepIn K (.ref f_PR) = true)
    (aPA : PySem.W.nsIn K mainGlobals "_law_pairs_asked" = some (some (.ref f_PA)))
    (lPA : K.lookup f_PA = some ⟨oc_PA, od_PA, .func (PySem.W.fnOf "_law_pairs_asked" "_law_pairs_asked" (defArgs s_Lpairs_asked) (defBody s_Lpairs_asked) (defScope s_Lpairs_asked) .none kv_PA dc_PA pm_PA an_PA cd_PA ct_PA), sl_PA⟩)
    (cPA : PySem.W.codeIn K cd_PA "_law_pairs_asked" = true)
    (kPA : PySem.W.keepIn K (.ref f_PA) = true)
    (aV : PySem.W.nsIn K mainGlobals "law" = some (some (.ref f_V)))
    (lV : K.lookup f_V = some ⟨oc_V, od_V, .func (PySem.W.fnOf "law" "law" (defArgs s_law) (defBody s_law) (defScope s_law) .none kv_V dc_V pm_V an_V cd_V ct_V), sl_V⟩)
    (cV : PySem.W.codeIn K cd_V "law" = true)
    (kV : PySem.W.keepIn K (.ref f_V) = true)
    : ∃ fd : FuncData, (∀ (s : Shared) (v : Value), BindsTo s fd ⟨[v], []⟩ [("_law_script", v)]) ∧ ∀ base : Heap, K.In base → base.Ns mainGlobals mg → FnOk l.prog w K mg base CX0 10 fa fd ["_law_script"] (spLaw K) := by
  have e := hfa.symm.trans (PySem.W.mg_of X G aV)
  cases e
  have n_len := PySem.W.mg_none_of X G z_len
  have n_isinstance := PySem.W.mg_none_of X G z_isinstance
  have n_int := PySem.W.mg_none_of X G z_int
  have n_bool := PySem.W.mg_none_of X G z_bool
  have n_list := PySem.W.mg_none_of X G z_list
  have n_tuple := PySem.W.mg_none_of X G z_tuple
  have n_range := PySem.W.mg_none_of X G z_range
  have n_abs := PySem.W.mg_none_of X G z_abs
  have n_enumerate := PySem.W.mg_none_of X G z_enumerate
  have mM := PySem.W.mg_of X G gM
  have mL := PySem.W.mg_of X G gL
  have mG := PySem.W.mg_of X G gG
  have FxCB := fun_mk (st := s_BadTies_init) lxCB cxCB kxCB
  have bxCB := FxCB.binds (ps := ["self", "what"]) fun _ _ _ _ _ _ us hl => match us, hl with | [_, _], _ => rfl
  have oCB : OexC K CB := ⟨⟨_, _, _, _, _, _, _, _, _, _, _, _, _, _, _, xCB, by first | rfl | decide +kernel⟩, saCB, exCB, tyCB, kcCB⟩
  have xfCB : XfC K CB := ⟨gaCB, ggCB, exCB, hdCB⟩
  have FxCI := fun_mk (st := s_NoTie_init) lxCI cxCI kxCI
  have bxCI := FxCI.binds (ps := ["self", "tie"]) fun _ _ _ _ _ _ us hl => match us, hl with | [_, _], _ => rfl
  have oCI : OexC K CI := ⟨⟨_, _, _, _, _, _, _, _, _, _, _, _, _, _, _, xCI, by first | rfl | decide +kernel⟩, saCI, exCI, tyCI, kcCI⟩
  have xfCI : XfC K CI := ⟨gaCI, ggCI, exCI, hdCI⟩
  have FxCE := fun_mk (st := s_BadCompany_init) lxCE cxCE kxCE
  have bxCE := FxCE.binds (ps := ["self", "index", "what"]) fun _ _ _ _ _ _ us hl => match us, hl with | [_, _, _], _ => rfl
  have oCE : OexC K CE := ⟨⟨_, _, _, _, _, _, _, _, _, _, _, _, _, _, _, xCE, by first | rfl | decide +kernel⟩, saCE, exCE, tyCE, kcCE⟩
  have xfCE : XfC K CE := ⟨gaCE, ggCE, exCE, hdCE⟩
  have FxCN := fun_mk (st := s_NoGuest_init) lxCN cxCN kxCN
  have bxCN := FxCN.binds (ps := ["self", "label"]) fun _ _ _ _ _ _ us hl => match us, hl with | [_, _], _ => rfl
  have oCN : OexC K CN := ⟨⟨_, _, _, _, _, _, _, _, _, _, _, _, _, _, _, xCN, by first | rfl | decide +kernel⟩, saCN, exCN, tyCN, kcCN⟩
  have xfCN : XfC K CN := ⟨gaCN, ggCN, exCN, hdCN⟩
  have FxCL := fun_mk (st := s_Alike_init) lxCL cxCL kxCL
  have bxCL := FxCL.binds (ps := ["self", "label"]) fun _ _ _ _ _ _ us hl => match us, hl with | [_, _], _ => rfl
  have oCL : OexC K CL := ⟨⟨_, _, _, _, _, _, _, _, _, _, _, _, _, _, _, xCL, by first | rfl | decide +kernel⟩, saCL, exCL, tyCL, kcCL⟩
  have xfCL : XfC K CL := ⟨gaCL, ggCL, exCL, hdCL⟩
  have FxCW := fun_mk (st := s_BadRenaming_init) lxCW cxCW kxCW
  have bxCW := FxCW.binds (ps := ["self", "what"]) fun _ _ _ _ _ _ us hl => match us, hl with | [_, _], _ => rfl
  have oCW : OexC K CW := ⟨⟨_, _, _, _, _, _, _, _, _, _, _, _, _, _, _, xCW, by first | rfl | decide +kernel⟩, saCW, exCW, tyCW, kcCW⟩
  have xfCW : XfC K CW := ⟨gaCW, ggCW, exCW, hdCW⟩
  have clCT : Cls K CT := ⟨pgCT, hdCT, poCT, saCT⟩
  have iscCT : C8.InsC K CT := ⟨clCT, haCT, hn0, htk0, hmCT, kit_me⟩
  have TC : TiC K CT := ⟨clCT, n0CT, n1CT⟩
  have TX : TiX K mg CT := { toTiC := TC, isc := iscCT, nt := kit_no icCT tyCT suCT, nf := nfCT, mT := PySem.W.mg_of X G aCT }
  have clCC : Cls K CC := ⟨pgCC, hdCC, poCC, saCC⟩
  have iscCC : C8.InsC K CC := ⟨clCC, haCC, hn0, htk0, hmCC, kit_me⟩
  have COC : CoC K CC := ⟨clCC, n0CC, n1CC, n2CC, n3CC, n4CC⟩
  have COX : CoX K mg CC := { toCoC := COC, isc := iscCC, mC := PySem.W.mg_of X G aCC }
  have n_all := PySem.W.mg_none_of X G z_all
  have FW := fun_mk (st := s_is_whole) lW cW kW
  have bW := FW.binds (ps := ["thing", "low", "high"]) fun _ _ _ _ _ _ us hl => match us, hl with | [_, _, _], _ => rfl
  have FLB := fun_mk (st := s_is_label) lLB cLB kLB
  have bLB := FLB.binds (ps := ["thing"]) fun _ _ _ _ _ _ us hl => match us, hl with | [_], _ => rfl
  have FQ := fun_mk (st := s_is_sequence) lQ cQ kQ
  have bQ := FQ.binds (ps := ["thing"]) fun _ _ _ _ _ _ us hl => match us, hl with | [_], _ => rfl
  have FCK := fun_mk (st := s_ties_fault) lCK cCK kCK
  have bCK := FCK.binds (ps := ["backs"]) fun _ _ _ _ _ _ us hl => match us, hl with | [_], _ => rfl
  have FtI := fun_mk (st := s_Ties_init) ltI ctI ktI
  have btI := FtI.binds (ps := ["self", "backs"]) fun _ _ _ _ _ _ us hl => match us, hl with | [_, _], _ => rfl
  have FtH := fun_mk (st := s_Ties_has) ltH ctH ktH
  have btH := FtH.binds (ps := ["self", "thing"]) fun _ _ _ _ _ _ us hl => match us, hl with | [_, _], _ => rfl
  have FtE := fun_mk (st := s_Ties_eq) ltE ctE ktE
  have btE := FtE.binds (ps := ["self", "other"]) fun _ _ _ _ _ _ us hl => match us, hl with | [_, _], _ => rfl
  have FtB := fun_mk (st := s_Ties_back) ltB ctB ktB
  have btB := FtB.binds (ps := ["self", "tie"]) fun _ _ _ _ _ _ us hl => match us, hl with | [_, _], _ => rfl
  have FCR := fun_mk (st := s_check_row) lCR cCR kCR
  have bCR := FCR.binds (ps := ["ties", "index", "row", "length"]) fun _ _ _ _ _ _ us hl => match us, hl with | [_, _, _, _], _ => rfl
  have FCC2 := fun_mk (st := s_check_company) lCC2 cCC2 kCC2
  have bCC2 := FCC2.binds (ps := ["ties", "guests", "rows"]) fun _ _ _ _ _ _ us hl => match us, hl with | [_, _, _], _ => rfl
  have FTO := fun_mk (st := s_table_of) lTO cTO kTO
  have bTO := FTO.binds (ps := ["ties", "rows"]) fun _ _ _ _ _ _ us hl => match us, hl with | [_, _], _ => rfl
  have FcI := fund_mk (st := s_Company_init) lcI lTcI ccI kcI
  have bcI := fund_binds (ps := ["self", "ties", "guests", "rows"]) FcI
    fun _ _ _ _ _ _ _ us its hl hi => match us, its, hl, hi with | [_, _, _, _], [_, _], _, _ => ⟨_, rfl, rfl⟩
  have FcL := fun_mk (st := s_Company_len) lcL ccL kcL
  have bcL := FcL.binds (ps := ["self"]) fun _ _ _ _ _ _ us hl => match us, hl with | [_], _ => rfl
  have FcC := fun_mk (st := s_Company_contains) lcC ccC kcC
  have bcC := FcC.binds (ps := ["self", "label"]) fun _ _ _ _ _ _ us hl => match us, hl with | [_, _], _ => rfl
  have FcP := fun_mk (st := s_Company_place_of) lcP ccP kcP
  have bcP := FcP.binds (ps := ["self", "label"]) fun _ _ _ _ _ _ us hl => match us, hl with | [_, _], _ => rfl
  have FcO := fun_mk (st := s_Company_tie_of) lcO ccO kcO
  have bcO := FcO.binds (ps := ["self", "x", "y"]) fun _ _ _ _ _ _ us hl => match us, hl with | [_, _, _], _ => rfl
  have FcR := fun_mk (st := s_Company_row_of) lcR ccR kcR
  have bcR := FcR.binds (ps := ["self", "label"]) fun _ _ _ _ _ _ us hl => match us, hl with | [_, _], _ => rfl
  have n_sorted := PySem.W.mg_none_of X G z_sorted
  have Fpf := fun_mk (st := s_Company__place_for) lpf cpf kpf
  have bpf := Fpf.binds (ps := ["self", "label"]) fun _ _ _ _ _ _ us hl => match us, hl with | [_, _], _ => rfl
  have Fwr := fun_mk (st := s_Company_with_row) lwr cwr kwr
  have bwr := Fwr.binds (ps := ["self", "label", "row"]) fun _ _ _ _ _ _ us hl => match us, hl with | [_, _, _], _ => rfl
  have FNL := fun_mk (st := s_new_labels) lNL cNL kNL
  have bNL := FNL.binds (ps := ["company", "pairs"]) fun _ _ _ _ _ _ us hl => match us, hl with | [_, _], _ => rfl
  have Fse := fun_mk (st := s_Company__seated) lse cse kse
  have bse := Fse.binds (ps := ["self", "labels", "places"]) fun _ _ _ _ _ _ us hl => match us, hl with | [_, _, _], _ => rfl
  have Fre := fun_mk (st := s_Company_renamed) lre cre kre
  have bre := Fre.binds (ps := ["self", "pairs"]) fun _ _ _ _ _ _ us hl => match us, hl with | [_, _], _ => rfl
  have FX := fun_mk (st := s_Lmix) lX cX kX
  have bX := FX.binds (ps := ["_law_number", "_law_turn"]) fun _ _ _ _ _ _ us hl => match us, hl with | [_, _], _ => rfl
  have FH := fun_mk (st := s_Lhand) lH cH kH
  have bH := FH.binds (ps := ["_law_script"]) fun _ _ _ _ _ _ us hl => match us, hl with | [_], _ => rfl
  have FD := fun_mk (st := s_Ldraw) lD cD kD
  have bD := FD.binds (ps := ["_law_hand_here", "_law_many"]) fun _ _ _ _ _ _ us hl => match us, hl with | [_, _], _ => rfl
  have FK := fun_mk (st := s_Lbacks) lK cK kK
  have bK := FK.binds (ps := ["_law_hand_here", "_law_many"]) fun _ _ _ _ _ _ us hl => match us, hl with | [_, _], _ => rfl
  have n_max := PySem.W.mg_none_of X G z_max
  have FB := fun_mk (st := s_Llabels) lB cB kB
  have bB := FB.binds (ps := ["_law_hand_here", "_law_many"]) fun _ _ _ _ _ _ us hl => match us, hl with | [_, _], _ => rfl
  have FP := fun_mk (st := s_Lpick) lP cP kP
  have bP := FP.binds (ps := ["_law_hand_here", "_law_things"]) fun _ _ _ _ _ _ us hl => match us, hl with | [_, _], _ => rfl
  have FLW := fun_mk (st := s_Lwhole) lLW cLW kLW
  have bLW := FLW.binds (ps := ["_law_thing", "_law_low", "_law_high"]) fun _ _ _ _ _ _ us hl => match us, hl with | [_, _, _], _ => rfl
  have FRD := fun_mk (st := s_Lrow_due) lRD cRD kRD
  have bRD := FRD.binds (ps := ["_law_many_ties", "_law_labels_here", "_law_label", "_law_row"]) fun _ _ _ _ _ _ us hl => match us, hl with | [_, _, _, _], _ => rfl
  have FRA := fun_mk (st := s_Lrow_asked) lRA cRA kRA
  have bRA := FRA.binds (ps := ["_law_company", "_law_label", "_law_row"]) fun _ _ _ _ _ _ us hl => match us, hl with | [_, _, _], _ => rfl
  have FNC := fun_mk (st := s_Lnewcomer) lNC cNC kNC
  have bNC := FNC.binds (ps := ["_law_hand_here", "_law_company", "_law_backs_here", "_law_labels_here"]) fun _ _ _ _ _ _ us hl => match us, hl with | [_, _, _, _], _ => rfl
  have FPD := fun_mk (st := s_Lpairs_due) lPD cPD kPD
  have bPD := FPD.binds (ps := ["_law_labels_here", "_law_pairs_here"]) fun _ _ _ _ _ _ us hl => match us, hl with | [_, _], _ => rfl
  have FSH := fun_mk (st := s_Lshuffled) lSH cSH kSH
  have bSH := FSH.binds (ps := ["_law_hand_here", "_law_things"]) fun _ _ _ _ _ _ us hl => match us, hl with | [_, _], _ => rfl
  have FPR := fun_mk (st := s_Lpairs) lPR cPR kPR
  have bPR := FPR.binds (ps := ["_law_hand_here", "_law_labels_here"]) fun _ _ _ _ _ _ us hl => match us, hl with | [_, _], _ => rfl
  have FPA := fun_mk (st := s_Lpairs_asked) lPA cPA kPA
  have bPA := FPA.binds (ps := ["_law_company", "_law_labels_here", "_law_pairs_here"]) fun _ _ _ _ _ _ us hl => match us, hl with | [_, _, _], _ => rfl
  have FV := fun_mk (st := s_law) lV cV kV
  have bV := FV.binds (ps := ["_law_script"]) fun _ _ _ _ _ _ us hl => match us, hl with | [_], _ => rfl
  refine ⟨PySem.W.fnOf "law" "law" (defArgs s_law) (defBody s_law) (defScope s_law) .none kv_V dc_V pm_V an_V cd_V ct_V, fun s v => .of_eq rfl, fun base KB GB => ?_⟩
  have ECB : Ex l.prog w K mg base "BadTies" "what" CB f_xCB _ ["self", "what"] := ⟨oCB, axCB, ixCB, ok_BadTies_init FxCB oCB no0CB, bxCB, PySem.W.mg_of X G aCB, xfCB, no0CB, exm_own exCB icCB tyCB scCB⟩
  have ECI : Ex l.prog w K mg base "NoTie" "tie" CI f_xCI _ ["self", "tie"] := ⟨oCI, axCI, ixCI, ok_NoTie_init FxCI oCI no0CI, bxCI, PySem.W.mg_of X G aCI, xfCI, no0CI, exm_own exCI icCI tyCI scCI⟩
  have ECE : Ex2 l.prog w K mg base "BadCompany" "index" "what" CE f_xCE _ ["self", "index", "what"] := ⟨oCE, axCE, ixCE, ok_BadCompany_init FxCE oCE no0CE no1CE, bxCE, PySem.W.mg_of X G aCE, xfCE, no0CE, no1CE, exm_own exCE icCE tyCE scCE⟩
  have ECN : Ex l.prog w K mg base "NoGuest" "label" CN f_xCN _ ["self", "label"] := ⟨oCN, axCN, ixCN, ok_NoGuest_init FxCN oCN no0CN, bxCN, PySem.W.mg_of X G aCN, xfCN, no0CN, exm_own exCN icCN tyCN scCN⟩
  have ECL : Ex l.prog w K mg base "Alike" "label" CL f_xCL _ ["self", "label"] := ⟨oCL, axCL, ixCL, ok_Alike_init FxCL oCL no0CL, bxCL, PySem.W.mg_of X G aCL, xfCL, no0CL, exm_own exCL icCL tyCL scCL⟩
  have ECW : Ex l.prog w K mg base "BadRenaming" "what" CW f_xCW _ ["self", "what"] := ⟨oCW, axCW, ixCW, ok_BadRenaming_init FxCW oCW no0CW, bxCW, PySem.W.mg_of X G aCW, xfCW, no0CW, exm_own exCW icCW tyCW scCW⟩
  have GW : Cal l.prog w K mg base CX0 1 "is_whole" f_W _ ["thing", "low", "high"] spWhole := ⟨ok_is_whole FW n_isinstance n_int n_bool, PySem.W.mg_of X G aW, kW, bW⟩
  have GLB : Cal l.prog w K mg base CX0 2 "is_label" f_LB _ ["thing"] spLabel := ⟨ok_is_label FLB GW ⟨_, mL⟩, PySem.W.mg_of X G aLB, kLB, bLB⟩
  have GQ : Cal l.prog w K mg base CX0 1 "is_sequence" f_Q _ ["thing"] spSeq := ⟨ok_is_sequence FQ n_isinstance n_list n_tuple, PySem.W.mg_of X G aQ, kQ, bQ⟩
  have GCK : Cal l.prog w K mg base CX0 2 "ties_fault" f_CK _ ["backs"] spFault := ⟨ok_ties_fault FCK n_len n_range n_all ⟨_, mM⟩ GQ GW, PySem.W.mg_of X G aCK, kCK, bCK⟩
  have MIT : Mk K CT f_tI := ⟨mkCT, atI, itI, kcCT⟩
  have FIT := ok_Ties_init (P := l.prog) (w := w) (base := base) FtI TC n_len n_tuple GCK ECB
  have MtH : Mt l.prog w K mg base CX0 2 CT "has" f_tH _ ["self", "thing"] (spHas CT) := ⟨⟨atH, itH, ktH⟩, ok_Ties_has FtH TC GW, btH⟩
  have FET := ok_Ties_eq (P := l.prog) (w := w) (base := base) FtE TX n_isinstance
  have MtB : Mt l.prog w K mg base (L2.CX l.prog w) 3 CT "back" f_tB _ ["self", "tie"] (spBack CT CI) := ⟨⟨atB, itB, ktB⟩, ok_Ties_back FtB TC MtH ECI, btB⟩
  have GCR : Cal l.prog w K mg base (L2.CX l.prog w) 3 "_check_row" f_CR _ ["ties", "index", "row", "length"] (spRow CT CE) := ⟨ok_check_row FCR TC n_len GQ MtH ECE, PySem.W.mg_of X G aCR, kCR, bCR⟩
  have GCC2 : Cal l.prog w K mg base (L2.CX l.prog w) 4 "_check_company" f_CC2 _ ["ties", "guests", "rows"] (spCC CT CE) := ⟨ok_check_company FCC2 n_len n_enumerate ⟨_, mG⟩ GQ GLB GCR ECE, PySem.W.mg_of X G aCC2, kCC2, bCC2⟩
  have GTO : Cal l.prog w K mg base CX0 1 "_table_of" f_TO _ ["ties", "rows"] (spTable CT) := ⟨ok_table_of FTO TC n_len n_tuple n_enumerate, PySem.W.mg_of X G aTO, kTO, bTO⟩
  have MIC : Mk K CC f_cI := ⟨mkCC, acI, icI, kcCC⟩
  have FIC := ok_Company_init (P := l.prog) (w := w) (base := base) FcI COC n_tuple n_enumerate GCC2 GTO
  have FLC := ok_Company_len (P := l.prog) (w := w) (base := base) (C := CT) FcL COC n_len
  have FCC := ok_Company_contains (P := l.prog) (w := w) (base := base) (C := CT) FcC COC GLB
  have McP : Mt l.prog w K mg base (L2.CX l.prog w) 4 CC "place_of" f_cP _ ["self", "label"] (spCPlace CT CC CN) := ⟨⟨acP, icP, kcP⟩, ok_Company_place_of FcP COC FCC acC icC bcC ECN, bcP⟩
  have McO : Mt l.prog w K mg base (L2.CX l.prog w) 5 CC "tie_of" f_cO _ ["self", "x", "y"] (spCTie CT CC CN CL) := ⟨⟨acO, icO, kcO⟩, ok_Company_tie_of FcO COC McP ECL, bcO⟩
  have McR : Mt l.prog w K mg base (L2.CX l.prog w) 5 CC "row_of" f_cR _ ["self", "label"] (spCRow CT CC CN) := ⟨⟨acR, icR, kcR⟩, ok_Company_row_of FcR COC McP, bcR⟩
  have Mpf : Mt l.prog w K mg base (L2.CX l.prog w) 5 CC "_place_for" f_pf _ ["self", "label"] (spPF CT CC CE) := ⟨⟨apf, ipf, kpf⟩, ok_Company_place_for Fpf COC n_len ⟨_, mG⟩ GLB FCC acC icC bcC McP ECE, bpf⟩
  have Mwr : Mt l.prog w K mg base (L2.CX l.prog w) 7 CC "with_row" f_wr _ ["self", "label", "row"] (spWR CT CC CE) := ⟨⟨awr, iwr, kwr⟩, ok_Company_with_row (CN := CN) Fwr TC COC n_len n_range n_list Mpf GCR MtB (PySem.W.mg_of X G aCC) MIC FIC bcI, bwr⟩
  have GNL : Cal l.prog w K mg base (L2.CX l.prog w) 4 "_new_labels" f_NL _ ["company", "pairs"] (spNL CT CC CW) := ⟨ok_new_labels FNL n_len GQ GLB FCC acC icC bcC FLC acL icL bcL ECW, PySem.W.mg_of X G aNL, kNL, bNL⟩
  have Mse : Mt l.prog w K mg base CX0 7 CC "_seated" f_se _ ["self", "labels", "places"] (spSeated CT CC) := ⟨⟨ase, ise, kse⟩, ok_Company_seated Fse COC n_enumerate (PySem.W.mg_of X G aCC) MIC FIC bcI, bse⟩
  have Mre : Mt l.prog w K mg base (L2.CX l.prog w) 8 CC "renamed" f_re _ ["self", "pairs"] (spRen CT CC CW) := ⟨⟨are, ire, kre⟩, ok_Company_renamed Fre COC n_enumerate n_sorted GNL Mse, bre⟩
  have GX : Cal l.prog w K mg base CX0 1 "_law_mix" f_X _ ["_law_number", "_law_turn"] spMix := ⟨ok_Lmix FX n_int, PySem.W.mg_of X G aX, kX, bX⟩
  have GH : Cal l.prog w K mg base CX0 1 "_law_hand" f_H _ ["_law_script"] (spHand K) := ⟨ok_Lhand FH n_int n_abs n_enumerate, PySem.W.mg_of X G aH, kH, bH⟩
  have GD : Cal l.prog w K mg base CX0 2 "_law_draw" f_D _ ["_law_hand_here", "_law_many"] spDraw := ⟨ok_Ldraw FD n_int n_len GX, PySem.W.mg_of X G aD, kD, bD⟩
  have GK : Cal l.prog w K mg base CX0 3 "_law_backs" f_K _ ["_law_hand_here", "_law_many"] spBacks := ⟨ok_Lbacks FK n_list n_len n_range GD, PySem.W.mg_of X G aK, kK, bK⟩
  have GB : Cal l.prog w K mg base CX0 3 "_law_labels" f_B _ ["_law_hand_here", "_law_many"] spLabels := ⟨ok_Llabels FB n_range n_max GD, PySem.W.mg_of X G aB, kB, bB⟩
  have GP : Cal l.prog w K mg base CX0 3 "_law_pick" f_P _ ["_law_hand_here", "_law_things"] spPick := ⟨ok_Lpick FP n_len GD, PySem.W.mg_of X G aP, kP, bP⟩
  have GLW : Cal l.prog w K mg base CX0 1 "_law_whole" f_LW _ ["_law_thing", "_law_low", "_law_high"] spLWhole := ⟨ok_Lwhole FLW n_isinstance n_int n_bool, PySem.W.mg_of X G aLW, kLW, bLW⟩
  have GRD : Cal l.prog w K mg base CX0 2 "_law_row_due" f_RD _ ["_law_many_ties", "_law_labels_here", "_law_label", "_law_row"] spRowDue := ⟨ok_Lrow_due FRD n_isinstance n_list n_tuple n_len GLW, PySem.W.mg_of X G aRD, kRD, bRD⟩
  have GRA : Cal l.prog w K mg base CX0 8 "_law_row_asked" f_RA _ ["_law_company", "_law_label", "_law_row"] (spAsked CT CC) := ⟨ok_Lrow_asked FRA COC n_list Mwr FCC acC icC bcC McR ECE, PySem.W.mg_of X G aRA, kRA, bRA⟩
  have GNC : Cal l.prog w K mg base CX0 9 "_law_newcomer" f_NC _ ["_law_hand_here", "_law_company", "_law_backs_here", "_law_labels_here"] (spNew CT CC) := ⟨ok_Lnewcomer FNC n_len n_range n_isinstance n_bool n_tuple GD GP GRD GRA, PySem.W.mg_of X G aNC, kNC, bNC⟩
  have GPD : Cal l.prog w K mg base CX0 2 "_law_pairs_due" f_PD _ ["_law_labels_here", "_law_pairs_here"] spPDue := ⟨ok_Lpairs_due FPD n_isinstance n_list n_tuple n_len GLW, PySem.W.mg_of X G aPD, kPD, bPD⟩
  have GSH : Cal l.prog w K mg base CX0 3 "_law_shuffled" f_SH _ ["_law_hand_here", "_law_things"] spShuf := ⟨ok_Lshuffled FSH n_list n_len n_range GD, PySem.W.mg_of X G aSH, kSH, bSH⟩
  have GPR : Cal l.prog w K mg base CX0 4 "_law_pairs" f_PR _ ["_law_hand_here", "_law_labels_here"] spLPairs := ⟨ok_Lpairs FPR n_len n_range n_max GD GSH GB GP, PySem.W.mg_of X G aPR, kPR, bPR⟩
  have GPA : Cal l.prog w K mg base CX0 9 "_law_pairs_asked" f_PA _ ["_law_company", "_law_labels_here", "_law_pairs_here"] (spPAsk CT CC) := ⟨ok_Lpairs_asked FPA COC n_list n_sorted n_range n_len Mre McO ECW FET atE neT hmCT itE btE, PySem.W.mg_of X G aPA, kPA, bPA⟩
  exact ok_law FV COC n_len n_list n_range n_isinstance GH GD GK GB GNC GPR GPA GPD (PySem.W.mg_of X G aCT) (PySem.W.mg_of X G aCC) MIT FIT btI MIC FIC bcI
theorem walk {l : PySem.W.OpenLaw} {q : Program} {loose : List Str} {XP : (Str → Option Value) → Heap → Prop} {YP : World → Heap → Prop} {d : DefRec} {K : Params → PySem.W.Frag} (hn : l.most = some 63) (hdf : d.params.defaults = [])
    (hY : ∀ (w : World) (h : Heap), YP w h → (K w.params).In h)
    (F : ∀ (w : World) (mg : Str → Option Value) (fa : Addr) (h : Heap), (K w.params).In h → h.Ns mainGlobals mg → mg d.name = some (.ref fa) →
      ∃ fd : FuncData, (∀ (s : Shared) (u : Value), BindsTo s fd ⟨[u], []⟩ [("_law_script", u)]) ∧ ∀ base : Heap, (K w.params).In base → base.Ns mainGlobals mg → FnOk l.prog w (K w.params) mg base CX0 10 fa fd ["_law_script"] (spLaw (K w.params))) :
    PySem.W.WalkO q loose XP YP l.row.toRowW d [] (fun f vs => PySem.call f vs) :=
  L2.walk_of (n := 63) (k := 10) (x := "_law_script") (CX := fun _ => CX0) (sp := fun w => spLaw (K w.params)) hn (by decide) hdf ⟨rfl, by decide, by decide⟩ hY F (fun _ _ a ns hl _ hS => ⟨a, ns, rfl, hS, hl, fun _ => rfl⟩) fun _ _ _ _ _ z => z
end J

set_option Elab.async false
open PySem PySem.W PyProof.Rows in
set_option maxRecDepth 100000 in
set_option maxHeartbeats 0 in
theorem PySem.Challenge.cw_joinedguests_k05_newcomers_and_new_label_holds : PySem.Challenge.rw_joinedguests_k05_newcomers_and_new_label.Holds := by
  w_on; o_law; k_head; (case hw => w_witness2)
  k_fill
  refine J.walk (l := PySem.Challenge.rw_joinedguests_k05_newcomers_and_new_label) rfl rfl (fun w h Y => PySem.W.kIn_of Y) ?F
  case F =>
    intro w mg fa h KX G hmg
    refine' J.all_mk KX G hmg ?z_len ?z_isinstance ?z_int ?z_bool ?z_list ?z_tuple ?z_range ?z_abs ?z_enumerate ?gM ?gL ?gG ?aCB ?axCB ?ixCB ?lxCB ?cxCB ?kxCB ?xCB ?saCB ?gaCB ?ggCB ?no0CB ?kcCB ?exCB ?tyCB ?hdCB ?icCB ?scCB ?aCI ?axCI ?ixCI ?lxCI ?cxCI ?kxCI ?xCI ?saCI ?gaCI ?ggCI ?no0CI ?kcCI ?exCI ?tyCI ?hdCI ?icCI ?scCI ?aCE ?axCE ?ixCE ?lxCE ?cxCE ?kxCE ?xCE ?saCE ?gaCE ?ggCE ?no0CE ?no1CE ?kcCE ?exCE ?tyCE ?hdCE ?icCE ?scCE ?aCN ?axCN ?ixCN ?lxCN ?cxCN ?kxCN ?xCN ?saCN ?gaCN ?ggCN ?no0CN ?kcCN ?exCN ?tyCN ?hdCN ?icCN ?scCN ?aCL ?axCL ?ixCL ?lxCL ?cxCL ?kxCL ?xCL ?saCL ?gaCL ?ggCL ?no0CL ?kcCL ?exCL ?tyCL ?hdCL ?icCL ?scCL ?aCW ?axCW ?ixCW ?lxCW ?cxCW ?kxCW ?xCW ?saCW ?gaCW ?ggCW ?no0CW ?kcCW ?exCW ?tyCW ?hdCW ?icCW ?scCW ?aCT ?pgCT ?hdCT ?poCT ?saCT ?mkCT ?kcCT ?n0CT ?n1CT ?haCT ?hn0 ?htk0 ?hmCT ?icCT ?tyCT ?suCT ?nfCT ?aCC ?pgCC ?hdCC ?poCC ?saCC ?mkCC ?kcCC ?n0CC ?n1CC ?n2CC ?n3CC ?n4CC ?haCC ?hmCC ?icCC ?tyCC ?suCC ?nfCC ?z_all ?aW ?lW ?cW ?kW ?aLB ?lLB ?cLB ?kLB ?aQ ?lQ ?cQ ?kQ ?aCK ?lCK ?cCK ?kCK ?atI ?itI ?ltI ?ctI ?ktI ?atH ?itH ?ltH ?ctH ?ktH ?atE ?itE ?ltE ?ctE ?ktE ?atB ?itB ?ltB ?ctB ?ktB ?aCR ?lCR ?cCR ?kCR ?aCC2 ?lCC2 ?cCC2 ?kCC2 ?aTO ?lTO ?cTO ?kTO ?acI ?icI ?lcI ?lTcI ?ccI ?kcI ?acL ?icL ?lcL ?ccL ?kcL ?acC ?icC ?lcC ?ccC ?kcC ?acP ?icP ?lcP ?ccP ?kcP ?acO ?icO ?lcO ?ccO ?kcO ?acR ?icR ?lcR ?ccR ?kcR ?z_sorted ?apf ?ipf ?lpf ?cpf ?kpf ?awr ?iwr ?lwr ?cwr ?kwr ?aNL ?lNL ?cNL ?kNL ?ase ?ise ?lse ?cse ?kse ?are ?ire ?lre ?cre ?kre ?aX ?lX ?cX ?kX ?aH ?lH ?cH ?kH ?aD ?lD ?cD ?kD ?aK ?lK ?cK ?kK ?z_max ?aB ?lB ?cB ?kB ?aP ?lP ?cP ?kP ?neT ?aLW ?lLW ?cLW ?kLW ?aRD ?lRD ?cRD ?kRD ?aRA ?lRA ?cRA ?kRA ?aNC ?lNC ?cNC ?kNC ?aPD ?lPD ?cPD ?kPD ?aSH ?lSH ?cSH ?kSH ?aPR ?lPR ?cPR ?kPR ?aPA ?lPA ?cPA ?kPA ?aV ?lV ?cV ?kV
    (case z_len => k_is)
    (case z_isinstance => k_is)
    (case z_int => k_is)
    (case z_bool => k_is)
    (case z_list => k_is)
    (case z_tuple => k_is)
    (case z_range => k_is)
    (case z_abs => k_is)
    (case z_enumerate => k_is)
    (case gM => k_is)
    (case gL => k_is)
    (case gG => k_is)
    (case aCB => k_is)
    (case axCB => k_is)
    (case ixCB => k_is)
    (case lxCB => k_is)
    (case cxCB => k_is)
    (case kxCB => k_is)
    (case xCB => k_is)
    (case saCB => k_is)
    (case gaCB => k_is)
    (case ggCB => k_is)
    (case no0CB => k_is)
    (case kcCB => k_is)
    (case exCB => k_is)
    (case tyCB => k_is)
    (case hdCB => k_is)
    (case icCB => k_is)
    (case scCB => first | rfl | k_is)
    (case aCI => k_is)
    (case axCI => k_is)
    (case ixCI => k_is)
    (case lxCI => k_is)
    (case cxCI => k_is)
    (case kxCI => k_is)
    (case xCI => k_is)
    (case saCI => k_is)
    (case gaCI => k_is)
    (case ggCI => k_is)
    (case no0CI => k_is)
    (case kcCI => k_is)
    (case exCI => k_is)
    (case tyCI => k_is)
    (case hdCI => k_is)
    (case icCI => k_is)
    (case scCI => first | rfl | k_is)
    (case aCE => k_is)
    (case axCE => k_is)
    (case ixCE => k_is)
    (case lxCE => k_is)
    (case cxCE => k_is)
    (case kxCE => k_is)
    (case xCE => k_is)
    (case saCE => k_is)
    (case gaCE => k_is)
    (case ggCE => k_is)
    (case no0CE => k_is)
    (case no1CE => k_is)
    (case kcCE => k_is)
    (case exCE => k_is)
    (case tyCE => k_is)
    (case hdCE => k_is)
    (case icCE => k_is)
    (case scCE => first | rfl | k_is)
    (case aCN => k_is)
    (case axCN => k_is)
    (case ixCN => k_is)
    (case lxCN => k_is)
    (case cxCN => k_is)
    (case kxCN => k_is)
    (case xCN => k_is)
    (case saCN => k_is)
    (case gaCN => k_is)
    (case ggCN => k_is)
    (case no0CN => k_is)
    (case kcCN => k_is)
    (case exCN => k_is)
    (case tyCN => k_is)
    (case hdCN => k_is)
    (case icCN => k_is)
    (case scCN => first | rfl | k_is)
    (case aCL => k_is)
    (case axCL => k_is)
    (case ixCL => k_is)
    (case lxCL => k_is)
    (case cxCL => k_is)
    (case kxCL => k_is)
    (case xCL => k_is)
    (case saCL => k_is)
    (case gaCL => k_is)
    (case ggCL => k_is)
    (case no0CL => k_is)
    (case kcCL => k_is)
    (case exCL => k_is)
    (case tyCL => k_is)
    (case hdCL => k_is)
    (case icCL => k_is)
    (case scCL => first | rfl | k_is)
    (case aCW => k_is)
    (case axCW => k_is)
    (case ixCW => k_is)
    (case lxCW => k_is)
    (case cxCW => k_is)
    (case kxCW => k_is)
    (case xCW => k_is)
    (case saCW => k_is)
    (case gaCW => k_is)
    (case ggCW => k_is)
    (case no0CW => k_is)
    (case kcCW => k_is)
    (case exCW => k_is)
    (case tyCW => k_is)
    (case hdCW => k_is)
    (case icCW => k_is)
    (case scCW => first | rfl | k_is)
    (case aCT => k_is)
    (case pgCT => k_is)
    (case hdCT => k_is)
    (case poCT => k_is)
    (case saCT => k_is)
    (case mkCT => k_is)
    (case kcCT => k_is)
    (case n0CT => k_is)
    (case n1CT => k_is)
    (case haCT => k_is)
    (case hn0 => k_is)
    (case htk0 => k_is)
    (case hmCT => k_is)
    (case icCT => k_is)
    (case tyCT => k_is)
    (case suCT => k_is)
    (case nfCT => k_is)
    (case aCC => k_is)
    (case pgCC => k_is)
    (case hdCC => k_is)
    (case poCC => k_is)
    (case saCC => k_is)
    (case mkCC => k_is)
    (case kcCC => k_is)
    (case n0CC => k_is)
    (case n1CC => k_is)
    (case n2CC => k_is)
    (case n3CC => k_is)
    (case n4CC => k_is)
    (case haCC => k_is)
    (case hmCC => k_is)
    (case icCC => k_is)
    (case tyCC => k_is)
    (case suCC => k_is)
    (case nfCC => k_is)
    (case z_all => k_is)
    (case aW => k_is)
    (case lW => k_is)
    (case cW => k_is)
    (case kW => k_is)
    (case aLB => k_is)
    (case lLB => k_is)
    (case cLB => k_is)
    (case kLB => k_is)
    (case aQ => k_is)
    (case lQ => k_is)
    (case cQ => k_is)
    (case kQ => k_is)
    (case aCK => k_is)
    (case lCK => k_is)
    (case cCK => k_is)
    (case kCK => k_is)
    (case atI => k_is)
    (case itI => k_is)
    (case ltI => k_is)
    (case ctI => k_is)
    (case ktI => k_is)
    (case atH => k_is)
    (case itH => k_is)
    (case ltH => k_is)
    (case ctH => k_is)
    (case ktH => k_is)
    (case atE => k_is)
    (case itE => k_is)
    (case ltE => k_is)
    (case ctE => k_is)
    (case ktE => k_is)
    (case atB => k_is)
    (case itB => k_is)
    (case ltB => k_is)
    (case ctB => k_is)
    (case ktB => k_is)
    (case aCR => k_is)
    (case lCR => k_is)
    (case cCR => k_is)
    (case kCR => k_is)
    (case aCC2 => k_is)
    (case lCC2 => k_is)
    (case cCC2 => k_is)
    (case kCC2 => k_is)
    (case aTO => k_is)
    (case lTO => k_is)
    (case cTO => k_is)
    (case kTO => k_is)
    (case acI => k_is)
    (case icI => k_is)
    (case lcI => k_is)
    (case lTcI => k_is)
    (case ccI => k_is)
    (case kcI => k_is)
    (case acL => k_is)
    (case icL => k_is)
    (case lcL => k_is)
    (case ccL => k_is)
    (case kcL => k_is)
    (case acC => k_is)
    (case icC => k_is)
    (case lcC => k_is)
    (case ccC => k_is)
    (case kcC => k_is)
    (case acP => k_is)
    (case icP => k_is)
    (case lcP => k_is)
    (case ccP => k_is)
    (case kcP => k_is)
    (case acO => k_is)
    (case icO => k_is)
    (case lcO => k_is)
    (case ccO => k_is)
    (case kcO => k_is)
    (case acR => k_is)
    (case icR => k_is)
    (case lcR => k_is)
    (case ccR => k_is)
    (case kcR => k_is)
    (case z_sorted => k_is)
    (case apf => k_is)
    (case ipf => k_is)
    (case lpf => k_is)
    (case cpf => k_is)
    (case kpf => k_is)
    (case awr => k_is)
    (case iwr => k_is)
    (case lwr => k_is)
    (case cwr => k_is)
    (case kwr => k_is)
    (case aNL => k_is)
    (case lNL => k_is)
    (case cNL => k_is)
    (case kNL => k_is)
    (case ase => k_is)
    (case ise => k_is)
    (case lse => k_is)
    (case cse => k_is)
    (case kse => k_is)
    (case are => k_is)
    (case ire => k_is)
    (case lre => k_is)
    (case cre => k_is)
    (case kre => k_is)
    (case aX => k_is)
    (case lX => k_is)
    (case cX => k_is)
    (case kX => k_is)
    (case aH => k_is)
    (case lH => k_is)
    (case cH => k_is)
    (case kH => k_is)
    (case aD => k_is)
    (case lD => k_is)
    (case cD => k_is)
    (case kD => k_is)
    (case aK => k_is)
    (case lK => k_is)
    (case cK => k_is)
    (case kK => k_is)
    (case z_max => k_is)
    (case aB => k_is)
    (case lB => k_is)
    (case cB => k_is)
    (case kB => k_is)
    (case aP => k_is)
    (case lP => k_is)
    (case cP => k_is)
    (case kP => k_is)
    (case neT => k_is)
    (case aLW => k_is)
    (case lLW => k_is)
    (case cLW => k_is)
    (case kLW => k_is)
    (case aRD => k_is)
    (case lRD => k_is)
    (case cRD => k_is)
    (case kRD => k_is)
    (case aRA => k_is)
    (case lRA => k_is)
    (case cRA => k_is)
    (case kRA => k_is)
    (case aNC => k_is)
    (case lNC => k_is)
    (case cNC => k_is)
    (case kNC => k_is)
    (case aPD => k_is)
    (case lPD => k_is)
    (case cPD => k_is)
    (case kPD => k_is)
    (case aSH => k_is)
    (case lSH => k_is)
    (case cSH => k_is)
    (case kSH => k_is)
    (case aPR => k_is)
    (case lPR => k_is)
    (case cPR => k_is)
    (case kPR => k_is)
    (case aPA => k_is)
    (case lPA => k_is)
    (case cPA => k_is)
    (case kPA => k_is)
    (case aV => k_is)
    (case lV => k_is)
    (case cV => k_is)
    (case kV => k_is)

